import PyProof.Rows.All
import Wide.All
import OpenK.AllK
import Wide.FinOn
import Lean
import PyProof.EqAt
import PyProof.EqKinds
import PyProof.TupleCall
import PyProof.CompFree
import PyProof.NeKinds
import PyProof.Rows.RegReprOcc
import PyProof.Rows.StrCase
import PyProof.ZipIter
import PyProof.EnumMake
import PyProof.Draws
import PyProof.Rows.Range3
import KE.BitLaws
import KE.KDictOf
import PyProof.AttrMissSeq
import PyProof.DictUpdate
import PyProof.Rows.Tup
import PyProof.ReprRoads
import PyProof.DictRoadsH
import PyProof.DictItemsLoops
import PyProof.DictWalks
import PyProof.Rows.SetFrom
import PyProof.ListRange
import KE.KDictSum
import PySem.Challenge.RW_stepcourt_k26_paths_that_do_not
set_option Elab.async false
set_option bootstrap.genMatcherCode false
set_option genSizeOf false
set_option compiler.extract_closed false
set_option genSizeOfSpec false
set_option linter.all false
set_option maxRecDepth 100000
section
open PySem PySem.W PyProof.Rows
set_option maxRecDepth 100000
set_option maxHeartbeats 0
namespace PySem.W.Fast
theorem tw13177264999580132443:True:=⟨⟩
theorem tw895538476482711749:True:=⟨⟩
theorem tw4913874936065851510:True:=⟨⟩
theorem tw4519450879807538878:True:=⟨⟩
theorem tw15187169452722266847:True:=⟨⟩
theorem tw15544239321857458025:True:=⟨⟩
theorem tw13218746136861130678:True:=⟨⟩
theorem tw11229071132917530449:True:=⟨⟩
theorem tw17027818914372267458:True:=⟨⟩
theorem tw852478499754853246:True:=⟨⟩
theorem tw9777197614727144175:True:=⟨⟩
theorem tw7516292785299593844:True:=⟨⟩
theorem tw6551363156116692338:True:=⟨⟩
theorem tw395463464014435128:True:=⟨⟩
theorem tw1956548250747423899:True:=⟨⟩
theorem tw8460669310240601629:True:=⟨⟩
theorem tw3902621705068835048:True:=⟨⟩
theorem tw3045374356822331967:True:=⟨⟩
theorem tw8822291404628921983:True:=⟨⟩
theorem tw15881245120926960385:True:=⟨⟩
theorem tw8150494483434907230:True:=⟨⟩
theorem tw7994059539151220853:True:=⟨⟩
theorem tw15891456575636753283:True:=⟨⟩
theorem tw2649044472549066648:True:=⟨⟩
theorem tw6798638055086111401:True:=⟨⟩
theorem tw8528361429512264859:True:=⟨⟩
theorem tw12383037539652737636:True:=⟨⟩
theorem tw9639980338403056850:True:=⟨⟩
theorem tw5916890518424925820:True:=⟨⟩
theorem tw15530991955049172217:True:=⟨⟩
theorem tw6482800158057863147:True:=⟨⟩
theorem tw2459149278501700511:True:=⟨⟩
theorem tw6572183223852449591:True:=⟨⟩
theorem tw9212744562938848036:True:=⟨⟩
theorem tw15269304584810771261:True:=⟨⟩
theorem tw14787167811812044494:True:=⟨⟩
theorem tw17957213987017164864:True:=⟨⟩
theorem tw13851172441453474682:True:=⟨⟩
theorem tw7554348544075112114:True:=⟨⟩
theorem tw18147634735016505190:True:=⟨⟩
theorem tw4487168863061647788:True:=⟨⟩
theorem tw9103119445637474416:True:=⟨⟩
theorem tw4083259587868711730:True:=⟨⟩
theorem tw2698669867553343545:True:=⟨⟩
theorem tw16865912158236578429:True:=⟨⟩
theorem tw7683413027814144735:True:=⟨⟩
theorem tw5930245222610895174:True:=⟨⟩
theorem tw13469112012805276001:True:=⟨⟩
theorem tw15038055886059324390:True:=⟨⟩
theorem tw12453948998007411332:True:=⟨⟩
theorem tw3935902670650191560:True:=⟨⟩
theorem tw16652376392405926066:True:=⟨⟩
theorem tw9747514990888706239:True:=⟨⟩
theorem tw13258880383493924464:True:=⟨⟩
theorem tw11418382477747728562:True:=⟨⟩
theorem tw17584295557712985996:True:=⟨⟩
theorem tw1249609262983394801:True:=⟨⟩
theorem tw2132911524444663084:True:=⟨⟩
theorem tw17332023533657689576:True:=⟨⟩
theorem tw2056797189884044599:True:=⟨⟩
theorem tw1743902035226782177:True:=⟨⟩
theorem tw17759830326070839462:True:=⟨⟩
theorem tw2345989680370554778:True:=⟨⟩
theorem tw2254231063549161415:True:=⟨⟩
theorem tw5564154564620580589:True:=⟨⟩
theorem tw18173385211141234565:True:=⟨⟩
theorem tw16825475289437841240:True:=⟨⟩
theorem tw1815439330302545554:True:=⟨⟩
theorem tw6045546531790125783:True:=⟨⟩
theorem tw7838914647235854133:True:=⟨⟩
theorem tw7458513109189904703:True:=⟨⟩
theorem tw4397684161973488112:True:=⟨⟩
theorem tw15755600195435188709:True:=⟨⟩
theorem tw17407049565445360953:True:=⟨⟩
theorem tw908880305357758839:True:=⟨⟩
theorem tw2455218816632103904:True:=⟨⟩
theorem tw782719872413053650:True:=⟨⟩
theorem tw15923931946982703250:True:=⟨⟩
theorem tw7958174498357925821:True:=⟨⟩
theorem tw3686326400322533805:True:=⟨⟩
theorem tw17236398780377943071:True:=⟨⟩
theorem tw3892227632994185491:True:=⟨⟩
theorem tw7684820258534166126:True:=⟨⟩
theorem tw6746078713729573149:True:=⟨⟩
theorem tw11804292509008479115:True:=⟨⟩
theorem tw13587052777431275356:True:=⟨⟩
theorem tw17362094401345318013:True:=⟨⟩
theorem tw4459180487298125006:True:=⟨⟩
theorem tw9246042815031778251:True:=⟨⟩
theorem tw8709042462198708382:True:=⟨⟩
theorem tw9798698045082436836:True:=⟨⟩
theorem tw6309199330136857025:True:=⟨⟩
theorem tw8083423483217949915:True:=⟨⟩
theorem tw15010142700156670087:True:=⟨⟩
theorem tw11954902030139364750:True:=⟨⟩
theorem tw2615588686933544735:True:=⟨⟩
theorem tw5585903270148390919:True:=⟨⟩
theorem tw3123432008305972677:True:=⟨⟩
theorem tw15040804366717906955:True:=⟨⟩
theorem tw4078788042237280789:True:=⟨⟩
theorem tw13369165591201428539:True:=⟨⟩
theorem tw3583079532035691742:True:=⟨⟩
theorem tw11161512577181806471:True:=⟨⟩
theorem tw13584122695382047704:True:=⟨⟩
theorem tw2790703193821817401:True:=⟨⟩
theorem tw12892738712274723240:True:=⟨⟩
theorem tw15752887362515140783:True:=⟨⟩
theorem tw5628314597858573862:True:=⟨⟩
theorem tw11795361339884293948:True:=⟨⟩
theorem tw17796075267231131897:True:=⟨⟩
theorem tw11501091500179542797:True:=⟨⟩
theorem tw2768536379164225707:True:=⟨⟩
theorem tw4268020307254116079:True:=⟨⟩
theorem tw769526284009388806:True:=⟨⟩
theorem tw5288445787047881752:True:=⟨⟩
theorem tw4926728083454191043:True:=⟨⟩
theorem tw1919947383599481878:True:=⟨⟩
theorem tw13588013580689071181:True:=⟨⟩
theorem tw14298222390208911655:True:=⟨⟩
theorem tw1205011893391287390:True:=⟨⟩
theorem tw17534516426610419080:True:=⟨⟩
theorem tw14287529356680542429:True:=⟨⟩
theorem tw13960732369908283787:True:=⟨⟩
theorem tw15369637706217280882:True:=⟨⟩
theorem tw2276500545618996696:True:=⟨⟩
theorem tw6147404680042301813:True:=⟨⟩
theorem tw15005101350805175016:True:=⟨⟩
theorem tw7938352015378969248:True:=⟨⟩
theorem tw790762417007475954:True:=⟨⟩
theorem tw9040897349740716175:True:=⟨⟩
theorem tw597950867924285991:True:=⟨⟩
theorem tw408116314839106180:True:=⟨⟩
theorem tw3323801378846934992:True:=⟨⟩
end PySem.W.Fast
open_top zTop for PySem.Challenge.rw_stepcourt_k26_paths_that_do_not
end
noncomputable abbrev zc:=@PySem.wpAny_bind
noncomputable abbrev zd:=@List.getElem?_eq_some_iff
noncomputable abbrev ze:=@List.size_toArray
noncomputable abbrev zf:=@List.getElem?_eq_getElem
noncomputable abbrev z12:=@Nat.le_refl
noncomputable abbrev z13:=@PySem.Heap.get?_push_of_some
noncomputable abbrev z14:=@List.length_append
noncomputable abbrev z15:=@PySem.wpAny_pure
noncomputable abbrev z16:=@Bool.false_ne_true
noncomputable abbrev z17:=@PySem.Heap.lt_size
noncomputable abbrev z18:=@List.append_nil
noncomputable abbrev z19:=@List.length_map
noncomputable abbrev z1a:=@List.map_cons
noncomputable abbrev z1b:=@Nat.lt_of_lt_of_le
noncomputable abbrev z1c:=@List.getElem?_append_left
noncomputable abbrev z1d:=@List.mem_append
noncomputable abbrev z1e:=@List.mem_cons
noncomputable abbrev z1f:=@List.getElem?_append_right
noncomputable abbrev z20:=@List.mem_singleton
noncomputable abbrev z21:=@PySem.Heap.get?_push_size
noncomputable abbrev z22:=@List.mem_append_right
noncomputable abbrev z23:=@List.map_append
noncomputable abbrev z24:=@List.count_append
noncomputable abbrev z25:=@Nat.le_trans
noncomputable abbrev z26:=@Nat.ne_of_lt
noncomputable abbrev z27:=@Option.some.inj
noncomputable abbrev z28:=@List.mem_cons_of_mem
noncomputable abbrev z29:=@List.length_cons
noncomputable abbrev z2a:=@Bool.and_eq_true
noncomputable abbrev z2b:=@List.getElem?_set_ne
noncomputable abbrev z2c:=@List.getElem_mem
noncomputable abbrev z2d:=@List.length_reverse
noncomputable abbrev z2e:=@List.append_assoc
noncomputable abbrev z2f:=@PySem.wpAny_newObj_type
noncomputable abbrev z30:=@List.mem_map
noncomputable abbrev z31:=@List.length_take
noncomputable abbrev z32:=@Nat.lt_irrefl
noncomputable abbrev z33:=@List.length_set
noncomputable abbrev z34:=@List.mem_of_getElem?
noncomputable abbrev z35:=@Nat.lt_succ_self
noncomputable abbrev z36:=@List.take_of_length_le
noncomputable abbrev z37:=@Nat.le_of_lt
noncomputable abbrev z38:=@List.map_map
noncomputable abbrev z39:=@List.all_eq_true
noncomputable abbrev z3a:=@List.length_drop
namespace L2
open PySem PySem.Spec PyProof.Rows
section
noncomputable abbrev aB:=Sum Int Str
noncomputable def gF:aB->Value->Bool
 | .inl k,v=>Value.isInt k v
 | .inr x,v=>Value.isStrOf x v
noncomputable def p8(w:World):aB->Int
 | .inl k=>hashInt k
 | .inr x=>hashStr w x
theorem eM:∀{k:aB} {v:Value},gF k v=true->(∃i t,k=Sum.inl i/\v=Value.int i t)∨(∃x t,k=Sum.inr x/\v=Value.str x t)
 | .inl i,v,h=>by
  obtain⟨t,e⟩:=Value.isInt_shape (k:=i) (v:=v) h
  exact .inl ⟨i,t,rfl,e⟩
 | .inr x,v,h=>by
  obtain⟨t,e⟩:=Value.isStrOf_shape (x:=x) (v:=v) h
  exact .inr ⟨x,t,rfl,e⟩
theorem xf(i:Int)(t:Tok):gF (.inl i) (.int i t)=true:=by simp [gF,Value.isInt]
theorem xg(x:Str)(t:Tok):gF (.inr x) (.str x t)=true:=by simp [gF,Value.isStrOf]
theorem xh(a b:Int):decide ((Sum.inl a:aB)=Sum.inl b)=(a == b):=by
 by_cases e:a=b
 ·subst e;simp
 ·have h:¬ (Sum.inl a:aB)=Sum.inl b:=λq=>e (Sum.inl.inj q)
  rw [decide_eq_false h]
  exact (beq_eq_false_iff_ne.mpr e).symm
theorem xi(a b:Str):decide ((Sum.inr a:aB)=Sum.inr b)=decide (a=b):=by
 by_cases e:a=b
 ·subst e;simp
 ·have h:¬ (Sum.inr a:aB)=Sum.inr b:=λq=>e (Sum.inr.inj q)
  rw [decide_eq_false h,decide_eq_false e]
theorem xj(a:Int)(b:Str):decide ((Sum.inl a:aB)=Sum.inr b)=false:=decide_eq_false (λq=>nomatch q)
theorem xk(a:Str)(b:Int):decide ((Sum.inr a:aB)=Sum.inl b)=false:=decide_eq_false (λq=>nomatch q)
noncomputable def bZ(prog:Program)(w:World):PySem.KeyKind prog w aB where
 is:=gF
 hash:=p8 w
 inj:=λv a b ha hb=>by
  rcases eM ha with⟨i,t,rfl,rfl⟩| ⟨x,t,rfl,rfl⟩
  ·rcases eM hb with⟨j,u,rfl,e⟩| ⟨y,u,rfl,e⟩
   ·injection e with e1 _;rw [e1]
   ·exact nomatch e
  ·rcases eM hb with⟨j,u,rfl,e⟩| ⟨y,u,rfl,e⟩
   ·exact nomatch e
   ·injection e with e1 _;rw [e1]
 byValue:=λk v h=>by
  rcases eM h with⟨i,t,rfl,rfl⟩| ⟨x,t,rfl,rfl⟩<;>rfl
 pyHash:=λhv h=>by
  rcases eM hv with⟨i,t,rfl,rfl⟩| ⟨x,t,rfl,rfl⟩
  ·exact wpAny_pyHash_int h
  ·exact wpAny_pyHash_str h
 eqBool:=λhu hv h=>by
  rcases eM hu with⟨i,t,rfl,rfl⟩| ⟨x,t,rfl,rfl⟩
  ·rcases eM hv with⟨j,u,rfl,rfl⟩| ⟨y,u,rfl,rfl⟩
   ·rw [xh] at h;exact wpAny_eqBool_int h
   ·rw [xj] at h;exact SeqAt.EqAt.int_str i t y u _ _ _ _ h
  ·rcases eM hv with⟨j,u,rfl,rfl⟩| ⟨y,u,rfl,rfl⟩
   ·rw [xk] at h;exact SeqAt.EqAt.str_int x t j u _ _ _ _ h
   ·rw [xi] at h;exact wpAny_eqBool_str h
 «strs»:=λk x t v h=>by
  rcases eM h with⟨i,u,rfl,e⟩| ⟨y,u,rfl,e⟩
  ·exact nomatch e
  ·injection e with e1 _
   subst e1
   cases v<;>rfl
theorem xl(prog:Program)(w:World)(i:Int)(t:Tok):(bZ prog w).is (.inl i) (.int i t)=true:=xf i t
theorem xm(prog:Program)(w:World)(x:Str)(t:Tok):(bZ prog w).is (.inr x) (.str x t)=true:=xg x t
end
section
inductive V where
 | non|bl (b:Bool)|int (i:Int)|str (x:Str)|byt (b:Array UInt8)|flt (b:UInt64)|ref (a:Addr)|ty (n:String)
 deriving DecidableEq
noncomputable def av:V->Value->Prop
 | .non,u=>u=Value.none
 | .bl b,u=>u=Value.bool b
 | .int i,u=>∃t,u=Value.int i t
 | .str x,u=>∃t,u=Value.str x t
 | .byt b,u=>∃t,u=Value.bytes b t
 | .flt b,u=>∃t,u=Value.float b t
 | .ref a,u=>u=Value.ref a
 | .ty n,u=>u=Value.type n
noncomputable abbrev ao:List V->List Value->Prop:=Paired av
theorem ao.length{xs:List V}{us:List Value}(r:ao xs us):xs.length=us.length:=Paired.length r
theorem ao.get:∀{xs:List V} {us:List Value} {i:Nat} {x:V},ao xs us->xs[i]?=some x->∃u,us[i]?=some u/\av x u
 | _,_,_,_,.nil,e=>by simp at e
 | _,_,0,_,.cons r _,e=>by simp at e;subst e;exact⟨_,rfl,r⟩
 | _,_,i+1,x,.cons _ t,e=>by
  obtain⟨u,h1,h2⟩:=ao.get (i:=i) (x:=x) t (by simpa using e)
  exact⟨u,by simpa using h1,h2⟩
theorem ao.set{x:V}{u:Value}(r:av x u):∀{xs:List V} {us:List Value} (i:Nat),ao xs us->ao (xs.set i x) (us.set i u)
 | _,_,_,.nil=>.nil
 | _,_,0,.cons _ t=>.cons r t
 | _,_,i+1,.cons q t=>.cons q (ao.set r i t)
theorem ao.append:∀{xs ys:List V} {us ws:List Value},ao xs us->ao ys ws->ao (xs++ys) (us++ws)
 | _,_,_,_,.nil,s=>s
 | _,_,_,_,.cons r t,s=>.cons r (ao.append t s)
theorem ao.take:∀{xs:List V} {us:List Value} (n:Nat),ao xs us->ao (xs.take n) (us.take n)
 | _,_,0,_=>.nil
 | _,_,_+1,.nil=>.nil
 | _,_,n+1,.cons r t=>.cons r (ao.take n t)
theorem ao.drop:∀{xs:List V} {us:List Value} (n:Nat),ao xs us->ao (xs.drop n) (us.drop n)
 | _,_,0,r=>r
 | _,_,_+1,.nil=>.nil
 | _,_,n+1,.cons _ t=>ao.drop n t
noncomputable def fO:Option V->Option Value->Prop
 | some v,some u=>av v u
 | none,none=>True
 | _,_=>False
noncomputable def KV{κ:Type}:List (κ×V)->List (κ×Value)->Prop:=Paired λ(p:κ×V) (q:κ×Value)=>p.1=q.1/\av p.2 q.2
noncomputable def kV:aB->V
 | .inl i=>.int i
 | .inr x=>.str x
inductive HO where
 | lst (xs:List V)
 | tup (xs:List V)
 | dK (kvs:List (aB×V))|dT (kvs:List (List aB×V))
 | set (S:Int->Bool) (n:Nat)
 | ins (C dx:Addr) (fs:List (Str×V))
 | own (x:Addr)
 | xd (fs:List (Str×V))
 | met (f x:Addr)
 | rng (lo hi:Int)
 | frz (o:Obj) (u:HO)
 | tbl (ps:Array Value)
 | ext (φ:Heap->Prop)
noncomputable abbrev Hp:=Addr->Option HO
noncomputable def aD(H:Hp)(a:Addr)(o:HO):Hp:=λb=>if b=a then some o else H b
theorem bh{H:Hp}{a:Addr}{o:HO}:aD H a o a=some o:=by unfold aD;rw [if_pos rfl]
theorem aI{H:Hp}{a b:Addr}{o:HO}(h:b≠a):aD H a o b=H b:=by unfold aD;rw [if_neg h]
theorem kx{H:Hp}{a b:Addr}{o u:HO}(h:H a=some o)(h':H b=some u)(d:o≠u):a≠b:=by
 intro e;subst e;rw [h] at h';exact d (z27 h')
theorem dN{H:Hp}{a b:Addr}{o:HO}(h:H a=some o)(h':H b=none):a≠b:=by
 intro e;subst e;rw [h] at h';cases h'
noncomputable def fS(h:Heap)(a:Addr)(items:Array Value):Prop:=∃o,h.get? a=some o/\o.cls=.type "tuple"/\o.dict=none/\∃n,o.data=.seq items n
theorem fS.tup{h:Heap}{a:Addr}{items:Array Value}(x:fS h a items):IsTup h a items:=let ⟨o,e,c,_,n,d⟩:=x;⟨o,e,c,n,d⟩
theorem fS.keep{h h':Heap}{a:Addr}{items:Array Value}(x:fS h a items)(k:∀o,h.get? a=some o->h'.get? a=some o):fS h' a items:=let ⟨o,e,r⟩:=x;⟨o,k o e,r⟩
theorem fS.mk'(h:Heap)(items:Array Value):fS (h.push { cls:=.type "tuple",data:=.seq items }) h.objs.size items:=⟨_,z21 _ rfl,rfl,rfl,_,rfl⟩
section
variable (P:Program)(w:World)
noncomputable def dO(H:Hp)(h:Heap)(a:Addr):HO->Prop
 | .lst xs=>xs.length≤sizeLine/\∃(its:List Value) (n:Nat),ao xs its/\h.get? a=some { cls:=.type "list",data:=.seq its.toArray n }
 | .tup xs=>xs.length≤sizeLine/\∃its:List Value,ao xs its/\fS h a its.toArray
 | .dK kvs=>kvs.length≤sizeLine/\(a == sysModules)=false/\∃vs,KV kvs vs/\h.DictOf (bZ P w) a vs
 | .dT kvs=>kvs.length≤sizeLine/\(a == sysModules)=false/\∃xs:List (List aB×Addr×Value),
   Paired (λ(p:List aB×V) (q:List aB×Addr×Value)=>p.1=q.1/\H q.2.1=some (.tup (p.1.map kV))/\av p.2 q.2.2) kvs xs /\
   ∃o es ep,h.get? a=some o/\o.ExactDict/\o.data=.dict es ep/\es.toList=xs.map (entryOfKey (tupleKind (bZ P w)))/\(xs.map (·.1)).Nodup
 | .set S n=>h.SetOf (intKind P w) a S n
 | .ins C dx fs=>H dx=some (.own a)/\fs.length≤1000/\dx≠a/\h.get? a=some (W.instObj C dx) /\
   ∃mA,h.Ns1 dx mA/\(∀f,fO (fs.lookup f) (mA f))/\PySem.Within mA (fs.map (·.1))
 | .own _=>∃o,h.get? a=some o
 | .xd fs=>∃mA,h.Ns1 a mA/\∀f,fO (fs.lookup f) (mA f)
 | .rng lo hi=>∃t u v,h.get? a=some { cls:=.type "range",data:=.fields #[.int lo t,.int hi u,.int 1 v] }
 | .frz o u=>h.get? a=some o/\dO H h a u
 | .tbl ps=>h.get? a=some { cls:=.none,data:=.fields ps }
 | .met f x=>h.get? a=some (W.methodObj (.ref f) (.ref x))
 | .ext φ=>φ h/\(∃o,h.get? a=some o)/\∀h1 h2:Heap,φ h1->(∀o,h1.get? a=some o->h2.get? a=some o)->φ h2
noncomputable def cR(H:Hp)(h:Heap):Prop:=∀a o,H a=some o->dO P w H h a o
end
section
variable {P:Program}{w:World}{H H':Hp}{h h':Heap}{a:Addr}{o:HO}
theorem dO.lt(x:dO P w H h a o):a<h.objs.size:=by
 cases o with
 | lst xs=>obtain⟨_,_,_,_,e⟩:=x;exact z17 e
 | tup xs=>obtain⟨_,_,_,p⟩:=x;exact p.tup.lt
 | dK kvs=>obtain⟨_,_,_,_,o,_,_,e,_⟩:=x;exact z17 e
 | dT kvs=>obtain⟨_,_,_,_,o,_,_,e,_⟩:=x;exact z17 e
 | set S n=>obtain⟨o,_,_,_,e,_⟩:=x;exact z17 e
 | ins C dx fs=>obtain⟨_,_,_,e,_⟩:=x;exact z17 e
 | own y=>obtain⟨_,e⟩:=x;exact z17 e
 | xd fs=>obtain⟨_,⟨_,_,_,e,_⟩,_⟩:=x;exact z17 e
 | rng lo hi=>obtain⟨_,_,_,e⟩:=x;exact z17 e
 | frz ob u=>obtain⟨e,_⟩:=x;exact z17 e
 | tbl ps=>exact z17 (show h.get? a=some _ from x)
 | met f y=>exact z17 (show h.get? a=some _ from x)
 | ext φ=>obtain⟨_,⟨_,e⟩,_⟩:=x;exact z17 e
theorem Paired.mapP{α β:Type}{F G:α->β->Prop}:∀{l₁:List α} {l₂:List β},Paired F l₁ l₂->(∀a b,F a b->G a b)->Paired G l₁ l₂
 | _,_,.nil,_=>.nil
 | _,_,.cons r t,f=>.cons (f _ _ r) (Paired.mapP t f)
theorem dO.y3e4(x:dO P w H h a o)(k:∀b u,(b=a∨H b=some (.own a))->h.get? b=some u->h'.get? b=some u)
  (ho:∀b,H b=some (.own a)->H' b=some (.own a)) (ht:∀b xs,H b=some (.tup xs)->H' b=some (.tup xs)):dO P w H' h' a o:=by
 induction o with
 | lst xs=>obtain⟨z,its,n,r,e⟩:=x;exact⟨z,its,n,r,k _ _ (.inl rfl) e⟩
 | tup xs=>obtain⟨z,its,r,ob,e,c⟩:=x;exact⟨z,its,r,ob,k _ _ (.inl rfl) e,c⟩
 | dK kvs=>obtain⟨z,y,vs,r,ob,es,ep,e,c⟩:=x;exact⟨z,y,vs,r,ob,es,ep,k _ _ (.inl rfl) e,c⟩
 | dT kvs =>
  obtain⟨z,y,xs,r,ob,es,ep,e,c⟩:=x
  exact⟨z,y,xs,Paired.mapP r λp q z=>⟨z.1,ht _ _ z.2.1,z.2.2⟩,ob,es,ep,k _ _ (.inl rfl) e,c⟩
 | set S n=>obtain⟨ob,es,ep,t,e,c⟩:=x;exact⟨ob,es,ep,t,k _ _ (.inl rfl) e,c⟩
 | ins C dx fs =>
  obtain⟨d,z,ne,e,mA,⟨od,es,ep,e2,c⟩,r⟩:=x
  exact⟨ho _ d,z,ne,k _ _ (.inl rfl) e,mA,⟨od,es,ep,k _ _ (.inr d) e2,c⟩,r⟩
 | own y=>obtain⟨ob,e⟩:=x;exact⟨ob,k _ _ (.inl rfl) e⟩
 | xd fs=>obtain⟨mA,⟨od,es,ep,e,c⟩,r⟩:=x;exact⟨mA,⟨od,es,ep,k _ _ (.inl rfl) e,c⟩,r⟩
 | rng lo hi=>obtain⟨t,u,v,e⟩:=x;exact⟨t,u,v,k _ _ (.inl rfl) e⟩
 | frz ob u ih=>obtain⟨e,q⟩:=x;exact⟨k _ _ (.inl rfl) e,ih q⟩
 | tbl ps =>
  have e:h.get? a=some { cls:=.none,data:=.fields ps }:=x
  show h'.get? a=some { cls:=.none,data:=.fields ps }
  exact k a _ (.inl rfl) e
 | met f y =>
  have e:h.get? a=some (W.methodObj (.ref f) (.ref y)):=x
  show h'.get? a=some (W.methodObj (.ref f) (.ref y))
  exact k a _ (.inl rfl) e
 | ext φ=>obtain⟨p,⟨o,e⟩,st⟩:=x;exact⟨st _ _ p λo q=>k _ _ (.inl rfl) q,⟨o,k _ _ (.inl rfl) e⟩,st⟩
theorem cR.lt(x:cR P w H h)(e:H a=some o):a<h.objs.size:=(x a o e).lt
theorem cR.fresh(x:cR P w H h)(e:h.objs.size≤a):H a=none:=by
 cases q:H a with
 | none=>rfl
 | some u=>exact absurd (z1b (x.lt q) e) (z32 _)
theorem cR.kept(x:cR P w H h)(k:∀b u,h.get? b=some u->h'.get? b=some u):cR P w H h':=λa o e =>
 (x a o e).y3e4 (λb u _ q=>k b u q) (λ_ q=>q) λ_ _ q=>q
theorem cR.laid(x:cR P w H h)(k:∀b u,h.get? b=some u->h'.get? b=some u)(hp:h.objs.size≤a)(new:dO P w (aD H a o) h' a o):cR P w (aD H a o) h':=λb u e=>by
 have hn:=x.fresh hp
 by_cases hb:b=a
 ·subst hb;rw [bh] at e;cases e;exact new
 ·rw [aI hb] at e
  exact (x b u e).y3e4 (λc v _ q=>k c v q) (λc q=>by rw [aI (dN q hn)];exact q) λc xs q=>by rw [aI (dN q hn)];exact q
end
noncomputable def Rd(H:Hp)(a:Addr)(u:HO):Prop:=H a=some u∨∃o,H a=some (.frz o u)
theorem Rd.ok{P:Program}{w:World}{H:Hp}{h:Heap}{a:Addr}{u:HO}(r:Rd H a u)(x:cR P w H h):dO P w H h a u:=by
 rcases r with r|⟨o,r⟩
 ·exact x a u r
 ·obtain⟨_,q⟩:=x a _ r
  exact q
noncomputable def p9:Option HO->Prop
 | some (.lst _)=>True
 | some (.dK _)=>True
 | some (.dT _)=>True
 | some (.set _ _)=>True
 | some (.ins _ _ _)=>True
 | some (.ext _)=>True
 | _=>False
section
variable {P:Program}{w:World}{H:Hp}{h h':Heap}{x e:Addr}{o':HO}
theorem cR.write(ok:cR P w H h)(mu:p9 (H x))(he:e=x∨H e=some (.own x))(k:∀b u,b≠e->h.get? b=some u->h'.get? b=some u)(heo:∃u,h'.get? e=some u)
  (new:dO P w (aD H x o') h' x o'):cR P w (aD H x o') h':=λb u q=>by
 have nown:∀c y,H c=some (.own y)->c≠x:=λc y r z=>by subst z;rw [r] at mu;exact mu
 have ntup:∀c xs,H c=some (.tup xs)->c≠x:=λc xs r z=>by subst z;rw [r] at mu;exact mu
 by_cases hb:b=x
 ·subst hb;rw [bh] at q;cases q;exact new
 ·rw [aI hb] at q
  by_cases hbe:b=e
  ·have q':H b=some (.own x):=by
    rcases he with z|z
    ·exact absurd (hbe.trans z) hb
    ·rw [hbe];exact z
   rw [q] at q';cases q'
   obtain⟨v,hv⟩:=heo
   exact⟨v,by rw [hbe];exact hv⟩
  ·refine (ok b u q).y3e4 (λc v hc r=>k c v ?_ r) (λc r=>by rw [aI (nown c b r)];exact r) λc xs r=>by rw [aI (ntup c xs r)];exact r
   rcases hc with rfl|hc
   ·exact hbe
   ·rintro rfl
    rcases he with z|z
    ·exact nown c b hc z
    ·rw [hc] at z;cases z;exact hb rfl
end
structure Un(fs ex:List Addr)(H H':Hp)(h h':Heap):Prop where
 keep:∀b o,h.get? b=some o->H b=none->b∉fs->b∉ex->h'.get? b=some o
 slot:∀b o,h.get? b=some o->H b=none->b∈fs->b∉ex->∃sl,h'.get? b=some { o with slots:=sl }
 free:∀b o,h.get? b=some o->H b=none->b∉ex->H' b=none
 there:∀b o,h.get? b=some o->b∉ex->∃o',h'.get? b=some o'
 y41d:∀b xs,H b=some (.tup xs)->H' b=some (.tup xs)
 y151:∀b o u,H b=some (.frz o u)->H' b=some (.frz o u)
 y408:∀b ps,H b=some (.tbl ps)->∃more,H' b=some (.tbl (ps++more))
section
variable {fs fs' ex ex':List Addr}{H H1 H2:Hp}{h h1 h2 h':Heap}{a x e:Addr}{o:HO}
theorem Un.any(u:Un fs ex H H1 h h1){b:Addr}{ob:Obj}(q:h.get? b=some ob)(n:H b=none)(hx:b∉ex):∃sl,h1.get? b=some { ob with slots:=sl }:=by
 by_cases hb:b∈fs
 ·exact u.slot b ob q n hb hx
 ·exact⟨ob.slots,u.keep b ob q n hb hx⟩
theorem Un.kept(k:∀b u,h.get? b=some u->h'.get? b=some u):Un fs ex H H h h' :=
 ⟨λb ob q _ _ _=>k b ob q,λb ob q _ _ _=>⟨ob.slots,k b ob q⟩,λ_ _ _ n _=>n,λb ob q _=>⟨ob,k b ob q⟩,λ_ _ q=>q,λ_ _ _ q=>q,λ_ ps q=>⟨#[],by rw [q];simp⟩⟩
theorem Un.refl:Un fs ex H H h h:=Un.kept λ_ _ q=>q
theorem Un.laid(k:∀b u,h.get? b=some u->h'.get? b=some u)(hp:h.objs.size≤a)(hn:H a=none):Un fs ex H (aD H a o) h h' where
 keep:=λb u q _ _ _=>k b u q
 slot:=λb u q _ _ _=>⟨u.slots,k b u q⟩
 free:=λb u q n _=>by rw [aI (z26 (z1b (z17 q) hp))];exact n
 there:=λb u q _=>⟨u,k b u q⟩
 y41d:=λb xs q=>by rw [aI (dN q hn)];exact q
 y151:=λb u xs q=>by rw [aI (dN q hn)];exact q
 y408:=λb ps q=>⟨#[],by rw [aI (dN q hn),q];simp⟩
theorem Un.write(mu:p9 (H x))(he:e=x∨H e=some (.own x))(k:∀b u,b≠e->h.get? b=some u->h'.get? b=some u)(heo:∃u,h'.get? e=some u):Un fs ex H (aD H x o) h h':=by
 have hx:∀b,H b=none->b≠x:=λb n z=>by subst z;rw [n] at mu;exact mu
 have hb:∀b,H b=none->b≠e:=λb n z=>by
  subst z
  rcases he with r|r
  ·exact hx b n r
  ·rw [n] at r;cases r
 have hm:∀b u,H b=some u->¬ p9 (some u)->b≠x:=λb u q nm z=>by subst z;rw [q] at mu;exact nm mu
 refine⟨λb u q n _ _=>k b u (hb b n) q,λb u q n _ _=>⟨u.slots,k b u (hb b n) q⟩,λb u q n _=>by rw [aI (hx b n)];exact n,λb u q _=>?_,
  λb xs q=>by rw [aI (hm b _ q λz=>z)];exact q,λb u xs q=>by rw [aI (hm b _ q λz=>z)];exact q,λb ps q=>⟨#[],by rw [aI (hm b _ q λz=>z),q];simp⟩⟩
 by_cases hbe:b=e
 ·subst hbe;exact heo
 ·exact⟨u,k b u hbe q⟩
end
noncomputable def wx(h:Heap)(H:Hp):List Addr:=(List.range h.objs.size).filter λa=>(H a).isSome
noncomputable def fg(h:Heap)(H:Hp):Heap:=W.hideAll h (wx h H)
theorem xn(h:Heap)(H:Hp):(fg h H).objs.size=h.objs.size:=W.hideAll_size _ _
theorem xo{h:Heap}{H:Hp}{b:Addr}{o:Obj}(e:h.get? b=some o)(n:H b=none):(fg h H).get? b=some o :=
 W.hideAll_get _ e λhm=>by
  have q:(H b).isSome=true:=(List.mem_filter.mp hm).2
  rw [n] at q;simp at q
theorem xp{h:Heap}{H:Hp}{b:Addr}{o:Obj}(e:(fg h H).get? b=some o):h.get? b=some o/\H b=none:=by
 have e':h.get? b=some o:=W.of_hideAll (wx h H) e
 refine⟨e',?_⟩
 cases q:H b with
 | none=>rfl
 | some x =>
  have hm:b∈wx h H:=List.mem_filter.mpr ⟨List.mem_range.mpr (z17 e'),by simp [q]⟩
  have z:(fg h H).get? b=none:=W.hideAll_none (wx h H) hm
  rw [z] at e;cases e
noncomputable def y60(g h:Heap)(L:Addr):List (Addr×Obj):=(List.range h.objs.size).filterMap λa=>if a=L∨(g.get? a).isSome=true then none else (h.get? a).map λo=>(a,o)
noncomputable def b7(g h:Heap)(L d:Addr):List (Addr×Obj):=(y60 g h L).filter λp=>decide (p.1≠d)
end
section
structure Mod(K:W.Frag)(mg:Str->Option Value)(base:Heap):Prop where
 kin:K.In base
 glob:base.Ns mainGlobals mg
 blt:∃mb,base.Ns builtinsNs mb/\∀x:Str,x≠"__name__"->mb x=bootBuiltins x
 nolimit:base.NoLimit
structure Cx where
 prog:Program
 w:World
 K:W.Frag
 mg:Str->Option Value
 base:Heap
 A:Around
 N:List Str
 s₀:Shared
 H₀:Hp
 env:Env
 outer:List Env
 stack:List Env
 ex:List Addr
 fn:Str->Bool
 calm:Bool
 pn:List (Addr×Obj)
 xe:Value->Shared->Prop
noncomputable def jr(l:List Env):List Addr:=l.filterMap (·.frame)
noncomputable abbrev Cx.fs(X:Cx):List Addr:=jr X.outer
noncomputable def xq(sc:Scope)(x:Str):Prop:=sc.names.lookup x=some .local∨sc.names.lookup x=some .cell∨sc.names.lookup x=some .free
noncomputable def nc(sc:Scope)(x:Str):Prop:=sc.names.lookup x=some .local∨sc.names.lookup x=some .cell
noncomputable def xr(env:Env)(h:Heap)(m:Str->Option Value)(x:Str)(u:Value):Prop :=
 (env.kindOf x=some .local/\m x=some u)∨((env.kindOf x=some .cell∨env.kindOf x=some .free)/\∃c,env.cells.lookup x=some c/\h.IsCell c (some u))
structure Cx.Ok(X:Cx):Prop where
 mod:Mod X.K X.mg X.base
 kind:X.env.scope.kind=.function
 glob:X.env.globals=mainGlobals
 blt:X.env.builtins=builtinsNs
 above:X.s₀.heap.objs.size≤X.env.locals
 inj:∀x y c,X.env.cells.lookup x=some c->X.env.cells.lookup y=some c->x=y
 has:∀x,(X.env.kindOf x=some .cell∨X.env.kindOf x=some .free)->∃c,X.env.cells.lookup x=some c
 cab:∀x c,X.fn x=true->X.env.cells.lookup x=some c->X.s₀.heap.objs.size≤c
 hd:X.calm=true->X.A.handled=none
 frames:X.A.frames=some X.stack
 stk:X.stack=X.outer∨(X.stack=X.env::X.outer/\X.env.frame=some X.env.locals)
 exf:∀b∈X.ex,b≠X.env.locals/\∀x c,X.env.cells.lookup x=some c->c≠b
 bs:∀b o,X.base.get? b=some o->X.s₀.heap.get? b=some o/\X.H₀ b=none
 bsz:X.base.objs.size≤X.s₀.heap.objs.size
 y241:∀b o,X.base.get? b=some o->b∉X.ex
 exfs:∀b∈X.ex,b∉X.fs
 y153:X.s₀.heap.FunFrames X.base X.outer
 frf:∀b∈X.fs,X.H₀ b=none
structure Inv(X:Cx)(pins:List (Addr×Obj))(σ:List (Option V))(H:Hp)(s:Shared):Prop where
 ok:X.Ok
 os:s.os=X.s₀.os
 bare:AllBare s.gens
 base:Un X.fs X.ex X.H₀ H X.s₀.heap s.heap
 loc:∃m,s.heap.Ns X.env.locals m/\∀(i:Nat) (x:Str) (v:V),X.N[i]?=some x->σ[i]?=some (some v)->xq X.env.scope x->∃u,av v u/\xr X.env s.heap m x u
 cell:∀x c,X.env.cells.lookup x=some c->∃v,s.heap.IsCell c v
 free:H X.env.locals=none
 y14f:∀x c,X.env.cells.lookup x=some c->H c=none
 pin:∀p∈X.pn++pins,s.heap.get? p.1=some p.2/\H p.1=none/\p.1≠X.env.locals/\p.1∉X.fs/\∀v,p.2.data≠.cell v
 hok:cR X.prog X.w H s.heap
 len:σ.length=X.N.length
section
variable {X:Cx}{pins:List (Addr×Obj)}{σ:List (Option V)}{H H':Hp}{s:Shared}{h':Heap}
theorem Cx.Ok.nofr(ok:X.Ok){b:Addr}{o:Obj}(e:X.base.get? b=some o):b∉X.fs:=λhb=>by
 have:=(ok.y153.mem hb).1
 rw [e] at this;cases this
theorem Inv.bs(I:Inv X pins σ H s):∀b o,X.base.get? b=some o->s.heap.get? b=some o/\H b=none:=λb o e =>
 ⟨I.base.keep b o (I.ok.bs b o e).1 (I.ok.bs b o e).2 (I.ok.nofr e) (I.ok.y241 b o e),I.base.free b o (I.ok.bs b o e).1 (I.ok.bs b o e).2 (I.ok.y241 b o e)⟩
theorem Inv.bk(I:Inv X pins σ H s):∀b o,X.base.get? b=some o->s.heap.get? b=some o:=λb o e=>(I.bs b o e).1
theorem Inv.mod(I:Inv X pins σ H s):Mod X.K X.mg X.base:=I.ok.mod
theorem Inv.kIn(I:Inv X pins σ H s):X.K.In s.heap:=I.ok.mod.kin.keeps I.bk
theorem Inv.fr(I:Inv X pins σ H s):∃m,Fr X.base X.env.locals s.heap m :=
 let ⟨m,hn,_⟩:=I.loc
 ⟨m,hn,I.bk,z25 I.ok.bsz I.ok.above⟩
theorem Inv.lt(I:Inv X pins σ H s):X.env.locals<s.heap.objs.size:=let ⟨_,hn,_⟩:=I.loc;hn.lt
theorem Inv.sz(I:Inv X pins σ H s):X.s₀.heap.objs.size≤s.heap.objs.size:=z25 I.ok.above (z37 I.lt)
theorem Inv.nofs(I:Inv X pins σ H s){a:Addr}(h:s.heap.objs.size≤a):a∉X.fs:=λhb=>by
 obtain⟨_,o,ho,_⟩:=I.ok.y153.mem hb
 exact absurd (z1b (z17 ho) (z25 I.sz h)) (z32 _)
theorem Inv.cne(I:Inv X pins σ H s):∀x c,X.env.cells.lookup x=some c->c≠X.env.locals:=λx c e z=>by
 obtain⟨v,o,ho,hd⟩:=I.cell x c e
 obtain⟨m,⟨o',es,ep,ho',hd',_⟩,_⟩:=I.loc
 rw [z,ho'] at ho;cases ho;rw [hd'] at hd;cases hd
theorem Inv.y153(I:Inv X pins σ H s):s.heap.FunFrames X.base X.outer:=by
 have all:∀(l:List Env),(∀b∈jr l,b∈X.fs)->X.s₀.heap.FunFrames X.base l->s.heap.FunFrames X.base l:=by
  intro l
  induction l with
  | nil=>intro _ _;trivial
  | cons env r ih =>
   intro hs hl
   obtain⟨hk,⟨L,o,hf,hn,ho,hd⟩,hr⟩:=hl
   have hL:L∈X.fs:=hs L (by unfold jr;rw [List.filterMap_cons,hf];exact List.mem_cons_self)
   obtain⟨sl,e⟩:=I.base.slot L o ho (I.ok.frf L hL) hL λz=>I.ok.exfs L z hL
   exact⟨hk,⟨L,_,hf,hn,e,hd⟩,ih (λb hb=>hs b (by unfold jr;rw [List.filterMap_cons,hf];exact z28 _ hb)) hr⟩
 exact all X.outer (λ_ hb=>hb) I.ok.y153
theorem Inv.stack(I:Inv X pins σ H s):s.heap.FunFrames X.base X.stack:=by
 rcases I.ok.stk with e|⟨e,hf⟩
 ·rw [e];exact I.y153
 ·rw [e]
  obtain⟨m,hn,_⟩:=I.loc
  refine .cons (by rw [I.ok.kind];decide) hf hn ?_ I.y153
  exact Heap.get?_none_of_le (z25 I.ok.bsz I.ok.above)
theorem Inv.y3e6(I:Inv X pins σ H s):∀b∈jr X.stack,b∈X.env.locals::X.fs:=λb hb=>by
 rcases I.ok.stk with e|⟨e,hf⟩
 ·rw [e] at hb;exact z28 _ hb
 ·rw [e] at hb
  unfold jr at hb
  rw [List.filterMap_cons,hf] at hb
  exact hb
theorem Inv.y3e5(I:Inv X pins σ H s):∀b∈jr X.stack,H b=none:=λb hb=>by
 rcases z1e.mp (I.y3e6 b hb) with e|hb
 ·rw [e];exact I.free
 ·obtain⟨_,o,ho,_⟩:=I.ok.y153.mem hb
  exact I.base.free b o ho (I.ok.frf b hb) λz=>I.ok.exfs b z hb
theorem Inv.step{g':Array GenState}{t':Nat}{d':Drawn}{ch:List Addr}(I:Inv X pins σ H s)
  (hch:∀b∈ch,(b∈X.ex∨X.s₀.heap.objs.size≤b)/\b≠X.env.locals/\(∀x c,X.env.cells.lookup x=some c->c≠b)/\∀p∈X.pn++pins,p.1≠b)
  (keep:∀b o,b≠X.env.locals->b∉X.fs->b∉ch->s.heap.get? b=some o->H b=none->h'.get? b=some o)
  (slot:∀b o,b≠X.env.locals->b∈X.fs->b∉ch->s.heap.get? b=some o->H b=none->∃sl,h'.get? b=some { o with slots:=sl }) (free:∀b o,b∉ch->s.heap.get? b=some o->H b=none->H' b=none)
  (there:∀b o,b∉ch->s.heap.get? b=some o->∃o',h'.get? b=some o')
  (y41d:∀b xs,H b=some (.tup xs)->H' b=some (.tup xs)) (y151:∀b o u,H b=some (.frz o u)->H' b=some (.frz o u)) (y408:∀b ps,H b=some (.tbl ps)->∃more,H' b=some (.tbl (ps++more)))
  (ns:∀m,s.heap.Ns X.env.locals m->h'.Ns X.env.locals m) (hok:cR X.prog X.w H' h') (hg:AllBare g') :
  Inv X pins σ H' { s with heap:=h',gens:=g',drawn:=d',toks:=t' }:=by
 have neL:∀b o,X.s₀.heap.get? b=some o->b≠X.env.locals:=λb o e=>z26 (z1b (z17 e) I.ok.above)
 have neC:∀b o,X.s₀.heap.get? b=some o->b∉X.ex->b∉ch:=λb o e hx hb=>by
  rcases (hch b hb).1 with z|z
  ·exact hx z
  ·exact absurd (z1b (z17 e) z) (z32 _)
 have cellK:∀x c,X.env.cells.lookup x=some c->∀v,s.heap.IsCell c v->h'.IsCell c v:=λx c e v zz=>by
  obtain⟨o,ho,hd⟩:=zz
  have nch:c∉ch:=λz=>(hch c z).2.2.1 x c e rfl
  by_cases hc:c∈X.fs
  ·obtain⟨sl,q⟩:=slot c o (I.cne x c e) hc nch ho (I.y14f x c e)
   exact⟨_,q,hd⟩
  ·exact⟨o,keep c o (I.cne x c e) hc nch ho (I.y14f x c e),hd⟩
 refine⟨I.ok,I.os,hg,⟨λb o e n hb hx=>?_,λb o e n hb hx=>?_,λb o e n hx=>?_,λb o e hx=>?_,λb xs e=>y41d b xs (I.base.y41d b xs e),λb o xs e=>y151 b o xs (I.base.y151 b o xs e),λb ps e=>?_⟩,?_,λx c e=>?_,?_,λx c e=>?_,λp hp=>?_,hok,I.len⟩
 ·exact keep b o (neL b o e) hb (neC b o e hx) (I.base.keep b o e n hb hx) (I.base.free b o e n hx)
 ·obtain⟨sl,e1⟩:=I.base.slot b o e n hb hx
  obtain⟨sl',e2⟩:=slot b _ (neL b o e) hb (neC b o e hx) e1 (I.base.free b o e n hx)
  exact⟨sl',e2⟩
 ·obtain⟨o',e1⟩:=I.base.there b o e hx
  exact free b o' (neC b o e hx) e1 (I.base.free b o e n hx)
 ·obtain⟨o',e1⟩:=I.base.there b o e hx
  exact there b o' (neC b o e hx) e1
 ·obtain⟨m1,e1⟩:=I.base.y408 b ps e
  obtain⟨m2,e2⟩:=y408 b _ e1
  exact⟨m1++m2,by rw [e2,Array.append_assoc]⟩
 ·obtain⟨m,hn,hl⟩:=I.loc
  refine⟨m,ns m hn,λi x v e1 e2 e3=>?_⟩
  obtain⟨u,r,l⟩:=hl i x v e1 e2 e3
  refine⟨u,r,?_⟩
  rcases l with l|⟨k,c,e,z⟩
  ·exact .inl l
  ·exact .inr ⟨k,c,e,cellK x c e _ z⟩
 ·obtain⟨v,z⟩:=I.cell x c e
  exact⟨v,cellK x c e v z⟩
 ·obtain⟨m,⟨o,_,_,ho,_⟩,_⟩:=I.loc
  exact free _ o (λz=>(hch _ z).2.1 rfl) ho I.free
 ·obtain⟨v,o,ho,hd⟩:=I.cell x c e
  exact free c o (λz=>(hch c z).2.2.1 x c e rfl) ho (I.y14f x c e)
 ·obtain⟨e,n,ne,nf,d⟩:=I.pin p hp
  have nch:p.1∉ch:=λz=>(hch p.1 z).2.2.2 p hp rfl
  exact⟨keep p.1 p.2 ne nf nch e n,free p.1 p.2 nch e n,ne,nf,d⟩
theorem Inv.un{t':Nat}(I:Inv X pins σ H s)(u:Un X.fs [] H H' s.heap h')(hok:cR X.prog X.w H' h'):Inv X pins σ H' { s with heap:=h',toks:=t' }:=by
 obtain⟨m,⟨o,es,ep,ho,r⟩,_⟩:=id I.loc
 obtain⟨sl,hL⟩:=u.any ho I.free (by simp)
 exact I.step (g':=s.gens) (d':=s.drawn) (ch:=[]) (λ_ z=>nomatch z) (λb o _ hb _ e n=>u.keep b o e n hb (by simp)) (λb o _ hb _ e n=>u.slot b o e n hb (by simp)) (λb o _ e n=>u.free b o e n (by simp)) (λb o _ e=>u.there b o e (by simp)) u.y41d u.y151 u.y408 (λm' hm=>by
  obtain⟨o',es',ep',ho',r'⟩:=hm
  rw [ho] at ho';cases ho'
  exact⟨_,es',ep',hL,r'⟩) hok I.bare
theorem Inv.call{g':Array GenState}{t':Nat}{d':Drawn}{ch:List Addr}(I:Inv X pins σ H s)(u:Un (jr X.stack) ch H H' s.heap h')(hok:cR X.prog X.w H' h')(hg:AllBare g')
  (hch:∀b∈ch,(b∈X.ex∨X.s₀.heap.objs.size≤b)/\b≠X.env.locals/\(∀x c,X.env.cells.lookup x=some c->c≠b)/\∀p∈X.pn++pins,p.1≠b) :
  Inv X pins σ H' { s with heap:=h',gens:=g',drawn:=d',toks:=t' }:=by
 obtain⟨m,⟨o,es,ep,ho,r⟩,_⟩:=id I.loc
 obtain⟨sl,hL⟩:=u.any ho I.free λz=>(hch _ z).2.1 rfl
 exact I.step (ch:=ch) hch (λb o hL hb hc e n=>u.keep b o e n (λz=>(z1e.mp (I.y3e6 b z)).elim hL hb) hc) (λb o _ _ hc e n=>u.any e n hc) (λb o hc e n=>u.free b o e n hc) (λb o hc e=>u.there b o e hc) u.y41d u.y151 u.y408 (λm' hm=>by
  obtain⟨o',es',ep',ho',r'⟩:=hm
  rw [ho] at ho';cases ho'
  exact⟨_,es',ep',hL,r'⟩) hok hg
theorem Inv.turned{t':Nat}{it:Addr}(I:Inv X pins σ H s)(k:∀b o,b≠it->s.heap.get? b=some o->h'.get? b=some o)(hn:H it=none)(hL:it≠X.env.locals)
  (h1:it∈X.ex∨X.s₀.heap.objs.size≤it) (h2:∀x c,X.env.cells.lookup x=some c->c≠it) (h3:∀p∈X.pn++pins,p.1≠it):Inv X pins σ H { s with heap:=h',toks:=t' }:=by
 have nit:∀b u,H b=some u->b≠it:=λb u e z=>by rw [z,hn] at e;cases e
 refine I.step (g':=s.gens) (d':=s.drawn) (ch:=[it]) (λb hb=>?_) (λb o _ _ hc e _=>k b o (λz=>hc (by simp [z])) e) (λb o _ _ hc e _=>⟨o.slots,k b o (λz=>hc (by simp [z])) e⟩) (λ_ _ _ _ n=>n)
  (λb o hc e=>⟨o,k b o (λz=>hc (by simp [z])) e⟩) (λ_ _ e=>e) (λ_ _ _ e=>e) (λb ps e=>⟨#[],by rw [e];simp⟩) (λm hm=>?_) (λb u e=>?_) I.bare
 ·have e:b=it:=by simpa using hb
  subst e
  exact⟨h1,hL,h2,h3⟩
 ·obtain⟨o,es,ep,ho,r⟩:=hm
  exact⟨o,es,ep,k _ o (Ne.symm hL) ho,r⟩
 ·refine (I.hok b u e).y3e4 (λc v hc q=>k c v ?_ q) (λ_ q=>q) λ_ _ q=>q
  rcases hc with z|z
  ·rw [z];exact nit b u e
  ·exact nit c _ z
theorem Inv.tok(I:Inv X pins σ H s)(t:Nat):Inv X pins σ H { s with toks:=t }:=I.un (h':=s.heap) (t':=t) Un.refl I.hok
theorem Inv.kept{t':Nat}(I:Inv X pins σ H s)(k:∀b u,s.heap.get? b=some u->h'.get? b=some u):Inv X pins σ H { s with heap:=h',toks:=t' }:=I.un (Un.kept k) (I.hok.kept k)
theorem Inv.laid{a:Addr}{o:HO}{t':Nat}(I:Inv X pins σ H s)(k:∀b u,s.heap.get? b=some u->h'.get? b=some u)(hp:s.heap.objs.size≤a)(new:dO X.prog X.w (aD H a o) h' a o) :
  Inv X pins σ (aD H a o) { s with heap:=h',toks:=t' }:=I.un (Un.laid k hp (I.hok.fresh hp)) (I.hok.laid k hp new)
theorem Inv.write{x e:Addr}{o:HO}{t':Nat}(I:Inv X pins σ H s)(mu:p9 (H x))(he:e=x∨H e=some (.own x))(k:∀b u,b≠e->s.heap.get? b=some u->h'.get? b=some u)(heo:∃u,h'.get? e=some u)
  (new:dO X.prog X.w (aD H x o) h' x o):Inv X pins σ (aD H x o) { s with heap:=h',toks:=t' }:=I.un (Un.write mu he k heo) (I.hok.write mu he k heo new)
theorem Inv.weak{σ':List (Option V)}(I:Inv X pins σ H s)(hl:σ'.length=σ.length)(w:∀(i:Nat) v,σ'[i]?=some (some v)->σ[i]?=some (some v)):Inv X pins σ' H s :=
 ⟨I.ok,I.os,I.bare,I.base,let ⟨m,hn,hl'⟩:=I.loc;⟨m,hn,λi x v e1 e2 e3=>hl' i x v e1 (w i v e2) e3⟩,I.cell,I.free,I.y14f,I.pin,I.hok,hl.trans I.len⟩
theorem Inv.y2ed{y2eb:List (Addr×Obj)}(I:Inv X pins σ H s)(h:∀p∈y2eb,s.heap.get? p.1=some p.2/\H p.1=none/\p.1≠X.env.locals/\p.1∉X.fs/\∀v,p.2.data≠.cell v):Inv X y2eb σ H s :=
 ⟨I.ok,I.os,I.bare,I.base,I.loc,I.cell,I.free,I.y14f,λp hp=>(z1d.mp hp).elim (λz=>I.pin p (List.mem_append_left _ z)) (h p),I.hok,I.len⟩
theorem qa{N:List Str}(hN:N.Nodup){i j:Nat}{x:Str}(a:N[i]?=some x)(b:N[j]?=some x):i=j:=by
 obtain⟨h1,e1⟩:=zd.mp a
 obtain⟨h2,e2⟩:=zd.mp b
 exact (List.getElem_inj hN).mp (e1.trans e2.symm)
theorem qb{M:Model}{A:Around}{E:Value->Shared->Prop}{i:Nat}{x:Str}{v:V}{u:Value}{Q:Unit->Shared->Prop}(I:Inv X pins σ H s)(hN:X.N.Nodup)(hi:X.N[i]?=some x)(hx:nc X.env.scope x)(r:av v u)
  (h:∀s',Inv X pins (σ.set i (some v)) H s'->(∃a,Heap.SameBut a s.heap s'.heap/\(a=X.env.locals∨X.env.cells.lookup x=some a))->Q () s') (hf:X.fn x=true∨X.env.scope.names.lookup x=some .local:=by first|exact .inl rfl|exact .inr rfl|assumption):wpAny M A (storeName X.env x u) Q E s:=by
 obtain⟨m,hn,hl⟩:=id I.loc
 have hcls:(X.env.scope.kind == .class||(X.env.scope.kind == .module&&X.env.locals != X.env.globals))=false:=by rw [I.ok.kind];rfl
 have hiσ:i<σ.length:=by rw [I.len];exact (zd.mp hi).1
 have cne:=I.cne
 have tracked:∀{a:Addr} {h':Heap},(∃o,s.heap.get? a=some o/\H a=none)->Heap.SameBut a s.heap h'->cR X.prog X.w H h':=λ{a h'} ha hs b ob e=>by
  obtain⟨_,_,y18b⟩:=ha
  refine (I.hok b ob e).y3e4 (λc w' hc q=>(hs.2 c ?_).trans q) (λ_ q=>q) λ_ _ q=>q
  rintro rfl
  rcases hc with rfl|hc
  ·rw [y18b] at e;cases e
  ·rw [y18b] at hc;cases hc
 rcases hx with hk|hk
 ·refine wpAny_storeName_local hk hn (λh' hn' hs=>?_) hcls
  obtain⟨oL,_,_,hoL,_⟩:=id hn
  refine h _ ⟨I.ok,I.os,I.bare,⟨λb o e n hb hx=>?_,λb o e n hb hx=>?_,I.base.free,λb o e hx=>?_,I.base.y41d,I.base.y151,I.base.y408⟩,⟨_,hn',λj y v' e1 e2 e3=>?_⟩,λy c e=>?_,I.free,I.y14f,λp hp=>?_,tracked ⟨oL,hoL,I.free⟩ hs,by simpa using I.len⟩ ⟨_,hs,.inl rfl⟩
  ·exact (hs.2 b (z26 (z1b (z17 e) I.ok.above))).trans (I.base.keep b o e n hb hx)
  ·obtain⟨sl,e1⟩:=I.base.slot b o e n hb hx
   exact⟨sl,(hs.2 b (z26 (z1b (z17 e) I.ok.above))).trans e1⟩
  ·obtain⟨o',e1⟩:=I.base.there b o e hx
   exact⟨o',(hs.2 b (z26 (z1b (z17 e) I.ok.above))).trans e1⟩
  ·by_cases hj:j=i
   ·subst hj
    rw [hi] at e1;cases e1
    rw [List.getElem?_set_self hiσ] at e2
    cases e2
    exact⟨u,r,.inl ⟨hk,by simp⟩⟩
   ·rw [z2b (Ne.symm hj)] at e2
    obtain⟨u',r',q⟩:=hl j y v' e1 e2 e3
    refine⟨u',r',?_⟩
    rcases q with⟨k,e⟩| ⟨k,c,e,z⟩
    ·refine .inl ⟨k,?_⟩
     have:y≠x:=λe=>hj (qa hN e1 (e ▸ hi))
     simp [this,e]
    ·exact .inr ⟨k,c,e,z.sameBut hs (cne y c e)⟩
  ·obtain⟨w',z⟩:=I.cell y c e
   exact⟨w',z.sameBut hs (cne y c e)⟩
  ·obtain⟨e,n,ne,nf,d⟩:=I.pin p hp
   exact⟨(hs.2 p.1 ne).trans e,n,ne,nf,d⟩
 ·have hfn:X.fn x=true:=by
   rcases hf with z|z
   ·exact z
   ·rw [z] at hk;cases hk
  obtain⟨c,hc⟩:=I.ok.has x (.inl hk)
  obtain⟨w',z⟩:=I.cell x c hc
  refine wpAny_storeName_cell I.ok.kind hk hc z (λh' hc' hs=>?_)
  obtain⟨oc,hoc,hocd⟩:=id z
  refine h { s with heap:=h' } ⟨I.ok,I.os,I.bare,⟨λb o e n hb hx=>?_,λb o e n hb hx=>?_,I.base.free,λb o e hx=>?_,I.base.y41d,I.base.y151,I.base.y408⟩,⟨m,hn.sameBut hs (Ne.symm (cne x c hc)),λj y v' e1 e2 e3=>?_⟩,λy c' e=>?_,I.free,I.y14f,λp hp=>?_,tracked ⟨oc,hoc,I.y14f x c hc⟩ hs,by simpa using I.len⟩ ⟨c,hs,.inr hc⟩
  ·exact (hs.2 b (z26 (z1b (z17 e) (I.ok.cab x c hfn hc)))).trans (I.base.keep b o e n hb hx)
  ·obtain⟨sl,e1⟩:=I.base.slot b o e n hb hx
   exact⟨sl,(hs.2 b (z26 (z1b (z17 e) (I.ok.cab x c hfn hc)))).trans e1⟩
  ·obtain⟨o',e1⟩:=I.base.there b o e hx
   exact⟨o',(hs.2 b (z26 (z1b (z17 e) (I.ok.cab x c hfn hc)))).trans e1⟩
  ·by_cases hj:j=i
   ·subst hj
    rw [hi] at e1;cases e1
    rw [List.getElem?_set_self hiσ] at e2
    cases e2
    exact⟨u,r,.inr ⟨.inl hk,c,hc,hc'⟩⟩
   ·rw [z2b (Ne.symm hj)] at e2
    obtain⟨u',r',q⟩:=hl j y v' e1 e2 e3
    refine⟨u',r',?_⟩
    rcases q with q|⟨k,c',e,z'⟩
    ·exact .inl q
    ·refine .inr ⟨k,c',e,z'.sameBut hs ?_⟩
     rintro rfl
     exact hj (qa hN e1 (I.ok.inj _ _ _ e hc ▸ hi))
  ·by_cases hcc:c'=c
   ·subst hcc;exact⟨_,hc'⟩
   ·obtain⟨w2,z2⟩:=I.cell y c' e
    exact⟨w2,z2.sameBut hs hcc⟩
  ·obtain⟨e,n,ne,nf,d⟩:=I.pin p hp
   refine⟨(hs.2 p.1 ?_).trans e,n,ne,nf,d⟩
   intro q
   rw [q,hoc] at e
   have q':oc=p.2:=z27 e
   exact d w' (by rw [<- q'];exact hocd)
theorem qc{M:Model}{A:Around}{E:Value->Shared->Prop}{i:Nat}{x:Str}{v:V}{u:Value}{Q:Unit->Shared->Prop}(I:Inv X pins σ H s)(hN:X.N.Nodup)(hi:X.N[i]?=some x)(hx:nc X.env.scope x)(r:av v u)
  (h:∀s',Inv X pins (σ.set i (some v)) H s'->Q () s') (hf:X.fn x=true∨X.env.scope.names.lookup x=some .local:=by first|exact .inl rfl|exact .inr rfl|assumption):wpAny M A (storeName X.env x u) Q E s :=
 qb I hN hi hx r (λs' I' _=>h s' I') hf
theorem Inv.call'{s':Shared}{ch:List Addr}(I:Inv X pins σ H s)(ho:s'.os=s.os)(u:Un (jr X.stack) ch H H' s.heap s'.heap)(hok:cR X.prog X.w H' s'.heap)(hg:AllBare s'.gens)
  (hch:∀b∈ch,(b∈X.ex∨X.s₀.heap.objs.size≤b)/\b≠X.env.locals/\(∀x c,X.env.cells.lookup x=some c->c≠b)/\∀p∈X.pn++pins,p.1≠b):Inv X pins σ H' s':=by
 obtain⟨h',g',d',t',o'⟩:=s'
 have e:o'=s.os:=ho
 subst e
 exact I.call (g':=g') (t':=t') (d':=d') u hok hg hch
end
noncomputable abbrev XK:=Value->Option Addr->Hp->Prop
noncomputable abbrev St:=List (Option V)
noncomputable abbrev VK:=V->Hp->Prop
noncomputable abbrev TE:=St->Hp->VK->Prop
noncomputable abbrev TT:=St->Hp->(Bool->Hp->Prop)->Prop
noncomputable abbrev TA:=St->Hp->(List V->Hp->Prop)->Prop
structure Ends where
 nx:St->Hp->Prop
 rt:VK
 bk:St->Hp->Prop:=λ_ _=>False
 ct:St->Hp->Prop:=λ_ _=>False
noncomputable abbrev TS:=Ends->St->Hp->Prop
noncomputable def EP(X:Cx)(pins:List (Addr×Obj))(σ:St)(Q:VK)(u:Value)(s':Shared):Prop:=∃v H',Inv X pins σ H' s'/\av v u/\Q v H'
noncomputable def TP(X:Cx)(pins:List (Addr×Obj))(σ:St)(Q:Bool->Hp->Prop)(b:Bool)(s':Shared):Prop:=∃H',Inv X pins σ H' s'/\Q b H'
noncomputable def AP(X:Cx)(pins:List (Addr×Obj))(σ:St)(Q:List V->Hp->Prop)(us:List Value)(s':Shared):Prop:=∃vs H',Inv X pins σ H' s'/\ao vs us/\Q vs H'
noncomputable def SP(X:Cx)(pins:List (Addr×Obj))(D:Ends)(f:Flow)(s':Shared):Prop :=
 match f with
 | .next=>∃σ' H',Inv X pins σ' H' s'/\D.nx σ' H'
 | .brk=>∃σ' H',Inv X pins σ' H' s'/\D.bk σ' H'
 | .cont=>∃σ' H',Inv X pins σ' H' s'/\D.ct σ' H'
 | .ret u=>∃v σ' H',Inv X pins σ' H' s'/\av v u/\D.rt v H'
noncomputable def PE(X:Cx)(e:Expr)(t:TE):Prop :=
 ∀(pins:List (Addr×Obj)) (s:Shared) (σ:St) (H:Hp) (Q:VK),Inv X pins σ H s->t σ H Q->wpAny (model X.prog X.w) X.A (eval e X.env) (EP X pins σ Q) X.xe s
noncomputable def PT(X:Cx)(e:Expr)(t:TT):Prop :=
 ∀(pins:List (Addr×Obj)) (s:Shared) (σ:St) (H:Hp) (Q:Bool->Hp->Prop),Inv X pins σ H s->t σ H Q->wpAny (model X.prog X.w) X.A (isTrue e X.env (eval e X.env)) (TP X pins σ Q) X.xe s
noncomputable def PW(X:Cx)(e:Expr)(t:TT):Prop :=
 ∀(whole:Sem Value) (pins:List (Addr×Obj)) (s:Shared) (σ:St) (H:Hp) (Q:Bool->Hp->Prop),Inv X pins σ H s->t σ H Q->wpAny (model X.prog X.w) X.A (isTrue e X.env whole) (TP X pins σ Q) X.xe s
theorem PW.pt{X:Cx}{e:Expr}{t:TT}(h:PW X e t):PT X e t:=h _
noncomputable def PA(X:Cx)(es:List Expr)(t:TA):Prop :=
 ∀(pos:Pos) (pins:List (Addr×Obj)) (s:Shared) (σ:St) (H:Hp) (Q:List V->Hp->Prop),Inv X pins σ H s->t σ H Q->wpAny (model X.prog X.w) X.A (spliced (backTo pos (starEach es X.env))) (AP X pins σ Q) X.xe s
noncomputable def PS(X:Cx)(st:Stmt)(t:TS):Prop :=
 ∀(pins:List (Addr×Obj)) (s:Shared) (σ:St) (H:Hp) (D:Ends),Inv X pins σ H s->t D σ H->wpAny (model X.prog X.w) X.A (exec st X.env) (SP X pins D) X.xe s
noncomputable def fP(X:Cx)(st:List Stmt)(t:TS):Prop :=
 ∀(pins:List (Addr×Obj)) (s:Shared) (σ:St) (H:Hp) (D:Ends),Inv X pins σ H s->t D σ H->wpAny (model X.prog X.w) X.A (execs st X.env) (SP X pins D) X.xe s
theorem aG{α:Type}{t:Sem α}{Q Q':α->Shared->Prop}{M:Model}{A:Around}{E:Value->Shared->Prop}{s:Shared}(h:wpAny M A t Q E s)(hQ:∀a s,Q a s->Q' a s):wpAny M A t Q' E s:=wpAny_mono h hQ λ_ _ x=>x
end
section
section
variable {X:Cx}
theorem bin{a b:Expr}{ta tb:TE}(ha:PE X a ta)(hb:PE X b tb){pins:List (Addr×Obj)}{s:Shared}{σ:St}{H:Hp}{R:V->V->Hp->Prop}(I:Inv X pins σ H s)(h:ta σ H λx H1=>tb σ H1 λy H2=>R x y H2)
  {α:Type} {Q:α->Shared->Prop} {f:Value->Value->Sem α}
  (hf:∀v u s2 x y H2,Inv X pins σ H2 s2->av x v->av y u->R x y H2->wpAny (model X.prog X.w) X.A (f v u) Q X.xe s2) :
  wpAny (model X.prog X.w) X.A (eval a X.env) (λv s₁=>wpAny (model X.prog X.w) X.A (eval b X.env) (λu s₂=>wpAny (model X.prog X.w) X.A (f v u) Q X.xe s₂) X.xe s₁) X.xe s:=by
 refine aG (ha pins s σ H _ I h) λv s1 zz=>?_
 obtain⟨x,H1,I1,r1,q1⟩:=zz
 refine aG (hb pins s1 σ H1 _ I1 q1) λu s2 zz=>?_
 obtain⟨y,H2,I2,r2,q2⟩:=zz
 exact hf v u s2 x y H2 I2 r1 r2 q2
noncomputable def qd(i:Nat):TE:=λσ H Q=>∃v,σ[i]?=some (some v)/\Q v H
noncomputable def tC(v:V):TE:=λ_ H Q=>Q v H
theorem xt{i:Nat}{x:Str}{pos:Pos}(hN:X.N[i]?=some x)(hv:xq X.env.scope x)(hd:(x == ("__debug__" : Str))=false:=by decide)(hcd:(x == ("__classdict__" : Str))=false:=by decide):PE X (.Name x pos) (qd i):=by
 intro pins s σ H Q I h
 obtain⟨v,e,h⟩:=h
 obtain⟨m,hn,hl⟩:=I.loc
 obtain⟨u,r,l⟩:=hl i x v hN e hv
 have fin:EP X pins σ Q u s:=⟨v,H,I,r,h⟩
 rcases l with⟨hk,hm⟩| ⟨hk,c,hc,y188⟩
 ·exact wpAny_Name (wpAny_loadName_local I.ok.kind hk hn hm fin) hd
 ·rcases hk with hk|hk
  ·exact wpAny_Name (wpAny_loadName_cell I.ok.kind hk hc y188 fin) hd
  ·exact wpAny_Name (wpAny_loadName_free I.ok.kind hk hc y188 fin hcd) hd
theorem ng{i j pos}:PE X (.Constant (.int i) j pos) (tC (.int i)):=λ_ _ _ H _ I h=>wpAny_Constant_int ⟨.int i,H,I.tok _,⟨_,rfl⟩,h⟩
theorem qe{b j pos}:PE X (.Constant (.bool b) j pos) (tC (.bl b)):=λ_ _ _ H _ I h=>Constant_bool ⟨.bl b,H,I,rfl,h⟩
theorem xu{j pos}:PE X (.Constant .none j pos) (tC .non):=λ_ _ _ H _ I h=>Constant_none ⟨.non,H,I,rfl,h⟩
theorem xw{x j pos}:PE X (.Constant (.str x) j pos) (tC (.str x)):=λ_ _ _ H _ I h=>Calls.Constant_str ⟨.str x,H,I.tok _,⟨_,rfl⟩,h⟩
noncomputable def Gl(X:Cx)(x:Str):Prop:=X.env.kindOf x=some .globalImplicit
theorem nh{E:Value->Shared->Prop}{pins:List (Addr×Obj)}{s:Shared}{σ:St}{H:Hp}{x:Str}{u:Value}{pos:Pos}{Q:Value->Shared->Prop}(I:Inv X pins σ H s)(hg:Gl X x)(hm:X.mg x=some u)(h:Q u s)
  (hd:(x == ("__debug__" : Str))=false:=by decide):wpAny (model X.prog X.w) X.A (eval (.Name x pos) X.env) Q E s :=
 Calls.Name_function_global I.ok.kind hg (Calls.loadGlobal_global (by rw [I.ok.glob];exact I.mod.glob.keeps I.bk) hm h) hd
theorem eN{E:Value->Shared->Prop}{pins:List (Addr×Obj)}{s:Shared}{σ:St}{H:Hp}{x:Str}{u:Value}{pos:Pos}{Q:Value->Shared->Prop}(I:Inv X pins σ H s)(hg:Gl X x)(hm:X.mg x=none)(hv:bootBuiltins x=some u)(h:Q u s)
  (hn:x≠"__name__":=by decide) (hd:(x == ("__debug__" : Str))=false:=by decide):wpAny (model X.prog X.w) X.A (eval (.Name x pos) X.env) Q E s:=by
 obtain⟨mb,h1,h2⟩:=I.mod.blt
 exact Calls.Name_function_global I.ok.kind hg (Calls.loadGlobal_builtin (by rw [I.ok.glob];exact I.mod.glob.keeps I.bk) hm (by rw [I.ok.blt];exact h1.keeps I.bk) ((h2 x hn).trans hv) h) hd
theorem xx{x:Str}{v:V}{u:Value}{pos:Pos}(hg:Gl X x)(hm:X.mg x=some u)(r:av v u)(hd:(x == ("__debug__" : Str))=false:=by decide):PE X (.Name x pos) (tC v) :=
 λ_ _ _ H _ I h=>nh I hg hm ⟨v,H,I,r,h⟩ hd
variable {a b:Expr}{ta tb:TE}{pos:Pos}
noncomputable def PC(X:Cx)(op:CmpOp)(a b:Expr)(t:TE):Prop :=
 ∀(pins:List (Addr×Obj)) (s:Shared) (σ:St) (H:Hp) (Q:VK),Inv X pins σ H s->t σ H Q ->
  wpAny (model X.prog X.w) X.A (eval a X.env) (λv s₁=>wpAny (model X.prog X.w) X.A (eval b X.env) (λu s₂=>wpAny (model X.prog X.w) X.A (compareOp op v u) (EP X pins σ Q) X.xe s₂) X.xe s₁) X.xe s
theorem qf(b:Expr){op:CmpOp}(h:op≠.In)(h2:op≠.NotIn):behindInMarks op b=false:=by
 have e1:(op == CmpOp.In)=false:=by cases op<;>first|rfl|exact absurd rfl h
 have e2:(op == CmpOp.NotIn)=false:=by cases op<;>first|rfl|exact absurd rfl h2
 cases b<;>simp [behindInMarks,e1,e2]
noncomputable def xy(ta:TE):TE:=λσ H Q=>ta σ H λx H1=>Q (.bl (decide (x=.non))) H1
noncomputable def qg(ta:TE):TE:=λσ H Q=>ta σ H λx H1=>Q (.bl (!decide (x=.non))) H1
theorem av.y245{x:V}{v:Value}(r:av x v):(v == Value.none)=decide (x=.non):=by
 cases x with
 | non=>cases r;rfl
 | bl _=>cases r;rfl
 | int _=>obtain⟨t,rfl⟩:=r;rfl
 | str _=>obtain⟨t,rfl⟩:=r;rfl
 | byt _=>obtain⟨t,rfl⟩:=r;rfl
 | flt _=>obtain⟨t,rfl⟩:=r;rfl
 | ref _=>cases r;rfl
 | ty _=>cases r;rfl
theorem xA{j pos'}(ha:PE X a ta):PC X .Is a (.Constant .none j pos') (xy ta):=by
 intro pins s σ H Q I h
 refine aG (ha pins s σ H _ I h) λv s1 zz=>?_
 obtain⟨x,H1,I1,r1,q1⟩:=zz
 exact Constant_none (is_none_gen ⟨.bl _,H1,I1,by rw [r1.y245];rfl,q1⟩)
theorem xB{j pos'}(ha:PE X a ta):PC X .IsNot a (.Constant .none j pos') (qg ta):=by
 intro pins s σ H Q I h
 refine aG (ha pins s σ H _ I h) λv s1 zz=>?_
 obtain⟨x,H1,I1,r1,q1⟩:=zz
 exact Constant_none (isnot_none_gen ⟨.bl _,H1,I1,by rw [r1.y245];rfl,q1⟩)
noncomputable def tB(t:TE):TT:=λσ H Q=>t σ H λx H1=>∃c,x=.bl c/\Q c H1
theorem xC{op:CmpOp}{t:TE}(h:PC X op a b t)(h1:behindInMarks op b=false:=by first|exact qf _ (by decide) (by decide)|rfl):PE X (.Compare a [op] [b] pos) t:=λpins s σ H Q I hw=>wpAny_Compare1 (h pins s σ H Q I hw) h1
theorem nj{op:CmpOp}{t:TE}(h:PC X op a b t)(h1:behindInMarks op b=false:=by first|exact qf _ (by decide) (by decide)|rfl):PT X (.Compare a [op] [b] pos) (tB t):=by
 intro pins s σ H Q I hw
 refine wpAny_isTrue_Compare1 (aG (h pins s σ H _ I hw) λv s1 h1=>aG h1 λu s2 h2=>aG h2 λc s3 ⟨x,H1,I1,r1,q1⟩=>?_) h1
 obtain⟨d,rfl,q⟩:=q1
 cases r1
 exact wpAny_truthy_bool ⟨H1,I1,q⟩
variable {tA tB':TT}{b7:List Expr}
noncomputable def qh(t u:TT):TT:=λσ H Q=>t σ H λc H1=>if c=true then u σ H1 Q else Q false H1
noncomputable def tOr(t u:TT):TT:=λσ H Q=>t σ H λc H1=>if c=true then Q true H1 else u σ H1 Q
noncomputable def qi(t:TT):TT:=λσ H Q=>t σ H λc H1=>Q (!c) H1
theorem kz(ha:PT X a tA):PW X (.BoolOp .And [a] pos) tA:=by
 intro wh pins s σ H Q I h
 refine isTrue_and (aG (ha pins s σ H Q I h) λc s1 e=>?_)
 cases c with
 | true=>exact isTrue_and_nil e
 | false=>exact e
theorem nq(ha:PT X a tA):PW X (.BoolOp .Or [a] pos) tA:=by
 intro wh pins s σ H Q I h
 refine isTrue_or (aG (ha pins s σ H Q I h) λc s1 e=>?_)
 cases c with
 | false=>exact isTrue_or_nil e
 | true=>exact e
theorem nr(ha:PT X a tA)(hb:PW X (.BoolOp .And (b::b7) pos) tB'):PW X (.BoolOp .And (a::b::b7) pos) (qh tA tB'):=by
 intro wh pins s σ H Q I h
 refine isTrue_and (aG (ha pins s σ H _ I h) λc s1 zz=>?_)
 obtain⟨H1,I1,q1⟩:=zz
 cases c with
 | true=>exact hb wh pins s1 σ H1 Q I1 q1
 | false=>exact⟨H1,I1,q1⟩
theorem qj(ha:PT X a tA)(hb:PW X (.BoolOp .Or (b::b7) pos) tB'):PW X (.BoolOp .Or (a::b::b7) pos) (tOr tA tB'):=by
 intro wh pins s σ H Q I h
 refine isTrue_or (aG (ha pins s σ H _ I h) λc s1 zz=>?_)
 obtain⟨H1,I1,q1⟩:=zz
 cases c with
 | true=>exact⟨H1,I1,q1⟩
 | false=>exact hb wh pins s1 σ H1 Q I1 q1
theorem xD(ha:PT X a tA):PT X (.UnaryOp .Not a pos) (qi tA):=by
 intro pins s σ H Q I h
 exact isTrue_not (ha pins s σ H (λc H1=>Q (!c) H1) I h)
noncomputable def xE(ta tb:TE):TE:=λσ H Q=>ta σ H λx H1=>∃c,x=.bl c/\if c=true then Q (.bl true) H1 else tb σ H1 Q
theorem nu(ha:PE X a ta)(hb:PE X (.BoolOp .Or (b::b7) pos) tb):PE X (.BoolOp .Or (a::b::b7) pos) (xE ta tb):=by
 intro pins s σ H Q I h
 refine BoolOp_or (aG (ha pins s σ H _ I h) λv s1 zz=>?_)
 obtain⟨x,H1,I1,r1,q1⟩:=zz
 obtain⟨c,rfl,q1⟩:=q1
 cases r1
 refine wpAny_truthy_bool ?_
 cases c with
 | false=>exact hb pins s1 σ H1 Q I1 q1
 | true=>exact⟨.bl true,H1,I1,rfl,q1⟩
noncomputable def tIf(t:TT)(ta tb:TE):TE:=λσ H Q=>t σ H λc H1=>if c=true then ta σ H1 Q else tb σ H1 Q
theorem xF{c:Expr}(hc:PT X c tA)(ha:PE X a ta)(hb:PE X b tb):PE X (.IfExp c a b pos) (tIf tA ta tb):=by
 intro pins s σ H Q I h
 refine wpAny_IfExp (aG (hc pins s σ H _ I h) λd s1 zz=>?_)
 obtain⟨H1,I1,q1⟩:=zz
 cases d with
 | true=>exact ha pins s1 σ H1 Q I1 q1
 | false=>exact hb pins s1 σ H1 Q I1 q1
end
end
section
noncomputable def aZ(K:W.Frag)(H:Hp)(a:Addr)(xs:List V):Prop :=
 Rd H a (.lst xs) ∨
  ∃(o:Obj) (its:Array Value) (n:Nat),K.lookup a=some o/\o.cls=.type "list"/\o.dict=none/\o.data=.seq its n/\its.size≤sizeLine/\ao xs its.toList
noncomputable def a7(K:W.Frag)(H:Hp)(a:Addr)(xs:List V):Prop :=
 Rd H a (.tup xs) ∨
  ∃(o:Obj) (its:Array Value) (n:Nat),K.lookup a=some o/\o.cls=.type "tuple"/\o.data=.seq its n/\its.size≤sizeLine/\ao xs its.toList
noncomputable def xG:Value->Option V
 | .none=>some .non
 | .bool b=>some (.bl b)
 | .int i _=>some (.int i)
 | .str x _=>some (.str x)
 | .bytes b _=>some (.byt b)
 | .float b _=>some (.flt b)
 | .ref a=>some (.ref a)
 | .type n=>some (.ty n)
 | _=>none
theorem av.abs{x:V}{u:Value}(r:av x u):xG u=some x:=by
 cases x with
 | non=>cases r;rfl
 | bl _=>cases r;rfl
 | int _=>obtain⟨t,rfl⟩:=r;rfl
 | str _=>obtain⟨t,rfl⟩:=r;rfl
 | byt _=>obtain⟨t,rfl⟩:=r;rfl
 | flt _=>obtain⟨t,rfl⟩:=r;rfl
 | ref _=>cases r;rfl
 | ty _=>cases r;rfl
theorem av.inj{x y:V}{u:Value}(r:av x u)(q:av y u):x=y:=z27 (r.abs.symm.trans q.abs)
theorem ao.inj:∀{xs ys:List V} {us:List Value},ao xs us->ao ys us->xs=ys
 | _,_,_,.nil,.nil=>rfl
 | _,_,_,.cons r t,.cons r' t'=>by rw [r.inj r',ao.inj t t']
section
variable {X:Cx}{pins:List (Addr×Obj)}{σ:St}{H:Hp}{s:Shared}{a:Addr}{xs ys:List V}
theorem aZ.of{K:W.Frag}(h:H a=some (.lst xs)):aZ K H a xs:=.inl (.inl h)
theorem a7.of{K:W.Frag}(h:H a=some (.tup xs)):a7 K H a xs:=.inl (.inl h)
theorem Inv.list(I:Inv X pins σ H s)(h:aZ X.K H a xs):∃its:List Value,ao xs its/\PlainL s.heap a its.toArray/\xs.length≤sizeLine:=by
 rcases h with h|⟨o,its,n,hk,hc,hd,hs,hz,r⟩
 ·obtain⟨z,its,n,r,e⟩:=h.ok I.hok
  exact⟨its,r,⟨_,n,e,rfl,rfl,rfl⟩,z⟩
 ·refine⟨its.toList,r,⟨o,n,I.kIn a o hk,hc,hd,by simpa using hs⟩,?_⟩
  have e:=r.length
  simp only [Array.length_toList] at e
  lia
theorem Inv.tuple(I:Inv X pins σ H s)(h:a7 X.K H a xs):∃its:List Value,ao xs its/\IsTup s.heap a its.toArray/\xs.length≤sizeLine:=by
 rcases h with h|⟨o,its,n,hk,hc,hs,hz,r⟩
 ·obtain⟨z,its,r,p⟩:=h.ok I.hok
  exact⟨its,r,p.tup,z⟩
 ·refine⟨its.toList,r,⟨o,I.kIn a o hk,hc,n,by simpa using hs⟩,?_⟩
  have e:=r.length
  simp only [Array.length_toList] at e
  lia
theorem Inv.y1f2(I:Inv X pins σ H s)(h:aZ X.K H a xs)(h':aZ X.K H a ys):xs=ys:=by
 obtain⟨its,r,⟨o,n,e,_,_,d⟩,_⟩:=I.list h
 obtain⟨its',r',⟨o',n',e',_,_,d'⟩,_⟩:=I.list h'
 rw [e] at e';cases e'
 rw [d] at d'
 injection d' with d1 _
 have:its=its':=by simpa using congrArg Array.toList d1
 subst this
 exact r.inj r'
theorem Inv.y41c(I:Inv X pins σ H s)(h:a7 X.K H a xs)(h':a7 X.K H a ys):xs=ys:=by
 obtain⟨its,r,⟨o,e,_,n,d⟩,_⟩:=I.tuple h
 obtain⟨its',r',⟨o',e',_,n',d'⟩,_⟩:=I.tuple h'
 rw [e] at e';cases e'
 rw [d] at d'
 injection d' with d1 _
 have:its=its':=by simpa using congrArg Array.toList d1
 subst this
 exact r.inj r'
end
noncomputable abbrev Cx.y47b(X:Cx)(E:Value->Shared->Prop):Cx:={ X with xe:=E }
noncomputable abbrev Cx.nox(X:Cx):Cx:=X.y47b λ_ _=>False
theorem Cx.Ok.y47b{X:Cx}(ok:X.Ok)(E:Value->Shared->Prop):(X.y47b E).Ok :=
 ⟨ok.mod,ok.kind,ok.glob,ok.blt,ok.above,ok.inj,ok.has,ok.cab,ok.hd,ok.frames,ok.stk,ok.exf,ok.bs,ok.bsz,ok.y241,ok.exfs,ok.y153,ok.frf⟩
theorem Cx.Ok.y42b{X:Cx}{E:Value->Shared->Prop}(ok:(X.y47b E).Ok):X.Ok :=
 ⟨ok.mod,ok.kind,ok.glob,ok.blt,ok.above,ok.inj,ok.has,ok.cab,ok.hd,ok.frames,ok.stk,ok.exf,ok.bs,ok.bsz,ok.y241,ok.exfs,ok.y153,ok.frf⟩
section
variable {X:Cx}{pins:List (Addr×Obj)}{σ:St}{H:Hp}{s:Shared}{E:Value->Shared->Prop}
theorem Inv.y47b(I:Inv X pins σ H s)(E:Value->Shared->Prop):Inv (X.y47b E) pins σ H s:=⟨I.ok.y47b E,I.os,I.bare,I.base,I.loc,I.cell,I.free,I.y14f,I.pin,I.hok,I.len⟩
theorem Inv.y42b(I:Inv (X.y47b E) pins σ H s):Inv X pins σ H s:=⟨I.ok.y42b,I.os,I.bare,I.base,I.loc,I.cell,I.free,I.y14f,I.pin,I.hok,I.len⟩
theorem SP.y42b{D:Ends}{f:Flow}{s':Shared}(h:SP (X.y47b E) pins D f s'):SP X pins D f s':=by
 cases f with
 | next=>obtain⟨σ',H',I,q⟩:=h;exact⟨σ',H',I.y42b,q⟩
 | brk=>obtain⟨σ',H',I,q⟩:=h;exact⟨σ',H',I.y42b,q⟩
 | cont=>obtain⟨σ',H',I,q⟩:=h;exact⟨σ',H',I.y42b,q⟩
 | ret u=>obtain⟨v,σ',H',I,r,q⟩:=h;exact⟨v,σ',H',I.y42b,r,q⟩
theorem fP.nox{st:List Stmt}{t:TS}(h:fP X.nox st t):fP X st t:=λpins s σ H D I hw =>
 wpAny_mono (h pins s σ H D (I.y47b _) hw) (λ_ _ q=>q.y42b) λ_ _ z=>False.elim z
end
section
variable {X:Cx}{st:Stmt}{b7:List Stmt}{t u:TS}{e:Expr}{te:TE}{pos:Pos}
noncomputable def qk:TS:=λD σ H=>D.nx σ H
noncomputable def qm(t u:TS):TS:=λD σ H=>t { D with nx:=u D } σ H
theorem xH:fP X [] qk:=λ_ _ σ H _ I h=>wpAny_execs_nil ⟨σ,H,I,h⟩
theorem xI(h1:PS X st t)(h2:fP X b7 u):fP X (st::b7) (qm t u):=by
 intro pins s σ H D I h
 refine wpAny_execs_cons (aG (h1 pins s σ H { D with nx:=u D } I h) λf s1 q=>?_)
 cases f with
 | next =>
  obtain⟨σ',H',I',q⟩:=q
  exact h2 pins s1 σ' H' D I' q
 | ret v=>exact q
 | brk=>exact q
 | cont=>exact q
theorem xJ(h1:PS X st t):fP X [st] t:=by
 intro pins s σ H D I h
 refine wpAny_execs_cons (aG (h1 pins s σ H D I h) λf s1 q=>?_)
 cases f with
 | next=>exact wpAny_execs_nil q
 | ret v=>exact q
 | brk=>exact q
 | cont=>exact q
theorem Inv.quiet{pins:List (Addr×Obj)}{σ:St}{H:Hp}{s:Shared}(I:Inv X pins σ H s):interactive X.env=false:=by simp [interactive,I.ok.kind]
noncomputable def qo(te:TE):TS:=λD σ H=>te σ H λ_ H1=>D.nx σ H1
theorem xK(he:PE X e te)(hs:swapsWith e none pos.line X.env=pure false:=by rfl):PS X (.Expr e pos) (qo te):=by
 intro pins s σ H D I h
 exact wpAny_Expr_any (aG (he pins s σ H _ I h) λv s1 ⟨x,H1,I1,r1,q1⟩=>⟨σ,H1,I1,q1⟩) I.quiet hs
noncomputable def qp(te:TE):TS:=λD σ H=>te σ H D.rt
theorem xM(he:PE X e te):PS X (.Return (some e) pos) (qp te):=by
 intro pins s σ H D I h
 exact wpAny_Return_some (aG (he pins s σ H _ I h) λv s1 ⟨x,H1,I1,r1,q1⟩=>⟨x,σ,H1,I1,r1,q1⟩)
noncomputable def qq(c:TT)(t u:TS):TS:=λD σ H=>c σ H λb H1=>if b=true then t D σ H1 else u D σ H1
theorem qr{c:Expr}{a b:List Stmt}{tc:TT}(hc:PT X c tc)(ha:fP X a t)(hb:fP X b u):PS X (.If c a b pos) (qq tc t u):=by
 intro pins s σ H D I h
 refine wpAny_If (aG (hc pins s σ H _ I h) λd s1 zz=>?_)
 obtain⟨H1,I1,q1⟩:=zz
 cases d with
 | true=>exact ha pins s1 σ H1 D I1 q1
 | false=>exact hb pins s1 σ H1 D I1 q1
end
noncomputable abbrev TG:=V->St->Hp->(St->Hp->Prop)->Prop
noncomputable abbrev mK:=List V->St->Hp->(St->Hp->Prop)->Prop
noncomputable def PG(X:Cx)(target:Expr)(t:TG):Prop :=
 ∀(pins:List (Addr×Obj)) (s:Shared) (σ:St) (H:Hp) (v:V) (u:Value) (Q:St->Hp->Prop),Inv X pins σ H s->av v u->t v σ H Q ->
  wpAny (model X.prog X.w) X.A (assign target X.env u) (λ_ s'=>∃σ' H',Inv X pins σ' H' s'/\Q σ' H') X.xe s
noncomputable def qt(X:Cx)(ts:List Expr)(t:mK):Prop :=
 ∀(pins:List (Addr×Obj)) (s:Shared) (σ:St) (H:Hp) (vs:List V) (us:List Value) (Q:St->Hp->Prop),Inv X pins σ H s->ao vs us->t vs σ H Q ->
  wpAny (model X.prog X.w) X.A (assignInOrder ((assignEach ts X.env).map (·.2)) us) (λ_ s'=>∃σ' H',Inv X pins σ' H' s'/\Q σ' H') X.xe s
noncomputable abbrev nv:=V->V->V->Hp->(Hp->Prop)->Prop
noncomputable def qu(X:Cx)(t:nv):Prop :=
 ∀(pins:List (Addr×Obj)) (s:Shared) (σ:St) (H:Hp) (o i v:V) (ov iv u:Value) (Q:Hp->Prop),Inv X pins σ H s->av o ov->av i iv->av v u->t o i v H Q ->
  wpAny (model X.prog X.w) X.A (setItem ov iv u) (λ_ s'=>∃H',Inv X pins σ H' s'/\Q H') X.xe s
section
variable {X:Cx}{pos:Pos}
noncomputable def iz(i:Nat):TG:=λv σ H Q=>Q (σ.set i (some v)) H
theorem ny{i:Nat}{x:Str}(hN:X.N.Nodup)(hi:X.N[i]?=some x)(hx:nc X.env.scope x)(hf:X.fn x=true∨X.env.scope.names.lookup x=some .local:=by first|exact .inl rfl|exact .inr rfl|assumption):PG X (.Name x pos) (iz i):=by
 intro pins s σ H v u Q I r h
 exact wpAny_assign_Name (qc I hN hi hx r (λs' I'=>⟨_,H,I',h⟩) hf)
noncomputable def qv:mK:=λvs σ H Q=>vs=[]/\Q σ H
noncomputable def qw(t:TG)(u:mK):mK:=λvs σ H Q=>∃v r,vs=v::r/\t v σ H λσ' H'=>u r σ' H' Q
theorem qx:qt X [] qv:=by
 intro pins s σ H vs us Q I r h
 obtain⟨e,h⟩:=h
 subst e
 cases r
 exact assignInOrder_nil ⟨σ,H,I,h⟩
theorem nz{e:Expr}{es:List Expr}{t:TG}{u:mK}(h1:PG X e t)(h2:qt X es u)
  (hs:(assignEach (e::es) X.env).map (·.2)=assign e X.env::(assignEach es X.env).map (·.2):=by rfl):qt X (e::es) (qw t u):=by
 intro pins s σ H vs us Q I r h
 obtain⟨v,vr,e1,h⟩:=h
 subst e1
 cases r with
 | cons r rr =>
  rw [hs]
  refine assignInOrder_cons (aG (h1 pins s σ H _ _ _ I r h) λ_ s1 zz=>?_)
  obtain⟨σ1,H1,I1,q1⟩:=zz
  exact h2 pins s1 σ1 H1 _ _ Q I1 rr q1
noncomputable def kA(K:W.Frag)(n:Nat)(t:mK):TG:=λv σ H Q=>∃a xs,v=.ref a/\a7 K H a xs/\xs.length=n/\t xs σ H Q
theorem qy{es:List Expr}{k:Nat}{t:mK}{n:Nat}(hc:X.calm=true)(h:qt X es t)
  (hn:(assignEach es X.env).length=n:=by rfl) (hst:(assignEach es X.env).findIdx? (·.1)=none:=by rfl):PG X (.Tuple es k pos) (kA X.K n t):=by
 intro pins s σ H v u Q I r hw
 obtain⟨a,xs,e1,hq,hl,hw⟩:=hw
 subst e1
 cases r
 obtain⟨its,rv,ht,hz⟩:=I.tuple hq
 refine assign_Tuple_tuple (I.ok.hd hc) ht (by simp [hn,<- hl,rv.length]) hst λh' hx=>?_
 have I1:Inv X pins σ H { s with heap:=h' }:=I.kept (t':=s.toks) λb o e=>hx b o (z26 (z17 e)) e
 exact h pins _ σ H xs _ Q I1 (by simpa using rv) hw
noncomputable def qz(to ti:TE)(t:nv):TG:=λv σ H Q=>to σ H λo H1=>ti σ H1 λi H2=>t o i v H2 λH3=>Q σ H3
theorem xN{o i:Expr}{to ti:TE}{t:nv}(ho:PE X o to)(hi:PE X i ti)(hs:qu X t)
  (ha:∀v,assign (.Subscript o i pos) X.env v=(do
   let ov <- holding [v] (eval o X.env)
   let iv <- holding [v,ov] (eval i X.env)
   standAt pos
   holding [v,ov,iv] (setItem ov iv v)
   release [v,ov,iv] []):=by intro _;rfl):PG X (.Subscript o i pos) (qz to ti t):=by
 intro pins s σ H v u Q I r h
 rw [ha]
 refine zc (wpAny_holding (aG (ho pins s σ H _ I h) λov s1 zz=>?_))
 obtain⟨x,H1,I1,r1,q1⟩:=zz
 refine zc (wpAny_holding (aG (hi pins s1 σ H1 _ I1 q1) λiv s2 zz=>?_))
 obtain⟨y,H2,I2,r2,q2⟩:=zz
 refine zc (wpAny_standAt (zc (wpAny_holding (aG (hs pins s2 σ H2 x y v ov iv u _ I2 r1 r2 r q2) λ_ s3 zz=>?_))))
 obtain⟨H3,I3,q3⟩:=zz
 exact wpAny_release ⟨σ,H3,I3,q3⟩
noncomputable def kB(te:TE)(g:TG):TS:=λD σ H=>te σ H λx H1=>g x σ H1 D.nx
theorem qA{tg e:Expr}{te:TE}{g:TG}(he:PE X e te)(hg:PG X tg g)(hs:swapsWithSole [tg] e pos.line X.env=pure false:=by rfl)(hw:swappedStores [tg] e X.env=pure none:=by rfl)
  (h1:(assignEach [tg] X.env).map (·.2)=[assign tg X.env]:=by rfl):PS X (.Assign [tg] e pos) (kB te g):=by
 intro pins s σ H D I h
 refine wpAny_Assign_stores (aG (he pins s σ H _ I h) λv s1 ⟨x,H1,I1,r1,q1⟩=>?_) hs hw
 rw [h1]
 exact aG (hg pins s1 σ H1 x v _ I1 r1 q1) λ_ s2 q=>q
theorem xO{i:Nat}{x:Str}{e:Expr}{te:TE}{pos':Pos}(hN:X.N.Nodup)(hi:X.N[i]?=some x)(hx:nc X.env.scope x)(he:PE X e te)(hs:swapsWith e (some (.Name x pos')) pos.line X.env=pure false:=by rfl)(hf:X.fn x=true∨X.env.scope.names.lookup x=some .local:=by first|exact .inl rfl|exact .inr rfl|assumption) :
  PS X (.Assign [.Name x pos'] e pos) (kB te (iz i)):=by
 intro pins s σ H D I h
 refine wpAny_Assign_Name (aG (he pins s σ H _ I h) λv s1 ⟨y,H1,I1,r1,q1⟩=>?_) hs
 exact qc I1 hN hi hx r1 (λs2 I2=>⟨_,H1,I2,q1⟩) hf
end
section
variable {X:Cx}{pos:Pos}
noncomputable def qB(c:TT)(tb:TS):TS:=λD σ H=>∃W:Nat->St->Hp->Prop,(∃m,W m σ H)/\∀m σ H,W m σ H ->
 c σ H λb H1=>if b=true then ∃N:St->Hp->Prop,(∀σ' H',N σ' H'->∃m',m'<m/\W m' σ' H')/\tb { D with nx:=N,ct:=N,bk:=D.nx } σ H1 else D.nx σ H1
theorem xP{c:Expr}{body:List Stmt}{tc:TT}{tb:TS}(hp:PassesOwn (model X.prog X.w) X.A X.env X.xe)(hc:PT X c tc)(hb:fP X body tb):PS X (.While c body [] pos) (qB tc tb):=by
 intro pins s σ H D I h
 obtain⟨W,⟨m0,w0⟩,turn⟩:=h
 refine wpAny_While (codeAny_whileLoop (λn s'=>∃σ' H',Inv X pins σ' H' s'/\W n σ' H') ?_ m0 ⟨σ,H,I,w0⟩)
 rintro n s1 ⟨σ1,H1,I1,w1⟩
 refine wpAny_passesOwn hp (aG (hc pins s1 σ1 H1 _ I1 (turn n σ1 H1 w1)) λb s2 zz=>?_)
 obtain⟨H2,I2,q2⟩:=zz
 cases b with
 | true =>
  obtain⟨N,hN,q2⟩:=q2
  rw [if_pos rfl]
  refine wpAny_passesOwn hp (aG (hb pins s2 σ1 H2 _ I2 q2) λf s3 q3=>?_)
  cases f with
  | next =>
   obtain⟨σ3,H3,I3,n3⟩:=q3
   obtain⟨m',hm,w3⟩:=hN σ3 H3 n3
   exact⟨m',hm,σ3,H3,I3,w3⟩
  | cont =>
   obtain⟨σ3,H3,I3,n3⟩:=q3
   obtain⟨m',hm,w3⟩:=hN σ3 H3 n3
   exact⟨m',hm,σ3,H3,I3,w3⟩
  | brk=>exact q3
  | ret v=>exact q3
 | false =>
  rw [if_neg z16]
  exact wpAny_execs_nil ⟨σ1,H2,I2,q2⟩
end
structure It where
 go:Nat->Hp->Prop
 yld:Nat->Hp->V->Hp->Prop
 stop:Nat->Hp->Prop
noncomputable def gG(X:Cx)(pins:List (Addr×Obj))(H:Hp)(b:Addr):Prop :=
 H b=none/\b≠X.env.locals/\b∉X.fs/\(b∈X.ex∨X.s₀.heap.objs.size≤b)/\(∀x c,X.env.cells.lookup x=some c->c≠b)/\∀p∈X.pn++pins,p.1≠b
theorem Inv.y14e{X:Cx}{pins:List (Addr×Obj)}{σ:St}{H H':Hp}{s:Shared}{b:Addr}(I:Inv X pins σ H s)(hb:s.heap.objs.size≤b)(hn:H' b=none):gG X pins H' b:=by
 refine⟨hn,Nat.ne_of_gt (z1b I.lt hb),I.nofs hb,.inr (z25 I.sz hb),λx c e z=>?_,λp hp z=>?_⟩
 ·obtain⟨v,q⟩:=I.cell x c e
  exact absurd (z1b q.lt (by rw [z];exact hb)) (z32 _)
 ·exact absurd (z1b (z17 (I.pin p hp).1) (by rw [z];exact hb)) (z32 _)
structure Turn(P:Program)(w:World)(K:W.Frag)(tg:Expr)(J:It)(fp:List Addr)(it:Addr)(tn:Nat->Heap->Prop):Prop where
 mem:it∈fp
 obj:∀i h,tn i h->∀b∈fp,∃o,h.get? b=some o/\∀v,o.data≠.cell v
 keep:∀i h h',tn i h->(∀b∈fp,∀o,h.get? b=some o->h'.get? b=some o)->tn i h'
 item:∀(X:Cx),X.prog=P->X.w=w->X.K=K->X.calm=true->∀(i:Nat) (pins:List (Addr×Obj)) (s:Shared) (σ:St) (H:Hp) (E:Value->Shared->Prop),Inv X pins σ H s->(∀b∈fp,gG X pins H b)->tn i s.heap->J.go i H ->
  wpAny (model P w) X.A (pyNext (.ref it)) (λr s1=>∃u,r=some u /\
   wpAny (model P w) X.A (letOwnedTupleGo tg (.ref it) u) (λ_ s2=>∃x H',Inv X pins σ H' s2/\av x u/\J.yld i H x H'/\tn (i+1) s2.heap/\∀b∈fp,H' b=none) E s1) E s
 done:∀(X:Cx),X.prog=P->X.w=w->X.K=K->X.calm=true->∀(i:Nat) (pins:List (Addr×Obj)) (s:Shared) (σ:St) (H:Hp) (E:Value->Shared->Prop),Inv X pins σ H s->(∀b∈fp,gG X pins H b)->tn i s.heap->J.stop i H ->
  wpAny (model P w) X.A (pyNext (.ref it)) (λr s1=>r=none/\Inv X pins σ H s1) E s
 self:∀(A:Around) (i:Nat) (s:Shared) (Q:Value->Shared->Prop) (E:Value->Shared->Prop),tn i s.heap->Q (.ref it) s->wpAny (model P w) A (pyIter (.ref it)) Q E s
noncomputable abbrev TI:=St->Hp->(It->Hp->Prop)->Prop
noncomputable def PIE(X:Cx)(pins:List (Addr×Obj))(σ:St)(tg:Expr)(R:It->Hp->Prop)(itv:Value)(s2:Shared):Prop :=
 ∃(it:Addr) (fp:List Addr) (tn:Nat->Heap->Prop) (J:It) (H':Hp),itv=.ref it/\Inv X pins σ H' s2/\Turn X.prog X.w X.K tg J fp it tn/\tn 0 s2.heap/\(∀b∈fp,gG X pins H' b)/\R J H'
noncomputable def PI(X:Cx)(tg iter:Expr)(wi:TI):Prop :=
 ∀(pins:List (Addr×Obj)) (s:Shared) (σ:St) (H:Hp) (R:It->Hp->Prop),Inv X pins σ H s->wi σ H R ->
  wpAny (model X.prog X.w) X.A (eval iter X.env) (λv s1=>wpAny (model X.prog X.w) X.A (pyIter v) (PIE X pins σ tg R) X.xe s1) X.xe s
theorem kC{M:Model}{A:Around}{E:Value->Shared->Prop}{s:Shared}{tg:Expr}{it:Addr}{u:Value}{o:Obj}{n:String}{vs:Array Value}{Q:Unit->Shared->Prop}(ho:s.heap.get? it=some o)(hc:o.cls=.type n)(hd:o.data=.fields vs)
  (hn:["enumerate","zip","dict_itemiterator","dict_reverseitemiterator","odict_iterator","itertools.zip_longest","itertools.pairwise"].contains n=false) (hQ:Q () s):wpAny M A (letOwnedTupleGo tg (.ref it) u) Q E s:=by
 unfold letOwnedTupleGo
 cases tg<;>first
  | exact z15 hQ
  | (cases u<;>first
    | exact z15 hQ
    | (refine zc (wpAny_load ho ?_);rw [hc,hd];show wpAny M A (if (["enumerate","zip","dict_itemiterator","dict_reverseitemiterator","odict_iterator","itertools.zip_longest","itertools.pairwise"].contains n&&vs[0]? == some (rawInt _))=true then _ else _) Q E s;rw [if_neg (by intro h;rw [hn,Bool.false_and] at h;cases h)];exact z15 hQ))
noncomputable def wy(K:W.Frag)(a:Addr):It :=
 ⟨λi H=>∃xs x,aZ K H a xs/\xs[i]?=some x,λi H x H'=>H'=H/\∀xs,aZ K H a xs->xs[i]?=some x,λi H=>∃xs,aZ K H a xs/\xs.length≤i⟩
noncomputable def wz(K:W.Frag)(a:Addr):It :=
 ⟨λi H=>∃xs x,a7 K H a xs/\xs[i]?=some x,λi H x H'=>H'=H/\∀xs,a7 K H a xs->xs[i]?=some x,λi H=>∃xs,a7 K H a xs/\xs.length≤i⟩
noncomputable def qC(lo:Int)(n:Nat):It:=⟨λi _=>i<n,λi H x H'=>H'=H/\x=.int (lo+i),λi _=>n≤i⟩
theorem xQ{P:Program}{w:World}{K:W.Frag}{tg:Expr}(a it:Addr):Turn P w K tg (wy K a) [it] it (λi h=>h.IsListIter it a i) where
 mem:=by simp
 obj:=λi h st b hb=>by
  have e:b=it:=by simpa using hb
  subst e
  obtain⟨o,e,c,d⟩:=st
  exact⟨o,e,λv z=>by rw [d] at z;cases z⟩
 keep:=λi h h' st k=>st.at λo e=>k it (by simp) o e
 item:=by
  intro X hP hw hK hc i pins s σ H E I hf st hg
  subst hP hw hK
  obtain⟨xs,x,hq,hx⟩:=hg
  obtain⟨its,rv,p,hz⟩:=I.list hq
  obtain⟨u,hu,ru⟩:=rv.get hx
  obtain⟨f0,f1,f2,f3,f4,f5⟩:=hf it (by simp)
  refine wpAny_pyNext_list_item st p.isList (x:=u) (by simpa using hu) λh' st' sb=>?_
  have I1:Inv X pins σ H { s with heap:=h' }:=I.turned (t':=s.toks) (λb o hb e=>(sb.2 b hb).trans e) f0 f1 f3 f4 f5
  obtain⟨o,e,c,d⟩:=id st'
  exact⟨u,rfl,kC (s:={ s with heap:=h' }) e c d (by decide) ⟨x,H,I1,ru,⟨rfl,λys hy=>by rw [I.y1f2 hy hq];exact hx⟩,st',λb hb=>(hf b hb).1⟩⟩
 done:=by
  intro X hP hw hK hc i pins s σ H E I hf st hg
  subst hP hw hK
  obtain⟨xs,hq,hx⟩:=hg
  obtain⟨its,rv,p,hz⟩:=I.list hq
  obtain⟨f0,f1,f2,f3,f4,f5⟩:=hf it (by simp)
  have hl:=rv.length
  exact wpAny_pyNext_list_end (I.ok.hd hc) st p.isList (by simp;lia) λh' eb=>⟨rfl,I.turned (t':=s.toks) (λb o hb e=>eb b o hb e) f0 f1 f3 f4 f5⟩
 self:=λ_ _ _ _ _ st h=>wpAny_pyIter_listiter st h
theorem xR{P:Program}{w:World}{K:W.Frag}{tg:Expr}(a it:Addr):Turn P w K tg (wz K a) [it] it (λi h=>h.IsTupleIter it a i) where
 mem:=by simp
 obj:=λi h st b hb=>by
  have e:b=it:=by simpa using hb
  subst e
  obtain⟨o,e,c,d⟩:=st
  exact⟨o,e,λv z=>by rw [d] at z;cases z⟩
 keep:=λi h h' st k=>st.at λo e=>k it (by simp) o e
 item:=by
  intro X hP hw hK hc i pins s σ H E I hf st hg
  subst hP hw hK
  obtain⟨xs,x,hq,hx⟩:=hg
  obtain⟨its,rv,p,hz⟩:=I.tuple hq
  obtain⟨u,hu,ru⟩:=rv.get hx
  obtain⟨f0,f1,f2,f3,f4,f5⟩:=hf it (by simp)
  refine wpAny_pyNext_tuple_item st (show s.heap.IsTuple a its.toArray from p) (x:=u) (by simpa using hu) λh' st' sb=>?_
  have I1:Inv X pins σ H { s with heap:=h' }:=I.turned (t':=s.toks) (λb o hb e=>(sb.2 b hb).trans e) f0 f1 f3 f4 f5
  obtain⟨o,e,c,d⟩:=id st'
  exact⟨u,rfl,kC (s:={ s with heap:=h' }) e c d (by decide) ⟨x,H,I1,ru,⟨rfl,λys hy=>by rw [I.y41c hy hq];exact hx⟩,st',λb hb=>(hf b hb).1⟩⟩
 done:=by
  intro X hP hw hK hc i pins s σ H E I hf st hg
  subst hP hw hK
  obtain⟨xs,hq,hx⟩:=hg
  obtain⟨its,rv,p,hz⟩:=I.tuple hq
  obtain⟨f0,f1,f2,f3,f4,f5⟩:=hf it (by simp)
  have hl:=rv.length
  exact wpAny_pyNext_tuple_end (I.ok.hd hc) st (show s.heap.IsTuple a its.toArray from p) (by simp;lia) λh' eb=>⟨rfl,I.turned (t':=s.toks) (λb o hb e=>eb b o hb e) f0 f1 f3 f4 f5⟩
 self:=λ_ _ _ _ _ st h=>wpAny_pyIter_tupleiter st h
theorem xS{P:Program}{w:World}{K:W.Frag}{tg:Expr}(it:Addr)(lo:Int)(n:Nat):Turn P w K tg (qC lo n) [it] it (λi h=>IsRangeIter h it (lo+(i:Nat)*1) ((n:Int)-(i:Nat)) 1) where
 mem:=by simp
 obj:=λi h st b hb=>by
  have e:b=it:=by simpa using hb
  subst e
  exact⟨_,st,λv z=>by
   have z':Data.fields _=Data.cell v:=z
   cases z'⟩
 keep:=λi h h' st k=>k it (by simp) _ st
 item:=by
  intro X hP hw hK hc i pins s σ H E I hf st hg
  subst hP hw hK
  obtain⟨f0,f1,f2,f3,f4,f5⟩:=hf it (by simp)
  have W:=Walks.range (prog:=X.prog) (w:=X.w) (I.ok.hd hc) it lo 1 n
  refine W.item i s _ _ hg st λv h' tk hv st' kk=>?_
  obtain⟨t,rfl⟩:=hv
  have I1:Inv X pins σ H { s with heap:=h',toks:=tk }:=I.turned (λb o hb e=>kk b o (by simpa using hb) e) f0 f1 f3 f4 f5
  refine⟨_,rfl,kC (s:={ s with heap:=h',toks:=tk }) (n:="range_iterator") st' rfl rfl (by decide) ⟨.int (lo+i),H,I1,⟨t,?_⟩,⟨rfl,rfl⟩,st',λb hb=>(hf b hb).1⟩⟩
  rw [Int.mul_one]
 done:=by
  intro X hP hw hK hc i pins s σ H E I hf st hg
  subst hP hw hK
  obtain⟨f0,f1,f2,f3,f4,f5⟩:=hf it (by simp)
  exact wpAny_pyNext_range_end (I.ok.hd hc) st (by have:n≤i:=hg;lia) λh' eb=>⟨rfl,I.turned (t':=s.toks) (λb o hb e=>eb b o hb e) f0 f1 f3 f4 f5⟩
 self:=λ_ _ _ _ _ st h=>wpAny_pyIter_rangeiter st h
end
section
section
variable {X:Cx}{tg:Expr}
noncomputable def qD(K:W.Frag)(tl:TE):TI:=λσ H R=>tl σ H λx H1=>∃a,x=.ref a/\(∃xs,aZ K H1 a xs)/\R (wy K a) H1
noncomputable def qE(K:W.Frag)(tl:TE):TI:=λσ H R=>tl σ H λx H1=>∃a,x=.ref a/\(∃xs,a7 K H1 a xs)/\R (wz K a) H1
theorem xT{l:Expr}{tl:TE}(hl:PE X l tl):PI X tg l (qD X.K tl):=by
 intro pins s σ H R I h
 refine aG (hl pins s σ H _ I h) λv s1 zz=>?_
 obtain⟨x,H1,I1,r1,q1⟩:=zz
 obtain⟨a,e,⟨xs,hq⟩,q⟩:=q1
 subst e
 cases r1
 obtain⟨its,rv,p,hz⟩:=I1.list hq
 refine wpAny_pyIter_list p.isList ?_
 refine⟨s1.heap.objs.size,[s1.heap.objs.size],_,_,H1,rfl,I1.kept (t':=s1.toks) λb o e=>z13 _ e,xQ a _,⟨_,z21 _ rfl,rfl,rfl⟩,λb hb=>?_,q⟩
 have e:b=s1.heap.objs.size:=by simpa using hb
 subst e
 exact I1.y14e (z12 _) (I1.hok.fresh (z12 _))
theorem xU{l:Expr}{tl:TE}(hl:PE X l tl):PI X tg l (qE X.K tl):=by
 intro pins s σ H R I h
 refine aG (hl pins s σ H _ I h) λv s1 zz=>?_
 obtain⟨x,H1,I1,r1,q1⟩:=zz
 obtain⟨a,e,⟨xs,hq⟩,q⟩:=q1
 subst e
 cases r1
 obtain⟨its,rv,p,hz⟩:=I1.tuple hq
 refine wpAny_pyIter_tuple (show s1.heap.IsTuple a its.toArray from p) ?_
 refine⟨s1.heap.objs.size,[s1.heap.objs.size],_,_,H1,rfl,I1.kept (t':=s1.toks) λb o e=>z13 _ e,xR a _,⟨_,z21 _ rfl,rfl,rfl⟩,λb hb=>?_,q⟩
 have e:b=s1.heap.objs.size:=by simpa using hb
 subst e
 exact I1.y14e (z12 _) (I1.hok.fresh (z12 _))
theorem xV{pins:List (Addr×Obj)}{σ:St}{H:Hp}{s:Shared}{R:It->Hp->Prop}{E:Value->Shared->Prop}{lo hi:Int}{t u v:Tok}{tk:Nat}(I:Inv X pins σ H s)(h1:-(2 ^ 62)≤lo)(h2:lo<2 ^ 62)(h3:-(2 ^ 62)≤hi)(h4:hi<2 ^ 62)
  (q:R (qC lo (hi-lo).toNat) H):wpAny (model X.prog X.w) X.A (pyIter (.ref s.heap.objs.size)) (PIE X pins σ tg R) E { s with heap:=s.heap.push { cls:=.type "range",data:=.fields #[.int lo t,.int hi u,.int 1 v] },toks:=tk }:=by
 refine wpAny_pyIter_range (IsRange.new ..) (small_one h1 h2 h3 h4) ?_
 have I1:Inv X pins σ H { s with heap:=s.heap.push { cls:=.type "range",data:=.fields #[.int lo t,.int hi u,.int 1 v] },toks:=tk }:=I.kept λb o e=>z13 _ e
 refine⟨(s.heap.push { cls:=.type "range",data:=.fields #[.int lo t,.int hi u,.int 1 v] }).objs.size,[(s.heap.push { cls:=.type "range",data:=.fields #[.int lo t,.int hi u,.int 1 v] }).objs.size],_,_,H,rfl,
  I1.kept (t':=tk) λb o e=>z13 _ e,xS _ lo (hi-lo).toNat,?_,λb hb=>?_,q⟩
 ·have e1:lo+((0:Nat):Int)*1=lo:=by simp
  have e2:(((hi-lo).toNat:Nat):Int)-((0:Nat):Int)=Builtin.Range.rangeSize lo hi 1:=by rw [rangeSize_one];split<;>lia
  show IsRangeIter _ _ (lo+((0:Nat):Int)*1) ((((hi-lo).toNat:Nat):Int)-((0:Nat):Int)) 1
  rw [e1,e2]
  exact z21 _ rfl
 ·have e:b=(s.heap.push { cls:=.type "range",data:=.fields #[.int lo t,.int hi u,.int 1 v] }).objs.size:=by simpa using hb
  subst e
  exact I1.y14e (z12 _) (I1.hok.fresh (z12 _))
noncomputable def qF(ta:TA):TI:=λσ H R=>ta σ H λvs H1=>∃j:Int,vs=[.int j]/\-(2 ^ 62)≤j/\j<2 ^ 62/\R (qC 0 j.toNat) H1
theorem xW{a:Expr}{ta:TA}{p pos:Pos}(hg:Gl X "range")(hm:X.mg "range" = none)(ha:PA X [a] ta)(hs:starEach [a] X.env=[(false,eval a X.env)]:=by rfl):PI X tg (.Call (.Name "range" p) [a] [] pos) (qF ta):=by
 intro pins s σ H R I h
 refine Call_ (eN I hg hm boot_range (PyProof.Rows.callWith_type1 (aG (ha pos pins s σ H _ I h) λus s1 ⟨vs,H1,I1,r1,q1⟩=>?_) hs rfl))
 obtain⟨j,e,q1,q2,q⟩:=q1
 subst e
 cases r1 with
 | cons r rr =>
  cases rr
  obtain⟨t,rfl⟩:=r
  exact call_range_1 (xV I1 (by lia) (by lia) q1 q2 (by simpa using q))
noncomputable def qG(wi:TI)(g:TG)(tb:TS):TS:=λD σ H=>wi σ H λJ H1=>∃W:Nat->Nat->St->Hp->Prop,(∃m,W 0 m σ H1)/\∀i m σ H,W i m σ H ->
 (J.stop i H/\D.nx σ H)∨(J.go i H/\∃N:St->Hp->Prop,(∀σ' H',N σ' H'->∃m',m'<m/\W (i+1) m' σ' H')/\∀x H',J.yld i H x H'->g x σ H' λσ2 H2=>tb { D with nx:=N,ct:=N,bk:=D.nx } σ2 H2)
noncomputable def jt(fp:List Addr)(h:Heap):List (Addr×Obj):=fp.filterMap λb=>(h.get? b).map λo=>(b,o)
theorem kD{fp:List Addr}{h:Heap}{b:Addr}{o:Obj}(hb:b∈fp)(e:h.get? b=some o):(b,o)∈jt fp h:=List.mem_filterMap.mpr ⟨b,hb,by rw [e];rfl⟩
theorem xX{fp:List Addr}{h:Heap}{p:Addr×Obj}(hp:p∈jt fp h):p.1∈fp/\h.get? p.1=some p.2:=by
 obtain⟨b,hb,e⟩:=List.mem_filterMap.mp hp
 cases q:h.get? b with
 | none=>rw [q] at e;cases e
 | some o =>
  rw [q] at e
  have e':(b,o)=p:=z27 e
  subst e'
  exact⟨hb,q⟩
theorem Inv.pinned{pins:List (Addr×Obj)}{σ:St}{H:Hp}{s:Shared}{fp:List Addr}(I:Inv X pins σ H s)(hf:∀b∈fp,gG X pins H b)(ho:∀b∈fp,∃o,s.heap.get? b=some o/\∀v,o.data≠.cell v):Inv X (pins++jt fp s.heap) σ H s :=
 I.y2ed λp hp=>(z1d.mp hp).elim (λz=>I.pin p (z22 _ z)) λz=>by
  obtain⟨hb,e⟩:=xX z
  obtain⟨f0,f1,f2,_⟩:=hf p.1 hb
  obtain⟨o,e',d⟩:=ho p.1 hb
  rw [e] at e';cases e'
  exact⟨e,f0,f1,f2,d⟩
theorem Inv.y42a{pins pl:List (Addr×Obj)}{σ:St}{H:Hp}{s:Shared}(I:Inv X (pins++pl) σ H s):Inv X pins σ H s:=I.y2ed λp hp=>I.pin p (z22 _ (List.mem_append_left _ hp))
theorem xY{iter:Expr}{body:List Stmt}{wi:TI}{g:TG}{tb:TS}{pos:Pos}(hp:PassesOwn (model X.prog X.w) X.A X.env X.xe)(hc:X.calm=true)(hi:PI X tg iter wi)(hg:PG X tg g)(hb:fP X body tb)
  (hs:∀x,foldedSetIterable iter X.env x=pure x:=by intro _;rfl):PS X (.For tg iter body [] pos) (qG wi g tb):=by
 intro pins s σ H D I h
 refine wpAny_For (aG (hi pins s σ H _ I h) λv s1 h1=>aG h1 λitv s2 h2=>?_) hs
 obtain⟨it,fp,tn,J,H2,e,I2,T,st2,f2,W,⟨m0,w0⟩,turn⟩:=h2
 subst e
 have stat:∀{H':Hp},(∀b∈fp,H' b=none)->∀b∈fp,gG X pins H' b:=λhn b hb=>⟨hn b hb,(f2 b hb).2⟩
 refine codeAny_forLoop_any (λn s'=>∃i σ' H',Inv X pins σ' H' s'/\tn i s'.heap/\(∀b∈fp,H' b=none)/\W i n σ' H') ?_ m0 ⟨0,σ,H2,I2,st2,λb hb=>(f2 b hb).1,w0⟩
 rintro n s3 ⟨i,σ3,H3,I3,st3,fr3,w3⟩
 rcases turn i n σ3 H3 w3 with⟨stop,qn⟩| ⟨go,N,hN,step⟩
 ·refine wpAny_passesOwn hp (aG (T.done X rfl rfl rfl hc i pins s3 σ3 H3 X.xe I3 (stat fr3) st3 stop) λr s4 zz=>?_)
  obtain⟨hr,I4⟩:=zz
  subst hr
  exact wpAny_execs_nil ⟨σ3,H3,I4,qn⟩
 ·refine wpAny_passesOwn hp (aG (T.item X rfl rfl rfl hc i pins s3 σ3 H3 X.xe I3 (stat fr3) st3 go) λr s4 zz=>?_)
  obtain⟨u,hr,h4⟩:=zz
  subst hr
  refine wpAny_passesOwn hp (aG h4 λ_ s5 zz=>?_)
  obtain⟨x,H5,I5,r5,y5,st5,fr5⟩:=zz
  have I5':=I5.pinned (stat fr5) (T.obj _ _ st5)
  refine wpAny_passesOwn hp (aG (hg _ s5 σ3 H5 x u _ I5' r5 (step x H5 y5)) λ_ s6 zz=>?_)
  obtain⟨σ6,H6,I6,q6⟩:=zz
  refine wpAny_passesOwn hp (aG (hb _ s6 σ6 H6 _ I6 q6) λf s7 q7=>?_)
  have again:∀{σ7:St} {H7:Hp},Inv X (pins++jt fp s5.heap) σ7 H7 s7->N σ7 H7->∃m,m<n/\∃i σ' H',Inv X pins σ' H' s7/\tn i s7.heap/\(∀b∈fp,H' b=none)/\W i m σ' H':=λ{σ7 H7} I7 n7=>by
   obtain⟨m',hm,w7⟩:=hN σ7 H7 n7
   refine⟨m',hm,i+1,σ7,H7,I7.y42a,T.keep _ _ _ st5 λb hb o e=>(I7.pin (b,o) (z22 _ (z22 _ (kD hb e)))).1,λb hb=>?_,w7⟩
   obtain⟨o,e,d⟩:=T.obj _ _ st5 b hb
   exact (I7.pin (b,o) (z22 _ (z22 _ (kD hb e)))).2.1
  cases f with
  | next=>obtain⟨σ7,H7,I7,n7⟩:=q7;exact again I7 n7
  | cont=>obtain⟨σ7,H7,I7,n7⟩:=q7;exact again I7 n7
  | brk=>obtain⟨σ7,H7,I7,q7⟩:=q7;exact⟨σ7,H7,I7.y42a,q7⟩
  | ret v=>obtain⟨x7,σ7,H7,I7,r7,q7⟩:=q7;exact⟨x7,σ7,H7,I7.y42a,r7,q7⟩
end
end
section
noncomputable abbrev R2:=V->V->Hp->VK->Prop
noncomputable def bH(X:Cx)(f:Value->Value->Sem Value)(r:R2):Prop :=
 ∀(pins:List (Addr×Obj)) (s:Shared) (σ:St) (H:Hp) (x y:V) (v u:Value) (Q:VK),Inv X pins σ H s->av x v->av y u->r x y H Q ->
  wpAny (model X.prog X.w) X.A (f v u) (EP X pins σ Q) X.xe s
noncomputable def wA(X:Cx)(f:Value->Sem Value)(r:V->Hp->VK->Prop):Prop :=
 ∀(pins:List (Addr×Obj)) (s:Shared) (σ:St) (H:Hp) (x:V) (v:Value) (Q:VK),Inv X pins σ H s->av x v->r x H Q ->
  wpAny (model X.prog X.w) X.A (f v) (EP X pins σ Q) X.xe s
noncomputable def ya(X:Cx)(f:Value)(r:List V->Hp->VK->Prop):Prop :=
 ∀(pins:List (Addr×Obj)) (s:Shared) (σ:St) (H:Hp) (xs:List V) (us:List Value) (Q:VK),Inv X pins σ H s->ao xs us->r xs H Q ->
  wpAny (model X.prog X.w) X.A (call f us) (EP X pins σ Q) X.xe s
noncomputable def xZ(X:Cx)(r:V->Hp->(Bool->Hp->Prop)->Prop):Prop :=
 ∀(pins:List (Addr×Obj)) (s:Shared) (σ:St) (H:Hp) (x:V) (v:Value) (Q:Bool->Hp->Prop),Inv X pins σ H s->av x v->r x H Q ->
  wpAny (model X.prog X.w) X.A (truthy v) (TP X pins σ Q) X.xe s
noncomputable def mL(r:R2)(ta tb:TE):TE:=λσ H Q=>ta σ H λx H1=>tb σ H1 λy H2=>r x y H2 Q
noncomputable def tUn(r:V->Hp->VK->Prop)(ta:TE):TE:=λσ H Q=>ta σ H λx H1=>r x H1 Q
noncomputable def rI(C:Int->Int->Prop)(g:Int->Int->V):R2:=λx y H Q=>∃i j,x=.int i/\y=.int j/\C i j/\Q (g i j) H
noncomputable def fj(g:Int->Int->V):R2:=λx y H Q=>∃i j,x=.int i/\y=.int j/\Q (g i j) H
noncomputable def rU(g:Int->V):V->Hp->VK->Prop:=λx H Q=>∃i,x=.int i/\Q (g i) H
section
variable {X:Cx}{a b c:Expr}{ta tb tc:TE}{pos:Pos}
theorem nA(ha:PE X a ta)(hb:PE X b tb){pins:List (Addr×Obj)}{s:Shared}{σ:St}{H:Hp}{R:V->V->Hp->Prop}(I:Inv X pins σ H s)
  (h:ta σ H λx H1=>tb σ H1 λy H2=>R x y H2) {Q:Value->Shared->Prop} {f:Value->Value->Sem Value}
  (hf:∀v u s2 x y H2,Inv X pins σ H2 s2->av x v->av y u->R x y H2->wpAny (model X.prog X.w) X.A (f v u) Q X.xe s2) :
  wpAny (model X.prog X.w) X.A (eval a X.env) (λv s₁=>wpAny (model X.prog X.w) X.A (eval b X.env) (λu s₂=>wpAny (model X.prog X.w) X.A (f v u) Q X.xe s₂) X.xe s₁) X.xe s:=by
 refine aG (ha pins s σ H _ I h) λv s1 zz=>?_
 obtain⟨x,H1,I1,r1,q1⟩:=zz
 refine aG (hb pins s1 σ H1 _ I1 q1) λu s2 zz=>?_
 obtain⟨y,H2,I2,r2,q2⟩:=zz
 exact hf v u s2 x y H2 I2 r1 r2 q2
theorem qH{op:Operator}{r:R2}(ho:bH X (binaryOp op) r)(ha:PE X a ta)(hb:PE X b tb):PE X (.BinOp a op b pos) (mL r ta tb):=by
 intro pins s σ H Q I h
 exact wpAny_BinOp (nA ha hb I h λv u s2 x y H2 I2 rx ry q=>ho pins s2 σ H2 x y v u Q I2 rx ry q)
theorem nB{op:UnaryOp}{r:V->Hp->VK->Prop}(ho:wA X (unaryOp op) r)(ha:PE X a ta):PE X (.UnaryOp op a pos) (tUn r ta):=by
 intro pins s σ H Q I h
 exact UnaryOp_ (aG (ha pins s σ H _ I h) λv s1 ⟨x,H1,I1,r1,q1⟩=>ho pins s1 σ H1 x v Q I1 r1 q1)
theorem nC{f:Value->Value->Sem Value}{C:Int->Int->Prop}{g:Int->Int->Int}
  (rule:∀(i j:Int) (t u:Tok) (s:Shared) (Q:Value->Shared->Prop) (E:Value->Shared->Prop),C i j->Q (.int (g i j) s.toks) { s with toks:=s.toks+1 }->wpAny (model X.prog X.w) X.A (f (.int i t) (.int j u)) Q E s) :
  bH X f (rI C λi j=>.int (g i j)):=by
 intro pins s σ H x y v u Q I rx ry h
 obtain⟨i,j,rfl,rfl,hc,q⟩:=h
 obtain⟨t,rfl⟩:=rx
 obtain⟨t',rfl⟩:=ry
 exact rule i j t t' s _ _ hc ⟨.int (g i j),H,I.tok _,⟨_,rfl⟩,q⟩
theorem kE{f:Value->Value->Sem Value}{g:Int->Int->Int}
  (rule:∀(i j:Int) (t u:Tok) (s:Shared) (Q:Value->Shared->Prop) (E:Value->Shared->Prop),Q (.int (g i j) s.toks) { s with toks:=s.toks+1 }->wpAny (model X.prog X.w) X.A (f (.int i t) (.int j u)) Q E s) :
  bH X f (fj λi j=>.int (g i j)):=by
 intro pins s σ H x y v u Q I rx ry h
 obtain⟨i,j,rfl,rfl,q⟩:=h
 obtain⟨t,rfl⟩:=rx
 obtain⟨t',rfl⟩:=ry
 exact rule i j t t' s _ _ ⟨.int (g i j),H,I.tok _,⟨_,rfl⟩,q⟩
theorem kF{f:Value->Value->Sem Value}{g:Int->Int->Bool}
  (rule:∀(i j:Int) (t u:Tok) (s:Shared) (Q:Value->Shared->Prop) (E:Value->Shared->Prop),Q (.bool (g i j)) s->wpAny (model X.prog X.w) X.A (f (.int i t) (.int j u)) Q E s) :
  bH X f (fj λi j=>.bl (g i j)):=by
 intro pins s σ H x y v u Q I rx ry h
 obtain⟨i,j,rfl,rfl,q⟩:=h
 obtain⟨t,rfl⟩:=rx
 obtain⟨t',rfl⟩:=ry
 exact rule i j t t' s _ _ ⟨.bl (g i j),H,I,rfl,q⟩
noncomputable def x9(i j:Int):Prop:=0<j/\j<1073741824
noncomputable def y9(i j:Int):Prop:=0≤j/\j≤1000000/\i.natAbs<2 ^ 64
noncomputable def y8(i j:Int):Prop:=(-(2 ^ 64)<i/\i<2 ^ 64)∨(-(2 ^ 64)<j/\j<2 ^ 64)
theorem y8.ok{i j:Int}(h:y8 i j):IntMulOk i j:=by
 rcases h with⟨h1,h2⟩| ⟨h1,h2⟩
 ·exact .of_left (intBits_le_64 h1 h2)
 ·exact .of_right (intBits_le_64 h1 h2)
theorem yg(k:Nat):(0:Int)≤2 ^ k:=by
 rw [two_pow_cast]
 exact Int.natCast_nonneg _
theorem yh:bH X (binaryOp .Add) (fj λi j=>.int (i+j)):=kE λ_ _ _ _ _ _ _ q=>add_int q
theorem yi:bH X (binaryOp .Sub) (fj λi j=>.int (i-j)):=kE λ_ _ _ _ _ _ _ q=>sub_int q
theorem yj:bH X (binaryOp .Mult) (rI y8 λi j=>.int (i*j)):=nC λ_ _ _ _ _ _ _ hc q=>mul_int q hc.ok
theorem wB:bH X (binaryOp .FloorDiv) (rI x9 λi j=>.int (i / j)):=nC λi j _ _ _ _ _ hc q=>by
 have h1:(0:Int)<j:=hc.1
 have h2:j<1073741824:=hc.2
 exact floordiv_int (by lia) (by rw [Int.fdiv_eq_ediv_of_nonneg i (by lia)];exact q) (.inl (PyProof.noPylong_small (by lia)))
theorem yk:bH X (binaryOp .Mod) (rI (λ_ j=>0<j) λi j=>.int (i % j)):=nC λi j _ _ _ _ _ hc q=>by
 have h1:(0:Int)<j:=hc
 exact mod_int' (by lia) (by rw [Int.fmod_eq_emod_of_nonneg i (by lia)];exact q)
theorem ym:bH X (binaryOp .Pow) (rI y9 λi j=>.int (i ^ j.toNat)):=nC λ_ _ _ _ _ _ _ hc q=>pow_int_small hc.1 hc.2.1 hc.2.2 q
theorem yn:bH X (binaryOp .LShift) (rI y9 λi j=>.int (i*2 ^ j.toNat)):=nC λ_ _ _ _ _ _ _ hc q=>lshift_int_small hc.1 hc.2.1 hc.2.2 q
theorem yo:bH X (binaryOp .RShift) (rI (λ_ j=>0≤j) λi j=>.int (i / 2 ^ j.toNat)):=nC λi j _ _ _ _ _ hc q =>
 rshift_int hc (by rw [Int.fdiv_eq_ediv_of_nonneg i (yg _)];exact q)
theorem yp:bH X (binaryOp .BitAnd) (fj λi j=>.int (Builtin.bitAnd i j)):=kE λ_ _ _ _ _ _ _ q=>and_int q
theorem yq:bH X (binaryOp .BitXor) (fj λi j=>.int (Builtin.bitXor i j)):=kE λ_ _ _ _ _ _ _ q=>xor_int q
theorem unI{f:Value->Sem Value}{g:Int->Int}
  (rule:∀(i:Int) (t:Tok) (s:Shared) (Q:Value->Shared->Prop) (E:Value->Shared->Prop),Q (.int (g i) s.toks) { s with toks:=s.toks+1 }->wpAny (model X.prog X.w) X.A (f (.int i t)) Q E s) :
  wA X f (rU λi=>.int (g i)):=by
 intro pins s σ H x v Q I rx h
 obtain⟨i,rfl,q⟩:=h
 obtain⟨t,rfl⟩:=rx
 exact rule i t s _ _ ⟨.int (g i),H,I.tok _,⟨_,rfl⟩,q⟩
theorem nD:wA X (unaryOp .USub) (rU λi=>.int (-i)):=unI λ_ _ _ _ _ q=>neg_int q
end
noncomputable def iA:V->V->Bool
 | .non,.non=>true | .non,.int _=>true | .int _,.non=>true | .non,.bl _=>true | .bl _,.non=>true | .non,.str _=>true | .str _,.non=>true
 | .int _,.int _=>true | .bl _,.bl _=>true | .str _,.str _=>true | .byt _,.byt _=>true
 | .int _,.str _=>true | .str _,.int _=>true | .bl _,.str _=>true | .str _,.bl _=>true
 | _,_=>false
noncomputable def rEq:R2:=λx y H Q=>iA x y=true/\Q (.bl (decide (x=y))) H
noncomputable def rNe:R2:=λx y H Q=>iA x y=true/\Q (.bl (!decide (x=y))) H
theorem yde{i j:Int}:decide (V.int i=V.int j)=(i == j):=by
 rw [Bool.eq_iff_iff]
 simp
theorem ydc{i j:Bool}:decide (V.bl i=V.bl j)=(i == j):=by
 rw [Bool.eq_iff_iff]
 simp
theorem ydf{i j:Str}:decide (V.str i=V.str j)=(i == j):=by
 rw [Bool.eq_iff_iff]
 simp
theorem ydd{i j:Array UInt8}:decide (V.byt i=V.byt j)=(i.toList == j.toList):=by
 rw [Bool.eq_iff_iff]
 cases i
 cases j
 simp
section
variable {X:Cx}{a b c:Expr}{ta tb tc:TE}{pos:Pos}
theorem bj{pins:List (Addr×Obj)}{σ:St}{H:Hp}{s:Shared}{Q:VK}{k k':Bool}(I:Inv X pins σ H s)(q:Q (.bl k) H)(e:k=k'):EP X pins σ Q (.bool k') s:=by
 subst e
 exact⟨.bl k,H,I,rfl,q⟩
theorem qI:bH X (compareOp .Eq) rEq:=by
 intro pins s σ H x y v u Q I rx ry h
 obtain⟨hs,q⟩:=h
 cases x with
 | non =>
  cases rx
  cases y with
  | non=>cases ry;exact PySem.EqNone.eq_none_none (bj I q (by simp))
  | bl j=>cases ry;exact PySem.EqNone.eq_none_bool (bj I q (by simp))
  | int j=>obtain⟨t',rfl⟩:=ry;exact PySem.EqNone.eq_none_int (bj I q (by simp))
  | str j=>obtain⟨t',rfl⟩:=ry;exact PySem.EqNone.eq_none_str (bj I q (by simp))
  | _=>exact absurd (show false=true from hs) z16
 | bl i =>
  cases rx
  cases y with
  | non=>cases ry;exact PySem.EqNone.eq_bool_none (bj I q (by simp))
  | bl j=>cases ry;exact eq_bool (bj I q ydc)
  | str j=>obtain⟨t',rfl⟩:=ry;exact PySem.EqMixed.eq_bool_str (bj I q (by simp))
  | _=>exact absurd (show false=true from hs) z16
 | int i =>
  obtain⟨t,rfl⟩:=rx
  cases y with
  | non=>cases ry;exact PySem.EqNone.eq_int_none (bj I q (by simp))
  | int j=>obtain⟨t',rfl⟩:=ry;exact eq_int (bj I q yde)
  | str j=>obtain⟨t',rfl⟩:=ry;exact PySem.EqMixed.eq_int_str (bj I q (by simp))
  | _=>exact absurd (show false=true from hs) z16
 | str i =>
  obtain⟨t,rfl⟩:=rx
  cases y with
  | non=>cases ry;exact PySem.EqNone.eq_str_none (bj I q (by simp))
  | bl j=>cases ry;exact PySem.EqMixed.eq_str_bool (bj I q (by simp))
  | int j=>obtain⟨t',rfl⟩:=ry;exact PySem.EqMixed.eq_str_int (bj I q (by simp))
  | str j=>obtain⟨t',rfl⟩:=ry;exact eq_str (bj I q ydf)
  | _=>exact absurd (show false=true from hs) z16
 | byt i =>
  obtain⟨t,rfl⟩:=rx
  cases y with
  | byt j=>obtain⟨t',rfl⟩:=ry;exact W.eq_bytes (bj I q ydd)
  | _=>exact absurd (show false=true from hs) z16
 | _=>cases y<;>exact absurd (show false=true from hs) z16
theorem qJ:bH X (compareOp .NotEq) rNe:=by
 intro pins s σ H x y v u Q I rx ry h
 obtain⟨hs,q⟩:=h
 cases x with
 | non =>
  cases rx
  cases y with
  | non=>cases ry;exact PySem.EqNone.ne_none_none (bj I q (by simp))
  | bl j=>cases ry;exact PySem.EqNone.ne_none_bool (bj I q (by simp))
  | int j=>obtain⟨t',rfl⟩:=ry;exact PySem.EqNone.ne_none_int (bj I q (by simp))
  | str j=>obtain⟨t',rfl⟩:=ry;exact PySem.EqNone.ne_none_str (bj I q (by simp))
  | _=>exact absurd (show false=true from hs) z16
 | bl i =>
  cases rx
  cases y with
  | non=>cases ry;exact PySem.EqNone.ne_bool_none (bj I q (by simp))
  | bl j=>cases ry;exact ne_bool (bj I q (congrArg not ydc))
  | str j=>obtain⟨t',rfl⟩:=ry;exact PySem.EqMixed.ne_bool_str (bj I q (by simp))
  | _=>exact absurd (show false=true from hs) z16
 | int i =>
  obtain⟨t,rfl⟩:=rx
  cases y with
  | non=>cases ry;exact PySem.EqNone.ne_int_none (bj I q (by simp))
  | int j=>obtain⟨t',rfl⟩:=ry;exact ne_int (bj I q (congrArg not yde))
  | str j=>obtain⟨t',rfl⟩:=ry;exact PySem.EqMixed.ne_int_str (bj I q (by simp))
  | _=>exact absurd (show false=true from hs) z16
 | str i =>
  obtain⟨t,rfl⟩:=rx
  cases y with
  | non=>cases ry;exact PySem.EqNone.ne_str_none (bj I q (by simp))
  | bl j=>cases ry;exact PySem.EqMixed.ne_str_bool (bj I q (by simp))
  | int j=>obtain⟨t',rfl⟩:=ry;exact PySem.EqMixed.ne_str_int (bj I q (by simp))
  | str j=>obtain⟨t',rfl⟩:=ry;exact ne_str (bj I q (congrArg not ydf))
  | _=>exact absurd (show false=true from hs) z16
 | byt i =>
  obtain⟨t,rfl⟩:=rx
  cases y with
  | byt j=>obtain⟨t',rfl⟩:=ry;exact W.ne_bytes (bj I q (congrArg not ydd))
  | _=>exact absurd (show false=true from hs) z16
 | _=>cases y<;>exact absurd (show false=true from hs) z16
theorem qK:bH X (compareOp .Lt) (fj λi j=>.bl (decide (i<j))):=kF λ_ _ _ _ _ _ _ q=>lt_int q
theorem qL:bH X (compareOp .LtE) (fj λi j=>.bl (decide (i≤j))):=kF λ_ _ _ _ _ _ _ q=>le_int q
theorem qM:bH X (compareOp .Gt) (fj λi j=>.bl (decide (j<i))):=kF λ_ _ _ _ _ _ _ q=>gt_int q
theorem qN:bH X (compareOp .GtE) (fj λi j=>.bl (decide (j≤i))):=kF λ_ _ _ _ _ _ _ q=>ge_int q
theorem bH.or{f:Value->Value->Sem Value}{r r':R2}(h:bH X f r)(h':bH X f r'):bH X f (λx y H Q=>r x y H Q∨r' x y H Q):=by
 intro pins s σ H x y v u Q I rx ry q
 rcases q with q|q
 ·exact h pins s σ H x y v u Q I rx ry q
 ·exact h' pins s σ H x y v u Q I rx ry q
theorem gH(b:Expr){op:CmpOp}(h:op≠.In:=by decide)(h2:op≠.NotIn:=by decide):behindInMarks op b=false:=by
 have e1:(op == CmpOp.In)=false:=by cases op<;>first|rfl|exact absurd rfl h
 have e2:(op == CmpOp.NotIn)=false:=by cases op<;>first|rfl|exact absurd rfl h2
 cases b<;>simp [behindInMarks,e1,e2]
theorem yr{op:CmpOp}{r:R2}(ho:bH X (compareOp op) r)(ha:PE X a ta)(hb:PE X b tb)(hm:behindInMarks op b=false):PE X (.Compare a [op] [b] pos) (mL r ta tb):=by
 intro pins s σ H Q I h
 exact wpAny_Compare1 (nA ha hb I h λv u s2 x y H2 I2 rx ry q=>ho pins s2 σ H2 x y v u Q I2 rx ry q) hm
noncomputable def qO(t:TE):TT:=λσ H Q=>t σ H λx H'=>∃k,x=.bl k/\Q k H'
theorem nE{op:CmpOp}{r:R2}(ho:bH X (compareOp op) r)(ha:PE X a ta)(hb:PE X b tb)(hm:behindInMarks op b=false):PT X (.Compare a [op] [b] pos) (qO (mL r ta tb)):=by
 intro pins s σ H Q I h
 refine wpAny_isTrue_Compare1 (aG (ha pins s σ H _ I h) λv s1 ⟨x,H1,I1,r1,q1⟩=>aG (hb pins s1 σ H1 _ I1 q1) λu s2 ⟨y,H2,I2,r2,q2⟩ =>
  aG (ho pins s2 σ H2 x y v u _ I2 r1 r2 q2) λc s3 ⟨z,H3,I3,r3,k,e,q3⟩=>?_) hm
 subst e
 cases r3
 exact wpAny_truthy_bool ⟨H3,I3,q3⟩
noncomputable def qP(K:W.Frag)(x:V)(H:Hp)(k:Bool):Prop :=
 match x with
 | .non=>k=false
 | .bl b=>k=b
 | .int i=>k=(i != 0)
 | .str y=>y.length≤sizeLine/\k=((y.length:Int) != 0)
 | .byt y=>y.size≤sizeLine/\k=((y.size:Int) != 0)
 | .ref p=>(∃xs,aZ K H p xs/\k=!xs.isEmpty)∨(∃xs,a7 K H p xs/\k=!xs.isEmpty)∨∃kvs,H p=some (.dK kvs)/\k=!kvs.isEmpty
 | _=>False
theorem yt{κ:Type}{kvs:List (κ×V)}{vs:List (κ×Value)}(r:KV kvs vs):(!vs.isEmpty)=!kvs.isEmpty:=by
 cases r<;>rfl
theorem qQ{xs:List V}{its:List Value}(r:ao xs its):(!its.toArray.isEmpty)=!xs.isEmpty:=by
 cases r<;>simp
theorem gI:(sizeLine:Nat)<2 ^ 63:=by rw [sizeLine_eq];decide
theorem yu:xZ X (λx H Q=>∃k,qP X.K x H k/\Q k H):=by
 intro pins s σ H x v Q I rx h
 obtain⟨k,e,q⟩:=h
 have hl:=gI
 have hs:sizeLine=16777216:=sizeLine_eq
 cases x with
 | non =>
  cases rx
  have e':k=false:=e
  subst e'
  exact truthy_none ⟨H,I,q⟩
 | bl b =>
  cases rx
  have e':k=b:=e
  subst e'
  exact wpAny_truthy_bool ⟨H,I,q⟩
 | int i =>
  obtain⟨t,rfl⟩:=rx
  have e':k=(i != 0):=e
  subst e'
  exact PySem.P.truthy_int ⟨H,I,q⟩
 | str y =>
  obtain⟨t,rfl⟩:=rx
  obtain⟨hy,e'⟩:y.length≤sizeLine/\k=((y.length:Int) != 0):=e
  subst e'
  exact PySem.P.truthy_str (by lia) ⟨H,I.tok _,q⟩
 | byt y =>
  obtain⟨t,rfl⟩:=rx
  obtain⟨hy,e'⟩:y.size≤sizeLine/\k=((y.size:Int) != 0):=e
  subst e'
  exact W.truthy_bytes (by lia) ⟨H,I.tok _,q⟩
 | ref p =>
  cases rx
  have e':(∃xs,aZ X.K H p xs/\k=!xs.isEmpty)∨(∃xs,a7 X.K H p xs/\k=!xs.isEmpty)∨∃kvs,H p=some (.dK kvs)/\k=!kvs.isEmpty:=e
  rcases e' with⟨xs,hx,e'⟩| ⟨xs,hx,e'⟩| ⟨kvs,hx,e'⟩
  ·subst e'
   obtain⟨its,r,pl,hz⟩:=I.list hx
   have hlen:=r.length
   exact wpAny_truthy_list pl.isList (by simp only [ze];lia) ⟨H,I.tok _,by rw [qQ r];exact q⟩
  ·subst e'
   obtain⟨its,r,pl,hz⟩:=I.tuple hx
   have hlen:=r.length
   exact truthy_tuple pl (by simp only [ze];lia) ⟨H,I.tok _,by rw [qQ r];exact q⟩
  ·subst e'
   obtain⟨hz,hS,vs,r,m⟩:kvs.length≤sizeLine/\(p == sysModules)=false/\∃vs,KV kvs vs/\s.heap.DictOf (bZ X.prog X.w) p vs:=I.hok p _ hx
   have hlen:kvs.length=vs.length:=Paired.length r
   exact wpAny_truthy_dict hS m (by lia) ⟨H,I.tok _,by rw [yt r];exact q⟩
 | _=>exact (show False from e).elim
theorem yw(ha:PE X a ta)(he:∀whole,isTrue a X.env whole=(do let v <- whole;standAt a.pos;holding [v] (truthy v))) :
  PT X a (λσ H Q=>ta σ H λx H'=>∃k,qP X.K x H' k/\Q k H'):=by
 intro pins s σ H Q I h
 exact isTrue_plain (aG (ha pins s σ H _ I h) λv s1 ⟨x,H1,I1,r1,q1⟩=>yu pins s1 σ H1 x v Q I1 r1 q1) (he _)
theorem yx:bH X (binaryOp .Add) (λx y H Q=>∃i j,x=.str i/\y=.str j/\i.length+j.length≤sizeLine/\Q (.str (i++j)) H):=by
 intro pins s σ H x y v u Q I rx ry h
 obtain⟨i,j,rfl,rfl,hz,q⟩:=h
 obtain⟨t,rfl⟩:=rx
 obtain⟨t',rfl⟩:=ry
 exact add_str (λt' tk=>⟨.str (i++j),H,I.tok _,⟨_,rfl⟩,q⟩) hz
theorem cV{x:V}{us:List Value}(r:ao [x] us):∃u,us=[u]/\av x u:=by
 cases r with
 | cons r1 r2=>cases r2;exact⟨_,rfl,r1⟩
theorem mM{x y:V}{us:List Value}(r:ao [x,y] us):∃u w',us=[u,w']/\av x u/\av y w':=by
 cases r with
 | cons r1 r2 =>
  cases r2 with
  | cons r3 r4=>cases r4;exact⟨_,_,rfl,r1,r3⟩
theorem y9c(hc:X.calm=true):ya X (.builtin "max") (λxs H Q=>∃i j,xs=[.int i,.int j]/\Q (.int (if j>i then j else i)) H):=by
 intro pins s σ H xs us Q I r h
 obtain⟨i,j,rfl,q⟩:=h
 obtain⟨u,w',rfl,⟨t,rfl⟩,⟨t',rfl⟩⟩:=mM r
 refine max_two_ints (I.ok.hd hc) λh' tk k=>⟨_,H,I.kept k,?_,q⟩
 by_cases hj:j>i
 ·rw [if_pos hj,if_pos hj];exact⟨_,rfl⟩
 ·rw [if_neg hj,if_neg hj];exact⟨_,rfl⟩
theorem y9d(hc:X.calm=true):ya X (.builtin "min") (λxs H Q=>∃i j,xs=[.int i,.int j]/\Q (.int (if j<i then j else i)) H):=by
 intro pins s σ H xs us Q I r h
 obtain⟨i,j,rfl,q⟩:=h
 obtain⟨u,w',rfl,⟨t,rfl⟩,⟨t',rfl⟩⟩:=mM r
 refine min_two_ints (I.ok.hd hc) λh' tk k=>⟨_,H,I.kept k,?_,q⟩
 by_cases hj:j<i
 ·rw [if_pos hj,if_pos hj];exact⟨_,rfl⟩
 ·rw [if_neg hj,if_neg hj];exact⟨_,rfl⟩
end
end
section
structure y44(h:Heap)(x dx C:Addr)(mA:Str->Option Value):Prop where
 obj:h.get? x=some (W.instObj C dx)
 ns:h.Ns1 dx mA
 ne:dx≠x
theorem yy{h:Heap}{dx:Addr}{mA:Str->Option Value}(n:h.Ns1 dx mA):∃od,h.get? dx=some od/\∀name,W.lookIn name od=some (mA name):=by
 obtain⟨o,es,ep,ho,hd,hk,_,hm⟩:=n
 refine⟨o,ho,λname=>?_⟩
 have e:=hm name
 unfold nsFind findBy at e
 rw [<- Array.find?_toList] at e
 unfold W.lookIn
 rw [hd]
 dsimp only
 split
 ·rename_i y q
  rw [q] at e
  exact congrArg some e
 ·rename_i q
  rw [q] at e
  have a:es.toList.any (·.refKey)=false:=by
   rw [List.any_eq_false]
   intro y hy
   obtain⟨z,t,y18f⟩:=hk y (Array.mem_toList_iff.mp hy)
   simp [DictEntry.refKey,y18f]
  have a':¬ es.toList.any (·.refKey)=true:=by rw [a];exact z16
  rw [if_neg a']
  exact congrArg some e
theorem y44.look{h:Heap}{x dx C:Addr}{mA:Str->Option Value}(I:y44 h x dx C mA):∃od,W.InstAt h x (W.instObj C dx) C (some od)/\∀name,W.lookIn name od=some (mA name) :=
 let ⟨od,ho,hl⟩:=yy I.ns
 ⟨od,⟨I.obj,rfl,rfl,ho⟩,hl⟩
section
variable {prog:Program}{w:World}{A:Around}{E:Value->Shared->Prop}{s:Shared}{K:W.Frag}{x dx C f:Addr}{mA:Str->Option Value}{name:Str}{v:Value}
theorem kG{expr:Bool}{Q:Value->Shared->Prop}(X:K.In s.heap)(I:y44 s.heap x dx C mA)(hg:W.plainGet K C name=true)(hh:W.hasDictIn K C=true)
  (ha:W.findIn K (.ref C) name=some none) (hv:mA name=some v) (hv':W.handedIn v=true) (h:Q v { s with toks:=s.toks+1 }) :
  wpAny (model prog w) A (getAttr (.ref x) name expr) Q E s:=by
 obtain⟨od,J,hl⟩:=I.look
 exact W.get_value X J (W.plainGet_of hg).1 (W.findObj_own hh ha rfl (by rw [hl,hv])) hv' h
theorem yz{pl:Sem Bool}{Q:Value×List Value->Shared->Prop}(X:K.In s.heap)(I:y44 s.heap x dx C mA)(hg:W.plainGet K C name=true)
  (hf:W.findIn K (.ref C) name=some (some (.ref f))) (ht:W.isFn K (.ref f)=true) (hv:mA name=none) (h:Q (.ref f,[.ref x]) s) :
  wpAny (model prog w) A (getMethod (.ref x) name pl) Q E s:=by
 obtain⟨od,J,hl⟩:=I.look
 exact W.method_fn X J (W.plainGet_of hg).1 (W.plainGet_of hg).2 hf (beq_iff_eq.mp ht) (by show (W.lookIn name od).map (·.isSome)=some false;rw [hl,hv];rfl) h
theorem yA{ns:List Str}{Q:Unit->Shared->Prop}(X:K.In s.heap)(I:y44 s.heap x dx C mA)
  (hs:W.findIn K (.ref C) "__setattr__" = some (some (.builtin "object.__setattr__"))) (hp:W.plainOver K C=true) (ht:W.takerIn K C name=some none) (hh:W.hasDictIn K C=true)
  (hw:PySem.Within mA ns) (hsz:ns.length≤sizeLine)
  (h:∀h',y44 h' x dx C (λy=>if y=name then some v else mA y)->Heap.SameBut dx s.heap h'->Q () { s with heap:=h',toks:=s.toks+2 }) :
  wpAny (model prog w) A (setAttr (.ref x) name v) Q E s:=by
 obtain⟨od,J,hl⟩:=I.look
 refine W.set_plain X J hs (W.osa_open (s:={ s with toks:=s.toks+1 }) (r:=none) X J hp ht λb=>?_)
 obtain⟨cd,hc,hd'⟩:=W.any_some hh
 have hx:s.heap.get? x=some ⟨.ref C,some dx,.plain,#[]⟩:=I.obj
 refine zc (z15 (zc (zc (wpAny_loadPart hx (zc (W.Looks.here (s:={ s with toks:=s.toks+1 }) (W.looks_clsIn X hc) ?_))))))
 rw [hd']
 refine z15 (a:=some dx) (zc (z15 (zc ?_)))
 refine wpAny_nsSet1 (s:={ s with toks:=s.toks+1 }) I.ns λh' hn2 hs2=>?_
 obtain⟨oD,esD,epD,hoD,hdD,hcD⟩:=hn2.count (PySem.Within.cons name v hw)
 refine zc (wpAny_lookBehind hoD (by rw [hdD];exact pastItsLine_dict (z25 hcD (by rw [z29];lia))) ?_)
 exact z15 (h _ ⟨(hs2.2 _ (Ne.symm I.ne)).trans I.obj,hn2,I.ne⟩ hs2)
theorem yB{R:Result->Shared->Prop}{vs:List Value}{kw:List (Str×Value)}(X:K.In s.heap)(hm:W.makesIn K C=true)
  (hi:W.findIn K (.ref C) "__init__" = some (some (.ref f))) (hf:W.typeIn K (.ref f)=some (.type "function"))
  (h:codeAny (model prog w) (A.under (.builtin "type.__call__" ⟨.ref C::vs,kw⟩)) (.call (.ref f) ⟨.ref (s.heap.objs.size+1)::vs,kw⟩) (W.InitBack (s.heap.objs.size+1) R)
   { s with heap:=(s.heap.push W.emptyDict).push (W.instObj C s.heap.objs.size) }) :
  codeAny (model prog w) A (.call (.ref C) ⟨vs,kw⟩) R s:=by
 obtain⟨hh,g,d,t,os⟩:=s
 exact W.make_core (W.makes_of X hm) (W.looks_findIn X hi) (λself=>W.bind_fn X self hf) (.inl rfl) h
end
noncomputable def b8(f:Str)(v:V):List (Str×V)->List (Str×V)
 | []=>[(f,v)]
 | (g,x)::r=>if g=f then (g,v)::r else (g,x)::b8 f v r
theorem qR(f g:Str)(v:V):∀fs:List (Str×V),(b8 f v fs).lookup g=if g=f then some v else fs.lookup g
 | []=>by
  show List.lookup g [(f,v)]=_
  by_cases h:g=f
  ·have hb:(g == f)=true:=beq_iff_eq.mpr h
   simp only [List.lookup,hb,if_pos h]
  ·have hb:(g == f)=false:=beq_eq_false_iff_ne.mpr h
   simp only [List.lookup,hb,if_neg h]
 | (k,x)::r=>by
  have ih:=qR f g v r
  rw [show b8 f v ((k,x)::r)=(if k=f then (k,v)::r else (k,x)::b8 f v r) from rfl]
  by_cases hk:k=f
  ·rw [if_pos hk]
   by_cases h:g=k
   ·have hb:(g == k)=true:=beq_iff_eq.mpr h
    simp only [List.lookup,hb,if_pos (h.trans hk)]
   ·have hb:(g == k)=false:=beq_eq_false_iff_ne.mpr h
    simp only [List.lookup,hb,if_neg (λe:g=f=>h (e.trans hk.symm))]
  ·rw [if_neg hk]
   by_cases h:g=k
   ·have hb:(g == k)=true:=beq_iff_eq.mpr h
    simp only [List.lookup,hb,if_neg (λe:g=f=>hk (h.symm.trans e))]
   ·have hb:(g == k)=false:=beq_eq_false_iff_ne.mpr h
    simp only [List.lookup,hb]
    exact ih
theorem nF(f:Str)(v:V):∀fs:List (Str×V),f∈(b8 f v fs).map (·.1)/\∀g,g∈fs.map (·.1)->g∈(b8 f v fs).map (·.1)
 | []=>⟨by simp [b8],λg h=>by simp at h⟩
 | (k,x)::r=>by
  obtain⟨i1,i2⟩:=nF f v r
  rw [show b8 f v ((k,x)::r)=(if k=f then (k,v)::r else (k,x)::b8 f v r) from rfl]
  by_cases hk:k=f
  ·rw [if_pos hk]
   subst hk
   exact⟨by simp,λg h=>by simpa using h⟩
  ·rw [if_neg hk]
   refine⟨?_,λg h=>?_⟩
   ·rw [z1a]
    exact z28 _ i1
   ·rw [z1a] at h ⊢
    rcases z1e.mp h with e|e
    ·exact z1e.mpr (.inl e)
    ·exact z28 _ (i2 g e)
theorem qS(f:Str)(v:V):∀fs:List (Str×V),(b8 f v fs).length≤fs.length+1
 | []=>by simp [b8]
 | (k,x)::r=>by
  have ih:=qS f v r
  rw [show b8 f v ((k,x)::r)=(if k=f then (k,v)::r else (k,x)::b8 f v r) from rfl]
  by_cases hk:k=f
  ·rw [if_pos hk,z29,z29];lia
  ·rw [if_neg hk,z29,z29];lia
theorem fO.some_of{v:V}{o:Option Value}(r:fO (some v) o):∃u,o=some u/\av v u:=by
 cases o with
 | none=>exact (show False from r).elim
 | some u=>exact⟨u,rfl,r⟩
theorem fO.none_of{o:Option Value}(r:fO none o):o=none:=by
 cases o with
 | none=>rfl
 | some u=>exact (show False from r).elim
theorem yC{v:V}{u:Value}(r:av v u):W.handedIn u=true:=by
 cases v with
 | non=>cases (show u=Value.none from r);rfl
 | bl b=>cases (show u=Value.bool b from r);rfl
 | int i=>obtain⟨t,e⟩:=(show ∃t,u=Value.int i t from r);cases e;rfl
 | str x=>obtain⟨t,e⟩:=(show ∃t,u=Value.str x t from r);cases e;rfl
 | byt b=>obtain⟨t,e⟩:=(show ∃t,u=Value.bytes b t from r);cases e;rfl
 | flt b=>obtain⟨t,e⟩:=(show ∃t,u=Value.float b t from r);cases e;rfl
 | ref a=>cases (show u=Value.ref a from r);rfl
 | ty n=>cases (show u=Value.type n from r);rfl
section
variable {P:Program}{w:World}{H H':Hp}{h h':Heap}{a C dx:Addr}{fs fs':List (Str×V)}
theorem nG(hok:cR P w H h)(e:H a=some (.ins C dx fs)):∃mA,y44 h a dx C mA/\(∀f,fO (fs.lookup f) (mA f))/\PySem.Within mA (fs.map (·.1))/\fs.length≤1000/\H dx=some (.own a):=by
 obtain⟨d,z,ne,ob,mA,n,r,q⟩:=(show dO P w H h a (.ins C dx fs) from hok a _ e)
 exact⟨mA,⟨ob,n,ne⟩,r,q,z,d⟩
end
structure Cls(K:W.Frag)(C:Addr):Prop where
 pg:W.plainGet K C Str.empty=true
 hd:W.hasDictIn K C=true
 po:W.plainOver K C=true
 sa:W.findIn K (.ref C) "__setattr__" = some (some (.builtin "object.__setattr__"))
theorem Cls.get{K:W.Frag}{C:Addr}(c:Cls K C)(f:Str):W.plainGet K C f=true:=c.pg
noncomputable def il(K:W.Frag)(C:Addr)(f:Str):Prop:=W.findIn K (.ref C) f=some none
theorem il.taker{K:W.Frag}{C:Addr}{f:Str}(n:il K C f):W.takerIn K C f=some none:=by
 unfold W.takerIn
 rw [show W.findIn K (.ref C) f=some none from n]
 rfl
structure Con(K:W.Frag)(C:Addr)(f:Str)(v:V)(u:Value):Prop where
 at_:W.findIn K (.ref C) f=some (some u)
 rel:av v u
 get:W.specialIn K u "__get__" = some none
 cp:W.copiedNames.contains f=false
structure Meth(K:W.Frag)(C:Addr)(m:Str)(f:Addr):Prop where
 at_:W.findIn K (.ref C) m=some (some (.ref f))
 fn:W.isFn K (.ref f)=true
 kp:W.keepIn K (.ref f)=true
section
variable {X:Cx}{pins:List (Addr×Obj)}{σ:St}{H:Hp}{s:Shared}{a C dx:Addr}{fs:List (Str×V)}{f:Str}{v:V}{A:Around}{E:Value->Shared->Prop}
theorem yD{b:Bool}{Q:Value->Shared->Prop}(I:Inv X pins σ H s)(e:H a=some (.ins C dx fs))(c:Cls X.K C)(n:il X.K C f)(l:fs.lookup f=some v)
  (h:∀u s',Inv X pins σ H s'->av v u->Q u s'):wpAny (model X.prog X.w) A (getAttr (.ref a) f b) Q E s:=by
 obtain⟨mA,O,r,_,_,_⟩:=nG I.hok e
 obtain⟨u,hu,ru⟩:=fO.some_of (v:=v) (o:=mA f) (by rw [<- l];exact r f)
 exact kG I.kIn O (c.get f) c.hd n hu (yC ru) (h u _ (I.tok _) ru)
theorem qT{m:Str}{g:Addr}{pl:Sem Bool}{Q:Value×List Value->Shared->Prop}(I:Inv X pins σ H s)(e:H a=some (.ins C dx fs))(c:Cls X.K C)(k:Meth X.K C m g)(l:fs.lookup m=none)
  (h:Q (.ref g,[.ref a]) s):wpAny (model X.prog X.w) A (getMethod (.ref a) m pl) Q E s:=by
 obtain⟨mA,O,r,_,_,_⟩:=nG I.hok e
 have hn:mA m=none:=fO.none_of (by rw [<- l];exact r m)
 exact yz I.kIn O (c.get m) k.at_ k.fn hn h
theorem yE{y:V}{u:Value}{Q:Unit->Shared->Prop}(I:Inv X pins σ H s)(e:H a=some (.ins C dx fs))(c:Cls X.K C)(n:il X.K C f)(hl:fs.length<1000)(ry:av y u)
  (h:∀s',Inv X pins σ (aD H a (.ins C dx (b8 f y fs))) s'->Q () s'):wpAny (model X.prog X.w) A (setAttr (.ref a) f u) Q E s:=by
 obtain⟨mA,O,r,wi,_,ho⟩:=nG I.hok e
 have hz:(fs.map (·.1)).length≤sizeLine:=by rw [z19,sizeLine_eq];lia
 refine yA I.kIn O c.sa c.po n.taker c.hd wi hz λh' O' sb=>h _ ?_
 have hd:∃o,h'.get? dx=some o:=let ⟨o,_,_,e',_⟩:=O'.ns;⟨o,e'⟩
 refine I.write (x:=a) (e:=dx) (by rw [e];exact True.intro) (.inr ho) (λb q hb z=>(sb.2 b hb).trans z) hd ?_
 refine⟨by rw [aI O.ne];exact ho,?_,O.ne,O'.obj,_,O'.ns,λg=>?_,λg hg=>?_⟩
 ·have:=qS f y fs;lia
 ·show fO ((b8 f y fs).lookup g) (if g=f then some u else mA g)
  rw [qR]
  by_cases q:g=f
  ·rw [if_pos q,if_pos q];exact ry
  ·rw [if_neg q,if_neg q];exact r g
 ·by_cases q:g=f
  ·rw [q];exact (nF f y fs).1
  ·refine (nF f y fs).2 g (wi g λz=>hg ?_)
   show (if g=f then some u else mA g)=none
   rw [if_neg q];exact z
theorem Inv.made(I:Inv X pins σ H s):Inv X pins σ (aD (aD H s.heap.objs.size (.own (s.heap.objs.size+1))) (s.heap.objs.size+1) (.ins C s.heap.objs.size []))
  { s with heap:=(s.heap.push W.emptyDict).push (W.instObj C s.heap.objs.size) }:=by
 have e1:(s.heap.push W.emptyDict).get? s.heap.objs.size=some W.emptyDict:=z21 s.heap rfl
 have e2:((s.heap.push W.emptyDict).push (W.instObj C s.heap.objs.size)).get? (s.heap.objs.size+1)=some (W.instObj C s.heap.objs.size):=by
  have:=z21 (s.heap.push W.emptyDict) (o:=W.instObj C s.heap.objs.size) rfl
  rwa [Heap.size_push] at this
 have e3:(s.heap.push W.emptyDict).Ns s.heap.objs.size (λ_=>none):=⟨W.emptyDict,#[],_,e1,rfl,(λe he=>absurd he (by simp)),λ_=>rfl⟩
 have I1:=I.laid (a:=s.heap.objs.size) (o:=.own (s.heap.objs.size+1)) (h':=s.heap.push W.emptyDict) (t':=s.toks) (λb u q=>z13 _ q) (z12 _) ⟨_,e1⟩
 refine I1.laid (a:=s.heap.objs.size+1) (o:=.ins C s.heap.objs.size []) (t':=s.toks) (λb u q=>z13 _ q) (Nat.le_of_eq (Heap.size_push _ _)) ?_
 have ne:s.heap.objs.size≠s.heap.objs.size+1:=z26 (z35 _)
 refine⟨by rw [aI ne,bh],Nat.zero_le _,ne,e2,λ_=>none,(Heap.Ns1.of_empty e3).at λo q=>z13 _ q,λ_=>True.intro,λy hy=>absurd rfl hy⟩
theorem y70{prog:Program}{w:World}{env:Env}{e:Expr}{f:Str}{pos:Pos}{s:Shared}{Q:Value->Shared->Prop}(hb:attributeBase e f env (eval e env)=eval e env)
  (h:wpAny (model prog w) A (eval e env) (λo s₁=>wpAny (model prog w) A (getAttr o f true) Q E s₁) E s):wpAny (model prog w) A (eval (.Attribute e f pos) env) Q E s :=
 Attribute_any_ h (by rw [arm_eval_Attribute,hb])
end
noncomputable def qU(K:W.Frag)(ta:TE)(f:Str):TE:=λσ H Q=>ta σ H λx H1=>∃a C dx fs v,x=.ref a/\H1 a=some (.ins C dx fs)/\Cls K C/\il K C f/\fs.lookup f=some v/\Q v H1
noncomputable def qV(K:W.Frag)(ta tv:TE)(f:Str):TS:=λD σ H=>tv σ H λy H1=>ta σ H1 λx H2=>∃a C dx fs,x=.ref a/\H2 a=some (.ins C dx fs)/\Cls K C/\il K C f/\fs.length<1000 /\
 D.nx σ (aD H2 a (.ins C dx (b8 f y fs)))
section
variable {X:Cx}{o e value:Expr}{f:Str}{pos pos' tpos:Pos}{ta tv:TE}
theorem yF(he:PE X e ta)(hb:attributeBase e f X.env (eval e X.env)=eval e X.env):PE X (.Attribute e f pos) (qU X.K ta f):=by
 intro pins s σ H Q I h
 refine y70 hb (aG (he pins s σ H _ I h) λu s1 zz=>?_)
 obtain⟨x,H1,I1,rx,a,C,dx,fs,v,ex,ea,c,n,l,q⟩:=zz
 subst ex
 obtain rfl:u=Value.ref a:=rx
 exact yD I1 ea c n l λu' s2 I2 ru=>⟨v,H1,I2,ru,q⟩
theorem yG(ha:PE X o ta)(hv:PE X value tv)(hs:swapsWith value (some (.Attribute o f pos')) pos.line X.env=pure false):PS X (.Assign [.Attribute o f pos'] value pos) (qV X.K ta tv f):=by
 intro pins s σ H D I h
 refine plainObj_wpAny_Assign_Attribute (aG (hv pins s σ H _ I h) λu s1 ⟨y,H1,I1,ry,q⟩=>aG (ha pins s1 σ H1 _ I1 q) λov s2 ⟨x,H2,I2,rx,a,C,dx,fs,ex,ea,c,n,l,q2⟩=>?_) hs
 subst ex
 obtain rfl:ov=Value.ref a:=rx
 exact yE I2 ea c n l ry λs3 I3=>⟨σ,_,I3,q2⟩
theorem EK{pl:Sem Bool}{m:Str}{apos:Pos}{args:List Expr}{pins:List (Addr×Obj)}{s:Shared}{σ:St}{H:Hp}{Q:Value->Shared->Prop}{te:TE}(he:PE X e te)(I:Inv X pins σ H s)
  (h:te σ H λx H1=>∃a C dx fs g,x=.ref a/\H1 a=some (.ins C dx fs)/\Cls X.K C/\Meth X.K C m g/\fs.lookup m=none /\
   ∀s1,Inv X pins σ H1 s1->wpAny (model X.prog X.w) X.A (callWith pos (.ref g) [.ref a] (backTo pos (starEach args X.env)) (backToKw pos (keywordEach [] X.env))) Q X.xe s1)
  (ht:eval (.Call (.Attribute e m apos) args [] pos) X.env=(do
   let ov <- eval e X.env
   standAt apos.atName
   let (f,first) <- holding [ov] (getMethod ov m pl)
   callWith pos f first (backTo pos (starEach args X.env)) (backToKw pos (keywordEach [] X.env)))) :
  wpAny (model X.prog X.w) X.A (eval (.Call (.Attribute e m apos) args [] pos) X.env) Q X.xe s:=by
 refine W.methodCall_KW (pl:=pl) (aG (he pins s σ H _ I h) λu s1 ⟨x,H1,I1,rx,a,C,dx,fs,g,ex,ea,c,k,l,q⟩=>?_) ht
 subst ex
 obtain rfl:u=Value.ref a:=rx
 exact qT I1 ea c k l (q s1 I1)
end
section
variable {X:Cx}{pins:List (Addr×Obj)}{σ:St}{H:Hp}{s:Shared}{A:Around}{E:Value->Shared->Prop}{Q:Value->Shared->Prop}{c:Value}{b:Bool}
inductive y50(K:W.Frag)(H:Hp):V->Value->Prop where
 | non:y50 K H .non (.type "NoneType")
 | bl (x:Bool):y50 K H (.bl x) (.type "bool")
 | int (i:Int):y50 K H (.int i) (.type "int")
 | str (x:Str):y50 K H (.str x) (.type "str")
 | flt (x:UInt64):y50 K H (.flt x) (.type "float")
 | lst {a:Addr} {xs:List V} (e:H a=some (.lst xs)):y50 K H (.ref a) (.type "list")
 | frz {a:Addr} {o:Obj} {xs:List V} (e:H a=some (.frz o (.lst xs))):y50 K H (.ref a) (.type "list")
 | tup {a:Addr} {xs:List V} (e:H a=some (.tup xs)):y50 K H (.ref a) (.type "tuple")
 | dK {a:Addr} {kvs:List (aB×V)} (e:H a=some (.dK kvs)):y50 K H (.ref a) (.type "dict")
 | dT {a:Addr} {kvs:List (List aB×V)} (e:H a=some (.dT kvs)):y50 K H (.ref a) (.type "dict")
 | ins {a C dx:Addr} {fs:List (Str×V)} (e:H a=some (.ins C dx fs)) (cl:Cls K C) (ha:W.findIn K (.ref C) "__class__" = some (some (.builtin "object.__class__")))
   (hn:W.specialIn K (.builtin "object.__class__") "__get__" = some (some (.builtin "getset_descriptor.__get__"))) (htk:W.takesIn K (.builtin "object.__class__")=some true)
   (hm:W.mroIn K C (.type "object")=some true):y50 K H (.ref a) (.ref C)
end
end
section
structure y4b(k:Nat)(A:Around):Prop where
 hd:A.handled=none
 dp:A.depth+3*k+5<recursionLimit
 un:A.units+16*k+200<cLine
 gd:A.guards=some []
theorem y4b.mono{j k:Nat}{A:Around}(r:y4b k A)(h:j≤k):y4b j A:=⟨r.hd,by have:=r.dp;lia,by have:=r.un;lia,r.gd⟩
theorem y4b.deeper{k:Nat}{A:Around}(r:y4b (k+1) A)(env:Env):y4b k (A.deeper env) :=
 ⟨r.hd,by have:=r.dp;show A.depth+1+3*k+5<_;lia,by have:=r.un;show A.units+3+16*k+200<_;lia,r.gd⟩
theorem yH{A:Around}{C:Addr}{us:List Value}{kw:List (Str×Value)}:(A.under (.builtin "type.__call__" ⟨.ref C::us,kw⟩)).depth=A.depth+1:=by
 first|rfl|simp [Around.under,Code.weight,Code.isCreation,Code.isGuard,Code.isCaller,Code.frames,Code.isFrame,guardIds]
theorem yI{A:Around}{C:Addr}{us:List Value}{kw:List (Str×Value)}:(A.under (.builtin "type.__call__" ⟨.ref C::us,kw⟩)).units=A.units+1:=by
 first|rfl|simp [Around.under,Code.cUnits,Code.frames,Code.isFrame]
theorem y4b.make{k:Nat}{A:Around}(r:y4b (k+1) A)(C:Addr)(us:List Value)(kw:List (Str×Value)):y4b k (A.under (.builtin "type.__call__" ⟨.ref C::us,kw⟩)) :=
 ⟨r.hd,by have:=r.dp;rw [yH];lia,by have:=r.un;rw [yI];lia,by have:=r.gd;first|exact this|simpa [Around.under,Code.guards,Code.isGuard,guardIds,pushGuards] using this⟩
theorem y4b.depth{k:Nat}{A:Around}(r:y4b k A):A.depth<recursionLimit:=by have:=r.dp;lia
theorem y4b.units{k:Nat}{A:Around}(r:y4b k A):A.units+64<cLine:=by have:=r.un;lia
noncomputable def nH:TA:=λ_ H Q=>Q [] H
noncomputable def qW(ta:TE)(tr:TA):TA:=λσ H Q=>ta σ H λx H1=>tr σ H1 λxs H2=>Q (x::xs) H2
section
variable {X:Cx}{e:Expr}{es:List Expr}{te:TE}{t:TA}{pos:Pos}
theorem nI:PA X [] nH:=λ_ _ _ _ H Q I h=>Calls.spliced_nil ⟨[],H,I,.nil,h⟩
theorem nJ(ha:PE X e te)(hr:PA X es t)(hs:starEach (e::es) X.env=(false,eval e X.env)::starEach es X.env:=by rfl):PA X (e::es) (qW te t):=by
 intro pos pins s σ H Q I h
 rw [hs]
 show wpAny _ _ (spliced ((false,eval e X.env)::backTo pos (starEach es X.env))) _ _ s
 refine Calls.spliced_cons (aG (ha pins s σ H _ I h) λu s1 zz=>?_)
 obtain⟨x,H1,I1,r1,q1⟩:=zz
 exact aG (hr pos pins s1 σ H1 _ I1 q1) λus s2 ⟨xs,H2,I2,r2,q2⟩=>⟨x::xs,H2,I2,.cons r1 r2,q2⟩
noncomputable def yJ(t:TA):TE:=λσ H Q=>t σ H λxs H1=>xs.length≤sizeLine/\∀p,H1 p=none->Q (.ref p) (aD H1 p (.tup xs))
noncomputable def yK(t:TA):TE:=λσ H Q=>t σ H λxs H1=>xs.length≤sizeLine/\∀p,H1 p=none->Q (.ref p) (aD H1 p (.lst xs))
theorem yL{x1}(h:PA X es t):PE X (.Tuple es x1 pos) (yJ t):=by
 intro pins s σ H Q I hq
 refine wpAny_Tuple_spliced (aG (h pos pins s σ H _ I hq) λus s1 ⟨xs,H1,I1,r,z,q⟩=>⟨by rw [<- r.length];exact z,?_⟩)
 have hf:H1 s1.heap.objs.size=none:=I1.hok.fresh (z12 _)
 refine⟨.ref s1.heap.objs.size,aD H1 s1.heap.objs.size (.tup xs),I1.laid (t':=s1.toks) (λb u e=>z13 _ e) (z12 _) ?_,rfl,q _ hf⟩
 exact⟨z,us,r,fS.mk' _ _⟩
theorem yM(h:PA X es t):PE X (.List es pos) (yK t):=by
 intro pins s σ H Q I hq
 refine wpAny_List_spliced (aG (h pos pins s σ H _ I hq) λus s1 ⟨xs,H1,I1,r,z,q⟩=>⟨by rw [<- r.length];exact z,?_⟩)
 have hf:H1 s1.heap.objs.size=none:=I1.hok.fresh (z12 _)
 refine⟨.ref s1.heap.objs.size,aD H1 s1.heap.objs.size (.lst xs),I1.laid (t':=s1.toks) (λb u e=>z13 _ e) (z12 _) ?_,rfl,q _ hf⟩
 exact⟨z,us,0,r,z21 _ rfl⟩
end
noncomputable abbrev Sp:=List V->Hp->VK->XK->Prop
noncomputable abbrev jd:=List Env->Hp->Shared->XK->Value->Shared->Prop
structure y13(P:Program)(w:World)(K:W.Frag)(mg:Str->Option Value)(base:Heap)(A:Around)(outer:List Env)(s:Shared)(H:Hp):Prop where
 frames:A.frames=some outer
 mod:Mod K mg base
 bs:∀b o,base.get? b=some o->s.heap.get? b=some o/\H b=none
 bsz:base.objs.size≤s.heap.objs.size
 y153:s.heap.FunFrames base outer
 frf:∀b∈jr outer,H b=none
 hok:cR P w H s.heap
 bare:AllBare s.gens
noncomputable def CE(outer:List Env)(P:Program)(w:World)(H:Hp)(s:Shared)(Q:VK)(u:Value)(s':Shared):Prop :=
 ∃v H',s'.os=s.os/\AllBare s'.gens/\Un (jr outer) [] H H' s.heap s'.heap/\cR P w H' s'.heap/\av v u/\Q v H'
noncomputable def CR(CX:jd)(outer:List Env)(P:Program)(w:World)(H:Hp)(s:Shared)(Q:VK)(E:XK)(r:Result)(s':Shared):Prop :=
 match r with
 | .ok (.ret u)=>CE outer P w H s Q u s'
 | .ok _=>False
 | .error e=>CX outer H s E e s'
structure y3b(P:Program)(w:World)(K:W.Frag)(mg:Str->Option Value)(base:Heap)(CX:jd)(k:Nat)(f:Addr)(fd:FuncData)(ps:List Str)(sp:Sp):Prop where
 len:∀vs H Q E,sp vs H Q E->vs.length=ps.length
 run:∀(A:Around) (outer:List Env) (s:Shared) (H:Hp) (args:Args) (us:List Value) (vs:List V) (Q:VK) (E:XK),y4b k A->y13 P w K mg base A outer s H->BindsTo s fd args (ps.zip us)->ao vs us->sp vs H Q E ->
  codeAny (model P w) A (.call (.ref f) args) (CR CX outer P w H s Q E) s
theorem y3b.imp{P:Program}{w:World}{K:W.Frag}{mg:Str->Option Value}{base:Heap}{CX:jd}{k:Nat}{f:Addr}{fd:FuncData}{ps:List Str}{sp sp':Sp}(F:y3b P w K mg base CX k f fd ps sp)
  (h:∀vs H Q E,sp' vs H Q E->sp vs H Q E):y3b P w K mg base CX k f fd ps sp' :=
 ⟨λvs H Q E q=>F.len vs H Q E (h _ _ _ _ q),λA outer s H args us vs Q E hr he hb hv hs=>F.run A outer s H args us vs Q E hr he hb hv (h _ _ _ _ hs)⟩
theorem y13.make{P:Program}{w:World}{K:W.Frag}{mg:Str->Option Value}{base:Heap}{A:Around}{outer:List Env}{s:Shared}{H:Hp}(e:y13 P w K mg base A outer s H)(C:Addr)(us:List Value)(kw:List (Str×Value)) :
  y13 P w K mg base (A.under (.builtin "type.__call__" ⟨.ref C::us,kw⟩)) outer s H:=⟨by first|exact e.frames|(simpa [Around.under,Code.envs,Code.isFrame,pushEnvs] using e.frames),e.mod,e.bs,e.bsz,e.y153,e.frf,e.hok,e.bare⟩
section
variable {X:Cx}{pins:List (Addr×Obj)}{σ:St}{H:Hp}{s s':Shared}
theorem Inv.env0(I:Inv X pins σ H s):y13 X.prog X.w X.K X.mg X.base X.A X.stack s H :=
 ⟨I.ok.frames,I.ok.mod,I.bs,z25 I.ok.bsz I.sz,I.stack,I.y3e5,I.hok,I.bare⟩
theorem Inv.after{Q:VK}{u:Value}(I:Inv X pins σ H s)(h:CE X.stack X.prog X.w H s Q u s'):EP X pins σ Q u s':=by
 obtain⟨v,H',os,bare,un,hok,r,q⟩:=h
 obtain⟨hh,g,d,t,os'⟩:=s'
 obtain rfl:os'=s.os:=os
 exact⟨v,H',I.call (h':=hh) (g':=g) (d':=d) (t':=t) (ch:=[]) un hok bare (λb z=>absurd z (by simp)),r,q⟩
end
noncomputable def kH(sp:Sp)(dvs:List V)(E:XK)(t:TA):TE:=λσ H Q=>t σ H λvs H1=>sp (vs++dvs) H1 Q E
noncomputable def qX(C:Addr)(m:Str)(sp:Sp)(dvs:List V)(E:XK)(ta:TE)(t:TA):TE:=λσ H Q=>ta σ H λx H1=>∃a dx fs,x=.ref a/\H1 a=some (.ins C dx fs)/\fs.lookup m=none /\
 t σ H1 λvs H2=>sp (x::(vs++dvs)) H2 Q E
noncomputable def qY(C:Addr)(sp:Sp)(dvs:List V)(E:XK)(t:TA):TE:=λσ H Q=>t σ H λvs H1=>∀x dx,H1 x=none->H1 dx=none->dx≠x ->
 sp (.ref x::(vs++dvs)) (aD (aD H1 dx (.own x)) x (.ins C dx [])) (λv H2=>v=.non/\Q (.ref x) H2) E
noncomputable def cw(K:W.Frag)(fd:FuncData)(ps:List Str)(ds:List Value):Prop :=
 ∀(s:Shared) (us:List Value),K.In s.heap->(us++ds).length=ps.length->BindsTo s fd ⟨us,[]⟩ (ps.zip (us++ds))
theorem cw.all{K:W.Frag}{fd:FuncData}{ps:List Str}(h:∀us:List Value,us.length=ps.length->bindArgs fd ⟨us,[]⟩=pure (ps.zip us)):cw K fd ps []:=λs us _ hl=>by
 rw [z18] at hl ⊢
 exact .of_eq (h us hl)
noncomputable def dm(CX:jd)(X:Cx)(E:XK):Prop:=∀(pins:List (Addr×Obj)) (σ:St) (H:Hp) (s:Shared) (e:Value) (s':Shared),Inv X pins σ H s->CX X.stack H s E e s'->X.xe e s'
section
variable {X:Cx}{CX:jd}{k:Nat}{f C:Addr}{fd:FuncData}{ps:List Str}{sp:Sp}{dvs:List V}{ds:List Value}{E:XK}{x m:Str}{p pos apos:Pos}{e o:Expr}{es:List Expr}{ta:TE}{t:TA}
theorem qZ{pins:List (Addr×Obj)}{σ:St}{H:Hp}{s:Shared}{Q:VK}{us:List Value}{vs:List V}(F:y3b X.prog X.w X.K X.mg X.base CX k f fd ps sp)(hr:y4b k X.A)(hb:cw X.K fd ps ds)(hd:ao dvs ds)(hx:dm CX X E)
  (I:Inv X pins σ H s) (r:ao vs us) (h:sp (vs++dvs) H Q E):wpAny (model X.prog X.w) X.A (call (.ref f) us) (EP X pins σ Q) X.xe s:=by
 have r2:ao (vs++dvs) (us++ds):=r.append hd
 have hl:(us++ds).length=ps.length:=by rw [<- r2.length];exact F.len _ _ _ _ h
 refine wpAny_call (codeAny_mono (F.run X.A X.stack s H ⟨us,[]⟩ (us++ds) (vs++dvs) Q E hr I.env0 (hb s us I.kIn hl) r2 h) λr s' hq=>?_)
 cases r with
 | error e=>exact hx pins σ H s e s' I hq
 | ok fl =>
  cases fl with
  | ret u=>exact I.after hq
  | next=>exact False.elim hq
  | brk=>exact False.elim hq
  | cont=>exact False.elim hq
abbrev je(X:Cx)(e:Expr)(es:List Expr):Prop:=starEach (e::es) X.env=(false,eval e X.env)::starEach es X.env
abbrev ip(X:Cx)(pos:Pos)(es:List Expr):Prop:=(backTo pos (starEach es X.env)).any (·.1)=false
theorem yN(F:y3b X.prog X.w X.K X.mg X.base CX k f fd ps sp)(hr:y4b k X.A)(hg:Gl X x)(hm:X.mg x=some (.ref f))(hk:W.keepIn X.K (.ref f)=true)(hb:cw X.K fd ps ds)(hd:ao dvs ds)(hx:dm CX X E)
  (ha:PA X (e::es) t) (hdb:(x == ("__debug__" : Str))=false:=by decide) (he:je X e es:=by rfl) (hpl:ip X pos es:=by rfl) :
  PE X (.Call (.Name x p) (e::es) [] pos) (kH sp dvs E t):=by
 intro pins s σ H Q I h
 refine wpAny_Call_Name_kw (nh I hg hm ?_ hdb)
 refine W.callWith_K (h₀:=X.base) I.ok.mod.kin hk (aG (ha pos pins s σ H _ I h) λus s1 ⟨vs,H1,I1,r,q⟩=>⟨I1.kIn,?_⟩) he hpl
 exact qZ F hr hb hd hx I1 r q
theorem yO{pl:Sem Bool}(he:PE X o ta)(c:Cls X.K C)(hm:Meth X.K C m f)(F:y3b X.prog X.w X.K X.mg X.base CX k f fd ps sp)(hr:y4b k X.A)(hb:cw X.K fd ps ds)(hd:ao dvs ds)(hx:dm CX X E)(ha:PA X (e::es) t)
  (hst:starEach (e::es) X.env=(false,eval e X.env)::starEach es X.env:=by rfl) (hpl:ip X pos es:=by rfl)
  (ht:eval (.Call (.Attribute o m apos) (e::es) [] pos) X.env=(do
   let ov <- eval o X.env
   standAt apos.atName
   let (f,first) <- holding [ov] (getMethod ov m pl)
   callWith pos f first (backTo pos (starEach (e::es) X.env)) (backToKw pos (keywordEach [] X.env))):=by rfl) :
  PE X (.Call (.Attribute o m apos) (e::es) [] pos) (qX C m sp dvs E ta t):=by
 intro pins s σ H Q I h
 refine W.methodCall_KW (pl:=pl) (aG (he pins s σ H _ I h) λu s1 ⟨x,H1,I1,rx,a,dx,fs,ex,ea,l,q⟩=>?_) ht
 subst ex
 obtain rfl:u=Value.ref a:=rx
 refine qT I1 ea c hm l ?_
 refine W.callWith_K (first:=[.ref a]) (h₀:=X.base) I.ok.mod.kin hm.kp (aG (ha pos pins s1 σ H1 _ I1 q) λus s2 ⟨vs,H2,I2,r,q2⟩=>⟨I2.kIn,?_⟩) hst hpl
 exact qZ (us:=.ref a::us) (vs:=.ref a::vs) F hr hb hd hx I2 (.cons rfl r) q2
structure Mk(K:W.Frag)(C f:Addr):Prop where
 makes:W.makesIn K C=true
 init:W.findIn K (.ref C) "__init__" = some (some (.ref f))
 fn:W.isFn K (.ref f)=true
 kp:W.keepIn K (.ref C)=true
theorem yP{pins:List (Addr×Obj)}{σ:St}{H:Hp}{s:Shared}{Q:VK}{us:List Value}{vs:List V}(M:Mk X.K C f)(F:y3b X.prog X.w X.K X.mg X.base CX k f fd ps sp)(hr:y4b (k+1) X.A)(hb:cw X.K fd ps ds)(hd:ao dvs ds)
  (hx:dm CX X E) (I:Inv X pins σ H s) (r:ao vs us)
  (h:∀x dx,H x=none->H dx=none->dx≠x->sp (.ref x::(vs++dvs)) (aD (aD H dx (.own x)) x (.ins C dx [])) (λv H2=>v=.non/\Q (.ref x) H2) E) :
  wpAny (model X.prog X.w) X.A (call (.ref C) us) (EP X pins σ Q) X.xe s:=by
 have hq:=h (s.heap.objs.size+1) s.heap.objs.size (I.hok.fresh (Nat.le_succ _)) (I.hok.fresh (z12 _)) (z26 (z35 _))
 have I2:=Inv.made (C:=C) I
 have r2:ao (V.ref (s.heap.objs.size+1)::(vs++dvs)) (Value.ref (s.heap.objs.size+1)::(us++ds)):=.cons rfl (r.append hd)
 have hl:(Value.ref (s.heap.objs.size+1)::us++ds).length=ps.length:=by
  have e:=r2.length
  rw [F.len _ _ _ _ hq] at e
  exact e.symm
 refine wpAny_call (yB (f:=f) I.kIn M.makes M.init (beq_iff_eq.mp M.fn) (codeAny_mono (F.run _ X.stack _ _ ⟨Value.ref (s.heap.objs.size+1)::us,[]⟩ (Value.ref (s.heap.objs.size+1)::(us++ds)) _ _ E (hr.make C us [])
  (I2.env0.make C us []) (hb _ (Value.ref (s.heap.objs.size+1)::us) I2.kIn hl) r2 hq) λr s' hq'=>?_))
 cases r with
 | error e=>exact hx pins σ _ _ e s' I2 hq'
 | ok fl =>
  cases fl with
  | ret u =>
   obtain⟨v,H',I3,rv,ev,q3⟩:=I2.after hq'
   subst ev
   exact⟨rv,⟨V.ref (s.heap.objs.size+1),H',I3,rfl,q3⟩⟩
  | next=>exact False.elim hq'
  | brk=>exact False.elim hq'
  | cont=>exact False.elim hq'
theorem yQ(M:Mk X.K C f)(F:y3b X.prog X.w X.K X.mg X.base CX k f fd ps sp)(hr:y4b (k+1) X.A)(hg:Gl X x)(hm:X.mg x=some (.ref C))(hb:cw X.K fd ps ds)(hd:ao dvs ds)(hx:dm CX X E)
  (hdb:(x == ("__debug__" : Str))=false:=by decide):PE X (.Call (.Name x p) [] [] pos) (qY C sp dvs E nH):=by
 intro pins s σ H Q I h
 refine wpAny_Call_Name_kw (nh I hg hm ?_ hdb)
 exact W.callWith_K0 I.kIn M.kp (yP (us:=[]) M F hr hb hd hx I .nil h)
end
section
variable {X:Cx}{CX:jd}{k:Nat}{f C:Addr}{fd:FuncData}{ps ks:List Str}{sp:Sp}{E:XK}{x m:Str}{p pos apos kpos:Pos}{e o:Expr}{es:List Expr}{kws:List Keyword}{te ta:TE}{t tk:TA}{nm:Option Str}
structure KBinds(K:W.Frag)(fd:FuncData)(ps ks:List Str)(g:List Value->List Value->List Value)(gV:List V->List V->List V):Prop where
 to:∀(s:Shared) (us ws:List Value),K.In s.heap->(g us ws).length=ps.length->BindsTo s fd ⟨us,ks.zip ws⟩ (ps.zip (g us ws))
 rel:∀{vs:List V} {us:List Value} {zs:List V} {ws:List Value},ao vs us->ao zs ws->ao (gV vs zs) (g us ws)
variable {g:List Value->List Value->List Value}{gV:List V->List V->List V}
end
structure y3c(N P:List Str)(sc:Scope):Prop where
 kind:sc.kind=.function
 co:sc.isCoroutine=false
 gen:sc.isGenerator=false
 nd:N.Nodup
 pre:N.take P.length=P
 par:∀x∈P,sc.names.lookup x=some .local∨sc.names.lookup x=some .cell
 y242:∀y∈sc.names,y.2≠.free
theorem y85{kindOf:Str->Option NameKind}{x:Str}:∀{binds:List (Str×Value)} {m:Str->Option Value},(∀v,(x,v)∉binds)->bindL kindOf binds m x=m x
 | [],_,_=>rfl
 | (n,v)::r,m,h=>by
  unfold bindL
  rw [y85 λw hw=>h w (z28 _ hw)]
  split
  ·have:x≠n:=by rintro rfl;exact h v List.mem_cons_self
   simp [this]
  ·rfl
theorem y83{kindOf:Str->Option NameKind}{x:Str}:∀{binds:List (Str×Value)} {m:Str->Option Value},(∀v,(x,v)∉binds)->bindC kindOf binds m x=m x
 | [],_,_=>rfl
 | (n,v)::r,m,h=>by
  unfold bindC
  rw [y83 λw hw=>h w (z28 _ hw)]
  split
  ·rfl
  ·have:x≠n:=by rintro rfl;exact h v List.mem_cons_self
   simp [this]
theorem y84{kindOf:Str->Option NameKind}{x:Str}{v:Value}:∀{P:List Str} {vs:List Value} {i:Nat} {m:Str->Option Value},P.Nodup->P[i]?=some x->vs[i]?=some v->kindOf x=some .local ->
  bindL kindOf (P.zip vs) m x=some v
 | [],_,_,_,_,h,_,_=>by simp at h
 | _::_,[],_,_,_,_,h,_=>by simp at h
 | p::P,w::vs,0,m,nd,h1,h2,hk=>by
  simp at h1 h2;subst h1;subst h2
  show bindL kindOf ((p,w)::P.zip vs) m p=_
  unfold bindL
  rw [y85 λv hv=>(List.nodup_cons.mp nd).1 (List.of_mem_zip hv).1,if_pos hk]
  simp
 | p::P,w::vs,i+1,m,nd,h1,h2,hk=>by
  show bindL kindOf ((p,w)::P.zip vs) m x=_
  unfold bindL
  exact y84 (i:=i) (List.nodup_cons.mp nd).2 (by simpa using h1) (by simpa using h2) hk
theorem y82{kindOf:Str->Option NameKind}{x:Str}{v:Value}:∀{P:List Str} {vs:List Value} {i:Nat} {m:Str->Option Value},P.Nodup->P[i]?=some x->vs[i]?=some v->kindOf x≠some .local ->
  bindC kindOf (P.zip vs) m x=some v
 | [],_,_,_,_,h,_,_=>by simp at h
 | _::_,[],_,_,_,_,h,_=>by simp at h
 | p::P,w::vs,0,m,nd,h1,h2,hk=>by
  simp at h1 h2;subst h1;subst h2
  show bindC kindOf ((p,w)::P.zip vs) m p=_
  unfold bindC
  rw [y83 λv hv=>(List.nodup_cons.mp nd).1 (List.of_mem_zip hv).1,if_neg hk]
  simp
 | p::P,w::vs,i+1,m,nd,h1,h2,hk=>by
  show bindC kindOf ((p,w)::P.zip vs) m x=_
  unfold bindC
  exact y82 (i:=i) (List.nodup_cons.mp nd).2 (by simpa using h1) (by simpa using h2) hk
noncomputable def start(N:List Str)(vs:List V):St:=vs.map some++List.replicate (N.length-vs.length) none
noncomputable def nK(CX:jd)(P:Program)(w:World)(K:W.Frag)(mg:Str->Option Value)(base:Heap)(N:List Str)(qual:Str)(scope:Scope)(f:Addr)(cd:Value)(A:Around)(outer:List Env)(s:Shared)(H:Hp)(E:XK):Cx where
 prog:=P
 w:=w
 K:=K
 mg:=mg
 base:=base
 A:=A.deeper (envOfC qual scope s.heap.objs.size f cd)
 N:=N
 s₀:=s
 H₀:=H
 env:=envOfC qual scope s.heap.objs.size f cd
 outer:=outer
 stack:=envOfC qual scope s.heap.objs.size f cd::outer
 ex:=[]
 calm:=true
 fn:=λ_=>true
 pn:=[]
 xe:=λe s'=>wpAny (model P w) (A.deeper (envOfC qual scope s.heap.objs.size f cd)) (leaving (envOfC qual scope s.heap.objs.size f cd) e) (λ_ s''=>CX outer H s E e s'') (λe' s''=>CX outer H s E e' s'') s'
theorem ya7{sc:Scope}{n:Nat}{x:Str}(h:sc.names.lookup x=some .cell):∃c,(cellsFrom n sc.names []).lookup x=some c:=by
 have q:=W.cellsFrom_some sc.names n [] (.inl h)
 exact Option.isSome_iff_exists.mp q
theorem yR{CX:jd}{P:Program}{w:World}{K:W.Frag}{mg:Str->Option Value}{base:Heap}{N ps:List Str}{qual:Str}{scope:Scope}{f:Addr}{cd:Value}{A:Around}{outer:List Env}{s s1:Shared}{H:Hp}{E:XK}{us:List Value}{vs:List V}
  (S:y3c N ps scope) (hd:A.handled=none) (e0:y13 P w K mg base A outer s H) (hl:vs.length=ps.length) (r:ao vs us)
  (x:InCallC s s.heap.objs.size (bindL (envOfC qual scope s.heap.objs.size f cd).kindOf (ps.zip us) λ_=>none) (cellsFrom (s.heap.objs.size+1) scope.names []) (bindC (envOfC qual scope s.heap.objs.size f cd).kindOf (ps.zip us) λ_=>none) s1) :
  Inv (nK CX P w K mg base N qual scope f cd A outer s H E) [] (start N vs) H s1:=by
 have hpl:ps.length≤N.length:=by have:=congrArg List.length S.pre;rw [z31] at this;lia
 obtain⟨h1,tk,rfl,hk⟩:=x.done
 have noA:∀b:Addr,b∉(nK CX P w K mg base N qual scope f cd A outer s H E).ex:=λb z=>absurd (show b∈([]:List Addr) from z) (by simp)
 refine⟨⟨e0.mod,S.kind,rfl,rfl,z12 _,λy z c h1 h2=>?_,λy hy=>?_,λy c _ h=>?_,λ_=>hd,Around.frames_deeper e0.frames,.inr ⟨rfl,rfl⟩,λb z=>absurd z (noA b),e0.bs,e0.bsz,λb _ _=>noA b,λb z=>absurd z (noA b),e0.y153,e0.frf⟩,
  rfl,e0.bare,Un.kept hk,⟨_,x.toInCall.ns,λi y v h1 h2 h3=>?_⟩,λy c h=>⟨_,x.cell y c h⟩,e0.hok.fresh (z12 _),λy c h=>?_,λp hp=>absurd (show p∈([]:List (Addr×Obj)) from hp) (by simp),e0.hok.kept hk,?_⟩
 ·exact name_of_addr x.apart (PySem.mem_of_lookup h1) (PySem.mem_of_lookup h2)
 ·have hy:scope.names.lookup y=some .cell∨scope.names.lookup y=some .free:=hy
  rcases hy with hy|hy
  ·exact ya7 hy
  ·exact absurd rfl (S.y242 _ (PySem.mem_of_lookup hy))
 ·exact z37 (x.above y c (PySem.mem_of_lookup h))
 ·have hi:i<vs.length:=by
   unfold start at h2
   by_cases hi:i<vs.length
   ·exact hi
   ·rw [z1f (by simpa using hi)] at h2
    rw [List.getElem?_replicate] at h2
    split at h2<;>cases h2
  have ha:vs[i]?=some v:=by
   unfold start at h2
   rw [z1c (by simpa using hi),List.getElem?_map] at h2
   cases e:vs[i]? with
   | none=>rw [e] at h2;cases h2
   | some a=>rw [e] at h2;cases h2;rfl
  obtain⟨u,hu,rv⟩:=r.get ha
  have hp:ps[i]?=some y:=by
   rw [<- S.pre,List.getElem?_take_of_lt (by lia)];exact h1
  have ndP:ps.Nodup:=by rw [<- S.pre];exact S.nd.sublist (List.take_sublist _ _)
  refine⟨u,rv,?_⟩
  rcases S.par y (z34 hp) with k|k
  ·exact .inl ⟨k,y84 ndP hp hu k⟩
  ·obtain⟨c,e⟩:=ya7 (n:=s.heap.objs.size+1) k
   refine .inr ⟨.inl k,c,e,?_⟩
   have q:=x.cell y c e
   rw [y82 ndP hp hu (by show scope.names.lookup y≠_;rw [k];decide)] at q
   exact q
 ·exact e0.hok.fresh (z37 (x.above y c (PySem.mem_of_lookup h)))
 ·unfold start
  show _=N.length
  rw [z14,z19,List.length_replicate]
  lia
theorem rf{CX:jd}{P:Program}{w:World}{K:W.Frag}{mg:Str->Option Value}{base:Heap}{k:Nat}{f:Addr}{name qual:Str}{params:Arguments}{body:List Stmt}{scope:Scope}{dV kV doc pm cdv ct oc:Value}{an od:Option Addr}
  {osl:Array (Option Value)} {N ps:List Str} {sp:Sp} (lk:K.lookup f=some ⟨oc,od,.func (W.fnOf name qual params body scope dV kV doc pm an cdv ct),osl⟩) (hcd:W.codeIn K cdv qual=true) (S:y3c N ps scope)
  (len:∀vs H Q E,sp vs H Q E->vs.length=ps.length)
  (y187:∀(A:Around) (outer:List Env) (s:Shared) (H:Hp) (vs:List V) (Q:VK) (E:XK),y4b k (A.deeper (envOfC qual scope s.heap.objs.size f cdv))->sp vs H Q E ->
   ∃t,fP (nK CX P w K mg base N qual scope f cdv A outer s H E) body t/\t { nx:=λ_ H'=>Q .non H',rt:=Q } (start N vs) H) :
  y3b P w K mg base CX (k+1) f (W.fnOf name qual params body scope dV kV doc pm an cdv ct) ps sp:=by
 refine⟨len,λA outer s H args us vs Q E hr e0 hb r hsp=>?_⟩
 have hl:=len _ _ _ _ hsp
 have KX:K.In s.heap:=e0.mod.kin.keeps λb o e=>(e0.bs b o e).1
 have lim:s.heap.NoLimit:=e0.mod.nolimit.keeps λb o e=>(e0.bs b o e).1
 have hkind:∀y∈ps.zip us,scope.names.lookup y.1=some .local∨(scope.names.lookup y.1=some .cell/\((cellsFrom (s.heap.objs.size+1) scope.names []).lookup y.1).isSome=true):=λzz hy=>by
  obtain⟨n,v⟩:=zz
  rcases S.par n (List.of_mem_zip hy).1 with q|q
  ·exact .inl q
  ·exact .inr ⟨q,W.cellsFrom_some _ _ _ (.inl q)⟩
 refine codeAny_call_function hr.depth (KX _ _ lk) rfl S.co S.gen rfl (W.codeRec_of KX hcd) (hb _ _ _ _ ?_)
 refine wpAny_newFunctionEnv_cells S.kind hkind λenv he s1 x=>?_
 subst he
 refine⟨lim.keeps x.toInCall.keep,codeAny_func ?_⟩
 obtain⟨t,ht,hq⟩:=y187 A outer s H vs Q E (hr.deeper _) hsp
 have I:Inv (nK CX P w K mg base N qual scope f cdv A outer s H E) [] (start N vs) H s1:=yR S hr.hd e0 hl r x
 refine wpAny_mono (ht [] s1 (start N vs) H _ I hq) (λfl s' hs=>?_) λe s' hs=>hs
 have fin:∀{σ':St} {H':Hp} {v:V} {u:Value},Inv (nK CX P w K mg base N qual scope f cdv A outer s H E) [] σ' H' s'->av v u->Q v H'->CE outer P w H s Q u s' :=
  λ{σ' H' v u} J rv q=>⟨v,H',J.os,J.bare,J.base,J.hok,rv,q⟩
 cases fl with
 | ret u =>
  obtain⟨v,σ',H',J,rv,q⟩:=hs
  exact fin J rv q
 | next =>
  obtain⟨σ',H',J,q⟩:=hs
  exact fin (v:=V.non) (u:=Value.none) J rfl q
 | brk =>
  obtain⟨_,_,_,q⟩:=hs
  exact False.elim q
 | cont =>
  obtain⟨_,_,_,q⟩:=hs
  exact False.elim q
end
section
section
variable {X:Cx}{x:Str}{p pos:Pos}{e:Expr}{es:List Expr}{t:TA}{id T:String}{r:List V->Hp->VK->Prop}
noncomputable def tCB(r:List V->Hp->VK->Prop)(t:TA):TE:=λσ H Q=>t σ H λvs H1=>r vs H1 Q
theorem iB(hc:ya X (.builtin id) r)(hg:Gl X x)(hm:X.mg x=none)(hv:bootBuiltins x=some (.builtin id))(ha:PA X (e::es) t)(hn:x≠"__name__":=by decide)(hdb:(x == ("__debug__" : Str))=false:=by decide)
  (he:je X e es:=by rfl) (hpl:ip X pos es:=by rfl):PE X (.Call (.Name x p) (e::es) [] pos) (tCB r t):=by
 intro pins s σ H Q I h
 refine wpAny_Call_Name_kw (eN I hg hm hv ?_ hn hdb)
 exact PyProof.Rows.callWith_builtin1 (aG (ha pos pins s σ H _ I h) λus s1 ⟨vs,H1,I1,r1,q1⟩=>hc pins s1 σ H1 vs us Q I1 r1 q1) he hpl
theorem nL(hc:ya X (.type T) r)(hg:Gl X x)(hm:X.mg x=none)(hv:bootBuiltins x=some (.type T))(ha:PA X (e::es) t)(hn:x≠"__name__":=by decide)(hdb:(x == ("__debug__" : Str))=false:=by decide)
  (he:je X e es:=by rfl) (hpl:ip X pos es:=by rfl):PE X (.Call (.Name x p) (e::es) [] pos) (tCB r t):=by
 intro pins s σ H Q I h
 refine wpAny_Call_Name_kw (eN I hg hm hv ?_ hn hdb)
 exact PyProof.Rows.callWith_type1 (aG (ha pos pins s σ H _ I h) λus s1 ⟨vs,H1,I1,r1,q1⟩=>hc pins s1 σ H1 vs us Q I1 r1 q1) he hpl
end
end
section
section
variable {κ:Type}[DecidableEq κ]
noncomputable def b9(kvs:List (κ×V))(k:κ):Option V:=(kvs.find? λkv=>decide (kv.1=k)).map (·.2)
noncomputable def bM(kvs:List (κ×V))(k:κ)(v:V):List (κ×V) :=
 if (kvs.any λkv=>decide (kv.1=k))=true then kvs.map (λkv=>if kv.1=k then (kv.1,v) else kv) else kvs++[(k,v)]
theorem kI{p:κ×V}{r:List (κ×V)}{k:κ}(e:p.1=k):b9 (p::r) k=some p.2:=by simp [b9,List.find?_cons,e]
theorem kJ{p:κ×V}{r:List (κ×V)}{k:κ}(e:¬ p.1=k):b9 (p::r) k=b9 r k:=by simp [b9,List.find?_cons,e]
theorem rg(k:κ):∀kvs:List (κ×V),(kvs.any λkv=>decide (kv.1=k))=(b9 kvs k).isSome
 | []=>rfl
 | p::r=>by
  rw [List.any_cons]
  by_cases e:p.1=k
  ·simp only [kI e,decide_eq_true e,Bool.true_or,Option.isSome_some]
  ·rw [kJ e,decide_eq_false e,Bool.false_or];exact rg k r
theorem kK(kvs:List (κ×V))(k:κ)(v:V):(bM kvs k v).length≤kvs.length+1:=by
 unfold bM
 split
 ·rw [z19];lia
 ·rw [z14,z29,List.length_nil];lia
theorem fO.y1b6{o:Option V}{u:Option Value}(r:fO o u):o.isSome=u.isSome:=by
 cases o with
 | none=>cases u with
  | none=>rfl
  | some _=>exact (show False from r).elim
 | some _=>cases u with
  | none=>exact (show False from r).elim
  | some _=>rfl
theorem fO.getD{o:Option V}{u:Option Value}{d:V}{d':Value}(r:fO o u)(rd:av d d'):av (o.getD d) (u.getD d'):=by
 cases o with
 | none=>cases u with
  | none=>exact rd
  | some _=>exact (show False from r).elim
 | some _=>cases u with
  | none=>exact (show False from r).elim
  | some _=>exact r
theorem KV.val{kvs:List (κ×V)}{vs:List (κ×Value)}(r:KV kvs vs)(k:κ):fO (b9 kvs k) (valueAt vs k):=by
 unfold KV at r
 induction r with
 | nil=>exact True.intro
 | @cons p q ps qs h t ih =>
  obtain⟨h1,h2⟩:=h
  by_cases e:p.1=k
  ·have e':q.1=k:=h1.symm.trans e
   have b:valueAt (q::qs) k=some q.2:=by simp [valueAt,List.find?_cons,e']
   rw [kI e,b];exact h2
  ·have e':¬ q.1=k:=λz=>e (h1.trans z)
   have b:valueAt (q::qs) k=valueAt qs k:=by simp [valueAt,List.find?_cons,e']
   rw [kJ e,b];exact ih
theorem KV.any{kvs:List (κ×V)}{vs:List (κ×Value)}(r:KV kvs vs)(k:κ):(kvs.any λkv=>decide (kv.1=k))=vs.any λkv=>decide (kv.1=k):=by
 unfold KV at r
 induction r with
 | nil=>rfl
 | cons h t ih=>rw [List.any_cons,List.any_cons,ih,h.1]
theorem KV.repl{kvs:List (κ×V)}{vs:List (κ×Value)}(r:KV kvs vs)(k:κ){y:V}{u:Value}(ry:av y u) :
  KV (kvs.map λkv=>if kv.1=k then (kv.1,y) else kv) (vs.map λkv=>if kv.1=k then (kv.1,u) else kv):=by
 unfold KV at r ⊢
 induction r with
 | nil=>exact .nil
 | @cons p q ps qs h t ih =>
  rw [z1a,z1a]
  refine .cons ?_ ih
  obtain⟨h1,h2⟩:=h
  by_cases e:p.1=k
  ·rw [if_pos e,if_pos (h1.symm.trans e)];exact⟨h1,ry⟩
  ·rw [if_neg e,if_neg (λz=>e (h1.trans z))];exact⟨h1,h2⟩
theorem KV.put{kvs:List (κ×V)}{vs:List (κ×Value)}(r:KV kvs vs)(k:κ){y:V}{u:Value}(ry:av y u):KV (bM kvs k y) (stored vs k u):=by
 unfold bM stored
 rw [r.any k]
 by_cases e:(vs.any λkv=>decide (kv.1=k))=true
 ·rw [if_pos e,if_pos e];exact r.repl k ry
 ·rw [if_neg e,if_neg e];exact Paired.snoc r ⟨rfl,ry⟩
theorem KV.length{kvs:List (κ×V)}{vs:List (κ×Value)}(r:KV kvs vs):kvs.length=vs.length:=Paired.length r
end
theorem gJ{P:Program}{w:World}{k:aB}{u:Value}(r:av (kV k) u):(bZ P w).is k u=true:=by
 cases k with
 | inl i=>obtain⟨t,e⟩:=(show ∃t,u=Value.int i t from r);subst e;exact xl P w i t
 | inr x=>obtain⟨t,e⟩:=(show ∃t,u=Value.str x t from r);subst e;exact xm P w x t
theorem rh{P:Program}{w:World}:∀{ks:List aB} {us:List Value},ao (ks.map kV) us->ItemsAre (bZ P w) ks us
 | [],_,r=>by rw [List.map_nil] at r;cases r;exact .nil
 | k::ks,_,r=>by
  rw [z1a] at r
  cases r with
  | cons h t=>exact .cons (gJ h) (rh t)
noncomputable abbrev KT(H:Hp):List (List aB×V)->List (List aB×Addr×Value)->Prop:=Paired λp q=>p.1=q.1/\H q.2.1=some (.tup (p.1.map kV))/\av p.2 q.2.2
theorem KT.val{H:Hp}{kvs:List (List aB×V)}{xs:List (List aB×Addr×Value)}(r:KT H kvs xs)(k:List aB):fO (b9 kvs k) ((atKey xs k).map (·.2)):=by
 induction r with
 | nil=>exact True.intro
 | @cons p q ps qs h t ih =>
  obtain⟨h1,_,h2⟩:=h
  by_cases e:p.1=k
  ·have e':q.1=k:=h1.symm.trans e
   have b:atKey (q::qs) k=some q.2:=by simp [atKey,List.find?_cons,e']
   rw [kI e,b];exact h2
  ·have e':¬ q.1=k:=λz=>e (h1.trans z)
   have b:atKey (q::qs) k=atKey qs k:=by simp [atKey,List.find?_cons,e']
   rw [kJ e,b];exact ih
theorem KT.repl{H:Hp}{kvs:List (List aB×V)}{xs:List (List aB×Addr×Value)}(r:KT H kvs xs)(k:List aB){y:V}{u:Value}(ry:av y u) :
  KT H (kvs.map λkv=>if kv.1=k then (kv.1,y) else kv) (xs.map (putAt k u)):=by
 induction r with
 | nil=>exact .nil
 | @cons p q ps qs h t ih =>
  rw [z1a,z1a]
  refine .cons ?_ ih
  obtain⟨h1,h2,h3⟩:=h
  unfold putAt
  by_cases e:p.1=k
  ·rw [if_pos e,if_pos (h1.symm.trans e)];exact⟨h1,h2,ry⟩
  ·rw [if_neg e,if_neg (λz=>e (h1.trans z))];exact⟨h1,h2,h3⟩
theorem KT.put{H:Hp}{kvs:List (List aB×V)}{xs:List (List aB×Addr×Value)}(r:KT H kvs xs)(k:List aB){b:Addr}{y:V}{u:Value}(hb:H b=some (.tup (k.map kV)))(ry:av y u) :
  KT H (bM kvs k y) (storedH xs k b u):=by
 have e:(kvs.any λkv=>decide (kv.1=k))=(atKey xs k).isSome:=by
  rw [rg,(r.val k).y1b6,Option.isSome_map]
 unfold bM storedH
 rw [e]
 by_cases q:(atKey xs k).isSome=true
 ·rw [if_pos q,if_pos q];exact r.repl k ry
 ·rw [if_neg q,if_neg q];exact Paired.snoc r ⟨rfl,hb,ry⟩
theorem KT.keeps{H H':Hp}{kvs:List (List aB×V)}{xs:List (List aB×Addr×Value)}(r:KT H kvs xs)(ht:∀b ys,H b=some (.tup ys)->H' b=some (.tup ys)):KT H' kvs xs :=
 Paired.mapP r λ_ _ z=>⟨z.1,ht _ _ z.2.1,z.2.2⟩
section
variable {P:Program}{w:World}{H:Hp}{h:Heap}{a:Addr}
theorem rj{u:HO}(ok:cR P w H h)(e:Rd H a u):dO P w H h a u:=e.ok ok
theorem nM{kvs:List (aB×V)}(ok:cR P w H h)(e:Rd H a (.dK kvs)):kvs.length≤sizeLine/\(a == sysModules)=false/\∃vs,KV kvs vs/\h.DictOf (bZ P w) a vs :=
 show dO P w H h a (.dK kvs) from rj ok e
theorem yS{kvs:List (aB×V)}(ok:cR P w H h)(e:H a=some (.dK kvs)):kvs.length≤sizeLine/\(a == sysModules)=false/\∃vs,KV kvs vs/\h.DictOf (bZ P w) a vs:=nM ok (.inl e)
theorem gK{ks:List aB}(ok:cR P w H h)(e:H a=some (.tup (ks.map kV))):(tupleKind (bZ P w)).is h ks a:=by
 obtain⟨_,its,r,o,h1,h2,_,n,h3⟩:=(show dO P w H h a (.tup (ks.map kV)) from ok a _ e)
 exact⟨o,its.toArray,n,h1,h2,h3,by simpa using rh r⟩
theorem pL{kvs:List (List aB×V)}(ok:cR P w H h)(e:Rd H a (.dT kvs)):kvs.length≤sizeLine/\(a == sysModules)=false /\
  ∃xs,KT H kvs xs/\h.DictOfH (tupleKind (bZ P w)) a xs:=by
 obtain⟨z,y,xs,r,o,es,ep,h1,h2,h3,h4,h5⟩:=(show dO P w H h a (.dT kvs) from rj ok e)
 refine⟨z,y,xs,r,o,es,ep,h1,h2,h3,h4,λx hx=>?_,h5⟩
 have all:∀{l:List (List aB×V)} {m:List (List aB×Addr×Value)},KT H l m->∀x∈m,(tupleKind (bZ P w)).is h x.1 x.2.1:=by
  intro l m q
  induction q with
  | nil=>intro x hx;exact nomatch hx
  | @cons p q ps qs hq t ih =>
   intro x hx
   rcases z1e.mp hx with e|hx
   ·subst e
    exact gK ok (by rw [<- hq.1];exact hq.2.1)
   ·exact ih x hx
 exact all r x hx
theorem yf5{kvs:List (List aB×V)}(ok:cR P w H h)(e:H a=some (.dT kvs)):kvs.length≤sizeLine/\(a == sysModules)=false /\
  ∃xs,KT H kvs xs/\h.DictOfH (tupleKind (bZ P w)) a xs:=pL ok (.inl e)
end
noncomputable def fm(H:Hp)(a:Addr)(y:V)(r:Option V):Prop :=
 (∃kvs k,Rd H a (.dK kvs)/\y=kV k/\r=b9 kvs k)∨∃kvs k b,Rd H a (.dT kvs)/\y=.ref b/\H b=some (.tup (k.map kV))/\r=b9 kvs k
noncomputable def kL(H:Hp)(a:Addr)(y v:V)(H':Hp):Prop :=
 (∃kvs k,H a=some (.dK kvs)/\y=kV k/\kvs.length<sizeLine/\H'=aD H a (.dK (bM kvs k v))) ∨
 ∃kvs k b,H a=some (.dT kvs)/\y=.ref b/\H b=some (.tup (k.map kV))/\kvs.length<sizeLine/\H'=aD H a (.dT (bM kvs k v))
theorem fm.k{H:Hp}{a:Addr}{kvs:List (aB×V)}{k:aB}(e:H a=some (.dK kvs)):fm H a (kV k) (b9 kvs k):=.inl ⟨kvs,k,.inl e,rfl,rfl⟩
theorem fm.t{H:Hp}{a b:Addr}{kvs:List (List aB×V)}{k:List aB}(e:H a=some (.dT kvs))(eb:H b=some (.tup (k.map kV))):fm H a (.ref b) (b9 kvs k):=.inr ⟨kvs,k,b,.inl e,rfl,eb,rfl⟩
theorem kL.k{H:Hp}{a:Addr}{kvs:List (aB×V)}{k:aB}{v:V}(e:H a=some (.dK kvs))(hl:kvs.length<sizeLine):kL H a (kV k) v (aD H a (.dK (bM kvs k v))):=.inl ⟨kvs,k,e,rfl,hl,rfl⟩
theorem kL.t{H:Hp}{a b:Addr}{kvs:List (List aB×V)}{k:List aB}{v:V}(e:H a=some (.dT kvs))(eb:H b=some (.tup (k.map kV)))(hl:kvs.length<sizeLine) :
  kL H a (.ref b) v (aD H a (.dT (bM kvs k v))):=.inr ⟨kvs,k,b,e,rfl,eb,hl,rfl⟩
section
variable {X:Cx}{pins:List (Addr×Obj)}{σ:St}{H:Hp}{s:Shared}{a:Addr}{y v:V}{u r:Value}{o:Option V}{A:Around}{E:Value->Shared->Prop}
theorem Inv.big(I:Inv X pins σ H s):sysModules<s.heap.objs.size:=by
 have h:mainGlobals<s.heap.objs.size:=(I.mod.glob.keeps I.bk).lt
 exact Nat.lt_trans (by decide) h
theorem ycc{Q:Value->Shared->Prop}(hu:A.units+1<cLine)(I:Inv X pins σ H s)(g:fm H a y (some v))(ry:av y u)(h:∀w' s',Inv X pins σ H s'->av v w'->Q w' s') :
  wpAny (model X.prog X.w) A (getItem (.ref a) u) Q E s:=by
 rcases g with⟨kvs,k,e,ey,l⟩| ⟨kvs,k,b,e,ey,eb,l⟩
 ·subst ey
  obtain⟨z,hd,vs,rel,dd⟩:=nM I.hok e
  obtain⟨w',hw,rw'⟩:=fO.some_of (v:=v) (o:=valueAt vs k) (by rw [l];exact rel.val k)
  exact wpAny_getItem_of (gJ ry) dd.mapOf hw (h w' _ (I.tok _) rw')
 ·subst ey
  cases (show u=Value.ref b from ry)
  obtain⟨z,hd,xs,rel,dd⟩:=pL I.hok e
  obtain⟨w',hw,rw'⟩:=fO.some_of (v:=v) (o:=(atKey xs k).map (·.2)) (by rw [l];exact rel.val k)
  obtain⟨p,hp,hp2⟩:=Option.map_eq_some_iff.mp hw
  refine wpAny_getItem_heap (tupleKind_room_in1 hu) (gK I.hok eb) dd hp ?_
  rw [hp2]
  exact h w' _ (I.tok _) rw'
theorem yT{Q:Value->Shared->Prop}(hu:A.units+1<cLine)(I:Inv X pins σ H s)(g:fm H a y o)(ry:av y u)(h:∀s',Inv X pins σ H s'->Q (.bool o.isSome) s') :
  wpAny (model X.prog X.w) A (compareOp .In u (.ref a)) Q E s:=by
 rcases g with⟨kvs,k,e,ey,l⟩| ⟨kvs,k,b,e,ey,eb,l⟩
 ·subst ey
  obtain⟨z,hd,vs,rel,dd⟩:=nM I.hok e
  refine wpAny_in_of (gJ ry) hd dd.mapOf ?_
  rw [<- (rel.val k).y1b6,<- l]
  exact h _ (I.tok _)
 ·subst ey
  cases (show u=Value.ref b from ry)
  obtain⟨z,hd,xs,rel,dd⟩:=pL I.hok e
  refine wpAny_in_heap (tupleKind_room_in1 hu) (gK I.hok eb) hd dd ?_
  have q:=(rel.val k).y1b6
  rw [Option.isSome_map] at q
  rw [<- q,<- l]
  exact h _ (I.tok _)
theorem ycd{Q:Value->Shared->Prop}(hu:A.units+1<cLine)(I:Inv X pins σ H s)(g:fm H a y o)(ry:av y u)(h:∀s',Inv X pins σ H s'->Q (.bool (!o.isSome)) s') :
  wpAny (model X.prog X.w) A (compareOp .NotIn u (.ref a)) Q E s:=by
 rcases g with⟨kvs,k,e,ey,l⟩| ⟨kvs,k,b,e,ey,eb,l⟩
 ·subst ey
  obtain⟨z,hd,vs,rel,dd⟩:=nM I.hok e
  refine wpAny_notIn_of (gJ ry) hd dd.mapOf ?_
  rw [<- (rel.val k).y1b6,<- l]
  exact h _ (I.tok _)
 ·subst ey
  cases (show u=Value.ref b from ry)
  obtain⟨z,hd,xs,rel,dd⟩:=pL I.hok e
  refine wpAny_notIn_heap (tupleKind_room_in1 hu) (gK I.hok eb) hd dd ?_
  have q:=(rel.val k).y1b6
  rw [Option.isSome_map] at q
  rw [<- q,<- l]
  exact h _ (I.tok _)
theorem wC{h':Heap}{t':Nat}{ob:HO}(I:Inv X pins σ H s)(mu:p9 (H a))(hs:Heap.SameBut a s.heap h')(he:∃q,h'.get? a=some q)(new:dO X.prog X.w (aD H a ob) h' a ob) :
  Inv X pins σ (aD H a ob) { s with heap:=h',toks:=t' } :=
 I.write (x:=a) (e:=a) mu (.inl rfl) (λb q hb z=>(hs.2 b hb).trans z) he new
theorem ye7{P:Program}{w:World}{H':Hp}{h':Heap}{kvs:List (aB×V)}{vs:List (aB×Value)}(z:kvs.length≤sizeLine)(hd:(a == sysModules)=false)(rel:KV kvs vs)(dd:h'.DictOf (bZ P w) a vs) :
  dO P w H' h' a (.dK kvs):=⟨z,hd,vs,rel,dd⟩
theorem yce{H':Hp}{Q:Unit->Shared->Prop}(hu:A.units+1<cLine)(I:Inv X pins σ H s)(g:kL H a y v H')(ry:av y u)(rv:av v r)(h:∀s',Inv X pins σ H' s'->Q () s') :
  wpAny (model X.prog X.w) A (setItem (.ref a) u r) Q E s:=by
 rcases g with⟨kvs,k,e,ey,l,eH⟩| ⟨kvs,k,b,e,ey,eb,l,eH⟩
 ·subst ey eH
  obtain⟨z,hd,vs,rel,dd⟩:=yS I.hok e
  have hz:vs.length≤sizeLine:=by rw [<- rel.length];exact z
  have hl:(bM kvs k v).length≤sizeLine:=by have:=kK kvs k v;lia
  refine wpAny_setItem_pairs (hsz:=hz) (gJ ry) dd λh' dd' hs=>h _ ?_
  have he:∃q,h'.get? a=some q:=let ⟨q,_,_,hq,_⟩:=dd';⟨q,hq⟩
  exact wC I (by rw [e];exact True.intro) hs he (ye7 hl hd (rel.put k rv) dd')
 ·subst ey eH
  cases (show u=Value.ref b from ry)
  obtain⟨z,hd,xs,rel,dd⟩:=yf5 I.hok e
  have hz:xs.length≤sizeLine:=by rw [<- Paired.length rel];exact z
  have hl:(bM kvs k v).length≤sizeLine:=by have:=kK kvs k v;lia
  refine wpAny_setItem_heap (hsz:=hz) (tupleKind_room_in1 hu) (gK I.hok eb) dd λh' dd' hs=>h _ ?_
  obtain⟨q,es,ep,hq,h2,h3,h4,_,h5⟩:=dd'
  refine wC I (by rw [e];exact True.intro) hs ⟨q,hq⟩ ⟨hl,hd,_,(rel.put k eb rv).keeps λc ys ec=>?_,q,es,ep,hq,h2,h3,h4,h5⟩
  rw [aI (kx ec e (λz=>nomatch z))]
  exact ec
end
section
variable {X:Cx}{pins:List (Addr×Obj)}{σ:St}{H:Hp}{s:Shared}{a:Addr}{kvs:List (aB×V)}{k:aB}{u:Value}{A:Around}{E:Value->Shared->Prop}
theorem rn{Q:Value->Shared->Prop}(I:Inv X pins σ H s)(e:Rd H a (.dK kvs))(h:∀t s',Inv X pins σ H s'->Q (.int kvs.length t) s'):wpAny (model X.prog X.w) A (call (.builtin "len") [.ref a]) Q E s:=by
 obtain⟨z,hd,vs,rel,dd⟩:=nM I.hok e
 refine call_len_dict hd dd (by rw [<- rel.length];rw [sizeLine_eq] at z;lia) ?_
 rw [<- rel.length]
 exact h _ _ (I.tok _)
end
noncomputable def rq(i:Expr):Prop:=∀ov iv,subscripted i false ov iv=operate [ov,iv] (getItem ov iv)
theorem yU{prog:Program}{w:World}{A:Around}{E:Value->Shared->Prop}{s:Shared}{env:Env}{value slice:Expr}{pos:Pos}{T id:String}{Q:Value->Shared->Prop}
  (hl:typeLookup (.type T) "__getitem__" = pure (some (.builtin id))) (hs:rq slice)
  (h:wpAny (model prog w) A (eval value env) (λo s₁=>wpAny (model prog w) A (eval slice env) (λi s₂=>s₂.TypeIs o T/\wpAny (model prog w) A (getItem o i) Q E s₂) E s₁) E s) :
  wpAny (model prog w) A (eval (.Subscript value slice pos) env) Q E s:=by
 refine Subscript_ (wpAny_mono h (λo s₁ h₁=>wpAny_mono h₁ (λi s₂ h₂=>?_) λ_ _ x=>x) λ_ _ x=>x)
 obtain⟨hT,h₂⟩:=h₂
 unfold subscriptTail
 refine zc ?_
 rw [getitemInPython_of_ne hT.not_modules]
 refine zc (wpAny_specialOf hT hl ?_)
 have fin:wpAny (model prog w) A (subscripted slice false o i) (λr s₃=>wpAny (model prog w) A (letTemporaryGo value o r >>= λ_=>pure r) Q E s₃) E s₂:=by
  rw [hs o i]
  exact wpAny_operating (wpAny_mono h₂ (λr s₃ h₃=>zc (wpAny_letTemporaryGo (z15 h₃))) λ_ _ x=>x)
 first
  | exact z15 (zc fin)
  | exact zc (z15 (zc fin))
  | exact zc fin
theorem ye5{X:Cx}{pins:List (Addr×Obj)}{σ:St}{H:Hp}{s:Shared}{a:Addr}{y:V}{o:Option V}(I:Inv X pins σ H s)(g:fm H a y o):s.TypeIs (.ref a) "dict":=by
 rcases g with⟨kvs,k,e,_,_⟩| ⟨kvs,k,b,e,_,_,_⟩
 ·obtain⟨_,_,vs,_,dd⟩:=nM I.hok e
  exact dd.typeIs
 ·obtain⟨_,_,xs,_,dd⟩:=pL I.hok e
  exact dd.typeIs
noncomputable def rB(td ty:TE):TE:=λσ H Q=>td σ H λx H1=>ty σ H1 λy H2=>∃a v,x=.ref a/\fm H2 a y (some v)/\Q v H2
noncomputable def yV(ty td:TE):TE:=λσ H Q=>ty σ H λy H1=>td σ H1 λx H2=>∃a o,x=.ref a/\fm H2 a y o/\Q (.bl o.isSome) H2
noncomputable def yW(ty td:TE):TE:=λσ H Q=>ty σ H λy H1=>td σ H1 λx H2=>∃a o,x=.ref a/\fm H2 a y o/\Q (.bl (!o.isSome)) H2
noncomputable def rD(td ty tv:TE):TS:=λD σ H=>tv σ H λv H1=>td σ H1 λx H2=>ty σ H2 λy H3=>∃a H4,x=.ref a/\kL H3 a y v H4/\D.nx σ H4
section
variable {X:Cx}{o i e value:Expr}{pos pos' tpos:Pos}{td ty tv:TE}
theorem yX(hu:X.A.units+1<cLine)(ho:PE X o td)(hi:PE X i ty)(hs:rq i):PE X (.Subscript o i pos) (rB td ty):=by
 intro pins s σ H Q I h
 refine yU PySem.F.slot_dict_getitem.lookup hs (aG (ho pins s σ H _ I h) λu s1 ⟨x,H1,I1,rx,q1⟩=>aG (hi pins s1 σ H1 _ I1 q1) λiv s2 zz=>?_)
 obtain⟨y,H2,I2,ry,a,v,ex,g,q2⟩:=zz
 subst ex
 obtain rfl:u=Value.ref a:=rx
 exact⟨ye5 I2 g,ycc hu I2 g ry λw' s3 I3 rw'=>⟨v,H2,I3,rw',q2⟩⟩
theorem yY(hu:X.A.units+1<cLine)(hi:PE X i ty)(ho:PE X o td):PC X .In i o (yV ty td):=by
 intro pins s σ H Q I h
 refine aG (hi pins s σ H _ I h) λiv s1 ⟨y,H1,I1,ry,q1⟩=>aG (ho pins s1 σ H1 _ I1 q1) λu s2 zz=>?_
 obtain⟨x,H2,I2,rx,a,ov,ex,g,q2⟩:=zz
 subst ex
 obtain rfl:u=Value.ref a:=rx
 exact yT hu I2 g ry λs3 I3=>⟨.bl ov.isSome,H2,I3,rfl,q2⟩
theorem yZ(hu:X.A.units+1<cLine)(hi:PE X i ty)(ho:PE X o td):PC X .NotIn i o (yW ty td):=by
 intro pins s σ H Q I h
 refine aG (hi pins s σ H _ I h) λiv s1 ⟨y,H1,I1,ry,q1⟩=>aG (ho pins s1 σ H1 _ I1 q1) λu s2 zz=>?_
 obtain⟨x,H2,I2,rx,a,ov,ex,g,q2⟩:=zz
 subst ex
 obtain rfl:u=Value.ref a:=rx
 exact ycd hu I2 g ry λs3 I3=>⟨.bl (!ov.isSome),H2,I3,rfl,q2⟩
theorem zg(hu:X.A.units+1<cLine)(ho:PE X o td)(hi:PE X i ty)(hv:PE X value tv)(hs:swapsWith value (some (.Subscript o i pos')) pos.line X.env=pure false) :
  PS X (.Assign [.Subscript o i pos'] value pos) (rD td ty tv):=by
 intro pins s σ H D I h
 refine wpAny_Assign_Subscript (aG (hv pins s σ H _ I h) λr s1 ⟨v,H1,I1,rv,q1⟩=>aG (ho pins s1 σ H1 _ I1 q1) λu s2 ⟨x,H2,I2,rx,q2⟩=>aG (hi pins s2 σ H2 _ I2 q2) λiv s3 ⟨y,H3,I3,ry,a,H4,ex,g,q3⟩=>?_) hs
 subst ex
 obtain rfl:u=Value.ref a:=rx
 exact yce hu I3 g ry rv λs4 I4=>⟨σ,H4,I4,q3⟩
end
theorem ye6{P:Program}{w:World}{H:Hp}(h:Heap)(hb:sysModules<h.objs.size):dO P w H (h.push { cls:=.type "dict",data:=.dict #[] }) h.objs.size (.dK []) :=
 ⟨Nat.zero_le _,beq_eq_false_iff_ne.mpr (Ne.symm (z26 hb)),[],.nil,Heap.DictOf.new h⟩
theorem yf4{P:Program}{w:World}{H:Hp}(h:Heap)(hb:sysModules<h.objs.size):dO P w H (h.push { cls:=.type "dict",data:=.dict #[] }) h.objs.size (.dT []) :=
 ⟨Nat.zero_le _,beq_eq_false_iff_ne.mpr (Ne.symm (z26 hb)),[],.nil,_,#[],0,z21 _ rfl,⟨rfl,rfl,rfl⟩,rfl,rfl,List.nodup_nil⟩
noncomputable def rE:TE:=λ_ H Q=>∀p,H p=none->Q (.ref p) (aD H p (.dK []))
noncomputable def rF:TE:=λ_ H Q=>∀p,H p=none->Q (.ref p) (aD H p (.dT []))
section
variable {X:Cx}{pos:Pos}
theorem zh:PE X (.Dict [] [] pos) rE:=λpins s σ H Q I h =>
 wpAny_Dict_empty ⟨.ref s.heap.objs.size,_,I.laid (a:=s.heap.objs.size) (o:=.dK []) (t':=s.toks) (λ_ _ q=>z13 _ q) (z12 _) (ye6 s.heap I.big),rfl,h _ (I.hok.fresh (z12 _))⟩
theorem zi:PE X (.Dict [] [] pos) rF:=λpins s σ H Q I h =>
 wpAny_Dict_empty ⟨.ref s.heap.objs.size,_,I.laid (a:=s.heap.objs.size) (o:=.dT []) (t':=s.toks) (λ_ _ q=>z13 _ q) (z12 _) (yf4 s.heap I.big),rfl,h _ (I.hok.fresh (z12 _))⟩
end
noncomputable def kM:List (TE×TE)->St->Hp->(List (V×V)->Hp->Prop)->Prop
 | [],_,H,Q=>Q [] H
 | (tk,tv)::r,σ,H,Q=>tk σ H λx H1=>tv σ H1 λy H2=>kM r σ H2 λps H3=>Q ((x,y)::ps) H3
noncomputable abbrev VV:List (V×V)->List (Value×Value)->Prop:=Paired λp q=>av p.1 q.1/\av p.2 q.2
noncomputable def rG(X:Cx)(pos:Pos)(keys:List (Option Expr))(values:List Expr)(trs:List (TE×TE)):Prop :=
 ∀(pins:List (Addr×Obj)) (s:Shared) (σ:St) (H:Hp) (Q:List (V×V)->Hp->Prop),Inv X pins σ H s->kM trs σ H Q ->
  wpAny (model X.prog X.w) X.A (evalPairs (pairTrees keys values X.env pos)) (λvs s'=>∃ps H',Inv X pins σ H' s'/\VV ps vs/\Q ps H') X.xe s
theorem zj{X:Cx}{pos:Pos}:rG X pos [] [] []:=λpins s σ H Q I h=>pairTrees_nil_walk ⟨[],H,I,.nil,h⟩
theorem zl{X:Cx}{pos:Pos}{k v:Expr}{ks:List (Option Expr)}{vs:List Expr}{tk tv:TE}{trs:List (TE×TE)}(hk:PE X k tk)(hv:PE X v tv)(hr:rG X pos ks vs trs) :
  rG X pos (some k::ks) (v::vs) ((tk,tv)::trs):=λpins s σ H Q I h =>
 pairTrees_cons_walk (aG (hk pins s σ H _ I h) λu s1 ⟨x,H1,I1,rx,q1⟩=>aG (hv pins s1 σ H1 _ I1 q1) λw2 s2 ⟨y,H2,I2,ry,q2⟩ =>
  aG (hr pins s2 σ H2 _ I2 q2) λws s3 ⟨ps,H3,I3,rel,q3⟩=>⟨(x,y)::ps,H3,I3,.cons ⟨rx,ry⟩ rel,q3⟩)
noncomputable def gL(kvs more:List (aB×V)):List (aB×V):=more.foldl (λacc kv=>bM acc kv.1 kv.2) kvs
theorem KV.merge:∀{more:List (aB×V)} {rs:List (aB×Value)} {kvs:List (aB×V)} {vs:List (aB×Value)},KV more rs->KV kvs vs->KV (gL kvs more) (merged vs rs):=by
 intro more rs kvs vs r
 unfold KV at r
 induction r generalizing kvs vs with
 | nil=>intro q;exact q
 | @cons p q ps qs h t ih =>
  intro r0
  have e:KV (bM kvs p.1 p.2) (stored vs q.1 q.2):=by
   have:=r0.put p.1 h.2
   rw [<- h.1];exact this
  exact ih e
theorem rH:∀(more kvs:List (aB×V)),(gL kvs more).length≤kvs.length+more.length
 | [],kvs=>by show kvs.length≤kvs.length+0;lia
 | p::r,kvs=>by
  have h1:=rH r (bM kvs p.1 p.2)
  have h2:=kK kvs p.1 p.2
  show (gL (bM kvs p.1 p.2) r).length≤_
  rw [z29];lia
theorem ya1{P:Program}{w:World}:∀{kvs:List (aB×V)} {ws:List (Value×Value)},VV (kvs.map λkv=>(kV kv.1,kv.2)) ws->∃rs,Carries (bZ P w) ws rs/\KV kvs rs
 | [],_,r=>by rw [List.map_nil] at r;cases r;exact⟨[],True.intro,.nil⟩
 | p::kvs,_,r=>by
  rw [z1a] at r
  cases r with
  | @cons a b as bs h t =>
   obtain⟨rs,c,q⟩:=ya1 (P:=P) (w:=w) t
   obtain⟨b1,b2⟩:=b
   exact⟨(p.1,b2)::rs,⟨gJ h.1,rfl,c⟩,.cons ⟨rfl,h.2⟩ q⟩
noncomputable def rJ(trs:List (TE×TE)):TE:=λσ H Q=>∀p,H p=none->kM trs σ (aD H p (.dK [])) λps H2=>H2 p=some (.dK [])/\∃kvs:List (aB×V),ps=kvs.map (λkv=>(kV kv.1,kv.2))/\kvs.length≤15/\Q (.ref p) (aD H2 p (.dK (gL [] kvs)))
theorem zm{X:Cx}{pos:Pos}{keys:List (Option Expr)}{values:List Expr}{trs:List (TE×TE)}(h:rG X pos keys values trs)(y17f:keys.all (·.isSome)=true)(hl:keys.length=values.length)(h0:keys≠[])
  (h15:keys.length≤15):PE X (.Dict keys values pos) (rJ trs):=by
 intro pins s σ H Q I q
 have hn:=I.hok.fresh (z12 s.heap.objs.size)
 have I1:=I.laid (a:=s.heap.objs.size) (o:=.dK []) (h':=s.heap.push { cls:=.type "dict",data:=.dict #[] }) (t':=s.toks) (λ_ _ q=>z13 _ q) (z12 _) (ye6 s.heap I.big)
 refine wpAny_Dict_walk (knd:=bZ X.prog X.w) y17f hl h0 h15 (aG (h pins _ σ _ _ I1 (q _ hn)) λws s2 zz=>?_)
 obtain⟨ps,H2,I2,rel,e,kvs,ep,lk,q2⟩:=zz
 subst ep
 obtain⟨rs,c,rk⟩:=ya1 (P:=X.prog) (w:=X.w) rel
 obtain⟨z,hd,vs0,r0,dd⟩:=yS I2.hok e
 cases r0
 refine⟨rs,c,dd,λh' dd' hs=>⟨.ref s.heap.objs.size,_,?_,rfl,q2⟩⟩
 have hz:(gL [] kvs).length≤sizeLine:=by
  have h1:=rH kvs []
  rw [List.length_nil] at h1
  rw [sizeLine_eq];lia
 have he:∃q,h'.get? s.heap.objs.size=some q:=let ⟨q,_,_,hq,_⟩:=dd';⟨q,hq⟩
 exact wC I2 (by rw [e];exact True.intro) hs he (ye7 hz hd (rk.merge .nil) dd')
structure M1(X:Cx)(o:Expr)(m:Str)(apos:Pos)(e:Expr)(ybe:Pos):Prop where
 base:attributeBase o m X.env (eval o X.env)=eval o X.env
 few:((backTo ybe (starEach [e] X.env)).all (λx=>!x.1)&&(backToKw ybe (keywordEach [] X.env)).all (λx=>x.1.isSome)
  && decide (([e]:List Expr).length+([]:List Keyword).length+(if ([]:List Keyword).isEmpty then 0 else 1)<30))=true
 line:(apos.endLine == ybe.line)=true
 trees:backTo ybe (starEach [e] X.env)=[(false,eval e X.env)]
structure M2(X:Cx)(o:Expr)(m:Str)(apos:Pos)(e f:Expr)(ybe:Pos):Prop where
 base:attributeBase o m X.env (eval o X.env)=eval o X.env
 few:((backTo ybe (starEach [e,f] X.env)).all (λx=>!x.1)&&(backToKw ybe (keywordEach [] X.env)).all (λx=>x.1.isSome)
  && decide (([e,f]:List Expr).length+([]:List Keyword).length+(if ([]:List Keyword).isEmpty then 0 else 1)<30))=true
 line:(apos.endLine == ybe.line)=true
 trees:backTo ybe (starEach [e,f] X.env)=[(false,eval e X.env),(false,eval f X.env)]
section
variable {X:Cx}{pins:List (Addr×Obj)}{σ:St}{H:Hp}{s:Shared}{a:Addr}{y d:V}{u r:Value}{o:Option V}{A:Around}{E:Value->Shared->Prop}
theorem ycb{Q:Value->Shared->Prop}(hu:A.units+1<cLine)(I:Inv X pins σ H s)(g:fm H a y o)(ry:av y u)(rd:av d r)(h:∀w' s',Inv X pins σ H s'->av (o.getD d) w'->Q w' s') :
  wpAny (model X.prog X.w) A (call (.builtin "dict.get") [.ref a,u,r]) Q E s:=by
 rcases g with⟨kvs,k,e,ey,l⟩| ⟨kvs,k,b,e,ey,eb,l⟩
 ·subst ey
  obtain⟨z,hd,vs,rel,dd⟩:=nM I.hok e
  refine call_meetsIn PySem.F.slot_dict_get dd.typeIs PySem.F.entry_dict_get (PySem.F.args_dict_get_3 _ _ _) (meets_dict_get_default (bZ X.prog X.w) a (gJ ry) hd r) ⟨_,dd.mapOf,h _ _ (I.tok _) ?_⟩
  rw [l]
  exact (rel.val k).getD rd
 ·subst ey
  cases (show u=Value.ref b from ry)
  obtain⟨z,hd,xs,rel,dd⟩:=pL I.hok e
  refine call_meetsIn PySem.F.slot_dict_get dd.typeIs PySem.F.entry_dict_get (PySem.F.args_dict_get_3 _ _ _) (meetsH_dict_get_default (tupleKind (bZ X.prog X.w)) a b hd r) ⟨tupleKind_room_in1 hu,k,xs,gK I.hok eb,dd,h _ _ (I.tok _) ?_⟩
  rw [l]
  exact (rel.val k).getD rd
end
end
end L2
namespace HT
open PySem PyProof.Rows
section
variable {prog:Program}{w:World}{A:Around}{E:Value->Shared->Prop}{s:Shared}
theorem ya6{t b:Addr}{vs ws:List Value}{Q:Value->Shared->Prop}(ht:IsTup s.heap t vs.toArray)(hb:IsTup s.heap b ws.toArray)(hv:vs≠[])
  (h1:ws=[]->Q (.ref t) s) (h2:ws≠[]->Q (.ref s.heap.objs.size) { s with heap:=s.heap.push { cls:=.type "tuple",data:=.seq (vs++ws).toArray } })
  (hsz:vs.length+ws.length≤sizeLine):wpAny (model prog w) A (binaryOp .Add (.ref t) (.ref b)) Q E s:=by
 obtain⟨⟨cls,dd,data,sl⟩,ho,hc,n,hd⟩:=id ht
 obtain⟨⟨cls2,dd2,data2,sl2⟩,ho2,hc2,n2,hd2⟩:=id hb
 simp only at hc hd hc2 hd2
 subst hc hd hc2 hd2
 have e:vs.toArray++ws.toArray=(vs++ws).toArray:=by simp
 by_cases hw:ws=[]
 ·exact concat_meets ⟨_,ho,rfl⟩ ⟨_,ho2,rfl⟩ noFill_tuple_add seq_tuple_add PySem.F.slot_tuple_add PySem.F.entry_tuple_add (PySem.F.args_tuple_add_2 _ _)
   (tuple_addW1 t b vs.toArray ws.toArray n n2 dd dd2 sl sl2 (by simpa using hv) (by simp [hw])) ⟨ho,ho2,h1 hw⟩
 ·refine concat_meets ⟨_,ho,rfl⟩ ⟨_,ho2,rfl⟩ noFill_tuple_add seq_tuple_add PySem.F.slot_tuple_add PySem.F.entry_tuple_add (PySem.F.args_tuple_add_2 _ _)
   (tuple_addW2 t b vs.toArray ws.toArray n n2 dd dd2 sl sl2 (by simpa using hv) (by simpa using hw) (by rw [ze,ze];exact hsz)) ⟨ho,ho2,?_⟩
  rw [e]
  exact h2 hw
noncomputable def sIx(n d:Nat):Option Int->Nat
 | none=>d
 | some v=>if v<0 then (v+(n:Int)).toNat else min v.toNat n
theorem y387(n d:Nat):sIx n d none=d:=rfl
theorem y386(n d k:Nat):sIx n d (some (k:Int))=min k n:=by
 show (if (k:Int)<0 then ((k:Int)+(n:Int)).toNat else min (k:Int).toNat n)=min k n
 rw [if_neg (by lia),Int.toNat_natCast]
theorem zo(n d:Nat)(hd:d≤n)(o:Option Int):sIx n d o≤n:=by
 cases o with
 | none=>exact hd
 | some v =>
  show (if v<0 then (v+(n:Int)).toNat else min v.toNat n)≤n
  by_cases hv:v<0
  ·rw [if_pos hv];lia
  ·rw [if_neg hv];exact Nat.min_le_right _ _
theorem yab(v:Int)(n d:Nat):(if v<0 then max (v+(n:Int)) 0 else min v (n:Int))=((sIx n d (some v):Nat):Int):=by
 show (if v<0 then max (v+(n:Int)) 0 else min v (n:Int))=(((if v<0 then (v+(n:Int)).toNat else min v.toNat n):Nat):Int)
 by_cases hv:v<0
 ·simp only [if_pos hv];lia
 ·simp only [if_neg hv];lia
theorem y5b(lo hi:Option Int)(n:Nat):Builtin.Slice.sliceAdjust lo hi 1 (n:Int)=(((sIx n 0 lo:Nat):Int),((sIx n n hi:Nat):Int)):=by
 have h1:¬ ((1:Int)<0):=by lia
 unfold Builtin.Slice.sliceAdjust
 simp only [h1,if_false]
 refine Prod.ext ?_ ?_
 ·cases lo with
  | none=>rfl
  | some v=>exact yab v n 0
 ·cases hi with
  | none=>rfl
  | some v=>exact yab v n n
theorem zp(i j:Nat):Builtin.Slice.slicePlaces (i:Int) (j:Int) 1=j-i:=by
 unfold Builtin.Slice.slicePlaces
 have h1:(1:Int)>0:=by lia
 simp only [h1,if_true,Int.ediv_one]
 split<;>lia
theorem rK{v:Value}{o:Option Int}{Q:Option Int->Shared->Prop}(p:IsPart v o)(h:Q o s):wpAny (model prog w) A (Builtin.Slice.slicePartIndex v) Q E s:=by
 cases p with
 | none=>exact slicePart_none h
 | int i t=>exact slicePart_int h
theorem rL{sl:Addr}{vl vu:Value}{lo hi:Option Int}{n:Nat}{Q:Int×Int×Nat->Shared->Prop}(hs:s.heap.IsSliceOf sl vl vu .none)(pl:IsPart vl lo)(pu:IsPart vu hi)
  (h:Q (((sIx n 0 lo:Nat):Int),1,sIx n n hi-sIx n 0 lo) s):wpAny (model prog w) A (Builtin.Slice.sliceApplied (.ref sl) (pure (n:Int))) Q E s:=by
 obtain⟨os,hos,hcs,hds⟩:=id hs
 unfold Builtin.Slice.sliceApplied Builtin.Slice.sliceFields
 refine zc (zc (wpAny_field hos hds (x:=vl) rfl (zc (wpAny_field hos hds (x:=vu) rfl (zc (wpAny_field hos hds (x:=.none) rfl (z15 ?_)))))))
 refine zc (slicePart_none ?_)
 show wpAny _ _ (if ((1:Int) == 0)=true then _ else _) _ _ s
 rw [if_neg (by decide)]
 refine zc (rK pl (zc (rK pu (zc (z15 ?_)))))
 show wpAny _ _ (match Builtin.Slice.sliceAdjust lo hi 1 (n:Int) with|(lo,hi)=>pure (lo,(1:Int),Builtin.Slice.slicePlaces lo hi 1)) _ _ s
 rw [y5b lo hi n]
 show wpAny _ _ (pure (((sIx n 0 lo:Nat):Int),(1:Int),Builtin.Slice.slicePlaces ((sIx n 0 lo:Nat):Int) ((sIx n n hi:Nat):Int) 1)) _ _ s
 rw [zp]
 exact z15 h
theorem zq(xs:Array Value)(i k:Nat):((List.range k).filterMap λ(m:Nat)=>xs[((i:Int)+(m:Int)*1).toNat]?).toArray=((xs.toList.drop i).take k).toArray:=by
 have e:(λ(m:Nat)=>xs[((i:Int)+(m:Int)*1).toNat]?)=λm=>xs[i+m]?:=by
  funext m
  have:((i:Int)+(m:Int)*1).toNat=i+m:=by lia
  rw [this]
 rw [e]
 have:=pick_run xs i k
 rw [List.filterMap_map] at this
 have e2:((λx=>xs[x]?) ∘ λx=>i+x)=λm=>xs[i+m]?:=rfl
 rw [e2] at this
 rw [this]
theorem y160{t sl:Addr}{items:Array Value}{vl vu:Value}{lo hi:Option Int}{Q:Value->Shared->Prop}(ht:IsTup s.heap t items)(hs:s.heap.IsSliceOf sl vl vu .none)(pl:IsPart vl lo)(pu:IsPart vu hi)
  (hw:¬ (sIx items.size 0 lo=0/\sIx items.size items.size hi=items.size))
  (h:Q (.ref s.heap.objs.size) { s with heap:=s.heap.push { cls:=.type "tuple",data:=.seq ((items.toList.drop (sIx items.size 0 lo)).take (sIx items.size items.size hi-sIx items.size 0 lo)).toArray } })
  (hsz:items.size≤sizeLine):wpAny (model prog w) A (getItem (.ref t) (.ref sl)) Q E s:=by
 have y194:sizeOk (.seq ((items.toList.drop (sIx items.size 0 lo)).take (sIx items.size items.size hi-sIx items.size 0 lo)).toArray):=by
  show ((items.toList.drop (sIx items.size 0 lo)).take (sIx items.size items.size hi-sIx items.size 0 lo)).toArray.size≤sizeLine
  rw [ze,z31,z3a,Array.length_toList]
  lia
 have hj:sIx items.size items.size hi≤items.size:=zo _ _ (z12 _) hi
 obtain⟨os,hos,hcs,hds⟩:=id hs
 have hTs:s.TypeIs (.ref sl) "slice":=⟨os,hos,hcs⟩
 unfold getItem
 try with_reducible refine wpAny_holding ?_
 first|refine zc (z15 ?_)|skip
 refine zc (wpAny_sequenceKey ht.typeIs (by decide) ?_)
 refine zc (wpAny_callSpecial?_slot (name:=Str.ofString "__getitem__") ht.typeIs PyProof.Rows.slot_tuple_getitem
  (wpAny_call_entry PyProof.Rows.slot_tuple_getitem ht.typeIs entry_tuple_getitem ?_ (args_tuple_getitem _ _)))
 show wpAny _ _ (Builtin.Tuple.tupleItemsOf (.ref t) >>= _) _ _ s
 refine zc (tupleItemsOf_ ht ?_)
 refine zc (wpAny_typeOf hTs ?_)
 rw [if_pos (by decide)]
 refine zc (rL hs pl pu ?_)
 have hno:¬ ((((sIx items.size 0 lo:Nat):Int) == 0&&(1:Int) == 1&&(sIx items.size items.size hi-sIx items.size 0 lo) == items.size)=true):=by
  intro q
  rw [z2a,z2a] at q
  have q1:((sIx items.size 0 lo:Nat):Int)=0:=eq_of_beq q.1.1
  have q2:sIx items.size items.size hi-sIx items.size 0 lo=items.size:=eq_of_beq q.2
  exact hw ⟨by lia,by lia⟩
 show wpAny _ _ (if (((sIx items.size 0 lo:Nat):Int) == 0&&(1:Int) == 1&&(sIx items.size items.size hi-sIx items.size 0 lo) == items.size)=true then _ else _) _ _ s
 rw [if_neg hno,zq]
 first
  | exact zc (m:=Builtin.Tuple.tupleExact _) (z2f (z15 ⟨_,rfl,z15 h⟩) y194)
  | exact zc (m:=Builtin.Tuple.tupleExact _) (z2f (zc (z15 (z15 ⟨_,rfl,z15 h⟩))) y194)
  | exact zc (zc (m:=Builtin.Tuple.tupleExact _) (z2f (z15 (z15 ⟨_,rfl,z15 h⟩)) y194))
  | exact zc (zc (m:=Builtin.Tuple.tupleExact _) (z2f (z15 ⟨_,rfl,z15 h⟩) y194))
end
end HT
namespace L2
open PySem PySem.Spec PyProof.Rows
section
noncomputable abbrev TO:=St->Hp->(Option Int->Hp->Prop)->Prop
noncomputable def PO(X:Cx)(e:Option Expr)(t:TO):Prop :=
 ∀(pins:List (Addr×Obj)) (s:Shared) (σ:St) (H:Hp) (Q:Option Int->Hp->Prop),Inv X pins σ H s->t σ H Q ->
  wpAny (model X.prog X.w) X.A (evalPart e X.env) (λu s'=>∃o H',Inv X pins σ H' s'/\IsPart u o/\Q o H') X.xe s
noncomputable def nN:TO:=λ_ H Q=>Q none H
noncomputable def nO(t:TE):TO:=λσ H Q=>t σ H λx H1=>∃i,x=.int i/\Q (some i) H1
section
variable {X:Cx}{e:Expr}{te:TE}{lo hi:Option Expr}{tl th:TO}{pos p2:Pos}
theorem nP:PO X none nN:=by
 intro pins s σ H Q I h
 rw [evalPart_none]
 exact z15 ⟨none,H,I,.none,h⟩
theorem rN(h:PE X e te):PO X (some e) (nO te):=by
 intro pins s σ H Q I hw
 rw [evalPart_some]
 refine aG (h pins s σ H _ I hw) λu s1 zz=>?_
 obtain⟨x,H1,I1,r1,q1⟩:=zz
 obtain⟨i,rfl,q⟩:=q1
 obtain⟨t,rfl⟩:=r1
 exact⟨some i,H1,I1,.int i t,q⟩
noncomputable def kN(X:Cx)(r:V->Option Int->Option Int->Hp->VK->Prop):Prop :=
 ∀(pins:List (Addr×Obj)) (s:Shared) (σ:St) (H:Hp) (x:V) (v vl vu:Value) (lo hi:Option Int) (sl:Addr) (Q:VK),Inv X pins σ H s->av x v->s.heap.IsSliceOf sl vl vu .none->IsPart vl lo->IsPart vu hi->r x lo hi H Q ->
  ∃T id,typeLookup (.type T) "__getitem__" = pure (some (.builtin id))/\s.TypeIs v T/\wpAny (model X.prog X.w) X.A (getItem v (.ref sl)) (EP X pins σ Q) X.xe s
theorem kN.or{r r':V->Option Int->Option Int->Hp->VK->Prop}(h:kN X r)(h':kN X r'):kN X (λx lo hi H Q=>r x lo hi H Q∨r' x lo hi H Q):=by
 intro pins s σ H x v vl vu lo hi sl Q I rx hs pl pu q
 rcases q with q|q
 ·exact h pins s σ H x v vl vu lo hi sl Q I rx hs pl pu q
 ·exact h' pins s σ H x v vl vu lo hi sl Q I rx hs pl pu q
noncomputable def tSl(r:V->Option Int->Option Int->Hp->VK->Prop)(te:TE)(tl th:TO):TE:=λσ H Q=>te σ H λx H1=>tl σ H1 λl H2=>th σ H2 λu H3=>r x l u H3 Q
theorem zr{r:V->Option Int->Option Int->Hp->VK->Prop}(hr:kN X r)(he:PE X e te)(hl:PO X lo tl)(hu:PO X hi th):PE X (.Subscript e (.Slice lo hi none p2) pos) (tSl r te tl th):=by
 intro pins s σ H Q I h
 refine Subscript_ (aG (he pins s σ H _ I h) λv s1 zz=>?_)
 obtain⟨x,H1,I1,r1,q1⟩:=zz
 refine wpAny_Slice (aG (hl pins s1 σ H1 _ I1 q1) λvl s2 ⟨l,H2,I2,pl,q2⟩=>aG (hu pins s2 σ H2 _ I2 q2) λvu s3 zz=>?_)
 obtain⟨u,H3,I3,pu,q3⟩:=zz
 rw [evalPart_none]
 refine z15 ?_
 have I4:Inv X pins σ H3 { s3 with heap:=s3.heap.push { cls:=.type "slice",data:=.fields #[vl,vu,.none] } }:=I3.kept (t':=s3.toks) λb ob q=>z13 _ q
 obtain⟨T,id,hT,ht,hg⟩:=hr pins { s3 with heap:=s3.heap.push { cls:=.type "slice",data:=.fields #[vl,vu,.none] } } σ H3 x v vl vu l u s3.heap.objs.size Q I4 r1 (Heap.IsSliceOf.new ..) pl pu q3
 show wpAny (model X.prog X.w) X.A (subscriptTail e (.Slice lo hi none p2) v (.ref s3.heap.objs.size)) (EP X pins σ Q) X.xe { s3 with heap:=s3.heap.push { cls:=.type "slice",data:=.fields #[vl,vu,.none] } }
 exact tail_any (ops:=[.ref s3.heap.objs.size,v]) ht hT hg (by with_unfolding_all rfl)
noncomputable def ju(xs:List V)(lo hi:Option Int):List V:=(xs.drop (HT.sIx xs.length 0 lo)).take (HT.sIx xs.length xs.length hi-HT.sIx xs.length 0 lo)
theorem yc5(xs:List V)(lo hi:Option Int):(ju xs lo hi).length≤xs.length:=by
 unfold ju
 rw [z31,z3a]
 lia
noncomputable def zt(K:W.Frag):V->Option Int->Option Int->Hp->VK->Prop:=λx lo hi H Q=>∃a xs,x=.ref a/\a7 K H a xs /\
 ¬ (HT.sIx xs.length 0 lo=0/\HT.sIx xs.length xs.length hi=xs.length)/\∀p,H p=none->Q (.ref p) (aD H p (.tup (ju xs lo hi)))
theorem zu:kN X (zt X.K):=by
 intro pins s σ H x v vl vu lo hi sl Q I rx hs pl pu h
 obtain⟨a,xs,rfl,hx,hw,q⟩:=h
 cases rx
 obtain⟨its,r,ht,hz⟩:=I.tuple hx
 have hlen:its.toArray.size=xs.length:=by rw [ze];exact r.length.symm
 refine⟨"tuple",_,PyProof.Rows.slot_tuple_getitem.lookup,ht.typeIs,?_⟩
 refine HT.y160 ht hs pl pu (by rw [hlen];exact hw) ?_ (by rw [hlen];exact hz)
 rw [hlen]
 refine⟨.ref s.heap.objs.size,_,I.laid (t':=s.toks) (o:=.tup (ju xs lo hi)) (λb ob q=>z13 _ q) (z12 _) ?_,rfl,q _ (I.hok.fresh (z12 _))⟩
 exact⟨z25 (yc5 xs lo hi) hz,_,(r.drop (HT.sIx xs.length 0 lo)).take (HT.sIx xs.length xs.length hi-HT.sIx xs.length 0 lo),fS.mk' _ _⟩
noncomputable def rO(K:W.Frag):R2:=λx y H Q=>∃a b xs ys,x=.ref a/\y=.ref b/\a7 K H a xs/\a7 K H b ys/\xs≠[]/\xs.length+ys.length≤sizeLine /\
 (ys=[]->Q (.ref a) H)/\(ys≠[]->∀p,H p=none->Q (.ref p) (aD H p (.tup (xs++ys))))
theorem ao.y23b{xs:List V}{us:List Value}(r:ao xs us):us=[]↔xs=[]:=by
 cases r with
 | nil=>simp
 | cons _ _=>simp
theorem zv:bH X (binaryOp .Add) (rO X.K):=by
 intro pins s σ H x y v u Q I rx ry h
 obtain⟨a,b,xs,ys,rfl,rfl,ha,hb,hx,hz,q1,q2⟩:=h
 cases rx
 cases ry
 obtain⟨its,r1,p1,_⟩:=I.tuple ha
 obtain⟨y1be,r2,p2,_⟩:=I.tuple hb
 refine HT.ya6 p1 p2 (λz=>hx (r1.y23b.mp z)) (λz=>⟨.ref a,H,I,rfl,q1 (r2.y23b.mp z)⟩) (λz=>?_) (by rw [<- r1.length,<- r2.length];exact hz)
 refine⟨.ref s.heap.objs.size,_,I.laid (t':=s.toks) (o:=.tup (xs++ys)) (λb ob q=>z13 _ q) (z12 _) ?_,rfl,q2 (λw=>z (r2.y23b.mpr w)) _ (I.hok.fresh (z12 _))⟩
 exact⟨by rw [z14];exact hz,_,r1.append r2,fS.mk' _ _⟩
end
end
section
noncomputable def jf(n:Nat)(i:Int):Option Nat:=if 0≤i then (if i<n then some i.toNat else none) else if -(n:Int)≤i then some (i+n).toNat else none
noncomputable def eA{α:Type}(xs:List α)(i:Int):Option α:=(jf xs.length i).bind λj=>xs[j]?
theorem rP{n:Nat}{i:Int}{j:Nat}(h:jf n i=some j):seqIndex? i n=some j/\j<n/\-(n:Int)≤i/\i<n:=by
 unfold jf at h
 by_cases h0:0≤i
 ·rw [if_pos h0] at h
  by_cases h1:i<n
  ·rw [if_pos h1] at h
   have e:i.toNat=j:=z27 h
   exact⟨by rw [seqIndex_of h0 h1,e],by lia,by lia,h1⟩
  ·rw [if_neg h1] at h;cases h
 ·rw [if_neg h0] at h
  by_cases h1:-(n:Int)≤i
  ·rw [if_pos h1] at h
   have e:(i+n).toNat=j:=z27 h
   exact⟨by rw [seqIndex_neg (by lia) h1,e],by lia,h1,by lia⟩
  ·rw [if_neg h1] at h;cases h
theorem zw{α:Type}{xs:List α}{i:Int}{v:α}(h:eA xs i=some v):∃j,seqIndex? i xs.length=some j/\xs[j]?=some v/\j<xs.length/\-(xs.length:Int)≤i/\i<xs.length:=by
 unfold eA at h
 cases e:jf xs.length i with
 | none=>rw [e] at h;cases h
 | some j =>
  rw [e] at h
  obtain⟨h1,h2,h3,h4⟩:=rP e
  exact⟨j,h1,h,h2,h3,h4⟩
theorem kO{α:Type}{xs:List α}{j:Nat}{v:α}(h:xs[j]?=some v):eA xs (j:Int)=some v:=by
 have hj:j<xs.length:=(zd.mp h).1
 have e:jf xs.length (j:Int)=some j:=by
  unfold jf
  rw [if_pos (by lia),if_pos (by lia)];simp
 unfold eA;rw [e];exact h
noncomputable def iq(b:Expr):Prop:=∀o i,subscripted b false o i=operate [o,i] (getItem o i)
noncomputable def kP(X:Cx)(r:R2):Prop :=
 ∀(value slice:Expr) (pins:List (Addr×Obj)) (s:Shared) (σ:St) (H:Hp) (x y:V) (v u:Value) (Q:VK),Inv X pins σ H s->av x v->av y u->r x y H Q ->
  subscripted slice false v u=operate [v,u] (getItem v u)->wpAny (model X.prog X.w) X.A (subscriptTail value slice v u) (EP X pins σ Q) X.xe s
noncomputable def wD(X:Cx)(id:String)(r:V->List V->Hp->VK->Prop):Prop :=
 ∀(pins:List (Addr×Obj)) (s:Shared) (σ:St) (H:Hp) (x:V) (xs:List V) (v:Value) (us:List Value) (Q:VK),Inv X pins σ H s->av x v->ao xs us->r x xs H Q ->
  wpAny (model X.prog X.w) X.A (call (.builtin id) (v::us)) (EP X pins σ Q) X.xe s
section
variable {X:Cx}{a b:Expr}{ta tb:TE}{pos:Pos}
theorem kP.or{r r':R2}(h:kP X r)(h':kP X r'):kP X (λx y H Q=>r x y H Q∨r' x y H Q):=by
 intro value slice pins s σ H x y v u Q I rx ry q hs
 rcases q with q|q
 ·exact h value slice pins s σ H x y v u Q I rx ry q hs
 ·exact h' value slice pins s σ H x y v u Q I rx ry q hs
theorem rQ{r:R2}(hr:kP X r)(ha:PE X a ta)(hb:PE X b tb)(hs:iq b):PE X (.Subscript a b pos) (mL r ta tb):=by
 intro pins s σ H Q I h
 exact Subscript_ (nA ha hb I h λv u s2 x y H2 I2 rx ry q=>hr a b pins s2 σ H2 x y v u Q I2 rx ry q (hs _ _))
noncomputable def rR(K:W.Frag):R2:=λx y H Q=>∃p xs i v,x=.ref p/\y=.int i/\aZ K H p xs/\eA xs i=some v/\Q v H
noncomputable def rS(K:W.Frag):R2:=λx y H Q=>∃p xs i v,x=.ref p/\y=.int i/\a7 K H p xs/\eA xs i=some v/\Q v H
noncomputable def rT:R2:=λx y H Q=>∃z i c,x=.str z/\y=.int i/\z.length≤sizeLine/\eA z.cps.toList i=some c/\Q (.str ⟨#[c]⟩) H
theorem zx:kP X (rR X.K):=by
 intro value slice pins s σ H x y v u Q I rx ry h hs
 obtain⟨p,xs,i,z,rfl,rfl,hq,he,q⟩:=h
 cases rx
 obtain⟨t,rfl⟩:=ry
 obtain⟨its,r,pl,hz⟩:=I.list hq
 obtain⟨j,h1,h2,h3,h4,h5⟩:=zw he
 obtain⟨w,ew,rw'⟩:=r.get h2
 have hl:=r.length
 have hn:=gI
 have fin:EP X pins σ Q w s:=⟨z,H,I,rw',q⟩
 by_cases h0:0≤i
 ·have hj:i.toNat=j:=by
   rw [seqIndex_of h0 h5] at h1
   exact z27 h1
  exact item_listR pl.isList h0 (by lia) (by rw [hj];simpa using ew) fin hs
 ·have hj:(i+(its.toArray.size:Int)).toNat=j:=by
   rw [seqIndex_neg (by lia) h4] at h1
   rw [ze,<- hl]
   exact z27 h1
  exact subscriptTail_builtinR (x:=w) pl.isList.typeIs slot_list_getitem.lookup
   (wpAny_getItem_list_neg (Q:=λr s'=>r=w/\EP X pins σ Q r s') pl.isList (by lia) (by rw [ze]<;>lia) (by lia) (by rw [hj];simpa using ew) ⟨rfl,fin⟩) hs
theorem zy:kP X (rS X.K):=by
 intro value slice pins s σ H x y v u Q I rx ry h hs
 obtain⟨p,xs,i,z,rfl,rfl,hq,he,q⟩:=h
 cases rx
 obtain⟨t,rfl⟩:=ry
 obtain⟨its,r,pl,hz⟩:=I.tuple hq
 obtain⟨j,h1,h2,h3,h4,h5⟩:=zw he
 obtain⟨w,ew,rw'⟩:=r.get h2
 have hl:=r.length
 have hn:=gI
 have fin:EP X pins σ Q w s:=⟨z,H,I,rw',q⟩
 exact subscriptTail_builtinR (x:=w) pl.typeIs slot_tuple_getitem.lookup
  (getItem_tuple (j:=j) (Q:=λr s'=>r=w/\EP X pins σ Q r s') pl (by lia) (by lia) (by rw [ze,<- hl];exact h1) (by simpa using ew) ⟨rfl,fin⟩) hs
theorem zA:kP X rT:=by
 intro value slice pins s σ H x y v u Q I rx ry h hs
 obtain⟨z,i,c,rfl,rfl,hz,he,q⟩:=h
 obtain⟨t,rfl⟩:=rx
 obtain⟨t',rfl⟩:=ry
 obtain⟨j,h1,h2,h3,h4,h5⟩:=zw he
 have hl:z.cps.toList.length=z.length:=by simp [Str.length]
 rw [hl] at h1 h4 h5
 have hn:=gI
 exact tail_any (typeIs_str s z t) slot_str_getitem.lookup (getItem_str (c:=c) (by
  have e1:decide (i < -(2 ^ 63:Int))=false:=decide_eq_false (by lia)
  have e2:decide (i ≥ 2 ^ 63)=false:=decide_eq_false (by lia)
  rw [e1,e2,Bool.or_false]) (by rw [h1];simpa using h2) ⟨.str ⟨#[c]⟩,H,I.tok _,⟨_,rfl⟩,q⟩) hs
noncomputable def zB(K:W.Frag):R2:=λx y H Q=>rR K x y H Q∨rS K x y H Q∨rT x y H Q
theorem zC:kP X (zB X.K):=zx.or (zy.or zA)
theorem zD(its:List Value)(n j:Nat)(u:Value):Obj.mapSeq (·.setIfInBounds j u) { cls:=.type "list",data:=.seq its.toArray n }={ cls:=.type "list",data:=.seq (its.set j u).toArray n }:=by
 simp [Obj.mapSeq]
theorem Inv.lst{pins:List (Addr×Obj)}{σ:St}{H:Hp}{s:Shared}{p:Addr}{xs:List V}(I:Inv X pins σ H s)(h:H p=some (.lst xs)) :
  ∃(its:List Value) (n:Nat),ao xs its/\s.heap.get? p=some { cls:=.type "list",data:=.seq its.toArray n }/\xs.length≤sizeLine:=by
 obtain⟨z,its,n,r,e⟩:=I.hok p _ h
 exact⟨its,n,r,e,z⟩
theorem Inv.y201{pins:List (Addr×Obj)}{σ:St}{H:Hp}{s:Shared}{p:Addr}{xs ys:List V}{its its':List Value}{n n':Nat}{f:Obj->Obj}(I:Inv X pins σ H s)(h:H p=some (.lst xs))
  (ho:s.heap.get? p=some { cls:=.type "list",data:=.seq its.toArray n }) (hf:f { cls:=.type "list",data:=.seq its.toArray n }={ cls:=.type "list",data:=.seq its'.toArray n' }) (r:ao ys its') (hz:ys.length≤sizeLine) (t:Nat) :
  Inv X pins σ (aD H p (.lst ys)) { s with heap:=s.heap.update p f,toks:=t }:=by
 have e:(s.heap.update p f).get? p=some { cls:=.type "list",data:=.seq its'.toArray n' }:=by
  rw [Heap.get?_update_self f ho (by rw [hf]<;>rfl),hf]
 refine I.write (x:=p) (e:=p) (by rw [h];trivial) (.inl rfl) (λb u hb q=>(Heap.get?_update_other _ _ (Ne.symm hb)).trans q) ⟨_,e⟩ ?_
 exact⟨hz,its',n',r,e⟩
noncomputable def rV:V->V->V->Hp->(Hp->Prop)->Prop:=λo i v H Q=>∃p xs k j,o=.ref p/\i=.int k/\H p=some (.lst xs)/\jf xs.length k=some j/\Q (aD H p (.lst (xs.set j v)))
theorem jv:qu X rV:=by
 intro pins s σ H o i v ov iv u Q I ro ri rv h
 obtain⟨p,xs,k,j,rfl,rfl,hp,hj,q⟩:=h
 cases ro
 obtain⟨t,rfl⟩:=ri
 obtain⟨its,n,r,ho,hz⟩:=I.lst hp
 obtain⟨h1,h2,h3,h4⟩:=rP hj
 have hl:=r.length
 have hn:=gI
 have I':Inv X pins σ (aD H p (.lst (xs.set j v))) { s with heap:=s.heap.update p (Obj.mapSeq (·.setIfInBounds j u)) } :=
  I.y201 hp ho (zD its n j u) (r.set rv j) (by rw [z33];exact hz) s.toks
 by_cases h0:0≤k
 ·have hk:k.toNat=j:=by
   rw [seqIndex_of h0 h4] at h1
   exact z27 h1
  exact W.ki_setAt ho h0 (by lia) (by rw [ze,<- hl];exact h4) (by rw [hk];exact⟨_,I',q⟩)
 ·have hk:(k+(its.toArray.size:Int)).toNat=j:=by
   rw [seqIndex_neg (by lia) h3] at h1
   rw [ze,<- hl]
   exact z27 h1
  exact W.ki_setBack ho (by lia) (by rw [ze,<- hl];exact h3) (by lia) (by rw [hk];exact⟨_,I',q⟩)
theorem zE(lo hi:Option Int)(n:Nat):(sliceBounds lo hi none n).1=((HT.sIx n 0 lo:Nat):Int)/\(sliceBounds lo hi none n).2.1=((HT.sIx n n hi:Nat):Int)/\(sliceBounds lo hi none n).2.2=1:=by
 refine⟨?_,?_,rfl⟩
 ·cases lo with
  | none=>simp [sliceBounds,HT.sIx]
  | some i =>
   simp only [sliceBounds,HT.sIx,Option.getD_none,show (1:Int)>0 by decide,if_true]
   by_cases h:i<0
   ·simp only [h,if_true]<;>lia
   ·simp only [h,if_false]<;>lia
 ·cases hi with
  | none=>simp [sliceBounds,HT.sIx]
  | some i =>
   simp only [sliceBounds,HT.sIx,Option.getD_none,show (1:Int)>0 by decide,if_true]
   by_cases h:i<0
   ·simp only [h,if_true]<;>lia
   ·simp only [h,if_false]<;>lia
theorem zF(its:List Value)(lo hi:Option Int):slicePick its.toArray lo hi none=((its.drop (HT.sIx its.length 0 lo)).take (HT.sIx its.length its.length hi-HT.sIx its.length 0 lo)).toArray:=by
 obtain⟨h1,h2,h3⟩:=zE lo hi its.toArray.size
 unfold slicePick
 rw [h1,h2,h3]
 simp only [sliceRange_one,pick_run,ze]<;>rfl
noncomputable def rW(K:W.Frag):V->Option Int->Option Int->Hp->VK->Prop:=λx lo hi H Q=>∃a xs,x=.ref a/\aZ K H a xs/\∀p,H p=none->Q (.ref p) (aD H p (.lst (ju xs lo hi)))
theorem zG:kN X (rW X.K):=by
 intro pins s σ H x v vl vu lo hi sl Q I rx hs pl pu h
 obtain⟨a,xs,rfl,hx,q⟩:=h
 cases rx
 obtain⟨its,r,ht,hz⟩:=I.list hx
 have hlen:=r.length
 refine⟨"list",_,slot_list_getitem.lookup,ht.isList.typeIs,?_⟩
 refine wpAny_getItem_list_slice ht.isList hs pl pu .none (by simp) ?_ (by rw [ze]<;>lia)
 rw [zF,<- hlen]
 refine⟨.ref s.heap.objs.size,_,I.laid (t':=s.toks) (o:=.lst (ju xs lo hi)) (λb ob q=>z13 _ q) (z12 _) ?_,rfl,q _ (I.hok.fresh (z12 _))⟩
 exact⟨z25 (yc5 xs lo hi) hz,_,0,(r.drop (HT.sIx xs.length 0 lo)).take (HT.sIx xs.length xs.length hi-HT.sIx xs.length 0 lo),z21 _ rfl⟩
noncomputable def bB:V->Bool
 | .non=>true
 | .bl _=>true
 | .int _=>true
 | .str _=>true
 | _=>false
noncomputable def gM:V->V->Bool
 | .non,.non=>true
 | .bl a,.bl b=>a == b
 | .bl a,.int b=>(if a then 1 else 0) == b
 | .int a,.bl b=>a == (if b then 1 else 0)
 | .int a,.int b=>a == b
 | .str a,.str b=>a == b
 | _,_=>false
theorem rX{A:Around}{s:Shared}{y x:V}{u v:Value}(ry:av y u)(rx:av x v)(fy:bB y=true)(fx:bB x=true):SeqAt.EqAt A s u v (gM y x):=by
 cases y with
 | non =>
  cases ry
  cases x with
  | non=>cases rx;exact SeqAt.EqAt.same _
  | bl b=>cases rx;exact SeqAt.EqAt.none_bool b
  | int b=>obtain⟨t,rfl⟩:=rx;exact SeqAt.EqAt.none_int b t
  | str b=>obtain⟨t,rfl⟩:=rx;exact SeqAt.EqAt.none_str b t
  | _=>exact absurd (show false=true from fx) z16
 | bl a =>
  cases ry
  cases x with
  | non=>cases rx;exact SeqAt.EqAt.bool_none a
  | bl b=>cases rx;exact SeqAt.EqAt.bool_bool a b
  | int b=>obtain⟨t,rfl⟩:=rx;exact SeqAt.EqAt.bool_int a b t
  | str b=>obtain⟨t,rfl⟩:=rx;exact SeqAt.EqAt.bool_str a b t
  | _=>exact absurd (show false=true from fx) z16
 | int a =>
  obtain⟨t',rfl⟩:=ry
  cases x with
  | non=>cases rx;exact SeqAt.EqAt.int_none a t'
  | bl b=>cases rx;exact SeqAt.EqAt.int_bool a t' b
  | int b=>obtain⟨t,rfl⟩:=rx;exact SeqAt.EqAt.int_int a t' b t
  | str b=>obtain⟨t,rfl⟩:=rx;exact SeqAt.EqAt.int_str a t' b t
  | _=>exact absurd (show false=true from fx) z16
 | str a =>
  obtain⟨t',rfl⟩:=ry
  cases x with
  | non=>cases rx;exact SeqAt.EqAt.str_none a t'
  | bl b=>cases rx;exact SeqAt.EqAt.str_bool a t' b
  | int b=>obtain⟨t,rfl⟩:=rx;exact SeqAt.EqAt.str_int a t' b t
  | str b=>obtain⟨t,rfl⟩:=rx;exact SeqAt.EqAt.str_str a t' b t
  | _=>exact absurd (show false=true from fx) z16
 | _=>exact absurd (show false=true from fy) z16
noncomputable def gN(x:V)(u:Value):Bool:=match u with
 | .none=>gM .non x
 | .bool b=>gM (.bl b) x
 | .int i _=>gM (.int i) x
 | .str z _=>gM (.str z) x
 | _=>false
theorem rY{x y:V}{u:Value}(r:av y u)(f:bB y=true):gN x u=gM y x:=by
 cases y with
 | non=>cases r;rfl
 | bl b=>cases r;rfl
 | int i=>obtain⟨t,rfl⟩:=r;rfl
 | str z=>obtain⟨t,rfl⟩:=r;rfl
 | _=>exact absurd (show false=true from f) z16
theorem rZ{x:V}:∀{xs:List V} {us:List Value},ao xs us->xs.all bB=true->us.any (gN x)=xs.any λy=>gM y x
 | _,_,.nil,_=>rfl
 | y::xs,u::us,.cons r t,f=>by
  rw [List.all_cons,z2a] at f
  rw [List.any_cons,List.any_cons,rY r f.1,rZ t f.2]
theorem jw{A:Around}{s:Shared}{x:V}{v:Value}(rx:av x v)(fx:bB x=true):∀{xs:List V} {us:List Value},ao xs us->xs.all bB=true->∀u∈us,SeqAt.EqAt A s u v (gN x u)
 | _,_,.nil,_=>λu hu=>by cases hu
 | y::xs,u::us,.cons r t,f=>λu' hu=>by
  rw [List.all_cons,z2a] at f
  rcases z1e.mp hu with rfl|hu
  ·rw [rY r f.1];exact rX r rx f.1 fx
  ·exact jw rx fx t f.2 u' hu
noncomputable def inV(x:V)(xs:List V):Bool:=xs.any λy=>gM y x
noncomputable def wF(K:W.Frag)(neg:Bool):R2:=λx y H Q=>∃p xs,y=.ref p/\(aZ K H p xs∨a7 K H p xs)/\bB x=true/\xs.all bB=true/\Q (.bl (if neg then !inV x xs else inV x xs)) H
theorem zH:bH X (compareOp .In) (wF X.K false):=by
 intro pins s σ H x y v u Q I rx ry h
 obtain⟨p,xs,rfl,hq,fx,fs,q⟩:=h
 cases ry
 rcases hq with hq|hq
 ·obtain⟨its,r,pl,hz⟩:=I.list hq
  refine SeqAt.in_listAt (gN x) pl.isList (λw hw=>jw rx fx r fs w (by simpa using hw)) ⟨.bl _,H,I,rfl,?_⟩
  rw [show its.toArray.any (gN x)=its.any (gN x) by simp,rZ r fs]
  exact q
 ·obtain⟨its,r,pl,hz⟩:=I.tuple hq
  refine SeqAt.in_tupleAt (gN x) pl (λw hw=>jw rx fx r fs w (by simpa using hw)) ⟨.bl _,H,I,rfl,?_⟩
  rw [show its.toArray.any (gN x)=its.any (gN x) by simp,rZ r fs]
  exact q
theorem zI:bH X (compareOp .NotIn) (wF X.K true):=by
 intro pins s σ H x y v u Q I rx ry h
 obtain⟨p,xs,rfl,hq,fx,fs,q⟩:=h
 cases ry
 rcases hq with hq|hq
 ·obtain⟨its,r,pl,hz⟩:=I.list hq
  refine SeqAt.notIn_listAt (gN x) pl.isList (λw hw=>jw rx fx r fs w (by simpa using hw)) ⟨.bl _,H,I,rfl,?_⟩
  rw [show its.toArray.any (gN x)=its.any (gN x) by simp,rZ r fs]
  exact q
 ·obtain⟨its,r,pl,hz⟩:=I.tuple hq
  refine SeqAt.notIn_tupleAt (gN x) pl (λw hw=>jw rx fx r fs w (by simpa using hw)) ⟨.bl _,H,I,rfl,?_⟩
  rw [show its.toArray.any (gN x)=its.any (gN x) by simp,rZ r fs]
  exact q
theorem y98:ya X (.builtin "len") (λxs H Q=>∃p ys,xs=[.ref p]/\(aZ X.K H p ys∨a7 X.K H p ys)/\Q (.int ys.length) H):=by
 intro pins s σ H xs us Q I r h
 obtain⟨p,ys,rfl,hq,q⟩:=h
 obtain⟨u,rfl,rx⟩:=cV r
 cases rx
 have hn:=gI
 rcases hq with hq|hq
 ·obtain⟨its,r',pl,hz⟩:=I.list hq
  have hlen:=r'.length
  exact Calls.call_len_list pl.isList (by simp only [ze]<;>lia) ⟨.int ys.length,H,I.tok _,⟨s.toks+1,by rw [ze,hlen]⟩,q⟩
 ·obtain⟨its,r',pl,hz⟩:=I.tuple hq
  have hlen:=r'.length
  exact len_tuple pl (by simp only [ze]<;>lia) ⟨.int ys.length,H,I.tok _,⟨s.toks+1,by rw [ze,hlen]⟩,q⟩
theorem y99:ya X (.builtin "len") (λxs H Q=>∃z,xs=[.str z]/\z.length≤sizeLine/\Q (.int z.length) H):=by
 intro pins s σ H xs us Q I r h
 obtain⟨z,rfl,hz,q⟩:=h
 obtain⟨u,rfl,t,rfl⟩:=cV r
 have hn:=gI
 exact len_str (by lia) ⟨.int z.length,H,I.tok _,⟨_,rfl⟩,q⟩
theorem ya.or{f:Value}{r r':List V->Hp->VK->Prop}(h:ya X f r)(h':ya X f r'):ya X f (λxs H Q=>r xs H Q∨r' xs H Q):=by
 intro pins s σ H xs us Q I rs q
 rcases q with q|q
 ·exact h pins s σ H xs us Q I rs q
 ·exact h' pins s σ H xs us Q I rs q
theorem y9a:ya X (.type "list") (λxs H Q=>∃p ys,xs=[.ref p]/\(aZ X.K H p ys∨a7 X.K H p ys)/\∀l,H l=none->Q (.ref l) (aD H l (.lst ys))):=by
 intro pins s σ H xs us Q I r h
 obtain⟨p,ys,rfl,hq,q⟩:=h
 obtain⟨u,rfl,rx⟩:=cV r
 cases rx
 have fin:∀(its:List Value),ao ys its->ys.length≤sizeLine->∀(h':Heap) (c':Nat),(∀b o',s.heap.get? b=some o'->h'.get? b=some o') ->
   h'.get? s.heap.objs.size=some { cls:=.type "list",dict:=none,data:=.seq its.toArray c',slots:=#[] }->EP X pins σ Q (.ref s.heap.objs.size) { s with heap:=h' }:=λits r' hz h' c' kp e =>
  ⟨.ref s.heap.objs.size,_,I.laid (t':=s.toks) kp (z12 _) (show dO X.prog X.w _ h' _ (.lst ys) from ⟨hz,its,c',r',e⟩),rfl,q _ (I.hok.fresh (z12 _))⟩
 rcases hq with hq|hq
 ·obtain⟨its,r',pl,hz⟩:=I.list hq
  have hlen:=r'.length
  obtain⟨o,ho,hc,n,hd⟩:=pl.isList
  exact call_list_seq p (.inl rfl) ho hc hd (λh' c' kp e=>fin its r' hz h' c' kp e) (by simp only [ze]<;>lia)
 ·obtain⟨its,r',pl,hz⟩:=I.tuple hq
  have hlen:=r'.length
  obtain⟨o,ho,hc,n,hd⟩:=pl
  exact call_list_seq p (.inr rfl) ho hc hd (λh' c' kp e=>fin its r' hz h' c' kp e) (by simp only [ze]<;>lia)
theorem ya0:ya X (.type "tuple") (λxs H Q=>∃p ys,xs=[.ref p]/\((aZ X.K H p ys/\∀l,H l=none->Q (.ref l) (aD H l (.tup ys)))∨(a7 X.K H p ys/\Q (.ref p) H))):=by
 intro pins s σ H xs us Q I r h
 obtain⟨p,ys,rfl,h⟩:=h
 obtain⟨u,rfl,rx⟩:=cV r
 cases rx
 rcases h with⟨hq,q⟩| ⟨hq,q⟩
 ·obtain⟨its,r',pl,hz⟩:=I.list hq
  have hlen:=r'.length
  refine call_tuple_list pl.isList (λh' kp=>?_) (by simp only [ze]<;>lia)
  have I1:Inv X pins σ H { s with heap:=h' }:=I.kept (t':=s.toks) kp
  have I2:Inv X pins σ (aD H h'.objs.size (.tup ys)) { s with heap:=h'.push { cls:=.type "tuple",data:=.seq its.toArray } } :=
   I1.laid (t':=s.toks) (λb o e=>z13 _ e) (z12 _) (show dO X.prog X.w _ _ _ (.tup ys) from ⟨hz,its,r',fS.mk' _ _⟩)
  exact⟨.ref h'.objs.size,_,I2,rfl,q _ (I1.hok.fresh (z12 _))⟩
 ·obtain⟨its,r',pl,hz⟩:=I.tuple hq
  exact call_tuple_same pl ⟨.ref p,H,I,rfl,q⟩
noncomputable def r8(K:W.Frag)(T:String)(x:V)(H:Hp):Prop:=match x with
 | .str _=>T="str"
 | .int _=>T="int"
 | .ref p=>(T="list"/\∃xs,aZ K H p xs)∨(T="tuple"/\∃o,K.lookup p=some o/\o.cls=.type "tuple"/\o.dict=none) ∨
   (T="dict"/\((∃kvs,H p=some (.dK kvs))∨∃kvs,H p=some (.dT kvs)))∨(T="set"/\∃S n,H p=some (.set S n))
 | _=>False
theorem se{pins:List (Addr×Obj)}{σ:St}{H:Hp}{s:Shared}{T:String}{x:V}{v:Value}(I:Inv X pins σ H s)(r:av x v)(ty:r8 X.K T x H) :
  s.TypeIs v T/\∀a,v=.ref a->∃ob,s.heap.get? a=some ob/\ob.dict=none:=by
 cases x with
 | str z =>
  obtain⟨t,rfl⟩:=r
  cases (show T="str" from ty)
  exact⟨typeIs_str s z t,λ_ e=>nomatch e⟩
 | int i =>
  obtain⟨t,rfl⟩:=r
  cases (show T="int" from ty)
  exact⟨typeIs_int s i t,λ_ e=>nomatch e⟩
 | ref p =>
  cases r
  rcases ty with⟨rfl,xs,hq⟩| ⟨rfl,o,hk,hc,hd⟩| ⟨rfl,hk⟩| ⟨rfl,S,n,hk⟩
  ·obtain⟨its,_,pl,_⟩:=I.list hq
   refine⟨pl.isList.typeIs,λa e=>?_⟩
   cases e
   obtain⟨o,n,e,c,hd,_⟩:=pl
   exact⟨o,e,hd⟩
  ·refine⟨⟨o,I.kIn p o hk,hc⟩,λa e=>?_⟩
   cases e
   exact⟨o,I.kIn _ o hk,hd⟩
  ·have z:∃o,s.heap.get? p=some o/\o.ExactDict:=by
    rcases hk with⟨kvs,hk⟩| ⟨kvs,hk⟩
    ·obtain⟨_,_,_,_,o,_,_,e,ex,_⟩:=I.hok p _ hk
     exact⟨o,e,ex⟩
    ·obtain⟨_,_,_,_,o,_,_,e,ex,_⟩:=I.hok p _ hk
     exact⟨o,e,ex⟩
   obtain⟨o,e,ex⟩:=z
   refine⟨⟨o,e,ex.1⟩,λa e2=>?_⟩
   cases e2
   exact⟨o,e,ex.2.1⟩
  ·obtain⟨o,_,_,_,e,ex,_⟩:=I.hok p _ hk
   refine⟨⟨o,e,ex.1⟩,λa e2=>?_⟩
   cases e2
   exact⟨o,e,ex.2.1⟩
 | _=>exact False.elim ty
noncomputable def sf(K:W.Frag)(T:String)(r:V->List V->Hp->VK->Prop)(to:TE):TE:=λσ H Q=>to σ H λx H1=>r8 K T x H1/\r x [] H1 Q
noncomputable def zJ(K:W.Frag)(T:String)(r:V->List V->Hp->VK->Prop)(to:TE)(t:TA):TE:=λσ H Q=>to σ H λx H1=>r8 K T x H1/\t σ H1 λxs H2=>r x xs H2 Q
variable {o e:Expr}{es:List Expr}{to:TE}{t:TA}{name:Str}{apos ybe:Pos}{T id:String}{r:V->List V->Hp->VK->Prop}
theorem zK(pa:PlainAttrs T)(slot:Slot T name id)(hty:typeOf (.builtin id)=pure (.type "method_descriptor"))(hm:wD X id r)(ho:PE X o to)
  (y186:attributeBase o name X.env (eval o X.env)=eval o X.env:=by rfl) (y190:(apos.endLine == ybe.line)=true:=by rfl):PE X (.Call (.Attribute o name apos) [] [] ybe) (sf X.K T r to):=by
 intro pins s σ H Q I h
 refine wpAny_Call_method0_late y186 y190 (aG (ho pins s σ H _ I h) λv s1 zz=>?_)
 obtain⟨x,H1,I1,r1,ty,q1⟩:=zz
 obtain⟨h1,h2⟩:=se I1 r1 ty
 exact⟨T,id,pa,slot,hty,h1,h2,Calls.callWith_builtin rfl (PySem.evalArgs_none (hm pins s1 σ H1 x [] v [] Q I1 r1 .nil q1))⟩
theorem kQ(pa:PlainAttrs T)(slot:Slot T name id)(hty:typeOf (.builtin id)=pure (.type "method_descriptor"))(hm:wD X id r)(ho:PE X o to)(ha:PA X (e::es) t)
  (y186:attributeBase o name X.env (eval o X.env)=eval o X.env:=by rfl)
  (y18a:((backTo ybe (starEach (e::es) X.env)).all (λx=>!x.1)&&(backToKw ybe (keywordEach [] X.env)).all (λx=>x.1.isSome)
   && decide ((e::es).length+([]:List Keyword).length+(if ([]:List Keyword).isEmpty then 0 else 1)<30))=true:=by rfl)
  (y190:(apos.endLine == ybe.line)=true:=by rfl) (hs:starEach (e::es) X.env=(false,eval e X.env)::starEach es X.env:=by rfl) (y193:(backTo ybe (starEach es X.env)).any (·.1)=false:=by rfl) :
  PE X (.Call (.Attribute o name apos) (e::es) [] ybe) (zJ X.K T r to t):=by
 intro pins s σ H Q I h
 refine wpAny_Call_method_late y186 y18a y190 rfl (aG (ho pins s σ H _ I h) λv s1 zz=>?_)
 obtain⟨x,H1,I1,r1,ty,q1⟩:=zz
 obtain⟨h1,h2⟩:=se I1 r1 ty
 refine⟨T,id,pa,slot,hty,h1,h2,?_⟩
 have hA:=ha ybe pins s1 σ H1 _ I1 q1
 rw [hs] at hA ⊢
 refine Calls.callWith_builtin (by show (false||(backTo ybe (starEach es X.env)).any (·.1))=false;rw [y193]<;>rfl) (Calls.evalArgs_plain ?_)
 exact aG hA λus s2 ⟨vs,H2,I2,r2,q2⟩=>hm pins s2 σ H2 x vs v us Q I2 r1 r2 q2
end
end
section
noncomputable def wG(X:Cx)(id:String)(r:V->List V->Hp->VK->Prop):Prop :=
 ∀(pins:List (Addr×Obj)) (s:Shared) (σ:St) (H:Hp) (x:V) (xs:List V) (v:Value) (us:List Value) (Q:VK),Inv X pins σ H s->av x v->ao xs us->r x xs H Q ->
  wpAny (model X.prog X.w) X.A (call (.builtin id) (v::us)) (EP X pins σ Q) X.xe s
theorem ao.one:∀{x:V} {us:List Value},ao [x] us->∃u,us=[u]/\av x u:=by
 intro x us h
 rcases h with _|⟨r,_|_⟩
 exact⟨_,rfl,r⟩
theorem ao.two:∀{x y:V} {us:List Value},ao [x,y] us->∃u v,us=[u,v]/\av x u/\av y v:=by
 intro x y us h
 rcases h with _|⟨r,_|⟨q,_|_⟩⟩
 exact⟨_,_,rfl,r,q⟩
theorem ao.zero:∀{us:List Value},ao [] us->us=[]
 | _,.nil=>rfl
theorem ao.dropLast{xs:List V}{us:List Value}(h:ao xs us):ao xs.dropLast us.dropLast:=by
 induction h with
 | nil=>exact .nil
 | cons r t ih =>
  cases t with
  | nil=>exact .nil
  | cons q t'=>exact .cons r ih
theorem ao.eraseIdx:∀{xs:List V} {us:List Value} (i:Nat),ao xs us->ao (xs.eraseIdx i) (us.eraseIdx i)
 | _,_,_,.nil=>.nil
 | _,_,0,.cons _ t=>t
 | _,_,i+1,.cons r t=>.cons r (ao.eraseIdx i t)
theorem ao.reverse{xs:List V}{us:List Value}(h:ao xs us):ao xs.reverse us.reverse:=by
 induction h with
 | nil=>exact .nil
 | cons r t ih=>rw [List.reverse_cons,List.reverse_cons];exact ao.append ih (.cons r .nil)
theorem ao.rep{xs:List V}{us:List Value}(h:ao xs us):∀k:Nat,ao (List.replicate k xs).flatten (List.replicate k us).flatten
 | 0=>.nil
 | k+1=>by
  rw [List.replicate_succ,List.replicate_succ,List.flatten_cons,List.flatten_cons]
  exact ao.append h (ao.rep h k)
theorem zL{α:Type}(l:List α):l.eraseIdx (l.length-1)=l.dropLast:=by
 induction l with
 | nil=>rfl
 | cons a r ih =>
  cases r with
  | nil=>rfl
  | cons b r =>
   have e:(a::b::r).length-1=((b::r).length-1)+1:=by
    have h1:(a::b::r).length=r.length+2:=rfl
    have h2:(b::r).length=r.length+1:=rfl
    lia
   rw [e,List.eraseIdx_cons_succ,ih]
   all_goals rfl
theorem si{α:Type}:∀(l:List α) (i:Nat),(l.eraseIdx i).length≤l.length
 | [],_=>z12 _
 | _::_,0=>Nat.le_succ _
 | _::r,i+1=>Nat.succ_le_succ (si r i)
theorem e9(its:List Value):∀(k:Nat) (acc:List Value),
  List.foldl (λx1 x2=>x1++x2) acc.toArray (List.replicate k its.toArray)=(acc++(List.replicate k its).flatten).toArray
 | 0,acc=>by simp
 | k+1,acc=>by
  have e:acc.toArray++its.toArray=(acc++its).toArray:=by simp
  have e2:(acc++its)++(List.replicate k its).flatten=acc++(List.replicate (k+1) its).flatten:=by
   rw [List.replicate_succ,List.flatten_cons,z2e]
  rw [<- e2,<- e9 its k (acc++its),<- e,List.replicate_succ,List.foldl_cons]
section
variable {X:Cx}{pins:List (Addr×Obj)}{σ:St}{H:Hp}{s:Shared}{l b:Addr}{xs ys zs:List V}
theorem Inv.lset{its its':List Value}{n:Nat}{f:Array Value->Array Value}{t':Nat}(I:Inv X pins σ H s)(hH:H l=some (.lst xs))
  (e:s.heap.get? l=some { cls:=.type "list",data:=.seq its.toArray n }) (hf:f its.toArray=its'.toArray) (hv:ao ys its') (hz:ys.length≤sizeLine) :
  Inv X pins σ (aD H l (.lst ys)) { s with heap:=s.heap.update l (Obj.mapSeq f),toks:=t' }:=by
 have q:=PySem.IsL.update e f
 rw [hf] at q
 refine I.write (x:=l) (e:=l) (by rw [hH];exact trivial) (.inl rfl) (λb' u hb hu=>(Heap.get?_update_other s.heap (Obj.mapSeq f) (Ne.symm hb)).trans hu) ⟨_,q⟩ ?_
 exact⟨hz,its',_,hv,q⟩
theorem Inv.lnew{its:List Value}{t':Nat}(I:Inv X pins σ H s)(hv:ao ys its)(hz:ys.length≤sizeLine) :
  Inv X pins σ (aD H s.heap.objs.size (.lst ys)) { s with heap:=s.heap.push { cls:=.type "list",data:=.seq its.toArray },toks:=t' } :=
 I.laid (λ_ _ q=>z13 _ q) (z12 _) ⟨hz,its,0,hv,z21 _ rfl⟩
theorem Inv.fresh(I:Inv X pins σ H s):H s.heap.objs.size=none:=I.hok.fresh (z12 _)
theorem Inv.y200(I:Inv X pins σ H s)(hH:H l=some (.lst xs)):xs.length≤sizeLine/\∃(its:List Value) (n:Nat),ao xs its/\xs.length=its.length/\s.heap.get? l=some { cls:=.type "list",data:=.seq its.toArray n }:=by
 obtain⟨z,its,n,r,e⟩:=I.hok l _ hH
 exact⟨z,its,n,r,r.length,e⟩
theorem sj{n:Nat}(h:n≤sizeLine):Builtin.List.listTooLong n=false:=by
 unfold Builtin.List.listTooLong
 exact decide_eq_false (by lia)
end
section
variable {X:Cx}
noncomputable def sk:V->List V->Hp->VK->Prop:=λx vs H Q=>∃l xs y,x=.ref l/\vs=[y]/\H l=some (.lst xs)/\xs.length<sizeLine/\Q .non (aD H l (.lst (xs++[y])))
theorem su:wG X "list.append" sk:=by
 intro pins s σ H x vs v us Q I rx rv h
 obtain⟨l,xs,y,rfl,rfl,hH,hz,q⟩:=h
 cases rx
 obtain⟨u,rfl,ru⟩:=rv.one
 obtain⟨z,its,n,r,hl,e⟩:=I.y200 hH
 refine call_meets F.slot_list_append ⟨_,e,rfl⟩ F.entry_list_append (F.args_list_append_2 _ _) (PySem.list_append l its.toArray n u (by rw [ze];lia)) ⟨e,?_⟩
 refine⟨.non,_,I.lset (its':=its++[u]) hH e (by simp) (r.append (.cons ru .nil)) ?_,rfl,q⟩
 rw [z14,List.length_singleton]
 lia
noncomputable def zM:V->List V->Hp->VK->Prop:=λx vs H Q=>∃l b xs zs,x=.ref l/\vs=[.ref b]/\H l=some (.lst xs)/\H b=some (.lst zs)/\xs.length+zs.length≤sizeLine/\Q .non (aD H l (.lst (xs++zs)))
theorem EL:wG X "list.extend" zM:=by
 intro pins s σ H x vs v us Q I rx rv h
 obtain⟨l,b,xs,zs,rfl,rfl,hH,hB,hz,q⟩:=h
 cases rx
 obtain⟨u,rfl,ru⟩:=rv.one
 cases ru
 obtain⟨z,its,n,r,hl,e⟩:=I.y200 hH
 obtain⟨z2,y1be,n2,r2,hl2,e2⟩:=I.y200 hB
 have hsz:its.toArray.size+y1be.toArray.size≤sizeLine:=by rw [ze,ze];lia
 have y191:¬ (!its.toArray.isEmpty&&Builtin.List.listTooLong (its.toArray.size+y1be.toArray.size))=true:=by
  rw [sj hsz,Bool.and_false]
  exact z16
 refine call_meets F.slot_list_extend ⟨_,e,rfl⟩ F.entry_list_extend (F.args_list_extend_2 _ _)
  (AutoSeq1.list_extend_list_list_0 l its.toArray n b y1be.toArray n2 y191 (by rw [ze];lia) (by lia)) ⟨e,e2,?_⟩
 refine⟨.non,_,I.lset (its':=its++y1be) hH e (by simp) (r.append r2) ?_,rfl,q⟩
 rw [z14]
 lia
noncomputable def sv:V->List V->Hp->VK->Prop:=λx vs H Q=>∃l xs y,x=.ref l/\vs=[]/\H l=some (.lst xs)/\xs[xs.length-1]?=some y/\Q y (aD H l (.lst xs.dropLast))
theorem zN:wG X "list.pop" sv:=by
 intro pins s σ H x vs v us Q I rx rv h
 obtain⟨l,xs,y,rfl,rfl,hH,hy,q⟩:=h
 cases rx
 have hus:=rv.zero
 subst hus
 obtain⟨z,its,n,r,hl,e⟩:=I.y200 hH
 obtain⟨u,hu,ru⟩:=r.get hy
 have hy':its.toArray[its.toArray.size-1]?=some u:=by
  show its.toArray[its.length-1]?=some u
  rw [<- Array.getElem?_toList,<- hl]
  exact hu
 refine call_meets F.slot_list_pop ⟨_,e,rfl⟩ F.entry_list_pop (F.args_list_pop_1 _) (MeetsSeq.list_pop_last l its.toArray n u hy' (by rw [ze];lia)) ⟨e,?_⟩
 refine⟨y,_,I.lset (its':=its.dropLast) hH e ?_ r.dropLast ?_,ru,q⟩
 ·show its.toArray.eraseIdxIfInBounds (its.toArray.size-1)=its.dropLast.toArray
  rw [ze,List.eraseIdxIfInBounds_toArray,zL]
 ·rw [List.length_dropLast]
  lia
noncomputable def sy:V->List V->Hp->VK->Prop:=λx vs H Q=>∃l xs i k y,x=.ref l/\vs=[.int i]/\H l=some (.lst xs)/\-(2 ^ 63)≤i/\i<2 ^ 63/\seqIndex? i xs.length=some k/\xs[k]?=some y/\Q y (aD H l (.lst (xs.eraseIdx k)))
theorem zO:wG X "list.pop" sy:=by
 intro pins s σ H x vs v us Q I rx rv h
 obtain⟨l,xs,i,k,y,rfl,rfl,hH,h1,h2,hk,hy,q⟩:=h
 cases rx
 obtain⟨u,rfl,ru⟩:=rv.one
 obtain⟨t,rfl⟩:=ru
 obtain⟨z,its,n,r,hl,e⟩:=I.y200 hH
 obtain⟨w,hw,rw'⟩:=r.get hy
 refine call_meets F.slot_list_pop ⟨_,e,rfl⟩ F.entry_list_pop (F.args_list_pop_2 _ _)
  (MeetsSeq.list_pop_at l its.toArray n i t k w (fitsIndex_both h1 h2) (by rw [ze,<- hl];exact hk) (by rw [<- Array.getElem?_toList];exact hw) (by rw [ze];lia)) ⟨e,?_⟩
 refine⟨y,_,I.lset (its':=its.eraseIdx k) hH e ?_ (r.eraseIdx k) ?_,rw',q⟩
 ·show its.toArray.eraseIdxIfInBounds k=(its.eraseIdx k).toArray
  rw [List.eraseIdxIfInBounds_toArray]
 ·have:=si xs k
  lia
noncomputable def kR:R2:=λx y H Q=>∃l b xs zs,x=.ref l/\y=.ref b/\H l=some (.lst xs)/\H b=some (.lst zs)/\xs.length+zs.length≤sizeLine/\∀p,H p=none->Q (.ref p) (aD H p (.lst (xs++zs)))
theorem zP:bH X (binaryOp .Add) kR:=by
 intro pins s σ H x y v u Q I rx ry h
 obtain⟨l,b,xs,zs,rfl,rfl,hH,hB,hz,q⟩:=h
 cases rx
 cases ry
 obtain⟨z,its,n,r,hl,e⟩:=I.y200 hH
 obtain⟨z2,y1be,n2,r2,hl2,e2⟩:=I.y200 hB
 refine PySem.P.add_list e e2 ?_ (by rw [ze,ze];lia)
 have ea:its.toArray++y1be.toArray=(its++y1be).toArray:=by simp
 rw [ea]
 exact⟨.ref _,_,I.lnew (t':=s.toks) (r.append r2) (by rw [z14];lia),rfl,q _ I.fresh⟩
noncomputable def kS:R2:=λx y H Q=>∃l k xs,x=.ref l/\y=.int k/\H l=some (.lst xs)/\-(2 ^ 63)≤k/\k<2 ^ 63/\xs.length*k.toNat≤sizeLine /\
 ∀p,H p=none->Q (.ref p) (aD H p (.lst (List.replicate k.toNat xs).flatten))
theorem kT{α:Type}(xs:List α)(k:Nat):(List.replicate k xs).flatten.length=k*xs.length:=by
 induction k with
 | zero=>simp
 | succ k ih=>rw [List.replicate_succ,List.flatten_cons,z14,ih,Nat.succ_mul,Nat.add_comm]
theorem zQ:bH X (binaryOp .Mult) kS:=by
 intro pins s σ H x y v u Q I rx ry h
 obtain⟨l,k,xs,rfl,rfl,hH,h1,h2,hz,q⟩:=h
 cases rx
 obtain⟨t,rfl⟩:=ry
 obtain⟨z,its,n,r,hl,e⟩:=I.y200 hH
 have hlen:its.toArray.size*k.toNat≤sizeLine:=by rw [ze,<- hl];exact hz
 have hcap:¬ its.toArray.size*k.toNat>(2 ^ 63-1) / 8:=by
  have:(sizeLine:Nat)≤(2 ^ 63-1) / 8:=by decide
  lia
 have hfit:¬ (!Builtin.List.listFitsIndex k)=true:=by
  rw [fitsIndex_both h1 h2]
  exact z16
 have y191:¬ Builtin.List.listTooLong (its.toArray.size*k.toNat)=true:=by
  rw [sj hlen]
  exact z16
 have hnew:List.foldl (λx1 x2=>x1++x2) #[] (List.replicate (if its.toArray.isEmpty=true then 0 else k.toNat) its.toArray)=(List.replicate k.toNat its).flatten.toArray:=by
  have f0:∀m:Nat,List.foldl (λx1 x2=>x1++x2) #[] (List.replicate m its.toArray)=(List.replicate m its).flatten.toArray:=λm=>by
   have:=e9 its m []
   rw [List.nil_append] at this
   exact this
  rw [f0]
  cases its with
  | nil=>simp
  | cons a r'=>rw [if_neg (by simp)]
 refine wpAny_binaryOp_repeat_ref (T:="list") (U:="int") (by decide) ⟨_,e,rfl⟩ (λs'=>typeIs_int s' k t) noFill_list_mul F.fills_int_mul F.slot_int_rmul repeat_list F.slot_int_index.lookup
  (call_meets F.slot_int_rmul (typeIs_int s k t) F.entry_int_rmul (F.args_int_rmul_2 _ _) (int___rmul___int_list k t l its.toArray n)
   ⟨e,rfl,⟨_,e,rfl⟩,call_meets F.slot_list_mul ⟨_,e,rfl⟩ F.entry_list_mul (F.args_list_mul_2 _ _) (AutoListH.list___mul___list_int_3 l its.toArray n k t hfit hcap y191) ⟨e,?_⟩⟩)
 rw [hnew]
 exact⟨.ref _,_,I.lnew (t':=s.toks) (r.rep k.toNat) (by rw [kT,Nat.mul_comm];exact hz),rfl,q _ I.fresh⟩
end
end
end L2
namespace Att
open PySem PySem.W PySem.Calls PyProof.Rows
theorem zR{P:Params}{h:Heap}:∀(ns:List Int) (vs:List Value),WellAll P h vs (ns.map WData.int)->IntsAre vs ns:=by
 intro ns
 induction ns with
 | nil =>
  intro vs w
  rw [List.map_nil] at w
  cases w
  exact .nil
 | cons n ns ih =>
  intro vs w
  rw [z1a] at w
  cases w with
  | cons a b =>
   cases a
   exact .cons _ _ (ih _ b)
theorem zS{l:OpenLaw}{n:Nat}(hn:l.most=some n){P:Params}{h:Heap}{args:List WData}{vals:List Value}
  (hpre:l.row.toRowW.claim.pre args=true) (hwl:WellAll P h vals args) :
  ∃a vs ns,vals=[Value.ref a]/\args=[WData.list (ns.map WData.int)]/\h.get? a=some { cls:=.type "list",data:=.seq vs.toArray }/\IntsAre vs ns/\ns.length≤n:=by
 have hsh:WShape.hasAll [] args [.list .int]=true:=(pre_splitW hpre).1
 have hc:l.pre.holds [] { args:=args }=true:=(pre_splitW hpre).2
 obtain⟨d,r,rfl,h1,h2⟩:=hasAllW_cons hsh
 obtain rfl:=hasAllW_nil h2
 obtain⟨xs,rfl,h3⟩:=hasW_list h1
 obtain⟨ns,rfl⟩:=items_int h3
 have hlen:ns.length≤n:=by
  unfold OpenLaw.pre at hc
  have h4:(WTm.not (.lt (.lit (.int (n:Int))) (.len (.arg 0)))).holds [] { args:=[.list (ns.map .int)] }=true:=by
   have h4:=(holds_andW hc).1
   rw [hn] at h4
   exact h4
  have h5:=condW_of h4 (w_not (w_lt w_lit (w_len_list (w_arg rfl))))
  rw [z19] at h5
  refine Nat.le_of_not_lt λq=>?_
  have q':(n:Int)<((ns.length:Nat):Int):=by lia
  first
   | (rw [decide_eq_true q'] at h5;exact absurd h5 (by decide))
   | (simp at h5;lia)
 cases hwl with
 | cons w1 w2 =>
  cases w2
  cases w1 with
  | list ho y17f=>exact⟨_,_,ns,rfl,rfl,ho,zR ns _ y17f,hlen⟩
theorem zT(l:OpenLaw)(args:List WData):l.row.toRowW.claim.post args (.bool true) args=true :=
 postW_of (r:=l.row.toRowW) (X:=(true == true))
  (show WShape.has [] (.bool true) .bool=true by first|rfl|decide|simp [WShape.has,WShape.arms,WShape.armsAll])
  (show (WTm.eq .res (.lit (.bool true))).value [] { args:=args,res:=some (.bool true),after:=args }=some (.bool (true == true)) from w_eq_bool (w_res rfl) w_lit) rfl
theorem y6f{l:OpenLaw}{n:Nat}{q:Program}{loose:List Str}{XP:(Str->Option Value)->Heap->Prop}{YP:World->Heap->Prop}{d:DefRec}
  (hn:l.most=some n) (hdf:d.params.defaults=[])
  (call:∀(w:World) (s₀ s₁:Shared) (mg mb:Str->Option Value) (fa:Addr) (o:Obj) (pm cd doc:Value) (a:Addr) (vs:List Value) (ns:List Int),
   Ground q loose [] XP w s₀ mg mb s₁.heap->YP w s₁.heap ->
   s₁.heap.get? fa=some o->o.data=.func (docDef d.name d.params d.body d.scope pm cd doc)->s₁.heap.CodeRec cd d.name->mg d.name=some (.ref fa) ->
   s₁.heap.get? a=some { cls:=.type "list",data:=.seq vs.toArray }->IntsAre vs ns->ns.length≤n->s₁.gens=#[] ->
   codeAny (model l.prog w) callerA (.call (.ref fa) ⟨[.ref a],[]⟩) (λr s'=>r=.ok (.ret (.bool true))/\OldK s₁.heap s'.heap/\s'.os=s₁.os/\AllBare s'.gens) s₁) :
  WalkO q loose XP YP l.row.toRowW d [] (λf vs=>PySem.call f vs):=by
 intro w s₀ s₁ mg mb G Y fa o pm cd doc dV kV ho hd hcd hD hmg hg args vals as hpre hlay hrd hwl hlo
 obtain rfl:dV=.none:=Dflts.none hD hdf
 obtain rfl:kV=.none:=Dflts.noKw hD
 obtain⟨a,vs,ns,rfl,rfl,hobj,hints,hlen⟩:=zS hn hpre hwl
 refine enter_call (codeAny_mono (call w s₀ s₁ mg mb fa o pm cd doc a vs ns G Y ho (fd_plain hd) hcd hmg hobj hints hlen hg) λr s' hq=>?_)
 obtain⟨rfl,h2,h3,h4⟩:=hq
 exact⟨.inl ⟨.bool true,.bool true,[],rfl,λ_=>rfl,.bool true,zT l _,λ_=>⟨List.Pairwise.nil,λ_ hm=>(nomatch hm)⟩⟩,h2,h3,h4⟩
end Att
namespace L2
open PySem PySem.Spec PyProof.Rows
section
theorem sA:∀{vs:List Value} {ns:List Int},IntsAre vs ns->ao (ns.map V.int) vs
 | _,_,.nil=>.nil
 | _,_,.cons n t h=>.cons ⟨t,rfl⟩ (sA h)
noncomputable def kU(H:Hp):Prop:=∀b,H b=none∨∃o xs,H b=some (.frz o (.lst xs))
theorem zU{P:Program}{w:World}{K:W.Frag}{mg mb:Str->Option Value}{CX:jd}{k:Nat}{fa a:Addr}{fd:FuncData}{x:Str}{sp:Sp}{s₁:Shared}{vs:List Value}{ns:List Int}
  (KX:K.In s₁.heap) (hns:s₁.heap.Ns mainGlobals mg) (hb:s₁.heap.Ns builtinsNs mb) (hbb:∀x:Str,x≠"__name__"->mb x=bootBuiltins x) (hlim:s₁.heap.NoLimit) (hg:s₁.gens=#[])
  (ha:s₁.heap.get? a=some { cls:=.type "list",data:=.seq vs.toArray }) (hi:IntsAre vs ns) (hl:ns.length≤sizeLine) (hr:y4b k callerA)
  (F:∀base:Heap,K.In base->base.Ns mainGlobals mg->y3b P w K mg base CX k fa fd [x] sp) (hbind:∀(s:Shared) (u:Value),BindsTo s fd ⟨[u],[]⟩ [(x,u)])
  (hsp:∀H:Hp,kU H->aZ K H a (ns.map V.int)->sp [.ref a] H (λv _=>v=.bl true) λ_ _ _=>False)
  (hCX:∀H e s',CX [] H s₁ (λ_ _ _=>False) e s'->False) :
  codeAny (model P w) callerA (.call (.ref fa) ⟨[.ref a],[]⟩) (λr s'=>r=.ok (.ret (.bool true))/\OldK s₁.heap s'.heap/\s'.os=s₁.os/\AllBare s'.gens) s₁:=by
 have rv:=sA hi
 have lenV:=hi.length
 have core:∀H:Hp,kU H->aZ K H a (ns.map V.int)->cR P w H s₁.heap->(∀b,H b≠none->b=a)->(H a≠none->K.lookup a=none) ->
   codeAny (model P w) callerA (.call (.ref fa) ⟨[.ref a],[]⟩) (λr s'=>r=.ok (.ret (.bool true))/\OldK s₁.heap s'.heap/\s'.os=s₁.os/\AllBare s'.gens) s₁:=by
  intro H hO hS hok hA hK
  have y7a:∀{b:Addr} {o:Obj},s₁.heap.get? b=some o->H b=none->(fg s₁.heap H).get? b=some o:=λe n=>xo e n
  have noA:∀{b:Addr} {o:Obj} {es:Array DictEntry} {ep:Nat},s₁.heap.get? b=some o->o.data=.dict es ep->H b=none:=λ{b o es ep} e d=>by
   cases q:H b with
   | none=>rfl
   | some u =>
    have e':b=a:=hA b (by rw [q];simp)
    subst e'
    rw [ha] at e;cases e
    have d':Data.seq vs.toArray _=Data.dict es ep:=d
    cases d'
  have nsK:∀{b:Addr} {m:Str->Option Value},s₁.heap.Ns b m->(fg s₁.heap H).Ns b m:=λ{b m} ⟨o,es,ep,e,d,r⟩=>⟨o,es,ep,y7a e (noA e d),d,r⟩
  have hKb:K.In (fg s₁.heap H):=λb o e=>y7a (KX b o e) (by
   cases q:H b with
   | none=>rfl
   | some u =>
    have e':b=a:=hA b (by rw [q];simp)
    subst e'
    rw [hK (by rw [q];simp)] at e;cases e)
  have hM:Mod K mg (fg s₁.heap H):=⟨hKb,nsK hns,⟨mb,nsK hb,hbb⟩,let ⟨mc,h1,h2⟩:=hlim;⟨mc,nsK h1,h2⟩⟩
  have e0:y13 P w K mg (fg s₁.heap H) callerA [] s₁ H:=⟨rfl,hM,λb o e=>xp e,Nat.le_of_eq (xn _ _),trivial,λb hb=>absurd (show b∈([]:List Addr) from hb) (by simp),hok,.of_eq hg⟩
  refine codeAny_mono ((F _ hKb (nsK hns)).run callerA [] s₁ H ⟨[.ref a],[]⟩ [.ref a] [.ref a] _ _ hr e0 (hbind s₁ (.ref a)) (.cons rfl .nil) (hsp H hO hS)) λr s' h=>?_
  cases r with
  | error e=>exact (hCX H e s' h).elim
  | ok fl =>
   cases fl with
   | next=>exact False.elim h
   | brk=>exact False.elim h
   | cont=>exact False.elim h
   | ret u =>
    obtain⟨v,H',os,bare,un,hok',r',q⟩:=h
    have q':v=.bl true:=q
    subst q'
    obtain rfl:u=Value.bool true:=r'
    refine⟨rfl,OldK.of_keep λb o e=>?_,os,bare⟩
    cases q:H b with
    | none=>exact un.keep b o e q (by intro z;exact absurd (show b∈([]:List Addr) from z) (by simp)) (by simp)
    | some u =>
     rcases hO b with z|⟨ob,xs,z⟩
     ·rw [q] at z;cases z
     ·have z2:=un.y151 b ob _ z
      obtain⟨e1,_⟩:=hok b _ z
      obtain⟨e2,_⟩:=hok' b _ z2
      rw [e] at e1;cases e1
      exact e2
 cases hk:K.lookup a with
 | some o =>
  have e:=KX a o hk
  rw [ha] at e
  cases e
  refine core (λ_=>none) (λ_=>.inl rfl) (.inr ⟨_,vs.toArray,_,hk,rfl,rfl,rfl,by rw [ze,lenV];exact hl,by simpa using rv⟩) (λb u z=>by have z':(none:Option HO)=some u:=z;cases z') (λb z=>absurd rfl z) λz=>absurd rfl z
 | none =>
  refine core (λb=>if b=a then some (.frz { cls:=.type "list",data:=.seq vs.toArray } (.lst (ns.map V.int))) else none) (λb=>?_) (.inl (.inr ⟨{ cls:=.type "list",data:=.seq vs.toArray },if_pos rfl⟩)) (λb u z=>?_) (λb z=>?_) λ_=>hk
  ·by_cases hb:b=a
   ·exact .inr ⟨_,_,if_pos hb⟩
   ·exact .inl (if_neg hb)
  ·by_cases hb:b=a
   ·have z':=(if_pos hb).symm.trans z
    cases z'
    subst hb
    exact⟨ha,by rw [z19];exact hl,vs,_,rv,ha⟩
   ·have z':=(if_neg hb).symm.trans z
    cases z'
  ·by_cases hb:b=a
   ·exact hb
   ·exact absurd (if_neg hb) z
end
section
theorem y46e{l:W.OpenLaw}{n k:Nat}{q:Program}{loose:List Str}{XP:(Str->Option Value)->Heap->Prop}{YP:World->Heap->Prop}{d:DefRec}{K:Params->W.Frag}{CX:World->jd}{sp:World->Sp}{x:Str}
  (hn:l.most=some n) (hn2:n≤sizeLine) (hdf:d.params.defaults=[]) (hr:y4b k callerA)
  (hY:∀(w:World) (h:Heap),YP w h->(K w.params).In h)
  (F:∀(w:World) (mg:Str->Option Value) (fa:Addr) (h:Heap),(K w.params).In h->h.Ns mainGlobals mg->mg d.name=some (.ref fa) ->
   ∃fd:FuncData,(∀(s:Shared) (u:Value),BindsTo s fd ⟨[u],[]⟩ [(x,u)]) /\
    ∀base:Heap,(K w.params).In base->base.Ns mainGlobals mg->y3b l.prog w (K w.params) mg base (CX w) k fa fd [x] (sp w))
  (hsp:∀(w:World) (H:Hp) (a:Addr) (ns:List Int),ns.length≤n->kU H->aZ (K w.params) H a (ns.map V.int)->sp w [.ref a] H (λv _=>v=.bl true) λ_ _ _=>False)
  (hCX:∀(w:World) (H:Hp) (s:Shared) (e:Value) (s':Shared),CX w [] H s (λ_ _ _=>False) e s'->False) :
  W.WalkO q loose XP YP l.row.toRowW d [] (λf vs=>PySem.call f vs):=by
 refine Att.y6f hn hdf λw s₀ s₁ mg mb fa o pm cd doc a vs ns G Y ho hd hcd hmg hobj hints hlen hg=>?_
 have KX:=hY w _ Y
 obtain⟨fd,hb,hF⟩:=F w mg fa _ KX G.T.g hmg
 exact zU KX G.T.g G.T.b G.T.builtins G.T.nolimit hg hobj hints (z25 hlen hn2) hr hF hb (λH hO hS=>hsp w H a ns hlen hO hS) λH e s'=>hCX w H s₁ e s'
end
section
noncomputable def aP(s:Stmt)(j:Nat):Stmt:=match s with
 | .ClassDef _ _ _ body _ _ _ _ _ _ _=>body.getD j (.Pass ⟨0,0,0,0⟩)
 | _=>.Pass ⟨0,0,0,0⟩
noncomputable def pM(s:Stmt):Arguments:=match s with
 | .FunctionDef _ a _ _ _ _ _ _ _ _=>a
 | _=>{ posonlyargs:=[],args:=[],vararg:=none,kwonlyargs:=[],kw_defaults:=[],kwarg:=none,defaults:=[] }
noncomputable def mN(s:Stmt):List Stmt:=match s with
 | .FunctionDef _ _ b _ _ _ _ _ _ _=>b
 | _=>[]
noncomputable def bV(s:Stmt):Scope:=match s with
 | .FunctionDef _ _ _ _ _ _ sc _ _ _=>sc
 | _=>{ kind:=.function,names:=[],isGenerator:=false,isCoroutine:=false }
noncomputable abbrev cu:jd:=λ_ _ _ _ _ _=>False
noncomputable abbrev E0:XK:=λ_ _ _=>False
theorem nQ{X:Cx}:dm cu X E0:=λ_ _ _ _ _ _ _ h=>h.elim
structure Fun(K:W.Frag)(x qual:Str)(st:Stmt)(f:Addr)(fd:FuncData):Prop where
 ex:∃(oc:Value) (od:Option Addr) (kV doc pm:Value) (an:Option Addr) (cdv ct:Value) (osl:Array (Option Value)),
  fd=W.fnOf x qual (pM st) (mN st) (bV st) .none kV doc pm an cdv ct/\K.lookup f=some ⟨oc,od,.func fd,osl⟩/\W.codeIn K cdv qual=true
 kp:W.keepIn K (.ref f)=true
section
variable {P:Program}{w:World}{K:W.Frag}{mg:Str->Option Value}{base:Heap}
theorem Fun.ok{x qual:Str}{st:Stmt}{f:Addr}{fd:FuncData}{N ps:List Str}{k:Nat}{sp:Sp}(F:Fun K x qual st f fd)(S:y3c N ps (bV st))(len:∀vs H Q E,sp vs H Q E->vs.length=ps.length)
  (y187:∀(cdv:Value) (A:Around) (outer:List Env) (s:Shared) (H:Hp) (vs:List V) (Q:VK) (E:XK),y4b k (A.deeper (envOfC qual (bV st) s.heap.objs.size f cdv))->sp vs H Q E ->
   ∃t,fP (nK cu P w K mg base N qual (bV st) f cdv A outer s H E).nox (mN st) t/\t { nx:=λ_ H'=>Q .non H',rt:=Q } (start N vs) H):y3b P w K mg base cu (k+1) f fd ps sp:=by
 obtain⟨oc,od,kV,doc,pm,an,cdv,ct,osl,rfl,lk,hcd⟩:=F.ex
 refine rf lk hcd S len λA outer s H vs Q E hr hsp=>?_
 obtain⟨t,h,q⟩:=y187 cdv A outer s H vs Q E hr hsp
 exact⟨t,h.nox,q⟩
theorem Fun.binds{x qual:Str}{st:Stmt}{f:Addr}{fd:FuncData}{ps:List Str}(F:Fun K x qual st f fd)
  (h:∀(kV doc pm:Value) (an:Option Addr) (cdv ct:Value) (us:List Value),us.length=ps.length->bindArgs (W.fnOf x qual (pM st) (mN st) (bV st) .none kV doc pm an cdv ct) ⟨us,[]⟩=pure (ps.zip us)):cw K fd ps []:=by
 obtain⟨oc,od,kV,doc,pm,an,cdv,ct,osl,rfl,lk,hcd⟩:=F.ex
 exact .all (h kV doc pm an cdv ct)
theorem y152{x qual:Str}{st:Stmt}{f:Addr}{oc:Value}{od an:Option Addr}{osl:Array (Option Value)}{kV doc pm cdv ct:Value}(l:K.lookup f=some ⟨oc,od,.func (W.fnOf x qual (pM st) (mN st) (bV st) .none kV doc pm an cdv ct),osl⟩)
  (c:W.codeIn K cdv qual=true) (k:W.keepIn K (.ref f)=true):Fun K x qual st f (W.fnOf x qual (pM st) (mN st) (bV st) .none kV doc pm an cdv ct):=⟨⟨oc,od,kV,doc,pm,an,cdv,ct,osl,rfl,l,c⟩,k⟩
end
theorem kW{A:Around}{k:Nat}(hr:y4b k A):A.units+1<cLine:=Nat.lt_of_le_of_lt (Nat.add_le_add_left (by decide:1≤64) _) hr.units
section
variable {X:Cx}
theorem y96:ya X (.builtin "len") (λxs H Q=>∃a kvs,xs=[V.ref a]/\H a=some (.dK kvs)/\Q (.int kvs.length) H):=by
 intro pins s σ H xs us Q I r h
 obtain⟨a,kvs,rfl,ha,q⟩:=h
 obtain⟨u,rfl,ru⟩:=cV r
 cases ru
 exact rn I (.inl ha) λt s' I'=>⟨.int kvs.length,H,I',⟨t,rfl⟩,q⟩
end
noncomputable def eB(H H':Hp):Prop:=∀b o,H b=some o->H' b=some o
theorem eB.free{H H':Hp}(e:eB H H'){l:Addr}(h:H' l=Option.none):H l=Option.none:=by
 cases q:H l with
 | none=>rfl
 | some o =>
  rw [e l o q] at h
  cases h
end
end L2
set_option maxHeartbeats 4000000
namespace PySem
noncomputable def nR(names:List (Str×NameKind))(env:Env):List (Str×Addr) :=
 names.foldl (λcs p=>if p.2 == NameKind.free then (p.1,(env.cells.lookup p.1).getD 0)::cs else cs) []
theorem yad:∀(l:List (Str×NameKind)) (acc:List (Str×Addr)),(∀p∈l,p.2=.free->∃c,env.cells.lookup p.1=some c) ->
  (forIn l acc (λ(x:Str×NameKind) (cs:List (Str×Addr))=>match x with
   | (name,kind)=>if (kind == NameKind.free)=true then (do let a <- cellOf env name;pure (ForInStep.yield ((name,a)::cs)):Sem _) else pure (ForInStep.yield cs))) =
  (pure (l.foldl (λcs p=>if p.2 == NameKind.free then (p.1,(env.cells.lookup p.1).getD 0)::cs else cs) acc):Sem _)
 | [],acc,_=>by simp
 | (n,k)::r,acc,h=>by
  have ih:=λa=>yad r a λp hp=>h p (z28 _ hp)
  rw [List.forIn_cons]
  by_cases hk:k=.free
  ·subst hk
   obtain⟨c,e⟩:=h (n,.free) List.mem_cons_self rfl
   have e':cellOf env n=pure c:=by unfold cellOf;rw [e]
   show (if (NameKind.free == NameKind.free)=true then (do let a <- cellOf env n;pure (ForInStep.yield ((n,a)::acc)):Sem _) else pure (ForInStep.yield acc)) >>= _=_
   rw [if_pos (by rfl),e',pure_bind,pure_bind]
   rw [List.foldl_cons]
   have e2:(if ((n,NameKind.free).2 == NameKind.free)=true then ((n,NameKind.free).1,(env.cells.lookup (n,NameKind.free).1).getD 0)::acc else acc)=(n,c)::acc:=by
    rw [if_pos (by rfl),e];rfl
   rw [e2]
   exact ih _
  ·have hb:(k == NameKind.free)=false:=by simpa using hk
   simp only [hb,Bool.false_eq_true,if_false,pure_bind,ih,List.foldl_cons]
theorem yac (h:∀p∈scope.names,p.2=.free->∃c,env.cells.lookup p.1=some c):closureFor scope env=pure (nR scope.names env):=by
 unfold closureFor nR
 have:=yad scope.names [] h
 simp only [bind_pure]
 exact this
theorem kX{env:Env}:∀{l:List (Str×NameKind)} {acc:List (Str×Addr)} {y:Str} {c:Addr},
  (y,c)∈l.foldl (λcs p=>if p.2 == NameKind.free then (p.1,(env.cells.lookup p.1).getD 0)::cs else cs) acc↔(y,c)∈acc∨((y,NameKind.free)∈l/\c=(env.cells.lookup y).getD 0)
 | [],acc,y,c=>by simp
 | (n,k)::r,acc,y,c=>by
  rw [List.foldl_cons,kX]
  by_cases hk:k=.free
  ·subst hk
   simp only [beq_self_eq_true,if_true,z1e,Prod.mk.injEq]
   constructor
   ·rintro ((⟨rfl,rfl⟩| h)|⟨h1,h2⟩)
    ·exact .inr ⟨.inl ⟨rfl,trivial⟩,rfl⟩
    ·exact .inl h
    ·exact .inr ⟨.inr h1,h2⟩
   ·rintro (h|⟨⟨rfl,_⟩| h1,h2⟩)
    ·exact .inl (.inr h)
    ·exact .inl (.inl ⟨rfl,h2⟩)
    ·exact .inr ⟨h1,h2⟩
  ·have hb:(k == NameKind.free)=false:=by simpa using hk
   simp only [hb,Bool.false_eq_true,if_false,z1e,Prod.mk.injEq]
   constructor
   ·rintro (h|⟨h1,h2⟩)
    ·exact .inl h
    ·exact .inr ⟨.inr h1,h2⟩
   ·rintro (h|⟨⟨_,h⟩| h1,h2⟩)
    ·exact .inl h
    ·exact absurd h.symm hk
    ·exact .inr ⟨h1,h2⟩
theorem fT{β:Type}:∀{l:List (Str×β)} {a:Str} {b:β},l.lookup a=some b->(a,b)∈l
 | [],_,_,h=>by simp at h
 | (k,v)::l,a,b,h=>by
  rw [List.lookup_cons] at h
  split at h
  ·rename_i e
   cases h
   have:a=k:=by simpa using e
   subst this
   exact List.mem_cons_self
  ·exact z28 _ (fT h)
theorem sC{β:Type}:∀{l:List (Str×β)} {a:Str} {b:β},(a,b)∈l->∃b',l.lookup a=some b'
 | [],_,_,h=>by simp at h
 | (k,v)::l,a,b,h=>by
  rw [List.lookup_cons]
  split
  ·exact⟨v,rfl⟩
  ·rename_i e
   rcases z1e.mp h with q|q
   ·cases q
    simp at e
   ·exact sC q
theorem kY{env:Env}:∀{names:List (Str×NameKind)} {y:Str} {k:NameKind},
  (names.map λ(n,k)=>if (k == NameKind.free&&env.scope.kind == .function&&env.kindOf n == some .cell) then (n,NameKind.cell) else (n,k)).lookup y=some k ->
  names.lookup y=some k∨(names.lookup y=some .free/\k=.cell)
 | [],_,_,h=>by simp at h
 | (n,k0)::r,y,k,h=>by
  rw [z1a] at h
  by_cases hc:(k0 == NameKind.free&&env.scope.kind == .function&&env.kindOf n == some .cell)=true
  ·simp only [hc,if_true] at h
   rw [List.lookup_cons] at h ⊢
   cases hy:y == n with
   | true =>
    rw [hy] at h
    cases h
    have:k0=.free:=by
     rw [z2a,z2a] at hc
     simpa using hc.1.1
    subst this
    exact .inr ⟨rfl,rfl⟩
   | false =>
    rw [hy] at h
    exact kY h
  ·rw [Bool.not_eq_true] at hc
   simp only [hc,Bool.false_eq_true,if_false] at h
   rw [List.lookup_cons] at h ⊢
   cases hy:y == n with
   | true =>
    rw [hy] at h
    exact .inl h
   | false =>
    rw [hy] at h
    exact kY h
theorem sD{env:Env}:∀{names:List (Str×NameKind)} {y:Str},names.lookup y=some .free ->
  (names.map λ(n,k)=>if (k == NameKind.free&&env.scope.kind == .function&&env.kindOf n == some .cell) then (n,NameKind.cell) else (n,k)).lookup y=some .cell ∨
  (names.map λ(n,k)=>if (k == NameKind.free&&env.scope.kind == .function&&env.kindOf n == some .cell) then (n,NameKind.cell) else (n,k)).lookup y=some .free
 | [],_,h=>by simp at h
 | (n,k0)::r,y,h=>by
  rw [z1a]
  rw [List.lookup_cons] at h
  cases hy:y == n with
  | true =>
   rw [hy] at h
   cases h
   by_cases hc:(NameKind.free == NameKind.free&&env.scope.kind == .function&&env.kindOf n == some .cell)=true
   ·left;simp only [hc,if_true,List.lookup_cons,hy]
   ·rw [Bool.not_eq_true] at hc
    right;simp only [hc,Bool.false_eq_true,if_false,List.lookup_cons,hy]
  | false =>
   rw [hy] at h
   have ih:=sD (env:=env) h
   by_cases hc:(k0 == NameKind.free&&env.scope.kind == .function&&env.kindOf n == some .cell)=true
   ·simp only [hc,if_true,List.lookup_cons,hy];exact ih
   ·rw [Bool.not_eq_true] at hc
    simp only [hc,Bool.false_eq_true,if_false,List.lookup_cons,hy];exact ih
section
noncomputable def yb(prog:Program)(w:World)(A:Around)(elt target:Expr)(ifs:List Expr)(env:Env)(it acc:Value)(last:Shared->Prop)(on:Shared->Prop):Shared->Prop :=
 let no:Value->Shared->Prop:=λ_ _=>False
 wpAny (model prog w) A (pyNext it) (λr s1=>match r with
  | none=>last s1
  | some v=>wpAny (model prog w) A (letOwnedTupleGo target it v) (λ_=>wpAny (model prog w) A (assign target env v) (λ_=>wpAny (model prog w) A
    (forIn ifs true λc r=>if r=true then do let ok <- isTrue c env (eval c env);pure (ForInStep.yield ok) else pure (ForInStep.yield r))
    (λok s4=>if ok=true then wpAny (model prog w) A (eval elt env) (λx=>wpAny (model prog w) A (call (.builtin "list.append") [acc,x]) (λ_=>on) no) no s4 else on s4) no) no) no s1) no
theorem yb9{last on:Shared->Prop}{s:Shared}(h:yb prog w A elt target ifs env it acc last on s) :
  wpAny (model prog w) A (compTurn (.ListComp elt [⟨target,iter,ifs,0⟩] scope pos) 0 it acc env) (λr t=>r=.done .next/\last t∨r=.again (.compLoop (.ListComp elt [⟨target,iter,ifs,0⟩] scope pos) 0 it acc env)/\on t) (λ_ _=>False) s:=by
 have off:∀{R:Value->Shared->Prop} (e:Value) (t:Shared),False->R e t:=λ_ _ f=>f.elim
 rw [compTurn_list]
 refine zc (wpAny_standAt (zc (wpAny_mono h (λr s1 k=>?_) off)))
 match r,k with
 | none,k=>exact z15 (.inl ⟨rfl,k⟩)
 | some v,k =>
  refine zc (wpAny_mono k (λ_ _ k=>zc (wpAny_mono k (λ_ _ k=>zc (wpAny_mono k (λok s4 k=>?_) off)) off)) off)
  match ok,k with
  | false,k=>exact z15 (.inr ⟨rfl,k⟩)
  | true,k=>exact zc (zc (wpAny_mono k (λ_ _ k=>zc (wpAny_mono k (λ_ _ k=>z15 (z15 (.inr ⟨rfl,k⟩))) off)) off))
theorem yb1(I:Nat->Shared->Prop)(turn:∀n s,I n s->yb prog w A elt target ifs env it acc (R (.ok .next)) (λt=>∃m,m<n/\I m t) s)(n:Nat)(h:I n s) :
  codeAny (model prog w) A (.compLoop (.ListComp elt [⟨target,iter,ifs,0⟩] scope pos) 0 it acc env) R s:=by
 refine codeAny_loop rfl I (λn s k=>wpAny_noted ?_) n h
 refine wpAny_mono (yb9 (turn n s k)) (λr t k=>?_) λ_ _ f=>f.elim
 rcases k with⟨rfl,k⟩| ⟨rfl,k⟩
 ·exact k
 ·exact⟨rfl,k⟩
end
end PySem
namespace L2
open PySem PySem.Spec PyProof.Rows
section
structure yc where
 fp:List Addr
 s:Shared
 H:Hp
 C:Addr
 pins:List (Addr×Obj)
noncomputable def dH(X:Cx)(scope:Scope)(N:List Str)(z:yc):Cx :=
 { X with N:=N,s₀:=z.s,H₀:=z.H,env:=compEnvC scope (nR scope.names X.env) z.C X.env,outer:=X.stack,ex:=z.fp,fn:=λ_=>false,pn:=X.pn++z.pins,xe:=λ_ _=>False }
structure CompOk(X:Cx)(scope:Scope)(x:Str)(ys:List Str)(ix:List Nat):Prop where
 kind:scope.kind=.function
 hx:scope.names.lookup x=some .local
 y23f:∀p∈scope.names,p.2≠.cell
 names:∀p∈scope.names,p.2=.local->scope.names.lookup p.1=some .local
 fr:∀p∈scope.names,p.2=.free->X.env.kindOf p.1=some .cell∨X.env.kindOf p.1=some .free
 len:ys.length=ix.length
 here:∀(j:Nat) (y:Str) (i:Nat),ys[j]?=some y->ix[j]?=some i->scope.names.lookup y=some .free/\X.N[i]?=some y
 nd:(x::ys).Nodup
noncomputable def mO(X:Cx)(ifs:List Expr)(t:TT):Prop :=
 ∀(pins:List (Addr×Obj)) (s:Shared) (σ:St) (H:Hp) (Q:Bool->Hp->Prop),Inv X pins σ H s->t σ H Q ->
  wpAny (model X.prog X.w) X.A (forIn ifs true λc r=>if r=true then do let ok <- isTrue c X.env (eval c X.env);pure (ForInStep.yield ok) else pure (ForInStep.yield r)) (TP X pins σ Q) X.xe s
noncomputable def sE:TT:=λ_ H Q=>Q true H
theorem zV:mO X [] sE:=λpins s σ H Q I h=>wpAny_tests_nil ⟨H,I,h⟩
theorem zW (h:PT X c t):mO X [c] t:=λpins s σ H Q I q=>wpAny_tests_one (h pins s σ H Q I q)
section
theorem yba   (I:Inv X pins σ H s)(f:gG X pins H C)(hs:Heap.SameBut C s.heap h'):Inv X pins σ H { s with heap:=h' } :=
 I.turned (λb o hb e=>(hs.2 b hb).trans e) f.1 f.2.1 f.2.2.2.1 f.2.2.2.2.1 f.2.2.2.2.2
end
end
end L2
namespace PySem
open PyProof.Rows
theorem zX:typeLookup (.type "list_reverseiterator") "__len__" = pure none:=by rw [typeLookup_type,builtinLookup_eq_fast];kernel_rfl
theorem zY:typeLookup (.type "list_reverseiterator") "__length_hint__" = pure (some (.builtin "list_reverseiterator.__length_hint__")):=by rw [typeLookup_type,builtinLookup_eq_fast];kernel_rfl
section
theorem zZ(hT:s.TypeIs (.ref r) "list_reverseiterator")(h:Q false s):wpAny (model prog w) A (Builtin.List.listLengthHint (.ref r)) Q E s:=by
 have isa:isSubtype (.type "list_reverseiterator") (.type "list_reverseiterator")=pure true:=by rw [isSubtype_type];kernel_rfl
 have cut:splitId "list_reverseiterator.__length_hint__" = some ("list_reverseiterator","__length_hint__"):=by decide +kernel
 unfold Builtin.List.listLengthHint
 refine zc (wpAny_specialOf hT zX (zc (wpAny_specialOf hT zY ?_)))
 dsimp only
 rw [cut]
 refine zc (wpAny_isInstance hT isa ?_)
 rw [if_neg (by decide),if_pos (by decide +kernel),if_neg (by decide +kernel)]
 exact z15 h
noncomputable def y42(s:Shared):Value->Shared->Prop:=λv t=>v=.ref s.heap.objs.size/\t={ s with heap:=s.heap.push { cls:=.type "list",data:=.seq #[] } }
theorem y9b (hh:A.handled=none)(hl:s.heap.IsList l items)(hne:l≠it)(hi:s.heap.IsRevIter it l ((items.size:Int)-1))(hn:items.size≤sizeLine)
  (hQ:∀h' tk acc c,(∀b o,b≠it->s.heap.get? b=some o->h'.get? b=some o)->h'.get? s.heap.objs.size=some { cls:=.type "list",dict:=none,data:=.seq acc c,slots:=#[] } ->
   ItemsOf (λi v=>items[items.size-1-i]?=some v) acc items.size->Q (.ref s.heap.objs.size) { s with heap:=h',toks:=tk }) :
  wpAny (model prog w) A (call (.type "list") [.ref it]) Q E s:=by
 refine callType_codes (Q₁:=y42 s) PySem.F.called_list (PySem.F.typeCall_list_1 _) PySem.F.entry_list_init (code_list_new _ ⟨rfl,rfl⟩) ?_
 rintro _ _ ⟨rfl,rfl⟩
 have hS:=z21 s.heap (o:={ cls:=.type "list",data:=.seq #[] }) rfl
 have below:∀{b o},s.heap.get? b=some o->b<s.heap.objs.size:=z17
 have hlt:l<s.heap.objs.size:=hl.elim λ_ q=>below q.1
 have hit:it<s.heap.objs.size:=hi.elim λ_ q=>below q.1
 refine⟨⟨_,hS,rfl⟩,PySem.F.args_list_init_2 _ _,?_⟩
 show wpAny _ _ (do let old <- Builtin.List.listItems (.ref s.heap.objs.size);Builtin.List.listUpdate (.ref s.heap.objs.size) (λ_=>#[]);letGo old.toList.reverse;Builtin.List.listExtendWith (.ref s.heap.objs.size) (.ref it) .none) _ _ _
 refine zc ?_
 unfold Builtin.List.listItems
 refine zc (wpAny_seqItems hS rfl (z15 ?_))
 show wpAny _ _ (updateSeq s.heap.objs.size (λ_=>#[]) >>= λ_=>letGo (#[]:Array Value).toList.reverse >>= λ_=>Builtin.List.listExtendWith (.ref s.heap.objs.size) (.ref it) .none) _ _ _
 refine zc (wpAny_updateSeq hS rfl ?_)
 have hS₂:=Heap.get?_update_self (Obj.mapSeq (λ_=>(#[]:Array Value))) hS rfl
 generalize hh2:(s.heap.push { cls:=.type "list",data:=.seq #[] }).update s.heap.objs.size (Obj.mapSeq (λ_=>(#[]:Array Value)))=h2 at hS₂ ⊢
 have oth:∀b o,s.heap.get? b=some o->h2.get? b=some o:=λb o e=>by
  rw [<- hh2]
  exact (Heap.get?_update_other _ _ (Nat.ne_of_gt (z17 e))).trans (z13 _ e)
 refine zc (wpAny_letGo ?_)
 have hl2:h2.IsList l items:=hl.at λo e=>oth l o e
 have hi2:h2.IsRevIter it l ((items.size:Int)-1):=hi.at λo e=>oth it o e
 have hSI:s.heap.objs.size≠it:=Nat.ne_of_gt hit
 have W:=Walks.listRev (prog:=prog) (w:=w) (A:=A.in1.in1) hh it l hne items
 have st:(λi (h:Heap)=>i≤items.size/\h.IsRevIter it l ((items.size:Int)-1-(i:Int))/\h.IsList l items) 0 h2:=⟨Nat.zero_le _,by simpa using hi2,hl2⟩
 unfold Builtin.List.listExtendWith
 have hT:({ s with heap:=h2 }:Shared).TypeIs (.ref it) "list_reverseiterator":=hi2.typeIs
 refine zc (wpAny_typeOf hT ?_)
 have h1:Builtin.List.listSameRef (.ref s.heap.objs.size) (.ref it)=false:=by simp [Builtin.List.listSameRef,hSI]
 have h2':(Value.type "list_reverseiterator" == Value.type "list")=false:=by decide
 have h3:(Value.type "list_reverseiterator" == Value.type "tuple")=false:=by decide
 simp only [h1,h2',h3,Bool.or_false,Bool.false_eq_true,if_false]
 refine zc (wpAny_pyIter_revIter hi2 ?_)
 refine zc (wpAny_holding (zZ hT ?_))
 have hSf:s.heap.objs.size∉[it,l]:=by simp only [z1e,List.not_mem_nil,or_false,not_or];exact⟨hSI,Nat.ne_of_gt hlt⟩
 have key:∀(h:Heap) (c₁:Nat),(λi (h:Heap)=>i≤items.size/\h.IsRevIter it l ((items.size:Int)-1-(i:Int))/\h.IsList l items) 0 h->(∀b o,s.heap.get? b=some o->h.get? b=some o) ->
   h.get? s.heap.objs.size=some { cls:=.type "list",data:=.seq #[] c₁ }->codeAny (model prog w) A.in1 (.builtin "list.extend.loop" ⟨[.ref s.heap.objs.size,.ref it,.none],[]⟩) (wants (λr s₂=>r=.none/\Q (.ref s.heap.objs.size) s₂) E) { s with heap:=h }:=by
  intro h c₁ hst hk hS₁
  refine codeAny_extend_loopS W.toS hn s.heap.objs.size hSf .none items.size 0 _ #[] c₁ rfl (Nat.zero_le _) hst hS₁ (ItemsOf.nil _) λs' acc' c' hm hS' y17e=>?_
  rw [Moved.eq_with hm]
  refine⟨rfl,hQ s'.heap s'.toks acc' c' (λb o hb e=>hm.heap b o (λy192=>?_) (hk b o e)) hS' y17e⟩
  rcases z1e.mp y192 with e'|y192
  ·exact absurd (z17 e) (by rw [e'];exact z32 _)
  ·exact hb (z20.mp y192)
 refine wpAny_ite_split (λ_=>?_) (λ_=>z15 ⟨plainId_quiet PySem.F.plain_extend_loop _,key _ _ st oth hS₂⟩)
 refine zc (wpAny_rule ?_)
 refine zc ?_
 show wpAny _ _ (updateSeq s.heap.objs.size (·.push .none) >>= λ_=>updateSeq s.heap.objs.size (·.pop)) _ _ _
 refine zc (wpAny_updateSeq hS₂ rfl ?_)
 have hS₃:=Heap.get?_update_self (Obj.mapSeq (·.push Value.none)) hS₂ rfl
 refine wpAny_updateSeq hS₃ rfl ?_
 have hS₄:=Heap.get?_update_self (Obj.mapSeq (·.pop)) hS₃ rfl
 have oth2:=((Heap.SameBut.update h2 s.heap.objs.size (Obj.mapSeq (·.push Value.none))).trans (Heap.SameBut.update _ _ (Obj.mapSeq (·.pop)))).extBut
 refine z15 ⟨plainId_quiet PySem.F.plain_extend_loop _,key _ _ ?_ (λb o e=>oth2 b o (z26 (z17 e)) (oth b o e)) hS₄⟩
 exact W.frame 0 _ _ st λb hb o e=>oth2 b o (λz=>hSf (z ▸ hb)) e
end
end PySem
namespace L2
open PySem PySem.Spec PyProof.Rows
section
section
theorem Aa(hc:X.calm=true)(gl:Gl X "list")(ml:X.mg "list" = none)(gr:Gl X "reversed")(mr:X.mg "reversed" = none)(he:PE X e te)
  (hs1:starEach [e] X.env=[(false,eval e X.env)]:=by rfl)
  (hs2:starEach [.Call (.Name "reversed" p2) [e] [] q2] X.env=[(false,eval (.Call (.Name "reversed" p2) [e] [] q2) X.env)]:=by rfl) :
  PE X (.Call (.Name "list" p1) [.Call (.Name "reversed" p2) [e] [] q2] [] q1) (λσ H Q=>te σ H λx H1=>∃l ys,x=.ref l/\aZ X.K H1 l ys/\∀p,H1 p=none->Q (.ref p) (aD H1 p (.lst ys.reverse))):=by
 intro pins s σ H Q I h
 refine Call_ (eN I gl ml PyProof.Rows.boot_list (PyProof.Rows.callWith_type1 ?_ (by rw [hs2];rfl) rfl))
 rw [hs2]
 show wpAny _ _ (spliced ((false,eval (.Call (.Name "reversed" p2) [e] [] q2) X.env)::backTo q1 [])) _ _ s
 refine Calls.spliced_cons ?_
 refine Call_ (eN I gr mr PyProof.Rows.boot_reversed (PyProof.Rows.callWith_type1 ?_ (by rw [hs1];rfl) rfl))
 rw [hs1]
 show wpAny _ _ (spliced ((false,eval e X.env)::backTo q2 [])) _ _ s
 refine Calls.spliced_cons (aG (he pins s σ H _ I h) λu s1 ⟨x,H1,I1,r1,q1⟩=>Calls.spliced_nil ?_)
 obtain⟨l,ys,e1,hq,q⟩:=q1
 subst e1
 cases r1
 obtain⟨its,rv,p,hz⟩:=I1.list hq
 have hlen:=rv.length
 refine call_reversed_list p.isList (Calls.spliced_nil ?_)
 have hl1:(s1.heap.push (revObj l ((its.toArray.size:Int)-1))).IsList l its.toArray:=p.isList.push _
 have hlt:l<s1.heap.objs.size:=by obtain⟨_,e,_⟩:=p.isList;exact z17 e
 refine y9b (I1.ok.hd hc) hl1 (z26 hlt) ⟨_,z21 _ rfl,rfl,rfl⟩ (by rw [ze,<- hlen];exact hz) λh' tk acc c hk hD y17e=>?_
 have hk':∀b o,s1.heap.get? b=some o->h'.get? b=some o:=λb o e=>hk b o (z26 (z17 e)) (z13 _ e)
 have hsz:s1.heap.objs.size≤(s1.heap.push (revObj l ((its.toArray.size:Int)-1))).objs.size:=by rw [Heap.size_push];exact Nat.le_succ _
 have hv:acc.toList=its.reverse:=by
  refine List.ext_getElem? λi=>?_
  by_cases hi:i<its.length
  ·have hi2:i<acc.size:=by rw [y17e.1,ze];exact hi
   have e:=y17e.2 i acc[i] (Array.getElem?_eq_getElem hi2)
   rw [List.getElem?_reverse hi,Array.getElem?_toList,Array.getElem?_eq_getElem hi2]
   simpa using e.symm
  ·rw [List.getElem?_eq_none (by rw [Array.length_toList,y17e.1,ze];lia),List.getElem?_eq_none (by rw [z2d];lia)]
 refine⟨.ref _,_,I1.laid hk' hsz ?_,rfl,q _ (I1.hok.fresh hsz)⟩
 exact⟨by rw [z2d];exact hz,acc.toList,c,by rw [hv];exact rv.reverse,by rw [Array.toArray_toList];exact hD⟩
theorem Ab:bH X (binaryOp .FloorDiv) (rI (λ_ j=>0<j/\j<2 ^ 200) λi j=>.int (i / j)):=nC λi j _ _ _ _ _ hc q=>by
 have h0:j≠0:=by lia
 refine floordiv_int h0 ?_ (.inl (PyProof.noPylong_of_log2 ?_))
 ·rw [Int.fdiv_eq_ediv_of_nonneg _ (by lia)];exact q
 ·have:j.natAbs<2 ^ 200:=by lia
  have h1:j.natAbs≠0:=by lia
  exact Nat.lt_trans ((Nat.log2_lt h1).mpr this) (by decide)
theorem y8a:∀{bs:List Bool} {us:List Value},ao (bs.map V.bl) us->us=bs.map Value.bool
 | [],_,r=>by rw [List.map_nil] at r;cases r;rfl
 | b::bs,_,r=>by
  rw [z1a] at r
  cases r with
  | cons r1 r2=>rw [z1a,<- y8a r2];cases (show _=Value.bool b from r1);rfl
theorem y93(hc:X.calm=true):ya X (.builtin "all") (λxs H Q=>∃(p:Addr) (bs:List Bool),xs=[.ref p]/\aZ X.K H p (bs.map V.bl)/\Q (.bl (bs.all id)) H):=by
 intro pins s σ H xs us Q I r h
 obtain⟨p,bs,rfl,hq,q⟩:=h
 obtain⟨u,rfl,ru⟩:=cV r
 cases ru
 obtain⟨its,rv,pl,hz⟩:=I.list hq
 have hits:=y8a rv
 have hlt:p<s.heap.objs.size:=by obtain⟨_,e,_⟩:=pl.isList;exact z17 e
 refine call_all_walk (wpAny_pyIter_list pl.isList ?_)
 refine⟨s.heap.objs.size,[s.heap.objs.size,p],[s.heap.objs.size],its.toArray.size,_,_,λi=>(bs[i]?).getD true,rfl,Walks.list (A:=X.A.in1) (I.ok.hd hc) _ p (z26 hlt) its.toArray,
  ⟨⟨_,z21 _ rfl,rfl,rfl⟩,pl.isList.push _⟩,λi v s' Q' E' hP hQ=>?_,λh' tk hk=>?_⟩
 ·have e:(bs.map Value.bool)[i]?=some v:=by rw [<- hits];simpa using hP
  rw [List.getElem?_map] at e
  cases eb:bs[i]? with
  | none=>rw [eb] at e;cases e
  | some b =>
   rw [eb] at e
   cases (show Value.bool b=v from z27 e)
   simp only [eb,Option.getD_some] at hQ
   exact wpAny_truthy_bool hQ
 ·have e:((List.range its.toArray.size).all λi=>(bs[i]?).getD true)=bs.all id:=by
   rw [ze,hits,z19];exact PyProof.Rows.LSm.range_all bs
  rw [e]
  refine⟨.bl (bs.all id),H,I.kept λb o eo=>hk b o (λhm=>?_) (z13 _ eo),rfl,q⟩
  rw [z20.mp hm] at eo
  exact z32 _ (z17 eo)
end
end
end L2
namespace L2
open PySem PySem.Spec PyProof.Rows Builtin.Str
section
section
noncomputable def sF:V->Option Int->Option Int->Hp->VK->Prop:=λx lo hi H Q=>∃z,x=.str z/\z.length≤sizeLine/\Q (.str (Txt.slice z lo hi)) H
theorem Ac:kN X sF:=by
 intro pins s σ H x v vl vu lo hi sl Q I rx hs pl pu h
 obtain⟨z,rfl,hz,q⟩:=h
 obtain⟨t,rfl⟩:=rx
 refine⟨"str",_,PySem.F.slot_str_getitem.lookup,typeIs_str _ _ _,?_⟩
 cases pl with
 | none =>
  cases pu with
  | none=>exact wpAny_getItem_str_slice (l:=none) (u:=none) (st:=none) hs rfl (post_val_or_str ⟨z25 (Txt.slice_le z _ _) hz,λt' k=>⟨.str (Txt.slice z none none),H,I.tok _,⟨_,rfl⟩,q⟩⟩)
  | int j uj=>exact wpAny_getItem_str_slice (l:=none) (u:=some (j,uj)) (st:=none) hs rfl (post_val_or_str ⟨z25 (Txt.slice_le z _ _) hz,λt' k=>⟨.str (Txt.slice z none (some j)),H,I.tok _,⟨_,rfl⟩,q⟩⟩)
 | int i ui =>
  cases pu with
  | none=>exact wpAny_getItem_str_slice (l:=some (i,ui)) (u:=none) (st:=none) hs rfl (post_val_or_str ⟨z25 (Txt.slice_le z _ _) hz,λt' k=>⟨.str (Txt.slice z (some i) none),H,I.tok _,⟨_,rfl⟩,q⟩⟩)
  | int j uj=>exact wpAny_getItem_str_slice (l:=some (i,ui)) (u:=some (j,uj)) (st:=none) hs rfl (post_val_or_str ⟨z25 (Txt.slice_le z _ _) hz,λt' k=>⟨.str (Txt.slice z (some i) (some j)),H,I.tok _,⟨_,rfl⟩,q⟩⟩)
theorem Ad:bH X (binaryOp .Mult) (λx y H Q=>∃z n,x=.str z/\y=.int n/\MulOk z n/\Q (.str (Txt.mul z n)) H):=by
 intro pins s σ H x y v u Q I rx ry h
 obtain⟨z,n,rfl,rfl,hm,q⟩:=h
 obtain⟨t,rfl⟩:=rx
 obtain⟨t',rfl⟩:=ry
 exact SB.mul hm λt' k=>⟨.str (Txt.mul z n),H,I.tok _,⟨_,rfl⟩,q⟩
noncomputable def nS:List V->List V->Bool
 | [],[]=>true
 | x::xs,y::ys=>gM x y&&nS xs ys
 | _,_=>false
theorem Ae(n:Nat)(f:Nat->Bool):(List.range (n+1)).all f=(f 0&&(List.range n).all λj=>f (j+1)):=by
 rw [List.range_succ_eq_map,List.all_cons,List.all_map];rfl
noncomputable def EM(K:W.Frag)(neg:Bool):R2:=λx y H Q=>∃a b xs ys,x=.ref a/\y=.ref b/\aZ K H a xs/\aZ K H b ys/\xs.all bB=true/\ys.all bB=true/\Q (.bl (if neg then !nS xs ys else nS xs ys)) H
end
noncomputable def eO(P:Program)(w:World)(K:W.Frag)(mg:Str->Option Value)(base:Heap)(x:Str)(k:Nat)(ps:List Str)(sp:Sp):Prop :=
 ∃(f:Addr) (fd:FuncData),mg x=some (.ref f)/\W.keepIn K (.ref f)=true/\cw K fd ps []/\y3b P w K mg base cu k f fd ps sp
theorem Af    (h:eO X.prog X.w X.K X.mg X.base x k ps sp)(hr:y4b k X.A)(hg:Gl X x)(ha:PA X (e::es) t)
  (hdb:(x == ("__debug__" : Str))=false:=by decide) (he:je X e es:=by rfl) (hpl:ip X pos es:=by rfl) :
  PE X (.Call (.Name x p) (e::es) [] pos) (kH sp [] E0 t):=by
 obtain⟨f,fd,hm,hk,hb,G⟩:=h
 exact yN G hr hg hm hk hb .nil nQ ha hdb he hpl
end
end L2
namespace L2
open PySem PySem.Spec PyProof.Rows
section
noncomputable def dr(n:Nat)(ix:List Nat)(σ:St):St:=List.replicate n none++ix.map λi=>(σ[i]?).getD none
structure yd(X:Cx)(scope:Scope)(xs ys:List Str)(ix:List Nat):Prop where
 kind:scope.kind=.function
 hx:∀x∈xs,scope.names.lookup x=some .local
 y23f:∀p∈scope.names,p.2≠.cell
 names:∀p∈scope.names,p.2=.local->scope.names.lookup p.1=some .local
 fr:∀p∈scope.names,p.2=.free->X.env.kindOf p.1=some .cell∨X.env.kindOf p.1=some .free
 len:ys.length=ix.length
 here:∀(j:Nat) (y:Str) (i:Nat),ys[j]?=some y->ix[j]?=some i->scope.names.lookup y=some .free/\X.N[i]?=some y
 nd:(xs++ys).Nodup
noncomputable def yb2(osc:Scope)(N:List Str)(scope:Scope)(xs ys:List Str)(ix:List Nat):Bool :=
 decide (scope.kind=.function)&&xs.all (λx=>decide (scope.names.lookup x=some .local))&&scope.names.all (λp=>decide (p.2≠.cell)) &&
 scope.names.all (λp=>decide (p.2=.local->scope.names.lookup p.1=some .local)) &&
 scope.names.all (λp=>decide (p.2=.free->osc.names.lookup p.1=some .cell∨osc.names.lookup p.1=some .free)) &&
 decide (ys.length=ix.length)&&(ys.zip ix).all (λp=>decide (scope.names.lookup p.1=some .free/\N[p.2]?=some p.1))&&decide ((xs++ys).Nodup)
theorem jx  (hsc:X.env.scope=osc)(hN:X.N=N)(h:yb2 osc N scope xs ys ix=true):yd X scope xs ys ix:=by
 unfold yb2 at h
 simp only [z2a,z39,decide_eq_true_eq] at h
 obtain⟨⟨⟨⟨⟨⟨⟨h1,h2⟩,h3⟩,h4⟩,h5⟩,h6⟩,h7⟩,h8⟩:=h
 refine⟨h1,h2,h3,h4,λp hp hf=>?_,h6,λj y i e1 e2=>?_,h8⟩
 ·have:=h5 p hp hf
  unfold Env.kindOf
  rw [hsc]
  exact this
 ·rw [hN]
  refine h7 (y,i) ?_
  have:(ys.zip ix)[j]?=some (y,i):=by rw [List.getElem?_zip_eq_some];exact⟨e1,e2⟩
  exact z34 this
noncomputable def y41(n:Nat)(ix:List Nat)(σ σ':St):Prop:=σ'.length=n+ix.length/\∀(j:Nat) v,(dr n ix σ)[j]?=some (some v)->σ'[j]?=some (some v)
theorem sG(n:Nat)(ix:List Nat)(σ:St):(dr n ix σ).length=n+ix.length:=by
 unfold dr
 rw [z14,List.length_replicate,z19]
theorem Ag  (h:j<n)(v:V):(dr n ix σ)[j]?≠some (some v):=by
 unfold dr
 rw [z1c (by rw [List.length_replicate];exact h),List.getElem?_replicate,if_pos h]
 intro e
 have:(none:Option V)=some v:=z27 e
 cases this
theorem yb8  (O:yd X scope xs ys ix)
  (I:Inv X pins σ H s) (hf:∀b∈fp,gG X pins H b) (hfl:∀b∈fp,b<s.heap.objs.size) (m:Str->Option Value)
  (hns:h'.Ns s.heap.objs.size m) (hk:∀b o,s.heap.get? b=some o->h'.get? b=some o) :
  Inv (dH X scope (xs++ys) ⟨fp,s,H,s.heap.objs.size,pins⟩) [] (dr xs.length ix σ) H { s with heap:=h',toks:=t' }:=by
 have hC:H s.heap.objs.size=none:=I.hok.fresh (z12 _)
 have cl:∀y c,(nR scope.names X.env).lookup y=some c->X.env.cells.lookup y=some c:=λy c e=>by
  rcases (kX).mp (fT e) with z|⟨z,rfl⟩
  ·simp at z
  ·obtain⟨c',e'⟩:=I.ok.has y (O.fr _ z rfl)
   rw [e'];rfl
 have clh:∀y,(y,NameKind.free)∈scope.names->∃c,(nR scope.names X.env).lookup y=some c:=λy z=>sC ((kX).mpr (.inr ⟨z,rfl⟩))
 refine⟨⟨I.ok.mod,O.kind,I.ok.glob,I.ok.blt,z12 _,λy z c h1 h2=>I.ok.inj y z c (cl y c h1) (cl z c h2),λy hy=>?_,λy c h _=>?_,I.ok.hd,I.ok.frames,.inl rfl,
  λb hb=>⟨z26 (hfl b hb),λy c e=>(hf b hb).2.2.2.2.1 y c (cl y c e)⟩,I.bs,z25 I.ok.bsz I.sz,λb o e hb=>?_,λb hb hb2=>?_,I.stack,I.y3e5⟩,
  rfl,I.bare,Un.kept hk,⟨m,hns,λi y v e1 e2 vis=>?_⟩,λy c e=>?_,hC,λy c e=>I.y14f y c (cl y c e),λp hp=>?_,I.hok.kept hk,?_⟩
 ·rcases hy with h|h
  ·rcases kY h with q|⟨q,_⟩
   ·exact absurd rfl (O.y23f _ (fT q))
   ·exact clh y (fT q)
  ·rcases kY h with q|⟨q,e⟩
   ·exact clh y (fT q)
   ·cases e
 ·exact Bool.noConfusion (show false=true from h)
 ·rcases (hf b hb).2.2.2.1 with z|z
  ·exact I.ok.y241 b o e z
  ·exact absurd (z1b (z1b (z17 e) I.ok.bsz) z) (z32 _)
 ·exact (z1e.mp (I.y3e6 b hb2)).elim (λe=>(hf b hb).2.1 e) λz=>(hf b hb).2.2.1 z
 ·have hil:xs.length≤i:=Nat.le_of_not_lt λq=>Ag q v e2
  obtain⟨j,rfl⟩:=Nat.exists_eq_add_of_le hil
  have ey:ys[j]?=some y:=by
   have e1':(xs++ys)[xs.length+j]?=some y:=e1
   rw [z1f (Nat.le_add_right _ _),Nat.add_sub_cancel_left] at e1'
   exact e1'
  have e2':(ix.map λi=>(σ[i]?).getD none)[j]?=some (some v):=by
   have e2'':(dr xs.length ix σ)[xs.length+j]?=some (some v):=e2
   unfold dr at e2''
   rw [z1f (by rw [List.length_replicate];exact Nat.le_add_right _ _),List.length_replicate,Nat.add_sub_cancel_left] at e2''
   exact e2''
  rw [List.getElem?_map] at e2'
  cases hi:ix[j]? with
  | none=>rw [hi] at e2';cases e2'
  | some i =>
   rw [hi] at e2'
   have e3:(σ[i]?).getD none=some v:=z27 e2'
   obtain⟨y18b,hN⟩:=O.here j y i ey hi
   have ev:σ[i]?=some (some v):=by
    cases h:σ[i]? with
    | none=>rw [h] at e3;cases e3
    | some q=>rw [h] at e3;exact congrArg some e3
   obtain⟨m',_,hl⟩:=I.loc
   have hkx:=O.fr (y,.free) (fT y18b) rfl
   obtain⟨u,r,l⟩:=hl i y v hN ev (hkx.elim (λz=>.inr (.inl z)) λz=>.inr (.inr z))
   refine⟨u,r,.inr ⟨sD y18b,?_⟩⟩
   obtain⟨c,ec⟩:=clh y (fT y18b)
   rcases l with⟨k,_⟩| ⟨_,c',ec',z⟩
   ·rcases hkx with q|q
    ·rw [q] at k;cases k
    ·rw [q] at k;cases k
   ·have:c=c':=z27 ((cl y c ec).symm.trans ec')
    subst this
    exact⟨c,ec,z.keeps hk⟩
 ·obtain⟨v,z⟩:=I.cell y c (cl y c e)
  exact⟨v,z.keeps hk⟩
 ·have hp':p∈(X.pn++pins)++([]:List (Addr×Obj)):=hp
  rw [z18] at hp'
  obtain⟨e,n,ne,nf,d⟩:=I.pin p hp'
  exact⟨hk _ _ e,n,z26 (z17 e),λz=>(z1e.mp (I.y3e6 _ z)).elim ne nf,d⟩
 ·show (dr xs.length ix σ).length=(xs++ys).length
  rw [sG,z14,O.len]
noncomputable def ye(n:Nat)(ix:List Nat)(J:It)(g:yc->TG)(tt:yc->TT)(te:yc->TE)(σ:St)(Q:VK)(H1:Hp):Prop :=
 ∀D,H1 D=none->∃W:Nat->Nat->List V->Hp->Prop,(∃m,W 0 m [] (aD H1 D (.lst [])))/\∀i m ys H2,W i m ys H2->H2 D=some (.lst ys) /\
  ((J.stop i H2/\Q (.ref D) H2)∨(J.go i H2/\ys.length<sizeLine/\∃N:List V->Hp->Prop,(∀ys' H',N ys' H'->∃m',m'<m/\W (i+1) m' ys' H') /\
   ∀x H3,J.yld i H2 x H3->∀z,g z x (dr n ix σ) H3 λσ' H3'=>y41 n ix σ σ'/\tt z σ' H3' λb H4 =>
    if b=true then te z σ' H4 λy H5=>H5 D=some (.lst ys)/\N (ys++[y]) (aD H5 D (.lst (ys++[y]))) else N ys H4))
theorem yb6  (O:yd X scope xs ys ix)(hc:X.calm=true)  {g:yc->TG}{tt:yc->TT}{te:yc->TE}
  (hg:∀z,PG (dH X scope (xs++ys) z) tg (g z)) (hi:∀z,mO (dH X scope (xs++ys) z) ifs (tt z)) (he:∀z,PE (dH X scope (xs++ys) z) elt (te z))
  {σ:St} {H:Hp}   {tn:Nat->Heap->Prop} (I2:Inv X pins σ H s2) (T:Turn X.prog X.w X.K tg J fp it tn) (st:tn 0 s2.heap)
  (hf:∀b∈fp,gG X pins H b) {Q:VK} (hw:ye xs.length ix J g tt te σ Q H) {RR:Value->Addr->Result->Shared->Prop} {E:Value->Shared->Prop}
  (hRR:∀D C m' H' s',Inv X pins σ H' s'->s'.heap.Ns C m'->gG X pins H' C->Q (.ref D) H'->RR (.ref D) C (.ok .next) s') :
  wpAny (model X.prog X.w) X.A (newList []) (λacc s₃=>wpAny (model X.prog X.w) X.A (newFunctionEnv scope X.env.globals (nR scope.names X.env) [] X.env.qual none .none (some X.env)) (λcenv s₄ =>
   codeAny (model X.prog X.w) X.A (.compStart (.ListComp elt [⟨tg,iter,ifs,0⟩] scope pos) 0 (.ref it) acc { cenv with scope:=relabel scope X.env }) (RR acc cenv.locals) s₄) E s₃) E s2:=by
 refine z2f (wpAny_newFunctionEnv O.y23f (by intro y hy;simp at hy) (λh₁ hns₁ hsb₁=>?_) O.kind)
 dsimp only at hns₁ hsb₁ ⊢
 have hDn:H s2.heap.objs.size=none:=I2.hok.fresh (z12 _)
 obtain⟨W,⟨m0,w0⟩,turn⟩:=hw s2.heap.objs.size hDn
 have flt:∀b∈fp,b<s2.heap.objs.size:=λb hb=>by
  obtain⟨o,e,_⟩:=T.obj 0 _ st b hb
  exact z17 e
 obtain⟨s3,hs3⟩:∃s3:Shared,s3={ s2 with heap:=s2.heap.push { cls:=.type "list",data:=.seq ([]:List Value).toArray } }:=⟨_,rfl⟩
 have hh3:s3.heap=s2.heap.push { cls:=.type "list",data:=.seq ([]:List Value).toArray }:=by rw [hs3]
 have I3:Inv X pins σ (aD H s2.heap.objs.size (.lst [])) s3:=by
  rw [hs3]
  exact I2.laid (λb u e=>z13 _ e) (z12 _) (show dO X.prog X.w _ _ _ (.lst []) from ⟨Nat.zero_le _,[],0,.nil,z21 _ rfl⟩)
 have hns₂:h₁.Ns s3.heap.objs.size λx=>([]:List (Str×Value)).reverse.lookup x:=by rw [hh3];exact hns₁
 have hsb₂:Heap.SameBut s3.heap.objs.size (s3.heap.push { cls:=.type (if (some X.env).isSome then "dict" else "frame"),data:=.dict #[] }) h₁:=by rw [hh3];exact hsb₁
 have hf3:∀b∈fp,gG X pins (aD H s2.heap.objs.size (.lst [])) b:=λb hb=>⟨by rw [aI (z26 (flt b hb))];exact (hf b hb).1,(hf b hb).2⟩
 have hsz:s3.heap.objs.size=s2.heap.objs.size+1:=by rw [hh3,Heap.size_push]
 have flt3:∀b∈fp,b<s3.heap.objs.size:=λb hb=>by rw [hsz];exact Nat.lt_succ_of_lt (flt b hb)
 have hk:∀b o,s3.heap.get? b=some o->h₁.get? b=some o:=λb o e=>hsb₂.extBut b o (z26 (z17 e)) (z13 _ e)
 have hk2:∀b o,s2.heap.get? b=some o->h₁.get? b=some o:=λb o e=>hk b o (by rw [hh3];exact z13 _ e)
 have st1:tn 0 h₁:=T.keep _ _ _ st λb hb o e=>hk2 b o e
 let z:yc:=⟨fp,s3,aD H s2.heap.objs.size (.lst []),s3.heap.objs.size,pins⟩
 have cl:∀y c,(nR scope.names X.env).lookup y=some c->X.env.cells.lookup y=some c:=λy c e=>by
  rcases (kX).mp (fT e) with q|⟨q,rfl⟩
  ·simp at q
  ·obtain⟨c',e'⟩:=I2.ok.has y (O.fr _ q rfl)
   rw [e'];rfl
 have fpy:∀{H':Hp},(∀b∈fp,H' b=none)->∀b∈fp,gG (dH X scope (xs++ys) z) [] H' b:=λhn b hb=>by
  refine⟨hn b hb,z26 (flt3 b hb),λhb2=>?_,.inl hb,λy c e=>(hf b hb).2.2.2.2.1 y c (cl y c e),λp hp=>?_⟩
  ·exact (z1e.mp (I3.y3e6 b hb2)).elim (λe=>(hf b hb).2.1 e) λq=>(hf b hb).2.2.1 q
  ·have hp':p∈(X.pn++pins)++([]:List (Addr×Obj)):=hp
   rw [z18] at hp'
   exact (hf b hb).2.2.2.2.2 p hp'
 have back:∀{pl:List (Addr×Obj)} {σ':St} {H':Hp} {s':Shared},Inv (dH X scope (xs++ys) z) pl σ' H' s'->Inv X pins σ H' s'/\gG X pins H' s3.heap.objs.size:=λ{pl σ' H' s'} IY=>by
  have I':Inv X pins σ H' s':=I3.call' IY.os IY.base IY.hok IY.bare λb hb=>⟨(hf b hb).2.2.2.1,(hf b hb).2.1,(hf b hb).2.2.2.2.1,(hf b hb).2.2.2.2.2⟩
  exact⟨I',I3.y14e (z12 _) IY.free⟩
 have loop:∀t':Nat,codeAny (model X.prog X.w) X.A (.compLoop (.ListComp elt [⟨tg,iter,ifs,0⟩] scope pos) 0 (.ref it) (.ref s2.heap.objs.size) (dH X scope (xs++ys) z).env) (RR (.ref s2.heap.objs.size) s3.heap.objs.size) { s3 with heap:=h₁,toks:=t' }:=by
  intro t'
  have IY:=yb8 (t':=t') O I3 hf3 flt3 _ hns₂ hk
  refine yb1 (λn s'=>∃i vs H',Inv (dH X scope (xs++ys) z) [] (dr xs.length ix σ) H' s'/\tn i s'.heap/\(∀b∈fp,H' b=none)/\W i n vs H') ?_ m0 ⟨0,[],_,IY,st1,λb hb=>(hf3 b hb).1,w0⟩
  rintro n s5 ⟨i,vs,H5,I5,st5,fr5,w5⟩
  obtain⟨hD,stop|go⟩:=turn i n vs H5 w5
  ·refine aG (T.done (dH X scope (xs++ys) z) rfl rfl rfl hc i [] s5 _ H5 _ I5 (fpy fr5) st5 stop.1) λr s6 zz=>?_
   obtain⟨hr,I6⟩:=zz
   subst hr
   obtain⟨m6,n6,_⟩:=I6.loc
   exact hRR _ _ m6 H5 s6 (back I6).1 n6 (back I6).2 stop.2
  ·obtain⟨hgo,hl,N,hN,step⟩:=go
   refine aG (T.item (dH X scope (xs++ys) z) rfl rfl rfl hc i [] s5 _ H5 _ I5 (fpy fr5) st5 hgo) λr s6 zz=>?_
   obtain⟨u,hr,h6⟩:=zz
   subst hr
   refine aG h6 λ_ s7 zz=>?_
   obtain⟨xv,H7,I7,r7,y7,st7,fr7⟩:=zz
   have I7':=I7.pinned (fpy fr7) (T.obj _ _ st7)
   have q7:=step xv H7 y7 z
   refine aG (hg z _ s7 _ H7 xv u _ I7' r7 q7) λ_ s8 q8=>?_
   obtain⟨σ8,H8,I8,k8,q8⟩:=q8
   have wk:∀{H':Hp} {s':Shared},Inv (dH X scope (xs++ys) z) ([]++jt fp s7.heap) σ8 H' s'->Inv (dH X scope (xs++ys) z) [] (dr xs.length ix σ) H' s'/\tn (i+1) s'.heap/\∀b∈fp,H' b=none:=λ{H' s'} IW=>by
    refine⟨(IW.y42a).weak (by rw [sG];exact k8.1.symm) k8.2,T.keep _ _ _ st7 λb hb o e=>(IW.pin (b,o) (z22 _ (z22 _ (kD hb e)))).1,λb hb=>?_⟩
    obtain⟨o,e,d⟩:=T.obj _ _ st7 b hb
    exact (IW.pin (b,o) (z22 _ (z22 _ (kD hb e)))).2.1
   refine aG (hi z _ s8 _ H8 _ I8 q8) λok s9 zz=>?_
   obtain⟨H9,I9,q9⟩:=zz
   cases ok with
   | false =>
    rw [if_neg z16] at q9
    rw [if_neg z16]
    obtain⟨m',hm,w9⟩:=hN _ _ q9
    exact⟨m',hm,i+1,vs,H9,(wk I9).1,(wk I9).2.1,(wk I9).2.2,w9⟩
   | true =>
    rw [if_pos rfl] at q9
    rw [if_pos rfl]
    refine aG (he z _ s9 _ H9 _ I9 q9) λyv s10 zz=>?_
    obtain⟨y,H10,I10,r10,hD10,n10⟩:=zz
    obtain⟨m',hm,w10⟩:=hN _ _ n10
    have ap:=su _ s10 _ H10 (.ref s2.heap.objs.size) [y] (.ref s2.heap.objs.size) [yv] (λv H'=>H'=aD H10 s2.heap.objs.size (.lst (vs++[y]))) I10 rfl (.cons r10 .nil) ⟨s2.heap.objs.size,vs,y,rfl,rfl,hD10,hl,rfl⟩
    refine aG ap λ_ s11 zz=>?_
    obtain⟨_,H11,I11,_,e11⟩:=zz
    subst e11
    exact⟨m',hm,i+1,vs++[y],_,(wk I11).1,(wk I11).2.1,(wk I11).2.2,w10⟩
 subst hs3
 exact codeAny_compStart_list (loop _) (T.self X.A 0 _ _ _ st1 (loop _))
noncomputable def nU(n:Nat)(ix:List Nat)(wi:TI)(g:yc->TG)(tt:yc->TT)(te:yc->TE):TE:=λσ H Q=>wi σ H λJ H1=>ye n ix J g tt te σ Q H1
section
variable {X:Cx}{scope:Scope}{xs ys:List Str}{ix:List Nat}{elt iter tg:Expr}{ifs:List Expr}{pos:Pos}{wi:TI}{g:yc->TG}{tt:yc->TT}{te:yc->TE}
theorem Ah(O:yd X scope xs ys ix)(hc:X.calm=true)(hit:PI X tg iter wi)(hg:∀z,PG (dH X scope (xs++ys) z) tg (g z))
  (hi:∀z,mO (dH X scope (xs++ys) z) ifs (tt z)) (he:∀z,PE (dH X scope (xs++ys) z) elt (te z)) (hs:∀v,foldedSetIterable iter X.env v=pure v:=by intro _;rfl) :
  PE X (.ListComp elt [⟨tg,iter,ifs,0⟩] scope pos) (nU xs.length ix wi g tt te):=by
 intro pins s σ H Q I h
 rw [eval_ListComp]
 refine wpAny_comprehension_free rfl hs (yac λp hp hf=>I.ok.has p.1 (O.fr p hp hf)) O.kind O.names (aG (hit pins s σ H _ I h) λv s1 h1=>aG h1 λitv s2 h2=>?_)
 obtain⟨it,fp,tn,J,H2,e,I2,T,st2,f2,hw⟩:=h2
 subst e
 refine yb6 O hc hg hi he I2 T st2 f2 hw ?_
 intro D C m' H' s' I' n' fC q
 exact⟨m',n',λh' hs'=>⟨.ref D,H',yba I' fC hs',rfl,q⟩⟩
theorem kZ  (O:yd X scope xs ys ix)(hi:xs[i]?=some x):PG (dH X scope (xs++ys) z) (.Name x p) (iz i):=by
 have hm:x∈xs:=z34 hi
 have hl:i<xs.length:=(zd.mp hi).1
 exact ny O.nd (by show (xs++ys)[i]?=some x;rw [z1c hl];exact hi) (.inl (lookup_relabel_local (O.hx x hm))) (.inr (lookup_relabel_local (O.hx x hm)))
end
end
end L2
namespace HT
open PySem PySem.Spec PyProof.Rows
section
variable {prog:Program}{w:World}{A:Around}{E:Value->Shared->Prop}{s:Shared}
theorem y5c(n:Nat):Builtin.Slice.sliceAdjust none none (-1) (n:Int)=((n:Int)-1,-1):=rfl
theorem Ai(n:Nat):Builtin.Slice.slicePlaces ((n:Int)-1) (-1) (-1)=n:=by
 unfold Builtin.Slice.slicePlaces
 rw [if_neg (by decide)]
 by_cases h:n=0
 ·subst h;decide
 ·rw [if_pos (by lia)]
  have:((n:Int)-1 - -1-1) / (- -1)=(n:Int)-1:=by
   have e:(- -1:Int)=1:=by decide
   rw [e,Int.ediv_one];lia
  rw [this];lia
theorem Aj{sl:Addr}{n:Nat}{t:Tok}{Q:Int×Int×Nat->Shared->Prop}(hs:s.heap.IsSliceOf sl .none .none (.int (-1) t))
  (h:Q ((n:Int)-1,-1,n) s):wpAny (model prog w) A (Builtin.Slice.sliceApplied (.ref sl) (pure (n:Int))) Q E s:=by
 obtain⟨os,hos,hcs,hds⟩:=id hs
 unfold Builtin.Slice.sliceApplied Builtin.Slice.sliceFields
 refine zc (zc (wpAny_field hos hds rfl (zc (wpAny_field hos hds rfl (zc (wpAny_field hos hds rfl (z15 ?_)))))))
 refine zc (slicePart_int ?_)
 show wpAny _ _ (if ((-1:Int) == 0)=true then _ else _) _ _ s
 rw [if_neg (by decide)]
 refine zc (slicePart_none (zc (slicePart_none (zc (z15 ?_)))))
 show wpAny _ _ (match Builtin.Slice.sliceAdjust none none (-1) (n:Int) with|(lo,hi)=>pure (lo,(-1:Int),Builtin.Slice.slicePlaces lo hi (-1))) _ _ s
 rw [y5c n]
 show wpAny _ _ (pure ((n:Int)-1,(-1:Int),Builtin.Slice.slicePlaces ((n:Int)-1) (-1) (-1))) _ _ s
 rw [Ai]
 exact z15 h
theorem sH{α β:Type}{f g:α->Option β}:∀{l:List α},(∀a∈l,f a=g a)->l.filterMap f=l.filterMap g
 | [],_=>rfl
 | a::r,h=>by
  rw [List.filterMap_cons,List.filterMap_cons,h a List.mem_cons_self,sH λb hb=>h b (z28 _ hb)]
theorem nV(xs:Array Value):((List.range xs.size).filterMap λ(m:Nat)=>xs[((xs.size:Int)-1+(m:Int) * -1).toNat]?).toArray=xs.toList.reverse.toArray:=by
 congr 1
 have e:∀m∈List.range xs.size,xs[((xs.size:Int)-1+(m:Int) * -1).toNat]?=xs.toList.reverse[m]?:=by
  intro m hm
  have hm':=List.mem_range.mp hm
  have:((xs.size:Int)-1+(m:Int) * -1).toNat=xs.size-1-m:=by lia
  rw [this,List.getElem?_reverse (by rw [Array.length_toList];exact hm'),Array.length_toList,Array.getElem?_toList]
 rw [sH e]
 have hl:xs.size=xs.toList.reverse.length:=by rw [z2d,Array.length_toList]
 rw [hl]
 generalize xs.toList.reverse=zs
 induction zs with
 | nil=>rfl
 | cons z r ih =>
  rw [z29,List.range_succ_eq_map,List.filterMap_cons]
  show z::_=_
  rw [List.filterMap_map]
  show z::List.filterMap (λm=>(z::r)[m+1]?) (List.range r.length)=_
  have:(λm=>(z::r)[m+1]?)=λm=>r[m]?:=by funext m;rfl
  rw [this,ih]
theorem y161  (ht:IsTup s.heap t items)(hs:s.heap.IsSliceOf sl .none .none (.int (-1) tk))
  (h:Q (.ref s.heap.objs.size) { s with heap:=s.heap.push { cls:=.type "tuple",data:=.seq items.toList.reverse.toArray } })
  (hsz:items.size≤sizeLine):wpAny (model prog w) A (getItem (.ref t) (.ref sl)) Q E s:=by
 have y194:sizeOk (.seq items.toList.reverse.toArray):=by
  show items.toList.reverse.toArray.size≤sizeLine
  rw [ze,z2d,Array.length_toList]
  exact hsz
 obtain⟨os,hos,hcs,hds⟩:=id hs
 have hTs:s.TypeIs (.ref sl) "slice":=⟨os,hos,hcs⟩
 unfold getItem
 try with_reducible refine wpAny_holding ?_
 first|refine zc (z15 ?_)|skip
 refine zc (wpAny_sequenceKey ht.typeIs (by decide) ?_)
 refine zc (wpAny_callSpecial?_slot ht.typeIs PyProof.Rows.slot_tuple_getitem
  (wpAny_call_entry PyProof.Rows.slot_tuple_getitem ht.typeIs entry_tuple_getitem ?_ (args_tuple_getitem _ _)))
 show wpAny _ _ (Builtin.Tuple.tupleItemsOf (.ref t) >>= _) _ _ s
 refine zc (tupleItemsOf_ ht ?_)
 refine zc (wpAny_typeOf hTs ?_)
 rw [if_pos (by decide)]
 refine zc (Aj hs ?_)
 have hno:¬ ((((items.size:Int)-1) == 0&&(-1:Int) == 1&&items.size == items.size)=true):=by
  intro q
  rw [z2a,z2a] at q
  exact absurd q.1.2 (by decide)
 show wpAny _ _ (if (((items.size:Int)-1) == 0&&(-1:Int) == 1&&items.size == items.size)=true then _ else _) _ _ s
 rw [if_neg hno,nV]
 first
  | exact zc (z2f (z15 ⟨_,rfl,z15 h⟩) y194)
  | exact zc (z2f (zc (z15 (z15 ⟨_,rfl,z15 h⟩))) y194)
  | exact zc (zc (z2f (z15 (z15 ⟨_,rfl,z15 h⟩)) y194))
  | exact zc (zc (z2f (z15 ⟨_,rfl,z15 h⟩) y194))
end
end HT
namespace L2
open PySem PySem.Spec PyProof.Rows
section
section
variable {X:Cx}{e st:Expr}{te:TE}{p2 pos:Pos}
noncomputable def sI(K:W.Frag)(te:TE):TE:=λσ H Q=>te σ H λx H1=>∃a xs,x=.ref a/\a7 K H1 a xs/\∀p,H1 p=none->Q (.ref p) (aD H1 p (.tup xs.reverse))
theorem Ak{ts:TE}(he:PE X e te)(hst:PE X st ts)(hv:∀σ H Q,Q (.int (-1)) H->ts σ H Q):PE X (.Subscript e (.Slice none none (some st) p2) pos) (sI X.K te):=by
 intro pins s σ H Q I h
 refine Subscript_ (aG (he pins s σ H _ I h) λv s1 zz=>?_)
 obtain⟨x,H1,I1,r1,q1⟩:=zz
 obtain⟨a,xs,rfl,hq,q⟩:=q1
 cases r1
 refine wpAny_Slice ?_
 rw [evalPart_none]
 refine z15 (z15 ?_)
 rw [evalPart_some]
 refine aG (hst pins s1 σ H1 (λv H'=>v=.int (-1)/\H'=H1) I1 (hv _ _ _ ⟨rfl,rfl⟩)) λvs s2 zz=>?_
 obtain⟨y,H2,I2,r2,e2,e3⟩:=zz
 subst e2 e3
 obtain⟨tk,rfl⟩:=r2
 have I4:Inv X pins σ _ { s2 with heap:=s2.heap.push { cls:=.type "slice",data:=.fields #[.none,.none,.int (-1) tk] } }:=I2.kept λb ob q=>z13 _ q
 obtain⟨its,r,ht,hz⟩:=I4.tuple hq
 have hlen:its.toArray.size=xs.length:=by rw [ze];exact r.length.symm
 show wpAny (model X.prog X.w) X.A (subscriptTail e (.Slice none none (some st) p2) (.ref a) (.ref s2.heap.objs.size)) (EP X pins σ Q) X.xe { s2 with heap:=s2.heap.push { cls:=.type "slice",data:=.fields #[.none,.none,.int (-1) tk] } }
 refine tail_any ht.typeIs PyProof.Rows.slot_tuple_getitem.lookup ?_ (by with_unfolding_all rfl)
 refine HT.y161 ht (Heap.IsSliceOf.new ..) ?_ (by rw [hlen];exact hz)
 refine⟨.ref _,_,I4.laid (λb ob q=>z13 _ q) (z12 _) ?_,rfl,q _ (I4.hok.fresh (z12 _))⟩
 exact⟨by rw [z2d];exact hz,_,r.reverse,fS.mk' _ _⟩
end
end
end L2
namespace My
inductive F2{α β:Type}(R:α->β->Prop):List α->List β->Prop
 | nil:F2 R [] []
 | cons {a:α} {b:β} {as:List α} {bs:List β}:R a b->F2 R as bs->F2 R (a::as) (b::bs)
end My
namespace HT
open PySem PySem.Spec PyProof.Rows
section
theorem y162{t sl:Addr}{items:Array Value}{vl vu:Value}{lo hi:Option Int}{Q:Value->Shared->Prop}(ht:IsTup s.heap t items)(hs:s.heap.IsSliceOf sl vl vu .none)(pl:IsPart vl lo)(pu:IsPart vu hi)
  (hw:sIx items.size 0 lo=0/\sIx items.size items.size hi=items.size) (h:Q (.ref t) s):wpAny (model prog w) A (getItem (.ref t) (.ref sl)) Q E s:=by
 obtain⟨os,hos,hcs,hds⟩:=id hs
 have hTs:s.TypeIs (.ref sl) "slice":=⟨os,hos,hcs⟩
 unfold getItem
 try with_reducible refine wpAny_holding ?_
 first|refine zc (z15 ?_)|skip
 refine zc (wpAny_sequenceKey ht.typeIs (by decide) ?_)
 refine zc (wpAny_callSpecial?_slot ht.typeIs PyProof.Rows.slot_tuple_getitem
  (wpAny_call_entry PyProof.Rows.slot_tuple_getitem ht.typeIs entry_tuple_getitem ?_ (args_tuple_getitem _ _)))
 show wpAny _ _ (Builtin.Tuple.tupleItemsOf (.ref t) >>= _) _ _ s
 refine zc (tupleItemsOf_ ht ?_)
 refine zc (wpAny_typeOf hTs ?_)
 rw [if_pos (by decide)]
 refine zc (rL hs pl pu ?_)
 have hyes:(((sIx items.size 0 lo:Nat):Int) == 0&&(1:Int) == 1&&(sIx items.size items.size hi-sIx items.size 0 lo) == items.size)=true:=by
  rw [hw.1,hw.2];simp
 show wpAny _ _ (if (((sIx items.size 0 lo:Nat):Int) == 0&&(1:Int) == 1&&(sIx items.size items.size hi-sIx items.size 0 lo) == items.size)=true then _ else _) _ _ s
 rw [if_pos hyes]
 unfold Builtin.Tuple.tupleIsExact
 refine zc (zc (wpAny_typeOf ht.typeIs (z15 ?_)))
 rw [if_pos (by decide)]
 refine zc (wpAny_rule ?_)
 exact z15 ⟨_,rfl,z15 h⟩
end
end HT
namespace L2
open PySem PySem.Spec PyProof.Rows
section
section
noncomputable def sJ:V->Option Int->Option Int->Hp->VK->Prop:=λx lo hi H Q=>∃a xs,x=.ref a/\H a=some (.tup xs)/\∀(b:Addr) (H':Hp),H' b=some (.tup (ju xs lo hi))->(∀c o,H c=some o->H' c=some o)->Q (.ref b) H'
theorem Al:kN X sJ:=by
 intro pins s σ H x v vl vu lo hi sl Q I rx hs pl pu h
 obtain⟨a,xs,rfl,hx,q⟩:=h
 by_cases hw:HT.sIx xs.length 0 lo=0/\HT.sIx xs.length xs.length hi=xs.length
 ·cases rx
  obtain⟨its,r,ht,hz⟩:=I.tuple (a7.of hx)
  have hlen:its.toArray.size=xs.length:=by rw [ze];exact r.length.symm
  refine⟨"tuple",_,PyProof.Rows.slot_tuple_getitem.lookup,ht.typeIs,?_⟩
  refine HT.y162 ht hs pl pu (by rw [hlen];exact hw) ⟨.ref a,H,I,rfl,q a H ?_ λ_ _ e=>e⟩
  have e:ju xs lo hi=xs:=by
   unfold ju
   rw [hw.1,hw.2];simp
  rw [e];exact hx
 ·exact zu pins s σ H (.ref a) v vl vu lo hi sl Q I rx hs pl pu ⟨a,xs,rfl,a7.of hx,hw,λp hp=>q p _ bh λc o e=>by rw [aI (dN e hp)];exact e⟩
end
end
section
section
theorem Inv.y424{fp:List Addr}{T:Addr}{o:HO}{t':Nat}(I:Inv X pins σ H s)(hf:∀b∈fp,gG X pins H b)(k:∀b u,b∉fp->s.heap.get? b=some u->h'.get? b=some u)(hT:s.heap.objs.size≤T)
  (new:dO X.prog X.w (aD H T o) h' T o):Inv X pins σ (aD H T o) { s with heap:=h',toks:=t' }:=by
 have hn:H T=none:=I.hok.fresh hT
 have neT:∀b u,s.heap.get? b=some u->b≠T:=λb u e z=>z32 _ (z1b (z17 e) (by rw [z];exact hT))
 have nfp:∀b u,H b=some u->b∉fp:=λb u e z=>by
  have q:=(hf b z).1
  rw [q] at e;cases e
 have hL:X.env.locals∉fp:=λz=>(hf _ z).2.1 rfl
 refine I.step (λb hb=>?_) (λb u _ _ hc e _=>k b u hc e) (λb u _ _ hc e _=>⟨u.slots,k b u hc e⟩) (λb u hc e n=>?_)
  (λb u hc e=>⟨u,k b u hc e⟩) (λb xs e=>?_) (λb u v e=>?_) (λb ps e=>⟨#[],?_⟩) (λm hm=>?_) (λb u e=>?_) I.bare
 ·obtain⟨_,f1,_,f3,f4,f5⟩:=hf b hb
  exact⟨f3,f1,f4,f5⟩
 ·rw [aI (neT b u e)];exact n
 ·rw [aI (dN e hn)];exact e
 ·rw [aI (dN e hn)];exact e
 ·rw [aI (dN e hn),e];simp
 ·obtain⟨u,es,ep,ho,r⟩:=hm
  exact⟨u,es,ep,k _ u hL ho,r⟩
 ·by_cases hb:b=T
  ·subst hb;rw [bh] at e;cases e;exact new
  ·rw [aI hb] at e
   refine (I.hok b u e).y3e4 (λc v hc q=>k c v ?_ q) (λc q=>by rw [aI (dN q hn)];exact q) λc xs q=>by rw [aI (dN q hn)];exact q
   rcases hc with z|z
   ·rw [z];exact nfp b u e
   ·exact nfp c _ z
theorem Inv.y425{fp:List Addr}{t':Nat}(I:Inv X pins σ H s)(hf:∀b∈fp,gG X pins H b)(k:∀b u,b∉fp->s.heap.get? b=some u->h'.get? b=some u):Inv X pins σ H { s with heap:=h',toks:=t' }:=by
 have nfp:∀b u,H b=some u->b∉fp:=λb u e z=>by
  have q:=(hf b z).1
  rw [q] at e;cases e
 have hL:X.env.locals∉fp:=λz=>(hf _ z).2.1 rfl
 refine I.step (λb hb=>?_) (λb u _ _ hc e _=>k b u hc e) (λb u _ _ hc e _=>⟨u.slots,k b u hc e⟩) (λb u hc e n=>n)
  (λb u hc e=>⟨u,k b u hc e⟩) (λb xs e=>e) (λb u v e=>e) (λb ps e=>⟨#[],by rw [e];simp⟩) (λm hm=>?_) (λb u e=>?_) I.bare
 ·obtain⟨_,f1,_,f3,f4,f5⟩:=hf b hb
  exact⟨f3,f1,f4,f5⟩
 ·obtain⟨u,es,ep,ho,r⟩:=hm
  exact⟨u,es,ep,k _ u hL ho,r⟩
 ·refine (I.hok b u e).y3e4 (λc v hc q=>k c v ?_ q) (λ_ q=>q) λ_ _ q=>q
  rcases hc with z|z
  ·rw [z];exact nfp b u e
  ·exact nfp c _ z
end
theorem Am{n l1 l2:Nat}(h1:l1<n)(h2:l2<n):ZipApart (n+4) (n+2) (n+3) n (n+1) l1 l2:=by
 constructor<;>(show ¬ ((_:Nat)=_);lia)
noncomputable def wH(K:W.Frag)(l1 l2:Addr):It:=⟨λi H=>∃xs ys x y,aZ K H l1 xs/\aZ K H l2 ys/\xs[i]?=some x/\ys[i]?=some y,
 λi H v H'=>∃T,v=.ref T/\H T=none/\∀xs ys x y,aZ K H l1 xs->aZ K H l2 ys->xs[i]?=some x->ys[i]?=some y->H'=aD H T (.tup [x,y]),
 λi H=>∃xs ys,aZ K H l1 xs/\aZ K H l2 ys/\min xs.length ys.length=i⟩
noncomputable def y52(z TI TO i1 i2 l1 l2:Addr)(i:Nat)(h:Heap):Prop:=IsZip h z TI TO .none/\IsPair h TI (.ref i1) (.ref i2)/\(∃a b,IsPair h TO a b)/\h.IsListIter i1 l1 i/\h.IsListIter i2 l2 i
theorem An{prog:Program}{w:World}{A:Around}{E:Value->Shared->Prop}{s:Shared}{z TI TO i1 i2 l1 l2:Addr}(D:ZipApart z TI TO i1 i2 l1 l2){us vs:Array Value}{i:Nat}{u v:Value}{Q:Option Value->Shared->Prop}
  (st:y52 z TI TO i1 i2 l1 l2 i s.heap) (p1:s.heap.IsList l1 us) (p2:s.heap.IsList l2 vs) (eu:us[i]?=some u) (ev:vs[i]?=some v)
  (k:∀T h',s.heap.objs.size≤T->fS h' T #[u,v] ->
   (IsZip h' z TI TO (rawInt T)/\IsPair h' TI (.ref i1) (.ref i2)/\(∃a b,IsPair h' TO a b)/\h'.IsListIter i1 l1 (i+1)/\h'.IsListIter i2 l2 (i+1)/\h'.IsList l1 us/\h'.IsList l2 vs/\T≠z/\T≠TO/\T≠i1/\T≠i2) ->
   (∀b o,b∉[z,TO,i1,i2]->s.heap.get? b=some o->h'.get? b=some o)->Q (some (.ref T)) { s with heap:=h' }):wpAny (model prog w) A (pyNext (.ref z)) Q E s:=by
 obtain⟨q1,q2,⟨a,b,q3⟩,q4,q5⟩:=st
 have lt:∀{c o},s.heap.get? c=some o->s.heap.objs.size≠c:=λe=>Nat.ne_of_gt (z17 e)
 refine wpAny_pyNext_zip_item D q1 q2 q3 q4 q5 p1 p2 eu ev λh2 a1 a2 a3 a4 a5 a6 hk=>?_
 refine k s.heap.objs.size h2 (z12 _) ⟨_,a5,rfl,rfl,_,rfl⟩ ⟨a1,hk _ _ D.TIz D.TITO D.TIi1 D.TIi2 q2,⟨_,_,a2⟩,a3,a4,p1.at λo e=>hk _ o D.l1z D.l1TO D.l1i1 D.l1i2 e,p2.at λo e=>hk _ o D.l2z D.l2TO D.l2i1 D.l2i2 e,lt q1,lt q3,?_,?_⟩ λc o hc e=>?_
 ·obtain⟨_,e,_⟩:=q4;exact lt e
 ·obtain⟨_,e,_⟩:=q5;exact lt e
 ·exact hk c o (λx=>hc (by simp [x])) (λx=>hc (by simp [x])) (λx=>hc (by simp [x])) (λx=>hc (by simp [x])) e
theorem Ao{P:Program}{w:World}{K:W.Frag}{elts:List Expr}{k0:Nat}{p0:Pos}{z TI TO i1 i2 l1 l2:Addr}(D:ZipApart z TI TO i1 i2 l1 l2) :
  Turn P w K (.Tuple elts k0 p0) (wH K l1 l2) [z,TI,TO,i1,i2] z (y52 z TI TO i1 i2 l1 l2) where
 mem:=by simp
 obj:=λi h st b hb=>by
  obtain⟨h1,h2,⟨a,c,h3⟩,⟨o4,h4,c4,d4⟩,⟨o5,h5,c5,d5⟩⟩:=st
  simp only [z1e,List.not_mem_nil,or_false] at hb
  rcases hb with rfl|rfl|rfl|rfl|rfl
  ·exact⟨_,h1,λv q=>by cases q⟩
  ·exact⟨_,h2,λv q=>by cases q⟩
  ·exact⟨_,h3,λv q=>by cases q⟩
  ·exact⟨_,h4,λv q=>by rw [d4] at q;cases q⟩
  ·exact⟨_,h5,λv q=>by rw [d5] at q;cases q⟩
 keep:=λi h h' st k=>by
  obtain⟨h1,h2,⟨a,c,h3⟩,h4,h5⟩:=st
  exact⟨k z (by simp) _ h1,k TI (by simp) _ h2,⟨a,c,k TO (by simp) _ h3⟩,h4.at λo e=>k i1 (by simp) o e,h5.at λo e=>k i2 (by simp) o e⟩
 item:=by
  intro X hP hw hK hc i pins s σ H E I hf st hg
  subst hP hw hK
  obtain⟨xs,ys,x,y,hx,hy,ex,ey⟩:=hg
  obtain⟨us,r1,p1,z1⟩:=I.list hx
  obtain⟨vs,r2,p2,z2⟩:=I.list hy
  obtain⟨u,eu,ru⟩:=r1.get ex
  obtain⟨v,ev,rv⟩:=r2.get ey
  obtain⟨h1,h2,h3,h4,h5⟩:=st
  have W:=WalksT.zip2 (prog:=X.prog) (w:=X.w) (I.ok.hd hc) z TI TO i1 i2 l1 l2 D us.toArray vs.toArray
  have hiu:i<us.length:=(zd.mp eu).1
  have hiv:i<vs.length:=(zd.mp ev).1
  have wrf:∀b,b∉([z,TI,TO,i1,i2]:List Addr)->b∉([z,TO,i1,i2]:List Addr):=λb hb q=>hb (by simp at q ⊢;rcases q with q|q|q|q<;>simp [q])
  refine An D ⟨h1,h2,h3,h4,h5⟩ p1.isList p2.isList (by simpa using eu) (by simpa using ev) λT h' hsz hT hM hk=>⟨.ref T,rfl,?_⟩
  refine W.go elts k0 p0 i T { s with heap:=h' } _ _ hM λh'' st'' hk'=>?_
  obtain⟨g1,g2,g3,g4,g5,g6,g7⟩:=st''
  have nT:=W.apart i T _ hM
  have hT2:fS h'' T #[u,v]:=hT.keep λo e=>hk' T o nT e
  refine⟨.ref T,aD H T (.tup [x,y]),?_,rfl,⟨T,rfl,I.hok.fresh hsz,λxs' ys' x'' y'' q1 q2 q3 q4=>?_⟩,⟨g1,g2,g3,g4,g5⟩,λb hb=>?_⟩
  ·refine I.y424 hf (λb o hb e=>hk' b o (wrf b hb) (hk b o (wrf b hb) e)) hsz ?_
   exact⟨by show 2≤sizeLine;decide,[u,v],.cons ru (.cons rv .nil),hT2⟩
  ·rw [I.y1f2 q1 hx] at q3
   rw [I.y1f2 q2 hy] at q4
   rw [ex] at q3;rw [ey] at q4
   cases q3;cases q4;rfl
  ·have q:=(hf b hb).1
   have nb:b≠T:=by
    intro e
    obtain⟨o,eo,_⟩:∃o,s.heap.get? b=some o/\True:=by
     simp only [z1e,List.not_mem_nil,or_false] at hb
     obtain⟨a,c,h3⟩:=h3
     obtain⟨o4,h4,_⟩:=h4
     obtain⟨o5,h5,_⟩:=h5
     rcases hb with rfl|rfl|rfl|rfl|rfl
     ·exact⟨_,h1,trivial⟩
     ·exact⟨_,h2,trivial⟩
     ·exact⟨_,h3,trivial⟩
     ·exact⟨_,h4,trivial⟩
     ·exact⟨_,h5,trivial⟩
    exact z32 _ (z1b (z17 eo) (by rw [e];exact hsz))
   rw [aI nb];exact q
 done:=by
  intro X hP hw hK hc i pins s σ H E I hf st hg
  subst hP hw hK
  obtain⟨xs,ys,hx,hy,hi⟩:=hg
  obtain⟨us,r1,p1,z1⟩:=I.list hx
  obtain⟨vs,r2,p2,z2⟩:=I.list hy
  obtain⟨h1,h2,h3,h4,h5⟩:=st
  have W:=WalksT.zip2 (prog:=X.prog) (w:=X.w) (I.ok.hd hc) z TI TO i1 i2 l1 l2 D us.toArray vs.toArray
  have l1':=r1.length
  have l2':=r2.length
  have e:i=min us.toArray.size vs.toArray.size:=by rw [ze,ze];lia
  subst e
  have wrf:∀b,b∉([z,TI,TO,i1,i2]:List Addr)->b∉([z,TO,i1,i2]:List Addr):=λb hb q=>hb (by simp at q ⊢;rcases q with q|q|q|q<;>simp [q])
  exact W.done s _ _ ⟨h1,h2,h3,h4,h5,p1.isList,p2.isList⟩ λh' tk hk=>⟨rfl,I.y425 hf λb o hb e=>hk b o (wrf b hb) e⟩
 self:=λA i s Q E st h=>wpAny_pyIter_zip st.1 h
section
noncomputable def Ap(K:W.Frag)(ta:TA):TI:=λσ H R=>ta σ H λvs H1=>∃l1 l2 xs ys,vs=[.ref l1,.ref l2]/\aZ K H1 l1 xs/\aZ K H1 l2 ys/\R (wH K l1 l2) H1
theorem Aq{elts:List Expr}{k0:Nat}{p0:Pos}{a b:Expr}{ta:TA}{p pos:Pos}(hg:Gl X "zip")(hm:X.mg "zip" = none)(ha:PA X [a,b] ta)
  (hs:starEach [a,b] X.env=[(false,eval a X.env),(false,eval b X.env)]:=by rfl) (hs2:starEach [b] X.env=[(false,eval b X.env)]:=by rfl) :
  PI X (.Tuple elts k0 p0) (.Call (.Name "zip" p) [a,b] [] pos) (Ap X.K ta):=by
 intro pins s σ H R I h
 refine Call_ (eN I hg hm PyProof.Rows.boot_zip (PyProof.Rows.callWith_type1 (aG (ha pos pins s σ H _ I h) λus s1 ⟨vs,H1,I1,r1,q1⟩=>?_) (by rw [hs,hs2]) (by rw [hs2];rfl)))
 obtain⟨l1,l2,xs,ys,e,hx,hy,q⟩:=q1
 subst e
 cases r1 with
 | cons r rr =>
  cases rr with
  | cons r' rr =>
   cases rr
   cases r
   cases r'
   obtain⟨as,ra,pa,za⟩:=I1.list hx
   obtain⟨bs,rb,pb,zb⟩:=I1.list hy
   refine call_zip_2 pa.isList pb.isList λh' z1 z2 z3 z4 z5 zs zk=>?_
   have la:l1<s1.heap.objs.size:=by obtain⟨_,e,_⟩:=pa.isList;exact z17 e
   have lb:l2<s1.heap.objs.size:=by obtain⟨_,e,_⟩:=pb.isList;exact z17 e
   have I2:Inv X pins σ H1 { s1 with heap:=h' }:=I1.kept zk
   refine wpAny_pyIter_zip z1 ?_
   refine⟨_,[s1.heap.objs.size+4,s1.heap.objs.size+2,s1.heap.objs.size+3,s1.heap.objs.size,s1.heap.objs.size+1],_,_,H1,rfl,I2,
    Ao (Am la lb),⟨z1,z2,⟨_,_,z3⟩,z4,z5⟩,λb hb=>?_,q⟩
   have hb':s1.heap.objs.size≤b:=by
    simp only [z1e,List.not_mem_nil,or_false] at hb
    rcases hb with e|e|e|e|e<;>(rw [e];first|exact Nat.le_add_right _ _|exact z12 _)
   exact I1.y14e hb' (I1.hok.fresh hb')
end
end
section
noncomputable def eP(xs:List V)(lo hi st:Option Int):List V:=(sliceRange (sliceBounds lo hi st xs.length).1 (sliceBounds lo hi st xs.length).2.1 (sliceBounds lo hi st xs.length).2.2).filterMap (xs[·]?)
theorem ao.y244{xs:List V}{us:List Value}(h:ao xs us){j:Nat}(e:xs[j]?=none):us[j]?=none:=by
 rw [List.getElem?_eq_none_iff] at e ⊢
 rw [<- h.length];exact e
theorem ao.some_of{xs:List V}{us:List Value}(h:ao xs us):∀js:List Nat,ao (js.filterMap (xs[·]?)) (js.filterMap (us[·]?)):=by
 intro js
 induction js with
 | nil=>exact .nil
 | cons j js ih =>
  cases e:xs[j]? with
  | none=>simp only [List.filterMap_cons,e,h.y244 e];exact ih
  | some x =>
   obtain⟨u,eu,r⟩:=h.get e
   simp only [List.filterMap_cons,e,eu]
   exact .cons r ih
section
variable {X:Cx}{e st:Expr}{te ts:TE}{lo hi:Option Expr}{tl th:TO}{p2 pos:Pos}
noncomputable def nW(K:W.Frag)(te:TE)(tl th tk:TO):TE:=λσ H Q=>te σ H λx H1=>tl σ H1 λl H2=>th σ H2 λu H3=>tk σ H3 λc H4 =>
 ∃a xs,x=.ref a/\aZ K H4 a xs/\c≠some 0/\∀p,H4 p=none->Q (.ref p) (aD H4 p (.lst (eP xs l u c)))
theorem sL(he:PE X e te)(hl:PO X lo tl)(hu:PO X hi th)(hst:PE X st ts):PE X (.Subscript e (.Slice lo hi (some st) p2) pos) (nW X.K te tl th (nO ts)):=by
 intro pins s σ H Q I h
 refine Subscript_ (aG (he pins s σ H _ I h) λv s1 zz=>?_)
 obtain⟨x,H1,I1,r1,q1⟩:=zz
 refine wpAny_Slice (aG (hl pins s1 σ H1 _ I1 q1) λvl s2 ⟨l,H2,I2,pl,q2⟩=>aG (hu pins s2 σ H2 _ I2 q2) λvu s3 ⟨u,H3,I3,pu,q3⟩=>aG (rN hst pins s3 σ H3 _ I3 q3) λvs s4 zz=>?_)
 obtain⟨c,H4,I4,ps,q4⟩:=zz
 obtain⟨a,xs,rfl,hq,hc0,q⟩:=q4
 cases r1
 have I5:Inv X pins σ H4 { s4 with heap:=s4.heap.push { cls:=.type "slice",data:=.fields #[vl,vu,vs] } }:=I4.kept λb ob q=>z13 _ q
 obtain⟨its,r,pls,hz⟩:=I5.list hq
 show wpAny (model X.prog X.w) X.A (subscriptTail e (.Slice lo hi (some st) p2) (.ref a) (.ref s4.heap.objs.size)) (EP X pins σ Q) X.xe { s4 with heap:=s4.heap.push { cls:=.type "slice",data:=.fields #[vl,vu,vs] } }
 refine tail_any pls.isList.typeIs list_getitem_lookup ?_ (by with_unfolding_all rfl)
 have hn:=r.length
 refine wpAny_getItem_list_slice pls.isList (Heap.IsSliceOf.new ..) pl pu ps hc0 ?_ (by rw [ze,<- hn];exact hz)
 have le:=slicePick_size_le its.toArray l u c
 have ep:slicePick its.toArray l u c=((sliceRange (sliceBounds l u c xs.length).1 (sliceBounds l u c xs.length).2.1 (sliceBounds l u c xs.length).2.2).filterMap (its[·]?)).toArray:=by
  unfold slicePick
  rw [ze,hn]
  simp
 have rp:=ao.some_of r (sliceRange (sliceBounds l u c xs.length).1 (sliceBounds l u c xs.length).2.1 (sliceBounds l u c xs.length).2.2)
 have lp:=rp.length
 rw [ep] at le ⊢
 refine⟨.ref _,_,I5.laid (λb ob q=>z13 _ q) (z12 _) ?_,rfl,q _ (I5.hok.fresh (z12 _))⟩
 refine⟨?_,_,0,rp,z21 _ rfl⟩
 rw [ze,ze] at le
 show (eP xs l u c).length≤sizeLine
 unfold eP
 rw [lp]
 lia
end
noncomputable def wI(lo:Int)(n:Nat):It:=⟨λi _=>i<n,λi H x H'=>H'=H/\x=.int (lo-i),λi _=>n≤i⟩
theorem Ar{P:Program}{w:World}{K:W.Frag}{tg:Expr}(it:Addr)(lo:Int)(n:Nat):Turn P w K tg (wI lo n) [it] it (λi h=>IsRangeIter h it (lo+(i:Nat) * -1) ((n:Int)-(i:Nat)) (-1)) where
 mem:=by simp
 obj:=λi h st b hb=>by
  have e:b=it:=by simpa using hb
  subst e
  exact⟨_,st,λv q=>by cases q⟩
 keep:=λi h h' st k=>k it (by simp) _ st
 item:=by
  intro X hP hw hK hc i pins s σ H E I hf st hg
  subst hP hw hK
  obtain⟨f0,f1,f2,f3,f4,f5⟩:=hf it (by simp)
  refine (Walks.range (I.ok.hd hc) it lo (-1) n).item i s _ _ hg st λv h' tk hv st' kk=>?_
  obtain⟨t,rfl⟩:=hv
  have J:Inv X pins σ H { s with heap:=h',toks:=tk }:=I.turned (λb o hb e=>kk b o (by simpa using hb) e) f0 f1 f3 f4 f5
  refine⟨_,rfl,kC st' rfl rfl (by decide) ⟨.int (lo-i),H,J,⟨t,?_⟩,⟨rfl,rfl⟩,st',λb hb=>(hf b hb).1⟩⟩
  congr 1
  lia
 done:=by
  intro X hP hw hK hc i pins s σ H E I hf st hg
  subst hP hw hK
  obtain⟨f0,f1,f2,f3,f4,f5⟩:=hf it (by simp)
  have hg':n≤i:=hg
  exact wpAny_pyNext_range_end (I.ok.hd hc) st (by lia) λh' eb=>⟨rfl,I.turned (λb o hb e=>eb b o hb e) f0 f1 f3 f4 f5⟩
 self:=λ_ _ _ _ _ st h=>wpAny_pyIter_rangeiter st h
theorem sM:Builtin.Range.rangeSize a b (-1)=if a>b then a-b else 0:=by
 unfold Builtin.Range.rangeSize
 rw [if_neg (by decide)]
 split
 ·rw [show (- -1:Int)=1 from rfl,Int.ediv_one];lia
 ·rfl
theorem gO(ha:-(2 ^ 62)≤a)(ha':a<2 ^ 62)(hb:-(2 ^ 62)≤b)(hb':b<2 ^ 62):Builtin.Range.small a b (-1)=true:=by
 unfold Builtin.Range.small
 rw [sM]
 have n1:¬ ((-1:Int)>0):=by decide
 simp only [Builtin.Range.rangeFitsLong,z2a,Bool.or_eq_true,decide_eq_true_eq,beq_iff_eq,if_neg n1]
 split<;>lia
section
variable {X:Cx}{tg:Expr}
noncomputable def sN(ta:TA):TI:=λσ H R=>ta σ H λvs H1=>∃i j:Int,vs=[.int i,.int j,.int (-1)]/\(-(2 ^ 62)≤i/\i<2 ^ 62/\-(2 ^ 62)≤j/\j<2 ^ 62)/\R (wI i (i-j).toNat) H1
theorem As (hg:Gl X "range")(hm:X.mg "range" = none)(ha:PA X [a,b,c] ta)
  (hs:starEach [a,b,c] X.env=[(false,eval a X.env),(false,eval b X.env),(false,eval c X.env)]:=by rfl) (hs2:starEach [b,c] X.env=[(false,eval b X.env),(false,eval c X.env)]:=by rfl) :
  PI X tg (.Call (.Name "range" p) [a,b,c] [] pos) (sN ta):=by
 intro pins s σ H R I h
 refine Call_ (eN I hg hm boot_range (PyProof.Rows.callWith_type1 (aG (ha pos pins s σ H _ I h) λus s1 ⟨vs,H1,I1,r1,q1⟩=>?_) (by rw [hs,hs2]) (by rw [hs2];rfl)))
 obtain⟨i,j,e,⟨q1,q2,q3,q4⟩,q⟩:=q1
 subst e
 cases r1 with
 | cons r rr =>
  cases rr with
  | cons r' rr =>
   cases rr with
   | cons r'' rr =>
    cases rr
    obtain⟨t,rfl⟩:=r
    obtain⟨t',rfl⟩:=r'
    obtain⟨t'',rfl⟩:=r''
    refine PySem.call_range_3 (by decide) ?_ (.inl (PyProof.noPylong_of_log2 (by decide +kernel)))
    refine wpAny_pyIter_range (IsRange.new ..) (gO q1 q2 q3 q4) ?_
    have J:Inv X pins σ H1 { s1 with heap:=s1.heap.push { cls:=.type "range",data:=.fields #[.int i t,.int j t',.int (-1) t''] },toks:=s1.toks }:=I1.kept λb o e=>z13 _ e
    refine⟨_,[(s1.heap.push { cls:=.type "range",data:=.fields #[.int i t,.int j t',.int (-1) t''] }).objs.size],_,_,H1,rfl,J.kept λb o e=>z13 _ e,Ar _ i (i-j).toNat,?_,λb hb=>?_,q⟩
    ·have e1:i+((0:Nat):Int) * -1=i:=by lia
     have e2:(((i-j).toNat:Nat):Int)-((0:Nat):Int)=Builtin.Range.rangeSize i j (-1):=by rw [sM];split<;>lia
     show IsRangeIter _ _ (i+((0:Nat):Int) * -1) ((((i-j).toNat:Nat):Int)-((0:Nat):Int)) (-1)
     rw [e1,e2]
     exact z21 _ rfl
    ·rw [z20.mp hb]
     exact J.y14e (z12 _) (J.hok.fresh (z12 _))
end
end
end L2
namespace PySem
open Sem (wp)
open AutoSeq1 (wpAny_loadPart')
section
theorem Au  (hb:s.heap.IsTupleIter b t i)(ht:s.heap.IsTuple t ys)(hy:ys[i]?=some y)
  (k:∀h2,h2.IsTupleIter b t (i+1)->Heap.SameBut b s.heap h2->Q y { s with heap:=h2 }):wpAny (model prog w) A (Builtin.SmallTypes.nextOf (.ref b)) Q E s:=by
 obtain⟨ob,gb,cb,db⟩:=id hb
 obtain⟨ot,gt,_,nt,dt⟩:=ht
 unfold Builtin.SmallTypes.nextOf
 refine zc (wpAny_callSpecial?_slot hb.typeIs F.slot_tuple_iterator_next (wpAny_call_entry F.slot_tuple_iterator_next hb.typeIs F.entry_tuple_iterator_next ?_ (F.args_tuple_iterator_next_1 _)))
 show wpAny _ _ (field (.ref b) 0 >>= _) _ _ s
 refine zc (wpAny_field gb db rfl ?_)
 show wpAny _ _ (if (Value.ref t == Value.none)=true then _ else _) _ _ s
 have no:¬ ((Value.ref t == Value.none)=true):=z16
 rw [if_neg no]
 show wpAny _ _ (field (.ref b) 1 >>= _) _ _ s
 refine zc (wpAny_field gb db rfl ?_)
 show wpAny _ _ (seqItems? (.ref t) >>= _) _ _ s
 refine zc (wpAny_seqItems gt dt ?_)
 simp only [Int.toNat_natCast,hy]
 refine zc (wpAny_setField gb db (by simp) (z15 ⟨y,rfl,z15 (k _ ?_ (Heap.SameBut.update ..))⟩))
 refine⟨_,Heap.get?_update_self _ gb (Obj.isFreed_of_fields (Obj.data_mapFields db _)),(Obj.cls_mapFields ..).trans cb,?_⟩
 rw [Obj.data_mapFields db]
 simp [rawInt]
theorem Av  (calm:A.handled=none)(hb:s.heap.IsTupleIter b t i)(ht:s.heap.IsTuple t ys)(hy:ys[i]?=none)
  (k:∀h2 x,Heap.ExtBut b s.heap h2->(∃o,h2.get? x=some o/\o.cls=.type "StopIteration")->E (.ref x) { s with heap:=h2 }):wpAny (model prog w) A (Builtin.SmallTypes.nextOf (.ref b)) Q E s:=by
 obtain⟨ob,gb,cb,db⟩:=id hb
 obtain⟨ot,gt,_,nt,dt⟩:=ht
 unfold Builtin.SmallTypes.nextOf
 refine zc (wpAny_callSpecial?_slot hb.typeIs F.slot_tuple_iterator_next (wpAny_call_entry F.slot_tuple_iterator_next hb.typeIs F.entry_tuple_iterator_next ?_ (F.args_tuple_iterator_next_1 _)))
 show wpAny _ _ (field (.ref b) 0 >>= _) _ _ s
 refine zc (wpAny_field gb db rfl ?_)
 show wpAny _ _ (if (Value.ref t == Value.none)=true then _ else _) _ _ s
 have no:¬ ((Value.ref t == Value.none)=true):=z16
 rw [if_neg no]
 show wpAny _ _ (field (.ref b) 1 >>= _) _ _ s
 refine zc (wpAny_field gb db rfl ?_)
 show wpAny _ _ (seqItems? (.ref t) >>= _) _ _ s
 refine zc (wpAny_seqItems gt dt ?_)
 simp only [Int.toNat_natCast,hy]
 refine zc (wpAny_rule (zc (wpAny_setField gb db (by simp) ?_)))
 have calm':A.in1.handled=none:=calm
 unfold Builtin.SmallTypes.stopIteration
 wp_walk
 refine wpAny_raiseNew_none calm' ?_
 refine k _ _ (((Heap.SameBut.update ..).extBut.push _).push _) ⟨_,z21 _ rfl,rfl⟩
end
theorem Draws.tup (calm:A.handled=none)(b t:Addr)(ne:t≠b)(ys:Array Value) :
  Draws prog w A b [b,t] ys.size (λi v=>ys[i]?=some v) (λi h=>h.IsTupleIter b t i/\h.IsTuple t ys) where
 live:=λ_ _ st=>by
  obtain⟨o,g,_⟩:=st.1
  exact⟨o,g⟩
 frame:=λ_ _ _ st kk=>⟨st.1.at λo e=>kk b (by simp) o e,st.2.at λo e=>kk t (by simp) o e⟩
 item:=λi s Q E hi st hQ=>Au st.1 st.2 (y:=ys[i]) (by simp [hi]) λh2 b2 sb=>hQ _ h2 s.toks (by simp [hi]) ⟨b2,st.2.extBut sb.extBut ne⟩ sb
 done:=λs Q E st hE=>Av calm st.1 st.2 (by simp) hE
set_option maxHeartbeats 4000000 in
theorem Aw(t:Addr)(ys:Array Value)(m:Nat)(td:Option Addr)(ts:Array (Option Value)) :
  Meets (Builtin.«enumerate.__new__» ⟨[.type "enumerate",.ref t],[]⟩) (λ_ R st=>st.heap.get? t=some { cls:=.type "tuple",dict:=td,data:=.seq ys m,slots:=ts } /\
   R (.ok (.ret (.ref (st.heap.push { cls:=.type "tuple_iterator",data:=.fields #[.ref t,.int 0 0] }).objs.size)))
    { st with heap:=(st.heap.push { cls:=.type "tuple_iterator",data:=.fields #[.ref t,.int 0 0] }).push { cls:=.type "enumerate",data:=.fields #[.none,.bool false,.ref st.heap.objs.size,rawInt 0,.none,.none] } }):=by
 refine .of_wp λprog w A R st g=>?_
 obtain⟨heap0,gens0,yef,toks0,os0⟩:=st
 obtain⟨gt,gR⟩:=g
 have a1:=sub_enumerate
 have gT:Heap.IsTuple (Shared.heap ⟨heap0,gens0,yef,toks0,os0⟩) t ys:=⟨_,gt,rfl,m,rfl⟩
 wp_walk using wpAny_loadPart' gt
 refine wpAny_stack_any λstk=>z15 ?_
 split
 ·rename_i c _ _ _ _ _
  cases (c == Value.type "enumerate")
  ·wp_walk using wpAny_loadPart' gt,wpAny_pyIter_tuple gT
   exact⟨_,rfl,gR⟩
  ·wp_walk using wpAny_loadPart' gt,wpAny_pyIter_tuple gT
   exact⟨_,rfl,gR⟩
 ·wp_walk using wpAny_loadPart' gt,wpAny_pyIter_tuple gT
  exact⟨_,rfl,gR⟩
section
noncomputable abbrev nX(t:Addr):Obj:={ cls:=.type "tuple_iterator",data:=.fields #[.ref t,.int 0 0] }
noncomputable abbrev sO(i:Addr):Obj:={ cls:=.type "enumerate",data:=.fields #[.none,.bool false,.ref i,rawInt 0,.none,.none] }
theorem y94 (hT:s.heap.IsTuple t ys)
  (k:∀h2,IsEnum h2 (s.heap.objs.size+1) s.heap.objs.size 0 .none->h2.IsTupleIter s.heap.objs.size t 0->(∀b o,s.heap.get? b=some o->h2.get? b=some o)->Q (.ref (s.heap.objs.size+1)) { s with heap:=h2 }) :
  wpAny (model prog w) A (call (.type "enumerate") [.ref t]) Q E s:=by
 obtain⟨⟨c,td,dt,ts⟩,gt,ct,m,dd⟩:=hT
 have ct':c=.type "tuple":=ct
 have dd':dt=.seq ys m:=dd
 subst ct' dd'
 refine callType_new F.called_enumerate (by decide) (F.typeCall_enumerate_1 _) (F.newCall_enumerate_1 _) (λobj=>F.args_object_init_2 obj _) F.entry_enumerate_new (Aw t ys m td ts) ⟨gt,?_⟩
 have sz:(s.heap.push (nX t)).objs.size=s.heap.objs.size+1:=Heap.size_push ..
 show _/\_
 rw [sz]
 have en:IsEnum ((s.heap.push (nX t)).push (sO s.heap.objs.size)) (s.heap.objs.size+1) s.heap.objs.size 0 .none:=by
  have a:=z21 (s.heap.push (nX t)) (o:=sO s.heap.objs.size) rfl
  rw [sz] at a
  exact a
 exact⟨⟨_,en,rfl⟩,k _ en ⟨_,z13 _ (z21 _ rfl),rfl,rfl⟩ λb o e=>z13 _ (z13 _ e)⟩
end
end PySem
namespace L2
open PySem PySem.Spec PyProof.Rows
section
noncomputable def Ax(K:W.Frag)(a:Addr):It:=⟨λi H=>∃xs x,a7 K H a xs/\xs[i]?=some x,
 λi H v H'=>∃T,v=.ref T/\H T=none/\∀xs x,a7 K H a xs->xs[i]?=some x->H'=aD H T (.tup [.int i,x]),λi H=>∃xs,a7 K H a xs/\xs.length=i⟩
theorem Ay{P:Program}{w:World}{K:W.Frag}{elts:List Expr}{k0:Nat}{p0:Pos}{e it a:Addr}(n1:e≠it)(n2:a≠e)(n3:a≠it) :
  Turn P w K (.Tuple elts k0 p0) (Ax K a) [e,it] e (λi h=>(∃old,IsEnum h e it i old)/\h.IsTupleIter it a i) where
 mem:=by simp
 obj:=λi h st b hb=>by
  obtain⟨⟨old,h1⟩,⟨o2,h2,c2,d2⟩⟩:=st
  simp only [z1e,List.not_mem_nil,or_false] at hb
  rcases hb with rfl|rfl
  ·exact⟨_,h1,λv q=>by cases q⟩
  ·exact⟨_,h2,λv q=>by rw [d2] at q;cases q⟩
 keep:=λi h h' st k=>by
  obtain⟨⟨old,h1⟩,h2⟩:=st
  exact⟨⟨old,k e (by simp) _ h1⟩,h2.at λo q=>k it (by simp) o q⟩
 item:=by
  intro X hP hw hK hc i pins s σ H E I hf st hg
  subst hP hw hK
  obtain⟨xs,x,hx,ex⟩:=hg
  obtain⟨us,r1,p1,z1⟩:=I.tuple hx
  obtain⟨u,eu,ru⟩:=r1.get ex
  obtain⟨⟨old,h1⟩,h2⟩:=st
  have W:=WalksT.enumerateD (Draws.tup (prog:=X.prog) (w:=X.w) (A:=X.A.in1) (I.ok.hd hc) it a n3 us.toArray) e n1 (by simp;exact⟨n1,n2.symm⟩) (by simp)
  have hiu:i<us.length:=(zd.mp eu).1
  refine wpAny_pyNext_enum_itemD (Draws.tup (A:=X.A.in1) (I.ok.hd hc) it a n3 us.toArray) h1 ⟨h2,show s.heap.IsTuple a us.toArray from p1⟩ (by rw [ze];exact hiu) n1 (by simp;exact⟨n1,n2.symm⟩) λx' h' t0 e1 ho hs' hT0 _ hk0=>⟨.ref _,rfl,?_⟩
  obtain⟨T,eT⟩:∃T,T=s.heap.objs.size:=⟨_,rfl⟩
  have hsz:s.heap.objs.size≤T:=Nat.le_of_eq eT.symm
  have hT:fS h' s.heap.objs.size #[.int i t0,x']:=⟨_,hT0,rfl,rfl,_,rfl⟩
  have hk:∀b o,b∉[e,it]->s.heap.get? b=some o->h'.get? b=some o:=λb o hb=>hk0 b o (λz=>hb (by simp [z])) (λz=>hb (by simp [z]))
  have hM:(∃x,IsEnumOut h' e it ((i:Int)+1) x s.heap.objs.size)/\(h'.IsTupleIter it a (i+1)/\h'.IsTuple a us.toArray)/\s.heap.objs.size≠e/\s.heap.objs.size≠it:=⟨⟨_,ho⟩,hs',Nat.ne_of_gt (z17 h1),by obtain⟨_,q,_⟩:=h2;exact Nat.ne_of_gt (z17 q)⟩
  rw [<- eT] at hT hM ⊢
  have e1':u=x':=by
   have q:us[i]?=some x':=by simpa using e1
   rw [eu] at q;exact z27 q
  subst e1'
  refine W.go elts k0 p0 i T { s with heap:=h',toks:=t0+1 } _ _ hM λh'' st'' hk'=>?_
  obtain⟨g1,g2,g3⟩:=st''
  have nT:=W.apart i T _ hM
  have hT2:fS h'' T #[.int i t0,u]:=hT.keep λo q=>hk' T o nT q
  refine⟨.ref T,aD H T (.tup [.int i,x]),?_,rfl,⟨T,rfl,I.hok.fresh hsz,λxs' x'' q1 q3=>?_⟩,⟨g1,g2⟩,λb hb=>?_⟩
  ·refine I.y424 hf (λb o hb q=>hk' b o hb (hk b o hb q)) hsz ?_
   exact⟨by show 2≤sizeLine;decide,[.int i t0,u],.cons ⟨t0,rfl⟩ (.cons ru .nil),hT2⟩
  ·rw [I.y41c q1 hx,ex] at q3
   cases q3;rfl
  ·have q:=(hf b hb).1
   have nb:b≠T:=by
    intro z
    obtain⟨o,eo⟩:∃o,s.heap.get? b=some o:=by
     simp only [z1e,List.not_mem_nil,or_false] at hb
     obtain⟨o2,h2,_⟩:=h2
     rcases hb with rfl|rfl
     ·exact⟨_,h1⟩
     ·exact⟨_,h2⟩
    exact z32 _ (z1b (z17 eo) (by rw [z];exact hsz))
   rw [aI nb];exact q
 done:=by
  intro X hP hw hK hc i pins s σ H E I hf st hg
  subst hP hw hK
  obtain⟨xs,hx,hi⟩:=hg
  obtain⟨us,r1,p1,z1⟩:=I.tuple hx
  obtain⟨⟨old,h1⟩,h2⟩:=st
  have W:=WalksT.enumerateD (Draws.tup (prog:=X.prog) (w:=X.w) (A:=X.A.in1) (I.ok.hd hc) it a n3 us.toArray) e n1 (by simp;exact⟨n1,n2.symm⟩) (by simp)
  have l1':=r1.length
  have q:i=us.toArray.size:=by rw [ze];lia
  subst q
  exact W.done s _ _ ⟨⟨old,h1⟩,h2,show s.heap.IsTuple a us.toArray from p1⟩ λh' tk hk=>⟨rfl,I.y425 (fp:=[e,it]) hf λb o hb q=>hk b o hb q⟩
 self:=λA i s Q E st h=>by
  obtain⟨⟨old,h1⟩,_⟩:=st
  exact wpAny_pyIter_enum h1 h
section
noncomputable def sP(K:W.Frag)(ta:TA):TI:=λσ H R=>ta σ H λvs H1=>∃a xs,vs=[.ref a]/\a7 K H1 a xs/\R (Ax K a) H1
theorem Az{elts:List Expr}{k0:Nat}{p0:Pos}{c:Expr}{ta:TA}{p pos:Pos}(hg:Gl X "enumerate")(hm:X.mg "enumerate" = none)(ha:PA X [c] ta)(hs:starEach [c] X.env=[(false,eval c X.env)]:=by rfl) :
  PI X (.Tuple elts k0 p0) (.Call (.Name "enumerate" p) [c] [] pos) (sP X.K ta):=by
 intro pins s σ H R I h
 refine Call_ (eN I hg hm PyProof.Rows.boot_enumerate (PyProof.Rows.callWith_type1 (aG (ha pos pins s σ H _ I h) λus s1 ⟨vs,H1,I1,r1,q1⟩=>?_) hs rfl))
 obtain⟨a,xs,e,hx,q⟩:=q1
 subst e
 cases r1 with
 | cons r rr =>
  cases rr
  cases r
  obtain⟨as,ra,pa,za⟩:=I1.tuple hx
  have pa':s1.heap.IsTuple a as.toArray:=pa
  refine y94 pa' λh2 z1 z2 zk=>?_
  have la:a<s1.heap.objs.size:=by obtain⟨_,e,_⟩:=pa';exact z17 e
  refine wpAny_pyIter_enum z1 ?_
  refine⟨_,[s1.heap.objs.size+1,s1.heap.objs.size],_,_,H1,rfl,I1.kept zk,
   Ay (Nat.ne_of_gt (z35 _)) (z26 (Nat.lt_succ_of_lt la)) (z26 la),⟨⟨_,z1⟩,z2⟩,λb hb=>?_,q⟩
  have hb':s1.heap.objs.size≤b:=by
   simp only [z1e,List.not_mem_nil,or_false] at hb
   rcases hb with e|e<;>(rw [e];first|exact Nat.le_add_right _ _|exact z12 _)
  exact I1.y14e hb' (I1.hok.fresh hb')
end
end
section
section
variable   {elt iter tg:Expr}
noncomputable def AA(n:Nat)(ix:List Nat)(i:Nat)(wi:TI)(g:yc->TG)(tt:yc->TT)(te:yc->TE):TS:=λD σ H=>nU n ix wi g tt te σ H λv H1=>D.nx (σ.set i (some v)) H1
theorem sQ (O:yd X scope xs ys ix)(hc:X.calm=true)(hN:X.N.Nodup)(hy:X.N[i]?=some y)(hl:X.env.scope.names.lookup y=some .local)(hit:PI X tg iter wi)
  (hg:∀z,PG (dH X scope (xs++ys) z) tg (g z)) (hi:∀z,mO (dH X scope (xs++ys) z) ifs (tt z)) (he:∀z,PE (dH X scope (xs++ys) z) elt (te z))
  (hsw:swapsWith (.ListComp elt [⟨tg,iter,ifs,0⟩] scope pos) (some (.Name y py)) y3d9.line X.env=pure true:=by rfl) (hs:∀v,foldedSetIterable iter X.env v=pure v:=by intro _;rfl) :
  PS X (.Assign [.Name y py] (.ListComp elt [⟨tg,iter,ifs,0⟩] scope pos) y3d9) (AA xs.length ix i wi g tt te):=by
 intro pins s σ H D I h
 rw [exec_Assign_Name_used _ _ _ _ hsw]
 refine zc (wpAny_standAt (zc ?_))
 show wpAny _ _ (do let _ <- comprehension (.ListComp elt [⟨tg,iter,ifs,0⟩] scope pos) scope X.env _ (newList []) false (eval iter X.env) (some (assign (.Name y py) X.env))) _ _ s
 refine zc (wpAny_mono (wpAny_comprehension_free rfl hs (yac λp hp hf=>I.ok.has p.1 (O.fr p hp hf)) O.kind O.names (aG (hit pins s σ H _ I h) λv s1 h1=>aG h1 λitv s2 h2=>?_))
  (λ_ s' hq=>z15 (z15 hq)) λ_ _ e=>e)
 obtain⟨it,fp,tn,J,H2,e,I2,T,st2,f2,hw⟩:=h2
 subst e
 refine yb6 O hc hg hi he I2 T st2 f2 hw ?_
 intro E C m' H' s' I' n' fC q
 show wpAny _ _ (assign (.Name y py) X.env (.ref E)) _ _ s'
 refine wpAny_assign_Name (qb (v:=.ref E) I' hN hy (.inl hl) rfl (λs'' I'' ⟨a,sb,ha⟩=>?_) (.inr hl))
 have hCa:C≠a:=by
  rcases ha with rfl|ha
  ·exact fC.2.1
  ·exact λz=>fC.2.2.2.2.1 _ _ ha z.symm
 exact⟨m',n'.sameBut sb hCa,λh' hs'=>⟨_,H',yba I'' fC hs',q⟩⟩
end
theorem k4{α:Type}{xs:List α}{f:Nat->Nat}:∀{c:Nat},(∀k,k<c->f k<xs.length)->(((List.range c).map f).filterMap (xs[·]?)).length=c/\∀k,k<c->(((List.range c).map f).filterMap (xs[·]?))[k]?=xs[f k]?
 | 0,_=>⟨rfl,λk h=>absurd h (Nat.not_lt_zero _)⟩
 | c+1,h=>by
  obtain⟨h1,h2⟩:=k4 λk hk=>h k (Nat.lt_succ_of_lt hk)
  have hc:=h c (z35 c)
  have e:((List.range (c+1)).map f).filterMap (xs[·]?)=((List.range c).map f).filterMap (xs[·]?)++[xs[f c]]:=by
   rw [List.range_succ,z23,List.filterMap_append]
   congr 1
   simp [hc]
  rw [e]
  refine⟨by rw [z14,h1];rfl,λk hk=>?_⟩
  by_cases q:k<c
  ·rw [z1c (by rw [h1];exact q)]
   exact h2 k q
  ·have q':k=c:=by lia
   subst q'
   rw [z1f (by rw [h1];exact z12 _),h1,Nat.sub_self,zf hc]
   rfl
theorem AB(xs:List V):(eP xs none none (some (-1))).length=xs.length/\∀k,k<xs.length->(eP xs none none (some (-1)))[k]?=xs[xs.length-1-k]?:=by
 have e:eP xs none none (some (-1))=((List.range xs.length).map λk=>xs.length-1-k).filterMap (xs[·]?):=by
  unfold eP sliceRange
  have c:(if (-1:Int)>0 then (if (xs.length:Int)-1 < -1 then (-1-((xs.length:Int)-1) + -1-1) / -1 else 0) else (if (xs.length:Int)-1 > -1 then ((xs.length:Int)-1 - -1 - -1-1) / (- -1) else 0)).toNat=xs.length:=by
   rw [if_neg (by decide)]
   split
   ·rw [show (- -1:Int)=1 from rfl,Int.ediv_one];lia
   ·lia
  show ((List.range (if (-1:Int)>0 then (if (xs.length:Int)-1 < -1 then (-1-((xs.length:Int)-1) + -1-1) / -1 else 0) else (if (xs.length:Int)-1 > -1 then ((xs.length:Int)-1 - -1 - -1-1) / (- -1) else 0)).toNat).map λ(k:Nat)=>((xs.length:Int)-1 + -1*(k:Int)).toNat).filterMap (xs[·]?)=_
  rw [c]
  congr 2
  funext k
  lia
 rw [e]
 exact k4 λk hk=>by lia
end
end L2
namespace B
open PySem L2
section
inductive I where
 | non|bl (b:Bool)|int (i:Int)|str (x:Str)|ty (n:String)|tup (xs:List I)|ref (k:Nat)|fro (xs:List I)|con (xs:List I)
inductive M where
 | lst (xs:List I)|dic (kvs:List (aB×I))|dit (kvs:List (List aB×I))|fdi (kvs:List (aB×I))|obj (c:Str) (fs:List (Str×I))
inductive Vl where
 | im (d:I)|ow (m:M)
noncomputable def nY(K:W.Frag)(H:Hp)(a:Addr)(vs:List V):Prop:=(∃o,H a=some (.frz o (.lst vs)))∨aZ K (λ_=>none) a vs
mutual
inductive RpI(K:W.Frag)(ι:List Addr)(H:Hp):V->I->Prop
 | non:RpI K ι H .non .non
 | bl (b:Bool):RpI K ι H (.bl b) (.bl b)
 | int (i:Int):RpI K ι H (.int i) (.int i)
 | str (x:Str):RpI K ι H (.str x) (.str x)
 | ty (n:String):RpI K ι H (.ty n) (.ty n)
 | ref {a:Addr} {k:Nat}:ι[k]?=some a->RpI K ι H (.ref a) (.ref k)
 | tup {a:Addr} {vs:List V} {xs:List I}:H a=some (.tup vs)->y4d K ι H vs xs->RpI K ι H (.ref a) (.tup xs)
 | con {a:Addr} {vs:List V} {xs:List I}:a7 K (λ_=>none) a vs->y4d K ι H vs xs->RpI K ι H (.ref a) (.con xs)
 | fro {a:Addr} {vs:List V} {xs:List I}:nY K H a vs->y4d K ι H vs xs->RpI K ι H (.ref a) (.fro xs)
inductive y4d(K:W.Frag)(ι:List Addr)(H:Hp):List V->List I->Prop
 | nil:y4d K ι H [] []
 | cons {v:V} {d:I} {vs:List V} {ds:List I}:RpI K ι H v d->y4d K ι H vs ds->y4d K ι H (v::vs) (d::ds)
end
theorem cC(r:RpI K ι H v (.int i)):v=.int i:=by cases r;rfl
theorem gP(r:RpI K ι H v (.str i)):v=.str i:=by cases r;rfl
theorem sR(r:RpI K ι H v (.bl i)):v=.bl i:=by cases r;rfl
theorem k5(r:RpI K ι H v .non):v=.non:=by cases r;rfl
theorem jy(r:RpI K ι H v (.tup xs)):∃a vs,v=.ref a/\H a=some (.tup vs)/\y4d K ι H vs xs:=by cases r with|tup h q=>exact⟨_,_,rfl,h,q⟩
theorem sS(r:RpI K ι H v (.con xs)):∃a vs,v=.ref a/\a7 K (λ_=>none) a vs/\y4d K ι H vs xs:=by cases r with|con h q=>exact⟨_,_,rfl,h,q⟩
theorem sT(r:RpI K ι H v (.fro xs)):∃a vs,v=.ref a/\nY K H a vs/\y4d K ι H vs xs:=by cases r with|fro h q=>exact⟨_,_,rfl,h,q⟩
noncomputable def bQ(ι ι':List Addr):Prop:=∀(k:Nat) (a:Addr),ι[k]?=some a->ι'[k]?=some a
structure Kp(H H':Hp):Prop where
 tup:∀a xs,H a=some (.tup xs)->H' a=some (.tup xs)
 frz:∀a o u,H a=some (.frz o u)->H' a=some (.frz o u)
theorem Kp.refl(H:Hp):Kp H H:=⟨λ_ _ h=>h,λ_ _ _ h=>h⟩
theorem Kp.trans(x:Kp H H1)(y:Kp H1 H2):Kp H H2:=⟨λa xs h=>y.tup a xs (x.tup a xs h),λa o u h=>y.frz a o u (x.frz a o u h)⟩
theorem Kp.same(h:eB H H'):Kp H H':=⟨λa xs e=>h _ _ e,λa o u e=>h _ _ e⟩
theorem bQ.refl(ι:List Addr):bQ ι ι:=λ_ _ h=>h
theorem bQ.trans(x:bQ ι ι1)(y:bQ ι1 ι2):bQ ι ι2:=λk a h=>y k a (x k a h)
theorem bQ.snoc(ι:List Addr)(b:List Addr):bQ ι (ι++b):=λk a h=>by
 have:k<ι.length:=(zd.mp h).1
 rw [z1c this];exact h
theorem Kp.frL  (k:Kp H H')(h:nY K H a vs):nY K H' a vs:=by
 rcases h with⟨o,h⟩| h
 ·exact .inl ⟨o,k.frz _ _ _ h⟩
 ·exact .inr h
theorem a7.kon  (h:a7 K (λ_=>none) a vs):a7 K H a vs:=by
 rcases h with (h|⟨o,h⟩)|h
 ·cases h
 ·cases h
 ·exact .inr h
theorem nY.sq  (h:nY K H a vs):aZ K H a vs:=by
 rcases h with⟨o,h⟩| h
 ·exact .inl (.inr ⟨o,h⟩)
 ·rcases h with (h|⟨o,h⟩)|h
  ·cases h
  ·cases h
  ·exact .inr h
section
mutual
theorem RpI.mono (p:bQ ι ι')(k:Kp H H'):RpI K ι H v d->RpI K ι' H' v d
 | .non=>.non
 | .bl b=>.bl b
 | .int i=>.int i
 | .str x=>.str x
 | .ty n=>.ty n
 | .ref h=>.ref (p _ _ h)
 | .tup h r=>.tup (k.tup _ _ h) (y4d.mono p k r)
 | .con h r=>.con h (y4d.mono p k r)
 | .fro h r=>.fro (k.frL h) (y4d.mono p k r)
theorem y4d.mono (p:bQ ι ι')(k:Kp H H'):y4d K ι H vs ds->y4d K ι' H' vs ds
 | .nil=>.nil
 | .cons h r=>.cons (RpI.mono p k h) (y4d.mono p k r)
end
theorem y4d.len:∀{vs:List V} {ds:List I},y4d K ι H vs ds->vs.length=ds.length
 | _,_,.nil=>rfl
 | _,_,.cons _ r=>by rw [z29,z29,r.len]
theorem y4d.get:∀{vs:List V} {ds:List I} {i:Nat} {d:I},y4d K ι H vs ds->ds[i]?=some d->∃v,vs[i]?=some v/\RpI K ι H v d
 | _,_,_,_,.nil,e=>by simp at e
 | _,_,0,_,.cons h _,e=>by simp at e;subst e;exact⟨_,rfl,h⟩
 | _,_,i+1,d,.cons _ r,e=>by
  obtain⟨v,h1,h2⟩:=y4d.get r (by simpa using e)
  exact⟨v,by simpa using h1,h2⟩
theorem y4d.app:∀{vs ws:List V} {ds es:List I},y4d K ι H vs ds->y4d K ι H ws es->y4d K ι H (vs++ws) (ds++es)
 | _,_,_,_,.nil,s=>s
 | _,_,_,_,.cons h r,s=>.cons h (y4d.app r s)
theorem y4d.take:∀{vs:List V} {ds:List I} (n:Nat),y4d K ι H vs ds->y4d K ι H (vs.take n) (ds.take n)
 | _,_,0,_=>.nil
 | _,_,_+1,.nil=>.nil
 | _,_,n+1,.cons h r=>.cons h (y4d.take n r)
theorem y4d.drop:∀{vs:List V} {ds:List I} (n:Nat),y4d K ι H vs ds->y4d K ι H (vs.drop n) (ds.drop n)
 | _,_,0,r=>r
 | _,_,_+1,.nil=>.nil
 | _,_,n+1,.cons _ r=>y4d.drop n r
theorem y4d.set:∀{vs:List V} {ds:List I} {v:V} {d:I} (i:Nat),y4d K ι H vs ds->RpI K ι H v d->y4d K ι H (vs.set i v) (ds.set i d)
 | _,_,_,_,_,.nil,_=>.nil
 | _,_,_,_,0,.cons _ r,h=>.cons h r
 | _,_,_,_,i+1,.cons g r,h=>.cons g (y4d.set i r h)
theorem y4d.rev:∀{vs:List V} {ds:List I},y4d K ι H vs ds->y4d K ι H vs.reverse ds.reverse
 | _,_,.nil=>.nil
 | _,_,.cons h r=>by rw [List.reverse_cons,List.reverse_cons];exact r.rev.app (.cons h .nil)
theorem y4d.none_of{vs:List V}{ds:List I}{i:Nat}(r:y4d K ι H vs ds)(e:ds[i]?=none):vs[i]?=none:=by
 have h1:=r.len
 have h2:ds.length≤i:=List.getElem?_eq_none_iff.mp e
 exact List.getElem?_eq_none_iff.mpr (by lia)
noncomputable def du(K:W.Frag)(κ:Str->Addr)(ι:List Addr)(H:Hp)(a:Addr):M->Prop
 | .lst xs=>∃vs,H a=some (.lst vs)/\y4d K ι H vs xs
 | .dic kvs=>∃ws,H a=some (.dK ws)/\ws.map (·.1)=kvs.map (·.1)/\y4d K ι H (ws.map (·.2)) (kvs.map (·.2))
 | .dit kvs=>∃ws,H a=some (.dT ws)/\ws.map (·.1)=kvs.map (·.1)/\y4d K ι H (ws.map (·.2)) (kvs.map (·.2))
 | .fdi kvs=>∃o ws,H a=some (.frz o (.dK ws))/\ws.map (·.1)=kvs.map (·.1)/\y4d K ι H (ws.map (·.2)) (kvs.map (·.2))
 | .obj c fs=>∃dx ws,H a=some (.ins (κ c) dx ws)/\ws.map (·.1)=fs.map (·.1)/\y4d K ι H (ws.map (·.2)) (fs.map (·.2))
theorem du.mono (p:bQ ι ι')(k:Kp H H')(e:H' a=H a)(h:du K κ ι H a m):du K κ ι' H' a m:=by
 cases m with
 | lst xs=>obtain⟨vs,h1,h2⟩:=h;exact⟨vs,by rw [e];exact h1,h2.mono p k⟩
 | dic xs=>obtain⟨vs,h1,h2,h3⟩:=h;exact⟨vs,by rw [e];exact h1,h2,h3.mono p k⟩
 | dit xs=>obtain⟨vs,h1,h2,h3⟩:=h;exact⟨vs,by rw [e];exact h1,h2,h3.mono p k⟩
 | obj c xs=>obtain⟨dx,vs,h1,h2,h3⟩:=h;exact⟨dx,vs,by rw [e];exact h1,h2,h3.mono p k⟩
 | fdi xs=>obtain⟨o,vs,h1,h2,h3⟩:=h;exact⟨o,vs,by rw [e];exact h1,h2,h3.mono p k⟩
noncomputable def k6:HO->Bool
 | .lst _ | .dK _ | .dT _ | .ins _ _ _=>true
 | .frz _ (.dK _)=>true
 | _=>false
noncomputable def sU:M->Bool
 | .fdi _=>true
 | _=>false
theorem du.nf (h:du K κ ι H a m)(hf:sU m=false):∀o u,H a≠some (.frz o u):=λo u e=>by
 cases m with
 | lst xs=>obtain⟨vs,h1,h2⟩:=h;rw [h1] at e;cases e
 | dic xs=>obtain⟨vs,h1,h2,h3⟩:=h;rw [h1] at e;cases e
 | dit xs=>obtain⟨vs,h1,h2,h3⟩:=h;rw [h1] at e;cases e
 | obj c xs=>obtain⟨dx,vs,h1,h2,h3⟩:=h;rw [h1] at e;cases e
 | fdi xs=>cases hf
theorem du.mu (h:du K κ ι H a m):∃o,H a=some o/\k6 o=true:=by
 cases m with
 | lst xs=>obtain⟨vs,h1,h2⟩:=h;exact⟨_,h1,rfl⟩
 | dic xs=>obtain⟨vs,h1,h2,h3⟩:=h;exact⟨_,h1,rfl⟩
 | dit xs=>obtain⟨vs,h1,h2,h3⟩:=h;exact⟨_,h1,rfl⟩
 | obj c xs=>obtain⟨dx,vs,h1,h2,h3⟩:=h;exact⟨_,h1,rfl⟩
 | fdi xs=>obtain⟨o,vs,h1,h2,h3⟩:=h;exact⟨_,h1,rfl⟩
inductive RpE(K:W.Frag)(κ:Str->Addr)(ι:List Addr)(H:Hp):Option V->Option Vl->Prop
 | no (x:Option V):RpE K κ ι H x none
 | im {v:V} {d:I}:RpI K ι H v d->RpE K κ ι H (some v) (some (.im d))
 | ow {a:Addr} {m:M}:du K κ ι H a m->RpE K κ ι H (some (.ref a)) (some (.ow m))
noncomputable def bo:Option V->Option Vl->List Addr
 | some (.ref a),some (.ow _)=>[a]
 | _,_=>[]
noncomputable def own:List (Option V)->List (Option Vl)->List Addr
 | v::σ,x::Z=>bo v x++own σ Z
 | _,_=>[]
theorem bN:∀{σ:List (Option V)} {Z:List (Option Vl)} (τ:List (Option V)) (θ:List (Option Vl)),σ.length=Z.length->own (σ++τ) (Z++θ)=own σ Z++own τ θ
 | [],[],_,_,_=>rfl
 | [],_::_,_,_,h=>by cases h
 | _::_,[],_,_,h=>by cases h
 | v::σ,x::Z,τ,θ,h=>by
  show bo v x++own (σ++τ) (Z++θ)=bo v x++own σ Z++own τ θ
  rw [bN τ θ (by simpa using h),z2e]
noncomputable abbrev bc(a:Addr)(l:List Addr):Nat:=List.count a l
structure SR(K:W.Frag)(κ:Str->Addr)(ι:List Addr)(H:Hp)(σ:St)(Z:List (Option Vl))(G:List M):Prop where
 sl:Paired (RpE K κ ι H) σ Z
 gs:Paired (du K κ ι H) ι G
 nd:∀a,bc a (own σ Z)+bc a ι≤1
structure Step(ι fp:List Addr)(H:Hp)(ι' fp':List Addr)(H':Hp):Prop where
 pre:bQ ι ι'
 src:∀a,a∈fp'->a∈fp∨H a=none
 keep:∀a o,H a=some o->a∉fp->H' a=some o
 dom:∀a,H' a=none->H a=none
 kp:Kp H H'
theorem Step.refl(ι fp:List Addr)(H:Hp):Step ι fp H ι fp H:=⟨bQ.refl _,λ_ h=>.inl h,λ_ _ h _=>h,λ_ h=>h,Kp.refl _⟩
theorem Step.trans (x:Step ι fp H ι1 fp1 H1)(y:Step ι1 fp1 H1 ι2 fp2 H2):Step ι fp H ι2 fp2 H2 where
 pre:=x.pre.trans y.pre
 src:=λa h=>by
  rcases y.src a h with q|q
  ·exact x.src a q
  ·exact .inr (x.dom a q)
 keep:=λa o h n=>y.keep a o (x.keep a o h n) λq=>by
  rcases x.src a q with z|z
  ·exact n z
  ·rw [z] at h;cases h
 dom:=λa h=>x.dom a (y.dom a h)
 kp:=x.kp.trans y.kp
theorem Step.sub (x:Step ι fp H ι1 fp1 H1)(h:∀a,a∈fp2->a∈fp1):Step ι fp H ι1 fp2 H1:=⟨x.pre,λa q=>x.src a (h a q),x.keep,x.dom,x.kp⟩
theorem Step.wide (x:Step ι fp H ι1 fp1 H1)(h:∀a,a∈fp->a∈fq):Step ι fq H ι1 fp1 H1:=⟨x.pre,λa q=>(x.src a q).imp (h a) id,λa o q n=>x.keep a o q λz=>n (h a z),x.dom,x.kp⟩
theorem Step.y81 (x:Step ι fp H ι1 fp1 H1):Step ι (t++fp) H ι1 (t++fp1) H1 where
 pre:=x.pre
 src:=λa h=>by
  rcases z1d.mp h with q|q
  ·exact .inl (List.mem_append_left _ q)
  ·exact (x.src a q).imp (z22 _) id
 keep:=λa o h n=>x.keep a o h λq=>n (z22 _ q)
 dom:=x.dom
 kp:=x.kp
theorem gQ  : a∈l↔0<bc a l:=List.count_pos_iff.symm
theorem RpE.mono (p:bQ ι ι')(k:Kp H H')(e:∀a,a∈bo v x->H' a=H a)(h:RpE K κ ι H v x):RpE K κ ι' H' v x:=by
 cases h with
 | no=>exact .no _
 | im h=>exact .im (h.mono p k)
 | ow h=>exact .ow (h.mono p k (e _ (by unfold bo;exact z20.mpr rfl)))
theorem iC(p:bQ ι ι')(k:Kp H H'):∀{σ:St} {Z:List (Option Vl)},(∀a,a∈own σ Z->H' a=H a)->Paired (RpE K κ ι H) σ Z->Paired (RpE K κ ι' H') σ Z
 | _,_,_,.nil=>.nil
 | _,_,e,.cons h r=>.cons (h.mono p k λa q=>e a (List.mem_append_left _ q)) (iC p k (λa q=>e a (z22 _ q)) r)
theorem k7(p:bQ ι ι')(k:Kp H H'):∀{as:List Addr} {G:List M},(∀a,a∈as->H' a=H a)->Paired (du K κ ι H) as G->Paired (du K κ ι' H') as G
 | _,_,_,.nil=>.nil
 | _,_,e,.cons h r=>.cons (h.mono p k (e _ List.mem_cons_self)) (k7 p k (λa q=>e a (z28 _ q)) r)
theorem jz(v:Option V):bo v none=[]:=by
 cases v with
 | none=>rfl
 | some v=>cases v<;>rfl
theorem ft(v:Option V)(d:I):bo v (some (.im d))=[]:=by
 cases v with
 | none=>rfl
 | some v=>cases v<;>rfl
theorem k9:∀{σ:St} {Z:List (Option Vl)} {a:Addr},Paired (RpE K κ ι H) σ Z->a∈own σ Z->∃o,H a=some o/\k6 o=true
 | _,_,_,.nil,h=>by cases h
 | _,_,a,.cons h r,q=>by
  rcases z1d.mp q with z|z
  ·cases h with
   | no=>rw [jz] at z;cases z
   | im h=>rw [ft] at z;cases z
   | ow h=>obtain rfl:=z20.mp z;exact h.mu
  ·exact k9 r z
theorem nZ:∀{as:List Addr} {G:List M} {a:Addr},Paired (du K κ ι H) as G->a∈as->∃o,H a=some o/\k6 o=true
 | _,_,_,.nil,h=>by cases h
 | _,_,a,.cons h r,q=>by
  rcases z1e.mp q with rfl|z
  ·exact h.mu
  ·exact nZ r z
theorem SR.len (h:SR K κ ι H σ Z G):σ.length=Z.length:=Paired.length h.sl
theorem SR.mu  (h:SR K κ ι H σ Z G)(q:a∈own σ Z++ι):∃o,H a=some o/\k6 o=true:=by
 rcases z1d.mp q with z|z
 ·exact k9 h.sl z
 ·exact nZ h.gs z
theorem dw{α β:Type}{F:α->β->Prop}:∀{a:List α} {b:List β} {c:List α} {d:List β},Paired F a b->Paired F c d->Paired F (a++c) (b++d)
 | _,_,_,_,.nil,h=>h
 | _,_,_,_,.cons h r,q=>.cons h (dw r q)
theorem cf{α β:Type}{F:α->β->Prop}:∀{a:List α} {b:List β} {c:List α} {d:List β},a.length=b.length->Paired F (a++c) (b++d)->Paired F a b/\Paired F c d
 | [],[],_,_,_,h=>⟨.nil,h⟩
 | [],_::_,_,_,l,_=>by cases l
 | _::_,[],_,_,l,_=>by cases l
 | x::a,y::b,c,d,l,h=>by
  cases h with
  | cons h r =>
   obtain⟨p,q⟩:=cf (by simpa using l) r
   exact⟨.cons h p,q⟩
theorem SR.join  (h1:SR K κ ι1 H1 (σ0++τ) (Z1++θ) G1)(l1:σ0.length=Z1.length)(h2:SR K κ ι2 H2 (σ++τ2) (Z2++θ2) G2)(l2:σ.length=Z2.length)
  (st:Step ι1 (own σ0 Z1++ι1) H1 ι2 (own (σ++τ2) (Z2++θ2)++ι2) H2):SR K κ ι2 H2 (σ++(τ++τ2)) (Z2++(θ++θ2)) G2/\Step ι1 (own (σ0++τ) (Z1++θ)++ι1) H1 ι2 (own (σ++(τ++τ2)) (Z2++(θ++θ2))++ι2) H2:=by
 obtain⟨a1,b1⟩:=cf l1 h1.sl
 obtain⟨a2,b2⟩:=cf l2 h2.sl
 have lt:=Paired.length b1
 have n1:=h1.nd
 have n2:=h2.nd
 rw [bN _ _ l1] at n1
 rw [bN _ _ l2] at n2
 have st':=st
 rw [bN _ _ l2] at st'
 have apart:∀a,a∈own τ θ->a∉own σ0 Z1++ι1:=λa q z=>by
  have:=n1 a
  rw [bc,z24] at this
  have p1:0<bc a (own τ θ):=gQ.mp q
  rcases z1d.mp z with z|z
  ·have:=gQ.mp z;unfold bc at *;lia
  ·have:=gQ.mp z;unfold bc at *;lia
 have y3d4:∀a,a∈own τ θ->∃o,H1 a=some o:=λa q=>let ⟨o,e,_⟩:=k9 b1 q;⟨o,e⟩
 have e2:own (σ++(τ++τ2)) (Z2++(θ++θ2))=own σ Z2++(own τ θ++own τ2 θ2):=by rw [bN _ _ l2,bN _ _ lt]
 refine⟨⟨dw a2 (dw (iC st.pre st.kp (λa q=>?_) b1) b2),h2.gs,λa=>?_⟩,?_⟩
 ·obtain⟨o,e⟩:=y3d4 a q
  rw [e,st.keep a o e (apart a q)]
 ·rw [e2]
  have m2:=n2 a
  have m1:=n1 a
  simp only [bc,z24] at m1 m2 ⊢
  by_cases q:a∈own τ θ
  ·obtain⟨o,e⟩:=y3d4 a q
   have z:a∉own σ Z2++own τ2 θ2++ι2:=λz=>by
    rcases st'.src a z with y|y
    ·exact apart a q y
    ·rw [e] at y;cases y
   have:bc a (own σ Z2++own τ2 θ2++ι2)=0:=List.count_eq_zero.mpr z
   simp only [bc,z24] at this
   lia
  ·have:bc a (own τ θ)=0:=List.count_eq_zero.mpr q
   unfold bc at this
   lia
 ·rw [e2,bN _ _ l1]
  have s:=(Step.y81 (t:=own τ θ) st')
  refine (s.sub λa h=>?_).wide λa h=>?_
  ·simp only [z1d] at h ⊢
   rcases h with (h|h|h)|h
   ·exact .inr (.inl (.inl h))
   ·exact .inl h
   ·exact .inr (.inl (.inr h))
   ·exact .inr (.inr h)
  ·simp only [z1d] at h ⊢
   rcases h with h|h|h
   ·exact .inl (.inr h)
   ·exact .inl (.inl h)
   ·exact .inr h
end
end
section
section
theorem lg(a:Addr)(m:M):bo (some (.ref a)) (some (.ow m))=[a]:=rfl
theorem wJ:∀{σ:St} {Z:List (Option Vl)} {i:Nat} {v w:Option V} {x y:Option Vl} (a:Addr),σ[i]?=some v->Z[i]?=some x ->
  bc a (own (σ.set i w) (Z.set i y))+bc a (bo v x)=bc a (own σ Z)+bc a (bo w y)
 | [],_,_,_,_,_,_,_,h,_=>by simp at h
 | _::_,[],_,_,_,_,_,_,_,h=>by simp at h
 | v0::σ,x0::Z,0,v,w,x,y,a,h1,h2=>by
  simp at h1 h2
  subst h1;subst h2
  show bc a (bo w y++own σ Z)+bc a (bo v0 x0)=bc a (bo v0 x0++own σ Z)+bc a (bo w y)
  simp only [bc,z24]
  lia
 | v0::σ,x0::Z,i+1,v,w,x,y,a,h1,h2=>by
  have:=wJ (w:=w) (y:=y) a (by simpa using h1) (by simpa using h2)
  show bc a (bo v0 x0++own (σ.set i w) (Z.set i y))+bc a (bo v x)=bc a (bo v0 x0++own σ Z)+bc a (bo w y)
  simp only [bc,z24] at this ⊢
  lia
theorem sV{α:Type}{l:List α}{i:Nat}{v:α}(h:l[i]?=some v):l.set i v=l:=by
 refine List.ext_getElem? λj=>?_
 by_cases e:i=j
 ·subst e
  rw [List.getElem?_set_self (zd.mp h).1,h]
 ·rw [z2b e]
theorem sW (a:Addr)(h1:σ[i]?=some v)(h2:Z[i]?=some x) :
  bc a (own σ (Z.set i y))+bc a (bo v x)=bc a (own σ Z)+bc a (bo v y):=by
 have:=wJ (w:=v) (y:=y) a h1 h2
 rw [sV h1] at this
 exact this
theorem lh{α β:Type}{F:α->β->Prop}:∀{l:List α} {r:List β} {i:Nat} {y:β},Paired F l r->r[i]?=some y->∃x,l[i]?=some x/\F x y
 | _,_,_,_,.nil,h=>by simp at h
 | _,_,0,_,.cons h _,e=>by simp at e;subst e;exact⟨_,rfl,h⟩
 | _,_,i+1,y,.cons _ r,e=>by
  obtain⟨x,h1,h2⟩:=lh r (by simpa using e)
  exact⟨x,by simpa using h1,h2⟩
theorem n8{α β:Type}{F:α->β->Prop}{x:α}{y:β}:∀{l:List α} {r:List β} (i:Nat),Paired F l r->F x y->Paired F (l.set i x) (r.set i y)
 | _,_,_,.nil,_=>.nil
 | _,_,0,.cons _ r,q=>.cons q r
 | _,_,i+1,.cons h r,q=>.cons h (n8 i r q)
theorem lr{α β:Type}{F:α->β->Prop}{x:α}{y:β}{l:List α}{r:List β}{i:Nat}(h:Paired F l r)(e:l[i]?=some x)(q:F x y):Paired F l (r.set i y):=by
 have:=n8 i h q
 rw [sV e] at this
 exact this
theorem SR.y165(h:SR K κ ι H σ Z G){i:Nat}{d:I}(e:Z[i]?=some (some (.im d))):∃v,σ[i]?=some (some v)/\RpI K ι H v d:=by
 obtain⟨x,e1,q⟩:=lh h.sl e
 cases q with
 | im q=>exact⟨_,e1,q⟩
theorem SR.y167(h:SR K κ ι H σ Z G){i:Nat}{m:M}(e:Z[i]?=some (some (.ow m))):∃a,σ[i]?=some (some (.ref a))/\du K κ ι H a m:=by
 obtain⟨x,e1,q⟩:=lh h.sl e
 cases q with
 | ow q=>exact⟨_,e1,q⟩
theorem SR.y163(h:SR K κ ι H σ Z G){k:Nat}{m:M}(e:G[k]?=some m):∃a,ι[k]?=some a/\du K κ ι H a m:=lh h.gs e
theorem sX:∀{σ:St} {Z:List (Option Vl)} {i:Nat} {a:Addr} {m:M},σ[i]?=some (some (.ref a))->Z[i]?=some (some (.ow m))->a∈own σ Z
 | [],_,_,_,_,h,_=>by simp at h
 | _::_,[],_,_,_,_,h=>by simp at h
 | v0::σ,x0::Z,0,a,m,h1,h2=>by
  simp at h1 h2
  subst h1;subst h2
  exact List.mem_append_left _ (z20.mpr rfl)
 | v0::σ,x0::Z,i+1,a,m,h1,h2=>z22 _ (sX (by simpa using h1) (by simpa using h2))
theorem SR.same(h:SR K κ ι H σ Z G)(s:eB H H'):SR K κ ι H' σ Z G where
 sl:=iC (bQ.refl _) (Kp.same s) (λa q=>by obtain⟨o,e,_⟩:=k9 h.sl q;rw [e,s _ _ e]) h.sl
 gs:=k7 (bQ.refl _) (Kp.same s) (λa q=>by obtain⟨o,e,_⟩:=nZ h.gs q;rw [e,s _ _ e]) h.gs
 nd:=h.nd
theorem Step.same(s:eB H H'):Step ι fp H ι fp H':=⟨bQ.refl _,λ_ h=>.inl h,λa o e _=>s _ _ e,λa e=>s.free e,Kp.same s⟩
theorem eB.lay (hp:H p=none):eB H (aD H p o):=λb u e=>by rw [aI (dN e hp)];exact e
theorem SR.pop(h:SR K κ ι H (σ++τ) (Z++θ) G)(l:σ.length=Z.length):SR K κ ι H σ Z G:=by
 obtain⟨a,b⟩:=cf l h.sl
 refine⟨a,h.gs,λx=>?_⟩
 have:=h.nd x
 rw [bN _ _ l] at this
 simp only [bc,z24] at this ⊢
 lia
theorem cD(l:σ.length=Z.length)(h:a∈own σ Z++ι):a∈own (σ++τ) (Z++θ)++ι:=by
 rw [bN _ _ l]
 simp only [z1d] at h ⊢
 rcases h with h|h
 ·exact .inl (.inl h)
 ·exact .inr h
theorem SR.push_im (h:SR K κ ι H σ Z G)(r:RpI K ι H v d):SR K κ ι H (σ++[some v]) (Z++[some (.im d)]) G:=by
 refine⟨dw h.sl (.cons (.im r) .nil),h.gs,λx=>?_⟩
 have e:own [some v] [some (.im d)]=[]:=by show bo _ _++[]=[];rw [ft];rfl
 rw [bN _ _ h.len,e,z18]
 exact h.nd x
theorem dP (l:σ.length=Z.length):own (σ++[some v]) (Z++[some (.im d)])=own σ Z:=by
 rw [bN _ _ l]
 show own σ Z++(bo _ _++[])=_
 rw [ft];simp
theorem fw (l:σ.length=Z.length):own (σ++[some (.ref a)]) (Z++[some (.ow m)])=own σ Z++[a]:=by
 rw [bN _ _ l];rfl
theorem SR.y342 (h:SR K κ ι H σ Z G)(hp:H p=none)(r:du K κ ι (aD H p o) p m):SR K κ ι (aD H p o) (σ++[some (.ref p)]) (Z++[some (.ow m)]) G:=by
 have h':=h.same (eB.lay (o:=o) hp)
 refine⟨dw h'.sl (.cons (.ow r) .nil),h'.gs,λx=>?_⟩
 rw [fw h.len]
 have:=h.nd x
 simp only [bc,z24] at this ⊢
 by_cases e:p=x
 ·subst e
  have n:p∉own σ Z++ι:=λq=>by obtain⟨o,e,_⟩:=h.mu q;rw [hp] at e;cases e
  have:bc p (own σ Z++ι)=0:=List.count_eq_zero.mpr n
  simp only [bc,z24] at this
  simp
  lia
 ·have:List.count x [p]=0:=List.count_eq_zero.mpr (by simp;exact λz=>e z.symm)
  lia
theorem Step.y1e3 (l:σ.length=Z.length)(hp:H p=none):Step ι (own σ Z++ι) H ι (own (σ++[some (.ref p)]) (Z++[some (.ow m)])++ι) (aD H p o) where
 pre:=bQ.refl _
 src:=λa h=>by
  rw [fw l] at h
  simp only [z1d,z20] at h ⊢
  rcases h with (h|h)|h
  ·exact .inl (.inl h)
  ·subst h;exact .inr hp
  ·exact .inl (.inr h)
 keep:=λa u e _=>eB.lay hp _ _ e
 dom:=λa e=>(eB.lay hp).free e
 kp:=Kp.same (eB.lay hp)
theorem SR.store (h:SR K κ ι H (σ++[some v]) (Z++[some x]) G)(l:σ.length=Z.length):SR K κ ι H (σ.set i (some v)) (Z.set i (some x)) G:=by
 obtain⟨a,b⟩:=cf l h.sl
 cases b with
 | cons b _ =>
  refine⟨n8 i a b,h.gs,λy=>?_⟩
  have n:=h.nd y
  rw [bN _ _ l] at n
  have e1:own [some v] [some x]=bo (some v) (some x):=z18 _
  rw [e1] at n
  by_cases hi:i<σ.length
  ·have:=wJ (Z:=Z) (w:=some v) (y:=some x) y (zf hi) (zf (by lia))
   simp only [bc,z24] at this n ⊢
   lia
  ·rw [List.set_eq_of_length_le (by lia),List.set_eq_of_length_le (by lia)]
   simp only [bc,z24] at n ⊢
   lia
theorem sY  (l:σ.length=Z.length)(h:a∈own (σ.set i (some v)) (Z.set i (some x))++ι):a∈own (σ++[some v]) (Z++[some x])++ι:=by
 rw [bN _ _ l]
 have e1:own [some v] [some x]=bo (some v) (some x):=z18 _
 rw [e1]
 rw [gQ] at h ⊢
 by_cases hi:i<σ.length
 ·have:=wJ (Z:=Z) (w:=some v) (y:=some x) a (zf hi) (zf (by lia))
  simp only [bc,z24] at this h ⊢
  lia
 ·rw [List.set_eq_of_length_le (by lia),List.set_eq_of_length_le (by lia)] at h
  simp only [bc,z24] at h ⊢
  lia
theorem SR.take{i:Nat}{a:Addr}{m:M}(h:SR K κ ι H σ Z G)(e1:σ[i]?=some (some (.ref a)))(e2:Z[i]?=some (some (.ow m))) :
  SR K κ ι H (σ++[some (.ref a)]) (Z.set i none++[some (.ow m)]) G/\Step ι (own σ Z++ι) H ι (own (σ++[some (.ref a)]) (Z.set i none++[some (.ow m)])++ι) H:=by
 have l:σ.length=(Z.set i none).length:=by rw [z33];exact h.len
 obtain⟨a',e1',r⟩:=h.y167 e2
 rw [e1] at e1';cases e1'
 have q:∀x,bc x (own σ (Z.set i none))+bc x [a]=bc x (own σ Z):=λx=>by
  have:=sW (y:=none) x e1 e2
  rw [lg,jz] at this
  exact this
 refine⟨⟨dw (lr h.sl e1 (.no _)) (.cons (.ow r) .nil),h.gs,λx=>?_⟩,(Step.refl _ _ _).sub λx hx=>?_⟩
 ·rw [fw l]
  have:=h.nd x
  have:=q x
  simp only [bc,z24] at *
  lia
 ·rw [fw l,gQ] at hx
  rw [gQ]
  have:=q x
  simp only [bc,z24] at *
  lia
theorem SR.gl(h:SR K κ ι H σ Z G):ι.length=G.length:=Paired.length h.gs
theorem SR.box (h:SR K κ ι H (σ++[some (.ref a)]) (Z++[some (.ow m)]) G)(l:σ.length=Z.length) :
  SR K κ (ι++[a]) H σ Z (G++[m])/\RpI K (ι++[a]) H (.ref a) (.ref G.length)/\Step ι (own (σ++[some (.ref a)]) (Z++[some (.ow m)])++ι) H (ι++[a]) (own σ Z++(ι++[a])) H:=by
 obtain⟨p,q⟩:=cf l h.sl
 have pr:=bQ.snoc ι [a]
 cases q with
 | cons q _ =>
  cases q with
  | ow q =>
   refine⟨⟨iC pr (Kp.refl _) (λ_ _=>rfl) p,dw (k7 pr (Kp.refl _) (λ_ _=>rfl) h.gs) (.cons (q.mono pr (Kp.refl _) rfl) .nil),λx=>?_⟩,?_,⟨pr,λx hx=>.inl ?_,λ_ _ e _=>e,λ_ e=>e,Kp.refl _⟩⟩
   ·have:=h.nd x
    rw [fw l] at this
    simp only [bc,z24] at this ⊢
    lia
   ·refine .ref ?_
    have e:=h.gl
    rw [<- e,z1f (z12 _),Nat.sub_self];rfl
   ·rw [fw l]
    simp only [z1d] at hx ⊢
    rcases hx with hx|hx|hx
    ·exact .inl (.inl hx)
    ·exact .inr hx
    ·exact .inl (.inr hx)
theorem SR.poke{i:Nat}{a:Addr}{m m':M}{o:HO}(h:SR K κ ι H σ Z G)(e1:σ[i]?=some (some (.ref a)))(e2:Z[i]?=some (some (.ow m)))(r:∀(ρ:du K κ ι H a m),Kp H (aD H a o)->du K κ ι (aD H a o) a m')(hf:sU m=false:=by rfl) :
  SR K κ ι (aD H a o) σ (Z.set i (some (.ow m'))) G/\Step ι (own σ Z++ι) H ι (own σ (Z.set i (some (.ow m')))++ι) (aD H a o):=by
 obtain⟨a',e1',rm⟩:=h.y167 e2
 rw [e1] at e1';cases e1'
 obtain⟨u,hu,mu⟩:=rm.mu
 have kp:Kp H (aD H a o):=⟨λb xs e=>by rw [aI (kx e hu (by rintro rfl;cases mu))];exact e,λb o' u' e=>by rw [aI (λz=>by subst z;exact rm.nf hf _ _ e)];exact e⟩
 have q:∀x,bc x (own σ (Z.set i (some (.ow m'))))=bc x (own σ Z):=λx=>by
  have:=sW (y:=some (.ow m')) x e1 e2
  rw [lg,lg] at this
  lia
 have mem:=sX e1 e2
 have na:∀x,x∈own σ (Z.set i none)->x≠a:=λx hx z=>by
  subst z
  have:=sW (y:=none) x e1 e2
  rw [lg,jz] at this
  have n:=h.nd x
  have:=gQ.mp hx
  have z1:bc x [x]=1:=by simp [bc]
  have z0:bc x []=0:=rfl
  lia
 have ni:∀x,x∈ι->x≠a:=λx hx z=>by
  subst z
  have n:=h.nd x
  have:=gQ.mp hx
  have:=gQ.mp mem
  lia
 have p1:=iC (bQ.refl ι) kp (λx hx=>aI (na x hx)) (lr h.sl e1 (.no _))
 refine⟨⟨?_,k7 (bQ.refl ι) kp (λx hx=>aI (ni x hx)) h.gs,λx=>by rw [q];exact h.nd x⟩,⟨bQ.refl _,λx hx=>.inl ?_,λx u e n=>?_,λx e=>?_,kp⟩⟩
 ·have:=lr p1 e1 (.ow (r rm kp))
  rw [List.set_set] at this
  exact this
 ·rw [gQ] at hx ⊢
  have:=q x
  simp only [bc,z24] at *
  lia
 ·rw [aI (λz=>n (by rw [z];exact List.mem_append_left _ mem))];exact e
 ·by_cases z:x=a
  ·subst z;rw [bh] at e;cases e
  ·rw [aI z] at e;exact e
theorem SR.y2f7{k:Nat}{a:Addr}{m m':M}{o:HO}(h:SR K κ ι H σ Z G)(e1:ι[k]?=some a)(e2:G[k]?=some m)(r:∀(ρ:du K κ ι H a m),Kp H (aD H a o)->du K κ ι (aD H a o) a m')(hf:sU m=false:=by rfl) :
  SR K κ ι (aD H a o) σ Z (G.set k m')/\Step ι (own σ Z++ι) H ι (own σ Z++ι) (aD H a o):=by
 obtain⟨a',e1',rm⟩:=h.y163 e2
 rw [e1] at e1';cases e1'
 obtain⟨u,hu,mu⟩:=rm.mu
 have kp:Kp H (aD H a o):=⟨λb xs e=>by rw [aI (kx e hu (by rintro rfl;cases mu))];exact e,λb o' u' e=>by rw [aI (λz=>by subst z;exact rm.nf hf _ _ e)];exact e⟩
 have mem:a∈ι:=z34 e1
 have na:∀x,x∈own σ Z->x≠a:=λx hx z=>by
  subst z
  have n:=h.nd x
  have:=gQ.mp hx
  have:=gQ.mp mem
  lia
 have inj:∀j,ι[j]?=some a->j=k:=λj ej=>by
  have n:=h.nd a
  have c1:bc a ι≤1:=by lia
  by_cases z:j=k
  ·exact z
  ·exfalso
   have:2≤bc a ι:=by
    have hj:=(zd.mp ej)
    have hk:=(zd.mp e1)
    obtain⟨hj,vj⟩:=hj
    obtain⟨hk,vk⟩:=hk
    have two:∀(l:List Addr) (i j:Nat) (hi:i<l.length) (hj:j<l.length),i<j->l[i]=a->l[j]=a->2≤List.count a l:=by
     intro l i j hi hj hij e1 e2
     have e:l=l.take j++l.drop j:=(List.take_append_drop j l).symm
     rw [e,z24]
     have p1:0<List.count a (l.take j):=List.count_pos_iff.mpr (by rw [List.mem_take_iff_getElem];exact⟨i,by lia,e1⟩)
     have p2:0<List.count a (l.drop j):=List.count_pos_iff.mpr (by rw [List.mem_drop_iff_getElem];exact⟨0,by lia,by simpa using e2⟩)
     lia
    rcases Nat.lt_or_gt_of_ne z with z|z
    ·exact two ι j k hj hk z vj vk
    ·exact two ι k j hk hj z vk vj
   lia
 have objs:∀(as:List Addr) (Gs:List M) (b:Nat),(∀j x,as[j]?=some x->x=a->b+j=k)->Paired (du K κ ι H) as Gs->(∀j,b+j=k->j<as.length->as[j]?=some a)->Paired (du K κ ι (aD H a o)) as (if b≤k then Gs.set (k-b) m' else Gs):=by
  intro as Gs b hj p hk
  induction p generalizing b with
  | nil=>by_cases z:b≤k<;>simp [z]<;>exact .nil
  | @cons x y l r hx hr ih =>
   have ih':=ih (b+1) (λj x e z=>by have:=hj (j+1) x (by simpa using e) z;lia) (λj e l=>by have:=hk (j+1) (by lia) (by simp;lia);simpa using this)
   by_cases z:b=k
   ·subst z
    have xa:x=a:=by have:=hk 0 rfl (by simp);simpa using this
    subst xa
    rw [if_neg (by lia)] at ih'
    rw [if_pos (z12 _),Nat.sub_self]
    exact .cons (r rm kp) ih'
   ·have xa:x≠a:=λe=>z (by have:=hj 0 x rfl e;lia)
    by_cases w:b≤k
    ·rw [if_pos (by lia)] at ih'
     rw [if_pos w]
     obtain⟨n,hn⟩:∃n,k-b=n+1:=⟨k-b-1,by lia⟩
     have hn':k-(b+1)=n:=by lia
     rw [hn];rw [hn'] at ih'
     exact .cons (hx.mono (bQ.refl _) kp (aI xa)) ih'
    ·rw [if_neg (by lia)] at ih'
     rw [if_neg w]
     exact .cons (hx.mono (bQ.refl _) kp (aI xa)) ih'
 have p2:=objs ι G 0 (λj x e z=>by subst z;have:=inj j e;lia) h.gs (λj e _=>(show j=k by lia) ▸ e1)
 rw [if_pos (Nat.zero_le _),Nat.sub_zero] at p2
 refine⟨⟨iC (bQ.refl ι) kp (λx hx=>aI (na x hx)) h.sl,p2,h.nd⟩,⟨bQ.refl _,λx hx=>.inl hx,λx u e n=>?_,λx e=>?_,kp⟩⟩
 ·rw [aI (λz=>n (by rw [z];exact z22 _ mem))];exact e
 ·by_cases z:x=a
  ·subst z;rw [bh] at e;cases e
  ·rw [aI z] at e;exact e
end
end
section
inductive Ev where
 | v (x:Vl)|s (i:Nat)
noncomputable abbrev De:=List (Option Vl)
noncomputable abbrev Mo(α:Type):=De->List M->Option (α×De×List M)
noncomputable def bd{α β:Type}(m:Mo α)(f:α->Mo β):Mo β:=λZ G=>match m Z G with
 | some (a,Z1,G1)=>f a Z1 G1
 | none=>none
noncomputable def rt{α:Type}(a:α):Mo α:=λZ G=>some (a,Z,G)
theorem bW{α β:Type}{m:Mo α}{f:α->Mo β}{Z:De}{G:List M}{r:β×De×List M}(h:bd m f Z G=some r):∃a Z1 G1,m Z G=some (a,Z1,G1)/\f a Z1 G1=some r:=by
 unfold bd at h
 split at h
 ·exact⟨_,_,_,by assumption,h⟩
 ·cases h
theorem mP{α β:Type}{m:Mo α}{f:α->Mo β}{Z Z1:De}{G G1:List M}{a:α}(h:m Z G=some (a,Z1,G1)):bd m f Z G=f a Z1 G1:=by
 unfold bd;rw [h]
noncomputable def tS:List Ev->List V->St
 | .v _::es,v::vs=>some v::tS es vs
 | .s _::es,_::vs=>tS es vs
 | _,_=>[]
noncomputable def tD:List Ev->De
 | .v x::es=>some x::tD es
 | .s _::es=>tD es
 | []=>[]
theorem n9:∀{es:List Ev} {vs:List V} (fs:List Ev) (ws:List V),es.length=vs.length->tS (es++fs) (vs++ws)=tS es vs++tS fs ws
 | [],[],_,_,_=>rfl
 | [],_::_,_,_,h=>by cases h
 | _::_,[],_,_,h=>by cases h
 | .v x::es,v::vs,fs,ws,h=>by
  show some v::tS (es++fs) (vs++ws)=some v::(tS es vs++tS fs ws)
  rw [n9 fs ws (by simpa using h)]
 | .s i::es,v::vs,fs,ws,h=>by
  show tS (es++fs) (vs++ws)=tS es vs++tS fs ws
  rw [n9 fs ws (by simpa using h)]
theorem oa:∀(es fs:List Ev),tD (es++fs)=tD es++tD fs
 | [],_=>rfl
 | .v x::es,fs=>by
  show some x::tD (es++fs)=some x::(tD es++tD fs)
  rw [oa]
 | .s i::es,fs=>by
  show tD (es++fs)=tD es++tD fs
  rw [oa]
structure Args(K:W.Frag)(κ:Str->Addr)(ι:List Addr)(H:Hp)(σ:St)(Z:De)(G:List M)(es:List Ev)(vs:List V):Prop where
 l:σ.length=Z.length
 sr:SR K κ ι H (σ++tS es vs) (Z++tD es) G
 al:Paired (λ(e:Ev) (v:V)=>∀i,e=.s i->σ[i]?=some (some v)) es vs
structure After(K:W.Frag)(κ:Str->Addr)(σ:St)(ι fp:List Addr)(H:Hp)(es:List Ev)(Z':De)(G':List M)(vs:List V)(ι':List Addr)(H':Hp):Prop where
 ar:Args K κ ι' H' σ Z' G' es vs
 st:Step ι fp H ι' (own (σ++tS es vs) (Z'++tD es)++ι') H'
theorem bF(h:some (x,Z,G)=some (e,Z',G'))(a:After K κ σ ι fp H [x] Z G vs ι' H'):After K κ σ ι fp H [e] Z' G' vs ι' H':=by cases h;exact a
noncomputable def aT(K:W.Frag)(κ:Str->Addr)(f:Mo Ev):TE:=λσ H Q=>∃ι Z G e Z' G',SR K κ ι H σ Z G/\f Z G=some (e,Z',G')/\∀v ι' H',After K κ σ ι (own σ Z++ι) H [e] Z' G' [v] ι' H'->Q v H'
noncomputable def ir(K:W.Frag)(κ:Str->Addr)(f:Mo (List Ev)):TA:=λσ H Q=>∃ι Z G es Z' G',SR K κ ι H σ Z G/\f Z G=some (es,Z',G')/\∀vs ι' H',After K κ σ ι (own σ Z++ι) H es Z' G' vs ι' H'->Q vs H'
section
variable {κ:Str->Addr}{H H1 H2:Hp}{σ:St}{Z Z1 Z2:De}
theorem Args.base(h:Args K κ ι H σ Z G es vs):SR K κ ι H σ Z G:=h.sr.pop h.l
theorem AD (h:n=vs.length)(e:n=0:=by rfl):vs=[]:=by subst e;cases vs with|nil=>rfl|cons _ _=>cases h
theorem bI (h:n=vs.length)(e:n=1:=by rfl):∃a,vs=[a]:=by
 subst e
 cases vs with
 | nil=>cases h
 | cons a r=>exact⟨a,by rw [AD (Nat.succ.inj h)]⟩
theorem cg (h:n=vs.length)(e:n=2:=by rfl):∃a b,vs=[a,b]:=by
 subst e
 cases vs with
 | nil=>cases h
 | cons a r=>obtain⟨b,e⟩:=bI (Nat.succ.inj h);exact⟨a,b,by rw [e]⟩
theorem og (h:n=vs.length)(e:n=3:=by rfl):∃a b c,vs=[a,b,c]:=by
 subst e
 cases vs with
 | nil=>cases h
 | cons a r=>obtain⟨b,c,e⟩:=cg (Nat.succ.inj h);exact⟨a,b,c,by rw [e]⟩
theorem Args.len(h:Args K κ ι H σ Z G es vs):es.length=vs.length:=Paired.length h.al
theorem After.app(a:After K κ σ ι fp H es Z1 G1 vs ι1 H1)(b:After K κ σ ι1 (own σ Z1++ι1) H1 fs Z2 G2 ws ι2 H2):After K κ σ ι fp H (es++fs) Z2 G2 (vs++ws) ι2 H2:=by
 obtain⟨s,t⟩:=SR.join a.ar.sr a.ar.l b.ar.sr b.ar.l b.st
 have e1:=n9 fs ws a.ar.len
 have e2:=oa es fs
 refine⟨⟨b.ar.l,by rw [e1,e2];exact s,dw a.ar.al b.ar.al⟩,?_⟩
 rw [e1,e2]
 exact a.st.trans t
theorem After.nil(h:SR K κ ι H σ Z G):After K κ σ ι (own σ Z++ι) H [] Z G [] ι H:=by
 refine⟨⟨h.len,?_,.nil⟩,?_⟩
 ·show SR K κ ι H (σ++[]) (Z++[]) G
  rw [z18,z18];exact h
 ·show Step ι _ H ι (own (σ++[]) (Z++[])++ι) H
  rw [z18,z18];exact Step.refl _ _ _
noncomputable def ae:Mo (List Ev):=rt []
noncomputable def af(fa:Mo Ev)(fr:Mo (List Ev)):Mo (List Ev):=bd fa λe=>bd fr λes=>rt (e::es)
theorem sZ(h:ir K κ ae σ H Q):nH σ H Q:=by
 obtain⟨ι,Z,G,es,Z',G',s,e,k⟩:=h
 cases e
 exact k _ _ _ (After.nil s)
theorem AE (h:ir K κ (af fa fr) σ H Q):qW (aT K κ fa) (ir K κ fr) σ H Q:=by
 obtain⟨ι,Z,G,es,Z',G',s,e,k⟩:=h
 obtain⟨x,Z1,G1,e1,e⟩:=bW e
 obtain⟨xs,Z2,G2,e2,e⟩:=bW e
 cases e
 refine⟨ι,Z,G,x,Z1,G1,s,e1,λv ι1 H1 a=>?_⟩
 refine⟨ι1,Z1,G1,xs,_,_,a.ar.base,e2,λvs ι2 H2 b=>?_⟩
 exact k _ _ _ (a.app b)
noncomputable def ay(K:W.Frag)(κ:Str->Addr)(r:List V->Hp->VK->Prop)(p:List Ev->Mo Ev):Prop :=
 ∀(ι:List Addr) (H:Hp) (σ:St) (Z:De) (G:List M) (es:List Ev) (vs:List V) (e:Ev) (Z':De) (G':List M) (Q:VK),Args K κ ι H σ Z G es vs->p es Z G=some (e,Z',G') ->
  (∀v ι' H',After K κ σ ι (own (σ++tS es vs) (Z++tD es)++ι) H [e] Z' G' [v] ι' H'->Q v H')->r vs H Q
theorem After.then (a:After K κ σ ι fp H es Z1 G1 vs ι1 H1)(b:After K κ σ ι1 (own (σ++tS es vs) (Z1++tD es)++ι1) H1 es' Z2 G2 vs' ι2 H2):After K κ σ ι fp H es' Z2 G2 vs' ι2 H2:=⟨b.ar,a.st.trans b.st⟩
theorem eC  (hp:ay K κ r p)(h:aT K κ (bd fa p) σ H Q):ir K κ fa σ H λvs H1=>r vs H1 Q:=by
 obtain⟨ι,Z,G,e,Z',G',s,eq,k⟩:=h
 obtain⟨xs,Z1,G1,e1,e2⟩:=bW eq
 refine⟨ι,Z,G,xs,Z1,G1,s,e1,λvs ι1 H1 a=>?_⟩
 exact hp _ _ _ _ _ _ _ _ _ _ _ a.ar e2 λv ι2 H2 b=>k _ _ _ (a.then b)
noncomputable def r2(r:R2):List V->Hp->VK->Prop:=λvs H Q=>∃x y,vs=[x,y]/\r x y H Q
noncomputable def r1(r:V->Hp->VK->Prop):List V->Hp->VK->Prop:=λvs H Q=>∃x,vs=[x]/\r x H Q
noncomputable def ag(p:List Ev->Mo Ev)(fa fb:Mo Ev):Mo Ev:=bd fa λx=>bd fb λy=>p [x,y]
noncomputable def bC(p:List Ev->Mo Ev)(fa:Mo Ev):Mo Ev:=bd fa λx=>p [x]
theorem gS  (hp:ay K κ (r2 r) p)(h:aT K κ (ag p fa fb) σ H Q):mL r (aT K κ fa) (aT K κ fb) σ H Q:=by
 obtain⟨ι,Z,G,e,Z',G',s,eq,k⟩:=h
 obtain⟨x,Z1,G1,e1,eq⟩:=bW eq
 obtain⟨y,Z2,G2,e2,eq⟩:=bW eq
 refine⟨ι,Z,G,x,Z1,G1,s,e1,λv ι1 H1 a=>?_⟩
 refine⟨ι1,Z1,G1,y,Z2,G2,a.ar.base,e2,λw ι2 H2 b=>?_⟩
 have c:=a.app b
 obtain⟨x',y',e',q⟩:=hp _ _ _ _ _ _ _ _ _ _ Q c.ar eq λv ι3 H3 d=>k _ _ _ (c.then d)
 cases e'
 exact q
theorem gU  (hp:ay K κ (r1 r) p)(h:aT K κ (bC p fa) σ H Q):tUn r (aT K κ fa) σ H Q:=by
 obtain⟨ι,Z,G,e,Z',G',s,eq,k⟩:=h
 obtain⟨x,Z1,G1,e1,eq⟩:=bW eq
 refine⟨ι,Z,G,x,Z1,G1,s,e1,λv ι1 H1 a=>?_⟩
 obtain⟨x',e',q⟩:=hp _ _ _ _ _ _ _ _ _ _ Q a.ar eq λv ι3 H3 d=>k _ _ _ (a.then d)
 cases e'
 exact q
theorem oh:∀{es:List Ev} {vs:List V} {j:Nat} {x:Vl} {v:V},Paired (RpE K κ ι H) (tS es vs) (tD es)->es[j]?=some (.v x)->vs[j]?=some v->RpE K κ ι H (some v) (some x)
 | [],_,_,_,_,_,h,_=>by simp at h
 | _::_,[],_,_,_,_,_,h=>by simp at h
 | .v y::es,w::vs,0,x,v,p,h1,h2=>by
  simp at h1 h2
  subst h1;subst h2
  cases p with
  | cons q _=>exact q
 | .s i::es,w::vs,0,x,v,p,h1,h2=>by simp at h1
 | .v y::es,w::vs,j+1,x,v,p,h1,h2=>by
  cases p with
  | cons _ p=>exact oh p (by simpa using h1) (by simpa using h2)
 | .s i::es,w::vs,j+1,x,v,p,h1,h2=>oh (vs:=vs) p (by simpa using h1) (by simpa using h2)
theorem Args.im{j:Nat}{d:I}{v:V}(a:Args K κ ι H σ Z G es vs)(h1:es[j]?=some (.v (.im d)))(h2:vs[j]?=some v):RpI K ι H v d:=by
 have:=oh (cf a.l a.sr.sl).2 h1 h2
 cases this with
 | im r=>exact r
noncomputable def pk(Z:De)(G:List M):Ev->Option M
 | .v (.ow m)=>some m
 | .v (.im (.ref k))=>G[k]?
 | .v (.im _)=>none
 | .s i=>match Z[i]? with
  | some (some (.ow m))=>some m
  | _=>none
theorem Args.pk{j:Nat}{e:Ev}{m:M}{v:V}(a:Args K κ ι H σ Z G es vs)(h1:es[j]?=some e)(h2:vs[j]?=some v)(h:B.pk Z G e=some m):∃b,v=.ref b/\du K κ ι H b m:=by
 cases e with
 | v x =>
  have q:=oh (cf a.l a.sr.sl).2 h1 h2
  cases x with
  | ow m'=>cases h;cases q with
   | ow r=>exact⟨_,rfl,r⟩
  | im d =>
   cases q with
   | im r =>
    cases r with
    | ref e =>
     obtain⟨b,e',r⟩:=a.base.y163 h
     rw [e] at e';cases e'
     exact⟨_,rfl,r⟩
    | _=>cases h
 | s i =>
  have h:(match Z[i]? with|some (some (.ow m))=>some m|_=>none)=some m:=h
  obtain⟨v',e1,al⟩:∃v',vs[j]?=some v'/\σ[i]?=some (some v'):=by
   have:∀{es:List Ev} {vs:List V} {j:Nat},Paired (λ(e:Ev) (v:V)=>∀i,e=.s i->σ[i]?=some (some v)) es vs->es[j]?=some (.s i)->∃v',vs[j]?=some v'/\σ[i]?=some (some v'):=by
    intro es vs j p
    induction p generalizing j with
    | nil=>intro h;simp at h
    | cons q _ ih =>
     intro h
     cases j with
     | zero=>simp at h;exact⟨_,rfl,q i h⟩
     | succ j=>obtain⟨v',e,z⟩:=ih (by simpa using h);exact⟨v',by simpa using e,z⟩
   exact this a.al h1
  rw [h2] at e1;cases e1
  split at h
  ·rename_i m' e
   cases h
   obtain⟨b,e',r⟩:=a.base.y167 e
   rw [al] at e';cases e'
   exact⟨_,rfl,r⟩
  ·cases h
noncomputable def sq(Z:De)(G:List M):Ev->Option (List I)
 | .v (.im (.tup xs))=>some xs
 | .v (.im (.fro xs))=>some xs
 | .v (.im (.con xs))=>some xs
 | e=>match pk Z G e with
  | some (.lst xs)=>some xs
  | _=>none
theorem Args.sq{j:Nat}{e:Ev}{xs:List I}{v:V}(a:Args K κ ι H σ Z G es vs)(h1:es[j]?=some e)(h2:vs[j]?=some v)(h:B.sq Z G e=some xs):∃b ys,v=.ref b/\(aZ K H b ys∨a7 K H b ys)/\y4d K ι H ys xs:=by
 have y150:(match B.pk Z G e with|some (.lst xs)=>some xs|_=>none)=some xs->∃b ys,v=.ref b/\(aZ K H b ys∨a7 K H b ys)/\y4d K ι H ys xs:=λq=>by
  split at q
  ·rename_i xs' e'
   cases q
   obtain⟨b,e1,ys,h3,r⟩:=a.pk h1 h2 e'
   exact⟨b,ys,e1,.inl (aZ.of h3),r⟩
  ·cases q
 cases e with
 | s i=>exact y150 h
 | v x =>
  cases x with
  | ow m=>exact y150 h
  | im d =>
   have r:=a.im h1 h2
   cases r with
   | tup q r=>cases h;exact⟨_,_,rfl,.inr (a7.of q),r⟩
   | con q r=>cases h;exact⟨_,_,rfl,.inr (a7.kon q),r⟩
   | fro q r=>cases h;exact⟨_,_,rfl,.inl q.sq,r⟩
   | ref q=>exact y150 h
   | non=>exact y150 h
   | bl=>exact y150 h
   | int=>exact y150 h
   | str=>exact y150 h
   | ty=>exact y150 h
theorem a8 (a:Args K κ ι H σ Z G es vs)(r:RpI K ι H v d):After K κ σ ι (own (σ++tS es vs) (Z++tD es)++ι) H [.v (.im d)] Z G [v] ι H:=by
 refine⟨⟨a.l,a.base.push_im r,.cons (λ_ h=>by cases h) .nil⟩,(Step.refl _ _ _).sub λx h=>?_⟩
 have h:x∈own (σ++[some v]) (Z++[some (.im d)])++ι:=h
 rw [dP a.l] at h
 exact cD a.l h
theorem oi (a:Args K κ ι H σ Z G es vs)(s:eB H H')(r:RpI K ι H' v d):After K κ σ ι (own (σ++tS es vs) (Z++tD es)++ι) H [.v (.im d)] Z G [v] ι H':=by
 refine⟨⟨a.l,(a.base.same s).push_im r,.cons (λ_ h=>by cases h) .nil⟩,(Step.same s).sub λx h=>?_⟩
 have h:x∈own (σ++[some v]) (Z++[some (.im d)])++ι:=h
 rw [dP a.l] at h
 exact cD a.l h
theorem lu (a:Args K κ ι H σ Z G es vs)(hp:H p=none)(r:y4d K ι H ys xs):After K κ σ ι (own (σ++tS es vs) (Z++tD es)++ι) H [.v (.im (.tup xs))] Z G [.ref p] ι (aD H p (.tup ys)) :=
 oi a (eB.lay hp) (.tup bh (r.mono (bQ.refl _) (Kp.same (eB.lay hp))))
theorem oj (a:Args K κ ι H σ Z G es vs)(hp:H p=none)(r:du K κ ι (aD H p o) p m):After K κ σ ι (own (σ++tS es vs) (Z++tD es)++ι) H [.v (.ow m)] Z G [.ref p] ι (aD H p o) :=
 ⟨⟨a.l,a.base.y342 hp r,.cons (λ_ h=>by cases h) .nil⟩,(Step.y1e3 a.l hp).wide λx h=>cD a.l h⟩
theorem eR (a:Args K κ ι H σ Z G es vs)(hp:H p=none)(r:y4d K ι H ys xs):After K κ σ ι (own (σ++tS es vs) (Z++tD es)++ι) H [.v (.ow (.lst xs))] Z G [.ref p] ι (aD H p (.lst ys)) :=
 oj a hp ⟨ys,bh,r.mono (bQ.refl _) (Kp.same (eB.lay hp))⟩
noncomputable def fz(Z:De)(G:List M)(m':M):Ev->De×List M
 | .v (.im (.ref k))=>(Z,G.set k m')
 | .v _=>(Z,G)
 | .s i=>(Z.set i (some (.ow m')),G)
theorem om:∀{es:List Ev} {vs:List V} {j:Nat} {x:Vl} {v:V},es[j]?=some (.v x)->vs[j]?=some v->es.length=vs.length->∃n:Nat,(tS es vs)[n]?=some (some v)/\(tD es)[n]?=some (some x)
 | [],_,_,_,_,h,_,_=>by simp at h
 | _::_,[],_,_,_,_,h,_=>by simp at h
 | .v y::es,w::vs,0,x,v,h1,h2,_=>by
  simp at h1 h2
  subst h1;subst h2
  exact⟨0,rfl,rfl⟩
 | .s i::es,w::vs,0,x,v,h1,h2,_=>by simp at h1
 | .v y::es,w::vs,j+1,x,v,h1,h2,l=>by
  obtain⟨n,p,q⟩:=om (by simpa using h1) (by simpa using h2) (by simpa using l)
  exact⟨n+1,by simpa [tS] using p,by simpa [tD] using q⟩
 | .s i::es,w::vs,j+1,x,v,h1,h2,l=>by
  obtain⟨n,p,q⟩:=om (by simpa using h1) (by simpa using h2) (by simpa using l)
  exact⟨n,p,q⟩
theorem wK{i:Nat}:∀{es:List Ev} {vs:List V} {j:Nat} {v:V},Paired (λ(e:Ev) (v:V)=>∀i,e=.s i->σ[i]?=some (some v)) es vs->es[j]?=some (.s i)->vs[j]?=some v->σ[i]?=some (some v):=by
 intro es vs j v p
 induction p generalizing j with
 | nil=>intro h;simp at h
 | cons q _ ih =>
  intro h h2
  cases j with
  | zero=>simp at h h2;subst h2;exact q i h
  | succ j=>exact ih (by simpa using h) (by simpa using h2)
theorem jA{j:Nat}{e:Ev}{m m':M}{b:Addr}{o:HO}{v:V}{d:I}(a:Args K κ ι H σ Z G es vs)(h1:es[j]?=some e)(h2:vs[j]?=some (.ref b))(h:pk Z G e=some m)
  (r:du K κ ι H b m->Kp H (aD H b o)->du K κ ι (aD H b o) b m') (rv:RpI K ι H v d) (hf:sU m=false:=by rfl) :
  After K κ σ ι (own (σ++tS es vs) (Z++tD es)++ι) H [.v (.im d)] (fz Z G m' e).1 (fz Z G m' e).2 [v] ι (aD H b o):=by
 have fin:∀{Z':De} {G':List M},SR K κ ι (aD H b o) σ Z' G'->Step ι (own (σ++tS es vs) (Z++tD es)++ι) H ι (own σ Z'++ι) (aD H b o)->After K κ σ ι (own (σ++tS es vs) (Z++tD es)++ι) H [.v (.im d)] Z' G' [v] ι (aD H b o):=λs st=>by
  refine⟨⟨s.len,s.push_im (rv.mono (bQ.refl _) st.kp),.cons (λ_ h=>by cases h) .nil⟩,st.sub λx h=>?_⟩
  have h:x∈own (σ++[some v]) (_++[some (.im d)])++ι:=h
  rw [dP s.len] at h
  exact h
 cases e with
 | s i =>
  have al:=wK a.al h1 h2
  have h:(match Z[i]? with|some (some (.ow m))=>some m|_=>none)=some m:=h
  split at h
  ·rename_i m0 e
   cases h
   obtain⟨p,q⟩:=a.base.poke al e r hf
   exact fin p (q.wide λx h=>cD a.l h)
  ·cases h
 | v x =>
  cases x with
  | im d =>
   cases d with
   | ref k =>
    have rr:=a.im h1 h2
    cases rr with
    | ref e =>
     obtain⟨p,q⟩:=a.base.y2f7 e h r hf
     exact fin p (q.wide λx h=>cD a.l h)
   | _=>cases h
  | ow m0 =>
   cases h
   obtain⟨n,p1,p2⟩:=om h1 h2 a.len
   have e1:(σ++tS es vs)[σ.length+n]?=some (some (.ref b)):=by rw [z1f (by lia)];simpa using p1
   have e2:(Z++tD es)[σ.length+n]?=some (some (.ow m)):=by rw [a.l,z1f (by lia)];simpa using p2
   obtain⟨p,q⟩:=a.sr.poke e1 e2 r hf
   have e3:(Z++tD es).set (σ.length+n) (some (.ow m'))=Z++(tD es).set n (some (.ow m')):=by rw [a.l,List.set_append_right _ _ (by lia)];simp
   rw [e3] at p q
   exact fin (p.pop a.l) (q.sub λx h=>cD a.l h)
end
end
section
section
noncomputable def aa(i:Nat):Mo Ev:=λZ G=>match Z[i]? with
 | some (some (.im d))=>some (.v (.im d),Z,G)
 | some (some (.ow _))=>some (.s i,Z,G)
 | _=>none
theorem AF (h:aT K κ (aa i) σ H Q):qd i σ H Q:=by
 obtain⟨ι,Z,G,e,Z',G',s,eq,k⟩:=h
 unfold aa at eq
 split at eq
 ·rename_i d hd
  cases eq
  obtain⟨v,e1,r⟩:=s.y165 hd
  refine⟨v,e1,k v ι H ⟨⟨s.len,s.push_im r,.cons (λ_ h=>by cases h) .nil⟩,(Step.refl _ _ _).sub λx h=>?_⟩⟩
  have h:x∈own (σ++[some v]) (Z++[some (.im d)])++ι:=h
  rw [dP s.len] at h
  exact h
 ·rename_i m hd
  cases eq
  obtain⟨a,e1,r⟩:=s.y167 hd
  have n:=After.nil s
  exact⟨_,e1,k _ ι H ⟨⟨s.len,n.ar.sr,.cons (λj h=>by cases h;exact e1) .nil⟩,n.st⟩⟩
 ·cases eq
noncomputable def ah(d:I):Mo Ev:=rt (.v (.im d))
theorem jB (r:∀ι H,RpI K ι H v d)(h:aT K κ (ah d) σ H Q):tC v σ H Q:=by
 obtain⟨ι,Z,G,e,Z',G',s,eq,k⟩:=h
 cases eq
 have a:=a8 (After.nil s).ar (r ι H)
 exact k _ _ _ ⟨a.ar,(After.nil s).st.trans a.st⟩
noncomputable def mQ:Ev->Mo Ev
 | .v (.im d)=>rt (.v (.im d))
 | .v (.ow m)=>λZ G=>some (.v (.im (.ref G.length)),Z,G++[m])
 | .s i=>λZ G=>match Z[i]? with
  | some (some (.ow m))=>some (.v (.im (.ref G.length)),Z.set i (some (.im (.ref G.length))),G++[m])
  | _=>none
noncomputable def jg:Ev->Mo Ev
 | .v x=>rt (.v x)
 | .s i=>λZ G=>match Z[i]? with
  | some (some (.ow m))=>some (.v (.ow m),Z.set i none,G)
  | _=>none
noncomputable def bR(f:Mo Ev):Mo Ev:=bd f mQ
noncomputable def dy(f:Mo Ev):Mo Ev:=bd f jg
theorem y5e  (a:After K κ σ ι fp H [e] Z1 G1 [v] ι1 H1)(h:jg e Z1 G1=some (e',Z',G')):After K κ σ ι fp H [e'] Z' G' [v] ι1 H1/\∃x,e'=.v x:=by
 cases e with
 | v x=>cases h;exact⟨a,_,rfl⟩
 | s i =>
  unfold jg at h
  dsimp only at h
  split at h
  ·rename_i m hm
   cases h
   have al:=wK (j:=0) a.ar.al rfl rfl
   obtain⟨b,e1,r⟩:=a.ar.base.y167 hm
   rw [al] at e1;cases e1
   obtain⟨p,q⟩:=a.ar.base.take al hm
   refine⟨⟨⟨by rw [z33];exact a.ar.l,p,.cons (λ_ h=>by cases h) .nil⟩,?_⟩,_,rfl⟩
   have st:=a.st
   have e0:own (σ++tS [.s i] [.ref b]) (Z1++tD [.s i])=own σ Z1:=by
    show own (σ++[]) (Z1++[])=_
    rw [z18,z18]
   rw [e0] at st
   exact st.trans q
  ·cases h
theorem y5d  (a:After K κ σ ι fp H [e] Z1 G1 [v] ι1 H1)(h:mQ e Z1 G1=some (e',Z',G')):∃ι2,After K κ σ ι fp H [e'] Z' G' [v] ι2 H1:=by
 have go:∀{Z3:De} {b:Addr} {m:M},σ.length=Z3.length->After K κ σ ι fp H [.v (.ow m)] Z3 G1 [.ref b] ι1 H1->After K κ σ ι fp H [.v (.im (.ref G1.length))] Z3 (G1++[m]) [.ref b] (ι1++[b]) H1:=λ{Z3 b m} l a=>by
  obtain⟨p,r,q⟩:=SR.box a.ar.sr l
  refine⟨⟨l,p.push_im r,.cons (λ_ h=>by cases h) .nil⟩,a.st.trans (q.sub λx h=>?_)⟩
  have h:x∈own (σ++[some (.ref b)]) (Z3++[some (.im (.ref G1.length))])++(ι1++[b]):=h
  rw [dP l] at h
  exact h
 cases e with
 | v x =>
  cases x with
  | im d=>cases h;exact⟨_,a⟩
  | ow m =>
   cases h
   have r:=oh (cf a.ar.l a.ar.sr.sl).2 (j:=0) rfl rfl
   cases r
   exact⟨_,go a.ar.l a⟩
 | s i =>
  unfold mQ at h
  dsimp only at h
  split at h
  ·rename_i m hm
   cases h
   have al:=wK (j:=0) a.ar.al rfl rfl
   have hm':jg (.s i) Z1 G1=some (.v (.ow m),Z1.set i none,G1):=by unfold jg;dsimp only;rw [hm]
   obtain⟨a',_⟩:=y5e a hm'
   obtain⟨b,e1,r⟩:=a.ar.base.y167 hm
   rw [al] at e1;cases e1
   have c:=go (by rw [z33];exact a.ar.l) a'
   have hr:RpI K (ι1++[b]) H1 (.ref b) (.ref G1.length):=c.ar.im (j:=0) rfl rfl
   have s0:=c.ar.base
   have l:σ.length=(Z1.set i (some (.im (.ref G1.length)))).length:=by rw [z33];exact a.ar.l
   have eo:∀x,bc x (own σ (Z1.set i (some (.im (.ref G1.length)))))=bc x (own σ (Z1.set i none)):=λx=>by
    have h1:=sW (y:=some (.im (.ref G1.length))) x al hm
    have h2:=sW (y:=none) x al hm
    rw [ft] at h1;rw [jz] at h2
    lia
   have sr:SR K κ (ι1++[b]) H1 σ (Z1.set i (some (.im (.ref G1.length)))) (G1++[m]):=by
    refine⟨?_,s0.gs,λx=>by rw [eo];exact s0.nd x⟩
    have:=lr s0.sl al (.im hr)
    rw [List.set_set] at this
    exact this
   refine⟨_,⟨l,sr.push_im hr,.cons (λ_ h=>by cases h) .nil⟩,c.st.sub λx h=>?_⟩
   have h:x∈own (σ++[some (.ref b)]) (Z1.set i (some (.im (.ref G1.length)))++[some (.im (.ref G1.length))])++(ι1++[b]):=h
   rw [dP l] at h
   show x∈own (σ++[some (.ref b)]) (Z1.set i none++[some (.im (.ref G1.length))])++(ι1++[b])
   rw [dP (by rw [z33];exact a.ar.l)]
   simp only [z1d] at h ⊢
   rcases h with h|h
   ·left;rw [gQ] at h ⊢;rw [<- eo];exact h
   ·exact .inr h
  ·cases h
theorem AG (h:aT K κ (bR f) σ H Q):aT K κ f σ H Q:=by
 obtain⟨ι,Z,G,e,Z',G',s,eq,k⟩:=h
 obtain⟨x,Z1,G1,e1,eq⟩:=bW eq
 refine⟨ι,Z,G,x,Z1,G1,s,e1,λv ι1 H1 a=>?_⟩
 obtain⟨ι2,b⟩:=y5d a eq
 exact k _ _ _ b
theorem oq (h:aT K κ (dy f) σ H Q):aT K κ f σ H Q:=by
 obtain⟨ι,Z,G,e,Z',G',s,eq,k⟩:=h
 obtain⟨x,Z1,G1,e1,eq⟩:=bW eq
 refine⟨ι,Z,G,x,Z1,G1,s,e1,λv ι1 H1 a=>?_⟩
 obtain⟨b,_⟩:=y5e a eq
 exact k _ _ _ b
noncomputable def tf:Ev->Option I
 | .v (.im d)=>some d
 | _=>none
noncomputable def mR:List Ev->Option (List I)
 | []=>some []
 | e::es=>match tf e,mR es with
  | some d,some ds=>some (d::ds)
  | _,_=>none
theorem y67:∀{es:List Ev} {vs:List V} {ds:List I},Paired (RpE K κ ι H) (tS es vs) (tD es)->es.length=vs.length->mR es=some ds->y4d K ι H vs ds
 | [],[],_,_,_,h=>by cases h;exact .nil
 | [],_::_,_,_,l,_=>by cases l
 | _::_,[],_,_,l,_=>by cases l
 | e::es,v::vs,ds,p,l,h=>by
  unfold mR at h
  split at h
  ·rename_i d ds' h1 h2
   cases h
   cases e with
   | s i=>cases h1
   | v x =>
    cases x with
    | ow m=>cases h1
    | im d' =>
     cases h1
     cases p with
     | cons q p =>
      cases q with
      | im r=>exact .cons r (y67 p (by simpa using l) h2)
  ·cases h
theorem Args.ims(a:Args K κ ι H σ Z G es vs)(h:mR es=some ds):y4d K ι H vs ds:=y67 (cf a.l a.sr.sl).2 a.len h
noncomputable def bD:List Ev->Mo Ev:=λes Z G=>match mR es with
 | some ds=>if ds.length≤1000 then some (.v (.im (.tup ds)),Z,G) else none
 | none=>none
noncomputable def aX:List Ev->Mo Ev:=λes Z G=>match mR es with
 | some ds=>if ds.length≤1000 then some (.v (.ow (.lst ds)),Z,G) else none
 | none=>none
theorem tj:1000≤sizeLine:=by decide
theorem AH:ay K κ (λvs H Q=>vs.length≤sizeLine/\∀p,H p=none->Q (.ref p) (aD H p (.tup vs))) bD:=by
 intro ι H σ Z G es vs e Z' G' Q a h k
 unfold bD at h
 split at h
 ·rename_i ds hd
  split at h
  ·have r:=a.ims hd
   exact⟨by rw [r.len];exact z25 (by assumption) tj,λp hp=>k _ _ _ (bF h (lu a hp r))⟩
  ·cases h
 ·cases h
theorem AI:ay K κ (λvs H Q=>vs.length≤sizeLine/\∀p,H p=none->Q (.ref p) (aD H p (.lst vs))) aX:=by
 intro ι H σ Z G es vs e Z' G' Q a h k
 unfold aX at h
 split at h
 ·rename_i ds hd
  split at h
  ·have r:=a.ims hd
   exact⟨by rw [r.len];exact z25 (by assumption) tj,λp hp=>k _ _ _ (bF h (eR a hp r))⟩
  ·cases h
 ·cases h
noncomputable def dh(K:W.Frag)(κ:Str->Addr)(f:Mo Bool):TT:=λσ H Q=>∃ι Z G b Z' G',SR K κ ι H σ Z G/\f Z G=some (b,Z',G')/\∀ι' H',SR K κ ι' H' σ Z' G'->Step ι (own σ Z++ι) H ι' (own σ Z'++ι') H'->Q b H'
noncomputable def tm:Ev->Mo Bool
 | .v (.im (.bl b))=>rt b
 | _=>λ_ _=>none
noncomputable def aq(f:Mo Ev):Mo Bool:=bd f tm
theorem After.drop (a:After K κ σ ι fp H [e] Z1 G1 [v] ι1 H1):SR K κ ι1 H1 σ Z1 G1/\Step ι fp H ι1 (own σ Z1++ι1) H1:=⟨a.ar.base,a.st.sub λx h=>cD a.ar.l h⟩
theorem ly (h:dh K κ (aq f) σ H Q):qO (aT K κ f) σ H Q:=by
 obtain⟨ι,Z,G,b,Z',G',s,eq,k⟩:=h
 obtain⟨x,Z1,G1,e1,eq⟩:=bW eq
 refine⟨ι,Z,G,x,Z1,G1,s,e1,λv ι1 H1 a=>?_⟩
 unfold tm at eq
 split at eq
 ·rename_i b'
  cases eq
  have r:=a.ar.im (j:=0) rfl rfl
  cases sR (r)
  obtain⟨p,q⟩:=a.drop
  exact⟨_,rfl,k _ _ p q⟩
 ·cases eq
noncomputable def pO(c d:Mo Bool):Mo Bool:=bd c λb=>if b then d else rt false
noncomputable def cx(c d:Mo Bool):Mo Bool:=bd c λb=>if b then rt true else d
noncomputable def dQ(c:Mo Bool):Mo Bool:=bd c λb=>rt (!b)
theorem dh.go{Q Q':Bool->Hp->Prop} (s:SR K κ ι1 H1 σ Z1 G1)(st:Step ι fp H ι1 (own σ Z1++ι1) H1)(e:f Z1 G1=some (b,Z2,G2))
  (k:∀ι' H',SR K κ ι' H' σ Z2 G2->Step ι fp H ι' (own σ Z2++ι') H'->Q b H'):dh K κ f σ H1 Q:=⟨ι1,Z1,G1,b,Z2,G2,s,e,λι' H' s' st'=>k ι' H' s' (st.trans st')⟩
theorem AJ (h:dh K κ (pO c d) σ H Q):qh (dh K κ c) (dh K κ d) σ H Q:=by
 obtain⟨ι,Z,G,b,Z',G',s,eq,k⟩:=h
 obtain⟨x,Z1,G1,e1,eq⟩:=bW eq
 refine⟨ι,Z,G,x,Z1,G1,s,e1,λι1 H1 s1 st=>?_⟩
 cases x with
 | true=>rw [if_pos rfl] at eq ⊢;exact dh.go (Q':=Q) s1 st eq k
 | false=>rw [if_neg z16] at eq ⊢;cases eq;exact k _ _ s1 st
theorem tq (h:dh K κ (cx c d) σ H Q):tOr (dh K κ c) (dh K κ d) σ H Q:=by
 obtain⟨ι,Z,G,b,Z',G',s,eq,k⟩:=h
 obtain⟨x,Z1,G1,e1,eq⟩:=bW eq
 refine⟨ι,Z,G,x,Z1,G1,s,e1,λι1 H1 s1 st=>?_⟩
 cases x with
 | true=>rw [if_pos rfl] at eq ⊢;cases eq;exact k _ _ s1 st
 | false=>rw [if_neg z16] at eq ⊢;exact dh.go (Q':=Q) s1 st eq k
theorem AK (h:dh K κ (dQ c) σ H Q):qi (dh K κ c) σ H Q:=by
 obtain⟨ι,Z,G,b,Z',G',s,eq,k⟩:=h
 obtain⟨x,Z1,G1,e1,eq⟩:=bW eq
 cases eq
 exact⟨ι,Z,G,x,_,_,s,e1,λι1 H1 s1 st=>k _ _ s1 st⟩
noncomputable def wL(c:Mo Bool)(fa fb:Mo Ev):Mo Ev:=bd c λb=>if b then fa else fb
theorem aT.go  (s:SR K κ ι1 H1 σ Z1 G1)(st:Step ι fp H ι1 (own σ Z1++ι1) H1)(eq:f Z1 G1=some (e,Z2,G2))
  (k:∀v ι' H',After K κ σ ι fp H [e] Z2 G2 [v] ι' H'->Q v H'):aT K κ f σ H1 Q:=⟨ι1,Z1,G1,e,Z2,G2,s,eq,λv ι' H' a=>k v ι' H' ⟨a.ar,st.trans a.st⟩⟩
theorem AL (h:aT K κ (wL c fa fb) σ H Q):tIf (dh K κ c) (aT K κ fa) (aT K κ fb) σ H Q:=by
 obtain⟨ι,Z,G,b,Z',G',s,eq,k⟩:=h
 obtain⟨x,Z1,G1,e1,eq⟩:=bW eq
 refine⟨ι,Z,G,x,Z1,G1,s,e1,λι1 H1 s1 st=>?_⟩
 cases x with
 | true=>rw [if_pos rfl] at eq ⊢;exact aT.go s1 st eq k
 | false=>rw [if_neg z16] at eq ⊢;exact aT.go s1 st eq k
inductive Fl where
 | nx (Z:De) (G:List M)|rt (x:Vl) (G:List M)|bk (Z:De) (G:List M)|ct (Z:De) (G:List M)
noncomputable abbrev SF:=De->List M->Option Fl
noncomputable def tu(K:W.Frag)(κ:Str->Addr)(ι fp:List Addr)(H:Hp)(D:Ends):Fl->Prop
 | .nx Z' G'=>∀σ' ι' H',SR K κ ι' H' σ' Z' G'->Step ι fp H ι' (own σ' Z'++ι') H'->D.nx σ' H'
 | .bk Z' G'=>∀σ' ι' H',SR K κ ι' H' σ' Z' G'->Step ι fp H ι' (own σ' Z'++ι') H'->D.bk σ' H'
 | .ct Z' G'=>∀σ' ι' H',SR K κ ι' H' σ' Z' G'->Step ι fp H ι' (own σ' Z'++ι') H'->D.ct σ' H'
 | .rt x G'=>∀v ι' H',SR K κ ι' H' [some v] [some x] G'->Step ι fp H ι' (own [some v] [some x]++ι') H'->D.rt v H'
noncomputable def dk(K:W.Frag)(κ:Str->Addr)(f:SF):TS:=λD σ H=>∃ι Z G fl,SR K κ ι H σ Z G/\f Z G=some fl/\tu K κ ι (own σ Z++ι) H D fl
theorem tu.step (st:Step ι fp H ι1 fq H1)(h:tu K κ ι fp H D fl):tu K κ ι1 fq H1 D fl:=by
 cases fl with
 | nx Z' G'=>exact λσ' ι' H' s t=>h σ' ι' H' s (st.trans t)
 | bk Z' G'=>exact λσ' ι' H' s t=>h σ' ι' H' s (st.trans t)
 | ct Z' G'=>exact λσ' ι' H' s t=>h σ' ι' H' s (st.trans t)
 | rt x G'=>exact λv ι' H' s t=>h v ι' H' s (st.trans t)
theorem dk.of (s:SR K κ ι1 H1 σ Z1 G1)(st:Step ι fp H ι1 (own σ Z1++ι1) H1)(eq:f Z1 G1=some fl)(k:tu K κ ι fp H D fl):dk K κ f D σ H1:=⟨ι1,Z1,G1,fl,s,eq,k.step st⟩
noncomputable def aQ:SF:=λZ G=>some (.nx Z G)
noncomputable def aj(a b:SF):SF:=λZ G=>match a Z G with
 | some (.nx Z1 G1)=>b Z1 G1
 | r=>r
theorem AM(h:dk K κ aQ D σ H):qk D σ H:=by
 obtain⟨ι,Z,G,fl,s,eq,k⟩:=h
 cases eq
 exact k _ _ _ s (Step.refl _ _ _)
theorem AN (h:dk K κ (aj a b) D σ H):qm (dk K κ a) (dk K κ b) D σ H:=by
 obtain⟨ι,Z,G,fl,s,eq,k⟩:=h
 unfold aj at eq
 split at eq
 ·rename_i Z1 G1 e1
  exact⟨ι,Z,G,_,s,e1,λσ' ι' H' s' t=>dk.of s' t eq k⟩
 ·rename_i r hn
  cases fl with
  | nx Z' G'=>exact absurd eq (hn Z' G')
  | bk Z' G'=>exact⟨ι,Z,G,_,s,eq,k⟩
  | ct Z' G'=>exact⟨ι,Z,G,_,s,eq,k⟩
  | rt x G'=>exact⟨ι,Z,G,_,s,eq,k⟩
noncomputable def aJ(c:Mo Bool)(a b:SF):SF:=λZ G=>match c Z G with
 | some (true,Z1,G1)=>a Z1 G1
 | some (false,Z1,G1)=>b Z1 G1
 | none=>none
theorem tw (h:dk K κ (aJ c a b) D σ H):qq (dh K κ c) (dk K κ a) (dk K κ b) D σ H:=by
 obtain⟨ι,Z,G,fl,s,eq,k⟩:=h
 unfold aJ at eq
 split at eq
 ·rename_i Z1 G1 e1
  exact⟨ι,Z,G,true,Z1,G1,s,e1,λι' H' s' t=>by dsimp only;rw [if_pos rfl];exact dk.of s' t eq k⟩
 ·rename_i Z1 G1 e1
  exact⟨ι,Z,G,false,Z1,G1,s,e1,λι' H' s' t=>by dsimp only;rw [if_neg z16];exact dk.of s' t eq k⟩
 ·cases eq
noncomputable def iu(f:Mo Ev):SF:=λZ G=>match f Z G with
 | some (_,Z1,G1)=>some (.nx Z1 G1)
 | none=>none
theorem AO (h:dk K κ (iu f) D σ H):qo (aT K κ f) D σ H:=by
 obtain⟨ι,Z,G,fl,s,eq,k⟩:=h
 unfold iu at eq
 split at eq
 ·rename_i e Z1 G1 e1
  cases eq
  refine⟨ι,Z,G,e,Z1,G1,s,e1,λv ι' H' a=>?_⟩
  obtain⟨p,q⟩:=a.drop
  exact k _ _ _ p q
 ·cases eq
theorem SR.last (h:SR K κ ι H (σ++[some v]) (Z++[some x]) G)(l:σ.length=Z.length):SR K κ ι H [some v] [some x] G/\∀a,a∈own [some v] [some x]++ι->a∈own (σ++[some v]) (Z++[some x])++ι:=by
 obtain⟨p,q⟩:=cf l h.sl
 refine⟨⟨q,h.gs,λa=>?_⟩,λa ha=>?_⟩
 ·have:=h.nd a
  rw [bN _ _ l] at this
  simp only [bc,z24] at this ⊢
  lia
 ·rw [bN _ _ l]
  simp only [z1d] at ha ⊢
  rcases ha with ha|ha
  ·exact .inl (.inr ha)
  ·exact .inr ha
noncomputable def aE(f:Mo Ev):SF:=λZ G=>match dy f Z G with
 | some (.v x,_,G1)=>some (.rt x G1)
 | _=>none
theorem AQ (h:dk K κ (aE f) D σ H):qp (aT K κ f) D σ H:=by
 obtain⟨ι,Z,G,fl,s,eq,k⟩:=h
 unfold aE at eq
 split at eq
 ·rename_i x Z1 G1 e1
  cases eq
  refine oq ⟨ι,Z,G,_,Z1,G1,s,e1,λv ι' H' a=>?_⟩
  obtain⟨p,q⟩:=SR.last a.ar.sr a.ar.l
  exact k _ _ _ p (a.st.sub q)
 ·cases eq
noncomputable def AR:SF:=λ_ G=>some (.rt (.im .non) G)
noncomputable abbrev GF:=Vl->De->List M->Option (De×List M)
noncomputable def ou(K:W.Frag)(κ:Str->Addr)(g:GF):TG:=λv σ H Q=>∃ι Z G x Z' G',σ.length=Z.length/\SR K κ ι H (σ++[some v]) (Z++[some x]) G/\g x Z G=some (Z',G') /\
 ∀σ' ι' H',SR K κ ι' H' σ' Z' G'->Step ι (own (σ++[some v]) (Z++[some x])++ι) H ι' (own σ' Z'++ι') H'->Q σ' H'
noncomputable def aF(i:Nat):GF:=λx Z G=>some (Z.set i (some x),G)
theorem lz (h:ou K κ (aF i) v σ H Q):iz i v σ H Q:=by
 obtain⟨ι,Z,G,x,Z',G',l,s,eq,k⟩:=h
 cases eq
 exact k _ _ _ (s.store l) ((Step.refl _ _ _).sub λa ha=>sY l ha)
noncomputable def jC:List Nat->List I->De->Option De
 | [],[],Z=>some Z
 | i::is,d::ds,Z=>jC is ds (Z.set i (some (.im d)))
 | _,_,_=>none
noncomputable def bX(is:List Nat):GF:=λx Z G=>match x with
 | .im (.tup ds)=>(jC is ds Z).map λZ'=>(Z',G)
 | _=>none
noncomputable def gW(is:List Nat):mK:=is.foldr (λi t=>qw (iz i) t) qv
theorem lB:∀{is:List Nat} {ds:List I} {vs:List V} {σ:St} {Z Z':De} {Q:St->Hp->Prop},y4d K ι H vs ds->jC is ds Z=some Z'->SR K κ ι H σ Z G ->
  (∀σ',SR K κ ι H σ' Z' G->(∀a,a∈own σ' Z'->a∈own σ Z)->Q σ' H)->gW is vs σ H Q
 | [],[],_,_,_,_,_,r,e,s,k=>by
  cases r;cases e
  exact⟨rfl,k _ s λ_ h=>h⟩
 | i::is,d::ds,_,σ,Z,Z',Q,.cons r rs,e,s,k=>by
  refine⟨_,_,rfl,?_⟩
  have s1:=(s.push_im r).store (i:=i) s.len
  refine lB rs e s1 λσ' s' sub=>k σ' s' λa ha=>?_
  have h1:=sub a ha
  have:a∈own (σ++[some _]) (Z++[some (.im d)])++[]:=sY s.len (List.mem_append_left _ h1)
  rw [dP s.len,z18] at this
  exact this
 | [],_::_,_,_,_,_,_,_,e,_,_=>by cases e
 | _::_,[],_,_,_,_,_,_,e,_,_=>by cases e
theorem tx:∀{is:List Nat} {ds:List I} {Z Z':De},jC is ds Z=some Z'->ds.length=is.length
 | [],[],_,_,_=>rfl
 | i::is,d::ds,Z,_,e=>by rw [z29,z29,tx (ds:=ds) e]
 | [],_::_,_,_,e=>by cases e
 | _::_,[],_,_,e=>by cases e
theorem AS (h:ou K κ (bX is) v σ H Q):kA K is.length (gW is) v σ H Q:=by
 obtain⟨ι,Z,G,x,Z',G',l,s,eq,k⟩:=h
 unfold bX at eq
 split at eq
 ·rename_i ds
  cases q:jC is ds Z with
  | none=>rw [q] at eq;cases eq
  | some Z2 =>
   rw [q] at eq
   cases eq
   have r:=oh (es:=[.v (.im (.tup ds))]) (vs:=[v]) (cf l s.sl).2 (j:=0) rfl rfl
   cases r with
   | im r =>
    obtain⟨_,_,rfl,h1,h2⟩:=jy r
    refine⟨_,_,rfl,a7.of h1,by rw [h2.len];exact tx q,lB h2 q (s.pop l) λσ' s' sub=>k _ _ _ s' ((Step.refl _ _ _).sub λa ha=>?_)⟩
    rw [dP l]
    simp only [z1d] at ha ⊢
    rcases ha with ha|ha
    ·exact .inl (sub a ha)
    ·exact .inr ha
 ·cases eq
noncomputable def aN(f:Mo Ev)(g:GF):SF:=λZ G=>match dy f Z G with
 | some (.v x,Z1,G1)=>match g x Z1 G1 with
  | some (Z2,G2)=>some (.nx Z2 G2)
  | none=>none
 | _=>none
theorem lD (h:dk K κ (aN f g) D σ H):kB (aT K κ f) (ou K κ g) D σ H:=by
 obtain⟨ι,Z,G,fl,s,eq,k⟩:=h
 unfold aN at eq
 split at eq
 ·rename_i x Z1 G1 e1
  split at eq
  ·rename_i Z2 G2 e2
   cases eq
   refine oq ⟨ι,Z,G,_,Z1,G1,s,e1,λv ι' H' a=>?_⟩
   exact⟨ι',Z1,G1,x,Z2,G2,a.ar.l,a.ar.sr,e2,λσ' ι2 H2 s2 st=>k _ _ _ s2 (a.st.trans st)⟩
  ·cases eq
 ·cases eq
end
end
section
section
noncomputable def fU(c:Mo Bool)(b:SF):Nat->SF
 | 0,_,_=>none
 | n+1,Z,G=>match c Z G with
  | some (true,Z1,G1)=>match b Z1 G1 with
   | some (.nx Z2 G2)=>fU c b n Z2 G2
   | some (.ct Z2 G2)=>fU c b n Z2 G2
   | some (.bk Z2 G2)=>some (.nx Z2 G2)
   | some (.rt x G2)=>some (.rt x G2)
   | none=>none
  | some (false,Z1,G1)=>some (.nx Z1 G1)
  | none=>none
theorem ox  : ∀{n:Nat} {Z:De} {G:List M} {fl:Fl},fU c b n Z G=some fl->fU c b (n+1) Z G=some fl
 | 0,_,_,_,h=>by cases h
 | n+1,Z,G,fl,h=>by
  unfold fU at h ⊢
  cases e:c Z G with
  | none=>rw [e] at h;cases h
  | some r =>
   obtain⟨t,Z1,G1⟩:=r
   rw [e] at h
   cases t with
   | false=>exact h
   | true =>
    cases e2:b Z1 G1 with
    | none=>dsimp only at h;rw [e2] at h;cases h
    | some fl2 =>
     dsimp only at h
     rw [e2] at h
     dsimp only
     rw [e2]
     cases fl2 with
     | nx Z2 G2=>exact ox h
     | ct Z2 G2=>exact ox h
     | bk Z2 G2=>exact h
     | rt x G2=>exact h
theorem tF   (h:fU c b n Z G=some fl)(l:n≤m):fU c b m Z G=some fl:=by
 induction l with
 | refl=>exact h
 | step _ ih=>exact ox ih
open Classical in
noncomputable def gE(c:Mo Bool)(b:SF):SF:=λZ G=>if h:∃n fl,fU c b n Z G=some fl then some (choose (choose_spec h)) else none
theorem oy   (h:fU c b n Z G=some fl):gE c b Z G=some fl:=by
 have ex:∃n fl,fU c b n Z G=some fl:=⟨n,fl,h⟩
 unfold gE
 rw [dif_pos ex]
 have q:=Classical.choose_spec (Classical.choose_spec ex)
 have h1:=tF h (Nat.le_max_left n (Classical.choose ex))
 have h2:=tF q (Nat.le_max_right n (Classical.choose ex))
 rw [h1] at h2
 exact h2.symm
theorem oz  (h:gE c b Z G=some fl):∃n,fU c b n Z G=some fl:=by
 unfold gE at h
 split at h
 ·rename_i ex
  have q:=Classical.choose_spec (Classical.choose_spec ex)
  cases h
  exact⟨_,q⟩
 ·cases h
theorem tG  (h1:c Z G=some (true,Z1,G1))(h2:b Z1 G1=some (.nx Z2 G2)):gE c b Z G=gE c b Z2 G2:=by
 cases e:gE c b Z2 G2 with
 | some fl =>
  obtain⟨n,hn⟩:=oz e
  refine oy (n:=n+1) ?_
  unfold fU
  rw [h1];dsimp only;rw [h2];exact hn
 | none =>
  cases e':gE c b Z G with
  | none=>rfl
  | some fl =>
   obtain⟨n,hn⟩:=oz e'
   cases n with
   | zero=>cases hn
   | succ n =>
    unfold fU at hn
    rw [h1] at hn;dsimp only at hn;rw [h2] at hn
    have:=oy hn
    rw [e] at this;cases this
theorem oA  (h1:c Z G=some (false,Z1,G1)):gE c b Z G=some (.nx Z1 G1):=by
 refine oy (n:=1) ?_
 unfold fU
 rw [h1]
theorem AU (h:dk K κ (gE c b) D σ H):qB (dh K κ c) (dk K κ b) D σ H:=by
 obtain⟨ι,Z,G,fl,s,eq,k⟩:=h
 obtain⟨n,hn⟩:=oz eq
 refine⟨λm σ' H'=>∃ι' Z' G',SR K κ ι' H' σ' Z' G'/\Step ι (own σ Z++ι) H ι' (own σ' Z'++ι') H'/\fU c b m Z' G'=some fl,⟨n,ι,Z,G,s,Step.refl _ _ _,hn⟩,?_⟩
 rintro m σ' H' ⟨ι',Z',G',s',st,e⟩
 cases m with
 | zero=>cases e
 | succ m =>
  unfold fU at e
  split at e
  ·rename_i Z1 G1 e1
   refine⟨ι',Z',G',true,Z1,G1,s',e1,λι1 H1 s1 st1=>?_⟩
   dsimp only
   rw [if_pos rfl]
   refine⟨λσ2 H2=>∃ι2 Z2 G2,SR K κ ι2 H2 σ2 Z2 G2/\Step ι (own σ Z++ι) H ι2 (own σ2 Z2++ι2) H2/\fU c b m Z2 G2=some fl,λσ2 H2 q=>⟨m,z35 _,q⟩,?_⟩
   split at e
   ·rename_i Z2 G2 e2
    exact⟨ι1,Z1,G1,_,s1,e2,λσ2 ι2 H2 s2 st2=>⟨ι2,Z2,G2,s2,(st.trans st1).trans st2,e⟩⟩
   ·rename_i Z2 G2 e2
    exact⟨ι1,Z1,G1,_,s1,e2,λσ2 ι2 H2 s2 st2=>⟨ι2,Z2,G2,s2,(st.trans st1).trans st2,e⟩⟩
   ·rename_i Z2 G2 e2
    cases e
    exact⟨ι1,Z1,G1,_,s1,e2,λσ2 ι2 H2 s2 st2=>k _ _ _ s2 ((st.trans st1).trans st2)⟩
   ·rename_i x G2 e2
    cases e
    exact⟨ι1,Z1,G1,_,s1,e2,λv ι2 H2 s2 st2=>k _ _ _ s2 ((st.trans st1).trans st2)⟩
   ·cases e
  ·rename_i Z1 G1 e1
   cases e
   refine⟨ι',Z',G',false,Z1,G1,s',e1,λι1 H1 s1 st1=>?_⟩
   dsimp only
   rw [if_neg z16]
   exact k _ _ _ s1 (st.trans st1)
  ·cases e
structure Wk where
 n:Nat
 at_:Nat->De->List M->Option I
 fin:De->List M->Bool
structure Walks(K:W.Frag)(κ:Str->Addr)(J:It)(τ:St)(θ:De)(w:Wk):Prop where
 go:∀{i:Nat} {d:I} {ι:List Addr} {H:Hp} {σ:St} {Z:De} {G:List M},i<w.n->w.at_ i Z G=some d->σ.length=Z.length->SR K κ ι H (σ++τ) (Z++θ) G->J.go i H/\∀x H',J.yld i H x H'->eB H H'/\RpI K ι H' x d
 stop:∀{ι:List Addr} {H:Hp} {σ:St} {Z:De} {G:List M},w.fin Z G=true->σ.length=Z.length->SR K κ ι H (σ++τ) (Z++θ) G->J.stop w.n H
noncomputable def bf(w:Wk)(g:GF)(b:SF):Nat->Nat->SF
 | i,0,Z,G=>if w.fin Z G then some (.nx Z G) else none
 | i,r+1,Z,G=>match w.at_ i Z G with
  | some d=>match g (.im d) Z G with
   | some (Z1,G1)=>match b Z1 G1 with
    | some (.nx Z2 G2)=>bf w g b (i+1) r Z2 G2
    | some (.ct Z2 G2)=>bf w g b (i+1) r Z2 G2
    | some (.bk Z2 G2)=>some (.nx Z2 G2)
    | some (.rt x G2)=>some (.rt x G2)
    | none=>none
   | none=>none
  | none=>none
noncomputable abbrev IF:=De->List M->Option (Wk×List Ev×De×List M)
noncomputable def oB(K:W.Frag)(κ:Str->Addr)(f:IF):TI:=λσ H R=>∃ι Z G w es Z' G',SR K κ ι H σ Z G/\f Z G=some (w,es,Z',G') /\
 ∀J vs ι' H',After K κ σ ι (own σ Z++ι) H es Z' G' vs ι' H'->Walks K κ J (tS es vs) (tD es) w->R J H'
noncomputable def bu(f:IF)(g:GF)(b:SF):SF:=λZ G=>match f Z G with
 | some (w,_,Z1,G1)=>bf w g b 0 w.n Z1 G1
 | none=>none
theorem AV  (h:dk K κ (bu f g b) D σ H):qG (oB K κ f) (ou K κ g) (dk K κ b) D σ H:=by
 obtain⟨ι,Z,G,fl,s,eq,k⟩:=h
 unfold bu at eq
 split at eq
 ·rename_i w es Z1 G1 e1
  refine⟨ι,Z,G,w,es,Z1,G1,s,e1,λJ vs ι1 H1 a wk=>?_⟩
  refine⟨λi m σ' H'=>i+m=w.n/\∃ι' Z' G',σ'.length=Z'.length/\SR K κ ι' H' (σ'++tS es vs) (Z'++tD es) G'/\Step ι (own σ Z++ι) H ι' (own (σ'++tS es vs) (Z'++tD es)++ι') H'/\bf w g b i m Z' G'=some fl,
   ⟨w.n,by lia,ι1,Z1,G1,a.ar.l,a.ar.sr,a.st,eq⟩,?_⟩
  rintro i m σ' H' ⟨him,ι',Z',G',l,s',st,e⟩
  have sub:∀a,a∈own σ' Z'++ι'->a∈own (σ'++tS es vs) (Z'++tD es)++ι':=λa ha=>cD l ha
  cases m with
  | zero =>
   have hi:i=w.n:=by lia
   subst hi
   unfold bf at e
   split at e
   ·rename_i hf
    cases e
    exact .inl ⟨wk.stop hf l s',k _ _ _ (s'.pop l) (st.sub sub)⟩
   ·cases e
  | succ m =>
   unfold bf at e
   split at e
   ·rename_i d hd
    obtain⟨go,yl⟩:=wk.go (by lia) hd l s'
    refine .inr ⟨go,λσ2 H2=>∃ι2 Z2 G2,σ2.length=Z2.length/\SR K κ ι2 H2 (σ2++tS es vs) (Z2++tD es) G2/\Step ι (own σ Z++ι) H ι2 (own (σ2++tS es vs) (Z2++tD es)++ι2) H2/\bf w g b (i+1) m Z2 G2=some fl,
     λσ2 H2 q=>⟨m,z35 _,by lia,q⟩,λx H3 hy=>?_⟩
    obtain⟨sm,rx⟩:=yl x H3 hy
    have s3:=s'.same sm
    have st3:=st.trans (Step.same sm)
    split at e
    ·rename_i Z4 G4 e4
     have p:=(s3.pop l).push_im rx
     refine⟨ι',Z',G',.im d,Z4,G4,l,p,e4,λσ4 ι4 H4 s4 st4=>?_⟩
     rw [dP l] at st4
     have jn:∀{σ5:St} {Z5:De} {G5:List M} {ι5:List Addr} {H5:Hp},SR K κ ι5 H5 σ5 Z5 G5->Step ι4 (own σ4 Z4++ι4) H4 ι5 (own σ5 Z5++ι5) H5 ->
       SR K κ ι5 H5 (σ5++tS es vs) (Z5++tD es) G5/\Step ι (own σ Z++ι) H ι5 (own (σ5++tS es vs) (Z5++tD es)++ι5) H5:=λ{σ5 Z5 G5 ι5 H5} s5 st5=>by
      have j:=SR.join s3 l (by rw [z18,z18];exact s5) s5.len (by rw [z18,z18];exact st4.trans st5)
      rw [z18,z18] at j
      exact⟨j.1,st3.trans j.2⟩
     split at e
     ·rename_i Z5 G5 e5
      exact⟨ι4,Z4,G4,_,s4,e5,λσ5 ι5 H5 s5 st5=>⟨ι5,Z5,G5,s5.len,(jn s5 st5).1,(jn s5 st5).2,e⟩⟩
     ·rename_i Z5 G5 e5
      exact⟨ι4,Z4,G4,_,s4,e5,λσ5 ι5 H5 s5 st5=>⟨ι5,Z5,G5,s5.len,(jn s5 st5).1,(jn s5 st5).2,e⟩⟩
     ·rename_i Z5 G5 e5
      cases e
      exact⟨ι4,Z4,G4,_,s4,e5,λσ5 ι5 H5 s5 st5=>k _ _ _ s5 ((jn s5 st5).2.sub λa ha=>cD s5.len ha)⟩
     ·rename_i x5 G5 e5
      cases e
      refine⟨ι4,Z4,G4,_,s4,e5,λv ι5 H5 s5 st5=>k _ _ _ s5 ((jn s5 st5).2.sub λa ha=>cD s5.len ha)⟩
     ·cases e
    ·cases e
   ·cases e
 ·cases eq
end
end
section
section
theorem tH(l:σ.length=Z.length)(l2:τ.length=θ.length):bc a (own (τ++σ) (θ++Z))=bc a (own (σ++τ) (Z++θ)):=by
 rw [bN _ _ l,bN _ _ l2]
 simp only [bc,z24]
 lia
theorem SR.swap(h:SR K κ ι H (σ++τ) (Z++θ) G)(l:σ.length=Z.length):SR K κ ι H (τ++σ) (θ++Z) G:=by
 obtain⟨p,q⟩:=cf l h.sl
 exact⟨dw q p,h.gs,λa=>by rw [tH l (Paired.length q)];exact h.nd a⟩
theorem fV (l:σ.length=Z.length)(l2:τ.length=θ.length)(h:a∈own (τ++σ) (θ++Z)++l1):a∈own (σ++τ) (Z++θ)++l1:=by
 simp only [z1d] at h ⊢
 rcases h with h|h
 ·left;rw [gQ] at h ⊢;rw [<- tH l l2];exact h
 ·exact .inr h
noncomputable abbrev FF:=List Vl->List M->Option (Vl×List M)
noncomputable def bp(K:W.Frag)(κ:Str->Addr)(n:Nat)(fn:FF):Sp:=λvs H Q _=>∃ι xs G x G',xs.length=n/\SR K κ ι H (vs.map some) (xs.map some) G/\fn xs G=some (x,G') /\
 ∀v ι' H',SR K κ ι' H' [some v] [some x] G'->Step ι (own (vs.map some) (xs.map some)++ι) H ι' (own [some v] [some x]++ι') H'->Q v H'
noncomputable def mS:List Ev->Option (List Vl)
 | []=>some []
 | .v x::es=>(mS es).map (x::·)
 | .s _::_=>none
noncomputable def aV(n:Nat)(fn:FF):List Ev->Mo Ev:=λes Z G=>match mS es with
 | some xs=>if xs.length=n then match fn xs G with
  | some (x,G')=>some (.v x,Z,G')
  | none=>none
  else none
 | none=>none
theorem oC:∀{es:List Ev} {vs:List V} {xs:List Vl},mS es=some xs->es.length=vs.length->tS es vs=vs.map some/\tD es=xs.map some
 | [],[],_,h,_=>by cases h;exact⟨rfl,rfl⟩
 | [],_::_,_,_,l=>by cases l
 | _::_,[],_,_,l=>by cases l
 | .s i::_,_::_,_,h,_=>by cases h
 | .v x::es,v::vs,xs,h,l=>by
  have h:(mS es).map (x::·)=some xs:=h
  cases e:mS es with
  | none=>rw [e] at h;cases h
  | some ys =>
   rw [e] at h;cases h
   obtain⟨p,q⟩:=oC e (by simpa using l)
   exact⟨by show some v::tS es vs=_;rw [p];rfl,by show some x::tD es=_;rw [q];rfl⟩
theorem tJ  : ay K κ (λvs H Q=>bp K κ n fn vs H Q E) (aV n fn):=by
 intro ι H σ Z G es vs e Z' G' Q a h k
 unfold aV at h
 split at h
 ·rename_i xs hx
  split at h
  ·rename_i hl
   split at h
   ·rename_i x G1 e1
    cases h
    obtain⟨t1,t2⟩:=oC hx a.len
    have sr:=a.sr
    rw [t1,t2] at sr k
    have sw:=sr.swap a.l
    have lt:(vs.map some).length=(xs.map some).length:=Paired.length (cf a.l sr.sl).2
    refine⟨ι,xs,G,x,_,hl,sw.pop lt,e1,λv ι' H' s st=>?_⟩
    have s':SR K κ ι' H' ([some v]++[]) ([some x]++[]) _:=s
    obtain⟨j1,j2⟩:=SR.join sw lt s' rfl st
    rw [z18,z18] at j1 j2
    refine k v ι' H' ⟨⟨a.l,j1.swap rfl,.cons (λ_ h=>by cases h) .nil⟩,(j2.wide λy hy=>fV a.l lt hy).sub λy hy=>?_⟩
    exact fV rfl a.l hy
   ·cases h
  ·cases h
 ·cases h
noncomputable def bw(n r:Nat)(body:SF):FF:=λxs G=>if xs.length=n then match body (xs.map some++List.replicate r none) G with
 | some (.rt x G')=>some (x,G')
 | some (.nx _ G')=>some (.im .non,G')
 | _=>none
 else none
theorem tK:∀(r:Nat),Paired (RpE K κ ι H) (List.replicate r none) (List.replicate r none)
 | 0=>.nil
 | r+1=>.cons (.no _) (tK r)
theorem tL:∀(r:Nat),own (List.replicate r none) (List.replicate r none)=[]
 | 0=>rfl
 | r+1=>tL r
theorem SR.nones(h:SR K κ ι H σ Z G)(r:Nat):SR K κ ι H (σ++List.replicate r none) (Z++List.replicate r none) G/\own (σ++List.replicate r none) (Z++List.replicate r none)=own σ Z:=by
 have e:own (σ++List.replicate r none) (Z++List.replicate r none)=own σ Z:=by rw [bN _ _ h.len,tL,z18]
 exact⟨⟨dw h.sl (tK r),h.gs,λa=>by rw [e];exact h.nd a⟩,e⟩
theorem tM  (h:bp K κ n (bw n r body) vs H Q E):vs.length=n/\dk K κ body { nx:=λ_ H'=>Q .non H',rt:=Q } (vs.map some++List.replicate r none) H:=by
 obtain⟨ι,xs,G,x,G',hl,s,eq,k⟩:=h
 have lv:vs.length=n:=by have:=s.len;rw [z19,z19] at this;lia
 refine⟨lv,?_⟩
 unfold bw at eq
 rw [if_pos hl] at eq
 obtain⟨s0,e0⟩:=s.nones r
 split at eq
 ·rename_i x' G1 e1
  cases eq
  refine⟨ι,_,G,_,s0,e1,?_⟩
  rw [e0]
  exact λv ι' H' s' st=>k v ι' H' s' st
 ·rename_i Z1 G1 e1
  cases eq
  refine⟨ι,_,G,_,s0,e1,?_⟩
  rw [e0]
  intro σ' ι' H' s' st
  obtain⟨p,q⟩:=SR.last (s'.push_im .non) s'.len
  refine k _ _ _ p (st.sub λa ha=>?_)
  have:=q a ha
  rw [dP s'.len] at this
  exact this
 ·cases eq
noncomputable def oE(K:W.Frag)(κ:Str->Addr)(r:List V->Hp->(It->Hp->Prop)->Prop)(p:List Ev->De->List M->Option Wk):Prop :=
 ∀(ι:List Addr) (H:Hp) (σ:St) (Z:De) (G:List M) (es:List Ev) (vs:List V) (w:Wk) (R:It->Hp->Prop),Args K κ ι H σ Z G es vs->p es Z G=some w ->
  (∀J,Walks K κ J (tS es vs) (tD es) w->R J H)->r vs H R
noncomputable def a9(fa:Mo (List Ev))(p:List Ev->De->List M->Option Wk):IF:=λZ G=>match fa Z G with
 | some (es,Z1,G1)=>(p es Z1 G1).map λw=>(w,es,Z1,G1)
 | none=>none
theorem iD  (hp:oE K κ r p)(h:oB K κ (a9 fa p) σ H R):ir K κ fa σ H λvs H1=>r vs H1 R:=by
 obtain⟨ι,Z,G,w,es,Z',G',s,eq,k⟩:=h
 unfold a9 at eq
 split at eq
 ·rename_i es1 Z1 G1 e1
  cases q:p es1 Z1 G1 with
  | none=>rw [q] at eq;cases eq
  | some w' =>
   rw [q] at eq
   cases eq
   exact⟨ι,Z,G,_,_,_,s,e1,λvs ι1 H1 a=>hp _ _ _ _ _ _ _ _ _ a.ar q λJ wk=>k J vs ι1 H1 a wk⟩
 ·cases eq
noncomputable def one(f:Mo Ev):Mo (List Ev):=bd f λe=>rt [e]
theorem tN (h:ir K κ (one f) σ H λvs H1=>∃v,vs=[v]/\Q v H1):aT K κ f σ H Q:=by
 obtain⟨ι,Z,G,es,Z',G',s,eq,k⟩:=h
 obtain⟨x,Z1,G1,e1,eq⟩:=bW eq
 cases eq
 refine⟨ι,Z,G,x,_,_,s,e1,λv ι1 H1 a=>?_⟩
 obtain⟨v',e',q⟩:=k _ _ _ a
 cases e'
 exact q
noncomputable def cG:List Ev->De->List M->Option Wk:=λes _ _=>match es with
 | [.v (.im (.int j))]=>if j<2 ^ 62/\-(2 ^ 62)≤j then some ⟨j.toNat,λi _ _=>some (.int i),λ_ _=>true⟩ else none
 | _=>none
theorem AW   : Walks K κ (qC lo n) τ θ ⟨n,λi _ _=>some (.int (lo+i)),λ_ _=>true⟩ where
 go:=λhi hd _ _=>by
  cases hd
  refine⟨hi,λx H' y=>?_⟩
  obtain⟨e1,e2⟩:=y
  subst e1;subst e2
  exact⟨(λ_ _ h=>h),.int _⟩
 stop:=λ_ _ _=>z12 _
theorem AX:oE K κ (λvs H R=>∃j:Int,vs=[.int j]/\-(2 ^ 62)≤j/\j<2 ^ 62/\R (qC 0 j.toNat) H) cG:=by
 intro ι H σ Z G es vs w R a h k
 unfold cG at h
 split at h
 ·rename_i j
  split at h
  ·rename_i hj
   cases h
   obtain⟨v,rfl⟩:=bI a.len
   have r:=a.im (j:=0) rfl rfl
   cases cC (r)
   refine⟨j,rfl,hj.2,hj.1,k _ ?_⟩
   have:=AW (K:=K) (κ:=κ) (lo:=0) (n:=j.toNat) (τ:=tS [.v (.im (.int j))] [.int j]) (θ:=tD [.v (.im (.int j))])
   simpa using this
  ·cases h
 ·cases h
noncomputable def bx(e:Ev)(n:Nat):Wk:=⟨n,λi Z G=>(sq Z G e).bind (·[i]?),λZ G=>match sq Z G e with|some xs=>decide (xs.length≤n)|none=>false⟩
noncomputable def gX(Z:De)(G:List M):Ev->Bool
 | .v (.im (.fro _))=>true
 | .v (.im (.ref _))=>true
 | .v (.ow (.lst _))=>true
 | _=>false
noncomputable def oF:List Ev->De->List M->Option Wk:=λes Z G=>match es with
 | [e]=>if gX Z G e then (sq Z G e).map λxs=>bx e xs.length else none
 | _=>none
noncomputable def tO:List Ev->De->List M->Option Wk:=λes Z G=>match es with
 | [.v (.im (.tup xs))]=>some (bx (.v (.im (.tup xs))) xs.length)
 | [.v (.im (.con xs))]=>some (bx (.v (.im (.con xs))) xs.length)
 | _=>none
theorem pP (he:e=.v x)(l:σ.length=Z.length)(h:SR K κ ι H (σ++tS [e] [v]) (Z++tD [e]) G):Args K κ ι H σ Z G [e] [v]:=⟨l,h,.cons (λi q=>by rw [he] at q;cases q) .nil⟩
theorem oG (a:Args K κ ι H σ Z G [e] [v])(hl:gX Z G e=true)(h:sq Z G e=some xs):∃b ys,v=.ref b/\aZ K H b ys/\y4d K ι H ys xs:=by
 cases e with
 | s i=>cases hl
 | v x =>
  cases x with
  | ow m =>
   cases m with
   | lst ys =>
    cases h
    obtain⟨b,e1,zs,h3,r⟩:=a.pk (j:=0) rfl rfl rfl
    exact⟨b,zs,e1,aZ.of h3,r⟩
   | _=>cases hl
  | im d =>
   cases d with
   | fro ys =>
    cases h
    have r:=a.im (j:=0) rfl rfl
    obtain⟨_,_,rfl,q,r9⟩:=sT r
    exact⟨_,_,rfl,q.sq,r9⟩
   | ref k =>
    have h:(match pk Z G (.v (.im (.ref k))) with|some (.lst xs)=>some xs|_=>none)=some xs:=h
    split at h
    ·rename_i ys e1
     cases h
     obtain⟨b,e1,zs,h3,r⟩:=a.pk (j:=0) rfl rfl e1
     exact⟨b,zs,e1,aZ.of h3,r⟩
    ·cases h
   | _=>cases hl
theorem iE(h:gX Z G e=true):∃x,e=.v x:=by
 cases e with
 | v x=>exact⟨x,rfl⟩
 | s i=>cases h
theorem iF(h:gX Z G e=true):gX Z1 G1 e=true:=by
 cases e with
 | s i=>cases h
 | v x =>
  cases x with
  | ow m=>cases m<;>first|rfl|cases h
  | im d=>cases d<;>first|rfl|cases h
theorem AY (hl:gX Z G e=true):Walks K κ (wy K b) (tS [e] [.ref b]) (tD [e]) (bx e n) where
 go:=λ{i d ι H σ Z' G'} hi hd l s=>by
  obtain⟨x,hx⟩:=iE hl
  have hd:(sq Z' G' e).bind (·[i]?)=some d:=hd
  cases q:sq Z' G' e with
  | none=>rw [q] at hd;cases hd
  | some xs =>
   rw [q] at hd
   obtain⟨b',ys,e1,h1,r⟩:=oG (pP hx l s) (iF hl) q
   cases e1
   obtain⟨v,hv,rv⟩:=r.get hd
   refine⟨⟨ys,v,h1,hv⟩,λx H' y=>?_⟩
   obtain⟨e2,e3⟩:=y
   subst e2
   have:=e3 ys h1
   rw [hv] at this;cases this
   exact⟨(λ_ _ h=>h),rv⟩
 stop:=λ{ι H σ Z' G'} hf l s=>by
  obtain⟨x,hx⟩:=iE hl
  have hf:(match sq Z' G' e with|some xs=>decide (xs.length≤n)|none=>false)=true:=hf
  cases q:sq Z' G' e with
  | none=>rw [q] at hf;cases hf
  | some xs =>
   rw [q] at hf
   obtain⟨b',ys,e1,h1,r⟩:=oG (pP hx l s) (iF hl) q
   cases e1
   exact⟨ys,h1,by rw [r.len];exact of_decide_eq_true hf⟩
theorem AZ:oE K κ (λvs H R=>∃v,vs=[v]/\∃a,v=.ref a/\(∃xs,aZ K H a xs)/\R (wy K a) H) oF:=by
 intro ι H σ Z G es vs w R a h k
 unfold oF at h
 split at h
 ·rename_i e
  split at h
  ·rename_i hl
   cases q:sq Z G e with
   | none=>rw [q] at h;cases h
   | some xs =>
    rw [q] at h
    cases h
    obtain⟨v,rfl⟩:=bI a.len
    obtain⟨b,ys,e1,h1,r⟩:=oG a hl q
    subst e1
    exact⟨_,rfl,b,rfl,⟨ys,h1⟩,k _ (AY hl)⟩
  ·cases h
 ·cases h
theorem A0:oE K κ (λvs H R=>∃v,vs=[v]/\∃a,v=.ref a/\(∃xs,a7 K H a xs)/\R (wz K a) H) tO:=by
 intro ι H σ Z G es vs w R a h k
 unfold tO at h
 have go:∀{x:I} {xs:List I},(x=.tup xs∨x=.con xs)->Args K κ ι H σ Z G [.v (.im x)] vs->sq Z G (.v (.im x))=some xs->(∀J,Walks K κ J (tS [.v (.im x)] vs) (tD [.v (.im x)]) (bx (.v (.im x)) xs.length)->R J H) ->
   ∃v,vs=[v]/\∃a,v=.ref a/\(∃xs,a7 K H a xs)/\R (wz K a) H:=λ{x xs} hx a hq k=>by
  have tv:∀{ι:List Addr} {H:Hp} {v:V},RpI K ι H v x->∃b ys,v=.ref b/\a7 K H b ys/\y4d K ι H ys xs:=λr=>by
   rcases hx with rfl|rfl
   ·obtain⟨_,_,rfl,h,r9⟩:=jy r
    exact⟨_,_,rfl,a7.of h,r9⟩
   ·obtain⟨_,_,rfl,h,r9⟩:=sS r
    exact⟨_,_,rfl,a7.kon h,r9⟩
  have sx:∀(Z:De) (G:List M),sq Z G (.v (.im x))=some xs:=λZ G=>by rcases hx with rfl|rfl<;>rfl
  obtain⟨v,rfl⟩:=bI a.len
  obtain⟨b,ys,e1,h1,r⟩:=tv (a.im (j:=0) rfl rfl)
  subst e1
  refine⟨_,rfl,b,rfl,⟨ys,h1⟩,k _ ⟨λ{i d ι' H' σ' Z' G'} hi hd l s=>?_,λ{ι' H' σ' Z' G'} hf l s=>?_⟩⟩
  ·obtain⟨b',zs,e2,h2,r2⟩:=tv ((pP rfl l s).im (j:=0) rfl rfl)
   cases e2
   have hd:(sq Z' G' (.v (.im x))).bind (·[i]?)=some d:=hd
   rw [sx] at hd
   have hd:xs[i]?=some d:=hd
   obtain⟨v,hv,rv⟩:=r2.get hd
   refine⟨⟨zs,v,h2,hv⟩,λx H' y=>?_⟩
   obtain⟨e2,e3⟩:=y
   subst e2
   have:=e3 zs h2
   rw [hv] at this;cases this
   exact⟨(λ_ _ h=>h),rv⟩
  ·obtain⟨b',zs,e2,h2,r2⟩:=tv ((pP rfl l s).im (j:=0) rfl rfl)
   cases e2
   exact⟨zs,h2,by rw [r2.len];exact z12 _⟩
 split at h
 ·cases h
  exact go (.inl rfl) a rfl k
 ·cases h
  exact go (.inr rfl) a rfl k
 ·cases h
end
end
section
section
noncomputable def mT:List Nat->Mo Unit
 | []=>rt ()
 | i::is=>λZ G=>match Z[i]? with
  | some (some (.ow m))=>mT is (Z.set i (some (.im (.ref G.length)))) (G++[m])
  | _=>mT is Z G
theorem Ba:∀{ix:List Nat} {Z Z':De} {G G':List M} {ι:List Addr} {u:Unit},mT ix Z G=some (u,Z',G')->SR K κ ι H σ Z G->∃ι',SR K κ ι' H σ Z' G'/\Step ι (own σ Z++ι) H ι' (own σ Z'++ι') H
 | [],_,_,_,_,ι,_,h,s=>by cases h;exact⟨ι,s,Step.refl _ _ _⟩
 | i::is,Z,Z',G,G',ι,u,h,s=>by
  unfold mT at h
  split at h
  ·rename_i m hm
   obtain⟨a,e1,r⟩:=s.y167 hm
   have n:=After.nil s
   have a1:After K κ σ ι (own σ Z++ι) H [.s i] Z G [.ref a] ι H:=⟨⟨s.len,n.ar.sr,.cons (λj h=>by cases h;exact e1) .nil⟩,n.st⟩
   have hb:mQ (.s i) Z G=some (.v (.im (.ref G.length)),Z.set i (some (.im (.ref G.length))),G++[m]):=by unfold mQ;dsimp only;rw [hm]
   obtain⟨ι2,a2⟩:=y5d a1 hb
   obtain⟨s2,st2⟩:=a2.drop
   obtain⟨ι3,s3,st3⟩:=Ba h s2
   exact⟨ι3,s3,st2.trans st3⟩
  ·exact Ba h s
noncomputable def iG(Z:De)(i:Nat):Option Vl:=match Z[i]? with
 | some (some (.im d))=>some (.im d)
 | _=>none
noncomputable def iH(ix:List Nat)(Z:De):De:=ix.map (iG Z)
noncomputable def inV(ix:List Nat)(σ:St):St:=ix.map λi=>(σ[i]?).getD none
theorem mU(h:SR K κ ι H σ Z G):∀(ix:List Nat),Paired (RpE K κ ι H) (inV ix σ) (iH ix Z)/\own (inV ix σ) (iH ix Z)=[]
 | []=>⟨.nil,rfl⟩
 | i::ix=>by
  obtain⟨p,q⟩:=mU h ix
  have one:RpE K κ ι H ((σ[i]?).getD none) (iG Z i)/\bo ((σ[i]?).getD none) (iG Z i)=[]:=by
   unfold iG
   split
   ·rename_i d hd
    obtain⟨v,e,r⟩:=h.y165 hd
    rw [e]
    exact⟨.im r,ft _ _⟩
   ·exact⟨.no _,jz _⟩
  refine⟨.cons one.1 p,?_⟩
  show bo _ _++own (inV ix σ) (iH ix Z)=[]
  rw [one.2,q];rfl
theorem tP:∀{xs:List V} {ds:List I},y4d K ι H xs ds->Paired (RpE K κ ι H) (xs.map some) (ds.map λd=>some (Vl.im d))/\own (xs.map some) (ds.map λd=>some (Vl.im d))=[]
 | _,_,.nil=>⟨.nil,rfl⟩
 | _,_,.cons r rs=>by
  obtain⟨p,q⟩:=tP rs
  refine⟨.cons (.im r) p,?_⟩
  show bo _ _++own _ _=[]
  rw [ft,q];rfl
noncomputable def eJ(w:Wk)(c:I->Option (List I))(tt:Mo Bool)(te:Mo Ev)(di:De):Nat->Nat->List I->De->List M->Option (List I×List M)
 | i,0,acc,Z,G=>if w.fin Z G then some (acc,G) else none
 | i,r+1,acc,Z,G=>match w.at_ i Z G with
  | some d=>match c d with
   | some ds=>match tt ((ds.map λd=>some (Vl.im d))++di) G with
    | some (true,Za,Ga)=>match te Za Ga with
     | some (.v (.im y),_,Gb)=>eJ w c tt te di (i+1) r (acc++[y]) Z Gb
     | _=>none
    | some (false,_,Ga)=>eJ w c tt te di (i+1) r acc Z Ga
    | none=>none
   | none=>none
  | none=>none
noncomputable def Bb(K:W.Frag)(g:TG)(n:Nat)(c:I->Option (List I)):Prop:=∀(ι:List Addr) (H:Hp) (x:V) (d:I) (ds:List I) (σ':St) (Q:St->Hp->Prop),RpI K ι H x d->c d=some ds ->
 ds.length=n/\((∀xs,y4d K ι H xs ds->Q (xs.map some++σ') H)->g x (List.replicate n none++σ') H Q)
noncomputable def c1:I->Option (List I):=λd=>some [d]
noncomputable def cN(n:Nat):I->Option (List I):=λd=>match d with
 | .tup ds=>if ds.length=n then some ds else none
 | _=>none
theorem tQ:Bb K (iz 0) 1 c1:=by
 intro ι H x d ds σ' Q r h
 cases h
 exact⟨rfl,λk=>k [x] (.cons r .nil)⟩
theorem tR:∀(vs:List V) (pre:St) (σ':St) (Q:St->Hp->Prop),Q (pre++(vs.map some++σ')) H->gW ((List.range vs.length).map (pre.length + ·)) vs (pre++(List.replicate vs.length none++σ')) H Q
 | [],pre,σ',Q,h=>⟨rfl,h⟩
 | v::vs,pre,σ',Q,h=>by
  have e:(List.range (v::vs).length).map (pre.length + ·)=pre.length::(List.range vs.length).map ((pre++[some v]).length + ·):=by
   rw [z29,List.range_succ_eq_map,z1a,z38]
   congr 1
   refine List.map_congr_left λj _=>?_
   simp
   lia
  rw [e]
  refine⟨v,vs,rfl,?_⟩
  show gW _ vs ((pre++(List.replicate (vs.length+1) none++σ')).set pre.length (some v)) H Q
  have e2:(pre++(List.replicate (vs.length+1) none++σ')).set pre.length (some v)=(pre++[some v])++(List.replicate vs.length none++σ'):=by
   rw [List.set_append_right _ _ (z12 _),Nat.sub_self,List.replicate_succ]
   simp
  rw [e2]
  refine tR vs (pre++[some v]) σ' Q ?_
  have e3:pre++[some v]++(vs.map some++σ')=pre++((v::vs).map some++σ'):=by simp
  rw [e3]
  exact h
theorem tT(n:Nat):Bb K (kA K n (gW (List.range n))) n (cN n):=by
 intro ι H x d ds σ' Q r h
 unfold cN at h
 split at h
 ·rename_i xs
  split at h
  ·rename_i hl
   cases h
   refine⟨hl,λk=>?_⟩
   cases r with
   | @tup a ys _ h1 r =>
    have e:=r.len
    refine⟨a,ys,rfl,a7.of h1,by lia,?_⟩
    have q:=tR (H:=H) ys [] σ' Q (k ys r)
    have e1:(List.range ys.length).map (([]:St).length + ·)=List.range n:=by
     rw [e,hl];simp
    rw [e1] at q
    have e2:n=ys.length:=by lia
    rw [e2]
    rw [<- e2] at q ⊢
    exact q
  ·cases h
 ·cases h
noncomputable def cH(fi:IF)(ix:List Nat)(c:I->Option (List I))(tt:Mo Bool)(te:Mo Ev):Mo Ev:=λZ G=>match mT ix Z G with
 | some (_,Z0,G0)=>match fi Z0 G0 with
  | some (w,_,Z1,G1)=>if w.n≤100000 then match eJ w c tt te (iH ix Z1) 0 w.n [] Z1 G1 with
   | some (ds,G2)=>some (.v (.ow (.lst ds)),Z1,G2)
   | none=>none
   else none
  | none=>none
 | none=>none
theorem Bc:100000<sizeLine:=by decide
theorem oH    (hg:∀z,Bb K (g z) n c)(h:aT K κ (cH fi ix c tt te) σ H Q) :
  nU n ix (oB K κ fi) g (λ_=>dh K κ tt) (λ_=>aT K κ te) σ H Q:=by
 obtain⟨ι,Z,G,e,Z',G',s,eq,k⟩:=h
 unfold cH at eq
 split at eq
 ·rename_i u Z0 G0 e0
  split at eq
  ·rename_i w es Z1 G1 e1
   split at eq
   ·rename_i hn
    split at eq
    ·rename_i ds G2 e2
     obtain⟨ι0,s0,st0⟩:=Ba e0 s
     refine⟨ι0,Z0,G0,w,es,Z1,G1,s0,e1,λJ vs ι1 H1 a wk=>?_⟩
     intro D hD
     have lo:(σ++tS es vs).length=(Z1++tD es).length:=by
      have:=a.ar.sr.len;exact this
     refine⟨λi m ys H'=>i+m=w.n/\H' D=some (.lst ys)/\∃ι' G' acc,SR K κ ι' H' ((σ++tS es vs)++[some (.ref D)]) ((Z1++tD es)++[some (.ow (.lst acc))]) G' /\
      Step ι (own σ Z++ι) H ι' (own ((σ++tS es vs)++[some (.ref D)]) ((Z1++tD es)++[some (.ow (.lst acc))])++ι') H'/\acc.length≤i/\acc.length=ys.length/\eJ w c tt te (iH ix Z1) i m acc Z1 G'=some (ds,G2),⟨w.n,by lia,bh,ι1,G1,[],?_,?_,z12 _,rfl,e2⟩,?_⟩
     ·exact a.ar.sr.y342 hD ⟨[],bh,.nil⟩
     ·exact (st0.trans a.st).trans (Step.y1e3 lo hD)
     ·rintro i m ys H' ⟨him,hys,ι',G',acc,s',st,hac,hay,et⟩
      refine⟨hys,?_⟩
      have sb:=s'.pop lo
      cases m with
      | zero =>
       unfold eJ at et
       split at et
       ·rename_i hf
        cases et
        have hi:i=w.n:=by lia
        subst hi
        refine .inl ⟨wk.stop hf a.ar.l sb,?_⟩
        have l1:=a.ar.l
        obtain⟨pa,pc⟩:=cf lo s'.sl
        obtain⟨pa,pb⟩:=cf l1 pa
        have lt:=Paired.length pb
        have e3:own ((σ++tS es vs)++[some (.ref D)]) ((Z1++tD es)++[some (.ow (.lst ds))])=own σ Z1++own (tS es vs) (tD es)++[D]:=by rw [fw lo,bN _ _ l1]
        have e4:own (σ++[some (.ref D)]) (Z1++[some (.ow (.lst ds))])=own σ Z1++[D]:=fw l1
        refine k _ ι' H' (bF eq ⟨⟨l1,⟨dw pa pc,s'.gs,λx=>?_⟩,.cons (λ_ h=>by cases h) .nil⟩,st.sub λx hx=>?_⟩)
        ·have n':=s'.nd x
         rw [e3] at n'
         show bc x (own (σ++[some (.ref D)]) (Z1++[some (.ow (.lst ds))]))+bc x ι'≤1
         rw [e4]
         simp only [bc,z24] at n' ⊢
         lia
        ·have hx:x∈own (σ++[some (.ref D)]) (Z1++[some (.ow (.lst ds))])++ι':=hx
         rw [e4] at hx
         rw [e3]
         simp only [z1d] at hx ⊢
         rcases hx with (hx|hx)|hx
         ·exact .inl (.inl (.inl hx))
         ·exact .inl (.inr hx)
         ·exact .inr hx
       ·cases et
      | succ m =>
       unfold eJ at et
       split at et
       ·rename_i d hd
        obtain⟨go,yl⟩:=wk.go (by lia) hd a.ar.l sb
        refine .inr ⟨go,by have:=Bc;lia,λys' H5=>i+1+m=w.n/\H5 D=some (.lst ys')/\∃ι5 G5 y58,SR K κ ι5 H5 ((σ++tS es vs)++[some (.ref D)]) ((Z1++tD es)++[some (.ow (.lst y58))]) G5 /\
         Step ι (own σ Z++ι) H ι5 (own ((σ++tS es vs)++[some (.ref D)]) ((Z1++tD es)++[some (.ow (.lst y58))])++ι5) H5/\y58.length≤i+1/\y58.length=ys'.length/\eJ w c tt te (iH ix Z1) (i+1) m y58 Z1 G5=some (ds,G2),λys' H5 q=>⟨m,z35 _,q⟩,λx H3 hy z=>?_⟩
        obtain⟨sm,rx⟩:=yl x H3 hy
        split at et
        ·rename_i dd hc
         obtain⟨hl,tg⟩:=hg z ι' H3 x d dd (inV ix σ) _ rx hc
         refine tg λxs rs=>?_
         have s3:=s'.same sm
         have st3:=st.trans (Step.same (ι:=ι') (fp:=own ((σ++tS es vs)++[some (.ref D)]) ((Z1++tD es)++[some (.ow (.lst acc))])++ι') sm)
         obtain⟨p1,o1⟩:=tP (κ:=κ) rs
         obtain⟨p2,o2⟩:=mU ((s3.pop lo).pop a.ar.l) ix
         have lx:=Paired.length p1
         have oin:own (xs.map some++inV ix σ) (dd.map (λd=>some (Vl.im d))++iH ix Z1)=[]:=by rw [bN _ _ lx,o1,o2];rfl
         have sin:SR K κ ι' H3 (xs.map some++inV ix σ) (dd.map (λd=>some (Vl.im d))++iH ix Z1) G':=⟨dw p1 p2,s3.gs,λy=>by
          rw [oin];have:=s3.nd y;simp only [bc,List.count_nil] at *;lia⟩
         have lin:=sin.len
         have both:SR K κ ι' H3 ((xs.map some++inV ix σ)++((σ++tS es vs)++[some (.ref D)])) ((dd.map (λd=>some (Vl.im d))++iH ix Z1)++((Z1++tD es)++[some (.ow (.lst acc))])) G':=⟨dw sin.sl s3.sl,s3.gs,λy=>by
          rw [bN _ _ lin,oin];have:=s3.nd y;simpa using this⟩
         have kn:y41 n ix σ (xs.map some++inV ix σ):=by
          have lxs:xs.length=n:=by rw [z19,z19] at lx;lia
          refine⟨by rw [z14,z19];unfold inV;rw [z19,lxs],λj v hj=>?_⟩
          unfold dr at hj
          by_cases hjn:j<n
          ·rw [z1c (by simpa using hjn),List.getElem?_replicate,if_pos hjn] at hj
           cases hj
          ·rw [z1f (by simp;lia)] at hj
           rw [z1f (by simp;lia)]
           simp only [List.length_replicate,z19,lxs] at hj ⊢
           exact hj
         refine⟨kn,?_⟩
         have jn:∀{σ5:St} {Z5:De} {θ5:De} {τ5:St} {G5:List M} {ι5:List Addr} {H5:Hp},σ5.length=Z5.length->SR K κ ι5 H5 (σ5++τ5) (Z5++θ5) G5->Step ι' (own (xs.map some++inV ix σ) (dd.map (λd=>some (Vl.im d))++iH ix Z1)++ι') H3 ι5 (own (σ5++τ5) (Z5++θ5)++ι5) H5 ->
           SR K κ ι5 H5 (((σ++tS es vs)++[some (.ref D)])++τ5) (((Z1++tD es)++[some (.ow (.lst acc))])++θ5) G5/\Step ι (own σ Z++ι) H ι5 (own (((σ++tS es vs)++[some (.ref D)])++τ5) (((Z1++tD es)++[some (.ow (.lst acc))])++θ5)++ι5) H5/\H5 D=some (.lst ys):=λ{σ5 Z5 θ5 τ5 G5 ι5 H5} l5 s5 st5=>by
          obtain⟨j1,j2⟩:=SR.join both lin s5 l5 st5
          have lT:((σ++tS es vs)++[some (V.ref D)]).length=((Z1++tD es)++[some (Vl.ow (.lst acc))]).length:=s3.len
          have lj:(((σ++tS es vs)++[some (V.ref D)])++τ5).length=(((Z1++tD es)++[some (Vl.ow (.lst acc))])++θ5).length:=by
           have:=j1.len;rw [z14,z14 (as:=Z5)] at this;lia
          refine⟨(j1.swap l5).pop lj,?_,?_⟩
          ·refine (st3.trans (j2.wide λy hy=>?_)).sub λy hy=>?_
           ·rw [bN _ _ lin,oin] at hy;exact hy
           ·exact fV (σ:=σ5) (Z:=Z5) l5 lj (cD lj hy)
          ·have q:=sm _ _ hys
           refine st5.keep D _ q λhm=>?_
           rw [oin] at hm
           have n':=s3.nd D
           rw [fw lo] at n'
           have:=gQ.mp (show D∈ι' from hm)
           have c1:List.count D [D]=1:=by simp
           simp only [bc,z24] at *
           lia
         split at et
         ·rename_i Za Ga ea
          refine⟨ι',_,G',true,Za,Ga,sin,ea,λι4 H4 s4 st4=>?_⟩
          dsimp only
          rw [if_pos rfl]
          split at et
          ·rename_i y Zb Gb eb
           refine⟨ι4,Za,Ga,_,Zb,Gb,s4,eb,λyv ι5 H5 a5=>?_⟩
           obtain⟨j1,j2,j3⟩:=jn a5.ar.l a5.ar.sr (st4.trans a5.st)
           refine⟨j3,by lia,bh,ι5,Gb,acc++[y],?_⟩
           have ry:RpI K ι5 H5 yv y:=a5.ar.im (j:=0) rfl rfl
           have lT:((σ++tS es vs)++[some (V.ref D)]).length=((Z1++tD es)++[some (Vl.ow (.lst acc))]).length:=s3.len
           have s6:=j1.pop lT
           have i1:((σ++tS es vs)++[some (V.ref D)])[(σ++tS es vs).length]?=some (some (.ref D)):=by rw [z1f (z12 _),Nat.sub_self];rfl
           have i2:((Z1++tD es)++[some (Vl.ow (.lst acc))])[(σ++tS es vs).length]?=some (some (.ow (.lst acc))):=by rw [lo,z1f (z12 _),Nat.sub_self];rfl
           obtain⟨q1,q2⟩:=s6.poke i1 i2 (m':=.lst (acc++[y])) (o:=.lst (ys++[yv])) (λρ kp=>by
            obtain⟨zs,h1,h2⟩:=ρ
            rw [j3] at h1;cases h1
            exact⟨_,bh,(h2.app (.cons ry .nil)).mono (bQ.refl _) kp⟩)
           have e5:((Z1++tD es)++[some (Vl.ow (.lst acc))]).set (σ++tS es vs).length (some (.ow (.lst (acc++[y]))))=(Z1++tD es)++[some (.ow (.lst (acc++[y])))]:=by rw [lo,List.set_append_right _ _ (z12 _),Nat.sub_self];rfl
           rw [e5] at q1 q2
           refine⟨q1,(j2.sub λw hw=>cD lT hw).trans q2,by rw [z14];simp;lia,by rw [z14,z14];simp;lia,et⟩
          ·cases et
         ·rename_i Za Ga ea
          refine⟨ι',_,G',false,Za,Ga,sin,ea,λι4 H4 s4 st4=>?_⟩
          dsimp only
          rw [if_neg z16]
          have s4':SR K κ ι4 H4 ((xs.map some++inV ix σ)++[]) (Za++[]) Ga:=by rw [z18,z18];exact s4
          obtain⟨j1,j2,j3⟩:=jn (τ5:=[]) (θ5:=[]) s4.len s4' (by rw [z18,z18];exact st4)
          rw [z18,z18] at j1 j2
          exact⟨by lia,j3,ι4,Ga,acc,j1,j2,by lia,hay,et⟩
         ·cases et
        ·cases et
       ·cases et
    ·cases eq
   ·cases eq
  ·cases eq
 ·cases eq
end
end
section
section
variable {κ:Str->Addr}
theorem tU{κ':Type}[BEq κ']{f:κ'}:∀{ws:List (κ'×V)} {fs:List (κ'×I)} {d:I},ws.map (·.1)=fs.map (·.1)->y4d K ι H (ws.map (·.2)) (fs.map (·.2))->fs.lookup f=some d->∃v,ws.lookup f=some v/\RpI K ι H v d
 | [],[],_,_,_,h=>by cases h
 | [],_::_,_,e,_,_=>by cases e
 | _::_,[],_,e,_,_=>by cases e
 | (g,v)::ws,(g',d0)::fs,d,e,r,h=>by
  simp only [z1a,List.cons.injEq] at e
  obtain⟨e1,e2⟩:=e
  subst e1
  cases r with
  | cons r rs =>
   rw [List.lookup_cons] at h ⊢
   cases q:(f == g) with
   | true=>rw [q] at h;cases h;exact⟨v,rfl,r⟩
   | false=>rw [q] at h;exact tU e2 rs h
theorem tV{κ':Type}[BEq κ']{f:κ'}:∀{ws:List (κ'×V)} {fs:List (κ'×I)},ws.map (·.1)=fs.map (·.1)->fs.lookup f=none->ws.lookup f=none
 | [],[],_,_=>rfl
 | [],_::_,e,_=>by cases e
 | _::_,[],e,_=>by cases e
 | (g,v)::ws,(g',d0)::fs,e,h=>by
  simp only [z1a,List.cons.injEq] at e
  obtain⟨e1,e2⟩:=e
  subst e1
  rw [List.lookup_cons] at h ⊢
  cases q:(f == g) with
  | true=>rw [q] at h;cases h
  | false=>rw [q] at h;exact tV e2 h
noncomputable def gY(f:Str)(d:I):List (Str×I)->List (Str×I)
 | []=>[(f,d)]
 | (g,x)::r=>if g=f then (g,d)::r else (g,x)::gY f d r
theorem tW (rv:RpI K ι H v d):∀{ws:List (Str×V)} {fs:List (Str×I)},ws.map (·.1)=fs.map (·.1)->y4d K ι H (ws.map (·.2)) (fs.map (·.2)) ->
  (b8 f v ws).map (·.1)=(gY f d fs).map (·.1)/\y4d K ι H ((b8 f v ws).map (·.2)) ((gY f d fs).map (·.2))
 | [],[],_,_=>⟨rfl,.cons rv .nil⟩
 | [],_::_,e,_=>by cases e
 | _::_,[],e,_=>by cases e
 | (g,u)::ws,(g',d0)::fs,e,r=>by
  simp only [z1a,List.cons.injEq] at e
  obtain⟨e1,e2⟩:=e
  subst e1
  cases r with
  | cons r rs =>
   unfold b8 gY
   by_cases q:g=f
   ·rw [if_pos q,if_pos q]
    exact⟨by simp [e2],.cons rv rs⟩
   ·rw [if_neg q,if_neg q]
    obtain⟨p1,p2⟩:=tW rv e2 rs
    exact⟨by simp [p1],.cons r p2⟩
noncomputable def cW(c f:Str):List Ev->Mo Ev:=λes Z G=>match es with
 | [.v (.im (.ref k))]=>match G[k]? with
  | some (.obj c' fs)=>if c'=c then match fs.lookup f with
   | some d=>some (.v (.im d),Z,G)
   | none=>none
   else none
  | _=>none
 | _=>none
theorem Bd(hc:Cls K (κ c))(hn:il K (κ c) f):ay K κ (r1 λx H1 Q=>∃a C dx fs v,x=.ref a/\H1 a=some (.ins C dx fs)/\Cls K C/\il K C f/\fs.lookup f=some v/\Q v H1) (cW c f):=by
 intro ι H σ Z G es vs e Z' G' Q a h k
 unfold cW at h
 split at h
 ·rename_i n
  split at h
  ·rename_i c' fs hg
   split at h
   ·rename_i ec
    subst ec
    split at h
    ·rename_i d hd
     obtain⟨v,rfl⟩:=bI a.len
     have r:=a.im (j:=0) rfl rfl
     cases r with
     | @ref b _ e1 =>
      obtain⟨b',e2,dx,ws,h1,h2,h3⟩:=a.base.y163 hg
      rw [e1] at e2;cases e2
      obtain⟨v,hv,rv⟩:=tU h2 h3 hd
      exact⟨_,rfl,b,_,dx,ws,v,rfl,h1,hc,hn,hv,k _ _ _ (bF h (a8 a rv))⟩
    ·cases h
   ·cases h
  ·cases h
 ·cases h
theorem Be (hc:Cls K (κ c))(hn:il K (κ c) f)(h:aT K κ (bC (cW c f) fo) σ H Q):qU K (aT K κ fo) f σ H Q:=gU (Bd hc hn) h
noncomputable def iI(c f:Str)(fo fv:Mo Ev):SF:=λZ G=>match fv Z G with
 | some (.v (.im d),Z1,G1)=>match fo Z1 G1 with
  | some (.v (.im (.ref k)),Z2,G2)=>match G2[k]? with
   | some (.obj c' fs)=>if c'=c/\fs.length<1000 then some (.nx Z2 (G2.set k (.obj c (gY f d fs)))) else none
   | _=>none
  | _=>none
 | _=>none
theorem Bf (hc:Cls K (κ c))(hn:il K (κ c) f)(h:dk K κ (iI c f fo fv) D σ H):qV K (aT K κ fo) (aT K κ fv) f D σ H:=by
 obtain⟨ι,Z,G,fl,s,eq,k⟩:=h
 unfold iI at eq
 split at eq
 ·rename_i d Z1 G1 e1
  split at eq
  ·rename_i n Z2 G2 e2
   split at eq
   ·rename_i c' fs hg
    split at eq
    ·rename_i hcl
     obtain⟨ec,hl⟩:=hcl
     subst ec
     cases eq
     refine⟨ι,Z,G,_,Z1,G1,s,e1,λv ι1 H1 a1=>?_⟩
     refine⟨ι1,Z1,G1,_,Z2,G2,a1.ar.base,e2,λx ι2 H2 a2=>?_⟩
     have a:=a1.app a2
     have rv:=a.ar.im (j:=0) rfl rfl
     have rx:=a.ar.im (j:=1) rfl rfl
     cases rx with
     | @ref b _ eb =>
      obtain⟨b',e3,dx,ws,h1,h2,h3⟩:=a.ar.base.y163 hg
      rw [eb] at e3;cases e3
      have hlw:ws.length<1000:=by have:=congrArg List.length h2;simp at this;lia
      refine⟨b,_,dx,ws,rfl,h1,hc,hn,hlw,?_⟩
      obtain⟨p,q⟩:=a.ar.base.y2f7 eb hg (m':=.obj c' (gY f d fs)) (λ_ kp=>by
       obtain⟨p1,p2⟩:=tW rv h2 h3
       exact⟨dx,_,bh,p1,p2.mono (bQ.refl _) kp⟩)
      exact k _ _ _ p ((a.st.sub λy hy=>cD a.ar.l hy).trans q)
    ·cases eq
   ·cases eq
  ·cases eq
 ·cases eq
noncomputable def bg(c m:Str)(n:Nat)(fn:FF)(fo:Mo Ev)(fa:Mo (List Ev)):Mo Ev:=bd fo λe=>λZ G=>match e with
 | .v (.im (.ref k))=>match G[k]? with
  | some (.obj c' fs)=>if c'=c/\(fs.lookup m).isNone then bd fa (λes=>aV n fn (.v (.im (.ref k))::es)) Z G else none
  | _=>none
 | _=>none
theorem Bg   (h:aT K κ (bg c m n fn fo fa) σ H Q):qX (κ c) m (bp K κ n fn) [] E (aT K κ fo) (ir K κ fa) σ H Q:=by
 obtain⟨ι,Z,G,e,Z',G',s,eq,k⟩:=h
 obtain⟨x,Z1,G1,e1,eq2⟩:=bW eq
 clear eq
 split at eq2
 ·rename_i kk
  split at eq2
  ·rename_i c' fs hg
   split at eq2
   ·rename_i hcl
    obtain⟨ec,hl⟩:=hcl
    subst ec
    obtain⟨ys,Z2,G2,e2,eq3⟩:=bW eq2
    refine⟨ι,Z,G,_,Z1,G1,s,e1,λv ι1 H1 a1=>?_⟩
    have rx:=a1.ar.im (j:=0) rfl rfl
    cases rx with
    | @ref b _ eb =>
     obtain⟨b',e3,dx,ws,h1,h2,h3⟩:=a1.ar.base.y163 hg
     rw [eb] at e3;cases e3
     refine⟨b,dx,ws,rfl,h1,tV h2 (Option.isNone_iff_eq_none.mp hl),?_⟩
     refine⟨ι1,Z1,G1,ys,Z2,G2,a1.ar.base,e2,λvs ι2 H2 a2=>?_⟩
     have a:=a1.app a2
     dsimp only
     rw [z18]
     exact tJ _ _ _ _ _ _ _ _ _ _ Q a.ar eq3 λv ι3 H3 d=>k _ _ _ (a.then d)
   ·cases eq2
  ·cases eq2
 ·cases eq2
noncomputable def jD(c:Str)(n:Nat)(fn:FF):List Ev->Mo Ev:=λes Z G=>match mS es with
 | some xs=>if xs.length+1=n then match fn (.im (.ref G.length)::xs) (G++[.obj c []]) with
  | some (.im .non,G')=>some (.v (.im (.ref G.length)),Z,G')
  | _=>none
  else none
 | none=>none
theorem Bh   : ay K κ (λvs H1 Q=>∀x dx,H1 x=none->H1 dx=none->dx≠x ->
  bp K κ n fn (.ref x::(vs++[])) (aD (aD H1 dx (.own x)) x (.ins (κ c) dx [])) (λv H2=>v=.non/\Q (.ref x) H2) E) (jD c n fn):=by
 intro ι H σ Z G es vs e Z' G' Q a h k x dx hx hdx ndx
 unfold jD at h
 split at h
 ·rename_i xs hxs
  split at h
  ·rename_i hl
   split at h
   ·rename_i G1 e1
    cases h
    rw [z18]
    obtain⟨t1,t2⟩:=oC hxs a.len
    have sr:=a.sr
    rw [t1,t2] at sr k
    have lt:(vs.map some).length=(xs.map some).length:=Paired.length (cf a.l sr.sl).2
    have hx1:(aD H dx (.own x)) x=none:=by rw [aI (Ne.symm ndx)];exact hx
    have sm1:eB H (aD H dx (.own x)):=eB.lay hdx
    have sm2:eB (aD H dx (.own x)) (aD (aD H dx (.own x)) x (.ins (κ c) dx [])):=eB.lay hx1
    have s1:=sr.same sm1
    have s2:=s1.y342 (m:=.obj c []) hx1 ⟨dx,[],bh,rfl,.nil⟩
    obtain⟨s3,r3,q3⟩:=s2.box s1.len
    have s4:SR K κ (ι++[x]) (aD (aD H dx (.own x)) x (.ins (κ c) dx [])) (((V.ref x::vs).map some)++σ) (((Vl.im (.ref G.length)::xs).map some)++Z) (G++[.obj c []]):=by
     have q:=(s3.swap a.l)
     refine⟨.cons (.im r3) q.sl,q.gs,λy=>?_⟩
     have:=q.nd y
     show bc y (bo _ _++own (vs.map some++σ) (xs.map some++Z))+_≤1
     rw [ft]
     exact this
    have l4:((V.ref x::vs).map some).length=((Vl.im (.ref G.length)::xs).map some).length:=by simpa using lt
    refine⟨ι++[x],.im (.ref G.length)::xs,G++[.obj c []],.im .non,_,by simpa using hl,s4.pop l4,e1,λv ι' H' s st=>?_⟩
    have rv:RpI K ι' H' v .non:=by
     have:=s.sl
     cases this with
     | cons q _=>cases q with
      | im q=>exact q
    cases k5 (rv)
    refine⟨rfl,?_⟩
    have s':SR K κ ι' H' ([some V.non]++[]) ([some (Vl.im .non)]++[]) _:=s
    obtain⟨j1,j2⟩:=SR.join (Z1:=(Vl.im (.ref G.length)::xs).map some) (Z2:=[some (Vl.im .non)]) s4 l4 s' rfl st
    rw [z18,z18] at j1 j2
    have jb:=(j1.swap rfl).pop a.l
    have rx:RpI K ι' H' (.ref x) (.ref G.length):=r3.mono st.pre st.kp
    have stt:Step ι (own (σ++vs.map some) (Z++xs.map some)++ι) H ι' (own σ Z++ι') H':=by
     have b1:Step ι (own (σ++vs.map some) (Z++xs.map some)++ι) H ι (own (σ++vs.map some) (Z++xs.map some)++ι) (aD H dx (.own x)):=Step.same sm1
     have b2:=Step.y1e3 (ι:=ι) (o:=.ins (κ c) dx []) (m:=.obj c []) s1.len hx1
     have b3:=q3
     refine ((b1.trans (b2.trans b3)).trans (j2.wide λy hy=>?_)).sub λy hy=>?_
     ·have hy:y∈(bo _ _++own (vs.map some++σ) (xs.map some++Z))++(ι++[x]):=hy
      rw [ft] at hy
      exact fV a.l lt hy
     ·exact fV (σ:=[some V.non]) (Z:=[some (Vl.im .non)]) rfl a.l (cD a.l hy) |> λz=>by
       have z:=fV (Z:=Z) a.l rfl (fV (σ:=[some V.non]) (Z:=[some (Vl.im .non)]) (τ:=σ) (θ:=Z) rfl a.l (cD a.l hy))
       exact fV (σ:=[some V.non]) (Z:=[some (Vl.im .non)]) (τ:=σ) (θ:=Z) rfl a.l z
    refine k _ ι' H' ⟨⟨a.l,jb.push_im rx,.cons (λ_ h=>by cases h) .nil⟩,stt.sub λy hy=>?_⟩
    have hy:y∈own (σ++[some (V.ref x)]) (Z++[some (Vl.im (.ref G.length))])++ι':=hy
    rw [dP a.l] at hy
    exact hy
   ·cases h
  ·cases h
 ·cases h
end
end
end B
namespace B
open PySem PySem.Spec PyProof.Rows L2
section
section
variable {X:Cx}{e:Expr}{es:List Expr}{st:Stmt}{sts:List Stmt}
theorem aK(h:PE X e t)(k:∀σ H Q,t' σ H Q->t σ H Q):PE X e t':=λpins s σ H Q I q=>h pins s σ H Q I (k σ H Q q)
theorem iJ(h:PT X e t)(k:∀σ H Q,t' σ H Q->t σ H Q):PT X e t':=λpins s σ H Q I q=>h pins s σ H Q I (k σ H Q q)
theorem jE(h:PW X e t)(k:∀σ H Q,t' σ H Q->t σ H Q):PW X e t':=λw pins s σ H Q I q=>h w pins s σ H Q I (k σ H Q q)
theorem tX(h:PA X es t)(k:∀σ H Q,t' σ H Q->t σ H Q):PA X es t':=λpos pins s σ H Q I q=>h pos pins s σ H Q I (k σ H Q q)
theorem eD{t t':TS}(h:PS X st t)(k:∀D σ H,t' D σ H->t D σ H):PS X st t':=λpins s σ H D I q=>h pins s σ H D I (k D σ H q)
theorem tY(h:fP X sts t)(k:∀D σ H,t' D σ H->t D σ H):fP X sts t':=λpins s σ H D I q=>h pins s σ H D I (k D σ H q)
theorem jF (h:PI X tg iter t)(k:∀σ H R,t' σ H R->t σ H R):PI X tg iter t':=λpins s σ H R I q=>h pins s σ H R I (k σ H R q)
theorem t7 (h:PG X tg t)(k:∀v σ H Q,t' v σ H Q->t v σ H Q):PG X tg t':=λpins s σ H v u Q I r q=>h pins s σ H v u Q I r (k v σ H Q q)
theorem nu(h:PE X e t)(h':PE X e t'):PE X e (λσ H Q=>t σ H Q∨t' σ H Q):=λpins s σ H Q I q=>q.elim (h pins s σ H Q I) (h' pins s σ H Q I)
theorem t8(h:PT X e t)(h':PT X e t'):PT X e (λσ H Q=>t σ H Q∨t' σ H Q):=λpins s σ H Q I q=>q.elim (h pins s σ H Q I) (h' pins s σ H Q I)
theorem t9{t t':TS}(h:PS X st t)(h':PS X st t'):PS X st (λD σ H=>t D σ H∨t' D σ H):=λpins s σ H D I q=>q.elim (h pins s σ H D I) (h' pins s σ H D I)
theorem ua (h:PI X tg iter t)(h':PI X tg iter t'):PI X tg iter (λσ H R=>t σ H R∨t' σ H R):=λpins s σ H R I q=>q.elim (h pins s σ H R I) (h' pins s σ H R I)
end
section
variable {X:Cx}{κ:Str->Addr}{a b c:Expr}{fa fb fv:Mo Ev}{fc fd:Mo Bool}{fs:Mo (List Ev)}{es:List Expr}{pos:Pos}
@[irreducible] noncomputable def LE(X:Cx)(κ:Str->Addr)(e:Expr)(f:Mo Ev):Prop:=PE X e (aT X.K κ f)
theorem LE.mk  (h:PE X e (aT X.K κ f)):LE X κ e f:=by unfold LE;exact h
theorem LE.pe  (h:LE X κ e f):PE X e (aT X.K κ f):=by unfold LE at h;exact h
@[irreducible] noncomputable def LT(X:Cx)(κ:Str->Addr)(e:Expr)(f:Mo Bool):Prop:=PT X e (dh X.K κ f)
theorem LT.mk  (h:PT X e (dh X.K κ f)):LT X κ e f:=by unfold LT;exact h
theorem LT.pe  (h:LT X κ e f):PT X e (dh X.K κ f):=by unfold LT at h;exact h
@[irreducible] noncomputable def LW(X:Cx)(κ:Str->Addr)(e:Expr)(f:Mo Bool):Prop:=PW X e (dh X.K κ f)
theorem LW.mk  (h:PW X e (dh X.K κ f)):LW X κ e f:=by unfold LW;exact h
theorem LW.pe  (h:LW X κ e f):PW X e (dh X.K κ f):=by unfold LW at h;exact h
@[irreducible] noncomputable def LA(X:Cx)(κ:Str->Addr)(es:List Expr)(f:Mo (List Ev)):Prop:=PA X es (ir X.K κ f)
theorem LA.mk  (h:PA X es (ir X.K κ f)):LA X κ es f:=by unfold LA;exact h
theorem LA.pe  (h:LA X κ es f):PA X es (ir X.K κ f):=by unfold LA at h;exact h
@[irreducible] noncomputable def LS(X:Cx)(κ:Str->Addr)(s:Stmt)(f:SF):Prop:=PS X s (dk X.K κ f)
theorem LS.mk  (h:PS X s (dk X.K κ f)):LS X κ s f:=by unfold LS;exact h
theorem LS.pe  (h:LS X κ s f):PS X s (dk X.K κ f):=by unfold LS at h;exact h
@[irreducible] noncomputable def gZ(X:Cx)(κ:Str->Addr)(s:List Stmt)(f:SF):Prop:=fP X s (dk X.K κ f)
theorem gZ.mk  (h:fP X s (dk X.K κ f)):gZ X κ s f:=by unfold gZ;exact h
theorem gZ.pe  (h:gZ X κ s f):fP X s (dk X.K κ f):=by unfold gZ at h;exact h
@[irreducible] noncomputable def LI(X:Cx)(κ:Str->Addr)(tg e:Expr)(f:IF):Prop:=PI X tg e (oB X.K κ f)
theorem LI.mk  (h:PI X tg e (oB X.K κ f)):LI X κ tg e f:=by unfold LI;exact h
theorem LI.pe  (h:LI X κ tg e f):PI X tg e (oB X.K κ f):=by unfold LI at h;exact h
@[irreducible] noncomputable def LG(X:Cx)(κ:Str->Addr)(tg:Expr)(f:GF):Prop:=PG X tg (ou X.K κ f)
theorem LG.mk  (h:PG X tg (ou X.K κ f)):LG X κ tg f:=by unfold LG;exact h
theorem LG.pe  (h:LG X κ tg f):PG X tg (ou X.K κ f):=by unfold LG at h;exact h
theorem ab(i:Nat)(hN:X.N[i]?=some x:=by rfl)(hv:xq X.env.scope x:=by first|exact Or.inl rfl|exact Or.inr (Or.inl rfl)|exact Or.inr (Or.inr rfl))(hd:(x == ("__debug__" : Str))=false:=by decide)
  (hcd:(x == ("__classdict__" : Str))=false:=by decide):LE X κ (.Name x pos) (aa i):=.mk (aK (xt hN hv hd hcd) λ_ _ _=>AF)
theorem ai{j pos}:LE X κ (.Constant (.int i) j pos) (ah (.int i)):=.mk (aK ng λ_ _ _=>jB λ_ _=>.int _)
theorem pQ{j pos}:LE X κ (.Constant (.bool i) j pos) (ah (.bl i)):=.mk (aK qe λ_ _ _=>jB λ_ _=>.bl _)
theorem fW{j pos}:LE X κ (.Constant .none j pos) (ah .non):=.mk (aK xu λ_ _ _=>jB λ_ _=>.non)
theorem cy{j pos}:LE X κ (.Constant (.str x) j pos) (ah (.str x)):=.mk (aK xw λ_ _ _=>jB λ_ _=>.str _)
theorem Bi  (hg:Gl X x)(hm:X.mg x=some u)(r:av v u)(rd:∀ι H,RpI X.K ι H v d)(hd:(x == ("__debug__" : Str))=false:=by decide):LE X κ (.Name x pos) (ah d):=.mk (aK (xx hg hm r hd) λ_ _ _=>jB rd)
theorem dR(h:LE X κ a fa):LE X κ a (bR fa):=.mk (aK h.pe λ_ _ _=>AG)
theorem uc(h:LE X κ a fa):LE X κ a (dy fa):=.mk (aK h.pe λ_ _ _=>oq)
theorem az:LA X κ [] ae:=.mk (tX nI λ_ _ _=>sZ)
theorem ak(h:LE X κ a fa)(r:LA X κ es fs)(hs:starEach (a::es) X.env=(false,eval a X.env)::starEach es X.env:=by rfl):LA X κ (a::es) (af fa fs):=.mk (tX (nJ h.pe r.pe hs) λ_ _ _=>AE)
theorem aw (ho:bH X (binaryOp op) r)(hp:ay X.K κ (r2 r) p)(ha:LE X κ a fa)(hb:LE X κ b fb):LE X κ (.BinOp a op b pos) (ag p fa fb):=.mk (aK (qH ho ha.pe hb.pe) λ_ _ _=>gS hp)
theorem Bj (ho:wA X (unaryOp op) r)(hp:ay X.K κ (r1 r) p)(ha:LE X κ a fa):LE X κ (.UnaryOp op a pos) (bC p fa):=.mk (aK (nB ho ha.pe) λ_ _ _=>gU hp)
theorem yff (ho:bH X (compareOp op) r)(hp:ay X.K κ (r2 r) p)(ha:LE X κ a fa)(hb:LE X κ b fb)(hm:behindInMarks op b=false):LE X κ (.Compare a [op] [b] pos) (ag p fa fb):=.mk (aK (yr ho ha.pe hb.pe hm) λ_ _ _=>gS hp)
theorem iK (ho:bH X (compareOp op) r)(hp:ay X.K κ (r2 r) p)(ha:LE X κ a fa)(hb:LE X κ b fb)(hm:behindInMarks op b=false):LT X κ (.Compare a [op] [b] pos) (aq (ag p fa fb)):=.mk (iJ (nE ho ha.pe hb.pe hm) λσ H Q h=>gS hp (ly h))
theorem Bk(hc:LT X κ c fc)(ha:LE X κ a fa)(hb:LE X κ b fb):LE X κ (.IfExp c a b pos) (wL fc fa fb):=.mk (aK (xF hc.pe ha.pe hb.pe) λ_ _ _=>AL)
theorem cI{x1}(h:LA X κ es fs):LE X κ (.Tuple es x1 pos) (bd fs bD):=.mk (aK (yL h.pe) λ_ _ _ q=>eC AH q)
theorem cJ(h:LA X κ es fs):LE X κ (.List es pos) (bd fs aX):=.mk (aK (yM h.pe) λ_ _ _ q=>eC AI q)
theorem kf(h:LW X κ a fc):LT X κ a fc:=.mk (h.pe.pt)
theorem ud(h:LT X κ a fc):LW X κ (.BoolOp .And [a] pos) fc:=.mk (kz h.pe)
theorem fX(h:LT X κ a fc):LW X κ (.BoolOp .Or [a] pos) fc:=.mk (nq h.pe)
theorem mV{b7:List Expr}(h:LT X κ a fc)(k:LW X κ (.BoolOp .And (b::b7) pos) fd):LW X κ (.BoolOp .And (a::b::b7) pos) (pO fc fd):=.mk (jE (nr h.pe k.pe) λ_ _ _=>AJ)
theorem cK{b7:List Expr}(h:LT X κ a fc)(k:LW X κ (.BoolOp .Or (b::b7) pos) fd):LW X κ (.BoolOp .Or (a::b::b7) pos) (cx fc fd):=.mk (jE (qj h.pe k.pe) λ_ _ _=>tq)
theorem lE(h:LT X κ a fc):LT X κ (.UnaryOp .Not a pos) (dQ fc):=.mk (iJ (xD h.pe) λ_ _ _=>AK)
noncomputable def cL:Ev->Mo Bool:=λe Z G=>match e with
 | .v (.im .non)=>some (false,Z,G)
 | .v (.im (.bl b))=>some (b,Z,G)
 | .v (.im (.int i))=>some (i != 0,Z,G)
 | .v (.im (.str y))=>if y.length≤1000000 then some ((y.length:Int) != 0,Z,G) else none
 | e=>match pk Z G e with
  | some (.dic kvs)=>some (!kvs.isEmpty,Z,G)
  | _=>match sq Z G e with
   | some xs=>some (!xs.isEmpty,Z,G)
   | none=>none
theorem isE{K:W.Frag}{ι:List Addr}{H:Hp}{vs:List V}{xs:List I}(r:y4d K ι H vs xs):(!xs.isEmpty)=!vs.isEmpty:=by cases r<;>rfl
theorem Bl{K:W.Frag}{e:Ev}{c:Bool}(a:Args K κ ι H σ Z G [e] [v])(h:cL e Z G=some (c,Z',G')):qP K v H c/\Z'=Z/\G'=G:=by
 have seqs:∀{xs:List I},sq Z G e=some xs->qP K v H (!xs.isEmpty):=λhx=>by
  obtain⟨b,ys,e2,h2,r⟩:=a.sq (j:=0) rfl rfl hx
  subst e2
  rw [isE r]
  rcases h2 with h2|h2
  ·exact .inl ⟨ys,h2,rfl⟩
  ·exact .inr (.inl ⟨ys,h2,rfl⟩)
 unfold cL at h
 split at h
 ·cases h;cases k5 (a.im (j:=0) rfl rfl);exact⟨rfl,rfl,rfl⟩
 ·cases h;cases sR (a.im (j:=0) rfl rfl);exact⟨rfl,rfl,rfl⟩
 ·cases h;cases cC (a.im (j:=0) rfl rfl);exact⟨rfl,rfl,rfl⟩
 ·split at h
  ·rename_i y hy
   cases h;cases gP (a.im (j:=0) rfl rfl)
   exact⟨⟨z25 hy (by decide),rfl⟩,rfl,rfl⟩
  ·cases h
 ·split at h
  ·rename_i kvs hp
   cases h
   obtain⟨b,e2,ws,h1,h2,h3⟩:=a.pk (j:=0) rfl rfl hp
   subst e2
   refine⟨.inr (.inr ⟨ws,h1,?_⟩),rfl,rfl⟩
   have:=congrArg List.length h2
   simp at this
   cases kvs<;>cases ws<;>simp_all
  ·split at h
   ·rename_i xs hx
    cases h
    exact⟨seqs hx,rfl,rfl⟩
   ·cases h
theorem Bm{K:W.Frag}{f:Mo Ev}{σ:L2.St}{H:Hp}{Q:Bool->Hp->Prop}(h:dh K κ (bd f cL) σ H Q):aT K κ f σ H λx H'=>∃k,qP K x H' k/\Q k H':=by
 obtain⟨ι,Z,G,t,Z',G',s,eq,k⟩:=h
 obtain⟨x,Z1,G1,e1,eq⟩:=bW eq
 refine⟨ι,Z,G,x,Z1,G1,s,e1,λv ι1 H1 a=>?_⟩
 obtain⟨p,q⟩:=a.drop
 obtain⟨h1,rfl,rfl⟩:=Bl a.ar eq
 exact⟨_,h1,k _ _ p q⟩
theorem lF(h:LE X κ a fa)(he:∀whole,isTrue a X.env whole=(do let v <- whole;standAt a.pos;holding [v] (truthy v)):=by intro _;rfl):LT X κ a (bd fa cL):=.mk (iJ (yw h.pe he) λ_ _ _ q=>Bm q)
noncomputable def isP:List Ev->Mo Ev:=λes Z G=>match es with
 | [.v (.im .non)]=>some (.v (.im (.bl true)),Z,G)
 | [_]=>some (.v (.im (.bl false)),Z,G)
 | _=>none
theorem Args.nn{K:W.Frag}{ι:List Addr}{H:Hp}{σ:L2.St}{Z:De}{G:List M}{e:Ev}{v:V}(a:Args K κ ι H σ Z G [e] [v])(h:e≠.v (.im .non))(hs:∀i,e=.s i->∃m,Z[i]?=some (some (.ow m))):v≠.non:=by
 cases e with
 | s i =>
  obtain⟨m,hm⟩:=hs i rfl
  obtain⟨b,e1,r⟩:=a.base.y167 hm
  have al:=wK (j:=0) a.al rfl rfl
  rw [al] at e1;cases e1
  intro z;cases z
 | v x =>
  cases x with
  | ow m =>
   have r:=oh (cf a.l a.sr.sl).2 (j:=0) rfl rfl
   cases r
   intro z;cases z
  | im d =>
   have r:=a.im (j:=0) rfl rfl
   cases r<;>first|exact absurd rfl h|(intro z;cases z)
noncomputable def lG(Z:De):Ev->Bool
 | .s i=>match Z[i]? with
  | some (some (.ow _))=>true
  | _=>false
 | _=>true
theorem ue (h:lG Z e=true):∀i,e=.s i->∃m,Z[i]?=some (some (.ow m)):=by
 intro i hi
 subst hi
 unfold lG at h
 dsimp only at h
 split at h
 ·rename_i m hm;exact⟨m,hm⟩
 ·cases h
noncomputable def fY(pos:Bool):List Ev->Mo Ev:=λes Z G=>match es with
 | [.v (.im .non)]=>some (.v (.im (.bl pos)),Z,G)
 | [e]=>if lG Z e then some (.v (.im (.bl (!pos))),Z,G) else none
 | _=>none
theorem Bn{K:W.Frag}:ay K κ (r1 λx H1 Q=>Q (.bl (decide (x=.non))) H1) (fY true):=by
 intro ι H σ Z G es vs e Z' G' Q a h k
 unfold fY at h
 split at h
 ·obtain⟨v,rfl⟩:=bI a.len
  cases k5 (a.im (j:=0) rfl rfl)
  exact⟨_,rfl,k _ _ _ (bF h (a8 a (.bl _)))⟩
 ·rename_i e0 hne
  split at h
  ·rename_i hs
   obtain⟨v,rfl⟩:=bI a.len
   have n:=a.nn (λz=>hne (by rw [z])) (ue hs)
   refine⟨_,rfl,?_⟩
   dsimp only
   rw [decide_eq_false n]
   exact k _ _ _ (bF h (a8 a (.bl _)))
  ·cases h
 ·cases h
theorem Bo{K:W.Frag}:ay K κ (r1 λx H1 Q=>Q (.bl (!decide (x=.non))) H1) (fY false):=by
 intro ι H σ Z G es vs e Z' G' Q a h k
 unfold fY at h
 split at h
 ·obtain⟨v,rfl⟩:=bI a.len
  cases k5 (a.im (j:=0) rfl rfl)
  exact⟨_,rfl,k _ _ _ (bF h (a8 a (.bl _)))⟩
 ·rename_i e0 hne
  split at h
  ·rename_i hs
   obtain⟨v,rfl⟩:=bI a.len
   have n:=a.nn (λz=>hne (by rw [z])) (ue hs)
   refine⟨_,rfl,?_⟩
   dsimp only
   rw [decide_eq_false n]
   exact k _ _ _ (bF h (a8 a (.bl _)))
  ·cases h
 ·cases h
theorem uf{j pos'}(h:LE X κ a fa):LE X κ (.Compare a [.IsNot] [.Constant .none j pos'] pos) (bC (fY false) fa):=.mk (aK (xC (xB h.pe)) λ_ _ _ q=>gU Bo q)
theorem ug{j pos'}(h:LE X κ a fa):LT X κ (.Compare a [.Is] [.Constant .none j pos'] pos) (aq (bC (fY true) fa)):=.mk (iJ (nj (xA h.pe)) λ_ _ _ q=>gU Bn (ly q))
variable {s:Stmt}{ss ss2:List Stmt}{f g:SF}
theorem cj:gZ X κ [] aQ:=.mk (tY xH λ_ _ _=>AM)
theorem aC(h:LS X κ s f):gZ X κ [s] f:=.mk (xJ h.pe)
theorem au(h:LS X κ s f)(r:gZ X κ ss g):gZ X κ (s::ss) (aj f g):=.mk (tY (xI h.pe r.pe) λ_ _ _=>AN)
theorem aY(h:LE X κ a fa):LS X κ (.Return (some a) pos) (aE fa):=.mk (eD (xM h.pe) λ_ _ _=>AQ)
theorem iL(h:LE X κ a fa)(hs:swapsWith a none pos.line X.env=pure false:=by rfl):LS X κ (.Expr a pos) (iu fa):=.mk (eD (xK h.pe hs) λ_ _ _=>AO)
theorem bS(hc:LT X κ c fc)(ha:gZ X κ ss f)(hb:gZ X κ ss2 g):LS X κ (.If c ss ss2 pos) (aJ fc f g):=.mk (eD (qr hc.pe ha.pe hb.pe) λ_ _ _=>tw)
theorem uh(hc:LT X κ c fc)(hb:gZ X κ ss f)(hp:PassesOwn (model X.prog X.w) X.A X.env X.xe:=by exact PassesOwn.never):LS X κ (.While c ss [] pos) (gE fc f):=.mk (eD (xP hp hc.pe hb.pe) λ_ _ _=>AU)
theorem dz (hi:LI X κ tg it fi)(hg:LG X κ tg gf)(hb:gZ X κ ss f)(hc:X.calm=true:=by rfl)(hp:PassesOwn (model X.prog X.w) X.A X.env X.xe:=by exact PassesOwn.never)(hs:∀x,foldedSetIterable it X.env x=pure x:=by intro _;rfl):LS X κ (.For tg it ss [] pos) (bu fi gf f):=.mk (eD (xY hp hc hi.pe hg.pe hb.pe hs) λ_ _ _=>AV)
theorem fZ (hN:X.N.Nodup)(hi:X.N[i]?=some x:=by rfl)(hx:nc X.env.scope x:=by first|exact Or.inl rfl|exact Or.inr rfl)(hf:X.fn x=true∨X.env.scope.names.lookup x=some .local:=by first|exact .inl rfl|exact .inr rfl|assumption):LG X κ (.Name x p) (aF i):=.mk (t7 (ny hN hi hx hf) λ_ _ _ _=>lz)
noncomputable def wM(X:Cx)(es:List Expr)(is:List Nat):Prop:=qt X es (gW is)
theorem gc:wM X [] []:=qx
theorem eK  (hN:X.N.Nodup)(r:wM X es is)(hi:X.N[i]?=some x:=by rfl)(hx:nc X.env.scope x:=by first|exact Or.inl rfl|exact Or.inr rfl)(hf:X.fn x=true∨X.env.scope.names.lookup x=some .local:=by first|exact .inl rfl|exact .inr rfl|assumption)
  : wM X (.Name x p::es) (i::is):=nz (ny hN hi hx hf) r
end
end
section
section
variable {X:Cx}{K:W.Frag}{κ:Str->Addr}
noncomputable def bz(f:Int->Int->Option I):List Ev->Mo Ev:=λes Z G=>match es with
 | [.v (.im (.int i)),.v (.im (.int j))]=>match f i j with
  | some d=>some (.v (.im d),Z,G)
  | none=>none
 | _=>none
theorem g0{C:Int->Int->Prop}{g:Int->Int->V}{f:Int->Int->Option I}(hf:∀i j d,f i j=some d->C i j/\∀ι H,RpI K ι H (g i j) d):ay K κ (r2 (rI C g)) (bz f):=by
 intro ι H σ Z G es vs e Z' G' Q a h k
 unfold bz at h
 split at h
 ·rename_i i j
  split at h
  ·rename_i d hd
   obtain⟨v,u,rfl⟩:=cg a.len
   cases cC (a.im (j:=0) rfl rfl)
   cases cC (a.im (j:=1) rfl rfl)
   obtain⟨c,r⟩:=hf i j d hd
   exact⟨_,_,rfl,i,j,rfl,rfl,c,k _ _ _ (bF h (a8 a (r ι H)))⟩
  ·cases h
 ·cases h
theorem fA{g:Int->Int->V}{f:Int->Int->Option I}(hf:∀i j d,f i j=some d->∀ι H,RpI K ι H (g i j) d):ay K κ (r2 (fj g)) (bz f):=by
 intro ι H σ Z G es vs e Z' G' Q a h k
 obtain⟨x,y,e1,i,j,e2,e3,_,q⟩:=g0 (λi j d hd=>⟨trivial,hf i j d hd⟩) ι H σ Z G es vs e Z' G' Q a h k
 exact⟨x,y,e1,i,j,e2,e3,q⟩
theorem ay.or{r r':R2}{p p':List Ev->Mo Ev}(h:ay K κ (r2 r) p)(h':ay K κ (r2 r') p'):ay K κ (r2 λx y H Q=>r x y H Q∨r' x y H Q) (λes Z G=>match p es Z G with|some z=>some z|none=>p' es Z G):=by
 intro ι H σ Z G es vs e Z' G' Q a hp k
 dsimp only at hp
 split at hp
 ·rename_i z hz
  cases hp
  obtain⟨x,y,e1,q⟩:=h ι H σ Z G es vs _ _ _ Q a hz k
  exact⟨x,y,e1,.inl q⟩
 ·obtain⟨x,y,e1,q⟩:=h' ι H σ Z G es vs _ _ _ Q a hp k
  exact⟨x,y,e1,.inr q⟩
noncomputable def dI(p p':List Ev->Mo Ev):List Ev->Mo Ev:=λes Z G=>match p es Z G with|some z=>some z|none=>p' es Z G
noncomputable def jG:List Ev->Mo Ev:=λes Z G=>match es with
 | [.v (.im (.str x)),.v (.im (.str y))]=>if x.length+y.length≤1000000 then some (.v (.im (.str (x++y))),Z,G) else none
 | _=>none
theorem Bp:ay K κ (r2 λx y H Q=>∃i j,x=.str i/\y=.str j/\i.length+j.length≤sizeLine/\Q (.str (i++j)) H) jG:=by
 intro ι H σ Z G es vs e Z' G' Q a h k
 unfold jG at h
 split at h
 ·rename_i i j
  split at h
  ·rename_i hl
   obtain⟨v,u,rfl⟩:=cg a.len
   cases gP (a.im (j:=0) rfl rfl)
   cases gP (a.im (j:=1) rfl rfl)
   exact⟨_,_,rfl,i,j,rfl,rfl,z25 hl (by decide),k _ _ _ (bF h (a8 a (.str _)))⟩
  ·cases h
 ·cases h
noncomputable def lH(K:W.Frag):R2:=λx y H Q=>∃a b xs ys,x=.ref a/\y=.ref b/\a7 K H a xs/\a7 K H b ys/\xs.length+ys.length≤sizeLine /\
 (xs=[]->Q (.ref b) H)/\(xs≠[]->ys=[]->Q (.ref a) H)/\(xs≠[]->ys≠[]->∀p,H p=none->Q (.ref p) (aD H p (.tup (xs++ys))))
theorem Bq:bH X (binaryOp .Add) (lH X.K):=by
 intro pins s σ H x y v u Q I rx ry h
 obtain⟨a,b,xs,ys,rfl,rfl,ha,hb,hz,q0,q1,q2⟩:=h
 by_cases hx:xs=[]
 ·cases rx
  cases ry
  obtain⟨its,r1,p1,_⟩:=I.tuple ha
  obtain⟨y1be,r2,p2,_⟩:=I.tuple hb
  have hi:its=[]:=r1.y23b.mpr hx
  obtain⟨⟨cls,dd,data,sl⟩,ho,hc,n,hd⟩:=id p1
  obtain⟨⟨cls2,dd2,data2,sl2⟩,ho2,hc2,n2,hd2⟩:=id p2
  simp only at hc hd hc2 hd2
  subst hc hd hc2 hd2
  exact concat_meets ⟨_,ho,rfl⟩ ⟨_,ho2,rfl⟩ noFill_tuple_add seq_tuple_add PySem.F.slot_tuple_add PySem.F.entry_tuple_add (PySem.F.args_tuple_add_2 _ _)
   (tuple_addW0 a b its.toArray y1be.toArray n n2 dd dd2 sl sl2 (by simp [hi])) ⟨ho,ho2,⟨.ref b,H,I,rfl,q0 hx⟩⟩
 ·exact zv pins s σ H _ _ v u Q I rx ry ⟨a,b,xs,ys,rfl,rfl,ha,hb,hx,hz,q1 hx,q2 hx⟩
noncomputable def jH:List Ev->Mo Ev:=λes Z G=>match es with
 | [.v (.im (.tup xs)),.v (.im (.tup ys))]=>if xs.length+ys.length≤1000000 then some (.v (.im (.tup (xs++ys))),Z,G) else none
 | _=>none
theorem Br:ay K κ (r2 (lH K)) jH:=by
 intro ι H σ Z G es vs e Z' G' Q a h k
 unfold jH at h
 split at h
 ·rename_i xs ys
  split at h
  ·rename_i hl
   obtain⟨v,u,rfl⟩:=cg a.len
   have ra:=a.im (j:=0) rfl rfl
   have rb:=a.im (j:=1) rfl rfl
   cases ra with
   | @tup p vs1 _ h1 r1 =>
    cases rb with
    | @tup q vs2 _ h2 r2 =>
     have l1:=r1.len
     have l2:=r2.len
     refine⟨_,_,rfl,p,q,vs1,vs2,rfl,rfl,a7.of h1,a7.of h2,z25 (by lia) (show 1000000≤sizeLine by decide),λe=>?_,λ_ e=>?_,λ_ _ p' hp=>?_⟩
     ·subst e
      cases r1
      exact k _ _ _ (bF h (a8 a (.tup h2 r2)))
     ·subst e
      cases r2
      exact k _ _ _ (bF h (a8 a (by rw [z18];exact .tup h1 r1)))
     ·exact k _ _ _ (bF h (lu a hp (r1.app r2)))
  ·cases h
 ·cases h
noncomputable def oI:List Ev->Mo Ev:=λes Z G=>match es with
 | [a,b]=>match pk Z G a,pk Z G b with
  | some (.lst xs),some (.lst ys)=>if xs.length+ys.length≤1000000 then some (.v (.ow (.lst (xs++ys))),Z,G) else none
  | _,_=>none
 | _=>none
theorem Bs:ay K κ (r2 kR) oI:=by
 intro ι H σ Z G es vs e Z' G' Q a h k
 unfold oI at h
 split at h
 ·rename_i x y
  split at h
  ·rename_i xs ys hx hy
   split at h
   ·rename_i hl
    obtain⟨v,u,rfl⟩:=cg a.len
    obtain⟨p,e1,vs1,h1,r1⟩:=a.pk (j:=0) rfl rfl hx
    obtain⟨q,e2,vs2,h2,r2⟩:=a.pk (j:=1) rfl rfl hy
    subst e1;subst e2
    have l1:=r1.len
    have l2:=r2.len
    exact⟨_,_,rfl,p,q,vs1,vs2,rfl,rfl,h1,h2,z25 (by lia) (show 1000000≤sizeLine by decide),λp' hp=>k _ _ _ (bF h (eR a hp (r1.app r2)))⟩
   ·cases h
  ·cases h
 ·cases h
noncomputable def lI:List Ev->Mo Ev:=bz λi j=>some (.int (i+j))
noncomputable def bA:List Ev->Mo Ev:=dI lI (dI jG (dI jH oI))
theorem bE (hr:y4b k A):bH X (binaryOp .Add) (λx y H Q=>fj (λi j=>.int (i+j)) x y H Q∨((∃i j,x=.str i/\y=.str j/\i.length+j.length≤sizeLine/\Q (.str (i++j)) H)∨(lH X.K x y H Q∨kR x y H Q))) :=
 yh.or (yx.or (Bq.or zP))
theorem aM:ay K κ (r2 λx y H Q=>fj (λi j=>.int (i+j)) x y H Q∨((∃i j,x=.str i/\y=.str j/\i.length+j.length≤sizeLine/\Q (.str (i++j)) H)∨(lH K x y H Q∨kR x y H Q))) bA :=
 ay.or (fA λi j d h ι H=>by cases h;exact .int _) (ay.or Bp (ay.or Br Bs))
noncomputable def bY:List Ev->Mo Ev:=bz λi j=>some (.int (i-j))
theorem dS (hr:y4b k A):bH X (binaryOp .Sub) (fj λi j=>.int (i-j)):=yi
theorem dU:ay K κ (r2 (fj λi j=>.int (i-j))) bY:=fA λi j d h ι H=>by cases h;exact .int _
noncomputable def uk:List Ev->Mo Ev:=bz λi j=>if (-(2 ^ 64)<i/\i<2 ^ 64)∨(-(2 ^ 64)<j/\j<2 ^ 64) then some (.int (i*j)) else none
noncomputable def lJ:List Ev->Mo Ev:=λes Z G=>match es with
 | [a,.v (.im (.int j))]=>match pk Z G a with
  | some (.lst xs)=>if 0≤j/\j≤1000/\xs.length≤1000 then some (.v (.ow (.lst (List.replicate j.toNat xs).flatten)),Z,G) else none
  | _=>none
 | _=>none
theorem y4d.rep{ι:List Addr}{H:Hp}{vs:List V}{xs:List I}(r:y4d K ι H vs xs):∀n:Nat,y4d K ι H (List.replicate n vs).flatten (List.replicate n xs).flatten
 | 0=>.nil
 | n+1=>by rw [List.replicate_succ,List.replicate_succ,List.flatten_cons,List.flatten_cons];exact r.app (y4d.rep r n)
theorem Bt:ay K κ (r2 kS) lJ:=by
 intro ι H σ Z G es vs e Z' G' Q a h k
 unfold lJ at h
 split at h
 ·rename_i x j
  split at h
  ·rename_i xs hx
   split at h
   ·rename_i hl
    obtain⟨v,u,rfl⟩:=cg a.len
    obtain⟨p,e1,vs1,h1,r1⟩:=a.pk (j:=0) rfl rfl hx
    cases cC (a.im (j:=1) rfl rfl)
    subst e1
    have l1:=r1.len
    refine⟨_,_,rfl,p,j,vs1,rfl,rfl,h1,by lia,by lia,z25 (Nat.mul_le_mul (show vs1.length≤1000 by lia) (show j.toNat≤1000 by lia)) (show 1000*1000≤sizeLine by decide),λp' hp=>k _ _ _ (bF h (eR a hp (r1.rep _)))⟩
   ·cases h
  ·cases h
 ·cases h
noncomputable def oJ:List Ev->Mo Ev:=λes Z G=>match es with
 | [.v (.im (.str z)),.v (.im (.int j))]=>if 0≤j/\j≤1000/\z.length≤1000 then some (.v (.im (.str (PySem.Txt.mul z j))),Z,G) else none
 | _=>none
noncomputable def oK:R2:=λx y H Q=>∃z n,x=.str z/\y=.int n/\MulOk z n/\Q (.str (PySem.Txt.mul z n)) H
theorem jI (h:0≤j/\j≤1000/\z.length≤1000):MulOk z j:=by
  obtain⟨h0,h1,h2⟩:=h
  have hb:(z.length:Int)*j≤1000*1000:=Int.mul_le_mul (by lia) h1 h0 (by lia)
  have hn:z.length*j.toNat≤1000*1000:=Nat.mul_le_mul h2 (by lia)
  refine⟨by simp only [Bool.or_eq_false_iff,decide_eq_false_iff_not];lia,λh3 _ h4=>?_,λ_ _=>?_⟩
  · have:=(Int.le_ediv_iff_mul_le (c:=j) (a:=(z.length:Int)) (b:=2 ^ 63-1) (by lia)).mpr (by lia)
    lia
  · exact decide_eq_false (by have:(1000*1000:Nat)≤sizeLine:=by decide
                              lia)
theorem Bu:ay K κ (r2 oK) oJ:=by
 intro ι H σ Z G es vs e Z' G' Q a h k
 unfold oJ at h
 split at h
 ·rename_i z j
  split at h
  ·rename_i hl
   obtain⟨v,u,rfl⟩:=cg a.len
   cases gP (a.im (j:=0) rfl rfl)
   cases cC (a.im (j:=1) rfl rfl)
   exact⟨_,_,rfl,z,j,rfl,rfl,jI hl,k _ _ _ (bF h (a8 a (.str _)))⟩
  ·cases h
 ·cases h
noncomputable def cM:List Ev->Mo Ev:=dI uk (dI lJ oJ)
theorem fB (hr:y4b k A):bH X (binaryOp .Mult) (λx y H Q=>rI y8 (λi j=>.int (i*j)) x y H Q∨(kS x y H Q∨oK x y H Q)):=yj.or (zQ.or Ad)
theorem fD:ay K κ (r2 λx y H Q=>rI y8 (λi j=>.int (i*j)) x y H Q∨(kS x y H Q∨oK x y H Q)) cM:=ay.or (g0 λi j d h=>by
 split at h
 ·rename_i c;cases h;exact⟨c,λι H=>.int _⟩
 ·cases h) (ay.or Bt Bu)
noncomputable def g8:List Ev->Mo Ev:=bz λi j=>if 0<j/\j<2 ^ 200 then some (.int (i / j)) else none
theorem oM (hr:y4b k A):bH X (binaryOp .FloorDiv) (rI (λ_ j=>0<j/\j<2 ^ 200) λi j=>.int (i / j)):=Ab
theorem oN:ay K κ (r2 (rI (λ_ j=>0<j/\j<2 ^ 200) λi j=>.int (i / j))) g8:=g0 λi j d h=>by
 split at h
 ·rename_i c;cases h;exact⟨c,λι H=>.int _⟩
 ·cases h
noncomputable def ck:List Ev->Mo Ev:=bz λi j=>if 0<j then some (.int (i % j)) else none
theorem dW (hr:y4b k A):bH X (binaryOp .Mod) (rI (λ_ j=>0<j) λi j=>.int (i % j)):=yk
theorem dX:ay K κ (r2 (rI (λ_ j=>0<j) λi j=>.int (i % j))) ck:=g0 λi j d h=>by
 split at h
 ·rename_i c;cases h;exact⟨c,λι H=>.int _⟩
 ·cases h
noncomputable def eS:List Ev->Mo Ev:=bz λi j=>if 0≤j/\j≤1000000/\i.natAbs<2 ^ 64 then some (.int (i ^ j.toNat)) else none
theorem um (hr:y4b k A):bH X (binaryOp .Pow) (rI y9 λi j=>.int (i ^ j.toNat)):=ym
theorem uo:ay K κ (r2 (rI y9 λi j=>.int (i ^ j.toNat))) eS:=g0 λi j d h=>by
 split at h
 ·rename_i c;cases h;exact⟨c,λι H=>.int _⟩
 ·cases h
noncomputable def cX:List Ev->Mo Ev:=bz λi j=>if 0≤j/\j≤1000000/\i.natAbs<2 ^ 64 then some (.int (i*2 ^ j.toNat)) else none
theorem iM (hr:y4b k A):bH X (binaryOp .LShift) (rI y9 λi j=>.int (i*2 ^ j.toNat)):=yn
theorem iN:ay K κ (r2 (rI y9 λi j=>.int (i*2 ^ j.toNat))) cX:=g0 λi j d h=>by
 split at h
 ·rename_i c;cases h;exact⟨c,λι H=>.int _⟩
 ·cases h
noncomputable def gh:List Ev->Mo Ev:=bz λi j=>if 0≤j then some (.int (i / 2 ^ j.toNat)) else none
theorem jJ (hr:y4b k A):bH X (binaryOp .RShift) (rI (λ_ j=>0≤j) λi j=>.int (i / 2 ^ j.toNat)):=yo
theorem jK:ay K κ (r2 (rI (λ_ j=>0≤j) λi j=>.int (i / 2 ^ j.toNat))) gh:=g0 λi j d h=>by
 split at h
 ·rename_i c;cases h;exact⟨c,λι H=>.int _⟩
 ·cases h
noncomputable def oO:List Ev->Mo Ev:=bz λi j=>some (.int (Builtin.bitAnd i j))
theorem uq (hr:y4b k A):bH X (binaryOp .BitAnd) (fj λi j=>.int (Builtin.bitAnd i j)):=yp
theorem ur:ay K κ (r2 (fj λi j=>.int (Builtin.bitAnd i j))) oO:=fA λi j d h ι H=>by cases h;exact .int _
noncomputable def fE:List Ev->Mo Ev:=bz λi j=>some (.int (Builtin.bitXor i j))
theorem oP (hr:y4b k A):bH X (binaryOp .BitXor) (fj λi j=>.int (Builtin.bitXor i j)):=yq
theorem oQ:ay K κ (r2 (fj λi j=>.int (Builtin.bitXor i j))) fE:=fA λi j d h ι H=>by cases h;exact .int _
noncomputable def cO:List Ev->Mo Ev:=λes Z G=>match es with
 | [.v (.im (.int i))]=>some (.v (.im (.int (-i))),Z,G)
 | _=>none
theorem Bv:ay K κ (r1 (rU λi=>.int (-i))) cO:=by
 intro ι H σ Z G es vs e Z' G' Q a h k
 unfold cO at h
 split at h
 ·rename_i i
  obtain⟨v,rfl⟩:=bI a.len
  cases cC (a.im (j:=0) rfl rfl)
  exact⟨_,rfl,i,rfl,k _ _ _ (bF h (a8 a (.int _)))⟩
 ·cases h
theorem iO (h:LE X κ a fa):LE X κ (.UnaryOp .USub a pos) (bC cO fa):=Bj nD Bv h
noncomputable def fQ:List Ev->Mo Ev:=bz λi j=>some (.bl (decide (i<j)))
noncomputable def leP:List Ev->Mo Ev:=bz λi j=>some (.bl (decide (i≤j)))
noncomputable def kg:List Ev->Mo Ev:=bz λi j=>some (.bl (decide (j<i)))
noncomputable def g9:List Ev->Mo Ev:=bz λi j=>some (.bl (decide (j≤i)))
end
end
set_option maxHeartbeats 400000
section
section
noncomputable def lK(K:W.Frag)(H:Hp)(x:V):Prop:=∃a xs,x=.ref a/\a7 K H a xs
noncomputable def mW(K:W.Frag)(H:Hp)(x y:V)(b:Bool):Prop:=(bB x=true/\bB y=true/\b=gM x y)∨(lK K H x/\bB y=true/\b=false)∨(bB x=true/\lK K H y/\b=false)
noncomputable def jL(K:W.Frag)(H:Hp):Nat->V->V->Bool->Prop
 | 0,x,y,b=>mW K H x y b
 | n+1,x,y,b=>mW K H x y b∨∃a c xs ys e,x=.ref a/\y=.ref c/\a7 K H a xs/\a7 K H c ys/\(∀(j:Nat) u w,xs[j]?=some u->ys[j]?=some w->jL K H n u w (e j))/\b=((List.range (min xs.length ys.length)).all e&&xs.length == ys.length)
theorem Bw(h:bB x=true):gM x x=true:=by
 cases x with
 | non=>rfl
 | bl b=>exact beq_self_eq_true b
 | int i=>exact beq_self_eq_true i
 | str z=>exact beq_self_eq_true z
 | _=>cases h
theorem mW.refl  (I:Inv X pins σ H s)(h:mW X.K H x x b):b=true:=by
 rcases h with⟨h1,_,rfl⟩| ⟨⟨a,xs,rfl,_⟩,h2,_⟩| ⟨h2,⟨a,xs,rfl,_⟩,_⟩
 ·exact Bw h1
 ·cases h2
 ·cases h2
theorem jL.refl (I:Inv X pins σ H s):∀{n:Nat} {x:V} {b:Bool},jL X.K H n x x b->b=true
 | 0,_,_,h=>mW.refl I h
 | n+1,x,b,h=>by
  rcases h with h|⟨a,c,xs,ys,e,e1,e2,h1,h2,he,rfl⟩
  ·exact mW.refl I h
  ·subst e1;cases e2
   have:=I.y41c h1 h2
   subst this
   rw [Nat.min_self]
   have:(List.range xs.length).all e=true:=by
    rw [z39]
    intro j hj
    have hj:j<xs.length:=by simpa using hj
    exact jL.refl I (he j _ _ (zf hj) (zf hj))
   rw [this];simp
theorem iP (r:ao xs us)(h:j<us.toArray.size):∃x,xs[j]?=some x/\av x us.toArray[j]:=by
 have l:=r.length
 have h':j<xs.length:=by rw [l];simpa using h
 obtain⟨u,eu,ru⟩:=r.get (zf h')
 refine⟨_,zf h',?_⟩
 have:us.toArray[j]?=some u:=by simpa using eu
 rw [Array.getElem?_eq_getElem h] at this
 rw [z27 this]
 exact ru
theorem uu   (I:Inv X pins σ H s)(h:mW X.K H x y b)(ru:av x u)(rw':av y w)(hu:A.units<cLine):SeqAt.EqAt A s u w b:=by
 rcases h with⟨h1,h2,rfl⟩| ⟨⟨a,xs,rfl,ht⟩,h2,rfl⟩| ⟨h2,⟨a,xs,rfl,ht⟩,rfl⟩
 ·exact rX ru rw' h1 h2
 ·cases ru
  obtain⟨its,r1,p1,_⟩:=I.tuple ht
  have p1:s.heap.IsTuple a its.toArray:=p1
  cases y with
  | non=>cases rw';exact SeqAt.EqAt.tuple_none p1 hu
  | bl c=>cases rw';exact SeqAt.EqAt.tuple_bool _ p1 hu
  | int i=>obtain⟨t,rfl⟩:=rw';exact SeqAt.EqAt.tuple_int _ _ p1 hu
  | str z=>obtain⟨t,rfl⟩:=rw';exact SeqAt.EqAt.tuple_str _ _ p1 hu
  | _=>cases h2
 ·cases rw'
  obtain⟨its,r1,p1,_⟩:=I.tuple ht
  have p1:s.heap.IsTuple a its.toArray:=p1
  cases x with
  | non=>cases ru;exact SeqAt.EqAt.none_tuple p1 hu
  | bl c=>cases ru;exact SeqAt.EqAt.bool_tuple _ p1 hu
  | int i=>obtain⟨t,rfl⟩:=ru;exact SeqAt.EqAt.int_tuple _ _ p1 hu
  | str z=>obtain⟨t,rfl⟩:=ru;exact SeqAt.EqAt.str_tuple _ _ p1 hu
  | _=>cases h2
theorem oR:∀{n:Nat} {A:Around} {pins:List (Addr×Obj)} {σ:L2.St} {s:Shared} {x y:V} {u w:Value} {b:Bool},Inv X pins σ H s->jL X.K H n x y b->av x u->av y w->A.units+n<cLine->SeqAt.EqAt A s u w b
 | 0,_,_,_,_,_,_,_,_,_,I,h,ru,rw',hu=>uu I h ru rw' hu
 | n+1,A,_,_,s,_,_,_,_,_,I,h,ru,rw',hu=>by
  rcases h with h|⟨a,c,xs,ys,e,e1,e2,h1,h2,he,rfl⟩
  ·exact uu I h ru rw' (by lia)
  ·subst e1;subst e2
   cases ru;cases rw'
   by_cases hac:a=c
   ·subst hac
    have:=jL.refl (n:=n+1) I (.inr ⟨a,a,xs,ys,e,rfl,rfl,h1,h2,he,rfl⟩)
    rw [this]
    exact SeqAt.EqAt.same _
   ·obtain⟨its,r1,p1,_⟩:=I.tuple h1
    obtain⟨y1be,r2,p2,_⟩:=I.tuple h2
    have q:=SeqAt.RcAt.tuples (A:=A) (show s.heap.IsTuple a its.toArray from p1) (show s.heap.IsTuple c y1be.toArray from p2) (by lia) (λj z1 z2=>by
     obtain⟨x,ex,rx⟩:=iP r1 z1
     obtain⟨y,ey,ry⟩:=iP r2 z2
     exact oR I (he j x y ex ey) rx ry (by show A.units+1+n<cLine;lia))
    rw [ze,ze,<- r1.length,<- r2.length] at q
    exact SeqAt.EqAt.of_refs hac q
end
end
section
section
noncomputable def EqL(K:W.Frag)(H:Hp)(n:Nat)(x y:V)(b:Bool):Prop:=∃a c xs ys,x=.ref a/\y=.ref c/\aZ K H a xs/\aZ K H c ys/\((xs.length≠ys.length/\b=false)∨(xs.length=ys.length/\∃e,(∀(j:Nat) u w,xs[j]?=some u->ys[j]?=some w->jL K H n u w (e j))/\b=(List.range xs.length).all e))
noncomputable def pR(K:W.Frag)(H:Hp)(x y:V)(b:Bool):Prop:=(iA x y=true/\b=decide (x=y))∨(lK K H x/\bB y=true/\b=false)∨(bB x=true/\lK K H y/\b=false) ∨
 (∃a c xs ys e,x=.ref a/\y=.ref c/\a7 K H a xs/\a7 K H c ys/\(∀(j:Nat) u w,xs[j]?=some u->ys[j]?=some w->jL K H 40 u w (e j))/\b=((List.range (min xs.length ys.length)).all e&&xs.length == ys.length))∨EqL K H 40 x y b
theorem Bx(hu:X.A.units+50<cLine):bH X (compareOp .Eq) (λx y H Q=>∃b,pR X.K H x y b/\Q (.bl b) H):=by
 intro pins s σ H x y v u Q I rx ry h
 obtain⟨b,h,q⟩:=h
 have hu0:X.A.units<cLine:=by lia
 have hel:∀{xs ys:List V} {us ws:List Value} {e:Nat->Bool},ao xs us->ao ys ws->(∀(j:Nat) u w,xs[j]?=some u->ys[j]?=some w->jL X.K H 40 u w (e j))->∀j (z1:j<us.toArray.size) (z2:j<ws.toArray.size),SeqAt.EqAt X.A.in1 s us.toArray[j] ws.toArray[j] (e j):=λr1 r2 he j z1 z2=>by
  obtain⟨x,ex,rx⟩:=iP r1 z1
  obtain⟨y,ey,ry⟩:=iP r2 z2
  exact oR I (he j x y ex ey) rx ry (by show X.A.units+1+40<cLine;lia)
 rcases h with⟨hs,rfl⟩| ⟨⟨a,xs,rfl,ht⟩,h2,rfl⟩| ⟨h2,⟨a,xs,rfl,ht⟩,rfl⟩| ⟨a,c,xs,ys,e,rfl,rfl,h1,h2,he,rfl⟩| ⟨a,c,xs,ys,rfl,rfl,h1,h2,h3⟩
 ·exact qI pins s σ H x y v u Q I rx ry ⟨hs,q⟩
 ·cases rx
  obtain⟨its,r1,p1,_⟩:=I.tuple ht
  have p1:s.heap.IsTuple a its.toArray:=p1
  have fin:EP X pins σ Q (.bool false) s:=⟨.bl false,H,I,rfl,q⟩
  cases y with
  | non=>cases ry;exact SeqAt.RcAt.tuple_none p1 hu0 _ _ _ _ fin
  | bl c=>cases ry;exact SeqAt.RcAt.tuple_bool _ p1 hu0 _ _ _ _ fin
  | int i=>obtain⟨t,rfl⟩:=ry;exact SeqAt.RcAt.tuple_int _ _ p1 hu0 _ _ _ _ fin
  | str z=>obtain⟨t,rfl⟩:=ry;exact SeqAt.RcAt.tuple_str _ _ p1 hu0 _ _ _ _ fin
  | _=>cases h2
 ·cases ry
  obtain⟨its,r1,p1,_⟩:=I.tuple ht
  have p1:s.heap.IsTuple a its.toArray:=p1
  have fin:EP X pins σ Q (.bool false) s:=⟨.bl false,H,I,rfl,q⟩
  cases x with
  | non=>cases rx;exact SeqAt.RcAt.none_tuple p1 hu0 _ _ _ _ fin
  | bl c=>cases rx;exact SeqAt.RcAt.bool_tuple _ p1 hu0 _ _ _ _ fin
  | int i=>obtain⟨t,rfl⟩:=rx;exact SeqAt.RcAt.int_tuple _ _ p1 hu0 _ _ _ _ fin
  | str z=>obtain⟨t,rfl⟩:=rx;exact SeqAt.RcAt.str_tuple _ _ p1 hu0 _ _ _ _ fin
  | _=>cases h2
 ·cases rx;cases ry
  obtain⟨its,r1,p1,_⟩:=I.tuple h1
  obtain⟨y1be,r2,p2,_⟩:=I.tuple h2
  refine SeqAt.RcAt.tuples (show s.heap.IsTuple a its.toArray from p1) (show s.heap.IsTuple c y1be.toArray from p2) hu0 (hel r1 r2 he) _ _ _ _ ?_
  rw [ze,ze,<- r1.length,<- r2.length]
  exact⟨.bl _,H,I,rfl,q⟩
 ·cases rx;cases ry
  obtain⟨its,r1,p1,_⟩:=I.list h1
  obtain⟨y1be,r2,p2,_⟩:=I.list h2
  have l1:=r1.length
  have l2:=r2.length
  rcases h3 with⟨hn,rfl⟩| ⟨hn,e,he,rfl⟩
  ·exact SeqAt.RcAt.lists_lengths p1.isList p2.isList (by simp;lia) hu0 X.prog X.w X.xe _ ⟨.bl _,H,I,rfl,q⟩
  ·refine SeqAt.eq_listAt p1.isList p2.isList (by simp;lia) hu0 (hel r1 r2 he) ?_
   rw [ze,<- l1]
   exact⟨.bl _,H,I,rfl,q⟩
end
end
section
section
theorem uv(hu:X.A.units+50<cLine):bH X (compareOp .NotEq) (λx y H Q=>∃b,pR X.K H x y b/\Q (.bl (!b)) H):=by
 intro pins s σ H x y v u Q I rx ry h
 obtain⟨b,h,q⟩:=h
 have hu0:X.A.units<cLine:=by lia
 have hel:∀{xs ys:List V} {us ws:List Value} {e:Nat->Bool},ao xs us->ao ys ws->(∀(j:Nat) u w,xs[j]?=some u->ys[j]?=some w->jL X.K H 40 u w (e j))->∀j (z1:j<us.toArray.size) (z2:j<ws.toArray.size),SeqAt.EqAt X.A.in1 s us.toArray[j] ws.toArray[j] (e j):=λr1 r2 he j z1 z2=>by
  obtain⟨x,ex,rx⟩:=iP r1 z1
  obtain⟨y,ey,ry⟩:=iP r2 z2
  exact oR I (he j x y ex ey) rx ry (by show X.A.units+1+40<cLine;lia)
 rcases h with⟨hs,rfl⟩| ⟨⟨a,xs,rfl,ht⟩,h2,rfl⟩| ⟨h2,⟨a,xs,rfl,ht⟩,rfl⟩| ⟨a,c,xs,ys,e,rfl,rfl,h1,h2,he,rfl⟩| ⟨a,c,xs,ys,rfl,rfl,h1,h2,h3⟩
 ·exact qJ pins s σ H x y v u Q I rx ry ⟨hs,q⟩
 ·cases rx
  obtain⟨its,r1,p1,_⟩:=I.tuple ht
  have p1:s.heap.IsTuple a its.toArray:=p1
  have fin:EP X pins σ Q (.bool true) s:=⟨.bl true,H,I,rfl,q⟩
  cases y with
  | non=>cases ry;exact SeqAt.RcNeAt.tuple_none p1 hu0 _ _ _ _ fin
  | bl c=>cases ry;exact SeqAt.RcNeAt.tuple_bool _ p1 hu0 _ _ _ _ fin
  | int i=>obtain⟨t,rfl⟩:=ry;exact SeqAt.RcNeAt.tuple_int _ _ p1 hu0 _ _ _ _ fin
  | str z=>obtain⟨t,rfl⟩:=ry;exact SeqAt.RcNeAt.tuple_str _ _ p1 hu0 _ _ _ _ fin
  | _=>cases h2
 ·cases ry
  obtain⟨its,r1,p1,_⟩:=I.tuple ht
  have p1:s.heap.IsTuple a its.toArray:=p1
  have fin:EP X pins σ Q (.bool true) s:=⟨.bl true,H,I,rfl,q⟩
  cases x with
  | non=>cases rx;exact SeqAt.RcNeAt.none_tuple p1 hu0 _ _ _ _ fin
  | bl c=>cases rx;exact SeqAt.RcNeAt.bool_tuple _ p1 hu0 _ _ _ _ fin
  | int i=>obtain⟨t,rfl⟩:=rx;exact SeqAt.RcNeAt.int_tuple _ _ p1 hu0 _ _ _ _ fin
  | str z=>obtain⟨t,rfl⟩:=rx;exact SeqAt.RcNeAt.str_tuple _ _ p1 hu0 _ _ _ _ fin
  | _=>cases h2
 ·cases rx;cases ry
  obtain⟨its,r1,p1,_⟩:=I.tuple h1
  obtain⟨y1be,r2,p2,_⟩:=I.tuple h2
  refine SeqAt.RcNeAt.tuples (show s.heap.IsTuple a its.toArray from p1) (show s.heap.IsTuple c y1be.toArray from p2) hu0 (hel r1 r2 he) _ _ _ _ ?_
  rw [ze,ze,<- r1.length,<- r2.length]
  exact⟨.bl _,H,I,rfl,q⟩
 ·cases rx;cases ry
  obtain⟨its,r1,p1,_⟩:=I.list h1
  obtain⟨y1be,r2,p2,_⟩:=I.list h2
  have l1:=r1.length
  have l2:=r2.length
  rcases h3 with⟨hn,rfl⟩| ⟨hn,e,he,rfl⟩
  ·exact SeqAt.RcNeAt.lists_lengths p1.isList p2.isList (by simp;lia) hu0 X.prog X.w X.xe _ ⟨.bl _,H,I,rfl,q⟩
  ·refine SeqAt.RcNeAt.lists p1.isList p2.isList (by simp;lia) hu0 (hel r1 r2 he) X.prog X.w X.xe _ ?_
   rw [ze,<- l1]
   exact⟨.bl _,H,I,rfl,q⟩
end
end
section
section
variable {X:Cx}{K:W.Frag}{κ:Str->Addr}{H:Hp}
noncomputable def oS(f:I->I->Option Bool):List I->List I->Option Bool
 | [],[]=>some true
 | x::xs,y::ys=>match f x y,oS f xs ys with
  | some b,some c=>some (b&&c)
  | _,_=>none
 | [],_::_=>some false
 | _::_,[]=>some false
noncomputable def kh:I->Option (List I)
 | .tup xs=>some xs
 | .con xs=>some xs
 | _=>none
noncomputable def eU:I->Bool
 | .non=>true
 | .bl _=>true
 | .int _=>true
 | .str _=>true
 | _=>false
noncomputable def dY:I->I->Bool
 | .non,.non=>true
 | .bl a,.bl b=>a == b
 | .bl a,.int b=>(if a then 1 else 0) == b
 | .int a,.bl b=>a == (if b then 1 else 0)
 | .int a,.int b=>a == b
 | .str a,.str b=>a == b
 | _,_=>false
noncomputable def lM:Nat->I->I->Option Bool
 | 0,x,y=>if eU x&&eU y then some (dY x y) else if ((kh x).isSome&&eU y)||(eU x&&(kh y).isSome) then some false else none
 | n+1,x,y=>if eU x&&eU y then some (dY x y) else if ((kh x).isSome&&eU y)||(eU x&&(kh y).isSome) then some false else match kh x,kh y with
  | some xs,some ys=>oS (lM n) xs ys
  | _,_=>none
variable {ι:List Addr}
theorem fF{v:V}{x:I}(r:RpI K ι H v x)(h:eU x=true):bB v=true:=by cases r<;>first|rfl|cases h
noncomputable def uw:V->I
 | .bl b=>.bl b
 | .int i=>.int i
 | .str x=>.str x
 | _=>.non
theorem lN(r:RpI K ι H v x)(h:bB v=true):x=uw v:=by
 cases r<;>first|rfl|cases h
theorem By(h:bB v=true)(h':bB w=true):dY (uw v) (uw w)=gM v w:=by
 cases v<;>first|cases h;done|(cases w<;>first|rfl|cases h')
theorem ux(r:RpI K ι H v x)(r':RpI K ι H w y)(h:eU x=true)(h':eU y=true):dY x y=gM v w:=by
 have h:=fF r h
 have h':=fF r' h'
 rw [lN r h,lN r' h',By h h']
theorem lO{v:V}{x:I}{xs:List I}(r:RpI K ι H v x)(h:kh x=some xs):∃a vs,v=.ref a/\a7 K H a vs/\y4d K ι H vs xs:=by
 cases r with
 | tup h1 h2=>cases h;exact⟨_,_,rfl,a7.of h1,h2⟩
 | con h1 h2=>cases h;exact⟨_,_,rfl,a7.kon h1,h2⟩
 | _=>cases h
theorem oT{f:I->I->Option Bool}{E:V->V->Bool->Prop}(hf:∀{v w x y b},RpI K ι H v x->RpI K ι H w y->f x y=some b->E v w b):∀{vs ws:List V} {xs ys:List I} {b:Bool},y4d K ι H vs xs->y4d K ι H ws ys->oS f xs ys=some b ->
  ∃e:Nat->Bool,(∀(j:Nat) u w,vs[j]?=some u->ws[j]?=some w->E u w (e j))/\b=((List.range (min vs.length ws.length)).all e&&vs.length == ws.length)
 | [],[],_,_,b,.nil,.nil,h=>by cases h;exact⟨λ_=>true,λj u w e=>by simp at e,rfl⟩
 | [],_::_,_,_,b,.nil,.cons _ _,h=>by cases h;exact⟨λ_=>true,λj u w e=>by simp at e,by simp⟩
 | _::_,[],_,_,b,.cons _ _,.nil,h=>by cases h;exact⟨λ_=>true,λj u w _ e=>by simp at e,by simp⟩
 | v::vs,w::ws,_,_,b,.cons r rs,.cons r' rs',h=>by
  unfold oS at h
  split at h
  ·rename_i b0 c h0 h1
   cases h
   obtain⟨e',he,rfl⟩:=oT hf rs rs' h1
   refine⟨λj=>match j with|0=>b0|j+1=>e' j,λj u w' e1 e2=>?_,?_⟩
   ·cases j with
    | zero=>simp at e1 e2;subst e1;subst e2;exact hf r r' h0
    | succ j=>exact he j u w' (by simpa using e1) (by simpa using e2)
   ·have e3:min (v::vs).length (w::ws).length=min vs.length ws.length+1:=by simp only [z29];lia
    rw [e3,Ae]
    have e4:((v::vs).length == (w::ws).length)=(vs.length == ws.length):=by simp
    rw [e4,Bool.and_assoc]
  ·cases h
theorem uz:∀{n:Nat} {v w:V} {x y:I} {b:Bool},RpI K ι H v x->RpI K ι H w y->lM n x y=some b->jL K H n v w b:=by
 have base:∀{v w:V} {x y:I} {b:Bool} {o:Option Bool},RpI K ι H v x->RpI K ι H w y->(if eU x&&eU y then some (dY x y) else if ((kh x).isSome&&eU y)||(eU x&&(kh y).isSome) then some false else o)=some b->mW K H v w b∨o=some b:=λ{v w x y b o} r r' h=>by
  split at h
  ·rename_i hf
   rw [z2a] at hf
   cases h
   exact .inl (.inl ⟨fF r hf.1,fF r' hf.2,ux r r' hf.1 hf.2⟩)
  ·split at h
   ·rename_i hf
    cases h
    rw [Bool.or_eq_true,z2a,z2a] at hf
    rcases hf with⟨h1,h2⟩| ⟨h1,h2⟩
    ·obtain⟨xs,hx⟩:=Option.isSome_iff_exists.mp h1
     obtain⟨a,vs,e1,h3,_⟩:=lO r hx
     exact .inl (.inr (.inl ⟨⟨a,vs,e1,h3⟩,fF r' h2,rfl⟩))
    ·obtain⟨xs,hx⟩:=Option.isSome_iff_exists.mp h2
     obtain⟨a,vs,e1,h3,_⟩:=lO r' hx
     exact .inl (.inr (.inr ⟨fF r h1,⟨a,vs,e1,h3⟩,rfl⟩))
   ·exact .inr h
 intro n
 induction n with
 | zero =>
  intro v w x y b r r' h
  unfold lM at h
  rcases base r r' h with q|q
  ·exact q
  ·cases q
 | succ n ih =>
  intro v w x y b r r' h
  unfold lM at h
  rcases base r r' h with q|q
  ·exact .inl q
  ·split at q
   ·rename_i xs ys hx hy
    obtain⟨a,vs,e1,h1,r1⟩:=lO r hx
    obtain⟨c,ws,e2,h2,r2⟩:=lO r' hy
    obtain⟨e,he,hb⟩:=oT (λr r' h=>ih r r' h) r1 r2 q
    exact .inr ⟨a,c,vs,ws,e,e1,e2,h1,h2,he,hb⟩
   ·cases q
theorem Bz(h:iA x y=true)(hf:bB x=true):gM x y=decide (x=y):=by
 cases x<;>first|exact Bool.noConfusion hf|(cases y<;>first|rfl|exact Bool.noConfusion h|skip)
 ·rename_i a b
  show (a == b)=_
  by_cases e:a=b
  ·subst e;simp
  ·rw [beq_eq_false_iff_ne.mpr e,decide_eq_false (λz=>e (by injection z))]
 ·rename_i a b
  show (a == b)=_
  by_cases e:a=b
  ·subst e;simp
  ·rw [beq_eq_false_iff_ne.mpr e,decide_eq_false (λz=>e (by injection z))]
 ·rename_i a b
  show (a == b)=_
  by_cases e:a=b
  ·subst e;simp
  ·rw [beq_eq_false_iff_ne.mpr e,decide_eq_false (λz=>e (by injection z))]
noncomputable def lP:I->I->Bool
 | .bl _,.int _=>true
 | .int _,.bl _=>true
 | _,_=>false
noncomputable def uA(Z:De)(G:List M)(a b:Ev):Option Bool :=
 match tf a,tf b with
 | some x,some y=>if lP x y then none else match lM 41 x y with
  | some r=>some r
  | none=>match pk Z G a,pk Z G b with
   | some (.lst xs),some (.lst ys)=>oS (lM 40) xs ys
   | _,_=>none
 | _,_=>match pk Z G a,pk Z G b with
  | some (.lst xs),some (.lst ys)=>oS (lM 40) xs ys
  | _,_=>none
noncomputable def dJ:List Ev->Mo Ev:=λes Z G=>match es with
 | [a,b]=>match uA Z G a b with
  | some r=>some (.v (.im (.bl r)),Z,G)
  | none=>none
 | _=>none
noncomputable def dM:List Ev->Mo Ev:=λes Z G=>match es with
 | [a,b]=>match uA Z G a b with
  | some r=>some (.v (.im (.bl (!r))),Z,G)
  | none=>none
 | _=>none
theorem BA(h:bB v=true)(h':bB u=true)(hm:¬ lP (uw v) (uw u)=true):iA v u=true:=by
 cases v<;>first|cases h;done|(cases u<;>first|rfl|cases h';done|exact absurd rfl hm)
theorem BB(r:RpI K ι H v x)(r':RpI K ι H u y)(h:bB v=true)(h':bB u=true)(hm:¬ lP x y=true):iA v u=true:=by
 rw [lN r h,lN r' h'] at hm
 exact BA h h' hm
theorem uB{σ:L2.St}{Z:De}{G:List M}{a b:Ev}{v u:V}{r:Bool}(A:Args K κ ι H σ Z G [a,b] [v,u])(h:uA Z G a b=some r):pR K H v u r:=by
 have lists:(match pk Z G a,pk Z G b with|some (.lst xs),some (.lst ys)=>oS (lM 40) xs ys|_,_=>none)=some r->pR K H v u r:=λh=>by
  split at h
  ·rename_i xs ys hx hy
   obtain⟨p,e1,vs,h1,r1⟩:=A.pk (j:=0) rfl rfl hx
   obtain⟨q,e2,ws,h2,r2⟩:=A.pk (j:=1) rfl rfl hy
   obtain⟨e,he,hb⟩:=oT (λr r' h=>uz r r' h) r1 r2 h
   refine .inr (.inr (.inr (.inr ⟨p,q,vs,ws,e1,e2,aZ.of h1,aZ.of h2,?_⟩)))
   by_cases hl:vs.length=ws.length
   ·refine .inr ⟨hl,e,he,?_⟩
    rw [hb,<- hl,Nat.min_self];simp
   ·refine .inl ⟨hl,?_⟩
    rw [hb]
    have:(vs.length == ws.length)=false:=by simpa using hl
    rw [this,Bool.and_false]
  ·cases h
 unfold uA at h
 split at h
 ·rename_i x y hx hy
  split at h
  ·cases h
  ·rename_i hm
   split at h
   ·rename_i r' hr
    cases h
    have ra:RpI K ι H v x:=by
     cases a with
     | s i=>cases hx
     | v z=>cases z with
      | ow m=>cases hx
      | im d=>cases hx;exact A.im (j:=0) rfl rfl
    have rb:RpI K ι H u y:=by
     cases b with
     | s i=>cases hy
     | v z=>cases z with
      | ow m=>cases hy
      | im d=>cases hy;exact A.im (j:=1) rfl rfl
    rcases uz ra rb hr with q|⟨a',c,xs,ys,e,e1,e2,h1,h2,he,hb⟩
    ·rcases q with⟨h1,h2,rfl⟩| ⟨h1,h2,rfl⟩| ⟨h1,h2,rfl⟩
     ·have sc:=BB ra rb h1 h2 hm
      exact .inl ⟨sc,Bz sc h1⟩
     ·exact .inr (.inl ⟨h1,h2,rfl⟩)
     ·exact .inr (.inr (.inl ⟨h1,h2,rfl⟩))
    ·exact .inr (.inr (.inr (.inl ⟨a',c,xs,ys,e,e1,e2,h1,h2,he,hb⟩)))
   ·exact lists h
 ·exact lists h
theorem BC:ay K κ (r2 λx y H Q=>∃b,pR K H x y b/\Q (.bl b) H) dJ:=by
 intro ι H σ Z G es vs e Z' G' Q a h k
 unfold dJ at h
 split at h
 ·split at h
  ·rename_i r hr
   obtain⟨v,u,rfl⟩:=cg a.len
   exact⟨_,_,rfl,r,uB a hr,k _ _ _ (bF h (a8 a (.bl _)))⟩
  ·cases h
 ·cases h
theorem uC:ay K κ (r2 λx y H Q=>∃b,pR K H x y b/\Q (.bl (!b)) H) dM:=by
 intro ι H σ Z G es vs e Z' G' Q a h k
 unfold dM at h
 split at h
 ·split at h
  ·rename_i r hr
   obtain⟨v,u,rfl⟩:=cg a.len
   exact⟨_,_,rfl,r,uB a hr,k _ _ _ (bF h (a8 a (.bl _)))⟩
  ·cases h
 ·cases h
end
section
variable {X:Cx}{κ:Str->Addr}{a b:Expr}{fa fb:Mo Ev}{pos:Pos}{k:Nat}
theorem jM(hr:y4b k X.A):X.A.units+50<cLine:=by have:=hr.units;lia
theorem BD(hr:y4b k X.A)(ha:LE X κ a fa)(hb:LE X κ b fb):LE X κ (.Compare a [.NotEq] [b] pos) (ag dM fa fb):=yff (uv (jM hr)) uC ha hb (gH _)
theorem eV(hr:y4b k X.A)(ha:LE X κ a fa)(hb:LE X κ b fb):LT X κ (.Compare a [.Eq] [b] pos) (aq (ag dJ fa fb)):=iK (Bx (jM hr)) BC ha hb (gH _)
theorem gi(hr:y4b k X.A)(ha:LE X κ a fa)(hb:LE X κ b fb):LT X κ (.Compare a [.NotEq] [b] pos) (aq (ag dM fa fb)):=iK (uv (jM hr)) uC ha hb (gH _)
theorem hG(hr:y4b k X.A)(ha:LE X κ a fa)(hb:LE X κ b fb):LT X κ (.Compare a [.Lt] [b] pos) (aq (ag fQ fa fb)):=iK qK (fA λi j d h ι H=>by cases h;exact .bl _) ha hb (gH _)
theorem EN(hr:y4b k X.A)(ha:LE X κ a fa)(hb:LE X κ b fb):LT X κ (.Compare a [.LtE] [b] pos) (aq (ag leP fa fb)):=iK qL (fA λi j d h ι H=>by cases h;exact .bl _) ha hb (gH _)
theorem iQ(hr:y4b k X.A)(ha:LE X κ a fa)(hb:LE X κ b fb):LT X κ (.Compare a [.Gt] [b] pos) (aq (ag kg fa fb)):=iK qM (fA λi j d h ι H=>by cases h;exact .bl _) ha hb (gH _)
theorem lQ(hr:y4b k X.A)(ha:LE X κ a fa)(hb:LE X κ b fb):LT X κ (.Compare a [.GtE] [b] pos) (aq (ag g9 fa fb)):=iK qN (fA λi j d h ι H=>by cases h;exact .bl _) ha hb (gH _)
end
end
section
section
variable {X:Cx}{K:W.Frag}{κ:Str->Addr}{ι:List Addr}{H:Hp}
theorem y4d.at{vs:List V}{xs:List I}{i:Int}{d:I}(r:y4d K ι H vs xs)(h:eA xs i=some d):∃v,eA vs i=some v/\RpI K ι H v d:=by
 unfold eA at h ⊢
 rw [r.len]
 cases q:jf xs.length i with
 | none=>rw [q] at h;cases h
 | some j =>
  rw [q] at h
  obtain⟨v,hv,rv⟩:=r.get h
  exact⟨v,hv,rv⟩
noncomputable def iw:List Ev->Mo Ev:=λes Z G=>match es with
 | [a,.v (.im (.int i))]=>match sq Z G a with
  | some xs=>match eA xs i with
   | some d=>some (.v (.im d),Z,G)
   | none=>none
  | none=>match a with
   | .v (.im (.str z))=>match eA z.cps.toList i with
    | some c=>if z.length≤1000000 then some (.v (.im (.str ⟨#[c]⟩)),Z,G) else none
    | none=>none
   | _=>none
 | _=>none
theorem BE:ay K κ (r2 (zB K)) iw:=by
 intro ι H σ Z G es vs e Z' G' Q a h k
 unfold iw at h
 split at h
 ·rename_i x i
  split at h
  ·rename_i xs hx
   split at h
   ·rename_i d hd
    obtain⟨v,u,rfl⟩:=cg a.len
    obtain⟨p,ys,e1,h1,r⟩:=a.sq (j:=0) rfl rfl hx
    cases cC (a.im (j:=1) rfl rfl)
    subst e1
    obtain⟨w,hw,rw'⟩:=r.at hd
    rcases h1 with h1|h1
    ·exact⟨_,_,rfl,.inl ⟨p,ys,i,w,rfl,rfl,h1,hw,k _ _ _ (bF h (a8 a rw'))⟩⟩
    ·exact⟨_,_,rfl,.inr (.inl ⟨p,ys,i,w,rfl,rfl,h1,hw,k _ _ _ (bF h (a8 a rw'))⟩)⟩
   ·cases h
  ·split at h
   ·rename_i z _
    split at h
    ·rename_i c hc
     split at h
     ·rename_i hz
      obtain⟨v,u,rfl⟩:=cg a.len
      cases gP (a.im (j:=0) rfl rfl)
      cases cC (a.im (j:=1) rfl rfl)
      exact⟨_,_,rfl,.inr (.inr ⟨z,i,c,rfl,rfl,z25 hz (by decide),hc,k _ _ _ (bF h (a8 a (.str _)))⟩)⟩
     ·cases h
    ·cases h
   ·cases h
 ·cases h
noncomputable def fG:I->Option aB
 | .int i=>some (.inl i)
 | .str x=>some (.inr x)
 | _=>none
noncomputable def iR:List I->Option (List aB)
 | []=>some []
 | x::xs=>match fG x,iR xs with
  | some k,some ks=>some (k::ks)
  | _,_=>none
noncomputable def eE:I->Option (List aB)
 | .tup xs=>iR xs
 | _=>none
theorem lR{v:V}{x:I}{k:aB}(r:RpI K ι H v x)(h:fG x=some k):v=kV k:=by
 cases r<;>first|(cases h;rfl)|cases h
theorem uD:∀{vs:List V} {xs:List I} {ks:List aB},y4d K ι H vs xs->iR xs=some ks->vs=ks.map kV
 | [],[],_,.nil,h=>by cases h;rfl
 | v::vs,x::xs,ks,.cons r rs,h=>by
  unfold iR at h
  split at h
  ·rename_i k ks' h1 h2
   cases h
   rw [z1a,lR r h1,uD rs h2]
  ·cases h
theorem oU{v:V}{x:I}{ks:List aB}(r:RpI K ι H v x)(h:eE x=some ks):∃b,v=.ref b/\H b=some (.tup (ks.map kV)):=by
 cases r with
 | tup h1 h2=>exact⟨_,rfl,by rw [h1,uD h2 h]⟩
 | _=>cases h
noncomputable def ax{κ':Type}[DecidableEq κ']:List (κ'×I)->κ'->Option I
 | [],_=>none
 | (g,x)::r,k=>if g=k then some x else ax r k
noncomputable def cY{κ':Type}[DecidableEq κ'](kvs:List (κ'×I))(k:κ'):Bool:=kvs.any λkv=>decide (kv.1=k)
noncomputable def bq{κ':Type}[DecidableEq κ'](kvs:List (κ'×I))(k:κ')(d:I):List (κ'×I):=if cY kvs k then kvs.map (λkv=>if kv.1=k then (kv.1,d) else kv) else kvs++[(k,d)]
theorem lS{κ':Type}[DecidableEq κ']{k:κ'}:∀{ws:List (κ'×V)} {kvs:List (κ'×I)},ws.map (·.1)=kvs.map (·.1)->y4d K ι H (ws.map (·.2)) (kvs.map (·.2)) ->
  (∀d,ax kvs k=some d->∃v,b9 ws k=some v/\RpI K ι H v d)/\(ax kvs k=none->b9 ws k=none)
 | [],[],_,_=>⟨λd h=>(by cases h),λ_=>rfl⟩
 | [],_::_,e,_=>by cases e
 | _::_,[],e,_=>by cases e
 | (g,v)::ws,(g',x)::kvs,e,r=>by
  simp only [z1a,List.cons.injEq] at e
  obtain⟨e1,e2⟩:=e
  subst e1
  cases r with
  | cons r rs =>
   obtain⟨p,q⟩:=lS e2 rs
   by_cases hg:g=k
   ·rw [kI hg]
    unfold ax
    rw [if_pos hg]
    exact⟨λd h=>(by cases h;exact⟨v,rfl,r⟩),λh=>(by cases h)⟩
   ·rw [kJ hg]
    unfold ax
    rw [if_neg hg]
    exact⟨p,q⟩
theorem gj{κ' α β:Type}[DecidableEq κ']{k:κ'}:∀{ws:List (κ'×α)} {kvs:List (κ'×β)},ws.map (·.1)=kvs.map (·.1)->(ws.any λkv=>decide (kv.1=k))=(kvs.any λkv=>decide (kv.1=k))
 | [],[],_=>rfl
 | [],_::_,e=>by cases e
 | _::_,[],e=>by cases e
 | (g,v)::ws,(g',x)::kvs,e=>by
  simp only [z1a,List.cons.injEq] at e
  obtain⟨e1,e2⟩:=e
  subst e1
  rw [List.any_cons,List.any_cons,gj e2]
theorem uE{κ':Type}[DecidableEq κ']{k:κ'}{v:V}{d:I}(rv:RpI K ι H v d):∀{ws:List (κ'×V)} {kvs:List (κ'×I)},ws.map (·.1)=kvs.map (·.1)->y4d K ι H (ws.map (·.2)) (kvs.map (·.2)) ->
  (ws.map λkv=>if kv.1=k then (kv.1,v) else kv).map (·.1)=(kvs.map λkv=>if kv.1=k then (kv.1,d) else kv).map (·.1)/\y4d K ι H ((ws.map λkv=>if kv.1=k then (kv.1,v) else kv).map (·.2)) ((kvs.map λkv=>if kv.1=k then (kv.1,d) else kv).map (·.2))
 | [],[],_,_=>⟨rfl,.nil⟩
 | [],_::_,e,_=>by cases e
 | _::_,[],e,_=>by cases e
 | (g,w)::ws,(g',x)::kvs,e,r=>by
  simp only [z1a,List.cons.injEq] at e
  obtain⟨e1,e2⟩:=e
  subst e1
  cases r with
  | cons r rs =>
   obtain⟨p,q⟩:=uE rv e2 rs
   by_cases hg:g=k
   ·simp only [z1a,if_pos hg]
    exact⟨by rw [p],.cons rv q⟩
   ·simp only [z1a,if_neg hg]
    exact⟨by rw [p],.cons r q⟩
theorem lU{κ':Type}[DecidableEq κ']{k:κ'}{v:V}{d:I}{ws:List (κ'×V)}{kvs:List (κ'×I)}(rv:RpI K ι H v d)(e:ws.map (·.1)=kvs.map (·.1))(r:y4d K ι H (ws.map (·.2)) (kvs.map (·.2))) :
  (bM ws k v).map (·.1)=(bq kvs k d).map (·.1)/\y4d K ι H ((bM ws k v).map (·.2)) ((bq kvs k d).map (·.2)):=by
 unfold bM bq cY
 rw [gj e]
 split
 ·exact uE rv e r
 ·rw [z23,z23,z23,z23,e]
  exact⟨rfl,r.app (.cons rv .nil)⟩
noncomputable def fH(Z:De)(G:List M)(a:Ev)(x:I):Option (Option I):=match pk Z G a with
 | some (.dic kvs)=>(fG x).map λk=>ax kvs k
 | some (.dit kvs)=>(eE x).map λk=>ax kvs k
 | _=>none
theorem lV{σ:L2.St}{Z:De}{G:List M}{es:List Ev}{vs:List V}{j j':Nat}{a:Ev}{x:I}{v u:V}{o:Option I}(A:Args K κ ι H σ Z G es vs)(h1:es[j]?=some a)(h2:vs[j]?=some v)(h3:es[j']?=some (.v (.im x)))(h4:vs[j']?=some u)
  (h:fH Z G a x=some o):∃b ov,v=.ref b/\fm H b u ov/\(∀d,o=some d->∃w,ov=some w/\RpI K ι H w d)/\(o=none->ov=none):=by
 have ru:=A.im h3 h4
 unfold fH at h
 split at h
 ·rename_i kvs hp
  obtain⟨b,e1,ws,hw,e2,r⟩:=A.pk h1 h2 hp
  cases hk:fG x with
  | none=>rw [hk] at h;cases h
  | some k =>
   rw [hk] at h
   cases h
   have eu:=lR ru hk
   subst eu
   obtain⟨p,q⟩:=lS e2 r
   exact⟨b,_,e1,fm.k hw,p,q⟩
 ·rename_i kvs hp
  obtain⟨b,e1,ws,hw,e2,r⟩:=A.pk h1 h2 hp
  cases hk:eE x with
  | none=>rw [hk] at h;cases h
  | some k =>
   rw [hk] at h
   cases h
   obtain⟨c,eu,hc⟩:=oU ru hk
   subst eu
   obtain⟨p,q⟩:=lS e2 r
   exact⟨b,_,e1,fm.t hw hc,p,q⟩
 ·cases h
noncomputable def lW:List Ev->Mo Ev:=λes Z G=>match es with
 | [a,.v (.im x)]=>match fH Z G a x with
  | some (some d)=>some (.v (.im d),Z,G)
  | _=>none
 | _=>none
theorem BF:ay K κ (r2 λx y H2 Q=>∃a v,x=.ref a/\fm H2 a y (some v)/\Q v H2) lW:=by
 intro ι H σ Z G es vs e Z' G' Q a h k
 unfold lW at h
 split at h
 ·split at h
  ·rename_i d hd
   obtain⟨v,u,rfl⟩:=cg a.len
   obtain⟨b,ov,e1,g,p,_⟩:=lV a (j:=0) (j':=1) rfl rfl rfl rfl hd
   obtain⟨w,rfl,rw'⟩:=p d rfl
   exact⟨_,_,rfl,b,w,e1,g,k _ _ _ (bF h (a8 a rw'))⟩
  ·cases h
 ·cases h
noncomputable def aS:List Ev->Mo Ev:=dI iw lW
theorem uF{fo fi:Mo Ev}{σ:L2.St}{Q:VK}(h:aT K κ (ag aS fo fi) σ H Q):mL (zB K) (aT K κ fo) (aT K κ fi) σ H Q∨rB (aT K κ fo) (aT K κ fi) σ H Q:=by
 obtain⟨ι,Z,G,e,Z',G',s,eq,k⟩:=h
 obtain⟨x,Z1,G1,e1,eq1⟩:=bW eq
 obtain⟨y,Z2,G2,e2,eq2⟩:=bW eq1
 have eq2:dI iw lW [x,y] Z2 G2=some (e,Z',G'):=eq2
 unfold dI at eq2
 split at eq2
 ·rename_i z hz
  cases eq2
  refine .inl (gS BE ⟨ι,Z,G,_,_,_,s,?_,k⟩)
  unfold ag
  rw [mP e1,mP e2];exact hz
 ·refine .inr (gS BF ⟨ι,Z,G,_,_,_,s,?_,k⟩)
  unfold ag
  rw [mP e1,mP e2];exact eq2
noncomputable def jh(neg:Bool):List Ev->Mo Ev:=λes Z G=>match es with
 | [.v (.im x),b]=>match sq Z G b with
  | some xs=>if eU x&&xs.all eU then some (.v (.im (.bl (if neg then !(xs.any λy=>dY y x) else xs.any λy=>dY y x))),Z,G) else none
  | none=>none
 | _=>none
noncomputable def gk(neg:Bool):List Ev->Mo Ev:=λes Z G=>match es with
 | [.v (.im x),b]=>match fH Z G b x with
  | some o=>some (.v (.im (.bl (if neg then !o.isSome else o.isSome))),Z,G)
  | none=>none
 | _=>none
theorem BG:ay K κ (r2 λy x H2 Q=>∃a o,x=.ref a/\fm H2 a y o/\Q (.bl o.isSome) H2) (gk false):=by
 intro ι H σ Z G es vs e Z' G' Q a h k
 unfold gk at h
 split at h
 ·split at h
  ·rename_i o ho
   obtain⟨v,u,rfl⟩:=cg a.len
   obtain⟨b,ov,e1,g,p,q⟩:=lV a (j:=1) (j':=0) rfl rfl rfl rfl ho
   have:ov.isSome=o.isSome:=by
    cases o with
    | none=>rw [q rfl];rfl
    | some d=>obtain⟨w,rfl,_⟩:=p d rfl;rfl
   refine⟨_,_,rfl,b,ov,e1,g,?_⟩
   rw [this]
   exact k _ _ _ (bF h (a8 a (.bl _)))
  ·cases h
 ·cases h
theorem BH:ay K κ (r2 λy x H2 Q=>∃a o,x=.ref a/\fm H2 a y o/\Q (.bl (!o.isSome)) H2) (gk true):=by
 intro ι H σ Z G es vs e Z' G' Q a h k
 unfold gk at h
 split at h
 ·split at h
  ·rename_i o ho
   obtain⟨v,u,rfl⟩:=cg a.len
   obtain⟨b,ov,e1,g,p,q⟩:=lV a (j:=1) (j':=0) rfl rfl rfl rfl ho
   have:ov.isSome=o.isSome:=by
    cases o with
    | none=>rw [q rfl];rfl
    | some d=>obtain⟨w,rfl,_⟩:=p d rfl;rfl
   refine⟨_,_,rfl,b,ov,e1,g,?_⟩
   rw [this]
   exact k _ _ _ (bF h (a8 a (.bl _)))
  ·cases h
 ·cases h
end
section
variable {X:Cx}{κ:Str->Addr}{a b:Expr}{fa fb:Mo Ev}{pos:Pos}{k:Nat}
theorem aW(hr:y4b k X.A)(ha:LE X κ a fa)(hb:LE X κ b fb)(hs:iq b:=by exact (λ_ _=>rfl)):LE X κ (.Subscript a b pos) (ag aS fa fb):=.mk (aK (nu (rQ zC ha.pe hb.pe hs) (yX (kW hr) ha.pe hb.pe hs)) λ_ _ _=>uF)
end
end
section
section
variable {X:Cx}{K:W.Frag}{κ:Str->Addr}{ι:List Addr}{H:Hp}
theorem oV{v:V}{x:I}(r:RpI K ι H v x)(hx:eU x=true):∀{vs:List V} {xs:List I},y4d K ι H vs xs->xs.all eU=true->vs.all bB=true/\(xs.any λy=>dY y x)=vs.any λy=>gM y v
 | [],[],.nil,_=>⟨rfl,rfl⟩
 | w::vs,y::xs,.cons r' rs,h=>by
  rw [List.all_cons,z2a] at h
  obtain⟨p,q⟩:=oV r hx rs h.2
  rw [List.all_cons,List.any_cons,List.any_cons,p,q,ux r' r h.1 hx,fF r' h.1]
  exact⟨rfl,rfl⟩
theorem BI:ay K κ (r2 (wF K false)) (jh false):=by
 intro ι H σ Z G es vs e Z' G' Q a h k
 unfold jh at h
 split at h
 ·rename_i x b
  split at h
  ·rename_i xs hx
   split at h
   ·rename_i hf
    rw [z2a] at hf
    obtain⟨v,u,rfl⟩:=cg a.len
    obtain⟨p,ys,e1,h1,r⟩:=a.sq (j:=1) rfl rfl hx
    have rx:=a.im (j:=0) rfl rfl
    obtain⟨p1,p2⟩:=oV rx hf.1 r hf.2
    refine⟨_,_,rfl,p,ys,e1,h1,fF rx hf.1,p1,?_⟩
    have:L2.inV v ys=xs.any λy=>dY y x:=p2.symm
    rw [this]
    exact k _ _ _ (bF h (a8 a (.bl _)))
   ·cases h
  ·cases h
 ·cases h
theorem BJ:ay K κ (r2 (wF K true)) (jh true):=by
 intro ι H σ Z G es vs e Z' G' Q a h k
 unfold jh at h
 split at h
 ·rename_i x b
  split at h
  ·rename_i xs hx
   split at h
   ·rename_i hf
    rw [z2a] at hf
    obtain⟨v,u,rfl⟩:=cg a.len
    obtain⟨p,ys,e1,h1,r⟩:=a.sq (j:=1) rfl rfl hx
    have rx:=a.im (j:=0) rfl rfl
    obtain⟨p1,p2⟩:=oV rx hf.1 r hf.2
    refine⟨_,_,rfl,p,ys,e1,h1,fF rx hf.1,p1,?_⟩
    have:L2.inV v ys=xs.any λy=>dY y x:=p2.symm
    rw [this]
    exact k _ _ _ (bF h (a8 a (.bl _)))
   ·cases h
  ·cases h
 ·cases h
noncomputable def pS:List Ev->Mo Ev:=dI (jh false) (gk false)
noncomputable def lX:List Ev->Mo Ev:=dI (jh true) (gk true)
theorem uG{p p':List Ev->Mo Ev}{r r':R2}{fo fi:Mo Ev}{σ:L2.St}{Q:VK}(h1:ay K κ (r2 r) p)(h2:ay K κ (r2 r') p')(h:aT K κ (ag (dI p p') fo fi) σ H Q):mL r (aT K κ fo) (aT K κ fi) σ H Q∨mL r' (aT K κ fo) (aT K κ fi) σ H Q:=by
 obtain⟨ι,Z,G,e,Z',G',s,eq,k⟩:=h
 obtain⟨x,Z1,G1,e1,eq1⟩:=bW eq
 obtain⟨y,Z2,G2,e2,eq2⟩:=bW eq1
 have eq2:dI p p' [x,y] Z2 G2=some (e,Z',G'):=eq2
 unfold dI at eq2
 split at eq2
 ·rename_i z hz
  cases eq2
  refine .inl (gS h1 ⟨ι,Z,G,_,_,_,s,?_,k⟩)
  unfold ag
  rw [mP e1,mP e2];exact hz
 ·refine .inr (gS h2 ⟨ι,Z,G,_,_,_,s,?_,k⟩)
  unfold ag
  rw [mP e1,mP e2];exact eq2
end
section
variable {X:Cx}{κ:Str->Addr}{a b:Expr}{fa fb:Mo Ev}{pos:Pos}{k:Nat}
theorem BK(hr:y4b k X.A)(ha:LE X κ a fa)(hb:LE X κ b fb)(hm:behindInMarks .In b=false:=by rfl):LT X κ (.Compare a [.In] [b] pos) (aq (ag pS fa fb)):=.mk (iJ (t8 (nE zH ha.pe hb.pe hm) (nj (yY (kW hr) ha.pe hb.pe) hm)) λ_ _ _ h=>uG BI BG (ly h))
theorem uH(hr:y4b k X.A)(ha:LE X κ a fa)(hb:LE X κ b fb)(hm:behindInMarks .NotIn b=false:=by rfl):LT X κ (.Compare a [.NotIn] [b] pos) (aq (ag lX fa fb)):=.mk (iJ (t8 (nE zI ha.pe hb.pe hm) (nj (yZ (kW hr) ha.pe hb.pe) hm)) λ_ _ _ h=>uG BJ BH (ly h))
end
section
variable {K:W.Frag}{κ:Str->Addr}
noncomputable def br:List Ev->Mo Ev:=λes Z G=>match es with
 | [a]=>match sq Z G a with
  | some xs=>some (.v (.im (.int xs.length)),Z,G)
  | none=>match a with
   | .v (.im (.str z))=>if z.length≤1000000 then some (.v (.im (.int z.length)),Z,G) else none
   | a=>match pk Z G a with
    | some (.dic kvs)=>some (.v (.im (.int kvs.length)),Z,G)
    | _=>none
 | _=>none
theorem BL:ay K κ (λxs H Q=>(∃p ys,xs=[.ref p]/\(aZ K H p ys∨a7 K H p ys)/\Q (.int ys.length) H)∨((∃z,xs=[.str z]/\z.length≤sizeLine/\Q (.int z.length) H)∨(∃a kvs,xs=[V.ref a]/\H a=some (.dK kvs)/\Q (.int kvs.length) H))) br:=by
 intro ι H σ Z G es vs e Z' G' Q a h k
 unfold br at h
 split at h
 ·rename_i x
  split at h
  ·rename_i xs hx
   obtain⟨v,rfl⟩:=bI a.len
   obtain⟨p,ys,e1,h1,r⟩:=a.sq (j:=0) rfl rfl hx
   subst e1
   exact .inl ⟨p,ys,rfl,h1,by rw [r.len];exact k _ _ _ (bF h (a8 a (.int _)))⟩
  ·split at h
   ·split at h
    ·rename_i hz
     obtain⟨v,rfl⟩:=bI a.len
     cases gP (a.im (j:=0) rfl rfl)
     exact .inr (.inl ⟨_,rfl,z25 hz (by decide),k _ _ _ (bF h (a8 a (.int _)))⟩)
    ·cases h
   ·split at h
    ·rename_i kvs hp
     obtain⟨v,rfl⟩:=bI a.len
     obtain⟨b,e1,ws,hw,e2,r⟩:=a.pk (j:=0) rfl rfl hp
     subst e1
     have e3:kvs.length=ws.length:=by have:=congrArg List.length e2;simpa using this.symm
     exact .inr (.inr ⟨b,ws,rfl,hw,by rw [<- e3];exact k _ _ _ (bF h (a8 a (.int _)))⟩)
    ·cases h
 ·cases h
noncomputable def cE:List Ev->Mo Ev:=λes Z G=>match es with
 | [.v (.im (.tup xs))]=>some (.v (.im (.tup xs)),Z,G)
 | [.v (.im (.con xs))]=>some (.v (.im (.con xs)),Z,G)
 | [a]=>match sq Z G a with
  | some xs=>some (.v (.im (.tup xs)),Z,G)
  | none=>none
 | _=>none
theorem uI{ι:List Addr}{H:Hp}{σ:L2.St}{Z:De}{G:List M}{e:Ev}{v:V}{xs:List I}(a:Args K κ ι H σ Z G [e] [v])(h:sq Z G e=some xs)(n1:∀ys,e≠.v (.im (.tup ys)))(n2:∀ys,e≠.v (.im (.con ys))):∃b ys,v=.ref b/\aZ K H b ys/\y4d K ι H ys xs:=by
 have y150:(match B.pk Z G e with|some (.lst xs)=>some xs|_=>none)=some xs->∃b ys,v=.ref b/\aZ K H b ys/\y4d K ι H ys xs:=λq=>by
  split at q
  ·rename_i xs' e'
   cases q
   obtain⟨b,e1,ys,h3,r⟩:=a.pk (j:=0) rfl rfl e'
   exact⟨b,ys,e1,aZ.of h3,r⟩
  ·cases q
 cases e with
 | s i=>exact y150 h
 | v x =>
  cases x with
  | ow m=>exact y150 h
  | im d =>
   have r:=a.im (j:=0) rfl rfl
   cases r with
   | tup q r=>exact absurd rfl (n1 _)
   | con q r=>exact absurd rfl (n2 _)
   | fro q r=>cases h;exact⟨_,_,rfl,q.sq,r⟩
   | ref q=>exact y150 h
   | non=>exact y150 h
   | bl=>exact y150 h
   | int=>exact y150 h
   | str=>exact y150 h
   | ty=>exact y150 h
theorem BM:ay K κ (λxs H Q=>∃p ys,xs=[.ref p]/\((aZ K H p ys/\∀l,H l=none->Q (.ref l) (aD H l (.tup ys)))∨(a7 K H p ys/\Q (.ref p) H))) cE:=by
 intro ι H σ Z G es vs e Z' G' Q a h k
 unfold cE at h
 split at h
 ·obtain⟨v,rfl⟩:=bI a.len
  have r:=a.im (j:=0) rfl rfl
  obtain⟨_,_,rfl,h1,h2⟩:=jy r
  exact⟨_,_,rfl,.inr ⟨a7.of h1,k _ _ _ (bF h (a8 a (.tup h1 h2)))⟩⟩
 ·obtain⟨v,rfl⟩:=bI a.len
  have r:=a.im (j:=0) rfl rfl
  obtain⟨_,_,rfl,h1,h2⟩:=sS r
  exact⟨_,_,rfl,.inr ⟨a7.kon h1,k _ _ _ (bF h (a8 a (.con h1 h2)))⟩⟩
 ·rename_i x n1 n2
  split at h
  ·rename_i xs hx
   obtain⟨v,rfl⟩:=bI a.len
   obtain⟨p,ys,e1,h1,r⟩:=uI a hx (λys z=>n1 ys (by rw [z])) (λys z=>n2 ys (by rw [z]))
   subst e1
   exact⟨p,ys,rfl,.inl ⟨h1,λl hl=>k _ _ _ (bF h (lu a hl r))⟩⟩
  ·cases h
 ·cases h
noncomputable def dB:List Ev->Mo Ev:=λes Z G=>match es with
 | [a]=>match sq Z G a with
  | some xs=>some (.v (.ow (.lst xs)),Z,G)
  | none=>none
 | _=>none
theorem BN:ay K κ (λxs H Q=>∃p ys,xs=[.ref p]/\(aZ K H p ys∨a7 K H p ys)/\∀l,H l=none->Q (.ref l) (aD H l (.lst ys))) dB:=by
 intro ι H σ Z G es vs e Z' G' Q a h k
 unfold dB at h
 split at h
 ·split at h
  ·rename_i xs hx
   obtain⟨v,rfl⟩:=bI a.len
   obtain⟨p,ys,e1,h1,r⟩:=a.sq (j:=0) rfl rfl hx
   subst e1
   exact⟨p,ys,rfl,h1,λl hl=>k _ _ _ (bF h (eR a hl r))⟩
  ·cases h
 ·cases h
noncomputable def gm:List Ev->Mo Ev:=bz λi j=>some (.int (if j>i then j else i))
noncomputable def oW:List Ev->Mo Ev:=bz λi j=>some (.int (if j<i then j else i))
theorem uJ{g:Int->Int->Int}:ay K κ (λxs H Q=>∃i j,xs=[.int i,.int j]/\Q (.int (g i j)) H) (bz λi j=>some (.int (g i j))):=by
 intro ι H σ Z G es vs e Z' G' Q a h k
 obtain⟨x,y,e1,i,j,e2,e3,q⟩:=fA (λi j d h ι H=>by cases h;exact .int _) ι H σ Z G es vs e Z' G' Q a h k
 exact⟨i,j,by rw [e1,e2,e3],q⟩
noncomputable def dZ:Ev->Bool
 | .v (.im (.tup _))=>false
 | .v (.im (.con _))=>false
 | _=>true
noncomputable def iS:List Ev->Mo Ev:=λes Z G=>match es with
 | [a]=>if dZ a then match sq Z G a with
  | some xs=>some (.v (.ow (.lst xs.reverse)),Z,G)
  | none=>none
  else none
 | _=>none
theorem BO:ay K κ (r1 λx H1 Q=>∃l ys,x=.ref l/\aZ K H1 l ys/\∀p,H1 p=none->Q (.ref p) (aD H1 p (.lst ys.reverse))) iS:=by
 intro ι H σ Z G es vs e Z' G' Q a h k
 unfold iS at h
 split at h
 ·rename_i x
  split at h
  ·rename_i hl
   split at h
   ·rename_i xs hx
    obtain⟨v,rfl⟩:=bI a.len
    obtain⟨p,ys,e1,h1,r⟩:=uI a hx (λys z=>by subst z;cases hl) (λys z=>by subst z;cases hl)
    subst e1
    exact⟨_,rfl,p,ys,rfl,h1,λl hl=>k _ _ _ (bF h (eR a hl r.rev))⟩
   ·cases h
  ·cases h
 ·cases h
end
section
variable {X:Cx}{κ:Str->Addr}{a b e:Expr}{es:List Expr}{fa fb:Mo Ev}{fs:Mo (List Ev)}{p pos:Pos}{k:Nat}
theorem cZ(hr:y4b k X.A)(hm:X.mg "len" = none)(ha:LA X κ (e::es) fs)(hg:Gl X "len":=by rfl)(he:je X e es:=by rfl)(hpl:ip X pos es:=by rfl):LE X κ (.Call (.Name "len" p) (e::es) [] pos) (bd fs br):=.mk (aK (iB (y98.or (y99.or y96)) hg hm PySem.boot_len ha.pe (by decide) (by decide) he hpl) λ_ _ _ q=>eC BL q)
theorem jN(hr:y4b k X.A)(hm:X.mg "tuple" = none)(ha:LA X κ (e::es) fs)(hg:Gl X "tuple":=by rfl)(he:je X e es:=by rfl)(hpl:ip X pos es:=by rfl):LE X κ (.Call (.Name "tuple" p) (e::es) [] pos) (bd fs cE):=.mk (aK (nL ya0 hg hm PyProof.Rows.boot_tuple ha.pe (by decide) (by decide) he hpl) λ_ _ _ q=>eC BM q)
theorem oX(hr:y4b k X.A)(hm:X.mg "list" = none)(ha:LA X κ (e::es) fs)(hg:Gl X "list":=by rfl)(he:je X e es:=by rfl)(hpl:ip X pos es:=by rfl):LE X κ (.Call (.Name "list" p) (e::es) [] pos) (bd fs dB):=.mk (aK (nL y9a hg hm PyProof.Rows.boot_list ha.pe (by decide) (by decide) he hpl) λ_ _ _ q=>eC BN q)
theorem uK(hr:y4b k X.A)(hm:X.mg "max" = none)(ha:LA X κ (e::es) fs)(hg:Gl X "max":=by rfl)(hc:X.calm=true:=by rfl)(he:je X e es:=by rfl)(hpl:ip X pos es:=by rfl):LE X κ (.Call (.Name "max" p) (e::es) [] pos) (bd fs gm):=.mk (aK (iB (y9c hc) hg hm PyProof.Rows.boot_max ha.pe (by decide) (by decide) he hpl) λ_ _ _ q=>eC uJ q)
theorem BP(hr:y4b k X.A)(hm:X.mg "min" = none)(ha:LA X κ (e::es) fs)(hg:Gl X "min":=by rfl)(hc:X.calm=true:=by rfl)(he:je X e es:=by rfl)(hpl:ip X pos es:=by rfl):LE X κ (.Call (.Name "min" p) (e::es) [] pos) (bd fs oW):=.mk (aK (iB (y9d hc) hg hm PyProof.Rows.boot_min ha.pe (by decide) (by decide) he hpl) λ_ _ _ q=>eC uJ q)
theorem BQ(hl:X.mg "list" = none)(hv:X.mg "reversed" = none)(h:LE X κ e fa)(hc:X.calm=true:=by rfl)(gl:Gl X "list":=by rfl)(gr:Gl X "reversed":=by rfl)(hs1:starEach [e] X.env=[(false,eval e X.env)]:=by rfl)
  (hs2:starEach [.Call (.Name "reversed" p2) [e] [] q2] X.env=[(false,eval (.Call (.Name "reversed" p2) [e] [] q2) X.env)]:=by rfl):LE X κ (.Call (.Name "list" p1) [.Call (.Name "reversed" p2) [e] [] q2] [] q1) (bC iS fa):=.mk (aK (Aa hc gl hl gr hv h.pe hs1 hs2) λ_ _ _ q=>gU BO q)
end
end
section
section
variable {X:Cx}{K:W.Frag}{κ:Str->Addr}{ι:List Addr}{H:Hp}{σ:L2.St}
noncomputable def bJ:Mo (List Ev):=rt []
noncomputable def bG(f:Mo Ev):Mo (List Ev):=one f
noncomputable def hR:List Ev->Option (Option Int)
 | []=>some none
 | [.v (.im (.int i))]=>some (some i)
 | _=>none
noncomputable def ki(K:W.Frag)(κ:Str->Addr)(f:Mo (List Ev)):TO:=λσ H Q=>∃ι Z G es o Z' G',SR K κ ι H σ Z G/\f Z G=some (es,Z',G')/\hR es=some o/\∀vs ι' H',After K κ σ ι (own σ Z++ι) H es Z' G' vs ι' H'->Q o H'
theorem fI:PO X none (ki X.K κ bJ):=λpins s σ H Q I h=>nP pins s σ H Q I (by
 obtain⟨ι,Z,G,es,o,Z',G',s,e,p,k⟩:=h
 cases e;cases p
 exact k _ _ _ (After.nil s))
theorem fJ (h:LE X κ e f):PO X (some e) (ki X.K κ (bG f)):=λpins s σ H Q I q=>rN h.pe pins s σ H Q I (by
 obtain⟨ι,Z,G,es,o,Z',G',s,e,p,k⟩:=q
 obtain⟨x,Z1,G1,e1,e2⟩:=bW e
 cases e2
 refine⟨ι,Z,G,x,_,_,s,e1,λv ι1 H1 a=>?_⟩
 unfold hR at p
 split at p
 ·rename_i hq;cases hq
 ·rename_i i hq
  cases p
  cases hq
  have r:=a.ar.im (j:=0) rfl rfl
  cases cC (r)
  exact⟨i,rfl,k _ _ _ a⟩
 ·cases p)
noncomputable def ji(xs:List I)(lo hi:Option Int):List I:=(xs.drop (HT.sIx xs.length 0 lo)).take (HT.sIx xs.length xs.length hi-HT.sIx xs.length 0 lo)
theorem y4d.cut{vs:List V}{xs:List I}(r:y4d K ι H vs xs)(lo hi:Option Int):y4d K ι H (ju vs lo hi) (ji xs lo hi):=by
 unfold ju ji
 rw [r.len]
 exact (r.drop _).take _
noncomputable def gn(lo hi:Option Int):List Ev->Mo Ev:=λes Z G=>match es with
 | .v (.im (.tup xs))::_=>some (.v (.im (.tup (ji xs lo hi))),Z,G)
 | .v (.im (.str z))::_=>if z.length≤1000000 then some (.v (.im (.str (Txt.slice z lo hi))),Z,G) else none
 | a::_=>if dZ a then match sq Z G a with
  | some xs=>some (.v (.ow (.lst (ji xs lo hi))),Z,G)
  | none=>none
  else none
 | _=>none
noncomputable def bO(fe:Mo Ev)(fl fh:Mo (List Ev)):Mo Ev:=bd fe λx=>bd fl λls=>bd fh λhs=>λZ G=>match hR ls,hR hs with
 | some lo,some hi=>gn lo hi (x::(ls++hs)) Z G
 | _,_=>none
theorem oY{Z:De}{G:List M}{e:Ev}{es:List Ev}{v:V}{vs:List V}{xs:List I}(a:Args K κ ι H σ Z G (e::es) (v::vs))(h:sq Z G e=some xs)(n:dZ e=true):∃b ys,v=.ref b/\aZ K H b ys/\y4d K ι H ys xs:=by
 have y150:(match B.pk Z G e with|some (.lst xs)=>some xs|_=>none)=some xs->∃b ys,v=.ref b/\aZ K H b ys/\y4d K ι H ys xs:=λq=>by
  split at q
  ·rename_i xs' e'
   cases q
   obtain⟨b,e1,ys,h3,r⟩:=a.pk (j:=0) rfl rfl e'
   exact⟨b,ys,e1,aZ.of h3,r⟩
  ·cases q
 cases e with
 | s i=>exact y150 h
 | v x =>
  cases x with
  | ow m=>exact y150 h
  | im d =>
   have r:=a.im (j:=0) rfl rfl
   cases r with
   | tup q r=>cases n
   | con q r=>cases n
   | fro q r=>cases h;exact⟨_,_,rfl,q.sq,r⟩
   | ref q=>exact y150 h
   | non=>exact y150 h
   | bl=>exact y150 h
   | int=>exact y150 h
   | str=>exact y150 h
   | ty=>exact y150 h
noncomputable def BR(K:W.Frag):V->Option Int->Option Int->Hp->VK->Prop:=λx lo hi H Q=>rW K x lo hi H Q∨(sJ x lo hi H Q∨sF x lo hi H Q)
theorem BS{fe:Mo Ev}{fl fh:Mo (List Ev)}{Q:VK}(h:aT K κ (bO fe fl fh) σ H Q):tSl (BR K) (aT K κ fe) (ki K κ fl) (ki K κ fh) σ H Q:=by
 obtain⟨ι,Z,G,e,Z',G',s,eq,k⟩:=h
 obtain⟨x,Z1,G1,e1,eq1⟩:=bW eq
 obtain⟨ls,Z2,G2,e2,eq2⟩:=bW eq1
 obtain⟨hs,Z3,G3,e3,eq3⟩:=bW eq2
 split at eq3
 ·rename_i lo hi hlo hhi
  refine⟨ι,Z,G,x,Z1,G1,s,e1,λv ι1 H1 a1=>?_⟩
  refine⟨ι1,Z1,G1,ls,lo,Z2,G2,a1.ar.base,e2,hlo,λvs ι2 H2 a2=>?_⟩
  refine⟨ι2,Z2,G2,hs,hi,Z3,G3,a2.ar.base,e3,hhi,λws ι3 H3 a3=>?_⟩
  have a23:=a2.app a3
  have a:=a1.app a23
  have fin:∀{v':V} {ι':List Addr} {H':Hp},After K κ σ ι3 (own (σ++tS ([x]++(ls++hs)) ([v]++(vs++ws))) (Z3++tD ([x]++(ls++hs)))++ι3) H3 [e] Z' G' [v'] ι' H'->Q v' H':=λb=>k _ _ _ (a.then b)
  have ar:Args K κ ι3 H3 σ Z3 G3 (x::(ls++hs)) (v::(vs++ws)):=a.ar
  unfold gn at eq3
  split at eq3
  ·rename_i xs b7 hq
   cases hq
   have r:=ar.im (j:=0) rfl rfl
   obtain⟨_,_,rfl,h1,h2⟩:=jy r
   refine .inr (.inl ⟨_,_,rfl,h1,λb H' hb kp=>?_⟩)
   exact fin (bF eq3 (oi a.ar kp (.tup hb ((h2.cut lo hi).mono (bQ.refl _) (Kp.same kp)))))
  ·rename_i z b7 hq
   cases hq
   split at eq3
   ·rename_i hz
    cases gP (ar.im (j:=0) rfl rfl)
    exact .inr (.inr ⟨z,rfl,z25 hz (by decide),fin (bF eq3 (a8 a.ar (.str _)))⟩)
   ·cases eq3
  ·rename_i a0 b7 _ _ hq
   cases hq
   split at eq3
   ·rename_i hn
    split at eq3
    ·rename_i xs hx
     obtain⟨b,ys,e4,h1,r⟩:=oY ar hx hn
     exact .inl ⟨b,ys,e4,h1,λp hp=>fin (bF eq3 (eR a.ar hp (r.cut lo hi)))⟩
    ·cases eq3
   ·cases eq3
  ·cases eq3
 ·cases eq3
noncomputable def dC(xs:List I)(lo hi st:Option Int):List I:=(sliceRange (sliceBounds lo hi st xs.length).1 (sliceBounds lo hi st xs.length).2.1 (sliceBounds lo hi st xs.length).2.2).filterMap (xs[·]?)
theorem y4d.filt{vs:List V}{xs:List I}(r:y4d K ι H vs xs):∀js:List Nat,y4d K ι H (js.filterMap (vs[·]?)) (js.filterMap (xs[·]?))
 | []=>.nil
 | j::js=>by
  cases e:xs[j]? with
  | none=>simp only [List.filterMap_cons,e,r.none_of e];exact y4d.filt r js
  | some x =>
   obtain⟨v,hv,rv⟩:=r.get e
   simp only [List.filterMap_cons,e,hv]
   exact .cons rv (y4d.filt r js)
theorem y4d.pick{vs:List V}{xs:List I}(r:y4d K ι H vs xs)(lo hi st:Option Int):y4d K ι H (eP vs lo hi st) (dC xs lo hi st):=by
 unfold eP dC
 rw [r.len]
 exact r.filt _
noncomputable def jO(fe:Mo Ev)(fl fh:Mo (List Ev))(fk:Mo Ev):Mo Ev:=bd fe λx=>bd fl λls=>bd fh λhs=>bd (one fk) λks=>λZ G=>match hR ls,hR hs,hR ks with
 | some lo,some hi,some (some c)=>if c≠0/\dZ x then match sq Z G x with
  | some xs=>some (.v (.ow (.lst (dC xs lo hi (some c)))),Z,G)
  | none=>none
  else none
 | _,_,_=>none
theorem BU{fe fk:Mo Ev}{fl fh:Mo (List Ev)}{Q:VK}(h:aT K κ (jO fe fl fh fk) σ H Q):nW K (aT K κ fe) (ki K κ fl) (ki K κ fh) (nO (aT K κ fk)) σ H Q:=by
 obtain⟨ι,Z,G,e,Z',G',s,eq,k⟩:=h
 obtain⟨x,Z1,G1,e1,eq1⟩:=bW eq
 obtain⟨ls,Z2,G2,e2,eq2⟩:=bW eq1
 obtain⟨hs,Z3,G3,e3,eq3⟩:=bW eq2
 obtain⟨ks,Z4,G4,e4,eq4⟩:=bW eq3
 obtain⟨y,Z5,G5,e5,eq5⟩:=bW e4
 cases eq5
 split at eq4
 ·rename_i lo hi c hlo hhi hk
  split at eq4
  ·rename_i hc
   split at eq4
   ·rename_i xs hx
    refine⟨ι,Z,G,x,Z1,G1,s,e1,λv ι1 H1 a1=>?_⟩
    refine⟨ι1,Z1,G1,ls,lo,Z2,G2,a1.ar.base,e2,hlo,λvs ι2 H2 a2=>?_⟩
    refine⟨ι2,Z2,G2,hs,hi,Z3,G3,a2.ar.base,e3,hhi,λws ι3 H3 a3=>?_⟩
    refine⟨ι3,Z3,G3,y,_,_,a3.ar.base,e5,λu ι4 H4 a4=>?_⟩
    have a:=a1.app (a2.app (a3.app a4))
    have ar:Args K κ ι4 H4 σ _ _ (x::(ls++(hs++[y]))) (v::(vs++(ws++[u]))):=a.ar
    unfold hR at hk
    split at hk
    ·rename_i hq;cases hq
    ·rename_i i hq
     cases hk
     cases hq
     have r:=a4.ar.im (j:=0) rfl rfl
     cases cC (r)
     obtain⟨b,ys,e6,h1,r⟩:=oY ar hx hc.2
     exact⟨c,rfl,b,ys,e6,h1,λz=>hc.1 (by cases z;rfl),λp hp=>k _ _ _ (bF eq4 (a.then (eR a.ar hp (r.pick lo hi (some c)))))⟩
    ·cases hk
   ·cases eq4
  ·cases eq4
 ·cases eq4
noncomputable def gp:List Ev->Mo Ev:=λes Z G=>match es with
 | [.v (.im (.tup xs))]=>some (.v (.im (.tup xs.reverse)),Z,G)
 | [a]=>if dZ a then match sq Z G a with
  | some xs=>some (.v (.ow (.lst xs.reverse)),Z,G)
  | none=>none
  else none
 | _=>none
theorem nV(xs:List V):eP xs none none (some (-1))=xs.reverse:=by
 obtain⟨h1,h2⟩:=AB xs
 refine List.ext_getElem? λj=>?_
 by_cases hj:j<xs.length
 ·rw [h2 j hj,List.getElem?_reverse hj]
 ·rw [List.getElem?_eq_none_iff.mpr (by lia),List.getElem?_eq_none_iff.mpr (by rw [z2d];lia)]
theorem BV{fe:Mo Ev}{tk:TO}{Q:VK}(htk:∀σ H Q,Q (some (-1)) H->tk σ H Q)(h:aT K κ (bC gp fe) σ H Q):sI K (aT K κ fe) σ H Q∨nW K (aT K κ fe) nN nN tk σ H Q:=by
 obtain⟨ι,Z,G,e,Z',G',s,eq,k⟩:=h
 obtain⟨x,Z1,G1,e1,eq1⟩:=bW eq
 unfold gp at eq1
 split at eq1
 ·rename_i xs hq
  cases hq
  refine .inl ⟨ι,Z,G,_,_,_,s,e1,λv ι1 H1 a=>?_⟩
  have r:=a.ar.im (j:=0) rfl rfl
  obtain⟨_,_,rfl,h1,h2⟩:=jy r
  exact⟨_,_,rfl,a7.of h1,λp hp=>k _ _ _ (bF eq1 (a.then (lu a.ar hp h2.rev)))⟩
 ·rename_i a0 _ hq
  cases hq
  split at eq1
  ·rename_i hn
   split at eq1
   ·rename_i xs hx
    refine .inr ⟨ι,Z,G,_,_,_,s,e1,λv ι1 H1 a=>?_⟩
    refine htk _ _ _ ?_
    obtain⟨b,ys,e6,h1,r⟩:=oY a.ar hx hn
    refine⟨b,ys,e6,h1,(by decide),λp hp=>?_⟩
    rw [nV]
    exact k _ _ _ (bF eq1 (a.then (eR a.ar hp r.rev)))
   ·cases eq1
  ·cases eq1
 ·cases eq1
end
section
variable {X:Cx}{κ:Str->Addr}{a b e st:Expr}{fa fb:Mo Ev}{fl fh:Mo (List Ev)}{lo hi:Option Expr}{pos p2:Pos}{k:Nat}
theorem hU(h:LE X κ e fa)(hl:PO X lo (ki X.K κ fl))(hh:PO X hi (ki X.K κ fh)):LE X κ (.Subscript e (.Slice lo hi none p2) pos) (bO fa fl fh):=.mk (aK (zr (zG.or (Al.or Ac)) h.pe hl hh) λ_ _ _=>BS)
theorem uL(h:LE X κ e fa)(hl:PO X lo (ki X.K κ fl))(hh:PO X hi (ki X.K κ fh))(hs:LE X κ st fb):LE X κ (.Subscript e (.Slice lo hi (some st) p2) pos) (jO fa fl fh fb):=.mk (aK (sL h.pe hl hh hs.pe) λ_ _ _=>BU)
theorem uM{pu pc:Pos}{j}(h:LE X κ e fa):LE X κ (.Subscript e (.Slice none none (some (.UnaryOp .USub (.Constant (.int 1) j pc) pu)) p2) pos) (bC gp fa):=.mk (aK (nu (Ak h.pe (nB nD ng) λ_ _ _ q=>⟨1,rfl,q⟩) (sL h.pe nP nP (nB nD ng))) λ_ _ _ q=>BV (λ_ _ _ q=>⟨1,rfl,⟨_,rfl,q⟩⟩) q)
end
end
section
section
variable {X:Cx}{K:W.Frag}{κ:Str->Addr}{ι:List Addr}{H:Hp}{σ:L2.St}
noncomputable def fK(Z:De)(G:List M)(e:Ev):Bool:=match pk Z G e with
 | some (.lst _)=>true
 | _=>false
noncomputable def hV(p:List Ev->Mo Ev)(fo:Mo Ev)(fa:Mo (List Ev)):Mo Ev:=bd fo λe=>λZ G=>if fK Z G e then bd fa (λes=>p (e::es)) Z G else none
noncomputable def rM(r:V->List V->Hp->VK->Prop):List V->Hp->VK->Prop:=λvs H Q=>∃x xs,vs=x::xs/\r x xs H Q
theorem uN{Z:De}{G:List M}{e:Ev}{v:V}{fp:List Addr}{H0:Hp}{ι0:List Addr}(a:After K κ σ ι0 fp H0 [e] Z G [v] ι H)(h:fK Z G e=true):r8 K "list" v H:=by
 unfold fK at h
 split at h
 ·rename_i xs hp
  obtain⟨b,e1,ys,h1,r⟩:=a.ar.pk (j:=0) rfl rfl hp
  subst e1
  exact .inl ⟨rfl,ys,aZ.of h1⟩
 ·cases h
theorem uO{p:List Ev->Mo Ev}{fo:Mo Ev}{fa:Mo (List Ev)}{r:V->List V->Hp->VK->Prop}{Q:VK}(hp:ay K κ (rM r) p)(h:aT K κ (hV p fo fa) σ H Q):zJ K "list" r (aT K κ fo) (ir K κ fa) σ H Q:=by
 obtain⟨ι,Z,G,e,Z',G',s,eq,k⟩:=h
 obtain⟨x,Z1,G1,e1,eq1⟩:=bW eq
 split at eq1
 ·rename_i hl
  obtain⟨es,Z2,G2,e2,eq2⟩:=bW eq1
  refine⟨ι,Z,G,x,Z1,G1,s,e1,λv ι1 H1 a1=>⟨uN a1 hl,?_⟩⟩
  refine⟨ι1,Z1,G1,es,Z2,G2,a1.ar.base,e2,λvs ι2 H2 a2=>?_⟩
  have a:=a1.app a2
  obtain⟨y,ys,ey,q⟩:=hp _ _ _ _ _ _ _ _ _ _ Q a.ar eq2 λv ι3 H3 d=>k _ _ _ (a.then d)
  cases ey
  exact q
 ·cases eq1
theorem BW{p:List Ev->Mo Ev}{fo:Mo Ev}{r:V->List V->Hp->VK->Prop}{Q:VK}(hp:ay K κ (rM r) p)(hl:∀e Z G z,p [e] Z G=some z->fK Z G e=true)(h:aT K κ (bC p fo) σ H Q):sf K "list" r (aT K κ fo) σ H Q:=by
 obtain⟨ι,Z,G,e,Z',G',s,eq,k⟩:=h
 obtain⟨x,Z1,G1,e1,eq1⟩:=bW eq
 refine⟨ι,Z,G,x,Z1,G1,s,e1,λv ι1 H1 a1=>⟨uN a1 (hl _ _ _ _ eq1),?_⟩⟩
 obtain⟨y,ys,ey,q⟩:=hp _ _ _ _ _ _ _ _ _ _ Q a1.ar eq1 λv ι3 H3 d=>k _ _ _ (a1.then d)
 cases ey
 exact q
noncomputable def iT:List Ev->Mo Ev:=λes Z G=>match es with
 | [a,.v (.im d)]=>match pk Z G a with
  | some (.lst xs)=>if xs.length<1000000 then some (.v (.im .non),(fz Z G (.lst (xs++[d])) a).1,(fz Z G (.lst (xs++[d])) a).2) else none
  | _=>none
 | _=>none
theorem BX:ay K κ (rM sk) iT:=by
 intro ι H σ Z G es vs e Z' G' Q a h k
 unfold iT at h
 split at h
 ·rename_i x d
  split at h
  ·rename_i xs hx
   split at h
   ·rename_i hl
    obtain⟨v,u,rfl⟩:=cg a.len
    obtain⟨b,e1,ys,h1,r⟩:=a.pk (j:=0) rfl rfl hx
    subst e1
    have ru:=a.im (j:=1) rfl rfl
    have l1:=r.len
    refine⟨_,_,rfl,b,ys,u,rfl,rfl,h1,z1b (by lia) (show 1000000≤sizeLine by decide),k _ _ _ (bF h (jA a (j:=0) rfl rfl hx (λ_ kp=>⟨_,bh,(r.app (.cons ru .nil)).mono (bQ.refl _) kp⟩) .non))⟩
   ·cases h
  ·cases h
 ·cases h
noncomputable def hW:List Ev->Mo Ev:=λes Z G=>match es with
 | [a]=>match pk Z G a with
  | some (.lst xs)=>match xs[xs.length-1]? with
   | some d=>some (.v (.im d),(fz Z G (.lst xs.dropLast) a).1,(fz Z G (.lst xs.dropLast) a).2)
   | none=>none
  | _=>none
 | _=>none
theorem y4d.dropLast{vs:List V}{xs:List I}(r:y4d K ι H vs xs):y4d K ι H vs.dropLast xs.dropLast:=by
 rw [List.dropLast_eq_take,List.dropLast_eq_take,r.len]
 exact r.take _
theorem BY:ay K κ (rM sv) hW:=by
 intro ι H σ Z G es vs e Z' G' Q a h k
 unfold hW at h
 split at h
 ·rename_i x
  split at h
  ·rename_i xs hx
   split at h
   ·rename_i d hd
    obtain⟨v,rfl⟩:=bI a.len
    obtain⟨b,e1,ys,h1,r⟩:=a.pk (j:=0) rfl rfl hx
    subst e1
    obtain⟨w,hw,rw'⟩:=r.get hd
    refine⟨_,_,rfl,b,ys,w,rfl,rfl,h1,by rw [r.len];exact hw,k _ _ _ (bF h (jA a (j:=0) rfl rfl hx (λ_ kp=>⟨_,bh,r.dropLast.mono (bQ.refl _) kp⟩) rw'))⟩
   ·cases h
  ·cases h
 ·cases h
theorem BZ(e:Ev)(Z:De)(G:List M)(z:Ev×De×List M)(h:hW [e] Z G=some z):fK Z G e=true:=by
 unfold hW at h
 dsimp only at h
 unfold fK
 split at h
 ·rfl
 ·cases h
noncomputable def fL:List Ev->De->List M->Option (De×List M):=λes Z G=>match es with
 | [.v (.im d),a,.v (.im x)]=>match pk Z G a with
  | some (.lst xs)=>match x with
   | .int i=>match jf xs.length i with
    | some j=>some (fz Z G (.lst (xs.set j d)) a)
    | none=>none
   | _=>none
  | some (.dic kvs)=>match fG x with
   | some k=>if kvs.length<1000000 then some (fz Z G (.dic (bq kvs k d)) a) else none
   | none=>none
  | some (.dit kvs)=>match eE x with
   | some k=>if kvs.length<1000000 then some (fz Z G (.dit (bq kvs k d)) a) else none
   | none=>none
  | _=>none
 | _=>none
noncomputable def cz(fo fi fv:Mo Ev):SF:=λZ G=>match bd fv (λv=>bd fo λo=>bd fi λi=>rt [v,o,i]) Z G with
 | some (es,Z1,G1)=>match fL es Z1 G1 with
  | some (Z2,G2)=>some (.nx Z2 G2)
  | none=>none
 | none=>none
theorem B0{fo fi fv:Mo Ev}{D:Ends}(h:dk K κ (cz fo fi fv) D σ H):kB (aT K κ fv) (qz (aT K κ fo) (aT K κ fi) rV) D σ H∨rD (aT K κ fo) (aT K κ fi) (aT K κ fv) D σ H:=by
 obtain⟨ι,Z,G,fl,s,eq,k⟩:=h
 unfold cz at eq
 split at eq
 ·rename_i es Ze Ge ee
  obtain⟨v,Z1,G1,e1,ee⟩:=bW ee
  obtain⟨o,Z2,G2,e2,ee⟩:=bW ee
  obtain⟨i,Z3,G3,e3,ee⟩:=bW ee
  cases ee
  split at eq
  ·rename_i Z4 G4 e4
   cases eq
   have go:∀{vv ov iv:V} {ι3:List Addr} {H3:Hp},After K κ σ ι (own σ Z++ι) H [v,o,i] Ze Ge [vv,ov,iv] ι3 H3 ->
     (∃p xs kk j,ov=.ref p/\iv=.int kk/\H3 p=some (.lst xs)/\jf xs.length kk=some j/\D.nx σ (aD H3 p (.lst (xs.set j vv))))∨(∃a H4,ov=.ref a/\kL H3 a iv vv H4/\D.nx σ H4):=λ{vv ov iv ι3 H3} a=>by
    unfold fL at e4
    split at e4
    ·rename_i d a0 x hq
     cases hq
     have rv:=a.ar.im (j:=0) rfl rfl
     have rx:=a.ar.im (j:=2) rfl rfl
     have nxt:∀{m m':M} {b:Addr} {ob:HO},sU m=false->pk Ze Ge o=some m->ov=.ref b->(du K κ ι3 H3 b m->Kp H3 (aD H3 b ob)->du K κ ι3 (aD H3 b ob) b m')->(fz Ze Ge m' o=(Z4,G4))->D.nx σ (aD H3 b ob):=λhf hp eo hr he=>by
      subst eo
      have f:=jA a.ar (j:=1) rfl rfl hp hr (RpI.non) hf
      obtain⟨p,q⟩:=(a.then f).drop
      rw [he] at p q
      exact k _ _ _ p q
     split at e4
     ·rename_i xs hp
      cases rx with
      | int kk =>
       dsimp only at e4
       split at e4
       ·rename_i j hj
        obtain⟨b,eb,ys,h1,r⟩:=a.ar.pk (j:=1) rfl rfl hp
        have l:=r.len
        exact .inl ⟨b,ys,kk,j,eb,rfl,h1,by rw [l];exact hj,nxt (m':=.lst (xs.set j d)) rfl hp eb (λ_ kp=>⟨_,bh,(r.set j rv).mono (bQ.refl _) kp⟩) (z27 e4)⟩
       ·cases e4
      | _=>cases e4
     ·rename_i kvs hp
      split at e4
      ·rename_i kk hk
       split at e4
       ·rename_i hl
        obtain⟨b,eb,ws,h1,h2,r⟩:=a.ar.pk (j:=1) rfl rfl hp
        have ek:=lR rx hk
        subst ek
        have l:ws.length=kvs.length:=by have:=congrArg List.length h2;simpa using this
        refine .inr ⟨b,_,eb,kL.k h1 (z1b (by lia) (show 1000000≤sizeLine by decide)),nxt rfl hp eb (λ_ kp=>?_) (z27 e4)⟩
        obtain⟨p,q⟩:=lU rv h2 r
        exact⟨_,bh,p,q.mono (bQ.refl _) kp⟩
       ·cases e4
      ·cases e4
     ·rename_i kvs hp
      split at e4
      ·rename_i kk hk
       split at e4
       ·rename_i hl
        obtain⟨b,eb,ws,h1,h2,r⟩:=a.ar.pk (j:=1) rfl rfl hp
        obtain⟨c,ek,hc⟩:=oU rx hk
        subst ek
        have l:ws.length=kvs.length:=by have:=congrArg List.length h2;simpa using this
        refine .inr ⟨b,_,eb,kL.t h1 hc (z1b (by lia) (show 1000000≤sizeLine by decide)),nxt rfl hp eb (λ_ kp=>?_) (z27 e4)⟩
        obtain⟨p,q⟩:=lU (k:=kk) rv h2 r
        exact⟨_,bh,p,q.mono (bQ.refl _) kp⟩
       ·cases e4
      ·cases e4
     ·cases e4
    ·cases e4
   by_cases hl:∃xs,pk Ze Ge o=some (.lst xs)
   ·left
    refine⟨ι,Z,G,v,Z1,G1,s,e1,λvv ι1 H1 a1=>?_⟩
    refine⟨ι1,Z1,G1,o,Z2,G2,a1.ar.base,e2,λov ι2 H2 a2=>?_⟩
    refine⟨ι2,Z2,G2,i,_,_,a2.ar.base,e3,λiv ι3 H3 a3=>?_⟩
    have a:=a1.app (a2.app a3)
    rcases go a with q|⟨a',H4,ea,dp,q⟩
    ·exact q
    ·exfalso
     obtain⟨xs,hx⟩:=hl
     obtain⟨b,eb,ys,h1,r⟩:=a.ar.pk (j:=1) rfl rfl hx
     rw [ea] at eb;cases eb
     rcases dp with⟨_,_,h2,_⟩| ⟨_,_,_,h2,_⟩<;>(rw [h1] at h2;cases h2)
   ·right
    refine⟨ι,Z,G,v,Z1,G1,s,e1,λvv ι1 H1 a1=>?_⟩
    refine⟨ι1,Z1,G1,o,Z2,G2,a1.ar.base,e2,λov ι2 H2 a2=>?_⟩
    refine⟨ι2,Z2,G2,i,_,_,a2.ar.base,e3,λiv ι3 H3 a3=>?_⟩
    have a:=a1.app (a2.app a3)
    rcases go a with⟨p,xs,kk,j,eo,_,h1,_,_⟩| q
    ·exfalso
     unfold fL at e4
     split at e4
     ·rename_i d a0 x hq
      cases hq
      split at e4
      ·rename_i ys hp;exact hl ⟨ys,hp⟩
      ·rename_i kvs hp
       obtain⟨b,eb,ws,h2,_⟩:=a.ar.pk (j:=1) rfl rfl hp
       rw [eo] at eb;cases eb
       rw [h1] at h2;cases h2
      ·rename_i kvs hp
       obtain⟨b,eb,ws,h2,_⟩:=a.ar.pk (j:=1) rfl rfl hp
       rw [eo] at eb;cases eb
       rw [h1] at h2;cases h2
      ·cases e4
     ·cases e4
    ·exact q
  ·cases eq
 ·cases eq
end
section
variable {X:Cx}{κ:Str->Addr}{a b e o:Expr}{es:List Expr}{fa fb fv:Mo Ev}{fs:Mo (List Ev)}{pos apos ybe pos':Pos}{k:Nat}
theorem pT(hr:y4b k X.A)(ho:LE X κ o fa)(ha:LA X κ (e::es) fs)(y186:attributeBase o "append" X.env (eval o X.env)=eval o X.env:=by rfl)
  (y18a:((backTo ybe (starEach (e::es) X.env)).all (λx=>!x.1)&&(backToKw ybe (keywordEach [] X.env)).all (λx=>x.1.isSome)&&decide ((e::es).length+([]:List Keyword).length+(if ([]:List Keyword).isEmpty then 0 else 1)<30))=true:=by rfl)
  (y190:(apos.endLine == ybe.line)=true:=by rfl) (hs:starEach (e::es) X.env=(false,eval e X.env)::starEach es X.env:=by rfl) (y193:(backTo ybe (starEach es X.env)).any (·.1)=false:=by rfl):LE X κ (.Call (.Attribute o "append" apos) (e::es) [] ybe) (hV iT fa fs):=.mk (aK (kQ PySem.F.plainAttrs_list PySem.F.slot_list_append PySem.F.type_list_append su ho.pe ha.pe y186 y18a y190 hs y193) λ_ _ _=>uO BX)
theorem B1(ho:LE X κ o fa)(y186:attributeBase o "pop" X.env (eval o X.env)=eval o X.env:=by rfl)(y190:(apos.endLine == ybe.line)=true:=by rfl):LE X κ (.Call (.Attribute o "pop" apos) [] [] ybe) (bC hW fa):=.mk (aK (zK PySem.F.plainAttrs_list PySem.F.slot_list_pop PySem.F.type_list_pop zN ho.pe y186 y190) λ_ _ _=>BW BY BZ)
theorem gq(hr:y4b k X.A)(ho:LE X κ o fa)(hi:LE X κ e fb)(hv:LE X κ a fv)(hs:swapsWith a (some (.Subscript o e pos')) pos.line X.env=pure false:=by rfl)(hs1:swapsWithSole [.Subscript o e pos'] a pos.line X.env=pure false:=by rfl)
  (hw:swappedStores [.Subscript o e pos'] a X.env=pure none:=by rfl) (h1:(assignEach [.Subscript o e pos'] X.env).map (·.2)=[assign (.Subscript o e pos') X.env]:=by rfl)
  (ha:∀v,assign (.Subscript o e pos') X.env v=(do
   let ov <- holding [v] (eval o X.env)
   let iv <- holding [v,ov] (eval e X.env)
   standAt pos'
   holding [v,ov,iv] (setItem ov iv v)
   release [v,ov,iv] []):=by intro _;rfl):LS X κ (.Assign [.Subscript o e pos'] a pos) (cz fa fb fv):=.mk (eD (t9 (qA hv.pe (xN ho.pe hi.pe jv ha) hs1 hw h1) (zg (kW hr) ho.pe hi.pe hv.pe hs)) λ_ _ _=>B0)
end
end
section
section
variable {X:Cx}{K:W.Frag}{κ:Str->Addr}{ι:List Addr}{H:Hp}{σ:L2.St}
noncomputable def jP:Mo Ev:=rt (.v (.ow (.dic [])))
noncomputable def hX:Mo Ev:=rt (.v (.ow (.dit [])))
theorem B2{Q:VK}(h:aT K κ jP σ H Q):rE σ H Q:=by
 obtain⟨ι,Z,G,e,Z',G',s,eq,k⟩:=h
 cases eq
 intro p hp
 have a:=oj (After.nil s).ar hp (m:=.dic []) ⟨[],bh,rfl,.nil⟩
 exact k _ _ _ ⟨a.ar,(After.nil s).st.trans a.st⟩
theorem B3{Q:VK}(h:aT K κ hX σ H Q):rF σ H Q:=by
 obtain⟨ι,Z,G,e,Z',G',s,eq,k⟩:=h
 cases eq
 intro p hp
 have a:=oj (After.nil s).ar hp (m:=.dit []) ⟨[],bh,rfl,.nil⟩
 exact k _ _ _ ⟨a.ar,(After.nil s).st.trans a.st⟩
noncomputable def uP(K:W.Frag)(κ:Str->Addr)(trs:List (TE×TE))(f:Mo (List Ev)):Prop:=∀σ H Q,ir K κ f σ H (λvs H1=>∀ps:List (V×V),vs=ps.flatMap (λp=>[p.1,p.2])->Q ps H1)->kM trs σ H Q
noncomputable def oZ:Mo (List Ev):=rt []
noncomputable def jQ(fk fv:Mo Ev)(r:Mo (List Ev)):Mo (List Ev):=bd fk λa=>bd fv λb=>bd r λes=>rt (a::b::es)
theorem B4:uP K κ [] oZ:=λσ H Q h=>by
 obtain⟨ι,Z,G,es,Z',G',s,e,k⟩:=h
 cases e
 exact k _ _ _ (After.nil s) [] rfl
theorem B5{fk fv:Mo Ev}{r:Mo (List Ev)}{trs:List (TE×TE)}(hr:uP K κ trs r):uP K κ ((aT K κ fk,aT K κ fv)::trs) (jQ fk fv r):=λσ H Q h=>by
 obtain⟨ι,Z,G,es,Z',G',s,e,k⟩:=h
 obtain⟨x,Z1,G1,e1,e⟩:=bW e
 obtain⟨y,Z2,G2,e2,e⟩:=bW e
 obtain⟨zs,Z3,G3,e3,e⟩:=bW e
 cases e
 refine⟨ι,Z,G,x,Z1,G1,s,e1,λv ι1 H1 a1=>?_⟩
 refine⟨ι1,Z1,G1,y,Z2,G2,a1.ar.base,e2,λw ι2 H2 a2=>?_⟩
 refine hr _ _ _ ⟨ι2,Z2,G2,zs,_,_,a2.ar.base,e3,λvs ι3 H3 a3 ps hps=>?_⟩
 exact k _ _ _ (a1.app (a2.app a3)) ((v,w)::ps) (by rw [hps];rfl)
noncomputable def iU:List Ev->Option (List (aB×I))
 | []=>some []
 | .v (.im x)::.v (.im d)::r=>match fG x,iU r with
  | some k,some ps=>some ((k,d)::ps)
  | _,_=>none
 | _=>none
noncomputable def iV(ps:List (aB×I)):List (aB×I):=ps.foldl (λacc kv=>bq acc kv.1 kv.2) []
noncomputable def o6(f:Mo (List Ev)):Mo Ev:=bd f λes Z G=>match iU es with
 | some ps=>if ps.length≤15 then some (.v (.ow (.dic (iV ps))),Z,G) else none
 | none=>none
theorem uQ:∀{es:List Ev} {vs:List V} {ps:List (aB×I)},Paired (RpE K κ ι H) (tS es vs) (tD es)->es.length=vs.length->iU es=some ps ->
  ∃kvs:List (aB×V),vs=(kvs.map λkv=>(kV kv.1,kv.2)).flatMap (λp=>[p.1,p.2])/\kvs.map (·.1)=ps.map (·.1)/\y4d K ι H (kvs.map (·.2)) (ps.map (·.2))
 | [],[],_,_,_,h=>by cases h;exact⟨[],rfl,rfl,.nil⟩
 | [],_::_,_,_,l,_=>by cases l
 | _::_,[],_,_,l,_=>by cases l
 | [_],[_],_,_,_,h=>by
  unfold iU at h
  split at h
  ·rename_i hq;cases hq
  ·rename_i hq;cases hq
  ·cases h
 | [_],_::_::_,_,_,l,_=>by cases l
 | _::_::_,[_],_,_,l,_=>by cases l
 | a::b::es,v::w::vs,ps,p,l,h=>by
  unfold iU at h
  split at h
  ·rename_i hq;cases hq
  ·rename_i x d r hq
   cases hq
   split at h
   ·rename_i kk ps' hk hps
    cases h
    cases p with
    | cons p1 p =>
     cases p with
     | cons p2 p =>
      cases p1 with
      | im r1 =>
       cases p2 with
       | im r2 =>
        obtain⟨kvs,e1,e2,e3⟩:=uQ p (by simpa using l) hps
        refine⟨(kk,w)::kvs,?_,?_,.cons r2 e3⟩
        ·rw [lR r1 hk,e1];rfl
        ·rw [z1a,z1a,e2]
   ·cases h
  ·cases h
theorem uR:∀{kvs:List (aB×V)} {ps:List (aB×I)} {acc:List (aB×V)} {ac:List (aB×I)},kvs.map (·.1)=ps.map (·.1)->y4d K ι H (kvs.map (·.2)) (ps.map (·.2))->acc.map (·.1)=ac.map (·.1)->y4d K ι H (acc.map (·.2)) (ac.map (·.2)) ->
  (gL acc kvs).map (·.1)=(ps.foldl (λacc kv=>bq acc kv.1 kv.2) ac).map (·.1)/\y4d K ι H ((gL acc kvs).map (·.2)) ((ps.foldl (λacc kv=>bq acc kv.1 kv.2) ac).map (·.2))
 | [],[],_,_,_,_,e,r=>⟨e,r⟩
 | [],_::_,_,_,e,_,_,_=>by cases e
 | _::_,[],_,_,e,_,_,_=>by cases e
 | (k,v)::kvs,(k',d)::ps,acc,ac,e,r,e',r'=>by
  simp only [z1a,List.cons.injEq] at e
  obtain⟨e1,e2⟩:=e
  subst e1
  cases r with
  | cons r rs =>
   obtain⟨p,q⟩:=lU r e' r'
   have:=uR e2 rs p q
   exact this
theorem B6{trs:List (TE×TE)}{f:Mo (List Ev)}{Q:VK}(hf:uP K κ trs f)(h:aT K κ (o6 f) σ H Q):rJ trs σ H Q:=by
 obtain⟨ι,Z,G,e,Z',G',s,eq,k⟩:=h
 obtain⟨es,Z1,G1,e1,eq1⟩:=bW eq
 intro p hp
 split at eq1
 ·rename_i ps hps
  split at eq1
  ·rename_i hl
   cases eq1
   have sp:=s.y342 (m:=.dic []) hp ⟨[],bh,rfl,.nil⟩
   have st0:=Step.y1e3 (ι:=ι) (Z:=Z) (o:=.dK []) (m:=.dic []) s.len hp
   refine hf _ _ _ ⟨ι,Z,G,es,_,_,sp.pop s.len,e1,λvs ι1 H1 a qs hqs=>?_⟩
   obtain⟨j1,j2⟩:=SR.join (Z1:=Z) sp s.len a.ar.sr a.ar.l a.st
   have hp1:H1 p=some (.dK []):=by
    refine a.st.keep p _ bh λhm=>?_
    obtain⟨o,ho,_⟩:=s.mu hm
    rw [hp] at ho;cases ho
   obtain⟨kvs,ev,ek,rk⟩:=uQ (cf a.ar.l a.ar.sr.sl).2 a.ar.len hps
   have hq:qs=kvs.map λkv=>(kV kv.1,kv.2):=by
    rw [ev] at hqs
    have inj:∀{l1 l2:List (V×V)},l1.flatMap (λp=>[p.1,p.2])=l2.flatMap (λp=>[p.1,p.2])->l1=l2:=by
     intro l1
     induction l1 with
     | nil=>intro l2 h;cases l2 with
      | nil=>rfl
      | cons x l2=>simp at h
     | cons x l1 ih=>intro l2 h;cases l2 with
      | nil=>simp at h
      | cons y l2 =>
       simp only [List.flatMap_cons,List.cons_append,List.nil_append,List.cons.injEq] at h
       obtain⟨h1,h2,h3⟩:=h
       rw [ih h3,Prod.ext h1 h2]
    exact (inj hqs).symm
   have hkl:kvs.length≤15:=by have:=congrArg List.length ek;simp at this;lia
   refine⟨hp1,kvs,hq,hkl,?_⟩
   have l1:=a.ar.l
   have i1:(σ++([some (V.ref p)]++tS es vs))[σ.length]?=some (some (.ref p)):=by rw [z1f (z12 _),Nat.sub_self];rfl
   have i2:(Z'++([some (Vl.ow (.dic []))]++tD es))[σ.length]?=some (some (.ow (.dic []))):=by rw [l1,z1f (z12 _),Nat.sub_self];rfl
   obtain⟨q1,q2⟩:=j1.poke i1 i2 (m':=.dic (iV ps)) (λ_ kp=>by
    obtain⟨z1,z2⟩:=uR (acc:=[]) (ac:=[]) ek rk rfl .nil
    exact⟨_,bh,z1,z2.mono (bQ.refl _) kp⟩)
   have e5:∀(Zx:De),σ.length=Zx.length->(Zx++([some (Vl.ow (.dic []))]++tD es)).set σ.length (some (.ow (.dic (iV ps))))=(Zx++[some (.ow (.dic (iV ps)))])++tD es:=λZx l=>by
    rw [l,List.set_append_right _ _ (z12 _),Nat.sub_self];simp
   rw [e5 _ l1,<- z2e σ] at q1
   rw [e5 _ l1,<- z2e σ] at q2
   rw [<- z2e σ] at j2
   have l2:(σ++[some (V.ref p)]).length=(Z'++[some (Vl.ow (.dic (iV ps)))]).length:=by rw [z14,z14,l1];rfl
   refine k _ _ _ ⟨⟨l1,q1.pop l2,.cons (λ_ h=>by cases h) .nil⟩,?_⟩
   exact ((st0.trans j2).trans q2).sub λx hx=>cD l2 hx
  ·cases eq1
 ·cases eq1
noncomputable def orV(fa fb:Mo Ev):Mo Ev:=bd fa λe=>λZ G=>match cL e Z G with
 | some (true,_,_)=>some (e,Z,G)
 | some (false,_,_)=>fb Z G
 | none=>none
end
section
variable {X:Cx}{κ:Str->Addr}{a b e o:Expr}{es:List Expr}{fa fb fv:Mo Ev}{fs:Mo (List Ev)}{p pos apos:Pos}{k n:Nat}
theorem uS:LE X κ (.Dict [] [] pos) jP:=.mk (aK zh λ_ _ _=>B2)
theorem uT:LE X κ (.Dict [] [] pos) hX:=.mk (aK zi λ_ _ _=>B3)
noncomputable def LP(X:Cx)(κ:Str->Addr)(pos:Pos)(keys:List (Option Expr))(vals:List Expr)(f:Mo (List Ev)):Prop:=∃trs,rG X pos keys vals trs/\uP X.K κ trs f
theorem uU:LP X κ pos [] [] oZ:=⟨[],zj,B4⟩
theorem B7 (hk:LE X κ a fa)(hv:LE X κ b fb)(hr:LP X κ pos ks vs fs):LP X κ pos (some a::ks) (b::vs) (jQ fa fb fs):=let ⟨trs,h1,h2⟩:=hr;⟨_,zl hk.pe hv.pe h1,B5 h2⟩
theorem uV (hr:y4b k X.A)(h:LP X κ pos ks vs fs)(y17f:ks.all (·.isSome)=true:=by rfl)(hl:ks.length=vs.length:=by rfl)(h0:ks≠[]:=by exact (λz=>nomatch z))(h15:ks.length≤15:=by decide):LE X κ (.Dict ks vs pos) (o6 fs):=.mk (by
 obtain⟨trs,h1,h2⟩:=h
 exact aK (zm h1 y17f hl h0 h15) λ_ _ _=>B6 h2)
theorem B8{K:W.Frag}{σ:L2.St}{H:Hp}{fn:FF}{Q:VK}(h:aT K κ (bd fs (aV n fn)) σ H Q):kH (bp K κ n fn) [] E0 (ir K κ fs) σ H Q:=by
 have:=eC (tJ (E:=E0)) h
 unfold kH
 simpa only [z18] using this
theorem cq (h:eO X.prog X.w X.K X.mg X.base x k ps (bp X.K κ n fn))(hr:y4b k X.A)(ha:LA X κ (e::es) fs)(hg:Gl X x:=by rfl)
  (hdb:(x == ("__debug__" : Str))=false:=by decide) (he:je X e es:=by rfl) (hpl:ip X pos es:=by rfl):LE X κ (.Call (.Name x p) (e::es) [] pos) (bd fs (aV n fn)):=.mk (aK (Af h hr hg ha.pe hdb he hpl) λ_ _ _=>B8)
noncomputable def iy(P:Program)(w:World)(K:W.Frag)(mg:Str->Option Value)(base:Heap)(C:Addr)(m:Str)(k:Nat)(ps:List Str)(sp:Sp):Prop :=
 ∃(f:Addr) (fd:FuncData),Meth K C m f/\cw K fd ps []/\y3b P w K mg base cu k f fd ps sp
theorem cP  (h:iy X.prog X.w X.K X.mg X.base (κ c) m k ps (bp X.K κ n fn))(hc:Cls X.K (κ c))(hr:y4b k X.A)(ho:LE X κ o fa)(ha:LA X κ (e::es) fs)
  (hst:starEach (e::es) X.env=(false,eval e X.env)::starEach es X.env:=by rfl) (hpl:ip X pos es:=by rfl)
  (ht:eval (.Call (.Attribute o m apos) (e::es) [] pos) X.env=(do
   let ov <- eval o X.env
   standAt apos.atName
   let (f,first) <- holding [ov] (getMethod ov m pl)
   callWith pos f first (backTo pos (starEach (e::es) X.env)) (backToKw pos (keywordEach [] X.env))):=by rfl):LE X κ (.Call (.Attribute o m apos) (e::es) [] pos) (bg c m n fn fa fs):=.mk (by
 obtain⟨f,fd,hm,hb,F⟩:=h
 exact aK (yO ho.pe hc hm F hr hb .nil nQ ha.pe hst hpl ht) λ_ _ _=>Bg)
noncomputable def o7(P:Program)(w:World)(K:W.Frag)(mg:Str->Option Value)(base:Heap)(C:Addr)(k:Nat)(ps:List Str)(sp:Sp):Prop :=
 ∃(f:Addr) (fd:FuncData),Mk K C f/\cw K fd ps []/\y3b P w K mg base cu k f fd ps sp
theorem B9 (h:o7 X.prog X.w X.K X.mg X.base (κ c) k ps (bp X.K κ n fn))(hr:y4b (k+1) X.A)(hm:X.mg x=some (.ref (κ c)))(hg:Gl X x:=by rfl)(hdb:(x == ("__debug__" : Str))=false:=by decide):LE X κ (.Call (.Name x p) [] [] pos) (bd ae (jD c n fn)):=.mk (by
 obtain⟨f,fd,hM,hb,F⟩:=h
 refine aK (yQ hM F hr hg hm hb .nil nQ hdb) λ_ _ _ q=>?_
 exact sZ (eC (Bh) q))
theorem hZ(hc:Cls X.K (κ c))(hn:il X.K (κ c) f)(h:LE X κ o fa)(hb:attributeBase o f X.env (eval o X.env)=eval o X.env:=by rfl):LE X κ (.Attribute o f pos) (bC (cW c f) fa):=.mk (aK (yF h.pe hb) λ_ _ _=>Be hc hn)
theorem uW (hc:Cls X.K (κ c))(hn:il X.K (κ c) f)(h:LE X κ o fa)(hv:LE X κ a fv)(hs:swapsWith a (some (.Attribute o f pos')) pos.line X.env=pure false:=by rfl):LS X κ (.Assign [.Attribute o f pos'] a pos) (iI c f fa fv):=.mk (eD (yG h.pe hv.pe hs) λ_ _ _=>Bf hc hn)
theorem aH (hN:X.N.Nodup)(h:LE X κ a fa)(hi:X.N[i]?=some x:=by rfl)(hx:nc X.env.scope x:=by first|exact Or.inl rfl|exact Or.inr rfl)(hs:swapsWith a (some (.Name x pos')) pos.line X.env=pure false:=by rfl)(hf:X.fn x=true∨X.env.scope.names.lookup x=some .local:=by first|exact .inl rfl|exact .inr rfl|assumption):LS X κ (.Assign [.Name x pos'] a pos) (aN fa (aF i)):=.mk (eD (xO hN hi hx h.pe hs hf) λD σ H q=>by
 obtain⟨ι,Z,G,e,Z',G',s,eq,kk⟩:=lD q
 exact⟨ι,Z,G,e,Z',G',s,eq,λv ι' H' a=>lz (kk v ι' H' a)⟩)
theorem o8 (h:LE X κ a fa)(hg:LG X κ tg g)(hs:swapsWithSole [tg] a pos.line X.env=pure false:=by rfl)(hw:swappedStores [tg] a X.env=pure none:=by rfl)(h1:(assignEach [tg] X.env).map (·.2)=[assign tg X.env]:=by rfl):LS X κ (.Assign [tg] a pos) (aN fa g):=.mk (eD (qA h.pe hg.pe hs hw h1) λ_ _ _=>lD)
end
end
section
section
variable {X:Cx}{K:W.Frag}{κ:Str->Addr}{ι:List Addr}{H:Hp}{σ:L2.St}
noncomputable def aR:List Ev->De->List M->Option Wk:=λes Z G=>match oF es Z G with
 | some w=>some w
 | none=>tO es Z G
theorem uX    (h:a9 fa p Z G=some (w,es,Z1,G1))(hpq:p es Z1 G1=some w->q es Z1 G1=some w):a9 fa q Z G=some (w,es,Z1,G1):=by
 unfold a9 at h ⊢
 split at h
 ·rename_i es' Z' G' e
  cases hp:p es' Z' G' with
  | none=>rw [hp] at h;cases h
  | some w' =>
   rw [hp] at h
   cases h
   rw [hpq hp];rfl
 ·cases h
theorem Ca{f:Mo Ev}{R:It->Hp->Prop}(h:oB K κ (a9 (one f) aR) σ H R):qD K (aT K κ f) σ H R∨qE K (aT K κ f) σ H R:=by
 obtain⟨ι,Z,G,w,es,Z',G',s,eq,k⟩:=h
 by_cases hq:oF es Z' G'=some w
 ·left
  refine tN (iD AZ ⟨ι,Z,G,w,es,Z',G',s,uX eq λ_=>hq,k⟩)
 ·right
  refine tN (iD A0 ⟨ι,Z,G,w,es,Z',G',s,uX eq λhs=>?_,k⟩)
  unfold aR at hs
  split at hs
  ·rename_i w' hw
   exact absurd (hw.trans hs) hq
  ·exact hs
noncomputable def gu:List Ev->De->List M->Option Wk:=λes _ _=>match es with
 | [.v (.im (.int i)),.v (.im (.int j)),.v (.im (.int c))]=>if c=-1/\j<2 ^ 62/\-(2 ^ 62)≤j/\i<2 ^ 62/\-(2 ^ 62)≤i then some ⟨(i-j).toNat,λk _ _=>some (.int (i-k)),λ_ _=>true⟩ else none
 | _=>none
theorem Cb{lo:Int}{n:Nat}{τ:L2.St}{θ:De}:Walks K κ (wI lo n) τ θ ⟨n,λi _ _=>some (.int (lo-i)),λ_ _=>true⟩ where
 go:=λhi hd _ _=>by
  cases hd
  refine⟨hi,λx H' y=>?_⟩
  obtain⟨e1,e2⟩:=y
  subst e1;subst e2
  exact⟨(λ_ _ h=>h),.int _⟩
 stop:=λ_ _ _=>z12 _
theorem Cc:oE K κ (λvs H R=>∃i j:Int,vs=[.int i,.int j,.int (-1)]/\(-(2 ^ 62)≤i/\i<2 ^ 62/\-(2 ^ 62)≤j/\j<2 ^ 62)/\R (wI i (i-j).toNat) H) gu:=by
 intro ι H σ Z G es vs w R a h k
 unfold gu at h
 split at h
 ·rename_i i j c
  split at h
  ·rename_i hj
   obtain⟨rfl,h1,h2,h3,h4⟩:=hj
   cases h
   obtain⟨v,u,t,rfl⟩:=og a.len
   cases cC (a.im (j:=0) rfl rfl)
   cases cC (a.im (j:=1) rfl rfl)
   cases cC (a.im (j:=2) rfl rfl)
   exact⟨i,j,rfl,⟨h4,h3,h2,h1⟩,k _ Cb⟩
  ·cases h
 ·cases h
noncomputable def gv(a b:Ev)(n:Nat):Wk:=⟨n,λi Z G=>match (sq Z G a).bind (·[i]?),(sq Z G b).bind (·[i]?) with|some x,some y=>some (.tup [x,y])|_,_=>none,λZ G=>match sq Z G a,sq Z G b with|some xs,some ys=>decide (min xs.length ys.length=n)|_,_=>false⟩
noncomputable def jR:List Ev->De->List M->Option Wk:=λes Z G=>match es with
 | [a,b]=>if gX Z G a&&gX Z G b then match sq Z G a,sq Z G b with
  | some xs,some ys=>some (gv a b (min xs.length ys.length))
  | _,_=>none
  else none
 | _=>none
theorem y69{a b:Ev}{v u:V}{x y:Vl}{Z:De}{G:List M}(ha:a=.v x)(hb:b=.v y)(l:σ.length=Z.length)(h:SR K κ ι H (σ++tS [a,b] [v,u]) (Z++tD [a,b]) G):Args K κ ι H σ Z G [a,b] [v,u]:=⟨l,h,.cons (λi q=>by rw [ha] at q;cases q) (.cons (λi q=>by rw [hb] at q;cases q) .nil)⟩
theorem iW{es:List Ev}{vs:List V}{Z:De}{G:List M}{e:Ev}{v:V}{xs:List I}{j:Nat}(a:Args K κ ι H σ Z G es vs)(h1:es[j]?=some e)(h2:vs[j]?=some v)(hl:gX Z G e=true)(h:sq Z G e=some xs):∃b ys,v=.ref b/\aZ K H b ys/\y4d K ι H ys xs:=by
 cases e with
 | s i=>cases hl
 | v x =>
  cases x with
  | ow m =>
   cases m with
   | lst ys =>
    cases h
    obtain⟨b,e1,zs,h3,r⟩:=a.pk h1 h2 rfl
    exact⟨b,zs,e1,aZ.of h3,r⟩
   | _=>cases hl
  | im d =>
   cases d with
   | fro ys =>
    cases h
    have r:=a.im h1 h2
    obtain⟨_,_,rfl,q,r9⟩:=sT r
    exact⟨_,_,rfl,q.sq,r9⟩
   | ref k =>
    have h:(match pk Z G (.v (.im (.ref k))) with|some (.lst xs)=>some xs|_=>none)=some xs:=h
    split at h
    ·rename_i ys e1
     cases h
     obtain⟨b,e1,zs,h3,r⟩:=a.pk h1 h2 e1
     exact⟨b,zs,e1,aZ.of h3,r⟩
    ·cases h
   | _=>cases hl
theorem Cd{a b:Ev}{n:Nat}{p q:Addr}{Z:De}{G:List M}(ha:gX Z G a=true)(hb:gX Z G b=true):Walks K κ (wH K p q) (tS [a,b] [.ref p,.ref q]) (tD [a,b]) (gv a b n) where
 go:=λ{i d ι H σ Z' G'} hi hd l s=>by
  obtain⟨x,hx⟩:=iE ha
  obtain⟨y,hy⟩:=iE hb
  have hd:(match (sq Z' G' a).bind (·[i]?),(sq Z' G' b).bind (·[i]?) with|some x,some y=>some (I.tup [x,y])|_,_=>none)=some d:=hd
  split at hd
  ·rename_i u w hu hw
   cases hd
   cases q1:sq Z' G' a with
   | none=>rw [q1] at hu;cases hu
   | some xs =>
    cases q2:sq Z' G' b with
    | none=>rw [q2] at hw;cases hw
    | some ys =>
     rw [q1] at hu;rw [q2] at hw
     have A:=y69 hx hy l s
     obtain⟨b1,vs,e1,h1,r1⟩:=iW A (j:=0) rfl rfl (iF ha) q1
     obtain⟨b2,ws,e2,h2,r2⟩:=iW A (j:=1) rfl rfl (iF hb) q2
     cases e1;cases e2
     obtain⟨v1,hv1,rv1⟩:=r1.get hu
     obtain⟨v2,hv2,rv2⟩:=r2.get hw
     refine⟨⟨vs,ws,v1,v2,h1,h2,hv1,hv2⟩,λx H' y=>?_⟩
     obtain⟨T,rfl,hT,hy⟩:=y
     have:=hy vs ws v1 v2 h1 h2 hv1 hv2
     subst this
     have sm:=eB.lay (o:=.tup [v1,v2]) hT
     exact⟨sm,.tup bh (.cons (rv1.mono (bQ.refl _) (Kp.same sm)) (.cons (rv2.mono (bQ.refl _) (Kp.same sm)) .nil))⟩
  ·cases hd
 stop:=λ{ι H σ Z' G'} hf l s=>by
  obtain⟨x,hx⟩:=iE ha
  obtain⟨y,hy⟩:=iE hb
  have hf:(match sq Z' G' a,sq Z' G' b with|some xs,some ys=>decide (min xs.length ys.length=n)|_,_=>false)=true:=hf
  split at hf
  ·rename_i xs ys q1 q2
   have A:=y69 hx hy l s
   obtain⟨b1,vs,e1,h1,r1⟩:=iW A (j:=0) rfl rfl (iF ha) q1
   obtain⟨b2,ws,e2,h2,r2⟩:=iW A (j:=1) rfl rfl (iF hb) q2
   cases e1;cases e2
   exact⟨vs,ws,h1,h2,by rw [r1.len,r2.len];exact of_decide_eq_true hf⟩
  ·cases hf
theorem Ce:oE K κ (λvs H R=>∃l1 l2 xs ys,vs=[.ref l1,.ref l2]/\aZ K H l1 xs/\aZ K H l2 ys/\R (wH K l1 l2) H) jR:=by
 intro ι H σ Z G es vs w R a h k
 unfold jR at h
 split at h
 ·rename_i x y
  split at h
  ·rename_i hl
   rw [z2a] at hl
   split at h
   ·rename_i xs ys q1 q2
    cases h
    obtain⟨v,u,rfl⟩:=cg a.len
    obtain⟨b1,vs,e1,h1,r1⟩:=iW a (j:=0) rfl rfl hl.1 q1
    obtain⟨b2,ws,e2,h2,r2⟩:=iW a (j:=1) rfl rfl hl.2 q2
    subst e1;subst e2
    exact⟨b1,b2,vs,ws,rfl,h1,h2,k _ (Cd hl.1 hl.2)⟩
   ·cases h
  ·cases h
 ·cases h
noncomputable def jS(xs:List I):Wk:=⟨xs.length,λi _ _=>(xs[i]?).map λx=>.tup [.int i,x],λ_ _=>true⟩
noncomputable def lY:List Ev->De->List M->Option Wk:=λes _ _=>match es with
 | [.v (.im (.tup xs))]=>some (jS xs)
 | _=>none
theorem Cf:oE K κ (λvs H R=>∃a xs,vs=[.ref a]/\a7 K H a xs/\R (Ax K a) H) lY:=by
 intro ι H σ Z G es vs w R a h k
 unfold lY at h
 split at h
 ·rename_i xs
  cases h
  obtain⟨v,rfl⟩:=bI a.len
  have r:=a.im (j:=0) rfl rfl
  cases r with
  | @tup b ys _ h1 r =>
   refine⟨b,ys,rfl,a7.of h1,k _ ⟨λ{i d ι' H' σ' Z' G'} hi hd l s=>?_,λ{ι' H' σ' Z' G'} hf l s=>?_⟩⟩
   ·have rr:=(pP rfl l s).im (j:=0) rfl rfl
    have hd:(xs[i]?).map (λx=>I.tup [.int i,x])=some d:=hd
    cases rr with
    | @tup _ zs _ h2 r2 =>
     cases q:xs[i]? with
     | none=>rw [q] at hd;cases hd
     | some x =>
      rw [q] at hd;cases hd
      obtain⟨v,hv,rv⟩:=r2.get q
      refine⟨⟨zs,v,a7.of h2,hv⟩,λx H' y=>?_⟩
      obtain⟨T,rfl,hT,hy⟩:=y
      have:=hy zs v (a7.of h2) hv
      subst this
      have sm:=eB.lay (o:=.tup [.int i,v]) hT
      exact⟨sm,.tup bh (.cons (.int _) (.cons (rv.mono (bQ.refl _) (Kp.same sm)) .nil))⟩
   ·have rr:=(pP rfl l s).im (j:=0) rfl rfl
    cases rr with
    | @tup _ zs _ h2 r2=>exact⟨zs,a7.of h2,r2.len⟩
 ·cases h
noncomputable def aU:Mo Bool:=rt true
theorem Cg{Q:Bool->Hp->Prop}(h:dh K κ aU σ H Q):sE σ H Q:=by
 obtain⟨ι,Z,G,b,Z',G',s,eq,k⟩:=h
 cases eq
 exact k _ _ s (Step.refl _ _ _)
end
section
variable {X:Cx}{κ:Str->Addr}{a b c e tg:Expr}{es:List Expr}{fa fb:Mo Ev}{fs:Mo (List Ev)}{fc:Mo Bool}{p pos p0:Pos}{k k0:Nat}{elts:List Expr}
theorem c7(h:LE X κ a fa):LI X κ tg a (a9 (one fa) aR):=.mk (jF (ua (xT h.pe) (xU h.pe)) λ_ _ _=>Ca)
theorem h9(hm:X.mg "range" = none)(ha:LA X κ [a] fs)(hg:Gl X "range":=by rfl)(hs:starEach [a] X.env=[(false,eval a X.env)]:=by rfl):LI X κ tg (.Call (.Name "range" p) [a] [] pos) (a9 fs cG):=.mk (jF (xW hg hm ha.pe hs) λ_ _ _ q=>iD AX q)
theorem Ci(hm:X.mg "range" = none)(ha:LA X κ [a,b,c] fs)(hg:Gl X "range":=by rfl)(hs:starEach [a,b,c] X.env=[(false,eval a X.env),(false,eval b X.env),(false,eval c X.env)]:=by rfl)(hs2:starEach [b,c] X.env=[(false,eval b X.env),(false,eval c X.env)]:=by rfl):LI X κ tg (.Call (.Name "range" p) [a,b,c] [] pos) (a9 fs gu):=.mk (jF (As hg hm ha.pe hs hs2) λ_ _ _ q=>iD Cc q)
theorem uY(hm:X.mg "zip" = none)(ha:LA X κ [a,b] fs)(hg:Gl X "zip":=by rfl)(hs:starEach [a,b] X.env=[(false,eval a X.env),(false,eval b X.env)]:=by rfl)(hs2:starEach [b] X.env=[(false,eval b X.env)]:=by rfl):LI X κ (.Tuple elts k0 p0) (.Call (.Name "zip" p) [a,b] [] pos) (a9 fs jR):=.mk (jF (Aq hg hm ha.pe hs hs2) λ_ _ _ q=>iD Ce q)
theorem Cj(hm:X.mg "enumerate" = none)(ha:LA X κ [a] fs)(hg:Gl X "enumerate":=by rfl)(hs:starEach [a] X.env=[(false,eval a X.env)]:=by rfl):LI X κ (.Tuple elts k0 p0) (.Call (.Name "enumerate" p) [a] [] pos) (a9 fs lY):=.mk (jF (Az hg hm ha.pe hs) λ_ _ _ q=>iD Cf q)
theorem gw(h:wM X es is)(hc:X.calm=true:=by rfl)(hl:(assignEach es X.env).length=is.length:=by rfl)(hst:(assignEach es X.env).findIdx? (·.1)=none:=by rfl):LG X κ (.Tuple es k0 p) (bX is):=.mk (by
 refine t7 (qy hc h hl hst) λ_ _ _ _=>AS)
@[irreducible] noncomputable def jT(X:Cx)(κ:Str->Addr)(ifs:List Expr)(f:Mo Bool):Prop:=mO X ifs (dh X.K κ f)
theorem jT.mk  (h:mO X ifs (dh X.K κ f)):jT X κ ifs f:=by unfold jT;exact h
theorem jT.pe  (h:jT X κ ifs f):mO X ifs (dh X.K κ f):=by unfold jT at h;exact h
theorem eW:jT X κ [] aU:=.mk (λpins s σ H Q I h=>zV pins s σ H Q I (Cg h))
theorem uZ(h:LT X κ c fc):jT X κ [c] fc:=.mk (zW h.pe)
variable {scope:Scope}{x y:Str}{ys:List Str}{ix:List Nat}{ifs:List Expr}{fi:IF}{px py:Pos}
theorem iX(O:yd X scope [x] ys ix)(hi:LI X κ (.Name x px) a fi)(hf:∀z,jT (dH X scope ([x]++ys) z) κ ifs fc)(he:∀z,LE (dH X scope ([x]++ys) z) κ e fb)(hc:X.calm=true:=by rfl)(hs:∀v,foldedSetIterable a X.env v=pure v:=by intro _;rfl):LE X κ (.ListComp e [⟨.Name x px,a,ifs,0⟩] scope pos) (cH fi ix c1 fc fb):=.mk (aK (Ah O hc hi.pe (λz=>kZ O rfl) (λz=>(hf z).pe) (λz=>(he z).pe) hs) λ_ _ _=>oH (λ_=>tQ))
theorem lZ (O:yd X scope [x] ys ix)(hi:LI X κ (.Name x px) a fi)(hf:∀z,jT (dH X scope ([x]++ys) z) κ ifs fc)(he:∀z,LE (dH X scope ([x]++ys) z) κ e fb)(hN:X.N.Nodup)(hy:X.N[i]?=some y:=by rfl)(hl:X.env.scope.names.lookup y=some .local:=by rfl)(hc:X.calm=true:=by rfl)
  (hsw:swapsWith (.ListComp e [⟨.Name x px,a,ifs,0⟩] scope pos) (some (.Name y py)) y3d9.line X.env=pure true:=by rfl) (hs:∀v,foldedSetIterable a X.env v=pure v:=by intro _;rfl):LS X κ (.Assign [.Name y py] (.ListComp e [⟨.Name x px,a,ifs,0⟩] scope pos) y3d9) (aN (cH fi ix c1 fc fb) (aF i)):=.mk (eD (sQ O hc hN hy hl hi.pe (λz=>kZ O rfl) (λz=>(hf z).pe) (λz=>(he z).pe) hsw hs) λD σ H q=>by
  obtain⟨ι,Z,G,e,Z',G',s,eq,kk⟩:=lD q
  exact oH (λ_=>tQ) ⟨ι,Z,G,e,Z',G',s,eq,λv ι' H' a=>lz (kk v ι' H' a)⟩)
theorem Ck (O:yd X scope [x1,x2] ys ix)(hc:X.calm=true)(z:yc):PG (dH X scope ([x1,x2]++ys) z) (.Tuple [.Name x1 q1,.Name x2 q2] kk q0) (kA X.K 2 (gW (List.range 2))) :=
 qy hc (nz (kZ O rfl) (nz (kZ O rfl) qx))
theorem Cm  (O:yd X scope [x1,x2] ys ix)(hi:LI X κ (.Tuple [.Name x1 q1,.Name x2 q2] kk q0) a fi)(hf:∀z,jT (dH X scope ([x1,x2]++ys) z) κ ifs fc)(he:∀z,LE (dH X scope ([x1,x2]++ys) z) κ e fb)(hN:X.N.Nodup)(hy:X.N[i]?=some y:=by rfl)(hl:X.env.scope.names.lookup y=some .local:=by rfl)(hc:X.calm=true:=by rfl)
  (hsw:swapsWith (.ListComp e [⟨.Tuple [.Name x1 q1,.Name x2 q2] kk q0,a,ifs,0⟩] scope pos) (some (.Name y py)) y3d9.line X.env=pure true:=by rfl) (hs:∀v,foldedSetIterable a X.env v=pure v:=by intro _;rfl):LS X κ (.Assign [.Name y py] (.ListComp e [⟨.Tuple [.Name x1 q1,.Name x2 q2] kk q0,a,ifs,0⟩] scope pos) y3d9) (aN (cH fi ix (cN 2) fc fb) (aF i)):=.mk (eD (sQ O hc hN hy hl hi.pe (Ck O hc) (λz=>(hf z).pe) (λz=>(he z).pe) hsw hs) λD σ H q=>by
  obtain⟨ι,Z,G,e,Z',G',s,eq,kk⟩:=lD q
  exact oH (λ_=>tT 2) ⟨ι,Z,G,e,Z',G',s,eq,λv ι' H' a=>lz (kk v ι' H' a)⟩)
end
section
variable {P:Program}{w:World}{K:W.Frag}{mg:Str->Option Value}{base:Heap}{κ:Str->Addr}
theorem b4{x qual:Str}{st:Stmt}{f:Addr}{fd:FuncData}{N ps:List Str}{k n r:Nat}{body:SF}(F:Fun K x qual st f fd)(S:y3c N ps (bV st))(hn:ps.length=n)(hN:N.length=n+r)
  (hb:∀(cdv:Value) (A:Around) (outer:List Env) (s:Shared) (H:Hp) (E:XK),y4b k (A.deeper (envOfC qual (bV st) s.heap.objs.size f cdv))->gZ (nK cu P w K mg base N qual (bV st) f cdv A outer s H E).nox κ (mN st) body) :
  y3b P w K mg base cu (k+1) f fd ps (bp K κ n (bw n r body)):=by
 refine F.ok S (λvs H Q E h=>by rw [(tM h).1,hn]) (λcdv A outer s H vs Q E hr h=>⟨_,(hb cdv A outer s H E hr).pe,?_⟩)
 obtain⟨l,q⟩:=tM h
 unfold L2.start
 have e:N.length-vs.length=r:=by lia
 rw [e]
 exact q
end
end
set_option maxHeartbeats 4000000
set_option maxHeartbeats 400000
section
section
variable {K:W.Frag}{κ:Str->Addr}{ι:List Addr}{H:Hp}
noncomputable def gx:List I->Option (List Int)
 | []=>some []
 | .int i::r=>(gx r).map (i::·)
 | _=>none
theorem u0:∀ns:List Int,gx (ns.map I.int)=some ns
 | []=>rfl
 | n::ns=>by rw [z1a,gx,u0 ns];rfl
theorem u1:∀{xs:List I} {vs:List V} {ns:List Int},y4d K ι H vs xs->gx xs=some ns->vs=ns.map V.int
 | [],_,_,r,h=>by cases r;cases h;rfl
 | x::xs,_,_,r,h=>by
  cases r with
  | cons r1 r2 =>
   cases r1 with
   | int i =>
    rw [gx] at h
    cases e:gx xs with
    | none=>rw [e] at h;cases h
    | some ms=>rw [e] at h;cases h;rw [z1a,<- u1 r2 e]
   | _=>cases h
noncomputable def EO:List Ev->Mo Ev:=λes Z G=>match es with
 | [a]=>if dZ a then match sq Z G a with
  | some xs=>match gx xs with
   | some ns=>some (.v (.im (.int ns.sum)),Z,G)
   | none=>none
  | none=>none
  else none
 | _=>none
noncomputable def o9:List I->Option (List Bool)
 | []=>some []
 | .bl i::r=>(o9 r).map (i::·)
 | _=>none
theorem y87:∀ns:List Bool,o9 (ns.map I.bl)=some ns
 | []=>rfl
 | n::ns=>by rw [z1a,o9,y87 ns];rfl
theorem y88:∀{xs:List I} {vs:List V} {ns:List Bool},y4d K ι H vs xs->o9 xs=some ns->vs=ns.map V.bl
 | [],_,_,r,h=>by cases r;cases h;rfl
 | x::xs,_,_,r,h=>by
  cases r with
  | cons r1 r2 =>
   cases r1 with
   | bl i =>
    rw [o9] at h
    cases e:o9 xs with
    | none=>rw [e] at h;cases h
    | some ms=>rw [e] at h;cases h;rw [z1a,<- y88 r2 e]
   | _=>cases h
noncomputable def jU:List Ev->Mo Ev:=λes Z G=>match es with
 | [a]=>match pk Z G a with
  | some (.lst xs)=>match o9 xs with
   | some bs=>some (.v (.im (.bl (bs.all id))),Z,G)
   | none=>none
  | _=>none
 | _=>none
theorem Cn:ay K κ (λxs H Q=>∃(p:Addr) (bs:List Bool),xs=[.ref p]/\aZ K H p (bs.map V.bl)/\Q (.bl (bs.all id)) H) jU:=by
 intro ι H σ Z G es vs e Z' G' Q a h k
 unfold jU at h
 split at h
 ·rename_i x
  split at h
  ·rename_i xs hx
   split at h
   ·rename_i ns hn
    obtain⟨v,rfl⟩:=bI a.len
    obtain⟨p,e1,ys,h1,r⟩:=a.pk (j:=0) rfl rfl hx
    subst e1
    exact⟨p,ns,rfl,by rw [<- y88 r hn];exact aZ.of h1,k _ _ _ (bF h (a8 a (.bl _)))⟩
   ·cases h
  ·cases h
 ·cases h
end
section
variable {X:Cx}{κ:Str->Addr}{a b e o:Expr}{es:List Expr}{fa fb:Mo Ev}{fs:Mo (List Ev)}{p pos apos ybe:Pos}{k:Nat}
theorem Co(hr:y4b k X.A)(hm:X.mg "all" = none)(ha:LA X κ (e::es) fs)(hg:Gl X "all":=by rfl)(hc:X.calm=true:=by rfl)(he:je X e es:=by rfl)(hpl:ip X pos es:=by rfl):LE X κ (.Call (.Name "all" p) (e::es) [] pos) (bd fs jU):=.mk (aK (iB (y93 hc) hg hm PyProof.Rows.boot_all ha.pe (by decide) (by decide) he hpl) λ_ _ _ q=>eC Cn q)
end
end
section
theorem rm (r:y4b k A)(h:j≤k:=by first|decide|lia):y4b j A:=r.mono h
end
set_option maxHeartbeats 4000000
set_option maxHeartbeats 400000
section
theorem b5 (h1:sc.kind=.function:=by rfl)(h2:sc.isCoroutine=false:=by rfl)(h3:sc.isGenerator=false:=by rfl)(h4:N.Nodup:=by decide +kernel)(h5:N.take P.length=P:=by rfl)(h6:∀x∈P,sc.names.lookup x=some .local∨sc.names.lookup x=some .cell:=by decide +kernel)(h7:∀y∈sc.names,y.2≠.free:=by decide +kernel):y3c N P sc:=⟨h1,h2,h3,h4,h5,h6,h7⟩
end
end B
set_option maxHeartbeats 4000000
namespace PySem
open PySem.Spec PyProof.Rows
section
variable {prog:Program}{w:World}{K:Type}[DecidableEq K]{knd:HeapKind prog w K}{A:Around}{E:Value->Shared->Prop}{s:Shared}
theorem Cp  (hu:knd.room A)(y18f:knd.is s.heap k a)(hm:s.heap.DictOfH knd d xs)
  (h1:∀p,atKey xs k=some p->Q p.2 { s with toks:=s.toks+knd.draws k })
  (h2:atKey xs k=none->∀h',h'.DictOfH knd d (storedH xs k a v)->Heap.SameBut d s.heap h'->Q v { s with heap:=h',toks:=s.toks+knd.draws k }) (hsz:xs.length≤sizeLine) :
  wpAny (model prog w) A (dictSetDefault d (.ref a) v) Q E s:=by
 obtain⟨o,es,ep,ho,hc,hd,he,his,hn⟩:=hm
 unfold dictSetDefault
 try with_reducible refine wpAny_holding ?_
 refine zc (knd.pyHash hu y18f ?_)
 refine zc (wpAny_dictFind_heap hu y18f ho hd he his hn ?_ ?_)
 ·intro hno
  have hnot:k∉xs.map (·.1):=not_mem_keys_of_get hno
  have hnk:=atKey_none_of_get hno
  refine zc (wpAny_rule (zc (wpAny_updateDictKeys (hz:=by have e:=size_of_entries he;lia) ho hd (z15 (h2 hnk _ ⟨_,_,ep+1,Heap.get?_update_self _ ho (Obj.isFreed_of_dict (Obj.data_mapDictKeys hd _)),
   hc.mapDictKeys _,Obj.data_mapDictKeys hd _,?_,?_,?_⟩ (Heap.SameBut.update ..))))))
  ·rw [storedH_new hnk]
   simp [he,entryOfKey]
  ·rw [storedH_new hnk]
   intro x hx
   rcases z1d.mp hx with hx|hx
   ·exact knd.keeps (his x hx) ho hd (Heap.SameBut.update ..)
   ·simp only [z20] at hx
    subst hx
    exact knd.keeps y18f ho hd (Heap.SameBut.update ..)
  ·rw [storedH_new hnk,z23,List.nodup_append]
   refine⟨hn,by simp,?_⟩
   intro x hx y hy
   simp only [z1a,List.map_nil,z20] at hy
   subst hy
   exact λe=>hnot (e ▸ hx)
 ·intro j p hj
  refine zc (wpAny_dictEntries ho hd ?_)
  rw [entry_at he j,hj]
  exact zc (wpAny_rule (z15 (h1 p (atKey_of_get hn hj))))
theorem Cq(knd:HeapKind prog w K)(d a:Addr)(hd:(d == sysModules)=false)(dflt:Value) :
  MeetsIn prog w (Builtin.«dict.setdefault» ⟨[.ref d,.ref a,dflt],[]⟩) (λA R s=>knd.room A.in1/\∃k xs,knd.is s.heap k a/\s.heap.DictOfH knd d xs/\xs.length≤sizeLine /\
   (∀p,atKey xs k=some p->R (.ok (.ret p.2)) { s with toks:=s.toks+knd.draws k }) /\
   (atKey xs k=none->∀h',h'.DictOfH knd d (storedH xs k a dflt)->Heap.SameBut d s.heap h'->R (.ok (.ret dflt)) { s with heap:=h',toks:=s.toks+knd.draws k })) :=
 .of_wp λA R s zz=>by
  obtain⟨hu,k,xs,y18f,hm,hz,h1,h2⟩:=zz
  unfold Builtin.«dict.setdefault»
  refine zc ?_
  unfold Builtin.Dict.keyAndDefault
  refine zc (wpAny_notOrdered_dict hm.typeIs ?_)
  show wpAny _ _ (pure (d,Value.ref a,some dflt)) _ _ s
  refine z15 ?_
  show wpAny _ _ (if (d == sysModules)=true then _ else (dictSetDefault d (.ref a) dflt >>= _)) _ _ s
  rw [if_neg (by rw [hd];exact z16)]
  exact zc (Cp hu y18f hm (λp hp=>z15 ⟨p.2,rfl,h1 p hp⟩) (λhn h' hm' hs'=>z15 ⟨dflt,rfl,h2 hn h' hm' hs'⟩) hz)
end
end PySem
set_option maxHeartbeats 400000
namespace L2
open PySem PySem.Spec PyProof.Rows
section
section
noncomputable def rSd:V->List V->Hp->VK->Prop:=λx vs H Q=>∃(a b:Addr) (kvs:List (List aB×V)) (k:List aB) (y:V),x=.ref a/\vs=[.ref b,y]/\H a=some (.dT kvs)/\H b=some (.tup (k.map kV))/\kvs.length<sizeLine /\
 (∀v,b9 kvs k=some v->Q v H)/\(b9 kvs k=none->Q y (aD H a (.dT (bM kvs k y))))
theorem Cr(hu:X.A.units+50<cLine):wD X "dict.setdefault" rSd:=by
 intro pins s σ H x vs v us Q I rx rv h
 obtain⟨a,b,kvs,k,y,rfl,rfl,hH,hb,hl,q1,q2⟩:=h
 cases rx
 cases rv with
 | cons rb rv=>cases rv with
  | cons ry rv =>
   cases rv
   rename_i ub uy
   cases (show ub=Value.ref b from rb)
   obtain⟨z,hd,xs,rel,dd⟩:=yf5 I.hok hH
   have hz:xs.length≤sizeLine:=by rw [<- Paired.length rel];exact z
   refine call_meetsIn PySem.F.slot_dict_setdefault dd.typeIs PySem.F.entry_dict_setdefault (PySem.F.args_dict_setdefault_3 _ _ _) (Cq (tupleKind (bZ X.prog X.w)) a b hd uy) ⟨show X.A.units+1<cLine by lia,k,xs,gK I.hok hb,dd,hz,λp hp=>?_,λhn h' dd' hs=>?_⟩
   ·have rv:=rel.val k
    rw [hp] at rv
    cases e:b9 kvs k with
    | none=>rw [e] at rv;exact rv.elim
    | some w=>rw [e] at rv;exact⟨w,H,I.tok _,rv,q1 w e⟩
   ·have rv:=rel.val k
    rw [hn] at rv
    have e:b9 kvs k=none:=by
     cases e:b9 kvs k with
     | none=>rfl
     | some w=>rw [e] at rv;exact rv.elim
    obtain⟨q,es,ep,hq,h2,h3,h4,_,h5⟩:=dd'
    have hl':(bM kvs k y).length≤sizeLine:=by have:=kK kvs k y;lia
    refine⟨y,_,wC I (by rw [hH];exact True.intro) hs ⟨q,hq⟩ (ob:=.dT (bM kvs k y)) ⟨hl',hd,_,(rel.put k hb ry).keeps λc ys ec=>?_,q,es,ep,hq,h2,h3,h4,h5⟩,ry,q2 e⟩
    rw [aI (kx ec hH (λz=>nomatch z))]
    exact ec
noncomputable def Cs(kvs more:List (List aB×V)):List (List aB×V):=more.foldl (λacc kv=>bM acc kv.1 kv.2) kvs
noncomputable def Ct(w:World)(k:List aB):Int:=reduceHash (Builtin.Tuple.tupleHashOf (k.map (p8 w)))
noncomputable def ER(w:World):V->List V->Hp->VK->Prop:=λx vs H Q=>∃(a b:Addr) (kvs more:List (List aB×V)),x=.ref a/\vs=[.ref b]/\a≠b/\H a=some (.dT kvs)/\H b=some (.dT more)/\(kvs=[]->(more.map λp=>Ct w p.1).Nodup)/\kvs.length+more.length≤1000000/\Q .non (aD H a (.dT (Cs kvs more)))
end
end
end L2
namespace B
open PySem PySem.Spec PyProof.Rows L2
section
variable {X:Cx}{K:W.Frag}{κ:Str->Addr}{ι:List Addr}{H H':Hp}{σ:L2.St}{Z:De}{G:List M}
structure Kw(H H':Hp):Prop where
 tup:∀a xs,H a=some (.tup xs)->H' a=some (.tup xs)
 frz:∀a o u,(∀ws,u≠HO.dK ws)->H a=some (.frz o u)->H' a=some (.frz o u)
end
end B
namespace L2
open PySem PySem.Spec PyProof.Rows
section
section
noncomputable def iY(ns:List Int):List Int:=firstMet (λi=>ns.getD i 0) ns.length
theorem u2:∀{ns:List Int} {us:List Value},ao (ns.map V.int) us->IntsAre us ns
 | [],_,.nil=>.nil
 | n::ns,_,.cons r rs=>by
  obtain⟨t,rfl⟩:=r
  exact .cons _ _ (u2 rs)
noncomputable def l7(K:W.Frag):List V->Hp->VK->Prop:=λxs H Q=>∃(p:Addr) (ns:List Int),xs=[.ref p]/\aZ K H p (ns.map V.int)/\ns.length≤4000/\∀l,H l=none->Q (.ref l) (aD H l (.set (λk'=>(iY ns).any (· == k')) (iY ns).length))
theorem y9e(hc:X.calm=true):ya X (.type "set") (l7 X.K):=by
 intro pins s σ H xs us Q I r h
 obtain⟨p,ns,rfl,hp,hl,q⟩:=h
 obtain⟨u,rfl,ru⟩:=cV r
 cases (show _=Value.ref p from ru)
 obtain⟨its,rv,pl,hz⟩:=I.list hp
 have e1:its.length=ns.length:=by have:=rv.length;simpa using this.symm
 refine call_set_list (I.ok.hd hc) pl.isList (by simpa using u2 rv) (by rw [ze,e1];unfold scanBound;lia) λh' tk hS hk=>?_
 have e2:its.toArray.size=ns.length:=by rw [ze,e1]
 rw [e2] at hS
 have hk':∀b o,s.heap.get? b=some o->h'.get? b=some o:=λb o e=>hk b o (z17 e) e
 exact⟨.ref s.heap.objs.size,_,I.laid (o:=.set (λk'=>(iY ns).any (· == k')) (iY ns).length) hk' (z12 _) hS,rfl,q _ (I.hok.fresh (z12 _))⟩
noncomputable def l8:List V->Hp->VK->Prop:=λxs H Q=>∃(a:Addr) (S:Int->Bool) (n:Nat),xs=[.ref a]/\H a=some (.set S n)/\n≤4000/\Q (.int n) H
theorem y97:ya X (.builtin "len") l8:=by
 intro pins s σ H xs us Q I r h
 obtain⟨a,S,n,rfl,ha,hn,q⟩:=h
 obtain⟨u,rfl,ru⟩:=cV r
 cases (show _=Value.ref a from ru)
 have hS:s.heap.SetOf (intKind X.prog X.w) a S n:=I.hok a _ ha
 obtain⟨o,ho,hso⟩:=hS.objOf
 obtain⟨hex,es,ep,t,hd,_,_,hn',hf⟩:=hso
 subst hn'
 exact call_len_set ho hex hd hf (by lia) ⟨.int es.size,H,I.tok _,⟨_,rfl⟩,q⟩
theorem Cu (hc:X.calm=true)(gl:Gl X "len")(ml:X.mg "len" = none)(gs:Gl X "set")(ms:X.mg "set" = none)(he:PE X e te)
  (hs1:starEach [e] X.env=[(false,eval e X.env)]:=by rfl)
  (hs2:starEach [.Call (.Name "set" p2) [e] [] q2] X.env=[(false,eval (.Call (.Name "set" p2) [e] [] q2) X.env)]:=by rfl) :
  PE X (.Call (.Name "len" p1) [.Call (.Name "set" p2) [e] [] q2] [] q1) (λσ H Q=>te σ H λx H1=>l7 X.K [x] H1 λy H2=>l8 [y] H2 Q) :=
 iB y97 gl ml PySem.boot_len (nJ (nL (y9e hc) gs ms PyProof.Rows.boot_set (nJ he nI hs1) (by decide) (by decide) hs1) nI hs2) (by decide) (by decide) hs2
theorem u3:∀{xs:List V} {us:List Value},xs.length=us.length->(∀(i:Nat) x u,xs[i]?=some x->us[i]?=some u->av x u)->ao xs us
 | [],[],_,_=>.nil
 | x::xs,u::us,l,h=>.cons (h 0 x u rfl rfl) (u3 (by simpa using l) λi x u a b=>h (i+1) x u (by simpa using a) (by simpa using b))
theorem Cv (hc:X.calm=true)(gl:Gl X "list")(ml:X.mg "list" = none)(gr:Gl X "range")(mr:X.mg "range" = none)(he:PE X e te)
  (hs1:starEach [e] X.env=[(false,eval e X.env)]:=by rfl)
  (hs2:starEach [.Call (.Name "range" p2) [e] [] q2] X.env=[(false,eval (.Call (.Name "range" p2) [e] [] q2) X.env)]:=by rfl) :
  PE X (.Call (.Name "list" p1) [.Call (.Name "range" p2) [e] [] q2] [] q1) (λσ H Q=>te σ H λx H1=>∃n:Nat,x=.int n/\n≤100000/\∀p,H1 p=none->Q (.ref p) (aD H1 p (.lst ((List.range n).map λi=>V.int (i:Nat))))):=by
 intro pins s σ H Q I h
 refine Call_ (eN I gl ml PyProof.Rows.boot_list (PyProof.Rows.callWith_type1 ?_ (by rw [hs2];rfl) rfl))
 rw [hs2]
 show wpAny _ _ (spliced ((false,eval (.Call (.Name "range" p2) [e] [] q2) X.env)::backTo q1 [])) _ _ s
 refine Calls.spliced_cons ?_
 refine Call_ (eN I gr mr boot_range (PyProof.Rows.callWith_type1 ?_ (by rw [hs1];rfl) rfl))
 rw [hs1]
 show wpAny _ _ (spliced ((false,eval e X.env)::backTo q2 [])) _ _ s
 refine Calls.spliced_cons (aG (he pins s σ H _ I h) λu s1 ⟨x,H1,I1,r1,q1⟩=>Calls.spliced_nil ?_)
 obtain⟨n,e1,hn,q⟩:=q1
 subst e1
 obtain⟨t,rfl⟩:=r1
 refine call_range_1 (Calls.spliced_nil ?_)
 have hsm:Builtin.Range.small 0 (n:Int) 1=true:=small_one (by lia) (by lia) (by lia) (by lia)
 refine call_list_range (n:=n) (I1.ok.hd hc) (IsRange.new ..) hsm (by rw [rangeSize_one];split<;>lia) (by lia) λh' tk acc c hk hD y17e=>?_
 have hk':∀b o,s1.heap.get? b=some o->h'.get? b=some o:=λb o e=>hk b o (z13 _ e)
 have hsz:s1.heap.objs.size≤(s1.heap.push { cls:=.type "range",data:=.fields #[.int 0 s1.toks,.int n t,.int 1 (s1.toks+1)] }).objs.size:=by rw [Heap.size_push];exact Nat.le_succ _
 refine⟨.ref _,_,I1.laid hk' hsz ?_,rfl,q _ (I1.hok.fresh hsz)⟩
 refine⟨by rw [z19,List.length_range];exact z25 hn (by decide),acc.toList,c,?_,by rw [Array.toArray_toList];exact hD⟩
 refine u3 (by rw [z19,List.length_range,Array.length_toList,y17e.1]) λi x u hx hu=>?_
 obtain⟨t',rfl⟩:=y17e.2 i u (by rw [<- hu,Array.getElem?_toList])
 rw [List.getElem?_map] at hx
 cases hr:(List.range n)[i]? with
 | none=>rw [hr] at hx;cases hx
 | some j =>
  rw [hr] at hx
  cases hx
  have:j=i:=by
   obtain⟨h1,h2⟩:=zd.mp hr
   simpa using h2.symm
  subst this
  exact⟨t',by simp⟩
end
end
end L2
namespace B
open PySem PySem.Spec PyProof.Rows L2
section
section
variable {X:Cx}{K:W.Frag}{κ:Str->Addr}{ι:List Addr}{H:Hp}{σ:L2.St}
noncomputable def iZ(Z:De)(G:List M)(e:Ev):Bool:=match pk Z G e with
 | some (.dic _)=>true
 | some (.dit _)=>true
 | _=>false
noncomputable def l9(p:List Ev->Mo Ev)(fo:Mo Ev)(fa:Mo (List Ev)):Mo Ev:=bd fo λe=>λZ G=>if iZ Z G e then bd fa (λes=>p (e::es)) Z G else none
theorem ye4{Z:De}{G:List M}{e:Ev}{v:V}{fp:List Addr}{H0:Hp}{ι0:List Addr}(a:After K κ σ ι0 fp H0 [e] Z G [v] ι H)(h:iZ Z G e=true):r8 K "dict" v H:=by
 unfold iZ at h
 split at h
 ·rename_i xs hp
  obtain⟨b,e1,ys,h1,r⟩:=a.ar.pk (j:=0) rfl rfl hp
  subst e1
  exact .inr (.inr (.inl ⟨rfl,.inl ⟨_,h1⟩⟩))
 ·rename_i xs hp
  obtain⟨b,e1,ys,h1,r⟩:=a.ar.pk (j:=0) rfl rfl hp
  subst e1
  exact .inr (.inr (.inl ⟨rfl,.inr ⟨_,h1⟩⟩))
 ·cases h
theorem u4{p:List Ev->Mo Ev}{fo:Mo Ev}{fa:Mo (List Ev)}{r:V->List V->Hp->VK->Prop}{Q:VK}(hp:ay K κ (rM r) p)(h:aT K κ (l9 p fo fa) σ H Q):zJ K "dict" r (aT K κ fo) (ir K κ fa) σ H Q:=by
 obtain⟨ι,Z,G,e,Z',G',s,eq,k⟩:=h
 obtain⟨x,Z1,G1,e1,eq1⟩:=bW eq
 split at eq1
 ·rename_i hl
  obtain⟨es,Z2,G2,e2,eq2⟩:=bW eq1
  refine⟨ι,Z,G,x,Z1,G1,s,e1,λv ι1 H1 a1=>⟨ye4 a1 hl,?_⟩⟩
  refine⟨ι1,Z1,G1,es,Z2,G2,a1.ar.base,e2,λvs ι2 H2 a2=>?_⟩
  have a:=a1.app a2
  obtain⟨y,ys,ey,q⟩:=hp _ _ _ _ _ _ _ _ _ _ Q a.ar eq2 λv ι3 H3 d=>k _ _ _ (a.then d)
  cases ey
  exact q
 ·cases eq1
noncomputable def gy:List Ev->Mo Ev:=λes Z G=>match es with
 | [a,.v (.im x),.v (.im d)]=>match pk Z G a,eE x with
  | some (.dit kvs),some k=>if kvs.length<1000000 then match ax kvs k with
    | some y=>some (.v (.im y),Z,G)
    | none=>some (.v (.im d),(fz Z G (.dit (bq kvs k d)) a).1,(fz Z G (.dit (bq kvs k d)) a).2)
   else none
  | _,_=>none
 | _=>none
theorem Cw:ay K κ (rM rSd) gy:=by
 intro ι H σ Z G es vs e Z' G' Q a h k
 unfold gy at h
 split at h
 ·rename_i x0 x d
  split at h
  ·rename_i kvs ky hx hk
   split at h
   ·rename_i hl
    obtain⟨v,u,y,rfl⟩:=og a.len
    obtain⟨b,e1,ws,h1,h2,h3⟩:=a.pk (j:=0) rfl rfl hx
    subst e1
    obtain⟨c,eu,hc⟩:=oU (a.im (j:=1) rfl rfl) hk
    subst eu
    have ry:=a.im (j:=2) rfl rfl
    have lw:ws.length=kvs.length:=by have:=congrArg List.length h2;simpa using this
    obtain⟨p,q⟩:=lS h2 h3
    refine⟨_,_,rfl,b,c,ws,ky,y,rfl,rfl,h1,hc,z1b (by lia) (show 1000000≤sizeLine by decide),λz hz=>?_,λhz=>?_⟩
    ·cases hv:ax kvs ky with
     | none=>rw [q hv] at hz;cases hz
     | some w =>
      rw [hv] at h
      obtain⟨z',e2,rz⟩:=p w hv
      rw [hz] at e2
      cases e2
      exact k _ _ _ (bF h (a8 a rz))
    ·cases hv:ax kvs ky with
     | some w=>obtain⟨z',e2,rz⟩:=p w hv;rw [hz] at e2;cases e2
     | none =>
      rw [hv] at h
      obtain⟨y1,y2⟩:=lU ry h2 h3
      exact k _ _ _ (bF h (jA a (j:=0) rfl rfl hx (λ_ kp=>⟨_,bh,y1,y2.mono (bQ.refl _) kp⟩) ry))
   ·cases h
  ·cases h
 ·cases h
noncomputable def u5:List I->Option (List (List aB×I))
 | []=>some []
 | .tup [k,x]::r=>match eE k,u5 r with
  | some k',some ps=>some ((k',x)::ps)
  | _,_=>none
 | _=>none
noncomputable def wN:List Ev->Mo Ev:=λes Z G=>match es with
 | [a]=>match pk Z G a with
  | some (.lst xs)=>match u5 xs with
   | some ps=>if ps.length≤1000000 then some (.v (.ow (.dit (ps.foldl (λacc kv=>bq acc kv.1 kv.2) []))),Z,G) else none
   | none=>none
  | _=>none
 | _=>none
noncomputable def jV:List Ev->Mo Ev:=λes Z G=>match es with
 | [a,.v (.im (.int i))]=>match pk Z G a with
  | some (.lst xs)=>if 0≤i/\i<1000000 then match xs[i.toNat]? with
    | some y=>some (.v (.im y),(fz Z G (.lst (xs.eraseIdx i.toNat)) a).1,(fz Z G (.lst (xs.eraseIdx i.toNat)) a).2)
    | none=>none
   else none
  | _=>none
 | _=>none
theorem y4d.erase:∀{vs:List V} {xs:List I} (k:Nat),y4d K ι H vs xs->y4d K ι H (vs.eraseIdx k) (xs.eraseIdx k)
 | _,_,_,.nil=>.nil
 | _,_,0,.cons _ r=>r
 | _,_,k+1,.cons h r=>.cons h (y4d.erase k r)
theorem Cy:ay K κ (rM sy) jV:=by
 intro ι H σ Z G es vs e Z' G' Q a h k
 unfold jV at h
 split at h
 ·rename_i x i
  split at h
  ·rename_i xs hx
   split at h
   ·rename_i hi
    split at h
    ·rename_i y hy
     obtain⟨v,u,rfl⟩:=cg a.len
     obtain⟨b,e1,ys,h1,r⟩:=a.pk (j:=0) rfl rfl hx
     subst e1
     cases cC (a.im (j:=1) rfl rfl)
     obtain⟨z,hz,rz⟩:=r.get hy
     have hlt:i.toNat<ys.length:=(zd.mp hz).1
     refine⟨_,_,rfl,b,ys,i,i.toNat,z,rfl,rfl,h1,by lia,by lia,PySem.StrLaws.seqIndex_nonneg hi.1 (by lia),hz,k _ _ _ (bF h (jA a (j:=0) rfl rfl hx (λ_ kp=>⟨_,bh,(r.erase _).mono (bQ.refl _) kp⟩) rz))⟩
    ·cases h
   ·cases h
  ·cases h
 ·cases h
noncomputable def ia:List Ev->Mo Ev:=λes Z G=>match es with
 | [a]=>match pk Z G a with
  | some (.lst xs)=>match gx xs with
   | some ns=>if ns.length≤4000 then some (.v (.im (.int (iY ns).length)),Z,G) else none
   | none=>none
  | _=>none
 | _=>none
theorem Cz:ay K κ (r1 λx H1 Q=>l7 K [x] H1 λy H2=>l8 [y] H2 Q) ia:=by
 intro ι H σ Z G es vs e Z' G' Q a h k
 unfold ia at h
 split at h
 ·rename_i x
  split at h
  ·rename_i xs hx
   split at h
   ·rename_i ns hn
    split at h
    ·rename_i hl
     obtain⟨v,rfl⟩:=bI a.len
     obtain⟨p,e1,ys,h1,r⟩:=a.pk (j:=0) rfl rfl hx
     subst e1
     have e2:=u1 r hn
     subst e2
     refine⟨_,rfl,p,ns,rfl,aZ.of h1,hl,λl hl'=>⟨l,_,_,rfl,bh,?_,k _ _ _ (bF h (oi a (eB.lay hl') (.int _)))⟩⟩
     have:=firstMet_length_le (λi=>ns.getD i 0) ns.length
     unfold iY
     lia
    ·cases h
   ·cases h
  ·cases h
 ·cases h
noncomputable def jW:List Ev->Mo Ev:=λes Z G=>match es with
 | [.v (.im (.int j))]=>if 0≤j/\j≤100000 then some (.v (.ow (.lst ((List.range j.toNat).map λi=>I.int (i:Nat)))),Z,G) else none
 | _=>none
theorem u6:∀(l:List Nat),y4d K ι H (l.map λi=>V.int (i:Nat)) (l.map λi=>I.int (i:Nat))
 | []=>.nil
 | _::l=>.cons (.int _) (u6 l)
theorem CA:ay K κ (r1 λx H1 Q=>∃n:Nat,x=.int n/\n≤100000/\∀p,H1 p=none->Q (.ref p) (aD H1 p (.lst ((List.range n).map λi=>V.int (i:Nat))))) jW:=by
 intro ι H σ Z G es vs e Z' G' Q a h k
 unfold jW at h
 split at h
 ·rename_i j
  split at h
  ·rename_i hj
   obtain⟨v,rfl⟩:=bI a.len
   cases cC (a.im (j:=0) rfl rfl)
   exact⟨_,rfl,j.toNat,by rw [Int.toNat_of_nonneg hj.1],by lia,λp hp=>k _ _ _ (bF h (eR a hp (u6 _)))⟩
  ·cases h
 ·cases h
end
section
variable {X:Cx}{κ:Str->Addr}{a b e o:Expr}{es:List Expr}{ss:List Stmt}{fa fb fv:Mo Ev}{f:SF}{gf:GF}{fs:Mo (List Ev)}{p pos pos' apos ybe:Pos}{k:Nat}
theorem CB (hg:Gl X x)(hm:∃t,X.mg x=some (.int i t))(hd:(x == ("__debug__" : Str))=false:=by decide):LE X κ (.Name x pos) (ah (.int i)):=by
 obtain⟨t,hm⟩:=hm
 exact Bi (v:=.int i) hg hm ⟨t,rfl⟩ (λ_ _=>.int _) hd
theorem CC(hr:y4b k X.A)(ho:LE X κ o fa)(ha:LA X κ (e::es) fs)(y186:attributeBase o "setdefault" X.env (eval o X.env)=eval o X.env:=by rfl)
  (y18a:((backTo ybe (starEach (e::es) X.env)).all (λx=>!x.1)&&(backToKw ybe (keywordEach [] X.env)).all (λx=>x.1.isSome)&&decide ((e::es).length+([]:List Keyword).length+(if ([]:List Keyword).isEmpty then 0 else 1)<30))=true:=by rfl)
  (y190:(apos.endLine == ybe.line)=true:=by rfl) (hs:starEach (e::es) X.env=(false,eval e X.env)::starEach es X.env:=by rfl) (y193:(backTo ybe (starEach es X.env)).any (·.1)=false:=by rfl):LE X κ (.Call (.Attribute o "setdefault" apos) (e::es) [] ybe) (l9 gy fa fs):=.mk (aK (kQ PySem.F.plainAttrs_dict PySem.F.slot_dict_setdefault PySem.F.type_dict_setdefault (Cr (jM hr)) ho.pe ha.pe y186 y18a y190 hs y193) λ_ _ _=>u4 Cw)
theorem CD(hr:y4b k X.A)(ho:LE X κ o fa)(ha:LA X κ (e::es) fs)(y186:attributeBase o "pop" X.env (eval o X.env)=eval o X.env:=by rfl)
  (y18a:((backTo ybe (starEach (e::es) X.env)).all (λx=>!x.1)&&(backToKw ybe (keywordEach [] X.env)).all (λx=>x.1.isSome)&&decide ((e::es).length+([]:List Keyword).length+(if ([]:List Keyword).isEmpty then 0 else 1)<30))=true:=by rfl)
  (y190:(apos.endLine == ybe.line)=true:=by rfl) (hs:starEach (e::es) X.env=(false,eval e X.env)::starEach es X.env:=by rfl) (y193:(backTo ybe (starEach es X.env)).any (·.1)=false:=by rfl):LE X κ (.Call (.Attribute o "pop" apos) (e::es) [] ybe) (hV jV fa fs):=.mk (aK (kQ PySem.F.plainAttrs_list PySem.F.slot_list_pop PySem.F.type_list_pop zO ho.pe ha.pe y186 y18a y190 hs y193) λ_ _ _=>uO Cy)
theorem CF(hl:X.mg "len" = none)(hv:X.mg "set" = none)(h:LE X κ e fa)(hc:X.calm=true:=by rfl)(gl:Gl X "len":=by rfl)(gr:Gl X "set":=by rfl)(hs1:starEach [e] X.env=[(false,eval e X.env)]:=by rfl)
  (hs2:starEach [.Call (.Name "set" p2) [e] [] q2] X.env=[(false,eval (.Call (.Name "set" p2) [e] [] q2) X.env)]:=by rfl):LE X κ (.Call (.Name "len" p1) [.Call (.Name "set" p2) [e] [] q2] [] q1) (bC ia fa):=.mk (aK (Cu hc gl hl gr hv h.pe hs1 hs2) λ_ _ _ q=>gU (r:=λx H1 Q=>l7 X.K [x] H1 λy H2=>l8 [y] H2 Q) Cz q)
theorem CG(hl:X.mg "list" = none)(hv:X.mg "range" = none)(h:LE X κ e fa)(hc:X.calm=true:=by rfl)(gl:Gl X "list":=by rfl)(gr:Gl X "range":=by rfl)(hs1:starEach [e] X.env=[(false,eval e X.env)]:=by rfl)
  (hs2:starEach [.Call (.Name "range" p2) [e] [] q2] X.env=[(false,eval (.Call (.Name "range" p2) [e] [] q2) X.env)]:=by rfl):LE X κ (.Call (.Name "list" p1) [.Call (.Name "range" p2) [e] [] q2] [] q1) (bC jW fa):=.mk (aK (Cv hc gl hl gr hv h.pe hs1 hs2) λ_ _ _ q=>gU CA q)
end
end
end B
namespace PySem.W
open PySem PySem.Calls PyProof.Rows PySem.Spec
noncomputable def va(v:Value):Sem (List Value):=match v with
 | .ref a=>do match (<- load a).data with
  | .seq xs _=>pure xs.toList
  | _=>unsupported "internal:collect"
 | _=>unsupported "internal:collect"
theorem y15c(K:KdlSrc prog w T r d n P OK)(hh:A.handled=none)(hok:OK s.heap)(hn:n≤sizeLine)
  (h:∀(h':Heap) (tk:Nat) (acc:Array Value),(∀b o,s.heap.get? b=some o->h'.get? b=some o)->s.heap.objs.size≤h'.objs.size->ItemsOf P acc n->R acc.toList { s with heap:=h',toks:=tk }) :
  wpAny (model prog w) A (collect (.ref r)) R E s:=by
 have far:=K.there _ hok
 have old:∀{b o},s.heap.get? b=some o->(s.heap.push { cls:=.type "list",data:=.seq ([]:List Value).toArray }).get? b=some o:=λq=>z13 _ q
 unfold collect
 refine zc (wpAny_runValue (codeAny_builtin entry_proto_collect' ?_))
 rw [Around.under_plainId PySem.F.plain_proto_collect _]
 refine zc (m:=newList []) (z2f (z15 ⟨plainId_quiet PySem.F.plain_list_iadd _,codeAny_builtin entry_list_iadd' ?_⟩))
 rw [Around.under_plainId PySem.F.plain_list_iadd _]
 refine kdl_extend (R:=wants (λv=>wpAny (model prog w) A (va v) R E) E) K hh (K.keep _ _ hok λ_ _ _ q=>old q) s.heap.objs.size (Nat.ne_of_gt far.1) (Nat.ne_of_gt far.2) (.ref s.heap.objs.size) 0 (z21 _ rfl) (λg tk acc c kept q its=>?_) hn
 exact zc (wpAny_load q (z15 (h g tk acc (λb o e=>kept b o (z26 (z17 e)) (old e)) (z37 (z17 q)) its)))
end PySem.W
namespace L2
open PySem PySem.Spec PyProof.Rows
section
section
variable {X:Cx}{pins:List (Addr×Obj)}{σ:L2.St}{H:Hp}{s:Shared}
noncomputable def vb:V->List V->Hp->VK->Prop:=λx vs H Q=>∃a y z o,x=.ref a/\vs=[y,z]/\fm H a y o/\Q (o.getD z) H
theorem CH(hu:X.A.units+50<cLine):wD X "dict.get" vb:=by
 intro pins s σ H x vs v us Q I rx rv h
 obtain⟨a,y,z,o,rfl,rfl,g,q⟩:=h
 cases rx
 obtain⟨u,r,rfl,ru,rr⟩:=rv.two
 exact ycb (by lia) I g ru rr λw' s' I' rw'=>⟨_,H,I',rw',q⟩
theorem vc:∀{kvs:List (aB×V)} {vs:List (aB×Value)} {ns:List Int} {us:List Value},KV kvs vs->kvs.map (·.1)=ns.map Sum.inl->us.length=vs.length->(∀(i:Nat) (v:Value),us[i]?=some v->∃k x,vs[i]?=some (k,x)/\gF k v=true)->IntsAre us ns
 | [],[],[],[],_,_,_,_=>.nil
 | (k,x)::kvs,(k',x')::vs,n::ns,u::us,.cons r rs,e,l,h=>by
  rw [z1a,z1a] at e
  obtain⟨e1,e2⟩:=List.cons.inj e
  obtain⟨k2,x2,h1,h2⟩:=h 0 u rfl
  have h1:(k',x')=(k2,x2):=z27 h1
  cases h1
  have r1:k=k':=r.1
  have e1:k=Sum.inl n:=e1
  rw [<- r1,e1] at h2
  rcases eM h2 with⟨i,t,ei,rfl⟩| ⟨_,_,ei,_⟩
  ·cases ei
   exact .cons _ _ (vc rs e2 (by simpa using l) λi v hv=>h (i+1) v hv)
  ·cases ei
 | [],[],_::_,_,_,e,_,_=>by cases e
 | [],[],[],_::_,_,_,l,_=>by cases l
 | _::_,_::_,[],_,_,e,_,_=>by cases e
 | _::_,_::_,_::_,[],_,_,l,_=>by cases l
theorem vd:∀{us:List Value} {ns:List Int},IntsAre us ns->ao (ns.map V.int) us
 | _,_,.nil=>.nil
 | _,_,.cons n t r=>.cons ⟨t,rfl⟩ (vd r)
noncomputable def vf:List V->Hp->VK->Prop:=λxs H Q=>∃(a:Addr) (kvs:List (aB×V)) (ns:List Int),xs=[.ref a]/\H a=some (.dK kvs)/\kvs.map (·.1)=ns.map Sum.inl/\ns.length<64/\∀ns':List Int,ns'.Perm ns->ns'.Pairwise (·≤·)->∀l,H l=none->Q (.ref l) (aD H l (.lst (ns'.map V.int)))
theorem y9f(hc:X.calm=true):ya X (.builtin "sorted") vf:=by
 intro pins s σ H xs us Q I r h
 obtain⟨a,kvs,ns,rfl,ha,hk,hl,q⟩:=h
 obtain⟨u,rfl,ru⟩:=cV r
 cases (show _=Value.ref a from ru)
 obtain⟨z,hd,vs,rel,dd⟩:=yS I.hok ha
 have l1:kvs.length=ns.length:=by have:=congrArg List.length hk;simpa using this
 have l2:=rel.length
 obtain⟨o,es,ep,h1,h2,h3,h4,h5,h6⟩:=dd
 have dA:s.heap.DictAt (bZ X.prog X.w) a vs ep:=⟨o,es,h1,h2,h3,h4,h5,h6⟩
 refine Calls.call_function_entry kind_sorted plain_sorted entry_sorted (args_sorted1 _) ?_
 unfold Builtin.«sorted»
 refine zc (z15 ?_)
 refine zc (W.y15c (W.kdl_dict hd) (I.ok.hd hc) dA (by lia) λh' tk acc hk' lt y17e=>?_)
 have la:acc.toList.length=vs.length:=by rw [Array.length_toList];exact y17e.1
 have hI:IntsAre acc.toList ns:=vc rel hk la λi v hv=>y17e.2 i v (by rw [<- Array.getElem?_toList];exact hv)
 have s64:(64:Nat)≤sizeLine:=by decide
 refine zc (wpAny_newList ?_ (by lia))
 have hoL:(h'.push (seqObj "list" acc.toList.toArray 0)).get? h'.objs.size=some (seqObj "list" acc.toList.toArray 0):=z21 _ rfl
 refine zc (wpAny_holding (wpAny_call_entry slot_list_sort ⟨_,hoL,rfl⟩ entry_list_sort (list_sort_tree hoL hI (by lia) λout ns' a1 a2 a3=>⟨_,rfl,?_⟩) (args_list_sort _)))
 refine z15 ⟨_,rfl,?_⟩
 obtain⟨e,he⟩:=sortedHeap_at hoL
 have ln:ns'.length=ns.length:=a2.length_eq
 refine⟨.ref h'.objs.size,_,I.laid (o:=.lst (ns'.map V.int)) (λb o eb=>?_) lt ⟨by rw [z19];lia,out.toList,e,vd a1,by rw [Array.toArray_toList];exact he⟩,rfl,q ns' a2 a3 _ (I.hok.fresh lt)⟩
 have lb:=z17 eb
 rw [sortedHeap_old (z26 (z1b lb lt)) (by rw [size_push'];exact Nat.lt_succ_of_lt (z1b lb lt))]
 exact z13 _ (hk' b o eb)
end
end
end L2
namespace B
open PySem PySem.Spec PyProof.Rows L2
section
section
variable {X:Cx}{K:W.Frag}{κ:Str->Addr}{ι:List Addr}{H:Hp}{σ:L2.St}
noncomputable def i0:List Ev->Mo Ev:=λes Z G=>match es with
 | [a,.v (.im x),.v (.im d)]=>match fH Z G a x with
  | some o=>some (.v (.im (o.getD d)),Z,G)
  | none=>none
 | _=>none
theorem CI:ay K κ (rM vb) i0:=by
 intro ι H σ Z G es vs e Z' G' Q a h k
 unfold i0 at h
 split at h
 ·rename_i x0 x d
  split at h
  ·rename_i o ho
   obtain⟨v,u,y,rfl⟩:=og a.len
   obtain⟨b,ov,e1,g,p,q⟩:=lV a (j:=0) (j':=1) rfl rfl rfl rfl ho
   subst e1
   have ry:=a.im (j:=2) rfl rfl
   refine⟨_,_,rfl,b,u,y,ov,rfl,rfl,g,?_⟩
   cases o with
   | none=>rw [q rfl];exact k _ _ _ (bF h (a8 a ry))
   | some d' =>
    obtain⟨w,e2,rw'⟩:=p d' rfl
    rw [e2]
    exact k _ _ _ (bF h (a8 a rw'))
  ·cases h
 ·cases h
noncomputable def gz:List aB->Option (List Int)
 | []=>some []
 | .inl i::r=>(gz r).map (i::·)
 | _=>none
theorem vg:∀{ks:List aB} {ns:List Int},gz ks=some ns->ks=ns.map Sum.inl
 | [],_,h=>by cases h;rfl
 | .inl i::r,ns,h=>by
  unfold gz at h
  cases e:gz r with
  | none=>rw [e] at h;cases h
  | some m=>rw [e] at h;cases h;rw [z1a,<- vg e]
 | .inr _::_,_,h=>by cases h
noncomputable def pU(ns:List Int):List Int:=ns.mergeSort (λa b=>decide (a≤b))
theorem vh(ns:List Int):(pU ns).Perm ns:=List.mergeSort_perm _ _
theorem CJ(ns:List Int):(pU ns).Pairwise (·≤·):=by
 have:=List.pairwise_mergeSort (le:=λa b:Int=>decide (a≤b)) (λa b c h1 h2=>by simp at *;lia) (λa b=>by simp;lia) ns
 exact this.imp λh=>by simpa using h
theorem CK(hp:ns'.Perm ns)(hs:ns'.Pairwise (·≤·)):ns'=pU ns:=List.Perm.eq_of_pairwise (λa b _ _ h1 h2=>by lia) hs (CJ ns) (hp.trans (vh ns).symm)
noncomputable def ib:List Ev->Mo Ev:=λes Z G=>match es with
 | [a]=>match pk Z G a with
  | some (.dic kvs)=>match gz (kvs.map (·.1)) with
   | some ns=>if ns.length<64 then some (.v (.ow (.lst ((pU ns).map I.int))),Z,G) else none
   | none=>none
  | _=>none
 | _=>none
theorem vi{K:W.Frag}{ι:List Addr}{H:Hp}:∀ns:List Int,y4d K ι H (ns.map V.int) (ns.map I.int)
 | []=>.nil
 | n::ns=>.cons (.int n) (vi ns)
theorem CL:ay K κ vf ib:=by
 intro ι H σ Z G es vs e Z' G' Q a h k
 unfold ib at h
 split at h
 ·split at h
  ·rename_i kvs hx
   split at h
   ·rename_i ns hn
    split at h
    ·rename_i hl
     obtain⟨v,rfl⟩:=bI a.len
     obtain⟨b,e1,ws,h1,h2,h3⟩:=a.pk (j:=0) rfl rfl hx
     subst e1
     refine⟨b,ws,ns,rfl,h1,by rw [h2];exact vg hn,hl,λns' hp hs l hl=>?_⟩
     rw [CK hp hs]
     exact k _ _ _ (bF h (eR a hl (vi _)))
    ·cases h
   ·cases h
  ·cases h
 ·cases h
end
section
variable {X:Cx}{κ:Str->Addr}{a b e o:Expr}{es:List Expr}{fa fb:Mo Ev}{fs:Mo (List Ev)}{p pos apos ybe:Pos}{k:Nat}
theorem CM(hr:y4b k X.A)(ho:LE X κ o fa)(ha:LA X κ (e::es) fs)(y186:attributeBase o "get" X.env (eval o X.env)=eval o X.env:=by rfl)
  (y18a:((backTo ybe (starEach (e::es) X.env)).all (λx=>!x.1)&&(backToKw ybe (keywordEach [] X.env)).all (λx=>x.1.isSome)&&decide ((e::es).length+([]:List Keyword).length+(if ([]:List Keyword).isEmpty then 0 else 1)<30))=true:=by rfl)
  (y190:(apos.endLine == ybe.line)=true:=by rfl) (hs:starEach (e::es) X.env=(false,eval e X.env)::starEach es X.env:=by rfl) (y193:(backTo ybe (starEach es X.env)).any (·.1)=false:=by rfl):LE X κ (.Call (.Attribute o "get" apos) (e::es) [] ybe) (l9 i0 fa fs):=.mk (aK (kQ PySem.F.plainAttrs_dict PySem.F.slot_dict_get PySem.F.type_dict_get (CH (jM hr)) ho.pe ha.pe y186 y18a y190 hs y193) λ_ _ _=>u4 CI)
theorem CN(hr:y4b k X.A)(hm:X.mg "sorted" = none)(ha:LA X κ (e::es) fs)(hg:Gl X "sorted":=by rfl)(hc:X.calm=true:=by rfl)(he:je X e es:=by rfl)(hpl:ip X pos es:=by rfl):LE X κ (.Call (.Name "sorted" p) (e::es) [] pos) (bd fs ib):=.mk (aK (iB (y9f hc) hg hm PyProof.Rows.boot_sorted ha.pe (by decide) (by decide) he hpl) λ_ _ _ q=>eC CL q)
end
end
end B
namespace Q
open PySem L2 B
noncomputable section
noncomputable def wO:SF :=
 (aN (ag ck (ag bA (ag cM (aa 3) (ah (.int 48271))) (ag ck (aa 4) (ah (.int 2147483629)))) (ah (.int 2147483647))) (aF 3))
noncomputable def vp:FF:=bw 2 3
 (aj (aN (cH (a9 (one (bO (aa 0) (bG (aa 1)) (bG (ah (.int 63))))) aR) [] c1 aU (bd (af (aa 0) (af (ag bY (ah (.int 0)) (aa 0)) ae)) gm)) (aF 2))
 (aj (aN (ag bA (ah (.int 7919)) (aa 1)) (aF 3))
 (aj (bu (a9 (one (bR (aa 2))) aR) (aF 4)
 wO)
 (aE (o6 (jQ (ah (.str "seed")) (aa 3) (jQ (ah (.str "number")) (ah (.int 0)) (jQ (ah (.str "left")) (bR (bC iS (cH (a9 (one (bR (aa 2))) aR) [] c1 (aq (ag g9 (aa 0) (ag eS (ah (.int 10)) (ah (.int 18))))) (aa 0)))) oZ))))))))
noncomputable def pV:FF:=bw 1 0
 (aj (iI "House" "given" (aa 0) (bR (bd ae aX)))
 (iI "House" "seals" (aa 0) (bR hX)))
noncomputable def pd:Mo Bool:=(pO (aq (ag dJ (ag aS (aa 0) (ah (.str "number"))) (ah (.int 0)))) (aq (ag kg (bd (af (ag aS (aa 0) (ah (.str "left"))) ae) br) (ah (.int 0)))))
noncomputable def vq:SF :=
 (cz (aa 0) (ah (.str "number")) (bC hW (ag aS (aa 0) (ah (.str "left")))))
noncomputable def bL:FF:=bw 2 3
 (aj (gE pd
 vq)
 (aj (aN (ag aS (aa 0) (ah (.str "number"))) (aF 2))
 (aj (aJ (aq (ag kg (aa 2) (ah (.int 0))))
 (aj (cz (aa 0) (ah (.str "number")) (ag g8 (aa 2) (aa 1)))
 (aE (ag ck (aa 2) (aa 1))))
 aQ)
 (aj (aN (ag ck (ag bA (ag cM (ag aS (aa 0) (ah (.str "seed"))) (ah (.int 48271))) (ah (.int 7919))) (ah (.int 2147483647))) (aF 3))
 (aj (cz (aa 0) (ah (.str "seed")) (ag ck (ag bA (ag cM (aa 3) (ah (.int 40692))) (ah (.int 104729))) (ah (.int 2147483399))))
 (aj (aN (ag ck (ag cM (ag aS (aa 0) (ah (.str "seed"))) (ag aS (aa 0) (ah (.str "seed")))) (ah (.int 2147483563))) (aF 4))
 (aE (ag ck (ag bA (ag cM (ag ck (ag cM (aa 3) (aa 3)) (ah (.int 2147483629))) (ah (.int 2147483563))) (aa 4)) (aa 1)))))))))
noncomputable def kj:FF:=bw 2 0
 (aj (aJ (aq (ag lX (aa 1) (bC (cW "House" "seals") (aa 0))))
 (aj (iu (hV iT (bC (cW "House" "given") (aa 0)) (af (aa 1) ae)))
 (cz (bC (cW "House" "seals") (aa 0)) (aa 1) (bd (af (bC (cW "House" "given") (aa 0)) ae) br)))
 aQ)
 (aE (ag aS (bC (cW "House" "seals") (aa 0)) (aa 1))))
noncomputable def fR:FF:=bw 2 0
 (aE (bg "House" "seal_for" 2 kj (aa 0) (af (bd (af (ah (.str "leaf")) (af (aa 1) ae)) bD) ae)))
noncomputable def jk:FF:=bw 3 0
 (aE (bg "House" "seal_for" 2 kj (aa 0) (af (bd (af (ah (.str "pair")) (af (aa 1) (af (aa 2) ae))) bD) ae)))
noncomputable def wQ:Mo Bool:=(aq (ag kg (bd (af (aa 2) ae) br) (ah (.int 1))))
noncomputable def wR:SF :=
 (aN (cH (a9 (af (bR (jO (aa 2) bJ bJ (ah (.int 2)))) (af (bR (jO (aa 2) (bG (ah (.int 1))) bJ (ah (.int 2)))) ae)) jR) [0] (cN 2) aU (bg "House" "pair" 3 jk (aa 2) (af (aa 0) (af (aa 1) ae)))) (aF 2))
noncomputable def pf:FF:=bw 2 1
 (aj (aN (cH (a9 (one (aa 1)) aR) [0] c1 aU (bg "House" "leaf" 2 fR (aa 1) (af (aa 0) ae))) (aF 2))
 (aj (gE wQ
 wR)
 (aE (ag aS (aa 2) (ah (.int 0))))))
noncomputable def md:FF:=bw 1 0
 (aE (ag aS (bd (af (bd (af (aa 0) (af (ah (.int 3)) ae)) (aV 2 bL)) (af (ag bY (ag bY (ah (.int 4294967296)) (ah (.int 1))) (bd (af (aa 0) (af (ah (.int 3)) ae)) (aV 2 bL))) (af (bd (af (aa 0) (af (ah (.int 4294967296)) ae)) (aV 2 bL)) ae))) aX) (bd (af (aa 0) (af (ah (.int 3)) ae)) (aV 2 bL))))
noncomputable def mX:FF:=bw 2 3
 (aj (aN (cH (a9 (af (ag bA (ah (.int 1)) (bd (af (aa 0) (af (ah (.int 4)) ae)) (aV 2 bL))) ae) cG) [0] c1 aU (bd (af (aa 1) ae) (aV 1 md))) (aF 2))
 (aj (aN (cH (a9 (af (ag cX (ah (.int 1)) (aa 1)) ae) cG) [2,0] c1 aU (ag aS (aa 1) (bd (af (aa 2) (af (bd (af (aa 1) ae) br) ae)) (aV 2 bL)))) (aF 3))
 (aj (aN (bd (af (aa 0) (af (ah (.int 4)) ae)) (aV 2 bL)) (aF 4))
 (aj (aJ (pO (aq (ag kg (aa 1) (ah (.int 0)))) (aq (ag dJ (aa 4) (ah (.int 0)))))
 (aN (ag cM (bO (aa 3) bJ (bG (ag g8 (ag cX (ah (.int 1)) (aa 1)) (ah (.int 2))))) (ah (.int 2))) (aF 3))
 aQ)
 (aj (aJ (aq (ag dJ (aa 4) (ah (.int 1))))
 (aN (cH (a9 (af (ag cX (ah (.int 1)) (aa 1)) ae) cG) [2] c1 aU (ag ck (ag bA (ag aS (aa 1) (ah (.int 0))) (ag cM (ah (.int 5)) (aa 0))) (ah (.int 4294967296)))) (aF 3))
 aQ)
 (aE (bd (af (aa 3) ae) cE)))))))
noncomputable def eF:FF:=bw 2 0
 (aj (aJ (cx (aq (ag fQ (aa 1) (ah (.int 1)))) (aq (ag kg (aa 1) (bd (af (bC (cW "House" "given") (aa 0)) ae) br))))
 (aE (ah .non))
 aQ)
 (aE (ag aS (bC (cW "House" "given") (aa 0)) (ag bY (aa 1) (ah (.int 1))))))
noncomputable def kl:SF :=
 (aj (aN (bg "House" "opened" 2 eF (aa 0) (af (aa 1) ae)) (aF 6))
 (aj (aJ (cx (aq (bC (fY true) (aa 6))) (aq (ag dJ (ag aS (aa 6) (ah (.int 0))) (ah (.str "leaf")))))
 (aE (ah .non))
 aQ)
 (aj (aN (ag oO (ag gh (aa 3) (aa 5)) (ah (.int 1))) (aF 7))
 (aj (aN (ag aS (aa 6) (ag bA (ah (.int 1)) (aa 7))) (aF 1))
 (iu (hV iT (aa 4) (af (ag aS (aa 6) (ag bY (ah (.int 2)) (aa 7))) ae)))))))
noncomputable def me:FF:=bw 4 4
 (aj (aN (bd ae aX) (aF 4))
 (aj (bu (a9 (af (ag bY (aa 2) (ah (.int 1))) (af (bC cO (ah (.int 1))) (af (bC cO (ah (.int 1))) ae))) gu) (aF 5)
 kl)
 (aj (aN (bg "House" "opened" 2 eF (aa 0) (af (aa 1) ae)) (aF 6))
 (aj (aJ (cx (aq (bC (fY true) (aa 6))) (aq (ag dJ (ag aS (aa 6) (ah (.int 0))) (ah (.str "pair")))))
 (aE (ah .non))
 aQ)
 (aE (bd (af (ag aS (aa 6) (ah (.int 1))) (af (bd (af (bC gp (aa 4)) ae) cE) ae)) bD))))))
noncomputable def CO:SF :=
 (aj (aN (hV jV (aa 5) (af (bd (af (aa 0) (af (bd (af (aa 5) ae) br) ae)) (aV 2 bL)) ae)) (aF 8))
 (iu (hV iT (aa 6) (af (ag bA (bd (af (aa 8) ae) bD) (bd (af (aa 1) (af (aa 2) (af (aa 3) (af (aa 8) ae)))) (aV 4 me))) ae))))
noncomputable def pW:FF:=bw 5 4
 (aj (aN (bC jW (ag cX (ah (.int 1)) (aa 3))) (aF 5))
 (aj (aN (bd ae aX) (aF 6))
 (aj (bu (a9 (af (bd (af (bd (af (aa 5) ae) br) (af (ag bA (ah (.int 1)) (bd (af (aa 0) (af (aa 4) ae)) (aV 2 bL))) ae)) oW) ae) cG) (aF 7)
 CO)
 (aE (aa 6)))))
noncomputable def ph:SF :=
 (aj (aJ (cx (aq (ag fQ (aa 4) (ah (.int 0)))) (cx (aq (ag g9 (aa 4) (ag cX (ah (.int 1)) (aa 1)))) (cx (aq (ag pS (aa 4) (aa 3))) (cx (aq (ag fQ (aa 5) (ah (.int 0)))) (cx (aq (ag g9 (aa 5) (ah (.int 4294967296)))) (aq (ag dM (bd (af (aa 6) ae) br) (aa 1))))))))
 (aE (ah (.bl false)))
 aQ)
 (aj (aJ (dQ (bd (bd (af (cH (a9 (one (aa 6)) aR) [0] c1 aU (bC (fY false) (bg "House" "opened" 2 eF (aa 1) (af (aa 0) ae)))) ae) jU) cL))
 (aE (ah (.bl false)))
 aQ)
 (iu (hV iT (aa 3) (af (aa 4) ae)))))
noncomputable def pX:FF:=bw 3 4
 (aj (aN (bd ae aX) (aF 3))
 (aj (bu (a9 (one (aa 2)) aR) (bX [4,5,6])
 ph)
 (aE (ag dM (aa 3) (bd ae aX)))))
noncomputable def wU:SF :=
 (cz (aa 8) (ag g8 (aa 9) (ah (.int 2))) (bg "House" "pair" 3 jk (aa 0) (af (ag aS (aa 3) (ag bY (aa 9) (ag ck (aa 9) (ah (.int 2))))) (af (ag aS (aa 3) (ag bA (ag bY (aa 9) (ag ck (aa 9) (ah (.int 2)))) (ah (.int 1)))) ae))))
noncomputable def pj:SF :=
 (aj (aN (ag gh (aa 4) (aa 7)) (aF 9))
 (aj (aN (ag bY (ag bA (aa 9) (ah (.int 1))) (ag cM (ah (.int 2)) (ag ck (aa 9) (ah (.int 2))))) (aF 10))
 (aj (aJ (aq (ag dM (l9 i0 (aa 3) (af (aa 10) (af (ag aS (aa 6) (aa 7)) ae))) (ag aS (aa 6) (aa 7))))
 (aE (ah .non))
 aQ)
 (cz (aa 3) (aa 10) (ag aS (aa 6) (aa 7))))))
noncomputable def pY:SF :=
 (aj (aN jP (aF 8))
 (aj (bu (a9 (one (aa 2)) aR) (bX [4,5,6])
 pj)
 (aj (bu (a9 (one (bR (bd (af (aa 3) ae) ib))) aR) (aF 9)
 wU)
 (aN (dy (aa 8)) (aF 3)))))
noncomputable def CP:SF :=
 (cz (aa 3) (aa 4) (bg "House" "leaf" 2 fR (aa 0) (af (aa 5) ae)))
noncomputable def pZ:FF:=bw 3 8
 (aj (aJ (dQ (bd (bd (af (aa 0) (af (aa 1) (af (aa 2) ae))) (aV 3 pX)) cL))
 (aE (ah .non))
 aQ)
 (aj (aN jP (aF 3))
 (aj (bu (a9 (one (aa 2)) aR) (bX [4,5,6])
 CP)
 (aj (bu (a9 (af (aa 1) ae) cG) (aF 7)
 pY)
 (aE (ag aS (aa 3) (ah (.int 0))))))))
noncomputable def p4:FF:=bw 4 0
 (aE (wL (aq (ag dJ (ag oO (aa 1) (ah (.int 1))) (ah (.int 0)))) (bg "House" "pair" 3 jk (aa 0) (af (aa 2) (af (aa 3) ae))) (bg "House" "pair" 3 jk (aa 0) (af (aa 3) (af (aa 2) ae)))))
noncomputable def CQ:SF :=
 (aj (aN (ag gh (aa 2) (aa 7)) (aF 9))
 (aj (iu (hV iT (aa 6) (af (bd (af (bd (af (aa 7) (af (ag fE (aa 9) (ah (.int 1))) ae)) bD) (af (aa 8) ae)) bD) ae)))
 (aj (aN (bd (af (aa 0) (af (aa 9) (af (aa 5) (af (aa 8) ae)))) (aV 4 p4)) (aF 5))
 (iu (hV iT (aa 6) (af (bd (af (bd (af (ag bA (aa 7) (ah (.int 1))) (af (ag gh (aa 9) (ah (.int 1))) ae)) bD) (af (aa 5) ae)) bD) ae))))))
noncomputable def wV:FF:=bw 2 8
 (aj (aN (aa 1) (bX [2,3,4]))
 (aj (aN (bg "House" "leaf" 2 fR (aa 0) (af (aa 3) ae)) (aF 5))
 (aj (aN (bd (af (bd (af (bd (af (ah (.int 0)) (af (aa 2) ae)) bD) (af (aa 5) ae)) bD) ae) aX) (aF 6))
 (aj (bu (a9 (af (aa 4) ae) lY) (bX [7,8])
 CQ)
 (aE (aa 6))))))
noncomputable def mY:FF:=bw 3 3
 (aj (aN (aa 2) (bX [3,4,5]))
 (aj (aJ (cx (aq (ag fQ (aa 3) (ah (.int 0)))) (cx (aq (ag kg (ag gh (aa 3) (aa 1)) (ah (.int 0)))) (cx (aq (ag fQ (aa 4) (ah (.int 0)))) (cx (aq (ag g9 (aa 4) (ah (.int 4294967296)))) (aq (ag dM (bd (af (aa 5) ae) br) (aa 1)))))))
 (aE (ah (.bl false)))
 aQ)
 (aE (bd (af (cH (a9 (one (aa 5)) aR) [0] c1 aU (bC (fY false) (bg "House" "opened" 2 eF (aa 1) (af (aa 0) ae)))) ae) jU))))
noncomputable def vt:SF :=
 (aJ (aq (ag dM (l9 gy (aa 3) (af (aa 5) (af (aa 6) ae))) (aa 6)))
 (aE (ah .non))
 aQ)
noncomputable def mZ:SF :=
 (bu (a9 (one (bR (bd (af (aa 0) (af (aa 4) ae)) (aV 2 wV)))) aR) (bX [5,6])
 vt)
noncomputable def km:FF:=bw 3 4
 (aj (aJ (dQ (bd (bd (af (cH (a9 (one (aa 2)) aR) [0,1] c1 aU (bd (af (aa 1) (af (aa 2) (af (aa 0) ae))) (aV 3 mY))) ae) jU) cL))
 (aE (ah .non))
 aQ)
 (aj (aJ (cx (dQ (bd (aa 2) cL)) (aq (ag fQ (bC ia (cH (a9 (one (aa 2)) aR) [] c1 aU (ag aS (aa 0) (ah (.int 0))))) (bd (af (aa 2) ae) br))))
 (aE (ah .non))
 aQ)
 (aj (aN hX (aF 3))
 (aj (bu (a9 (one (aa 2)) aR) (aF 4)
 mZ)
 (aE (ag aS (aa 3) (bd (af (aa 1) (af (ah (.int 0)) ae)) bD)))))))
noncomputable def pq:FF:=bw 4 9
 (aj (aN (bd (af (aa 2) ae) dB) (aF 4))
 (aj (aN (bd (af (aa 0) (af (ah (.int 9)) ae)) (aV 2 bL)) (aF 5))
 (aj (aJ (cx (aq (ag dJ (aa 4) (bd ae aX))) (aq (ag dJ (aa 5) (ah (.int 0)))))
 (aE (ag aS (bd (af (bR (bd ae aX)) (af (bR (ag bA (aa 4) (bO (aa 4) bJ (bG (ah (.int 1)))))) (af (bR (ag bA (aa 4) (aa 3))) (af (aa 3) ae)))) aX) (bd (af (aa 0) (af (ah (.int 4)) ae)) (aV 2 bL))))
 aQ)
 (aj (aN (bd (af (aa 0) (af (bd (af (aa 4) ae) br) ae)) (aV 2 bL)) (aF 6))
 (aj (aN (ag aS (aa 4) (aa 6)) (bX [7,8,9]))
 (aj (aJ (aq (ag dJ (aa 5) (ah (.int 1))))
 (aN (ag aS (bd (af (ag bA (aa 7) (ah (.int 1))) (af (ag bY (aa 7) (ah (.int 1))) (af (ag fE (aa 7) (ah (.int 1))) (af (ah (.int 0)) (af (bC cO (ah (.int 1))) (af (ag bA (aa 7) (ag cX (ah (.int 1)) (bd (af (aa 9) ae) br))) ae)))))) aX) (bd (af (aa 0) (af (ah (.int 6)) ae)) (aV 2 bL))) (aF 7))
 (aJ (aq (ag fQ (aa 5) (ah (.int 4))))
 (aN (ag aS (bd (af (ag bA (aa 8) (ah (.int 1))) (af (ah (.int 0)) (af (bC cO (ah (.int 1))) (af (ah (.int 4294967296)) (af (ag fE (aa 8) (ah (.int 1))) (af (ag bY (ah (.int 4294967296)) (ah (.int 1))) ae)))))) aX) (bd (af (aa 0) (af (ah (.int 6)) ae)) (aV 2 bL))) (aF 8))
 (aJ (aq (ag dJ (aa 5) (ah (.int 4))))
 (aj (aN (ag bA (aa 9) (bd (af (bg "House" "leaf" 2 fR (aa 1) (af (ah (.int 7)) ae)) ae) bD)) (aF 10))
 (aN (ag aS (bd (af (bO (aa 9) (bG (ah (.int 1))) bJ) (af (bO (aa 9) bJ (bG (bC cO (ah (.int 1))))) (af (aa 10) (af (bC gp (aa 9)) ae)))) aX) (bd (af (aa 0) (af (ah (.int 4)) ae)) (aV 2 bL))) (aF 9)))
 (aJ (aq (ag dM (aa 9) (bd ae bD)))
 (aj (aN (bd (af (aa 0) (af (bd (af (aa 9) ae) br) ae)) (aV 2 bL)) (aF 11))
 (aj (aN (ag bA (ag bA (bd (af (aa 9) ae) dB) (bd (af (ag aS (ag aS (aa 3) (ah (.int 0))) (ah (.int 2))) ae) dB)) (bd (af (bg "House" "leaf" 2 fR (aa 1) (af (ah (.int 7)) ae)) (af (ah (.int 0)) (af (bC cO (ah (.int 1))) (af (ag bA (ag eS (ah (.int 10)) (ah (.int 12))) (bd (af (aa 0) (af (ah (.int 9)) ae)) (aV 2 bL))) ae)))) aX)) (aF 12))
 (aN (ag bA (ag bA (bO (aa 9) bJ (bG (aa 11))) (bd (af (ag aS (aa 12) (bd (af (aa 0) (af (bd (af (aa 12) ae) br) ae)) (aV 2 bL))) ae) bD)) (bO (aa 9) (bG (ag bA (aa 11) (ah (.int 1)))) bJ)) (aF 9))))
 aQ))))
 (aj (cz (aa 4) (aa 6) (bd (af (aa 7) (af (aa 8) (af (aa 9) ae))) bD))
 (aE (aa 4)))))))))
noncomputable def CS:SF :=
 (aN (bR (bd (af (bR (aa 1)) (af (aa 2) (af (bR (aa 7)) (af (bR (aa 8)) ae)))) (aV 4 pq))) (aF 7))
noncomputable def CT:SF :=
 (aj (aN (bR (bd (af (bR (aa 1)) (af (aa 2) (af (aa 4) (af (aa 3) (af (ah (.int 5)) ae))))) (aV 5 pW))) (aF 7))
 (aj (aN (bd (af (bR (aa 1)) (af (aa 2) (af (aa 5) (af (aa 3) (af (ah (.int 1)) ae))))) (aV 5 pW)) (aF 8))
 (aj (aJ (aq (ag dM (bd (af (aa 2) (af (aa 3) (af (bd (af (aa 7) ae) cE) ae))) (aV 3 km)) (aa 4)))
 (aE (ah (.bl false)))
 aQ)
 (aj (bu (a9 (af (ag bA (ah (.int 1)) (bd (af (bR (aa 1)) (af (ah (.int 3)) ae)) (aV 2 bL))) ae) cG) (aF 9)
 CS)
 (aj (aN (ag aS (bd (af (aa 3) (af (aa 3) (af (aa 3) (af (ag bA (aa 3) (ah (.int 1))) (af (bd (af (ah (.int 0)) (af (ag bY (aa 3) (ah (.int 1))) ae)) gm) ae))))) aX) (bd (af (bR (aa 1)) (af (ah (.int 5)) ae)) (aV 2 bL))) (aF 10))
 (aj (aN (bd (af (aa 2) (af (aa 10) (af (bR (aa 7)) ae))) (aV 3 pZ)) (aF 11))
 (aJ (cx (aq (ag dM (bd (af (aa 2) (af (aa 10) (af (bd (af (aa 7) ae) cE) ae))) (aV 3 km)) (aa 11))) (aq (ag dM (bd (af (aa 2) (af (aa 10) (af (bd (af (aa 7) ae) cE) ae))) (aV 3 km)) (aa 11))))
 (aE (ah (.bl false)))
 aQ)))))))
noncomputable def CU:FF:=bw 1 11
 (aj (aN (bd (af (aa 0) (af (ah (.int 0)) ae)) (aV 2 vp)) (aF 1))
 (aj (aN (bd ae (jD "House" 1 pV)) (aF 2))
 (aj (aN (bd (af (bR (aa 1)) (af (ah (.int 6)) ae)) (aV 2 bL)) (aF 3))
 (aj (aN (bd (af (aa 2) (af (bd (af (bR (aa 1)) (af (aa 3) ae)) (aV 2 mX)) ae)) (aV 2 pf)) (aF 4))
 (aj (aN (bd (af (aa 2) (af (bd (af (bR (aa 1)) (af (aa 3) ae)) (aV 2 mX)) ae)) (aV 2 pf)) (aF 5))
 (aj (bu (a9 (af (ah (.int 8)) ae) cG) (aF 6)
 CT)
 (aE (ah (.bl true)))))))))
end
end Q
namespace Q
open PySem L2 B
theorem c8  (hl:xs.length=n)(h:body (xs.map some++List.replicate r none) G=some (.rt x G')):bw n r body xs G=some (x,G'):=by
 unfold bw;rw [if_pos hl,h]
theorem aA  (h:a Z G=some (.nx Z1 G1))(k:b Z1 G1=r):aj a b Z G=r:=by
 unfold aj;rw [h];exact k
theorem cB  (h:a Z G=some (.rt x G1)):aj a b Z G=some (.rt x G1):=by
 unfold aj;rw [h]
theorem b6  (h:c Z G=some (true,Z1,G1))(k:a Z1 G1=r):aJ c a b Z G=r:=by
 unfold aJ;rw [h];exact k
theorem bP  (h:c Z G=some (false,Z1,G1))(k:b Z1 G1=r):aJ c a b Z G=r:=by
 unfold aJ;rw [h];exact k
theorem bT  (h:f Z G=some (.v x,Z1,G1))(k:g x Z1 G1=some (Z2,G2)):aN f g Z G=some (.nx Z2 G2):=by
 unfold aN dy bd;rw [h];show (match jg (.v x) Z1 G1 with|_=>_)=_
 unfold jg rt;dsimp only;rw [k]
theorem mf  (h:f Z G=some (.v x,Z1,G1)):aE f Z G=some (.rt x G1):=by
 unfold aE dy bd;rw [h];rfl
theorem wW  (h:f Z G=some (e,Z1,G1)):iu f Z G=some (.nx Z1 G1):=by
 unfold iu;rw [h]
theorem aO{α β:Type}{m:Mo α}{f:α->Mo β}{Z Z1:De}{G G1:List M}{a:α}{r:Option (β×De×List M)}(h:m Z G=some (a,Z1,G1))(k:f a Z1 G1=r):bd m f Z G=r:=by
 unfold bd;rw [h];exact k
theorem ic (h:c Z G=some (true,Z1,G1)):cx c d Z G=some (true,Z1,G1):=by
 unfold cx bd;rw [h];rfl
theorem bK  (h:c Z G=some (false,Z1,G1))(k:d Z1 G1=r):cx c d Z G=r:=by
 unfold cx bd;rw [h];exact k
theorem gA  (h:c Z G=some (b,Z1,G1)):dQ c Z G=some (!b,Z1,G1):=by
 unfold dQ bd;rw [h];rfl
theorem eG  (h:f Z G=some (.v (.im (.bl b)),Z1,G1)):aq f Z G=some (b,Z1,G1):=by
 unfold aq bd;rw [h];rfl
theorem ba   (h:f Z G=some (x,Z1,G1))(h2:g Z1 G1=some (y,Z2,G2))(k:p [x,y] Z2 G2=r):ag p f g Z G=r:=by
 unfold ag bd;rw [h];dsimp only;rw [h2];exact k
theorem mh   (h:f Z G=some (x,Z1,G1))(k:p [x] Z1 G1=r):bC p f Z G=r:=by
 unfold bC bd;rw [h];exact k
theorem eh   (h:mS es=some xs)(hl:xs.length=n)(k:fn xs G=some (x,G')):aV n fn es Z G=some (.v x,Z,G'):=by
 unfold aV;rw [h];dsimp only;rw [if_pos hl,k]
theorem y89    (h:fo Z G=some (e,Z1,G1))(hl:fK Z1 G1 e=true)(ha:fa Z1 G1=some (es,Z2,G2))(k:p (e::es) Z2 G2=r):hV p fo fa Z G=r:=by
 unfold hV bd;rw [h];dsimp only;rw [if_pos hl,ha];exact k
theorem mi     (hb:mT ix Z G=some ((),Z0,G0))(hi:fi Z0 G0=some (w,es,Z1,G1))(hn:w.n≤100000)(hc:eJ w c tt te (iH ix Z1) 0 w.n [] Z1 G1=some (ds,G2)):cH fi ix c tt te Z G=some (.v (.ow (.lst ds)),Z1,G2):=by
 unfold cH;rw [hb];dsimp only;rw [hi];dsimp only;rw [if_pos hn,hc]
theorem cF    (hi:f Z G=some (w,es,Z1,G1))(h:bf w g b 0 w.n Z1 G1=r):bu f g b Z G=r:=by
 unfold bu;rw [hi];exact h
theorem mj   (h:fa Z G=some (es,Z1,G1))(k:p es Z1 G1=some w):a9 fa p Z G=some (w,es,Z1,G1):=by
 unfold a9;rw [h];dsimp only;rw [k];rfl
noncomputable def ez(n:Nat):Wk:=⟨n,λi _ _=>some (.int i),λ_ _=>true⟩
theorem pv(n:Nat):(ez n).n=n:=rfl
theorem CV{n:Nat}{j:Int}{Z:De}{G:List M}(h:j=n)(hn:n≤1000000):cG [.v (.im (.int j))] Z G=some (ez n):=by
 subst h
 unfold cG
 dsimp only
 rw [if_pos (by lia)]
 rfl
theorem gB{n:Nat}{fa:Mo (List Ev)}{j:Int}{Z Z1:De}{G G1:List M}(h:fa Z G=some ([.v (.im (.int j))],Z1,G1))(e:j=n)(hn:n≤1000000):a9 fa cG Z G=some (ez n,[.v (.im (.int j))],Z1,G1):=mj h (CV e hn)
end Q
namespace Q
open PySem L2 B
local macro_rules | `(tactic| simp! [$xs,*])=>`(tactic| simp [bw,aj,aJ,cx,pO,dQ,aq,ag,bC,bd,aa,ah,rt,af,ae,cW,br,sq,pk,fz,tm,fQ,leP,kg,g9,bz,aE,AR,dy,bR,mQ,jg,aQ,iu,aN,aF,aS,dI,iw,lW,fH,bY,bA,lI,cM,uk,g8,ck,eS,cX,gh,cO,aV,mS,bg,jD,bD,aX,mR,tf,hV,fK,iT,hW,iI,cz,fL,fG,eE,iR,ax,wL,fY,lG,cL,dJ,dM,uA,lP,lM,eU,dY,kh,jP,hX,one,$xs,*])
local macro_rules | `(↑$x)=>`(some (.im $x))
local macro_rules | `(⇑$x)=>`(.v (.im $x))
local macro_rules | `(↥$x)=>`(some (.ow (.lst $x)))
section
theorem vw:¬ (("seed" : Str)="number"):=by decide +kernel
theorem CW:¬ (("seed" : Str)="left"):=by decide +kernel
theorem vx:¬ (("number" : Str)="left"):=by decide +kernel
theorem vy:¬ (("number" : Str)="seed"):=by decide +kernel
theorem CY:¬ (("left" : Str)="seed"):=by decide +kernel
theorem CZ:¬ (("left" : Str)="number"):=by decide +kernel
theorem C0:((Sum.inr ("seed" : Str):aB)=Sum.inr ("number" : Str))=False:=by simp;decide +kernel
theorem C1:((Sum.inr ("seed" : Str):aB)=Sum.inr ("left" : Str))=False:=by simp;decide +kernel
theorem C2:((Sum.inr ("number" : Str):aB)=Sum.inr ("left" : Str))=False:=by simp;decide +kernel
noncomputable def dD(a n:Int)(l:Nat):List (aB×I):=[(.inr "seed",.int a),(.inr "number",.int n),(.inr "left",.ref l)]
theorem yda(a n:Int)(l:Nat):ax (dD a n l) (Sum.inr ("seed" : Str))=some (.int a):=by simp [dD,ax]
theorem vz(a n:Int)(l:Nat):ax (dD a n l) (Sum.inr ("number" : Str))=some (.int n):=by simp only [dD,ax,C0,if_false,if_true]
theorem wX(a n:Int)(l:Nat):ax (dD a n l) (Sum.inr ("left" : Str))=some (.ref l):=by simp only [dD,ax,C1,C2,if_false,if_true]
theorem vA(a n m:Int)(l:Nat):bq (dD a n l) (Sum.inr ("number" : Str)) (.int m)=dD a m l:=by simp [bq,cY,dD,vw,CZ,vx,vy]
theorem vB(a n m:Int)(l:Nat):bq (dD a n l) (Sum.inr ("seed" : Str)) (.int m)=dD m n l:=by simp [bq,cY,dD,vy,CY]
theorem C3(a n:Int)(l:Nat):(dD a n l).length<1000000:=by show 3<1000000;decide
structure DC(G:List M)(d l:Nat)(a n:Int)(ms:List Int):Prop where
 dc:G[d]?=some (.dic (dD a n l))
 lc:G[l]?=some (.lst (ms.map I.int))
 ne:d≠l
 a0:0≤a
 a1:a<2147483647
 n0:0≤n
 m0:∀m∈ms,0≤m
noncomputable def DG(G:List M)(d l:Nat):Prop:=∃a n ms,DC G d l a n ms
structure Oth(d l:Nat)(G G':List M):Prop where
 len:G'.length=G.length
 at_:∀k,k≠d->k≠l->G'[k]?=G[k]?
theorem Oth.refl(d l:Nat)(G:List M):Oth d l G G:=⟨rfl,λ_ _ _=>rfl⟩
theorem Oth.trans{d l:Nat}{G G1 G2:List M}(x:Oth d l G G1)(y:Oth d l G1 G2):Oth d l G G2:=⟨y.len.trans x.len,λk h1 h2=>(y.at_ k h1 h2).trans (x.at_ k h1 h2)⟩
theorem Oth.setD{d l:Nat}{G:List M}{m:M}:Oth d l G (G.set d m):=⟨z33,λk h1 _=>z2b (Ne.symm h1)⟩
theorem Oth.setL{d l:Nat}{G:List M}{m:M}:Oth d l G (G.set l m):=⟨z33,λk _ h1=>z2b (Ne.symm h1)⟩
theorem i3{G:List M}{k:Nat}{m m':M}(h:G[k]?=some m'):(G.set k m)[k]?=some m:=List.getElem?_set_self (zd.mp h).1
noncomputable def ko(d:Nat)(many:Int):De:=[↑(.ref d),↑(.int many),none,none,none]
theorem C4{G:List M}{d l:Nat}{a n:Int}{ms:List Int}{many:Int}(D:DC G d l a n ms):pd (ko d many) G=some (decide (n=0)&&decide (0<ms.length),ko d many,G):=by
 by_cases h:n=0
 ·by_cases h2:0<ms.length
  ·simp! [pd,ko,D.dc,D.lc,vz,wX,h,h2]
  ·simp! [pd,ko,D.dc,D.lc,vz,wX,h,h2]
 ·simp! [pd,ko,D.dc,D.lc,vz,wX,h]
theorem yeb{G:List M}{d l:Nat}{a n:Int}{ms:List Int}{many y:Int}(D:DC G d l a n ms)(hy:ms[ms.length-1]?=some y):∃G',vq (ko d many) G=some (.nx (ko d many) G')/\DC G' d l a y ms.dropLast/\Oth d l G G':=by
 have h1:(G.set l (.lst (ms.map I.int).dropLast))[d]?=some (.dic (dD a n l)):=by rw [z2b D.ne.symm];exact D.dc
 refine⟨(G.set l (.lst (ms.map I.int).dropLast)).set d (.dic (dD a y l)),?_,⟨i3 h1,?_,D.ne,D.a0,D.a1,D.m0 y (z34 hy),λm hm=>D.m0 m (List.dropLast_subset _ hm)⟩,Oth.setL.trans Oth.setD⟩
 ·simp! [vq,ko,D.dc,D.lc,wX,hy,h1,C3,vA]
 ·rw [z2b D.ne,i3 D.lc,List.map_dropLast]
theorem yee{d l:Nat}{a:Int}{many:Int}:∀(k:Nat) {G:List M} {n:Int} {ms:List Int},ms.length=k->DC G d l a n ms->∃G' n' ms',gE pd vq (ko d many) G=some (.nx (ko d many) G')/\DC G' d l a n' ms'/\Oth d l G G':=by
 intro k
 induction k with
 | zero =>
  intro G n ms hk D
  refine⟨G,n,ms,oA ?_,D,Oth.refl _ _ _⟩
  rw [C4 D]
  simp [hk]
 | succ k ih =>
  intro G n ms hk D
  by_cases h:n=0
  ·obtain⟨y,hy⟩:∃y,ms[ms.length-1]?=some y:=⟨_,zf (by lia)⟩
   obtain⟨G1,e1,D1,o1⟩:=yeb (many:=many) D hy
   obtain⟨G2,n2,ms2,e2,D2,o2⟩:=ih (by rw [List.length_dropLast];lia) D1
   refine⟨G2,n2,ms2,?_,D2,o1.trans o2⟩
   rw [tG (by rw [C4 D];simp [h,hk]) e1]
   exact e2
  ·refine⟨G,n,ms,oA ?_,D,Oth.refl _ _ _⟩
   rw [C4 D]
   simp [h]
theorem mm{G:List M}{d l:Nat}{many:Int}(D:DG G d l)(h0:0<many)(h1:many<2 ^ 100):∃r G',bL [.im (.ref d),.im (.int many)] G=some (.im (.int r),G')/\0≤r/\r<many/\DG G' d l/\Oth d l G G':=by
 obtain⟨a,n,ms,D⟩:=D
 obtain⟨G1,n1,ms1,e1,D1,o1⟩:=yee (many:=many) _ rfl D
 have e1':gE pd vq [↑(.ref d),↑(.int many),none,none,none] G=some (.nx [↑(.ref d),↑(.int many),none,none,none] G1):=e1
 by_cases hn:0<n1
 ·refine⟨n1 % many,G1.set d (.dic (dD a (n1 / many) l)),?_,Int.emod_nonneg _ (by lia),Int.emod_lt_of_pos _ h0,⟨a,n1 / many,ms1,i3 D1.dc,by rw [z2b D1.ne];exact D1.lc,D1.ne,D1.a0,D1.a1,Int.ediv_nonneg D1.n0 (by lia),D1.m0⟩,o1.trans Oth.setD⟩
  have h2:many<2 ^ 200:=Int.lt_trans h1 (by decide)
  have h3:(many<1606938044258990275541962092341162602522202993782792835301376):=h2
  simp! [bL,e1',D1.dc,vz,hn,h0,h3,C3,vA]
 ·have q1:0≤(a*48271+7919) % 2147483647:=Int.emod_nonneg _ (by decide)
  have q2:(a*48271+7919) % 2147483647<2147483647:=Int.emod_lt_of_pos _ (by decide)
  have q3:0≤((a*48271+7919) % 2147483647*40692+104729) % 2147483399:=Int.emod_nonneg _ (by decide)
  have q4:((a*48271+7919) % 2147483647*40692+104729) % 2147483399<2147483399:=Int.emod_lt_of_pos _ (by decide)
  obtain⟨o,ho⟩:∃o,(a*48271+7919) % 2147483647=o:=⟨_,rfl⟩
  rw [ho] at q1 q2 q3 q4
  obtain⟨b,hb⟩:∃b,(o*40692+104729) % 2147483399=b:=⟨_,rfl⟩
  rw [hb] at q3 q4
  have D2:(G1.set d (.dic (dD b n1 l)))[d]?=some (.dic (dD b n1 l)):=i3 D1.dc
  have c1:-18446744073709551616<b/\b<18446744073709551616:=⟨by lia,by lia⟩
  have c2:-18446744073709551616<o/\o<18446744073709551616:=⟨by lia,by lia⟩
  refine⟨(o*o % 2147483629*2147483563+b*b % 2147483563) % many,G1.set d (.dic (dD b n1 l)),?_,Int.emod_nonneg _ (by lia),Int.emod_lt_of_pos _ h0,⟨b,n1,ms1,D2,by rw [z2b D1.ne];exact D1.lc,D1.ne,q3,by lia,D1.n0,D1.m0⟩,o1.trans Oth.setD⟩
  simp! [bL,e1',D1.dc,D2,vz,yda,hn,h0,C3,vB,ho,hb,c1,c2]
end
section
inductive Mk where
 | leaf (w:Int)|pair (a b:Int)
 deriving DecidableEq
noncomputable def Mk.i:Mk->I
 | .leaf w=>.tup [.str "leaf",.int w]
 | .pair a b=>.tup [.str "pair",.int a,.int b]
noncomputable def Mk.k:Mk->List aB
 | .leaf w=>[.inr "leaf",.inl w]
 | .pair a b=>[.inr "pair",.inl a,.inl b]
theorem Mk.key(m:Mk):eE m.i=some m.k:=by cases m<;>simp [Mk.i,Mk.k,eE,iR,fG]
theorem C5:¬ (("leaf" : Str)="pair"):=by decide +kernel
theorem C6:¬ (("pair" : Str)="leaf"):=by decide +kernel
theorem Mk.inj{m m':Mk}(h:m.k=m'.k):m=m':=by
 cases m<;>cases m'<;>simp [Mk.k,C5,C6] at h<;>simp [h]
noncomputable def cS(o:Nat):List Mk->List (List aB×I)
 | []=>[]
 | m::r=>(m.k,.int ((o:Int)+1))::cS (o+1) r
theorem vC:∀(o:Nat) (gs:List Mk),(cS o gs).length=gs.length
 | _,[]=>rfl
 | o,m::r=>by show (cS (o+1) r).length+1=r.length+1;rw [vC]
theorem vD:∀(o:Nat) (gs:List Mk) (m:Mk),cY (cS o gs) m.k=decide (m∈gs)
 | _,[],_=>by simp [cS,cY]
 | o,g::r,m=>by
  have ih:=vD (o+1) r m
  show (decide (g.k=m.k)||cY (cS (o+1) r) m.k)=_
  rw [ih]
  by_cases e:g=m
  ·subst e;simp
  ·have:¬ (g.k=m.k):=λz=>e (Mk.inj z)
   simp [this,e,Ne.symm e,z1e]
theorem pw:∀{o:Nat} {gs:List Mk} {m:Mk},m∈gs->∃j:Nat,ax (cS o gs) m.k=some (.int ((o:Int)+j+1))/\gs[j]?=some m
 | _,[],_,h=>by cases h
 | o,g::r,m,h=>by
  by_cases e:g=m
  ·subst e;exact⟨0,by simp [cS,ax],rfl⟩
  ·rcases z1e.mp h with z|z
   ·exact absurd z.symm e
   ·obtain⟨j,h1,h2⟩:=pw (o:=o+1) z
    have:¬ (g.k=m.k):=λz=>e (Mk.inj z)
    refine⟨j+1,?_,h2⟩
    simp only [cS,ax,if_neg this,h1]
    congr 2;push_cast;lia
theorem vE:∀{o:Nat} {gs:List Mk} {m:Mk},m∉gs->ax (cS o gs) m.k=none
 | _,[],_,_=>rfl
 | o,g::r,m,h=>by
  rw [z1e,not_or] at h
  have:¬ (g.k=m.k):=λz=>h.1 (Mk.inj z).symm
  simp only [cS,ax,if_neg this]
  exact vE h.2
theorem vF:∀(o:Nat) (gs:List Mk) (m:Mk),cS o (gs++[m])=cS o gs++[(m.k,.int ((o:Int)+gs.length+1))]
 | o,[],m=>by simp [cS]
 | o,g::r,m=>by
  show (g.k,I.int ((o:Int)+1))::cS (o+1) (r++[m])=(g.k,I.int ((o:Int)+1))::(cS (o+1) r++_)
  rw [vF (o+1) r m]
  have:((o+1:Nat):Int)+r.length+1=(o:Int)+(g::r).length+1:=by simp only [z29];push_cast;lia
  rw [this]
noncomputable def eL(g s:Nat):List (Str×I):=[("given",.ref g),("seals",.ref s)]
theorem C7:(("seals" : Str) == "given")=false:=by decide +kernel
theorem mn(g s:Nat):(eL g s).lookup ("given" : Str)=some (.ref g):=by simp [eL,List.lookup]
theorem vG(g s:Nat):(eL g s).lookup ("seals" : Str)=some (.ref s):=by simp [eL,List.lookup,C7]
theorem m1:(("seal_for" : Str) == "given")=false:=by decide +kernel
theorem m2:(("seal_for" : Str) == "seals")=false:=by decide +kernel
theorem m3:(("leaf" : Str) == "given")=false:=by decide +kernel
theorem m4:(("leaf" : Str) == "seals")=false:=by decide +kernel
theorem m5:(("pair" : Str) == "given")=false:=by decide +kernel
theorem m6:(("pair" : Str) == "seals")=false:=by decide +kernel
theorem m7:(("opened" : Str) == "given")=false:=by decide +kernel
theorem m8:(("opened" : Str) == "seals")=false:=by decide +kernel
theorem vH(g s:Nat):(eL g s).lookup ("seal_for" : Str)=none:=by simp [eL,List.lookup,m1,m2]
theorem jX(g s:Nat):(eL g s).lookup ("leaf" : Str)=none:=by simp [eL,List.lookup,m3,m4]
theorem mq(g s:Nat):(eL g s).lookup ("pair" : Str)=none:=by simp [eL,List.lookup,m5,m6]
theorem gC(g s:Nat):(eL g s).lookup ("opened" : Str)=none:=by simp [eL,List.lookup,m7,m8]
structure HG(G:List M)(h g s:Nat)(gs:List Mk):Prop where
 ob:G[h]?=some (.obj "House" (eL g s))
 gl:G[g]?=some (.lst (gs.map Mk.i))
 sd:G[s]?=some (.dit (cS 0 gs))
 n1:h≠g
 n2:h≠s
 n3:g≠s
 nd:gs.Nodup
noncomputable def At(gs:List Mk)(n:Int)(m:Mk):Prop:=∃j:Nat,n=(j:Int)+1/\gs[j]?=some m
theorem At.app{gs:List Mk}{n:Int}{m:Mk}(h:At gs n m)(r:List Mk):At (gs++r) n m:=by
 obtain⟨j,e,h⟩:=h
 exact⟨j,e,by rw [z1c (zd.mp h).1];exact h⟩
theorem At.uniq{gs:List Mk}{n n':Int}{m:Mk}(nd:gs.Nodup)(h:At gs n m)(h':At gs n' m):n=n':=by
 obtain⟨j,rfl,h⟩:=h
 obtain⟨j',rfl,h'⟩:=h'
 have a1:=zd.mp h
 have a2:=zd.mp h'
 obtain⟨l1,e1⟩:=a1
 obtain⟨l2,e2⟩:=a2
 have:=(List.getElem_inj (i:=j) (j:=j') (h₀:=l1) (h₁:=l2) nd).mp (e1.trans e2.symm)
 subst this;rfl
theorem vI{G:List M}{h g s:Nat}{gs:List Mk}{m:Mk}(S:HG G h g s gs)(hl:gs.length<100000):∃n gs' G',kj [.im (.ref h),.im m.i] G=some (.im (.int n),G')/\HG G' h g s gs'/\At gs' n m/\(gs'=gs∨gs'=gs++[m])/\Oth g s G G':=by
 have hk:=m.key
 by_cases hm:m∈gs
 ·obtain⟨j,hv,hj⟩:=pw (o:=0) hm
  refine⟨(j:Int)+1,gs,G,?_,S,⟨j,rfl,hj⟩,.inl rfl,Oth.refl _ _ _⟩
  have hv:ax (cS 0 gs) m.k=some (.int ((j:Int)+1)):=by rw [hv];simp
  have hi:jh true [⇑m.i,⇑(.ref s)] [↑(.ref h),↑m.i] G=none:=by
   cases m<;>simp [jh,sq,pk,S.sd,Mk.i]
  have hq:iw [⇑(.ref s),⇑m.i] [↑(.ref h),↑m.i] G=none:=by cases m<;>simp [iw,Mk.i]
  simp [kj,bw,aj,aJ,aq,ag,bC,bd,aa,rt,cW,lX,dI,gk,fH,pk,tm,aE,dy,jg,aQ,aS,lW,S.ob,S.sd,vG,mn,hk,hv,hi,hq]
 ·have hv:=vE (o:=0) hm
  have hh:cY (cS 0 gs) m.k=false:=by rw [vD];simp [hm]
  have hi:jh true [⇑m.i,⇑(.ref s)] [↑(.ref h),↑m.i] G=none:=by
   cases m<;>simp [jh,sq,pk,S.sd,Mk.i]
  have g1:(G.set g (.lst (gs.map Mk.i++[m.i])))[h]?=some (.obj "House" (eL g s)):=by rw [z2b S.n1.symm];exact S.ob
  have g2:(G.set g (.lst (gs.map Mk.i++[m.i])))[s]?=some (.dit (cS 0 gs)):=by rw [z2b S.n3];exact S.sd
  have g3:(G.set g (.lst (gs.map Mk.i++[m.i])))[g]?=some (.lst (gs.map Mk.i++[m.i])):=i3 S.gl
  have e1:cS 0 (gs++[m])=cS 0 gs++[(m.k,.int ((gs.length:Int)+1))]:=by rw [vF];simp
  have e2:bq (cS 0 gs) m.k (.int ((gs.length:Int)+1))=cS 0 (gs++[m]):=by rw [e1];unfold bq;rw [hh];rfl
  have l1:gs.length<1000000:=by lia
  have l2:(cS 0 gs).length<1000000:=by rw [vC];exact l1
  have k1:((G.set g (.lst (gs.map Mk.i++[m.i]))).set s (.dit (cS 0 (gs++[m]))))[h]?=some (.obj "House" (eL g s)):=by rw [z2b S.n2.symm];exact g1
  have k2:((G.set g (.lst (gs.map Mk.i++[m.i]))).set s (.dit (cS 0 (gs++[m]))))[s]?=some (.dit (cS 0 (gs++[m]))):=i3 g2
  have hq:∀G',iw [⇑(.ref s),⇑m.i] [↑(.ref h),↑m.i] G'=none:=λG'=>by cases m<;>simp [iw,Mk.i]
  have y192:m∈gs++[m]:=by simp
  have nd':(gs++[m]).Nodup:=by
   rw [List.nodup_append]
   exact⟨S.nd,by simp,λa ha b hb=>by simp at hb;subst hb;exact λz=>hm (z ▸ ha)⟩
  have val:ax (cS 0 (gs++[m])) m.k=some (.int ((gs.length:Int)+1)):=by
   obtain⟨j,hv',hj⟩:=pw (o:=0) y192
   rw [hv']
   have a2:(gs++[m])[gs.length]?=some m:=by simp
   obtain⟨l1,e1⟩:=zd.mp hj
   obtain⟨l2,e2⟩:=zd.mp a2
   have:=(List.getElem_inj (h₀:=l1) (h₁:=l2) nd').mp (e1.trans e2.symm)
   subst this
   simp
  refine⟨(gs.length:Int)+1,gs++[m],(G.set g (.lst (gs.map Mk.i++[m.i]))).set s (.dit (cS 0 (gs++[m]))),?_,⟨k1,?_,k2,S.n1,S.n2,S.n3,nd'⟩,⟨gs.length,rfl,by simp⟩,.inr rfl,Oth.setD.trans Oth.setL⟩
  ·simp [kj,bw,aj,aJ,aq,ag,bC,bd,aa,rt,af,ae,cW,lX,dI,gk,fH,pk,fz,sq,br,tm,aE,dy,jg,aQ,iu,hV,fK,iT,cz,fL,aS,lW,S.ob,S.sd,S.gl,vG,mn,hk,hv,hi,hq,g1,g2,g3,l1,l2,e2,k1,k2,val]
  ·rw [z2b S.n3.symm,g3,z23];rfl
end
section
theorem kq{w:Wk}{c:I->Option (List I)}{tt:Mo Bool}{te:Mo Ev}{di Z:De}(P:Nat->List I->List M->Prop)
  (step:∀i acc G,i<w.n->P i acc G->∃d ds Za Ga y Zb Gb,w.at_ i Z G=some d/\c d=some ds/\tt ((ds.map λd=>some (Vl.im d))++di) G=some (true,Za,Ga)/\te Za Ga=some (⇑y,Zb,Gb)/\P (i+1) (acc++[y]) Gb)
  (fin:∀acc G,P w.n acc G->w.fin Z G=true):∀(r i:Nat) (acc:List I) (G:List M),i+r=w.n->P i acc G->∃ds G',eJ w c tt te di i r acc Z G=some (ds,G')/\P w.n ds G'
 | 0,i,acc,G,h,p=>by
  have:i=w.n:=by lia
  subst this
  exact⟨acc,G,by unfold eJ;rw [fin acc G p];rfl,p⟩
 | r+1,i,acc,G,h,p=>by
  obtain⟨d,ds,Za,Ga,y,Zb,Gb,h1,h2,h3,h4,p'⟩:=step i acc G (by lia) p
  obtain⟨ds',G',e,q⟩:=kq P step fin r (i+1) (acc++[y]) Gb (by lia) p'
  refine⟨ds',G',?_,q⟩
  unfold eJ
  rw [h1];dsimp only;rw [h2];dsimp only;rw [h3];dsimp only;rw [h4]
  exact e
theorem gD{w:Wk}{g:GF}{b:SF}(P:Nat->De->List M->Prop)
  (step:∀i Z G,i<w.n->P i Z G->∃d Z1 G1 Z2 G2,w.at_ i Z G=some d/\g (.im d) Z G=some (Z1,G1)/\b Z1 G1=some (.nx Z2 G2)/\P (i+1) Z2 G2)
  (fin:∀Z G,P w.n Z G->w.fin Z G=true):∀(r i:Nat) (Z:De) (G:List M),i+r=w.n->P i Z G->∃Z' G',bf w g b i r Z G=some (.nx Z' G')/\P w.n Z' G'
 | 0,i,Z,G,h,p=>by
  have:i=w.n:=by lia
  subst this
  exact⟨Z,G,by unfold bf;rw [fin Z G p];rfl,p⟩
 | r+1,i,Z,G,h,p=>by
  obtain⟨d,Z1,G1,Z2,G2,h1,h2,h3,p'⟩:=step i Z G (by lia) p
  obtain⟨Z',G',e,q⟩:=gD P step fin r (i+1) Z2 G2 (by lia) p'
  refine⟨Z',G',?_,q⟩
  unfold bf
  rw [h1];dsimp only;rw [h2];dsimp only;rw [h3]
  exact e
noncomputable def aL(k:Nat)(gs gs':List Mk):Prop:=∃r,gs'=gs++r/\r.length≤k
theorem aL.refl(gs:List Mk):aL 0 gs gs:=⟨[],by simp,by simp⟩
theorem aL.trans{a b:Nat}{gs g1 g2:List Mk}(x:aL a gs g1)(y:aL b g1 g2):aL (a+b) gs g2:=by
 obtain⟨r,rfl,h1⟩:=x
 obtain⟨r',rfl,h2⟩:=y
 exact⟨r++r',by simp,by rw [z14];lia⟩
theorem aL.le{a b:Nat}{gs g1:List Mk}(x:aL a gs g1)(h:a≤b):aL b gs g1:=by
 obtain⟨r,e,l⟩:=x;exact⟨r,e,by lia⟩
theorem aL.len{a:Nat}{gs g1:List Mk}(x:aL a gs g1):g1.length≤gs.length+a:=by
 obtain⟨r,rfl,l⟩:=x;rw [z14];lia
theorem At.ext{a:Nat}{gs g1:List Mk}{n:Int}{m:Mk}(h:At gs n m)(x:aL a gs g1):At g1 n m:=by
 obtain⟨r,rfl,_⟩:=x;exact h.app r
theorem vJ{gs gs':List Mk}{m:Mk}(h:gs'=gs∨gs'=gs++[m]):aL 1 gs gs':=by
 rcases h with h|h
 ·exact⟨[],by simp [h],by simp⟩
 ·exact⟨[m],h,by simp⟩
theorem mv{G:List M}{h g s:Nat}{gs:List Mk}{w:Int}(S:HG G h g s gs)(hl:gs.length<100000):∃n gs' G',fR [.im (.ref h),.im (.int w)] G=some (.im (.int n),G')/\HG G' h g s gs'/\At gs' n (.leaf w)/\aL 1 gs gs'/\Oth g s G G':=by
 obtain⟨n,gs',G',e,S',a,x,o⟩:=vI (m:=.leaf w) S hl
 have e:kj [.im (.ref h),.im (.tup [.str "leaf",.int w])] G=some (.im (.int n),G'):=e
 refine⟨n,gs',G',?_,S',a,vJ x,o⟩
 simp! [fR,S.ob,vH,e]
theorem mw{G:List M}{h g s:Nat}{gs:List Mk}{a b:Int}(S:HG G h g s gs)(hl:gs.length<100000):∃n gs' G',jk [.im (.ref h),.im (.int a),.im (.int b)] G=some (.im (.int n),G')/\HG G' h g s gs'/\At gs' n (.pair a b)/\aL 1 gs gs'/\Oth g s G G':=by
 obtain⟨n,gs',G',e,S',at_,x,o⟩:=vI (m:=.pair a b) S hl
 have e:kj [.im (.ref h),.im (.tup [.str "pair",.int a,.int b])] G=some (.im (.int n),G'):=e
 refine⟨n,gs',G',?_,S',at_,vJ x,o⟩
 simp! [jk,S.ob,vH,e]
theorem C8{G:List M}{h g s:Nat}{gs:List Mk}{n:Int}(S:HG G h g s gs)(hn:n<1∨(gs.length:Int)<n):eF [.im (.ref h),.im (.int n)] G=some (.im .non,G):=by
 by_cases h0:n<1
 ·simp! [eF,h0]
 ·have h1:(gs.length:Int)<n:=by lia
  simp! [eF,h0,S.ob,S.gl,mn,h1]
theorem C9{G:List M}{h g s:Nat}{gs:List Mk}{n:Int}{m:Mk}(S:HG G h g s gs)(hn:At gs n m):eF [.im (.ref h),.im (.int n)] G=some (.im m.i,G):=by
 obtain⟨j,rfl,hj⟩:=hn
 have hl:j<gs.length:=(zd.mp hj).1
 have h0:¬ ((j:Int)+1<1):=by lia
 have h3:¬ ((gs.length:Int)<(j:Int)+1):=by lia
 have h4:eA (gs.map Mk.i) (j:Int)=some m.i:=kO (by rw [List.getElem?_map,hj];rfl)
 have h5:(j:Int)+1-1=j:=by lia
 simp! [eF,h0,S.ob,S.gl,mn,h3,h4,h5]
theorem Dc:¬ (("given" : Str)="seals"):=by decide +kernel
theorem Dd{G:List M}:pV [.im (.ref G.length)] (G++[.obj "House" []])=some (.im .non,G++[.obj "House" (eL (G.length+1) (G.length+2)),.lst [],.dit []]):=by
 simp! [pV,gY,eL,Dc]
noncomputable def Sl(gs:List Mk):Nat->Int->List Int->Prop
 | 0,n,ws=>∃w,ws=[w]/\At gs n (.leaf w)
 | d+1,n,ws=>∃a b l r,ws=l++r/\l.length=2 ^ d/\r.length=2 ^ d/\At gs n (.pair a b)/\Sl gs d a l/\Sl gs d b r
theorem Sl.ext{k:Nat}{gs g1:List Mk}(x:aL k gs g1):∀{d:Nat} {n:Int} {ws:List Int},Sl gs d n ws->Sl g1 d n ws
 | 0,_,_,⟨w,e,h⟩=>⟨w,e,h.ext x⟩
 | d+1,_,_,⟨a,b,l,r,e,h1,h2,h3,h4,h5⟩=>⟨a,b,l,r,e,h1,h2,h3.ext x,Sl.ext x h4,Sl.ext x h5⟩
theorem Sl.len{gs:List Mk}:∀{d:Nat} {n:Int} {ws:List Int},Sl gs d n ws->ws.length=2 ^ d
 | 0,_,_,⟨w,e,h⟩=>by rw [e];rfl
 | d+1,_,_,⟨a,b,l,r,e,h1,h2,h3,h4,h5⟩=>by rw [e,z14,h1,h2,Nat.pow_succ];lia
theorem Sl.uniq{gs:List Mk}(nd:gs.Nodup):∀{d:Nat} {n n':Int} {ws:List Int},Sl gs d n ws->Sl gs d n' ws->n=n'
 | 0,_,_,_,⟨w,e,h⟩,⟨w',e',h'⟩=>by rw [e] at e';cases e';exact h.uniq nd h'
 | d+1,_,_,_,⟨a,b,l,r,e,h1,h2,h3,h4,h5⟩,⟨a',b',l',r',e',h1',h2',h3',h4',h5'⟩=>by
  rw [e] at e'
  obtain⟨rfl,rfl⟩:=List.append_inj e' (by lia)
  have:=h4.uniq nd h4'
  have:=h5.uniq nd h5'
  subst a' b'
  exact h3.uniq nd h3'
inductive Blk(gs:List Mk)(j:Nat):List Int->List Int->Prop
 | nil:Blk gs j [] []
 | cons {n:Int} {ns ws vs:List Int}:Sl gs j n ws->Blk gs j ns vs->Blk gs j (n::ns) (ws++vs)
theorem Blk.ext{k:Nat}{gs g1:List Mk}(x:aL k gs g1){j:Nat}:∀{ns ws:List Int},Blk gs j ns ws->Blk g1 j ns ws
 | _,_,.nil=>.nil
 | _,_,.cons h r=>.cons (h.ext x) (r.ext x)
theorem Blk.snoc{gs:List Mk}{j:Nat}:∀{ns ws:List Int} {n:Int} {vs:List Int},Blk gs j ns ws->Sl gs j n vs->Blk gs j (ns++[n]) (ws++vs)
 | _,_,n,vs,.nil,h=>by have:=Blk.cons h (.nil (gs:=gs) (j:=j));simpa using this
 | _,_,n,vs,.cons h0 r,h=>by
  have:=Blk.cons h0 (r.snoc h)
  simpa using this
theorem Blk.len{gs:List Mk}{j:Nat}:∀{ns ws:List Int},Blk gs j ns ws->ws.length=ns.length*2 ^ j
 | _,_,.nil=>by simp
 | _,_,.cons h r=>by rw [z14,h.len,r.len,z29,Nat.succ_mul];lia
theorem Blk.two{gs:List Mk}{j:Nat}{n n':Int}{ns ws:List Int}(h:Blk gs j (n::n'::ns) ws):∃l r t,ws=l++(r++t)/\Sl gs j n l/\Sl gs j n' r/\Blk gs j ns t:=by
 cases h with
 | cons h1 h2=>cases h2 with
  | cons h2 h3=>exact⟨_,_,_,rfl,h1,h2,h3⟩
end
section
theorem Df{xs:List I}{m:Nat}(h:xs.length=2*m):(dC xs none none (some 2)).length=m/\∀k,k<m->(dC xs none none (some 2))[k]?=xs[2*k]?:=by
 have e:dC xs none none (some 2)=((List.range m).map λk=>2*k).filterMap (xs[·]?):=by
  unfold dC sliceRange
  have c:(if (2:Int)>0 then (if (0:Int)<(xs.length:Int) then ((xs.length:Int)-0+2-1) / 2 else 0) else (if (0:Int)>(xs.length:Int) then (0-(xs.length:Int)-2-1) / (-2) else 0)).toNat=m:=by
   rw [if_pos (by decide),h]
   split<;>lia
  show ((List.range (if (2:Int)>0 then (if (0:Int)<(xs.length:Int) then ((xs.length:Int)-0+2-1) / 2 else 0) else (if (0:Int)>(xs.length:Int) then (0-(xs.length:Int)-2-1) / (-2) else 0)).toNat).map λ(k:Nat)=>(0+2*(k:Int)).toNat).filterMap (xs[·]?)=_
  rw [c]
  congr 2
  funext k
  lia
 rw [e]
 exact k4 λk hk=>by lia
theorem Dg{xs:List I}{m:Nat}(h:xs.length=2*m)(hm:0<m):(dC xs (some 1) none (some 2)).length=m/\∀k,k<m->(dC xs (some 1) none (some 2))[k]?=xs[2*k+1]?:=by
 have e:dC xs (some 1) none (some 2)=((List.range m).map λk=>2*k+1).filterMap (xs[·]?):=by
  unfold dC
  have b1:(sliceBounds (some 1) none (some 2) xs.length)=(1,(xs.length:Int),2):=by
   unfold sliceBounds
   show (max 0 (min (if (1:Int)<0 then 1+(xs.length:Int) else 1) (xs.length:Int)),(xs.length:Int),(2:Int))=_
   rw [if_neg (by decide)]
   congr 1
   lia
  rw [b1]
  unfold sliceRange
  have c:(if (2:Int)>0 then (if (1:Int)<(xs.length:Int) then ((xs.length:Int)-1+2-1) / 2 else 0) else (if (1:Int)>(xs.length:Int) then (1-(xs.length:Int)-2-1) / (-2) else 0)).toNat=m:=by
   rw [if_pos (by decide),h]
   split<;>lia
  show ((List.range (if (2:Int)>0 then (if (1:Int)<(xs.length:Int) then ((xs.length:Int)-1+2-1) / 2 else 0) else (if (1:Int)>(xs.length:Int) then (1-(xs.length:Int)-2-1) / (-2) else 0)).toNat).map λ(k:Nat)=>(1+2*(k:Int)).toNat).filterMap (xs[·]?)=_
  rw [c]
  congr 2
  funext k
  lia
 rw [e]
 exact k4 λk hk=>by lia
structure Mor(g s:Nat)(G G':List M):Prop where
 len:G.length≤G'.length
 at_:∀k,k<G.length->k≠g->k≠s->G'[k]?=G[k]?
theorem Mor.refl(g s:Nat)(G:List M):Mor g s G G:=⟨z12 _,λ_ _ _ _=>rfl⟩
theorem Mor.trans{g s:Nat}{G G1 G2:List M}(x:Mor g s G G1)(y:Mor g s G1 G2):Mor g s G G2:=⟨z25 x.len y.len,λk h h1 h2=>(y.at_ k (z1b h x.len) h1 h2).trans (x.at_ k h h1 h2)⟩
theorem Oth.mor{g s:Nat}{G G':List M}(o:Oth g s G G'):Mor g s G G':=⟨by rw [o.len];exact z12 _,λk _ h1 h2=>o.at_ k h1 h2⟩
theorem Mor.app{g s:Nat}{G:List M}(T:List M):Mor g s G (G++T):=⟨by rw [z14];lia,λk h _ _=>z1c h⟩
theorem HG.lt{G:List M}{h g s:Nat}{gs:List Mk}(S:HG G h g s gs):h<G.length/\g<G.length/\s<G.length:=⟨(zd.mp S.ob).1,(zd.mp S.gl).1,(zd.mp S.sd).1⟩
theorem HG.app{G:List M}{h g s:Nat}{gs:List Mk}(S:HG G h g s gs)(T:List M):HG (G++T) h g s gs:=by
 obtain⟨l1,l2,l3⟩:=S.lt
 exact⟨by rw [z1c l1];exact S.ob,by rw [z1c l2];exact S.gl,by rw [z1c l3];exact S.sd,S.n1,S.n2,S.n3,S.nd⟩
theorem vK(e:Ev)(n:Nat):(bx e n).n=n:=rfl
theorem vL(a b:Ev)(n:Nat):(gv a b n).n=n:=rfl
theorem Dh{G:List M}{h g s:Nat}{gs:List Mk}{ws:List Int}(S:HG G h g s gs)(hl:gs.length+ws.length<90000):∃ns gs' G',
  cH (a9 (one (aa 1)) aR) [0] c1 aU (bg "House" "leaf" 2 fR (aa 1) (af (aa 0) ae)) [↑(.ref h),↑(.tup (ws.map I.int)),none] G=some (.v (.ow (.lst (ns.map I.int))),[↑(.ref h),↑(.tup (ws.map I.int)),none],G') /\
  HG G' h g s gs'/\aL ws.length gs gs'/\Blk gs' 0 ns ws/\Oth g s G G':=by
 obtain⟨ds,G',e,ns,gs',S',x,ed,bl,o⟩:=kq (w:=bx ⇑(.tup (ws.map I.int)) (ws.map I.int).length) (c:=c1) (tt:=aU) (te:=bg "House" "leaf" 2 fR (aa 1) (af (aa 0) ae)) (di:=[↑(.ref h)]) (Z:=[↑(.ref h),↑(.tup (ws.map I.int)),none])
  (λi acc G'=>∃ns gs',HG G' h g s gs'/\aL i gs gs'/\acc=ns.map I.int/\Blk gs' 0 ns (ws.take i)/\Oth g s G G')
  (λi acc G1 hi zz=>by
   obtain⟨ns,gs1,S1,x1,ea,bl,o⟩:=zz
   have hi':i<ws.length:=by simpa [bx] using hi
   have x1l:=x1.len
   obtain⟨n,gs2,G2,e2,S2,a2,x2,o2⟩:=mv (w:=ws[i]) S1 (by lia)
   refine⟨.int ws[i],[.int ws[i]],_,_,.int n,[↑(.int ws[i]),↑(.ref h)],G2,?_,rfl,rfl,?_,ns++[n],gs2,S2,x1.trans x2,by rw [ea,z23];rfl,?_,o.trans o2⟩
   ·simp [bx,sq,hi']
   ·simp! [S1.ob,jX,e2]
   ·rw [List.take_add_one,zf hi']
    exact (bl.ext x2).snoc ⟨ws[i],rfl,a2⟩)
  (λacc G' _=>by simp [bx,sq]) ws.length 0 [] G (by simp [bx]) ⟨[],gs,S,aL.refl gs,rfl,by simpa using Blk.nil,Oth.refl _ _ _⟩
 have hw:(bx ⇑(.tup (ws.map I.int)) (ws.map I.int).length).n=ws.length:=by simp [bx]
 rw [hw] at x bl
 rw [List.take_length] at bl
 refine⟨ns,gs',G',?_,S',x,bl,o⟩
 rw [ed] at e
 have hle:ws.length≤100000:=by lia
 simp only [z19] at e
 simp [cH,mT,a9,one,bd,aa,rt,aR,oF,gX,tO,vK,hle,iH,iG,e]
theorem Di{G:List M}{h g s j m:Nat}{gs:List Mk}{ns ws:List Int}{v:I}(S:HG G h g s gs)(bl:Blk gs j ns ws)(hm:ns.length=2*m)(m0:0<m)(hl:gs.length+m<90000):∃ms gs' G',
  wR [↑(.ref h),↑v,↥(ns.map I.int)] G=some (.nx [↑(.ref h),↑v,↥(ms.map I.int)] G') /\
  HG G' h g s gs'/\aL m gs gs'/\Blk gs' (j+1) ms ws/\ms.length=m/\Mor g s G G':=by
 obtain⟨l1,l2,l3⟩:=S.lt
 have pe:=Df (xs:=ns.map I.int) (m:=m) (by simpa using hm)
 have po:=Dg (xs:=ns.map I.int) (m:=m) (by simpa using hm) m0
 obtain⟨ev,hev⟩:∃ev,dC (ns.map I.int) none none (some 2)=ev:=⟨_,rfl⟩
 obtain⟨od,hod⟩:∃od,dC (ns.map I.int) (some 1) none (some 2)=od:=⟨_,rfl⟩
 rw [hev] at pe
 rw [hod] at po
 have G0e:(G++[.lst ev]++[.lst od])[G.length]?=some (.lst ev):=by simp
 have G0o:(G++[.lst ev]++[.lst od])[G.length+1]?=some (.lst od):=by simp
 obtain⟨ds,G',e,ms,gs',dn,td,S',x,ed,ew,b1,b2,lm,o⟩:=kq (w:=gv ⇑(.ref G.length) ⇑(.ref (G.length+1)) m) (c:=cN 2) (tt:=aU) (te:=bg "House" "pair" 3 jk (aa 2) (af (aa 0) (af (aa 1) ae))) (di:=[↑(.ref h)]) (Z:=[↑(.ref h),↑v,↥(ns.map I.int)])
  (λi acc G'=>∃ms gs' dn td,HG G' h g s gs'/\aL i gs gs'/\acc=ms.map I.int/\ws=dn++td/\Blk gs' (j+1) ms dn/\Blk gs' j (ns.drop (2*i)) td/\ms.length=i/\Oth g s (G++[.lst ev]++[.lst od]) G')
  (λi acc G1 hi zz=>by
   obtain⟨ms,gs1,dn,td,S1,x1,ea,ew,b1,b2,lm,o⟩:=zz
   have hi':i<m:=hi
   have x1l:=x1.len
   have i1:2*i<ns.length:=by lia
   have i2:2*i+1<ns.length:=by lia
   have ed:ns.drop (2*i)=ns[2*i]::ns[2*i+1]::ns.drop (2*(i+1)):=by
    rw [List.drop_eq_getElem_cons i1,List.drop_eq_getElem_cons i2]
    congr 3
   rw [ed] at b2
   obtain⟨l,r,t,et,s1,s2,bt⟩:=b2.two
   obtain⟨n,gs2,G2,e2,S2,a2,x2,o2⟩:=mw (a:=ns[2*i]) (b:=ns[2*i+1]) S1 (by lia)
   have oe:G1[G.length]?=some (.lst ev):=by rw [o.at_ _ (by lia) (by lia)];exact G0e
   have oo:G1[G.length+1]?=some (.lst od):=by rw [o.at_ _ (by lia) (by lia)];exact G0o
   have ve:ev[i]?=some (.int ns[2*i]):=by rw [pe.2 i hi',List.getElem?_map,zf i1];rfl
   have vo:od[i]?=some (.int ns[2*i+1]):=by rw [po.2 i hi',List.getElem?_map,zf i2];rfl
   refine⟨.tup [.int ns[2*i],.int ns[2*i+1]],[.int ns[2*i],.int ns[2*i+1]],_,_,.int n,[↑(.int ns[2*i]),↑(.int ns[2*i+1]),↑(.ref h)],G2,?_,rfl,rfl,?_,ms++[n],gs2,dn++(l++r),t,S2,x1.trans x2,by rw [ea,z23];rfl,by rw [ew,et];simp,?_,bt.ext x2,by rw [z14,lm];rfl,o.trans o2⟩
   ·simp [gv,sq,pk,oe,oo,ve,vo]
   ·simp! [S1.ob,mq,e2]
   ·exact (b1.ext x2).snoc ⟨_,_,l,r,rfl,s1.len,s2.len,a2,s1.ext x2,s2.ext x2⟩)
  (λacc G1 zz=>by
   obtain⟨ms,gs1,dn,td,S1,x1,ea,ew,b1,b2,lm,o⟩:=zz
   have oe:G1[G.length]?=some (.lst ev):=by rw [o.at_ _ (by lia) (by lia)];exact G0e
   have oo:G1[G.length+1]?=some (.lst od):=by rw [o.at_ _ (by lia) (by lia)];exact G0o
   simp [gv,sq,pk,oe,oo,pe.1,po.1]) m 0 [] (G++[.lst ev]++[.lst od]) (by simp [gv])
  ⟨[],gs,[],ws,(S.app _).app _,aL.refl gs,rfl,rfl,.nil,bl,rfl,Oth.refl _ _ _⟩
 rw [vL] at x b2 lm
 have hd:ns.drop (2*m)=[]:=by rw [List.drop_eq_nil_iff];lia
 rw [hd] at b2
 have htd:td=[]:=by cases b2;rfl
 subst htd
 rw [z18] at ew
 subst ew
 refine⟨ms,gs',G',?_,S',x,b1,lm,?_⟩
 ·rw [ed] at e
  have hle:m≤100000:=by lia
  have e2:min ev.length od.length=m:=by rw [pe.1,po.1,Nat.min_self]
  have e:eJ (gv ⇑(.ref G.length) ⇑(.ref (G.length+1)) m) (cN 2) aU (bg "House" "pair" 3 jk (aa 2) (af (aa 0) (af (aa 1) ae))) [↑(.ref h)] 0 m [] [↑(.ref h),↑v,↥(ns.map I.int)] (G++[.lst ev,.lst od])=some (ms.map I.int,G'):=by simpa using e
  simp only [af,ae] at e
  simp [wR,aN,dy,aF,jg,cH,mT,a9,af,ae,bR,mQ,jO,one,bJ,bG,ah,hR,dZ,bd,aa,rt,jR,gX,sq,pk,vL,hle,iH,iG,hev,hod,e2,e]
 ·have q:Mor g s G (G++[.lst ev]++[.lst od]):=by rw [z2e];exact Mor.app _
  exact q.trans o.mor
theorem vM{h g s:Nat}{v:I}{ws:List Int}:∀(k:Nat) {G:List M} {j:Nat} {gs:List Mk} {ns:List Int},HG G h g s gs->Blk gs j ns ws->ns.length=2 ^ k->gs.length+2 ^ k<90000->∃n gs' G',gE wQ wR [↑(.ref h),↑v,↥(ns.map I.int)] G=some (.nx [↑(.ref h),↑v,↥[.int n]] G')/\HG G' h g s gs'/\aL (2 ^ k) gs gs'/\Sl gs' (j+k) n ws/\Mor g s G G'
 | 0,G,j,gs,ns,S,bl,hn,hl=>by
  match ns,hn with
  | [n],_ =>
   cases bl with
   | cons s1 b1 =>
    cases b1
    refine⟨n,gs,G,oA ?_,S,(aL.refl gs).le (by simp),by rw [z18];exact s1,Mor.refl _ _ _⟩
    simp! [wQ]
 | k+1,G,j,gs,ns,S,bl,hn,hl=>by
  have p0:0<2 ^ k:=Nat.two_pow_pos k
  have hn2:ns.length=2*2 ^ k:=by rw [hn,Nat.pow_succ];lia
  rw [Nat.pow_succ] at hl
  obtain⟨ms,g1,G1,e1,S1,x1,b1,lm,o1⟩:=Di (v:=v) S bl hn2 p0 (by lia)
  have x1l:=x1.len
  obtain⟨n,g2,G2,e2,S2,x2,sl,o2⟩:=vM k S1 b1 lm (by lia)
  refine⟨n,g2,G2,?_,S2,(x1.trans x2).le (by rw [Nat.pow_succ];lia),by rw [show j+(k+1)=j+1+k by lia];exact sl,o1.trans o2⟩
  rw [tG ?_ e1]
  ·exact e2
  ·have:(1:Int)<(ns.length:Int):=by lia
   simp! [wQ,this]
theorem Dj{G:List M}{h g s d:Nat}{gs:List Mk}{ws:List Int}(S:HG G h g s gs)(hw:ws.length=2 ^ d)(hd:d≤6)(hl:gs.length<80000):∃n gs' G',pf [.im (.ref h),.im (.tup (ws.map I.int))] G=some (.im (.int n),G')/\HG G' h g s gs'/\aL 128 gs gs'/\Sl gs' d n ws/\Mor g s G G':=by
 have p6:(2:Nat) ^ d≤2 ^ 6:=Nat.pow_le_pow_right (by decide) hd
 have p6:2 ^ d≤64:=p6
 obtain⟨ns,g1,G1,e1,S1,x1,b1,o1⟩:=Dh (ws:=ws) S (by lia)
 have x1l:=x1.len
 have ln:ns.length=2 ^ d:=by have:=b1.len;simp at this;lia
 obtain⟨n,g2,G2,e2,S2,x2,sl,o2⟩:=vM (v:=.tup (ws.map I.int)) d S1 b1 ln (by lia)
 refine⟨n,g2,G2,?_,S2,(x1.trans x2).le (by lia),by simpa using sl,o1.mor.trans o2⟩
 have h4:eA [I.int n] 0=some (.int n):=rfl
 simp [pf,bw,aj,aN,dy,bd,jg,rt,aF,e1,e2,aE,ag,aS,dI,iw,sq,pk,aa,ah,h4]
end
section
noncomputable def look(gs:List Mk)(n:Int):Option Mk:=if n<1 then none else gs[(n-1).toNat]?
theorem jY{gs:List Mk}{n:Int}{m:Mk}(h:At gs n m):look gs n=some m:=by
 obtain⟨j,rfl,h⟩:=h
 unfold look
 rw [if_neg (by lia),show ((j:Int)+1-1).toNat=j by lia];exact h
theorem y6e{gs:List Mk}{n:Int}{m:Mk}(h:look gs n=some m):At gs n m:=by
 unfold look at h
 split at h
 ·cases h
 ·exact⟨(n-1).toNat,by lia,h⟩
theorem pz{G:List M}{h g s:Nat}{gs:List Mk}{n:Int}(S:HG G h g s gs):eF [.im (.ref h),.im (.int n)] G=some (.im (match look gs n with|some m=>m.i|none=>.non),G):=by
 cases e:look gs n with
 | some m=>exact C9 S (y6e e)
 | none =>
  refine C8 S ?_
  unfold look at e
  split at e
  ·exact .inl (by assumption)
  ·have:=List.getElem?_eq_none_iff.mp e
   exact .inr (by lia)
noncomputable def c9(gs:List Mk)(k:Nat):Nat->Int->Option (Int×List Int)
 | 0,n=>some (n,[])
 | r+1,n=>match look gs n with
  | some (.pair a b)=>if k / 2 ^ r % 2=0 then (c9 gs k r a).map λp=>(p.1,b::p.2) else (c9 gs k r b).map λp=>(p.1,a::p.2)
  | _=>none
noncomputable def way(gs:List Mk)(d:Nat)(n:Int)(k:Nat):Option (Int×List Int):=match c9 gs k d n with
 | some (n',ss)=>match look gs n' with
  | some (.leaf w)=>some (w,ss.reverse)
  | _=>none
 | none=>none
noncomputable def jZ:Option (Int×List Int)->I
 | some (w,ss)=>.tup [.int w,.tup (ss.map I.int)]
 | none=>.non
theorem Dk:(("leaf" : Str) == "pair")=false:=by decide +kernel
theorem vN:(("pair" : Str) == "leaf")=false:=by decide +kernel
theorem kr{α:Type}(x:α)(r:List α):eA (x::r) 0=some x:=kO (j:=0) rfl
theorem wY{α:Type}(x y:α)(r:List α):eA (x::y::r) 1=some y:=kO (j:=1) rfl
theorem wZ{α:Type}(x y z:α)(r:List α):eA (x::y::z::r) 2=some z:=kO (j:=2) rfl
theorem Dl(k r:Nat):Builtin.bitAnd ((k:Int) / 2 ^ r) 1=((k / 2 ^ r % 2:Nat):Int):=by
 rw [PyProof.Rows.bitAnd_m1]
 push_cast
 rfl
theorem Dm{G:List M}{h g s:Nat}{gs:List Mk}{n:Int}{sib:List Int}{dp:I}{k r:Nat}{v6 v7:Option Vl}(S:HG G h g s gs)(hl:sib.length<1000) :
  kl [↑(.ref h),↑(.int n),↑dp,↑(.int k),↥(sib.map I.int),↑(.int r),v6,v7] G =
  match look gs n with
  | some (.pair a b)=>some (.nx [↑(.ref h),↑(.int (if k / 2 ^ r % 2=0 then a else b)),↑dp,↑(.int k),↥((sib++[if k / 2 ^ r % 2=0 then b else a]).map I.int),↑(.int r),↑(.tup [.str "pair",.int a,.int b]),↑(.int (k / 2 ^ r % 2:Nat))] G)
  | _=>some (.rt (.im .non) G):=by
 have e:=pz (n:=n) S
 cases q:look gs n with
 | none =>
  rw [q] at e
  simp! [kl,S.ob,gC,e]
 | some m =>
  rw [q] at e
  cases m with
  | leaf w =>
   have e:eF [.im (.ref h),.im (.int n)] G=some (.im (.tup [.str "leaf",.int w]),G):=e
   simp! [kl,S.ob,gC,e,kr]
  | pair a b =>
   have e:eF [.im (.ref h),.im (.int n)] G=some (.im (.tup [.str "pair",.int a,.int b]),G):=e
   have hl':sib.length<1000000:=by lia
   have hr0:(0:Int)≤(r:Int):=by lia
   have bt:=Dl k r
   rcases (show k / 2 ^ r % 2=0∨k / 2 ^ r % 2=1 by lia) with z|z
   ·rw [z] at bt
    simp! [kl,oO,S.ob,gC,e,kr,wY,wZ,vN,hr0,bt,z,hl']
   ·rw [z] at bt
    simp! [kl,oO,S.ob,gC,e,kr,wY,wZ,vN,hr0,bt,z,hl']
noncomputable def ku(d:Nat):Wk:=⟨d,λk _ _=>some (.int ((d:Int)-1-k)),λ_ _=>true⟩
theorem pA{G:List M}{h g s d:Nat}{gs:List Mk}{dp:I}{k:Nat}(S:HG G h g s gs)(hd:d≤100):∀(r i:Nat) (n:Int) (sib:List Int) (v5 v6 v7:Option Vl),i+r=d->sib.length≤i ->
  match c9 gs k r n with
  | some (n',ss)=>∃v5' v6' v7',bf (ku d) (aF 5) kl i r [↑(.ref h),↑(.int n),↑dp,↑(.int k),↥(sib.map I.int),v5,v6,v7] G=some (.nx [↑(.ref h),↑(.int n'),↑dp,↑(.int k),↥((sib++ss).map I.int),v5',v6',v7'] G)
  | none=>bf (ku d) (aF 5) kl i r [↑(.ref h),↑(.int n),↑dp,↑(.int k),↥(sib.map I.int),v5,v6,v7] G=some (.rt (.im .non) G)
 | 0,i,n,sib,v5,v6,v7,h1,h2=>by
  show ∃_,_
  exact⟨v5,v6,v7,by unfold bf;simp [ku]⟩
 | r+1,i,n,sib,v5,v6,v7,h1,h2=>by
  have ei:(d:Int)-1-i=r:=by lia
  have t:=Dm (n:=n) (sib:=sib) (dp:=dp) (k:=k) (r:=r) (v6:=v6) (v7:=v7) S (by lia)
  have hat:(ku d).at_ i [↑(.ref h),↑(.int n),↑dp,↑(.int k),↥(sib.map I.int),v5,v6,v7] G=some (.int r):=by simp [ku,ei]
  have hg:aF 5 (.im (.int r)) [↑(.ref h),↑(.int n),↑dp,↑(.int k),↥(sib.map I.int),v5,v6,v7] G=some ([↑(.ref h),↑(.int n),↑dp,↑(.int k),↥(sib.map I.int),↑(.int r),v6,v7],G):=rfl
  unfold c9
  cases q:look gs n with
  | none =>
   rw [q] at t
   dsimp only
   unfold bf
   rw [hat];dsimp only;rw [hg];dsimp only;rw [t]
  | some m =>
   rw [q] at t
   cases m with
   | leaf w =>
    dsimp only
    unfold bf
    rw [hat];dsimp only;rw [hg];dsimp only;rw [t]
   | pair a b =>
    dsimp only at t ⊢
    by_cases z:k / 2 ^ r % 2=0
    ·simp only [z,if_true] at t ⊢
     have ih:=pA (dp:=dp) (k:=k) S hd r (i+1) a (sib++[b]) ↑(.int r) ↑(.tup [.str "pair",.int a,.int b]) ↑(.int (0:Nat)) (by lia) (by rw [z14];simp;lia)
     cases e:c9 gs k r a with
     | none =>
      rw [e] at ih
      show _=_
      unfold bf
      rw [hat];dsimp only;rw [hg];dsimp only;rw [t]
      exact ih
     | some p =>
      rw [e] at ih
      obtain⟨n',ss⟩:=p
      obtain⟨w5,w6,w7,ih⟩:=ih
      refine⟨w5,w6,w7,?_⟩
      unfold bf
      rw [hat];dsimp only;rw [hg];dsimp only;rw [t]
      have:sib++[b]++ss=sib++b::ss:=by simp
      rw [this] at ih
      exact ih
    ·simp only [z,if_false] at t ⊢
     have ih:=pA (dp:=dp) (k:=k) S hd r (i+1) b (sib++[a]) ↑(.int r) ↑(.tup [.str "pair",.int a,.int b]) ↑(.int (k / 2 ^ r % 2:Nat)) (by lia) (by rw [z14];simp;lia)
     cases e:c9 gs k r b with
     | none =>
      rw [e] at ih
      show _=_
      unfold bf
      rw [hat];dsimp only;rw [hg];dsimp only;rw [t]
      exact ih
     | some p =>
      rw [e] at ih
      obtain⟨n',ss⟩:=p
      obtain⟨w5,w6,w7,ih⟩:=ih
      refine⟨w5,w6,w7,?_⟩
      unfold bf
      rw [hat];dsimp only;rw [hg];dsimp only;rw [t]
      have:sib++[a]++ss=sib++a::ss:=by simp
      rw [this] at ih
      exact ih
theorem Dn{G:List M}{h g s d:Nat}{gs:List Mk}{k:Nat}{n:Int}(S:HG G h g s gs)(hd:d≤100):me [.im (.ref h),.im (.int n),.im (.int d),.im (.int k)] G=some (.im (jZ (way gs d n k)),G):=by
 have lp:=pA (dp:=.int d) (k:=k) S hd d 0 n [] none none none (by lia) (by simp)
 have b1:(d:Int)-1<4611686018427387904:=by lia
 have b2:-4611686018427387904≤(d:Int)-1:=by lia
 have e0:((d:Int)-1 - -1).toNat=d:=by lia
 have ew:(⟨d,λk _ _=>some (.int ((d:Int)-1-k)),λ_ _=>true⟩:Wk)=ku d:=rfl
 unfold way
 cases e:c9 gs k d n with
 | none =>
  rw [e] at lp
  have lp:bf (ku d) (aF 5) kl 0 d [↑(.ref h),↑(.int n),↑(.int d),↑(.int k),↥[],none,none,none] G=some (.rt (.im .non) G):=lp
  have hn:(ku d).n=d:=rfl
  simp! [me,bu,a9,gu,b1,b2,e0,ew,hn,lp,jZ]
 | some p =>
  obtain⟨n',ss⟩:=p
  rw [e] at lp
  obtain⟨v5,v6,v7,lp⟩:=lp
  have lp:bf (ku d) (aF 5) kl 0 d [↑(.ref h),↑(.int n),↑(.int d),↑(.int k),↥[],none,none,none] G=some (.nx [↑(.ref h),↑(.int n'),↑(.int d),↑(.int k),↥(ss.map I.int),v5,v6,v7] G):=lp
  have hn:(ku d).n=d:=rfl
  have op:=pz (n:=n') S
  cases q:look gs n' with
  | none =>
   rw [q] at op
   simp! [me,bu,a9,gu,b1,b2,e0,ew,hn,lp,jZ,q,S.ob,gC,op]
  | some m =>
   rw [q] at op
   cases m with
   | pair a b =>
    have op:eF [.im (.ref h),.im (.int n')] G=some (.im (.tup [.str "pair",.int a,.int b]),G):=op
    simp! [me,bu,a9,gu,b1,b2,e0,ew,hn,lp,jZ,q,S.ob,gC,op,kr]
   | leaf w =>
    have op:eF [.im (.ref h),.im (.int n')] G=some (.im (.tup [.str "leaf",.int w]),G):=op
    simp! [me,bu,a9,gu,b1,b2,e0,ew,hn,lp,jZ,q,S.ob,gC,op,kr,wY,Dk,gp,dZ,cE]
end
section
theorem Dp{xs:List I}{m:Nat}:ji xs none (some (m:Int))=xs.take m:=by
 unfold ji
 rw [HT.y387,HT.y386,List.drop_zero,Nat.sub_zero]
 by_cases h:m≤xs.length
 ·rw [Nat.min_eq_left h]
 ·rw [Nat.min_eq_right (by lia),z36 (z12 _),z36 (by lia)]
theorem yc6{xs:List I}{m:Nat}(h:m≤xs.length):ji xs (some (m:Int)) none=xs.drop m:=by
 unfold ji
 rw [HT.y387,HT.y386,Nat.min_eq_left h]
 rw [z36 (by rw [z3a];lia)]
theorem DG.lt{d l:Nat}{G:List M}(D:DG G d l):d<G.length/\l<G.length:=by
 obtain⟨a,n,ms,D⟩:=D
 exact⟨(zd.mp D.dc).1,(zd.mp D.lc).1⟩
theorem DG.app{d l:Nat}{G:List M}(D:DG G d l)(T:List M):DG (G++T) d l:=by
 obtain⟨l1,l2⟩:=D.lt
 obtain⟨a,n,ms,D⟩:=D
 exact⟨a,n,ms,by rw [z1c l1];exact D.dc,by rw [z1c l2];exact D.lc,D.ne,D.a0,D.a1,D.n0,D.m0⟩
noncomputable def Wr(w:Int):Prop:=0≤w/\w<4294967296
theorem Dq{G:List M}{d l:Nat}(D:DG G d l):∃w G',md [.im (.ref d)] G=some (.im (.int w),G')/\Wr w/\DG G' d l/\Oth d l G G':=by
 obtain⟨r1,G1,e1,a0,a1,D1,o1⟩:=mm (many:=3) D (by decide) (by decide)
 obtain⟨r2,G2,e2,b0,b1,D2,o2⟩:=mm (many:=3) D1 (by decide) (by decide)
 obtain⟨r3,G3,e3,c0,c1,D3,o3⟩:=mm (many:=4294967296) D2 (by decide) (by decide)
 obtain⟨r4,G4,e4,p0,p1,D4,o4⟩:=mm (many:=3) D3 (by decide) (by decide)
 have o:=((o1.trans o2).trans o3).trans o4
 rcases (show r4=0∨r4=1∨r4=2 by lia) with z|z|z
 ·subst z
  exact⟨r1,G4,by simp! [md,e1,e2,e3,e4,kr],⟨a0,by lia⟩,D4,o⟩
 ·subst z
  exact⟨4294967295-r2,G4,by simp! [md,e1,e2,e3,e4,wY],⟨by lia,by lia⟩,D4,o⟩
 ·subst z
  exact⟨r3,G4,by simp! [md,e1,e2,e3,e4,wZ],⟨c0,c1⟩,D4,o⟩
theorem pB{fs:List Int}{w:Int}(h:∀f∈fs,Wr f)(hw:Wr w):∀f∈fs++[w],Wr f:=λf hf=>by
 rcases z1d.mp hf with z|z
 ·exact h f z
 ·rw [z20.mp z];exact hw
theorem Dr{G:List M}{d l:Nat}{n:Nat}{Z:De}(D:DG G d l):∃(fs:List Int) (G':List M),eJ (ez n) c1 aU (bd (af (aa 1) ae) (aV 1 md)) [↑(.ref d)] 0 n [] Z G=some (fs.map I.int,G')/\fs.length=n/\(∀f∈fs,Wr f)/\DG G' d l/\Oth d l G G':=by
 obtain⟨ds,G',e,fs,ed,lf,fr,D',o⟩:=kq (w:=ez n) (c:=c1) (tt:=aU) (te:=bd (af (aa 1) ae) (aV 1 md)) (di:=[↑(.ref d)]) (Z:=Z)
  (λi acc G'=>∃fs:List Int,acc=fs.map I.int/\fs.length=i/\(∀f∈fs,Wr f)/\DG G' d l/\Oth d l G G')
  (λi acc G1 hi zz=>by
   obtain⟨fs,ea,lf,fr,D1,o⟩:=zz
   obtain⟨w,G2,e2,hw,D2,o2⟩:=Dq D1
   refine⟨.int i,[.int i],_,_,.int w,[↑(.int i),↑(.ref d)],G2,rfl,rfl,rfl,?_,fs++[w],by rw [ea,z23];rfl,by rw [z14,lf];rfl,pB fr hw,D2,o.trans o2⟩
   simp! [e2])
  (λ_ _ _=>rfl) n 0 [] G (by simp [ez]) ⟨[],rfl,rfl,λ_ h=>(nomatch h),D,Oth.refl _ _ _⟩
 exact⟨fs,G',by rw [ed] at e;exact e,lf,fr,D',o⟩
theorem Ds{G:List M}{d l f:Nat}{n:Nat}{Z:De}{few:List Int}(D:DG G d l)(hf:G[f]?=some (.lst (few.map I.int)))(h0:0<few.length)(h1:few.length≤1000)(nd:f≠d)(nl:f≠l)(hr:∀f∈few,Wr f):∃(fs:List Int) (G':List M),eJ (ez n) c1 aU (ag aS (aa 1) (bd (af (aa 2) (af (bd (af (aa 1) ae) br) ae)) (aV 2 bL))) [↑(.ref f),↑(.ref d)] 0 n [] Z G=some (fs.map I.int,G')/\fs.length=n/\(∀f∈fs,Wr f)/\DG G' d l/\Oth d l G G':=by
 obtain⟨ds,G',e,fs,ed,lf,fr,D',o⟩:=kq (w:=ez n) (c:=c1) (tt:=aU) (te:=ag aS (aa 1) (bd (af (aa 2) (af (bd (af (aa 1) ae) br) ae)) (aV 2 bL))) (di:=[↑(.ref f),↑(.ref d)]) (Z:=Z)
  (λi acc G'=>∃fs:List Int,acc=fs.map I.int/\fs.length=i/\(∀f∈fs,Wr f)/\DG G' d l/\Oth d l G G')
  (λi acc G1 hi zz=>by
   obtain⟨fs,ea,lf,fr,D1,o⟩:=zz
   obtain⟨r,G2,e2,r0,r1,D2,o2⟩:=mm (many:=few.length) D1 (by lia) (Int.lt_of_le_of_lt (Int.ofNat_le.mpr h1) (by decide))
   have f1:G1[f]?=some (.lst (few.map I.int)):=by rw [o.at_ f nd nl];exact hf
   have f2:G2[f]?=some (.lst (few.map I.int)):=by rw [o2.at_ f nd nl];exact f1
   obtain⟨j,rfl⟩:=Int.eq_ofNat_of_zero_le r0
   have hj:j<few.length:=by lia
   have ha:eA (few.map I.int) (j:Int)=some (.int few[j]):=kO (by rw [List.getElem?_map,zf hj];rfl)
   refine⟨.int i,[.int i],_,_,.int few[j],[↑(.int i),↑(.ref f),↑(.ref d)],G2,rfl,rfl,rfl,?_,fs++[few[j]],by rw [ea,z23];rfl,by rw [z14,lf];rfl,pB fr (hr _ (z2c hj)),D2,o.trans o2⟩
   simp! [f1,f2,e2,ha])
  (λ_ _ _=>rfl) n 0 [] G (by simp [ez]) ⟨[],rfl,rfl,λ_ h=>(nomatch h),D,Oth.refl _ _ _⟩
 exact⟨fs,G',by rw [ed] at e;exact e,lf,fr,D',o⟩
theorem Dt{G:List M}{f:Nat}{n:Nat}{Z:De}{few:List Int}{w0:Int}(hf:G[f]?=some (.lst (few.map I.int)))(h0:few[0]?=some w0):∃fs:List Int,eJ (ez n) c1 aU (ag ck (ag bA (ag aS (aa 1) (ah (.int 0))) (ag cM (ah (.int 5)) (aa 0))) (ah (.int 4294967296))) [↑(.ref f)] 0 n [] Z G=some (fs.map I.int,G)/\fs.length=n/\∀f∈fs,Wr f:=by
 obtain⟨ds,G',e,fs,ed,lf,fr,eg⟩:=kq (w:=ez n) (c:=c1) (tt:=aU) (te:=ag ck (ag bA (ag aS (aa 1) (ah (.int 0))) (ag cM (ah (.int 5)) (aa 0))) (ah (.int 4294967296))) (di:=[↑(.ref f)]) (Z:=Z)
  (λi acc G'=>∃fs:List Int,acc=fs.map I.int/\fs.length=i/\(∀f∈fs,Wr f)/\G'=G)
  (λi acc G1 hi zz=>by
   obtain⟨fs,ea,lf,fr,o⟩:=zz
   subst o
   have ha:eA (few.map I.int) 0=some (.int w0):=kO (j:=0) (by rw [List.getElem?_map,h0];rfl)
   refine⟨.int i,[.int i],_,_,.int ((w0+5*i) % 4294967296),[↑(.int i),↑(.ref f)],G1,rfl,rfl,rfl,?_,fs++[(w0+5*i) % 4294967296],by rw [ea,z23];rfl,by rw [z14,lf];rfl,pB fr ⟨Int.emod_nonneg _ (by decide),Int.emod_lt_of_pos _ (by decide)⟩,rfl⟩
   simp! [hf,ha])
  (λ_ _ _=>rfl) n 0 [] G (by simp [ez]) ⟨[],rfl,rfl,λ_ h=>(nomatch h),rfl⟩
 exact⟨fs,by rw [ed,eg] at e;exact e,lf,fr⟩
theorem lB{G:List M}{d l dp:Nat}(D:DG G d l)(hd:dp≤6):∃(ws:List Int) (G':List M),mX [.im (.ref d),.im (.int dp)] G=some (.im (.tup (ws.map I.int)),G')/\ws.length=2 ^ dp/\(∀f∈ws,Wr f)/\DG G' d l/\Mor d l G G':=by
 obtain⟨N,hN⟩:∃N,2 ^ dp=N:=⟨_,rfl⟩
 obtain⟨r0,G0,e0,z0,z1,D0,o0⟩:=mm (many:=4) D (by decide) (by decide)
 obtain⟨c,rfl⟩:=Int.eq_ofNat_of_zero_le z0
 obtain⟨few,G1,e1,lf,fr,D1,o1⟩:=Dr (n:=1+c) (Z:=[↑(.ref d),↑(.int dp),none,none,none]) D0
 obtain⟨k1,k2⟩:=D1.lt
 have hf:(G1++[.lst (few.map I.int)])[G1.length]?=some (.lst (few.map I.int)):=by simp
 obtain⟨fs,G2,e2,l2,gr,D2,o2⟩:=Ds (n:=N) (Z:=[↑(.ref d),↑(.int dp),↑(.ref G1.length),none,none]) (D1.app [.lst (few.map I.int)]) hf (by lia) (by lia) (by lia) (by lia) fr
 obtain⟨r3,G3,e3,y0,y1,D3,o3⟩:=mm (many:=4) D2 (by decide) (by decide)
 have o:Mor d l G G3:=((o0.trans o1).mor.trans (Mor.app _)).trans (o2.trans o3).mor
 have hf3:G3[G1.length]?=some (.lst (few.map I.int)):=by rw [(o2.trans o3).at_ _ (by lia) (by lia)];exact hf
 have p6:(2:Nat) ^ dp≤2 ^ 6:=Nat.pow_le_pow_right (by decide) hd
 have p6:2 ^ dp≤64:=p6
 rw [hN] at p6 ⊢
 have q1:(2:Int) ^ dp=(N:Int):=by rw [<- hN];push_cast;rfl
 have q5:(dp:Int)≤1000000:=by lia
 have sh:∀(Z:De) (G:List M),ag cX (ah (.int 1)) (aa 1) (↑(.ref d)::↑(.int dp)::Z) G=some (⇑(.int (N:Int)),↑(.ref d)::↑(.int dp)::Z,G):=λZ G=>by
  simp! [q5,q1]
 have go:∀(fs':List Int),fs'.length=N->(∀f∈fs',Wr f)->(aJ (pO (aq (ag kg (aa 1) (ah (.int 0)))) (aq (ag dJ (aa 4) (ah (.int 0)))))
   (aN (ag cM (bO (aa 3) bJ (bG (ag g8 (ag cX (ah (.int 1)) (aa 1)) (ah (.int 2))))) (ah (.int 2))) (aF 3)) aQ) [↑(.ref d),↑(.int dp),↑(.ref G1.length),↥(fs.map I.int),↑(.int r3)] G3=some (.nx [↑(.ref d),↑(.int dp),↑(.ref G1.length),↥(fs'.map I.int),↑(.int r3)] G3)->∃(ws:List Int) (G':List M),mX [.im (.ref d),.im (.int dp)] G=some (.im (.tup (ws.map I.int)),G')/\ws.length=N/\(∀f∈ws,Wr f)/\DG G' d l/\Mor d l G G':=λfs' lfs' fr' hfs=>by
  have head:∀(ws:List Int),aj (aJ (aq (ag dJ (aa 4) (ah (.int 1))))
    (aN (cH (a9 (af (ag cX (ah (.int 1)) (aa 1)) ae) cG) [2] c1 aU (ag ck (ag bA (ag aS (aa 1) (ah (.int 0))) (ag cM (ah (.int 5)) (aa 0))) (ah (.int 4294967296)))) (aF 3))
    aQ)
    (aE (bd (af (aa 3) ae) cE)) [↑(.ref d),↑(.int dp),↑(.ref G1.length),↥(fs'.map I.int),↑(.int r3)] G3=some (.rt (.im (.tup (ws.map I.int))) G3)->mX [.im (.ref d),.im (.int dp)] G=some (.im (.tup (ws.map I.int)),G3):=λws hw=>by
   refine c8 rfl ?_
   refine aA (bT (mi (Z0:=[↑(.ref d),↑(.int dp),none,none,none]) (by rfl) (gB (n:=1+c) (j:=1+(c:Int)) (Z1:=[↑(.ref d),↑(.int dp),none,none,none]) (G1:=G0) ?_ (by lia) (by lia)) (by rw [pv];lia) e1) rfl) ?_
   ·simp! [e0]
   refine aA (bT (mi (Z0:=[↑(.ref d),↑(.int dp),↑(.ref G1.length),none,none]) (by rfl) (gB (n:=N) (j:=(N:Int)) (Z1:=[↑(.ref d),↑(.int dp),↑(.ref G1.length),none,none]) (G1:=G1++[M.lst (few.map I.int)]) ?_ rfl (by lia)) (by rw [pv];lia) e2) rfl) ?_
   ·exact aO (sh _ _) rfl
   refine aA (bT (x:=.im (.int r3)) (Z1:=[↑(.ref d),↑(.int dp),↑(.ref G1.length),↥(fs.map I.int),none]) (G1:=G3) ?_ rfl) ?_
   ·simp! [e3]
   exact aA hfs hw
  by_cases f1:r3=1
  ·obtain⟨w0,hw0⟩:∃w0,few[0]?=some w0:=⟨_,zf (by lia)⟩
   obtain⟨gs,e4,l4,r4⟩:=Dt (n:=N) (Z:=[↑(.ref d),↑(.int dp),↑(.ref G1.length),↥(fs'.map I.int),↑(.int r3)]) hf3 hw0
   refine⟨gs,G3,head gs ?_,l4,r4,D3,o⟩
   refine aA (b6 (Z1:=[↑(.ref d),↑(.int dp),↑(.ref G1.length),↥(fs'.map I.int),↑(.int r3)]) (G1:=G3) (by simp! [f1]) (bT (mi (Z0:=[↑(.ref d),↑(.int dp),↑(.ref G1.length),↥(fs'.map I.int),↑(.int r3)]) (by rfl) (gB (n:=N) (j:=(N:Int)) (aO (sh _ _) rfl) rfl (by lia)) (by rw [pv];lia) e4) rfl)) ?_
   simp! [cE]
  ·refine⟨fs',G3,head fs' ?_,lfs',fr',D3,o⟩
   refine aA (bP (Z1:=[↑(.ref d),↑(.int dp),↑(.ref G1.length),↥(fs'.map I.int),↑(.int r3)]) (G1:=G3) (by simp! [f1]) rfl) ?_
   simp! [cE]
 by_cases f0:(0<dp/\r3=0)
 ·obtain⟨f0,rfl⟩:=f0
  obtain⟨q,hq⟩:∃q,N=2*q:=⟨2 ^ (dp-1),by rw [<- hN];rw [show dp=(dp-1)+1 by lia,Nat.pow_succ];simp;lia⟩
  have hc:ji (fs.map I.int) none (some ((q:Int)))=(fs.take q).map I.int:=by rw [Dp,List.map_take]
  refine go (fs.take q++fs.take q) (by rw [z14,z31,l2];lia) (λf hf=>by rcases z1d.mp hf with z|z<;>exact gr f (List.mem_of_mem_take z)) ?_
  refine b6 (Z1:=[↑(.ref d),↑(.int dp),↑(.ref G1.length),↥(fs.map I.int),↑(.int 0)]) (G1:=G3) (by simp! [f0]) ?_
  refine bT (Z1:=[↑(.ref d),↑(.int dp),↑(.ref G1.length),↥(fs.map I.int),↑(.int 0)]) (G1:=G3) (x:=.ow (.lst ((fs.take q++fs.take q).map I.int))) ?_ rfl
  have hl:min q fs.length≤1000:=by lia
  refine ba (x:=.v (.ow (.lst ((fs.take q).map I.int)))) (Z1:=[↑(.ref d),↑(.int dp),↑(.ref G1.length),↥(fs.map I.int),↑(.int 0)]) (G1:=G3) ?_ rfl (by simp! [lJ,hl])
  refine aO rfl (aO rfl (aO (a:=[⇑(.int q)]) (Z1:=[↑(.ref d),↑(.int dp),↑(.ref G1.length),↥(fs.map I.int),↑(.int 0)]) (G1:=G3) (aO (ba (sh _ _) rfl (by unfold g8 bz;dsimp only;rw [if_pos (by decide),show ((N:Int) / 2)=(q:Int) by lia])) rfl) ?_))
  simp [gn,hR,dZ,hc,sq,pk]
 ·by_cases f2:0<dp
  ·have f3:¬ (r3=0):=by lia
   exact go fs l2 gr (by simp! [f2,beq_eq_false_iff_ne.mpr f3])
  ·exact go fs l2 gr (by simp! [f2])
end
section
theorem Du{w:Wk}{c:I->Option (List I)}{tt:Mo Bool}{te:Mo Ev}{di Z:De}(P:Nat->List I->List M->Prop)
  (step:∀i acc G,i<w.n->P i acc G->∃d ds Za Ga,w.at_ i Z G=some d/\c d=some ds/\((tt ((ds.map λd=>some (Vl.im d))++di) G=some (false,Za,Ga)/\P (i+1) acc Ga)∨∃y Zb Gb,tt ((ds.map λd=>some (Vl.im d))++di) G=some (true,Za,Ga)/\te Za Ga=some (⇑y,Zb,Gb)/\P (i+1) (acc++[y]) Gb))
  (fin:∀acc G,P w.n acc G->w.fin Z G=true):∀(r i:Nat) (acc:List I) (G:List M),i+r=w.n->P i acc G->∃ds G',eJ w c tt te di i r acc Z G=some (ds,G')/\P w.n ds G'
 | 0,i,acc,G,h,p=>by
  have:i=w.n:=by lia
  subst this
  exact⟨acc,G,by unfold eJ;rw [fin acc G p];rfl,p⟩
 | r+1,i,acc,G,h,p=>by
  obtain⟨d,ds,Za,Ga,h1,h2,z⟩:=step i acc G (by lia) p
  rcases z with⟨h3,p'⟩| ⟨y,Zb,Gb,h3,h4,p'⟩
  ·obtain⟨ds',G',e,q⟩:=Du P step fin r (i+1) acc Ga (by lia) p'
   refine⟨ds',G',?_,q⟩
   unfold eJ
   rw [h1];dsimp only;rw [h2];dsimp only;rw [h3]
   exact e
  ·obtain⟨ds',G',e,q⟩:=Du P step fin r (i+1) (acc++[y]) Gb (by lia) p'
   refine⟨ds',G',?_,q⟩
   unfold eJ
   rw [h1];dsimp only;rw [h2];dsimp only;rw [h3];dsimp only;rw [h4]
   exact e
theorem vO(ns:List Int)(lo hi:Option Int):∃ms:List Int,ji (ns.map I.int) lo hi=ms.map I.int/\ms.length≤ns.length:=by
 refine⟨(ns.drop (HT.sIx ns.length 0 lo)).take (HT.sIx ns.length ns.length hi-HT.sIx ns.length 0 lo),?_,?_⟩
 ·unfold ji;rw [z19,List.map_take,List.map_drop]
 ·rw [z31,z3a];lia
theorem ydb{ms:List Int}{Z:De}{G:List M}:∃so:List Int,eJ (bx (.v (.ow (.lst (ms.map I.int)))) ms.length) c1 aU (bd (af (aa 0) (af (ag bY (ah (.int 0)) (aa 0)) ae)) gm) [] 0 ms.length [] Z G=some (so.map I.int,G)/\so.length=ms.length/\∀m∈so,0≤m:=by
 obtain⟨ds,G',e,so,ed,ls,hp,eg⟩:=kq (w:=bx (.v (.ow (.lst (ms.map I.int)))) ms.length) (c:=c1) (tt:=aU) (te:=bd (af (aa 0) (af (ag bY (ah (.int 0)) (aa 0)) ae)) gm) (di:=[]) (Z:=Z)
  (λi acc G'=>∃so:List Int,acc=so.map I.int/\so.length=i/\(∀m∈so,0≤m)/\G'=G)
  (λi acc G1 hi zz=>by
   obtain⟨so,ea,ls,hp,o⟩:=zz
   have hi:i<ms.length:=hi
   subst o
   obtain⟨y,hy⟩:∃y,(if 0-ms[i]>ms[i] then 0-ms[i] else ms[i])=y:=⟨_,rfl⟩
   refine⟨.int ms[i],[.int ms[i]],_,_,.int y,[↑(.int ms[i])],G1,?_,rfl,rfl,?_,so++[y],by rw [ea,z23];rfl,by rw [z14,ls];rfl,λm hm=>?_,rfl⟩
   ·simp [bx,sq,pk,hi]
   ·subst hy;simp! [gm]
   ·rcases z1d.mp hm with z|z
    ·exact hp m z
    ·have:m=y:=by simpa using z
     subst this;subst hy;split<;>lia)
  (λ_ _ _=>by simp [bx,sq,pk]) ms.length 0 [] G (by simp [bx]) ⟨[],rfl,rfl,λ_ h=>(by cases h),rfl⟩
 exact⟨so,by rw [ed,eg] at e;exact e,ls,hp⟩
theorem yd6{so:List Int}{Z:De}{G:List M}{k:Nat}(hk:G[k]?=some (.lst (so.map I.int)))(hp:∀m∈so,0≤m):∃le:List Int,eJ (bx ⇑(.ref k) so.length) c1 (aq (ag g9 (aa 0) (ag eS (ah (.int 10)) (ah (.int 18))))) (aa 0) [] 0 so.length [] Z G=some (le.map I.int,G)/\∀m∈le,0≤m:=by
 obtain⟨ds,G',e,so',ed,hp,eg⟩:=Du (w:=bx ⇑(.ref k) so.length) (c:=c1) (tt:=aq (ag g9 (aa 0) (ag eS (ah (.int 10)) (ah (.int 18))))) (te:=aa 0) (di:=[]) (Z:=Z)
  (λi acc G'=>∃le:List Int,acc=le.map I.int/\(∀m∈le,0≤m)/\G'=G)
  (λi acc G1 hi zz=>by
   obtain⟨le,ea,hp',o⟩:=zz
   have hi:i<so.length:=hi
   subst o
   refine⟨.int so[i],[.int so[i]],[↑(.int so[i])],G1,by simp [bx,sq,pk,hk,hi],rfl,?_⟩
   by_cases z:(1000000000000000000:Int)≤so[i]
   ·refine .inr ⟨.int so[i],[↑(.int so[i])],G1,by simp! [z],by simp! [],le++[so[i]],by rw [ea,z23];rfl,λm hm=>?_,rfl⟩
    rcases z1d.mp hm with y|y
    ·exact hp' m y
    ·have:m=so[i]:=by simpa using y
     subst this;exact hp _ (z2c hi)
   ·exact .inl ⟨by simp! [];lia,le,ea,hp',rfl⟩)
  (λ_ G1 zz=>by obtain⟨_,_,_,eg⟩:=zz;subst eg;simp [bx,sq,pk,hk]) so.length 0 [] G (by simp [bx]) ⟨[],rfl,λ_ h=>(by cases h),rfl⟩
 exact⟨so',by rw [ed,eg] at e;exact e,hp⟩
theorem yd4{so:List Int}{s1 s2 s3 v:Option Vl}{G:List M}{k:Nat}{a:Int}(hk:G[k]?=some (.lst (so.map I.int)))(h0:0≤a)(h1:a<2147483647):∃a' v',bf (bx ⇑(.ref k) so.length) (aF 4) wO 0 so.length [s1,s2,s3,↑(.int a),v] G=some (.nx [s1,s2,s3,↑(.int a'),v'] G)/\0≤a'/\a'<2147483647:=by
 obtain⟨Z',G',e,a',v',ed,p0,p1,eg⟩:=gD (w:=bx ⇑(.ref k) so.length) (g:=aF 4) (b:=wO)
  (λi Z G'=>∃(a:Int) (v:Option Vl),Z=[s1,s2,s3,↑(.int a),v]/\0≤a/\a<2147483647/\G'=G)
  (λi Z G1 hi zz=>by
   obtain⟨a,v,ea,p0,p1,o⟩:=zz
   have hi:i<so.length:=hi
   subst o
   subst ea
   refine⟨.int so[i],[s1,s2,s3,↑(.int a),↑(.int so[i])],G1,[s1,s2,s3,↑(.int ((a*48271+so[i] % 2147483629) % 2147483647)),↑(.int so[i])],G1,by simp [bx,sq,pk,hk,hi],rfl,?_,_,_,rfl,Int.emod_nonneg _ (by decide),Int.emod_lt_of_pos _ (by decide),rfl⟩
   simp! [wO])
  (λ_ G1 zz=>by obtain⟨_,_,_,_,_,eg⟩:=zz;subst eg;simp [bx,sq,pk,hk]) so.length 0 [s1,s2,s3,↑(.int a),v] G (by simp [bx]) ⟨a,v,rfl,h0,h1,rfl⟩
 exact⟨a',v',by rw [ed,eg] at e;exact e,p0,p1⟩
theorem j0{fe:Mo Ev}{e:Ev}{xs:List I}{n:Nat}{Z Z1:De}{G G1:List M}(h:fe Z G=some (e,Z1,G1))(hl:gX Z1 G1 e=true)(hs:sq Z1 G1 e=some xs)(hn:xs.length=n):a9 (one fe) aR Z G=some (bx e n,[e],Z1,G1):=by
 subst hn
 refine mj (aO h rfl) ?_
 unfold aR oF
 dsimp only
 rw [if_pos hl,hs]
 rfl
theorem yd9{ns:List Int}{b:Nat}{G:List M}(h:ns.length≤63)(hb:b≤1000):∃(a:Int) (so le:List Int),vp [.im (.fro (ns.map I.int)),.im (.int b)] G=some (.ow (.dic (dD a 0 (G.length+1))),G++[.lst (so.map I.int),.lst (le.map I.int)])/\0≤a/\a<2147483647/\∀m∈le,0≤m:=by
 obtain⟨ms,hc,lm⟩:=vO ns (some (b:Int)) (some 63)
 obtain⟨so,e1,l1,p1⟩:=ydb (ms:=ms) (Z:=[↑(.fro (ns.map I.int)),↑(.int b),none,none,none]) (G:=G)
 have hk:(G++[M.lst (so.map I.int)])[G.length]?=some (.lst (so.map I.int)):=by simp
 obtain⟨a,v,e2,a0,a1⟩:=yd4 (s1:=↑(.fro (ns.map I.int))) (s2:=↑(.int b)) (s3:=↑(.ref G.length)) (v:=none) (a:=7919+(b:Int)) hk (by lia) (by lia)
 obtain⟨le,e3,p3⟩:=yd6 (Z:=[↑(.fro (ns.map I.int)),↑(.int b),↑(.ref G.length),↑(.int a),v]) hk p1
 refine⟨a,so,le.reverse,?_,a0,a1,λm hm=>p3 m (List.mem_reverse.mp hm)⟩
 refine c8 rfl ?_
 refine aA (bT (mi (Z0:=[↑(.fro (ns.map I.int)),↑(.int b),none,none,none]) (by rfl) (j0 (e:=.v (.ow (.lst (ms.map I.int)))) (n:=ms.length) (Z1:=[↑(.fro (ns.map I.int)),↑(.int b),none,none,none]) (G1:=G) ?_ rfl rfl (by simp)) (by show ms.length≤100000;lia) e1) rfl) ?_
 ·simp! [bO,bG,hR,gn,dZ,hc]
 refine aA (bT (x:=.im (.int (7919+(b:Int)))) (Z1:=[↑(.fro (ns.map I.int)),↑(.int b),↥(so.map I.int),none,none]) (G1:=G) (by simp! []) rfl) ?_
 refine aA (cF (j0 (e:=⇑(.ref G.length)) (n:=so.length) (Z1:=[↑(.fro (ns.map I.int)),↑(.int b),↑(.ref G.length),↑(.int (7919+(b:Int))),none]) (G1:=G++[M.lst (so.map I.int)]) (xs:=so.map I.int) (by simp! []) rfl (by simp [sq,pk]) (by simp)) e2) ?_
 refine mf (Z1:=[↑(.fro (ns.map I.int)),↑(.int b),↑(.ref G.length),↑(.int a),v]) ?_
 have e4:cH (a9 (one (bR (aa 2))) aR) [] c1 (aq (ag g9 (aa 0) (ag eS (ah (.int 10)) (ah (.int 18))))) (aa 0) [↑(.fro (ns.map I.int)),↑(.int b),↑(.ref G.length),↑(.int a),v] (G++[M.lst (so.map I.int)])=some (.v (.ow (.lst (le.map I.int))),[↑(.fro (ns.map I.int)),↑(.int b),↑(.ref G.length),↑(.int a),v],G++[M.lst (so.map I.int)]):=by
  refine mi (by rfl) (j0 (e:=⇑(.ref G.length)) (n:=so.length) (Z1:=[↑(.fro (ns.map I.int)),↑(.int b),↑(.ref G.length),↑(.int a),v]) (G1:=G++[M.lst (so.map I.int)]) (xs:=so.map I.int) (by simp! []) rfl (by simp [sq,pk]) (by simp)) (by show so.length≤100000;lia) e3
 have e5:bR (bC iS (cH (a9 (one (bR (aa 2))) aR) [] c1 (aq (ag g9 (aa 0) (ag eS (ah (.int 10)) (ah (.int 18))))) (aa 0))) [↑(.fro (ns.map I.int)),↑(.int b),↑(.ref G.length),↑(.int a),v] (G++[M.lst (so.map I.int)])=some (⇑(.ref (G.length+1)),[↑(.fro (ns.map I.int)),↑(.int b),↑(.ref G.length),↑(.int a),v],G++[M.lst (so.map I.int),M.lst (le.reverse.map I.int)]):=by
  refine aO (mh e4 (r:=some (.v (.ow (.lst (le.reverse.map I.int))),[↑(.fro (ns.map I.int)),↑(.int b),↑(.ref G.length),↑(.int a),v],G++[M.lst (so.map I.int)])) (by simp [iS,dZ,sq,pk])) ?_
  simp [mQ]
 refine aO (a:=[⇑(.str "seed"),⇑(.int a),⇑(.str "number"),⇑(.int 0),⇑(.str "left"),⇑(.ref (G.length+1))]) (Z1:=[↑(.fro (ns.map I.int)),↑(.int b),↑(.ref G.length),↑(.int a),v]) (G1:=G++[M.lst (so.map I.int),M.lst (le.reverse.map I.int)]) ?_ ?_
 ·refine aO rfl (aO rfl (aO (a:=[⇑(.str "number"),⇑(.int 0),⇑(.str "left"),⇑(.ref (G.length+1))]) (aO rfl (aO rfl (aO (a:=[⇑(.str "left"),⇑(.ref (G.length+1))]) (aO rfl (aO e5 (aO rfl rfl))) rfl))) rfl))
 ·simp [iU,fG,iV,bq,cY,vw,CW,vx,dD]
end
section
theorem vP{gs:List Mk}{k:Nat}:∀{r:Nat} {n n':Int} {ss:List Int},c9 gs k r n=some (n',ss)->ss.length=r
 | 0,n,n',ss,h=>by cases h;rfl
 | r+1,n,n',ss,h=>by
  unfold c9 at h
  split at h
  ·split at h
   ·rename_i a b _ _
    cases q:c9 gs k r a with
    | none=>rw [q] at h;cases h
    | some p=>rw [q] at h;cases h;exact congrArg (· + 1) (vP q)
   ·rename_i a b _ _
    cases q:c9 gs k r b with
    | none=>rw [q] at h;cases h
    | some p=>rw [q] at h;cases h;exact congrArg (· + 1) (vP q)
  ·cases h
end
section
noncomputable def eX(m:Nat):Nat:=if m % 2=0 then m+1 else m-1
theorem Dv(m:Nat):Builtin.bitXor (m:Int) 1=(eX m:Int):=by
 rw [PyProof.Rows.bitXor_and,PyProof.Rows.bitAnd_m1]
 unfold eX
 split<;>lia
noncomputable def cT(W:List Int)(k j:Nat):List Int:=(W.drop (k*2 ^ j)).take (2 ^ j)
theorem Sl.way{gs:List Mk}{W:List Int}{k:Nat}:∀{r:Nat} {n:Int},Sl gs r n (cT W (k / 2 ^ r) r)->∃n0 ss w,c9 gs k r n=some (n0,ss)/\At gs n0 (.leaf w)/\W[k]?=some w/\∀j,j<r->∃m,ss.reverse[j]?=some m/\Sl gs j m (cT W (eX (k / 2 ^ j)) j)
 | 0,n,⟨w,e,a⟩=>by
  refine⟨n,[],w,rfl,a,?_,λj hj=>by lia⟩
  unfold cT at e
  simp only [Nat.pow_zero,Nat.div_one,Nat.mul_one] at e
  have:=congrArg (·[0]?) e
  simpa [List.getElem?_take,List.getElem?_drop] using this
 | r+1,n,⟨a,b,l,rr,e,l1,l2,at_,s1,s2⟩=>by
  have hk:k / 2 ^ (r+1)=k / 2 ^ r / 2:=by rw [Nat.pow_succ,Nat.div_div_eq_div_mul]
  have hlook:=jY at_
  have p2:2 ^ (r+1)=2 ^ r+2 ^ r:=by rw [Nat.pow_succ];lia
  have el:l=(W.drop (k / 2 ^ r / 2*2 ^ (r+1))).take (2 ^ r):=by
   have:=congrArg (·.take (2 ^ r)) e
   unfold cT at this
   rw [hk] at this
   simp only [List.take_take] at this
   rw [Nat.min_eq_left (by lia),<- l1,List.take_left'] at this
   ·rw [l1] at this;exact this.symm
   ·rfl
  have er:rr=(W.drop (k / 2 ^ r / 2*2 ^ (r+1)+2 ^ r)).take (2 ^ r):=by
   have:=congrArg (·.drop (2 ^ r)) e
   unfold cT at this
   rw [hk] at this
   simp only [List.drop_take,List.drop_drop] at this
   rw [show 2 ^ (r+1)-2 ^ r=2 ^ r by lia] at this
   conv at this=>rhs;rw [<- l1,List.drop_left']
   exact this.symm
  unfold c9
  rw [hlook]
  dsimp only
  by_cases z:k / 2 ^ r % 2=0
  ·rw [if_pos z]
   have e1:l=cT W (k / 2 ^ r) r:=by
    rw [el];unfold cT;congr 2
    rw [Nat.pow_succ,Nat.mul_comm (2 ^ r) 2,<- Nat.mul_assoc];congr 1;lia
   have e2:rr=cT W (eX (k / 2 ^ r)) r:=by
    rw [er];unfold cT eX;rw [if_pos z];congr 2
    rw [Nat.add_mul,Nat.one_mul,Nat.pow_succ,Nat.mul_comm (2 ^ r) 2,<- Nat.mul_assoc];congr 2;lia
   rw [e1] at s1
   obtain⟨n0,ss,w,d1,a1,w1,sb⟩:=Sl.way s1
   refine⟨n0,b::ss,w,by rw [d1];rfl,a1,w1,λj hj=>?_⟩
   have ls:=vP d1
   by_cases q:j=r
   ·subst q
    exact⟨b,by rw [List.reverse_cons,z1f (by simp [ls]),z2d,ls];simp,by rw [<- e2];exact s2⟩
   ·obtain⟨m,h1,h2⟩:=sb j (by lia)
    exact⟨m,by rw [List.reverse_cons,z1c (by simp;lia)];exact h1,h2⟩
  ·rw [if_neg z]
   have e1:rr=cT W (k / 2 ^ r) r:=by
    rw [er];unfold cT;congr 2
    rw [Nat.pow_succ,Nat.mul_comm (2 ^ r) 2,<- Nat.mul_assoc]
    have:k / 2 ^ r=k / 2 ^ r / 2*2+1:=by lia
    conv=>rhs;rw [this,Nat.add_mul,Nat.one_mul]
   have e2:l=cT W (eX (k / 2 ^ r)) r:=by
    rw [el];unfold cT eX;rw [if_neg z];congr 2
    rw [Nat.pow_succ,Nat.mul_comm (2 ^ r) 2,<- Nat.mul_assoc];congr 1;lia
   rw [e1] at s2
   obtain⟨n0,ss,w,d1,a1,w1,sb⟩:=Sl.way s2
   refine⟨n0,a::ss,w,by rw [d1];rfl,a1,w1,λj hj=>?_⟩
   have ls:=vP d1
   by_cases q:j=r
   ·subst q
    exact⟨a,by rw [List.reverse_cons,z1f (by simp [ls]),z2d,ls];simp,by rw [<- e2];exact s1⟩
   ·obtain⟨m,h1,h2⟩:=sb j (by lia)
    exact⟨m,by rw [List.reverse_cons,z1c (by simp;lia)];exact h1,h2⟩
theorem Dw{gs:List Mk}{W:List Int}{k d:Nat}{n:Int}(h:Sl gs d n W)(hk:k<2 ^ d):∃w ss,way gs d n k=some (w,ss)/\W[k]?=some w/\ss.length=d/\∀j,j<d->∃m,ss[j]?=some m/\Sl gs j m (cT W (eX (k / 2 ^ j)) j):=by
 have e0:cT W (k / 2 ^ d) d=W:=by
  unfold cT
  rw [Nat.div_eq_of_lt hk,Nat.zero_mul,List.drop_zero,z36 (by rw [h.len];exact z12 _)]
 rw [<- e0] at h
 obtain⟨n0,ss,w,d1,a1,w1,sb⟩:=Sl.way h
 refine⟨w,ss.reverse,?_,w1,by rw [z2d];exact vP d1,sb⟩
 unfold Q.way
 rw [d1]
 dsimp only
 rw [jY a1]
end
section
structure Wd(d l h g s:Nat)(G:List M)(gs:List Mk):Prop where
 D:DG G d l
 S:HG G h g s gs
 n1:d≠g
 n2:d≠s
 n3:l≠g
 n4:l≠s
 n5:h≠d
 n6:h≠l
theorem Mor.dg{d l g s:Nat}{G G':List M}(o:Mor g s G G')(D:DG G d l)(h1:d≠g)(h2:d≠s)(h3:l≠g)(h4:l≠s):DG G' d l:=by
 obtain⟨k1,k2⟩:=D.lt
 obtain⟨a,n,ms,D⟩:=D
 exact⟨a,n,ms,by rw [o.at_ d k1 h1 h2];exact D.dc,by rw [o.at_ l k2 h3 h4];exact D.lc,D.ne,D.a0,D.a1,D.n0,D.m0⟩
theorem Mor.hg{d l h g s:Nat}{G G':List M}{gs:List Mk}(o:Mor d l G G')(S:HG G h g s gs)(h1:d≠g)(h2:d≠s)(h3:l≠g)(h4:l≠s)(h5:h≠d)(h6:h≠l):HG G' h g s gs:=by
 obtain⟨k1,k2,k3⟩:=S.lt
 exact⟨by rw [o.at_ h k1 h5 h6];exact S.ob,by rw [o.at_ g k2 h1.symm h3.symm];exact S.gl,by rw [o.at_ s k3 h2.symm h4.symm];exact S.sd,S.n1,S.n2,S.n3,S.nd⟩
theorem Wd.ofD{d l h g s:Nat}{G G':List M}{gs:List Mk}(W:Wd d l h g s G gs)(D:DG G' d l)(o:Mor d l G G'):Wd d l h g s G' gs:=⟨D,o.hg W.S W.n1 W.n2 W.n3 W.n4 W.n5 W.n6,W.n1,W.n2,W.n3,W.n4,W.n5,W.n6⟩
theorem Wd.ofS{d l h g s:Nat}{G G':List M}{gs gs':List Mk}(W:Wd d l h g s G gs)(S:HG G' h g s gs')(o:Mor g s G G'):Wd d l h g s G' gs':=⟨o.dg W.D W.n1 W.n2 W.n3 W.n4,S,W.n1,W.n2,W.n3,W.n4,W.n5,W.n6⟩
variable {d l h g s:Nat}{G:List M}{gs:List Mk}
theorem Wd.row{dp:Nat}(W:Wd d l h g s G gs)(hd:dp≤6):∃(ws:List Int) (G':List M),mX [.im (.ref d),.im (.int dp)] G=some (.im (.tup (ws.map I.int)),G')/\ws.length=2 ^ dp/\(∀f∈ws,Wr f)/\Wd d l h g s G' gs:=by
 obtain⟨r,G',e,le,hr,D,o⟩:=lB W.D hd
 exact⟨r,G',e,le,hr,W.ofD D o⟩
theorem Wd.seal{dp:Nat}{ws:List Int}(W:Wd d l h g s G gs)(hw:ws.length=2 ^ dp)(hd:dp≤6)(hl:gs.length<80000):∃n gs' G',pf [.im (.ref h),.im (.tup (ws.map I.int))] G=some (.im (.int n),G')/\Wd d l h g s G' gs'/\aL 128 gs gs'/\Sl gs' dp n ws:=by
 obtain⟨n,gs',G',e,S,x,sl,o⟩:=Dj W.S hw hd hl
 exact⟨n,gs',G',e,W.ofS S o,x,sl⟩
end
section
theorem cv{fa:Mo Ev}{fr:Mo (List Ev)}{Z Z1 Z2:De}{G G1 G2:List M}{e:Ev}{es:List Ev}(h:fa Z G=some (e,Z1,G1))(k:fr Z1 G1=some (es,Z2,G2)):af fa fr Z G=some (e::es,Z2,G2):=aO h (aO k rfl)
theorem i4{w:Wk}{g:GF}{b:SF}(P:Nat->De->List M->Prop)(R:Vl->List M->Prop)
  (step:∀i Z G,i<w.n->P i Z G->∃d Z1 G1,w.at_ i Z G=some d/\g (.im d) Z G=some (Z1,G1)/\((∃Z2 G2,b Z1 G1=some (.nx Z2 G2)/\P (i+1) Z2 G2)∨∃x G2,b Z1 G1=some (.rt x G2)/\R x G2))
  (fin:∀Z G,P w.n Z G->w.fin Z G=true):∀(r i:Nat) (Z:De) (G:List M),i+r=w.n->P i Z G->(∃Z' G',bf w g b i r Z G=some (.nx Z' G')/\P w.n Z' G')∨∃x G',bf w g b i r Z G=some (.rt x G')/\R x G'
 | 0,i,Z,G,h,p=>by
  have:i=w.n:=by lia
  subst this
  exact .inl ⟨Z,G,by unfold bf;rw [fin Z G p];rfl,p⟩
 | r+1,i,Z,G,h,p=>by
  obtain⟨d,Z1,G1,h1,h2,q⟩:=step i Z G (by lia) p
  rcases q with⟨Z2,G2,h3,p'⟩| ⟨x,G2,h3,q⟩
  ·rcases i4 P R step fin r (i+1) Z2 G2 (by lia) p' with⟨Z',G',e,q⟩| ⟨x,G',e,q⟩
   ·refine .inl ⟨Z',G',?_,q⟩
    unfold bf
    rw [h1];dsimp only;rw [h2];dsimp only;rw [h3]
    exact e
   ·refine .inr ⟨x,G',?_,q⟩
    unfold bf
    rw [h1];dsimp only;rw [h2];dsimp only;rw [h3]
    exact e
  ·refine .inr ⟨x,G2,?_,q⟩
   unfold bf
   rw [h1];dsimp only;rw [h2];dsimp only;rw [h3]
structure Pth where
 k:Nat
 w:Int
 ss:List Int
noncomputable def Pth.i(p:Pth):I:=.tup [.int (p.k:Nat),.int p.w,.tup (p.ss.map I.int)]
noncomputable def ie(q:Nat)(a b:Int):Mk:=if q % 2=0 then .pair a b else .pair b a
noncomputable def Ch(gs:List Mk)(p:Pth):Nat->Int->Prop
 | 0,n=>At gs n (.leaf p.w)
 | j+1,n=>∃a b,Ch gs p j a/\p.ss[j]?=some b/\At gs n (ie (p.k / 2 ^ j) a b)
theorem Ch.ext{k:Nat}{gs g1:List Mk}{p:Pth}(x:aL k gs g1):∀{j:Nat} {n:Int},Ch gs p j n->Ch g1 p j n
 | 0,_,h=>At.ext h x
 | _+1,_,⟨a,b,h1,h2,h3⟩=>⟨a,b,Ch.ext x h1,h2,h3.ext x⟩
theorem Ch.uniq{gs:List Mk}{p:Pth}(nd:gs.Nodup):∀{j:Nat} {n m:Int},Ch gs p j n->Ch gs p j m->n=m
 | 0,_,_,h,h'=>At.uniq nd h h'
 | _+1,_,_,⟨a,b,h1,h2,h3⟩,⟨a',b',h1',h2',h3'⟩=>by
  have e1:=Ch.uniq nd h1 h1'
  rw [h2] at h2'
  cases h2'
  subst e1
  exact h3.uniq nd h3'
noncomputable def Tl(gs:List Mk)(d:Nat)(p:Pth)(h a:Nat)(n:Int):Prop:=(h≤d/\a=p.k / 2 ^ h/\Ch gs p h n)∨(h<d/\a=eX (p.k / 2 ^ h)/\p.ss[h]?=some n)
theorem Tl.ext{k:Nat}{gs g1:List Mk}{d:Nat}{p:Pth}{h a:Nat}{n:Int}(t:Tl gs d p h a n)(x:aL k gs g1):Tl g1 d p h a n:=t.imp (λq=>⟨q.1,q.2.1,q.2.2.ext x⟩) id
theorem Tl.down{k:Nat}{gs g1:List Mk}{d:Nat}{p:Pth}{h a:Nat}{n:Int}(t:Tl g1 d p h a n)(x:aL k gs g1)(nd:g1.Nodup)(f:∃m,Ch gs p h m):Tl gs d p h a n:=by
 rcases t with⟨q1,q2,q3⟩| q
 ·obtain⟨m,hm⟩:=f
  rw [q3.uniq nd (hm.ext x)]
  exact .inl ⟨q1,q2,hm⟩
 ·exact .inr q
noncomputable def yf(gs:List Mk)(d:Nat)(ps:List Pth)(h:Nat):Prop:=∀p∈ps,∀q∈ps,∀a n m,Tl gs d p h a n->Tl gs d q h a m->n=m
noncomputable def dE(gs:List Mk)(d:Nat)(ps:List Pth):Prop:=∀h,yf gs d ps h
noncomputable def m9(gs:List Mk)(ps:List Pth)(h:Nat):Prop:=∀p∈ps,∃n,Ch gs p h n
theorem yf.up{k:Nat}{gs g1:List Mk}{d:Nat}{ps:List Pth}{h:Nat}(c:yf gs d ps h)(f:m9 gs ps h)(x:aL k gs g1)(nd:g1.Nodup):yf g1 d ps h:=λp hp q hq a n m t1 t2=>c p hp q hq a n m (t1.down x nd (f p hp)) (t2.down x nd (f q hq))
theorem dE.dn{k:Nat}{gs g1:List Mk}{d:Nat}{ps:List Pth}(c:dE g1 d ps)(x:aL k gs g1):dE gs d ps:=λh p hp q hq a n m t1 t2=>c h p hp q hq a n m (t1.ext x) (t2.ext x)
theorem m9.ext{k:Nat}{gs g1:List Mk}{ps:List Pth}{h:Nat}(f:m9 gs ps h)(x:aL k gs g1):m9 g1 ps h:=λp hp=>by obtain⟨n,q⟩:=f p hp;exact⟨n,q.ext x⟩
theorem j5(k i:Nat):k / 2 ^ i / 2=k / 2 ^ (i+1):=by rw [Nat.pow_succ,Nat.div_div_eq_div_mul]
theorem y57{G:List M}{h g s:Nat}{gs:List Mk}{p:Nat}{a b:Int}(S:HG G h g s gs)(hl:gs.length<100000) :
  ∃n gs' G',p4 [.im (.ref h),.im (.int (p:Nat)),.im (.int a),.im (.int b)] G=some (.im (.int n),G')/\HG G' h g s gs'/\aL 1 gs gs'/\Oth g s G G'/\At gs' n (ie p a b):=by
 have bt:Builtin.bitAnd (p:Int) 1=(p:Int) % 2:=PyProof.Rows.bitAnd_m1 p
 unfold ie
 by_cases z:p % 2=0
 ·obtain⟨n,gs',G',e,S',at_,x,o⟩:=mw (a:=a) (b:=b) S hl
  have z':(p:Int) % 2=0:=by lia
  exact⟨n,gs',G',by simp! [p4,oO,bt,z',S.ob,mq,e],S',x,o,by rw [if_pos z];exact at_⟩
 ·obtain⟨n,gs',G',e,S',at_,x,o⟩:=mw (a:=b) (b:=a) S hl
  have z':¬ ((p:Int) % 2=0):=by lia
  exact⟨n,gs',G',by simp! [p4,oO,bt,beq_eq_false_iff_ne.mpr z',S.ob,mq,e],S',x,o,by rw [if_neg z];exact at_⟩
noncomputable abbrev Pl:=Nat×Nat×Int
noncomputable def Pl.i(e:Pl):I:=.tup [.tup [.int (e.1:Nat),.int (e.2.1:Nat)],.int e.2.2]
noncomputable def i5(h:Nat)(p:Pth)(sl:Int)(T:List Pl)(v7 v8 v9:Option Vl):De:=[↑(.ref h),↑p.i,↑(.int (p.k:Nat)),↑(.int p.w),↑(.tup (p.ss.map I.int)),↑(.int sl),↥(T.map Pl.i),v7,v8,v9]
theorem Dx{G:List M}{h g s i:Nat}{gs:List Mk}{p:Pth}{sl m:Int}{T:List Pl}{v9:Option Vl}(S:HG G h g s gs)(hl:gs.length<90000)(lt:T.length<1000)(s1:Ch gs p i sl)(s2:p.ss[i]?=some m) :
  ∃n gs' G' v9',CQ (i5 h p sl T ↑(.int (i:Nat)) ↑(.int m) v9) G=some (.nx (i5 h p n (T++[(i,eX (p.k / 2 ^ i),m),(i+1,p.k / 2 ^ (i+1),n)]) ↑(.int (i:Nat)) ↑(.int m) v9') G')/\HG G' h g s gs'/\aL 1 gs gs'/\Oth g s G G'/\Ch gs' p (i+1) n:=by
 obtain⟨n,gs',G',e,S',x,o,s3⟩:=y57 (p:=p.k / 2 ^ i) (a:=sl) (b:=m) S (by lia)
 have hq:(p.k:Int) / 2 ^ i=((p.k / 2 ^ i:Nat):Int):=by push_cast;rfl
 have hr:((p.k / 2 ^ i:Nat):Int) / 2=((p.k / 2 ^ (i+1):Nat):Int):=by rw [<- j5];push_cast;rfl
 have hx:=Dv (p.k / 2 ^ i)
 have s4:Ch gs' p (i+1) n:=⟨sl,m,s1.ext x,s2,s3⟩
 obtain⟨q,eq⟩:∃q,p.k / 2 ^ i=q:=⟨_,rfl⟩
 obtain⟨r,er⟩:∃r,p.k / 2 ^ (i+1)=r:=⟨_,rfl⟩
 obtain⟨b,eb⟩:∃b,eX (p.k / 2 ^ i)=b:=⟨_,rfl⟩
 rw [eb] at hx ⊢
 rw [er] at hr ⊢
 rw [eq] at hq hr hx e
 refine⟨n,gs',G',↑(.int (q:Nat)),?_,S',x,o,s4⟩
 refine aA (bT (x:=.im (.int (q:Nat))) (Z1:=i5 h p sl T ↑(.int (i:Nat)) ↑(.int m) v9) (G1:=G) (by simp! [i5,hq]) rfl) ?_
 have t1:T.length<1000000:=by lia
 have t2:T.length+1<1000000:=by lia
 refine aA (wW (e:=⇑.non) (Z1:=i5 h p sl (T++[(i,b,m)]) ↑(.int (i:Nat)) ↑(.int m) ↑(.int (q:Nat))) (G1:=G) (by simp! [i5,fE,hx,t1,Pl.i])) ?_
 refine aA (bT (x:=.im (.int n)) (Z1:=i5 h p sl (T++[(i,b,m)]) ↑(.int (i:Nat)) ↑(.int m) ↑(.int (q:Nat))) (G1:=G') (by simp! [i5,e]) rfl) ?_
 refine wW (e:=⇑.non) ?_
 simp! [i5,hr,t2,Pl.i]
structure Told(gs:List Mk)(d:Nat)(p:Pth)(T:List Pl):Prop where
 ok:∀e∈T,Tl gs d p e.1 e.2.1 e.2.2
 le:T.length≤13
 on:∀j,j≤d->∃n,(j,p.k / 2 ^ j,n)∈T/\Ch gs p j n
 by_:∀j n,j<d->p.ss[j]?=some n->(j,eX (p.k / 2 ^ j),n)∈T
theorem Dy(xs:List I):(jS xs).n=xs.length:=rfl
theorem Dz{G:List M}{h g s d:Nat}{gs:List Mk}{p:Pth}(S:HG G h g s gs)(hl:gs.length<80000)(ls:p.ss.length=d)(hd:d≤6) :
  ∃T gs' G',wV [.im (.ref h),.im p.i] G=some (.ow (.lst (T.map Pl.i)),G')/\HG G' h g s gs'/\aL 7 gs gs'/\Oth g s G G'/\Told gs' d p T:=by
 obtain⟨n0,gs1,G1,e1,S1,a1,x1,o1⟩:=mv (w:=p.w) S (by lia)
 have l1:=x1.len
 have lx:(jS (p.ss.map I.int)).n=d:=by rw [Dy,z19,ls]
 have k0:p.k / 2 ^ 0=p.k:=by rw [Nat.pow_zero,Nat.div_one]
 obtain⟨Z',G',ef,sl,T,gs',v7,v8,v9,rfl,S',x',o',_,ok,tl,on,by_⟩:=gD (w:=jS (p.ss.map I.int)) (g:=bX [7,8]) (b:=CQ)
  (λi Z G'=>∃sl T gs' v7 v8 v9,Z=i5 h p sl T v7 v8 v9/\HG G' h g s gs'/\aL (1+i) gs gs'/\Oth g s G G'/\Ch gs' p i sl/\(∀e∈T,Tl gs' d p e.1 e.2.1 e.2.2)/\T.length=1+2*i/\(∀j,j≤i->∃n,(j,p.k / 2 ^ j,n)∈T/\Ch gs' p j n)/\(∀j n,j<i->p.ss[j]?=some n->(j,eX (p.k / 2 ^ j),n)∈T))
  (λi Z G2 hi zz=>by
   obtain⟨sl,T,gs2,v7,v8,v9,hδ,S2,x2,o2,s2,ok,tl,on,by_⟩:=zz
   rw [lx] at hi
   subst hδ
   have l2:=x2.len
   obtain⟨m,hm⟩:∃m,p.ss[i]?=some m:=⟨_,zf (by lia)⟩
   obtain⟨n,gs3,G3,v9',e3,S3,x3,o3,s3⟩:=Dx (v9:=v9) (T:=T) S2 (by lia) (by lia) s2 hm
   refine⟨.tup [.int i,.int m],_,_,_,G3,?_,rfl,e3,n,_,gs3,_,_,_,rfl,S3,x2.trans x3,o2.trans o3,s3,λe he=>?_,?_,λj hj=>?_,λj n' hj hn=>?_⟩
   ·show ((p.ss.map I.int)[i]?).map _=_
    rw [List.getElem?_map,hm];rfl
   ·rcases z1d.mp he with he|he
    ·exact (ok e he).ext x3
    ·rcases z1e.mp he with rfl|he
     ·exact .inr ⟨hi,rfl,hm⟩
     ·rw [z20.mp he]
      exact .inl ⟨hi,rfl,s3⟩
   ·rw [z14,tl];simp;lia
   ·rcases Nat.lt_or_ge i j with z|z
    ·obtain rfl:j=i+1:=by lia
     exact⟨n,z22 _ (by simp),s3⟩
    ·obtain⟨n',q,c⟩:=on j z
     exact⟨n',List.mem_append_left _ q,c.ext x3⟩
   ·rcases Nat.lt_or_ge j i with z|z
    ·exact List.mem_append_left _ (by_ j n' z hn)
    ·obtain rfl:j=i:=by lia
     rw [hm] at hn
     cases hn
     exact z22 _ (by simp))
  (λ_ _ _=>rfl) d 0 (i5 h p n0 [(0,p.k,n0)] none none none) G1 (by lia)
  ⟨n0,_,gs1,none,none,none,rfl,S1,x1,o1,a1,λe he=>by
   rw [z20.mp he]
   exact .inl ⟨Nat.zero_le _,k0.symm,a1⟩,rfl,λj hj=>by
   obtain rfl:j=0:=by lia
   exact⟨n0,by rw [k0];simp,a1⟩,λj n hj=>by lia⟩
 rw [lx] at x' tl on by_
 refine⟨T,gs',G',?_,S',x'.le (by lia),o',ok,by lia,on,by_⟩
 refine c8 rfl ?_
 refine aA (bT (x:=.im p.i) (Z1:=[↑(.ref h),↑p.i,none,none,none,none,none,none,none,none]) (G1:=G) rfl rfl) ?_
 refine aA (bT (x:=.im (.int n0)) (Z1:=[↑(.ref h),↑p.i,↑(.int p.k),↑(.int p.w),↑(.tup (p.ss.map I.int)),none,none,none,none,none]) (G1:=G1) (by simp! [S.ob,jX,e1]) rfl) ?_
 refine aA (bT (x:=.ow (.lst [Pl.i (0,p.k,n0)])) (Z1:=[↑(.ref h),↑p.i,↑(.int p.k),↑(.int p.w),↑(.tup (p.ss.map I.int)),↑(.int n0),none,none,none,none]) (G1:=G1) (by simp! [Pl.i]) rfl) ?_
 refine aA (cF (w:=jS (p.ss.map I.int)) (Z1:=i5 h p n0 [(0,p.k,n0)] none none none) (G1:=G1) (mj rfl rfl) (by rw [lx];exact ef)) ?_
 simp! [i5]
end
section
theorem vQ{κ':Type}[DecidableEq κ'](g k:κ')(x:I)(D:List (κ'×I)):cY ((g,x)::D) k=(decide (g=k)||cY D k):=rfl
theorem ig{κ':Type}[DecidableEq κ'](g k:κ')(x:I)(D:List (κ'×I)):ax ((g,x)::D) k=if g=k then some x else ax D k:=rfl
theorem vR{κ':Type}[DecidableEq κ'](k k':κ')(v:I):∀D:List (κ'×I),ax (D.map λkv=>if kv.1=k then (kv.1,v) else kv) k'=if k=k' then (if cY D k then some v else none) else ax D k'
 | []=>by simp [ax,cY]
 | (g,x)::D=>by
  rw [z1a,vQ,ig]
  have ih:=vR k k' v D
  by_cases hg:g=k
  ·subst hg
   rw [if_pos rfl,ig,ih]
   by_cases e:g=k'
   ·simp [e]
   ·simp [e]
  ·rw [if_neg hg,ig,ih]
   by_cases e:g=k'
   ·subst e
    simp [hg,Ne.symm hg]
   ·simp [hg,e]
theorem vS{κ':Type}[DecidableEq κ'](k k':κ')(v:I):∀D:List (κ'×I),cY D k=false->ax (D++[(k,v)]) k'=if k=k' then some v else ax D k'
 | [],_=>by simp [ax]
 | (g,x)::D,h=>by
  rw [vQ] at h
  have h':=Bool.or_eq_false_iff.mp h
  have hg:¬ g=k:=of_decide_eq_false h'.1
  rw [List.cons_append,ig,ig,vS k k' v D h'.2]
  by_cases e:g=k'
  ·subst e
   rw [if_pos rfl,if_pos rfl,if_neg (Ne.symm hg)]
  ·rw [if_neg e,if_neg e]
theorem eY{κ':Type}[DecidableEq κ'](D:List (κ'×I))(k k':κ')(v:I):ax (bq D k v) k'=if k=k' then some v else ax D k':=by
 unfold bq
 split
 ·rename_i h
  rw [vR,if_pos h]
 ·rename_i h
  exact vS k k' v D (by simpa using h)
theorem my{κ':Type}[DecidableEq κ'](D:List (κ'×I))(k:κ')(v:I):(bq D k v).length≤D.length+1:=by
 unfold bq
 split
 ·rw [z19];lia
 ·rw [z14];simp
noncomputable def ky(h p:Nat):List aB:=[.inl (h:Int),.inl (p:Int)]
theorem DA{h p h' p':Nat}(e:ky h p=ky h' p'):h=h'/\p=p':=by
 unfold ky at e
 simp at e
 exact⟨by lia,by lia⟩
theorem vT:∀(ns acc:List Int),(acc++ns).Nodup->ns.foldl PyProof.Rows.step_dedup acc=acc++ns
 | [],acc,_=>by simp
 | n::ns,acc,h=>by
  rw [List.foldl_cons]
  have e:PyProof.Rows.step_dedup acc n=acc++[n]:=by
   unfold PyProof.Rows.step_dedup
   rw [if_neg]
   intro z
   obtain⟨x,hx,e⟩:=List.any_eq_true.mp z
   have e:x=n:=by simpa using e
   subst e
   exact (List.nodup_append.mp h).2.2 x hx x (by simp) rfl
  have h2:((acc++[n])++ns).Nodup:=by rw [z2e];exact h
  rw [e,vT ns _ h2,z2e]
  rfl
theorem dF{α:Type}{l:List α}{i:Nat}{a b:α}(h:l[i]?=some a)(m:b∈l.take (i+1)):b∈l.take i∨b=a:=by
 rw [List.take_succ,h] at m
 rcases z1d.mp m with m|m
 ·exact .inl m
 ·exact .inr (by simpa using m)
theorem mz{α:Type}(f:α->I)(xs:List α)(Z:De)(G:List M)(i:Nat):(bx ⇑(.tup (xs.map f)) xs.length).at_ i Z G=(xs[i]?).map f:=by
 simp [bx,sq]
theorem mB{α:Type}(f:α->I)(xs:List α)(Z:De)(G:List M):(bx ⇑(.tup (xs.map f)) xs.length).fin Z G=true:=by
 show decide ((xs.map f).length≤xs.length)=true
 simp
theorem i6{α:Type}{fe:Mo Ev}(f:α->I)(xs:List α){Z Z1:De}{G G1:List M}(h:fe Z G=some (⇑(.tup (xs.map f)),Z1,G1)):a9 (one fe) aR Z G=some (bx ⇑(.tup (xs.map f)) xs.length,[⇑(.tup (xs.map f))],Z1,G1):=by
 refine mj (es:=[⇑(.tup (xs.map f))]) (aO h rfl) ?_
 simp [aR,oF,gX,tO]
theorem i7(x:Int)(Z:De)(G:List M):dM [⇑(.int x),⇑(.int x)] Z G=some (⇑(.bl false),Z,G):=by
 simp! []
structure Pq where
 k:Int
 w:Int
 ss:List Int
noncomputable def Pq.i(p:Pq):I:=.tup [.int p.k,.int p.w,.tup (p.ss.map I.int)]
structure y47(gs:List Mk)(d:Nat)(p:Pq):Prop where
 k0:0≤p.k
 k1:p.k<2 ^ d
 wr:Wr p.w
 ls:p.ss.length=d
 op:∀x∈p.ss,(look gs x).isSome=true
theorem vU(bs:List Bool)(Z:De)(G:List M):jU [.v (.ow (.lst (bs.map I.bl)))] Z G=some (⇑(.bl (bs.all id)),Z,G):=by
 unfold jU
 dsimp only [pk]
 rw [y87]
theorem DB(gs:List Mk)(x:Int)(Z:De)(G:List M):fY false [⇑(match look gs x with|some m=>m.i|none=>.non)] Z G=some (⇑(.bl (look gs x).isSome),Z,G):=by
 cases look gs x with
 | none=>rfl
 | some m=>cases m<;>rfl
theorem vV{G:List M}{h g s:Nat}{gs:List Mk}{ss:List Int}{Z:De}(S:HG G h g s gs):eJ (bx ⇑(.tup (ss.map I.int)) ss.length) c1 aU (bC (fY false) (bg "House" "opened" 2 eF (aa 1) (af (aa 0) ae))) [↑(.ref h)] 0 ss.length [] Z G=some ((ss.map λx=>(look gs x).isSome).map I.bl,G):=by
 obtain⟨ds,G',ec,ed,rfl⟩:=kq (w:=bx ⇑(.tup (ss.map I.int)) ss.length) (c:=c1) (tt:=aU) (te:=bC (fY false) (bg "House" "opened" 2 eF (aa 1) (af (aa 0) ae))) (di:=[↑(.ref h)]) (Z:=Z)
  (λi acc G'=>acc=((ss.take i).map λx=>(look gs x).isSome).map I.bl/\G'=G)
  (λi acc G1 hi zz=>by
   obtain⟨ea,eg⟩:=zz
   subst eg
   have hi:i<ss.length:=hi
   have eo:=pz (n:=ss[i]) S
   refine⟨.int ss[i],[.int ss[i]],_,_,.bl (look gs ss[i]).isSome,_,G1,by rw [mz,zf hi];rfl,rfl,rfl,mh (Z1:=[↑(.int ss[i]),↑(.ref h)]) (G1:=G1) (x:=⇑(match look gs ss[i] with|some m=>m.i|none=>.non)) (by simp! [S.ob,gC,eo]<;>rfl) (DB _ _ _ _),?_,rfl⟩
   rw [ea,List.take_succ_eq_append_getElem hi,z23,z23];rfl)
  (λ_ _ _=>mB _ _ _ _) ss.length 0 [] G (by simp [bx]) ⟨rfl,rfl⟩
 have ed:ds=((ss.take ss.length).map λx=>(look gs x).isSome).map I.bl:=ed
 rw [List.take_length] at ed
 rw [ed] at ec
 exact ec
theorem DD{G:List M}{h g s d:Nat}{gs:List Mk}{p:Pq}(S:HG G h g s gs)(hl:p.ss.length≤1000):∃b:Bool,mY [.im (.ref h),.im (.int (d:Nat)),.im p.i] G=some (.im (.bl b),G)/\(b=true↔y47 gs d p):=by
 have start:∀r,aj (aJ (cx (aq (ag fQ (aa 3) (ah (.int 0)))) (cx (aq (ag kg (ag gh (aa 3) (aa 1)) (ah (.int 0)))) (cx (aq (ag fQ (aa 4) (ah (.int 0)))) (cx (aq (ag g9 (aa 4) (ah (.int 4294967296)))) (aq (ag dM (bd (af (aa 5) ae) br) (aa 1)))))))
   (aE (ah (.bl false)))
   aQ)
   (aE (bd (af (cH (a9 (one (aa 5)) aR) [0] c1 aU (bC (fY false) (bg "House" "opened" 2 eF (aa 1) (af (aa 0) ae)))) ae) jU)) [↑(.ref h),↑(.int (d:Nat)),↑p.i,↑(.int p.k),↑(.int p.w),↑(.tup (p.ss.map I.int))] G=some (.rt (.im (.bl r)) G)->mY [.im (.ref h),.im (.int (d:Nat)),.im p.i] G=some (.im (.bl r),G):=λr hr=>by
  refine c8 rfl ?_
  exact aA (bT (x:=.im p.i) (Z1:=[↑(.ref h),↑(.int (d:Nat)),↑p.i,none,none,none]) (G1:=G) rfl rfl) hr
 obtain⟨N,hN⟩:∃N:Int,(2:Int) ^ d=N:=⟨_,rfl⟩
 have pN:0<N:=by rw [<- hN];exact Int.pow_pos (by decide)
 have dv:(0<p.k / N)↔N≤p.k:=by
  constructor
  ·intro h
   have:=(Int.le_ediv_iff_mul_le pN (a:=1) (b:=p.k)).mp h
   lia
  ·intro h
   exact (Int.le_ediv_iff_mul_le pN (a:=1) (b:=p.k)).mpr (by lia)
 by_cases c1:p.k<0
 ·exact⟨false,start _ (cB (b6 (Z1:=[↑(.ref h),↑(.int (d:Nat)),↑p.i,↑(.int p.k),↑(.int p.w),↑(.tup (p.ss.map I.int))]) (G1:=G) (by simp! [c1]) rfl)),by simp;intro z;have:=z.k0;lia⟩
 by_cases c2:0<p.k / N
 ·exact⟨false,start _ (cB (b6 (Z1:=[↑(.ref h),↑(.int (d:Nat)),↑p.i,↑(.int p.k),↑(.int p.w),↑(.tup (p.ss.map I.int))]) (G1:=G) (by simp! [c1,hN,c2]) rfl)),by simp;intro z;have:=z.k1;rw [hN] at this;have:=dv.mp c2;lia⟩
 by_cases c3:p.w<0
 ·exact⟨false,start _ (cB (b6 (Z1:=[↑(.ref h),↑(.int (d:Nat)),↑p.i,↑(.int p.k),↑(.int p.w),↑(.tup (p.ss.map I.int))]) (G1:=G) (by simp! [c1,hN,c2,c3]) rfl)),by simp;intro z;have:=z.wr.1;lia⟩
 by_cases c4:4294967296≤p.w
 ·exact⟨false,start _ (cB (b6 (Z1:=[↑(.ref h),↑(.int (d:Nat)),↑p.i,↑(.int p.k),↑(.int p.w),↑(.tup (p.ss.map I.int))]) (G1:=G) (by simp! [c1,hN,c2,c3,c4]) rfl)),by simp;intro z;have:=z.wr.2;lia⟩
 by_cases c5:p.ss.length=d
 ·refine⟨(p.ss.map λx=>(look gs x).isSome).all id,start _ (aA (bP (Z1:=[↑(.ref h),↑(.int (d:Nat)),↑p.i,↑(.int p.k),↑(.int p.w),↑(.tup (p.ss.map I.int))]) (G1:=G) (by simp! [c1,hN,c2,c3,c4,c5]) rfl) (mf (Z1:=[↑(.ref h),↑(.int (d:Nat)),↑p.i,↑(.int p.k),↑(.int p.w),↑(.tup (p.ss.map I.int))]) (aO (cv (es:=[]) (mi (Z0:=[↑(.ref h),↑(.int (d:Nat)),↑p.i,↑(.int p.k),↑(.int p.w),↑(.tup (p.ss.map I.int))]) rfl (i6 I.int p.ss rfl) (by show p.ss.length≤_;lia) (vV S)) rfl) (vU _ _ _)))),?_⟩
  rw [z39]
  constructor
  ·intro z
   exact⟨by lia,by rw [hN];have:=λq=>c2 (dv.mpr q);lia,⟨by lia,by lia⟩,c5,λx hx=>z _ (List.mem_map_of_mem hx)⟩
  ·intro z b hb
   obtain⟨x,hx,rfl⟩:=z30.mp hb
   exact z.op x hx
 ·have c5':¬ ((p.ss.length:Int)=(d:Int)):=by lia
  exact⟨false,start _ (cB (b6 (Z1:=[↑(.ref h),↑(.int (d:Nat)),↑p.i,↑(.int p.k),↑(.int p.w),↑(.tup (p.ss.map I.int))]) (G1:=G) (by simp! [c1,hN,c2,c3,c4,beq_eq_false_iff_ne.mpr c5']) rfl)),by simp;intro z;exact c5 z.ls⟩
theorem DE:∀(ns acc:List Int),acc.Nodup->(ns.foldl PyProof.Rows.step_dedup acc).length≤acc.length+ns.length/\((ns.foldl PyProof.Rows.step_dedup acc).length=acc.length+ns.length->(acc++ns).Nodup)
 | [],acc,h=>by simp [h]
 | n::ns,acc,h=>by
  rw [List.foldl_cons]
  by_cases z:acc.any (· == n)=true
  ·have e:PyProof.Rows.step_dedup acc n=acc:=by unfold PyProof.Rows.step_dedup;rw [if_pos z]
   obtain⟨q1,q2⟩:=DE ns acc h
   rw [e]
   simp only [z29]
   exact⟨by lia,λy=>by lia⟩
  ·have e:PyProof.Rows.step_dedup acc n=acc++[n]:=by unfold PyProof.Rows.step_dedup;rw [if_neg z]
   have hn:(acc++[n]).Nodup:=by
    rw [List.nodup_append]
    refine⟨h,by simp,λa ha b hb e=>?_⟩
    subst e
    have hb:a=n:=by simpa using hb
    subst hb
    exact z (List.any_eq_true.mpr ⟨a,ha,by simp⟩)
   obtain⟨q1,q2⟩:=DE ns (acc++[n]) hn
   rw [e]
   rw [z14] at q1 q2
   simp only [z29,List.length_nil] at q1 q2 ⊢
   refine⟨by lia,λy=>?_⟩
   have:=q2 (by lia)
   rwa [z2e] at this
theorem yd2(ns:List Int):iY ns=ns.foldl PyProof.Rows.step_dedup []:=by
 unfold iY PyProof.Rows.firstMet
 have e:(List.range ns.length).map (λi=>ns.getD i 0)=ns:=by
  refine List.ext_getElem? λi=>?_
  rw [List.getElem?_map]
  by_cases hi:i<ns.length
  ·rw [List.getElem?_range hi,zf hi]
   show some (ns.getD i 0)=_
   rw [List.getD_eq_getElem?_getD,zf hi]
   rfl
  ·rw [List.getElem?_eq_none (by simp;lia),List.getElem?_eq_none (by lia)]
   rfl
 rw [e]
theorem yd1{ns:List Int}:(iY ns).length<ns.length↔¬ ns.Nodup:=by
 rw [yd2]
 obtain⟨q1,q2⟩:=DE ns [] .nil
 simp only [List.length_nil,Nat.zero_add,List.nil_append] at q1 q2
 constructor
 ·intro h z
  rw [vT ns [] (by simpa using z)] at h
  simp at h
 ·intro h
  rcases Nat.lt_or_ge (ns.foldl PyProof.Rows.step_dedup []).length ns.length with y|y
  ·exact y
  ·exact absurd (q2 (by lia)) h
theorem DF{ns:List Int}(hl:ns.length≤4000)(Z:De)(G:List M):ia [.v (.ow (.lst (ns.map I.int)))] Z G=some (⇑(.int (iY ns).length),Z,G):=by
 unfold ia
 dsimp only [pk]
 rw [u0]
 dsimp only
 rw [if_pos hl]
end
section
noncomputable def cQ(h d:Nat)(ps:List Pth)(D:List (List aB×I))(v4 v5 v6:Option Vl):De:=[↑(.ref h),↑(.int (d:Nat)),↑(.tup (ps.map Pth.i)),some (.ow (.dit D)),v4,v5,v6]
theorem vW{h d a b:Nat}{ps:List Pth}{D:List (List aB×I)}{v4:Option Vl}{n:Int}{y:I}{G:List M}(hl:D.length<1000000)(hv:ax D (ky a b)=some y):l9 gy (aa 3) (af (aa 5) (af (aa 6) ae)) (cQ h d ps D v4 ↑(.tup [.int (a:Nat),.int (b:Nat)]) ↑(.int n)) G=some (⇑y,cQ h d ps D v4 ↑(.tup [.int (a:Nat),.int (b:Nat)]) ↑(.int n),G):=by
 have hk:eE (.tup [.int (a:Nat),.int (b:Nat)])=some (ky a b):=rfl
 refine aO (a:=.s 3) (Z1:=cQ h d ps D v4 ↑(.tup [.int (a:Nat),.int (b:Nat)]) ↑(.int n)) (G1:=G) rfl ?_
 refine (if_pos (show iZ _ _ (.s 3)=true from rfl)).trans ?_
 refine aO (a:=[⇑(.tup [.int (a:Nat),.int (b:Nat)]),⇑(.int n)]) (Z1:=cQ h d ps D v4 ↑(.tup [.int (a:Nat),.int (b:Nat)]) ↑(.int n)) (G1:=G) rfl ?_
 unfold gy
 dsimp only
 rw [show pk (cQ h d ps D v4 ↑(.tup [.int (a:Nat),.int (b:Nat)]) ↑(.int n)) G (.s 3)=some (.dit D) from rfl,hk]
 dsimp only
 rw [if_pos hl,hv]
theorem DH{h d a b:Nat}{ps:List Pth}{D:List (List aB×I)}{v4:Option Vl}{n:Int}{G:List M}(hl:D.length<1000000)(hv:ax D (ky a b)=none):l9 gy (aa 3) (af (aa 5) (af (aa 6) ae)) (cQ h d ps D v4 ↑(.tup [.int (a:Nat),.int (b:Nat)]) ↑(.int n)) G=some (⇑(.int n),cQ h d ps (bq D (ky a b) (.int n)) v4 ↑(.tup [.int (a:Nat),.int (b:Nat)]) ↑(.int n),G):=by
 have hk:eE (.tup [.int (a:Nat),.int (b:Nat)])=some (ky a b):=rfl
 refine aO (a:=.s 3) (Z1:=cQ h d ps D v4 ↑(.tup [.int (a:Nat),.int (b:Nat)]) ↑(.int n)) (G1:=G) rfl ?_
 refine (if_pos (show iZ _ _ (.s 3)=true from rfl)).trans ?_
 refine aO (a:=[⇑(.tup [.int (a:Nat),.int (b:Nat)]),⇑(.int n)]) (Z1:=cQ h d ps D v4 ↑(.tup [.int (a:Nat),.int (b:Nat)]) ↑(.int n)) (G1:=G) rfl ?_
 unfold gy
 dsimp only
 rw [show pk (cQ h d ps D v4 ↑(.tup [.int (a:Nat),.int (b:Nat)]) ↑(.int n)) G (.s 3)=some (.dit D) from rfl,hk]
 dsimp only
 rw [if_pos hl,hv]
 rfl
theorem pC{x y:Int}(h:x≠y)(Z:De)(G:List M):dM [⇑(.int x),⇑(.int y)] Z G=some (⇑(.bl true),Z,G):=by
 simp! [beq_eq_false_iff_ne.mpr h]
noncomputable def DT(gs:List Mk)(d:Nat)(ps:List Pth)(D:List (List aB×I)):Prop:=∀key v,ax D key=some v->∃h a n,key=ky h a/\v=.int n/\∃p∈ps,Tl gs d p h a n
theorem DT.ext{k:Nat}{gs g1:List Mk}{d:Nat}{ps:List Pth}{D:List (List aB×I)}(t:DT gs d ps D)(x:aL k gs g1):DT g1 d ps D:=λkey v e=>by
 obtain⟨h,a,n,e1,e2,p,hp,q⟩:=t key v e
 exact⟨h,a,n,e1,e2,p,hp,q.ext x⟩
theorem yc2{h d a b:Nat}{gs:List Mk}{ps:List Pth}{p:Pth}{D:List (List aB×I)}{v4:Option Vl}{n:Int}{G:List M}(hl:D.length<1000)(ok:DT gs d ps D)(hp:p∈ps)(q:Tl gs d p a b n) :
  (∃D',vt (cQ h d ps D v4 ↑(.tup [.int (a:Nat),.int (b:Nat)]) ↑(.int n)) G=some (.nx (cQ h d ps D' v4 ↑(.tup [.int (a:Nat),.int (b:Nat)]) ↑(.int n)) G)/\DT gs d ps D'/\D'.length≤D.length+1/\(∀key v,ax D key=some v->ax D' key=some v)/\ax D' (ky a b)=some (.int n)) ∨
  (vt (cQ h d ps D v4 ↑(.tup [.int (a:Nat),.int (b:Nat)]) ↑(.int n)) G=some (.rt (.im .non) G)/\¬ dE gs d ps):=by
 cases hv:ax D (ky a b) with
 | none =>
  refine .inl ⟨_,bP (eG (ba (DH (by lia) hv) rfl (i7 n _ _))) rfl,λkey v e=>?_,my _ _ _,λkey v e=>?_,by rw [eY,if_pos rfl]⟩
  ·rw [eY] at e
   split at e
   ·rename_i z
    cases e
    exact⟨a,b,n,z.symm,rfl,p,hp,q⟩
   ·exact ok key v e
  ·rw [eY]
   split
   ·rename_i z
    rw [<- z,hv] at e
    cases e
   ·exact e
 | some y =>
  obtain⟨h',a',n',e1,e2,p',hp',q'⟩:=ok _ _ hv
  obtain⟨rfl,rfl⟩:=DA e1
  subst e2
  by_cases en:n'=n
  ·subst en
   exact .inl ⟨D,bP (eG (ba (vW (by lia) hv) rfl (i7 n' _ _))) rfl,ok,by lia,λ_ _ z=>z,hv⟩
  ·exact .inr ⟨b6 (eG (ba (vW (by lia) hv) rfl (pC en _ _))) rfl,λc=>en (c _ p' hp' p hp _ _ _ q' q)⟩
theorem yc0{G:List M}{h g s d:Nat}{gs:List Mk}{p:Pth}{ps:List Pth}{D:List (List aB×I)}{v5 v6:Option Vl}(S:HG G h g s gs)(hl:gs.length<80000)(hp:p∈ps)(ls:p.ss.length=d)(hd:d≤6)(dl:D.length<900)(ok:DT gs d ps D) :
  ∃gs' G',HG G' h g s gs'/\aL 7 gs gs'/\Mor g s G G'/\((∃D' v5' v6',mZ (cQ h d ps D ↑p.i v5 v6) G=some (.nx (cQ h d ps D' ↑p.i v5' v6') G')/\DT gs' d ps D'/\D'.length≤D.length+13/\(∀key v,ax D key=some v->ax D' key=some v)/\(∀j,j≤d->∃n,Ch gs' p j n)/\∀a b n,Tl gs' d p a b n->ax D' (ky a b)=some (.int n)) ∨
   (mZ (cQ h d ps D ↑p.i v5 v6) G=some (.rt (.im .non) G')/\¬ dE gs' d ps)):=by
 obtain⟨T,gs',G1,e1,S1,x1,o1,td⟩:=Dz S hl ls hd
 have hat:∀(Z:De) (i:Nat),(bx ⇑(.ref G1.length) T.length).at_ i Z (G1++[M.lst (T.map Pl.i)])=(T[i]?).map Pl.i:=λZ i=>by
  show (sq Z _ ⇑(.ref G1.length)).bind _=_
  have:sq Z (G1++[M.lst (T.map Pl.i)]) ⇑(.ref G1.length)=some (T.map Pl.i):=by simp [sq,pk]
  rw [this]
  simp
 have go:∀{r:Option Fl},bf (bx ⇑(.ref G1.length) T.length) (bX [5,6]) vt 0 T.length (cQ h d ps D ↑p.i v5 v6) (G1++[M.lst (T.map Pl.i)])=r->mZ (cQ h d ps D ↑p.i v5 v6) G=r:=λhr =>
  cF (w:=bx ⇑(.ref G1.length) T.length) (Z1:=cQ h d ps D ↑p.i v5 v6) (G1:=G1++[M.lst (T.map Pl.i)]) (j0 (xs:=T.map Pl.i) (aO (a:=.v (.ow (.lst (T.map Pl.i)))) (Z1:=cQ h d ps D ↑p.i v5 v6) (G1:=G1) (aO (a:=[⇑(.ref h),⇑p.i]) (Z1:=cQ h d ps D ↑p.i v5 v6) (G1:=G) rfl (eh rfl rfl e1)) rfl) rfl (by simp [sq,pk]) (by simp)) hr
 have le:=td.le
 refine⟨gs',G1++[M.lst (T.map Pl.i)],S1.app _,x1,o1.mor.trans (Mor.app _),?_⟩
 rcases i4 (w:=bx ⇑(.ref G1.length) T.length) (g:=bX [5,6]) (b:=vt)
  (λi Z G'=>∃D' v5 v6,Z=cQ h d ps D' ↑p.i v5 v6/\G'=G1++[M.lst (T.map Pl.i)]/\DT gs' d ps D'/\D'.length≤D.length+i/\(∀key v,ax D key=some v->ax D' key=some v)/\∀e∈T.take i,ax D' (ky e.1 e.2.1)=some (.int e.2.2))
  (λx G'=>x=.im .non/\G'=G1++[M.lst (T.map Pl.i)]/\¬ dE gs' d ps)
  (λi Z G2 hi zz=>by
   obtain⟨D',v5,v6,hδ,hg,ok',dl',mo,hs'⟩:=zz
   have hi:i<T.length:=hi
   subst hδ hg
   have em:=z2c hi
   refine⟨Pl.i T[i],_,_,by rw [hat,zf hi];rfl,rfl,?_⟩
   rcases yc2 (h:=h) (ps:=ps) (v4:=↑p.i) (G:=G1++[M.lst (T.map Pl.i)]) (by lia) ok' hp (td.ok _ em) with⟨D2,e2,ok2,dl2,m2,h2⟩| ⟨e2,q⟩
   ·refine .inl ⟨_,_,e2,D2,_,_,rfl,rfl,ok2,by lia,λkey v z=>m2 _ _ (mo _ _ z),λe he=>?_⟩
    rcases dF (zf hi) he with q|q
    ·exact m2 _ _ (hs' e q)
    ·rw [q];exact h2
   ·exact .inr ⟨_,_,e2,rfl,rfl,q⟩)
  (λZ G2 zz=>by
   obtain⟨D',v5,v6,hδ,hg,_⟩:=zz
   subst hg
   show (match sq Z _ ⇑(.ref G1.length) with|some xs=>decide (xs.length≤_)|none=>false)=true
   have:sq Z (G1++[M.lst (T.map Pl.i)]) ⇑(.ref G1.length)=some (T.map Pl.i):=by simp [sq,pk]
   rw [this]
   simp)
  T.length 0 (cQ h d ps D ↑p.i v5 v6) (G1++[M.lst (T.map Pl.i)]) (by simp [bx]) ⟨D,v5,v6,rfl,rfl,ok.ext x1,by lia,λ_ _ z=>z,λe he=>by simp at he⟩ with⟨Z',G',ef,D',v5',v6',rfl,rfl,ok',dl',mo,hs'⟩| ⟨x,G',ef,rfl,rfl,q⟩
 ·have dl':D'.length≤D.length+T.length:=dl'
  have hs':∀e∈T.take T.length,ax D' (ky e.1 e.2.1)=some (.int e.2.2):=hs'
  rw [List.take_length] at hs'
  refine .inl ⟨D',v5',v6',go ef,ok',by lia,mo,λj hj=>?_,λa b n t=>?_⟩
  ·obtain⟨n,_,c⟩:=td.on j hj
   exact⟨n,c⟩
  ·rcases t with⟨t1,t2,t3⟩| ⟨t1,t2,t3⟩
   ·obtain⟨m,hm,c⟩:=td.on a t1
    rw [t3.uniq S1.nd c,t2]
    exact hs' _ hm
   ·rw [t2]
    exact hs' _ (td.by_ a n t1 t3)
 ·exact .inr ⟨go ef,q⟩
noncomputable def ff(q:Pq):Pth:=⟨q.k.toNat,q.w,q.ss⟩
structure Fm(gs:List Mk)(d:Nat)(qs:List Pq):Prop where
 ok:∀q∈qs,y47 gs d q
 ne:qs≠[]
 nd:(qs.map Pq.k).Nodup
theorem DI{q:Pq}(h:0≤q.k):q.i=(ff q).i:=by
 unfold Pq.i Pth.i ff
 rw [Int.toNat_of_nonneg h]
theorem Fm.is{gs:List Mk}{d:Nat}{qs:List Pq}(f:Fm gs d qs):qs.map Pq.i=(qs.map ff).map Pth.i:=by
 rw [z38]
 exact List.map_congr_left λq hq=>DI (f.ok q hq).k0
inductive Res(gs:List Mk)(d:Nat)(ps:List Pth):I->Prop
 | no:¬ dE gs d ps->Res gs d ps .non
 | is (n:Int):dE gs d ps->(∀h,h≤d->m9 gs ps h)->(∀p∈ps,Ch gs p d n)->Res gs d ps (.int n)
theorem Res.eq{k:Nat}{gs g1:List Mk}{d:Nat}{ps:List Pth}{x y:I}(hx:Res gs d ps x)(hy:Res g1 d ps y)(e:aL k gs g1)(nd:g1.Nodup)(hne:ps≠[]):x=y:=by
 cases hx with
 | no c=>cases hy with
  | no _=>rfl
  | is n c'=>exact absurd (c'.dn e) c
 | is n c f q=>cases hy with
  | no c' =>
   refine absurd (λh=>?_) c'
   by_cases hh:h≤d
   ·exact (c h).up (f h hh) e nd
   ·intro p hp q hq a n m t1 t2
    rcases t1 with t|t
    ·exact absurd t.1 hh
    ·exact absurd (z37 t.1) hh
  | is m c' f' q' =>
   obtain⟨p,hp⟩:=List.exists_mem_of_ne_nil ps hne
   rw [((q p hp).ext e).uniq nd (q' p hp)]
theorem vX{G:List M}{h g s d:Nat}{gs:List Mk}{qs:List Pq}(S:HG G h g s gs)(hlen:qs.length≤64)(hss:∀q∈qs,q.ss.length≤1000) :
  ∃b:Bool,(aJ (dQ (bd (bd (af (cH (a9 (one (aa 2)) aR) [0,1] B.c1 aU (bd (af (aa 1) (af (aa 2) (af (aa 0) ae))) (aV 3 mY))) ae) jU) cL)) (aE (ah .non)) aQ [↑(.ref h),↑(.int (d:Nat)),↑(.tup (qs.map Pq.i)),none,none,none,none] G=if b then some (.nx [↑(.ref h),↑(.int (d:Nat)),↑(.tup (qs.map Pq.i)),none,none,none,none] G) else some (.rt (.im .non) G))/\(b=true↔∀q∈qs,y47 gs d q):=by
 let Z0:De:=[↑(.ref h),↑(.int (d:Nat)),↑(.tup (qs.map Pq.i)),none,none,none,none]
 obtain⟨ds,G1,ec,bs,ed,hb,rfl⟩:=kq (w:=bx ⇑(.tup (qs.map Pq.i)) qs.length) (c:=B.c1) (tt:=aU) (te:=bd (af (aa 1) (af (aa 2) (af (aa 0) ae))) (aV 3 mY)) (di:=[↑(.ref h),↑(.int (d:Nat))]) (Z:=Z0)
  (λi acc G'=>∃bs:List Bool,acc=bs.map I.bl/\(bs.all id=true↔∀q∈qs.take i,y47 gs d q)/\G'=G)
  (λi acc G1 hi zz=>by
   obtain⟨bs,ea,hb,eg⟩:=zz
   subst eg
   have hi:i<qs.length:=hi
   obtain⟨b,e,eb⟩:=DD (d:=d) (p:=qs[i]) S (hss _ (z2c hi))
   refine⟨Pq.i qs[i],[Pq.i qs[i]],_,_,.bl b,_,G1,by rw [mz,zf hi];rfl,rfl,rfl,aO (a:=[⇑(.ref h),⇑(.int (d:Nat)),⇑(Pq.i qs[i])]) (Z1:=[↑(Pq.i qs[i]),↑(.ref h),↑(.int (d:Nat))]) (G1:=G1) rfl (eh rfl rfl e),bs++[b],by rw [ea,z23];rfl,?_,rfl⟩
   rw [List.all_append,z2a,hb,List.take_succ_eq_append_getElem hi]
   constructor
   ·intro⟨z1,z2⟩ q hq
    rcases z1d.mp hq with y|y
    ·exact z1 q y
    ·rw [z20.mp y];exact eb.mp (by simpa using z2)
   ·intro z
    exact⟨λq hq=>z q (List.mem_append_left _ hq),by simpa using eb.mpr (z _ (z22 _ (z20.mpr rfl)))⟩)
  (λ_ _ _=>mB _ _ _ _) qs.length 0 [] G (by simp [bx]) ⟨[],rfl,by simp,rfl⟩
 have hb:bs.all id=true↔∀q∈qs.take qs.length,y47 gs d q:=hb
 rw [List.take_length] at hb
 rw [ed] at ec
 have e1:cH (a9 (one (aa 2)) aR) [0,1] B.c1 aU (bd (af (aa 1) (af (aa 2) (af (aa 0) ae))) (aV 3 mY)) Z0 G1=some (.v (.ow (.lst (bs.map I.bl))),Z0,G1) :=
  mi (Z0:=Z0) rfl (i6 Pq.i qs rfl) (by show qs.length≤_;lia) ec
 refine⟨bs.all id,?_,hb⟩
 cases hz:bs.all id with
 | true=>exact bP (Z1:=Z0) (G1:=G1) (gA (b:=true) (aO (aO (cv e1 rfl) (by rw [vU,hz])) rfl)) rfl
 | false=>exact b6 (Z1:=Z0) (G1:=G1) (gA (b:=false) (aO (aO (cv e1 rfl) (by rw [vU,hz])) rfl)) rfl
theorem DJ{G:List M}{h g s d:Nat}{gs:List Mk}{qs:List Pq}(S:HG G h g s gs)(hl:gs.length<70000)(hlen:qs.length≤64)(hss:∀q∈qs,q.ss.length≤1000)(hd:d≤6) :
  ∃x gs' G',km [.im (.ref h),.im (.int (d:Nat)),.im (.tup (qs.map Pq.i))] G=some (.im x,G')/\HG G' h g s gs'/\aL (7*qs.length) gs gs'/\Mor g s G G'/\((¬ Fm gs d qs/\x=.non/\gs'=gs)∨(Fm gs d qs/\Res gs' d (qs.map ff) x)):=by
 let Z0:De:=[↑(.ref h),↑(.int (d:Nat)),↑(.tup (qs.map Pq.i)),none,none,none,none]
 obtain⟨b,e1,hb⟩:=vX (d:=d) S hlen hss
 have zero:aL (7*qs.length) gs gs:=(aL.refl gs).le (by lia)
 by_cases c1:∀q∈qs,y47 gs d q
 rotate_left
 ·have:b=false:=by cases b with|true=>exact absurd (hb.mp rfl) c1|false=>rfl
  subst this
  exact⟨.non,gs,G,c8 rfl (cB e1),S,zero,Mor.refl _ _ _,.inl ⟨λf=>c1 f.ok,rfl,rfl⟩⟩
 have:b=true:=hb.mpr c1
 subst this
 have e1:=e1.trans (if_pos rfl)
 by_cases c2:qs=[]
 ·subst c2
  exact⟨.non,gs,G,c8 rfl (aA e1 (cB (b6 (Z1:=Z0) (G1:=G) (ic (gA (b:=false) (aO (a:=⇑(.tup [])) (Z1:=Z0) (G1:=G) rfl rfl))) rfl))),S,zero,Mor.refl _ _ _,.inl ⟨λf=>f.ne rfl,rfl,rfl⟩⟩
 have tr:cL ⇑(.tup (qs.map Pq.i)) Z0 G=some (true,Z0,G):=by
  cases qs with
  | nil=>exact absurd rfl c2
  | cons p ps=>rfl
 obtain⟨ds2,G2,ec2,ed2,eg2⟩:=kq (w:=bx ⇑(.tup (qs.map Pq.i)) qs.length) (c:=B.c1) (tt:=aU) (te:=ag aS (aa 0) (ah (.int 0))) (di:=[]) (Z:=Z0)
  (λi acc G'=>acc=((qs.take i).map Pq.k).map I.int/\G'=G)
  (λi acc G2 hi zz=>by
   obtain⟨ea,eg⟩:=zz
   subst eg
   have hi:i<qs.length:=hi
   refine⟨Pq.i qs[i],[Pq.i qs[i]],_,_,.int qs[i].k,[↑(Pq.i qs[i])],G2,by rw [mz,zf hi];rfl,rfl,rfl,?_,?_,rfl⟩
   ·simp! [Pq.i,kr]
   ·rw [ea,List.take_succ_eq_append_getElem hi,z23,z23];rfl)
  (λ_ _ _=>mB _ _ _ _) qs.length 0 [] G (by simp [bx]) ⟨rfl,rfl⟩
 have ed2:ds2=((qs.take qs.length).map Pq.k).map I.int:=ed2
 rw [List.take_length] at ed2
 subst eg2
 rw [ed2] at ec2
 have e2:cH (a9 (one (aa 2)) aR) [] B.c1 aU (ag aS (aa 0) (ah (.int 0))) Z0 G2=some (.v (.ow (.lst ((qs.map Pq.k).map I.int))),Z0,G2) :=
  mi (Z0:=Z0) rfl (i6 Pq.i qs rfl) (by show qs.length≤_;lia) ec2
 have tst:∀c:Bool,((iY (qs.map Pq.k)).length<qs.length↔c=true)->cx (dQ (bd (aa 2) cL)) (aq (ag fQ (bC ia (cH (a9 (one (aa 2)) aR) [] B.c1 aU (ag aS (aa 0) (ah (.int 0))))) (bd (af (aa 2) ae) br))) Z0 G2=some (c,Z0,G2):=λc hc=>by
  refine bK (Z1:=Z0) (G1:=G2) (gA (b:=true) (aO (a:=⇑(.tup (qs.map Pq.i))) (Z1:=Z0) (G1:=G2) rfl tr)) (eG (ba (mh e2 (DF (by simp;lia) _ _)) (y:=⇑(.int qs.length)) (Z2:=Z0) (G2:=G2) (by simp! [Z0]) ?_))
  cases c with
  | true=>have:=hc.mpr rfl;simp! [];lia
  | false =>
   have:¬ ((iY (qs.map Pq.k)).length<qs.length):=λz=>Bool.noConfusion (hc.mp z)
   simp! [];lia
 have dl:(iY (qs.map Pq.k)).length<qs.length↔¬ (qs.map Pq.k).Nodup:=by
  have:=yd1 (ns:=qs.map Pq.k)
  rwa [z19] at this
 by_cases c3:(qs.map Pq.k).Nodup
 rotate_left
 ·exact⟨.non,gs,G2,c8 rfl (aA e1 (cB (b6 (Z1:=Z0) (G1:=G2) (tst true (by simp [dl,c3])) rfl))),S,zero,Mor.refl _ _ _,.inl ⟨λf=>c3 f.nd,rfl,rfl⟩⟩
 have f:Fm gs d qs:=⟨c1,c2,c3⟩
 have hi':=f.is
 have lp:(qs.map ff).length=qs.length:=by rw [z19]
 have ls:∀p∈qs.map ff,p.ss.length=d:=λp hp=>by
  obtain⟨q,hq,rfl⟩:=z30.mp hp
  exact (c1 q hq).ls
 have klt:∀p∈qs.map ff,p.k / 2 ^ d=0:=λp hp=>by
  obtain⟨q,hq,rfl⟩:=z30.mp hp
  have h1:=(c1 q hq).k1
  have h0:=(c1 q hq).k0
  refine Nat.div_eq_of_lt ?_
  show q.k.toNat<2 ^ d
  have:(q.k.toNat:Int)<((2 ^ d:Nat):Int):=by rw [Int.toNat_of_nonneg h0];push_cast;exact h1
  lia
 have hne:qs.map ff≠[]:=λz=>c2 (List.map_eq_nil_iff.mp z)
 generalize hps:qs.map ff=ps at *
 have top:∀{x:Vl} {G':List M},aj (aN hX (aF 3))
   (aj (bu (a9 (one (aa 2)) aR) (aF 4) mZ)
   (aE (ag aS (aa 3) (bd (af (aa 1) (af (ah (.int 0)) ae)) bD)))) Z0 G2=some (.rt x G')->km [.im (.ref h),.im (.int (d:Nat)),.im (.tup (qs.map Pq.i))] G2=some (x,G'):=λhr =>
  c8 rfl (aA e1 (aA (bP (Z1:=Z0) (G1:=G2) (tst false (by simp [dl,c3])) rfl) hr))
 have start:∀{r:Option Fl},aj (bu (a9 (one (aa 2)) aR) (aF 4) mZ)
   (aE (ag aS (aa 3) (bd (af (aa 1) (af (ah (.int 0)) ae)) bD))) (cQ h d ps [] none none none) G2=r->aj (aN hX (aF 3))
   (aj (bu (a9 (one (aa 2)) aR) (aF 4) mZ)
   (aE (ag aS (aa 3) (bd (af (aa 1) (af (ah (.int 0)) ae)) bD)))) Z0 G2=r:=λ{r} hr=>by
  refine aA (bT (x:=.ow (.dit [])) (Z1:=Z0) (G1:=G2) rfl rfl) ?_
  have e:([↑(.ref h),↑(.int (d:Nat)),↑(.tup (qs.map Pq.i)),some (.ow (.dit [])),none,none,none]:De)=cQ h d ps [] none none none:=by unfold cQ;rw [hi']
  show aj _ _ [↑(.ref h),↑(.int (d:Nat)),↑(.tup (qs.map Pq.i)),some (.ow (.dit [])),none,none,none] G2=r
  rw [e]
  exact hr
 rcases i4 (w:=bx ⇑(.tup (ps.map Pth.i)) ps.length) (g:=aF 4) (b:=mZ)
  (λi Z G'=>∃D gs' v4 v5 v6,Z=cQ h d ps D v4 v5 v6/\HG G' h g s gs'/\aL (7*i) gs gs'/\Mor g s G2 G'/\DT gs' d ps D/\D.length≤13*i/\∀p∈ps.take i,(∀j,j≤d->∃n,Ch gs' p j n)/\∀a b n,Tl gs' d p a b n->ax D (ky a b)=some (.int n))
  (λx G'=>∃gs',x=.im .non/\HG G' h g s gs'/\aL (7*ps.length) gs gs'/\Mor g s G2 G'/\¬ dE gs' d ps)
  (λi Z G3 hi zz=>by
   obtain⟨D,gs3,v4,v5,v6,hδ,S3,x3,o3,ok,dl,hs⟩:=zz
   have hi:i<ps.length:=hi
   subst hδ
   have l3:=x3.len
   refine⟨Pth.i ps[i],_,_,by rw [mz,zf hi];rfl,rfl,?_⟩
   obtain⟨gs4,G4,S4,x4,o4,q⟩:=yc0 (ps:=ps) (v5:=v5) (v6:=v6) S3 (by lia) (z2c hi) (ls _ (z2c hi)) hd (by lia) ok
   rcases q with⟨D4,v5',v6',e4,ok4,dl4,mo,fu,tl⟩| ⟨e4,q⟩
   ·refine .inl ⟨_,_,e4,D4,gs4,_,v5',v6',rfl,S4,(x3.trans x4).le (by lia),o3.trans o4,ok4,by lia,λp hp=>?_⟩
    rcases dF (zf hi) hp with y|y
    ·obtain⟨f1,f2⟩:=hs p y
     refine⟨λj hj=>?_,λa b n t=>mo _ _ (f2 a b n (t.down x4 S4.nd (f1 a ?_)))⟩
     ·obtain⟨n,c⟩:=f1 j hj;exact⟨n,c.ext x4⟩
     ·rcases t with t|t
      ·exact t.1
      ·exact z37 t.1
    ·rw [y];exact⟨fu,tl⟩
   ·exact .inr ⟨_,_,e4,gs4,rfl,S4,(x3.trans x4).le (by lia),o3.trans o4,q⟩)
  (λ_ _ _=>mB _ _ _ _) ps.length 0 (cQ h d ps [] none none none) G2 (by simp [bx]) ⟨[],gs,none,none,none,rfl,S,aL.refl _,Mor.refl _ _ _,λkey v e=>(by cases e),by simp,λp hp=>by simp at hp⟩ with⟨Z',G',ef,D,gs',v4,v5,v6,rfl,S',x',o',ok,dl',hs⟩| ⟨x,G',ef,gs',rfl,S',x',o',q⟩
 ·have hs:∀p∈ps.take ps.length,(∀j,j≤d->∃n,Ch gs' p j n)/\∀a b n,Tl gs' d p a b n->ax D (ky a b)=some (.int n):=hs
  rw [List.take_length] at hs
  have x':aL (7*ps.length) gs gs':=x'
  rw [lp] at x'
  obtain⟨p0,hp0⟩:=List.exists_mem_of_ne_nil ps hne
  obtain⟨n,cn⟩:=(hs p0 hp0).1 d (z12 _)
  have vn:ax D (ky d 0)=some (.int n):=by
   have:=(hs p0 hp0).2 d _ n (.inl ⟨z12 _,rfl,cn⟩)
   rwa [klt p0 hp0] at this
  refine⟨.int n,gs',G',top (start (aA (cF (Z1:=cQ h d ps [] none none none) (G1:=G2) (i6 Pth.i ps rfl) ef) ?_)),S',x',o',.inr ⟨f,.is n (λh' p hp q hq a n1 n2 t1 t2=>?_) (λh' hh p hp=>(hs p hp).1 h' hh) λp hp=>?_⟩⟩
  ·have hn':ax D [.inl (d:Int),.inl 0]=some (.int n):=vn
   simp! [cQ,hn']
  ·have v1:=(hs p hp).2 _ _ _ t1
   have v2:=(hs q hq).2 _ _ _ t2
   rw [v1] at v2
   cases v2
   rfl
  ·obtain⟨m,cm⟩:=(hs p hp).1 d (z12 _)
   have:=(hs p hp).2 d _ m (.inl ⟨z12 _,rfl,cm⟩)
   rw [klt p hp,vn] at this
   cases this
   exact cm
 ·rw [lp] at x'
  exact⟨.non,gs',G',top (start (cB (cF (Z1:=cQ h d ps [] none none none) (G1:=G2) (i6 Pth.i ps rfl) ef))),S',x',o',.inr ⟨f,.no q⟩⟩
end
section
noncomputable def eI(h d j:Nat)(met:List Int)(v4 v5 v6:Option Vl):De:=[↑(.ref h),↑(.int (d:Nat)),↑(.ref j),↥(met.map I.int),v4,v5,v6]
theorem DK(met:List Int):(met.map I.int).all eU=true:=z39.mpr λx hx=>by
 obtain⟨n,_,rfl⟩:=z30.mp hx
 rfl
theorem j6(met:List Int)(k:Int):((met.map I.int).any λy=>dY y (.int k))=decide (k∈met):=by
 induction met with
 | nil=>rfl
 | cons n met ih =>
  rw [z1a,List.any_cons,ih]
  show ((n == k)||decide (k∈met))=_
  by_cases e:n=k
  ·subst e;simp
  ·rw [beq_eq_false_iff_ne.mpr e]
   simp [Ne.symm e]
theorem vY{h d j:Nat}{met:List Int}{v4 v5 v6:Option Vl}{k:Int}{G:List M}:pS [⇑(.int k),.s 3] (eI h d j met v4 v5 v6) G=some (⇑(.bl (decide (k∈met))),eI h d j met v4 v5 v6,G):=by
 have e:jh false [⇑(.int k),.s 3] (eI h d j met v4 v5 v6) G=some (⇑(.bl (decide (k∈met))),eI h d j met v4 v5 v6,G):=by
  unfold jh
  dsimp only
  rw [show sq (eI h d j met v4 v5 v6) G (.s 3)=some (met.map I.int) from rfl]
  dsimp only
  rw [DK,j6]
  rfl
 unfold pS dI
 rw [e]
theorem DL{G:List M}{h g s d j:Nat}{gs:List Mk}{met:List Int}{q:Pq}(S:HG G h g s gs)(hd:d≤6)(hl:q.ss.length≤1000)(ml:met.length<1000) :
  (y47 gs d q/\q.k∉met/\ph (eI h d j met ↑(.int q.k) ↑(.int q.w) ↑(.tup (q.ss.map I.int))) G=some (.nx (eI h d j (met++[q.k]) ↑(.int q.k) ↑(.int q.w) ↑(.tup (q.ss.map I.int))) G)) ∨
  (¬ (y47 gs d q/\q.k∉met)/\ph (eI h d j met ↑(.int q.k) ↑(.int q.w) ↑(.tup (q.ss.map I.int))) G=some (.rt (.im (.bl false)) G)):=by
 obtain⟨N,hN⟩:∃N:Int,(2:Int) ^ d=N:=⟨_,rfl⟩
 have q5:(d:Int)≤1000000:=by lia
 obtain⟨Z,hδ⟩:∃Z,Z=eI h d j met ↑(.int q.k) ↑(.int q.w) ↑(.tup (q.ss.map I.int)):=⟨_,rfl⟩
 have t1:∀c:Bool,(q.k<0↔c=true)->aq (ag fQ (aa 4) (ah (.int 0))) Z G=some (c,Z,G):=λc hc=>by subst hδ;cases c<;>simp at hc<;>simp! [eI]<;>lia
 have t2:∀c:Bool,(N≤q.k↔c=true)->aq (ag g9 (aa 4) (ag cX (ah (.int 1)) (aa 1))) Z G=some (c,Z,G):=λc hc=>by subst hδ;cases c<;>simp at hc<;>simp! [eI,q5,hN]<;>lia
 have t3:∀c:Bool,(q.k∈met↔c=true)->aq (ag pS (aa 4) (aa 3)) Z G=some (c,Z,G):=λc hc=>by
  subst hδ
  refine eG (ba (x:=⇑(.int q.k)) (y:=.s 3) rfl rfl ?_)
  rw [vY]
  cases c with
  | true=>rw [decide_eq_true (hc.mpr rfl)]
  | false=>rw [decide_eq_false (λz=>Bool.noConfusion (hc.mp z))]
 have t4:∀c:Bool,(q.w<0↔c=true)->aq (ag fQ (aa 5) (ah (.int 0))) Z G=some (c,Z,G):=λc hc=>by subst hδ;cases c<;>simp at hc<;>simp! [eI]<;>lia
 have t5:∀c:Bool,(4294967296≤q.w↔c=true)->aq (ag g9 (aa 5) (ah (.int 4294967296))) Z G=some (c,Z,G):=λc hc=>by subst hδ;cases c<;>simp at hc<;>simp! [eI]<;>lia
 have t6:∀c:Bool,(q.ss.length≠d↔c=true)->aq (ag dM (bd (af (aa 6) ae) br) (aa 1)) Z G=some (c,Z,G):=λc hc=>by
  subst hδ
  refine eG (ba (x:=⇑(.int q.ss.length)) (y:=⇑(.int (d:Nat))) (Z1:=eI h d j met ↑(.int q.k) ↑(.int q.w) ↑(.tup (q.ss.map I.int))) (G1:=G) (by simp! [eI]) rfl ?_)
  cases c with
  | true=>exact pC (by have:=hc.mpr rfl;lia) _ _
  | false =>
   have:q.ss.length=d:=Classical.byContradiction λz=>Bool.noConfusion (hc.mp z)
   rw [this];exact i7 _ _ _
 have bad:∀{r:SF},cx (aq (ag fQ (aa 4) (ah (.int 0)))) (cx (aq (ag g9 (aa 4) (ag cX (ah (.int 1)) (aa 1)))) (cx (aq (ag pS (aa 4) (aa 3))) (cx (aq (ag fQ (aa 5) (ah (.int 0)))) (cx (aq (ag g9 (aa 5) (ah (.int 4294967296)))) (aq (ag dM (bd (af (aa 6) ae) br) (aa 1))))))) Z G=some (true,Z,G)->ph Z G=some (.rt (.im (.bl false)) G):=λhr=>cB (b6 hr rfl)
 rw [<- hδ]
 by_cases c1:q.k<0
 ·exact .inr ⟨λz=>by have:=z.1.k0;lia,bad (r:=aQ) (ic (t1 true (by simp [c1])))⟩
 have r1:=t1 false (by simp;lia)
 by_cases c2:N≤q.k
 ·exact .inr ⟨λz=>by have:=z.1.k1;lia,bad (r:=aQ) (bK r1 (ic (t2 true (by simp [c2]))))⟩
 have r2:=t2 false (by simp;lia)
 by_cases c3:q.k∈met
 ·exact .inr ⟨λz=>z.2 c3,bad (r:=aQ) (bK r1 (bK r2 (ic (t3 true (by simp [c3])))))⟩
 have r3:=t3 false (by simp [c3])
 by_cases c4:q.w<0
 ·exact .inr ⟨λz=>by have:=z.1.wr.1;lia,bad (r:=aQ) (bK r1 (bK r2 (bK r3 (ic (t4 true (by simp [c4]))))))⟩
 have r4:=t4 false (by simp;lia)
 by_cases c5:4294967296≤q.w
 ·exact .inr ⟨λz=>by have:=z.1.wr.2;lia,bad (r:=aQ) (bK r1 (bK r2 (bK r3 (bK r4 (ic (t5 true (by simp [c5])))))))⟩
 have r5:=t5 false (by simp;lia)
 by_cases c6:q.ss.length=d
 rotate_left
 ·exact .inr ⟨λz=>c6 z.1.ls,bad (r:=aQ) (bK r1 (bK r2 (bK r3 (bK r4 (bK r5 (t6 true (by simp [c6])))))))⟩
 have r6:=t6 false (by simp [c6])
 have e1:cH (a9 (one (aa 6)) aR) [0] B.c1 aU (bC (fY false) (bg "House" "opened" 2 eF (aa 1) (af (aa 0) ae))) Z G=some (.v (.ow (.lst ((q.ss.map λx=>(look gs x).isSome).map I.bl))),Z,G):=by
  subst hδ
  exact mi (Z0:=eI h d j met ↑(.int q.k) ↑(.int q.w) ↑(.tup (q.ss.map I.int))) rfl (i6 I.int q.ss rfl) (by show q.ss.length≤_;lia) (vV S)
 have y17f:(q.ss.map λx=>(look gs x).isSome).all id=true↔∀x∈q.ss,(look gs x).isSome=true:=by
  rw [z39]
  exact⟨λz x hx=>z _ (List.mem_map_of_mem hx),λz b hb=>by obtain⟨x,hx,rfl⟩:=z30.mp hb;exact z x hx⟩
 have good:∀{r:Option Fl},aj (aJ (dQ (bd (bd (af (cH (a9 (one (aa 6)) aR) [0] B.c1 aU (bC (fY false) (bg "House" "opened" 2 eF (aa 1) (af (aa 0) ae)))) ae) jU) cL)) (aE (ah (.bl false))) aQ) (iu (hV iT (aa 3) (af (aa 4) ae))) Z G=r->ph Z G=r:=λhr=>aA (bP (bK r1 (bK r2 (bK r3 (bK r4 (bK r5 r6))))) rfl) hr
 cases hz:(q.ss.map λx=>(look gs x).isSome).all id with
 | true =>
  refine .inl ⟨⟨by lia,by lia,⟨by lia,by lia⟩,c6,y17f.mp hz⟩,c3,good (aA (bP (Z1:=Z) (G1:=G) (gA (b:=true) (aO (aO (cv e1 rfl) (by rw [vU,hz])) rfl)) rfl) ?_)⟩
  subst hδ
  have m1:met.length<1000000:=by lia
  refine wW (e:=⇑.non) ?_
  simp! [eI,m1]
 | false =>
  refine .inr ⟨λz=>?_,good (cB (b6 (Z1:=Z) (G1:=G) (gA (b:=false) (aO (aO (cv e1 rfl) (by rw [vU,hz])) rfl)) rfl))⟩
  have:=y17f.mpr z.1.op
  rw [hz] at this
  cases this
theorem mC{α:Type}(f:α->I)(xs:List α){j:Nat}{G:List M}(hj:G[j]?=some (.lst (xs.map f)))(Z:De)(i:Nat):(bx ⇑(.ref j) xs.length).at_ i Z G=(xs[i]?).map f:=by
 have:sq Z G ⇑(.ref j)=some (xs.map f):=by simp [sq,pk,hj]
 show (sq Z G ⇑(.ref j)).bind _=_
 rw [this]
 simp
theorem mD{α:Type}(f:α->I)(xs:List α){j:Nat}{G:List M}(hj:G[j]?=some (.lst (xs.map f)))(Z:De):(bx ⇑(.ref j) xs.length).fin Z G=true:=by
 have:sq Z G ⇑(.ref j)=some (xs.map f):=by simp [sq,pk,hj]
 show (match sq Z G ⇑(.ref j) with|some xs=>decide (xs.length≤_)|none=>false)=true
 rw [this]
 simp
theorem i8{α:Type}{fe:Mo Ev}(f:α->I)(xs:List α){j:Nat}{Z Z1:De}{G G1:List M}(hj:G1[j]?=some (.lst (xs.map f)))(h:fe Z G=some (⇑(.ref j),Z1,G1)):a9 (one fe) aR Z G=some (bx ⇑(.ref j) xs.length,[⇑(.ref j)],Z1,G1) :=
 j0 (xs:=xs.map f) h rfl (by simp [sq,pk,hj]) (by simp)
theorem DM{G:List M}{h g s d j:Nat}{gs:List Mk}{qs:List Pq}(S:HG G h g s gs)(hd:d≤6)(hlen:qs.length≤64)(hss:∀q∈qs,q.ss.length≤1000)(hj:G[j]?=some (.lst (qs.map Pq.i))):∃b:Bool,pX [.im (.ref h),.im (.int (d:Nat)),.im (.ref j)] G=some (.im (.bl b),G)/\(b=true↔Fm gs d qs):=by
 have go:∀{r:Option Fl} {x:Vl},r=some (.rt x G)->aj (bu (a9 (one (aa 2)) aR) (bX [4,5,6]) ph) (aE (ag dM (aa 3) (bd ae aX))) (eI h d j [] none none none) G=r->pX [.im (.ref h),.im (.int (d:Nat)),.im (.ref j)] G=some (x,G):=λhr h2 =>
  c8 rfl (aA (bT (x:=.ow (.lst [])) (Z1:=[↑(.ref h),↑(.int (d:Nat)),↑(.ref j),none,none,none,none]) (G1:=G) rfl rfl) (h2.trans hr))
 rcases i4 (w:=bx ⇑(.ref j) qs.length) (g:=bX [4,5,6]) (b:=ph)
  (λi Z G'=>G'=G/\∃v4 v5 v6,Z=eI h d j ((qs.take i).map Pq.k) v4 v5 v6/\(∀q∈qs.take i,y47 gs d q)/\((qs.take i).map Pq.k).Nodup)
  (λx G'=>G'=G/\x=.im (.bl false)/\¬ Fm gs d qs)
  (λi Z G2 hi zz=>by
   obtain⟨eg,v4,v5,v6,hδ,ok,nd⟩:=zz
   have hi:i<qs.length:=hi
   subst hδ eg
   have em:=z2c hi
   refine⟨Pq.i qs[i],_,_,by rw [mC Pq.i qs hj,zf hi];rfl,rfl,?_⟩
   rcases DL (j:=j) (met:=(qs.take i).map Pq.k) (q:=qs[i]) S hd (hss _ em) (by rw [z19,z31];lia) with⟨q1,q2,q3⟩| ⟨q1,q2⟩
   ·refine .inl ⟨_,_,q3,rfl,_,_,_,by rw [List.take_succ_eq_append_getElem hi,z23];rfl,λq hq=>?_,?_⟩
    ·rw [List.take_succ_eq_append_getElem hi] at hq
     rcases z1d.mp hq with y|y
     ·exact ok q y
     ·rw [z20.mp y];exact q1
    ·rw [List.take_succ_eq_append_getElem hi,z23,List.nodup_append]
     refine⟨nd,by simp,λa ha b hb e=>?_⟩
     subst e
     have hb:a=qs[i].k:=by simpa using hb
     subst hb
     exact q2 ha
   ·refine .inr ⟨_,_,q2,rfl,rfl,λf=>q1 ⟨f.ok _ em,λz=>?_⟩⟩
    have nd:=f.nd
    rw [<- List.take_append_drop i qs,z23,List.nodup_append] at nd
    exact nd.2.2 _ z _ (List.mem_map_of_mem (by rw [List.drop_eq_getElem_cons hi];exact List.mem_cons_self)) rfl)
  (λZ G2 zz=>by obtain⟨eg,_⟩:=zz;subst eg;exact mD Pq.i qs hj Z) qs.length 0 (eI h d j [] none none none) G (by simp [bx]) ⟨rfl,none,none,none,by simp,λq hq=>by simp at hq,by simp⟩ with⟨Z',G',ef,rfl,v4,v5,v6,rfl,ok,nd⟩| ⟨x,G',ef,rfl,rfl,q⟩
 ·have ok:∀q∈qs.take qs.length,y47 gs d q:=ok
  have nd:((qs.take qs.length).map Pq.k).Nodup:=nd
  have ef:_=some (Fl.nx (eI h d j ((qs.take qs.length).map Pq.k) v4 v5 v6) G'):=ef
  rw [List.take_length] at ok nd ef
  refine⟨!qs.isEmpty,go (x:=.im (.bl (!qs.isEmpty))) rfl (aA (cF (Z1:=eI h d j [] none none none) (G1:=G') (i8 Pq.i qs hj rfl) ef) ?_),?_⟩
  ·cases qs with
   | nil=>rfl
   | cons q qs=>rfl
  ·constructor
   ·intro z
    exact⟨ok,λy=>(by rw [y] at z;cases z),nd⟩
   ·intro f
    have:=f.ne
    cases qs with
    | nil=>exact absurd rfl this
    | cons q qs=>rfl
 ·exact⟨false,go (x:=.im (.bl false)) rfl (cB (cF (Z1:=eI h d j [] none none none) (G1:=G') (i8 Pq.i qs hj rfl) ef)),by simp [q]⟩
end
section
noncomputable def kk(a:Nat):aB:=.inl (a:Int)
theorem j7{a b:Nat}(e:kk a=kk b):a=b:=by
 unfold kk at e
 injection e with e
 lia
noncomputable def bb(h d j:Nat)(D:List (aB×I))(v4 v5 v6 v7 v8 v9 v10:Option Vl):De:=[↑(.ref h),↑(.int (d:Nat)),↑(.ref j),some (.ow (.dic D)),v4,v5,v6,v7,v8,v9,v10]
theorem mE{fo fi fv:Mo Ev}{Z Z1 Z2 Z3 Z4:De}{G G1 G2 G3 G4:List M}{v o i:Ev}(hv:fv Z G=some (v,Z1,G1))(ho:fo Z1 G1=some (o,Z2,G2))(hi:fi Z2 G2=some (i,Z3,G3))(hp:fL [v,o,i] Z3 G3=some (Z4,G4)):cz fo fi fv Z G=some (.nx Z4 G4):=by
 unfold cz
 rw [show bd fv (λv=>bd fo λo=>bd fi λi=>rt [v,o,i]) Z G=some ([v,o,i],Z3,G3) from aO hv (aO ho (aO hi rfl))]
 dsimp only
 rw [hp]
theorem pD{Z:De}{G:List M}{i:Nat}{D:List (aB×I)}{x:I}{a:Nat}(hp:pk Z G (.s i)=some (.dic D))(hl:D.length<1000000):fL [⇑x,.s i,⇑(.int (a:Nat))] Z G=some (fz Z G (.dic (bq D (kk a) x)) (.s i)):=by
 unfold fL
 dsimp only
 rw [hp]
 show (if D.length<1000000 then some (fz Z G (.dic (bq D (Sum.inl (a:Int)) x)) (.s i)) else none)=_
 rw [if_pos hl]
 rfl
theorem pE{Z:De}{G:List M}{i:Nat}{D:List (aB×I)}{x:I}{a:Nat}(hp:pk Z G (.s i)=some (.dic D))(hv:ax D (kk a)=some x):aS [.s i,⇑(.int (a:Nat))] Z G=some (⇑x,Z,G):=by
 have h1:iw [.s i,⇑(.int (a:Nat))] Z G=none:=by
  unfold iw
  dsimp only
  have:sq Z G (.s i)=none:=by
   unfold sq
   split<;>first|(rename_i z;cases z)|(rw [hp])
  rw [this]
 have h2:lW [.s i,⇑(.int (a:Nat))] Z G=some (⇑x,Z,G):=by
  unfold lW
  dsimp only
  unfold fH
  rw [hp]
  show (match some (ax D (Sum.inl (a:Int))) with|some (some d)=>some (Ev.v (.im d),Z,G)|_=>none)=_
  rw [show ax D (Sum.inl (a:Int))=some x from hv]
 unfold aS dI
 rw [h1]
 exact h2
structure LV(gs:List Mk)(ps:List Pth)(jj:Nat)(D:List (aB×I)):Prop where
 ke:∀key v,ax D key=some v->∃p∈ps,∃n,key=kk (p.k / 2 ^ jj)/\v=.int n
 ch:∀p∈ps,∃n,ax D (kk (p.k / 2 ^ jj))=some (.int n)/\Ch gs p jj n
theorem yf7{G:List M}{h g s d j:Nat}{gs:List Mk}{ps:List Pth}(S:HG G h g s gs)(hl:gs.length<60000)(hm:ps.length≤8)(hj:G[j]?=some (.lst (ps.map Pth.i)))(n2:j≠g)(n3:j≠s)(nd:(ps.map Pth.k).Nodup) :
  ∃D gs' G' v4 v5 v6,bf (bx ⇑(.ref j) ps.length) (bX [4,5,6]) CP 0 ps.length (bb h d j [] none none none none none none none) G=some (.nx (bb h d j D v4 v5 v6 none none none none) G')/\HG G' h g s gs'/\aL 8 gs gs'/\Oth g s G G'/\LV gs' ps 0 D/\D.length≤8:=by
 obtain⟨Z',G',ef,D,gs',v4,v5,v6,rfl,S',x',o',ke,ch,dl⟩:=gD (w:=bx ⇑(.ref j) ps.length) (g:=bX [4,5,6]) (b:=CP)
  (λi Z G'=>∃D gs' v4 v5 v6,Z=bb h d j D v4 v5 v6 none none none none/\HG G' h g s gs'/\aL i gs gs'/\Oth g s G G'/\(∀key v,ax D key=some v->∃p∈ps.take i,∃n,key=kk p.k/\v=.int n)/\(∀p∈ps.take i,∃n,ax D (kk p.k)=some (.int n)/\Ch gs' p 0 n)/\D.length≤i)
  (λi Z G2 hi zz=>by
   obtain⟨D,gs2,v4,v5,v6,hδ,S2,x2,o2,ke,ch,dl⟩:=zz
   have hi:i<ps.length:=hi
   subst hδ
   have l2:=x2.len
   obtain⟨n,gs3,G3,e3,S3,a3,x3,o3⟩:=mv (w:=ps[i].w) S2 (by lia)
   have hj2:G2[j]?=some (.lst (ps.map Pth.i)):=by rw [o2.at_ j n2 n3];exact hj
   refine⟨Pth.i ps[i],_,_,_,G3,by rw [mC Pth.i ps hj2,zf hi];rfl,rfl,mE (v:=⇑(.int n)) (o:=.s 3) (i:=⇑(.int (ps[i].k:Nat))) (Z1:=bb h d j D ↑(.int (ps[i].k:Nat)) ↑(.int ps[i].w) ↑(.tup (ps[i].ss.map I.int)) none none none none) (G1:=G3) (by simp! [bb,S2.ob,jX,e3]) rfl rfl (pD (D:=D) rfl (by lia)),bq D (kk ps[i].k) (.int n),gs3,_,_,_,rfl,S3,x2.trans x3,o2.trans o3,λkey v e=>?_,λp hp=>?_,?_⟩
   ·rw [List.take_succ_eq_append_getElem hi]
    rw [eY] at e
    split at e
    ·rename_i z
     cases e
     exact⟨ps[i],z22 _ (z20.mpr rfl),n,z.symm,rfl⟩
    ·obtain⟨p,hp,q⟩:=ke key v e
     exact⟨p,List.mem_append_left _ hp,q⟩
   ·rw [List.take_succ_eq_append_getElem hi] at hp
    rw [eY]
    rcases z1d.mp hp with y|y
    ·obtain⟨m,hm1,hm2⟩:=ch p y
     rw [if_neg]
     ·exact⟨m,hm1,hm2.ext x3⟩
     ·intro e
      have e:=j7 e
      have nd':=nd
      rw [<- List.take_append_drop i ps,z23,List.nodup_append] at nd'
      exact nd'.2.2 _ (List.mem_map_of_mem y) _ (List.mem_map_of_mem (by rw [List.drop_eq_getElem_cons hi];exact List.mem_cons_self)) e.symm
    ·rw [z20.mp y,if_pos rfl]
     exact⟨n,rfl,a3⟩
   ·have:=my D (kk ps[i].k) (.int n);lia)
  (λZ G2 zz=>by obtain⟨D,gs2,v4,v5,v6,hδ,S2,x2,o2,_⟩:=zz;exact mD Pth.i ps (by rw [o2.at_ j n2 n3];exact hj) Z) ps.length 0 (bb h d j [] none none none none none none none) G (by simp [bx]) ⟨[],gs,none,none,none,rfl,S,aL.refl _,Oth.refl _ _ _,λkey v e=>(by cases e),λp hp=>by simp at hp,by simp⟩
 have x':aL ps.length gs gs':=x'
 have dl:D.length≤ps.length:=dl
 have ke:∀key v,ax D key=some v->∃p∈ps.take ps.length,∃n,key=kk p.k/\v=.int n:=ke
 have ch:∀p∈ps.take ps.length,∃n,ax D (kk p.k)=some (.int n)/\Ch gs' p 0 n:=ch
 rw [List.take_length] at ke ch
 have k0:∀p:Pth,p.k / 2 ^ 0=p.k:=λp=>by rw [Nat.pow_zero,Nat.div_one]
 refine⟨D,gs',G',v4,v5,v6,ef,S',x'.le hm,o',⟨λkey v e=>?_,λp hp=>?_⟩,by lia⟩
 ·obtain⟨p,hp,q⟩:=ke key v e
  exact⟨p,hp,by rw [k0];exact q⟩
 ·rw [k0];exact ch p hp
structure LB(gs:List Mk)(d:Nat)(ps sub:List Pth)(jj:Nat)(D:List (aB×I)):Prop where
 ke:∀key v,ax D key=some v->∃p∈ps,∃a n,key=kk a/\v=.int n/\Tl gs d p jj a n
 ch:∀p∈ps,∃n,ax D (kk (p.k / 2 ^ jj))=some (.int n)/\Ch gs p jj n
 be:∀p∈sub,∀m,p.ss[jj]?=some m->ax D (kk (eX (p.k / 2 ^ jj)))=some (.int m)
theorem y7f(q:Nat):(q:Int)+1-2*((q:Int) % 2)=(eX q:Int):=by
 unfold eX
 split<;>lia
theorem vZ{h d j:Nat}{D:List (aB×I)}{v4 v5 v6 v7 v8 v9:Option Vl}{b:Nat}{m:Int}{G:List M}(h6:ag aS (aa 6) (aa 7) (bb h d j D v4 v5 v6 v7 v8 v9 ↑(.int (b:Nat))) G=some (⇑(.int m),bb h d j D v4 v5 v6 v7 v8 v9 ↑(.int (b:Nat)),G)) :
  l9 i0 (aa 3) (af (aa 10) (af (ag aS (aa 6) (aa 7)) ae)) (bb h d j D v4 v5 v6 v7 v8 v9 ↑(.int (b:Nat))) G=some (⇑((ax D (kk b)).getD (.int m)),bb h d j D v4 v5 v6 v7 v8 v9 ↑(.int (b:Nat)),G):=by
 refine aO (a:=.s 3) (Z1:=bb h d j D v4 v5 v6 v7 v8 v9 ↑(.int (b:Nat))) (G1:=G) rfl ?_
 refine (if_pos (show iZ _ _ (.s 3)=true from rfl)).trans ?_
 exact aO (a:=[⇑(.int (b:Nat)),⇑(.int m)]) (Z1:=bb h d j D v4 v5 v6 v7 v8 v9 ↑(.int (b:Nat))) (G1:=G) (cv rfl (cv (es:=[]) h6 rfl)) rfl
theorem y7e{G:List M}{h d j jj:Nat}{gs:List Mk}{ps sub:List Pth}{p:Pth}{D:List (aB×I)}{v8 v9 v10:Option Vl}{m:Int}(nd:gs.Nodup)(dl:D.length<1000)(lb:LB gs d ps sub jj D)(hp:p∈ps)(hs:∀q∈sub,q∈ps)(hj:jj<d)(hm:p.ss[jj]?=some m) :
  (∃D' v9' y45d,pj (bb h d j D ↑(.int (p.k:Nat)) ↑(.int p.w) ↑(.tup (p.ss.map I.int)) ↑(.int (jj:Nat)) v8 v9 v10) G=some (.nx (bb h d j D' ↑(.int (p.k:Nat)) ↑(.int p.w) ↑(.tup (p.ss.map I.int)) ↑(.int (jj:Nat)) v8 v9' y45d) G)/\LB gs d ps (sub++[p]) jj D'/\D'.length≤D.length+1) ∨
  (pj (bb h d j D ↑(.int (p.k:Nat)) ↑(.int p.w) ↑(.tup (p.ss.map I.int)) ↑(.int (jj:Nat)) v8 v9 v10) G=some (.rt (.im .non) G)/\¬ dE gs d ps):=by
 have hq:(p.k:Int) / 2 ^ jj=((p.k / 2 ^ jj:Nat):Int):=by push_cast;rfl
 obtain⟨q,eq⟩:∃q,p.k / 2 ^ jj=q:=⟨_,rfl⟩
 have hb:=y7f q
 obtain⟨b,eb⟩:∃b,eX q=b:=⟨_,rfl⟩
 rw [eb] at hb
 have tp:Tl gs d p jj b m:=.inr ⟨hj,by rw [eq,eb],hm⟩
 have hat:eA (p.ss.map I.int) (jj:Int)=some (.int m):=kO (by rw [List.getElem?_map,hm];rfl)
 rw [eq] at hq
 have ix:∀(D:List (aB×I)) (v9 v10:Option Vl),ag aS (aa 6) (aa 7) (bb h d j D ↑(.int (p.k:Nat)) ↑(.int p.w) ↑(.tup (p.ss.map I.int)) ↑(.int (jj:Nat)) v8 v9 v10) G=some (⇑(.int m),bb h d j D ↑(.int (p.k:Nat)) ↑(.int p.w) ↑(.tup (p.ss.map I.int)) ↑(.int (jj:Nat)) v8 v9 v10,G):=λD v9 v10=>by
  simp! [bb,hat]
 have start:∀{r:Option Fl},aj (aJ (aq (ag dM (l9 i0 (aa 3) (af (aa 10) (af (ag aS (aa 6) (aa 7)) ae))) (ag aS (aa 6) (aa 7)))) (aE (ah .non)) aQ) (cz (aa 3) (aa 10) (ag aS (aa 6) (aa 7))) (bb h d j D ↑(.int (p.k:Nat)) ↑(.int p.w) ↑(.tup (p.ss.map I.int)) ↑(.int (jj:Nat)) v8 ↑(.int (q:Nat)) ↑(.int (b:Nat))) G=r->pj (bb h d j D ↑(.int (p.k:Nat)) ↑(.int p.w) ↑(.tup (p.ss.map I.int)) ↑(.int (jj:Nat)) v8 v9 v10) G=r:=λhr=>by
  refine aA (bT (x:=.im (.int (q:Nat))) (Z1:=bb h d j D ↑(.int (p.k:Nat)) ↑(.int p.w) ↑(.tup (p.ss.map I.int)) ↑(.int (jj:Nat)) v8 v9 v10) (G1:=G) (by simp! [bb,hq]) rfl) ?_
  refine aA (bT (x:=.im (.int (b:Nat))) (Z1:=bb h d j D ↑(.int (p.k:Nat)) ↑(.int p.w) ↑(.tup (p.ss.map I.int)) ↑(.int (jj:Nat)) v8 ↑(.int (q:Nat)) v10) (G1:=G) (by simp! [bb,hb]) rfl) hr
 have fin:(ax D (kk b)=none∨ax D (kk b)=some (.int m))->(∃D' v9' y45d,pj (bb h d j D ↑(.int (p.k:Nat)) ↑(.int p.w) ↑(.tup (p.ss.map I.int)) ↑(.int (jj:Nat)) v8 v9 v10) G=some (.nx (bb h d j D' ↑(.int (p.k:Nat)) ↑(.int p.w) ↑(.tup (p.ss.map I.int)) ↑(.int (jj:Nat)) v8 v9' y45d) G)/\LB gs d ps (sub++[p]) jj D'/\D'.length≤D.length+1):=λhv=>by
  have hg:(ax D (kk b)).getD (.int m)=.int m:=by rcases hv with z|z<;>rw [z]<;>rfl
  have gg:=vZ (b:=b) (ix D ↑(.int (q:Nat)) ↑(.int (b:Nat)))
  rw [hg] at gg
  have old:∀{key:aB} {v:I},ax D key=some v->ax (bq D (kk b) (.int m)) key=some v:=λ{key v} e=>by
   rw [eY]
   split
   ·rename_i z
    subst z
    rcases hv with y|y
    ·rw [y] at e;cases e
    ·rw [y] at e;exact e
   ·exact e
  refine⟨bq D (kk b) (.int m),_,_,start (aA (bP (eG (ba gg (ix D ↑(.int (q:Nat)) ↑(.int (b:Nat))) (i7 _ _ _))) rfl) (mE (ix D ↑(.int (q:Nat)) ↑(.int (b:Nat))) (o:=.s 3) (i:=⇑(.int (b:Nat))) rfl rfl (pD (D:=D) rfl (by lia)))),⟨λkey v e=>?_,λr hr=>?_,λr hr m' hm'=>?_⟩,my _ _ _⟩
  ·rw [eY] at e
   split at e
   ·rename_i z
    cases e
    exact⟨p,hp,b,m,z.symm,rfl,tp⟩
   ·exact lb.ke key v e
  ·obtain⟨n,h1,h2⟩:=lb.ch r hr
   exact⟨n,old h1,h2⟩
  ·rcases z1d.mp hr with y|y
   ·exact old (lb.be r y m' hm')
   ·have:r=p:=z20.mp y
    subst this
    rw [hm] at hm'
    cases hm'
    rw [eq,eb,eY,if_pos rfl]
 cases hv:ax D (kk b) with
 | none=>exact .inl (fin (.inl hv))
 | some v =>
  obtain⟨p',hp',a,n,e1,e2,t⟩:=lb.ke _ _ hv
  have e1:=j7 e1
  subst e1 e2
  by_cases en:n=m
  ·subst en
   exact .inl (fin (.inr hv))
  ·refine .inr ⟨start (cB (b6 (Z1:=bb h d j D ↑(.int (p.k:Nat)) ↑(.int p.w) ↑(.tup (p.ss.map I.int)) ↑(.int (jj:Nat)) v8 ↑(.int (q:Nat)) ↑(.int (b:Nat))) (G1:=G) (eG (ba (vZ (b:=b) (ix D ↑(.int (q:Nat)) ↑(.int (b:Nat)))) (ix D ↑(.int (q:Nat)) ↑(.int (b:Nat))) (by rw [hv];exact pC en _ _))) rfl)),λc=>en (c jj p' hp' p hp _ _ _ t tp)⟩
end
section
theorem DN{c m:Str}{n k:Nat}{fn:FF}{fo:Mo Ev}{fa:Mo (List Ev)}{Z Z1 Z2:De}{G G1 G2:List M}{fs:List (Str×I)}{es:List Ev}{r:Option (Ev×De×List M)}(h:fo Z G=some (⇑(.ref k),Z1,G1))(ho:G1[k]?=some (.obj c fs))(hn:fs.lookup m=none)(ha:fa Z1 G1=some (es,Z2,G2))(hc:aV n fn (⇑(.ref k)::es) Z2 G2=r):bg c m n fn fo fa Z G=r:=by
 refine aO h ?_
 dsimp only
 rw [ho]
 dsimp only
 rw [if_pos ⟨rfl,by rw [hn];rfl⟩]
 exact aO ha hc
structure LA'(gs:List Mk)(ps:List Pth)(jj:Nat)(U:List (aB×I)):Prop where
 ke:∀key v,ax U key=some v->∃n,v=.int n/\(∃p∈ps,key=kk (p.k / 2 ^ (jj+1)))/\∀p∈ps,key=kk (p.k / 2 ^ (jj+1))->Ch gs p (jj+1) n
theorem LA'.ext{k:Nat}{gs g1:List Mk}{ps:List Pth}{jj:Nat}{U:List (aB×I)}(h:LA' gs ps jj U)(x:aL k gs g1):LA' g1 ps jj U:=⟨λkey v e=>by
 obtain⟨n,e1,e2,q⟩:=h.ke key v e
 exact⟨n,e1,e2,λp hp z=>(q p hp z).ext x⟩⟩
theorem DO(q:Nat):(q % 2=0/\q=2*(q / 2)/\eX q=2*(q / 2)+1)∨(q % 2=1/\q=2*(q / 2)+1/\eX q=2*(q / 2)):=by
 unfold eX
 rcases (show q % 2=0∨q % 2=1 by lia) with z|z
 ·rw [if_pos z];exact .inl ⟨z,by lia,by lia⟩
 ·rw [if_neg (by lia)];exact .inr ⟨z,by lia,by lia⟩
theorem wa{gs:List Mk}{d jj:Nat}{ps:List Pth}{D:List (aB×I)}(lb:LB gs d ps ps jj D)(ls:∀p∈ps,p.ss.length=d)(hj:jj<d){p:Pth}(hp:p∈ps) :
  ∃e o,ax D (kk (2*(p.k / 2 ^ (jj+1))))=some (.int e)/\ax D (kk (2*(p.k / 2 ^ (jj+1))+1))=some (.int o)/\∃c m,Ch gs p jj c/\p.ss[jj]?=some m/\ie (p.k / 2 ^ jj) c m=.pair e o:=by
 obtain⟨c,hc,cc⟩:=lb.ch p hp
 obtain⟨m,hm⟩:∃m,p.ss[jj]?=some m:=⟨_,zf (by rw [ls p hp];exact hj)⟩
 have hb:=lb.be p hp m hm
 rw [<- j5]
 rcases DO (p.k / 2 ^ jj) with⟨z,e1,e2⟩| ⟨z,e1,e2⟩
 ·refine⟨c,m,by rw [<- e1];exact hc,by rw [<- e2];exact hb,c,m,cc,hm,?_⟩
  unfold ie;rw [if_pos z]
 ·refine⟨m,c,by rw [<- e2];exact hb,by rw [<- e1];exact hc,c,m,cc,hm,?_⟩
  unfold ie;rw [if_neg (by lia)]
theorem DP{gs:List Mk}{d jj a:Nat}{p:Pth}{n:Int}(t:Tl gs d p jj a n):a / 2=p.k / 2 ^ (jj+1):=by
 rw [<- j5]
 rcases t with t|t
 ·rw [t.2.1]
 ·rw [t.2.1]
  rcases DO (p.k / 2 ^ jj) with⟨_,_,e⟩| ⟨_,_,e⟩<;>lia
theorem y56{G:List M}{h g s d j jj a:Nat}{gs:List Mk}{ps:List Pth}{D U:List (aB×I)}{v4 v5 v6 v7 v10:Option Vl}{p0:Pth}{n0:Int}(S:HG G h g s gs)(hl:gs.length<90000)(ul:U.length<1000)(lb:LB gs d ps ps jj D)(ls:∀p∈ps,p.ss.length=d)(hj:jj<d)(la:LA' gs ps jj U)(hp:p0∈ps)(t:Tl gs d p0 jj a n0) :
  ∃n gs' G',wU (bb h d j D v4 v5 v6 v7 (some (.ow (.dic U))) ↑(.int (a:Nat)) v10) G=some (.nx (bb h d j D v4 v5 v6 v7 (some (.ow (.dic (bq U (kk (a / 2)) (.int n))))) ↑(.int (a:Nat)) v10) G')/\HG G' h g s gs'/\aL 1 gs gs'/\Oth g s G G'/\LA' gs' ps jj (bq U (kk (a / 2)) (.int n)):=by
 have ha:=DP t
 obtain⟨e,o,h1,h2,_⟩:=wa lb ls hj hp
 rw [<- ha] at h1 h2
 obtain⟨n,gs',G',e3,S',a3,x3,o3⟩:=mw (a:=e) (b:=o) S (by lia)
 obtain⟨r,er⟩:∃r,a / 2=r:=⟨_,rfl⟩
 rw [er] at h1 h2 ha
 have s1:(a:Int)-(a:Int) % 2=((2*r:Nat):Int):=by lia
 have s2:(a:Int) / 2=(r:Int):=by lia
 have i1:ag bY (aa 9) (ag ck (aa 9) (ah (.int 2))) (bb h d j D v4 v5 v6 v7 (some (.ow (.dic U))) ↑(.int (a:Nat)) v10) G=some (⇑(.int ((2*r:Nat):Int)),bb h d j D v4 v5 v6 v7 (some (.ow (.dic U))) ↑(.int (a:Nat)) v10,G):=by
  rw [<- s1];simp! [bb]
 have i2:ag bA (ag bY (aa 9) (ag ck (aa 9) (ah (.int 2)))) (ah (.int 1)) (bb h d j D v4 v5 v6 v7 (some (.ow (.dic U))) ↑(.int (a:Nat)) v10) G=some (⇑(.int ((2*r+1:Nat):Int)),bb h d j D v4 v5 v6 v7 (some (.ow (.dic U))) ↑(.int (a:Nat)) v10,G):=by
  refine ba i1 rfl ?_
  simp! []
 have f1:=ba (p:=aS) (f:=aa 3) (Z:=bb h d j D v4 v5 v6 v7 (some (.ow (.dic U))) ↑(.int (a:Nat)) v10) (Z1:=bb h d j D v4 v5 v6 v7 (some (.ow (.dic U))) ↑(.int (a:Nat)) v10) (G:=G) (G1:=G) (x:=.s 3) rfl i1 (pE (D:=D) rfl h1)
 have f2:=ba (p:=aS) (f:=aa 3) (Z:=bb h d j D v4 v5 v6 v7 (some (.ow (.dic U))) ↑(.int (a:Nat)) v10) (Z1:=bb h d j D v4 v5 v6 v7 (some (.ow (.dic U))) ↑(.int (a:Nat)) v10) (G:=G) (G1:=G) (x:=.s 3) rfl i2 (pE (D:=D) rfl h2)
 refine⟨n,gs',G',?_,S',x3,o3,⟨λkey v z=>?_⟩⟩
 ·rw [er]
  refine mE (v:=⇑(.int n)) (o:=.s 8) (i:=⇑(.int (r:Nat))) (Z1:=bb h d j D v4 v5 v6 v7 (some (.ow (.dic U))) ↑(.int (a:Nat)) v10) (G1:=G') (Z2:=bb h d j D v4 v5 v6 v7 (some (.ow (.dic U))) ↑(.int (a:Nat)) v10) (G2:=G') (Z3:=bb h d j D v4 v5 v6 v7 (some (.ow (.dic U))) ↑(.int (a:Nat)) v10) (G3:=G') (DN (fs:=eL g s) (es:=[⇑(.int e),⇑(.int o)]) (Z1:=bb h d j D v4 v5 v6 v7 (some (.ow (.dic U))) ↑(.int (a:Nat)) v10) (G1:=G) (Z2:=bb h d j D v4 v5 v6 v7 (some (.ow (.dic U))) ↑(.int (a:Nat)) v10) (G2:=G) rfl S.ob (mq g s) (cv f1 (cv (es:=[]) f2 rfl)) (eh rfl rfl e3)) rfl (by simp! [bb,s2]) (pD (D:=U) rfl (by lia))
 ·rw [er] at z
  rw [eY] at z
  split at z
  ·rename_i y
   cases z
   refine⟨n,rfl,⟨p0,hp,by rw [<- y,ha]⟩,λp hpp ky=>?_⟩
   have hr:r=p.k / 2 ^ (jj+1):=j7 (y.trans ky)
   obtain⟨e',o',h1',h2',c,m,cc,hm,pe⟩:=wa lb ls hj hpp
   rw [<- hr,h1] at h1'
   rw [<- hr,h2] at h2'
   cases h1'
   cases h2'
   exact⟨c,m,cc.ext x3,hm,by rw [pe];exact a3⟩
  ·exact (la.ext x3).ke key v z
theorem wb:∀{D:List (aB×I)},(∀kv∈D,∃a:Nat,kv.1=kk a)->∃as:List Nat,gz (D.map (·.1))=some (as.map λa:Nat=>(a:Int))/\as.length=D.length/\∀a,a∈as↔∃v,(kk a,v)∈D
 | [],_=>⟨[],rfl,rfl,λa=>by simp⟩
 | (k,v)::D,h=>by
  obtain⟨a,ea⟩:=h _ List.mem_cons_self
  have ea:k=kk a:=ea
  subst ea
  obtain⟨as,e,l,m⟩:=wb (D:=D) λkv hkv=>h kv (z28 _ hkv)
  refine⟨a::as,?_,by simp [l],λb=>?_⟩
  ·show (gz (D.map (·.1))).map ((a:Int)::·)=_
   rw [e];rfl
  ·rw [z1e,m]
   constructor
   ·rintro (rfl|⟨v',h'⟩)
    ·exact⟨v,List.mem_cons_self⟩
    ·exact⟨v',z28 _ h'⟩
   ·rintro⟨v',h'⟩
    rcases z1e.mp h' with e'|h'
    ·have:=congrArg Prod.fst e'
     exact .inl (j7 this)
    ·exact .inr ⟨v',h'⟩
theorem pF{κ':Type}[DecidableEq κ']:∀{D:List (κ'×I)} {k:κ'} {v:I},(k,v)∈D->∃v',ax D k=some v'
 | (g,x)::D,k,v,h=>by
  rw [ig]
  by_cases e:g=k
  ·rw [if_pos e];exact⟨_,rfl⟩
  ·rw [if_neg e]
   rcases z1e.mp h with z|z
   ·cases z;exact absurd rfl e
   ·exact pF z
theorem wc{κ':Type}[DecidableEq κ']{k:κ'}{v:I}:∀{D:List (κ'×I)},ax D k=some v->(k,v)∈D
 | [],h=>by cases h
 | (g,x)::D,h=>by
  rw [ig] at h
  split at h
  ·rename_i e
   subst e
   cases h
   exact List.mem_cons_self
  ·exact z28 _ (wc h)
theorem DQ{Z:De}{G:List M}{D:List (aB×I)}{as:List Nat}(hp:pk Z G (.s 3)=some (.dic D))(e:gz (D.map (·.1))=some (as.map λa:Nat=>(a:Int)))(hl:as.length<64):ib [.s 3] Z G=some (.v (.ow (.lst ((pU (as.map λa:Nat=>(a:Int))).map I.int))),Z,G):=by
 unfold ib
 dsimp only
 rw [hp]
 dsimp only
 rw [e]
 dsimp only
 rw [if_pos (by rw [z19];exact hl)]
theorem yf8{G:List M}{h g s d j jj:Nat}{gs:List Mk}{ps:List Pth}{D:List (aB×I)}{v4 v5 v6 v8 v9 v10:Option Vl}(S:HG G h g s gs)(hl:gs.length<60000)(hm:ps.length≤8)(hJ:G[j]?=some (.lst (ps.map Pth.i)))(n2:j≠g)(n3:j≠s)(hd:d≤6)(hj:jj<d)(ls:∀p∈ps,p.ss.length=d)(lv:LV gs ps jj D)(dl:D.length≤8*(jj+1)) :
  (∃U gs' G' v4' v5' v6' v9' y45d,pY (bb h d j D v4 v5 v6 ↑(.int (jj:Nat)) v8 v9 v10) G=some (.nx (bb h d j U v4' v5' v6' ↑(.int (jj:Nat)) none v9' y45d) G')/\HG G' h g s gs'/\aL 56 gs gs'/\Mor g s G G'/\LV gs' ps (jj+1) U/\U.length≤8*(jj+2)/\yf gs d ps jj) ∨
  (pY (bb h d j D v4 v5 v6 ↑(.int (jj:Nat)) v8 v9 v10) G=some (.rt (.im .non) G)/\¬ dE gs d ps):=by
 have start:∀{r:Option Fl},aj (bu (a9 (one (aa 2)) aR) (bX [4,5,6]) pj) (aj (bu (a9 (one (bR (bd (af (aa 3) ae) ib))) aR) (aF 9) wU) (aN (dy (aa 8)) (aF 3))) (bb h d j D v4 v5 v6 ↑(.int (jj:Nat)) (some (.ow (.dic []))) v9 v10) G=r->pY (bb h d j D v4 v5 v6 ↑(.int (jj:Nat)) v8 v9 v10) G=r:=λhr =>
  aA (bT (x:=.ow (.dic [])) (Z1:=bb h d j D v4 v5 v6 ↑(.int (jj:Nat)) v8 v9 v10) (G1:=G) rfl rfl) hr
 rcases i4 (w:=bx ⇑(.ref j) ps.length) (g:=bX [4,5,6]) (b:=pj)
  (λi Z G'=>G'=G/\∃D' v4 v5 v6 v9 v10,Z=bb h d j D' v4 v5 v6 ↑(.int (jj:Nat)) (some (.ow (.dic []))) v9 v10/\LB gs d ps (ps.take i) jj D'/\D'.length≤D.length+i)
  (λx G'=>G'=G/\x=.im .non/\¬ dE gs d ps)
  (λi Z G2 hi zz=>by
   obtain⟨eg,D',v4,v5,v6,v9,v10,hδ,lb,dl'⟩:=zz
   have hi:i<ps.length:=hi
   subst hδ eg
   have em:=z2c hi
   obtain⟨m,hm'⟩:∃m,ps[i].ss[jj]?=some m:=⟨_,zf (by rw [ls _ em];exact hj)⟩
   refine⟨Pth.i ps[i],_,_,by rw [mC Pth.i ps hJ,zf hi];rfl,rfl,?_⟩
   rcases y7e (h:=h) (j:=j) (p:=ps[i]) (v8:=some (.ow (.dic []))) (v9:=v9) (v10:=v10) (G:=G2) S.nd (by lia) lb em (λq hq=>List.mem_of_mem_take hq) hj hm' with⟨D2,v9',y45d,e2,lb2,dl2⟩| ⟨e2,q⟩
   ·refine .inl ⟨_,_,e2,rfl,D2,_,_,_,v9',y45d,rfl,by rw [List.take_succ_eq_append_getElem hi];exact lb2,by lia⟩
   ·exact .inr ⟨_,_,e2,rfl,rfl,q⟩)
  (λZ G2 zz=>by obtain⟨eg,_⟩:=zz;subst eg;exact mD Pth.i ps hJ Z) ps.length 0 (bb h d j D v4 v5 v6 ↑(.int (jj:Nat)) (some (.ow (.dic []))) v9 v10) G (by simp [bx]) ⟨rfl,D,v4,v5,v6,v9,v10,rfl,⟨λkey v e=>by
   obtain⟨p,hp,n,e1,e2⟩:=lv.ke key v e
   obtain⟨n',h1,h2⟩:=lv.ch p hp
   rw [<- e1,e,e2] at h1
   cases h1
   exact⟨p,hp,_,n,e1,e2,.inl ⟨z37 hj,rfl,h2⟩⟩,lv.ch,λp hp=>by simp at hp⟩,by lia⟩ with⟨Z',G',ef,rfl,D',w4,w5,w6,w9,w10,rfl,lb,dl'⟩| ⟨x,G',ef,rfl,rfl,q⟩
 ·have lb:LB gs d ps (ps.take ps.length) jj D':=lb
  rw [List.take_length] at lb
  have dl':D'.length≤D.length+ps.length:=dl'
  have cons:yf gs d ps jj:=λp hp q hq a n m t1 t2=>by
   have val:∀r∈ps,∀n,Tl gs d r jj a n->ax D' (kk a)=some (.int n):=λr hr n t=>by
    rcases t with⟨_,t2,t3⟩| ⟨_,t2,t3⟩
    ·obtain⟨n',h1,h2⟩:=lb.ch r hr
     rw [t2,h1,t3.uniq S.nd h2]
    ·rw [t2];exact lb.be r hr n t3
   have v1:=val p hp n t1
   have v2:=val q hq m t2
   rw [v1] at v2
   cases v2
   rfl
  obtain⟨as,ek,la,ma⟩:=wb (D:=D') λkv hkv=>by
   obtain⟨v',hv⟩:=pF (k:=kv.1) (v:=kv.2) hkv
   obtain⟨p,_,a,_,e,_⟩:=lb.ke _ _ hv
   exact⟨a,e⟩
  obtain⟨xs,ex⟩:∃xs,pU (as.map λa:Nat=>(a:Int))=xs:=⟨_,rfl⟩
  have pm:xs.Perm (as.map λa:Nat=>(a:Int)):=by rw [<- ex];exact vh _
  have lx:xs.length=D'.length:=by rw [pm.length_eq,z19,la]
  have sg:=DQ (Z:=bb h d j D' w4 w5 w6 ↑(.int (jj:Nat)) (some (.ow (.dic []))) w9 w10) (G:=G') (D:=D') rfl ek (by lia)
  rw [ex] at sg
  have hx:∀x∈xs,∃a:Nat,x=(a:Int)/\∃p∈ps,∃n,Tl gs d p jj a n:=λx hx=>by
   obtain⟨a,ha,e⟩:=z30.mp (pm.mem_iff.mp hx)
   obtain⟨v,hv⟩:=(ma a).mp ha
   obtain⟨v',hv'⟩:=pF hv
   obtain⟨p,hp,a',n,e1,_,t⟩:=lb.ke _ _ hv'
   have:=j7 e1
   subst this
   exact⟨a,e.symm,p,hp,n,t⟩
  have hJ1:(G'++[M.lst (xs.map I.int)])[G'.length]?=some (.lst (xs.map I.int)):=by simp
  obtain⟨k1,k2,k3⟩:=S.lt
  have S1:HG (G'++[M.lst (xs.map I.int)]) h g s gs:=S.app _
  obtain⟨Z2,G2,ef2,U,gs2,u9,rfl,S2,x2,o2,la2,ul,hb2⟩:=gD (w:=bx ⇑(.ref G'.length) xs.length) (g:=aF 9) (b:=wU)
   (λi Z Ga=>∃U gs' u9,Z=bb h d j D' w4 w5 w6 ↑(.int (jj:Nat)) (some (.ow (.dic U))) u9 w10/\HG Ga h g s gs'/\aL i gs gs'/\Oth g s (G'++[M.lst (xs.map I.int)]) Ga/\LA' gs' ps jj U/\U.length≤i/\∀a:Nat,(a:Int)∈xs.take i->∃v,ax U (kk (a / 2))=some v)
   (λi Z Ga hi zz=>by
    obtain⟨U,gs3,u9,hδ,S3,x3,o3,la3,ul,hb⟩:=zz
    have hi:i<xs.length:=hi
    subst hδ
    have l3:=x3.len
    obtain⟨a,ea,p,hp,n,t⟩:=hx _ (z2c hi)
    have hJ3:Ga[G'.length]?=some (.lst (xs.map I.int)):=by rw [o3.at_ _ (by lia) (by lia)];exact hJ1
    obtain⟨n',gs4,G4,e4,S4,x4,o4,la4⟩:=y56 (j:=j) (v4:=w4) (v5:=w5) (v6:=w6) (v7:=↑(.int (jj:Nat))) (v10:=w10) S3 (by lia) (by lia) ⟨λkey v e=>by obtain⟨p,hp,a,n,e1,e2,t⟩:=lb.ke key v e;exact⟨p,hp,a,n,e1,e2,t.ext x3⟩,λp hp=>by obtain⟨n,h1,h2⟩:=lb.ch p hp;exact⟨n,h1,h2.ext x3⟩,lb.be⟩ ls hj la3 hp (t.ext x3)
    refine⟨.int (a:Nat),_,_,_,G4,by rw [mC I.int xs hJ3,zf hi,ea];rfl,rfl,e4,_,gs4,_,rfl,S4,x3.trans x4,o3.trans o4,la4,by have:=my U (kk (a / 2)) (.int n');lia,λb hb'=>?_⟩
    rw [eY]
    split
    ·exact⟨_,rfl⟩
    ·rename_i z
     rcases dF (zf hi) hb' with y|y
     ·exact hb b y
     ·rw [ea] at y
      have:b=a:=by lia
      subst this
      exact absurd rfl z)
   (λZ Ga zz=>by obtain⟨U,gs3,u9,hδ,S3,x3,o3,_⟩:=zz;exact mD I.int xs (by rw [o3.at_ _ (by lia) (by lia)];exact hJ1) Z) xs.length 0 (bb h d j D' w4 w5 w6 ↑(.int (jj:Nat)) (some (.ow (.dic []))) w9 w10) (G'++[M.lst (xs.map I.int)]) (by simp [bx]) ⟨[],gs,w9,rfl,S1,aL.refl _,Oth.refl _ _ _,⟨λkey v e=>(by cases e)⟩,by simp,λa ha=>by simp at ha⟩
  have x2:aL xs.length gs gs2:=x2
  have ul:U.length≤xs.length:=ul
  have hb2:∀a:Nat,(a:Int)∈xs.take xs.length->∃v,ax U (kk (a / 2))=some v:=hb2
  rw [List.take_length] at hb2
  refine .inl ⟨U,gs2,G2,w4,w5,w6,u9,w10,start (aA (cF (Z1:=bb h d j D v4 v5 v6 ↑(.int (jj:Nat)) (some (.ow (.dic []))) v9 v10) (G1:=G') (i8 Pth.i ps hJ rfl) ef) (aA (cF (Z1:=bb h d j D' w4 w5 w6 ↑(.int (jj:Nat)) (some (.ow (.dic []))) w9 w10) (G1:=G'++[M.lst (xs.map I.int)]) (i8 I.int xs hJ1 (aO (aO (cv (e:=.s 3) (es:=[]) rfl rfl) sg) rfl)) ef2) ?_)),S2,x2.le (by lia),(Mor.app _).trans o2.mor,⟨λkey v e=>?_,λp hp=>?_⟩,by lia,cons⟩
  ·exact bT (x:=.ow (.dic U)) (Z1:=bb h d j D' w4 w5 w6 ↑(.int (jj:Nat)) none u9 w10) (G1:=G2) rfl rfl
  ·obtain⟨n,e1,⟨p,hp,e2⟩,_⟩:=la2.ke key v e
   exact⟨p,hp,n,e2,e1⟩
  ·obtain⟨n,h1,_⟩:=lb.ch p hp
   have hm1:=(ma _).mpr ⟨_,wc h1⟩
   have hm2:((p.k / 2 ^ jj:Nat):Int)∈xs:=pm.mem_iff.mpr (z30.mpr ⟨_,hm1,rfl⟩)
   obtain⟨v,hv⟩:=hb2 _ hm2
   rw [j5] at hv
   obtain⟨n',e1,_,q⟩:=la2.ke _ _ hv
   exact⟨n',by rw [hv,e1],q p hp rfl⟩
 ·exact .inr ⟨start (cB (cF (Z1:=bb h d j D v4 v5 v6 ↑(.int (jj:Nat)) (some (.ow (.dic []))) v9 v10) (G1:=G') (i8 Pth.i ps hJ rfl) ef)),q⟩
end
section
theorem LV.full{gs:List Mk}{ps:List Pth}{jj:Nat}{D:List (aB×I)}(lv:LV gs ps jj D):m9 gs ps jj:=λp hp=>by
 obtain⟨n,_,c⟩:=lv.ch p hp
 exact⟨n,c⟩
theorem Fm.lt{gs:List Mk}{d:Nat}{qs:List Pq}(f:Fm gs d qs):∀p∈qs.map ff,p.k / 2 ^ d=0:=λp hp=>by
 obtain⟨q,hq,rfl⟩:=z30.mp hp
 have h1:=(f.ok q hq).k1
 have h0:=(f.ok q hq).k0
 refine Nat.div_eq_of_lt ?_
 show q.k.toNat<2 ^ d
 have:(q.k.toNat:Int)<((2 ^ d:Nat):Int):=by rw [Int.toNat_of_nonneg h0];push_cast;exact h1
 lia
theorem Fm.nk{gs:List Mk}{d:Nat}{qs:List Pq}(f:Fm gs d qs):((qs.map ff).map Pth.k).Nodup:=by
 have nd:=f.nd
 unfold List.Nodup at nd ⊢
 rw [z38,List.pairwise_map]
 rw [List.pairwise_map] at nd
 refine nd.imp_of_mem λ{a b} ha hb h e=>h ?_
 have h1:=(f.ok a ha).k0
 have h2:=(f.ok b hb).k0
 have e:a.k.toNat=b.k.toNat:=e
 lia
theorem yf9{G:List M}{h g s d j:Nat}{gs:List Mk}{qs:List Pq}(S:HG G h g s gs)(hl:gs.length<50000)(hlen:qs.length≤8)(hss:∀q∈qs,q.ss.length≤1000)(hd:d≤6)(hj:G[j]?=some (.lst (qs.map Pq.i)))(n2:j≠g)(n3:j≠s) :
  ∃x gs' G',pZ [.im (.ref h),.im (.int (d:Nat)),.im (.ref j)] G=some (.im x,G')/\HG G' h g s gs'/\aL 400 gs gs'/\Mor g s G G'/\((¬ Fm gs d qs/\x=.non/\gs'=gs)∨(Fm gs d qs/\Res gs' d (qs.map ff) x)):=by
 let Z0:De:=[↑(.ref h),↑(.int (d:Nat)),↑(.ref j),none,none,none,none,none,none,none,none]
 obtain⟨b,e1,hb⟩:=DM (d:=d) S hd (by lia) hss hj
 have tst:∀c,b=c->bd (bd (af (aa 0) (af (aa 1) (af (aa 2) ae))) (aV 3 pX)) cL Z0 G=some (c,Z0,G):=λc hc=>by
  subst hc
  exact aO (aO (a:=[⇑(.ref h),⇑(.int (d:Nat)),⇑(.ref j)]) (Z1:=Z0) (G1:=G) rfl (eh rfl rfl e1)) rfl
 by_cases f:Fm gs d qs
 rotate_left
 ·have:b=false:=by cases b with|true=>exact absurd (hb.mp rfl) f|false=>rfl
  exact⟨.non,gs,G,c8 rfl (cB (b6 (Z1:=Z0) (G1:=G) (gA (b:=false) (tst false this)) rfl)),S,(aL.refl gs).le (by lia),Mor.refl _ _ _,.inl ⟨f,rfl,rfl⟩⟩
 have hi':=f.is
 have klt:=f.lt
 have nk:=f.nk
 have ls:∀p∈qs.map ff,p.ss.length=d:=λp hp=>by
  obtain⟨q,hq,rfl⟩:=z30.mp hp
  exact (f.ok q hq).ls
 have lp:(qs.map ff).length=qs.length:=by rw [z19]
 have hne:qs.map ff≠[]:=λz=>f.ne (List.map_eq_nil_iff.mp z)
 rw [hi'] at hj
 generalize hps:qs.map ff=ps at *
 obtain⟨jl,_⟩:=zd.mp hj
 obtain⟨D1,gs1,G1,v4,v5,v6,ef1,S1,x1,o1,lv1,dl1⟩:=yf7 (d:=d) S (by lia) (by lia) hj n2 n3 nk
 have l1:=x1.len
 have top:∀{x:Vl} {G':List M},aj (bu (a9 (af (aa 1) ae) cG) (aF 7) pY) (aE (ag aS (aa 3) (ah (.int 0)))) (bb h d j D1 v4 v5 v6 none none none none) G1=some (.rt x G')->pZ [.im (.ref h),.im (.int (d:Nat)),.im (.ref j)] G=some (x,G'):=λhr =>
  c8 rfl (aA (bP (Z1:=Z0) (G1:=G) (gA (b:=true) (tst true (hb.mpr f))) rfl) (aA (bT (x:=.ow (.dic [])) (Z1:=Z0) (G1:=G) rfl rfl) (aA (cF (Z1:=bb h d j [] none none none none none none none) (G1:=G) (i8 Pth.i ps hj rfl) ef1) hr)))
 rcases i4 (w:=ez d) (g:=aF 7) (b:=pY)
  (λi Z G'=>∃D gs' v4 v5 v6 v7 v8 v9 v10,Z=bb h d j D v4 v5 v6 v7 v8 v9 v10/\HG G' h g s gs'/\aL (8+56*i) gs gs'/\Mor g s G G'/\LV gs' ps i D/\D.length≤8*(i+1)/\(∀h',h'<i->yf gs' d ps h')/\∀h',h'≤i->m9 gs' ps h')
  (λx G'=>∃gs',x=.im .non/\HG G' h g s gs'/\aL 400 gs gs'/\Mor g s G G'/\¬ dE gs' d ps)
  (λi Z G3 hi zz=>by
   obtain⟨D,gs3,v4,v5,v6,v7,v8,v9,v10,hδ,S3,x3,o3,lv,dl,cs,fu⟩:=zz
   have hi:i<d:=hi
   subst hδ
   have l3:=x3.len
   have hj3:G3[j]?=some (.lst (ps.map Pth.i)):=by rw [o3.at_ j jl n2 n3];exact hj
   refine⟨.int (i:Nat),_,_,rfl,rfl,?_⟩
   rcases yf8 (v4:=v4) (v5:=v5) (v6:=v6) (v8:=v8) (v9:=v9) (v10:=v10) S3 (by lia) (by lia) hj3 n2 n3 hd hi ls lv dl with⟨U,gs4,G4,w4,w5,w6,w9,w10,e4,S4,x4,o4,lv4,ul,ca⟩| ⟨e4,q⟩
   ·refine .inl ⟨_,_,e4,U,gs4,w4,w5,w6,_,none,w9,w10,rfl,S4,(x3.trans x4).le (by lia),o3.trans o4,lv4,by lia,λh' hh=>?_,λh' hh=>?_⟩
    ·rcases Nat.lt_or_ge h' i with y|y
     ·exact (cs h' y).up (fu h' (z37 y)) x4 S4.nd
     ·obtain rfl:h'=i:=by lia
      exact ca.up (fu h' (z12 _)) x4 S4.nd
    ·rcases Nat.lt_or_ge i h' with y|y
     ·obtain rfl:h'=i+1:=by lia
      exact lv4.full
     ·exact (fu h' y).ext x4
   ·exact .inr ⟨_,_,e4,gs3,rfl,S3,x3.le (by lia),o3,q⟩)
  (λ_ _ _=>rfl) d 0 (bb h d j D1 v4 v5 v6 none none none none) G1 (by simp [ez]) ⟨D1,gs1,v4,v5,v6,none,none,none,none,rfl,S1,x1,o1.mor,lv1,by lia,λh' hh=>by lia,λh' hh=>by
   obtain rfl:h'=0:=by lia
   exact lv1.full⟩ with⟨Z',G',ef,D,gs',w4,w5,w6,w7,w8,w9,w10,rfl,S',x',o',lv,dl,cs,fu⟩| ⟨x,G',ef,gs',rfl,S',x',o',q⟩
 ·have x':aL (8+56*d) gs gs':=x'
  have lv:LV gs' ps d D:=lv
  have cs:∀h',h'<d->yf gs' d ps h':=cs
  have fu:∀h',h'≤d->m9 gs' ps h':=fu
  obtain⟨p0,hp0⟩:=List.exists_mem_of_ne_nil ps hne
  obtain⟨n,vn,cn⟩:=lv.ch p0 hp0
  rw [klt p0 hp0] at vn
  have all:∀p∈ps,Ch gs' p d n:=λp hp=>by
   obtain⟨m,vm,cm⟩:=lv.ch p hp
   rw [klt p hp,vn] at vm
   cases vm
   exact cm
  refine⟨.int n,gs',G',top (aA (cF (w:=ez d) (Z1:=bb h d j D1 v4 v5 v6 none none none none) (G1:=G1) (gB (n:=d) (j:=(d:Int)) rfl rfl (by lia)) ef) (mf (ba (x:=.s 3) (y:=⇑(.int ((0:Nat):Int))) rfl rfl (pE (D:=D) rfl vn)))),S',x'.le (by lia),o',.inr ⟨f,.is n (λh'=>?_) fu all⟩⟩
  rcases Nat.lt_or_ge h' d with y|y
  ·exact cs h' y
  ·intro p hp q hq a n1 n2 t1 t2
   rcases t1 with t1|t1
   ·rcases t2 with t2|t2
    ·obtain rfl:h'=d:=by have:=t1.1;lia
     rw [t1.2.2.uniq S'.nd (all p hp),t2.2.2.uniq S'.nd (all q hq)]
    ·have:=t2.1;lia
   ·have:=t1.1;lia
 ·exact⟨.non,gs',G',top (cB (cF (w:=ez d) (Z1:=bb h d j D1 v4 v5 v6 none none none none) (G1:=G1) (gB (n:=d) (j:=(d:Int)) rfl rfl (by lia)) ef)),S',x',o',.inr ⟨f,.no q⟩⟩
end
section
theorem DR(W:List Int)(q j:Nat):cT W q (j+1)=cT W (2*q) j++cT W (2*q+1) j:=by
 unfold cT
 have p2:2 ^ (j+1)=2 ^ j+2 ^ j:=by rw [Nat.pow_succ];lia
 have e1:q*2 ^ (j+1)=2*q*2 ^ j:=by rw [Nat.pow_succ,Nat.mul_comm 2 q,Nat.mul_assoc,Nat.mul_comm 2 (2 ^ j)]
 have e2:(2*q+1)*2 ^ j=2*q*2 ^ j+2 ^ j:=by rw [Nat.add_mul,Nat.one_mul]
 rw [e1,e2,p2,List.take_add,List.drop_drop]
theorem DS{W:List Int}{d:Nat}(h:W.length=2 ^ d):cT W 0 d=W:=by
 unfold cT
 rw [Nat.zero_mul,List.drop_zero,z36 (by lia)]
theorem DU{W:List Int}{k:Nat}{w:Int}(h:W[k]?=some w):cT W k 0=[w]:=by
 obtain⟨hk,hv⟩:=zd.mp h
 unfold cT
 rw [Nat.pow_zero,Nat.mul_one,List.drop_eq_getElem_cons hk,hv]
 rfl
theorem Sl.up{gs:List Mk}{W:List Int}{q j:Nat}{a b n:Int}(s1:Sl gs j a (cT W (2*q) j))(s2:Sl gs j b (cT W (2*q+1) j))(at_:At gs n (.pair a b)):Sl gs (j+1) n (cT W q (j+1)):=⟨a,b,_,_,DR W q j,s1.len,s2.len,at_,s1,s2⟩
structure y49(gs:List Mk)(W:List Int)(d:Nat)(p:Pth):Prop where
 lt:p.k<2 ^ d
 wd:W[p.k]?=some p.w
 wr:Wr p.w
 ls:p.ss.length=d
 sb:∀j,j<d->∃m,p.ss[j]?=some m/\Sl gs j m (cT W (eX (p.k / 2 ^ j)) j)
theorem Ch.sl{k:Nat}{gs g1:List Mk}{W:List Int}{d:Nat}{p:Pth}(hp:y49 gs W d p)(x:aL k gs g1):∀{j:Nat} {n:Int},j≤d->Ch g1 p j n->Sl g1 j n (cT W (p.k / 2 ^ j) j)
 | 0,n,_,h=>by
  rw [Nat.pow_zero,Nat.div_one,DU hp.wd]
  exact⟨p.w,rfl,h⟩
 | j+1,n,hj,⟨a,b,h1,h2,h3⟩=>by
  have s1:=Ch.sl hp x (z37 hj) h1
  obtain⟨m,hm,s2⟩:=hp.sb j hj
  rw [h2] at hm
  cases hm
  have s2:=s2.ext x
  rw [<- j5]
  unfold ie at h3
  rcases DO (p.k / 2 ^ j) with⟨z,e1,e2⟩| ⟨z,e1,e2⟩
  ·rw [if_pos z] at h3
   rw [e2] at s2
   exact Sl.up (by rw [<- e1];exact s1) s2 h3
  ·rw [if_neg (by lia)] at h3
   rw [e2] at s2
   exact Sl.up s2 (by rw [<- e1];exact s1) h3
theorem Tl.sl{k:Nat}{gs g1:List Mk}{W:List Int}{d h a:Nat}{p:Pth}{n:Int}(hp:y49 gs W d p)(x:aL k gs g1)(t:Tl g1 d p h a n):Sl g1 h n (cT W a h):=by
 rcases t with⟨t1,t2,t3⟩| ⟨t1,t2,t3⟩
 ·rw [t2];exact t3.sl hp x t1
 ·obtain⟨m,hm,s⟩:=hp.sb h t1
  rw [t3] at hm
  cases hm
  rw [t2]
  exact s.ext x
theorem DV{k:Nat}{gs g1:List Mk}{W:List Int}{d:Nat}{ps:List Pth}{y:I}{sl:Int}(hps:∀p∈ps,y49 gs W d p)(hS:Sl gs d sl W)(x:aL k gs g1)(nd:g1.Nodup)(hne:ps≠[])(r:Res g1 d ps y):y=.int sl:=by
 cases r with
 | no c=>exact absurd (λh p hp q hq a n m t1 t2=>(t1.sl (hps p hp) x).uniq nd (t2.sl (hps q hq) x)) c
 | is n c f q =>
  obtain⟨p,hp⟩:=List.exists_mem_of_ne_nil ps hne
  have s:=(q p hp).sl (hps p hp) x (z12 _)
  rw [Nat.div_eq_of_lt (hps p hp).lt,DS hS.len] at s
  rw [s.uniq nd (hS.ext x)]
noncomputable def jm(p:Pth):Pq:=⟨(p.k:Int),p.w,p.ss⟩
theorem we(p:Pth):ff (jm p)=p:=by
 cases p
 simp [ff,jm]
theorem Sl.look{gs:List Mk}:∀{j:Nat} {n:Int} {ws:List Int},Sl gs j n ws->(Q.look gs n).isSome=true
 | 0,_,_,⟨w,_,h⟩=>by rw [jY h];rfl
 | _+1,_,_,⟨_,_,_,_,_,_,_,h,_,_⟩=>by rw [jY h];rfl
theorem DW{gs:List Mk}{W:List Int}{d:Nat}{ps:List Pth}(hps:∀p∈ps,y49 gs W d p)(hne:ps≠[])(hnd:(ps.map λp=>(p.k:Int)).Nodup):Fm gs d (ps.map jm):=by
 refine⟨λq hq=>?_,λz=>hne (List.map_eq_nil_iff.mp z),by rw [z38];exact hnd⟩
 obtain⟨p,hp,rfl⟩:=z30.mp hq
 have o:=hps p hp
 refine⟨Int.natCast_nonneg _,?_,o.wr,o.ls,λx hx=>?_⟩
 ·show (p.k:Int)<2 ^ d
  have:((p.k:Nat):Int)<((2 ^ d:Nat):Int):=Int.ofNat_lt.mpr o.lt
  push_cast at this
  exact this
 ·obtain⟨i,hi,e⟩:=List.getElem_of_mem hx
  have hi':i<p.ss.length:=hi
  obtain⟨m,hm,s⟩:=o.sb i (by rw [<- o.ls];exact hi')
  rw [zf hi'] at hm
  have e:p.ss[i]=x:=e
  rw [e] at hm
  cases hm
  exact s.look
theorem yc1{G:List M}{h g s d:Nat}{gs:List Mk}{W:List Int}{ps:List Pth}{sl:Int}(S:HG G h g s gs)(hl:gs.length<70000)(hps:∀p∈ps,y49 gs W d p)(hS:Sl gs d sl W)(hne:ps≠[])(hnd:(ps.map λp=>(p.k:Int)).Nodup)(hlen:ps.length≤64)(hd:d≤6) :
  ∃gs' G',km [.im (.ref h),.im (.int (d:Nat)),.im (.tup (ps.map Pth.i))] G=some (.im (.int sl),G')/\HG G' h g s gs'/\aL (7*ps.length) gs gs'/\Mor g s G G':=by
 have f:=DW hps hne hnd
 have e:(ps.map jm).map Pq.i=ps.map Pth.i:=by rw [z38];rfl
 have e2:(ps.map jm).map ff=ps:=by rw [z38];exact (List.map_congr_left λp _=>we p).trans (List.map_id _)
 obtain⟨x,gs',G',h1,S',x',o',q⟩:=DJ (d:=d) (qs:=ps.map jm) S hl (by rw [z19];exact hlen) (λq hq=>by obtain⟨p,hp,rfl⟩:=z30.mp hq;show p.ss.length≤1000;rw [(hps p hp).ls];lia) hd
 rw [e] at h1
 rw [z19] at x'
 rcases q with⟨q,_⟩| ⟨_,r⟩
 ·exact absurd f q
 ·rw [e2] at r
  have:=DV hps hS x' S'.nd hne r
  subst this
  exact⟨gs',G',h1,S',x',o'⟩
variable {d l h g s:Nat}{G:List M}{gs:List Mk}
noncomputable def fM(k:Nat):I:=.int (k:Int)
noncomputable def fN(d h:Nat)(sl:Int)(dp:Nat)(most:Int)(left:List Nat)(ps:List Pth)(v7 v8:Option Vl):De:=[↑(.ref d),↑(.ref h),↑(.int sl),↑(.int (dp:Nat)),↑(.int most),↥(left.map fM),↥(ps.map Pth.i),v7,v8]
theorem wg{α β:Type}(f:α->β):∀(l:List α) (i:Nat),(l.map f).eraseIdx i=(l.eraseIdx i).map f
 | [],_=>rfl
 | _::_,0=>rfl
 | x::l,i+1=>by rw [z1a,List.eraseIdx_cons_succ,List.eraseIdx_cons_succ,z1a,wg f l i]
theorem mF{α:Type}:∀{l:List α} {i:Nat} {a:α},a∈l.eraseIdx i->a∈l
 | [],_,_,h=>by simp at h
 | _::_,0,_,h=>z28 _ h
 | x::l,i+1,a,h=>by
  rw [List.eraseIdx_cons_succ] at h
  rcases z1e.mp h with e|h
  ·rw [e];exact List.mem_cons_self
  ·exact z28 _ (mF h)
theorem wj{α:Type}:∀{l:List α} {i:Nat} (hi:i<l.length),l.Nodup->(l.eraseIdx i).Nodup/\l[i]∉l.eraseIdx i
 | x::l,0,_,nd=>by rw [List.nodup_cons] at nd;exact⟨nd.2,nd.1⟩
 | x::l,i+1,hi,nd=>by
  rw [List.nodup_cons] at nd
  have hi':i<l.length:=by simpa using hi
  obtain⟨h1,h2⟩:=wj hi' nd.2
  rw [List.eraseIdx_cons_succ,List.nodup_cons]
  refine⟨⟨λz=>nd.1 (mF z),h1⟩,λz=>?_⟩
  rw [List.getElem_cons_succ] at z
  rcases z1e.mp z with e|z
  ·exact nd.1 (by rw [<- e];exact z2c hi')
  ·exact h2 z
theorem DX{W:List Int}{dp k:Nat}{sl:Int}(S:HG G h g s gs)(hS:Sl gs dp sl W)(hd:dp≤6)(hk:k<2 ^ dp)(hr:∀f∈W,Wr f):∃p:Pth,p.k=k/\y49 gs W dp p/\me [.im (.ref h),.im (.int sl),.im (.int (dp:Nat)),.im (.int (k:Nat))] G=some (.im (.tup [.int p.w,.tup (p.ss.map I.int)]),G):=by
 obtain⟨w,ss,e1,e2,e3,e4⟩:=Dw hS hk
 have e:=Dn (n:=sl) (k:=k) S (show dp≤100 by lia)
 rw [e1] at e
 exact⟨⟨k,w,ss⟩,rfl,⟨hk,e2,hr _ (z34 e2),e3,e4⟩,e⟩
theorem Wd.yf0{many:Int}(W:Wd d l h g s G gs)(h0:0<many)(h1:many<2 ^ 100):∃r G',bL [.im (.ref d),.im (.int many)] G=some (.im (.int r),G')/\0≤r/\r<many/\Wd d l h g s G' gs/\Oth d l G G':=by
 obtain⟨r,G',e,a,b,D,o⟩:=mm W.D h0 h1
 exact⟨r,G',e,a,b,W.ofD D o.mor,o⟩
theorem DY{W:List Int}{dp:Nat}{sl most:Int}{left:List Nat}{ps:List Pth}{v7 v8:Option Vl}(Wo:Wd d l h g s G gs)(hS:Sl gs dp sl W)(hd:dp≤6)(hr:∀f∈W,Wr f)(nd:left.Nodup)(l0:0<left.length)(l1:left.length≤64)(hlt:∀k∈left,k<2 ^ dp)(pl:ps.length<100) :
  ∃(i:Nat) (hi:i<left.length) (p:Pth) (G':List M) (v8':Option Vl),CO (fN d h sl dp most left ps v7 v8) G=some (.nx (fN d h sl dp most (left.eraseIdx i) (ps++[p]) v7 v8') G')/\p.k=left[i]/\y49 gs W dp p/\Wd d l h g s G' gs/\Oth d l G G':=by
 obtain⟨r,G1,e1,r0,r1,W1,o1⟩:=Wo.yf0 (many:=left.length) (by lia) (Int.lt_of_le_of_lt (Int.ofNat_le.mpr l1) (by decide))
 obtain⟨i,rfl⟩:=Int.eq_ofNat_of_zero_le r0
 have hi:i<left.length:=by lia
 obtain⟨p,ep,pk,e2⟩:=DX W1.S hS hd (hlt _ (z2c hi)) hr
 have hat:(left.map fM)[i]?=some (.int (p.k:Nat)):=by rw [List.getElem?_map,zf hi,ep];rfl
 rw [<- ep] at e2
 refine⟨i,hi,p,G1,↑(.int (p.k:Nat)),?_,ep,pk,W1,o1⟩
 have b1:(i:Int)<1000000:=by lia
 have p1:ps.length<1000000:=by lia
 have er:(left.map fM).eraseIdx i=(left.eraseIdx i).map fM:=wg fM left i
 refine aA (bT (x:=.im (.int (p.k:Nat))) (Z1:=fN d h sl dp most (left.eraseIdx i) ps v7 v8) (G1:=G1) ?_ rfl) ?_
 ·refine y89 (e:=.s 5) (Z1:=fN d h sl dp most left ps v7 v8) (G1:=G) rfl rfl (es:=[⇑(.int (i:Nat))]) (Z2:=fN d h sl dp most left ps v7 v8) (G2:=G1) ?_ ?_
  ·refine cv (es:=[]) (aO (a:=[⇑(.ref d),⇑(.int left.length)]) (Z1:=fN d h sl dp most left ps v7 v8) (G1:=G) ?_ (eh rfl rfl e1)) rfl
   simp! [fN]
  ·unfold jV
   dsimp only
   rw [show B.pk (fN d h sl dp most left ps v7 v8) G1 (.s 5)=some (.lst (left.map fM)) from rfl]
   dsimp only
   rw [if_pos ⟨r0,b1⟩,show ((i:Int).toNat)=i from Int.toNat_natCast i,hat,er]
   rfl
 ·refine wW (e:=⇑.non) ?_
  refine y89 (e:=.s 6) (Z1:=fN d h sl dp most (left.eraseIdx i) ps v7 ↑(.int (p.k:Nat))) (G1:=G1) rfl rfl (es:=[⇑p.i]) (Z2:=fN d h sl dp most (left.eraseIdx i) ps v7 ↑(.int (p.k:Nat))) (G2:=G1) ?_ ?_
  ·refine cv (es:=[]) (ba (x:=⇑(.tup [.int (p.k:Nat)])) (Z1:=fN d h sl dp most (left.eraseIdx i) ps v7 ↑(.int (p.k:Nat))) (G1:=G1) rfl (aO (a:=[⇑(.ref h),⇑(.int sl),⇑(.int (dp:Nat)),⇑(.int (p.k:Nat))]) (Z1:=fN d h sl dp most (left.eraseIdx i) ps v7 ↑(.int (p.k:Nat))) (G1:=G1) rfl (eh rfl rfl e2)) ?_) rfl
   simp [bA,dI,lI,bz,jG,jH,Pth.i]
  ·simp [iT,fN,B.pk,fz,p1]
theorem wm{W:List Int}{dp:Nat}{sl most:Int}(Wo:Wd d l h g s G gs)(hS:Sl gs dp sl W)(hd:dp≤6)(hr:∀f∈W,Wr f)(m0:0<most)(m1:most≤64) :
  ∃(ps:List Pth) (G':List M),pW [.im (.ref d),.im (.ref h),.im (.int sl),.im (.int (dp:Nat)),.im (.int most)] G=some (.ow (.lst (ps.map Pth.i)),G')/\(∀p∈ps,y49 gs W dp p)/\ps≠[]/\(ps.map λp=>(p.k:Int)).Nodup/\(ps.length:Int)≤most/\Wd d l h g s G' gs/\Oth d l G G':=by
 obtain⟨N,hN⟩:∃N,2 ^ dp=N:=⟨_,rfl⟩
 have p6:(2:Nat) ^ dp≤2 ^ 6:=Nat.pow_le_pow_right (by decide) hd
 have p6:2 ^ dp≤64:=p6
 have p0:0<2 ^ dp:=Nat.two_pow_pos dp
 obtain⟨r,G1,e1,r0,r1,W1,o1⟩:=Wo.yf0 (many:=most) m0 (Int.lt_of_le_of_lt m1 (by decide))
 obtain⟨c,rfl⟩:=Int.eq_ofNat_of_zero_le r0
 obtain⟨n,hn⟩:∃n,n=min N (1+c):=⟨_,rfl⟩
 have n0:0<n:=by lia
 have n1:n≤N:=by lia
 have rl:(List.range N).map (λi=>I.int (i:Nat))=(List.range N).map fM:=rfl
 obtain⟨Z',G',ef,left,ps,v7,v8,rfl,W',o',nd,ll,lt,pl,ok,pn,dj⟩:=gD (w:=ez n) (g:=aF 7) (b:=CO)
  (λi Z G'=>∃left ps v7 v8,Z=fN d h sl dp most left ps v7 v8/\Wd d l h g s G' gs/\Oth d l G G'/\left.Nodup/\left.length+i=N/\(∀k∈left,k<2 ^ dp)/\ps.length=i/\(∀p∈ps,y49 gs W dp p)/\(ps.map λp=>(p.k:Int)).Nodup/\∀p∈ps,p.k∉left)
  (λi Z G2 hi zz=>by
   obtain⟨left,ps,v7,v8,hδ,W2,o2,nd,ll,lt,pl,ok,pn,dj⟩:=zz
   have hi:i<n:=hi
   subst hδ
   obtain⟨m,hm,p,G3,v8',e3,ep,pk,W3,o3⟩:=DY (most:=most) (ps:=ps) (v7:=↑(.int i)) (v8:=v8) W2 hS hd hr nd (by lia) (by lia) lt (by lia)
   obtain⟨nd1,nd2⟩:=wj hm nd
   refine⟨.int i,_,_,_,G3,rfl,rfl,e3,left.eraseIdx m,ps++[p],_,v8',rfl,W3,o2.trans o3,nd1,?_,λk hk=>lt k (mF hk),?_,λq hq=>?_,?_,λq hq=>?_⟩
   ·rw [List.length_eraseIdx_of_lt hm];lia
   ·rw [z14,pl];rfl
   ·rcases z1d.mp hq with z|z
    ·exact ok q z
    ·rw [z20.mp z];exact pk
   ·rw [z23,List.nodup_append]
    refine⟨pn,by simp,λx hx y hy e=>?_⟩
    subst e
    obtain⟨q,hq,eq⟩:=z30.mp hx
    have hy:x=(p.k:Int):=by simpa using hy
    have:q.k=p.k:=by have:=eq.trans hy;lia
    exact dj q hq (by rw [this,ep];exact z2c hm)
   ·rcases z1d.mp hq with z|z
    ·exact λy=>dj q z (mF y)
    ·rw [z20.mp z,ep];exact nd2)
  (λ_ _ _=>rfl) n 0 (fN d h sl dp most (List.range N) [] none none) G1 (by simp [ez]) ⟨List.range N,[],none,none,rfl,W1,o1,List.nodup_range,by simp,λk hk=>by rw [hN];exact List.mem_range.mp hk,rfl,λp hp=>(nomatch hp),.nil,λp hp=>(nomatch hp)⟩
 have pl:ps.length=n:=pl
 refine⟨ps,G',?_,ok,λz=>by rw [z] at pl;simp at pl;lia,pn,by lia,W',o'⟩
 have q1:(2:Int) ^ dp=(N:Int):=by rw [<- hN];push_cast;rfl
 have q5:(dp:Int)≤1000000:=by lia
 refine c8 rfl ?_
 refine aA (bT (x:=.ow (.lst ((List.range N).map fM))) (Z1:=[↑(.ref d),↑(.ref h),↑(.int sl),↑(.int (dp:Nat)),↑(.int most),none,none,none,none]) (G1:=G) ?_ rfl) ?_
 ·refine mh (x:=⇑(.int (N:Int))) (Z1:=[↑(.ref d),↑(.ref h),↑(.int sl),↑(.int (dp:Nat)),↑(.int most),none,none,none,none]) (G1:=G) (by simp! [q5,q1]) ?_
  unfold jW
  dsimp only
  rw [if_pos (by lia),Int.toNat_natCast]
  rfl
 refine aA (bT (x:=.ow (.lst [])) (Z1:=[↑(.ref d),↑(.ref h),↑(.int sl),↑(.int (dp:Nat)),↑(.int most),↥((List.range N).map fM),none,none,none]) (G1:=G) rfl rfl) ?_
 refine aA (cF (w:=ez n) (Z1:=fN d h sl dp most (List.range N) [] none none) (G1:=G1) (gB (n:=n) (j:=(n:Int)) ?_ rfl (by lia)) ef) ?_
 ·have hm:min (N:Int) (1+(c:Int))=(n:Int):=by lia
  refine cv (es:=[]) (aO (a:=[⇑(.int (N:Int)),⇑(.int (1+(c:Int)))]) (Z1:=fN d h sl dp most (List.range N) [] none none) (G1:=G1) (by simp! [fN,e1]) ?_) rfl
  simp [oW,bz]
  split<;>lia
 simp! [fN]
end
section
structure Mx(d l g s:Nat)(G G':List M):Prop where
 len:G.length≤G'.length
 at_:∀k,k<G.length->k≠d->k≠l->k≠g->k≠s->G'[k]?=G[k]?
section
variable {d l h g s:Nat}{G G1 G2:List M}{gs:List Mk}
theorem Mx.refl(G:List M):Mx d l g s G G:=⟨z12 _,λ_ _ _ _ _ _=>rfl⟩
theorem Mx.trans(x:Mx d l g s G G1)(y:Mx d l g s G1 G2):Mx d l g s G G2:=⟨z25 x.len y.len,λk h a b c e=>(y.at_ k (z1b h x.len) a b c e).trans (x.at_ k h a b c e)⟩
theorem Mor.mxD(o:Mor d l G G1):Mx d l g s G G1:=⟨o.len,λk h a b _ _=>o.at_ k h a b⟩
theorem Mor.mxS(o:Mor g s G G1):Mx d l g s G G1:=⟨o.len,λk h _ _ a b=>o.at_ k h a b⟩
theorem Mx.app(T:List M):Mx d l g s G (G++T):=⟨by rw [z14];lia,λk h _ _ _ _=>z1c h⟩
theorem Wd.app(W:Wd d l h g s G gs)(T:List M):Wd d l h g s (G++T) gs:=⟨W.D.app T,W.S.app T,W.n1,W.n2,W.n3,W.n4,W.n5,W.n6⟩
theorem Wd.yf1{many:Int}(W:Wd d l h g s G gs)(h0:0<many)(h1:many<2 ^ 100):∃(r:Nat) (G':List M),bL [.im (.ref d),.im (.int many)] G=some (.im (.int (r:Nat)),G')/\(r:Int)<many/\Wd d l h g s G' gs/\Mx d l g s G G':=by
 obtain⟨r,G',e,a,b,D,o⟩:=mm W.D h0 h1
 obtain⟨n,rfl⟩:=Int.eq_ofNat_of_zero_le a
 exact⟨n,G',e,b,W.ofD D o.mor,o.mor.mxD⟩
theorem Wd.y1e7{w:Int}(W:Wd d l h g s G gs)(hl:gs.length<100000):∃n gs' G',fR [.im (.ref h),.im (.int w)] G=some (.im (.int n),G')/\Wd d l h g s G' gs'/\aL 1 gs gs'/\Mx d l g s G G':=by
 obtain⟨n,gs',G',e,S,a,x,o⟩:=mv (w:=w) W.S hl
 exact⟨n,gs',G',e,W.ofS S o.mor,x,o.mor.mxS⟩
end
theorem j8{α:Type}(f:α->I)(L:List α){r:Nat}(hr:r<L.length)(Z:De)(G:List M):aS [.v (.ow (.lst (L.map f))),⇑(.int (r:Nat))] Z G=some (⇑(f L[r]),Z,G):=by
 have:eA (L.map f) (r:Int)=some (f L[r]):=kO (by rw [List.getElem?_map,zf hr];rfl)
 simp! [this]
theorem wo{α:Type}(f:α->I)(L:List α){r i:Nat}(hr:r<L.length){Z:De}{G:List M}(hp:pk Z G (.s i)=some (.lst (L.map f))):aS [.s i,⇑(.int (r:Nat))] Z G=some (⇑(f L[r]),Z,G):=by
 have ha:eA (L.map f) (r:Int)=some (f L[r]):=kO (by rw [List.getElem?_map,zf hr];rfl)
 have:iw [.s i,⇑(.int (r:Nat))] Z G=some (⇑(f L[r]),Z,G):=by
  unfold iw
  dsimp only
  have:sq Z G (.s i)=some (L.map f):=by
   unfold sq
   split<;>first|(rename_i z;cases z)|(rw [hp])
  rw [this]
  dsimp only
  rw [ha]
 unfold aS dI
 rw [this]
theorem ya5{Z:De}{G:List M}{i:Nat}{b:Ev}{xs ys:List I}(ha:pk Z G (.s i)=some (.lst xs))(hb:pk Z G b=some (.lst ys))(hl:xs.length+ys.length≤1000000):bA [.s i,b] Z G=some (.v (.ow (.lst (xs++ys))),Z,G):=by
 have e:oI [.s i,b] Z G=some (.v (.ow (.lst (xs++ys))),Z,G):=by
  unfold oI
  dsimp only
  rw [ha,hb]
  dsimp only
  rw [if_pos hl]
 have a1:lI [.s i,b] Z G=none:=by simp [lI,bz]
 have a2:jG [.s i,b] Z G=none:=by simp [jG]
 have a3:jH [.s i,b] Z G=none:=by simp [jH]
 unfold bA dI
 rw [a1]
 dsimp only
 rw [a2]
 dsimp only
 rw [a3]
 exact e
noncomputable def y32:SF :=
 (aJ (aq (ag dJ (aa 5) (ah (.int 1))))
 (aN (ag aS (bd (af (ag bA (aa 7) (ah (.int 1))) (af (ag bY (aa 7) (ah (.int 1))) (af (ag fE (aa 7) (ah (.int 1))) (af (ah (.int 0)) (af (bC cO (ah (.int 1))) (af (ag bA (aa 7) (ag cX (ah (.int 1)) (bd (af (aa 9) ae) br))) ae)))))) aX) (bd (af (aa 0) (af (ah (.int 6)) ae)) (aV 2 bL))) (aF 7))
 (aJ (aq (ag fQ (aa 5) (ah (.int 4))))
 (aN (ag aS (bd (af (ag bA (aa 8) (ah (.int 1))) (af (ah (.int 0)) (af (bC cO (ah (.int 1))) (af (ah (.int 4294967296)) (af (ag fE (aa 8) (ah (.int 1))) (af (ag bY (ah (.int 4294967296)) (ah (.int 1))) ae)))))) aX) (bd (af (aa 0) (af (ah (.int 6)) ae)) (aV 2 bL))) (aF 8))
 (aJ (aq (ag dJ (aa 5) (ah (.int 4))))
 (aj (aN (ag bA (aa 9) (bd (af (bg "House" "leaf" 2 fR (aa 1) (af (ah (.int 7)) ae)) ae) bD)) (aF 10))
 (aN (ag aS (bd (af (bO (aa 9) (bG (ah (.int 1))) bJ) (af (bO (aa 9) bJ (bG (bC cO (ah (.int 1))))) (af (aa 10) (af (bC gp (aa 9)) ae)))) aX) (bd (af (aa 0) (af (ah (.int 4)) ae)) (aV 2 bL))) (aF 9)))
 (aJ (aq (ag dM (aa 9) (bd ae bD)))
 (aj (aN (bd (af (aa 0) (af (bd (af (aa 9) ae) br) ae)) (aV 2 bL)) (aF 11))
 (aj (aN (ag bA (ag bA (bd (af (aa 9) ae) dB) (bd (af (ag aS (ag aS (aa 3) (ah (.int 0))) (ah (.int 2))) ae) dB)) (bd (af (bg "House" "leaf" 2 fR (aa 1) (af (ah (.int 7)) ae)) (af (ah (.int 0)) (af (bC cO (ah (.int 1))) (af (ag bA (ag eS (ah (.int 10)) (ah (.int 12))) (bd (af (aa 0) (af (ah (.int 9)) ae)) (aV 2 bL))) ae)))) aX)) (aF 12))
 (aN (ag bA (ag bA (bO (aa 9) bJ (bG (aa 11))) (bd (af (ag aS (aa 12) (bd (af (aa 0) (af (bd (af (aa 12) ae) br) ae)) (aV 2 bL))) ae) bD)) (bO (aa 9) (bG (ag bA (aa 11) (ah (.int 1)))) bJ)) (aF 9))))
 aQ))))
noncomputable def cU(d h jq jo:Nat)(F:List Pq)(v5 v6 v7 v8 v9 v10 v11 v12:Option Vl):De:=[↑(.ref d),↑(.ref h),↑(.ref jq),↑(.ref jo),↥(F.map Pq.i),v5,v6,v7,v8,v9,v10,v11,v12]
noncomputable def tI(ss:List Int):I:=.tup (ss.map I.int)
section
variable {d l h g s jq jo:Nat}{G:List M}{gs:List Mk}{F os:List Pq}
theorem DZ{f0 at_:Nat}{k w:Int}{ss:List Int}{B:Nat}{o0:Pq}{ot:List Pq}(W:Wd d l h g s G gs)(hl:gs.length<90000)(hf:f0<9)(hB:B≤100)(hs:ss.length≤B)(ho:G[jo]?=some (.lst ((o0::ot).map Pq.i)))(hos:o0.ss.length≤B)(j1:jo≠d)(j2:jo≠l)(j3:jo≠g)(j4:jo≠s) :
  ∃k' w' ss' v10 v11 v12 gs' G',y32 (cU d h jq jo F ↑(.int (f0:Nat)) ↑(.int (at_:Nat)) ↑(.int k) ↑(.int w) ↑(tI ss) none none none) G=some (.nx (cU d h jq jo F ↑(.int (f0:Nat)) ↑(.int (at_:Nat)) ↑(.int k') ↑(.int w') ↑(tI ss') v10 v11 v12) G')/\Wd d l h g s G' gs'/\aL 1 gs gs'/\Mx d l g s G G'/\ss'.length≤B+1:=by
 let C:=λ(k w:Int) (ss:List Int) (v10 v11 v12:Option Vl)=>cU d h jq jo F ↑(.int (f0:Nat)) ↑(.int (at_:Nat)) ↑(.int k) ↑(.int w) ↑(tI ss) v10 v11 v12
 have e01:aL 1 gs gs:=(aL.refl gs).le (by lia)
 have drw:∀{many:Int} {r:Nat} {Ga Gb:List M} {v10 v11 v12:Option Vl},bL [.im (.ref d),.im (.int many)] Ga=some (.im (.int (r:Nat)),Gb)->bd (af (aa 0) (af (ah (.int many)) ae)) (aV 2 bL) (C k w ss v10 v11 v12) Ga=some (⇑(.int (r:Nat)),C k w ss v10 v11 v12,Gb):=λe=>aO (a:=[⇑(.ref d),⇑(.int _)]) rfl (eh rfl rfl e)
 by_cases c1:f0=1
 ·subst c1
  obtain⟨r,G1,e1,r1,W1,m1⟩:=W.yf1 (many:=6) (by decide) (by decide)
  have p5:(ss.length:Int)≤1000000:=by lia
  let L:List Int:=[k+1,k-1,Builtin.bitXor k 1,0,-1,k+2 ^ ss.length]
  have hr:r<L.length:=by show r<6;lia
  refine⟨L[r],w,ss,none,none,none,gs,G1,b6 (Z1:=C k w ss none none none) (G1:=G) (by simp! [C,cU]) (bT (x:=.im (.int L[r])) (Z1:=C k w ss none none none) (G1:=G1) (ba (x:=.v (.ow (.lst (L.map I.int)))) (Z1:=C k w ss none none none) (G1:=G) ?_ (drw e1) (j8 I.int L hr _ _)) rfl),W1,e01,m1,by lia⟩
  simp! [C,cU,L,tI,fE,p5]
 by_cases c2:f0<4
 ·obtain⟨r,G1,e1,r1,W1,m1⟩:=W.yf1 (many:=6) (by decide) (by decide)
  let L:List Int:=[w+1,0,-1,4294967296,Builtin.bitXor w 1,4294967295]
  have hr:r<L.length:=by show r<6;lia
  have c1':((f0:Int) == 1)=false:=beq_eq_false_iff_ne.mpr (by lia)
  have c2':(f0:Int)<4:=by lia
  refine⟨k,L[r],ss,none,none,none,gs,G1,bP (Z1:=C k w ss none none none) (G1:=G) (by simp! [C,cU,c1']) (b6 (Z1:=C k w ss none none none) (G1:=G) (by simp! [C,cU,c2']) (bT (x:=.im (.int L[r])) (Z1:=C k w ss none none none) (G1:=G1) (ba (x:=.v (.ow (.lst (L.map I.int)))) (Z1:=C k w ss none none none) (G1:=G) ?_ (drw e1) (j8 I.int L hr _ _)) rfl)),W1,e01,m1,by lia⟩
  simp! [C,cU,L,tI,fE]
 have c1':((f0:Int) == 1)=false:=beq_eq_false_iff_ne.mpr (by lia)
 have c2':¬ ((f0:Int)<4):=by lia
 have t1:aq (ag dJ (aa 5) (ah (.int 1))) (C k w ss none none none) G=some (false,C k w ss none none none,G):=by simp! [C,cU,c1']
 have t2:aq (ag fQ (aa 5) (ah (.int 4))) (C k w ss none none none) G=some (false,C k w ss none none none,G):=by simp! [C,cU,c2']
 by_cases c3:f0=4
 ·subst c3
  obtain⟨n,gs1,G1,e1,W1,x1,m1⟩:=W.y1e7 (w:=7) (by lia)
  obtain⟨r,G2,e2,r2,W2,m2⟩:=W1.yf1 (many:=4) (by decide) (by decide)
  obtain⟨a1,ea1,la1⟩:=vO ss (some 1) none
  obtain⟨a2,ea2,la2⟩:=vO ss none (some (-1))
  let L:List (List Int):=[a1,a2,ss++[n],ss.reverse]
  have hr:r<L.length:=by show r<4;lia
  have hL:∀x∈L,x.length≤B+1:=λx hx=>by
   rcases z1e.mp hx with z|hx
   ·rw [z];lia
   rcases z1e.mp hx with z|hx
   ·rw [z];lia
   rcases z1e.mp hx with z|hx
   ·rw [z,z14];simp;lia
   ·rw [z20.mp hx,z2d];lia
  have tl:ss.length+1≤1000000:=by lia
  refine⟨k,w,L[r],↑(tI (ss++[n])),none,none,gs1,G2,bP t1 (bP t2 (b6 (Z1:=C k w ss none none none) (G1:=G) (by simp! [C,cU]) (aA (bT (x:=.im (tI (ss++[n]))) (Z1:=C k w ss none none none) (G1:=G1) ?_ rfl) (bT (x:=.im (tI L[r])) (Z1:=C k w ss ↑(tI (ss++[n])) none none) (G1:=G2) (ba (x:=.v (.ow (.lst (L.map tI)))) (Z1:=C k w ss ↑(tI (ss++[n])) none none) (G1:=G1) ?_ (drw e2) (j8 tI L hr _ _)) rfl)))),W2,x1,m1.trans m2,hL _ (z2c hr)⟩
  ·simp! [C,cU,tI,W.S.ob,jX,e1,jG,jH,tl]
  ·simp! [C,cU,tI,L,bO,bJ,bG,hR,gn,ea1,ea2,gp]
 have c3':((f0:Int) == 4)=false:=beq_eq_false_iff_ne.mpr (by lia)
 have t3:aq (ag dJ (aa 5) (ah (.int 4))) (C k w ss none none none) G=some (false,C k w ss none none none,G):=by simp! [C,cU,c3']
 by_cases c4:ss=[]
 ·subst c4
  exact⟨k,w,[],none,none,none,gs,G,bP t1 (bP t2 (bP t3 (bP (Z1:=C k w [] none none none) (G1:=G) (by rfl) rfl))),W,e01,Mx.refl _,by simp⟩
 have l0:0<ss.length:=List.length_pos_iff.mpr c4
 have t4:aq (ag dM (aa 9) (bd ae bD)) (C k w ss none none none) G=some (true,C k w ss none none none,G):=by
  cases ss with
  | nil=>exact absurd rfl c4
  | cons a ss=>rfl
 obtain⟨j,G1,e1,r1,W1,m1⟩:=W.yf1 (many:=ss.length) (by lia) (Int.lt_of_le_of_lt (Int.ofNat_le.mpr (show ss.length≤100 by lia)) (by decide))
 obtain⟨n,gs2,G2,e2,W2,x2,m2⟩:=W1.y1e7 (w:=7) (by lia)
 obtain⟨r3,G3,e3,r3',W3,m3⟩:=W2.yf1 (many:=9) (by decide) (by decide)
 let L:List Int:=ss++o0.ss++[n,0,-1,1000000000000+(r3:Int)]
 have lL:L.length=ss.length+o0.ss.length+4:=by show (ss++o0.ss++[n,0,-1,1000000000000+(r3:Int)]).length=_;simp;lia
 obtain⟨r4,G4,e4,r4',W4,m4⟩:=W3.yf1 (many:=L.length) (by lia) (Int.lt_of_le_of_lt (Int.ofNat_le.mpr (show L.length≤1000 by lia)) (by decide))
 have hr:r4<L.length:=by lia
 have ho1:G1[jo]?=some (.lst ((o0::ot).map Pq.i)):=by rw [m1.at_ jo (zd.mp ho).1 j1 j2 j3 j4];exact ho
 obtain⟨b1,eb1,lb1⟩:=vO ss none (some (j:Int))
 obtain⟨b2,eb2,lb2⟩:=vO ss (some ((j:Int)+1)) none
 have cl:b1=ss.take j:=by
  have:=Dp (xs:=ss.map I.int) (m:=j)
  rw [eb1,<- List.map_take] at this
  exact (List.map_inj_right (λx y h=>by injection h)).mp this
 have ch:b2=ss.drop (j+1):=by
  have:=yc6 (xs:=ss.map I.int) (m:=j+1) (by rw [z19];lia)
  rw [show (((j+1:Nat):Int))=(j:Int)+1 by push_cast;rfl,eb2,<- List.map_drop] at this
  exact (List.map_inj_right (λx y h=>by injection h)).mp this
 have lb:b1.length+1+b2.length=ss.length:=by rw [cl,ch,z31,z3a];lia
 refine⟨k,w,b1++[L[r4]]++b2,none,↑(.int (j:Nat)),↥(L.map I.int),gs2,G4,bP t1 (bP t2 (bP t3 (b6 t4 (aA (bT (x:=.im (.int (j:Nat))) (Z1:=C k w ss none none none) (G1:=G1) (aO (a:=[⇑(.ref d),⇑(.int ss.length)]) (Z1:=C k w ss none none none) (G1:=G) (by simp! [C,cU,tI]) (eh rfl rfl e1)) rfl) (aA (bT (x:=.ow (.lst (L.map I.int))) (Z1:=C k w ss none ↑(.int (j:Nat)) none) (G1:=G3) ?_ rfl) (bT (x:=.im (tI (b1++[L[r4]]++b2))) (Z1:=C k w ss none ↑(.int (j:Nat)) ↥(L.map I.int)) (G1:=G4) ?_ rfl)))))),W4,x2,((m1.trans m2).trans m3).trans m4,by simp;lia⟩
 ·have hz:eA ((o0::ot).map Pq.i) 0=some o0.i:=kr _ _
  have z1:bd (af (aa 9) ae) dB (C k w ss none ↑(.int (j:Nat)) none) G1=some (.v (.ow (.lst (ss.map I.int))),C k w ss none ↑(.int (j:Nat)) none,G1):=by simp! [C,cU,tI,dB]
  have z2:bd (af (ag aS (ag aS (aa 3) (ah (.int 0))) (ah (.int 2))) ae) dB (C k w ss none ↑(.int (j:Nat)) none) G1=some (.v (.ow (.lst (o0.ss.map I.int))),C k w ss none ↑(.int (j:Nat)) none,G1):=by
   have hz':eA (o0.i::ot.map Pq.i) 0=some o0.i:=kr _ _
   simp! [C,cU,dB,ho1,hz',Pq.i,wZ,kr]
  have z3:bd (af (bg "House" "leaf" 2 fR (aa 1) (af (ah (.int 7)) ae)) (af (ah (.int 0)) (af (bC cO (ah (.int 1))) (af (ag bA (ag eS (ah (.int 10)) (ah (.int 12))) (bd (af (aa 0) (af (ah (.int 9)) ae)) (aV 2 bL))) ae)))) aX (C k w ss none ↑(.int (j:Nat)) none) G1=some (.v (.ow (.lst ([n,0,-1,1000000000000+(r3:Int)].map I.int))),C k w ss none ↑(.int (j:Nat)) none,G3):=by
   simp! [C,cU,W1.S.ob,jX,e2,e3]
  refine ba (ba z1 z2 (show _=some (.v (.ow (.lst (ss.map I.int++o0.ss.map I.int))),C k w ss none ↑(.int (j:Nat)) none,G1) from ?_)) z3 ?_
  ·have q1:ss.length+o0.ss.length≤1000000:=by lia
   simp [bA,dI,lI,bz,jG,jH,oI,pk,q1]
  ·have q1:ss.length+o0.ss.length+4≤1000000:=by lia
   have q1':ss.length+(o0.ss.length+4)≤1000000:=by lia
   simp [bA,dI,lI,bz,jG,jH,oI,pk,L,q1,q1']
 ·have y1:ag aS (aa 12) (bd (af (aa 0) (af (bd (af (aa 12) ae) br) ae)) (aV 2 bL)) (C k w ss none ↑(.int (j:Nat)) ↥(L.map I.int)) G3=some (⇑(.int L[r4]),C k w ss none ↑(.int (j:Nat)) ↥(L.map I.int),G4) :=
   ba (x:=.s 12) (Z1:=C k w ss none ↑(.int (j:Nat)) ↥(L.map I.int)) (G1:=G3) rfl (aO (a:=[⇑(.ref d),⇑(.int L.length)]) (Z1:=C k w ss none ↑(.int (j:Nat)) ↥(L.map I.int)) (G1:=G3) (by simp! [C,cU]) (eh rfl rfl e4)) (wo I.int L hr rfl)
  have y2:bO (aa 9) bJ (bG (aa 11)) (C k w ss none ↑(.int (j:Nat)) ↥(L.map I.int)) G3=some (⇑(tI b1),C k w ss none ↑(.int (j:Nat)) ↥(L.map I.int),G3):=by
   simp! [C,cU,tI,bO,bJ,bG,hR,gn,eb1]
  have y3:bO (aa 9) (bG (ag bA (aa 11) (ah (.int 1)))) bJ (C k w ss none ↑(.int (j:Nat)) ↥(L.map I.int)) G4=some (⇑(tI b2),C k w ss none ↑(.int (j:Nat)) ↥(L.map I.int),G4):=by
   simp! [C,cU,tI,bO,bJ,bG,hR,gn,eb2]
  refine ba (ba y2 (aO (cv (es:=[]) y1 rfl) rfl) (show _=some (⇑(tI (b1++[L[r4]])),C k w ss none ↑(.int (j:Nat)) ↥(L.map I.int),G4) from ?_)) y3 ?_
  ·have q1:b1.length+1≤1000000:=by lia
   simp [bA,dI,lI,bz,jG,jH,tI,q1]
  ·have q1:b1.length+1+b2.length≤1000000:=by lia
   have q1':b1.length+(b2.length+1)≤1000000:=by lia
   simp [bA,dI,lI,bz,jG,jH,tI,q1,q1']
end
end
section
variable {d l h g s jq jo:Nat}{G:List M}{gs:List Mk}
noncomputable def Lq(d l g s:Nat)(G:List M)(qs:List Pq)(x:Vl):Prop:=x=.ow (.lst (qs.map Pq.i))∨∃c,x=.im (.ref c)/\G[c]?=some (.lst (qs.map Pq.i))/\c≠d/\c≠l/\c≠g/\c≠s
theorem ya9{qs:List Pq}{o0:Pq}{B:Nat}(W:Wd d l h g s G gs)(hl:gs.length<80000)(hq:G[jq]?=some (.lst (qs.map Pq.i)))(ho:G[jo]?=some (.lst (([o0]:List Pq).map Pq.i)))(hB:B≤100)(hss:∀q∈qs,q.ss.length≤B)(hos:o0.ss.length≤B)(ql:qs.length≤50)(j1:jo≠d)(j2:jo≠l)(j3:jo≠g)(j4:jo≠s) :
  ∃x qs' gs' G',pq [.im (.ref d),.im (.ref h),.im (.ref jq),.im (.ref jo)] G=some (x,G')/\Lq d l g s G' qs' x/\Wd d l h g s G' gs'/\aL 1 gs gs'/\Mx d l g s G G'/\qs'.length≤qs.length+1/\∀q∈qs',q.ss.length≤B+1:=by
 have e01:aL 1 gs gs:=(aL.refl gs).le (by lia)
 obtain⟨f0,G1,e1,r1,W1,m1⟩:=W.yf1 (many:=9) (by decide) (by decide)
 have jl:=(zd.mp ho).1
 have ho1:G1[jo]?=some (.lst (([o0]:List Pq).map Pq.i)):=by rw [m1.at_ jo jl j1 j2 j3 j4];exact ho
 let C:=λ(F:List Pq) (v6 v7 v8 v9 v10 v11 v12:Option Vl)=>cU d h jq jo F ↑(.int (f0:Nat)) v6 v7 v8 v9 v10 v11 v12
 have start:∀{r:Option Fl} {x:Vl} {G':List M},r=some (.rt x G')->(aj (aJ (cx (aq (ag dJ (aa 4) (bd ae aX))) (aq (ag dJ (aa 5) (ah (.int 0)))))
   (aE (ag aS (bd (af (bR (bd ae aX)) (af (bR (ag bA (aa 4) (bO (aa 4) bJ (bG (ah (.int 1)))))) (af (bR (ag bA (aa 4) (aa 3))) (af (aa 3) ae)))) aX) (bd (af (aa 0) (af (ah (.int 4)) ae)) (aV 2 bL))))
   aQ)
   (aj (aN (bd (af (aa 0) (af (bd (af (aa 4) ae) br) ae)) (aV 2 bL)) (aF 6))
   (aj (aN (ag aS (aa 4) (aa 6)) (bX [7,8,9]))
   (aj y32
   (aj (cz (aa 4) (aa 6) (bd (af (aa 7) (af (aa 8) (af (aa 9) ae))) bD))
   (aE (aa 4))))))) (C qs none none none none none none none) G1=r->pq [.im (.ref d),.im (.ref h),.im (.ref jq),.im (.ref jo)] G=some (x,G'):=λhr h2=>by
  refine c8 rfl ?_
  refine aA (bT (x:=.ow (.lst (qs.map Pq.i))) (Z1:=[↑(.ref d),↑(.ref h),↑(.ref jq),↑(.ref jo),none,none,none,none,none,none,none,none,none]) (G1:=G) (aO (a:=[⇑(.ref jq)]) (Z1:=[↑(.ref d),↑(.ref h),↑(.ref jq),↑(.ref jo),none,none,none,none,none,none,none,none,none]) (G1:=G) rfl (by simp [dB,sq,pk,hq])) rfl) ?_
  refine aA (bT (x:=.im (.int (f0:Nat))) (Z1:=cU d h jq jo qs none none none none none none none none) (G1:=G1) (aO (a:=[⇑(.ref d),⇑(.int 9)]) (Z1:=cU d h jq jo qs none none none none none none none none) (G1:=G) rfl (eh rfl rfl e1)) rfl) ?_
  exact h2.trans hr
 have tE:∀c:Bool,(qs=[]↔c=true)->aq (ag dJ (aa 4) (bd ae aX)) (C qs none none none none none none none) G1=some (c,C qs none none none none none none none,G1):=λc hc=>by
  cases qs with
  | nil=>rw [hc.mp rfl];rfl
  | cons q qs=>cases c with
   | true=>exact absurd (hc.mpr rfl) (by simp)
   | false=>rfl
 have tZ:∀c:Bool,(f0=0↔c=true)->aq (ag dJ (aa 5) (ah (.int 0))) (C qs none none none none none none none) G1=some (c,C qs none none none none none none none,G1):=λc hc=>by
  cases c with
  | true=>have:=hc.mpr rfl;subst this;rfl
  | false =>
   have:((f0:Int) == 0)=false:=beq_eq_false_iff_ne.mpr (by have:¬ f0=0:=λz=>Bool.noConfusion (hc.mp z);lia)
   simp! [C,cU,this]
 by_cases cA:qs=[]∨f0=0
 ·have tst:cx (aq (ag dJ (aa 4) (bd ae aX))) (aq (ag dJ (aa 5) (ah (.int 0)))) (C qs none none none none none none none) G1=some (true,C qs none none none none none none none,G1):=by
   by_cases z:qs=[]
   ·exact ic (tE true (by simp [z]))
   ·exact bK (tE false (by simp [z])) (tZ true (by simp [cA.resolve_left z]))
  let T:List M:=[.lst [],.lst ((qs++qs.take 1).map Pq.i),.lst ((qs++[o0]).map Pq.i)]
  obtain⟨r,G2,e2,r2,W2,m2⟩:=(W1.app T).yf1 (many:=4) (by decide) (by decide)
  let L:List Nat:=[G1.length,G1.length+1,G1.length+2,jo]
  have hr:r<L.length:=by show r<4;lia
  have cut:ji (qs.map Pq.i) none (some 1)=(qs.take 1).map Pq.i:=by
   have:=Dp (xs:=qs.map Pq.i) (m:=1)
   rw [<- List.map_take] at this
   exact this
  have lst:bd (af (bR (bd ae aX)) (af (bR (ag bA (aa 4) (bO (aa 4) bJ (bG (ah (.int 1)))))) (af (bR (ag bA (aa 4) (aa 3))) (af (aa 3) ae)))) aX (C qs none none none none none none none) G1=some (.v (.ow (.lst (L.map I.ref))),C qs none none none none none none none,G1++T):=by
   refine aO (a:=[⇑(.ref G1.length),⇑(.ref (G1++[M.lst []]).length),⇑(.ref (G1++[M.lst []]++[M.lst ((qs++qs.take 1).map Pq.i)]).length),⇑(.ref jo)]) (Z1:=C qs none none none none none none none) (G1:=G1++[M.lst []]++[M.lst ((qs++qs.take 1).map Pq.i)]++[M.lst ((qs++[o0]).map Pq.i)]) ?_ ?_
   ·refine cv (Z1:=C qs none none none none none none none) (G1:=G1++[M.lst []]) rfl ?_
    refine cv (Z1:=C qs none none none none none none none) (G1:=G1++[M.lst []]++[M.lst ((qs++qs.take 1).map Pq.i)]) (aO (a:=.v (.ow (.lst ((qs++qs.take 1).map Pq.i)))) (Z1:=C qs none none none none none none none) (G1:=G1++[M.lst []]) ?_ rfl) ?_
    ·refine ba (x:=.s 4) (y:=.v (.ow (.lst ((qs.take 1).map Pq.i)))) (Z1:=C qs none none none none none none none) (G1:=G1++[M.lst []]) (Z2:=C qs none none none none none none none) (G2:=G1++[M.lst []]) rfl ?_ ?_
     ·simp! [C,cU,bO,bJ,bG,hR,gn,dZ,cut]
     ·rw [z23]
      exact ya5 (Z:=C qs none none none none none none none) (G:=G1++[M.lst []]) (i:=4) (xs:=qs.map Pq.i) (ys:=(qs.take 1).map Pq.i) rfl rfl (by rw [z19,z19,z31];lia)
    ·refine cv (Z1:=C qs none none none none none none none) (G1:=G1++[M.lst []]++[M.lst ((qs++qs.take 1).map Pq.i)]++[M.lst ((qs++[o0]).map Pq.i)]) (aO (a:=.v (.ow (.lst ((qs++[o0]).map Pq.i)))) (Z1:=C qs none none none none none none none) (G1:=G1++[M.lst []]++[M.lst ((qs++qs.take 1).map Pq.i)]) ?_ rfl) rfl
     refine ba (x:=.s 4) (y:=⇑(.ref jo)) (Z1:=C qs none none none none none none none) (G1:=G1++[M.lst []]++[M.lst ((qs++qs.take 1).map Pq.i)]) (Z2:=C qs none none none none none none none) (G2:=G1++[M.lst []]++[M.lst ((qs++qs.take 1).map Pq.i)]) rfl rfl ?_
     refine Eq.trans (ya5 (b:=⇑(.ref jo)) (Z:=C qs none none none none none none none) (G:=G1++[M.lst []]++[M.lst ((qs++qs.take 1).map Pq.i)]) (i:=4) (xs:=qs.map Pq.i) (ys:=([o0]:List Pq).map Pq.i) rfl ?_ (by simp;lia)) (by rw [<- z23])
     show (G1++[M.lst []]++[M.lst ((qs++qs.take 1).map Pq.i)])[jo]?=_
     have jl1:=(zd.mp ho1).1
     rw [z2e,z1c jl1]
     exact ho1
   ·simp [aX,mR,tf,L,T]
  have fin:∀{qs':List Pq} {c:Nat},L[r]=c->G2[c]?=some (.lst (qs'.map Pq.i))->c≠d->c≠l->c≠g->c≠s->qs'.length≤qs.length+1->(∀q∈qs',q.ss.length≤B+1)->∃x qs' gs' G',pq [.im (.ref d),.im (.ref h),.im (.ref jq),.im (.ref jo)] G=some (x,G')/\Lq d l g s G' qs' x/\Wd d l h g s G' gs'/\aL 1 gs gs'/\Mx d l g s G G'/\qs'.length≤qs.length+1/\∀q∈qs',q.ss.length≤B+1:=λ{qs' c} hc hg n1 n2 n3 n4 hl' hs'=>by
   refine⟨.im (.ref c),qs',gs,G2,start (r:=some (.rt (.im (.ref c)) G2)) rfl (cB (b6 tst (mf (Z1:=C qs none none none none none none none) (ba lst (aO (a:=[⇑(.ref d),⇑(.int 4)]) (Z1:=C qs none none none none none none none) (G1:=G1++T) rfl (eh rfl rfl e2)) ?_)))),.inr ⟨c,rfl,hg,n1,n2,n3,n4⟩,W2,e01,(m1.trans (Mx.app T)).trans m2,hl',hs'⟩
   rw [j8 I.ref L hr,hc]
  obtain⟨d1,d2⟩:=W1.D.lt
  obtain⟨s1,s2,s3⟩:=W1.S.lt
  have keep:∀i,i<3->G2[G1.length+i]?=T[i]?:=λi hi=>by
   have lt:G1.length+i<(G1++T).length:=by rw [z14];show _<G1.length+3;lia
   rw [m2.at_ _ lt (by lia) (by lia) (by lia) (by lia),z1f (by lia)]
   congr 1
   lia
  rcases (show r=0∨r=1∨r=2∨r=3 by lia) with z|z|z|z
  ·subst z
   exact fin (qs':=[]) (c:=G1.length) rfl (keep 0 (by lia)) (by lia) (by lia) (by lia) (by lia) (by simp) (λq hq=>(nomatch hq))
  ·subst z
   refine fin (qs':=qs++qs.take 1) (c:=G1.length+1) rfl (keep 1 (by lia)) (by lia) (by lia) (by lia) (by lia) (by rw [z14,z31];lia) λq hq=>?_
   rcases z1d.mp hq with y|y
   ·have:=hss q y;lia
   ·have:=hss q (List.mem_of_mem_take y);lia
  ·subst z
   refine fin (qs':=qs++[o0]) (c:=G1.length+2) rfl (keep 2 (by lia)) (by lia) (by lia) (by lia) (by lia) (by simp) λq hq=>?_
   rcases z1d.mp hq with y|y
   ·have:=hss q y;lia
   ·rw [z20.mp y];lia
  ·subst z
   refine fin (qs':=[o0]) (c:=jo) rfl ?_ j1 j2 j3 j4 (by simp) λq hq=>by rw [z20.mp hq];lia
   have jl1:=(zd.mp ho1).1
   rw [m2.at_ jo (by rw [z14];lia) j1 j2 j3 j4,z1c jl1]
   exact ho1
 ·have z1:¬ qs=[]:=λz=>cA (.inl z)
  have z2:¬ f0=0:=λz=>cA (.inr z)
  have l0:0<qs.length:=List.length_pos_iff.mpr z1
  obtain⟨at_,G2,e2,r2,W2,m2⟩:=W1.yf1 (many:=qs.length) (by lia) (Int.lt_of_le_of_lt (Int.ofNat_le.mpr ql) (by decide))
  have hat:at_<qs.length:=by lia
  have ho2:G2[jo]?=some (.lst (([o0]:List Pq).map Pq.i)):=by rw [m2.at_ jo (zd.mp ho1).1 j1 j2 j3 j4];exact ho1
  obtain⟨k',w',ss',v10,v11,v12,gs3,G3,e3,W3,x3,m3,ls⟩:=DZ (F:=qs) (jq:=jq) (f0:=f0) (at_:=at_) (k:=qs[at_].k) (w:=qs[at_].w) (ss:=qs[at_].ss) (B:=B) W2 (by lia) (by lia) hB (hss _ (z2c hat)) ho2 hos j1 j2 j3 j4
  refine⟨.ow (.lst ((qs.set at_ ⟨k',w',ss'⟩).map Pq.i)),qs.set at_ ⟨k',w',ss'⟩,gs3,G3,start (r:=some (.rt (.ow (.lst ((qs.set at_ ⟨k',w',ss'⟩).map Pq.i))) G3)) rfl ?_,.inl rfl,W3,x3,(m1.trans m2).trans m3,by rw [z33];lia,λq hq=>?_⟩
  ·refine aA (bP (bK (tE false (by simp [z1])) (tZ false (by simp [z2]))) rfl) ?_
   refine aA (bT (x:=.im (.int (at_:Nat))) (Z1:=C qs none none none none none none none) (G1:=G2) (aO (a:=[⇑(.ref d),⇑(.int qs.length)]) (Z1:=C qs none none none none none none none) (G1:=G1) (by simp! [C,cU]) (eh rfl rfl e2)) rfl) ?_
   refine aA (bT (x:=.im qs[at_].i) (Z1:=C qs ↑(.int (at_:Nat)) none none none none none none) (G1:=G2) (ba (x:=.s 4) (y:=⇑(.int (at_:Nat))) rfl rfl (wo Pq.i qs hat rfl)) rfl) ?_
   refine aA e3 ?_
   refine aA (mE (v:=⇑(Pq.i ⟨k',w',ss'⟩)) (o:=.s 4) (i:=⇑(.int (at_:Nat))) (Z1:=cU d h jq jo qs ↑(.int (f0:Nat)) ↑(.int (at_:Nat)) ↑(.int k') ↑(.int w') ↑(tI ss') v10 v11 v12) (G1:=G3) (Z4:=cU d h jq jo (qs.set at_ ⟨k',w',ss'⟩) ↑(.int (f0:Nat)) ↑(.int (at_:Nat)) ↑(.int k') ↑(.int w') ↑(tI ss') v10 v11 v12) (G4:=G3) rfl rfl rfl ?_) rfl
   unfold fL
   dsimp only
   rw [show pk (cU d h jq jo qs ↑(.int (f0:Nat)) ↑(.int (at_:Nat)) ↑(.int k') ↑(.int w') ↑(tI ss') v10 v11 v12) G3 (.s 4)=some (.lst (qs.map Pq.i)) from rfl]
   dsimp only
   have hx:jf (qs.map Pq.i).length (at_:Int)=some at_:=by
    unfold jf
    rw [if_pos (by lia),z19,if_pos (by lia),Int.toNat_natCast]
   rw [hx]
   dsimp only
   rw [show (qs.map Pq.i).set at_ (Pq.i ⟨k',w',ss'⟩)=(qs.set at_ ⟨k',w',ss'⟩).map Pq.i by rw [List.map_set]]
   rfl
  ·rcases List.mem_or_eq_of_mem_set hq with y|y
   ·have:=hss q y;lia
   ·rw [y];exact ls
end
section
variable {G:List M}{gs:List Mk}
theorem y47.ext{k:Nat}{gs g1:List Mk}{d:Nat}{p:Pq}(h:y47 gs d p)(x:aL k gs g1):y47 g1 d p:=⟨h.k0,h.k1,h.wr,h.ls,λy hy=>by
 have:=h.op y hy
 cases e:look gs y with
 | none=>rw [e] at this;cases this
 | some m=>rw [jY ((y6e e).ext x)];rfl⟩
theorem Fm.ext{k:Nat}{gs g1:List Mk}{d:Nat}{qs:List Pq}(h:Fm gs d qs)(x:aL k gs g1):Fm g1 d qs:=⟨λq hq=>(h.ok q hq).ext x,h.ne,h.nd⟩
noncomputable abbrev Wl(G:List M)(gs:List Mk):Prop:=Wd 5 1 2 3 4 G gs
noncomputable abbrev Ml(G G':List M):Prop:=Mx 5 1 3 4 G G'
noncomputable def Fq(c:Nat):Prop:=c≠5/\c≠1/\c≠3/\c≠4
noncomputable def bU(ns:List Int)(v3 v4 v5 v6 v7 v8 v9 v10 v11:Option Vl):De:=[↑(.fro (ns.map I.int)),↑(.ref 5),↑(.ref 2),v3,v4,v5,v6,v7,v8,v9,v10,v11]
theorem Wl.fresh(W:Wl G gs):Fq G.length:=by
 obtain⟨a,b⟩:=W.D.lt
 obtain⟨c,e,f⟩:=W.S.lt
 exact⟨by lia,by lia,by lia,by lia⟩
noncomputable def Oq(G:List M)(o:Pq)(x:Option Vl):Prop:=x=↥[o.i]∨∃c,x=↑(.ref c)/\G[c]?=some (.lst [o.i])/\Fq c
theorem ya8{ns:List Int}{v3 v4 v5 v6 v8 v9 v10 v11:Option Vl}{c:Nat}{qs:List Pq}{o:Pq}{B:Nat}(W:Wl G gs)(hl:gs.length<70000)(hc:G[c]?=some (.lst (qs.map Pq.i)))(fc:Fq c)(h8:Oq G o v8)(hB:B≤100)(hss:∀q∈qs,q.ss.length≤B)(hos:o.ss.length≤B)(ql:qs.length≤50) :
  ∃(c':Nat) (qs':List Pq) (v8':Option Vl) (gs':List Mk) (G':List M),CS (bU ns v3 v4 v5 v6 ↑(.ref c) v8 v9 v10 v11) G=some (.nx (bU ns v3 v4 v5 v6 ↑(.ref c') v8' v9 v10 v11) G')/\Wl G' gs'/\aL 1 gs gs'/\G'[c']?=some (.lst (qs'.map Pq.i))/\Fq c'/\Oq G' o v8'/\qs'.length≤qs.length+1/\∀q∈qs',q.ss.length≤B+1:=by
 have cl:=(zd.mp hc).1
 obtain⟨jo,G1,e8,W1,m1,ho,fo⟩:∃jo G1,bR (aa 8) (bU ns v3 v4 v5 v6 ↑(.ref c) v8 v9 v10 v11) G=some (⇑(.ref jo),bU ns v3 v4 v5 v6 ↑(.ref c) ↑(.ref jo) v9 v10 v11,G1)/\Wl G1 gs/\Ml G G1/\G1[jo]?=some (.lst [o.i])/\Fq jo:=by
  rcases h8 with rfl|⟨jo,rfl,h,f⟩
  ·exact⟨G.length,G++[.lst [o.i]],rfl,W.app _,Mx.app _,by simp,Wl.fresh W⟩
  ·exact⟨jo,G,rfl,W,Mx.refl _,h,f⟩
 have hc1:G1[c]?=some (.lst (qs.map Pq.i)):=by rw [m1.at_ c cl fc.1 fc.2.1 fc.2.2.1 fc.2.2.2];exact hc
 obtain⟨x,qs',gs2,G2,e2,lq,W2,x2,m2,l2,s2⟩:=ya9 (jq:=c) (jo:=jo) (o0:=o) (B:=B) W1 (by lia) hc1 ho hB hss hos ql fo.1 fo.2.1 fo.2.2.1 fo.2.2.2
 have ol:=(zd.mp ho).1
 have ho2:G2[jo]?=some (.lst [o.i]):=by rw [m2.at_ jo ol fo.1 fo.2.1 fo.2.2.1 fo.2.2.2];exact ho
 have ev:bd (af (bR (aa 1)) (af (aa 2) (af (bR (aa 7)) (af (bR (aa 8)) ae)))) (aV 4 pq) (bU ns v3 v4 v5 v6 ↑(.ref c) v8 v9 v10 v11) G=some (.v x,bU ns v3 v4 v5 v6 ↑(.ref c) ↑(.ref jo) v9 v10 v11,G2) :=
  aO (cv (e:=⇑(.ref 5)) rfl (cv (e:=⇑(.ref 2)) rfl (cv (e:=⇑(.ref c)) rfl (cv (es:=[]) e8 rfl)))) (eh rfl rfl e2)
 rcases lq with rfl|⟨c',rfl,hc',f1,f2,f3,f4⟩
 ·refine⟨G2.length,qs',↑(.ref jo),gs2,G2++[.lst (qs'.map Pq.i)],bT (x:=.im (.ref G2.length)) (Z1:=bU ns v3 v4 v5 v6 ↑(.ref c) ↑(.ref jo) v9 v10 v11) (aO ev rfl) rfl,W2.app _,x2,by simp,Wl.fresh W2,.inr ⟨jo,rfl,?_,fo⟩,l2,s2⟩
  rw [z1c (zd.mp ho2).1]
  exact ho2
 ·exact⟨c',qs',↑(.ref jo),gs2,G2,bT (x:=.im (.ref c')) (Z1:=bU ns v3 v4 v5 v6 ↑(.ref c) ↑(.ref jo) v9 v10 v11) (aO ev rfl) rfl,W2,x2,hc',⟨f1,f2,f3,f4⟩,.inr ⟨jo,rfl,ho2,fo⟩,l2,s2⟩
theorem pG{c:Nat}{qs:List Pq}{Z:De}(hc:G[c]?=some (.lst (qs.map Pq.i)))(h7:aa 7 Z G=some (⇑(.ref c),Z,G)):bd (af (aa 7) ae) cE Z G=some (⇑(.tup (qs.map Pq.i)),Z,G):=by
 refine aO (cv (es:=[]) h7 rfl) ?_
 simp [cE,sq,pk,hc]
theorem wq{ns:List Int}{v3 v4 v5 v6 v8 v9 v11:Option Vl}{c d:Nat}{qs:List Pq}(W:Wl G gs)(hl:gs.length<40000)(hc:G[c]?=some (.lst (qs.map Pq.i)))(fc:Fq c)(hd:d≤6)(ql:qs.length≤8)(hss:∀q∈qs,q.ss.length≤1000) :
  ∃x gs' G',aj (aN (bd (af (aa 2) (af (aa 10) (af (bR (aa 7)) ae))) (aV 3 pZ)) (aF 11))
   (aJ (cx (aq (ag dM (bd (af (aa 2) (af (aa 10) (af (bd (af (aa 7) ae) cE) ae))) (aV 3 km)) (aa 11))) (aq (ag dM (bd (af (aa 2) (af (aa 10) (af (bd (af (aa 7) ae) cE) ae))) (aV 3 km)) (aa 11))))
   (aE (ah (.bl false)))
   aQ) (bU ns v3 v4 v5 v6 ↑(.ref c) v8 v9 ↑(.int (d:Nat)) v11) G=some (.nx (bU ns v3 v4 v5 v6 ↑(.ref c) v8 v9 ↑(.int (d:Nat)) x) G')/\Wl G' gs'/\aL 512 gs gs':=by
 have cl:=(zd.mp hc).1
 obtain⟨x,gs1,G1,e1,S1,x1,o1,q1⟩:=yf9 (d:=d) W.S (by lia) ql hss hd hc fc.2.2.1 fc.2.2.2
 have l1:=x1.len
 have hc1:G1[c]?=some (.lst (qs.map Pq.i)):=by rw [o1.at_ c cl fc.2.2.1 fc.2.2.2];exact hc
 obtain⟨y,gs2,G2,e2,S2,x2,o2,q2⟩:=DJ (d:=d) (qs:=qs) S1 (by lia) (by lia) hss hd
 have l2:=x2.len
 have hc2:G2[c]?=some (.lst (qs.map Pq.i)):=by rw [o2.at_ c (zd.mp hc1).1 fc.2.2.1 fc.2.2.2];exact hc1
 obtain⟨z,gs3,G3,e3,S3,x3,o3,q3⟩:=DJ (d:=d) (qs:=qs) S2 (by lia) (by lia) hss hd
 have key:y=x/\z=x/\(x=.non∨∃n,x=.int n):=by
  rcases q1 with⟨n1,rfl,rfl⟩| ⟨f1,r1⟩
  ·rcases q2 with⟨n2,rfl,rfl⟩| ⟨f2,_⟩
   ·rcases q3 with⟨n3,rfl,rfl⟩| ⟨f3,_⟩
    ·exact⟨rfl,rfl,.inl rfl⟩
    ·exact absurd f3 n1
   ·exact absurd f2 n1
  ·have hne:qs.map ff≠[]:=λz=>f1.ne (List.map_eq_nil_iff.mp z)
   rcases q2 with⟨n2,_⟩| ⟨f2,r2⟩
   ·exact absurd (f1.ext x1) n2
   rcases q3 with⟨n3,_⟩| ⟨f3,r3⟩
   ·exact absurd (f2.ext x2) n3
   have a:=r1.eq r2 x2 S2.nd hne
   have b:=r2.eq r3 x3 S3.nd hne
   refine⟨a.symm,b.symm.trans a.symm,?_⟩
   cases r1 with
   | no _=>exact .inl rfl
   | is n _ _ _=>exact .inr ⟨n,rfl⟩
 obtain⟨rfl,rfl,sh⟩:=key
 have ne:∀(Z:De) (G:List M),dM [⇑z,⇑z] Z G=some (⇑(.bl false),Z,G):=λZ G=>by
  rcases sh with rfl|⟨n,rfl⟩
  ·rfl
  ·exact i7 n Z G
 let D:=bU ns v3 v4 v5 v6 ↑(.ref c) v8 v9 ↑(.int (d:Nat)) ↑z
 refine⟨↑z,gs3,G3,aA (bT (x:=.im z) (Z1:=bU ns v3 v4 v5 v6 ↑(.ref c) v8 v9 ↑(.int (d:Nat)) v11) (G1:=G1) (aO (a:=[⇑(.ref 2),⇑(.int (d:Nat)),⇑(.ref c)]) (Z1:=bU ns v3 v4 v5 v6 ↑(.ref c) v8 v9 ↑(.int (d:Nat)) v11) (G1:=G) rfl (eh rfl rfl e1)) rfl) (bP (Z1:=D) (G1:=G3) (bK (Z1:=D) (G1:=G2) (eG (ba (aO (cv (e:=⇑(.ref 2)) (Z1:=D) (G1:=G1) rfl (cv (e:=⇑(.int (d:Nat))) (Z1:=D) (G1:=G1) rfl (cv (es:=[]) (pG hc1 rfl) rfl))) (eh rfl rfl e2)) (y:=⇑z) (Z2:=D) (G2:=G2) rfl (ne _ _))) (eG (ba (aO (cv (e:=⇑(.ref 2)) (Z1:=D) (G1:=G2) rfl (cv (e:=⇑(.int (d:Nat))) (Z1:=D) (G1:=G2) rfl (cv (es:=[]) (pG hc2 rfl) rfl))) (eh rfl rfl e3)) (y:=⇑z) (Z2:=D) (G2:=G3) rfl (ne _ _)))) rfl),?_,((x1.trans x2).trans x3).le (by lia)⟩
 exact ((W.ofS S1 o1).ofS S2 o2).ofS S3 o3
theorem D5{ns A C:List Int}{a b:Int}{dp:Nat}{v6 v7 v8 v9 v10 v11:Option Vl}(Wo:Wl G gs)(hA:Sl gs dp a A)(hC:Sl gs dp b C)(hd:dp≤5)(rA:∀f∈A,Wr f)(rC:∀f∈C,Wr f)(hl:gs.length<30000) :
  ∃(v7' v8' v9' y45d v11':Option Vl) (gs':List Mk) (G':List M),CT (bU ns ↑(.int (dp:Nat)) ↑(.int a) ↑(.int b) v6 v7 v8 v9 v10 v11) G=some (.nx (bU ns ↑(.int (dp:Nat)) ↑(.int a) ↑(.int b) v6 v7' v8' v9' y45d v11') G')/\Wl G' gs'/\aL 600 gs gs':=by
 obtain⟨ps,G1,e1,ok1,ne1,nd1,l1,W1,_⟩:=wm (most:=5) Wo hA (by lia) rA (by decide) (by decide)
 have W1':Wl (G1++[.lst (ps.map Pth.i)]) gs:=Wd.app W1 _
 obtain⟨os,G2,e2,ok2,ne2,nd2,l2,D2,m2⟩:∃(os:List Pth) (G2:List M),pW [.im (.ref 5),.im (.ref 2),.im (.int b),.im (.int (dp:Nat)),.im (.int 1)] (G1++[.lst (ps.map Pth.i)])=some (.ow (.lst (os.map Pth.i)),G2)/\(∀p∈os,y49 gs C dp p)/\os≠[]/\(os.map λp=>(p.k:Int)).Nodup/\(os.length:Int)≤1/\Wl G2 gs/\Ml (G1++[.lst (ps.map Pth.i)]) G2:=by
  obtain⟨os,G2,e2,ok2,ne2,nd2,l2,W2,o2⟩:=wm (most:=1) W1' hC (by lia) rC (by decide) (by decide)
  exact⟨os,G2,e2,ok2,ne2,nd2,l2,W2,o2.mor.mxD⟩
 obtain⟨o,eo⟩:∃o,os=[o]:=by
  match os,ne2,l2 with
  | [o],_,_=>exact⟨o,rfl⟩
  | [],h,_=>exact absurd rfl h
  | _::_::_,_,h=>simp at h;lia
 subst eo
 have fr1:=Wl.fresh W1
 have hc2:G2[G1.length]?=some (.lst (ps.map Pth.i)):=by
  rw [m2.at_ _ (by simp) fr1.1 fr1.2.1 fr1.2.2.1 fr1.2.2.2]
  simp
 have eQ:ps.map Pth.i=(ps.map jm).map Pq.i:=by rw [z38];rfl
 have hc2':G2[G1.length]?=some (.lst ((ps.map jm).map Pq.i)):=by rw [<- eQ];exact hc2
 obtain⟨gs3,G3,e3,S3,x3,o3⟩:=yc1 D2.S (by lia) ok1 hA ne1 nd1 (by lia) (by lia)
 have W3:Wl G3 gs3:=D2.ofS S3 o3
 have hl3:=x3.len
 have hc3:G3[G1.length]?=some (.lst ((ps.map jm).map Pq.i)):=by rw [o3.at_ _ (zd.mp hc2).1 fr1.2.2.1 fr1.2.2.2];exact hc2'
 obtain⟨r4,G4,e4,r4',W4,m4⟩:=W3.yf1 (many:=3) (by decide) (by decide)
 have hc4:G4[G1.length]?=some (.lst ((ps.map jm).map Pq.i)):=by rw [m4.at_ _ (zd.mp hc3).1 fr1.1 fr1.2.1 fr1.2.2.1 fr1.2.2.2];exact hc3
 obtain⟨Z5,G5,e5,c5,qs5,v85,v95,gs5,rfl,W5,x5,hc5,f5,h85,ql5,ss5⟩:=gD (w:=ez (1+r4)) (g:=aF 9) (b:=CS)
  (λi Z G'=>∃(c:Nat) (qs:List Pq) (v8 v9:Option Vl) (gs':List Mk),Z=bU ns ↑(.int (dp:Nat)) ↑(.int a) ↑(.int b) v6 ↑(.ref c) v8 v9 v10 v11/\Wl G' gs'/\aL i gs3 gs'/\G'[c]?=some (.lst (qs.map Pq.i))/\Fq c/\Oq G' (jm o) v8/\qs.length≤5+i/\∀q∈qs,q.ss.length≤5+i)
  (λi Z Ga hi zz=>by
   obtain⟨c,qs,v8,v9,gs',hδ,W',x',hc,fc,h8,ql,ss⟩:=zz
   have hi:i<1+r4:=hi
   subst hδ
   have l':=x'.len
   obtain⟨c',qs',v8',gs2,Gb,e,W'',x2,hc',fc',h8',ql',ss'⟩:=ya8 (ns:=ns) (v3:=↑(.int (dp:Nat))) (v4:=↑(.int a)) (v5:=↑(.int b)) (v6:=v6) (v9:=↑(.int i)) (v10:=v10) (v11:=v11) (B:=5+i) W' (by lia) hc fc h8 (by lia) ss (by show o.ss.length≤5+i;rw [(ok2 o (by simp)).ls];lia) (by lia)
   exact⟨.int i,_,Ga,_,Gb,rfl,rfl,e,c',qs',v8',_,gs2,rfl,W'',x'.trans x2,hc',fc',h8',by lia,λq hq=>by have:=ss' q hq;lia⟩)
  (λ_ _ _=>rfl) (1+r4) 0 (bU ns ↑(.int (dp:Nat)) ↑(.int a) ↑(.int b) v6 ↑(.ref G1.length) ↥([o].map Pth.i) v9 v10 v11) G4 (by simp [ez]) ⟨G1.length,ps.map jm,_,v9,gs3,rfl,W4,aL.refl _,hc4,fr1,.inl rfl,by rw [z19];lia,λq hq=>by
   obtain⟨p,hp,rfl⟩:=z30.mp hq
   show p.ss.length≤5+0
   rw [(ok1 p hp).ls];lia⟩
 have x5:aL (1+r4) gs3 gs5:=x5
 have ql5:qs5.length≤5+(1+r4):=ql5
 have ss5:∀q∈qs5,q.ss.length≤5+(1+r4):=ss5
 have hl5:=x5.len
 obtain⟨r6,G6,e6,r6',W6,m6⟩:=W5.yf1 (many:=5) (by decide) (by decide)
 have hc6:G6[c5]?=some (.lst (qs5.map Pq.i)):=by rw [m6.at_ _ (zd.mp hc5).1 f5.1 f5.2.1 f5.2.2.1 f5.2.2.2];exact hc5
 obtain⟨dq,hdq,e7⟩:∃dq:Nat,dq≤6/\ag aS (bd (af (aa 3) (af (aa 3) (af (aa 3) (af (ag bA (aa 3) (ah (.int 1))) (af (bd (af (ah (.int 0)) (af (ag bY (aa 3) (ah (.int 1))) ae)) gm) ae))))) aX) (bd (af (bR (aa 1)) (af (ah (.int 5)) ae)) (aV 2 bL)) (bU ns ↑(.int (dp:Nat)) ↑(.int a) ↑(.int b) v6 ↑(.ref c5) v85 v95 v10 v11) G5=some (⇑(.int (dq:Nat)),bU ns ↑(.int (dp:Nat)) ↑(.int a) ↑(.int b) v6 ↑(.ref c5) v85 v95 v10 v11,G6):=by
  let L:List Nat:=[dp,dp,dp,dp+1,dp-1]
  have hr:r6<L.length:=by show r6<5;lia
  have hL:∀x∈L,x≤6:=λx hx=>by
   simp [L] at hx
   lia
  refine⟨L[r6],hL _ (z2c hr),ba (x:=.v (.ow (.lst (L.map λk:Nat=>I.int (k:Int))))) (Z1:=bU ns ↑(.int (dp:Nat)) ↑(.int a) ↑(.int b) v6 ↑(.ref c5) v85 v95 v10 v11) (G1:=G5) ?_ (aO (a:=[⇑(.ref 5),⇑(.int 5)]) (Z1:=bU ns ↑(.int (dp:Nat)) ↑(.int a) ↑(.int b) v6 ↑(.ref c5) v85 v95 v10 v11) (G1:=G5) rfl (eh rfl rfl e6)) (j8 (λk:Nat=>I.int (k:Int)) L hr _ _)⟩
  have mx:(if (0:Int)<(dp:Int)-1 then (dp:Int)-1 else 0)=((dp-1:Nat):Int):=by split<;>lia
  simp! [bU,gm,L]
  lia
 obtain⟨x8,gs8,G8,e8,W8,x8'⟩:=wq (ns:=ns) (v3:=↑(.int (dp:Nat))) (v4:=↑(.int a)) (v5:=↑(.int b)) (v6:=v6) (v8:=v85) (v9:=v95) (v11:=v11) W6 (by lia) hc6 f5 hdq (by lia) (λq hq=>by have:=ss5 q hq;lia)
 refine⟨↑(.ref c5),v85,v95,↑(.int (dq:Nat)),x8,gs8,G8,?_,W8,((x3.trans x5).trans x8').le (by lia)⟩
 refine aA (bT (x:=.im (.ref G1.length)) (Z1:=bU ns ↑(.int (dp:Nat)) ↑(.int a) ↑(.int b) v6 v7 v8 v9 v10 v11) (G1:=G1++[.lst (ps.map Pth.i)]) (aO (aO (a:=[⇑(.ref 5),⇑(.ref 2),⇑(.int a),⇑(.int (dp:Nat)),⇑(.int 5)]) (Z1:=bU ns ↑(.int (dp:Nat)) ↑(.int a) ↑(.int b) v6 v7 v8 v9 v10 v11) (G1:=G) rfl (eh rfl rfl e1)) rfl) rfl) ?_
 refine aA (bT (x:=.ow (.lst ([o].map Pth.i))) (Z1:=bU ns ↑(.int (dp:Nat)) ↑(.int a) ↑(.int b) v6 ↑(.ref G1.length) v8 v9 v10 v11) (G1:=G2) (aO (a:=[⇑(.ref 5),⇑(.ref 2),⇑(.int b),⇑(.int (dp:Nat)),⇑(.int 1)]) (Z1:=bU ns ↑(.int (dp:Nat)) ↑(.int a) ↑(.int b) v6 ↑(.ref G1.length) v8 v9 v10 v11) (G1:=G1++[.lst (ps.map Pth.i)]) rfl (eh rfl rfl e2)) rfl) ?_
 refine aA (bP (Z1:=bU ns ↑(.int (dp:Nat)) ↑(.int a) ↑(.int b) v6 ↑(.ref G1.length) ↥([o].map Pth.i) v9 v10 v11) (G1:=G3) (eG (ba (aO (cv (e:=⇑(.ref 2)) (Z1:=bU ns ↑(.int (dp:Nat)) ↑(.int a) ↑(.int b) v6 ↑(.ref G1.length) ↥([o].map Pth.i) v9 v10 v11) (G1:=G2) rfl (cv (e:=⇑(.int (dp:Nat))) (Z1:=bU ns ↑(.int (dp:Nat)) ↑(.int a) ↑(.int b) v6 ↑(.ref G1.length) ↥([o].map Pth.i) v9 v10 v11) (G1:=G2) rfl (cv (es:=[]) (pG hc2' rfl) rfl))) (eh rfl rfl (by rw [<- eQ];exact e3))) rfl (i7 _ _ _))) rfl) ?_
 refine aA (cF (w:=ez (1+r4)) (Z1:=bU ns ↑(.int (dp:Nat)) ↑(.int a) ↑(.int b) v6 ↑(.ref G1.length) ↥([o].map Pth.i) v9 v10 v11) (G1:=G4) (gB (n:=1+r4) (j:=1+(r4:Int)) (cv (es:=[]) (ba (x:=⇑(.int 1)) (y:=⇑(.int (r4:Nat))) (Z1:=bU ns ↑(.int (dp:Nat)) ↑(.int a) ↑(.int b) v6 ↑(.ref G1.length) ↥([o].map Pth.i) v9 v10 v11) (G1:=G3) rfl (aO (a:=[⇑(.ref 5),⇑(.int 3)]) (Z1:=bU ns ↑(.int (dp:Nat)) ↑(.int a) ↑(.int b) v6 ↑(.ref G1.length) ↥([o].map Pth.i) v9 v10 v11) (G1:=G3) rfl (eh rfl rfl e4)) rfl) rfl) (by lia) (by lia)) e5) ?_
 exact aA (bT (x:=.im (.int (dq:Nat))) (Z1:=bU ns ↑(.int (dp:Nat)) ↑(.int a) ↑(.int b) v6 ↑(.ref c5) v85 v95 v10 v11) (G1:=G6) e7 rfl) e8
noncomputable def G0(so le:List Int)(a:Int):List M:=[.lst (so.map I.int),.lst (le.map I.int),.obj "House" (eL 3 4),.lst [],.dit [],.dic (dD a 0 1)]
theorem w0{so le:List Int}{a:Int}(h0:0≤a)(h1:a<2147483647)(hm:∀m∈le,0≤m):Wl (G0 so le a) [] :=
 ⟨⟨a,0,le,rfl,rfl,by decide,h0,h1,by decide,hm⟩,⟨rfl,rfl,rfl,by decide,by decide,by decide,List.nodup_nil⟩,by decide,by decide,by decide,by decide,by decide,by decide⟩
theorem D6(ns:List Int)(h:ns.length≤63):∃G,CU [.im (.fro (ns.map I.int))] []=some (.im (.bl true),G):=by
 obtain⟨a,so,le,e0,a0,a1,hm⟩:=yd9 (b:=0) (G:=[]) h (by lia)
 have e0:vp [.im (.fro (ns.map I.int)),.im (.int 0)] []=some (.ow (.dic (dD a 0 1)),[.lst (so.map I.int),.lst (le.map I.int)]):=e0
 have e1:=Dd (G:=[.lst (so.map I.int),.lst (le.map I.int)])
 have e1:pV [.im (.ref 2)] [.lst (so.map I.int),.lst (le.map I.int),.obj "House" []]=some (.im .non,[.lst (so.map I.int),.lst (le.map I.int),.obj "House" (eL 3 4),.lst [],.dit []]):=e1
 obtain⟨dp,G2,e2,d1,W2,_⟩:=(w0 (so:=so) (le:=le) a0 a1 hm).yf1 (many:=6) (by decide) (by decide)
 have e2':bL [.im (.ref 5),.im (.int 6)] [.lst (so.map I.int),.lst (le.map I.int),.obj "House" (eL 3 4),.lst [],.dit [],.dic (dD a 0 1)]=some (.im (.int (dp:Nat)),G2):=e2
 obtain⟨A,G3,e3,lA,rA,W3⟩:=W2.row (dp:=dp) (by lia)
 obtain⟨sa,gs4,G4,e4,W4,x4,hA⟩:=W3.seal lA (by lia) (by simp)
 have l4:=x4.len
 simp only [List.length_nil] at l4
 obtain⟨C,G5,e5,lC,rC,W5⟩:=W4.row (dp:=dp) (by lia)
 obtain⟨sc,gs6,G6,e6,W6,x6,hC⟩:=W5.seal lC (by lia) (by lia)
 have l6:=x6.len
 obtain⟨Z7,G7,e7,gs7,v6,v7,v8,v9,v10,v11,ed7,_,_⟩:=gD (w:=ez 8) (g:=aF 6) (b:=CT)
  (λi Z G'=>∃(gs':List Mk) (v6 v7 v8 v9 v10 v11:Option Vl),Z=bU ns ↑(.int (dp:Nat)) ↑(.int sa) ↑(.int sc) v6 v7 v8 v9 v10 v11/\Wl G' gs'/\aL (600*i) gs6 gs')
  (λi Z Ga hi zz=>by
   obtain⟨gs',v6,v7,v8,v9,v10,v11,ed,W',x'⟩:=zz
   have hi:i<8:=hi
   subst ed
   have l':=x'.len
   obtain⟨u7,u8,u9,u10,u11,gs2,Gb,e,W'',x2⟩:=D5 (ns:=ns) (v6:=↑(.int i)) (v7:=v7) (v8:=v8) (v9:=v9) (v10:=v10) (v11:=v11) W' ((hA.ext x6).ext x') (hC.ext x') (by lia) rA rC (by lia)
   exact⟨.int i,_,Ga,_,Gb,rfl,rfl,e,gs2,_,u7,u8,u9,u10,u11,rfl,W'',(x'.trans x2).le (by lia)⟩)
  (λ_ _ _=>rfl) 8 0 (bU ns ↑(.int (dp:Nat)) ↑(.int sa) ↑(.int sc) none none none none none none) G6 (by simp [ez]) ⟨gs6,none,none,none,none,none,none,rfl,W6,aL.refl _⟩
 subst ed7
 refine⟨G7,c8 rfl ?_⟩
 refine aA (bT (x:=.ow (.dic (dD a 0 1))) (Z1:=[↑(.fro (ns.map I.int)),none,none,none,none,none,none,none,none,none,none,none]) (G1:=[.lst (so.map I.int),.lst (le.map I.int)]) (by simp! [e0]) rfl) ?_
 refine aA (bT (x:=.im (.ref 2)) (Z1:=[↑(.fro (ns.map I.int)),some (.ow (.dic (dD a 0 1))),none,none,none,none,none,none,none,none,none,none]) (G1:=[.lst (so.map I.int),.lst (le.map I.int),.obj "House" (eL 3 4),.lst [],.dit []]) (by simp! [e1]) rfl) ?_
 refine aA (bT (x:=.im (.int (dp:Nat))) (Z1:=bU ns none none none none none none none none none) (G1:=G2) (by simp! [bU,e2']) rfl) ?_
 refine aA (bT (x:=.im (.int sa)) (Z1:=bU ns ↑(.int (dp:Nat)) none none none none none none none none) (G1:=G4) (aO (cv (e:=⇑(.ref 2)) (Z1:=bU ns ↑(.int (dp:Nat)) none none none none none none none none) (G1:=G2) rfl (cv (es:=[]) (aO (a:=[⇑(.ref 5),⇑(.int (dp:Nat))]) (Z1:=bU ns ↑(.int (dp:Nat)) none none none none none none none none) (G1:=G2) rfl (eh rfl rfl e3)) rfl)) (eh rfl rfl e4)) rfl) ?_
 refine aA (bT (x:=.im (.int sc)) (Z1:=bU ns ↑(.int (dp:Nat)) ↑(.int sa) none none none none none none none) (G1:=G6) (aO (cv (e:=⇑(.ref 2)) (Z1:=bU ns ↑(.int (dp:Nat)) ↑(.int sa) none none none none none none none) (G1:=G4) rfl (cv (es:=[]) (aO (a:=[⇑(.ref 5),⇑(.int (dp:Nat))]) (Z1:=bU ns ↑(.int (dp:Nat)) ↑(.int sa) none none none none none none none) (G1:=G4) rfl (eh rfl rfl e5)) rfl)) (eh rfl rfl e6)) rfl) ?_
 refine aA (cF (w:=ez 8) (Z1:=bU ns ↑(.int (dp:Nat)) ↑(.int sa) ↑(.int sc) none none none none none none) (G1:=G6) (gB (n:=8) (j:=8) rfl rfl (by decide)) e7) ?_
 rfl
end
end Q
set_option maxHeartbeats 4000000
namespace Q
open PySem PySem.Spec PyProof.Rows L2 B
noncomputable def top(i:Nat):Stmt:=PySem.Challenge.pw_stepcourt_k26_paths_that_do_not.main.body.getD i (.Pass ⟨0,0,0,0⟩)
abbrev xb:List Str:=["_law_deal_here","_law_depth","_law_few","_law_found","_law_form_here"]
abbrev p7:List Str:=["_law_house","_law_depth","_law_paths_here"]
abbrev pH:List Str:=["_law_deal_here","_law_many"]
abbrev D7:List Str:=["_law_deal_here","_law_house","_law_seal","_law_depth","_law_most"]
abbrev nL5:List Str:=["_law_house","_law_depth","_law_paths_here","_law_met","_law_k","_law_word_here","_law_siblings"]
abbrev D8:List Str:=["_law_script","_law_base","_law_some","_law_number","_law_one"]
abbrev D9:List Str:=["_law_deal_here","_law_house","_law_paths_here","_law_other"]
abbrev Ea:List Str:=["house","depth","paths","seals","path","place","seal"]
abbrev xc:List Str:=["house","place","seal","sibling"]
abbrev i9:List Str:=["self","one","other"]
abbrev ij:List Str:=["self","word"]
abbrev pI:List Str:=["_law_deal_here","_law_depth"]
abbrev ja:List Str:=["self","seal"]
abbrev pJ:List Str:=["house","seal","depth","k"]
structure Tx(K:W.Frag)(mg:Str->Option Value)(κ:Str->Addr):Prop where
 y91:Cls K (κ "House")
 y158:mg "House" = some (.ref (κ "House"))
 y22d:il K (κ "House") "given"
 y22e:il K (κ "House") "seals"
 y1c9:∃t,mg "WIDE" = some (.int 4294967296 t)
 y71:mg "all" = none
 y72:mg "enumerate" = none
 y73:mg "len" = none
 y74:mg "list" = none
 y75:mg "max" = none
 b_min:mg "min" = none
 y76:mg "range" = none
 y77:mg "reversed" = none
 b_set:mg "set" = none
 y78:mg "sorted" = none
 y79:mg "tuple" = none
 b_zip:mg "zip" = none
section
variable {P:Program}{w:World}{K:W.Frag}{mg:Str->Option Value}{base:Heap}{κ:Str->Addr}
theorem j9:y3c D8 ["_law_script","_law_base"] (bV (top 13)):=b5
theorem Eb{f:Addr}{fd:FuncData}(F:Fun K "_law_deal" "_law_deal" (top 13) f fd)(E:Tx K mg κ):y3b P w K mg base cu 1 f fd ["_law_script","_law_base"] (bp K κ 2 vp) :=
 b4 F j9 rfl rfl λcdv A outer s H _ hr=>(au (lZ (i:=2) (jx (osc:=(bV (top 13))) (N:=D8) (xs:=["_law_one"]) (ys:=[]) (ix:=[]) rfl rfl (by decide +kernel)) (c7 (hU (ab 0) (fJ (ab 1)) (fJ ai))) (λz=>eW) (λz=>(uK hr E.y75 (ak (ab 0) (ak (aw (dS hr) dU ai (ab 0)) az)))) j9.nd)
 (au (aH (i:=3) j9.nd (aw (bE hr) aM ai (ab 1)))
 (au (dz (c7 (dR (ab 2))) (fZ (i:=4) j9.nd)
 (aC (aH (i:=3) j9.nd (aw (dW hr) dX (aw (bE hr) aM (aw (fB hr) fD (ab 3) ai) (aw (dW hr) dX (ab 4) ai)) ai))))
 (aC (aY (uV hr (B7 cy (ab 3) (B7 cy ai (B7 cy (dR (BQ E.y74 E.y77 (iX (jx (osc:=(bV (top 13))) (N:=D8) (xs:=["_law_one"]) (ys:=[]) (ix:=[]) rfl rfl (by decide +kernel)) (c7 (dR (ab 2))) (λz=>(uZ (lQ hr (ab 0) (aw (um hr) uo ai ai)))) (λz=>(ab 0))))) uU)))))))))
theorem Ec:y3c ["self"] ["self"] (bV (aP (top 11) 0)):=b5
theorem Ed{f:Addr}{fd:FuncData}(F:Fun K "__init__" "House.__init__" (aP (top 11) 0) f fd)(E:Tx K mg κ):y3b P w K mg base cu 1 f fd ["self"] (bp K κ 1 pV) :=
 b4 F Ec rfl rfl λcdv A outer s H _ hr=>(au (uW E.y91 E.y22d (ab 0) (dR (cJ az)))
 (aC (uW E.y91 E.y22e (ab 0) (dR uT))))
theorem mG:y3c ["_law_deal_here","_law_many","_law_number","_law_one","_law_other"] pH (bV (top 14)):=b5
theorem Ee{f:Addr}{fd:FuncData}(F:Fun K "_law_draw" "_law_draw" (top 14) f fd)(E:Tx K mg κ):y3b P w K mg base cu 1 f fd pH (bp K κ 2 bL) :=
 b4 F mG rfl rfl λcdv A outer s H _ hr=>(au (uh (kf (mV (eV hr (aW hr (ab 0) cy) ai) (ud (iQ hr (cZ hr E.y73 (ak (aW hr (ab 0) cy) az)) ai))))
 (aC (gq hr (ab 0) cy (B1 (aW hr (ab 0) cy)))))
 (au (aH (i:=2) mG.nd (aW hr (ab 0) cy))
 (au (bS (iQ hr (ab 2) ai)
 (au (gq hr (ab 0) cy (aw (oM hr) oN (ab 2) (ab 1)))
 (aC (aY (aw (dW hr) dX (ab 2) (ab 1)))))
 cj)
 (au (aH (i:=3) mG.nd (aw (dW hr) dX (aw (bE hr) aM (aw (fB hr) fD (aW hr (ab 0) cy) ai) ai) ai))
 (au (gq hr (ab 0) cy (aw (dW hr) dX (aw (bE hr) aM (aw (fB hr) fD (ab 3) ai) ai) ai))
 (au (aH (i:=4) mG.nd (aw (dW hr) dX (aw (fB hr) fD (aW hr (ab 0) cy) (aW hr (ab 0) cy)) ai))
 (aC (aY (aw (dW hr) dX (aw (bE hr) aM (aw (fB hr) fD (aw (dW hr) dX (aw (fB hr) fD (ab 3) (ab 3)) ai) ai) (ab 4)) (ab 1))))))))))
theorem Ef:y3c ["self","made"] ["self","made"] (bV (aP (top 11) 1)):=b5
theorem Eg{f:Addr}{fd:FuncData}(F:Fun K "seal_for" "House.seal_for" (aP (top 11) 1) f fd)(E:Tx K mg κ):y3b P w K mg base cu 1 f fd ["self","made"] (bp K κ 2 kj) :=
 b4 F Ef rfl rfl λcdv A outer s H _ hr=>(au (bS (uH hr (ab 1) (hZ E.y91 E.y22e (ab 0)))
 (au (iL (pT hr (hZ E.y91 E.y22d (ab 0)) (ak (ab 1) az)))
 (aC (gq hr (hZ E.y91 E.y22e (ab 0)) (ab 1) (cZ hr E.y73 (ak (hZ E.y91 E.y22d (ab 0)) az)))))
 cj)
 (aC (aY (aW hr (hZ E.y91 E.y22e (ab 0)) (ab 1)))))
theorem Eh:y3c ij ij (bV (aP (top 11) 2)):=b5
theorem Ei{f:Addr}{fd:FuncData}(F:Fun K "leaf" "House.leaf" (aP (top 11) 2) f fd)(E:Tx K mg κ)(y16f:iy P w K mg base (κ "House") "seal_for" 1 ["self","made"] (bp K κ 2 kj)):y3b P w K mg base cu 2 f fd ij (bp K κ 2 fR) :=
 b4 F Eh rfl rfl λcdv A outer s H _ hr=>(aC (aY (cP y16f E.y91 (rm hr) (ab 0) (ak (cI (ak cy (ak (ab 1) az))) az))))
theorem Ej:y3c i9 i9 (bV (aP (top 11) 3)):=b5
theorem Ek{f:Addr}{fd:FuncData}(F:Fun K "pair" "House.pair" (aP (top 11) 3) f fd)(E:Tx K mg κ)(y16f:iy P w K mg base (κ "House") "seal_for" 1 ["self","made"] (bp K κ 2 kj)):y3b P w K mg base cu 2 f fd i9 (bp K κ 3 jk) :=
 b4 F Ej rfl rfl λcdv A outer s H _ hr=>(aC (aY (cP y16f E.y91 (rm hr) (ab 0) (ak (cI (ak cy (ak (ab 1) (ak (ab 2) az)))) az))))
theorem pK:y3c ["house","words","seals"] ["house","words"] (bV (top 2)):=b5
theorem El{f:Addr}{fd:FuncData}(F:Fun K "seal_of" "seal_of" (top 2) f fd)(E:Tx K mg κ)(y16e:iy P w K mg base (κ "House") "pair" 2 i9 (bp K κ 3 jk))(y16c:iy P w K mg base (κ "House") "leaf" 2 ij (bp K κ 2 fR)):y3b P w K mg base cu 3 f fd ["house","words"] (bp K κ 2 pf) :=
 b4 F pK rfl rfl λcdv A outer s H _ hr=>(au (lZ (i:=2) (jx (osc:=(bV (top 2))) (N:=["house","words","seals"]) (xs:=["word"]) (ys:=["house"]) (ix:=[0]) rfl rfl (by decide +kernel)) (c7 (ab 1)) (λz=>eW) (λz=>(cP y16c E.y91 (rm hr) (ab 1) (ak (ab 0) az))) pK.nd)
 (au (uh (iQ hr (cZ hr E.y73 (ak (ab 2) az)) ai)
 (aC (Cm (i:=2) (jx (osc:=(bV (top 2))) (N:=["house","words","seals"]) (xs:=["one","other"]) (ys:=["house"]) (ix:=[0]) rfl rfl (by decide +kernel)) (uY E.b_zip (ak (dR (uL (ab 2) fI fI ai)) (ak (dR (uL (ab 2) (fJ ai) fI ai)) az))) (λz=>eW) (λz=>(cP y16e E.y91 (rm hr) (ab 2) (ak (ab 0) (ak (ab 1) az)))) pK.nd)))
 (aC (aY (aW hr (ab 2) ai)))))
theorem Em:y3c ["_law_deal_here"] ["_law_deal_here"] (bV (top 15)):=b5
theorem En{f:Addr}{fd:FuncData}(F:Fun K "_law_word" "_law_word" (top 15) f fd)(E:Tx K mg κ)(y172:eO P w K mg base "_law_draw" 1 pH (bp K κ 2 bL)):y3b P w K mg base cu 2 f fd ["_law_deal_here"] (bp K κ 1 md) :=
 b4 F Em rfl rfl λcdv A outer s H _ hr=>(aC (aY (aW hr (cJ (ak (cq y172 (rm hr) (ak (ab 0) (ak ai az))) (ak (aw (dS hr) dU (aw (dS hr) dU ai ai) (cq y172 (rm hr) (ak (ab 0) (ak ai az)))) (ak (cq y172 (rm hr) (ak (ab 0) (ak ai az))) az)))) (cq y172 (rm hr) (ak (ab 0) (ak ai az))))))
theorem jc:y3c xb pI (bV (top 16)):=b5
theorem Eo{f:Addr}{fd:FuncData}(F:Fun K "_law_row" "_law_row" (top 16) f fd)(E:Tx K mg κ)(y172:eO P w K mg base "_law_draw" 1 pH (bp K κ 2 bL))(y177:eO P w K mg base "_law_word" 2 ["_law_deal_here"] (bp K κ 1 md)):y3b P w K mg base cu 3 f fd pI (bp K κ 2 mX) :=
 b4 F jc rfl rfl λcdv A outer s H _ hr=>(au (aH (i:=2) jc.nd (iX (jx (osc:=(bV (top 16))) (N:=xb) (xs:=["_law_k"]) (ys:=["_law_deal_here"]) (ix:=[0]) rfl rfl (by decide +kernel)) (h9 E.y76 (ak (aw (bE hr) aM ai (cq y172 (rm hr) (ak (ab 0) (ak ai az)))) az)) (λz=>eW) (λz=>(cq y177 (rm hr) (ak (ab 1) az)))))
 (au (lZ (i:=3) (jx (osc:=(bV (top 16))) (N:=xb) (xs:=["_law_k"]) (ys:=["_law_few","_law_deal_here"]) (ix:=[2,0]) rfl rfl (by decide +kernel)) (h9 E.y76 (ak (aw (iM hr) iN ai (ab 1)) az)) (λz=>eW) (λz=>(aW hr (ab 1) (cq y172 (rm hr) (ak (ab 2) (ak (cZ hr E.y73 (ak (ab 1) az)) az))))) jc.nd)
 (au (aH (i:=4) jc.nd (cq y172 (rm hr) (ak (ab 0) (ak ai az))))
 (au (bS (kf (mV (iQ hr (ab 1) ai) (ud (eV hr (ab 4) ai))))
 (aC (aH (i:=3) jc.nd (aw (fB hr) fD (hU (ab 3) fI (fJ (aw (oM hr) oN (aw (iM hr) iN ai (ab 1)) ai))) ai)))
 cj)
 (au (bS (eV hr (ab 4) ai)
 (aC (lZ (i:=3) (jx (osc:=(bV (top 16))) (N:=xb) (xs:=["_law_k"]) (ys:=["_law_few"]) (ix:=[2]) rfl rfl (by decide +kernel)) (h9 E.y76 (ak (aw (iM hr) iN ai (ab 1)) az)) (λz=>eW) (λz=>(aw (dW hr) dX (aw (bE hr) aM (aW hr (ab 1) ai) (aw (fB hr) fD ai (ab 0))) ai)) jc.nd))
 cj)
 (aC (aY (jN hr E.y79 (ak (ab 3) az)))))))))
theorem Ep:y3c ja ja (bV (aP (top 11) 4)):=b5
theorem Er{f:Addr}{fd:FuncData}(F:Fun K "opened" "House.opened" (aP (top 11) 4) f fd)(E:Tx K mg κ):y3b P w K mg base cu 1 f fd ja (bp K κ 2 eF) :=
 b4 F Ep rfl rfl λcdv A outer s H _ hr=>(au (bS (kf (cK (hG hr (ab 1) ai) (fX (iQ hr (ab 1) (cZ hr E.y73 (ak (hZ E.y91 E.y22d (ab 0)) az))))))
 (aC (aY fW))
 cj)
 (aC (aY (aW hr (hZ E.y91 E.y22d (ab 0)) (aw (dS hr) dU (ab 1) ai)))))
theorem ik:y3c ["house","seal","depth","k","siblings","height","made","side"] pJ (bV (top 3)):=b5
theorem Es{f:Addr}{fd:FuncData}(F:Fun K "path_in" "path_in" (top 3) f fd)(E:Tx K mg κ)(y16d:iy P w K mg base (κ "House") "opened" 1 ja (bp K κ 2 eF)):y3b P w K mg base cu 2 f fd pJ (bp K κ 4 me) :=
 b4 F ik rfl rfl λcdv A outer s H _ hr=>(au (aH (i:=4) ik.nd (cJ az))
 (au (dz (Ci E.y76 (ak (aw (dS hr) dU (ab 2) ai) (ak (iO ai) (ak (iO ai) az)))) (fZ (i:=5) ik.nd)
 (au (aH (i:=6) ik.nd (cP y16d E.y91 (rm hr) (ab 0) (ak (ab 1) az)))
 (au (bS (kf (cK (ug (ab 6)) (fX (eV hr (aW hr (ab 6) ai) cy))))
 (aC (aY fW))
 cj)
 (au (aH (i:=7) ik.nd (aw (uq hr) ur (aw (jJ hr) jK (ab 3) (ab 5)) ai))
 (au (aH (i:=1) ik.nd (aW hr (ab 6) (aw (bE hr) aM ai (ab 7))))
 (aC (iL (pT hr (ab 4) (ak (aW hr (ab 6) (aw (dS hr) dU ai (ab 7))) az)))))))))
 (au (aH (i:=6) ik.nd (cP y16d E.y91 (rm hr) (ab 0) (ak (ab 1) az)))
 (au (bS (kf (cK (ug (ab 6)) (fX (eV hr (aW hr (ab 6) ai) cy))))
 (aC (aY fW))
 cj)
 (aC (aY (cI (ak (aW hr (ab 6) ai) (ak (jN hr E.y79 (ak (uM (ab 4)) az)) az)))))))))
theorem ka:y3c ["_law_deal_here","_law_house","_law_seal","_law_depth","_law_most","_law_left","_law_found","_law_turn","_law_k"] D7 (bV (top 17)):=b5
theorem Et{f:Addr}{fd:FuncData}(F:Fun K "_law_paths" "_law_paths" (top 17) f fd)(E:Tx K mg κ)(y172:eO P w K mg base "_law_draw" 1 pH (bp K κ 2 bL))(y17b:eO P w K mg base "path_in" 2 pJ (bp K κ 4 me)):y3b P w K mg base cu 3 f fd D7 (bp K κ 5 pW) :=
 b4 F ka rfl rfl λcdv A outer s H _ hr=>(au (aH (i:=5) ka.nd (CG E.y74 E.y76 (aw (iM hr) iN ai (ab 3))))
 (au (aH (i:=6) ka.nd (cJ az))
 (au (dz (h9 E.y76 (ak (BP hr E.b_min (ak (cZ hr E.y73 (ak (ab 5) az)) (ak (aw (bE hr) aM ai (cq y172 (rm hr) (ak (ab 0) (ak (ab 4) az)))) az))) az)) (fZ (i:=7) ka.nd)
 (au (aH (i:=8) ka.nd (CD hr (ab 5) (ak (cq y172 (rm hr) (ak (ab 0) (ak (cZ hr E.y73 (ak (ab 5) az)) az))) az)))
 (aC (iL (pT hr (ab 6) (ak (aw (bE hr) aM (cI (ak (ab 8) az)) (cq y17b (rm hr) (ak (ab 1) (ak (ab 2) (ak (ab 3) (ak (ab 8) az)))))) az))))))
 (aC (aY (ab 6))))))
theorem kb:y3c nL5 p7 (bV (top 18)):=b5
theorem Eu{f:Addr}{fd:FuncData}(F:Fun K "_law_form" "_law_form" (top 18) f fd)(E:Tx K mg κ)(y16d:iy P w K mg base (κ "House") "opened" 1 ja (bp K κ 2 eF)):y3b P w K mg base cu 2 f fd p7 (bp K κ 3 pX) :=
 b4 F kb rfl rfl λcdv A outer s H _ hr=>(au (aH (i:=3) kb.nd (cJ az))
 (au (dz (c7 (ab 2)) (gw (eK (i:=4) kb.nd (eK (i:=5) kb.nd (eK (i:=6) kb.nd gc))))
 (au (bS (kf (cK (hG hr (ab 4) ai) (cK (lQ hr (ab 4) (aw (iM hr) iN ai (ab 1))) (cK (BK hr (ab 4) (ab 3)) (cK (hG hr (ab 5) ai) (cK (lQ hr (ab 5) ai) (fX (gi hr (cZ hr E.y73 (ak (ab 6) az)) (ab 1)))))))))
 (aC (aY pQ))
 cj)
 (au (bS (lE (lF (Co hr E.y71 (ak (iX (jx (osc:=(bV (top 18))) (N:=nL5) (xs:=["_law_seal"]) (ys:=["_law_house"]) (ix:=[0]) rfl rfl (by decide +kernel)) (c7 (ab 6)) (λz=>eW) (λz=>(uf (cP y16d E.y91 (rm hr) (ab 1) (ak (ab 0) az))))) az))))
 (aC (aY pQ))
 cj)
 (aC (iL (pT hr (ab 3) (ak (ab 4) az)))))))
 (aC (aY (BD hr (ab 3) (cJ az))))))
theorem da:y3c ["_law_house","_law_depth","_law_paths_here","_law_level","_law_k","_law_word_here","_law_siblings","_law_j","_law_above","_law_at","_law_beside"] p7 (bV (top 19)):=b5
theorem Ew{f:Addr}{fd:FuncData}(F:Fun K "_law_due" "_law_due" (top 19) f fd)(E:Tx K mg κ)(y16e:iy P w K mg base (κ "House") "pair" 2 i9 (bp K κ 3 jk))(y16c:iy P w K mg base (κ "House") "leaf" 2 ij (bp K κ 2 fR))(y174:eO P w K mg base "_law_form" 2 p7 (bp K κ 3 pX)):y3b P w K mg base cu 3 f fd p7 (bp K κ 3 pZ) :=
 b4 F da rfl rfl λcdv A outer s H _ hr=>(au (bS (lE (lF (cq y174 (rm hr) (ak (ab 0) (ak (ab 1) (ak (ab 2) az))))))
 (aC (aY fW))
 cj)
 (au (aH (i:=3) da.nd uS)
 (au (dz (c7 (ab 2)) (gw (eK (i:=4) da.nd (eK (i:=5) da.nd (eK (i:=6) da.nd gc))))
 (aC (gq hr (ab 3) (ab 4) (cP y16c E.y91 (rm hr) (ab 0) (ak (ab 5) az)))))
 (au (dz (h9 E.y76 (ak (ab 1) az)) (fZ (i:=7) da.nd)
 (au (aH (i:=8) da.nd uS)
 (au (dz (c7 (ab 2)) (gw (eK (i:=4) da.nd (eK (i:=5) da.nd (eK (i:=6) da.nd gc))))
 (au (aH (i:=9) da.nd (aw (jJ hr) jK (ab 4) (ab 7)))
 (au (aH (i:=10) da.nd (aw (dS hr) dU (aw (bE hr) aM (ab 9) ai) (aw (fB hr) fD ai (aw (dW hr) dX (ab 9) ai))))
 (au (bS (gi hr (CM hr (ab 3) (ak (ab 10) (ak (aW hr (ab 6) (ab 7)) az))) (aW hr (ab 6) (ab 7)))
 (aC (aY fW))
 cj)
 (aC (gq hr (ab 3) (ab 10) (aW hr (ab 6) (ab 7))))))))
 (au (dz (c7 (dR (CN hr E.y78 (ak (ab 3) az)))) (fZ (i:=9) da.nd)
 (aC (gq hr (ab 8) (aw (oM hr) oN (ab 9) ai) (cP y16e E.y91 (rm hr) (ab 0) (ak (aW hr (ab 3) (aw (dS hr) dU (ab 9) (aw (dW hr) dX (ab 9) ai))) (ak (aW hr (ab 3) (aw (bE hr) aM (aw (dS hr) dU (ab 9) (aw (dW hr) dX (ab 9) ai)) ai)) az))))))
 (aC (aH (i:=3) da.nd (uc (ab 8))))))))
 (aC (aY (aW hr (ab 3) ai)))))))
theorem Ex:y3c xc xc (bV (top 4)):=b5
theorem Ey{f:Addr}{fd:FuncData}(F:Fun K "pair_above" "pair_above" (top 4) f fd)(E:Tx K mg κ)(y16e:iy P w K mg base (κ "House") "pair" 2 i9 (bp K κ 3 jk)):y3b P w K mg base cu 3 f fd xc (bp K κ 4 p4) :=
 b4 F Ex rfl rfl λcdv A outer s H _ hr=>(aC (aY (Bk (eV hr (aw (uq hr) ur (ab 1) ai) ai) (cP y16e E.y91 (rm hr) (ab 0) (ak (ab 2) (ak (ab 3) az))) (cP y16e E.y91 (rm hr) (ab 0) (ak (ab 3) (ak (ab 2) az))))))
theorem eZ:y3c ["house","path","k","word","siblings","seal","told","height","sibling","place"] ["house","path"] (bV (top 8)):=b5
theorem Ez{f:Addr}{fd:FuncData}(F:Fun K "places_of" "places_of" (top 8) f fd)(E:Tx K mg κ)(y17a:eO P w K mg base "pair_above" 3 xc (bp K κ 4 p4))(y16c:iy P w K mg base (κ "House") "leaf" 2 ij (bp K κ 2 fR)):y3b P w K mg base cu 4 f fd ["house","path"] (bp K κ 2 wV) :=
 b4 F eZ rfl rfl λcdv A outer s H _ hr=>(au (o8 (ab 1) (gw (eK (i:=2) eZ.nd (eK (i:=3) eZ.nd (eK (i:=4) eZ.nd gc)))))
 (au (aH (i:=5) eZ.nd (cP y16c E.y91 (rm hr) (ab 0) (ak (ab 3) az)))
 (au (aH (i:=6) eZ.nd (cJ (ak (cI (ak (cI (ak ai (ak (ab 2) az))) (ak (ab 5) az))) az)))
 (au (dz (Cj E.y72 (ak (ab 4) az)) (gw (eK (i:=7) eZ.nd (eK (i:=8) eZ.nd gc)))
 (au (aH (i:=9) eZ.nd (aw (jJ hr) jK (ab 2) (ab 7)))
 (au (iL (pT hr (ab 6) (ak (cI (ak (cI (ak (ab 7) (ak (aw (oP hr) oQ (ab 9) ai) az))) (ak (ab 8) az))) az)))
 (au (aH (i:=5) eZ.nd (cq y17a (rm hr) (ak (ab 0) (ak (ab 9) (ak (ab 5) (ak (ab 8) az))))))
 (aC (iL (pT hr (ab 6) (ak (cI (ak (cI (ak (aw (bE hr) aM (ab 7) ai) (ak (aw (jJ hr) jK (ab 9) ai) az))) (ak (ab 5) az))) az))))))))
 (aC (aY (ab 6)))))))
theorem mH:y3c ["house","depth","path","k","word","siblings"] ["house","depth","path"] (bV (top 7)):=b5
theorem EA{f:Addr}{fd:FuncData}(F:Fun K "is_path" "is_path" (top 7) f fd)(E:Tx K mg κ)(y16d:iy P w K mg base (κ "House") "opened" 1 ja (bp K κ 2 eF)):y3b P w K mg base cu 2 f fd ["house","depth","path"] (bp K κ 3 mY) :=
 b4 F mH rfl rfl λcdv A outer s H _ hr=>(au (o8 (ab 2) (gw (eK (i:=3) mH.nd (eK (i:=4) mH.nd (eK (i:=5) mH.nd gc)))))
 (au (bS (kf (cK (hG hr (ab 3) ai) (cK (iQ hr (aw (jJ hr) jK (ab 3) (ab 1)) ai) (cK (hG hr (ab 4) ai) (cK (lQ hr (ab 4) (CB (by rfl) E.y1c9)) (fX (gi hr (cZ hr E.y73 (ak (ab 5) az)) (ab 1))))))))
 (aC (aY pQ))
 cj)
 (aC (aY (Co hr E.y71 (ak (iX (jx (osc:=(bV (top 7))) (N:=["house","depth","path","k","word","siblings"]) (xs:=["sibling"]) (ys:=["house"]) (ix:=[0]) rfl rfl (by decide +kernel)) (c7 (ab 5)) (λz=>eW) (λz=>(uf (cP y16d E.y91 (rm hr) (ab 1) (ak (ab 0) az))))) az))))))
theorem kd:y3c Ea ["house","depth","paths"] (bV (top 9)):=b5
theorem EB{f:Addr}{fd:FuncData}(F:Fun K "comes_to" "comes_to" (top 9) f fd)(E:Tx K mg κ)(y17c:eO P w K mg base "places_of" 4 ["house","path"] (bp K κ 2 wV))(y179:eO P w K mg base "is_path" 2 ["house","depth","path"] (bp K κ 3 mY)):y3b P w K mg base cu 5 f fd ["house","depth","paths"] (bp K κ 3 km) :=
 b4 F kd rfl rfl λcdv A outer s H _ hr=>(au (bS (lE (lF (Co hr E.y71 (ak (iX (jx (osc:=(bV (top 9))) (N:=Ea) (xs:=["path"]) (ys:=["house","depth"]) (ix:=[0,1]) rfl rfl (by decide +kernel)) (c7 (ab 2)) (λz=>eW) (λz=>(cq y179 (rm hr) (ak (ab 1) (ak (ab 2) (ak (ab 0) az)))))) az))))
 (aC (aY fW))
 cj)
 (au (bS (kf (cK (lE (lF (ab 2))) (fX (hG hr (CF E.y73 E.b_set (iX (jx (osc:=(bV (top 9))) (N:=Ea) (xs:=["path"]) (ys:=[]) (ix:=[]) rfl rfl (by decide +kernel)) (c7 (ab 2)) (λz=>eW) (λz=>(aW hr (ab 0) ai)))) (cZ hr E.y73 (ak (ab 2) az))))))
 (aC (aY fW))
 cj)
 (au (aH (i:=3) kd.nd uT)
 (au (dz (c7 (ab 2)) (fZ (i:=4) kd.nd)
 (aC (dz (c7 (dR (cq y17c (rm hr) (ak (ab 0) (ak (ab 4) az))))) (gw (eK (i:=5) kd.nd (eK (i:=6) kd.nd gc)))
 (aC (bS (gi hr (CC hr (ab 3) (ak (ab 5) (ak (ab 6) az))) (ab 6))
 (aC (aY fW))
 cj)))))
 (aC (aY (aW hr (ab 3) (cI (ak (ab 1) (ak ai az))))))))))
theorem de:y3c ["_law_deal_here","_law_house","_law_paths_here","_law_other","_law_found","_law_form_here","_law_at","_law_k","_law_word_here","_law_siblings","_law_more","_law_j","_law_some"] D9 (bV (top 20)):=b5
theorem EC{f:Addr}{fd:FuncData}(F:Fun K "_law_changed" "_law_changed" (top 20) f fd)(E:Tx K mg κ)(y172:eO P w K mg base "_law_draw" 1 pH (bp K κ 2 bL))(y16c:iy P w K mg base (κ "House") "leaf" 2 ij (bp K κ 2 fR)):y3b P w K mg base cu 3 f fd D9 (bp K κ 4 pq) :=
 b4 F de rfl rfl λcdv A outer s H _ hr=>(au (aH (i:=4) de.nd (oX hr E.y74 (ak (ab 2) az)))
 (au (aH (i:=5) de.nd (cq y172 (rm hr) (ak (ab 0) (ak ai az))))
 (au (bS (kf (cK (eV hr (ab 4) (cJ az)) (fX (eV hr (ab 5) ai))))
 (aC (aY (aW hr (cJ (ak (dR (cJ az)) (ak (dR (aw (bE hr) aM (ab 4) (hU (ab 4) fI (fJ ai)))) (ak (dR (aw (bE hr) aM (ab 4) (ab 3))) (ak (ab 3) az))))) (cq y172 (rm hr) (ak (ab 0) (ak ai az))))))
 cj)
 (au (aH (i:=6) de.nd (cq y172 (rm hr) (ak (ab 0) (ak (cZ hr E.y73 (ak (ab 4) az)) az))))
 (au (o8 (aW hr (ab 4) (ab 6)) (gw (eK (i:=7) de.nd (eK (i:=8) de.nd (eK (i:=9) de.nd gc)))))
 (au (bS (eV hr (ab 5) ai)
 (aC (aH (i:=7) de.nd (aW hr (cJ (ak (aw (bE hr) aM (ab 7) ai) (ak (aw (dS hr) dU (ab 7) ai) (ak (aw (oP hr) oQ (ab 7) ai) (ak ai (ak (iO ai) (ak (aw (bE hr) aM (ab 7) (aw (iM hr) iN ai (cZ hr E.y73 (ak (ab 9) az)))) az))))))) (cq y172 (rm hr) (ak (ab 0) (ak ai az))))))
 (aC (bS (hG hr (ab 5) ai)
 (aC (aH (i:=8) de.nd (aW hr (cJ (ak (aw (bE hr) aM (ab 8) ai) (ak ai (ak (iO ai) (ak ai (ak (aw (oP hr) oQ (ab 8) ai) (ak (aw (dS hr) dU ai ai) az))))))) (cq y172 (rm hr) (ak (ab 0) (ak ai az))))))
 (aC (bS (eV hr (ab 5) ai)
 (au (aH (i:=10) de.nd (aw (bE hr) aM (ab 9) (cI (ak (cP y16c E.y91 (rm hr) (ab 1) (ak ai az)) az))))
 (aC (aH (i:=9) de.nd (aW hr (cJ (ak (hU (ab 9) (fJ ai) fI) (ak (hU (ab 9) fI (fJ (iO ai))) (ak (ab 10) (ak (uM (ab 9)) az))))) (cq y172 (rm hr) (ak (ab 0) (ak ai az)))))))
 (aC (bS (gi hr (ab 9) (cI az))
 (au (aH (i:=11) de.nd (cq y172 (rm hr) (ak (ab 0) (ak (cZ hr E.y73 (ak (ab 9) az)) az))))
 (au (aH (i:=12) de.nd (aw (bE hr) aM (aw (bE hr) aM (oX hr E.y74 (ak (ab 9) az)) (oX hr E.y74 (ak (aW hr (aW hr (ab 3) ai) ai) az))) (cJ (ak (cP y16c E.y91 (rm hr) (ab 1) (ak ai az)) (ak ai (ak (iO ai) (ak (aw (bE hr) aM (aw (um hr) uo ai ai) (cq y172 (rm hr) (ak (ab 0) (ak ai az)))) az)))))))
 (aC (aH (i:=9) de.nd (aw (bE hr) aM (aw (bE hr) aM (hU (ab 9) fI (fJ (ab 11))) (cI (ak (aW hr (ab 12) (cq y172 (rm hr) (ak (ab 0) (ak (cZ hr E.y73 (ak (ab 12) az)) az)))) az))) (hU (ab 9) (fJ (aw (bE hr) aM (ab 11) ai)) fI))))))
 cj)))))))
 (au (gq hr (ab 4) (ab 6) (cI (ak (ab 7) (ak (ab 8) (ak (ab 9) az)))))
 (aC (aY (ab 4))))))))))
theorem dG:y3c ["_law_script","_law_deal_here","_law_house","_law_depth","_law_seal","_law_beside","_law_turn","_law_paths_here","_law_other","_law_k","_law_deep","_law_due_here"] ["_law_script"] (bV (top 21)):=b5
theorem ED{f:Addr}{fd:FuncData}(F:Fun K "law" "law" (top 21) f fd)(E:Tx K mg κ)(y178:eO P w K mg base "comes_to" 5 ["house","depth","paths"] (bp K κ 3 km))(y173:eO P w K mg base "_law_due" 3 p7 (bp K κ 3 pZ))(y172:eO P w K mg base "_law_draw" 1 pH (bp K κ 2 bL))(y170:eO P w K mg base "_law_changed" 3 D9 (bp K κ 4 pq))(y175:eO P w K mg base "_law_paths" 3 D7 (bp K κ 5 pW))(y176:eO P w K mg base "_law_row" 3 pI (bp K κ 2 mX))(y17d:eO P w K mg base "seal_of" 3 ["house","words"] (bp K κ 2 pf))(y16b:o7 P w K mg base (κ "House") 1 ["self"] (bp K κ 1 pV))(y171:eO P w K mg base "_law_deal" 1 ["_law_script","_law_base"] (bp K κ 2 vp)):y3b P w K mg base cu 6 f fd ["_law_script"] (bp K κ 1 CU) :=
 b4 F dG rfl rfl λcdv A outer s H _ hr=>(au (aH (i:=1) dG.nd (cq y171 (rm hr) (ak (ab 0) (ak ai az))))
 (au (aH (i:=2) dG.nd (B9 y16b (rm hr) E.y158))
 (au (aH (i:=3) dG.nd (cq y172 (rm hr) (ak (dR (ab 1)) (ak ai az))))
 (au (aH (i:=4) dG.nd (cq y17d (rm hr) (ak (ab 2) (ak (cq y176 (rm hr) (ak (dR (ab 1)) (ak (ab 3) az))) az))))
 (au (aH (i:=5) dG.nd (cq y17d (rm hr) (ak (ab 2) (ak (cq y176 (rm hr) (ak (dR (ab 1)) (ak (ab 3) az))) az))))
 (au (dz (h9 E.y76 (ak ai az)) (fZ (i:=6) dG.nd)
 (au (aH (i:=7) dG.nd (dR (cq y175 (rm hr) (ak (dR (ab 1)) (ak (ab 2) (ak (ab 4) (ak (ab 3) (ak ai az))))))))
 (au (aH (i:=8) dG.nd (cq y175 (rm hr) (ak (dR (ab 1)) (ak (ab 2) (ak (ab 5) (ak (ab 3) (ak ai az)))))))
 (au (bS (gi hr (cq y178 (rm hr) (ak (ab 2) (ak (ab 3) (ak (jN hr E.y79 (ak (ab 7) az)) az)))) (ab 4))
 (aC (aY pQ))
 cj)
 (au (dz (h9 E.y76 (ak (aw (bE hr) aM ai (cq y172 (rm hr) (ak (dR (ab 1)) (ak ai az)))) az)) (fZ (i:=9) dG.nd)
 (aC (aH (i:=7) dG.nd (dR (cq y170 (rm hr) (ak (dR (ab 1)) (ak (ab 2) (ak (dR (ab 7)) (ak (dR (ab 8)) az)))))))))
 (au (aH (i:=10) dG.nd (aW hr (cJ (ak (ab 3) (ak (ab 3) (ak (ab 3) (ak (aw (bE hr) aM (ab 3) ai) (ak (uK hr E.y75 (ak ai (ak (aw (dS hr) dU (ab 3) ai) az))) az)))))) (cq y172 (rm hr) (ak (dR (ab 1)) (ak ai az)))))
 (au (aH (i:=11) dG.nd (cq y173 (rm hr) (ak (ab 2) (ak (ab 10) (ak (dR (ab 7)) az)))))
 (aC (bS (kf (cK (gi hr (cq y178 (rm hr) (ak (ab 2) (ak (ab 10) (ak (jN hr E.y79 (ak (ab 7) az)) az)))) (ab 11)) (fX (gi hr (cq y178 (rm hr) (ak (ab 2) (ak (ab 10) (ak (jN hr E.y79 (ak (ab 7) az)) az)))) (ab 11)))))
 (aC (aY pQ))
 cj)))))))))
 (aC (aY pQ))))))))
end
end Q
namespace Q
open PySem PySem.Spec PyProof.Rows L2 B
noncomputable def mI(K:W.Frag):Sp:=λvs H Q _=>∃(a:Addr) (ns:List Int),vs=[.ref a]/\kU H/\aZ K H a (ns.map V.int)/\ns.length≤63/\∀H',Q (.bl true) H'
theorem wt{K:W.Frag}{ι:List Addr}{H:Hp}:∀ns:List Int,y4d K ι H (ns.map V.int) (ns.map I.int)
 | []=>.nil
 | n::ns=>.cons (.int n) (wt ns)
theorem EE{P:Program}{w:World}{K:W.Frag}{mg:Str->Option Value}{base:Heap}{κ:Str->Addr}{f:Addr}{fd:FuncData}(h:y3b P w K mg base cu 6 f fd ["_law_script"] (bp K κ 1 CU)):y3b P w K mg base cu 6 f fd ["_law_script"] (mI K):=by
 refine h.imp λvs H Q E q=>?_
 obtain⟨a,ns,rfl,ho,hs,hl,k⟩:=q
 have fr:nY K H a (ns.map V.int):=by
  rcases hs with (z|⟨o,z⟩)|z
  ·rcases ho a with e|⟨o,xs,e⟩<;>(rw [z] at e;cases e)
  ·exact .inl ⟨o,z⟩
  ·exact .inr (.inr z)
 obtain⟨G,e⟩:=D6 ns hl
 refine⟨[],[.im (.fro (ns.map I.int))],[],_,G,rfl,⟨.cons (.im (.fro fr (wt ns))) .nil,.nil,λx=>?_⟩,e,λv ι' H' s st=>?_⟩
 ·have:own (List.map some [V.ref a]) (List.map some [Vl.im (.fro (ns.map I.int))])=[]:=by show bo _ _++[]=[];rw [ft];rfl
  rw [this];simp
 ·have:=s.sl
  cases this with
  | cons q _=>cases q with
   | im r=>cases r;exact k _
theorem EF:∀(us:List Value),us.length=1->∃x0,us=[x0]
 | [x0],_=>⟨x0,rfl⟩
theorem EG:∀(us:List Value),us.length=2->∃x0 x1,us=[x0,x1]
 | [x0,x1],_=>⟨x0,x1,rfl⟩
theorem EH:∀(us:List Value),us.length=3->∃x0 x1 x2,us=[x0,x1,x2]
 | [x0,x1,x2],_=>⟨x0,x1,x2,rfl⟩
theorem EI:∀(us:List Value),us.length=4->∃x0 x1 x2 x3,us=[x0,x1,x2,x3]
 | [x0,x1,x2,x3],_=>⟨x0,x1,x2,x3,rfl⟩
theorem EJ:∀(us:List Value),us.length=5->∃x0 x1 x2 x3 x4,us=[x0,x1,x2,x3,x4]
 | [x0,x1,x2,x3,x4],_=>⟨x0,x1,x2,x3,x4,rfl⟩
noncomputable def y4(x q:Str)(st:Stmt)(ps:List Str):Prop:=∀(kV doc pm:Value) (an:Option Addr) (cdv ct:Value) (us:List Value),us.length=ps.length->bindArgs (W.fnOf x q (pM st) (mN st) (bV st) .none kV doc pm an cdv ct) ⟨us,[]⟩=pure (ps.zip us)
noncomputable abbrev NF(K:W.Frag)(x q:Str)(st:Stmt)(f:Addr)(d:FuncData):Prop:=W.nsIn K mainGlobals x=some (some (.ref f))/\Fun K x q st f d
noncomputable abbrev NM(K:W.Frag)(C:Addr)(x q:Str)(st:Stmt)(f:Addr)(d:FuncData):Prop:=W.findIn K (.ref C) x=some (some (.ref f))/\W.isFn K (.ref f)=true/\Fun K x q st f d
section
variable {K:W.Frag}{mg:Str->Option Value}{h:Heap}{k:Nat}{ps:List Str}{sp:Sp}{f:Addr}{fd:FuncData}{C:Addr}{x q m:Str}{st:Stmt}(P:Program)(w:World)(base:Heap)
theorem df(X:K.In h)(G:h.Ns mainGlobals mg)(A:NF K x q st f fd)(o:y3b P w K mg base cu k f fd ps sp)(hb:y4 x q st ps:=by intro _ _ _ _ _ _ us hl;first|(obtain⟨_,rfl⟩:=EF us hl;rfl)|(obtain⟨_,_,rfl⟩:=EG us hl;rfl)|(obtain⟨_,_,_,rfl⟩:=EH us hl;rfl)|(obtain⟨_,_,_,_,rfl⟩:=EI us hl;rfl)|(obtain⟨_,_,_,_,_,rfl⟩:=EJ us hl;rfl)):eO P w K mg base x k ps sp:=⟨f,fd,W.mg_of X G A.1,A.2.kp,A.2.binds hb,o⟩
theorem mJ(A:NM K C x q st f fd)(o:y3b P w K mg base cu k f fd ps sp)(hb:y4 x q st ps:=by intro _ _ _ _ _ _ us hl;first|(obtain⟨_,rfl⟩:=EF us hl;rfl)|(obtain⟨_,_,rfl⟩:=EG us hl;rfl)|(obtain⟨_,_,_,rfl⟩:=EH us hl;rfl)|(obtain⟨_,_,_,_,rfl⟩:=EI us hl;rfl)|(obtain⟨_,_,_,_,_,rfl⟩:=EJ us hl;rfl)):iy P w K mg base C x k ps sp:=⟨f,fd,⟨A.1,A.2.1,A.2.2.kp⟩,A.2.2.binds hb,o⟩
theorem wu(mk:W.makesIn K C=true)(kc:W.keepIn K (.ref C)=true)(A:NM K C "__init__" q st f fd)(o:y3b P w K mg base cu k f fd ps sp)(hb:y4 "__init__" q st ps:=by intro _ _ _ _ _ _ us hl;first|(obtain⟨_,rfl⟩:=EF us hl;rfl)|(obtain⟨_,_,rfl⟩:=EG us hl;rfl)|(obtain⟨_,_,_,rfl⟩:=EH us hl;rfl)|(obtain⟨_,_,_,_,rfl⟩:=EI us hl;rfl)|(obtain⟨_,_,_,_,_,rfl⟩:=EJ us hl;rfl)):o7 P w K mg base C k ps sp:=⟨f,fd,⟨mk,A.1,A.2.1,kc⟩,A.2.2.binds hb,o⟩
end
theorem all_mk{l:W.OpenLaw}{w:World}{K:W.Frag}{h:Heap}{mg:Str->Option Value}{fa y6 f1 f2 f3 f4 f5 f6 f7 f8 f9 f10 f11 f12 f13 f14 f15 f16 f17 f18 f19 f20:Addr}(X:K.In h)(G:h.Ns mainGlobals mg)(hfa:mg "law" = some (.ref fa))
  {d1 d2 d3 d4 d5 d6 d7 d8 d9 d10 d11 d12 d13 d14 d15 d16 d17 d18 d19 d20:FuncData}
  (y53:W.nsIn K mainGlobals "House" = some (some (.ref y6)))
  (A1:NF K "_law_deal" "_law_deal" (top 13) f1 d1)
  (A2:NM K y6 "__init__" "House.__init__" (aP (top 11) 0) f2 d2)
  (A3:NF K "_law_draw" "_law_draw" (top 14) f3 d3)
  (A4:NM K y6 "seal_for" "House.seal_for" (aP (top 11) 1) f4 d4)
  (A5:NM K y6 "leaf" "House.leaf" (aP (top 11) 2) f5 d5)
  (A6:NM K y6 "pair" "House.pair" (aP (top 11) 3) f6 d6)
  (A7:NF K "seal_of" "seal_of" (top 2) f7 d7)
  (A8:NF K "_law_word" "_law_word" (top 15) f8 d8)
  (A9:NF K "_law_row" "_law_row" (top 16) f9 d9)
  (A10:NM K y6 "opened" "House.opened" (aP (top 11) 4) f10 d10)
  (A11:NF K "path_in" "path_in" (top 3) f11 d11)
  (A12:NF K "_law_paths" "_law_paths" (top 17) f12 d12)
  (A13:NF K "_law_form" "_law_form" (top 18) f13 d13)
  (A14:NF K "_law_due" "_law_due" (top 19) f14 d14)
  (A15:NF K "pair_above" "pair_above" (top 4) f15 d15)
  (A16:NF K "places_of" "places_of" (top 8) f16 d16)
  (A17:NF K "is_path" "is_path" (top 7) f17 d17)
  (A18:NF K "comes_to" "comes_to" (top 9) f18 d18)
  (A19:NF K "_law_changed" "_law_changed" (top 20) f19 d19)
  (A20:NF K "law" "law" (top 21) f20 d20)
  (y2d0:W.plainGet K y6 Str.empty=true) (y189:W.hasDictIn K y6=true) (y2f2:W.plainOver K y6=true) (y393:W.findIn K (.ref y6) "__setattr__" = some (some (.builtin "object.__setattr__"))) (y220:W.makesIn K y6=true) (y1ca:W.keepIn K (.ref y6)=true)
  (nf0:W.findIn K (.ref y6) "given" = some none)
  (nf1:W.findIn K (.ref y6) "seals" = some none)
  {y40a:Tok} (y1cb:W.nsIn K mainGlobals "WIDE" = some (some (.int 4294967296 y40a)))
  (z0:W.nsIn K mainGlobals "all" = some none)
  (z1:W.nsIn K mainGlobals "enumerate" = some none)
  (z2:W.nsIn K mainGlobals "len" = some none)
  (z3:W.nsIn K mainGlobals "list" = some none)
  (z4:W.nsIn K mainGlobals "max" = some none)
  (z5:W.nsIn K mainGlobals "min" = some none)
  (z6:W.nsIn K mainGlobals "range" = some none)
  (z7:W.nsIn K mainGlobals "reversed" = some none)
  (z8:W.nsIn K mainGlobals "set" = some none)
  (z9:W.nsIn K mainGlobals "sorted" = some none)
  (z10:W.nsIn K mainGlobals "tuple" = some none)
  (z11:W.nsIn K mainGlobals "zip" = some none)
  : ∃fd:FuncData,(∀(s:Shared) (v:Value),BindsTo s fd ⟨[v],[]⟩ [("_law_script",v)])/\∀base:Heap,K.In base->base.Ns mainGlobals mg->y3b l.prog w K mg base cu 6 fa fd ["_law_script"] (mI K):=by
 have e:=hfa.symm.trans (W.mg_of X G A20.1)
 cases e
 obtain⟨κ,hκ⟩:∃κ:Str->Addr,κ "House" = y6:=⟨λc:Str=>if c="House" then y6 else 0,if_pos rfl⟩
 subst hκ
 have E:Tx K mg κ:=⟨⟨y2d0,y189,y2f2,y393⟩,W.mg_of X G y53,nf0,nf1,⟨_,W.mg_of X G y1cb⟩,W.mg_none_of X G z0,W.mg_none_of X G z1,W.mg_none_of X G z2,W.mg_none_of X G z3,W.mg_none_of X G z4,W.mg_none_of X G z5,W.mg_none_of X G z6,W.mg_none_of X G z7,W.mg_none_of X G z8,W.mg_none_of X G z9,W.mg_none_of X G z10,W.mg_none_of X G z11⟩
 obtain⟨_,_,kV,dc,pm,an,cd,ct,_,rfl,_,_⟩:=A20.2.ex
 refine⟨W.fnOf "law" "law" (pM (top 21)) (mN (top 21)) (bV (top 21)) .none kV dc pm an cd ct,λs v=>.of_eq rfl,λbase _ _=>?_⟩
 have y171:=df l.prog w base X G A1 (Eb A1.2 E )
 have y16b:=wu l.prog w base y220 y1ca A2 (Ed A2.2.2 E )
 have y172:=df l.prog w base X G A3 (Ee A3.2 E )
 have y16f:=mJ l.prog w base A4 (Eg A4.2.2 E )
 have y16c:=mJ l.prog w base A5 (Ei A5.2.2 E y16f)
 have y16e:=mJ l.prog w base A6 (Ek A6.2.2 E y16f)
 have y17d:=df l.prog w base X G A7 (El A7.2 E y16e y16c)
 have y177:=df l.prog w base X G A8 (En A8.2 E y172)
 have y176:=df l.prog w base X G A9 (Eo A9.2 E y172 y177)
 have y16d:=mJ l.prog w base A10 (Er A10.2.2 E )
 have y17b:=df l.prog w base X G A11 (Es A11.2 E y16d)
 have y175:=df l.prog w base X G A12 (Et A12.2 E y172 y17b)
 have y174:=df l.prog w base X G A13 (Eu A13.2 E y16d)
 have y173:=df l.prog w base X G A14 (Ew A14.2 E y16e y16c y174)
 have y17a:=df l.prog w base X G A15 (Ey A15.2 E y16e)
 have y17c:=df l.prog w base X G A16 (Ez A16.2 E y17a y16c)
 have y179:=df l.prog w base X G A17 (EA A17.2 E y16d)
 have y178:=df l.prog w base X G A18 (EB A18.2 E y17c y179)
 have y170:=df l.prog w base X G A19 (EC A19.2 E y172 y16c)
 exact EE (κ:=κ) (ED A20.2 E y178 y173 y172 y170 y175 y176 y17d y16b y171)
theorem walk{l:W.OpenLaw}{q:Program}{loose:List Str}{XP:(Str->Option Value)->Heap->Prop}{YP:World->Heap->Prop}{d:DefRec}{K:Params->W.Frag}(hn:l.most=some 63)(hdf:d.params.defaults=[])
  (hY:∀(w:World) (h:Heap),YP w h->(K w.params).In h)
  (F:∀(w:World) (mg:Str->Option Value) (fa:Addr) (h:Heap),(K w.params).In h->h.Ns mainGlobals mg->mg d.name=some (.ref fa) ->
   ∃fd:FuncData,(∀(s:Shared) (u:Value),BindsTo s fd ⟨[u],[]⟩ [("_law_script",u)])/\∀base:Heap,(K w.params).In base->base.Ns mainGlobals mg->y3b l.prog w (K w.params) mg base cu 6 fa fd ["_law_script"] (mI (K w.params))) :
  W.WalkO q loose XP YP l.row.toRowW d [] (λf vs=>PySem.call f vs) :=
 L2.y46e (n:=63) (k:=6) (x:="_law_script") (CX:=λ_=>cu) (sp:=λw=>mI (K w.params)) hn (by decide) hdf ⟨rfl,by decide,by decide,rfl⟩ hY F (λ_ _ a ns hl ho hS=>⟨a,ns,rfl,ho,hS,hl,λ_=>rfl⟩) λ_ _ _ _ _ z=>z
end Q
open PySem PySem.W PyProof.Rows
set_option maxRecDepth 100000 in
set_option maxHeartbeats 0 in
theorem PySem.Challenge.cw_stepcourt_k26_paths_that_do_not_holds : PySem.Challenge.rw_stepcourt_k26_paths_that_do_not.Holds := by
 refine zTop ?_
 k_fill
 refine Q.walk (l:=PySem.Challenge.rw_stepcourt_k26_paths_that_do_not) rfl rfl (λw h Y=>W.kIn_of Y) ?F
 case F =>
  intro w mg fa h KX G hmg
  refine' Q.all_mk KX G hmg ..
  all_goals first|k_is|(refine' ⟨?a,L2.y152 ?l ?c ?k⟩;case a|l|c|k=>k_is)|(refine' ⟨?a,?i,L2.y152 ?l ?c ?k⟩;case a|i|l|c|k=>k_is)|kernel_rfl|(repeat (first|exact .nil|refine .cons ⟨_,rfl⟩ ?_))
