import PyProof.Rows.All
import Wide.All
import OpenK.AllK
import Wide.FinOn
import Lean
import PyProof.EqAt
import PyProof.EqKinds
import PyProof.TupleCall
import PyProof.CompFree
import PyProof.NeKinds
import PyProof.Rows.RegReprOcc
import PyProof.Rows.StrCase
import PyProof.ZipIter
import PyProof.EnumMake
import PyProof.Draws
import PyProof.Rows.Range3
import KE.BitLaws
import KE.KDictOf
import PyProof.AttrMissSeq
import PyProof.DictUpdate
import PyProof.Rows.Tup
import PyProof.ReprRoads
import PyProof.DictRoadsH
import PyProof.DictItemsLoops
import PyProof.DictWalks
import PyProof.Rows.SetFrom
import PyProof.ListRange
import PySem.Challenge.RW_stepcourt_k25_paths_come_to
set_option Elab.async false
set_option bootstrap.genMatcherCode false
set_option genSizeOf false
set_option compiler.extract_closed false
set_option genSizeOfSpec false
set_option linter.all false
set_option maxRecDepth 100000
section
open PySem PySem.W PyProof.Rows
set_option maxRecDepth 100000
set_option maxHeartbeats 0
namespace PySem.W.Fast
theorem tw13177264999580132443:True:=⟨⟩
theorem tw895538476482711749:True:=⟨⟩
theorem tw4913874936065851510:True:=⟨⟩
theorem tw4519450879807538878:True:=⟨⟩
theorem tw15187169452722266847:True:=⟨⟩
theorem tw15544239321857458025:True:=⟨⟩
theorem tw13218746136861130678:True:=⟨⟩
theorem tw11229071132917530449:True:=⟨⟩
theorem tw17027818914372267458:True:=⟨⟩
theorem tw852478499754853246:True:=⟨⟩
theorem tw9777197614727144175:True:=⟨⟩
theorem tw7516292785299593844:True:=⟨⟩
theorem tw6551363156116692338:True:=⟨⟩
theorem tw395463464014435128:True:=⟨⟩
theorem tw1956548250747423899:True:=⟨⟩
theorem tw8460669310240601629:True:=⟨⟩
theorem tw3902621705068835048:True:=⟨⟩
theorem tw3045374356822331967:True:=⟨⟩
theorem tw8822291404628921983:True:=⟨⟩
theorem tw15881245120926960385:True:=⟨⟩
theorem tw8150494483434907230:True:=⟨⟩
theorem tw7994059539151220853:True:=⟨⟩
theorem tw15891456575636753283:True:=⟨⟩
theorem tw2649044472549066648:True:=⟨⟩
theorem tw6798638055086111401:True:=⟨⟩
theorem tw8528361429512264859:True:=⟨⟩
theorem tw12383037539652737636:True:=⟨⟩
theorem tw9639980338403056850:True:=⟨⟩
theorem tw5916890518424925820:True:=⟨⟩
theorem tw15530991955049172217:True:=⟨⟩
theorem tw6482800158057863147:True:=⟨⟩
theorem tw2459149278501700511:True:=⟨⟩
theorem tw6572183223852449591:True:=⟨⟩
theorem tw9212744562938848036:True:=⟨⟩
theorem tw15269304584810771261:True:=⟨⟩
theorem tw14787167811812044494:True:=⟨⟩
theorem tw17957213987017164864:True:=⟨⟩
theorem tw13851172441453474682:True:=⟨⟩
theorem tw7554348544075112114:True:=⟨⟩
theorem tw18147634735016505190:True:=⟨⟩
theorem tw4487168863061647788:True:=⟨⟩
theorem tw9103119445637474416:True:=⟨⟩
theorem tw4083259587868711730:True:=⟨⟩
theorem tw2698669867553343545:True:=⟨⟩
theorem tw16865912158236578429:True:=⟨⟩
theorem tw7683413027814144735:True:=⟨⟩
theorem tw5930245222610895174:True:=⟨⟩
theorem tw13469112012805276001:True:=⟨⟩
theorem tw15038055886059324390:True:=⟨⟩
theorem tw12453948998007411332:True:=⟨⟩
theorem tw3935902670650191560:True:=⟨⟩
theorem tw16652376392405926066:True:=⟨⟩
theorem tw9747514990888706239:True:=⟨⟩
theorem tw13258880383493924464:True:=⟨⟩
theorem tw11418382477747728562:True:=⟨⟩
theorem tw17584295557712985996:True:=⟨⟩
theorem tw1249609262983394801:True:=⟨⟩
theorem tw2132911524444663084:True:=⟨⟩
theorem tw17332023533657689576:True:=⟨⟩
theorem tw2056797189884044599:True:=⟨⟩
theorem tw1743902035226782177:True:=⟨⟩
theorem tw17759830326070839462:True:=⟨⟩
theorem tw2345989680370554778:True:=⟨⟩
theorem tw2254231063549161415:True:=⟨⟩
theorem tw5564154564620580589:True:=⟨⟩
theorem tw18173385211141234565:True:=⟨⟩
theorem tw16825475289437841240:True:=⟨⟩
theorem tw1815439330302545554:True:=⟨⟩
theorem tw6045546531790125783:True:=⟨⟩
theorem tw7838914647235854133:True:=⟨⟩
theorem tw7458513109189904703:True:=⟨⟩
theorem tw4397684161973488112:True:=⟨⟩
theorem tw15755600195435188709:True:=⟨⟩
theorem tw17407049565445360953:True:=⟨⟩
theorem tw908880305357758839:True:=⟨⟩
theorem tw2455218816632103904:True:=⟨⟩
theorem tw782719872413053650:True:=⟨⟩
theorem tw15923931946982703250:True:=⟨⟩
theorem tw7958174498357925821:True:=⟨⟩
theorem tw3686326400322533805:True:=⟨⟩
theorem tw17236398780377943071:True:=⟨⟩
theorem tw3892227632994185491:True:=⟨⟩
theorem tw7684820258534166126:True:=⟨⟩
theorem tw6746078713729573149:True:=⟨⟩
theorem tw11804292509008479115:True:=⟨⟩
theorem tw13587052777431275356:True:=⟨⟩
theorem tw17362094401345318013:True:=⟨⟩
theorem tw4459180487298125006:True:=⟨⟩
theorem tw9246042815031778251:True:=⟨⟩
theorem tw8709042462198708382:True:=⟨⟩
theorem tw9798698045082436836:True:=⟨⟩
theorem tw6309199330136857025:True:=⟨⟩
theorem tw8083423483217949915:True:=⟨⟩
theorem tw15010142700156670087:True:=⟨⟩
theorem tw11954902030139364750:True:=⟨⟩
theorem tw2615588686933544735:True:=⟨⟩
theorem tw5585903270148390919:True:=⟨⟩
theorem tw3123432008305972677:True:=⟨⟩
theorem tw15040804366717906955:True:=⟨⟩
theorem tw4078788042237280789:True:=⟨⟩
theorem tw13369165591201428539:True:=⟨⟩
theorem tw3583079532035691742:True:=⟨⟩
theorem tw11161512577181806471:True:=⟨⟩
theorem tw13584122695382047704:True:=⟨⟩
theorem tw2790703193821817401:True:=⟨⟩
theorem tw12892738712274723240:True:=⟨⟩
theorem tw15752887362515140783:True:=⟨⟩
theorem tw5628314597858573862:True:=⟨⟩
theorem tw11795361339884293948:True:=⟨⟩
theorem tw17796075267231131897:True:=⟨⟩
theorem tw11501091500179542797:True:=⟨⟩
theorem tw2768536379164225707:True:=⟨⟩
theorem tw4268020307254116079:True:=⟨⟩
theorem tw769526284009388806:True:=⟨⟩
theorem tw5288445787047881752:True:=⟨⟩
theorem tw4926728083454191043:True:=⟨⟩
theorem tw1919947383599481878:True:=⟨⟩
theorem tw13588013580689071181:True:=⟨⟩
theorem tw14298222390208911655:True:=⟨⟩
theorem tw1205011893391287390:True:=⟨⟩
theorem tw17534516426610419080:True:=⟨⟩
theorem tw14287529356680542429:True:=⟨⟩
theorem tw13960732369908283787:True:=⟨⟩
theorem tw15369637706217280882:True:=⟨⟩
theorem tw2276500545618996696:True:=⟨⟩
theorem tw6147404680042301813:True:=⟨⟩
theorem tw15005101350805175016:True:=⟨⟩
theorem tw7938352015378969248:True:=⟨⟩
theorem tw790762417007475954:True:=⟨⟩
theorem tw9040897349740716175:True:=⟨⟩
theorem tw597950867924285991:True:=⟨⟩
theorem tw408116314839106180:True:=⟨⟩
theorem tw3323801378846934992:True:=⟨⟩
end PySem.W.Fast
open_top zTop for PySem.Challenge.rw_stepcourt_k25_paths_come_to
end
noncomputable abbrev zc:=@PySem.wpAny_bind
noncomputable abbrev zd:=@List.size_toArray
noncomputable abbrev ze:=@PySem.Heap.get?_push_of_some
noncomputable abbrev zf:=@PySem.wpAny_pure
noncomputable abbrev z12:=@Nat.le_refl
noncomputable abbrev z13:=@List.getElem?_eq_getElem
noncomputable abbrev z14:=@List.getElem?_eq_some_iff
noncomputable abbrev z15:=@List.map_cons
noncomputable abbrev z16:=@PySem.Heap.lt_size
noncomputable abbrev z17:=@List.length_append
noncomputable abbrev z18:=@Bool.false_ne_true
noncomputable abbrev z19:=@Nat.lt_of_lt_of_le
noncomputable abbrev z1a:=@List.append_nil
noncomputable abbrev z1b:=@List.mem_cons
noncomputable abbrev z1c:=@PySem.Heap.get?_push_size
noncomputable abbrev z1d:=@List.mem_append
noncomputable abbrev z1e:=@List.getElem?_set_ne
noncomputable abbrev z1f:=@Nat.ne_of_lt
noncomputable abbrev z20:=@List.mem_append_right
noncomputable abbrev z21:=@List.getElem?_append_left
noncomputable abbrev z22:=@List.mem_cons_of_mem
noncomputable abbrev z23:=@List.count_append
noncomputable abbrev z24:=@List.length_map
noncomputable abbrev z25:=@List.getElem?_append_right
noncomputable abbrev z26:=@List.map_append
noncomputable abbrev z27:=@Nat.le_trans
noncomputable abbrev z28:=@List.mem_singleton
noncomputable abbrev z29:=@List.length_cons
noncomputable abbrev z2a:=@Option.some.inj
noncomputable abbrev z2b:=@Bool.and_eq_true
noncomputable abbrev z2c:=@List.mem_map
noncomputable abbrev z2d:=@List.getElem_mem
noncomputable abbrev z2e:=@List.mem_of_getElem?
noncomputable abbrev z2f:=@List.length_reverse
noncomputable abbrev z30:=@Nat.lt_irrefl
noncomputable abbrev z31:=@List.length_set
noncomputable abbrev z32:=@PySem.wpAny_newObj_type
noncomputable abbrev z33:=@List.append_assoc
noncomputable abbrev z34:=@Nat.lt_succ_self
noncomputable abbrev z35:=@List.all_eq_true
noncomputable abbrev z36:=@List.length_take
noncomputable abbrev z37:=@List.take_of_length_le
noncomputable abbrev z38:=@Nat.le_of_lt
noncomputable abbrev z39:=@List.map_map
noncomputable abbrev z3a:=@List.length_drop
noncomputable abbrev z3b:=@List.cons.inj
namespace L2
open PySem PySem.Spec PyProof.Rows
section
noncomputable abbrev ai:=Sum Int Str
noncomputable def fT:ai->Value->Bool
 | .inl k,v=>Value.isInt k v
 | .inr x,v=>Value.isStrOf x v
noncomputable def mN(w:World):ai->Int
 | .inl k=>hashInt k
 | .inr x=>hashStr w x
theorem dF:∀{k:ai} {v:Value},fT k v=true->(∃i t,k=Sum.inl i/\v=Value.int i t)∨(∃x t,k=Sum.inr x/\v=Value.str x t)
 | .inl i,v,h=>by
  obtain⟨t,e⟩:=Value.isInt_shape (k:=i) (v:=v) h
  exact .inl ⟨i,t,rfl,e⟩
 | .inr x,v,h=>by
  obtain⟨t,e⟩:=Value.isStrOf_shape (x:=x) (v:=v) h
  exact .inr ⟨x,t,rfl,e⟩
theorem xq(i:Int)(t:Tok):fT (.inl i) (.int i t)=true:=by simp [fT,Value.isInt]
theorem xr(x:Str)(t:Tok):fT (.inr x) (.str x t)=true:=by simp [fT,Value.isStrOf]
theorem xt(a b:Int):decide ((Sum.inl a:ai)=Sum.inl b)=(a == b):=by
 by_cases e:a=b
 ·subst e;simp
 ·have h:¬ (Sum.inl a:ai)=Sum.inl b:=λq=>e (Sum.inl.inj q)
  rw [decide_eq_false h]
  exact (beq_eq_false_iff_ne.mpr e).symm
theorem xu(a b:Str):decide ((Sum.inr a:ai)=Sum.inr b)=decide (a=b):=by
 by_cases e:a=b
 ·subst e;simp
 ·have h:¬ (Sum.inr a:ai)=Sum.inr b:=λq=>e (Sum.inr.inj q)
  rw [decide_eq_false h,decide_eq_false e]
theorem xw(a:Int)(b:Str):decide ((Sum.inl a:ai)=Sum.inr b)=false:=decide_eq_false (λq=>nomatch q)
theorem xx(a:Str)(b:Int):decide ((Sum.inr a:ai)=Sum.inl b)=false:=decide_eq_false (λq=>nomatch q)
noncomputable def bx(prog:Program)(w:World):PySem.KeyKind prog w ai where
 is:=fT
 hash:=mN w
 inj:=λv a b ha hb=>by
  rcases dF ha with⟨i,t,rfl,rfl⟩| ⟨x,t,rfl,rfl⟩
  ·rcases dF hb with⟨j,u,rfl,e⟩| ⟨y,u,rfl,e⟩
   ·injection e with e1 _;rw [e1]
   ·exact nomatch e
  ·rcases dF hb with⟨j,u,rfl,e⟩| ⟨y,u,rfl,e⟩
   ·exact nomatch e
   ·injection e with e1 _;rw [e1]
 byValue:=λk v h=>by
  rcases dF h with⟨i,t,rfl,rfl⟩| ⟨x,t,rfl,rfl⟩<;>rfl
 pyHash:=λhv h=>by
  rcases dF hv with⟨i,t,rfl,rfl⟩| ⟨x,t,rfl,rfl⟩
  ·exact wpAny_pyHash_int h
  ·exact wpAny_pyHash_str h
 eqBool:=λhu hv h=>by
  rcases dF hu with⟨i,t,rfl,rfl⟩| ⟨x,t,rfl,rfl⟩
  ·rcases dF hv with⟨j,u,rfl,rfl⟩| ⟨y,u,rfl,rfl⟩
   ·rw [xt] at h;exact wpAny_eqBool_int h
   ·rw [xw] at h;exact SeqAt.EqAt.int_str i t y u _ _ _ _ h
  ·rcases dF hv with⟨j,u,rfl,rfl⟩| ⟨y,u,rfl,rfl⟩
   ·rw [xx] at h;exact SeqAt.EqAt.str_int x t j u _ _ _ _ h
   ·rw [xu] at h;exact wpAny_eqBool_str h
 «strs»:=λk x t v h=>by
  rcases dF h with⟨i,u,rfl,e⟩| ⟨y,u,rfl,e⟩
  ·exact nomatch e
  ·injection e with e1 _
   subst e1
   cases v<;>rfl
theorem xy(prog:Program)(w:World)(i:Int)(t:Tok):(bx prog w).is (.inl i) (.int i t)=true:=xq i t
theorem xA(prog:Program)(w:World)(x:Str)(t:Tok):(bx prog w).is (.inr x) (.str x t)=true:=xr x t
end
section
inductive V where
 | non|bl (b:Bool)|int (i:Int)|str (x:Str)|byt (b:Array UInt8)|flt (b:UInt64)|ref (a:Addr)|ty (n:String)
 deriving DecidableEq
noncomputable def au:V->Value->Prop
 | .non,u=>u=Value.none
 | .bl b,u=>u=Value.bool b
 | .int i,u=>∃t,u=Value.int i t
 | .str x,u=>∃t,u=Value.str x t
 | .byt b,u=>∃t,u=Value.bytes b t
 | .flt b,u=>∃t,u=Value.float b t
 | .ref a,u=>u=Value.ref a
 | .ty n,u=>u=Value.type n
noncomputable abbrev ag:List V->List Value->Prop:=Paired au
theorem ag.length{xs:List V}{us:List Value}(r:ag xs us):xs.length=us.length:=Paired.length r
theorem ag.get:∀{xs:List V} {us:List Value} {i:Nat} {x:V},ag xs us->xs[i]?=some x->∃u,us[i]?=some u/\au x u
 | _,_,_,_,.nil,e=>by simp at e
 | _,_,0,_,.cons r _,e=>by simp at e;subst e;exact⟨_,rfl,r⟩
 | _,_,i+1,x,.cons _ t,e=>by
  obtain⟨u,h1,h2⟩:=ag.get (i:=i) (x:=x) t (by simpa using e)
  exact⟨u,by simpa using h1,h2⟩
theorem ag.set{x:V}{u:Value}(r:au x u):∀{xs:List V} {us:List Value} (i:Nat),ag xs us->ag (xs.set i x) (us.set i u)
 | _,_,_,.nil=>.nil
 | _,_,0,.cons _ t=>.cons r t
 | _,_,i+1,.cons q t=>.cons q (ag.set r i t)
theorem ag.append:∀{xs ys:List V} {us ws:List Value},ag xs us->ag ys ws->ag (xs++ys) (us++ws)
 | _,_,_,_,.nil,s=>s
 | _,_,_,_,.cons r t,s=>.cons r (ag.append t s)
theorem ag.take:∀{xs:List V} {us:List Value} (n:Nat),ag xs us->ag (xs.take n) (us.take n)
 | _,_,0,_=>.nil
 | _,_,_+1,.nil=>.nil
 | _,_,n+1,.cons r t=>.cons r (ag.take n t)
theorem ag.drop:∀{xs:List V} {us:List Value} (n:Nat),ag xs us->ag (xs.drop n) (us.drop n)
 | _,_,0,r=>r
 | _,_,_+1,.nil=>.nil
 | _,_,n+1,.cons _ t=>ag.drop n t
noncomputable def fO:Option V->Option Value->Prop
 | some v,some u=>au v u
 | none,none=>True
 | _,_=>False
noncomputable def KV{κ:Type}:List (κ×V)->List (κ×Value)->Prop:=Paired λ(p:κ×V) (q:κ×Value)=>p.1=q.1/\au p.2 q.2
noncomputable def kV:ai->V
 | .inl i=>.int i
 | .inr x=>.str x
inductive HO where
 | lst (xs:List V)
 | tup (xs:List V)
 | dK (kvs:List (ai×V))|dT (kvs:List (List ai×V))
 | set (S:Int->Bool) (n:Nat)
 | ins (C dx:Addr) (fs:List (Str×V))
 | own (x:Addr)
 | xd (fs:List (Str×V))
 | met (f x:Addr)
 | rng (lo hi:Int)
 | frz (o:Obj) (u:HO)
 | tbl (ps:Array Value)
 | ext (φ:Heap->Prop)
noncomputable abbrev Hp:=Addr->Option HO
noncomputable def ax(H:Hp)(a:Addr)(o:HO):Hp:=λb=>if b=a then some o else H b
theorem aJ{H:Hp}{a:Addr}{o:HO}:ax H a o a=some o:=by unfold ax;rw [if_pos rfl]
theorem ay{H:Hp}{a b:Addr}{o:HO}(h:b≠a):ax H a o b=H b:=by unfold ax;rw [if_neg h]
theorem iV{H:Hp}{a b:Addr}{o u:HO}(h:H a=some o)(h':H b=some u)(d:o≠u):a≠b:=by
 intro e;subst e;rw [h] at h';exact d (z2a h')
theorem cY{H:Hp}{a b:Addr}{o:HO}(h:H a=some o)(h':H b=none):a≠b:=by
 intro e;subst e;rw [h] at h';cases h'
noncomputable def eW(h:Heap)(a:Addr)(items:Array Value):Prop:=∃o,h.get? a=some o/\o.cls=.type "tuple"/\o.dict=none/\∃n,o.data=.seq items n
theorem eW.tup{h:Heap}{a:Addr}{items:Array Value}(x:eW h a items):IsTup h a items:=let ⟨o,e,c,_,n,d⟩:=x;⟨o,e,c,n,d⟩
theorem eW.keep{h h':Heap}{a:Addr}{items:Array Value}(x:eW h a items)(k:∀o,h.get? a=some o->h'.get? a=some o):eW h' a items:=let ⟨o,e,r⟩:=x;⟨o,k o e,r⟩
theorem eW.mk'(h:Heap)(items:Array Value):eW (h.push { cls:=.type "tuple",data:=.seq items }) h.objs.size items:=⟨_,z1c _ rfl,rfl,rfl,_,rfl⟩
section
variable (P:Program)(w:World)
noncomputable def cn(H:Hp)(h:Heap)(a:Addr):HO->Prop
 | .lst xs=>xs.length≤sizeLine/\∃(its:List Value) (n:Nat),ag xs its/\h.get? a=some { cls:=.type "list",data:=.seq its.toArray n }
 | .tup xs=>xs.length≤sizeLine/\∃its:List Value,ag xs its/\eW h a its.toArray
 | .dK kvs=>kvs.length≤sizeLine/\(a == sysModules)=false/\∃vs,KV kvs vs/\h.DictOf (bx P w) a vs
 | .dT kvs=>kvs.length≤sizeLine/\(a == sysModules)=false/\∃xs:List (List ai×Addr×Value),
   Paired (λ(p:List ai×V) (q:List ai×Addr×Value)=>p.1=q.1/\H q.2.1=some (.tup (p.1.map kV))/\au p.2 q.2.2) kvs xs /\
   ∃o es ep,h.get? a=some o/\o.ExactDict/\o.data=.dict es ep/\es.toList=xs.map (entryOfKey (tupleKind (bx P w)))/\(xs.map (·.1)).Nodup
 | .set S n=>h.SetOf (intKind P w) a S n
 | .ins C dx fs=>H dx=some (.own a)/\fs.length≤1000/\dx≠a/\h.get? a=some (W.instObj C dx) /\
   ∃mA,h.Ns1 dx mA/\(∀f,fO (fs.lookup f) (mA f))/\PySem.Within mA (fs.map (·.1))
 | .own _=>∃o,h.get? a=some o
 | .xd fs=>∃mA,h.Ns1 a mA/\∀f,fO (fs.lookup f) (mA f)
 | .rng lo hi=>∃t u v,h.get? a=some { cls:=.type "range",data:=.fields #[.int lo t,.int hi u,.int 1 v] }
 | .frz o u=>h.get? a=some o/\cn H h a u
 | .tbl ps=>h.get? a=some { cls:=.none,data:=.fields ps }
 | .met f x=>h.get? a=some (W.methodObj (.ref f) (.ref x))
 | .ext φ=>φ h/\(∃o,h.get? a=some o)/\∀h1 h2:Heap,φ h1->(∀o,h1.get? a=some o->h2.get? a=some o)->φ h2
noncomputable def cm(H:Hp)(h:Heap):Prop:=∀a o,H a=some o->cn P w H h a o
end
section
variable {P:Program}{w:World}{H H':Hp}{h h':Heap}{a:Addr}{o:HO}
theorem cn.lt(x:cn P w H h a o):a<h.objs.size:=by
 cases o with
 | lst xs=>obtain⟨_,_,_,_,e⟩:=x;exact z16 e
 | tup xs=>obtain⟨_,_,_,p⟩:=x;exact p.tup.lt
 | dK kvs=>obtain⟨_,_,_,_,o,_,_,e,_⟩:=x;exact z16 e
 | dT kvs=>obtain⟨_,_,_,_,o,_,_,e,_⟩:=x;exact z16 e
 | set S n=>obtain⟨o,_,_,_,e,_⟩:=x;exact z16 e
 | ins C dx fs=>obtain⟨_,_,_,e,_⟩:=x;exact z16 e
 | own y=>obtain⟨_,e⟩:=x;exact z16 e
 | xd fs=>obtain⟨_,⟨_,_,_,e,_⟩,_⟩:=x;exact z16 e
 | rng lo hi=>obtain⟨_,_,_,e⟩:=x;exact z16 e
 | frz ob u=>obtain⟨e,_⟩:=x;exact z16 e
 | tbl ps=>exact z16 (show h.get? a=some _ from x)
 | met f y=>exact z16 (show h.get? a=some _ from x)
 | ext φ=>obtain⟨_,⟨_,e⟩,_⟩:=x;exact z16 e
theorem Paired.mapP{α β:Type}{F G:α->β->Prop}:∀{l₁:List α} {l₂:List β},Paired F l₁ l₂->(∀a b,F a b->G a b)->Paired G l₁ l₂
 | _,_,.nil,_=>.nil
 | _,_,.cons r t,f=>.cons (f _ _ r) (Paired.mapP t f)
theorem cn.y409(x:cn P w H h a o)(k:∀b u,(b=a∨H b=some (.own a))->h.get? b=some u->h'.get? b=some u)
  (ho:∀b,H b=some (.own a)->H' b=some (.own a)) (ht:∀b xs,H b=some (.tup xs)->H' b=some (.tup xs)):cn P w H' h' a o:=by
 induction o with
 | lst xs=>obtain⟨z,its,n,r,e⟩:=x;exact⟨z,its,n,r,k _ _ (.inl rfl) e⟩
 | tup xs=>obtain⟨z,its,r,ob,e,c⟩:=x;exact⟨z,its,r,ob,k _ _ (.inl rfl) e,c⟩
 | dK kvs=>obtain⟨z,y,vs,r,ob,es,ep,e,c⟩:=x;exact⟨z,y,vs,r,ob,es,ep,k _ _ (.inl rfl) e,c⟩
 | dT kvs =>
  obtain⟨z,y,xs,r,ob,es,ep,e,c⟩:=x
  exact⟨z,y,xs,Paired.mapP r λp q z=>⟨z.1,ht _ _ z.2.1,z.2.2⟩,ob,es,ep,k _ _ (.inl rfl) e,c⟩
 | set S n=>obtain⟨ob,es,ep,t,e,c⟩:=x;exact⟨ob,es,ep,t,k _ _ (.inl rfl) e,c⟩
 | ins C dx fs =>
  obtain⟨d,z,ne,e,mA,⟨od,es,ep,e2,c⟩,r⟩:=x
  exact⟨ho _ d,z,ne,k _ _ (.inl rfl) e,mA,⟨od,es,ep,k _ _ (.inr d) e2,c⟩,r⟩
 | own y=>obtain⟨ob,e⟩:=x;exact⟨ob,k _ _ (.inl rfl) e⟩
 | xd fs=>obtain⟨mA,⟨od,es,ep,e,c⟩,r⟩:=x;exact⟨mA,⟨od,es,ep,k _ _ (.inl rfl) e,c⟩,r⟩
 | rng lo hi=>obtain⟨t,u,v,e⟩:=x;exact⟨t,u,v,k _ _ (.inl rfl) e⟩
 | frz ob u ih=>obtain⟨e,q⟩:=x;exact⟨k _ _ (.inl rfl) e,ih q⟩
 | tbl ps =>
  have e:h.get? a=some { cls:=.none,data:=.fields ps }:=x
  show h'.get? a=some { cls:=.none,data:=.fields ps }
  exact k a _ (.inl rfl) e
 | met f y =>
  have e:h.get? a=some (W.methodObj (.ref f) (.ref y)):=x
  show h'.get? a=some (W.methodObj (.ref f) (.ref y))
  exact k a _ (.inl rfl) e
 | ext φ=>obtain⟨p,⟨o,e⟩,st⟩:=x;exact⟨st _ _ p λo q=>k _ _ (.inl rfl) q,⟨o,k _ _ (.inl rfl) e⟩,st⟩
theorem cm.lt(x:cm P w H h)(e:H a=some o):a<h.objs.size:=(x a o e).lt
theorem cm.fresh(x:cm P w H h)(e:h.objs.size≤a):H a=none:=by
 cases q:H a with
 | none=>rfl
 | some u=>exact absurd (z19 (x.lt q) e) (z30 _)
theorem cm.kept(x:cm P w H h)(k:∀b u,h.get? b=some u->h'.get? b=some u):cm P w H h':=λa o e =>
 (x a o e).y409 (λb u _ q=>k b u q) (λ_ q=>q) λ_ _ q=>q
theorem cm.laid(x:cm P w H h)(k:∀b u,h.get? b=some u->h'.get? b=some u)(hp:h.objs.size≤a)(new:cn P w (ax H a o) h' a o):cm P w (ax H a o) h':=λb u e=>by
 have hn:=x.fresh hp
 by_cases hb:b=a
 ·subst hb;rw [aJ] at e;cases e;exact new
 ·rw [ay hb] at e
  exact (x b u e).y409 (λc v _ q=>k c v q) (λc q=>by rw [ay (cY q hn)];exact q) λc xs q=>by rw [ay (cY q hn)];exact q
end
noncomputable def Rd(H:Hp)(a:Addr)(u:HO):Prop:=H a=some u∨∃o,H a=some (.frz o u)
theorem Rd.ok{P:Program}{w:World}{H:Hp}{h:Heap}{a:Addr}{u:HO}(r:Rd H a u)(x:cm P w H h):cn P w H h a u:=by
 rcases r with r|⟨o,r⟩
 ·exact x a u r
 ·obtain⟨_,q⟩:=x a _ r
  exact q
noncomputable def pW:Option HO->Prop
 | some (.lst _)=>True
 | some (.dK _)=>True
 | some (.dT _)=>True
 | some (.set _ _)=>True
 | some (.ins _ _ _)=>True
 | some (.ext _)=>True
 | _=>False
section
variable {P:Program}{w:World}{H:Hp}{h h':Heap}{x e:Addr}{o':HO}
theorem cm.write(ok:cm P w H h)(mu:pW (H x))(he:e=x∨H e=some (.own x))(k:∀b u,b≠e->h.get? b=some u->h'.get? b=some u)(heo:∃u,h'.get? e=some u)
  (new:cn P w (ax H x o') h' x o'):cm P w (ax H x o') h':=λb u q=>by
 have nown:∀c y,H c=some (.own y)->c≠x:=λc y r z=>by subst z;rw [r] at mu;exact mu
 have ntup:∀c xs,H c=some (.tup xs)->c≠x:=λc xs r z=>by subst z;rw [r] at mu;exact mu
 by_cases hb:b=x
 ·subst hb;rw [aJ] at q;cases q;exact new
 ·rw [ay hb] at q
  by_cases hbe:b=e
  ·have q':H b=some (.own x):=by
    rcases he with z|z
    ·exact absurd (hbe.trans z) hb
    ·rw [hbe];exact z
   rw [q] at q';cases q'
   obtain⟨v,hv⟩:=heo
   exact⟨v,by rw [hbe];exact hv⟩
  ·refine (ok b u q).y409 (λc v hc r=>k c v ?_ r) (λc r=>by rw [ay (nown c b r)];exact r) λc xs r=>by rw [ay (ntup c xs r)];exact r
   rcases hc with rfl|hc
   ·exact hbe
   ·rintro rfl
    rcases he with z|z
    ·exact nown c b hc z
    ·rw [hc] at z;cases z;exact hb rfl
end
structure Un(fs ex:List Addr)(H H':Hp)(h h':Heap):Prop where
 keep:∀b o,h.get? b=some o->H b=none->b∉fs->b∉ex->h'.get? b=some o
 slot:∀b o,h.get? b=some o->H b=none->b∈fs->b∉ex->∃sl,h'.get? b=some { o with slots:=sl }
 free:∀b o,h.get? b=some o->H b=none->b∉ex->H' b=none
 there:∀b o,h.get? b=some o->b∉ex->∃o',h'.get? b=some o'
 y443:∀b xs,H b=some (.tup xs)->H' b=some (.tup xs)
 y157:∀b o u,H b=some (.frz o u)->H' b=some (.frz o u)
 y430:∀b ps,H b=some (.tbl ps)->∃more,H' b=some (.tbl (ps++more))
section
variable {fs fs' ex ex':List Addr}{H H1 H2:Hp}{h h1 h2 h':Heap}{a x e:Addr}{o:HO}
theorem Un.any(u:Un fs ex H H1 h h1){b:Addr}{ob:Obj}(q:h.get? b=some ob)(n:H b=none)(hx:b∉ex):∃sl,h1.get? b=some { ob with slots:=sl }:=by
 by_cases hb:b∈fs
 ·exact u.slot b ob q n hb hx
 ·exact⟨ob.slots,u.keep b ob q n hb hx⟩
theorem Un.kept(k:∀b u,h.get? b=some u->h'.get? b=some u):Un fs ex H H h h' :=
 ⟨λb ob q _ _ _=>k b ob q,λb ob q _ _ _=>⟨ob.slots,k b ob q⟩,λ_ _ _ n _=>n,λb ob q _=>⟨ob,k b ob q⟩,λ_ _ q=>q,λ_ _ _ q=>q,λ_ ps q=>⟨#[],by rw [q];simp⟩⟩
theorem Un.refl:Un fs ex H H h h:=Un.kept λ_ _ q=>q
theorem Un.laid(k:∀b u,h.get? b=some u->h'.get? b=some u)(hp:h.objs.size≤a)(hn:H a=none):Un fs ex H (ax H a o) h h' where
 keep:=λb u q _ _ _=>k b u q
 slot:=λb u q _ _ _=>⟨u.slots,k b u q⟩
 free:=λb u q n _=>by rw [ay (z1f (z19 (z16 q) hp))];exact n
 there:=λb u q _=>⟨u,k b u q⟩
 y443:=λb xs q=>by rw [ay (cY q hn)];exact q
 y157:=λb u xs q=>by rw [ay (cY q hn)];exact q
 y430:=λb ps q=>⟨#[],by rw [ay (cY q hn),q];simp⟩
theorem Un.write(mu:pW (H x))(he:e=x∨H e=some (.own x))(k:∀b u,b≠e->h.get? b=some u->h'.get? b=some u)(heo:∃u,h'.get? e=some u):Un fs ex H (ax H x o) h h':=by
 have hx:∀b,H b=none->b≠x:=λb n z=>by subst z;rw [n] at mu;exact mu
 have hb:∀b,H b=none->b≠e:=λb n z=>by
  subst z
  rcases he with r|r
  ·exact hx b n r
  ·rw [n] at r;cases r
 have hm:∀b u,H b=some u->¬ pW (some u)->b≠x:=λb u q nm z=>by subst z;rw [q] at mu;exact nm mu
 refine⟨λb u q n _ _=>k b u (hb b n) q,λb u q n _ _=>⟨u.slots,k b u (hb b n) q⟩,λb u q n _=>by rw [ay (hx b n)];exact n,λb u q _=>?_,
  λb xs q=>by rw [ay (hm b _ q λz=>z)];exact q,λb u xs q=>by rw [ay (hm b _ q λz=>z)];exact q,λb ps q=>⟨#[],by rw [ay (hm b _ q λz=>z),q];simp⟩⟩
 by_cases hbe:b=e
 ·subst hbe;exact heo
 ·exact⟨u,k b u hbe q⟩
end
noncomputable def wO(h:Heap)(H:Hp):List Addr:=(List.range h.objs.size).filter λa=>(H a).isSome
noncomputable def dX(h:Heap)(H:Hp):Heap:=W.hideAll h (wO h H)
theorem xB(h:Heap)(H:Hp):(dX h H).objs.size=h.objs.size:=W.hideAll_size _ _
theorem xC{h:Heap}{H:Hp}{b:Addr}{o:Obj}(e:h.get? b=some o)(n:H b=none):(dX h H).get? b=some o :=
 W.hideAll_get _ e λhm=>by
  have q:(H b).isSome=true:=(List.mem_filter.mp hm).2
  rw [n] at q;simp at q
theorem xD{h:Heap}{H:Hp}{b:Addr}{o:Obj}(e:(dX h H).get? b=some o):h.get? b=some o/\H b=none:=by
 have e':h.get? b=some o:=W.of_hideAll (wO h H) e
 refine⟨e',?_⟩
 cases q:H b with
 | none=>rfl
 | some x =>
  have hm:b∈wO h H:=List.mem_filter.mpr ⟨List.mem_range.mpr (z16 e'),by simp [q]⟩
  have z:(dX h H).get? b=none:=W.hideAll_none (wO h H) hm
  rw [z] at e;cases e
noncomputable def y5d(g h:Heap)(L:Addr):List (Addr×Obj):=(List.range h.objs.size).filterMap λa=>if a=L∨(g.get? a).isSome=true then none else (h.get? a).map λo=>(a,o)
noncomputable def aS(g h:Heap)(L d:Addr):List (Addr×Obj):=(y5d g h L).filter λp=>decide (p.1≠d)
end
section
structure Mod(K:W.Frag)(mg:Str->Option Value)(base:Heap):Prop where
 kin:K.In base
 glob:base.Ns mainGlobals mg
 blt:∃mb,base.Ns builtinsNs mb/\∀x:Str,x≠"__name__"->mb x=bootBuiltins x
 nolimit:base.NoLimit
structure Cx where
 prog:Program
 w:World
 K:W.Frag
 mg:Str->Option Value
 base:Heap
 A:Around
 N:List Str
 s₀:Shared
 H₀:Hp
 env:Env
 outer:List Env
 stack:List Env
 ex:List Addr
 fn:Str->Bool
 calm:Bool
 pn:List (Addr×Obj)
 xe:Value->Shared->Prop
noncomputable def iW(l:List Env):List Addr:=l.filterMap (·.frame)
noncomputable abbrev Cx.fs(X:Cx):List Addr:=iW X.outer
noncomputable def xE(sc:Scope)(x:Str):Prop:=sc.names.lookup x=some .local∨sc.names.lookup x=some .cell∨sc.names.lookup x=some .free
noncomputable def mO(sc:Scope)(x:Str):Prop:=sc.names.lookup x=some .local∨sc.names.lookup x=some .cell
noncomputable def xF(env:Env)(h:Heap)(m:Str->Option Value)(x:Str)(u:Value):Prop :=
 (env.kindOf x=some .local/\m x=some u)∨((env.kindOf x=some .cell∨env.kindOf x=some .free)/\∃c,env.cells.lookup x=some c/\h.IsCell c (some u))
structure Cx.Ok(X:Cx):Prop where
 mod:Mod X.K X.mg X.base
 kind:X.env.scope.kind=.function
 glob:X.env.globals=mainGlobals
 blt:X.env.builtins=builtinsNs
 above:X.s₀.heap.objs.size≤X.env.locals
 inj:∀x y c,X.env.cells.lookup x=some c->X.env.cells.lookup y=some c->x=y
 has:∀x,(X.env.kindOf x=some .cell∨X.env.kindOf x=some .free)->∃c,X.env.cells.lookup x=some c
 cab:∀x c,X.fn x=true->X.env.cells.lookup x=some c->X.s₀.heap.objs.size≤c
 hd:X.calm=true->X.A.handled=none
 frames:X.A.frames=some X.stack
 stk:X.stack=X.outer∨(X.stack=X.env::X.outer/\X.env.frame=some X.env.locals)
 exf:∀b∈X.ex,b≠X.env.locals/\∀x c,X.env.cells.lookup x=some c->c≠b
 bs:∀b o,X.base.get? b=some o->X.s₀.heap.get? b=some o/\X.H₀ b=none
 bsz:X.base.objs.size≤X.s₀.heap.objs.size
 y25e:∀b o,X.base.get? b=some o->b∉X.ex
 exfs:∀b∈X.ex,b∉X.fs
 y159:X.s₀.heap.FunFrames X.base X.outer
 frf:∀b∈X.fs,X.H₀ b=none
structure Inv(X:Cx)(pins:List (Addr×Obj))(σ:List (Option V))(H:Hp)(s:Shared):Prop where
 ok:X.Ok
 os:s.os=X.s₀.os
 bare:AllBare s.gens
 base:Un X.fs X.ex X.H₀ H X.s₀.heap s.heap
 loc:∃m,s.heap.Ns X.env.locals m/\∀(i:Nat) (x:Str) (v:V),X.N[i]?=some x->σ[i]?=some (some v)->xE X.env.scope x->∃u,au v u/\xF X.env s.heap m x u
 cell:∀x c,X.env.cells.lookup x=some c->∃v,s.heap.IsCell c v
 free:H X.env.locals=none
 y155:∀x c,X.env.cells.lookup x=some c->H c=none
 pin:∀p∈X.pn++pins,s.heap.get? p.1=some p.2/\H p.1=none/\p.1≠X.env.locals/\p.1∉X.fs/\∀v,p.2.data≠.cell v
 hok:cm X.prog X.w H s.heap
 len:σ.length=X.N.length
section
variable {X:Cx}{pins:List (Addr×Obj)}{σ:List (Option V)}{H H':Hp}{s:Shared}{h':Heap}
theorem Cx.Ok.nofr(ok:X.Ok){b:Addr}{o:Obj}(e:X.base.get? b=some o):b∉X.fs:=λhb=>by
 have:=(ok.y159.mem hb).1
 rw [e] at this;cases this
theorem Inv.bs(I:Inv X pins σ H s):∀b o,X.base.get? b=some o->s.heap.get? b=some o/\H b=none:=λb o e =>
 ⟨I.base.keep b o (I.ok.bs b o e).1 (I.ok.bs b o e).2 (I.ok.nofr e) (I.ok.y25e b o e),I.base.free b o (I.ok.bs b o e).1 (I.ok.bs b o e).2 (I.ok.y25e b o e)⟩
theorem Inv.bk(I:Inv X pins σ H s):∀b o,X.base.get? b=some o->s.heap.get? b=some o:=λb o e=>(I.bs b o e).1
theorem Inv.mod(I:Inv X pins σ H s):Mod X.K X.mg X.base:=I.ok.mod
theorem Inv.kIn(I:Inv X pins σ H s):X.K.In s.heap:=I.ok.mod.kin.keeps I.bk
theorem Inv.fr(I:Inv X pins σ H s):∃m,Fr X.base X.env.locals s.heap m :=
 let ⟨m,hn,_⟩:=I.loc
 ⟨m,hn,I.bk,z27 I.ok.bsz I.ok.above⟩
theorem Inv.lt(I:Inv X pins σ H s):X.env.locals<s.heap.objs.size:=let ⟨_,hn,_⟩:=I.loc;hn.lt
theorem Inv.sz(I:Inv X pins σ H s):X.s₀.heap.objs.size≤s.heap.objs.size:=z27 I.ok.above (z38 I.lt)
theorem Inv.nofs(I:Inv X pins σ H s){a:Addr}(h:s.heap.objs.size≤a):a∉X.fs:=λhb=>by
 obtain⟨_,o,ho,_⟩:=I.ok.y159.mem hb
 exact absurd (z19 (z16 ho) (z27 I.sz h)) (z30 _)
theorem Inv.cne(I:Inv X pins σ H s):∀x c,X.env.cells.lookup x=some c->c≠X.env.locals:=λx c e z=>by
 obtain⟨v,o,ho,hd⟩:=I.cell x c e
 obtain⟨m,⟨o',es,ep,ho',hd',_⟩,_⟩:=I.loc
 rw [z,ho'] at ho;cases ho;rw [hd'] at hd;cases hd
theorem Inv.y159(I:Inv X pins σ H s):s.heap.FunFrames X.base X.outer:=by
 have all:∀(l:List Env),(∀b∈iW l,b∈X.fs)->X.s₀.heap.FunFrames X.base l->s.heap.FunFrames X.base l:=by
  intro l
  induction l with
  | nil=>intro _ _;trivial
  | cons env r ih =>
   intro hs hl
   obtain⟨hk,⟨L,o,hf,hn,ho,hd⟩,hr⟩:=hl
   have hL:L∈X.fs:=hs L (by unfold iW;rw [List.filterMap_cons,hf];exact List.mem_cons_self)
   obtain⟨sl,e⟩:=I.base.slot L o ho (I.ok.frf L hL) hL λz=>I.ok.exfs L z hL
   exact⟨hk,⟨L,_,hf,hn,e,hd⟩,ih (λb hb=>hs b (by unfold iW;rw [List.filterMap_cons,hf];exact z22 _ hb)) hr⟩
 exact all X.outer (λ_ hb=>hb) I.ok.y159
theorem Inv.stack(I:Inv X pins σ H s):s.heap.FunFrames X.base X.stack:=by
 rcases I.ok.stk with e|⟨e,hf⟩
 ·rw [e];exact I.y159
 ·rw [e]
  obtain⟨m,hn,_⟩:=I.loc
  refine .cons (by rw [I.ok.kind];decide) hf hn ?_ I.y159
  exact Heap.get?_none_of_le (z27 I.ok.bsz I.ok.above)
theorem Inv.y40b(I:Inv X pins σ H s):∀b∈iW X.stack,b∈X.env.locals::X.fs:=λb hb=>by
 rcases I.ok.stk with e|⟨e,hf⟩
 ·rw [e] at hb;exact z22 _ hb
 ·rw [e] at hb
  unfold iW at hb
  rw [List.filterMap_cons,hf] at hb
  exact hb
theorem Inv.y40a(I:Inv X pins σ H s):∀b∈iW X.stack,H b=none:=λb hb=>by
 rcases z1b.mp (I.y40b b hb) with e|hb
 ·rw [e];exact I.free
 ·obtain⟨_,o,ho,_⟩:=I.ok.y159.mem hb
  exact I.base.free b o ho (I.ok.frf b hb) λz=>I.ok.exfs b z hb
theorem Inv.step{g':Array GenState}{t':Nat}{d':Drawn}{ch:List Addr}(I:Inv X pins σ H s)
  (hch:∀b∈ch,(b∈X.ex∨X.s₀.heap.objs.size≤b)/\b≠X.env.locals/\(∀x c,X.env.cells.lookup x=some c->c≠b)/\∀p∈X.pn++pins,p.1≠b)
  (keep:∀b o,b≠X.env.locals->b∉X.fs->b∉ch->s.heap.get? b=some o->H b=none->h'.get? b=some o)
  (slot:∀b o,b≠X.env.locals->b∈X.fs->b∉ch->s.heap.get? b=some o->H b=none->∃sl,h'.get? b=some { o with slots:=sl }) (free:∀b o,b∉ch->s.heap.get? b=some o->H b=none->H' b=none)
  (there:∀b o,b∉ch->s.heap.get? b=some o->∃o',h'.get? b=some o')
  (y443:∀b xs,H b=some (.tup xs)->H' b=some (.tup xs)) (y157:∀b o u,H b=some (.frz o u)->H' b=some (.frz o u)) (y430:∀b ps,H b=some (.tbl ps)->∃more,H' b=some (.tbl (ps++more)))
  (ns:∀m,s.heap.Ns X.env.locals m->h'.Ns X.env.locals m) (hok:cm X.prog X.w H' h') (hg:AllBare g') :
  Inv X pins σ H' { s with heap:=h',gens:=g',drawn:=d',toks:=t' }:=by
 have neL:∀b o,X.s₀.heap.get? b=some o->b≠X.env.locals:=λb o e=>z1f (z19 (z16 e) I.ok.above)
 have neC:∀b o,X.s₀.heap.get? b=some o->b∉X.ex->b∉ch:=λb o e hx hb=>by
  rcases (hch b hb).1 with z|z
  ·exact hx z
  ·exact absurd (z19 (z16 e) z) (z30 _)
 have cellK:∀x c,X.env.cells.lookup x=some c->∀v,s.heap.IsCell c v->h'.IsCell c v:=λx c e v zz=>by
  obtain⟨o,ho,hd⟩:=zz
  have nch:c∉ch:=λz=>(hch c z).2.2.1 x c e rfl
  by_cases hc:c∈X.fs
  ·obtain⟨sl,q⟩:=slot c o (I.cne x c e) hc nch ho (I.y155 x c e)
   exact⟨_,q,hd⟩
  ·exact⟨o,keep c o (I.cne x c e) hc nch ho (I.y155 x c e),hd⟩
 refine⟨I.ok,I.os,hg,⟨λb o e n hb hx=>?_,λb o e n hb hx=>?_,λb o e n hx=>?_,λb o e hx=>?_,λb xs e=>y443 b xs (I.base.y443 b xs e),λb o xs e=>y157 b o xs (I.base.y157 b o xs e),λb ps e=>?_⟩,?_,λx c e=>?_,?_,λx c e=>?_,λp hp=>?_,hok,I.len⟩
 ·exact keep b o (neL b o e) hb (neC b o e hx) (I.base.keep b o e n hb hx) (I.base.free b o e n hx)
 ·obtain⟨sl,e1⟩:=I.base.slot b o e n hb hx
  obtain⟨sl',e2⟩:=slot b _ (neL b o e) hb (neC b o e hx) e1 (I.base.free b o e n hx)
  exact⟨sl',e2⟩
 ·obtain⟨o',e1⟩:=I.base.there b o e hx
  exact free b o' (neC b o e hx) e1 (I.base.free b o e n hx)
 ·obtain⟨o',e1⟩:=I.base.there b o e hx
  exact there b o' (neC b o e hx) e1
 ·obtain⟨m1,e1⟩:=I.base.y430 b ps e
  obtain⟨m2,e2⟩:=y430 b _ e1
  exact⟨m1++m2,by rw [e2,Array.append_assoc]⟩
 ·obtain⟨m,hn,hl⟩:=I.loc
  refine⟨m,ns m hn,λi x v e1 e2 e3=>?_⟩
  obtain⟨u,r,l⟩:=hl i x v e1 e2 e3
  refine⟨u,r,?_⟩
  rcases l with l|⟨k,c,e,z⟩
  ·exact .inl l
  ·exact .inr ⟨k,c,e,cellK x c e _ z⟩
 ·obtain⟨v,z⟩:=I.cell x c e
  exact⟨v,cellK x c e v z⟩
 ·obtain⟨m,⟨o,_,_,ho,_⟩,_⟩:=I.loc
  exact free _ o (λz=>(hch _ z).2.1 rfl) ho I.free
 ·obtain⟨v,o,ho,hd⟩:=I.cell x c e
  exact free c o (λz=>(hch c z).2.2.1 x c e rfl) ho (I.y155 x c e)
 ·obtain⟨e,n,ne,nf,d⟩:=I.pin p hp
  have nch:p.1∉ch:=λz=>(hch p.1 z).2.2.2 p hp rfl
  exact⟨keep p.1 p.2 ne nf nch e n,free p.1 p.2 nch e n,ne,nf,d⟩
theorem Inv.un{t':Nat}(I:Inv X pins σ H s)(u:Un X.fs [] H H' s.heap h')(hok:cm X.prog X.w H' h'):Inv X pins σ H' { s with heap:=h',toks:=t' }:=by
 obtain⟨m,⟨o,es,ep,ho,r⟩,_⟩:=id I.loc
 obtain⟨sl,hL⟩:=u.any ho I.free (by simp)
 exact I.step (g':=s.gens) (d':=s.drawn) (ch:=[]) (λ_ z=>nomatch z) (λb o _ hb _ e n=>u.keep b o e n hb (by simp)) (λb o _ hb _ e n=>u.slot b o e n hb (by simp)) (λb o _ e n=>u.free b o e n (by simp)) (λb o _ e=>u.there b o e (by simp)) u.y443 u.y157 u.y430 (λm' hm=>by
  obtain⟨o',es',ep',ho',r'⟩:=hm
  rw [ho] at ho';cases ho'
  exact⟨_,es',ep',hL,r'⟩) hok I.bare
theorem Inv.call{g':Array GenState}{t':Nat}{d':Drawn}{ch:List Addr}(I:Inv X pins σ H s)(u:Un (iW X.stack) ch H H' s.heap h')(hok:cm X.prog X.w H' h')(hg:AllBare g')
  (hch:∀b∈ch,(b∈X.ex∨X.s₀.heap.objs.size≤b)/\b≠X.env.locals/\(∀x c,X.env.cells.lookup x=some c->c≠b)/\∀p∈X.pn++pins,p.1≠b) :
  Inv X pins σ H' { s with heap:=h',gens:=g',drawn:=d',toks:=t' }:=by
 obtain⟨m,⟨o,es,ep,ho,r⟩,_⟩:=id I.loc
 obtain⟨sl,hL⟩:=u.any ho I.free λz=>(hch _ z).2.1 rfl
 exact I.step (ch:=ch) hch (λb o hL hb hc e n=>u.keep b o e n (λz=>(z1b.mp (I.y40b b z)).elim hL hb) hc) (λb o _ _ hc e n=>u.any e n hc) (λb o hc e n=>u.free b o e n hc) (λb o hc e=>u.there b o e hc) u.y443 u.y157 u.y430 (λm' hm=>by
  obtain⟨o',es',ep',ho',r'⟩:=hm
  rw [ho] at ho';cases ho'
  exact⟨_,es',ep',hL,r'⟩) hok hg
theorem Inv.turned{t':Nat}{it:Addr}(I:Inv X pins σ H s)(k:∀b o,b≠it->s.heap.get? b=some o->h'.get? b=some o)(hn:H it=none)(hL:it≠X.env.locals)
  (h1:it∈X.ex∨X.s₀.heap.objs.size≤it) (h2:∀x c,X.env.cells.lookup x=some c->c≠it) (h3:∀p∈X.pn++pins,p.1≠it):Inv X pins σ H { s with heap:=h',toks:=t' }:=by
 have nit:∀b u,H b=some u->b≠it:=λb u e z=>by rw [z,hn] at e;cases e
 refine I.step (g':=s.gens) (d':=s.drawn) (ch:=[it]) (λb hb=>?_) (λb o _ _ hc e _=>k b o (λz=>hc (by simp [z])) e) (λb o _ _ hc e _=>⟨o.slots,k b o (λz=>hc (by simp [z])) e⟩) (λ_ _ _ _ n=>n)
  (λb o hc e=>⟨o,k b o (λz=>hc (by simp [z])) e⟩) (λ_ _ e=>e) (λ_ _ _ e=>e) (λb ps e=>⟨#[],by rw [e];simp⟩) (λm hm=>?_) (λb u e=>?_) I.bare
 ·have e:b=it:=by simpa using hb
  subst e
  exact⟨h1,hL,h2,h3⟩
 ·obtain⟨o,es,ep,ho,r⟩:=hm
  exact⟨o,es,ep,k _ o (Ne.symm hL) ho,r⟩
 ·refine (I.hok b u e).y409 (λc v hc q=>k c v ?_ q) (λ_ q=>q) λ_ _ q=>q
  rcases hc with z|z
  ·rw [z];exact nit b u e
  ·exact nit c _ z
theorem Inv.tok(I:Inv X pins σ H s)(t:Nat):Inv X pins σ H { s with toks:=t }:=I.un (h':=s.heap) (t':=t) Un.refl I.hok
theorem Inv.kept{t':Nat}(I:Inv X pins σ H s)(k:∀b u,s.heap.get? b=some u->h'.get? b=some u):Inv X pins σ H { s with heap:=h',toks:=t' }:=I.un (Un.kept k) (I.hok.kept k)
theorem Inv.laid{a:Addr}{o:HO}{t':Nat}(I:Inv X pins σ H s)(k:∀b u,s.heap.get? b=some u->h'.get? b=some u)(hp:s.heap.objs.size≤a)(new:cn X.prog X.w (ax H a o) h' a o) :
  Inv X pins σ (ax H a o) { s with heap:=h',toks:=t' }:=I.un (Un.laid k hp (I.hok.fresh hp)) (I.hok.laid k hp new)
theorem Inv.write{x e:Addr}{o:HO}{t':Nat}(I:Inv X pins σ H s)(mu:pW (H x))(he:e=x∨H e=some (.own x))(k:∀b u,b≠e->s.heap.get? b=some u->h'.get? b=some u)(heo:∃u,h'.get? e=some u)
  (new:cn X.prog X.w (ax H x o) h' x o):Inv X pins σ (ax H x o) { s with heap:=h',toks:=t' }:=I.un (Un.write mu he k heo) (I.hok.write mu he k heo new)
theorem Inv.weak{σ':List (Option V)}(I:Inv X pins σ H s)(hl:σ'.length=σ.length)(w:∀(i:Nat) v,σ'[i]?=some (some v)->σ[i]?=some (some v)):Inv X pins σ' H s :=
 ⟨I.ok,I.os,I.bare,I.base,let ⟨m,hn,hl'⟩:=I.loc;⟨m,hn,λi x v e1 e2 e3=>hl' i x v e1 (w i v e2) e3⟩,I.cell,I.free,I.y155,I.pin,I.hok,hl.trans I.len⟩
theorem Inv.y30a{y308:List (Addr×Obj)}(I:Inv X pins σ H s)(h:∀p∈y308,s.heap.get? p.1=some p.2/\H p.1=none/\p.1≠X.env.locals/\p.1∉X.fs/\∀v,p.2.data≠.cell v):Inv X y308 σ H s :=
 ⟨I.ok,I.os,I.bare,I.base,I.loc,I.cell,I.free,I.y155,λp hp=>(z1d.mp hp).elim (λz=>I.pin p (List.mem_append_left _ z)) (h p),I.hok,I.len⟩
theorem pX{N:List Str}(hN:N.Nodup){i j:Nat}{x:Str}(a:N[i]?=some x)(b:N[j]?=some x):i=j:=by
 obtain⟨h1,e1⟩:=z14.mp a
 obtain⟨h2,e2⟩:=z14.mp b
 exact (List.getElem_inj hN).mp (e1.trans e2.symm)
theorem pY{M:Model}{A:Around}{E:Value->Shared->Prop}{i:Nat}{x:Str}{v:V}{u:Value}{Q:Unit->Shared->Prop}(I:Inv X pins σ H s)(hN:X.N.Nodup)(hi:X.N[i]?=some x)(hx:mO X.env.scope x)(r:au v u)
  (h:∀s',Inv X pins (σ.set i (some v)) H s'->(∃a,Heap.SameBut a s.heap s'.heap/\(a=X.env.locals∨X.env.cells.lookup x=some a))->Q () s') (hf:X.fn x=true∨X.env.scope.names.lookup x=some .local:=by first|exact .inl rfl|exact .inr rfl|assumption):wpAny M A (storeName X.env x u) Q E s:=by
 obtain⟨m,hn,hl⟩:=id I.loc
 have hcls:(X.env.scope.kind == .class||(X.env.scope.kind == .module&&X.env.locals != X.env.globals))=false:=by rw [I.ok.kind];rfl
 have hiσ:i<σ.length:=by rw [I.len];exact (z14.mp hi).1
 have cne:=I.cne
 have tracked:∀{a:Addr} {h':Heap},(∃o,s.heap.get? a=some o/\H a=none)->Heap.SameBut a s.heap h'->cm X.prog X.w H h':=λ{a h'} ha hs b ob e=>by
  obtain⟨_,_,y18f⟩:=ha
  refine (I.hok b ob e).y409 (λc w' hc q=>(hs.2 c ?_).trans q) (λ_ q=>q) λ_ _ q=>q
  rintro rfl
  rcases hc with rfl|hc
  ·rw [y18f] at e;cases e
  ·rw [y18f] at hc;cases hc
 rcases hx with hk|hk
 ·refine wpAny_storeName_local hk hn (λh' hn' hs=>?_) hcls
  obtain⟨oL,_,_,hoL,_⟩:=id hn
  refine h _ ⟨I.ok,I.os,I.bare,⟨λb o e n hb hx=>?_,λb o e n hb hx=>?_,I.base.free,λb o e hx=>?_,I.base.y443,I.base.y157,I.base.y430⟩,⟨_,hn',λj y v' e1 e2 e3=>?_⟩,λy c e=>?_,I.free,I.y155,λp hp=>?_,tracked ⟨oL,hoL,I.free⟩ hs,by simpa using I.len⟩ ⟨_,hs,.inl rfl⟩
  ·exact (hs.2 b (z1f (z19 (z16 e) I.ok.above))).trans (I.base.keep b o e n hb hx)
  ·obtain⟨sl,e1⟩:=I.base.slot b o e n hb hx
   exact⟨sl,(hs.2 b (z1f (z19 (z16 e) I.ok.above))).trans e1⟩
  ·obtain⟨o',e1⟩:=I.base.there b o e hx
   exact⟨o',(hs.2 b (z1f (z19 (z16 e) I.ok.above))).trans e1⟩
  ·by_cases hj:j=i
   ·subst hj
    rw [hi] at e1;cases e1
    rw [List.getElem?_set_self hiσ] at e2
    cases e2
    exact⟨u,r,.inl ⟨hk,by simp⟩⟩
   ·rw [z1e (Ne.symm hj)] at e2
    obtain⟨u',r',q⟩:=hl j y v' e1 e2 e3
    refine⟨u',r',?_⟩
    rcases q with⟨k,e⟩| ⟨k,c,e,z⟩
    ·refine .inl ⟨k,?_⟩
     have:y≠x:=λe=>hj (pX hN e1 (e ▸ hi))
     simp [this,e]
    ·exact .inr ⟨k,c,e,z.sameBut hs (cne y c e)⟩
  ·obtain⟨w',z⟩:=I.cell y c e
   exact⟨w',z.sameBut hs (cne y c e)⟩
  ·obtain⟨e,n,ne,nf,d⟩:=I.pin p hp
   exact⟨(hs.2 p.1 ne).trans e,n,ne,nf,d⟩
 ·have hfn:X.fn x=true:=by
   rcases hf with z|z
   ·exact z
   ·rw [z] at hk;cases hk
  obtain⟨c,hc⟩:=I.ok.has x (.inl hk)
  obtain⟨w',z⟩:=I.cell x c hc
  refine wpAny_storeName_cell I.ok.kind hk hc z (λh' hc' hs=>?_)
  obtain⟨oc,hoc,hocd⟩:=id z
  refine h { s with heap:=h' } ⟨I.ok,I.os,I.bare,⟨λb o e n hb hx=>?_,λb o e n hb hx=>?_,I.base.free,λb o e hx=>?_,I.base.y443,I.base.y157,I.base.y430⟩,⟨m,hn.sameBut hs (Ne.symm (cne x c hc)),λj y v' e1 e2 e3=>?_⟩,λy c' e=>?_,I.free,I.y155,λp hp=>?_,tracked ⟨oc,hoc,I.y155 x c hc⟩ hs,by simpa using I.len⟩ ⟨c,hs,.inr hc⟩
  ·exact (hs.2 b (z1f (z19 (z16 e) (I.ok.cab x c hfn hc)))).trans (I.base.keep b o e n hb hx)
  ·obtain⟨sl,e1⟩:=I.base.slot b o e n hb hx
   exact⟨sl,(hs.2 b (z1f (z19 (z16 e) (I.ok.cab x c hfn hc)))).trans e1⟩
  ·obtain⟨o',e1⟩:=I.base.there b o e hx
   exact⟨o',(hs.2 b (z1f (z19 (z16 e) (I.ok.cab x c hfn hc)))).trans e1⟩
  ·by_cases hj:j=i
   ·subst hj
    rw [hi] at e1;cases e1
    rw [List.getElem?_set_self hiσ] at e2
    cases e2
    exact⟨u,r,.inr ⟨.inl hk,c,hc,hc'⟩⟩
   ·rw [z1e (Ne.symm hj)] at e2
    obtain⟨u',r',q⟩:=hl j y v' e1 e2 e3
    refine⟨u',r',?_⟩
    rcases q with q|⟨k,c',e,z'⟩
    ·exact .inl q
    ·refine .inr ⟨k,c',e,z'.sameBut hs ?_⟩
     rintro rfl
     exact hj (pX hN e1 (I.ok.inj _ _ _ e hc ▸ hi))
  ·by_cases hcc:c'=c
   ·subst hcc;exact⟨_,hc'⟩
   ·obtain⟨w2,z2⟩:=I.cell y c' e
    exact⟨w2,z2.sameBut hs hcc⟩
  ·obtain⟨e,n,ne,nf,d⟩:=I.pin p hp
   refine⟨(hs.2 p.1 ?_).trans e,n,ne,nf,d⟩
   intro q
   rw [q,hoc] at e
   have q':oc=p.2:=z2a e
   exact d w' (by rw [<- q'];exact hocd)
theorem pZ{M:Model}{A:Around}{E:Value->Shared->Prop}{i:Nat}{x:Str}{v:V}{u:Value}{Q:Unit->Shared->Prop}(I:Inv X pins σ H s)(hN:X.N.Nodup)(hi:X.N[i]?=some x)(hx:mO X.env.scope x)(r:au v u)
  (h:∀s',Inv X pins (σ.set i (some v)) H s'->Q () s') (hf:X.fn x=true∨X.env.scope.names.lookup x=some .local:=by first|exact .inl rfl|exact .inr rfl|assumption):wpAny M A (storeName X.env x u) Q E s :=
 pY I hN hi hx r (λs' I' _=>h s' I') hf
theorem Inv.call'{s':Shared}{ch:List Addr}(I:Inv X pins σ H s)(ho:s'.os=s.os)(u:Un (iW X.stack) ch H H' s.heap s'.heap)(hok:cm X.prog X.w H' s'.heap)(hg:AllBare s'.gens)
  (hch:∀b∈ch,(b∈X.ex∨X.s₀.heap.objs.size≤b)/\b≠X.env.locals/\(∀x c,X.env.cells.lookup x=some c->c≠b)/\∀p∈X.pn++pins,p.1≠b):Inv X pins σ H' s':=by
 obtain⟨h',g',d',t',o'⟩:=s'
 have e:o'=s.os:=ho
 subst e
 exact I.call (g':=g') (t':=t') (d':=d') u hok hg hch
end
noncomputable abbrev XK:=Value->Option Addr->Hp->Prop
noncomputable abbrev St:=List (Option V)
noncomputable abbrev VK:=V->Hp->Prop
noncomputable abbrev TE:=St->Hp->VK->Prop
noncomputable abbrev TT:=St->Hp->(Bool->Hp->Prop)->Prop
noncomputable abbrev TA:=St->Hp->(List V->Hp->Prop)->Prop
structure Ends where
 nx:St->Hp->Prop
 rt:VK
 bk:St->Hp->Prop:=λ_ _=>False
 ct:St->Hp->Prop:=λ_ _=>False
noncomputable abbrev TS:=Ends->St->Hp->Prop
noncomputable def EP(X:Cx)(pins:List (Addr×Obj))(σ:St)(Q:VK)(u:Value)(s':Shared):Prop:=∃v H',Inv X pins σ H' s'/\au v u/\Q v H'
noncomputable def TP(X:Cx)(pins:List (Addr×Obj))(σ:St)(Q:Bool->Hp->Prop)(b:Bool)(s':Shared):Prop:=∃H',Inv X pins σ H' s'/\Q b H'
noncomputable def AP(X:Cx)(pins:List (Addr×Obj))(σ:St)(Q:List V->Hp->Prop)(us:List Value)(s':Shared):Prop:=∃vs H',Inv X pins σ H' s'/\ag vs us/\Q vs H'
noncomputable def SP(X:Cx)(pins:List (Addr×Obj))(D:Ends)(f:Flow)(s':Shared):Prop :=
 match f with
 | .next=>∃σ' H',Inv X pins σ' H' s'/\D.nx σ' H'
 | .brk=>∃σ' H',Inv X pins σ' H' s'/\D.bk σ' H'
 | .cont=>∃σ' H',Inv X pins σ' H' s'/\D.ct σ' H'
 | .ret u=>∃v σ' H',Inv X pins σ' H' s'/\au v u/\D.rt v H'
noncomputable def PE(X:Cx)(e:Expr)(t:TE):Prop :=
 ∀(pins:List (Addr×Obj)) (s:Shared) (σ:St) (H:Hp) (Q:VK),Inv X pins σ H s->t σ H Q->wpAny (model X.prog X.w) X.A (eval e X.env) (EP X pins σ Q) X.xe s
noncomputable def PT(X:Cx)(e:Expr)(t:TT):Prop :=
 ∀(pins:List (Addr×Obj)) (s:Shared) (σ:St) (H:Hp) (Q:Bool->Hp->Prop),Inv X pins σ H s->t σ H Q->wpAny (model X.prog X.w) X.A (isTrue e X.env (eval e X.env)) (TP X pins σ Q) X.xe s
noncomputable def PW(X:Cx)(e:Expr)(t:TT):Prop :=
 ∀(whole:Sem Value) (pins:List (Addr×Obj)) (s:Shared) (σ:St) (H:Hp) (Q:Bool->Hp->Prop),Inv X pins σ H s->t σ H Q->wpAny (model X.prog X.w) X.A (isTrue e X.env whole) (TP X pins σ Q) X.xe s
theorem PW.pt{X:Cx}{e:Expr}{t:TT}(h:PW X e t):PT X e t:=h _
noncomputable def PA(X:Cx)(es:List Expr)(t:TA):Prop :=
 ∀(pos:Pos) (pins:List (Addr×Obj)) (s:Shared) (σ:St) (H:Hp) (Q:List V->Hp->Prop),Inv X pins σ H s->t σ H Q->wpAny (model X.prog X.w) X.A (spliced (backTo pos (starEach es X.env))) (AP X pins σ Q) X.xe s
noncomputable def PS(X:Cx)(st:Stmt)(t:TS):Prop :=
 ∀(pins:List (Addr×Obj)) (s:Shared) (σ:St) (H:Hp) (D:Ends),Inv X pins σ H s->t D σ H->wpAny (model X.prog X.w) X.A (exec st X.env) (SP X pins D) X.xe s
noncomputable def dY(X:Cx)(st:List Stmt)(t:TS):Prop :=
 ∀(pins:List (Addr×Obj)) (s:Shared) (σ:St) (H:Hp) (D:Ends),Inv X pins σ H s->t D σ H->wpAny (model X.prog X.w) X.A (execs st X.env) (SP X pins D) X.xe s
theorem aF{α:Type}{t:Sem α}{Q Q':α->Shared->Prop}{M:Model}{A:Around}{E:Value->Shared->Prop}{s:Shared}(h:wpAny M A t Q E s)(hQ:∀a s,Q a s->Q' a s):wpAny M A t Q' E s:=wpAny_mono h hQ λ_ _ x=>x
end
section
section
variable {X:Cx}
theorem bin{a b:Expr}{ta tb:TE}(ha:PE X a ta)(hb:PE X b tb){pins:List (Addr×Obj)}{s:Shared}{σ:St}{H:Hp}{R:V->V->Hp->Prop}(I:Inv X pins σ H s)(h:ta σ H λx H1=>tb σ H1 λy H2=>R x y H2)
  {α:Type} {Q:α->Shared->Prop} {f:Value->Value->Sem α}
  (hf:∀v u s2 x y H2,Inv X pins σ H2 s2->au x v->au y u->R x y H2->wpAny (model X.prog X.w) X.A (f v u) Q X.xe s2) :
  wpAny (model X.prog X.w) X.A (eval a X.env) (λv s₁=>wpAny (model X.prog X.w) X.A (eval b X.env) (λu s₂=>wpAny (model X.prog X.w) X.A (f v u) Q X.xe s₂) X.xe s₁) X.xe s:=by
 refine aF (ha pins s σ H _ I h) λv s1 zz=>?_
 obtain⟨x,H1,I1,r1,q1⟩:=zz
 refine aF (hb pins s1 σ H1 _ I1 q1) λu s2 zz=>?_
 obtain⟨y,H2,I2,r2,q2⟩:=zz
 exact hf v u s2 x y H2 I2 r1 r2 q2
noncomputable def p4(i:Nat):TE:=λσ H Q=>∃v,σ[i]?=some (some v)/\Q v H
noncomputable def tC(v:V):TE:=λ_ H Q=>Q v H
theorem xG{i:Nat}{x:Str}{pos:Pos}(hN:X.N[i]?=some x)(hv:xE X.env.scope x)(hd:(x == ("__debug__" : Str))=false:=by decide)(hcd:(x == ("__classdict__" : Str))=false:=by decide):PE X (.Name x pos) (p4 i):=by
 intro pins s σ H Q I h
 obtain⟨v,e,h⟩:=h
 obtain⟨m,hn,hl⟩:=I.loc
 obtain⟨u,r,l⟩:=hl i x v hN e hv
 have fin:EP X pins σ Q u s:=⟨v,H,I,r,h⟩
 rcases l with⟨hk,hm⟩| ⟨hk,c,hc,y18b⟩
 ·exact wpAny_Name (wpAny_loadName_local I.ok.kind hk hn hm fin) hd
 ·rcases hk with hk|hk
  ·exact wpAny_Name (wpAny_loadName_cell I.ok.kind hk hc y18b fin) hd
  ·exact wpAny_Name (wpAny_loadName_free I.ok.kind hk hc y18b fin hcd) hd
theorem mP{i j pos}:PE X (.Constant (.int i) j pos) (tC (.int i)):=λ_ _ _ H _ I h=>wpAny_Constant_int ⟨.int i,H,I.tok _,⟨_,rfl⟩,h⟩
theorem p5{b j pos}:PE X (.Constant (.bool b) j pos) (tC (.bl b)):=λ_ _ _ H _ I h=>Constant_bool ⟨.bl b,H,I,rfl,h⟩
theorem xH{j pos}:PE X (.Constant .none j pos) (tC .non):=λ_ _ _ H _ I h=>Constant_none ⟨.non,H,I,rfl,h⟩
theorem xI{x j pos}:PE X (.Constant (.str x) j pos) (tC (.str x)):=λ_ _ _ H _ I h=>Calls.Constant_str ⟨.str x,H,I.tok _,⟨_,rfl⟩,h⟩
noncomputable def Gl(X:Cx)(x:Str):Prop:=X.env.kindOf x=some .globalImplicit
theorem mQ{E:Value->Shared->Prop}{pins:List (Addr×Obj)}{s:Shared}{σ:St}{H:Hp}{x:Str}{u:Value}{pos:Pos}{Q:Value->Shared->Prop}(I:Inv X pins σ H s)(hg:Gl X x)(hm:X.mg x=some u)(h:Q u s)
  (hd:(x == ("__debug__" : Str))=false:=by decide):wpAny (model X.prog X.w) X.A (eval (.Name x pos) X.env) Q E s :=
 Calls.Name_function_global I.ok.kind hg (Calls.loadGlobal_global (by rw [I.ok.glob];exact I.mod.glob.keeps I.bk) hm h) hd
theorem dG{E:Value->Shared->Prop}{pins:List (Addr×Obj)}{s:Shared}{σ:St}{H:Hp}{x:Str}{u:Value}{pos:Pos}{Q:Value->Shared->Prop}(I:Inv X pins σ H s)(hg:Gl X x)(hm:X.mg x=none)(hv:bootBuiltins x=some u)(h:Q u s)
  (hn:x≠"__name__":=by decide) (hd:(x == ("__debug__" : Str))=false:=by decide):wpAny (model X.prog X.w) X.A (eval (.Name x pos) X.env) Q E s:=by
 obtain⟨mb,h1,h2⟩:=I.mod.blt
 exact Calls.Name_function_global I.ok.kind hg (Calls.loadGlobal_builtin (by rw [I.ok.glob];exact I.mod.glob.keeps I.bk) hm (by rw [I.ok.blt];exact h1.keeps I.bk) ((h2 x hn).trans hv) h) hd
theorem xJ{x:Str}{v:V}{u:Value}{pos:Pos}(hg:Gl X x)(hm:X.mg x=some u)(r:au v u)(hd:(x == ("__debug__" : Str))=false:=by decide):PE X (.Name x pos) (tC v) :=
 λ_ _ _ H _ I h=>mQ I hg hm ⟨v,H,I,r,h⟩ hd
variable {a b:Expr}{ta tb:TE}{pos:Pos}
noncomputable def PC(X:Cx)(op:CmpOp)(a b:Expr)(t:TE):Prop :=
 ∀(pins:List (Addr×Obj)) (s:Shared) (σ:St) (H:Hp) (Q:VK),Inv X pins σ H s->t σ H Q ->
  wpAny (model X.prog X.w) X.A (eval a X.env) (λv s₁=>wpAny (model X.prog X.w) X.A (eval b X.env) (λu s₂=>wpAny (model X.prog X.w) X.A (compareOp op v u) (EP X pins σ Q) X.xe s₂) X.xe s₁) X.xe s
theorem p7(b:Expr){op:CmpOp}(h:op≠.In)(h2:op≠.NotIn):behindInMarks op b=false:=by
 have e1:(op == CmpOp.In)=false:=by cases op<;>first|rfl|exact absurd rfl h
 have e2:(op == CmpOp.NotIn)=false:=by cases op<;>first|rfl|exact absurd rfl h2
 cases b<;>simp [behindInMarks,e1,e2]
noncomputable def xK(ta:TE):TE:=λσ H Q=>ta σ H λx H1=>Q (.bl (decide (x=.non))) H1
noncomputable def p8(ta:TE):TE:=λσ H Q=>ta σ H λx H1=>Q (.bl (!decide (x=.non))) H1
theorem au.y262{x:V}{v:Value}(r:au x v):(v == Value.none)=decide (x=.non):=by
 cases x with
 | non=>cases r;rfl
 | bl _=>cases r;rfl
 | int _=>obtain⟨t,rfl⟩:=r;rfl
 | str _=>obtain⟨t,rfl⟩:=r;rfl
 | byt _=>obtain⟨t,rfl⟩:=r;rfl
 | flt _=>obtain⟨t,rfl⟩:=r;rfl
 | ref _=>cases r;rfl
 | ty _=>cases r;rfl
theorem xM{j pos'}(ha:PE X a ta):PC X .Is a (.Constant .none j pos') (xK ta):=by
 intro pins s σ H Q I h
 refine aF (ha pins s σ H _ I h) λv s1 zz=>?_
 obtain⟨x,H1,I1,r1,q1⟩:=zz
 exact Constant_none (is_none_gen ⟨.bl _,H1,I1,by rw [r1.y262];rfl,q1⟩)
theorem xN{j pos'}(ha:PE X a ta):PC X .IsNot a (.Constant .none j pos') (p8 ta):=by
 intro pins s σ H Q I h
 refine aF (ha pins s σ H _ I h) λv s1 zz=>?_
 obtain⟨x,H1,I1,r1,q1⟩:=zz
 exact Constant_none (isnot_none_gen ⟨.bl _,H1,I1,by rw [r1.y262];rfl,q1⟩)
noncomputable def tB(t:TE):TT:=λσ H Q=>t σ H λx H1=>∃c,x=.bl c/\Q c H1
theorem xO{op:CmpOp}{t:TE}(h:PC X op a b t)(h1:behindInMarks op b=false:=by first|exact p7 _ (by decide) (by decide)|rfl):PE X (.Compare a [op] [b] pos) t:=λpins s σ H Q I hw=>wpAny_Compare1 (h pins s σ H Q I hw) h1
theorem p9{op:CmpOp}{t:TE}(h:PC X op a b t)(h1:behindInMarks op b=false:=by first|exact p7 _ (by decide) (by decide)|rfl):PT X (.Compare a [op] [b] pos) (tB t):=by
 intro pins s σ H Q I hw
 refine wpAny_isTrue_Compare1 (aF (h pins s σ H _ I hw) λv s1 h1=>aF h1 λu s2 h2=>aF h2 λc s3 ⟨x,H1,I1,r1,q1⟩=>?_) h1
 obtain⟨d,rfl,q⟩:=q1
 cases r1
 exact wpAny_truthy_bool ⟨H1,I1,q⟩
variable {tA tB':TT}{aS:List Expr}
noncomputable def qa(t u:TT):TT:=λσ H Q=>t σ H λc H1=>if c=true then u σ H1 Q else Q false H1
noncomputable def tOr(t u:TT):TT:=λσ H Q=>t σ H λc H1=>if c=true then Q true H1 else u σ H1 Q
noncomputable def qb(t:TT):TT:=λσ H Q=>t σ H λc H1=>Q (!c) H1
theorem j0(ha:PT X a tA):PW X (.BoolOp .And [a] pos) tA:=by
 intro wh pins s σ H Q I h
 refine isTrue_and (aF (ha pins s σ H Q I h) λc s1 e=>?_)
 cases c with
 | true=>exact isTrue_and_nil e
 | false=>exact e
theorem mR(ha:PT X a tA):PW X (.BoolOp .Or [a] pos) tA:=by
 intro wh pins s σ H Q I h
 refine isTrue_or (aF (ha pins s σ H Q I h) λc s1 e=>?_)
 cases c with
 | false=>exact isTrue_or_nil e
 | true=>exact e
theorem mS(ha:PT X a tA)(hb:PW X (.BoolOp .And (b::aS) pos) tB'):PW X (.BoolOp .And (a::b::aS) pos) (qa tA tB'):=by
 intro wh pins s σ H Q I h
 refine isTrue_and (aF (ha pins s σ H _ I h) λc s1 zz=>?_)
 obtain⟨H1,I1,q1⟩:=zz
 cases c with
 | true=>exact hb wh pins s1 σ H1 Q I1 q1
 | false=>exact⟨H1,I1,q1⟩
theorem qc(ha:PT X a tA)(hb:PW X (.BoolOp .Or (b::aS) pos) tB'):PW X (.BoolOp .Or (a::b::aS) pos) (tOr tA tB'):=by
 intro wh pins s σ H Q I h
 refine isTrue_or (aF (ha pins s σ H _ I h) λc s1 zz=>?_)
 obtain⟨H1,I1,q1⟩:=zz
 cases c with
 | true=>exact⟨H1,I1,q1⟩
 | false=>exact hb wh pins s1 σ H1 Q I1 q1
theorem xP(ha:PT X a tA):PT X (.UnaryOp .Not a pos) (qb tA):=by
 intro pins s σ H Q I h
 exact isTrue_not (ha pins s σ H (λc H1=>Q (!c) H1) I h)
noncomputable def xQ(ta tb:TE):TE:=λσ H Q=>ta σ H λx H1=>∃c,x=.bl c/\if c=true then Q (.bl true) H1 else tb σ H1 Q
theorem y2e5{op}{t:TE}(h:PE X a t):PE X (.BoolOp op [a] pos) t:=λpins s σ H Q I hw=>BoolOp_one (h pins s σ H Q I hw)
theorem mT(ha:PE X a ta)(hb:PE X (.BoolOp .Or (b::aS) pos) tb):PE X (.BoolOp .Or (a::b::aS) pos) (xQ ta tb):=by
 intro pins s σ H Q I h
 refine BoolOp_or (aF (ha pins s σ H _ I h) λv s1 zz=>?_)
 obtain⟨x,H1,I1,r1,q1⟩:=zz
 obtain⟨c,rfl,q1⟩:=q1
 cases r1
 refine wpAny_truthy_bool ?_
 cases c with
 | false=>exact hb pins s1 σ H1 Q I1 q1
 | true=>exact⟨.bl true,H1,I1,rfl,q1⟩
noncomputable def tIf(t:TT)(ta tb:TE):TE:=λσ H Q=>t σ H λc H1=>if c=true then ta σ H1 Q else tb σ H1 Q
theorem xR{c:Expr}(hc:PT X c tA)(ha:PE X a ta)(hb:PE X b tb):PE X (.IfExp c a b pos) (tIf tA ta tb):=by
 intro pins s σ H Q I h
 refine wpAny_IfExp (aF (hc pins s σ H _ I h) λd s1 zz=>?_)
 obtain⟨H1,I1,q1⟩:=zz
 cases d with
 | true=>exact ha pins s1 σ H1 Q I1 q1
 | false=>exact hb pins s1 σ H1 Q I1 q1
end
end
section
noncomputable def aP(K:W.Frag)(H:Hp)(a:Addr)(xs:List V):Prop :=
 Rd H a (.lst xs) ∨
  ∃(o:Obj) (its:Array Value) (n:Nat),K.lookup a=some o/\o.cls=.type "list"/\o.dict=none/\o.data=.seq its n/\its.size≤sizeLine/\ag xs its.toList
noncomputable def aO(K:W.Frag)(H:Hp)(a:Addr)(xs:List V):Prop :=
 Rd H a (.tup xs) ∨
  ∃(o:Obj) (its:Array Value) (n:Nat),K.lookup a=some o/\o.cls=.type "tuple"/\o.data=.seq its n/\its.size≤sizeLine/\ag xs its.toList
noncomputable def xS:Value->Option V
 | .none=>some .non
 | .bool b=>some (.bl b)
 | .int i _=>some (.int i)
 | .str x _=>some (.str x)
 | .bytes b _=>some (.byt b)
 | .float b _=>some (.flt b)
 | .ref a=>some (.ref a)
 | .type n=>some (.ty n)
 | _=>none
theorem au.abs{x:V}{u:Value}(r:au x u):xS u=some x:=by
 cases x with
 | non=>cases r;rfl
 | bl _=>cases r;rfl
 | int _=>obtain⟨t,rfl⟩:=r;rfl
 | str _=>obtain⟨t,rfl⟩:=r;rfl
 | byt _=>obtain⟨t,rfl⟩:=r;rfl
 | flt _=>obtain⟨t,rfl⟩:=r;rfl
 | ref _=>cases r;rfl
 | ty _=>cases r;rfl
theorem au.inj{x y:V}{u:Value}(r:au x u)(q:au y u):x=y:=z2a (r.abs.symm.trans q.abs)
theorem ag.inj:∀{xs ys:List V} {us:List Value},ag xs us->ag ys us->xs=ys
 | _,_,_,.nil,.nil=>rfl
 | _,_,_,.cons r t,.cons r' t'=>by rw [r.inj r',ag.inj t t']
section
variable {X:Cx}{pins:List (Addr×Obj)}{σ:St}{H:Hp}{s:Shared}{a:Addr}{xs ys:List V}
theorem aP.of{K:W.Frag}(h:H a=some (.lst xs)):aP K H a xs:=.inl (.inl h)
theorem aO.of{K:W.Frag}(h:H a=some (.tup xs)):aO K H a xs:=.inl (.inl h)
theorem Inv.list(I:Inv X pins σ H s)(h:aP X.K H a xs):∃its:List Value,ag xs its/\PlainL s.heap a its.toArray/\xs.length≤sizeLine:=by
 rcases h with h|⟨o,its,n,hk,hc,hd,hs,hz,r⟩
 ·obtain⟨z,its,n,r,e⟩:=h.ok I.hok
  exact⟨its,r,⟨_,n,e,rfl,rfl,rfl⟩,z⟩
 ·refine⟨its.toList,r,⟨o,n,I.kIn a o hk,hc,hd,by simpa using hs⟩,?_⟩
  have e:=r.length
  simp only [Array.length_toList] at e
  lia
theorem Inv.tuple(I:Inv X pins σ H s)(h:aO X.K H a xs):∃its:List Value,ag xs its/\IsTup s.heap a its.toArray/\xs.length≤sizeLine:=by
 rcases h with h|⟨o,its,n,hk,hc,hs,hz,r⟩
 ·obtain⟨z,its,r,p⟩:=h.ok I.hok
  exact⟨its,r,p.tup,z⟩
 ·refine⟨its.toList,r,⟨o,I.kIn a o hk,hc,n,by simpa using hs⟩,?_⟩
  have e:=r.length
  simp only [Array.length_toList] at e
  lia
theorem Inv.y208(I:Inv X pins σ H s)(h:aP X.K H a xs)(h':aP X.K H a ys):xs=ys:=by
 obtain⟨its,r,⟨o,n,e,_,_,d⟩,_⟩:=I.list h
 obtain⟨its',r',⟨o',n',e',_,_,d'⟩,_⟩:=I.list h'
 rw [e] at e';cases e'
 rw [d] at d'
 injection d' with d1 _
 have:its=its':=by simpa using congrArg Array.toList d1
 subst this
 exact r.inj r'
theorem Inv.y442(I:Inv X pins σ H s)(h:aO X.K H a xs)(h':aO X.K H a ys):xs=ys:=by
 obtain⟨its,r,⟨o,e,_,n,d⟩,_⟩:=I.tuple h
 obtain⟨its',r',⟨o',e',_,n',d'⟩,_⟩:=I.tuple h'
 rw [e] at e';cases e'
 rw [d] at d'
 injection d' with d1 _
 have:its=its':=by simpa using congrArg Array.toList d1
 subst this
 exact r.inj r'
end
noncomputable abbrev Cx.y4a7(X:Cx)(E:Value->Shared->Prop):Cx:={ X with xe:=E }
noncomputable abbrev Cx.nox(X:Cx):Cx:=X.y4a7 λ_ _=>False
theorem Cx.Ok.y4a7{X:Cx}(ok:X.Ok)(E:Value->Shared->Prop):(X.y4a7 E).Ok :=
 ⟨ok.mod,ok.kind,ok.glob,ok.blt,ok.above,ok.inj,ok.has,ok.cab,ok.hd,ok.frames,ok.stk,ok.exf,ok.bs,ok.bsz,ok.y25e,ok.exfs,ok.y159,ok.frf⟩
theorem Cx.Ok.y452{X:Cx}{E:Value->Shared->Prop}(ok:(X.y4a7 E).Ok):X.Ok :=
 ⟨ok.mod,ok.kind,ok.glob,ok.blt,ok.above,ok.inj,ok.has,ok.cab,ok.hd,ok.frames,ok.stk,ok.exf,ok.bs,ok.bsz,ok.y25e,ok.exfs,ok.y159,ok.frf⟩
section
variable {X:Cx}{pins:List (Addr×Obj)}{σ:St}{H:Hp}{s:Shared}{E:Value->Shared->Prop}
theorem Inv.y4a7(I:Inv X pins σ H s)(E:Value->Shared->Prop):Inv (X.y4a7 E) pins σ H s:=⟨I.ok.y4a7 E,I.os,I.bare,I.base,I.loc,I.cell,I.free,I.y155,I.pin,I.hok,I.len⟩
theorem Inv.y452(I:Inv (X.y4a7 E) pins σ H s):Inv X pins σ H s:=⟨I.ok.y452,I.os,I.bare,I.base,I.loc,I.cell,I.free,I.y155,I.pin,I.hok,I.len⟩
theorem SP.y452{D:Ends}{f:Flow}{s':Shared}(h:SP (X.y4a7 E) pins D f s'):SP X pins D f s':=by
 cases f with
 | next=>obtain⟨σ',H',I,q⟩:=h;exact⟨σ',H',I.y452,q⟩
 | brk=>obtain⟨σ',H',I,q⟩:=h;exact⟨σ',H',I.y452,q⟩
 | cont=>obtain⟨σ',H',I,q⟩:=h;exact⟨σ',H',I.y452,q⟩
 | ret u=>obtain⟨v,σ',H',I,r,q⟩:=h;exact⟨v,σ',H',I.y452,r,q⟩
theorem dY.nox{st:List Stmt}{t:TS}(h:dY X.nox st t):dY X st t:=λpins s σ H D I hw =>
 wpAny_mono (h pins s σ H D (I.y4a7 _) hw) (λ_ _ q=>q.y452) λ_ _ z=>False.elim z
end
section
variable {X:Cx}{st:Stmt}{aS:List Stmt}{t u:TS}{e:Expr}{te:TE}{pos:Pos}
noncomputable def qd:TS:=λD σ H=>D.nx σ H
noncomputable def qe(t u:TS):TS:=λD σ H=>t { D with nx:=u D } σ H
theorem xT:dY X [] qd:=λ_ _ σ H _ I h=>wpAny_execs_nil ⟨σ,H,I,h⟩
theorem xU(h1:PS X st t)(h2:dY X aS u):dY X (st::aS) (qe t u):=by
 intro pins s σ H D I h
 refine wpAny_execs_cons (aF (h1 pins s σ H { D with nx:=u D } I h) λf s1 q=>?_)
 cases f with
 | next =>
  obtain⟨σ',H',I',q⟩:=q
  exact h2 pins s1 σ' H' D I' q
 | ret v=>exact q
 | brk=>exact q
 | cont=>exact q
theorem xV(h1:PS X st t):dY X [st] t:=by
 intro pins s σ H D I h
 refine wpAny_execs_cons (aF (h1 pins s σ H D I h) λf s1 q=>?_)
 cases f with
 | next=>exact wpAny_execs_nil q
 | ret v=>exact q
 | brk=>exact q
 | cont=>exact q
theorem Inv.quiet{pins:List (Addr×Obj)}{σ:St}{H:Hp}{s:Shared}(I:Inv X pins σ H s):interactive X.env=false:=by simp [interactive,I.ok.kind]
noncomputable def qf(te:TE):TS:=λD σ H=>te σ H λ_ H1=>D.nx σ H1
theorem xW(he:PE X e te)(hs:swapsWith e none pos.line X.env=pure false:=by rfl):PS X (.Expr e pos) (qf te):=by
 intro pins s σ H D I h
 exact wpAny_Expr_any (aF (he pins s σ H _ I h) λv s1 ⟨x,H1,I1,r1,q1⟩=>⟨σ,H1,I1,q1⟩) I.quiet hs
noncomputable def qg(te:TE):TS:=λD σ H=>te σ H D.rt
theorem xX(he:PE X e te):PS X (.Return (some e) pos) (qg te):=by
 intro pins s σ H D I h
 exact wpAny_Return_some (aF (he pins s σ H _ I h) λv s1 ⟨x,H1,I1,r1,q1⟩=>⟨x,σ,H1,I1,r1,q1⟩)
noncomputable def qh(c:TT)(t u:TS):TS:=λD σ H=>c σ H λb H1=>if b=true then t D σ H1 else u D σ H1
theorem qi{c:Expr}{a b:List Stmt}{tc:TT}(hc:PT X c tc)(ha:dY X a t)(hb:dY X b u):PS X (.If c a b pos) (qh tc t u):=by
 intro pins s σ H D I h
 refine wpAny_If (aF (hc pins s σ H _ I h) λd s1 zz=>?_)
 obtain⟨H1,I1,q1⟩:=zz
 cases d with
 | true=>exact ha pins s1 σ H1 D I1 q1
 | false=>exact hb pins s1 σ H1 D I1 q1
end
noncomputable abbrev TG:=V->St->Hp->(St->Hp->Prop)->Prop
noncomputable abbrev mh:=List V->St->Hp->(St->Hp->Prop)->Prop
noncomputable def PG(X:Cx)(target:Expr)(t:TG):Prop :=
 ∀(pins:List (Addr×Obj)) (s:Shared) (σ:St) (H:Hp) (v:V) (u:Value) (Q:St->Hp->Prop),Inv X pins σ H s->au v u->t v σ H Q ->
  wpAny (model X.prog X.w) X.A (assign target X.env u) (λ_ s'=>∃σ' H',Inv X pins σ' H' s'/\Q σ' H') X.xe s
noncomputable def qj(X:Cx)(ts:List Expr)(t:mh):Prop :=
 ∀(pins:List (Addr×Obj)) (s:Shared) (σ:St) (H:Hp) (vs:List V) (us:List Value) (Q:St->Hp->Prop),Inv X pins σ H s->ag vs us->t vs σ H Q ->
  wpAny (model X.prog X.w) X.A (assignInOrder ((assignEach ts X.env).map (·.2)) us) (λ_ s'=>∃σ' H',Inv X pins σ' H' s'/\Q σ' H') X.xe s
noncomputable abbrev mU:=V->V->V->Hp->(Hp->Prop)->Prop
noncomputable def qk(X:Cx)(t:mU):Prop :=
 ∀(pins:List (Addr×Obj)) (s:Shared) (σ:St) (H:Hp) (o i v:V) (ov iv u:Value) (Q:Hp->Prop),Inv X pins σ H s->au o ov->au i iv->au v u->t o i v H Q ->
  wpAny (model X.prog X.w) X.A (setItem ov iv u) (λ_ s'=>∃H',Inv X pins σ H' s'/\Q H') X.xe s
section
variable {X:Cx}{pos:Pos}
noncomputable def gK(i:Nat):TG:=λv σ H Q=>Q (σ.set i (some v)) H
theorem mV{i:Nat}{x:Str}(hN:X.N.Nodup)(hi:X.N[i]?=some x)(hx:mO X.env.scope x)(hf:X.fn x=true∨X.env.scope.names.lookup x=some .local:=by first|exact .inl rfl|exact .inr rfl|assumption):PG X (.Name x pos) (gK i):=by
 intro pins s σ H v u Q I r h
 exact wpAny_assign_Name (pZ I hN hi hx r (λs' I'=>⟨_,H,I',h⟩) hf)
noncomputable def ql:mh:=λvs σ H Q=>vs=[]/\Q σ H
noncomputable def qm(t:TG)(u:mh):mh:=λvs σ H Q=>∃v r,vs=v::r/\t v σ H λσ' H'=>u r σ' H' Q
theorem qo:qj X [] ql:=by
 intro pins s σ H vs us Q I r h
 obtain⟨e,h⟩:=h
 subst e
 cases r
 exact assignInOrder_nil ⟨σ,H,I,h⟩
theorem mW{e:Expr}{es:List Expr}{t:TG}{u:mh}(h1:PG X e t)(h2:qj X es u)
  (hs:(assignEach (e::es) X.env).map (·.2)=assign e X.env::(assignEach es X.env).map (·.2):=by rfl):qj X (e::es) (qm t u):=by
 intro pins s σ H vs us Q I r h
 obtain⟨v,vr,e1,h⟩:=h
 subst e1
 cases r with
 | cons r rr =>
  rw [hs]
  refine assignInOrder_cons (aF (h1 pins s σ H _ _ _ I r h) λ_ s1 zz=>?_)
  obtain⟨σ1,H1,I1,q1⟩:=zz
  exact h2 pins s1 σ1 H1 _ _ Q I1 rr q1
noncomputable def j4(K:W.Frag)(n:Nat)(t:mh):TG:=λv σ H Q=>∃a xs,v=.ref a/\aO K H a xs/\xs.length=n/\t xs σ H Q
theorem qp{es:List Expr}{k:Nat}{t:mh}{n:Nat}(hc:X.calm=true)(h:qj X es t)
  (hn:(assignEach es X.env).length=n:=by rfl) (hst:(assignEach es X.env).findIdx? (·.1)=none:=by rfl):PG X (.Tuple es k pos) (j4 X.K n t):=by
 intro pins s σ H v u Q I r hw
 obtain⟨a,xs,e1,hq,hl,hw⟩:=hw
 subst e1
 cases r
 obtain⟨its,rv,ht,hz⟩:=I.tuple hq
 refine assign_Tuple_tuple (I.ok.hd hc) ht (by simp [hn,<- hl,rv.length]) hst λh' hx=>?_
 have I1:Inv X pins σ H { s with heap:=h' }:=I.kept (t':=s.toks) λb o e=>hx b o (z1f (z16 e)) e
 exact h pins _ σ H xs _ Q I1 (by simpa using rv) hw
noncomputable def qq(to ti:TE)(t:mU):TG:=λv σ H Q=>to σ H λo H1=>ti σ H1 λi H2=>t o i v H2 λH3=>Q σ H3
theorem xY{o i:Expr}{to ti:TE}{t:mU}(ho:PE X o to)(hi:PE X i ti)(hs:qk X t)
  (ha:∀v,assign (.Subscript o i pos) X.env v=(do
   let ov <- holding [v] (eval o X.env)
   let iv <- holding [v,ov] (eval i X.env)
   standAt pos
   holding [v,ov,iv] (setItem ov iv v)
   release [v,ov,iv] []):=by intro _;rfl):PG X (.Subscript o i pos) (qq to ti t):=by
 intro pins s σ H v u Q I r h
 rw [ha]
 refine zc (wpAny_holding (aF (ho pins s σ H _ I h) λov s1 zz=>?_))
 obtain⟨x,H1,I1,r1,q1⟩:=zz
 refine zc (wpAny_holding (aF (hi pins s1 σ H1 _ I1 q1) λiv s2 zz=>?_))
 obtain⟨y,H2,I2,r2,q2⟩:=zz
 refine zc (wpAny_standAt (zc (wpAny_holding (aF (hs pins s2 σ H2 x y v ov iv u _ I2 r1 r2 r q2) λ_ s3 zz=>?_))))
 obtain⟨H3,I3,q3⟩:=zz
 exact wpAny_release ⟨σ,H3,I3,q3⟩
noncomputable def j5(te:TE)(g:TG):TS:=λD σ H=>te σ H λx H1=>g x σ H1 D.nx
theorem qr{tg e:Expr}{te:TE}{g:TG}(he:PE X e te)(hg:PG X tg g)(hs:swapsWithSole [tg] e pos.line X.env=pure false:=by rfl)(hw:swappedStores [tg] e X.env=pure none:=by rfl)
  (h1:(assignEach [tg] X.env).map (·.2)=[assign tg X.env]:=by rfl):PS X (.Assign [tg] e pos) (j5 te g):=by
 intro pins s σ H D I h
 refine wpAny_Assign_stores (aF (he pins s σ H _ I h) λv s1 ⟨x,H1,I1,r1,q1⟩=>?_) hs hw
 rw [h1]
 exact aF (hg pins s1 σ H1 x v _ I1 r1 q1) λ_ s2 q=>q
theorem xZ{i:Nat}{x:Str}{e:Expr}{te:TE}{pos':Pos}(hN:X.N.Nodup)(hi:X.N[i]?=some x)(hx:mO X.env.scope x)(he:PE X e te)(hs:swapsWith e (some (.Name x pos')) pos.line X.env=pure false:=by rfl)(hf:X.fn x=true∨X.env.scope.names.lookup x=some .local:=by first|exact .inl rfl|exact .inr rfl|assumption) :
  PS X (.Assign [.Name x pos'] e pos) (j5 te (gK i)):=by
 intro pins s σ H D I h
 refine wpAny_Assign_Name (aF (he pins s σ H _ I h) λv s1 ⟨y,H1,I1,r1,q1⟩=>?_) hs
 exact pZ I1 hN hi hx r1 (λs2 I2=>⟨_,H1,I2,q1⟩) hf
end
section
variable {X:Cx}{pos:Pos}
noncomputable def qt(c:TT)(tb:TS):TS:=λD σ H=>∃W:Nat->St->Hp->Prop,(∃m,W m σ H)/\∀m σ H,W m σ H ->
 c σ H λb H1=>if b=true then ∃N:St->Hp->Prop,(∀σ' H',N σ' H'->∃m',m'<m/\W m' σ' H')/\tb { D with nx:=N,ct:=N,bk:=D.nx } σ H1 else D.nx σ H1
theorem x9{c:Expr}{body:List Stmt}{tc:TT}{tb:TS}(hp:PassesOwn (model X.prog X.w) X.A X.env X.xe)(hc:PT X c tc)(hb:dY X body tb):PS X (.While c body [] pos) (qt tc tb):=by
 intro pins s σ H D I h
 obtain⟨W,⟨m0,w0⟩,turn⟩:=h
 refine wpAny_While (codeAny_whileLoop (λn s'=>∃σ' H',Inv X pins σ' H' s'/\W n σ' H') ?_ m0 ⟨σ,H,I,w0⟩)
 rintro n s1 ⟨σ1,H1,I1,w1⟩
 refine wpAny_passesOwn hp (aF (hc pins s1 σ1 H1 _ I1 (turn n σ1 H1 w1)) λb s2 zz=>?_)
 obtain⟨H2,I2,q2⟩:=zz
 cases b with
 | true =>
  obtain⟨N,hN,q2⟩:=q2
  rw [if_pos rfl]
  refine wpAny_passesOwn hp (aF (hb pins s2 σ1 H2 _ I2 q2) λf s3 q3=>?_)
  cases f with
  | next =>
   obtain⟨σ3,H3,I3,n3⟩:=q3
   obtain⟨m',hm,w3⟩:=hN σ3 H3 n3
   exact⟨m',hm,σ3,H3,I3,w3⟩
  | cont =>
   obtain⟨σ3,H3,I3,n3⟩:=q3
   obtain⟨m',hm,w3⟩:=hN σ3 H3 n3
   exact⟨m',hm,σ3,H3,I3,w3⟩
  | brk=>exact q3
  | ret v=>exact q3
 | false =>
  rw [if_neg z18]
  exact wpAny_execs_nil ⟨σ1,H2,I2,q2⟩
end
structure It where
 go:Nat->Hp->Prop
 yld:Nat->Hp->V->Hp->Prop
 stop:Nat->Hp->Prop
noncomputable def fU(X:Cx)(pins:List (Addr×Obj))(H:Hp)(b:Addr):Prop :=
 H b=none/\b≠X.env.locals/\b∉X.fs/\(b∈X.ex∨X.s₀.heap.objs.size≤b)/\(∀x c,X.env.cells.lookup x=some c->c≠b)/\∀p∈X.pn++pins,p.1≠b
theorem Inv.y154{X:Cx}{pins:List (Addr×Obj)}{σ:St}{H H':Hp}{s:Shared}{b:Addr}(I:Inv X pins σ H s)(hb:s.heap.objs.size≤b)(hn:H' b=none):fU X pins H' b:=by
 refine⟨hn,Nat.ne_of_gt (z19 I.lt hb),I.nofs hb,.inr (z27 I.sz hb),λx c e z=>?_,λp hp z=>?_⟩
 ·obtain⟨v,q⟩:=I.cell x c e
  exact absurd (z19 q.lt (by rw [z];exact hb)) (z30 _)
 ·exact absurd (z19 (z16 (I.pin p hp).1) (by rw [z];exact hb)) (z30 _)
structure Turn(P:Program)(w:World)(K:W.Frag)(tg:Expr)(J:It)(fp:List Addr)(it:Addr)(tn:Nat->Heap->Prop):Prop where
 mem:it∈fp
 obj:∀i h,tn i h->∀b∈fp,∃o,h.get? b=some o/\∀v,o.data≠.cell v
 keep:∀i h h',tn i h->(∀b∈fp,∀o,h.get? b=some o->h'.get? b=some o)->tn i h'
 item:∀(X:Cx),X.prog=P->X.w=w->X.K=K->X.calm=true->∀(i:Nat) (pins:List (Addr×Obj)) (s:Shared) (σ:St) (H:Hp) (E:Value->Shared->Prop),Inv X pins σ H s->(∀b∈fp,fU X pins H b)->tn i s.heap->J.go i H ->
  wpAny (model P w) X.A (pyNext (.ref it)) (λr s1=>∃u,r=some u /\
   wpAny (model P w) X.A (letOwnedTupleGo tg (.ref it) u) (λ_ s2=>∃x H',Inv X pins σ H' s2/\au x u/\J.yld i H x H'/\tn (i+1) s2.heap/\∀b∈fp,H' b=none) E s1) E s
 done:∀(X:Cx),X.prog=P->X.w=w->X.K=K->X.calm=true->∀(i:Nat) (pins:List (Addr×Obj)) (s:Shared) (σ:St) (H:Hp) (E:Value->Shared->Prop),Inv X pins σ H s->(∀b∈fp,fU X pins H b)->tn i s.heap->J.stop i H ->
  wpAny (model P w) X.A (pyNext (.ref it)) (λr s1=>r=none/\Inv X pins σ H s1) E s
 self:∀(A:Around) (i:Nat) (s:Shared) (Q:Value->Shared->Prop) (E:Value->Shared->Prop),tn i s.heap->Q (.ref it) s->wpAny (model P w) A (pyIter (.ref it)) Q E s
noncomputable abbrev TI:=St->Hp->(It->Hp->Prop)->Prop
noncomputable def PIE(X:Cx)(pins:List (Addr×Obj))(σ:St)(tg:Expr)(R:It->Hp->Prop)(itv:Value)(s2:Shared):Prop :=
 ∃(it:Addr) (fp:List Addr) (tn:Nat->Heap->Prop) (J:It) (H':Hp),itv=.ref it/\Inv X pins σ H' s2/\Turn X.prog X.w X.K tg J fp it tn/\tn 0 s2.heap/\(∀b∈fp,fU X pins H' b)/\R J H'
noncomputable def PI(X:Cx)(tg iter:Expr)(wi:TI):Prop :=
 ∀(pins:List (Addr×Obj)) (s:Shared) (σ:St) (H:Hp) (R:It->Hp->Prop),Inv X pins σ H s->wi σ H R ->
  wpAny (model X.prog X.w) X.A (eval iter X.env) (λv s1=>wpAny (model X.prog X.w) X.A (pyIter v) (PIE X pins σ tg R) X.xe s1) X.xe s
theorem j6{M:Model}{A:Around}{E:Value->Shared->Prop}{s:Shared}{tg:Expr}{it:Addr}{u:Value}{o:Obj}{n:String}{vs:Array Value}{Q:Unit->Shared->Prop}(ho:s.heap.get? it=some o)(hc:o.cls=.type n)(hd:o.data=.fields vs)
  (hn:["enumerate","zip","dict_itemiterator","dict_reverseitemiterator","odict_iterator","itertools.zip_longest","itertools.pairwise"].contains n=false) (hQ:Q () s):wpAny M A (letOwnedTupleGo tg (.ref it) u) Q E s:=by
 unfold letOwnedTupleGo
 cases tg<;>first
  | exact zf hQ
  | (cases u<;>first
    | exact zf hQ
    | (refine zc (wpAny_load ho ?_);rw [hc,hd];show wpAny M A (if (["enumerate","zip","dict_itemiterator","dict_reverseitemiterator","odict_iterator","itertools.zip_longest","itertools.pairwise"].contains n&&vs[0]? == some (rawInt _))=true then _ else _) Q E s;rw [if_neg (by intro h;rw [hn,Bool.false_and] at h;cases h)];exact zf hQ))
noncomputable def wQ(K:W.Frag)(a:Addr):It :=
 ⟨λi H=>∃xs x,aP K H a xs/\xs[i]?=some x,λi H x H'=>H'=H/\∀xs,aP K H a xs->xs[i]?=some x,λi H=>∃xs,aP K H a xs/\xs.length≤i⟩
noncomputable def wR(K:W.Frag)(a:Addr):It :=
 ⟨λi H=>∃xs x,aO K H a xs/\xs[i]?=some x,λi H x H'=>H'=H/\∀xs,aO K H a xs->xs[i]?=some x,λi H=>∃xs,aO K H a xs/\xs.length≤i⟩
noncomputable def qu(lo:Int)(n:Nat):It:=⟨λi _=>i<n,λi H x H'=>H'=H/\x=.int (lo+i),λi _=>n≤i⟩
theorem yg{P:Program}{w:World}{K:W.Frag}{tg:Expr}(a it:Addr):Turn P w K tg (wQ K a) [it] it (λi h=>h.IsListIter it a i) where
 mem:=by simp
 obj:=λi h st b hb=>by
  have e:b=it:=by simpa using hb
  subst e
  obtain⟨o,e,c,d⟩:=st
  exact⟨o,e,λv z=>by rw [d] at z;cases z⟩
 keep:=λi h h' st k=>st.at λo e=>k it (by simp) o e
 item:=by
  intro X hP hw hK hc i pins s σ H E I hf st hg
  subst hP hw hK
  obtain⟨xs,x,hq,hx⟩:=hg
  obtain⟨its,rv,p,hz⟩:=I.list hq
  obtain⟨u,hu,ru⟩:=rv.get hx
  obtain⟨f0,f1,f2,f3,f4,f5⟩:=hf it (by simp)
  refine wpAny_pyNext_list_item st p.isList (x:=u) (by simpa using hu) λh' st' sb=>?_
  have I1:Inv X pins σ H { s with heap:=h' }:=I.turned (t':=s.toks) (λb o hb e=>(sb.2 b hb).trans e) f0 f1 f3 f4 f5
  obtain⟨o,e,c,d⟩:=id st'
  exact⟨u,rfl,j6 (s:={ s with heap:=h' }) e c d (by decide) ⟨x,H,I1,ru,⟨rfl,λys hy=>by rw [I.y208 hy hq];exact hx⟩,st',λb hb=>(hf b hb).1⟩⟩
 done:=by
  intro X hP hw hK hc i pins s σ H E I hf st hg
  subst hP hw hK
  obtain⟨xs,hq,hx⟩:=hg
  obtain⟨its,rv,p,hz⟩:=I.list hq
  obtain⟨f0,f1,f2,f3,f4,f5⟩:=hf it (by simp)
  have hl:=rv.length
  exact wpAny_pyNext_list_end (I.ok.hd hc) st p.isList (by simp;lia) λh' eb=>⟨rfl,I.turned (t':=s.toks) (λb o hb e=>eb b o hb e) f0 f1 f3 f4 f5⟩
 self:=λ_ _ _ _ _ st h=>wpAny_pyIter_listiter st h
theorem yh{P:Program}{w:World}{K:W.Frag}{tg:Expr}(a it:Addr):Turn P w K tg (wR K a) [it] it (λi h=>h.IsTupleIter it a i) where
 mem:=by simp
 obj:=λi h st b hb=>by
  have e:b=it:=by simpa using hb
  subst e
  obtain⟨o,e,c,d⟩:=st
  exact⟨o,e,λv z=>by rw [d] at z;cases z⟩
 keep:=λi h h' st k=>st.at λo e=>k it (by simp) o e
 item:=by
  intro X hP hw hK hc i pins s σ H E I hf st hg
  subst hP hw hK
  obtain⟨xs,x,hq,hx⟩:=hg
  obtain⟨its,rv,p,hz⟩:=I.tuple hq
  obtain⟨u,hu,ru⟩:=rv.get hx
  obtain⟨f0,f1,f2,f3,f4,f5⟩:=hf it (by simp)
  refine wpAny_pyNext_tuple_item st (show s.heap.IsTuple a its.toArray from p) (x:=u) (by simpa using hu) λh' st' sb=>?_
  have I1:Inv X pins σ H { s with heap:=h' }:=I.turned (t':=s.toks) (λb o hb e=>(sb.2 b hb).trans e) f0 f1 f3 f4 f5
  obtain⟨o,e,c,d⟩:=id st'
  exact⟨u,rfl,j6 (s:={ s with heap:=h' }) e c d (by decide) ⟨x,H,I1,ru,⟨rfl,λys hy=>by rw [I.y442 hy hq];exact hx⟩,st',λb hb=>(hf b hb).1⟩⟩
 done:=by
  intro X hP hw hK hc i pins s σ H E I hf st hg
  subst hP hw hK
  obtain⟨xs,hq,hx⟩:=hg
  obtain⟨its,rv,p,hz⟩:=I.tuple hq
  obtain⟨f0,f1,f2,f3,f4,f5⟩:=hf it (by simp)
  have hl:=rv.length
  exact wpAny_pyNext_tuple_end (I.ok.hd hc) st (show s.heap.IsTuple a its.toArray from p) (by simp;lia) λh' eb=>⟨rfl,I.turned (t':=s.toks) (λb o hb e=>eb b o hb e) f0 f1 f3 f4 f5⟩
 self:=λ_ _ _ _ _ st h=>wpAny_pyIter_tupleiter st h
theorem yi{P:Program}{w:World}{K:W.Frag}{tg:Expr}(it:Addr)(lo:Int)(n:Nat):Turn P w K tg (qu lo n) [it] it (λi h=>IsRangeIter h it (lo+(i:Nat)*1) ((n:Int)-(i:Nat)) 1) where
 mem:=by simp
 obj:=λi h st b hb=>by
  have e:b=it:=by simpa using hb
  subst e
  exact⟨_,st,λv z=>by
   have z':Data.fields _=Data.cell v:=z
   cases z'⟩
 keep:=λi h h' st k=>k it (by simp) _ st
 item:=by
  intro X hP hw hK hc i pins s σ H E I hf st hg
  subst hP hw hK
  obtain⟨f0,f1,f2,f3,f4,f5⟩:=hf it (by simp)
  have W:=Walks.range (prog:=X.prog) (w:=X.w) (I.ok.hd hc) it lo 1 n
  refine W.item i s _ _ hg st λv h' tk hv st' kk=>?_
  obtain⟨t,rfl⟩:=hv
  have I1:Inv X pins σ H { s with heap:=h',toks:=tk }:=I.turned (λb o hb e=>kk b o (by simpa using hb) e) f0 f1 f3 f4 f5
  refine⟨_,rfl,j6 (s:={ s with heap:=h',toks:=tk }) (n:="range_iterator") st' rfl rfl (by decide) ⟨.int (lo+i),H,I1,⟨t,?_⟩,⟨rfl,rfl⟩,st',λb hb=>(hf b hb).1⟩⟩
  rw [Int.mul_one]
 done:=by
  intro X hP hw hK hc i pins s σ H E I hf st hg
  subst hP hw hK
  obtain⟨f0,f1,f2,f3,f4,f5⟩:=hf it (by simp)
  exact wpAny_pyNext_range_end (I.ok.hd hc) st (by have:n≤i:=hg;lia) λh' eb=>⟨rfl,I.turned (t':=s.toks) (λb o hb e=>eb b o hb e) f0 f1 f3 f4 f5⟩
 self:=λ_ _ _ _ _ st h=>wpAny_pyIter_rangeiter st h
end
section
section
variable {X:Cx}{tg:Expr}
noncomputable def qv(K:W.Frag)(tl:TE):TI:=λσ H R=>tl σ H λx H1=>∃a,x=.ref a/\(∃xs,aP K H1 a xs)/\R (wQ K a) H1
noncomputable def qw(K:W.Frag)(tl:TE):TI:=λσ H R=>tl σ H λx H1=>∃a,x=.ref a/\(∃xs,aO K H1 a xs)/\R (wR K a) H1
theorem yj{l:Expr}{tl:TE}(hl:PE X l tl):PI X tg l (qv X.K tl):=by
 intro pins s σ H R I h
 refine aF (hl pins s σ H _ I h) λv s1 zz=>?_
 obtain⟨x,H1,I1,r1,q1⟩:=zz
 obtain⟨a,e,⟨xs,hq⟩,q⟩:=q1
 subst e
 cases r1
 obtain⟨its,rv,p,hz⟩:=I1.list hq
 refine wpAny_pyIter_list p.isList ?_
 refine⟨s1.heap.objs.size,[s1.heap.objs.size],_,_,H1,rfl,I1.kept (t':=s1.toks) λb o e=>ze _ e,yg a _,⟨_,z1c _ rfl,rfl,rfl⟩,λb hb=>?_,q⟩
 have e:b=s1.heap.objs.size:=by simpa using hb
 subst e
 exact I1.y154 (z12 _) (I1.hok.fresh (z12 _))
theorem yk{l:Expr}{tl:TE}(hl:PE X l tl):PI X tg l (qw X.K tl):=by
 intro pins s σ H R I h
 refine aF (hl pins s σ H _ I h) λv s1 zz=>?_
 obtain⟨x,H1,I1,r1,q1⟩:=zz
 obtain⟨a,e,⟨xs,hq⟩,q⟩:=q1
 subst e
 cases r1
 obtain⟨its,rv,p,hz⟩:=I1.tuple hq
 refine wpAny_pyIter_tuple (show s1.heap.IsTuple a its.toArray from p) ?_
 refine⟨s1.heap.objs.size,[s1.heap.objs.size],_,_,H1,rfl,I1.kept (t':=s1.toks) λb o e=>ze _ e,yh a _,⟨_,z1c _ rfl,rfl,rfl⟩,λb hb=>?_,q⟩
 have e:b=s1.heap.objs.size:=by simpa using hb
 subst e
 exact I1.y154 (z12 _) (I1.hok.fresh (z12 _))
theorem ym{pins:List (Addr×Obj)}{σ:St}{H:Hp}{s:Shared}{R:It->Hp->Prop}{E:Value->Shared->Prop}{lo hi:Int}{t u v:Tok}{tk:Nat}(I:Inv X pins σ H s)(h1:-(2 ^ 62)≤lo)(h2:lo<2 ^ 62)(h3:-(2 ^ 62)≤hi)(h4:hi<2 ^ 62)
  (q:R (qu lo (hi-lo).toNat) H):wpAny (model X.prog X.w) X.A (pyIter (.ref s.heap.objs.size)) (PIE X pins σ tg R) E { s with heap:=s.heap.push { cls:=.type "range",data:=.fields #[.int lo t,.int hi u,.int 1 v] },toks:=tk }:=by
 refine wpAny_pyIter_range (IsRange.new ..) (small_one h1 h2 h3 h4) ?_
 have I1:Inv X pins σ H { s with heap:=s.heap.push { cls:=.type "range",data:=.fields #[.int lo t,.int hi u,.int 1 v] },toks:=tk }:=I.kept λb o e=>ze _ e
 refine⟨(s.heap.push { cls:=.type "range",data:=.fields #[.int lo t,.int hi u,.int 1 v] }).objs.size,[(s.heap.push { cls:=.type "range",data:=.fields #[.int lo t,.int hi u,.int 1 v] }).objs.size],_,_,H,rfl,
  I1.kept (t':=tk) λb o e=>ze _ e,yi _ lo (hi-lo).toNat,?_,λb hb=>?_,q⟩
 ·have e1:lo+((0:Nat):Int)*1=lo:=by simp
  have e2:(((hi-lo).toNat:Nat):Int)-((0:Nat):Int)=Builtin.Range.rangeSize lo hi 1:=by rw [rangeSize_one];split<;>lia
  show IsRangeIter _ _ (lo+((0:Nat):Int)*1) ((((hi-lo).toNat:Nat):Int)-((0:Nat):Int)) 1
  rw [e1,e2]
  exact z1c _ rfl
 ·have e:b=(s.heap.push { cls:=.type "range",data:=.fields #[.int lo t,.int hi u,.int 1 v] }).objs.size:=by simpa using hb
  subst e
  exact I1.y154 (z12 _) (I1.hok.fresh (z12 _))
noncomputable def qx(ta:TA):TI:=λσ H R=>ta σ H λvs H1=>∃j:Int,vs=[.int j]/\-(2 ^ 62)≤j/\j<2 ^ 62/\R (qu 0 j.toNat) H1
theorem yn{a:Expr}{ta:TA}{p pos:Pos}(hg:Gl X "range")(hm:X.mg "range" = none)(ha:PA X [a] ta)(hs:starEach [a] X.env=[(false,eval a X.env)]:=by rfl):PI X tg (.Call (.Name "range" p) [a] [] pos) (qx ta):=by
 intro pins s σ H R I h
 refine Call_ (dG I hg hm boot_range (PyProof.Rows.callWith_type1 (aF (ha pos pins s σ H _ I h) λus s1 ⟨vs,H1,I1,r1,q1⟩=>?_) hs rfl))
 obtain⟨j,e,q1,q2,q⟩:=q1
 subst e
 cases r1 with
 | cons r rr =>
  cases rr
  obtain⟨t,rfl⟩:=r
  exact call_range_1 (ym I1 (by lia) (by lia) q1 q2 (by simpa using q))
noncomputable def mX(wi:TI)(g:TG)(tb:TS):TS:=λD σ H=>wi σ H λJ H1=>∃W:Nat->Nat->St->Hp->Prop,(∃m,W 0 m σ H1)/\∀i m σ H,W i m σ H ->
 (J.stop i H/\D.nx σ H)∨(J.go i H/\∃N:St->Hp->Prop,(∀σ' H',N σ' H'->∃m',m'<m/\W (i+1) m' σ' H')/\∀x H',J.yld i H x H'->g x σ H' λσ2 H2=>tb { D with nx:=N,ct:=N,bk:=D.nx } σ2 H2)
noncomputable def iX(fp:List Addr)(h:Heap):List (Addr×Obj):=fp.filterMap λb=>(h.get? b).map λo=>(b,o)
theorem j7{fp:List Addr}{h:Heap}{b:Addr}{o:Obj}(hb:b∈fp)(e:h.get? b=some o):(b,o)∈iX fp h:=List.mem_filterMap.mpr ⟨b,hb,by rw [e];rfl⟩
theorem yo{fp:List Addr}{h:Heap}{p:Addr×Obj}(hp:p∈iX fp h):p.1∈fp/\h.get? p.1=some p.2:=by
 obtain⟨b,hb,e⟩:=List.mem_filterMap.mp hp
 cases q:h.get? b with
 | none=>rw [q] at e;cases e
 | some o =>
  rw [q] at e
  have e':(b,o)=p:=z2a e
  subst e'
  exact⟨hb,q⟩
theorem Inv.pinned{pins:List (Addr×Obj)}{σ:St}{H:Hp}{s:Shared}{fp:List Addr}(I:Inv X pins σ H s)(hf:∀b∈fp,fU X pins H b)(ho:∀b∈fp,∃o,s.heap.get? b=some o/\∀v,o.data≠.cell v):Inv X (pins++iX fp s.heap) σ H s :=
 I.y30a λp hp=>(z1d.mp hp).elim (λz=>I.pin p (z20 _ z)) λz=>by
  obtain⟨hb,e⟩:=yo z
  obtain⟨f0,f1,f2,_⟩:=hf p.1 hb
  obtain⟨o,e',d⟩:=ho p.1 hb
  rw [e] at e';cases e'
  exact⟨e,f0,f1,f2,d⟩
theorem Inv.y451{pins pl:List (Addr×Obj)}{σ:St}{H:Hp}{s:Shared}(I:Inv X (pins++pl) σ H s):Inv X pins σ H s:=I.y30a λp hp=>I.pin p (z20 _ (List.mem_append_left _ hp))
theorem qy{iter:Expr}{body:List Stmt}{wi:TI}{g:TG}{tb:TS}{pos:Pos}(hp:PassesOwn (model X.prog X.w) X.A X.env X.xe)(hc:X.calm=true)(hi:PI X tg iter wi)(hg:PG X tg g)(hb:dY X body tb)
  (hs:∀x,foldedSetIterable iter X.env x=pure x:=by intro _;rfl):PS X (.For tg iter body [] pos) (mX wi g tb):=by
 intro pins s σ H D I h
 refine wpAny_For (aF (hi pins s σ H _ I h) λv s1 h1=>aF h1 λitv s2 h2=>?_) hs
 obtain⟨it,fp,tn,J,H2,e,I2,T,st2,f2,W,⟨m0,w0⟩,turn⟩:=h2
 subst e
 have stat:∀{H':Hp},(∀b∈fp,H' b=none)->∀b∈fp,fU X pins H' b:=λhn b hb=>⟨hn b hb,(f2 b hb).2⟩
 refine codeAny_forLoop_any (λn s'=>∃i σ' H',Inv X pins σ' H' s'/\tn i s'.heap/\(∀b∈fp,H' b=none)/\W i n σ' H') ?_ m0 ⟨0,σ,H2,I2,st2,λb hb=>(f2 b hb).1,w0⟩
 rintro n s3 ⟨i,σ3,H3,I3,st3,fr3,w3⟩
 rcases turn i n σ3 H3 w3 with⟨stop,qn⟩| ⟨go,N,hN,step⟩
 ·refine wpAny_passesOwn hp (aF (T.done X rfl rfl rfl hc i pins s3 σ3 H3 X.xe I3 (stat fr3) st3 stop) λr s4 zz=>?_)
  obtain⟨hr,I4⟩:=zz
  subst hr
  exact wpAny_execs_nil ⟨σ3,H3,I4,qn⟩
 ·refine wpAny_passesOwn hp (aF (T.item X rfl rfl rfl hc i pins s3 σ3 H3 X.xe I3 (stat fr3) st3 go) λr s4 zz=>?_)
  obtain⟨u,hr,h4⟩:=zz
  subst hr
  refine wpAny_passesOwn hp (aF h4 λ_ s5 zz=>?_)
  obtain⟨x,H5,I5,r5,y5,st5,fr5⟩:=zz
  have I5':=I5.pinned (stat fr5) (T.obj _ _ st5)
  refine wpAny_passesOwn hp (aF (hg _ s5 σ3 H5 x u _ I5' r5 (step x H5 y5)) λ_ s6 zz=>?_)
  obtain⟨σ6,H6,I6,q6⟩:=zz
  refine wpAny_passesOwn hp (aF (hb _ s6 σ6 H6 _ I6 q6) λf s7 q7=>?_)
  have again:∀{σ7:St} {H7:Hp},Inv X (pins++iX fp s5.heap) σ7 H7 s7->N σ7 H7->∃m,m<n/\∃i σ' H',Inv X pins σ' H' s7/\tn i s7.heap/\(∀b∈fp,H' b=none)/\W i m σ' H':=λ{σ7 H7} I7 n7=>by
   obtain⟨m',hm,w7⟩:=hN σ7 H7 n7
   refine⟨m',hm,i+1,σ7,H7,I7.y451,T.keep _ _ _ st5 λb hb o e=>(I7.pin (b,o) (z20 _ (z20 _ (j7 hb e)))).1,λb hb=>?_,w7⟩
   obtain⟨o,e,d⟩:=T.obj _ _ st5 b hb
   exact (I7.pin (b,o) (z20 _ (z20 _ (j7 hb e)))).2.1
  cases f with
  | next=>obtain⟨σ7,H7,I7,n7⟩:=q7;exact again I7 n7
  | cont=>obtain⟨σ7,H7,I7,n7⟩:=q7;exact again I7 n7
  | brk=>obtain⟨σ7,H7,I7,q7⟩:=q7;exact⟨σ7,H7,I7.y451,q7⟩
  | ret v=>obtain⟨x7,σ7,H7,I7,r7,q7⟩:=q7;exact⟨x7,σ7,H7,I7.y451,r7,q7⟩
end
end
section
noncomputable abbrev R2:=V->V->Hp->VK->Prop
noncomputable def bw(X:Cx)(f:Value->Value->Sem Value)(r:R2):Prop :=
 ∀(pins:List (Addr×Obj)) (s:Shared) (σ:St) (H:Hp) (x y:V) (v u:Value) (Q:VK),Inv X pins σ H s->au x v->au y u->r x y H Q ->
  wpAny (model X.prog X.w) X.A (f v u) (EP X pins σ Q) X.xe s
noncomputable def wU(X:Cx)(f:Value->Sem Value)(r:V->Hp->VK->Prop):Prop :=
 ∀(pins:List (Addr×Obj)) (s:Shared) (σ:St) (H:Hp) (x:V) (v:Value) (Q:VK),Inv X pins σ H s->au x v->r x H Q ->
  wpAny (model X.prog X.w) X.A (f v) (EP X pins σ Q) X.xe s
noncomputable def y9(X:Cx)(f:Value)(r:List V->Hp->VK->Prop):Prop :=
 ∀(pins:List (Addr×Obj)) (s:Shared) (σ:St) (H:Hp) (xs:List V) (us:List Value) (Q:VK),Inv X pins σ H s->ag xs us->r xs H Q ->
  wpAny (model X.prog X.w) X.A (call f us) (EP X pins σ Q) X.xe s
noncomputable def yp(X:Cx)(r:V->Hp->(Bool->Hp->Prop)->Prop):Prop :=
 ∀(pins:List (Addr×Obj)) (s:Shared) (σ:St) (H:Hp) (x:V) (v:Value) (Q:Bool->Hp->Prop),Inv X pins σ H s->au x v->r x H Q ->
  wpAny (model X.prog X.w) X.A (truthy v) (TP X pins σ Q) X.xe s
noncomputable def mi(r:R2)(ta tb:TE):TE:=λσ H Q=>ta σ H λx H1=>tb σ H1 λy H2=>r x y H2 Q
noncomputable def tUn(r:V->Hp->VK->Prop)(ta:TE):TE:=λσ H Q=>ta σ H λx H1=>r x H1 Q
noncomputable def rI(C:Int->Int->Prop)(g:Int->Int->V):R2:=λx y H Q=>∃i j,x=.int i/\y=.int j/\C i j/\Q (g i j) H
noncomputable def dZ(g:Int->Int->V):R2:=λx y H Q=>∃i j,x=.int i/\y=.int j/\Q (g i j) H
noncomputable def rU(g:Int->V):V->Hp->VK->Prop:=λx H Q=>∃i,x=.int i/\Q (g i) H
section
variable {X:Cx}{a b c:Expr}{ta tb tc:TE}{pos:Pos}
theorem mY(ha:PE X a ta)(hb:PE X b tb){pins:List (Addr×Obj)}{s:Shared}{σ:St}{H:Hp}{R:V->V->Hp->Prop}(I:Inv X pins σ H s)
  (h:ta σ H λx H1=>tb σ H1 λy H2=>R x y H2) {Q:Value->Shared->Prop} {f:Value->Value->Sem Value}
  (hf:∀v u s2 x y H2,Inv X pins σ H2 s2->au x v->au y u->R x y H2->wpAny (model X.prog X.w) X.A (f v u) Q X.xe s2) :
  wpAny (model X.prog X.w) X.A (eval a X.env) (λv s₁=>wpAny (model X.prog X.w) X.A (eval b X.env) (λu s₂=>wpAny (model X.prog X.w) X.A (f v u) Q X.xe s₂) X.xe s₁) X.xe s:=by
 refine aF (ha pins s σ H _ I h) λv s1 zz=>?_
 obtain⟨x,H1,I1,r1,q1⟩:=zz
 refine aF (hb pins s1 σ H1 _ I1 q1) λu s2 zz=>?_
 obtain⟨y,H2,I2,r2,q2⟩:=zz
 exact hf v u s2 x y H2 I2 r1 r2 q2
theorem qz{op:Operator}{r:R2}(ho:bw X (binaryOp op) r)(ha:PE X a ta)(hb:PE X b tb):PE X (.BinOp a op b pos) (mi r ta tb):=by
 intro pins s σ H Q I h
 exact wpAny_BinOp (mY ha hb I h λv u s2 x y H2 I2 rx ry q=>ho pins s2 σ H2 x y v u Q I2 rx ry q)
theorem mZ{op:UnaryOp}{r:V->Hp->VK->Prop}(ho:wU X (unaryOp op) r)(ha:PE X a ta):PE X (.UnaryOp op a pos) (tUn r ta):=by
 intro pins s σ H Q I h
 exact UnaryOp_ (aF (ha pins s σ H _ I h) λv s1 ⟨x,H1,I1,r1,q1⟩=>ho pins s1 σ H1 x v Q I1 r1 q1)
theorem m9{f:Value->Value->Sem Value}{C:Int->Int->Prop}{g:Int->Int->Int}
  (rule:∀(i j:Int) (t u:Tok) (s:Shared) (Q:Value->Shared->Prop) (E:Value->Shared->Prop),C i j->Q (.int (g i j) s.toks) { s with toks:=s.toks+1 }->wpAny (model X.prog X.w) X.A (f (.int i t) (.int j u)) Q E s) :
  bw X f (rI C λi j=>.int (g i j)):=by
 intro pins s σ H x y v u Q I rx ry h
 obtain⟨i,j,rfl,rfl,hc,q⟩:=h
 obtain⟨t,rfl⟩:=rx
 obtain⟨t',rfl⟩:=ry
 exact rule i j t t' s _ _ hc ⟨.int (g i j),H,I.tok _,⟨_,rfl⟩,q⟩
theorem j8{f:Value->Value->Sem Value}{g:Int->Int->Int}
  (rule:∀(i j:Int) (t u:Tok) (s:Shared) (Q:Value->Shared->Prop) (E:Value->Shared->Prop),Q (.int (g i j) s.toks) { s with toks:=s.toks+1 }->wpAny (model X.prog X.w) X.A (f (.int i t) (.int j u)) Q E s) :
  bw X f (dZ λi j=>.int (g i j)):=by
 intro pins s σ H x y v u Q I rx ry h
 obtain⟨i,j,rfl,rfl,q⟩:=h
 obtain⟨t,rfl⟩:=rx
 obtain⟨t',rfl⟩:=ry
 exact rule i j t t' s _ _ ⟨.int (g i j),H,I.tok _,⟨_,rfl⟩,q⟩
theorem j9{f:Value->Value->Sem Value}{g:Int->Int->Bool}
  (rule:∀(i j:Int) (t u:Tok) (s:Shared) (Q:Value->Shared->Prop) (E:Value->Shared->Prop),Q (.bool (g i j)) s->wpAny (model X.prog X.w) X.A (f (.int i t) (.int j u)) Q E s) :
  bw X f (dZ λi j=>.bl (g i j)):=by
 intro pins s σ H x y v u Q I rx ry h
 obtain⟨i,j,rfl,rfl,q⟩:=h
 obtain⟨t,rfl⟩:=rx
 obtain⟨t',rfl⟩:=ry
 exact rule i j t t' s _ _ ⟨.bl (g i j),H,I,rfl,q⟩
noncomputable def yq(i j:Int):Prop:=0<j/\j<1073741824
noncomputable def y8(i j:Int):Prop:=0≤j/\j≤1000000/\i.natAbs<2 ^ 64
noncomputable def y6(i j:Int):Prop:=(-(2 ^ 64)<i/\i<2 ^ 64)∨(-(2 ^ 64)<j/\j<2 ^ 64)
theorem y6.ok{i j:Int}(h:y6 i j):IntMulOk i j:=by
 rcases h with⟨h1,h2⟩| ⟨h1,h2⟩
 ·exact .of_left (intBits_le_64 h1 h2)
 ·exact .of_right (intBits_le_64 h1 h2)
theorem yr(k:Nat):(0:Int)≤2 ^ k:=by
 rw [two_pow_cast]
 exact Int.natCast_nonneg _
theorem yt:bw X (binaryOp .Add) (dZ λi j=>.int (i+j)):=j8 λ_ _ _ _ _ _ _ q=>add_int q
theorem yu:bw X (binaryOp .Sub) (dZ λi j=>.int (i-j)):=j8 λ_ _ _ _ _ _ _ q=>sub_int q
theorem yw:bw X (binaryOp .Mult) (rI y6 λi j=>.int (i*j)):=m9 λ_ _ _ _ _ _ _ hc q=>mul_int q hc.ok
theorem wV:bw X (binaryOp .FloorDiv) (rI yq λi j=>.int (i / j)):=m9 λi j _ _ _ _ _ hc q=>by
 have h1:(0:Int)<j:=hc.1
 have h2:j<1073741824:=hc.2
 exact floordiv_int (by lia) (by rw [Int.fdiv_eq_ediv_of_nonneg i (by lia)];exact q) (.inl (PyProof.noPylong_small (by lia)))
theorem yx:bw X (binaryOp .Mod) (rI (λ_ j=>0<j) λi j=>.int (i % j)):=m9 λi j _ _ _ _ _ hc q=>by
 have h1:(0:Int)<j:=hc
 exact mod_int' (by lia) (by rw [Int.fmod_eq_emod_of_nonneg i (by lia)];exact q)
theorem yy:bw X (binaryOp .Pow) (rI y8 λi j=>.int (i ^ j.toNat)):=m9 λ_ _ _ _ _ _ _ hc q=>pow_int_small hc.1 hc.2.1 hc.2.2 q
theorem yz:bw X (binaryOp .LShift) (rI y8 λi j=>.int (i*2 ^ j.toNat)):=m9 λ_ _ _ _ _ _ _ hc q=>lshift_int_small hc.1 hc.2.1 hc.2.2 q
theorem yA:bw X (binaryOp .RShift) (rI (λ_ j=>0≤j) λi j=>.int (i / 2 ^ j.toNat)):=m9 λi j _ _ _ _ _ hc q =>
 rshift_int hc (by rw [Int.fdiv_eq_ediv_of_nonneg i (yr _)];exact q)
theorem yB:bw X (binaryOp .BitAnd) (dZ λi j=>.int (Builtin.bitAnd i j)):=j8 λ_ _ _ _ _ _ _ q=>and_int q
theorem yC:bw X (binaryOp .BitXor) (dZ λi j=>.int (Builtin.bitXor i j)):=j8 λ_ _ _ _ _ _ _ q=>xor_int q
theorem unI{f:Value->Sem Value}{g:Int->Int}
  (rule:∀(i:Int) (t:Tok) (s:Shared) (Q:Value->Shared->Prop) (E:Value->Shared->Prop),Q (.int (g i) s.toks) { s with toks:=s.toks+1 }->wpAny (model X.prog X.w) X.A (f (.int i t)) Q E s) :
  wU X f (rU λi=>.int (g i)):=by
 intro pins s σ H x v Q I rx h
 obtain⟨i,rfl,q⟩:=h
 obtain⟨t,rfl⟩:=rx
 exact rule i t s _ _ ⟨.int (g i),H,I.tok _,⟨_,rfl⟩,q⟩
theorem nc:wU X (unaryOp .USub) (rU λi=>.int (-i)):=unI λ_ _ _ _ _ q=>neg_int q
end
noncomputable def gL:V->V->Bool
 | .non,.non=>true | .non,.int _=>true | .int _,.non=>true | .non,.bl _=>true | .bl _,.non=>true | .non,.str _=>true | .str _,.non=>true
 | .int _,.int _=>true | .bl _,.bl _=>true | .str _,.str _=>true | .byt _,.byt _=>true
 | .int _,.str _=>true | .str _,.int _=>true | .bl _,.str _=>true | .str _,.bl _=>true
 | _,_=>false
noncomputable def rEq:R2:=λx y H Q=>gL x y=true/\Q (.bl (decide (x=y))) H
noncomputable def rNe:R2:=λx y H Q=>gL x y=true/\Q (.bl (!decide (x=y))) H
theorem yd8{i j:Int}:decide (V.int i=V.int j)=(i == j):=by
 rw [Bool.eq_iff_iff]
 simp
theorem yd6{i j:Bool}:decide (V.bl i=V.bl j)=(i == j):=by
 rw [Bool.eq_iff_iff]
 simp
theorem yd9{i j:Str}:decide (V.str i=V.str j)=(i == j):=by
 rw [Bool.eq_iff_iff]
 simp
theorem yd7{i j:Array UInt8}:decide (V.byt i=V.byt j)=(i.toList == j.toList):=by
 rw [Bool.eq_iff_iff]
 cases i
 cases j
 simp
section
variable {X:Cx}{a b c:Expr}{ta tb tc:TE}{pos:Pos}
theorem aW{pins:List (Addr×Obj)}{σ:St}{H:Hp}{s:Shared}{Q:VK}{k k':Bool}(I:Inv X pins σ H s)(q:Q (.bl k) H)(e:k=k'):EP X pins σ Q (.bool k') s:=by
 subst e
 exact⟨.bl k,H,I,rfl,q⟩
theorem qA:bw X (compareOp .Eq) rEq:=by
 intro pins s σ H x y v u Q I rx ry h
 obtain⟨hs,q⟩:=h
 cases x with
 | non =>
  cases rx
  cases y with
  | non=>cases ry;exact PySem.EqNone.eq_none_none (aW I q (by simp))
  | bl j=>cases ry;exact PySem.EqNone.eq_none_bool (aW I q (by simp))
  | int j=>obtain⟨t',rfl⟩:=ry;exact PySem.EqNone.eq_none_int (aW I q (by simp))
  | str j=>obtain⟨t',rfl⟩:=ry;exact PySem.EqNone.eq_none_str (aW I q (by simp))
  | _=>exact absurd (show false=true from hs) z18
 | bl i =>
  cases rx
  cases y with
  | non=>cases ry;exact PySem.EqNone.eq_bool_none (aW I q (by simp))
  | bl j=>cases ry;exact eq_bool (aW I q yd6)
  | str j=>obtain⟨t',rfl⟩:=ry;exact PySem.EqMixed.eq_bool_str (aW I q (by simp))
  | _=>exact absurd (show false=true from hs) z18
 | int i =>
  obtain⟨t,rfl⟩:=rx
  cases y with
  | non=>cases ry;exact PySem.EqNone.eq_int_none (aW I q (by simp))
  | int j=>obtain⟨t',rfl⟩:=ry;exact eq_int (aW I q yd8)
  | str j=>obtain⟨t',rfl⟩:=ry;exact PySem.EqMixed.eq_int_str (aW I q (by simp))
  | _=>exact absurd (show false=true from hs) z18
 | str i =>
  obtain⟨t,rfl⟩:=rx
  cases y with
  | non=>cases ry;exact PySem.EqNone.eq_str_none (aW I q (by simp))
  | bl j=>cases ry;exact PySem.EqMixed.eq_str_bool (aW I q (by simp))
  | int j=>obtain⟨t',rfl⟩:=ry;exact PySem.EqMixed.eq_str_int (aW I q (by simp))
  | str j=>obtain⟨t',rfl⟩:=ry;exact eq_str (aW I q yd9)
  | _=>exact absurd (show false=true from hs) z18
 | byt i =>
  obtain⟨t,rfl⟩:=rx
  cases y with
  | byt j=>obtain⟨t',rfl⟩:=ry;exact W.eq_bytes (aW I q yd7)
  | _=>exact absurd (show false=true from hs) z18
 | _=>cases y<;>exact absurd (show false=true from hs) z18
theorem qB:bw X (compareOp .NotEq) rNe:=by
 intro pins s σ H x y v u Q I rx ry h
 obtain⟨hs,q⟩:=h
 cases x with
 | non =>
  cases rx
  cases y with
  | non=>cases ry;exact PySem.EqNone.ne_none_none (aW I q (by simp))
  | bl j=>cases ry;exact PySem.EqNone.ne_none_bool (aW I q (by simp))
  | int j=>obtain⟨t',rfl⟩:=ry;exact PySem.EqNone.ne_none_int (aW I q (by simp))
  | str j=>obtain⟨t',rfl⟩:=ry;exact PySem.EqNone.ne_none_str (aW I q (by simp))
  | _=>exact absurd (show false=true from hs) z18
 | bl i =>
  cases rx
  cases y with
  | non=>cases ry;exact PySem.EqNone.ne_bool_none (aW I q (by simp))
  | bl j=>cases ry;exact ne_bool (aW I q (congrArg not yd6))
  | str j=>obtain⟨t',rfl⟩:=ry;exact PySem.EqMixed.ne_bool_str (aW I q (by simp))
  | _=>exact absurd (show false=true from hs) z18
 | int i =>
  obtain⟨t,rfl⟩:=rx
  cases y with
  | non=>cases ry;exact PySem.EqNone.ne_int_none (aW I q (by simp))
  | int j=>obtain⟨t',rfl⟩:=ry;exact ne_int (aW I q (congrArg not yd8))
  | str j=>obtain⟨t',rfl⟩:=ry;exact PySem.EqMixed.ne_int_str (aW I q (by simp))
  | _=>exact absurd (show false=true from hs) z18
 | str i =>
  obtain⟨t,rfl⟩:=rx
  cases y with
  | non=>cases ry;exact PySem.EqNone.ne_str_none (aW I q (by simp))
  | bl j=>cases ry;exact PySem.EqMixed.ne_str_bool (aW I q (by simp))
  | int j=>obtain⟨t',rfl⟩:=ry;exact PySem.EqMixed.ne_str_int (aW I q (by simp))
  | str j=>obtain⟨t',rfl⟩:=ry;exact ne_str (aW I q (congrArg not yd9))
  | _=>exact absurd (show false=true from hs) z18
 | byt i =>
  obtain⟨t,rfl⟩:=rx
  cases y with
  | byt j=>obtain⟨t',rfl⟩:=ry;exact W.ne_bytes (aW I q (congrArg not yd7))
  | _=>exact absurd (show false=true from hs) z18
 | _=>cases y<;>exact absurd (show false=true from hs) z18
theorem qC:bw X (compareOp .Lt) (dZ λi j=>.bl (decide (i<j))):=j9 λ_ _ _ _ _ _ _ q=>lt_int q
theorem qD:bw X (compareOp .LtE) (dZ λi j=>.bl (decide (i≤j))):=j9 λ_ _ _ _ _ _ _ q=>le_int q
theorem qE:bw X (compareOp .Gt) (dZ λi j=>.bl (decide (j<i))):=j9 λ_ _ _ _ _ _ _ q=>gt_int q
theorem qF:bw X (compareOp .GtE) (dZ λi j=>.bl (decide (j≤i))):=j9 λ_ _ _ _ _ _ _ q=>ge_int q
theorem bw.or{f:Value->Value->Sem Value}{r r':R2}(h:bw X f r)(h':bw X f r'):bw X f (λx y H Q=>r x y H Q∨r' x y H Q):=by
 intro pins s σ H x y v u Q I rx ry q
 rcases q with q|q
 ·exact h pins s σ H x y v u Q I rx ry q
 ·exact h' pins s σ H x y v u Q I rx ry q
theorem eX(b:Expr){op:CmpOp}(h:op≠.In:=by decide)(h2:op≠.NotIn:=by decide):behindInMarks op b=false:=by
 have e1:(op == CmpOp.In)=false:=by cases op<;>first|rfl|exact absurd rfl h
 have e2:(op == CmpOp.NotIn)=false:=by cases op<;>first|rfl|exact absurd rfl h2
 cases b<;>simp [behindInMarks,e1,e2]
theorem yD{op:CmpOp}{r:R2}(ho:bw X (compareOp op) r)(ha:PE X a ta)(hb:PE X b tb)(hm:behindInMarks op b=false):PE X (.Compare a [op] [b] pos) (mi r ta tb):=by
 intro pins s σ H Q I h
 exact wpAny_Compare1 (mY ha hb I h λv u s2 x y H2 I2 rx ry q=>ho pins s2 σ H2 x y v u Q I2 rx ry q) hm
noncomputable def qG(t:TE):TT:=λσ H Q=>t σ H λx H'=>∃k,x=.bl k/\Q k H'
theorem qH{op:CmpOp}{r:R2}(ho:bw X (compareOp op) r)(ha:PE X a ta)(hb:PE X b tb)(hm:behindInMarks op b=false):PT X (.Compare a [op] [b] pos) (qG (mi r ta tb)):=by
 intro pins s σ H Q I h
 refine wpAny_isTrue_Compare1 (aF (ha pins s σ H _ I h) λv s1 ⟨x,H1,I1,r1,q1⟩=>aF (hb pins s1 σ H1 _ I1 q1) λu s2 ⟨y,H2,I2,r2,q2⟩ =>
  aF (ho pins s2 σ H2 x y v u _ I2 r1 r2 q2) λc s3 ⟨z,H3,I3,r3,k,e,q3⟩=>?_) hm
 subst e
 cases r3
 exact wpAny_truthy_bool ⟨H3,I3,q3⟩
noncomputable def pI(K:W.Frag)(x:V)(H:Hp)(k:Bool):Prop :=
 match x with
 | .non=>k=false
 | .bl b=>k=b
 | .int i=>k=(i != 0)
 | .str y=>y.length≤sizeLine/\k=((y.length:Int) != 0)
 | .byt y=>y.size≤sizeLine/\k=((y.size:Int) != 0)
 | .ref p=>(∃xs,aP K H p xs/\k=!xs.isEmpty)∨(∃xs,aO K H p xs/\k=!xs.isEmpty)∨∃kvs,H p=some (.dK kvs)/\k=!kvs.isEmpty
 | _=>False
theorem yE{κ:Type}{kvs:List (κ×V)}{vs:List (κ×Value)}(r:KV kvs vs):(!vs.isEmpty)=!kvs.isEmpty:=by
 cases r<;>rfl
theorem qI{xs:List V}{its:List Value}(r:ag xs its):(!its.toArray.isEmpty)=!xs.isEmpty:=by
 cases r<;>simp
theorem fV:(sizeLine:Nat)<2 ^ 63:=by rw [sizeLine_eq];decide
theorem qJ:yp X (λx H Q=>∃k,pI X.K x H k/\Q k H):=by
 intro pins s σ H x v Q I rx h
 obtain⟨k,e,q⟩:=h
 have hl:=fV
 have hs:sizeLine=16777216:=sizeLine_eq
 cases x with
 | non =>
  cases rx
  have e':k=false:=e
  subst e'
  exact truthy_none ⟨H,I,q⟩
 | bl b =>
  cases rx
  have e':k=b:=e
  subst e'
  exact wpAny_truthy_bool ⟨H,I,q⟩
 | int i =>
  obtain⟨t,rfl⟩:=rx
  have e':k=(i != 0):=e
  subst e'
  exact PySem.P.truthy_int ⟨H,I,q⟩
 | str y =>
  obtain⟨t,rfl⟩:=rx
  obtain⟨hy,e'⟩:y.length≤sizeLine/\k=((y.length:Int) != 0):=e
  subst e'
  exact PySem.P.truthy_str (by lia) ⟨H,I.tok _,q⟩
 | byt y =>
  obtain⟨t,rfl⟩:=rx
  obtain⟨hy,e'⟩:y.size≤sizeLine/\k=((y.size:Int) != 0):=e
  subst e'
  exact W.truthy_bytes (by lia) ⟨H,I.tok _,q⟩
 | ref p =>
  cases rx
  have e':(∃xs,aP X.K H p xs/\k=!xs.isEmpty)∨(∃xs,aO X.K H p xs/\k=!xs.isEmpty)∨∃kvs,H p=some (.dK kvs)/\k=!kvs.isEmpty:=e
  rcases e' with⟨xs,hx,e'⟩| ⟨xs,hx,e'⟩| ⟨kvs,hx,e'⟩
  ·subst e'
   obtain⟨its,r,pl,hz⟩:=I.list hx
   have hlen:=r.length
   exact wpAny_truthy_list pl.isList (by simp only [zd];lia) ⟨H,I.tok _,by rw [qI r];exact q⟩
  ·subst e'
   obtain⟨its,r,pl,hz⟩:=I.tuple hx
   have hlen:=r.length
   exact truthy_tuple pl (by simp only [zd];lia) ⟨H,I.tok _,by rw [qI r];exact q⟩
  ·subst e'
   obtain⟨hz,hS,vs,r,m⟩:kvs.length≤sizeLine/\(p == sysModules)=false/\∃vs,KV kvs vs/\s.heap.DictOf (bx X.prog X.w) p vs:=I.hok p _ hx
   have hlen:kvs.length=vs.length:=Paired.length r
   exact wpAny_truthy_dict hS m (by lia) ⟨H,I.tok _,by rw [yE r];exact q⟩
 | _=>exact (show False from e).elim
theorem yF(ha:PE X a ta)(he:∀whole,isTrue a X.env whole=(do let v <- whole;standAt a.pos;holding [v] (truthy v))) :
  PT X a (λσ H Q=>ta σ H λx H'=>∃k,pI X.K x H' k/\Q k H'):=by
 intro pins s σ H Q I h
 exact isTrue_plain (aF (ha pins s σ H _ I h) λv s1 ⟨x,H1,I1,r1,q1⟩=>qJ pins s1 σ H1 x v Q I1 r1 q1) (he _)
theorem yG:bw X (binaryOp .Add) (λx y H Q=>∃i j,x=.str i/\y=.str j/\i.length+j.length≤sizeLine/\Q (.str (i++j)) H):=by
 intro pins s σ H x y v u Q I rx ry h
 obtain⟨i,j,rfl,rfl,hz,q⟩:=h
 obtain⟨t,rfl⟩:=rx
 obtain⟨t',rfl⟩:=ry
 exact add_str (λt' tk=>⟨.str (i++j),H,I.tok _,⟨_,rfl⟩,q⟩) hz
theorem bY{x:V}{us:List Value}(r:ag [x] us):∃u,us=[u]/\au x u:=by
 cases r with
 | cons r1 r2=>cases r2;exact⟨_,rfl,r1⟩
theorem mj{x y:V}{us:List Value}(r:ag [x,y] us):∃u w',us=[u,w']/\au x u/\au y w':=by
 cases r with
 | cons r1 r2 =>
  cases r2 with
  | cons r3 r4=>cases r4;exact⟨_,_,rfl,r1,r3⟩
theorem y9d(hc:X.calm=true):y9 X (.builtin "max") (λxs H Q=>∃i j,xs=[.int i,.int j]/\Q (.int (if j>i then j else i)) H):=by
 intro pins s σ H xs us Q I r h
 obtain⟨i,j,rfl,q⟩:=h
 obtain⟨u,w',rfl,⟨t,rfl⟩,⟨t',rfl⟩⟩:=mj r
 refine max_two_ints (I.ok.hd hc) λh' tk k=>⟨_,H,I.kept k,?_,q⟩
 by_cases hj:j>i
 ·rw [if_pos hj,if_pos hj];exact⟨_,rfl⟩
 ·rw [if_neg hj,if_neg hj];exact⟨_,rfl⟩
theorem y9e(hc:X.calm=true):y9 X (.builtin "min") (λxs H Q=>∃i j,xs=[.int i,.int j]/\Q (.int (if j<i then j else i)) H):=by
 intro pins s σ H xs us Q I r h
 obtain⟨i,j,rfl,q⟩:=h
 obtain⟨u,w',rfl,⟨t,rfl⟩,⟨t',rfl⟩⟩:=mj r
 refine min_two_ints (I.ok.hd hc) λh' tk k=>⟨_,H,I.kept k,?_,q⟩
 by_cases hj:j<i
 ·rw [if_pos hj,if_pos hj];exact⟨_,rfl⟩
 ·rw [if_neg hj,if_neg hj];exact⟨_,rfl⟩
end
end
section
structure y40(h:Heap)(x dx C:Addr)(mA:Str->Option Value):Prop where
 obj:h.get? x=some (W.instObj C dx)
 ns:h.Ns1 dx mA
 ne:dx≠x
theorem yH{h:Heap}{dx:Addr}{mA:Str->Option Value}(n:h.Ns1 dx mA):∃od,h.get? dx=some od/\∀name,W.lookIn name od=some (mA name):=by
 obtain⟨o,es,ep,ho,hd,hk,_,hm⟩:=n
 refine⟨o,ho,λname=>?_⟩
 have e:=hm name
 unfold nsFind findBy at e
 rw [<- Array.find?_toList] at e
 unfold W.lookIn
 rw [hd]
 dsimp only
 split
 ·rename_i y q
  rw [q] at e
  exact congrArg some e
 ·rename_i q
  rw [q] at e
  have a:es.toList.any (·.refKey)=false:=by
   rw [List.any_eq_false]
   intro y hy
   obtain⟨z,t,y194⟩:=hk y (Array.mem_toList_iff.mp hy)
   simp [DictEntry.refKey,y194]
  have a':¬ es.toList.any (·.refKey)=true:=by rw [a];exact z18
  rw [if_neg a']
  exact congrArg some e
theorem y40.look{h:Heap}{x dx C:Addr}{mA:Str->Option Value}(I:y40 h x dx C mA):∃od,W.InstAt h x (W.instObj C dx) C (some od)/\∀name,W.lookIn name od=some (mA name) :=
 let ⟨od,ho,hl⟩:=yH I.ns
 ⟨od,⟨I.obj,rfl,rfl,ho⟩,hl⟩
section
variable {prog:Program}{w:World}{A:Around}{E:Value->Shared->Prop}{s:Shared}{K:W.Frag}{x dx C f:Addr}{mA:Str->Option Value}{name:Str}{v:Value}
theorem kd{expr:Bool}{Q:Value->Shared->Prop}(X:K.In s.heap)(I:y40 s.heap x dx C mA)(hg:W.plainGet K C name=true)(hh:W.hasDictIn K C=true)
  (ha:W.findIn K (.ref C) name=some none) (hv:mA name=some v) (hv':W.handedIn v=true) (h:Q v { s with toks:=s.toks+1 }) :
  wpAny (model prog w) A (getAttr (.ref x) name expr) Q E s:=by
 obtain⟨od,J,hl⟩:=I.look
 exact W.get_value X J (W.plainGet_of hg).1 (W.findObj_own hh ha rfl (by rw [hl,hv])) hv' h
theorem yI{pl:Sem Bool}{Q:Value×List Value->Shared->Prop}(X:K.In s.heap)(I:y40 s.heap x dx C mA)(hg:W.plainGet K C name=true)
  (hf:W.findIn K (.ref C) name=some (some (.ref f))) (ht:W.isFn K (.ref f)=true) (hv:mA name=none) (h:Q (.ref f,[.ref x]) s) :
  wpAny (model prog w) A (getMethod (.ref x) name pl) Q E s:=by
 obtain⟨od,J,hl⟩:=I.look
 exact W.method_fn X J (W.plainGet_of hg).1 (W.plainGet_of hg).2 hf (beq_iff_eq.mp ht) (by show (W.lookIn name od).map (·.isSome)=some false;rw [hl,hv];rfl) h
theorem yJ{ns:List Str}{Q:Unit->Shared->Prop}(X:K.In s.heap)(I:y40 s.heap x dx C mA)
  (hs:W.findIn K (.ref C) "__setattr__" = some (some (.builtin "object.__setattr__"))) (hp:W.plainOver K C=true) (ht:W.takerIn K C name=some none) (hh:W.hasDictIn K C=true)
  (hw:PySem.Within mA ns) (hsz:ns.length≤sizeLine)
  (h:∀h',y40 h' x dx C (λy=>if y=name then some v else mA y)->Heap.SameBut dx s.heap h'->Q () { s with heap:=h',toks:=s.toks+2 }) :
  wpAny (model prog w) A (setAttr (.ref x) name v) Q E s:=by
 obtain⟨od,J,hl⟩:=I.look
 refine W.set_plain X J hs (W.osa_open (s:={ s with toks:=s.toks+1 }) (r:=none) X J hp ht λb=>?_)
 obtain⟨cd,hc,hd'⟩:=W.any_some hh
 have hx:s.heap.get? x=some ⟨.ref C,some dx,.plain,#[]⟩:=I.obj
 refine zc (zf (zc (zc (wpAny_loadPart hx (zc (W.Looks.here (s:={ s with toks:=s.toks+1 }) (W.looks_clsIn X hc) ?_))))))
 rw [hd']
 refine zf (a:=some dx) (zc (zf (zc ?_)))
 refine wpAny_nsSet1 (s:={ s with toks:=s.toks+1 }) I.ns λh' hn2 hs2=>?_
 obtain⟨oD,esD,epD,hoD,hdD,hcD⟩:=hn2.count (PySem.Within.cons name v hw)
 refine zc (wpAny_lookBehind hoD (by rw [hdD];exact pastItsLine_dict (z27 hcD (by rw [z29];lia))) ?_)
 exact zf (h _ ⟨(hs2.2 _ (Ne.symm I.ne)).trans I.obj,hn2,I.ne⟩ hs2)
theorem yK{R:Result->Shared->Prop}{vs:List Value}{kw:List (Str×Value)}(X:K.In s.heap)(hm:W.makesIn K C=true)
  (hi:W.findIn K (.ref C) "__init__" = some (some (.ref f))) (hf:W.typeIn K (.ref f)=some (.type "function"))
  (h:codeAny (model prog w) (A.under (.builtin "type.__call__" ⟨.ref C::vs,kw⟩)) (.call (.ref f) ⟨.ref (s.heap.objs.size+1)::vs,kw⟩) (W.InitBack (s.heap.objs.size+1) R)
   { s with heap:=(s.heap.push W.emptyDict).push (W.instObj C s.heap.objs.size) }) :
  codeAny (model prog w) A (.call (.ref C) ⟨vs,kw⟩) R s:=by
 obtain⟨hh,g,d,t,os⟩:=s
 exact W.make_core (W.makes_of X hm) (W.looks_findIn X hi) (λself=>W.bind_fn X self hf) (.inl rfl) h
end
noncomputable def bP(f:Str)(v:V):List (Str×V)->List (Str×V)
 | []=>[(f,v)]
 | (g,x)::r=>if g=f then (g,v)::r else (g,x)::bP f v r
theorem qK(f g:Str)(v:V):∀fs:List (Str×V),(bP f v fs).lookup g=if g=f then some v else fs.lookup g
 | []=>by
  show List.lookup g [(f,v)]=_
  by_cases h:g=f
  ·have hb:(g == f)=true:=beq_iff_eq.mpr h
   simp only [List.lookup,hb,if_pos h]
  ·have hb:(g == f)=false:=beq_eq_false_iff_ne.mpr h
   simp only [List.lookup,hb,if_neg h]
 | (k,x)::r=>by
  have ih:=qK f g v r
  rw [show bP f v ((k,x)::r)=(if k=f then (k,v)::r else (k,x)::bP f v r) from rfl]
  by_cases hk:k=f
  ·rw [if_pos hk]
   by_cases h:g=k
   ·have hb:(g == k)=true:=beq_iff_eq.mpr h
    simp only [List.lookup,hb,if_pos (h.trans hk)]
   ·have hb:(g == k)=false:=beq_eq_false_iff_ne.mpr h
    simp only [List.lookup,hb,if_neg (λe:g=f=>h (e.trans hk.symm))]
  ·rw [if_neg hk]
   by_cases h:g=k
   ·have hb:(g == k)=true:=beq_iff_eq.mpr h
    simp only [List.lookup,hb,if_neg (λe:g=f=>hk (h.symm.trans e))]
   ·have hb:(g == k)=false:=beq_eq_false_iff_ne.mpr h
    simp only [List.lookup,hb]
    exact ih
theorem ng(f:Str)(v:V):∀fs:List (Str×V),f∈(bP f v fs).map (·.1)/\∀g,g∈fs.map (·.1)->g∈(bP f v fs).map (·.1)
 | []=>⟨by simp [bP],λg h=>by simp at h⟩
 | (k,x)::r=>by
  obtain⟨i1,i2⟩:=ng f v r
  rw [show bP f v ((k,x)::r)=(if k=f then (k,v)::r else (k,x)::bP f v r) from rfl]
  by_cases hk:k=f
  ·rw [if_pos hk]
   subst hk
   exact⟨by simp,λg h=>by simpa using h⟩
  ·rw [if_neg hk]
   refine⟨?_,λg h=>?_⟩
   ·rw [z15]
    exact z22 _ i1
   ·rw [z15] at h ⊢
    rcases z1b.mp h with e|e
    ·exact z1b.mpr (.inl e)
    ·exact z22 _ (i2 g e)
theorem qL(f:Str)(v:V):∀fs:List (Str×V),(bP f v fs).length≤fs.length+1
 | []=>by simp [bP]
 | (k,x)::r=>by
  have ih:=qL f v r
  rw [show bP f v ((k,x)::r)=(if k=f then (k,v)::r else (k,x)::bP f v r) from rfl]
  by_cases hk:k=f
  ·rw [if_pos hk,z29,z29];lia
  ·rw [if_neg hk,z29,z29];lia
theorem fO.some_of{v:V}{o:Option Value}(r:fO (some v) o):∃u,o=some u/\au v u:=by
 cases o with
 | none=>exact (show False from r).elim
 | some u=>exact⟨u,rfl,r⟩
theorem fO.none_of{o:Option Value}(r:fO none o):o=none:=by
 cases o with
 | none=>rfl
 | some u=>exact (show False from r).elim
theorem yL{v:V}{u:Value}(r:au v u):W.handedIn u=true:=by
 cases v with
 | non=>cases (show u=Value.none from r);rfl
 | bl b=>cases (show u=Value.bool b from r);rfl
 | int i=>obtain⟨t,e⟩:=(show ∃t,u=Value.int i t from r);cases e;rfl
 | str x=>obtain⟨t,e⟩:=(show ∃t,u=Value.str x t from r);cases e;rfl
 | byt b=>obtain⟨t,e⟩:=(show ∃t,u=Value.bytes b t from r);cases e;rfl
 | flt b=>obtain⟨t,e⟩:=(show ∃t,u=Value.float b t from r);cases e;rfl
 | ref a=>cases (show u=Value.ref a from r);rfl
 | ty n=>cases (show u=Value.type n from r);rfl
section
variable {P:Program}{w:World}{H H':Hp}{h h':Heap}{a C dx:Addr}{fs fs':List (Str×V)}
theorem nh(hok:cm P w H h)(e:H a=some (.ins C dx fs)):∃mA,y40 h a dx C mA/\(∀f,fO (fs.lookup f) (mA f))/\PySem.Within mA (fs.map (·.1))/\fs.length≤1000/\H dx=some (.own a):=by
 obtain⟨d,z,ne,ob,mA,n,r,q⟩:=(show cn P w H h a (.ins C dx fs) from hok a _ e)
 exact⟨mA,⟨ob,n,ne⟩,r,q,z,d⟩
end
structure Cls(K:W.Frag)(C:Addr):Prop where
 pg:W.plainGet K C Str.empty=true
 hd:W.hasDictIn K C=true
 po:W.plainOver K C=true
 sa:W.findIn K (.ref C) "__setattr__" = some (some (.builtin "object.__setattr__"))
theorem Cls.get{K:W.Frag}{C:Addr}(c:Cls K C)(f:Str):W.plainGet K C f=true:=c.pg
noncomputable def gE(K:W.Frag)(C:Addr)(f:Str):Prop:=W.findIn K (.ref C) f=some none
theorem gE.taker{K:W.Frag}{C:Addr}{f:Str}(n:gE K C f):W.takerIn K C f=some none:=by
 unfold W.takerIn
 rw [show W.findIn K (.ref C) f=some none from n]
 rfl
structure Con(K:W.Frag)(C:Addr)(f:Str)(v:V)(u:Value):Prop where
 at_:W.findIn K (.ref C) f=some (some u)
 rel:au v u
 get:W.specialIn K u "__get__" = some none
 cp:W.copiedNames.contains f=false
structure Meth(K:W.Frag)(C:Addr)(m:Str)(f:Addr):Prop where
 at_:W.findIn K (.ref C) m=some (some (.ref f))
 fn:W.isFn K (.ref f)=true
 kp:W.keepIn K (.ref f)=true
section
variable {X:Cx}{pins:List (Addr×Obj)}{σ:St}{H:Hp}{s:Shared}{a C dx:Addr}{fs:List (Str×V)}{f:Str}{v:V}{A:Around}{E:Value->Shared->Prop}
theorem yM{b:Bool}{Q:Value->Shared->Prop}(I:Inv X pins σ H s)(e:H a=some (.ins C dx fs))(c:Cls X.K C)(n:gE X.K C f)(l:fs.lookup f=some v)
  (h:∀u s',Inv X pins σ H s'->au v u->Q u s'):wpAny (model X.prog X.w) A (getAttr (.ref a) f b) Q E s:=by
 obtain⟨mA,O,r,_,_,_⟩:=nh I.hok e
 obtain⟨u,hu,ru⟩:=fO.some_of (v:=v) (o:=mA f) (by rw [<- l];exact r f)
 exact kd I.kIn O (c.get f) c.hd n hu (yL ru) (h u _ (I.tok _) ru)
theorem qM{m:Str}{g:Addr}{pl:Sem Bool}{Q:Value×List Value->Shared->Prop}(I:Inv X pins σ H s)(e:H a=some (.ins C dx fs))(c:Cls X.K C)(k:Meth X.K C m g)(l:fs.lookup m=none)
  (h:Q (.ref g,[.ref a]) s):wpAny (model X.prog X.w) A (getMethod (.ref a) m pl) Q E s:=by
 obtain⟨mA,O,r,_,_,_⟩:=nh I.hok e
 have hn:mA m=none:=fO.none_of (by rw [<- l];exact r m)
 exact yI I.kIn O (c.get m) k.at_ k.fn hn h
theorem yN{y:V}{u:Value}{Q:Unit->Shared->Prop}(I:Inv X pins σ H s)(e:H a=some (.ins C dx fs))(c:Cls X.K C)(n:gE X.K C f)(hl:fs.length<1000)(ry:au y u)
  (h:∀s',Inv X pins σ (ax H a (.ins C dx (bP f y fs))) s'->Q () s'):wpAny (model X.prog X.w) A (setAttr (.ref a) f u) Q E s:=by
 obtain⟨mA,O,r,wi,_,ho⟩:=nh I.hok e
 have hz:(fs.map (·.1)).length≤sizeLine:=by rw [z24,sizeLine_eq];lia
 refine yJ I.kIn O c.sa c.po n.taker c.hd wi hz λh' O' sb=>h _ ?_
 have hd:∃o,h'.get? dx=some o:=let ⟨o,_,_,e',_⟩:=O'.ns;⟨o,e'⟩
 refine I.write (x:=a) (e:=dx) (by rw [e];exact True.intro) (.inr ho) (λb q hb z=>(sb.2 b hb).trans z) hd ?_
 refine⟨by rw [ay O.ne];exact ho,?_,O.ne,O'.obj,_,O'.ns,λg=>?_,λg hg=>?_⟩
 ·have:=qL f y fs;lia
 ·show fO ((bP f y fs).lookup g) (if g=f then some u else mA g)
  rw [qK]
  by_cases q:g=f
  ·rw [if_pos q,if_pos q];exact ry
  ·rw [if_neg q,if_neg q];exact r g
 ·by_cases q:g=f
  ·rw [q];exact (ng f y fs).1
  ·refine (ng f y fs).2 g (wi g λz=>hg ?_)
   show (if g=f then some u else mA g)=none
   rw [if_neg q];exact z
theorem Inv.made(I:Inv X pins σ H s):Inv X pins σ (ax (ax H s.heap.objs.size (.own (s.heap.objs.size+1))) (s.heap.objs.size+1) (.ins C s.heap.objs.size []))
  { s with heap:=(s.heap.push W.emptyDict).push (W.instObj C s.heap.objs.size) }:=by
 have e1:(s.heap.push W.emptyDict).get? s.heap.objs.size=some W.emptyDict:=z1c s.heap rfl
 have e2:((s.heap.push W.emptyDict).push (W.instObj C s.heap.objs.size)).get? (s.heap.objs.size+1)=some (W.instObj C s.heap.objs.size):=by
  have:=z1c (s.heap.push W.emptyDict) (o:=W.instObj C s.heap.objs.size) rfl
  rwa [Heap.size_push] at this
 have e3:(s.heap.push W.emptyDict).Ns s.heap.objs.size (λ_=>none):=⟨W.emptyDict,#[],_,e1,rfl,(λe he=>absurd he (by simp)),λ_=>rfl⟩
 have I1:=I.laid (a:=s.heap.objs.size) (o:=.own (s.heap.objs.size+1)) (h':=s.heap.push W.emptyDict) (t':=s.toks) (λb u q=>ze _ q) (z12 _) ⟨_,e1⟩
 refine I1.laid (a:=s.heap.objs.size+1) (o:=.ins C s.heap.objs.size []) (t':=s.toks) (λb u q=>ze _ q) (Nat.le_of_eq (Heap.size_push _ _)) ?_
 have ne:s.heap.objs.size≠s.heap.objs.size+1:=z1f (z34 _)
 refine⟨by rw [ay ne,aJ],Nat.zero_le _,ne,e2,λ_=>none,(Heap.Ns1.of_empty e3).at λo q=>ze _ q,λ_=>True.intro,λy hy=>absurd rfl hy⟩
theorem y6f{prog:Program}{w:World}{env:Env}{e:Expr}{f:Str}{pos:Pos}{s:Shared}{Q:Value->Shared->Prop}(hb:attributeBase e f env (eval e env)=eval e env)
  (h:wpAny (model prog w) A (eval e env) (λo s₁=>wpAny (model prog w) A (getAttr o f true) Q E s₁) E s):wpAny (model prog w) A (eval (.Attribute e f pos) env) Q E s :=
 Attribute_any_ h (by rw [arm_eval_Attribute,hb])
end
noncomputable def qN(K:W.Frag)(ta:TE)(f:Str):TE:=λσ H Q=>ta σ H λx H1=>∃a C dx fs v,x=.ref a/\H1 a=some (.ins C dx fs)/\Cls K C/\gE K C f/\fs.lookup f=some v/\Q v H1
noncomputable def qO(K:W.Frag)(ta tv:TE)(f:Str):TS:=λD σ H=>tv σ H λy H1=>ta σ H1 λx H2=>∃a C dx fs,x=.ref a/\H2 a=some (.ins C dx fs)/\Cls K C/\gE K C f/\fs.length<1000 /\
 D.nx σ (ax H2 a (.ins C dx (bP f y fs)))
section
variable {X:Cx}{o e value:Expr}{f:Str}{pos pos' tpos:Pos}{ta tv:TE}
theorem yO(he:PE X e ta)(hb:attributeBase e f X.env (eval e X.env)=eval e X.env):PE X (.Attribute e f pos) (qN X.K ta f):=by
 intro pins s σ H Q I h
 refine y6f hb (aF (he pins s σ H _ I h) λu s1 zz=>?_)
 obtain⟨x,H1,I1,rx,a,C,dx,fs,v,ex,ea,c,n,l,q⟩:=zz
 subst ex
 obtain rfl:u=Value.ref a:=rx
 exact yM I1 ea c n l λu' s2 I2 ru=>⟨v,H1,I2,ru,q⟩
theorem yP(ha:PE X o ta)(hv:PE X value tv)(hs:swapsWith value (some (.Attribute o f pos')) pos.line X.env=pure false):PS X (.Assign [.Attribute o f pos'] value pos) (qO X.K ta tv f):=by
 intro pins s σ H D I h
 refine plainObj_wpAny_Assign_Attribute (aF (hv pins s σ H _ I h) λu s1 ⟨y,H1,I1,ry,q⟩=>aF (ha pins s1 σ H1 _ I1 q) λov s2 ⟨x,H2,I2,rx,a,C,dx,fs,ex,ea,c,n,l,q2⟩=>?_) hs
 subst ex
 obtain rfl:ov=Value.ref a:=rx
 exact yN I2 ea c n l ry λs3 I3=>⟨σ,_,I3,q2⟩
theorem Fi{pl:Sem Bool}{m:Str}{apos:Pos}{args:List Expr}{pins:List (Addr×Obj)}{s:Shared}{σ:St}{H:Hp}{Q:Value->Shared->Prop}{te:TE}(he:PE X e te)(I:Inv X pins σ H s)
  (h:te σ H λx H1=>∃a C dx fs g,x=.ref a/\H1 a=some (.ins C dx fs)/\Cls X.K C/\Meth X.K C m g/\fs.lookup m=none /\
   ∀s1,Inv X pins σ H1 s1->wpAny (model X.prog X.w) X.A (callWith pos (.ref g) [.ref a] (backTo pos (starEach args X.env)) (backToKw pos (keywordEach [] X.env))) Q X.xe s1)
  (ht:eval (.Call (.Attribute e m apos) args [] pos) X.env=(do
   let ov <- eval e X.env
   standAt apos.atName
   let (f,first) <- holding [ov] (getMethod ov m pl)
   callWith pos f first (backTo pos (starEach args X.env)) (backToKw pos (keywordEach [] X.env)))) :
  wpAny (model X.prog X.w) X.A (eval (.Call (.Attribute e m apos) args [] pos) X.env) Q X.xe s:=by
 refine W.methodCall_KW (pl:=pl) (aF (he pins s σ H _ I h) λu s1 ⟨x,H1,I1,rx,a,C,dx,fs,g,ex,ea,c,k,l,q⟩=>?_) ht
 subst ex
 obtain rfl:u=Value.ref a:=rx
 exact qM I1 ea c k l (q s1 I1)
end
section
variable {X:Cx}{pins:List (Addr×Obj)}{σ:St}{H:Hp}{s:Shared}{A:Around}{E:Value->Shared->Prop}{Q:Value->Shared->Prop}{c:Value}{b:Bool}
inductive y4f(K:W.Frag)(H:Hp):V->Value->Prop where
 | non:y4f K H .non (.type "NoneType")
 | bl (x:Bool):y4f K H (.bl x) (.type "bool")
 | int (i:Int):y4f K H (.int i) (.type "int")
 | str (x:Str):y4f K H (.str x) (.type "str")
 | flt (x:UInt64):y4f K H (.flt x) (.type "float")
 | lst {a:Addr} {xs:List V} (e:H a=some (.lst xs)):y4f K H (.ref a) (.type "list")
 | frz {a:Addr} {o:Obj} {xs:List V} (e:H a=some (.frz o (.lst xs))):y4f K H (.ref a) (.type "list")
 | tup {a:Addr} {xs:List V} (e:H a=some (.tup xs)):y4f K H (.ref a) (.type "tuple")
 | dK {a:Addr} {kvs:List (ai×V)} (e:H a=some (.dK kvs)):y4f K H (.ref a) (.type "dict")
 | dT {a:Addr} {kvs:List (List ai×V)} (e:H a=some (.dT kvs)):y4f K H (.ref a) (.type "dict")
 | ins {a C dx:Addr} {fs:List (Str×V)} (e:H a=some (.ins C dx fs)) (cl:Cls K C) (ha:W.findIn K (.ref C) "__class__" = some (some (.builtin "object.__class__")))
   (hn:W.specialIn K (.builtin "object.__class__") "__get__" = some (some (.builtin "getset_descriptor.__get__"))) (htk:W.takesIn K (.builtin "object.__class__")=some true)
   (hm:W.mroIn K C (.type "object")=some true):y4f K H (.ref a) (.ref C)
end
end
section
structure y4a(k:Nat)(A:Around):Prop where
 hd:A.handled=none
 dp:A.depth+3*k+5<recursionLimit
 un:A.units+16*k+200<cLine
 gd:A.guards=some []
theorem y4a.mono{j k:Nat}{A:Around}(r:y4a k A)(h:j≤k):y4a j A:=⟨r.hd,by have:=r.dp;lia,by have:=r.un;lia,r.gd⟩
theorem y4a.deeper{k:Nat}{A:Around}(r:y4a (k+1) A)(env:Env):y4a k (A.deeper env) :=
 ⟨r.hd,by have:=r.dp;show A.depth+1+3*k+5<_;lia,by have:=r.un;show A.units+3+16*k+200<_;lia,r.gd⟩
theorem yQ{A:Around}{C:Addr}{us:List Value}{kw:List (Str×Value)}:(A.under (.builtin "type.__call__" ⟨.ref C::us,kw⟩)).depth=A.depth+1:=by
 first|rfl|simp [Around.under,Code.weight,Code.isCreation,Code.isGuard,Code.isCaller,Code.frames,Code.isFrame,guardIds]
theorem yR{A:Around}{C:Addr}{us:List Value}{kw:List (Str×Value)}:(A.under (.builtin "type.__call__" ⟨.ref C::us,kw⟩)).units=A.units+1:=by
 first|rfl|simp [Around.under,Code.cUnits,Code.frames,Code.isFrame]
theorem y4a.make{k:Nat}{A:Around}(r:y4a (k+1) A)(C:Addr)(us:List Value)(kw:List (Str×Value)):y4a k (A.under (.builtin "type.__call__" ⟨.ref C::us,kw⟩)) :=
 ⟨r.hd,by have:=r.dp;rw [yQ];lia,by have:=r.un;rw [yR];lia,by have:=r.gd;first|exact this|simpa [Around.under,Code.guards,Code.isGuard,guardIds,pushGuards] using this⟩
theorem y4a.depth{k:Nat}{A:Around}(r:y4a k A):A.depth<recursionLimit:=by have:=r.dp;lia
theorem y4a.units{k:Nat}{A:Around}(r:y4a k A):A.units+64<cLine:=by have:=r.un;lia
noncomputable def nj:TA:=λ_ H Q=>Q [] H
noncomputable def qP(ta:TE)(tr:TA):TA:=λσ H Q=>ta σ H λx H1=>tr σ H1 λxs H2=>Q (x::xs) H2
section
variable {X:Cx}{e:Expr}{es:List Expr}{te:TE}{t:TA}{pos:Pos}
theorem nk:PA X [] nj:=λ_ _ _ _ H Q I h=>Calls.spliced_nil ⟨[],H,I,.nil,h⟩
theorem nq(ha:PE X e te)(hr:PA X es t)(hs:starEach (e::es) X.env=(false,eval e X.env)::starEach es X.env:=by rfl):PA X (e::es) (qP te t):=by
 intro pos pins s σ H Q I h
 rw [hs]
 show wpAny _ _ (spliced ((false,eval e X.env)::backTo pos (starEach es X.env))) _ _ s
 refine Calls.spliced_cons (aF (ha pins s σ H _ I h) λu s1 zz=>?_)
 obtain⟨x,H1,I1,r1,q1⟩:=zz
 exact aF (hr pos pins s1 σ H1 _ I1 q1) λus s2 ⟨xs,H2,I2,r2,q2⟩=>⟨x::xs,H2,I2,.cons r1 r2,q2⟩
noncomputable def yS(t:TA):TE:=λσ H Q=>t σ H λxs H1=>xs.length≤sizeLine/\∀p,H1 p=none->Q (.ref p) (ax H1 p (.tup xs))
noncomputable def yT(t:TA):TE:=λσ H Q=>t σ H λxs H1=>xs.length≤sizeLine/\∀p,H1 p=none->Q (.ref p) (ax H1 p (.lst xs))
theorem yU{x1}(h:PA X es t):PE X (.Tuple es x1 pos) (yS t):=by
 intro pins s σ H Q I hq
 refine wpAny_Tuple_spliced (aF (h pos pins s σ H _ I hq) λus s1 ⟨xs,H1,I1,r,z,q⟩=>⟨by rw [<- r.length];exact z,?_⟩)
 have hf:H1 s1.heap.objs.size=none:=I1.hok.fresh (z12 _)
 refine⟨.ref s1.heap.objs.size,ax H1 s1.heap.objs.size (.tup xs),I1.laid (t':=s1.toks) (λb u e=>ze _ e) (z12 _) ?_,rfl,q _ hf⟩
 exact⟨z,us,r,eW.mk' _ _⟩
theorem yV(h:PA X es t):PE X (.List es pos) (yT t):=by
 intro pins s σ H Q I hq
 refine wpAny_List_spliced (aF (h pos pins s σ H _ I hq) λus s1 ⟨xs,H1,I1,r,z,q⟩=>⟨by rw [<- r.length];exact z,?_⟩)
 have hf:H1 s1.heap.objs.size=none:=I1.hok.fresh (z12 _)
 refine⟨.ref s1.heap.objs.size,ax H1 s1.heap.objs.size (.lst xs),I1.laid (t':=s1.toks) (λb u e=>ze _ e) (z12 _) ?_,rfl,q _ hf⟩
 exact⟨z,us,0,r,z1c _ rfl⟩
end
noncomputable abbrev Sp:=List V->Hp->VK->XK->Prop
noncomputable abbrev iS:=List Env->Hp->Shared->XK->Value->Shared->Prop
structure y11(P:Program)(w:World)(K:W.Frag)(mg:Str->Option Value)(base:Heap)(A:Around)(outer:List Env)(s:Shared)(H:Hp):Prop where
 frames:A.frames=some outer
 mod:Mod K mg base
 bs:∀b o,base.get? b=some o->s.heap.get? b=some o/\H b=none
 bsz:base.objs.size≤s.heap.objs.size
 y159:s.heap.FunFrames base outer
 frf:∀b∈iW outer,H b=none
 hok:cm P w H s.heap
 bare:AllBare s.gens
noncomputable def CE(outer:List Env)(P:Program)(w:World)(H:Hp)(s:Shared)(Q:VK)(u:Value)(s':Shared):Prop :=
 ∃v H',s'.os=s.os/\AllBare s'.gens/\Un (iW outer) [] H H' s.heap s'.heap/\cm P w H' s'.heap/\au v u/\Q v H'
noncomputable def CR(CX:iS)(outer:List Env)(P:Program)(w:World)(H:Hp)(s:Shared)(Q:VK)(E:XK)(r:Result)(s':Shared):Prop :=
 match r with
 | .ok (.ret u)=>CE outer P w H s Q u s'
 | .ok _=>False
 | .error e=>CX outer H s E e s'
structure y36(P:Program)(w:World)(K:W.Frag)(mg:Str->Option Value)(base:Heap)(CX:iS)(k:Nat)(f:Addr)(fd:FuncData)(ps:List Str)(sp:Sp):Prop where
 len:∀vs H Q E,sp vs H Q E->vs.length=ps.length
 run:∀(A:Around) (outer:List Env) (s:Shared) (H:Hp) (args:Args) (us:List Value) (vs:List V) (Q:VK) (E:XK),y4a k A->y11 P w K mg base A outer s H->BindsTo s fd args (ps.zip us)->ag vs us->sp vs H Q E ->
  codeAny (model P w) A (.call (.ref f) args) (CR CX outer P w H s Q E) s
theorem y36.imp{P:Program}{w:World}{K:W.Frag}{mg:Str->Option Value}{base:Heap}{CX:iS}{k:Nat}{f:Addr}{fd:FuncData}{ps:List Str}{sp sp':Sp}(F:y36 P w K mg base CX k f fd ps sp)
  (h:∀vs H Q E,sp' vs H Q E->sp vs H Q E):y36 P w K mg base CX k f fd ps sp' :=
 ⟨λvs H Q E q=>F.len vs H Q E (h _ _ _ _ q),λA outer s H args us vs Q E hr he hb hv hs=>F.run A outer s H args us vs Q E hr he hb hv (h _ _ _ _ hs)⟩
theorem y11.make{P:Program}{w:World}{K:W.Frag}{mg:Str->Option Value}{base:Heap}{A:Around}{outer:List Env}{s:Shared}{H:Hp}(e:y11 P w K mg base A outer s H)(C:Addr)(us:List Value)(kw:List (Str×Value)) :
  y11 P w K mg base (A.under (.builtin "type.__call__" ⟨.ref C::us,kw⟩)) outer s H:=⟨by first|exact e.frames|(simpa [Around.under,Code.envs,Code.isFrame,pushEnvs] using e.frames),e.mod,e.bs,e.bsz,e.y159,e.frf,e.hok,e.bare⟩
section
variable {X:Cx}{pins:List (Addr×Obj)}{σ:St}{H:Hp}{s s':Shared}
theorem Inv.env0(I:Inv X pins σ H s):y11 X.prog X.w X.K X.mg X.base X.A X.stack s H :=
 ⟨I.ok.frames,I.ok.mod,I.bs,z27 I.ok.bsz I.sz,I.stack,I.y40a,I.hok,I.bare⟩
theorem Inv.after{Q:VK}{u:Value}(I:Inv X pins σ H s)(h:CE X.stack X.prog X.w H s Q u s'):EP X pins σ Q u s':=by
 obtain⟨v,H',os,bare,un,hok,r,q⟩:=h
 obtain⟨hh,g,d,t,os'⟩:=s'
 obtain rfl:os'=s.os:=os
 exact⟨v,H',I.call (h':=hh) (g':=g) (d':=d) (t':=t) (ch:=[]) un hok bare (λb z=>absurd z (by simp)),r,q⟩
end
noncomputable def ke(sp:Sp)(dvs:List V)(E:XK)(t:TA):TE:=λσ H Q=>t σ H λvs H1=>sp (vs++dvs) H1 Q E
noncomputable def qQ(C:Addr)(m:Str)(sp:Sp)(dvs:List V)(E:XK)(ta:TE)(t:TA):TE:=λσ H Q=>ta σ H λx H1=>∃a dx fs,x=.ref a/\H1 a=some (.ins C dx fs)/\fs.lookup m=none /\
 t σ H1 λvs H2=>sp (x::(vs++dvs)) H2 Q E
noncomputable def qR(C:Addr)(sp:Sp)(dvs:List V)(E:XK)(t:TA):TE:=λσ H Q=>t σ H λvs H1=>∀x dx,H1 x=none->H1 dx=none->dx≠x ->
 sp (.ref x::(vs++dvs)) (ax (ax H1 dx (.own x)) x (.ins C dx [])) (λv H2=>v=.non/\Q (.ref x) H2) E
noncomputable def bZ(K:W.Frag)(fd:FuncData)(ps:List Str)(ds:List Value):Prop :=
 ∀(s:Shared) (us:List Value),K.In s.heap->(us++ds).length=ps.length->BindsTo s fd ⟨us,[]⟩ (ps.zip (us++ds))
theorem bZ.all{K:W.Frag}{fd:FuncData}{ps:List Str}(h:∀us:List Value,us.length=ps.length->bindArgs fd ⟨us,[]⟩=pure (ps.zip us)):bZ K fd ps []:=λs us _ hl=>by
 rw [z1a] at hl ⊢
 exact .of_eq (h us hl)
noncomputable def cK(CX:iS)(X:Cx)(E:XK):Prop:=∀(pins:List (Addr×Obj)) (σ:St) (H:Hp) (s:Shared) (e:Value) (s':Shared),Inv X pins σ H s->CX X.stack H s E e s'->X.xe e s'
section
variable {X:Cx}{CX:iS}{k:Nat}{f C:Addr}{fd:FuncData}{ps:List Str}{sp:Sp}{dvs:List V}{ds:List Value}{E:XK}{x m:Str}{p pos apos:Pos}{e o:Expr}{es:List Expr}{ta:TE}{t:TA}
theorem qS{pins:List (Addr×Obj)}{σ:St}{H:Hp}{s:Shared}{Q:VK}{us:List Value}{vs:List V}(F:y36 X.prog X.w X.K X.mg X.base CX k f fd ps sp)(hr:y4a k X.A)(hb:bZ X.K fd ps ds)(hd:ag dvs ds)(hx:cK CX X E)
  (I:Inv X pins σ H s) (r:ag vs us) (h:sp (vs++dvs) H Q E):wpAny (model X.prog X.w) X.A (call (.ref f) us) (EP X pins σ Q) X.xe s:=by
 have r2:ag (vs++dvs) (us++ds):=r.append hd
 have hl:(us++ds).length=ps.length:=by rw [<- r2.length];exact F.len _ _ _ _ h
 refine wpAny_call (codeAny_mono (F.run X.A X.stack s H ⟨us,[]⟩ (us++ds) (vs++dvs) Q E hr I.env0 (hb s us I.kIn hl) r2 h) λr s' hq=>?_)
 cases r with
 | error e=>exact hx pins σ H s e s' I hq
 | ok fl =>
  cases fl with
  | ret u=>exact I.after hq
  | next=>exact False.elim hq
  | brk=>exact False.elim hq
  | cont=>exact False.elim hq
abbrev gM(X:Cx)(e:Expr)(es:List Expr):Prop:=starEach (e::es) X.env=(false,eval e X.env)::starEach es X.env
abbrev fW(X:Cx)(pos:Pos)(es:List Expr):Prop:=(backTo pos (starEach es X.env)).any (·.1)=false
theorem yW(F:y36 X.prog X.w X.K X.mg X.base CX k f fd ps sp)(hr:y4a k X.A)(hg:Gl X x)(hm:X.mg x=some (.ref f))(hk:W.keepIn X.K (.ref f)=true)(hb:bZ X.K fd ps ds)(hd:ag dvs ds)(hx:cK CX X E)
  (ha:PA X (e::es) t) (hdb:(x == ("__debug__" : Str))=false:=by decide) (he:gM X e es:=by rfl) (hpl:fW X pos es:=by rfl) :
  PE X (.Call (.Name x p) (e::es) [] pos) (ke sp dvs E t):=by
 intro pins s σ H Q I h
 refine wpAny_Call_Name_kw (mQ I hg hm ?_ hdb)
 refine W.callWith_K (h₀:=X.base) I.ok.mod.kin hk (aF (ha pos pins s σ H _ I h) λus s1 ⟨vs,H1,I1,r,q⟩=>⟨I1.kIn,?_⟩) he hpl
 exact qS F hr hb hd hx I1 r q
theorem yX{pl:Sem Bool}(he:PE X o ta)(c:Cls X.K C)(hm:Meth X.K C m f)(F:y36 X.prog X.w X.K X.mg X.base CX k f fd ps sp)(hr:y4a k X.A)(hb:bZ X.K fd ps ds)(hd:ag dvs ds)(hx:cK CX X E)(ha:PA X (e::es) t)
  (hst:starEach (e::es) X.env=(false,eval e X.env)::starEach es X.env:=by rfl) (hpl:fW X pos es:=by rfl)
  (ht:eval (.Call (.Attribute o m apos) (e::es) [] pos) X.env=(do
   let ov <- eval o X.env
   standAt apos.atName
   let (f,first) <- holding [ov] (getMethod ov m pl)
   callWith pos f first (backTo pos (starEach (e::es) X.env)) (backToKw pos (keywordEach [] X.env))):=by rfl) :
  PE X (.Call (.Attribute o m apos) (e::es) [] pos) (qQ C m sp dvs E ta t):=by
 intro pins s σ H Q I h
 refine W.methodCall_KW (pl:=pl) (aF (he pins s σ H _ I h) λu s1 ⟨x,H1,I1,rx,a,dx,fs,ex,ea,l,q⟩=>?_) ht
 subst ex
 obtain rfl:u=Value.ref a:=rx
 refine qM I1 ea c hm l ?_
 refine W.callWith_K (first:=[.ref a]) (h₀:=X.base) I.ok.mod.kin hm.kp (aF (ha pos pins s1 σ H1 _ I1 q) λus s2 ⟨vs,H2,I2,r,q2⟩=>⟨I2.kIn,?_⟩) hst hpl
 exact qS (us:=.ref a::us) (vs:=.ref a::vs) F hr hb hd hx I2 (.cons rfl r) q2
structure Mk(K:W.Frag)(C f:Addr):Prop where
 makes:W.makesIn K C=true
 init:W.findIn K (.ref C) "__init__" = some (some (.ref f))
 fn:W.isFn K (.ref f)=true
 kp:W.keepIn K (.ref C)=true
theorem yY{pins:List (Addr×Obj)}{σ:St}{H:Hp}{s:Shared}{Q:VK}{us:List Value}{vs:List V}(M:Mk X.K C f)(F:y36 X.prog X.w X.K X.mg X.base CX k f fd ps sp)(hr:y4a (k+1) X.A)(hb:bZ X.K fd ps ds)(hd:ag dvs ds)
  (hx:cK CX X E) (I:Inv X pins σ H s) (r:ag vs us)
  (h:∀x dx,H x=none->H dx=none->dx≠x->sp (.ref x::(vs++dvs)) (ax (ax H dx (.own x)) x (.ins C dx [])) (λv H2=>v=.non/\Q (.ref x) H2) E) :
  wpAny (model X.prog X.w) X.A (call (.ref C) us) (EP X pins σ Q) X.xe s:=by
 have hq:=h (s.heap.objs.size+1) s.heap.objs.size (I.hok.fresh (Nat.le_succ _)) (I.hok.fresh (z12 _)) (z1f (z34 _))
 have I2:=Inv.made (C:=C) I
 have r2:ag (V.ref (s.heap.objs.size+1)::(vs++dvs)) (Value.ref (s.heap.objs.size+1)::(us++ds)):=.cons rfl (r.append hd)
 have hl:(Value.ref (s.heap.objs.size+1)::us++ds).length=ps.length:=by
  have e:=r2.length
  rw [F.len _ _ _ _ hq] at e
  exact e.symm
 refine wpAny_call (yK (f:=f) I.kIn M.makes M.init (beq_iff_eq.mp M.fn) (codeAny_mono (F.run _ X.stack _ _ ⟨Value.ref (s.heap.objs.size+1)::us,[]⟩ (Value.ref (s.heap.objs.size+1)::(us++ds)) _ _ E (hr.make C us [])
  (I2.env0.make C us []) (hb _ (Value.ref (s.heap.objs.size+1)::us) I2.kIn hl) r2 hq) λr s' hq'=>?_))
 cases r with
 | error e=>exact hx pins σ _ _ e s' I2 hq'
 | ok fl =>
  cases fl with
  | ret u =>
   obtain⟨v,H',I3,rv,ev,q3⟩:=I2.after hq'
   subst ev
   exact⟨rv,⟨V.ref (s.heap.objs.size+1),H',I3,rfl,q3⟩⟩
  | next=>exact False.elim hq'
  | brk=>exact False.elim hq'
  | cont=>exact False.elim hq'
theorem yZ(M:Mk X.K C f)(F:y36 X.prog X.w X.K X.mg X.base CX k f fd ps sp)(hr:y4a (k+1) X.A)(hg:Gl X x)(hm:X.mg x=some (.ref C))(hb:bZ X.K fd ps ds)(hd:ag dvs ds)(hx:cK CX X E)
  (hdb:(x == ("__debug__" : Str))=false:=by decide):PE X (.Call (.Name x p) [] [] pos) (qR C sp dvs E nj):=by
 intro pins s σ H Q I h
 refine wpAny_Call_Name_kw (mQ I hg hm ?_ hdb)
 exact W.callWith_K0 I.kIn M.kp (yY (us:=[]) M F hr hb hd hx I .nil h)
end
section
variable {X:Cx}{CX:iS}{k:Nat}{f C:Addr}{fd:FuncData}{ps ks:List Str}{sp:Sp}{E:XK}{x m:Str}{p pos apos kpos:Pos}{e o:Expr}{es:List Expr}{kws:List Keyword}{te ta:TE}{t tk:TA}{nm:Option Str}
structure KBinds(K:W.Frag)(fd:FuncData)(ps ks:List Str)(g:List Value->List Value->List Value)(gV:List V->List V->List V):Prop where
 to:∀(s:Shared) (us ws:List Value),K.In s.heap->(g us ws).length=ps.length->BindsTo s fd ⟨us,ks.zip ws⟩ (ps.zip (g us ws))
 rel:∀{vs:List V} {us:List Value} {zs:List V} {ws:List Value},ag vs us->ag zs ws->ag (gV vs zs) (g us ws)
variable {g:List Value->List Value->List Value}{gV:List V->List V->List V}
end
structure y37(N P:List Str)(sc:Scope):Prop where
 kind:sc.kind=.function
 co:sc.isCoroutine=false
 gen:sc.isGenerator=false
 nd:N.Nodup
 pre:N.take P.length=P
 par:∀x∈P,sc.names.lookup x=some .local∨sc.names.lookup x=some .cell
 y25f:∀y∈sc.names,y.2≠.free
theorem y82{kindOf:Str->Option NameKind}{x:Str}:∀{binds:List (Str×Value)} {m:Str->Option Value},(∀v,(x,v)∉binds)->bindL kindOf binds m x=m x
 | [],_,_=>rfl
 | (n,v)::r,m,h=>by
  unfold bindL
  rw [y82 λw hw=>h w (z22 _ hw)]
  split
  ·have:x≠n:=by rintro rfl;exact h v List.mem_cons_self
   simp [this]
  ·rfl
theorem y80{kindOf:Str->Option NameKind}{x:Str}:∀{binds:List (Str×Value)} {m:Str->Option Value},(∀v,(x,v)∉binds)->bindC kindOf binds m x=m x
 | [],_,_=>rfl
 | (n,v)::r,m,h=>by
  unfold bindC
  rw [y80 λw hw=>h w (z22 _ hw)]
  split
  ·rfl
  ·have:x≠n:=by rintro rfl;exact h v List.mem_cons_self
   simp [this]
theorem y81{kindOf:Str->Option NameKind}{x:Str}{v:Value}:∀{P:List Str} {vs:List Value} {i:Nat} {m:Str->Option Value},P.Nodup->P[i]?=some x->vs[i]?=some v->kindOf x=some .local ->
  bindL kindOf (P.zip vs) m x=some v
 | [],_,_,_,_,h,_,_=>by simp at h
 | _::_,[],_,_,_,_,h,_=>by simp at h
 | p::P,w::vs,0,m,nd,h1,h2,hk=>by
  simp at h1 h2;subst h1;subst h2
  show bindL kindOf ((p,w)::P.zip vs) m p=_
  unfold bindL
  rw [y82 λv hv=>(List.nodup_cons.mp nd).1 (List.of_mem_zip hv).1,if_pos hk]
  simp
 | p::P,w::vs,i+1,m,nd,h1,h2,hk=>by
  show bindL kindOf ((p,w)::P.zip vs) m x=_
  unfold bindL
  exact y81 (i:=i) (List.nodup_cons.mp nd).2 (by simpa using h1) (by simpa using h2) hk
theorem y7f{kindOf:Str->Option NameKind}{x:Str}{v:Value}:∀{P:List Str} {vs:List Value} {i:Nat} {m:Str->Option Value},P.Nodup->P[i]?=some x->vs[i]?=some v->kindOf x≠some .local ->
  bindC kindOf (P.zip vs) m x=some v
 | [],_,_,_,_,h,_,_=>by simp at h
 | _::_,[],_,_,_,_,h,_=>by simp at h
 | p::P,w::vs,0,m,nd,h1,h2,hk=>by
  simp at h1 h2;subst h1;subst h2
  show bindC kindOf ((p,w)::P.zip vs) m p=_
  unfold bindC
  rw [y80 λv hv=>(List.nodup_cons.mp nd).1 (List.of_mem_zip hv).1,if_neg hk]
  simp
 | p::P,w::vs,i+1,m,nd,h1,h2,hk=>by
  show bindC kindOf ((p,w)::P.zip vs) m x=_
  unfold bindC
  exact y7f (i:=i) (List.nodup_cons.mp nd).2 (by simpa using h1) (by simpa using h2) hk
noncomputable def start(N:List Str)(vs:List V):St:=vs.map some++List.replicate (N.length-vs.length) none
noncomputable def nr(CX:iS)(P:Program)(w:World)(K:W.Frag)(mg:Str->Option Value)(base:Heap)(N:List Str)(qual:Str)(scope:Scope)(f:Addr)(cd:Value)(A:Around)(outer:List Env)(s:Shared)(H:Hp)(E:XK):Cx where
 prog:=P
 w:=w
 K:=K
 mg:=mg
 base:=base
 A:=A.deeper (envOfC qual scope s.heap.objs.size f cd)
 N:=N
 s₀:=s
 H₀:=H
 env:=envOfC qual scope s.heap.objs.size f cd
 outer:=outer
 stack:=envOfC qual scope s.heap.objs.size f cd::outer
 ex:=[]
 calm:=true
 fn:=λ_=>true
 pn:=[]
 xe:=λe s'=>wpAny (model P w) (A.deeper (envOfC qual scope s.heap.objs.size f cd)) (leaving (envOfC qual scope s.heap.objs.size f cd) e) (λ_ s''=>CX outer H s E e s'') (λe' s''=>CX outer H s E e' s'') s'
theorem ya3{sc:Scope}{n:Nat}{x:Str}(h:sc.names.lookup x=some .cell):∃c,(cellsFrom n sc.names []).lookup x=some c:=by
 have q:=W.cellsFrom_some sc.names n [] (.inl h)
 exact Option.isSome_iff_exists.mp q
theorem zg{CX:iS}{P:Program}{w:World}{K:W.Frag}{mg:Str->Option Value}{base:Heap}{N ps:List Str}{qual:Str}{scope:Scope}{f:Addr}{cd:Value}{A:Around}{outer:List Env}{s s1:Shared}{H:Hp}{E:XK}{us:List Value}{vs:List V}
  (S:y37 N ps scope) (hd:A.handled=none) (e0:y11 P w K mg base A outer s H) (hl:vs.length=ps.length) (r:ag vs us)
  (x:InCallC s s.heap.objs.size (bindL (envOfC qual scope s.heap.objs.size f cd).kindOf (ps.zip us) λ_=>none) (cellsFrom (s.heap.objs.size+1) scope.names []) (bindC (envOfC qual scope s.heap.objs.size f cd).kindOf (ps.zip us) λ_=>none) s1) :
  Inv (nr CX P w K mg base N qual scope f cd A outer s H E) [] (start N vs) H s1:=by
 have hpl:ps.length≤N.length:=by have:=congrArg List.length S.pre;rw [z36] at this;lia
 obtain⟨h1,tk,rfl,hk⟩:=x.done
 have noA:∀b:Addr,b∉(nr CX P w K mg base N qual scope f cd A outer s H E).ex:=λb z=>absurd (show b∈([]:List Addr) from z) (by simp)
 refine⟨⟨e0.mod,S.kind,rfl,rfl,z12 _,λy z c h1 h2=>?_,λy hy=>?_,λy c _ h=>?_,λ_=>hd,Around.frames_deeper e0.frames,.inr ⟨rfl,rfl⟩,λb z=>absurd z (noA b),e0.bs,e0.bsz,λb _ _=>noA b,λb z=>absurd z (noA b),e0.y159,e0.frf⟩,
  rfl,e0.bare,Un.kept hk,⟨_,x.toInCall.ns,λi y v h1 h2 h3=>?_⟩,λy c h=>⟨_,x.cell y c h⟩,e0.hok.fresh (z12 _),λy c h=>?_,λp hp=>absurd (show p∈([]:List (Addr×Obj)) from hp) (by simp),e0.hok.kept hk,?_⟩
 ·exact name_of_addr x.apart (PySem.mem_of_lookup h1) (PySem.mem_of_lookup h2)
 ·have hy:scope.names.lookup y=some .cell∨scope.names.lookup y=some .free:=hy
  rcases hy with hy|hy
  ·exact ya3 hy
  ·exact absurd rfl (S.y25f _ (PySem.mem_of_lookup hy))
 ·exact z38 (x.above y c (PySem.mem_of_lookup h))
 ·have hi:i<vs.length:=by
   unfold start at h2
   by_cases hi:i<vs.length
   ·exact hi
   ·rw [z25 (by simpa using hi)] at h2
    rw [List.getElem?_replicate] at h2
    split at h2<;>cases h2
  have ha:vs[i]?=some v:=by
   unfold start at h2
   rw [z21 (by simpa using hi),List.getElem?_map] at h2
   cases e:vs[i]? with
   | none=>rw [e] at h2;cases h2
   | some a=>rw [e] at h2;cases h2;rfl
  obtain⟨u,hu,rv⟩:=r.get ha
  have hp:ps[i]?=some y:=by
   rw [<- S.pre,List.getElem?_take_of_lt (by lia)];exact h1
  have ndP:ps.Nodup:=by rw [<- S.pre];exact S.nd.sublist (List.take_sublist _ _)
  refine⟨u,rv,?_⟩
  rcases S.par y (z2e hp) with k|k
  ·exact .inl ⟨k,y81 ndP hp hu k⟩
  ·obtain⟨c,e⟩:=ya3 (n:=s.heap.objs.size+1) k
   refine .inr ⟨.inl k,c,e,?_⟩
   have q:=x.cell y c e
   rw [y7f ndP hp hu (by show scope.names.lookup y≠_;rw [k];decide)] at q
   exact q
 ·exact e0.hok.fresh (z38 (x.above y c (PySem.mem_of_lookup h)))
 ·unfold start
  show _=N.length
  rw [z17,z24,List.length_replicate]
  lia
theorem qT{CX:iS}{P:Program}{w:World}{K:W.Frag}{mg:Str->Option Value}{base:Heap}{k:Nat}{f:Addr}{name qual:Str}{params:Arguments}{body:List Stmt}{scope:Scope}{dV kV doc pm cdv ct oc:Value}{an od:Option Addr}
  {osl:Array (Option Value)} {N ps:List Str} {sp:Sp} (lk:K.lookup f=some ⟨oc,od,.func (W.fnOf name qual params body scope dV kV doc pm an cdv ct),osl⟩) (hcd:W.codeIn K cdv qual=true) (S:y37 N ps scope)
  (len:∀vs H Q E,sp vs H Q E->vs.length=ps.length)
  (y18a:∀(A:Around) (outer:List Env) (s:Shared) (H:Hp) (vs:List V) (Q:VK) (E:XK),y4a k (A.deeper (envOfC qual scope s.heap.objs.size f cdv))->sp vs H Q E ->
   ∃t,dY (nr CX P w K mg base N qual scope f cdv A outer s H E) body t/\t { nx:=λ_ H'=>Q .non H',rt:=Q } (start N vs) H) :
  y36 P w K mg base CX (k+1) f (W.fnOf name qual params body scope dV kV doc pm an cdv ct) ps sp:=by
 refine⟨len,λA outer s H args us vs Q E hr e0 hb r hsp=>?_⟩
 have hl:=len _ _ _ _ hsp
 have KX:K.In s.heap:=e0.mod.kin.keeps λb o e=>(e0.bs b o e).1
 have lim:s.heap.NoLimit:=e0.mod.nolimit.keeps λb o e=>(e0.bs b o e).1
 have hkind:∀y∈ps.zip us,scope.names.lookup y.1=some .local∨(scope.names.lookup y.1=some .cell/\((cellsFrom (s.heap.objs.size+1) scope.names []).lookup y.1).isSome=true):=λzz hy=>by
  obtain⟨n,v⟩:=zz
  rcases S.par n (List.of_mem_zip hy).1 with q|q
  ·exact .inl q
  ·exact .inr ⟨q,W.cellsFrom_some _ _ _ (.inl q)⟩
 refine codeAny_call_function hr.depth (KX _ _ lk) rfl S.co S.gen rfl (W.codeRec_of KX hcd) (hb _ _ _ _ ?_)
 refine wpAny_newFunctionEnv_cells S.kind hkind λenv he s1 x=>?_
 subst he
 refine⟨lim.keeps x.toInCall.keep,codeAny_func ?_⟩
 obtain⟨t,ht,hq⟩:=y18a A outer s H vs Q E (hr.deeper _) hsp
 have I:Inv (nr CX P w K mg base N qual scope f cdv A outer s H E) [] (start N vs) H s1:=zg S hr.hd e0 hl r x
 refine wpAny_mono (ht [] s1 (start N vs) H _ I hq) (λfl s' hs=>?_) λe s' hs=>hs
 have fin:∀{σ':St} {H':Hp} {v:V} {u:Value},Inv (nr CX P w K mg base N qual scope f cdv A outer s H E) [] σ' H' s'->au v u->Q v H'->CE outer P w H s Q u s' :=
  λ{σ' H' v u} J rv q=>⟨v,H',J.os,J.bare,J.base,J.hok,rv,q⟩
 cases fl with
 | ret u =>
  obtain⟨v,σ',H',J,rv,q⟩:=hs
  exact fin J rv q
 | next =>
  obtain⟨σ',H',J,q⟩:=hs
  exact fin (v:=V.non) (u:=Value.none) J rfl q
 | brk =>
  obtain⟨_,_,_,q⟩:=hs
  exact False.elim q
 | cont =>
  obtain⟨_,_,_,q⟩:=hs
  exact False.elim q
end
section
section
variable {X:Cx}{x:Str}{p pos:Pos}{e:Expr}{es:List Expr}{t:TA}{id T:String}{r:List V->Hp->VK->Prop}
noncomputable def tCB(r:List V->Hp->VK->Prop)(t:TA):TE:=λσ H Q=>t σ H λvs H1=>r vs H1 Q
theorem iY(hc:y9 X (.builtin id) r)(hg:Gl X x)(hm:X.mg x=none)(hv:bootBuiltins x=some (.builtin id))(ha:PA X (e::es) t)(hn:x≠"__name__":=by decide)(hdb:(x == ("__debug__" : Str))=false:=by decide)
  (he:gM X e es:=by rfl) (hpl:fW X pos es:=by rfl):PE X (.Call (.Name x p) (e::es) [] pos) (tCB r t):=by
 intro pins s σ H Q I h
 refine wpAny_Call_Name_kw (dG I hg hm hv ?_ hn hdb)
 exact PyProof.Rows.callWith_builtin1 (aF (ha pos pins s σ H _ I h) λus s1 ⟨vs,H1,I1,r1,q1⟩=>hc pins s1 σ H1 vs us Q I1 r1 q1) he hpl
theorem iZ(hc:y9 X (.type T) r)(hg:Gl X x)(hm:X.mg x=none)(hv:bootBuiltins x=some (.type T))(ha:PA X (e::es) t)(hn:x≠"__name__":=by decide)(hdb:(x == ("__debug__" : Str))=false:=by decide)
  (he:gM X e es:=by rfl) (hpl:fW X pos es:=by rfl):PE X (.Call (.Name x p) (e::es) [] pos) (tCB r t):=by
 intro pins s σ H Q I h
 refine wpAny_Call_Name_kw (dG I hg hm hv ?_ hn hdb)
 exact PyProof.Rows.callWith_type1 (aF (ha pos pins s σ H _ I h) λus s1 ⟨vs,H1,I1,r1,q1⟩=>hc pins s1 σ H1 vs us Q I1 r1 q1) he hpl
end
end
section
section
variable {κ:Type}[DecidableEq κ]
noncomputable def bD(kvs:List (κ×V))(k:κ):Option V:=(kvs.find? λkv=>decide (kv.1=k)).map (·.2)
noncomputable def bE(kvs:List (κ×V))(k:κ)(v:V):List (κ×V) :=
 if (kvs.any λkv=>decide (kv.1=k))=true then kvs.map (λkv=>if kv.1=k then (kv.1,v) else kv) else kvs++[(k,v)]
theorem kf{p:κ×V}{r:List (κ×V)}{k:κ}(e:p.1=k):bD (p::r) k=some p.2:=by simp [bD,List.find?_cons,e]
theorem kg{p:κ×V}{r:List (κ×V)}{k:κ}(e:¬ p.1=k):bD (p::r) k=bD r k:=by simp [bD,List.find?_cons,e]
theorem qU(k:κ):∀kvs:List (κ×V),(kvs.any λkv=>decide (kv.1=k))=(bD kvs k).isSome
 | []=>rfl
 | p::r=>by
  rw [List.any_cons]
  by_cases e:p.1=k
  ·simp only [kf e,decide_eq_true e,Bool.true_or,Option.isSome_some]
  ·rw [kg e,decide_eq_false e,Bool.false_or];exact qU k r
theorem kh(kvs:List (κ×V))(k:κ)(v:V):(bE kvs k v).length≤kvs.length+1:=by
 unfold bE
 split
 ·rw [z24];lia
 ·rw [z17,z29,List.length_nil];lia
theorem fO.y1c4{o:Option V}{u:Option Value}(r:fO o u):o.isSome=u.isSome:=by
 cases o with
 | none=>cases u with
  | none=>rfl
  | some _=>exact (show False from r).elim
 | some _=>cases u with
  | none=>exact (show False from r).elim
  | some _=>rfl
theorem KV.val{kvs:List (κ×V)}{vs:List (κ×Value)}(r:KV kvs vs)(k:κ):fO (bD kvs k) (valueAt vs k):=by
 unfold KV at r
 induction r with
 | nil=>exact True.intro
 | @cons p q ps qs h t ih =>
  obtain⟨h1,h2⟩:=h
  by_cases e:p.1=k
  ·have e':q.1=k:=h1.symm.trans e
   have b:valueAt (q::qs) k=some q.2:=by simp [valueAt,List.find?_cons,e']
   rw [kf e,b];exact h2
  ·have e':¬ q.1=k:=λz=>e (h1.trans z)
   have b:valueAt (q::qs) k=valueAt qs k:=by simp [valueAt,List.find?_cons,e']
   rw [kg e,b];exact ih
theorem KV.any{kvs:List (κ×V)}{vs:List (κ×Value)}(r:KV kvs vs)(k:κ):(kvs.any λkv=>decide (kv.1=k))=vs.any λkv=>decide (kv.1=k):=by
 unfold KV at r
 induction r with
 | nil=>rfl
 | cons h t ih=>rw [List.any_cons,List.any_cons,ih,h.1]
theorem KV.repl{kvs:List (κ×V)}{vs:List (κ×Value)}(r:KV kvs vs)(k:κ){y:V}{u:Value}(ry:au y u) :
  KV (kvs.map λkv=>if kv.1=k then (kv.1,y) else kv) (vs.map λkv=>if kv.1=k then (kv.1,u) else kv):=by
 unfold KV at r ⊢
 induction r with
 | nil=>exact .nil
 | @cons p q ps qs h t ih =>
  rw [z15,z15]
  refine .cons ?_ ih
  obtain⟨h1,h2⟩:=h
  by_cases e:p.1=k
  ·rw [if_pos e,if_pos (h1.symm.trans e)];exact⟨h1,ry⟩
  ·rw [if_neg e,if_neg (λz=>e (h1.trans z))];exact⟨h1,h2⟩
theorem KV.put{kvs:List (κ×V)}{vs:List (κ×Value)}(r:KV kvs vs)(k:κ){y:V}{u:Value}(ry:au y u):KV (bE kvs k y) (stored vs k u):=by
 unfold bE stored
 rw [r.any k]
 by_cases e:(vs.any λkv=>decide (kv.1=k))=true
 ·rw [if_pos e,if_pos e];exact r.repl k ry
 ·rw [if_neg e,if_neg e];exact Paired.snoc r ⟨rfl,ry⟩
theorem KV.length{kvs:List (κ×V)}{vs:List (κ×Value)}(r:KV kvs vs):kvs.length=vs.length:=Paired.length r
end
theorem i0{P:Program}{w:World}{k:ai}{u:Value}(r:au (kV k) u):(bx P w).is k u=true:=by
 cases k with
 | inl i=>obtain⟨t,e⟩:=(show ∃t,u=Value.int i t from r);subst e;exact xy P w i t
 | inr x=>obtain⟨t,e⟩:=(show ∃t,u=Value.str x t from r);subst e;exact xA P w x t
theorem qV{P:Program}{w:World}:∀{ks:List ai} {us:List Value},ag (ks.map kV) us->ItemsAre (bx P w) ks us
 | [],_,r=>by rw [List.map_nil] at r;cases r;exact .nil
 | k::ks,_,r=>by
  rw [z15] at r
  cases r with
  | cons h t=>exact .cons (i0 h) (qV t)
noncomputable abbrev KT(H:Hp):List (List ai×V)->List (List ai×Addr×Value)->Prop:=Paired λp q=>p.1=q.1/\H q.2.1=some (.tup (p.1.map kV))/\au p.2 q.2.2
theorem KT.val{H:Hp}{kvs:List (List ai×V)}{xs:List (List ai×Addr×Value)}(r:KT H kvs xs)(k:List ai):fO (bD kvs k) ((atKey xs k).map (·.2)):=by
 induction r with
 | nil=>exact True.intro
 | @cons p q ps qs h t ih =>
  obtain⟨h1,_,h2⟩:=h
  by_cases e:p.1=k
  ·have e':q.1=k:=h1.symm.trans e
   have b:atKey (q::qs) k=some q.2:=by simp [atKey,List.find?_cons,e']
   rw [kf e,b];exact h2
  ·have e':¬ q.1=k:=λz=>e (h1.trans z)
   have b:atKey (q::qs) k=atKey qs k:=by simp [atKey,List.find?_cons,e']
   rw [kg e,b];exact ih
theorem KT.repl{H:Hp}{kvs:List (List ai×V)}{xs:List (List ai×Addr×Value)}(r:KT H kvs xs)(k:List ai){y:V}{u:Value}(ry:au y u) :
  KT H (kvs.map λkv=>if kv.1=k then (kv.1,y) else kv) (xs.map (putAt k u)):=by
 induction r with
 | nil=>exact .nil
 | @cons p q ps qs h t ih =>
  rw [z15,z15]
  refine .cons ?_ ih
  obtain⟨h1,h2,h3⟩:=h
  unfold putAt
  by_cases e:p.1=k
  ·rw [if_pos e,if_pos (h1.symm.trans e)];exact⟨h1,h2,ry⟩
  ·rw [if_neg e,if_neg (λz=>e (h1.trans z))];exact⟨h1,h2,h3⟩
theorem KT.put{H:Hp}{kvs:List (List ai×V)}{xs:List (List ai×Addr×Value)}(r:KT H kvs xs)(k:List ai){b:Addr}{y:V}{u:Value}(hb:H b=some (.tup (k.map kV)))(ry:au y u) :
  KT H (bE kvs k y) (storedH xs k b u):=by
 have e:(kvs.any λkv=>decide (kv.1=k))=(atKey xs k).isSome:=by
  rw [qU,(r.val k).y1c4,Option.isSome_map]
 unfold bE storedH
 rw [e]
 by_cases q:(atKey xs k).isSome=true
 ·rw [if_pos q,if_pos q];exact r.repl k ry
 ·rw [if_neg q,if_neg q];exact Paired.snoc r ⟨rfl,hb,ry⟩
theorem KT.keeps{H H':Hp}{kvs:List (List ai×V)}{xs:List (List ai×Addr×Value)}(r:KT H kvs xs)(ht:∀b ys,H b=some (.tup ys)->H' b=some (.tup ys)):KT H' kvs xs :=
 Paired.mapP r λ_ _ z=>⟨z.1,ht _ _ z.2.1,z.2.2⟩
section
variable {P:Program}{w:World}{H:Hp}{h:Heap}{a:Addr}
theorem qW{u:HO}(ok:cm P w H h)(e:Rd H a u):cn P w H h a u:=e.ok ok
theorem qX{kvs:List (ai×V)}(ok:cm P w H h)(e:Rd H a (.dK kvs)):kvs.length≤sizeLine/\(a == sysModules)=false/\∃vs,KV kvs vs/\h.DictOf (bx P w) a vs :=
 show cn P w H h a (.dK kvs) from qW ok e
theorem nu{kvs:List (ai×V)}(ok:cm P w H h)(e:H a=some (.dK kvs)):kvs.length≤sizeLine/\(a == sysModules)=false/\∃vs,KV kvs vs/\h.DictOf (bx P w) a vs:=qX ok (.inl e)
theorem gN{ks:List ai}(ok:cm P w H h)(e:H a=some (.tup (ks.map kV))):(tupleKind (bx P w)).is h ks a:=by
 obtain⟨_,its,r,o,h1,h2,_,n,h3⟩:=(show cn P w H h a (.tup (ks.map kV)) from ok a _ e)
 exact⟨o,its.toArray,n,h1,h2,h3,by simpa using qV r⟩
theorem wW{kvs:List (List ai×V)}(ok:cm P w H h)(e:Rd H a (.dT kvs)):kvs.length≤sizeLine/\(a == sysModules)=false /\
  ∃xs,KT H kvs xs/\h.DictOfH (tupleKind (bx P w)) a xs:=by
 obtain⟨z,y,xs,r,o,es,ep,h1,h2,h3,h4,h5⟩:=(show cn P w H h a (.dT kvs) from qW ok e)
 refine⟨z,y,xs,r,o,es,ep,h1,h2,h3,h4,λx hx=>?_,h5⟩
 have all:∀{l:List (List ai×V)} {m:List (List ai×Addr×Value)},KT H l m->∀x∈m,(tupleKind (bx P w)).is h x.1 x.2.1:=by
  intro l m q
  induction q with
  | nil=>intro x hx;exact nomatch hx
  | @cons p q ps qs hq t ih =>
   intro x hx
   rcases z1b.mp hx with e|hx
   ·subst e
    exact gN ok (by rw [<- hq.1];exact hq.2.1)
   ·exact ih x hx
 exact all r x hx
theorem wX{kvs:List (List ai×V)}(ok:cm P w H h)(e:H a=some (.dT kvs)):kvs.length≤sizeLine/\(a == sysModules)=false /\
  ∃xs,KT H kvs xs/\h.DictOfH (tupleKind (bx P w)) a xs:=wW ok (.inl e)
end
noncomputable def ye(H:Hp)(a:Addr)(y:V)(r:Option V):Prop :=
 (∃kvs k,Rd H a (.dK kvs)/\y=kV k/\r=bD kvs k)∨∃kvs k b,Rd H a (.dT kvs)/\y=.ref b/\H b=some (.tup (k.map kV))/\r=bD kvs k
noncomputable def yf(H:Hp)(a:Addr)(y v:V)(H':Hp):Prop :=
 (∃kvs k,H a=some (.dK kvs)/\y=kV k/\kvs.length<sizeLine/\H'=ax H a (.dK (bE kvs k v))) ∨
 ∃kvs k b,H a=some (.dT kvs)/\y=.ref b/\H b=some (.tup (k.map kV))/\kvs.length<sizeLine/\H'=ax H a (.dT (bE kvs k v))
theorem ye.k{H:Hp}{a:Addr}{kvs:List (ai×V)}{k:ai}(e:H a=some (.dK kvs)):ye H a (kV k) (bD kvs k):=.inl ⟨kvs,k,.inl e,rfl,rfl⟩
theorem ye.t{H:Hp}{a b:Addr}{kvs:List (List ai×V)}{k:List ai}(e:H a=some (.dT kvs))(eb:H b=some (.tup (k.map kV))):ye H a (.ref b) (bD kvs k):=.inr ⟨kvs,k,b,.inl e,rfl,eb,rfl⟩
theorem yf.k{H:Hp}{a:Addr}{kvs:List (ai×V)}{k:ai}{v:V}(e:H a=some (.dK kvs))(hl:kvs.length<sizeLine):yf H a (kV k) v (ax H a (.dK (bE kvs k v))):=.inl ⟨kvs,k,e,rfl,hl,rfl⟩
theorem yf.t{H:Hp}{a b:Addr}{kvs:List (List ai×V)}{k:List ai}{v:V}(e:H a=some (.dT kvs))(eb:H b=some (.tup (k.map kV)))(hl:kvs.length<sizeLine) :
  yf H a (.ref b) v (ax H a (.dT (bE kvs k v))):=.inr ⟨kvs,k,b,e,rfl,eb,hl,rfl⟩
section
variable {X:Cx}{pins:List (Addr×Obj)}{σ:St}{H:Hp}{s:Shared}{a:Addr}{y v:V}{u r:Value}{o:Option V}{A:Around}{E:Value->Shared->Prop}
theorem Inv.big(I:Inv X pins σ H s):sysModules<s.heap.objs.size:=by
 have h:mainGlobals<s.heap.objs.size:=(I.mod.glob.keeps I.bk).lt
 exact Nat.lt_trans (by decide) h
theorem yc5{Q:Value->Shared->Prop}(hu:A.units+1<cLine)(I:Inv X pins σ H s)(g:ye H a y (some v))(ry:au y u)(h:∀w' s',Inv X pins σ H s'->au v w'->Q w' s') :
  wpAny (model X.prog X.w) A (getItem (.ref a) u) Q E s:=by
 rcases g with⟨kvs,k,e,ey,l⟩| ⟨kvs,k,b,e,ey,eb,l⟩
 ·subst ey
  obtain⟨z,hd,vs,rel,dd⟩:=qX I.hok e
  obtain⟨w',hw,rw'⟩:=fO.some_of (v:=v) (o:=valueAt vs k) (by rw [l];exact rel.val k)
  exact wpAny_getItem_of (i0 ry) dd.mapOf hw (h w' _ (I.tok _) rw')
 ·subst ey
  cases (show u=Value.ref b from ry)
  obtain⟨z,hd,xs,rel,dd⟩:=wW I.hok e
  obtain⟨w',hw,rw'⟩:=fO.some_of (v:=v) (o:=(atKey xs k).map (·.2)) (by rw [l];exact rel.val k)
  obtain⟨p,hp,hp2⟩:=Option.map_eq_some_iff.mp hw
  refine wpAny_getItem_heap (tupleKind_room_in1 hu) (gN I.hok eb) dd hp ?_
  rw [hp2]
  exact h w' _ (I.tok _) rw'
theorem yc6{Q:Value->Shared->Prop}(hu:A.units+1<cLine)(I:Inv X pins σ H s)(g:ye H a y o)(ry:au y u)(h:∀s',Inv X pins σ H s'->Q (.bool (!o.isSome)) s') :
  wpAny (model X.prog X.w) A (compareOp .NotIn u (.ref a)) Q E s:=by
 rcases g with⟨kvs,k,e,ey,l⟩| ⟨kvs,k,b,e,ey,eb,l⟩
 ·subst ey
  obtain⟨z,hd,vs,rel,dd⟩:=qX I.hok e
  refine wpAny_notIn_of (i0 ry) hd dd.mapOf ?_
  rw [<- (rel.val k).y1c4,<- l]
  exact h _ (I.tok _)
 ·subst ey
  cases (show u=Value.ref b from ry)
  obtain⟨z,hd,xs,rel,dd⟩:=wW I.hok e
  refine wpAny_notIn_heap (tupleKind_room_in1 hu) (gN I.hok eb) hd dd ?_
  have q:=(rel.val k).y1c4
  rw [Option.isSome_map] at q
  rw [<- q,<- l]
  exact h _ (I.tok _)
theorem pJ{h':Heap}{t':Nat}{ob:HO}(I:Inv X pins σ H s)(mu:pW (H a))(hs:Heap.SameBut a s.heap h')(he:∃q,h'.get? a=some q)(new:cn X.prog X.w (ax H a ob) h' a ob) :
  Inv X pins σ (ax H a ob) { s with heap:=h',toks:=t' } :=
 I.write (x:=a) (e:=a) mu (.inl rfl) (λb q hb z=>(hs.2 b hb).trans z) he new
theorem ye6{P:Program}{w:World}{H':Hp}{h':Heap}{kvs:List (ai×V)}{vs:List (ai×Value)}(z:kvs.length≤sizeLine)(hd:(a == sysModules)=false)(rel:KV kvs vs)(dd:h'.DictOf (bx P w) a vs) :
  cn P w H' h' a (.dK kvs):=⟨z,hd,vs,rel,dd⟩
theorem yc7{H':Hp}{Q:Unit->Shared->Prop}(hu:A.units+1<cLine)(I:Inv X pins σ H s)(g:yf H a y v H')(ry:au y u)(rv:au v r)(h:∀s',Inv X pins σ H' s'->Q () s') :
  wpAny (model X.prog X.w) A (setItem (.ref a) u r) Q E s:=by
 rcases g with⟨kvs,k,e,ey,l,eH⟩| ⟨kvs,k,b,e,ey,eb,l,eH⟩
 ·subst ey eH
  obtain⟨z,hd,vs,rel,dd⟩:=nu I.hok e
  have hz:vs.length≤sizeLine:=by rw [<- rel.length];exact z
  have hl:(bE kvs k v).length≤sizeLine:=by have:=kh kvs k v;lia
  refine wpAny_setItem_pairs (hsz:=hz) (i0 ry) dd λh' dd' hs=>h _ ?_
  have he:∃q,h'.get? a=some q:=let ⟨q,_,_,hq,_⟩:=dd';⟨q,hq⟩
  exact pJ I (by rw [e];exact True.intro) hs he (ye6 hl hd (rel.put k rv) dd')
 ·subst ey eH
  cases (show u=Value.ref b from ry)
  obtain⟨z,hd,xs,rel,dd⟩:=wX I.hok e
  have hz:xs.length≤sizeLine:=by rw [<- Paired.length rel];exact z
  have hl:(bE kvs k v).length≤sizeLine:=by have:=kh kvs k v;lia
  refine wpAny_setItem_heap (hsz:=hz) (tupleKind_room_in1 hu) (gN I.hok eb) dd λh' dd' hs=>h _ ?_
  obtain⟨q,es,ep,hq,h2,h3,h4,_,h5⟩:=dd'
  refine pJ I (by rw [e];exact True.intro) hs ⟨q,hq⟩ ⟨hl,hd,_,(rel.put k eb rv).keeps λc ys ec=>?_,q,es,ep,hq,h2,h3,h4,h5⟩
  rw [ay (iV ec e (λz=>nomatch z))]
  exact ec
end
section
variable {X:Cx}{pins:List (Addr×Obj)}{σ:St}{H:Hp}{s:Shared}{a:Addr}{kvs:List (ai×V)}{k:ai}{u:Value}{A:Around}{E:Value->Shared->Prop}
theorem qY{Q:Value->Shared->Prop}(I:Inv X pins σ H s)(e:Rd H a (.dK kvs))(h:∀t s',Inv X pins σ H s'->Q (.int kvs.length t) s'):wpAny (model X.prog X.w) A (call (.builtin "len") [.ref a]) Q E s:=by
 obtain⟨z,hd,vs,rel,dd⟩:=qX I.hok e
 refine call_len_dict hd dd (by rw [<- rel.length];rw [sizeLine_eq] at z;lia) ?_
 rw [<- rel.length]
 exact h _ _ (I.tok _)
end
noncomputable def qZ(i:Expr):Prop:=∀ov iv,subscripted i false ov iv=operate [ov,iv] (getItem ov iv)
theorem zh{prog:Program}{w:World}{A:Around}{E:Value->Shared->Prop}{s:Shared}{env:Env}{value slice:Expr}{pos:Pos}{T id:String}{Q:Value->Shared->Prop}
  (hl:typeLookup (.type T) "__getitem__" = pure (some (.builtin id))) (hs:qZ slice)
  (h:wpAny (model prog w) A (eval value env) (λo s₁=>wpAny (model prog w) A (eval slice env) (λi s₂=>s₂.TypeIs o T/\wpAny (model prog w) A (getItem o i) Q E s₂) E s₁) E s) :
  wpAny (model prog w) A (eval (.Subscript value slice pos) env) Q E s:=by
 refine Subscript_ (wpAny_mono h (λo s₁ h₁=>wpAny_mono h₁ (λi s₂ h₂=>?_) λ_ _ x=>x) λ_ _ x=>x)
 obtain⟨hT,h₂⟩:=h₂
 unfold subscriptTail
 refine zc ?_
 rw [getitemInPython_of_ne hT.not_modules]
 refine zc (wpAny_specialOf hT hl ?_)
 have fin:wpAny (model prog w) A (subscripted slice false o i) (λr s₃=>wpAny (model prog w) A (letTemporaryGo value o r >>= λ_=>pure r) Q E s₃) E s₂:=by
  rw [hs o i]
  exact wpAny_operating (wpAny_mono h₂ (λr s₃ h₃=>zc (wpAny_letTemporaryGo (zf h₃))) λ_ _ x=>x)
 first
  | exact zf (zc fin)
  | exact zc (zf (zc fin))
  | exact zc fin
theorem ye3{X:Cx}{pins:List (Addr×Obj)}{σ:St}{H:Hp}{s:Shared}{a:Addr}{y:V}{o:Option V}(I:Inv X pins σ H s)(g:ye H a y o):s.TypeIs (.ref a) "dict":=by
 rcases g with⟨kvs,k,e,_,_⟩| ⟨kvs,k,b,e,_,_,_⟩
 ·obtain⟨_,_,vs,_,dd⟩:=qX I.hok e
  exact dd.typeIs
 ·obtain⟨_,_,xs,_,dd⟩:=wW I.hok e
  exact dd.typeIs
noncomputable def rf(td ty:TE):TE:=λσ H Q=>td σ H λx H1=>ty σ H1 λy H2=>∃a v,x=.ref a/\ye H2 a y (some v)/\Q v H2
noncomputable def zi(ty td:TE):TE:=λσ H Q=>ty σ H λy H1=>td σ H1 λx H2=>∃a o,x=.ref a/\ye H2 a y o/\Q (.bl (!o.isSome)) H2
noncomputable def rg(td ty tv:TE):TS:=λD σ H=>tv σ H λv H1=>td σ H1 λx H2=>ty σ H2 λy H3=>∃a H4,x=.ref a/\yf H3 a y v H4/\D.nx σ H4
section
variable {X:Cx}{o i e value:Expr}{pos pos' tpos:Pos}{td ty tv:TE}
theorem zj(hu:X.A.units+1<cLine)(ho:PE X o td)(hi:PE X i ty)(hs:qZ i):PE X (.Subscript o i pos) (rf td ty):=by
 intro pins s σ H Q I h
 refine zh PySem.F.slot_dict_getitem.lookup hs (aF (ho pins s σ H _ I h) λu s1 ⟨x,H1,I1,rx,q1⟩=>aF (hi pins s1 σ H1 _ I1 q1) λiv s2 zz=>?_)
 obtain⟨y,H2,I2,ry,a,v,ex,g,q2⟩:=zz
 subst ex
 obtain rfl:u=Value.ref a:=rx
 exact⟨ye3 I2 g,yc5 hu I2 g ry λw' s3 I3 rw'=>⟨v,H2,I3,rw',q2⟩⟩
theorem zl(hu:X.A.units+1<cLine)(hi:PE X i ty)(ho:PE X o td):PC X .NotIn i o (zi ty td):=by
 intro pins s σ H Q I h
 refine aF (hi pins s σ H _ I h) λiv s1 ⟨y,H1,I1,ry,q1⟩=>aF (ho pins s1 σ H1 _ I1 q1) λu s2 zz=>?_
 obtain⟨x,H2,I2,rx,a,ov,ex,g,q2⟩:=zz
 subst ex
 obtain rfl:u=Value.ref a:=rx
 exact yc6 hu I2 g ry λs3 I3=>⟨.bl (!ov.isSome),H2,I3,rfl,q2⟩
theorem zm(hu:X.A.units+1<cLine)(ho:PE X o td)(hi:PE X i ty)(hv:PE X value tv)(hs:swapsWith value (some (.Subscript o i pos')) pos.line X.env=pure false) :
  PS X (.Assign [.Subscript o i pos'] value pos) (rg td ty tv):=by
 intro pins s σ H D I h
 refine wpAny_Assign_Subscript (aF (hv pins s σ H _ I h) λr s1 ⟨v,H1,I1,rv,q1⟩=>aF (ho pins s1 σ H1 _ I1 q1) λu s2 ⟨x,H2,I2,rx,q2⟩=>aF (hi pins s2 σ H2 _ I2 q2) λiv s3 ⟨y,H3,I3,ry,a,H4,ex,g,q3⟩=>?_) hs
 subst ex
 obtain rfl:u=Value.ref a:=rx
 exact yc7 hu I3 g ry rv λs4 I4=>⟨σ,H4,I4,q3⟩
end
theorem ye5{P:Program}{w:World}{H:Hp}(h:Heap)(hb:sysModules<h.objs.size):cn P w H (h.push { cls:=.type "dict",data:=.dict #[] }) h.objs.size (.dK []) :=
 ⟨Nat.zero_le _,beq_eq_false_iff_ne.mpr (Ne.symm (z1f hb)),[],.nil,Heap.DictOf.new h⟩
theorem yf2{P:Program}{w:World}{H:Hp}(h:Heap)(hb:sysModules<h.objs.size):cn P w H (h.push { cls:=.type "dict",data:=.dict #[] }) h.objs.size (.dT []) :=
 ⟨Nat.zero_le _,beq_eq_false_iff_ne.mpr (Ne.symm (z1f hb)),[],.nil,_,#[],0,z1c _ rfl,⟨rfl,rfl,rfl⟩,rfl,rfl,List.nodup_nil⟩
noncomputable def rh:TE:=λ_ H Q=>∀p,H p=none->Q (.ref p) (ax H p (.dK []))
noncomputable def rj:TE:=λ_ H Q=>∀p,H p=none->Q (.ref p) (ax H p (.dT []))
section
variable {X:Cx}{pos:Pos}
theorem zo:PE X (.Dict [] [] pos) rh:=λpins s σ H Q I h =>
 wpAny_Dict_empty ⟨.ref s.heap.objs.size,_,I.laid (a:=s.heap.objs.size) (o:=.dK []) (t':=s.toks) (λ_ _ q=>ze _ q) (z12 _) (ye5 s.heap I.big),rfl,h _ (I.hok.fresh (z12 _))⟩
theorem zp:PE X (.Dict [] [] pos) rj:=λpins s σ H Q I h =>
 wpAny_Dict_empty ⟨.ref s.heap.objs.size,_,I.laid (a:=s.heap.objs.size) (o:=.dT []) (t':=s.toks) (λ_ _ q=>ze _ q) (z12 _) (yf2 s.heap I.big),rfl,h _ (I.hok.fresh (z12 _))⟩
end
noncomputable def ki:List (TE×TE)->St->Hp->(List (V×V)->Hp->Prop)->Prop
 | [],_,H,Q=>Q [] H
 | (tk,tv)::r,σ,H,Q=>tk σ H λx H1=>tv σ H1 λy H2=>ki r σ H2 λps H3=>Q ((x,y)::ps) H3
noncomputable abbrev VV:List (V×V)->List (Value×Value)->Prop:=Paired λp q=>au p.1 q.1/\au p.2 q.2
noncomputable def rn(X:Cx)(pos:Pos)(keys:List (Option Expr))(values:List Expr)(trs:List (TE×TE)):Prop :=
 ∀(pins:List (Addr×Obj)) (s:Shared) (σ:St) (H:Hp) (Q:List (V×V)->Hp->Prop),Inv X pins σ H s->ki trs σ H Q ->
  wpAny (model X.prog X.w) X.A (evalPairs (pairTrees keys values X.env pos)) (λvs s'=>∃ps H',Inv X pins σ H' s'/\VV ps vs/\Q ps H') X.xe s
theorem zq{X:Cx}{pos:Pos}:rn X pos [] [] []:=λpins s σ H Q I h=>pairTrees_nil_walk ⟨[],H,I,.nil,h⟩
theorem zr{X:Cx}{pos:Pos}{k v:Expr}{ks:List (Option Expr)}{vs:List Expr}{tk tv:TE}{trs:List (TE×TE)}(hk:PE X k tk)(hv:PE X v tv)(hr:rn X pos ks vs trs) :
  rn X pos (some k::ks) (v::vs) ((tk,tv)::trs):=λpins s σ H Q I h =>
 pairTrees_cons_walk (aF (hk pins s σ H _ I h) λu s1 ⟨x,H1,I1,rx,q1⟩=>aF (hv pins s1 σ H1 _ I1 q1) λw2 s2 ⟨y,H2,I2,ry,q2⟩ =>
  aF (hr pins s2 σ H2 _ I2 q2) λws s3 ⟨ps,H3,I3,rel,q3⟩=>⟨(x,y)::ps,H3,I3,.cons ⟨rx,ry⟩ rel,q3⟩)
noncomputable def fX(kvs more:List (ai×V)):List (ai×V):=more.foldl (λacc kv=>bE acc kv.1 kv.2) kvs
theorem KV.merge:∀{more:List (ai×V)} {rs:List (ai×Value)} {kvs:List (ai×V)} {vs:List (ai×Value)},KV more rs->KV kvs vs->KV (fX kvs more) (merged vs rs):=by
 intro more rs kvs vs r
 unfold KV at r
 induction r generalizing kvs vs with
 | nil=>intro q;exact q
 | @cons p q ps qs h t ih =>
  intro r0
  have e:KV (bE kvs p.1 p.2) (stored vs q.1 q.2):=by
   have:=r0.put p.1 h.2
   rw [<- h.1];exact this
  exact ih e
theorem rq:∀(more kvs:List (ai×V)),(fX kvs more).length≤kvs.length+more.length
 | [],kvs=>by show kvs.length≤kvs.length+0;lia
 | p::r,kvs=>by
  have h1:=rq r (bE kvs p.1 p.2)
  have h2:=kh kvs p.1 p.2
  show (fX (bE kvs p.1 p.2) r).length≤_
  rw [z29];lia
theorem ya1{P:Program}{w:World}:∀{kvs:List (ai×V)} {ws:List (Value×Value)},VV (kvs.map λkv=>(kV kv.1,kv.2)) ws->∃rs,Carries (bx P w) ws rs/\KV kvs rs
 | [],_,r=>by rw [List.map_nil] at r;cases r;exact⟨[],True.intro,.nil⟩
 | p::kvs,_,r=>by
  rw [z15] at r
  cases r with
  | @cons a b as bs h t =>
   obtain⟨rs,c,q⟩:=ya1 (P:=P) (w:=w) t
   obtain⟨b1,b2⟩:=b
   exact⟨(p.1,b2)::rs,⟨i0 h.1,rfl,c⟩,.cons ⟨rfl,h.2⟩ q⟩
noncomputable def rC(trs:List (TE×TE)):TE:=λσ H Q=>∀p,H p=none->ki trs σ (ax H p (.dK [])) λps H2=>H2 p=some (.dK [])/\∃kvs:List (ai×V),ps=kvs.map (λkv=>(kV kv.1,kv.2))/\kvs.length≤15/\Q (.ref p) (ax H2 p (.dK (fX [] kvs)))
theorem zt{X:Cx}{pos:Pos}{keys:List (Option Expr)}{values:List Expr}{trs:List (TE×TE)}(h:rn X pos keys values trs)(y182:keys.all (·.isSome)=true)(hl:keys.length=values.length)(h0:keys≠[])
  (h15:keys.length≤15):PE X (.Dict keys values pos) (rC trs):=by
 intro pins s σ H Q I q
 have hn:=I.hok.fresh (z12 s.heap.objs.size)
 have I1:=I.laid (a:=s.heap.objs.size) (o:=.dK []) (h':=s.heap.push { cls:=.type "dict",data:=.dict #[] }) (t':=s.toks) (λ_ _ q=>ze _ q) (z12 _) (ye5 s.heap I.big)
 refine wpAny_Dict_walk (knd:=bx X.prog X.w) y182 hl h0 h15 (aF (h pins _ σ _ _ I1 (q _ hn)) λws s2 zz=>?_)
 obtain⟨ps,H2,I2,rel,e,kvs,ep,lk,q2⟩:=zz
 subst ep
 obtain⟨rs,c,rk⟩:=ya1 (P:=X.prog) (w:=X.w) rel
 obtain⟨z,hd,vs0,r0,dd⟩:=nu I2.hok e
 cases r0
 refine⟨rs,c,dd,λh' dd' hs=>⟨.ref s.heap.objs.size,_,?_,rfl,q2⟩⟩
 have hz:(fX [] kvs).length≤sizeLine:=by
  have h1:=rq kvs []
  rw [List.length_nil] at h1
  rw [sizeLine_eq];lia
 have he:∃q,h'.get? s.heap.objs.size=some q:=let ⟨q,_,_,hq,_⟩:=dd';⟨q,hq⟩
 exact pJ I2 (by rw [e];exact True.intro) hs he (ye6 hz hd (rk.merge .nil) dd')
structure M1(X:Cx)(o:Expr)(m:Str)(apos:Pos)(e:Expr)(yb8:Pos):Prop where
 base:attributeBase o m X.env (eval o X.env)=eval o X.env
 few:((backTo yb8 (starEach [e] X.env)).all (λx=>!x.1)&&(backToKw yb8 (keywordEach [] X.env)).all (λx=>x.1.isSome)
  && decide (([e]:List Expr).length+([]:List Keyword).length+(if ([]:List Keyword).isEmpty then 0 else 1)<30))=true
 line:(apos.endLine == yb8.line)=true
 trees:backTo yb8 (starEach [e] X.env)=[(false,eval e X.env)]
structure M2(X:Cx)(o:Expr)(m:Str)(apos:Pos)(e f:Expr)(yb8:Pos):Prop where
 base:attributeBase o m X.env (eval o X.env)=eval o X.env
 few:((backTo yb8 (starEach [e,f] X.env)).all (λx=>!x.1)&&(backToKw yb8 (keywordEach [] X.env)).all (λx=>x.1.isSome)
  && decide (([e,f]:List Expr).length+([]:List Keyword).length+(if ([]:List Keyword).isEmpty then 0 else 1)<30))=true
 line:(apos.endLine == yb8.line)=true
 trees:backTo yb8 (starEach [e,f] X.env)=[(false,eval e X.env),(false,eval f X.env)]
end
end L2
namespace HT
open PySem PyProof.Rows
section
variable {prog:Program}{w:World}{A:Around}{E:Value->Shared->Prop}{s:Shared}
theorem ya2{t b:Addr}{vs ws:List Value}{Q:Value->Shared->Prop}(ht:IsTup s.heap t vs.toArray)(hb:IsTup s.heap b ws.toArray)(hv:vs≠[])
  (h1:ws=[]->Q (.ref t) s) (h2:ws≠[]->Q (.ref s.heap.objs.size) { s with heap:=s.heap.push { cls:=.type "tuple",data:=.seq (vs++ws).toArray } })
  (hsz:vs.length+ws.length≤sizeLine):wpAny (model prog w) A (binaryOp .Add (.ref t) (.ref b)) Q E s:=by
 obtain⟨⟨cls,dd,data,sl⟩,ho,hc,n,hd⟩:=id ht
 obtain⟨⟨cls2,dd2,data2,sl2⟩,ho2,hc2,n2,hd2⟩:=id hb
 simp only at hc hd hc2 hd2
 subst hc hd hc2 hd2
 have e:vs.toArray++ws.toArray=(vs++ws).toArray:=by simp
 by_cases hw:ws=[]
 ·exact concat_meets ⟨_,ho,rfl⟩ ⟨_,ho2,rfl⟩ noFill_tuple_add seq_tuple_add PySem.F.slot_tuple_add PySem.F.entry_tuple_add (PySem.F.args_tuple_add_2 _ _)
   (tuple_addW1 t b vs.toArray ws.toArray n n2 dd dd2 sl sl2 (by simpa using hv) (by simp [hw])) ⟨ho,ho2,h1 hw⟩
 ·refine concat_meets ⟨_,ho,rfl⟩ ⟨_,ho2,rfl⟩ noFill_tuple_add seq_tuple_add PySem.F.slot_tuple_add PySem.F.entry_tuple_add (PySem.F.args_tuple_add_2 _ _)
   (tuple_addW2 t b vs.toArray ws.toArray n n2 dd dd2 sl sl2 (by simpa using hv) (by simpa using hw) (by rw [zd,zd];exact hsz)) ⟨ho,ho2,?_⟩
  rw [e]
  exact h2 hw
noncomputable def sIx(n d:Nat):Option Int->Nat
 | none=>d
 | some v=>if v<0 then (v+(n:Int)).toNat else min v.toNat n
theorem y3a9(n d:Nat):sIx n d none=d:=rfl
theorem y3a8(n d k:Nat):sIx n d (some (k:Int))=min k n:=by
 show (if (k:Int)<0 then ((k:Int)+(n:Int)).toNat else min (k:Int).toNat n)=min k n
 rw [if_neg (by lia),Int.toNat_natCast]
theorem zu(n d:Nat)(hd:d≤n)(o:Option Int):sIx n d o≤n:=by
 cases o with
 | none=>exact hd
 | some v =>
  show (if v<0 then (v+(n:Int)).toNat else min v.toNat n)≤n
  by_cases hv:v<0
  ·rw [if_pos hv];lia
  ·rw [if_neg hv];exact Nat.min_le_right _ _
theorem ya5(v:Int)(n d:Nat):(if v<0 then max (v+(n:Int)) 0 else min v (n:Int))=((sIx n d (some v):Nat):Int):=by
 show (if v<0 then max (v+(n:Int)) 0 else min v (n:Int))=(((if v<0 then (v+(n:Int)).toNat else min v.toNat n):Nat):Int)
 by_cases hv:v<0
 ·simp only [if_pos hv];lia
 ·simp only [if_neg hv];lia
theorem y58(lo hi:Option Int)(n:Nat):Builtin.Slice.sliceAdjust lo hi 1 (n:Int)=(((sIx n 0 lo:Nat):Int),((sIx n n hi:Nat):Int)):=by
 have h1:¬ ((1:Int)<0):=by lia
 unfold Builtin.Slice.sliceAdjust
 simp only [h1,if_false]
 refine Prod.ext ?_ ?_
 ·cases lo with
  | none=>rfl
  | some v=>exact ya5 v n 0
 ·cases hi with
  | none=>rfl
  | some v=>exact ya5 v n n
theorem zv(i j:Nat):Builtin.Slice.slicePlaces (i:Int) (j:Int) 1=j-i:=by
 unfold Builtin.Slice.slicePlaces
 have h1:(1:Int)>0:=by lia
 simp only [h1,if_true,Int.ediv_one]
 split<;>lia
theorem rD{v:Value}{o:Option Int}{Q:Option Int->Shared->Prop}(p:IsPart v o)(h:Q o s):wpAny (model prog w) A (Builtin.Slice.slicePartIndex v) Q E s:=by
 cases p with
 | none=>exact slicePart_none h
 | int i t=>exact slicePart_int h
theorem rE{sl:Addr}{vl vu:Value}{lo hi:Option Int}{n:Nat}{Q:Int×Int×Nat->Shared->Prop}(hs:s.heap.IsSliceOf sl vl vu .none)(pl:IsPart vl lo)(pu:IsPart vu hi)
  (h:Q (((sIx n 0 lo:Nat):Int),1,sIx n n hi-sIx n 0 lo) s):wpAny (model prog w) A (Builtin.Slice.sliceApplied (.ref sl) (pure (n:Int))) Q E s:=by
 obtain⟨os,hos,hcs,hds⟩:=id hs
 unfold Builtin.Slice.sliceApplied Builtin.Slice.sliceFields
 refine zc (zc (wpAny_field hos hds (x:=vl) rfl (zc (wpAny_field hos hds (x:=vu) rfl (zc (wpAny_field hos hds (x:=.none) rfl (zf ?_)))))))
 refine zc (slicePart_none ?_)
 show wpAny _ _ (if ((1:Int) == 0)=true then _ else _) _ _ s
 rw [if_neg (by decide)]
 refine zc (rD pl (zc (rD pu (zc (zf ?_)))))
 show wpAny _ _ (match Builtin.Slice.sliceAdjust lo hi 1 (n:Int) with|(lo,hi)=>pure (lo,(1:Int),Builtin.Slice.slicePlaces lo hi 1)) _ _ s
 rw [y58 lo hi n]
 show wpAny _ _ (pure (((sIx n 0 lo:Nat):Int),(1:Int),Builtin.Slice.slicePlaces ((sIx n 0 lo:Nat):Int) ((sIx n n hi:Nat):Int) 1)) _ _ s
 rw [zv]
 exact zf h
theorem zw(xs:Array Value)(i k:Nat):((List.range k).filterMap λ(m:Nat)=>xs[((i:Int)+(m:Int)*1).toNat]?).toArray=((xs.toList.drop i).take k).toArray:=by
 have e:(λ(m:Nat)=>xs[((i:Int)+(m:Int)*1).toNat]?)=λm=>xs[i+m]?:=by
  funext m
  have:((i:Int)+(m:Int)*1).toNat=i+m:=by lia
  rw [this]
 rw [e]
 have:=pick_run xs i k
 rw [List.filterMap_map] at this
 have e2:((λx=>xs[x]?) ∘ λx=>i+x)=λm=>xs[i+m]?:=rfl
 rw [e2] at this
 rw [this]
theorem y164{t sl:Addr}{items:Array Value}{vl vu:Value}{lo hi:Option Int}{Q:Value->Shared->Prop}(ht:IsTup s.heap t items)(hs:s.heap.IsSliceOf sl vl vu .none)(pl:IsPart vl lo)(pu:IsPart vu hi)
  (hw:¬ (sIx items.size 0 lo=0/\sIx items.size items.size hi=items.size))
  (h:Q (.ref s.heap.objs.size) { s with heap:=s.heap.push { cls:=.type "tuple",data:=.seq ((items.toList.drop (sIx items.size 0 lo)).take (sIx items.size items.size hi-sIx items.size 0 lo)).toArray } })
  (hsz:items.size≤sizeLine):wpAny (model prog w) A (getItem (.ref t) (.ref sl)) Q E s:=by
 have y1a1:sizeOk (.seq ((items.toList.drop (sIx items.size 0 lo)).take (sIx items.size items.size hi-sIx items.size 0 lo)).toArray):=by
  show ((items.toList.drop (sIx items.size 0 lo)).take (sIx items.size items.size hi-sIx items.size 0 lo)).toArray.size≤sizeLine
  rw [zd,z36,z3a,Array.length_toList]
  lia
 have hj:sIx items.size items.size hi≤items.size:=zu _ _ (z12 _) hi
 obtain⟨os,hos,hcs,hds⟩:=id hs
 have hTs:s.TypeIs (.ref sl) "slice":=⟨os,hos,hcs⟩
 unfold getItem
 try with_reducible refine wpAny_holding ?_
 first|refine zc (zf ?_)|skip
 refine zc (wpAny_sequenceKey ht.typeIs (by decide) ?_)
 refine zc (wpAny_callSpecial?_slot (name:=Str.ofString "__getitem__") ht.typeIs PyProof.Rows.slot_tuple_getitem
  (wpAny_call_entry PyProof.Rows.slot_tuple_getitem ht.typeIs entry_tuple_getitem ?_ (args_tuple_getitem _ _)))
 show wpAny _ _ (Builtin.Tuple.tupleItemsOf (.ref t) >>= _) _ _ s
 refine zc (tupleItemsOf_ ht ?_)
 refine zc (wpAny_typeOf hTs ?_)
 rw [if_pos (by decide)]
 refine zc (rE hs pl pu ?_)
 have hno:¬ ((((sIx items.size 0 lo:Nat):Int) == 0&&(1:Int) == 1&&(sIx items.size items.size hi-sIx items.size 0 lo) == items.size)=true):=by
  intro q
  rw [z2b,z2b] at q
  have q1:((sIx items.size 0 lo:Nat):Int)=0:=eq_of_beq q.1.1
  have q2:sIx items.size items.size hi-sIx items.size 0 lo=items.size:=eq_of_beq q.2
  exact hw ⟨by lia,by lia⟩
 show wpAny _ _ (if (((sIx items.size 0 lo:Nat):Int) == 0&&(1:Int) == 1&&(sIx items.size items.size hi-sIx items.size 0 lo) == items.size)=true then _ else _) _ _ s
 rw [if_neg hno,zw]
 first
  | exact zc (m:=Builtin.Tuple.tupleExact _) (z32 (zf ⟨_,rfl,zf h⟩) y1a1)
  | exact zc (m:=Builtin.Tuple.tupleExact _) (z32 (zc (zf (zf ⟨_,rfl,zf h⟩))) y1a1)
  | exact zc (zc (m:=Builtin.Tuple.tupleExact _) (z32 (zf (zf ⟨_,rfl,zf h⟩)) y1a1))
  | exact zc (zc (m:=Builtin.Tuple.tupleExact _) (z32 (zf ⟨_,rfl,zf h⟩) y1a1))
end
end HT
namespace L2
open PySem PySem.Spec PyProof.Rows
section
noncomputable abbrev TO:=St->Hp->(Option Int->Hp->Prop)->Prop
noncomputable def PO(X:Cx)(e:Option Expr)(t:TO):Prop :=
 ∀(pins:List (Addr×Obj)) (s:Shared) (σ:St) (H:Hp) (Q:Option Int->Hp->Prop),Inv X pins σ H s->t σ H Q ->
  wpAny (model X.prog X.w) X.A (evalPart e X.env) (λu s'=>∃o H',Inv X pins σ H' s'/\IsPart u o/\Q o H') X.xe s
noncomputable def nv:TO:=λ_ H Q=>Q none H
noncomputable def ny(t:TE):TO:=λσ H Q=>t σ H λx H1=>∃i,x=.int i/\Q (some i) H1
section
variable {X:Cx}{e:Expr}{te:TE}{lo hi:Option Expr}{tl th:TO}{pos p2:Pos}
theorem nz:PO X none nv:=by
 intro pins s σ H Q I h
 rw [evalPart_none]
 exact zf ⟨none,H,I,.none,h⟩
theorem rF(h:PE X e te):PO X (some e) (ny te):=by
 intro pins s σ H Q I hw
 rw [evalPart_some]
 refine aF (h pins s σ H _ I hw) λu s1 zz=>?_
 obtain⟨x,H1,I1,r1,q1⟩:=zz
 obtain⟨i,rfl,q⟩:=q1
 obtain⟨t,rfl⟩:=r1
 exact⟨some i,H1,I1,.int i t,q⟩
noncomputable def kj(X:Cx)(r:V->Option Int->Option Int->Hp->VK->Prop):Prop :=
 ∀(pins:List (Addr×Obj)) (s:Shared) (σ:St) (H:Hp) (x:V) (v vl vu:Value) (lo hi:Option Int) (sl:Addr) (Q:VK),Inv X pins σ H s->au x v->s.heap.IsSliceOf sl vl vu .none->IsPart vl lo->IsPart vu hi->r x lo hi H Q ->
  ∃T id,typeLookup (.type T) "__getitem__" = pure (some (.builtin id))/\s.TypeIs v T/\wpAny (model X.prog X.w) X.A (getItem v (.ref sl)) (EP X pins σ Q) X.xe s
theorem kj.or{r r':V->Option Int->Option Int->Hp->VK->Prop}(h:kj X r)(h':kj X r'):kj X (λx lo hi H Q=>r x lo hi H Q∨r' x lo hi H Q):=by
 intro pins s σ H x v vl vu lo hi sl Q I rx hs pl pu q
 rcases q with q|q
 ·exact h pins s σ H x v vl vu lo hi sl Q I rx hs pl pu q
 ·exact h' pins s σ H x v vl vu lo hi sl Q I rx hs pl pu q
noncomputable def tSl(r:V->Option Int->Option Int->Hp->VK->Prop)(te:TE)(tl th:TO):TE:=λσ H Q=>te σ H λx H1=>tl σ H1 λl H2=>th σ H2 λu H3=>r x l u H3 Q
theorem zx{r:V->Option Int->Option Int->Hp->VK->Prop}(hr:kj X r)(he:PE X e te)(hl:PO X lo tl)(hu:PO X hi th):PE X (.Subscript e (.Slice lo hi none p2) pos) (tSl r te tl th):=by
 intro pins s σ H Q I h
 refine Subscript_ (aF (he pins s σ H _ I h) λv s1 zz=>?_)
 obtain⟨x,H1,I1,r1,q1⟩:=zz
 refine wpAny_Slice (aF (hl pins s1 σ H1 _ I1 q1) λvl s2 ⟨l,H2,I2,pl,q2⟩=>aF (hu pins s2 σ H2 _ I2 q2) λvu s3 zz=>?_)
 obtain⟨u,H3,I3,pu,q3⟩:=zz
 rw [evalPart_none]
 refine zf ?_
 have I4:Inv X pins σ H3 { s3 with heap:=s3.heap.push { cls:=.type "slice",data:=.fields #[vl,vu,.none] } }:=I3.kept (t':=s3.toks) λb ob q=>ze _ q
 obtain⟨T,id,hT,ht,hg⟩:=hr pins { s3 with heap:=s3.heap.push { cls:=.type "slice",data:=.fields #[vl,vu,.none] } } σ H3 x v vl vu l u s3.heap.objs.size Q I4 r1 (Heap.IsSliceOf.new ..) pl pu q3
 show wpAny (model X.prog X.w) X.A (subscriptTail e (.Slice lo hi none p2) v (.ref s3.heap.objs.size)) (EP X pins σ Q) X.xe { s3 with heap:=s3.heap.push { cls:=.type "slice",data:=.fields #[vl,vu,.none] } }
 exact tail_any (ops:=[.ref s3.heap.objs.size,v]) ht hT hg (by with_unfolding_all rfl)
noncomputable def i3(xs:List V)(lo hi:Option Int):List V:=(xs.drop (HT.sIx xs.length 0 lo)).take (HT.sIx xs.length xs.length hi-HT.sIx xs.length 0 lo)
theorem ybf(xs:List V)(lo hi:Option Int):(i3 xs lo hi).length≤xs.length:=by
 unfold i3
 rw [z36,z3a]
 lia
noncomputable def zy(K:W.Frag):V->Option Int->Option Int->Hp->VK->Prop:=λx lo hi H Q=>∃a xs,x=.ref a/\aO K H a xs /\
 ¬ (HT.sIx xs.length 0 lo=0/\HT.sIx xs.length xs.length hi=xs.length)/\∀p,H p=none->Q (.ref p) (ax H p (.tup (i3 xs lo hi)))
theorem zA:kj X (zy X.K):=by
 intro pins s σ H x v vl vu lo hi sl Q I rx hs pl pu h
 obtain⟨a,xs,rfl,hx,hw,q⟩:=h
 cases rx
 obtain⟨its,r,ht,hz⟩:=I.tuple hx
 have hlen:its.toArray.size=xs.length:=by rw [zd];exact r.length.symm
 refine⟨"tuple",_,PyProof.Rows.slot_tuple_getitem.lookup,ht.typeIs,?_⟩
 refine HT.y164 ht hs pl pu (by rw [hlen];exact hw) ?_ (by rw [hlen];exact hz)
 rw [hlen]
 refine⟨.ref s.heap.objs.size,_,I.laid (t':=s.toks) (o:=.tup (i3 xs lo hi)) (λb ob q=>ze _ q) (z12 _) ?_,rfl,q _ (I.hok.fresh (z12 _))⟩
 exact⟨z27 (ybf xs lo hi) hz,_,(r.drop (HT.sIx xs.length 0 lo)).take (HT.sIx xs.length xs.length hi-HT.sIx xs.length 0 lo),eW.mk' _ _⟩
noncomputable def rG(K:W.Frag):R2:=λx y H Q=>∃a b xs ys,x=.ref a/\y=.ref b/\aO K H a xs/\aO K H b ys/\xs≠[]/\xs.length+ys.length≤sizeLine /\
 (ys=[]->Q (.ref a) H)/\(ys≠[]->∀p,H p=none->Q (.ref p) (ax H p (.tup (xs++ys))))
theorem ag.y258{xs:List V}{us:List Value}(r:ag xs us):us=[]↔xs=[]:=by
 cases r with
 | nil=>simp
 | cons _ _=>simp
theorem zB:bw X (binaryOp .Add) (rG X.K):=by
 intro pins s σ H x y v u Q I rx ry h
 obtain⟨a,b,xs,ys,rfl,rfl,ha,hb,hx,hz,q1,q2⟩:=h
 cases rx
 cases ry
 obtain⟨its,r1,p1,_⟩:=I.tuple ha
 obtain⟨y1cd,r2,p2,_⟩:=I.tuple hb
 refine HT.ya2 p1 p2 (λz=>hx (r1.y258.mp z)) (λz=>⟨.ref a,H,I,rfl,q1 (r2.y258.mp z)⟩) (λz=>?_) (by rw [<- r1.length,<- r2.length];exact hz)
 refine⟨.ref s.heap.objs.size,_,I.laid (t':=s.toks) (o:=.tup (xs++ys)) (λb ob q=>ze _ q) (z12 _) ?_,rfl,q2 (λw=>z (r2.y258.mpr w)) _ (I.hok.fresh (z12 _))⟩
 exact⟨by rw [z17];exact hz,_,r1.append r2,eW.mk' _ _⟩
end
end
section
noncomputable def iT(n:Nat)(i:Int):Option Nat:=if 0≤i then (if i<n then some i.toNat else none) else if -(n:Int)≤i then some (i+n).toNat else none
noncomputable def dm{α:Type}(xs:List α)(i:Int):Option α:=(iT xs.length i).bind λj=>xs[j]?
theorem rH{n:Nat}{i:Int}{j:Nat}(h:iT n i=some j):seqIndex? i n=some j/\j<n/\-(n:Int)≤i/\i<n:=by
 unfold iT at h
 by_cases h0:0≤i
 ·rw [if_pos h0] at h
  by_cases h1:i<n
  ·rw [if_pos h1] at h
   have e:i.toNat=j:=z2a h
   exact⟨by rw [seqIndex_of h0 h1,e],by lia,by lia,h1⟩
  ·rw [if_neg h1] at h;cases h
 ·rw [if_neg h0] at h
  by_cases h1:-(n:Int)≤i
  ·rw [if_pos h1] at h
   have e:(i+n).toNat=j:=z2a h
   exact⟨by rw [seqIndex_neg (by lia) h1,e],by lia,h1,by lia⟩
  ·rw [if_neg h1] at h;cases h
theorem zC{α:Type}{xs:List α}{i:Int}{v:α}(h:dm xs i=some v):∃j,seqIndex? i xs.length=some j/\xs[j]?=some v/\j<xs.length/\-(xs.length:Int)≤i/\i<xs.length:=by
 unfold dm at h
 cases e:iT xs.length i with
 | none=>rw [e] at h;cases h
 | some j =>
  rw [e] at h
  obtain⟨h1,h2,h3,h4⟩:=rH e
  exact⟨j,h1,h,h2,h3,h4⟩
theorem jQ{α:Type}{xs:List α}{j:Nat}{v:α}(h:xs[j]?=some v):dm xs (j:Int)=some v:=by
 have hj:j<xs.length:=(z14.mp h).1
 have e:iT xs.length (j:Int)=some j:=by
  unfold iT
  rw [if_pos (by lia),if_pos (by lia)];simp
 unfold dm;rw [e];exact h
noncomputable def gF(b:Expr):Prop:=∀o i,subscripted b false o i=operate [o,i] (getItem o i)
noncomputable def km(X:Cx)(r:R2):Prop :=
 ∀(value slice:Expr) (pins:List (Addr×Obj)) (s:Shared) (σ:St) (H:Hp) (x y:V) (v u:Value) (Q:VK),Inv X pins σ H s->au x v->au y u->r x y H Q ->
  subscripted slice false v u=operate [v,u] (getItem v u)->wpAny (model X.prog X.w) X.A (subscriptTail value slice v u) (EP X pins σ Q) X.xe s
noncomputable def wY(X:Cx)(id:String)(r:V->List V->Hp->VK->Prop):Prop :=
 ∀(pins:List (Addr×Obj)) (s:Shared) (σ:St) (H:Hp) (x:V) (xs:List V) (v:Value) (us:List Value) (Q:VK),Inv X pins σ H s->au x v->ag xs us->r x xs H Q ->
  wpAny (model X.prog X.w) X.A (call (.builtin id) (v::us)) (EP X pins σ Q) X.xe s
section
variable {X:Cx}{a b:Expr}{ta tb:TE}{pos:Pos}
theorem km.or{r r':R2}(h:km X r)(h':km X r'):km X (λx y H Q=>r x y H Q∨r' x y H Q):=by
 intro value slice pins s σ H x y v u Q I rx ry q hs
 rcases q with q|q
 ·exact h value slice pins s σ H x y v u Q I rx ry q hs
 ·exact h' value slice pins s σ H x y v u Q I rx ry q hs
theorem rJ{r:R2}(hr:km X r)(ha:PE X a ta)(hb:PE X b tb)(hs:gF b):PE X (.Subscript a b pos) (mi r ta tb):=by
 intro pins s σ H Q I h
 exact Subscript_ (mY ha hb I h λv u s2 x y H2 I2 rx ry q=>hr a b pins s2 σ H2 x y v u Q I2 rx ry q (hs _ _))
noncomputable def rK(K:W.Frag):R2:=λx y H Q=>∃p xs i v,x=.ref p/\y=.int i/\aP K H p xs/\dm xs i=some v/\Q v H
noncomputable def rL(K:W.Frag):R2:=λx y H Q=>∃p xs i v,x=.ref p/\y=.int i/\aO K H p xs/\dm xs i=some v/\Q v H
noncomputable def rN:R2:=λx y H Q=>∃z i c,x=.str z/\y=.int i/\z.length≤sizeLine/\dm z.cps.toList i=some c/\Q (.str ⟨#[c]⟩) H
theorem zD:km X (rK X.K):=by
 intro value slice pins s σ H x y v u Q I rx ry h hs
 obtain⟨p,xs,i,z,rfl,rfl,hq,he,q⟩:=h
 cases rx
 obtain⟨t,rfl⟩:=ry
 obtain⟨its,r,pl,hz⟩:=I.list hq
 obtain⟨j,h1,h2,h3,h4,h5⟩:=zC he
 obtain⟨w,ew,rw'⟩:=r.get h2
 have hl:=r.length
 have hn:=fV
 have fin:EP X pins σ Q w s:=⟨z,H,I,rw',q⟩
 by_cases h0:0≤i
 ·have hj:i.toNat=j:=by
   rw [seqIndex_of h0 h5] at h1
   exact z2a h1
  exact item_listR pl.isList h0 (by lia) (by rw [hj];simpa using ew) fin hs
 ·have hj:(i+(its.toArray.size:Int)).toNat=j:=by
   rw [seqIndex_neg (by lia) h4] at h1
   rw [zd,<- hl]
   exact z2a h1
  exact subscriptTail_builtinR (x:=w) pl.isList.typeIs slot_list_getitem.lookup
   (wpAny_getItem_list_neg (Q:=λr s'=>r=w/\EP X pins σ Q r s') pl.isList (by lia) (by rw [zd]<;>lia) (by lia) (by rw [hj];simpa using ew) ⟨rfl,fin⟩) hs
theorem zE:km X (rL X.K):=by
 intro value slice pins s σ H x y v u Q I rx ry h hs
 obtain⟨p,xs,i,z,rfl,rfl,hq,he,q⟩:=h
 cases rx
 obtain⟨t,rfl⟩:=ry
 obtain⟨its,r,pl,hz⟩:=I.tuple hq
 obtain⟨j,h1,h2,h3,h4,h5⟩:=zC he
 obtain⟨w,ew,rw'⟩:=r.get h2
 have hl:=r.length
 have hn:=fV
 have fin:EP X pins σ Q w s:=⟨z,H,I,rw',q⟩
 exact subscriptTail_builtinR (x:=w) pl.typeIs slot_tuple_getitem.lookup
  (getItem_tuple (j:=j) (Q:=λr s'=>r=w/\EP X pins σ Q r s') pl (by lia) (by lia) (by rw [zd,<- hl];exact h1) (by simpa using ew) ⟨rfl,fin⟩) hs
theorem zF:km X rN:=by
 intro value slice pins s σ H x y v u Q I rx ry h hs
 obtain⟨z,i,c,rfl,rfl,hz,he,q⟩:=h
 obtain⟨t,rfl⟩:=rx
 obtain⟨t',rfl⟩:=ry
 obtain⟨j,h1,h2,h3,h4,h5⟩:=zC he
 have hl:z.cps.toList.length=z.length:=by simp [Str.length]
 rw [hl] at h1 h4 h5
 have hn:=fV
 exact tail_any (typeIs_str s z t) slot_str_getitem.lookup (getItem_str (c:=c) (by
  have e1:decide (i < -(2 ^ 63:Int))=false:=decide_eq_false (by lia)
  have e2:decide (i ≥ 2 ^ 63)=false:=decide_eq_false (by lia)
  rw [e1,e2,Bool.or_false]) (by rw [h1];simpa using h2) ⟨.str ⟨#[c]⟩,H,I.tok _,⟨_,rfl⟩,q⟩) hs
noncomputable def zG(K:W.Frag):R2:=λx y H Q=>rK K x y H Q∨rL K x y H Q∨rN x y H Q
theorem zH:km X (zG X.K):=zD.or (zE.or zF)
theorem zI(its:List Value)(n j:Nat)(u:Value):Obj.mapSeq (·.setIfInBounds j u) { cls:=.type "list",data:=.seq its.toArray n }={ cls:=.type "list",data:=.seq (its.set j u).toArray n }:=by
 simp [Obj.mapSeq]
theorem Inv.lst{pins:List (Addr×Obj)}{σ:St}{H:Hp}{s:Shared}{p:Addr}{xs:List V}(I:Inv X pins σ H s)(h:H p=some (.lst xs)) :
  ∃(its:List Value) (n:Nat),ag xs its/\s.heap.get? p=some { cls:=.type "list",data:=.seq its.toArray n }/\xs.length≤sizeLine:=by
 obtain⟨z,its,n,r,e⟩:=I.hok p _ h
 exact⟨its,n,r,e,z⟩
theorem Inv.y218{pins:List (Addr×Obj)}{σ:St}{H:Hp}{s:Shared}{p:Addr}{xs ys:List V}{its its':List Value}{n n':Nat}{f:Obj->Obj}(I:Inv X pins σ H s)(h:H p=some (.lst xs))
  (ho:s.heap.get? p=some { cls:=.type "list",data:=.seq its.toArray n }) (hf:f { cls:=.type "list",data:=.seq its.toArray n }={ cls:=.type "list",data:=.seq its'.toArray n' }) (r:ag ys its') (hz:ys.length≤sizeLine) (t:Nat) :
  Inv X pins σ (ax H p (.lst ys)) { s with heap:=s.heap.update p f,toks:=t }:=by
 have e:(s.heap.update p f).get? p=some { cls:=.type "list",data:=.seq its'.toArray n' }:=by
  rw [Heap.get?_update_self f ho (by rw [hf]<;>rfl),hf]
 refine I.write (x:=p) (e:=p) (by rw [h];trivial) (.inl rfl) (λb u hb q=>(Heap.get?_update_other _ _ (Ne.symm hb)).trans q) ⟨_,e⟩ ?_
 exact⟨hz,its',n',r,e⟩
noncomputable def rO:V->V->V->Hp->(Hp->Prop)->Prop:=λo i v H Q=>∃p xs k j,o=.ref p/\i=.int k/\H p=some (.lst xs)/\iT xs.length k=some j/\Q (ax H p (.lst (xs.set j v)))
theorem i4:qk X rO:=by
 intro pins s σ H o i v ov iv u Q I ro ri rv h
 obtain⟨p,xs,k,j,rfl,rfl,hp,hj,q⟩:=h
 cases ro
 obtain⟨t,rfl⟩:=ri
 obtain⟨its,n,r,ho,hz⟩:=I.lst hp
 obtain⟨h1,h2,h3,h4⟩:=rH hj
 have hl:=r.length
 have hn:=fV
 have I':Inv X pins σ (ax H p (.lst (xs.set j v))) { s with heap:=s.heap.update p (Obj.mapSeq (·.setIfInBounds j u)) } :=
  I.y218 hp ho (zI its n j u) (r.set rv j) (by rw [z31];exact hz) s.toks
 by_cases h0:0≤k
 ·have hk:k.toNat=j:=by
   rw [seqIndex_of h0 h4] at h1
   exact z2a h1
  exact W.ki_setAt ho h0 (by lia) (by rw [zd,<- hl];exact h4) (by rw [hk];exact⟨_,I',q⟩)
 ·have hk:(k+(its.toArray.size:Int)).toNat=j:=by
   rw [seqIndex_neg (by lia) h3] at h1
   rw [zd,<- hl]
   exact z2a h1
  exact W.ki_setBack ho (by lia) (by rw [zd,<- hl];exact h3) (by lia) (by rw [hk];exact⟨_,I',q⟩)
theorem zJ(lo hi:Option Int)(n:Nat):(sliceBounds lo hi none n).1=((HT.sIx n 0 lo:Nat):Int)/\(sliceBounds lo hi none n).2.1=((HT.sIx n n hi:Nat):Int)/\(sliceBounds lo hi none n).2.2=1:=by
 refine⟨?_,?_,rfl⟩
 ·cases lo with
  | none=>simp [sliceBounds,HT.sIx]
  | some i =>
   simp only [sliceBounds,HT.sIx,Option.getD_none,show (1:Int)>0 by decide,if_true]
   by_cases h:i<0
   ·simp only [h,if_true]<;>lia
   ·simp only [h,if_false]<;>lia
 ·cases hi with
  | none=>simp [sliceBounds,HT.sIx]
  | some i =>
   simp only [sliceBounds,HT.sIx,Option.getD_none,show (1:Int)>0 by decide,if_true]
   by_cases h:i<0
   ·simp only [h,if_true]<;>lia
   ·simp only [h,if_false]<;>lia
theorem zK(its:List Value)(lo hi:Option Int):slicePick its.toArray lo hi none=((its.drop (HT.sIx its.length 0 lo)).take (HT.sIx its.length its.length hi-HT.sIx its.length 0 lo)).toArray:=by
 obtain⟨h1,h2,h3⟩:=zJ lo hi its.toArray.size
 unfold slicePick
 rw [h1,h2,h3]
 simp only [sliceRange_one,pick_run,zd]<;>rfl
noncomputable def rP(K:W.Frag):V->Option Int->Option Int->Hp->VK->Prop:=λx lo hi H Q=>∃a xs,x=.ref a/\aP K H a xs/\∀p,H p=none->Q (.ref p) (ax H p (.lst (i3 xs lo hi)))
theorem zL:kj X (rP X.K):=by
 intro pins s σ H x v vl vu lo hi sl Q I rx hs pl pu h
 obtain⟨a,xs,rfl,hx,q⟩:=h
 cases rx
 obtain⟨its,r,ht,hz⟩:=I.list hx
 have hlen:=r.length
 refine⟨"list",_,slot_list_getitem.lookup,ht.isList.typeIs,?_⟩
 refine wpAny_getItem_list_slice ht.isList hs pl pu .none (by simp) ?_ (by rw [zd]<;>lia)
 rw [zK,<- hlen]
 refine⟨.ref s.heap.objs.size,_,I.laid (t':=s.toks) (o:=.lst (i3 xs lo hi)) (λb ob q=>ze _ q) (z12 _) ?_,rfl,q _ (I.hok.fresh (z12 _))⟩
 exact⟨z27 (ybf xs lo hi) hz,_,0,(r.drop (HT.sIx xs.length 0 lo)).take (HT.sIx xs.length xs.length hi-HT.sIx xs.length 0 lo),z1c _ rfl⟩
noncomputable def aX:V->Bool
 | .non=>true
 | .bl _=>true
 | .int _=>true
 | .str _=>true
 | _=>false
noncomputable def fP:V->V->Bool
 | .non,.non=>true
 | .bl a,.bl b=>a == b
 | .bl a,.int b=>(if a then 1 else 0) == b
 | .int a,.bl b=>a == (if b then 1 else 0)
 | .int a,.int b=>a == b
 | .str a,.str b=>a == b
 | _,_=>false
theorem nA{A:Around}{s:Shared}{y x:V}{u v:Value}(ry:au y u)(rx:au x v)(fy:aX y=true)(fx:aX x=true):SeqAt.EqAt A s u v (fP y x):=by
 cases y with
 | non =>
  cases ry
  cases x with
  | non=>cases rx;exact SeqAt.EqAt.same _
  | bl b=>cases rx;exact SeqAt.EqAt.none_bool b
  | int b=>obtain⟨t,rfl⟩:=rx;exact SeqAt.EqAt.none_int b t
  | str b=>obtain⟨t,rfl⟩:=rx;exact SeqAt.EqAt.none_str b t
  | _=>exact absurd (show false=true from fx) z18
 | bl a =>
  cases ry
  cases x with
  | non=>cases rx;exact SeqAt.EqAt.bool_none a
  | bl b=>cases rx;exact SeqAt.EqAt.bool_bool a b
  | int b=>obtain⟨t,rfl⟩:=rx;exact SeqAt.EqAt.bool_int a b t
  | str b=>obtain⟨t,rfl⟩:=rx;exact SeqAt.EqAt.bool_str a b t
  | _=>exact absurd (show false=true from fx) z18
 | int a =>
  obtain⟨t',rfl⟩:=ry
  cases x with
  | non=>cases rx;exact SeqAt.EqAt.int_none a t'
  | bl b=>cases rx;exact SeqAt.EqAt.int_bool a t' b
  | int b=>obtain⟨t,rfl⟩:=rx;exact SeqAt.EqAt.int_int a t' b t
  | str b=>obtain⟨t,rfl⟩:=rx;exact SeqAt.EqAt.int_str a t' b t
  | _=>exact absurd (show false=true from fx) z18
 | str a =>
  obtain⟨t',rfl⟩:=ry
  cases x with
  | non=>cases rx;exact SeqAt.EqAt.str_none a t'
  | bl b=>cases rx;exact SeqAt.EqAt.str_bool a t' b
  | int b=>obtain⟨t,rfl⟩:=rx;exact SeqAt.EqAt.str_int a t' b t
  | str b=>obtain⟨t,rfl⟩:=rx;exact SeqAt.EqAt.str_str a t' b t
  | _=>exact absurd (show false=true from fx) z18
 | _=>exact absurd (show false=true from fy) z18
noncomputable def ko(x:V)(u:Value):Bool:=match u with
 | .none=>fP .non x
 | .bool b=>fP (.bl b) x
 | .int i _=>fP (.int i) x
 | .str z _=>fP (.str z) x
 | _=>false
theorem rQ{x y:V}{u:Value}(r:au y u)(f:aX y=true):ko x u=fP y x:=by
 cases y with
 | non=>cases r;rfl
 | bl b=>cases r;rfl
 | int i=>obtain⟨t,rfl⟩:=r;rfl
 | str z=>obtain⟨t,rfl⟩:=r;rfl
 | _=>exact absurd (show false=true from f) z18
theorem zM{x:V}:∀{xs:List V} {us:List Value},ag xs us->xs.all aX=true->us.any (ko x)=xs.any λy=>fP y x
 | _,_,.nil,_=>rfl
 | y::xs,u::us,.cons r t,f=>by
  rw [List.all_cons,z2b] at f
  rw [List.any_cons,List.any_cons,rQ r f.1,zM t f.2]
theorem nB{A:Around}{s:Shared}{x:V}{v:Value}(rx:au x v)(fx:aX x=true):∀{xs:List V} {us:List Value},ag xs us->xs.all aX=true->∀u∈us,SeqAt.EqAt A s u v (ko x u)
 | _,_,.nil,_=>λu hu=>by cases hu
 | y::xs,u::us,.cons r t,f=>λu' hu=>by
  rw [List.all_cons,z2b] at f
  rcases z1b.mp hu with rfl|hu
  ·rw [rQ r f.1];exact nA r rx f.1 fx
  ·exact nB rx fx t f.2 u' hu
noncomputable def inV(x:V)(xs:List V):Bool:=xs.any λy=>fP y x
noncomputable def rIn(K:W.Frag)(neg:Bool):R2:=λx y H Q=>∃p xs,y=.ref p/\(aP K H p xs∨aO K H p xs)/\aX x=true/\xs.all aX=true/\Q (.bl (if neg then !inV x xs else inV x xs)) H
theorem zN:bw X (compareOp .NotIn) (rIn X.K true):=by
 intro pins s σ H x y v u Q I rx ry h
 obtain⟨p,xs,rfl,hq,fx,fs,q⟩:=h
 cases ry
 rcases hq with hq|hq
 ·obtain⟨its,r,pl,hz⟩:=I.list hq
  refine SeqAt.notIn_listAt (ko x) pl.isList (λw hw=>nB rx fx r fs w (by simpa using hw)) ⟨.bl _,H,I,rfl,?_⟩
  rw [show its.toArray.any (ko x)=its.any (ko x) by simp,zM r fs]
  exact q
 ·obtain⟨its,r,pl,hz⟩:=I.tuple hq
  refine SeqAt.notIn_tupleAt (ko x) pl (λw hw=>nB rx fx r fs w (by simpa using hw)) ⟨.bl _,H,I,rfl,?_⟩
  rw [show its.toArray.any (ko x)=its.any (ko x) by simp,zM r fs]
  exact q
theorem y99:y9 X (.builtin "len") (λxs H Q=>∃p ys,xs=[.ref p]/\(aP X.K H p ys∨aO X.K H p ys)/\Q (.int ys.length) H):=by
 intro pins s σ H xs us Q I r h
 obtain⟨p,ys,rfl,hq,q⟩:=h
 obtain⟨u,rfl,rx⟩:=bY r
 cases rx
 have hn:=fV
 rcases hq with hq|hq
 ·obtain⟨its,r',pl,hz⟩:=I.list hq
  have hlen:=r'.length
  exact Calls.call_len_list pl.isList (by simp only [zd]<;>lia) ⟨.int ys.length,H,I.tok _,⟨s.toks+1,by rw [zd,hlen]⟩,q⟩
 ·obtain⟨its,r',pl,hz⟩:=I.tuple hq
  have hlen:=r'.length
  exact len_tuple pl (by simp only [zd]<;>lia) ⟨.int ys.length,H,I.tok _,⟨s.toks+1,by rw [zd,hlen]⟩,q⟩
theorem y9a:y9 X (.builtin "len") (λxs H Q=>∃z,xs=[.str z]/\z.length≤sizeLine/\Q (.int z.length) H):=by
 intro pins s σ H xs us Q I r h
 obtain⟨z,rfl,hz,q⟩:=h
 obtain⟨u,rfl,t,rfl⟩:=bY r
 have hn:=fV
 exact len_str (by lia) ⟨.int z.length,H,I.tok _,⟨_,rfl⟩,q⟩
theorem y9.or{f:Value}{r r':List V->Hp->VK->Prop}(h:y9 X f r)(h':y9 X f r'):y9 X f (λxs H Q=>r xs H Q∨r' xs H Q):=by
 intro pins s σ H xs us Q I rs q
 rcases q with q|q
 ·exact h pins s σ H xs us Q I rs q
 ·exact h' pins s σ H xs us Q I rs q
theorem y9b:y9 X (.type "list") (λxs H Q=>∃p ys,xs=[.ref p]/\(aP X.K H p ys∨aO X.K H p ys)/\∀l,H l=none->Q (.ref l) (ax H l (.lst ys))):=by
 intro pins s σ H xs us Q I r h
 obtain⟨p,ys,rfl,hq,q⟩:=h
 obtain⟨u,rfl,rx⟩:=bY r
 cases rx
 have fin:∀(its:List Value),ag ys its->ys.length≤sizeLine->∀(h':Heap) (c':Nat),(∀b o',s.heap.get? b=some o'->h'.get? b=some o') ->
   h'.get? s.heap.objs.size=some { cls:=.type "list",dict:=none,data:=.seq its.toArray c',slots:=#[] }->EP X pins σ Q (.ref s.heap.objs.size) { s with heap:=h' }:=λits r' hz h' c' kp e =>
  ⟨.ref s.heap.objs.size,_,I.laid (t':=s.toks) kp (z12 _) (show cn X.prog X.w _ h' _ (.lst ys) from ⟨hz,its,c',r',e⟩),rfl,q _ (I.hok.fresh (z12 _))⟩
 rcases hq with hq|hq
 ·obtain⟨its,r',pl,hz⟩:=I.list hq
  have hlen:=r'.length
  obtain⟨o,ho,hc,n,hd⟩:=pl.isList
  exact call_list_seq p (.inl rfl) ho hc hd (λh' c' kp e=>fin its r' hz h' c' kp e) (by simp only [zd]<;>lia)
 ·obtain⟨its,r',pl,hz⟩:=I.tuple hq
  have hlen:=r'.length
  obtain⟨o,ho,hc,n,hd⟩:=pl
  exact call_list_seq p (.inr rfl) ho hc hd (λh' c' kp e=>fin its r' hz h' c' kp e) (by simp only [zd]<;>lia)
theorem ya0:y9 X (.type "tuple") (λxs H Q=>∃p ys,xs=[.ref p]/\((aP X.K H p ys/\∀l,H l=none->Q (.ref l) (ax H l (.tup ys)))∨(aO X.K H p ys/\Q (.ref p) H))):=by
 intro pins s σ H xs us Q I r h
 obtain⟨p,ys,rfl,h⟩:=h
 obtain⟨u,rfl,rx⟩:=bY r
 cases rx
 rcases h with⟨hq,q⟩| ⟨hq,q⟩
 ·obtain⟨its,r',pl,hz⟩:=I.list hq
  have hlen:=r'.length
  refine call_tuple_list pl.isList (λh' kp=>?_) (by simp only [zd]<;>lia)
  have I1:Inv X pins σ H { s with heap:=h' }:=I.kept (t':=s.toks) kp
  have I2:Inv X pins σ (ax H h'.objs.size (.tup ys)) { s with heap:=h'.push { cls:=.type "tuple",data:=.seq its.toArray } } :=
   I1.laid (t':=s.toks) (λb o e=>ze _ e) (z12 _) (show cn X.prog X.w _ _ _ (.tup ys) from ⟨hz,its,r',eW.mk' _ _⟩)
  exact⟨.ref h'.objs.size,_,I2,rfl,q _ (I1.hok.fresh (z12 _))⟩
 ·obtain⟨its,r',pl,hz⟩:=I.tuple hq
  exact call_tuple_same pl ⟨.ref p,H,I,rfl,q⟩
noncomputable def rR(K:W.Frag)(T:String)(x:V)(H:Hp):Prop:=match x with
 | .str _=>T="str"
 | .int _=>T="int"
 | .ref p=>(T="list"/\∃xs,aP K H p xs)∨(T="tuple"/\∃o,K.lookup p=some o/\o.cls=.type "tuple"/\o.dict=none) ∨
   (T="dict"/\((∃kvs,H p=some (.dK kvs))∨∃kvs,H p=some (.dT kvs)))∨(T="set"/\∃S n,H p=some (.set S n))
 | _=>False
theorem rS{pins:List (Addr×Obj)}{σ:St}{H:Hp}{s:Shared}{T:String}{x:V}{v:Value}(I:Inv X pins σ H s)(r:au x v)(ty:rR X.K T x H) :
  s.TypeIs v T/\∀a,v=.ref a->∃ob,s.heap.get? a=some ob/\ob.dict=none:=by
 cases x with
 | str z =>
  obtain⟨t,rfl⟩:=r
  cases (show T="str" from ty)
  exact⟨typeIs_str s z t,λ_ e=>nomatch e⟩
 | int i =>
  obtain⟨t,rfl⟩:=r
  cases (show T="int" from ty)
  exact⟨typeIs_int s i t,λ_ e=>nomatch e⟩
 | ref p =>
  cases r
  rcases ty with⟨rfl,xs,hq⟩| ⟨rfl,o,hk,hc,hd⟩| ⟨rfl,hk⟩| ⟨rfl,S,n,hk⟩
  ·obtain⟨its,_,pl,_⟩:=I.list hq
   refine⟨pl.isList.typeIs,λa e=>?_⟩
   cases e
   obtain⟨o,n,e,c,hd,_⟩:=pl
   exact⟨o,e,hd⟩
  ·refine⟨⟨o,I.kIn p o hk,hc⟩,λa e=>?_⟩
   cases e
   exact⟨o,I.kIn _ o hk,hd⟩
  ·have z:∃o,s.heap.get? p=some o/\o.ExactDict:=by
    rcases hk with⟨kvs,hk⟩| ⟨kvs,hk⟩
    ·obtain⟨_,_,_,_,o,_,_,e,ex,_⟩:=I.hok p _ hk
     exact⟨o,e,ex⟩
    ·obtain⟨_,_,_,_,o,_,_,e,ex,_⟩:=I.hok p _ hk
     exact⟨o,e,ex⟩
   obtain⟨o,e,ex⟩:=z
   refine⟨⟨o,e,ex.1⟩,λa e2=>?_⟩
   cases e2
   exact⟨o,e,ex.2.1⟩
  ·obtain⟨o,_,_,_,e,ex,_⟩:=I.hok p _ hk
   refine⟨⟨o,e,ex.1⟩,λa e2=>?_⟩
   cases e2
   exact⟨o,e,ex.2.1⟩
 | _=>exact False.elim ty
noncomputable def rT(K:W.Frag)(T:String)(r:V->List V->Hp->VK->Prop)(to:TE):TE:=λσ H Q=>to σ H λx H1=>rR K T x H1/\r x [] H1 Q
noncomputable def zO(K:W.Frag)(T:String)(r:V->List V->Hp->VK->Prop)(to:TE)(t:TA):TE:=λσ H Q=>to σ H λx H1=>rR K T x H1/\t σ H1 λxs H2=>r x xs H2 Q
variable {o e:Expr}{es:List Expr}{to:TE}{t:TA}{name:Str}{apos yb8:Pos}{T id:String}{r:V->List V->Hp->VK->Prop}
theorem zP(pa:PlainAttrs T)(slot:Slot T name id)(hty:typeOf (.builtin id)=pure (.type "method_descriptor"))(hm:wY X id r)(ho:PE X o to)
  (y189:attributeBase o name X.env (eval o X.env)=eval o X.env:=by rfl) (y195:(apos.endLine == yb8.line)=true:=by rfl):PE X (.Call (.Attribute o name apos) [] [] yb8) (rT X.K T r to):=by
 intro pins s σ H Q I h
 refine wpAny_Call_method0_late y189 y195 (aF (ho pins s σ H _ I h) λv s1 zz=>?_)
 obtain⟨x,H1,I1,r1,ty,q1⟩:=zz
 obtain⟨h1,h2⟩:=rS I1 r1 ty
 exact⟨T,id,pa,slot,hty,h1,h2,Calls.callWith_builtin rfl (PySem.evalArgs_none (hm pins s1 σ H1 x [] v [] Q I1 r1 .nil q1))⟩
theorem kq(pa:PlainAttrs T)(slot:Slot T name id)(hty:typeOf (.builtin id)=pure (.type "method_descriptor"))(hm:wY X id r)(ho:PE X o to)(ha:PA X (e::es) t)
  (y189:attributeBase o name X.env (eval o X.env)=eval o X.env:=by rfl)
  (y18e:((backTo yb8 (starEach (e::es) X.env)).all (λx=>!x.1)&&(backToKw yb8 (keywordEach [] X.env)).all (λx=>x.1.isSome)
   && decide ((e::es).length+([]:List Keyword).length+(if ([]:List Keyword).isEmpty then 0 else 1)<30))=true:=by rfl)
  (y195:(apos.endLine == yb8.line)=true:=by rfl) (hs:starEach (e::es) X.env=(false,eval e X.env)::starEach es X.env:=by rfl) (y199:(backTo yb8 (starEach es X.env)).any (·.1)=false:=by rfl) :
  PE X (.Call (.Attribute o name apos) (e::es) [] yb8) (zO X.K T r to t):=by
 intro pins s σ H Q I h
 refine wpAny_Call_method_late y189 y18e y195 rfl (aF (ho pins s σ H _ I h) λv s1 zz=>?_)
 obtain⟨x,H1,I1,r1,ty,q1⟩:=zz
 obtain⟨h1,h2⟩:=rS I1 r1 ty
 refine⟨T,id,pa,slot,hty,h1,h2,?_⟩
 have hA:=ha yb8 pins s1 σ H1 _ I1 q1
 rw [hs] at hA ⊢
 refine Calls.callWith_builtin (by show (false||(backTo yb8 (starEach es X.env)).any (·.1))=false;rw [y199]<;>rfl) (Calls.evalArgs_plain ?_)
 exact aF hA λus s2 ⟨vs,H2,I2,r2,q2⟩=>hm pins s2 σ H2 x vs v us Q I2 r1 r2 q2
end
end
section
noncomputable def wZ(X:Cx)(id:String)(r:V->List V->Hp->VK->Prop):Prop :=
 ∀(pins:List (Addr×Obj)) (s:Shared) (σ:St) (H:Hp) (x:V) (xs:List V) (v:Value) (us:List Value) (Q:VK),Inv X pins σ H s->au x v->ag xs us->r x xs H Q ->
  wpAny (model X.prog X.w) X.A (call (.builtin id) (v::us)) (EP X pins σ Q) X.xe s
theorem ag.one:∀{x:V} {us:List Value},ag [x] us->∃u,us=[u]/\au x u:=by
 intro x us h
 rcases h with _|⟨r,_|_⟩
 exact⟨_,rfl,r⟩
theorem ag.zero:∀{us:List Value},ag [] us->us=[]
 | _,.nil=>rfl
theorem ag.dropLast{xs:List V}{us:List Value}(h:ag xs us):ag xs.dropLast us.dropLast:=by
 induction h with
 | nil=>exact .nil
 | cons r t ih =>
  cases t with
  | nil=>exact .nil
  | cons q t'=>exact .cons r ih
theorem ag.eraseIdx:∀{xs:List V} {us:List Value} (i:Nat),ag xs us->ag (xs.eraseIdx i) (us.eraseIdx i)
 | _,_,_,.nil=>.nil
 | _,_,0,.cons _ t=>t
 | _,_,i+1,.cons r t=>.cons r (ag.eraseIdx i t)
theorem ag.reverse{xs:List V}{us:List Value}(h:ag xs us):ag xs.reverse us.reverse:=by
 induction h with
 | nil=>exact .nil
 | cons r t ih=>rw [List.reverse_cons,List.reverse_cons];exact ag.append ih (.cons r .nil)
theorem ag.rep{xs:List V}{us:List Value}(h:ag xs us):∀k:Nat,ag (List.replicate k xs).flatten (List.replicate k us).flatten
 | 0=>.nil
 | k+1=>by
  rw [List.replicate_succ,List.replicate_succ,List.flatten_cons,List.flatten_cons]
  exact ag.append h (ag.rep h k)
theorem zQ{α:Type}(l:List α):l.eraseIdx (l.length-1)=l.dropLast:=by
 induction l with
 | nil=>rfl
 | cons a r ih =>
  cases r with
  | nil=>rfl
  | cons b r =>
   have e:(a::b::r).length-1=((b::r).length-1)+1:=by
    have h1:(a::b::r).length=r.length+2:=rfl
    have h2:(b::r).length=r.length+1:=rfl
    lia
   rw [e,List.eraseIdx_cons_succ,ih]
   all_goals rfl
theorem rV{α:Type}:∀(l:List α) (i:Nat),(l.eraseIdx i).length≤l.length
 | [],_=>z12 _
 | _::_,0=>Nat.le_succ _
 | _::r,i+1=>Nat.succ_le_succ (rV r i)
theorem dS(its:List Value):∀(k:Nat) (acc:List Value),
  List.foldl (λx1 x2=>x1++x2) acc.toArray (List.replicate k its.toArray)=(acc++(List.replicate k its).flatten).toArray
 | 0,acc=>by simp
 | k+1,acc=>by
  have e:acc.toArray++its.toArray=(acc++its).toArray:=by simp
  have e2:(acc++its)++(List.replicate k its).flatten=acc++(List.replicate (k+1) its).flatten:=by
   rw [List.replicate_succ,List.flatten_cons,z33]
  rw [<- e2,<- dS its k (acc++its),<- e,List.replicate_succ,List.foldl_cons]
section
variable {X:Cx}{pins:List (Addr×Obj)}{σ:St}{H:Hp}{s:Shared}{l b:Addr}{xs ys zs:List V}
theorem Inv.lset{its its':List Value}{n:Nat}{f:Array Value->Array Value}{t':Nat}(I:Inv X pins σ H s)(hH:H l=some (.lst xs))
  (e:s.heap.get? l=some { cls:=.type "list",data:=.seq its.toArray n }) (hf:f its.toArray=its'.toArray) (hv:ag ys its') (hz:ys.length≤sizeLine) :
  Inv X pins σ (ax H l (.lst ys)) { s with heap:=s.heap.update l (Obj.mapSeq f),toks:=t' }:=by
 have q:=PySem.IsL.update e f
 rw [hf] at q
 refine I.write (x:=l) (e:=l) (by rw [hH];exact trivial) (.inl rfl) (λb' u hb hu=>(Heap.get?_update_other s.heap (Obj.mapSeq f) (Ne.symm hb)).trans hu) ⟨_,q⟩ ?_
 exact⟨hz,its',_,hv,q⟩
theorem Inv.lnew{its:List Value}{t':Nat}(I:Inv X pins σ H s)(hv:ag ys its)(hz:ys.length≤sizeLine) :
  Inv X pins σ (ax H s.heap.objs.size (.lst ys)) { s with heap:=s.heap.push { cls:=.type "list",data:=.seq its.toArray },toks:=t' } :=
 I.laid (λ_ _ q=>ze _ q) (z12 _) ⟨hz,its,0,hv,z1c _ rfl⟩
theorem Inv.fresh(I:Inv X pins σ H s):H s.heap.objs.size=none:=I.hok.fresh (z12 _)
theorem Inv.y217(I:Inv X pins σ H s)(hH:H l=some (.lst xs)):xs.length≤sizeLine/\∃(its:List Value) (n:Nat),ag xs its/\xs.length=its.length/\s.heap.get? l=some { cls:=.type "list",data:=.seq its.toArray n }:=by
 obtain⟨z,its,n,r,e⟩:=I.hok l _ hH
 exact⟨z,its,n,r,r.length,e⟩
theorem rW{n:Nat}(h:n≤sizeLine):Builtin.List.listTooLong n=false:=by
 unfold Builtin.List.listTooLong
 exact decide_eq_false (by lia)
end
section
variable {X:Cx}
noncomputable def rX:V->List V->Hp->VK->Prop:=λx vs H Q=>∃l xs y,x=.ref l/\vs=[y]/\H l=some (.lst xs)/\xs.length<sizeLine/\Q .non (ax H l (.lst (xs++[y])))
theorem rY:wZ X "list.append" rX:=by
 intro pins s σ H x vs v us Q I rx rv h
 obtain⟨l,xs,y,rfl,rfl,hH,hz,q⟩:=h
 cases rx
 obtain⟨u,rfl,ru⟩:=rv.one
 obtain⟨z,its,n,r,hl,e⟩:=I.y217 hH
 refine call_meets F.slot_list_append ⟨_,e,rfl⟩ F.entry_list_append (F.args_list_append_2 _ _) (PySem.list_append l its.toArray n u (by rw [zd];lia)) ⟨e,?_⟩
 refine⟨.non,_,I.lset (its':=its++[u]) hH e (by simp) (r.append (.cons ru .nil)) ?_,rfl,q⟩
 rw [z17,List.length_singleton]
 lia
noncomputable def zR:V->List V->Hp->VK->Prop:=λx vs H Q=>∃l b xs zs,x=.ref l/\vs=[.ref b]/\H l=some (.lst xs)/\H b=some (.lst zs)/\xs.length+zs.length≤sizeLine/\Q .non (ax H l (.lst (xs++zs)))
theorem Fj:wZ X "list.extend" zR:=by
 intro pins s σ H x vs v us Q I rx rv h
 obtain⟨l,b,xs,zs,rfl,rfl,hH,hB,hz,q⟩:=h
 cases rx
 obtain⟨u,rfl,ru⟩:=rv.one
 cases ru
 obtain⟨z,its,n,r,hl,e⟩:=I.y217 hH
 obtain⟨z2,y1cd,n2,r2,hl2,e2⟩:=I.y217 hB
 have hsz:its.toArray.size+y1cd.toArray.size≤sizeLine:=by rw [zd,zd];lia
 have y196:¬ (!its.toArray.isEmpty&&Builtin.List.listTooLong (its.toArray.size+y1cd.toArray.size))=true:=by
  rw [rW hsz,Bool.and_false]
  exact z18
 refine call_meets F.slot_list_extend ⟨_,e,rfl⟩ F.entry_list_extend (F.args_list_extend_2 _ _)
  (AutoSeq1.list_extend_list_list_0 l its.toArray n b y1cd.toArray n2 y196 (by rw [zd];lia) (by lia)) ⟨e,e2,?_⟩
 refine⟨.non,_,I.lset (its':=its++y1cd) hH e (by simp) (r.append r2) ?_,rfl,q⟩
 rw [z17]
 lia
noncomputable def rZ:V->List V->Hp->VK->Prop:=λx vs H Q=>∃l xs y,x=.ref l/\vs=[]/\H l=some (.lst xs)/\xs[xs.length-1]?=some y/\Q y (ax H l (.lst xs.dropLast))
theorem zS:wZ X "list.pop" rZ:=by
 intro pins s σ H x vs v us Q I rx rv h
 obtain⟨l,xs,y,rfl,rfl,hH,hy,q⟩:=h
 cases rx
 have hus:=rv.zero
 subst hus
 obtain⟨z,its,n,r,hl,e⟩:=I.y217 hH
 obtain⟨u,hu,ru⟩:=r.get hy
 have hy':its.toArray[its.toArray.size-1]?=some u:=by
  show its.toArray[its.length-1]?=some u
  rw [<- Array.getElem?_toList,<- hl]
  exact hu
 refine call_meets F.slot_list_pop ⟨_,e,rfl⟩ F.entry_list_pop (F.args_list_pop_1 _) (MeetsSeq.list_pop_last l its.toArray n u hy' (by rw [zd];lia)) ⟨e,?_⟩
 refine⟨y,_,I.lset (its':=its.dropLast) hH e ?_ r.dropLast ?_,ru,q⟩
 ·show its.toArray.eraseIdxIfInBounds (its.toArray.size-1)=its.dropLast.toArray
  rw [zd,List.eraseIdxIfInBounds_toArray,zQ]
 ·rw [List.length_dropLast]
  lia
noncomputable def r6:V->List V->Hp->VK->Prop:=λx vs H Q=>∃l xs i k y,x=.ref l/\vs=[.int i]/\H l=some (.lst xs)/\-(2 ^ 63)≤i/\i<2 ^ 63/\seqIndex? i xs.length=some k/\xs[k]?=some y/\Q y (ax H l (.lst (xs.eraseIdx k)))
theorem zT:wZ X "list.pop" r6:=by
 intro pins s σ H x vs v us Q I rx rv h
 obtain⟨l,xs,i,k,y,rfl,rfl,hH,h1,h2,hk,hy,q⟩:=h
 cases rx
 obtain⟨u,rfl,ru⟩:=rv.one
 obtain⟨t,rfl⟩:=ru
 obtain⟨z,its,n,r,hl,e⟩:=I.y217 hH
 obtain⟨w,hw,rw'⟩:=r.get hy
 refine call_meets F.slot_list_pop ⟨_,e,rfl⟩ F.entry_list_pop (F.args_list_pop_2 _ _)
  (MeetsSeq.list_pop_at l its.toArray n i t k w (fitsIndex_both h1 h2) (by rw [zd,<- hl];exact hk) (by rw [<- Array.getElem?_toList];exact hw) (by rw [zd];lia)) ⟨e,?_⟩
 refine⟨y,_,I.lset (its':=its.eraseIdx k) hH e ?_ (r.eraseIdx k) ?_,rw',q⟩
 ·show its.toArray.eraseIdxIfInBounds k=(its.eraseIdx k).toArray
  rw [List.eraseIdxIfInBounds_toArray]
 ·have:=rV xs k
  lia
noncomputable def kr:R2:=λx y H Q=>∃l b xs zs,x=.ref l/\y=.ref b/\H l=some (.lst xs)/\H b=some (.lst zs)/\xs.length+zs.length≤sizeLine/\∀p,H p=none->Q (.ref p) (ax H p (.lst (xs++zs)))
theorem zU:bw X (binaryOp .Add) kr:=by
 intro pins s σ H x y v u Q I rx ry h
 obtain⟨l,b,xs,zs,rfl,rfl,hH,hB,hz,q⟩:=h
 cases rx
 cases ry
 obtain⟨z,its,n,r,hl,e⟩:=I.y217 hH
 obtain⟨z2,y1cd,n2,r2,hl2,e2⟩:=I.y217 hB
 refine PySem.P.add_list e e2 ?_ (by rw [zd,zd];lia)
 have ea:its.toArray++y1cd.toArray=(its++y1cd).toArray:=by simp
 rw [ea]
 exact⟨.ref _,_,I.lnew (t':=s.toks) (r.append r2) (by rw [z17];lia),rfl,q _ I.fresh⟩
noncomputable def ku:R2:=λx y H Q=>∃l k xs,x=.ref l/\y=.int k/\H l=some (.lst xs)/\-(2 ^ 63)≤k/\k<2 ^ 63/\xs.length*k.toNat≤sizeLine /\
 ∀p,H p=none->Q (.ref p) (ax H p (.lst (List.replicate k.toNat xs).flatten))
theorem kx{α:Type}(xs:List α)(k:Nat):(List.replicate k xs).flatten.length=k*xs.length:=by
 induction k with
 | zero=>simp
 | succ k ih=>rw [List.replicate_succ,List.flatten_cons,z17,ih,Nat.succ_mul,Nat.add_comm]
theorem zV:bw X (binaryOp .Mult) ku:=by
 intro pins s σ H x y v u Q I rx ry h
 obtain⟨l,k,xs,rfl,rfl,hH,h1,h2,hz,q⟩:=h
 cases rx
 obtain⟨t,rfl⟩:=ry
 obtain⟨z,its,n,r,hl,e⟩:=I.y217 hH
 have hlen:its.toArray.size*k.toNat≤sizeLine:=by rw [zd,<- hl];exact hz
 have hcap:¬ its.toArray.size*k.toNat>(2 ^ 63-1) / 8:=by
  have:(sizeLine:Nat)≤(2 ^ 63-1) / 8:=by decide
  lia
 have hfit:¬ (!Builtin.List.listFitsIndex k)=true:=by
  rw [fitsIndex_both h1 h2]
  exact z18
 have y196:¬ Builtin.List.listTooLong (its.toArray.size*k.toNat)=true:=by
  rw [rW hlen]
  exact z18
 have y198:List.foldl (λx1 x2=>x1++x2) #[] (List.replicate (if its.toArray.isEmpty=true then 0 else k.toNat) its.toArray)=(List.replicate k.toNat its).flatten.toArray:=by
  have f0:∀m:Nat,List.foldl (λx1 x2=>x1++x2) #[] (List.replicate m its.toArray)=(List.replicate m its).flatten.toArray:=λm=>by
   have:=dS its m []
   rw [List.nil_append] at this
   exact this
  rw [f0]
  cases its with
  | nil=>simp
  | cons a r'=>rw [if_neg (by simp)]
 refine wpAny_binaryOp_repeat_ref (T:="list") (U:="int") (by decide) ⟨_,e,rfl⟩ (λs'=>typeIs_int s' k t) noFill_list_mul F.fills_int_mul F.slot_int_rmul repeat_list F.slot_int_index.lookup
  (call_meets F.slot_int_rmul (typeIs_int s k t) F.entry_int_rmul (F.args_int_rmul_2 _ _) (int___rmul___int_list k t l its.toArray n)
   ⟨e,rfl,⟨_,e,rfl⟩,call_meets F.slot_list_mul ⟨_,e,rfl⟩ F.entry_list_mul (F.args_list_mul_2 _ _) (AutoListH.list___mul___list_int_3 l its.toArray n k t hfit hcap y196) ⟨e,?_⟩⟩)
 rw [y198]
 exact⟨.ref _,_,I.lnew (t':=s.toks) (r.rep k.toNat) (by rw [kx,Nat.mul_comm];exact hz),rfl,q _ I.fresh⟩
end
end
end L2
namespace Att
open PySem PySem.W PySem.Calls PyProof.Rows
theorem zW{P:Params}{h:Heap}:∀(ns:List Int) (vs:List Value),WellAll P h vs (ns.map WData.int)->IntsAre vs ns:=by
 intro ns
 induction ns with
 | nil =>
  intro vs w
  rw [List.map_nil] at w
  cases w
  exact .nil
 | cons n ns ih =>
  intro vs w
  rw [z15] at w
  cases w with
  | cons a b =>
   cases a
   exact .cons _ _ (ih _ b)
theorem zX{l:OpenLaw}{n:Nat}(hn:l.most=some n){P:Params}{h:Heap}{args:List WData}{vals:List Value}
  (hpre:l.row.toRowW.claim.pre args=true) (hwl:WellAll P h vals args) :
  ∃a vs ns,vals=[Value.ref a]/\args=[WData.list (ns.map WData.int)]/\h.get? a=some { cls:=.type "list",data:=.seq vs.toArray }/\IntsAre vs ns/\ns.length≤n:=by
 have hsh:WShape.hasAll [] args [.list .int]=true:=(pre_splitW hpre).1
 have hc:l.pre.holds [] { args:=args }=true:=(pre_splitW hpre).2
 obtain⟨d,r,rfl,h1,h2⟩:=hasAllW_cons hsh
 obtain rfl:=hasAllW_nil h2
 obtain⟨xs,rfl,h3⟩:=hasW_list h1
 obtain⟨ns,rfl⟩:=items_int h3
 have hlen:ns.length≤n:=by
  unfold OpenLaw.pre at hc
  have h4:(WTm.not (.lt (.lit (.int (n:Int))) (.len (.arg 0)))).holds [] { args:=[.list (ns.map .int)] }=true:=by
   have h4:=(holds_andW hc).1
   rw [hn] at h4
   exact h4
  have h5:=condW_of h4 (w_not (w_lt w_lit (w_len_list (w_arg rfl))))
  rw [z24] at h5
  refine Nat.le_of_not_lt λq=>?_
  have q':(n:Int)<((ns.length:Nat):Int):=by lia
  first
   | (rw [decide_eq_true q'] at h5;exact absurd h5 (by decide))
   | (simp at h5;lia)
 cases hwl with
 | cons w1 w2 =>
  cases w2
  cases w1 with
  | list ho y182=>exact⟨_,_,ns,rfl,rfl,ho,zW ns _ y182,hlen⟩
theorem zY(l:OpenLaw)(args:List WData):l.row.toRowW.claim.post args (.bool true) args=true :=
 postW_of (r:=l.row.toRowW) (X:=(true == true))
  (show WShape.has [] (.bool true) .bool=true by first|rfl|decide|simp [WShape.has,WShape.arms,WShape.armsAll])
  (show (WTm.eq .res (.lit (.bool true))).value [] { args:=args,res:=some (.bool true),after:=args }=some (.bool (true == true)) from w_eq_bool (w_res rfl) w_lit) rfl
theorem y6e{l:OpenLaw}{n:Nat}{q:Program}{loose:List Str}{XP:(Str->Option Value)->Heap->Prop}{YP:World->Heap->Prop}{d:DefRec}
  (hn:l.most=some n) (hdf:d.params.defaults=[])
  (call:∀(w:World) (s₀ s₁:Shared) (mg mb:Str->Option Value) (fa:Addr) (o:Obj) (pm cd doc:Value) (a:Addr) (vs:List Value) (ns:List Int),
   Ground q loose [] XP w s₀ mg mb s₁.heap->YP w s₁.heap ->
   s₁.heap.get? fa=some o->o.data=.func (docDef d.name d.params d.body d.scope pm cd doc)->s₁.heap.CodeRec cd d.name->mg d.name=some (.ref fa) ->
   s₁.heap.get? a=some { cls:=.type "list",data:=.seq vs.toArray }->IntsAre vs ns->ns.length≤n->s₁.gens=#[] ->
   codeAny (model l.prog w) callerA (.call (.ref fa) ⟨[.ref a],[]⟩) (λr s'=>r=.ok (.ret (.bool true))/\OldK s₁.heap s'.heap/\s'.os=s₁.os/\AllBare s'.gens) s₁) :
  WalkO q loose XP YP l.row.toRowW d [] (λf vs=>PySem.call f vs):=by
 intro w s₀ s₁ mg mb G Y fa o pm cd doc dV kV ho hd hcd hD hmg hg args vals as hpre hlay hrd hwl hlo
 obtain rfl:dV=.none:=Dflts.none hD hdf
 obtain rfl:kV=.none:=Dflts.noKw hD
 obtain⟨a,vs,ns,rfl,rfl,hobj,hints,hlen⟩:=zX hn hpre hwl
 refine enter_call (codeAny_mono (call w s₀ s₁ mg mb fa o pm cd doc a vs ns G Y ho (fd_plain hd) hcd hmg hobj hints hlen hg) λr s' hq=>?_)
 obtain⟨rfl,h2,h3,h4⟩:=hq
 exact⟨.inl ⟨.bool true,.bool true,[],rfl,λ_=>rfl,.bool true,zY l _,λ_=>⟨List.Pairwise.nil,λ_ hm=>(nomatch hm)⟩⟩,h2,h3,h4⟩
end Att
namespace L2
open PySem PySem.Spec PyProof.Rows
section
theorem r8:∀{vs:List Value} {ns:List Int},IntsAre vs ns->ag (ns.map V.int) vs
 | _,_,.nil=>.nil
 | _,_,.cons n t h=>.cons ⟨t,rfl⟩ (r8 h)
noncomputable def kz(H:Hp):Prop:=∀b,H b=none∨∃o xs,H b=some (.frz o (.lst xs))
theorem zZ{P:Program}{w:World}{K:W.Frag}{mg mb:Str->Option Value}{CX:iS}{k:Nat}{fa a:Addr}{fd:FuncData}{x:Str}{sp:Sp}{s₁:Shared}{vs:List Value}{ns:List Int}
  (KX:K.In s₁.heap) (hns:s₁.heap.Ns mainGlobals mg) (hb:s₁.heap.Ns builtinsNs mb) (hbb:∀x:Str,x≠"__name__"->mb x=bootBuiltins x) (hlim:s₁.heap.NoLimit) (hg:s₁.gens=#[])
  (ha:s₁.heap.get? a=some { cls:=.type "list",data:=.seq vs.toArray }) (hi:IntsAre vs ns) (hl:ns.length≤sizeLine) (hr:y4a k callerA)
  (F:∀base:Heap,K.In base->base.Ns mainGlobals mg->y36 P w K mg base CX k fa fd [x] sp) (hbind:∀(s:Shared) (u:Value),BindsTo s fd ⟨[u],[]⟩ [(x,u)])
  (hsp:∀H:Hp,kz H->aP K H a (ns.map V.int)->sp [.ref a] H (λv _=>v=.bl true) λ_ _ _=>False)
  (hCX:∀H e s',CX [] H s₁ (λ_ _ _=>False) e s'->False) :
  codeAny (model P w) callerA (.call (.ref fa) ⟨[.ref a],[]⟩) (λr s'=>r=.ok (.ret (.bool true))/\OldK s₁.heap s'.heap/\s'.os=s₁.os/\AllBare s'.gens) s₁:=by
 have rv:=r8 hi
 have lenV:=hi.length
 have core:∀H:Hp,kz H->aP K H a (ns.map V.int)->cm P w H s₁.heap->(∀b,H b≠none->b=a)->(H a≠none->K.lookup a=none) ->
   codeAny (model P w) callerA (.call (.ref fa) ⟨[.ref a],[]⟩) (λr s'=>r=.ok (.ret (.bool true))/\OldK s₁.heap s'.heap/\s'.os=s₁.os/\AllBare s'.gens) s₁:=by
  intro H hO hS hok hA hK
  have y78:∀{b:Addr} {o:Obj},s₁.heap.get? b=some o->H b=none->(dX s₁.heap H).get? b=some o:=λe n=>xC e n
  have noA:∀{b:Addr} {o:Obj} {es:Array DictEntry} {ep:Nat},s₁.heap.get? b=some o->o.data=.dict es ep->H b=none:=λ{b o es ep} e d=>by
   cases q:H b with
   | none=>rfl
   | some u =>
    have e':b=a:=hA b (by rw [q];simp)
    subst e'
    rw [ha] at e;cases e
    have d':Data.seq vs.toArray _=Data.dict es ep:=d
    cases d'
  have nsK:∀{b:Addr} {m:Str->Option Value},s₁.heap.Ns b m->(dX s₁.heap H).Ns b m:=λ{b m} ⟨o,es,ep,e,d,r⟩=>⟨o,es,ep,y78 e (noA e d),d,r⟩
  have hKb:K.In (dX s₁.heap H):=λb o e=>y78 (KX b o e) (by
   cases q:H b with
   | none=>rfl
   | some u =>
    have e':b=a:=hA b (by rw [q];simp)
    subst e'
    rw [hK (by rw [q];simp)] at e;cases e)
  have hM:Mod K mg (dX s₁.heap H):=⟨hKb,nsK hns,⟨mb,nsK hb,hbb⟩,let ⟨mc,h1,h2⟩:=hlim;⟨mc,nsK h1,h2⟩⟩
  have e0:y11 P w K mg (dX s₁.heap H) callerA [] s₁ H:=⟨rfl,hM,λb o e=>xD e,Nat.le_of_eq (xB _ _),trivial,λb hb=>absurd (show b∈([]:List Addr) from hb) (by simp),hok,.of_eq hg⟩
  refine codeAny_mono ((F _ hKb (nsK hns)).run callerA [] s₁ H ⟨[.ref a],[]⟩ [.ref a] [.ref a] _ _ hr e0 (hbind s₁ (.ref a)) (.cons rfl .nil) (hsp H hO hS)) λr s' h=>?_
  cases r with
  | error e=>exact (hCX H e s' h).elim
  | ok fl =>
   cases fl with
   | next=>exact False.elim h
   | brk=>exact False.elim h
   | cont=>exact False.elim h
   | ret u =>
    obtain⟨v,H',os,bare,un,hok',r',q⟩:=h
    have q':v=.bl true:=q
    subst q'
    obtain rfl:u=Value.bool true:=r'
    refine⟨rfl,OldK.of_keep λb o e=>?_,os,bare⟩
    cases q:H b with
    | none=>exact un.keep b o e q (by intro z;exact absurd (show b∈([]:List Addr) from z) (by simp)) (by simp)
    | some u =>
     rcases hO b with z|⟨ob,xs,z⟩
     ·rw [q] at z;cases z
     ·have z2:=un.y157 b ob _ z
      obtain⟨e1,_⟩:=hok b _ z
      obtain⟨e2,_⟩:=hok' b _ z2
      rw [e] at e1;cases e1
      exact e2
 cases hk:K.lookup a with
 | some o =>
  have e:=KX a o hk
  rw [ha] at e
  cases e
  refine core (λ_=>none) (λ_=>.inl rfl) (.inr ⟨_,vs.toArray,_,hk,rfl,rfl,rfl,by rw [zd,lenV];exact hl,by simpa using rv⟩) (λb u z=>by have z':(none:Option HO)=some u:=z;cases z') (λb z=>absurd rfl z) λz=>absurd rfl z
 | none =>
  refine core (λb=>if b=a then some (.frz { cls:=.type "list",data:=.seq vs.toArray } (.lst (ns.map V.int))) else none) (λb=>?_) (.inl (.inr ⟨{ cls:=.type "list",data:=.seq vs.toArray },if_pos rfl⟩)) (λb u z=>?_) (λb z=>?_) λ_=>hk
  ·by_cases hb:b=a
   ·exact .inr ⟨_,_,if_pos hb⟩
   ·exact .inl (if_neg hb)
  ·by_cases hb:b=a
   ·have z':=(if_pos hb).symm.trans z
    cases z'
    subst hb
    exact⟨ha,by rw [z24];exact hl,vs,_,rv,ha⟩
   ·have z':=(if_neg hb).symm.trans z
    cases z'
  ·by_cases hb:b=a
   ·exact hb
   ·exact absurd (if_neg hb) z
end
section
theorem y49a{l:W.OpenLaw}{n k:Nat}{q:Program}{loose:List Str}{XP:(Str->Option Value)->Heap->Prop}{YP:World->Heap->Prop}{d:DefRec}{K:Params->W.Frag}{CX:World->iS}{sp:World->Sp}{x:Str}
  (hn:l.most=some n) (hn2:n≤sizeLine) (hdf:d.params.defaults=[]) (hr:y4a k callerA)
  (hY:∀(w:World) (h:Heap),YP w h->(K w.params).In h)
  (F:∀(w:World) (mg:Str->Option Value) (fa:Addr) (h:Heap),(K w.params).In h->h.Ns mainGlobals mg->mg d.name=some (.ref fa) ->
   ∃fd:FuncData,(∀(s:Shared) (u:Value),BindsTo s fd ⟨[u],[]⟩ [(x,u)]) /\
    ∀base:Heap,(K w.params).In base->base.Ns mainGlobals mg->y36 l.prog w (K w.params) mg base (CX w) k fa fd [x] (sp w))
  (hsp:∀(w:World) (H:Hp) (a:Addr) (ns:List Int),ns.length≤n->kz H->aP (K w.params) H a (ns.map V.int)->sp w [.ref a] H (λv _=>v=.bl true) λ_ _ _=>False)
  (hCX:∀(w:World) (H:Hp) (s:Shared) (e:Value) (s':Shared),CX w [] H s (λ_ _ _=>False) e s'->False) :
  W.WalkO q loose XP YP l.row.toRowW d [] (λf vs=>PySem.call f vs):=by
 refine Att.y6e hn hdf λw s₀ s₁ mg mb fa o pm cd doc a vs ns G Y ho hd hcd hmg hobj hints hlen hg=>?_
 have KX:=hY w _ Y
 obtain⟨fd,hb,hF⟩:=F w mg fa _ KX G.T.g hmg
 exact zZ KX G.T.g G.T.b G.T.builtins G.T.nolimit hg hobj hints (z27 hlen hn2) hr hF hb (λH hO hS=>hsp w H a ns hlen hO hS) λH e s'=>hCX w H s₁ e s'
end
section
noncomputable def aL(s:Stmt)(j:Nat):Stmt:=match s with
 | .ClassDef _ _ _ body _ _ _ _ _ _ _=>body.getD j (.Pass ⟨0,0,0,0⟩)
 | _=>.Pass ⟨0,0,0,0⟩
noncomputable def pK(s:Stmt):Arguments:=match s with
 | .FunctionDef _ a _ _ _ _ _ _ _ _=>a
 | _=>{ posonlyargs:=[],args:=[],vararg:=none,kwonlyargs:=[],kw_defaults:=[],kwarg:=none,defaults:=[] }
noncomputable def mm(s:Stmt):List Stmt:=match s with
 | .FunctionDef _ _ b _ _ _ _ _ _ _=>b
 | _=>[]
noncomputable def bK(s:Stmt):Scope:=match s with
 | .FunctionDef _ _ _ _ _ _ sc _ _ _=>sc
 | _=>{ kind:=.function,names:=[],isGenerator:=false,isCoroutine:=false }
noncomputable abbrev bU:iS:=λ_ _ _ _ _ _=>False
noncomputable abbrev E0:XK:=λ_ _ _=>False
theorem nC{X:Cx}:cK bU X E0:=λ_ _ _ _ _ _ _ h=>h.elim
structure Fun(K:W.Frag)(x qual:Str)(st:Stmt)(f:Addr)(fd:FuncData):Prop where
 ex:∃(oc:Value) (od:Option Addr) (kV doc pm:Value) (an:Option Addr) (cdv ct:Value) (osl:Array (Option Value)),
  fd=W.fnOf x qual (pK st) (mm st) (bK st) .none kV doc pm an cdv ct/\K.lookup f=some ⟨oc,od,.func fd,osl⟩/\W.codeIn K cdv qual=true
 kp:W.keepIn K (.ref f)=true
section
variable {P:Program}{w:World}{K:W.Frag}{mg:Str->Option Value}{base:Heap}
theorem Fun.ok{x qual:Str}{st:Stmt}{f:Addr}{fd:FuncData}{N ps:List Str}{k:Nat}{sp:Sp}(F:Fun K x qual st f fd)(S:y37 N ps (bK st))(len:∀vs H Q E,sp vs H Q E->vs.length=ps.length)
  (y18a:∀(cdv:Value) (A:Around) (outer:List Env) (s:Shared) (H:Hp) (vs:List V) (Q:VK) (E:XK),y4a k (A.deeper (envOfC qual (bK st) s.heap.objs.size f cdv))->sp vs H Q E ->
   ∃t,dY (nr bU P w K mg base N qual (bK st) f cdv A outer s H E).nox (mm st) t/\t { nx:=λ_ H'=>Q .non H',rt:=Q } (start N vs) H):y36 P w K mg base bU (k+1) f fd ps sp:=by
 obtain⟨oc,od,kV,doc,pm,an,cdv,ct,osl,rfl,lk,hcd⟩:=F.ex
 refine qT lk hcd S len λA outer s H vs Q E hr hsp=>?_
 obtain⟨t,h,q⟩:=y18a cdv A outer s H vs Q E hr hsp
 exact⟨t,h.nox,q⟩
theorem Fun.binds{x qual:Str}{st:Stmt}{f:Addr}{fd:FuncData}{ps:List Str}(F:Fun K x qual st f fd)
  (h:∀(kV doc pm:Value) (an:Option Addr) (cdv ct:Value) (us:List Value),us.length=ps.length->bindArgs (W.fnOf x qual (pK st) (mm st) (bK st) .none kV doc pm an cdv ct) ⟨us,[]⟩=pure (ps.zip us)):bZ K fd ps []:=by
 obtain⟨oc,od,kV,doc,pm,an,cdv,ct,osl,rfl,lk,hcd⟩:=F.ex
 exact .all (h kV doc pm an cdv ct)
theorem y158{x qual:Str}{st:Stmt}{f:Addr}{oc:Value}{od an:Option Addr}{osl:Array (Option Value)}{kV doc pm cdv ct:Value}(l:K.lookup f=some ⟨oc,od,.func (W.fnOf x qual (pK st) (mm st) (bK st) .none kV doc pm an cdv ct),osl⟩)
  (c:W.codeIn K cdv qual=true) (k:W.keepIn K (.ref f)=true):Fun K x qual st f (W.fnOf x qual (pK st) (mm st) (bK st) .none kV doc pm an cdv ct):=⟨⟨oc,od,kV,doc,pm,an,cdv,ct,osl,rfl,l,c⟩,k⟩
end
theorem nD{A:Around}{k:Nat}(hr:y4a k A):A.units+1<cLine:=Nat.lt_of_le_of_lt (Nat.add_le_add_left (by decide:1≤64) _) hr.units
section
variable {X:Cx}
theorem y97:y9 X (.builtin "len") (λxs H Q=>∃a kvs,xs=[V.ref a]/\H a=some (.dK kvs)/\Q (.int kvs.length) H):=by
 intro pins s σ H xs us Q I r h
 obtain⟨a,kvs,rfl,ha,q⟩:=h
 obtain⟨u,rfl,ru⟩:=bY r
 cases ru
 exact qY I (.inl ha) λt s' I'=>⟨.int kvs.length,H,I',⟨t,rfl⟩,q⟩
end
noncomputable def cU(H H':Hp):Prop:=∀b o,H b=some o->H' b=some o
theorem cU.free{H H':Hp}(e:cU H H'){l:Addr}(h:H' l=Option.none):H l=Option.none:=by
 cases q:H l with
 | none=>rfl
 | some o =>
  rw [e l o q] at h
  cases h
end
end L2
set_option maxHeartbeats 4000000
namespace PySem
noncomputable def nE(names:List (Str×NameKind))(env:Env):List (Str×Addr) :=
 names.foldl (λcs p=>if p.2 == NameKind.free then (p.1,(env.cells.lookup p.1).getD 0)::cs else cs) []
theorem ya7:∀(l:List (Str×NameKind)) (acc:List (Str×Addr)),(∀p∈l,p.2=.free->∃c,env.cells.lookup p.1=some c) ->
  (forIn l acc (λ(x:Str×NameKind) (cs:List (Str×Addr))=>match x with
   | (name,kind)=>if (kind == NameKind.free)=true then (do let a <- cellOf env name;pure (ForInStep.yield ((name,a)::cs)):Sem _) else pure (ForInStep.yield cs))) =
  (pure (l.foldl (λcs p=>if p.2 == NameKind.free then (p.1,(env.cells.lookup p.1).getD 0)::cs else cs) acc):Sem _)
 | [],acc,_=>by simp
 | (n,k)::r,acc,h=>by
  have ih:=λa=>ya7 r a λp hp=>h p (z22 _ hp)
  rw [List.forIn_cons]
  by_cases hk:k=.free
  ·subst hk
   obtain⟨c,e⟩:=h (n,.free) List.mem_cons_self rfl
   have e':cellOf env n=pure c:=by unfold cellOf;rw [e]
   show (if (NameKind.free == NameKind.free)=true then (do let a <- cellOf env n;pure (ForInStep.yield ((n,a)::acc)):Sem _) else pure (ForInStep.yield acc)) >>= _=_
   rw [if_pos (by rfl),e',pure_bind,pure_bind]
   rw [List.foldl_cons]
   have e2:(if ((n,NameKind.free).2 == NameKind.free)=true then ((n,NameKind.free).1,(env.cells.lookup (n,NameKind.free).1).getD 0)::acc else acc)=(n,c)::acc:=by
    rw [if_pos (by rfl),e];rfl
   rw [e2]
   exact ih _
  ·have hb:(k == NameKind.free)=false:=by simpa using hk
   simp only [hb,Bool.false_eq_true,if_false,pure_bind,ih,List.foldl_cons]
theorem ya6 (h:∀p∈scope.names,p.2=.free->∃c,env.cells.lookup p.1=some c):closureFor scope env=pure (nE scope.names env):=by
 unfold closureFor nE
 have:=ya7 scope.names [] h
 simp only [bind_pure]
 exact this
theorem kA{env:Env}:∀{l:List (Str×NameKind)} {acc:List (Str×Addr)} {y:Str} {c:Addr},
  (y,c)∈l.foldl (λcs p=>if p.2 == NameKind.free then (p.1,(env.cells.lookup p.1).getD 0)::cs else cs) acc↔(y,c)∈acc∨((y,NameKind.free)∈l/\c=(env.cells.lookup y).getD 0)
 | [],acc,y,c=>by simp
 | (n,k)::r,acc,y,c=>by
  rw [List.foldl_cons,kA]
  by_cases hk:k=.free
  ·subst hk
   simp only [beq_self_eq_true,if_true,z1b,Prod.mk.injEq]
   constructor
   ·rintro ((⟨rfl,rfl⟩| h)|⟨h1,h2⟩)
    ·exact .inr ⟨.inl ⟨rfl,trivial⟩,rfl⟩
    ·exact .inl h
    ·exact .inr ⟨.inr h1,h2⟩
   ·rintro (h|⟨⟨rfl,_⟩| h1,h2⟩)
    ·exact .inl (.inr h)
    ·exact .inl (.inl ⟨rfl,h2⟩)
    ·exact .inr ⟨h1,h2⟩
  ·have hb:(k == NameKind.free)=false:=by simpa using hk
   simp only [hb,Bool.false_eq_true,if_false,z1b,Prod.mk.injEq]
   constructor
   ·rintro (h|⟨h1,h2⟩)
    ·exact .inl h
    ·exact .inr ⟨.inr h1,h2⟩
   ·rintro (h|⟨⟨_,h⟩| h1,h2⟩)
    ·exact .inl h
    ·exact absurd h.symm hk
    ·exact .inr ⟨h1,h2⟩
theorem eY{β:Type}:∀{l:List (Str×β)} {a:Str} {b:β},l.lookup a=some b->(a,b)∈l
 | [],_,_,h=>by simp at h
 | (k,v)::l,a,b,h=>by
  rw [List.lookup_cons] at h
  split at h
  ·rename_i e
   cases h
   have:a=k:=by simpa using e
   subst this
   exact List.mem_cons_self
  ·exact z22 _ (eY h)
theorem se{β:Type}:∀{l:List (Str×β)} {a:Str} {b:β},(a,b)∈l->∃b',l.lookup a=some b'
 | [],_,_,h=>by simp at h
 | (k,v)::l,a,b,h=>by
  rw [List.lookup_cons]
  split
  ·exact⟨v,rfl⟩
  ·rename_i e
   rcases z1b.mp h with q|q
   ·cases q
    simp at e
   ·exact se q
theorem kB{env:Env}:∀{names:List (Str×NameKind)} {y:Str} {k:NameKind},
  (names.map λ(n,k)=>if (k == NameKind.free&&env.scope.kind == .function&&env.kindOf n == some .cell) then (n,NameKind.cell) else (n,k)).lookup y=some k ->
  names.lookup y=some k∨(names.lookup y=some .free/\k=.cell)
 | [],_,_,h=>by simp at h
 | (n,k0)::r,y,k,h=>by
  rw [z15] at h
  by_cases hc:(k0 == NameKind.free&&env.scope.kind == .function&&env.kindOf n == some .cell)=true
  ·simp only [hc,if_true] at h
   rw [List.lookup_cons] at h ⊢
   cases hy:y == n with
   | true =>
    rw [hy] at h
    cases h
    have:k0=.free:=by
     rw [z2b,z2b] at hc
     simpa using hc.1.1
    subst this
    exact .inr ⟨rfl,rfl⟩
   | false =>
    rw [hy] at h
    exact kB h
  ·rw [Bool.not_eq_true] at hc
   simp only [hc,Bool.false_eq_true,if_false] at h
   rw [List.lookup_cons] at h ⊢
   cases hy:y == n with
   | true =>
    rw [hy] at h
    exact .inl h
   | false =>
    rw [hy] at h
    exact kB h
theorem sf{env:Env}:∀{names:List (Str×NameKind)} {y:Str},names.lookup y=some .free ->
  (names.map λ(n,k)=>if (k == NameKind.free&&env.scope.kind == .function&&env.kindOf n == some .cell) then (n,NameKind.cell) else (n,k)).lookup y=some .cell ∨
  (names.map λ(n,k)=>if (k == NameKind.free&&env.scope.kind == .function&&env.kindOf n == some .cell) then (n,NameKind.cell) else (n,k)).lookup y=some .free
 | [],_,h=>by simp at h
 | (n,k0)::r,y,h=>by
  rw [z15]
  rw [List.lookup_cons] at h
  cases hy:y == n with
  | true =>
   rw [hy] at h
   cases h
   by_cases hc:(NameKind.free == NameKind.free&&env.scope.kind == .function&&env.kindOf n == some .cell)=true
   ·left;simp only [hc,if_true,List.lookup_cons,hy]
   ·rw [Bool.not_eq_true] at hc
    right;simp only [hc,Bool.false_eq_true,if_false,List.lookup_cons,hy]
  | false =>
   rw [hy] at h
   have ih:=sf (env:=env) h
   by_cases hc:(k0 == NameKind.free&&env.scope.kind == .function&&env.kindOf n == some .cell)=true
   ·simp only [hc,if_true,List.lookup_cons,hy];exact ih
   ·rw [Bool.not_eq_true] at hc
    simp only [hc,Bool.false_eq_true,if_false,List.lookup_cons,hy];exact ih
section
noncomputable def ya(prog:Program)(w:World)(A:Around)(elt target:Expr)(ifs:List Expr)(env:Env)(it acc:Value)(last:Shared->Prop)(on:Shared->Prop):Shared->Prop :=
 let no:Value->Shared->Prop:=λ_ _=>False
 wpAny (model prog w) A (pyNext it) (λr s1=>match r with
  | none=>last s1
  | some v=>wpAny (model prog w) A (letOwnedTupleGo target it v) (λ_=>wpAny (model prog w) A (assign target env v) (λ_=>wpAny (model prog w) A
    (forIn ifs true λc r=>if r=true then do let ok <- isTrue c env (eval c env);pure (ForInStep.yield ok) else pure (ForInStep.yield r))
    (λok s4=>if ok=true then wpAny (model prog w) A (eval elt env) (λx=>wpAny (model prog w) A (call (.builtin "list.append") [acc,x]) (λ_=>on) no) no s4 else on s4) no) no) no s1) no
theorem yb3{last on:Shared->Prop}{s:Shared}(h:ya prog w A elt target ifs env it acc last on s) :
  wpAny (model prog w) A (compTurn (.ListComp elt [⟨target,iter,ifs,0⟩] scope pos) 0 it acc env) (λr t=>r=.done .next/\last t∨r=.again (.compLoop (.ListComp elt [⟨target,iter,ifs,0⟩] scope pos) 0 it acc env)/\on t) (λ_ _=>False) s:=by
 have off:∀{R:Value->Shared->Prop} (e:Value) (t:Shared),False->R e t:=λ_ _ f=>f.elim
 rw [compTurn_list]
 refine zc (wpAny_standAt (zc (wpAny_mono h (λr s1 k=>?_) off)))
 match r,k with
 | none,k=>exact zf (.inl ⟨rfl,k⟩)
 | some v,k =>
  refine zc (wpAny_mono k (λ_ _ k=>zc (wpAny_mono k (λ_ _ k=>zc (wpAny_mono k (λok s4 k=>?_) off)) off)) off)
  match ok,k with
  | false,k=>exact zf (.inr ⟨rfl,k⟩)
  | true,k=>exact zc (zc (wpAny_mono k (λ_ _ k=>zc (wpAny_mono k (λ_ _ k=>zf (zf (.inr ⟨rfl,k⟩))) off)) off))
theorem yab(I:Nat->Shared->Prop)(turn:∀n s,I n s->ya prog w A elt target ifs env it acc (R (.ok .next)) (λt=>∃m,m<n/\I m t) s)(n:Nat)(h:I n s) :
  codeAny (model prog w) A (.compLoop (.ListComp elt [⟨target,iter,ifs,0⟩] scope pos) 0 it acc env) R s:=by
 refine codeAny_loop rfl I (λn s k=>wpAny_noted ?_) n h
 refine wpAny_mono (yb3 (turn n s k)) (λr t k=>?_) λ_ _ f=>f.elim
 rcases k with⟨rfl,k⟩| ⟨rfl,k⟩
 ·exact k
 ·exact⟨rfl,k⟩
end
end PySem
namespace L2
open PySem PySem.Spec PyProof.Rows
section
structure yb where
 fp:List Addr
 s:Shared
 H:Hp
 C:Addr
 pins:List (Addr×Obj)
noncomputable def cV(X:Cx)(scope:Scope)(N:List Str)(z:yb):Cx :=
 { X with N:=N,s₀:=z.s,H₀:=z.H,env:=compEnvC scope (nE scope.names X.env) z.C X.env,outer:=X.stack,ex:=z.fp,fn:=λ_=>false,pn:=X.pn++z.pins,xe:=λ_ _=>False }
structure CompOk(X:Cx)(scope:Scope)(x:Str)(ys:List Str)(ix:List Nat):Prop where
 kind:scope.kind=.function
 hx:scope.names.lookup x=some .local
 y25c:∀p∈scope.names,p.2≠.cell
 names:∀p∈scope.names,p.2=.local->scope.names.lookup p.1=some .local
 fr:∀p∈scope.names,p.2=.free->X.env.kindOf p.1=some .cell∨X.env.kindOf p.1=some .free
 len:ys.length=ix.length
 here:∀(j:Nat) (y:Str) (i:Nat),ys[j]?=some y->ix[j]?=some i->scope.names.lookup y=some .free/\X.N[i]?=some y
 nd:(x::ys).Nodup
noncomputable def mn(X:Cx)(ifs:List Expr)(t:TT):Prop :=
 ∀(pins:List (Addr×Obj)) (s:Shared) (σ:St) (H:Hp) (Q:Bool->Hp->Prop),Inv X pins σ H s->t σ H Q ->
  wpAny (model X.prog X.w) X.A (forIn ifs true λc r=>if r=true then do let ok <- isTrue c X.env (eval c X.env);pure (ForInStep.yield ok) else pure (ForInStep.yield r)) (TP X pins σ Q) X.xe s
noncomputable def si:TT:=λ_ H Q=>Q true H
theorem Aa:mn X [] si:=λpins s σ H Q I h=>wpAny_tests_nil ⟨H,I,h⟩
theorem Ab (h:PT X c t):mn X [c] t:=λpins s σ H Q I q=>wpAny_tests_one (h pins s σ H Q I q)
section
theorem yb4   (I:Inv X pins σ H s)(f:fU X pins H C)(hs:Heap.SameBut C s.heap h'):Inv X pins σ H { s with heap:=h' } :=
 I.turned (λb o hb e=>(hs.2 b hb).trans e) f.1 f.2.1 f.2.2.2.1 f.2.2.2.2.1 f.2.2.2.2.2
end
end
end L2
namespace PySem
open PyProof.Rows
theorem Ac:typeLookup (.type "list_reverseiterator") "__len__" = pure none:=by rw [typeLookup_type,builtinLookup_eq_fast];kernel_rfl
theorem Ad:typeLookup (.type "list_reverseiterator") "__length_hint__" = pure (some (.builtin "list_reverseiterator.__length_hint__")):=by rw [typeLookup_type,builtinLookup_eq_fast];kernel_rfl
section
theorem Ae(hT:s.TypeIs (.ref r) "list_reverseiterator")(h:Q false s):wpAny (model prog w) A (Builtin.List.listLengthHint (.ref r)) Q E s:=by
 have isa:isSubtype (.type "list_reverseiterator") (.type "list_reverseiterator")=pure true:=by rw [isSubtype_type];kernel_rfl
 have cut:splitId "list_reverseiterator.__length_hint__" = some ("list_reverseiterator","__length_hint__"):=by decide +kernel
 unfold Builtin.List.listLengthHint
 refine zc (wpAny_specialOf hT Ac (zc (wpAny_specialOf hT Ad ?_)))
 dsimp only
 rw [cut]
 refine zc (wpAny_isInstance hT isa ?_)
 rw [if_neg (by decide),if_pos (by decide +kernel),if_neg (by decide +kernel)]
 exact zf h
noncomputable def y3e(s:Shared):Value->Shared->Prop:=λv t=>v=.ref s.heap.objs.size/\t={ s with heap:=s.heap.push { cls:=.type "list",data:=.seq #[] } }
theorem y9c (hh:A.handled=none)(hl:s.heap.IsList l items)(hne:l≠it)(hi:s.heap.IsRevIter it l ((items.size:Int)-1))(hn:items.size≤sizeLine)
  (hQ:∀h' tk acc c,(∀b o,b≠it->s.heap.get? b=some o->h'.get? b=some o)->h'.get? s.heap.objs.size=some { cls:=.type "list",dict:=none,data:=.seq acc c,slots:=#[] } ->
   ItemsOf (λi v=>items[items.size-1-i]?=some v) acc items.size->Q (.ref s.heap.objs.size) { s with heap:=h',toks:=tk }) :
  wpAny (model prog w) A (call (.type "list") [.ref it]) Q E s:=by
 refine callType_codes (Q₁:=y3e s) PySem.F.called_list (PySem.F.typeCall_list_1 _) PySem.F.entry_list_init (code_list_new _ ⟨rfl,rfl⟩) ?_
 rintro _ _ ⟨rfl,rfl⟩
 have hS:=z1c s.heap (o:={ cls:=.type "list",data:=.seq #[] }) rfl
 have below:∀{b o},s.heap.get? b=some o->b<s.heap.objs.size:=z16
 have hlt:l<s.heap.objs.size:=hl.elim λ_ q=>below q.1
 have hit:it<s.heap.objs.size:=hi.elim λ_ q=>below q.1
 refine⟨⟨_,hS,rfl⟩,PySem.F.args_list_init_2 _ _,?_⟩
 show wpAny _ _ (do let old <- Builtin.List.listItems (.ref s.heap.objs.size);Builtin.List.listUpdate (.ref s.heap.objs.size) (λ_=>#[]);letGo old.toList.reverse;Builtin.List.listExtendWith (.ref s.heap.objs.size) (.ref it) .none) _ _ _
 refine zc ?_
 unfold Builtin.List.listItems
 refine zc (wpAny_seqItems hS rfl (zf ?_))
 show wpAny _ _ (updateSeq s.heap.objs.size (λ_=>#[]) >>= λ_=>letGo (#[]:Array Value).toList.reverse >>= λ_=>Builtin.List.listExtendWith (.ref s.heap.objs.size) (.ref it) .none) _ _ _
 refine zc (wpAny_updateSeq hS rfl ?_)
 have hS₂:=Heap.get?_update_self (Obj.mapSeq (λ_=>(#[]:Array Value))) hS rfl
 generalize hh2:(s.heap.push { cls:=.type "list",data:=.seq #[] }).update s.heap.objs.size (Obj.mapSeq (λ_=>(#[]:Array Value)))=h2 at hS₂ ⊢
 have oth:∀b o,s.heap.get? b=some o->h2.get? b=some o:=λb o e=>by
  rw [<- hh2]
  exact (Heap.get?_update_other _ _ (Nat.ne_of_gt (z16 e))).trans (ze _ e)
 refine zc (wpAny_letGo ?_)
 have hl2:h2.IsList l items:=hl.at λo e=>oth l o e
 have hi2:h2.IsRevIter it l ((items.size:Int)-1):=hi.at λo e=>oth it o e
 have hSI:s.heap.objs.size≠it:=Nat.ne_of_gt hit
 have W:=Walks.listRev (prog:=prog) (w:=w) (A:=A.in1.in1) hh it l hne items
 have st:(λi (h:Heap)=>i≤items.size/\h.IsRevIter it l ((items.size:Int)-1-(i:Int))/\h.IsList l items) 0 h2:=⟨Nat.zero_le _,by simpa using hi2,hl2⟩
 unfold Builtin.List.listExtendWith
 have hT:({ s with heap:=h2 }:Shared).TypeIs (.ref it) "list_reverseiterator":=hi2.typeIs
 refine zc (wpAny_typeOf hT ?_)
 have h1:Builtin.List.listSameRef (.ref s.heap.objs.size) (.ref it)=false:=by simp [Builtin.List.listSameRef,hSI]
 have h2':(Value.type "list_reverseiterator" == Value.type "list")=false:=by decide
 have h3:(Value.type "list_reverseiterator" == Value.type "tuple")=false:=by decide
 simp only [h1,h2',h3,Bool.or_false,Bool.false_eq_true,if_false]
 refine zc (wpAny_pyIter_revIter hi2 ?_)
 refine zc (wpAny_holding (Ae hT ?_))
 have hSf:s.heap.objs.size∉[it,l]:=by simp only [z1b,List.not_mem_nil,or_false,not_or];exact⟨hSI,Nat.ne_of_gt hlt⟩
 have key:∀(h:Heap) (c₁:Nat),(λi (h:Heap)=>i≤items.size/\h.IsRevIter it l ((items.size:Int)-1-(i:Int))/\h.IsList l items) 0 h->(∀b o,s.heap.get? b=some o->h.get? b=some o) ->
   h.get? s.heap.objs.size=some { cls:=.type "list",data:=.seq #[] c₁ }->codeAny (model prog w) A.in1 (.builtin "list.extend.loop" ⟨[.ref s.heap.objs.size,.ref it,.none],[]⟩) (wants (λr s₂=>r=.none/\Q (.ref s.heap.objs.size) s₂) E) { s with heap:=h }:=by
  intro h c₁ hst hk hS₁
  refine codeAny_extend_loopS W.toS hn s.heap.objs.size hSf .none items.size 0 _ #[] c₁ rfl (Nat.zero_le _) hst hS₁ (ItemsOf.nil _) λs' acc' c' hm hS' y181=>?_
  rw [Moved.eq_with hm]
  refine⟨rfl,hQ s'.heap s'.toks acc' c' (λb o hb e=>hm.heap b o (λy197=>?_) (hk b o e)) hS' y181⟩
  rcases z1b.mp y197 with e'|y197
  ·exact absurd (z16 e) (by rw [e'];exact z30 _)
  ·exact hb (z28.mp y197)
 refine wpAny_ite_split (λ_=>?_) (λ_=>zf ⟨plainId_quiet PySem.F.plain_extend_loop _,key _ _ st oth hS₂⟩)
 refine zc (wpAny_rule ?_)
 refine zc ?_
 show wpAny _ _ (updateSeq s.heap.objs.size (·.push .none) >>= λ_=>updateSeq s.heap.objs.size (·.pop)) _ _ _
 refine zc (wpAny_updateSeq hS₂ rfl ?_)
 have hS₃:=Heap.get?_update_self (Obj.mapSeq (·.push Value.none)) hS₂ rfl
 refine wpAny_updateSeq hS₃ rfl ?_
 have hS₄:=Heap.get?_update_self (Obj.mapSeq (·.pop)) hS₃ rfl
 have oth2:=((Heap.SameBut.update h2 s.heap.objs.size (Obj.mapSeq (·.push Value.none))).trans (Heap.SameBut.update _ _ (Obj.mapSeq (·.pop)))).extBut
 refine zf ⟨plainId_quiet PySem.F.plain_extend_loop _,key _ _ ?_ (λb o e=>oth2 b o (z1f (z16 e)) (oth b o e)) hS₄⟩
 exact W.frame 0 _ _ st λb hb o e=>oth2 b o (λz=>hSf (z ▸ hb)) e
end
end PySem
namespace L2
open PySem PySem.Spec PyProof.Rows
section
section
theorem Af(hc:X.calm=true)(gl:Gl X "list")(ml:X.mg "list" = none)(gr:Gl X "reversed")(mr:X.mg "reversed" = none)(he:PE X e te)
  (hs1:starEach [e] X.env=[(false,eval e X.env)]:=by rfl)
  (hs2:starEach [.Call (.Name "reversed" p2) [e] [] q2] X.env=[(false,eval (.Call (.Name "reversed" p2) [e] [] q2) X.env)]:=by rfl) :
  PE X (.Call (.Name "list" p1) [.Call (.Name "reversed" p2) [e] [] q2] [] q1) (λσ H Q=>te σ H λx H1=>∃l ys,x=.ref l/\aP X.K H1 l ys/\∀p,H1 p=none->Q (.ref p) (ax H1 p (.lst ys.reverse))):=by
 intro pins s σ H Q I h
 refine Call_ (dG I gl ml PyProof.Rows.boot_list (PyProof.Rows.callWith_type1 ?_ (by rw [hs2];rfl) rfl))
 rw [hs2]
 show wpAny _ _ (spliced ((false,eval (.Call (.Name "reversed" p2) [e] [] q2) X.env)::backTo q1 [])) _ _ s
 refine Calls.spliced_cons ?_
 refine Call_ (dG I gr mr PyProof.Rows.boot_reversed (PyProof.Rows.callWith_type1 ?_ (by rw [hs1];rfl) rfl))
 rw [hs1]
 show wpAny _ _ (spliced ((false,eval e X.env)::backTo q2 [])) _ _ s
 refine Calls.spliced_cons (aF (he pins s σ H _ I h) λu s1 ⟨x,H1,I1,r1,q1⟩=>Calls.spliced_nil ?_)
 obtain⟨l,ys,e1,hq,q⟩:=q1
 subst e1
 cases r1
 obtain⟨its,rv,p,hz⟩:=I1.list hq
 have hlen:=rv.length
 refine call_reversed_list p.isList (Calls.spliced_nil ?_)
 have hl1:(s1.heap.push (revObj l ((its.toArray.size:Int)-1))).IsList l its.toArray:=p.isList.push _
 have hlt:l<s1.heap.objs.size:=by obtain⟨_,e,_⟩:=p.isList;exact z16 e
 refine y9c (I1.ok.hd hc) hl1 (z1f hlt) ⟨_,z1c _ rfl,rfl,rfl⟩ (by rw [zd,<- hlen];exact hz) λh' tk acc c hk hD y181=>?_
 have hk':∀b o,s1.heap.get? b=some o->h'.get? b=some o:=λb o e=>hk b o (z1f (z16 e)) (ze _ e)
 have hsz:s1.heap.objs.size≤(s1.heap.push (revObj l ((its.toArray.size:Int)-1))).objs.size:=by rw [Heap.size_push];exact Nat.le_succ _
 have hv:acc.toList=its.reverse:=by
  refine List.ext_getElem? λi=>?_
  by_cases hi:i<its.length
  ·have hi2:i<acc.size:=by rw [y181.1,zd];exact hi
   have e:=y181.2 i acc[i] (Array.getElem?_eq_getElem hi2)
   rw [List.getElem?_reverse hi,Array.getElem?_toList,Array.getElem?_eq_getElem hi2]
   simpa using e.symm
  ·rw [List.getElem?_eq_none (by rw [Array.length_toList,y181.1,zd];lia),List.getElem?_eq_none (by rw [z2f];lia)]
 refine⟨.ref _,_,I1.laid hk' hsz ?_,rfl,q _ (I1.hok.fresh hsz)⟩
 exact⟨by rw [z2f];exact hz,acc.toList,c,by rw [hv];exact rv.reverse,by rw [Array.toArray_toList];exact hD⟩
theorem Ag:bw X (binaryOp .FloorDiv) (rI (λ_ j=>0<j/\j<2 ^ 200) λi j=>.int (i / j)):=m9 λi j _ _ _ _ _ hc q=>by
 have h0:j≠0:=by lia
 refine floordiv_int h0 ?_ (.inl (PyProof.noPylong_of_log2 ?_))
 ·rw [Int.fdiv_eq_ediv_of_nonneg _ (by lia)];exact q
 ·have:j.natAbs<2 ^ 200:=by lia
  have h1:j.natAbs≠0:=by lia
  exact Nat.lt_trans ((Nat.log2_lt h1).mpr this) (by decide)
theorem y87:∀{bs:List Bool} {us:List Value},ag (bs.map V.bl) us->us=bs.map Value.bool
 | [],_,r=>by rw [List.map_nil] at r;cases r;rfl
 | b::bs,_,r=>by
  rw [z15] at r
  cases r with
  | cons r1 r2=>rw [z15,<- y87 r2];cases (show _=Value.bool b from r1);rfl
theorem y90(hc:X.calm=true):y9 X (.builtin "all") (λxs H Q=>∃(p:Addr) (bs:List Bool),xs=[.ref p]/\aP X.K H p (bs.map V.bl)/\Q (.bl (bs.all id)) H):=by
 intro pins s σ H xs us Q I r h
 obtain⟨p,bs,rfl,hq,q⟩:=h
 obtain⟨u,rfl,ru⟩:=bY r
 cases ru
 obtain⟨its,rv,pl,hz⟩:=I.list hq
 have hits:=y87 rv
 have hlt:p<s.heap.objs.size:=by obtain⟨_,e,_⟩:=pl.isList;exact z16 e
 refine call_all_walk (wpAny_pyIter_list pl.isList ?_)
 refine⟨s.heap.objs.size,[s.heap.objs.size,p],[s.heap.objs.size],its.toArray.size,_,_,λi=>(bs[i]?).getD true,rfl,Walks.list (A:=X.A.in1) (I.ok.hd hc) _ p (z1f hlt) its.toArray,
  ⟨⟨_,z1c _ rfl,rfl,rfl⟩,pl.isList.push _⟩,λi v s' Q' E' hP hQ=>?_,λh' tk hk=>?_⟩
 ·have e:(bs.map Value.bool)[i]?=some v:=by rw [<- hits];simpa using hP
  rw [List.getElem?_map] at e
  cases eb:bs[i]? with
  | none=>rw [eb] at e;cases e
  | some b =>
   rw [eb] at e
   cases (show Value.bool b=v from z2a e)
   simp only [eb,Option.getD_some] at hQ
   exact wpAny_truthy_bool hQ
 ·have e:((List.range its.toArray.size).all λi=>(bs[i]?).getD true)=bs.all id:=by
   rw [zd,hits,z24];exact PyProof.Rows.LSm.range_all bs
  rw [e]
  refine⟨.bl (bs.all id),H,I.kept λb o eo=>hk b o (λhm=>?_) (ze _ eo),rfl,q⟩
  rw [z28.mp hm] at eo
  exact z30 _ (z16 eo)
end
end
end L2
namespace L2
open PySem PySem.Spec PyProof.Rows Builtin.Str
section
section
noncomputable def sj:V->Option Int->Option Int->Hp->VK->Prop:=λx lo hi H Q=>∃z,x=.str z/\z.length≤sizeLine/\Q (.str (Txt.slice z lo hi)) H
theorem Ah:kj X sj:=by
 intro pins s σ H x v vl vu lo hi sl Q I rx hs pl pu h
 obtain⟨z,rfl,hz,q⟩:=h
 obtain⟨t,rfl⟩:=rx
 refine⟨"str",_,PySem.F.slot_str_getitem.lookup,typeIs_str _ _ _,?_⟩
 cases pl with
 | none =>
  cases pu with
  | none=>exact wpAny_getItem_str_slice (l:=none) (u:=none) (st:=none) hs rfl (post_val_or_str ⟨z27 (Txt.slice_le z _ _) hz,λt' k=>⟨.str (Txt.slice z none none),H,I.tok _,⟨_,rfl⟩,q⟩⟩)
  | int j uj=>exact wpAny_getItem_str_slice (l:=none) (u:=some (j,uj)) (st:=none) hs rfl (post_val_or_str ⟨z27 (Txt.slice_le z _ _) hz,λt' k=>⟨.str (Txt.slice z none (some j)),H,I.tok _,⟨_,rfl⟩,q⟩⟩)
 | int i ui =>
  cases pu with
  | none=>exact wpAny_getItem_str_slice (l:=some (i,ui)) (u:=none) (st:=none) hs rfl (post_val_or_str ⟨z27 (Txt.slice_le z _ _) hz,λt' k=>⟨.str (Txt.slice z (some i) none),H,I.tok _,⟨_,rfl⟩,q⟩⟩)
  | int j uj=>exact wpAny_getItem_str_slice (l:=some (i,ui)) (u:=some (j,uj)) (st:=none) hs rfl (post_val_or_str ⟨z27 (Txt.slice_le z _ _) hz,λt' k=>⟨.str (Txt.slice z (some i) (some j)),H,I.tok _,⟨_,rfl⟩,q⟩⟩)
theorem Ai:bw X (binaryOp .Mult) (λx y H Q=>∃z n,x=.str z/\y=.int n/\MulOk z n/\Q (.str (Txt.mul z n)) H):=by
 intro pins s σ H x y v u Q I rx ry h
 obtain⟨z,n,rfl,rfl,hm,q⟩:=h
 obtain⟨t,rfl⟩:=rx
 obtain⟨t',rfl⟩:=ry
 exact SB.mul hm λt' k=>⟨.str (Txt.mul z n),H,I.tok _,⟨_,rfl⟩,q⟩
noncomputable def nF:List V->List V->Bool
 | [],[]=>true
 | x::xs,y::ys=>fP x y&&nF xs ys
 | _,_=>false
theorem Aj(n:Nat)(f:Nat->Bool):(List.range (n+1)).all f=(f 0&&(List.range n).all λj=>f (j+1)):=by
 rw [List.range_succ_eq_map,List.all_cons,List.all_map];rfl
noncomputable def Fm(K:W.Frag)(neg:Bool):R2:=λx y H Q=>∃a b xs ys,x=.ref a/\y=.ref b/\aP K H a xs/\aP K H b ys/\xs.all aX=true/\ys.all aX=true/\Q (.bl (if neg then !nF xs ys else nF xs ys)) H
end
noncomputable def cZ(P:Program)(w:World)(K:W.Frag)(mg:Str->Option Value)(base:Heap)(x:Str)(k:Nat)(ps:List Str)(sp:Sp):Prop :=
 ∃(f:Addr) (fd:FuncData),mg x=some (.ref f)/\W.keepIn K (.ref f)=true/\bZ K fd ps []/\y36 P w K mg base bU k f fd ps sp
theorem Ak    (h:cZ X.prog X.w X.K X.mg X.base x k ps sp)(hr:y4a k X.A)(hg:Gl X x)(ha:PA X (e::es) t)
  (hdb:(x == ("__debug__" : Str))=false:=by decide) (he:gM X e es:=by rfl) (hpl:fW X pos es:=by rfl) :
  PE X (.Call (.Name x p) (e::es) [] pos) (ke sp [] E0 t):=by
 obtain⟨f,fd,hm,hk,hb,G⟩:=h
 exact yW G hr hg hm hk hb .nil nC ha hdb he hpl
end
end L2
namespace L2
open PySem PySem.Spec PyProof.Rows
section
noncomputable def cL(n:Nat)(ix:List Nat)(σ:St):St:=List.replicate n none++ix.map λi=>(σ[i]?).getD none
structure yc(X:Cx)(scope:Scope)(xs ys:List Str)(ix:List Nat):Prop where
 kind:scope.kind=.function
 hx:∀x∈xs,scope.names.lookup x=some .local
 y25c:∀p∈scope.names,p.2≠.cell
 names:∀p∈scope.names,p.2=.local->scope.names.lookup p.1=some .local
 fr:∀p∈scope.names,p.2=.free->X.env.kindOf p.1=some .cell∨X.env.kindOf p.1=some .free
 len:ys.length=ix.length
 here:∀(j:Nat) (y:Str) (i:Nat),ys[j]?=some y->ix[j]?=some i->scope.names.lookup y=some .free/\X.N[i]?=some y
 nd:(xs++ys).Nodup
noncomputable def yac(osc:Scope)(N:List Str)(scope:Scope)(xs ys:List Str)(ix:List Nat):Bool :=
 decide (scope.kind=.function)&&xs.all (λx=>decide (scope.names.lookup x=some .local))&&scope.names.all (λp=>decide (p.2≠.cell)) &&
 scope.names.all (λp=>decide (p.2=.local->scope.names.lookup p.1=some .local)) &&
 scope.names.all (λp=>decide (p.2=.free->osc.names.lookup p.1=some .cell∨osc.names.lookup p.1=some .free)) &&
 decide (ys.length=ix.length)&&(ys.zip ix).all (λp=>decide (scope.names.lookup p.1=some .free/\N[p.2]?=some p.1))&&decide ((xs++ys).Nodup)
theorem jR  (hsc:X.env.scope=osc)(hN:X.N=N)(h:yac osc N scope xs ys ix=true):yc X scope xs ys ix:=by
 unfold yac at h
 simp only [z2b,z35,decide_eq_true_eq] at h
 obtain⟨⟨⟨⟨⟨⟨⟨h1,h2⟩,h3⟩,h4⟩,h5⟩,h6⟩,h7⟩,h8⟩:=h
 refine⟨h1,h2,h3,h4,λp hp hf=>?_,h6,λj y i e1 e2=>?_,h8⟩
 ·have:=h5 p hp hf
  unfold Env.kindOf
  rw [hsc]
  exact this
 ·rw [hN]
  refine h7 (y,i) ?_
  have:(ys.zip ix)[j]?=some (y,i):=by rw [List.getElem?_zip_eq_some];exact⟨e1,e2⟩
  exact z2e this
noncomputable def y3b(n:Nat)(ix:List Nat)(σ σ':St):Prop:=σ'.length=n+ix.length/\∀(j:Nat) v,(cL n ix σ)[j]?=some (some v)->σ'[j]?=some (some v)
theorem sk(n:Nat)(ix:List Nat)(σ:St):(cL n ix σ).length=n+ix.length:=by
 unfold cL
 rw [z17,List.length_replicate,z24]
theorem Al  (h:j<n)(v:V):(cL n ix σ)[j]?≠some (some v):=by
 unfold cL
 rw [z21 (by rw [List.length_replicate];exact h),List.getElem?_replicate,if_pos h]
 intro e
 have:(none:Option V)=some v:=z2a e
 cases this
theorem yb2  (O:yc X scope xs ys ix)
  (I:Inv X pins σ H s) (hf:∀b∈fp,fU X pins H b) (hfl:∀b∈fp,b<s.heap.objs.size) (m:Str->Option Value)
  (hns:h'.Ns s.heap.objs.size m) (hk:∀b o,s.heap.get? b=some o->h'.get? b=some o) :
  Inv (cV X scope (xs++ys) ⟨fp,s,H,s.heap.objs.size,pins⟩) [] (cL xs.length ix σ) H { s with heap:=h',toks:=t' }:=by
 have hC:H s.heap.objs.size=none:=I.hok.fresh (z12 _)
 have cl:∀y c,(nE scope.names X.env).lookup y=some c->X.env.cells.lookup y=some c:=λy c e=>by
  rcases (kA).mp (eY e) with z|⟨z,rfl⟩
  ·simp at z
  ·obtain⟨c',e'⟩:=I.ok.has y (O.fr _ z rfl)
   rw [e'];rfl
 have clh:∀y,(y,NameKind.free)∈scope.names->∃c,(nE scope.names X.env).lookup y=some c:=λy z=>se ((kA).mpr (.inr ⟨z,rfl⟩))
 refine⟨⟨I.ok.mod,O.kind,I.ok.glob,I.ok.blt,z12 _,λy z c h1 h2=>I.ok.inj y z c (cl y c h1) (cl z c h2),λy hy=>?_,λy c h _=>?_,I.ok.hd,I.ok.frames,.inl rfl,
  λb hb=>⟨z1f (hfl b hb),λy c e=>(hf b hb).2.2.2.2.1 y c (cl y c e)⟩,I.bs,z27 I.ok.bsz I.sz,λb o e hb=>?_,λb hb hb2=>?_,I.stack,I.y40a⟩,
  rfl,I.bare,Un.kept hk,⟨m,hns,λi y v e1 e2 vis=>?_⟩,λy c e=>?_,hC,λy c e=>I.y155 y c (cl y c e),λp hp=>?_,I.hok.kept hk,?_⟩
 ·rcases hy with h|h
  ·rcases kB h with q|⟨q,_⟩
   ·exact absurd rfl (O.y25c _ (eY q))
   ·exact clh y (eY q)
  ·rcases kB h with q|⟨q,e⟩
   ·exact clh y (eY q)
   ·cases e
 ·exact Bool.noConfusion (show false=true from h)
 ·rcases (hf b hb).2.2.2.1 with z|z
  ·exact I.ok.y25e b o e z
  ·exact absurd (z19 (z19 (z16 e) I.ok.bsz) z) (z30 _)
 ·exact (z1b.mp (I.y40b b hb2)).elim (λe=>(hf b hb).2.1 e) λz=>(hf b hb).2.2.1 z
 ·have hil:xs.length≤i:=Nat.le_of_not_lt λq=>Al q v e2
  obtain⟨j,rfl⟩:=Nat.exists_eq_add_of_le hil
  have ey:ys[j]?=some y:=by
   have e1':(xs++ys)[xs.length+j]?=some y:=e1
   rw [z25 (Nat.le_add_right _ _),Nat.add_sub_cancel_left] at e1'
   exact e1'
  have e2':(ix.map λi=>(σ[i]?).getD none)[j]?=some (some v):=by
   have e2'':(cL xs.length ix σ)[xs.length+j]?=some (some v):=e2
   unfold cL at e2''
   rw [z25 (by rw [List.length_replicate];exact Nat.le_add_right _ _),List.length_replicate,Nat.add_sub_cancel_left] at e2''
   exact e2''
  rw [List.getElem?_map] at e2'
  cases hi:ix[j]? with
  | none=>rw [hi] at e2';cases e2'
  | some i =>
   rw [hi] at e2'
   have e3:(σ[i]?).getD none=some v:=z2a e2'
   obtain⟨y18f,hN⟩:=O.here j y i ey hi
   have ev:σ[i]?=some (some v):=by
    cases h:σ[i]? with
    | none=>rw [h] at e3;cases e3
    | some q=>rw [h] at e3;exact congrArg some e3
   obtain⟨m',_,hl⟩:=I.loc
   have hkx:=O.fr (y,.free) (eY y18f) rfl
   obtain⟨u,r,l⟩:=hl i y v hN ev (hkx.elim (λz=>.inr (.inl z)) λz=>.inr (.inr z))
   refine⟨u,r,.inr ⟨sf y18f,?_⟩⟩
   obtain⟨c,ec⟩:=clh y (eY y18f)
   rcases l with⟨k,_⟩| ⟨_,c',ec',z⟩
   ·rcases hkx with q|q
    ·rw [q] at k;cases k
    ·rw [q] at k;cases k
   ·have:c=c':=z2a ((cl y c ec).symm.trans ec')
    subst this
    exact⟨c,ec,z.keeps hk⟩
 ·obtain⟨v,z⟩:=I.cell y c (cl y c e)
  exact⟨v,z.keeps hk⟩
 ·have hp':p∈(X.pn++pins)++([]:List (Addr×Obj)):=hp
  rw [z1a] at hp'
  obtain⟨e,n,ne,nf,d⟩:=I.pin p hp'
  exact⟨hk _ _ e,n,z1f (z16 e),λz=>(z1b.mp (I.y40b _ z)).elim ne nf,d⟩
 ·show (cL xs.length ix σ).length=(xs++ys).length
  rw [sk,z17,O.len]
noncomputable def yd(n:Nat)(ix:List Nat)(J:It)(g:yb->TG)(tt:yb->TT)(te:yb->TE)(σ:St)(Q:VK)(H1:Hp):Prop :=
 ∀D,H1 D=none->∃W:Nat->Nat->List V->Hp->Prop,(∃m,W 0 m [] (ax H1 D (.lst [])))/\∀i m ys H2,W i m ys H2->H2 D=some (.lst ys) /\
  ((J.stop i H2/\Q (.ref D) H2)∨(J.go i H2/\ys.length<sizeLine/\∃N:List V->Hp->Prop,(∀ys' H',N ys' H'->∃m',m'<m/\W (i+1) m' ys' H') /\
   ∀x H3,J.yld i H2 x H3->∀z,g z x (cL n ix σ) H3 λσ' H3'=>y3b n ix σ σ'/\tt z σ' H3' λb H4 =>
    if b=true then te z σ' H4 λy H5=>H5 D=some (.lst ys)/\N (ys++[y]) (ax H5 D (.lst (ys++[y]))) else N ys H4))
theorem yb0  (O:yc X scope xs ys ix)(hc:X.calm=true)  {g:yb->TG}{tt:yb->TT}{te:yb->TE}
  (hg:∀z,PG (cV X scope (xs++ys) z) tg (g z)) (hi:∀z,mn (cV X scope (xs++ys) z) ifs (tt z)) (he:∀z,PE (cV X scope (xs++ys) z) elt (te z))
  {σ:St} {H:Hp}   {tn:Nat->Heap->Prop} (I2:Inv X pins σ H s2) (T:Turn X.prog X.w X.K tg J fp it tn) (st:tn 0 s2.heap)
  (hf:∀b∈fp,fU X pins H b) {Q:VK} (hw:yd xs.length ix J g tt te σ Q H) {RR:Value->Addr->Result->Shared->Prop} {E:Value->Shared->Prop}
  (hRR:∀D C m' H' s',Inv X pins σ H' s'->s'.heap.Ns C m'->fU X pins H' C->Q (.ref D) H'->RR (.ref D) C (.ok .next) s') :
  wpAny (model X.prog X.w) X.A (newList []) (λacc s₃=>wpAny (model X.prog X.w) X.A (newFunctionEnv scope X.env.globals (nE scope.names X.env) [] X.env.qual none .none (some X.env)) (λcenv s₄ =>
   codeAny (model X.prog X.w) X.A (.compStart (.ListComp elt [⟨tg,iter,ifs,0⟩] scope pos) 0 (.ref it) acc { cenv with scope:=relabel scope X.env }) (RR acc cenv.locals) s₄) E s₃) E s2:=by
 refine z32 (wpAny_newFunctionEnv O.y25c (by intro y hy;simp at hy) (λh₁ hns₁ hsb₁=>?_) O.kind)
 dsimp only at hns₁ hsb₁ ⊢
 have hDn:H s2.heap.objs.size=none:=I2.hok.fresh (z12 _)
 obtain⟨W,⟨m0,w0⟩,turn⟩:=hw s2.heap.objs.size hDn
 have flt:∀b∈fp,b<s2.heap.objs.size:=λb hb=>by
  obtain⟨o,e,_⟩:=T.obj 0 _ st b hb
  exact z16 e
 obtain⟨s3,hs3⟩:∃s3:Shared,s3={ s2 with heap:=s2.heap.push { cls:=.type "list",data:=.seq ([]:List Value).toArray } }:=⟨_,rfl⟩
 have hh3:s3.heap=s2.heap.push { cls:=.type "list",data:=.seq ([]:List Value).toArray }:=by rw [hs3]
 have I3:Inv X pins σ (ax H s2.heap.objs.size (.lst [])) s3:=by
  rw [hs3]
  exact I2.laid (λb u e=>ze _ e) (z12 _) (show cn X.prog X.w _ _ _ (.lst []) from ⟨Nat.zero_le _,[],0,.nil,z1c _ rfl⟩)
 have hns₂:h₁.Ns s3.heap.objs.size λx=>([]:List (Str×Value)).reverse.lookup x:=by rw [hh3];exact hns₁
 have hsb₂:Heap.SameBut s3.heap.objs.size (s3.heap.push { cls:=.type (if (some X.env).isSome then "dict" else "frame"),data:=.dict #[] }) h₁:=by rw [hh3];exact hsb₁
 have hf3:∀b∈fp,fU X pins (ax H s2.heap.objs.size (.lst [])) b:=λb hb=>⟨by rw [ay (z1f (flt b hb))];exact (hf b hb).1,(hf b hb).2⟩
 have hsz:s3.heap.objs.size=s2.heap.objs.size+1:=by rw [hh3,Heap.size_push]
 have flt3:∀b∈fp,b<s3.heap.objs.size:=λb hb=>by rw [hsz];exact Nat.lt_succ_of_lt (flt b hb)
 have hk:∀b o,s3.heap.get? b=some o->h₁.get? b=some o:=λb o e=>hsb₂.extBut b o (z1f (z16 e)) (ze _ e)
 have hk2:∀b o,s2.heap.get? b=some o->h₁.get? b=some o:=λb o e=>hk b o (by rw [hh3];exact ze _ e)
 have st1:tn 0 h₁:=T.keep _ _ _ st λb hb o e=>hk2 b o e
 let z:yb:=⟨fp,s3,ax H s2.heap.objs.size (.lst []),s3.heap.objs.size,pins⟩
 have cl:∀y c,(nE scope.names X.env).lookup y=some c->X.env.cells.lookup y=some c:=λy c e=>by
  rcases (kA).mp (eY e) with q|⟨q,rfl⟩
  ·simp at q
  ·obtain⟨c',e'⟩:=I2.ok.has y (O.fr _ q rfl)
   rw [e'];rfl
 have fpy:∀{H':Hp},(∀b∈fp,H' b=none)->∀b∈fp,fU (cV X scope (xs++ys) z) [] H' b:=λhn b hb=>by
  refine⟨hn b hb,z1f (flt3 b hb),λhb2=>?_,.inl hb,λy c e=>(hf b hb).2.2.2.2.1 y c (cl y c e),λp hp=>?_⟩
  ·exact (z1b.mp (I3.y40b b hb2)).elim (λe=>(hf b hb).2.1 e) λq=>(hf b hb).2.2.1 q
  ·have hp':p∈(X.pn++pins)++([]:List (Addr×Obj)):=hp
   rw [z1a] at hp'
   exact (hf b hb).2.2.2.2.2 p hp'
 have back:∀{pl:List (Addr×Obj)} {σ':St} {H':Hp} {s':Shared},Inv (cV X scope (xs++ys) z) pl σ' H' s'->Inv X pins σ H' s'/\fU X pins H' s3.heap.objs.size:=λ{pl σ' H' s'} IY=>by
  have I':Inv X pins σ H' s':=I3.call' IY.os IY.base IY.hok IY.bare λb hb=>⟨(hf b hb).2.2.2.1,(hf b hb).2.1,(hf b hb).2.2.2.2.1,(hf b hb).2.2.2.2.2⟩
  exact⟨I',I3.y154 (z12 _) IY.free⟩
 have loop:∀t':Nat,codeAny (model X.prog X.w) X.A (.compLoop (.ListComp elt [⟨tg,iter,ifs,0⟩] scope pos) 0 (.ref it) (.ref s2.heap.objs.size) (cV X scope (xs++ys) z).env) (RR (.ref s2.heap.objs.size) s3.heap.objs.size) { s3 with heap:=h₁,toks:=t' }:=by
  intro t'
  have IY:=yb2 (t':=t') O I3 hf3 flt3 _ hns₂ hk
  refine yab (λn s'=>∃i vs H',Inv (cV X scope (xs++ys) z) [] (cL xs.length ix σ) H' s'/\tn i s'.heap/\(∀b∈fp,H' b=none)/\W i n vs H') ?_ m0 ⟨0,[],_,IY,st1,λb hb=>(hf3 b hb).1,w0⟩
  rintro n s5 ⟨i,vs,H5,I5,st5,fr5,w5⟩
  obtain⟨hD,stop|go⟩:=turn i n vs H5 w5
  ·refine aF (T.done (cV X scope (xs++ys) z) rfl rfl rfl hc i [] s5 _ H5 _ I5 (fpy fr5) st5 stop.1) λr s6 zz=>?_
   obtain⟨hr,I6⟩:=zz
   subst hr
   obtain⟨m6,n6,_⟩:=I6.loc
   exact hRR _ _ m6 H5 s6 (back I6).1 n6 (back I6).2 stop.2
  ·obtain⟨hgo,hl,N,hN,step⟩:=go
   refine aF (T.item (cV X scope (xs++ys) z) rfl rfl rfl hc i [] s5 _ H5 _ I5 (fpy fr5) st5 hgo) λr s6 zz=>?_
   obtain⟨u,hr,h6⟩:=zz
   subst hr
   refine aF h6 λ_ s7 zz=>?_
   obtain⟨xv,H7,I7,r7,y7,st7,fr7⟩:=zz
   have I7':=I7.pinned (fpy fr7) (T.obj _ _ st7)
   have q7:=step xv H7 y7 z
   refine aF (hg z _ s7 _ H7 xv u _ I7' r7 q7) λ_ s8 q8=>?_
   obtain⟨σ8,H8,I8,k8,q8⟩:=q8
   have wk:∀{H':Hp} {s':Shared},Inv (cV X scope (xs++ys) z) ([]++iX fp s7.heap) σ8 H' s'->Inv (cV X scope (xs++ys) z) [] (cL xs.length ix σ) H' s'/\tn (i+1) s'.heap/\∀b∈fp,H' b=none:=λ{H' s'} IW=>by
    refine⟨(IW.y451).weak (by rw [sk];exact k8.1.symm) k8.2,T.keep _ _ _ st7 λb hb o e=>(IW.pin (b,o) (z20 _ (z20 _ (j7 hb e)))).1,λb hb=>?_⟩
    obtain⟨o,e,d⟩:=T.obj _ _ st7 b hb
    exact (IW.pin (b,o) (z20 _ (z20 _ (j7 hb e)))).2.1
   refine aF (hi z _ s8 _ H8 _ I8 q8) λok s9 zz=>?_
   obtain⟨H9,I9,q9⟩:=zz
   cases ok with
   | false =>
    rw [if_neg z18] at q9
    rw [if_neg z18]
    obtain⟨m',hm,w9⟩:=hN _ _ q9
    exact⟨m',hm,i+1,vs,H9,(wk I9).1,(wk I9).2.1,(wk I9).2.2,w9⟩
   | true =>
    rw [if_pos rfl] at q9
    rw [if_pos rfl]
    refine aF (he z _ s9 _ H9 _ I9 q9) λyv s10 zz=>?_
    obtain⟨y,H10,I10,r10,hD10,n10⟩:=zz
    obtain⟨m',hm,w10⟩:=hN _ _ n10
    have ap:=rY _ s10 _ H10 (.ref s2.heap.objs.size) [y] (.ref s2.heap.objs.size) [yv] (λv H'=>H'=ax H10 s2.heap.objs.size (.lst (vs++[y]))) I10 rfl (.cons r10 .nil) ⟨s2.heap.objs.size,vs,y,rfl,rfl,hD10,hl,rfl⟩
    refine aF ap λ_ s11 zz=>?_
    obtain⟨_,H11,I11,_,e11⟩:=zz
    subst e11
    exact⟨m',hm,i+1,vs++[y],_,(wk I11).1,(wk I11).2.1,(wk I11).2.2,w10⟩
 subst hs3
 exact codeAny_compStart_list (loop _) (T.self X.A 0 _ _ _ st1 (loop _))
noncomputable def nG(n:Nat)(ix:List Nat)(wi:TI)(g:yb->TG)(tt:yb->TT)(te:yb->TE):TE:=λσ H Q=>wi σ H λJ H1=>yd n ix J g tt te σ Q H1
section
variable {X:Cx}{scope:Scope}{xs ys:List Str}{ix:List Nat}{elt iter tg:Expr}{ifs:List Expr}{pos:Pos}{wi:TI}{g:yb->TG}{tt:yb->TT}{te:yb->TE}
theorem Am(O:yc X scope xs ys ix)(hc:X.calm=true)(hit:PI X tg iter wi)(hg:∀z,PG (cV X scope (xs++ys) z) tg (g z))
  (hi:∀z,mn (cV X scope (xs++ys) z) ifs (tt z)) (he:∀z,PE (cV X scope (xs++ys) z) elt (te z)) (hs:∀v,foldedSetIterable iter X.env v=pure v:=by intro _;rfl) :
  PE X (.ListComp elt [⟨tg,iter,ifs,0⟩] scope pos) (nG xs.length ix wi g tt te):=by
 intro pins s σ H Q I h
 rw [eval_ListComp]
 refine wpAny_comprehension_free rfl hs (ya6 λp hp hf=>I.ok.has p.1 (O.fr p hp hf)) O.kind O.names (aF (hit pins s σ H _ I h) λv s1 h1=>aF h1 λitv s2 h2=>?_)
 obtain⟨it,fp,tn,J,H2,e,I2,T,st2,f2,hw⟩:=h2
 subst e
 refine yb0 O hc hg hi he I2 T st2 f2 hw ?_
 intro D C m' H' s' I' n' fC q
 exact⟨m',n',λh' hs'=>⟨.ref D,H',yb4 I' fC hs',rfl,q⟩⟩
theorem kC  (O:yc X scope xs ys ix)(hi:xs[i]?=some x):PG (cV X scope (xs++ys) z) (.Name x p) (gK i):=by
 have hm:x∈xs:=z2e hi
 have hl:i<xs.length:=(z14.mp hi).1
 exact mV O.nd (by show (xs++ys)[i]?=some x;rw [z21 hl];exact hi) (.inl (lookup_relabel_local (O.hx x hm))) (.inr (lookup_relabel_local (O.hx x hm)))
end
end
end L2
namespace HT
open PySem PySem.Spec PyProof.Rows
section
variable {prog:Program}{w:World}{A:Around}{E:Value->Shared->Prop}{s:Shared}
theorem y59(n:Nat):Builtin.Slice.sliceAdjust none none (-1) (n:Int)=((n:Int)-1,-1):=rfl
theorem An(n:Nat):Builtin.Slice.slicePlaces ((n:Int)-1) (-1) (-1)=n:=by
 unfold Builtin.Slice.slicePlaces
 rw [if_neg (by decide)]
 by_cases h:n=0
 ·subst h;decide
 ·rw [if_pos (by lia)]
  have:((n:Int)-1 - -1-1) / (- -1)=(n:Int)-1:=by
   have e:(- -1:Int)=1:=by decide
   rw [e,Int.ediv_one];lia
  rw [this];lia
theorem Ao{sl:Addr}{n:Nat}{t:Tok}{Q:Int×Int×Nat->Shared->Prop}(hs:s.heap.IsSliceOf sl .none .none (.int (-1) t))
  (h:Q ((n:Int)-1,-1,n) s):wpAny (model prog w) A (Builtin.Slice.sliceApplied (.ref sl) (pure (n:Int))) Q E s:=by
 obtain⟨os,hos,hcs,hds⟩:=id hs
 unfold Builtin.Slice.sliceApplied Builtin.Slice.sliceFields
 refine zc (zc (wpAny_field hos hds rfl (zc (wpAny_field hos hds rfl (zc (wpAny_field hos hds rfl (zf ?_)))))))
 refine zc (slicePart_int ?_)
 show wpAny _ _ (if ((-1:Int) == 0)=true then _ else _) _ _ s
 rw [if_neg (by decide)]
 refine zc (slicePart_none (zc (slicePart_none (zc (zf ?_)))))
 show wpAny _ _ (match Builtin.Slice.sliceAdjust none none (-1) (n:Int) with|(lo,hi)=>pure (lo,(-1:Int),Builtin.Slice.slicePlaces lo hi (-1))) _ _ s
 rw [y59 n]
 show wpAny _ _ (pure ((n:Int)-1,(-1:Int),Builtin.Slice.slicePlaces ((n:Int)-1) (-1) (-1))) _ _ s
 rw [An]
 exact zf h
theorem su{α β:Type}{f g:α->Option β}:∀{l:List α},(∀a∈l,f a=g a)->l.filterMap f=l.filterMap g
 | [],_=>rfl
 | a::r,h=>by
  rw [List.filterMap_cons,List.filterMap_cons,h a List.mem_cons_self,su λb hb=>h b (z22 _ hb)]
theorem nH(xs:Array Value):((List.range xs.size).filterMap λ(m:Nat)=>xs[((xs.size:Int)-1+(m:Int) * -1).toNat]?).toArray=xs.toList.reverse.toArray:=by
 congr 1
 have e:∀m∈List.range xs.size,xs[((xs.size:Int)-1+(m:Int) * -1).toNat]?=xs.toList.reverse[m]?:=by
  intro m hm
  have hm':=List.mem_range.mp hm
  have:((xs.size:Int)-1+(m:Int) * -1).toNat=xs.size-1-m:=by lia
  rw [this,List.getElem?_reverse (by rw [Array.length_toList];exact hm'),Array.length_toList,Array.getElem?_toList]
 rw [su e]
 have hl:xs.size=xs.toList.reverse.length:=by rw [z2f,Array.length_toList]
 rw [hl]
 generalize xs.toList.reverse=zs
 induction zs with
 | nil=>rfl
 | cons z r ih =>
  rw [z29,List.range_succ_eq_map,List.filterMap_cons]
  show z::_=_
  rw [List.filterMap_map]
  show z::List.filterMap (λm=>(z::r)[m+1]?) (List.range r.length)=_
  have:(λm=>(z::r)[m+1]?)=λm=>r[m]?:=by funext m;rfl
  rw [this,ih]
theorem y165  (ht:IsTup s.heap t items)(hs:s.heap.IsSliceOf sl .none .none (.int (-1) tk))
  (h:Q (.ref s.heap.objs.size) { s with heap:=s.heap.push { cls:=.type "tuple",data:=.seq items.toList.reverse.toArray } })
  (hsz:items.size≤sizeLine):wpAny (model prog w) A (getItem (.ref t) (.ref sl)) Q E s:=by
 have y1a1:sizeOk (.seq items.toList.reverse.toArray):=by
  show items.toList.reverse.toArray.size≤sizeLine
  rw [zd,z2f,Array.length_toList]
  exact hsz
 obtain⟨os,hos,hcs,hds⟩:=id hs
 have hTs:s.TypeIs (.ref sl) "slice":=⟨os,hos,hcs⟩
 unfold getItem
 try with_reducible refine wpAny_holding ?_
 first|refine zc (zf ?_)|skip
 refine zc (wpAny_sequenceKey ht.typeIs (by decide) ?_)
 refine zc (wpAny_callSpecial?_slot ht.typeIs PyProof.Rows.slot_tuple_getitem
  (wpAny_call_entry PyProof.Rows.slot_tuple_getitem ht.typeIs entry_tuple_getitem ?_ (args_tuple_getitem _ _)))
 show wpAny _ _ (Builtin.Tuple.tupleItemsOf (.ref t) >>= _) _ _ s
 refine zc (tupleItemsOf_ ht ?_)
 refine zc (wpAny_typeOf hTs ?_)
 rw [if_pos (by decide)]
 refine zc (Ao hs ?_)
 have hno:¬ ((((items.size:Int)-1) == 0&&(-1:Int) == 1&&items.size == items.size)=true):=by
  intro q
  rw [z2b,z2b] at q
  exact absurd q.1.2 (by decide)
 show wpAny _ _ (if (((items.size:Int)-1) == 0&&(-1:Int) == 1&&items.size == items.size)=true then _ else _) _ _ s
 rw [if_neg hno,nH]
 first
  | exact zc (z32 (zf ⟨_,rfl,zf h⟩) y1a1)
  | exact zc (z32 (zc (zf (zf ⟨_,rfl,zf h⟩))) y1a1)
  | exact zc (zc (z32 (zf (zf ⟨_,rfl,zf h⟩)) y1a1))
  | exact zc (zc (z32 (zf ⟨_,rfl,zf h⟩) y1a1))
end
end HT
namespace L2
open PySem PySem.Spec PyProof.Rows
section
section
variable {X:Cx}{e st:Expr}{te:TE}{p2 pos:Pos}
noncomputable def sv(K:W.Frag)(te:TE):TE:=λσ H Q=>te σ H λx H1=>∃a xs,x=.ref a/\aO K H1 a xs/\∀p,H1 p=none->Q (.ref p) (ax H1 p (.tup xs.reverse))
theorem Ap{ts:TE}(he:PE X e te)(hst:PE X st ts)(hv:∀σ H Q,Q (.int (-1)) H->ts σ H Q):PE X (.Subscript e (.Slice none none (some st) p2) pos) (sv X.K te):=by
 intro pins s σ H Q I h
 refine Subscript_ (aF (he pins s σ H _ I h) λv s1 zz=>?_)
 obtain⟨x,H1,I1,r1,q1⟩:=zz
 obtain⟨a,xs,rfl,hq,q⟩:=q1
 cases r1
 refine wpAny_Slice ?_
 rw [evalPart_none]
 refine zf (zf ?_)
 rw [evalPart_some]
 refine aF (hst pins s1 σ H1 (λv H'=>v=.int (-1)/\H'=H1) I1 (hv _ _ _ ⟨rfl,rfl⟩)) λvs s2 zz=>?_
 obtain⟨y,H2,I2,r2,e2,e3⟩:=zz
 subst e2 e3
 obtain⟨tk,rfl⟩:=r2
 have I4:Inv X pins σ _ { s2 with heap:=s2.heap.push { cls:=.type "slice",data:=.fields #[.none,.none,.int (-1) tk] } }:=I2.kept λb ob q=>ze _ q
 obtain⟨its,r,ht,hz⟩:=I4.tuple hq
 have hlen:its.toArray.size=xs.length:=by rw [zd];exact r.length.symm
 show wpAny (model X.prog X.w) X.A (subscriptTail e (.Slice none none (some st) p2) (.ref a) (.ref s2.heap.objs.size)) (EP X pins σ Q) X.xe { s2 with heap:=s2.heap.push { cls:=.type "slice",data:=.fields #[.none,.none,.int (-1) tk] } }
 refine tail_any ht.typeIs PyProof.Rows.slot_tuple_getitem.lookup ?_ (by with_unfolding_all rfl)
 refine HT.y165 ht (Heap.IsSliceOf.new ..) ?_ (by rw [hlen];exact hz)
 refine⟨.ref _,_,I4.laid (λb ob q=>ze _ q) (z12 _) ?_,rfl,q _ (I4.hok.fresh (z12 _))⟩
 exact⟨by rw [z2f];exact hz,_,r.reverse,eW.mk' _ _⟩
end
end
end L2
namespace My
inductive F2{α β:Type}(R:α->β->Prop):List α->List β->Prop
 | nil:F2 R [] []
 | cons {a:α} {b:β} {as:List α} {bs:List β}:R a b->F2 R as bs->F2 R (a::as) (b::bs)
end My
namespace HT
open PySem PySem.Spec PyProof.Rows
section
theorem y166{t sl:Addr}{items:Array Value}{vl vu:Value}{lo hi:Option Int}{Q:Value->Shared->Prop}(ht:IsTup s.heap t items)(hs:s.heap.IsSliceOf sl vl vu .none)(pl:IsPart vl lo)(pu:IsPart vu hi)
  (hw:sIx items.size 0 lo=0/\sIx items.size items.size hi=items.size) (h:Q (.ref t) s):wpAny (model prog w) A (getItem (.ref t) (.ref sl)) Q E s:=by
 obtain⟨os,hos,hcs,hds⟩:=id hs
 have hTs:s.TypeIs (.ref sl) "slice":=⟨os,hos,hcs⟩
 unfold getItem
 try with_reducible refine wpAny_holding ?_
 first|refine zc (zf ?_)|skip
 refine zc (wpAny_sequenceKey ht.typeIs (by decide) ?_)
 refine zc (wpAny_callSpecial?_slot ht.typeIs PyProof.Rows.slot_tuple_getitem
  (wpAny_call_entry PyProof.Rows.slot_tuple_getitem ht.typeIs entry_tuple_getitem ?_ (args_tuple_getitem _ _)))
 show wpAny _ _ (Builtin.Tuple.tupleItemsOf (.ref t) >>= _) _ _ s
 refine zc (tupleItemsOf_ ht ?_)
 refine zc (wpAny_typeOf hTs ?_)
 rw [if_pos (by decide)]
 refine zc (rE hs pl pu ?_)
 have hyes:(((sIx items.size 0 lo:Nat):Int) == 0&&(1:Int) == 1&&(sIx items.size items.size hi-sIx items.size 0 lo) == items.size)=true:=by
  rw [hw.1,hw.2];simp
 show wpAny _ _ (if (((sIx items.size 0 lo:Nat):Int) == 0&&(1:Int) == 1&&(sIx items.size items.size hi-sIx items.size 0 lo) == items.size)=true then _ else _) _ _ s
 rw [if_pos hyes]
 unfold Builtin.Tuple.tupleIsExact
 refine zc (zc (wpAny_typeOf ht.typeIs (zf ?_)))
 rw [if_pos (by decide)]
 refine zc (wpAny_rule ?_)
 exact zf ⟨_,rfl,zf h⟩
end
end HT
namespace L2
open PySem PySem.Spec PyProof.Rows
section
section
noncomputable def sy:V->Option Int->Option Int->Hp->VK->Prop:=λx lo hi H Q=>∃a xs,x=.ref a/\H a=some (.tup xs)/\∀(b:Addr) (H':Hp),H' b=some (.tup (i3 xs lo hi))->(∀c o,H c=some o->H' c=some o)->Q (.ref b) H'
theorem Aq:kj X sy:=by
 intro pins s σ H x v vl vu lo hi sl Q I rx hs pl pu h
 obtain⟨a,xs,rfl,hx,q⟩:=h
 by_cases hw:HT.sIx xs.length 0 lo=0/\HT.sIx xs.length xs.length hi=xs.length
 ·cases rx
  obtain⟨its,r,ht,hz⟩:=I.tuple (aO.of hx)
  have hlen:its.toArray.size=xs.length:=by rw [zd];exact r.length.symm
  refine⟨"tuple",_,PyProof.Rows.slot_tuple_getitem.lookup,ht.typeIs,?_⟩
  refine HT.y166 ht hs pl pu (by rw [hlen];exact hw) ⟨.ref a,H,I,rfl,q a H ?_ λ_ _ e=>e⟩
  have e:i3 xs lo hi=xs:=by
   unfold i3
   rw [hw.1,hw.2];simp
  rw [e];exact hx
 ·exact zA pins s σ H (.ref a) v vl vu lo hi sl Q I rx hs pl pu ⟨a,xs,rfl,aO.of hx,hw,λp hp=>q p _ aJ λc o e=>by rw [ay (cY e hp)];exact e⟩
end
end
section
section
theorem Inv.y44b{fp:List Addr}{T:Addr}{o:HO}{t':Nat}(I:Inv X pins σ H s)(hf:∀b∈fp,fU X pins H b)(k:∀b u,b∉fp->s.heap.get? b=some u->h'.get? b=some u)(hT:s.heap.objs.size≤T)
  (new:cn X.prog X.w (ax H T o) h' T o):Inv X pins σ (ax H T o) { s with heap:=h',toks:=t' }:=by
 have hn:H T=none:=I.hok.fresh hT
 have neT:∀b u,s.heap.get? b=some u->b≠T:=λb u e z=>z30 _ (z19 (z16 e) (by rw [z];exact hT))
 have nfp:∀b u,H b=some u->b∉fp:=λb u e z=>by
  have q:=(hf b z).1
  rw [q] at e;cases e
 have hL:X.env.locals∉fp:=λz=>(hf _ z).2.1 rfl
 refine I.step (λb hb=>?_) (λb u _ _ hc e _=>k b u hc e) (λb u _ _ hc e _=>⟨u.slots,k b u hc e⟩) (λb u hc e n=>?_)
  (λb u hc e=>⟨u,k b u hc e⟩) (λb xs e=>?_) (λb u v e=>?_) (λb ps e=>⟨#[],?_⟩) (λm hm=>?_) (λb u e=>?_) I.bare
 ·obtain⟨_,f1,_,f3,f4,f5⟩:=hf b hb
  exact⟨f3,f1,f4,f5⟩
 ·rw [ay (neT b u e)];exact n
 ·rw [ay (cY e hn)];exact e
 ·rw [ay (cY e hn)];exact e
 ·rw [ay (cY e hn),e];simp
 ·obtain⟨u,es,ep,ho,r⟩:=hm
  exact⟨u,es,ep,k _ u hL ho,r⟩
 ·by_cases hb:b=T
  ·subst hb;rw [aJ] at e;cases e;exact new
  ·rw [ay hb] at e
   refine (I.hok b u e).y409 (λc v hc q=>k c v ?_ q) (λc q=>by rw [ay (cY q hn)];exact q) λc xs q=>by rw [ay (cY q hn)];exact q
   rcases hc with z|z
   ·rw [z];exact nfp b u e
   ·exact nfp c _ z
theorem Inv.y44c{fp:List Addr}{t':Nat}(I:Inv X pins σ H s)(hf:∀b∈fp,fU X pins H b)(k:∀b u,b∉fp->s.heap.get? b=some u->h'.get? b=some u):Inv X pins σ H { s with heap:=h',toks:=t' }:=by
 have nfp:∀b u,H b=some u->b∉fp:=λb u e z=>by
  have q:=(hf b z).1
  rw [q] at e;cases e
 have hL:X.env.locals∉fp:=λz=>(hf _ z).2.1 rfl
 refine I.step (λb hb=>?_) (λb u _ _ hc e _=>k b u hc e) (λb u _ _ hc e _=>⟨u.slots,k b u hc e⟩) (λb u hc e n=>n)
  (λb u hc e=>⟨u,k b u hc e⟩) (λb xs e=>e) (λb u v e=>e) (λb ps e=>⟨#[],by rw [e];simp⟩) (λm hm=>?_) (λb u e=>?_) I.bare
 ·obtain⟨_,f1,_,f3,f4,f5⟩:=hf b hb
  exact⟨f3,f1,f4,f5⟩
 ·obtain⟨u,es,ep,ho,r⟩:=hm
  exact⟨u,es,ep,k _ u hL ho,r⟩
 ·refine (I.hok b u e).y409 (λc v hc q=>k c v ?_ q) (λ_ q=>q) λ_ _ q=>q
  rcases hc with z|z
  ·rw [z];exact nfp b u e
  ·exact nfp c _ z
end
theorem Ar{n l1 l2:Nat}(h1:l1<n)(h2:l2<n):ZipApart (n+4) (n+2) (n+3) n (n+1) l1 l2:=by
 constructor<;>(show ¬ ((_:Nat)=_);lia)
noncomputable def w8(K:W.Frag)(l1 l2:Addr):It:=⟨λi H=>∃xs ys x y,aP K H l1 xs/\aP K H l2 ys/\xs[i]?=some x/\ys[i]?=some y,
 λi H v H'=>∃T,v=.ref T/\H T=none/\∀xs ys x y,aP K H l1 xs->aP K H l2 ys->xs[i]?=some x->ys[i]?=some y->H'=ax H T (.tup [x,y]),
 λi H=>∃xs ys,aP K H l1 xs/\aP K H l2 ys/\min xs.length ys.length=i⟩
noncomputable def y51(z TI TO i1 i2 l1 l2:Addr)(i:Nat)(h:Heap):Prop:=IsZip h z TI TO .none/\IsPair h TI (.ref i1) (.ref i2)/\(∃a b,IsPair h TO a b)/\h.IsListIter i1 l1 i/\h.IsListIter i2 l2 i
theorem As{prog:Program}{w:World}{A:Around}{E:Value->Shared->Prop}{s:Shared}{z TI TO i1 i2 l1 l2:Addr}(D:ZipApart z TI TO i1 i2 l1 l2){us vs:Array Value}{i:Nat}{u v:Value}{Q:Option Value->Shared->Prop}
  (st:y51 z TI TO i1 i2 l1 l2 i s.heap) (p1:s.heap.IsList l1 us) (p2:s.heap.IsList l2 vs) (eu:us[i]?=some u) (ev:vs[i]?=some v)
  (k:∀T h',s.heap.objs.size≤T->eW h' T #[u,v] ->
   (IsZip h' z TI TO (rawInt T)/\IsPair h' TI (.ref i1) (.ref i2)/\(∃a b,IsPair h' TO a b)/\h'.IsListIter i1 l1 (i+1)/\h'.IsListIter i2 l2 (i+1)/\h'.IsList l1 us/\h'.IsList l2 vs/\T≠z/\T≠TO/\T≠i1/\T≠i2) ->
   (∀b o,b∉[z,TO,i1,i2]->s.heap.get? b=some o->h'.get? b=some o)->Q (some (.ref T)) { s with heap:=h' }):wpAny (model prog w) A (pyNext (.ref z)) Q E s:=by
 obtain⟨q1,q2,⟨a,b,q3⟩,q4,q5⟩:=st
 have lt:∀{c o},s.heap.get? c=some o->s.heap.objs.size≠c:=λe=>Nat.ne_of_gt (z16 e)
 refine wpAny_pyNext_zip_item D q1 q2 q3 q4 q5 p1 p2 eu ev λh2 a1 a2 a3 a4 a5 a6 hk=>?_
 refine k s.heap.objs.size h2 (z12 _) ⟨_,a5,rfl,rfl,_,rfl⟩ ⟨a1,hk _ _ D.TIz D.TITO D.TIi1 D.TIi2 q2,⟨_,_,a2⟩,a3,a4,p1.at λo e=>hk _ o D.l1z D.l1TO D.l1i1 D.l1i2 e,p2.at λo e=>hk _ o D.l2z D.l2TO D.l2i1 D.l2i2 e,lt q1,lt q3,?_,?_⟩ λc o hc e=>?_
 ·obtain⟨_,e,_⟩:=q4;exact lt e
 ·obtain⟨_,e,_⟩:=q5;exact lt e
 ·exact hk c o (λx=>hc (by simp [x])) (λx=>hc (by simp [x])) (λx=>hc (by simp [x])) (λx=>hc (by simp [x])) e
theorem Au{P:Program}{w:World}{K:W.Frag}{elts:List Expr}{k0:Nat}{p0:Pos}{z TI TO i1 i2 l1 l2:Addr}(D:ZipApart z TI TO i1 i2 l1 l2) :
  Turn P w K (.Tuple elts k0 p0) (w8 K l1 l2) [z,TI,TO,i1,i2] z (y51 z TI TO i1 i2 l1 l2) where
 mem:=by simp
 obj:=λi h st b hb=>by
  obtain⟨h1,h2,⟨a,c,h3⟩,⟨o4,h4,c4,d4⟩,⟨o5,h5,c5,d5⟩⟩:=st
  simp only [z1b,List.not_mem_nil,or_false] at hb
  rcases hb with rfl|rfl|rfl|rfl|rfl
  ·exact⟨_,h1,λv q=>by cases q⟩
  ·exact⟨_,h2,λv q=>by cases q⟩
  ·exact⟨_,h3,λv q=>by cases q⟩
  ·exact⟨_,h4,λv q=>by rw [d4] at q;cases q⟩
  ·exact⟨_,h5,λv q=>by rw [d5] at q;cases q⟩
 keep:=λi h h' st k=>by
  obtain⟨h1,h2,⟨a,c,h3⟩,h4,h5⟩:=st
  exact⟨k z (by simp) _ h1,k TI (by simp) _ h2,⟨a,c,k TO (by simp) _ h3⟩,h4.at λo e=>k i1 (by simp) o e,h5.at λo e=>k i2 (by simp) o e⟩
 item:=by
  intro X hP hw hK hc i pins s σ H E I hf st hg
  subst hP hw hK
  obtain⟨xs,ys,x,y,hx,hy,ex,ey⟩:=hg
  obtain⟨us,r1,p1,z1⟩:=I.list hx
  obtain⟨vs,r2,p2,z2⟩:=I.list hy
  obtain⟨u,eu,ru⟩:=r1.get ex
  obtain⟨v,ev,rv⟩:=r2.get ey
  obtain⟨h1,h2,h3,h4,h5⟩:=st
  have W:=WalksT.zip2 (prog:=X.prog) (w:=X.w) (I.ok.hd hc) z TI TO i1 i2 l1 l2 D us.toArray vs.toArray
  have hiu:i<us.length:=(z14.mp eu).1
  have hiv:i<vs.length:=(z14.mp ev).1
  have wrf:∀b,b∉([z,TI,TO,i1,i2]:List Addr)->b∉([z,TO,i1,i2]:List Addr):=λb hb q=>hb (by simp at q ⊢;rcases q with q|q|q|q<;>simp [q])
  refine As D ⟨h1,h2,h3,h4,h5⟩ p1.isList p2.isList (by simpa using eu) (by simpa using ev) λT h' hsz hT hM hk=>⟨.ref T,rfl,?_⟩
  refine W.go elts k0 p0 i T { s with heap:=h' } _ _ hM λh'' st'' hk'=>?_
  obtain⟨g1,g2,g3,g4,g5,g6,g7⟩:=st''
  have nT:=W.apart i T _ hM
  have hT2:eW h'' T #[u,v]:=hT.keep λo e=>hk' T o nT e
  refine⟨.ref T,ax H T (.tup [x,y]),?_,rfl,⟨T,rfl,I.hok.fresh hsz,λxs' ys' x'' y'' q1 q2 q3 q4=>?_⟩,⟨g1,g2,g3,g4,g5⟩,λb hb=>?_⟩
  ·refine I.y44b hf (λb o hb e=>hk' b o (wrf b hb) (hk b o (wrf b hb) e)) hsz ?_
   exact⟨by show 2≤sizeLine;decide,[u,v],.cons ru (.cons rv .nil),hT2⟩
  ·rw [I.y208 q1 hx] at q3
   rw [I.y208 q2 hy] at q4
   rw [ex] at q3;rw [ey] at q4
   cases q3;cases q4;rfl
  ·have q:=(hf b hb).1
   have nb:b≠T:=by
    intro e
    obtain⟨o,eo,_⟩:∃o,s.heap.get? b=some o/\True:=by
     simp only [z1b,List.not_mem_nil,or_false] at hb
     obtain⟨a,c,h3⟩:=h3
     obtain⟨o4,h4,_⟩:=h4
     obtain⟨o5,h5,_⟩:=h5
     rcases hb with rfl|rfl|rfl|rfl|rfl
     ·exact⟨_,h1,trivial⟩
     ·exact⟨_,h2,trivial⟩
     ·exact⟨_,h3,trivial⟩
     ·exact⟨_,h4,trivial⟩
     ·exact⟨_,h5,trivial⟩
    exact z30 _ (z19 (z16 eo) (by rw [e];exact hsz))
   rw [ay nb];exact q
 done:=by
  intro X hP hw hK hc i pins s σ H E I hf st hg
  subst hP hw hK
  obtain⟨xs,ys,hx,hy,hi⟩:=hg
  obtain⟨us,r1,p1,z1⟩:=I.list hx
  obtain⟨vs,r2,p2,z2⟩:=I.list hy
  obtain⟨h1,h2,h3,h4,h5⟩:=st
  have W:=WalksT.zip2 (prog:=X.prog) (w:=X.w) (I.ok.hd hc) z TI TO i1 i2 l1 l2 D us.toArray vs.toArray
  have l1':=r1.length
  have l2':=r2.length
  have e:i=min us.toArray.size vs.toArray.size:=by rw [zd,zd];lia
  subst e
  have wrf:∀b,b∉([z,TI,TO,i1,i2]:List Addr)->b∉([z,TO,i1,i2]:List Addr):=λb hb q=>hb (by simp at q ⊢;rcases q with q|q|q|q<;>simp [q])
  exact W.done s _ _ ⟨h1,h2,h3,h4,h5,p1.isList,p2.isList⟩ λh' tk hk=>⟨rfl,I.y44c hf λb o hb e=>hk b o (wrf b hb) e⟩
 self:=λA i s Q E st h=>wpAny_pyIter_zip st.1 h
section
noncomputable def Av(K:W.Frag)(ta:TA):TI:=λσ H R=>ta σ H λvs H1=>∃l1 l2 xs ys,vs=[.ref l1,.ref l2]/\aP K H1 l1 xs/\aP K H1 l2 ys/\R (w8 K l1 l2) H1
theorem Aw{elts:List Expr}{k0:Nat}{p0:Pos}{a b:Expr}{ta:TA}{p pos:Pos}(hg:Gl X "zip")(hm:X.mg "zip" = none)(ha:PA X [a,b] ta)
  (hs:starEach [a,b] X.env=[(false,eval a X.env),(false,eval b X.env)]:=by rfl) (hs2:starEach [b] X.env=[(false,eval b X.env)]:=by rfl) :
  PI X (.Tuple elts k0 p0) (.Call (.Name "zip" p) [a,b] [] pos) (Av X.K ta):=by
 intro pins s σ H R I h
 refine Call_ (dG I hg hm PyProof.Rows.boot_zip (PyProof.Rows.callWith_type1 (aF (ha pos pins s σ H _ I h) λus s1 ⟨vs,H1,I1,r1,q1⟩=>?_) (by rw [hs,hs2]) (by rw [hs2];rfl)))
 obtain⟨l1,l2,xs,ys,e,hx,hy,q⟩:=q1
 subst e
 cases r1 with
 | cons r rr =>
  cases rr with
  | cons r' rr =>
   cases rr
   cases r
   cases r'
   obtain⟨as,ra,pa,za⟩:=I1.list hx
   obtain⟨bs,rb,pb,zb⟩:=I1.list hy
   refine call_zip_2 pa.isList pb.isList λh' z1 z2 z3 z4 z5 zs zk=>?_
   have la:l1<s1.heap.objs.size:=by obtain⟨_,e,_⟩:=pa.isList;exact z16 e
   have lb:l2<s1.heap.objs.size:=by obtain⟨_,e,_⟩:=pb.isList;exact z16 e
   have I2:Inv X pins σ H1 { s1 with heap:=h' }:=I1.kept zk
   refine wpAny_pyIter_zip z1 ?_
   refine⟨_,[s1.heap.objs.size+4,s1.heap.objs.size+2,s1.heap.objs.size+3,s1.heap.objs.size,s1.heap.objs.size+1],_,_,H1,rfl,I2,
    Au (Ar la lb),⟨z1,z2,⟨_,_,z3⟩,z4,z5⟩,λb hb=>?_,q⟩
   have hb':s1.heap.objs.size≤b:=by
    simp only [z1b,List.not_mem_nil,or_false] at hb
    rcases hb with e|e|e|e|e<;>(rw [e];first|exact Nat.le_add_right _ _|exact z12 _)
   exact I1.y154 hb' (I1.hok.fresh hb')
end
end
section
noncomputable def dH(xs:List V)(lo hi st:Option Int):List V:=(sliceRange (sliceBounds lo hi st xs.length).1 (sliceBounds lo hi st xs.length).2.1 (sliceBounds lo hi st xs.length).2.2).filterMap (xs[·]?)
theorem ag.y261{xs:List V}{us:List Value}(h:ag xs us){j:Nat}(e:xs[j]?=none):us[j]?=none:=by
 rw [List.getElem?_eq_none_iff] at e ⊢
 rw [<- h.length];exact e
theorem ag.some_of{xs:List V}{us:List Value}(h:ag xs us):∀js:List Nat,ag (js.filterMap (xs[·]?)) (js.filterMap (us[·]?)):=by
 intro js
 induction js with
 | nil=>exact .nil
 | cons j js ih =>
  cases e:xs[j]? with
  | none=>simp only [List.filterMap_cons,e,h.y261 e];exact ih
  | some x =>
   obtain⟨u,eu,r⟩:=h.get e
   simp only [List.filterMap_cons,e,eu]
   exact .cons r ih
section
variable {X:Cx}{e st:Expr}{te ts:TE}{lo hi:Option Expr}{tl th:TO}{p2 pos:Pos}
noncomputable def nI(K:W.Frag)(te:TE)(tl th tk:TO):TE:=λσ H Q=>te σ H λx H1=>tl σ H1 λl H2=>th σ H2 λu H3=>tk σ H3 λc H4 =>
 ∃a xs,x=.ref a/\aP K H4 a xs/\c≠some 0/\∀p,H4 p=none->Q (.ref p) (ax H4 p (.lst (dH xs l u c)))
theorem sA(he:PE X e te)(hl:PO X lo tl)(hu:PO X hi th)(hst:PE X st ts):PE X (.Subscript e (.Slice lo hi (some st) p2) pos) (nI X.K te tl th (ny ts)):=by
 intro pins s σ H Q I h
 refine Subscript_ (aF (he pins s σ H _ I h) λv s1 zz=>?_)
 obtain⟨x,H1,I1,r1,q1⟩:=zz
 refine wpAny_Slice (aF (hl pins s1 σ H1 _ I1 q1) λvl s2 ⟨l,H2,I2,pl,q2⟩=>aF (hu pins s2 σ H2 _ I2 q2) λvu s3 ⟨u,H3,I3,pu,q3⟩=>aF (rF hst pins s3 σ H3 _ I3 q3) λvs s4 zz=>?_)
 obtain⟨c,H4,I4,ps,q4⟩:=zz
 obtain⟨a,xs,rfl,hq,hc0,q⟩:=q4
 cases r1
 have I5:Inv X pins σ H4 { s4 with heap:=s4.heap.push { cls:=.type "slice",data:=.fields #[vl,vu,vs] } }:=I4.kept λb ob q=>ze _ q
 obtain⟨its,r,pls,hz⟩:=I5.list hq
 show wpAny (model X.prog X.w) X.A (subscriptTail e (.Slice lo hi (some st) p2) (.ref a) (.ref s4.heap.objs.size)) (EP X pins σ Q) X.xe { s4 with heap:=s4.heap.push { cls:=.type "slice",data:=.fields #[vl,vu,vs] } }
 refine tail_any pls.isList.typeIs list_getitem_lookup ?_ (by with_unfolding_all rfl)
 have hn:=r.length
 refine wpAny_getItem_list_slice pls.isList (Heap.IsSliceOf.new ..) pl pu ps hc0 ?_ (by rw [zd,<- hn];exact hz)
 have le:=slicePick_size_le its.toArray l u c
 have ep:slicePick its.toArray l u c=((sliceRange (sliceBounds l u c xs.length).1 (sliceBounds l u c xs.length).2.1 (sliceBounds l u c xs.length).2.2).filterMap (its[·]?)).toArray:=by
  unfold slicePick
  rw [zd,hn]
  simp
 have rp:=ag.some_of r (sliceRange (sliceBounds l u c xs.length).1 (sliceBounds l u c xs.length).2.1 (sliceBounds l u c xs.length).2.2)
 have lp:=rp.length
 rw [ep] at le ⊢
 refine⟨.ref _,_,I5.laid (λb ob q=>ze _ q) (z12 _) ?_,rfl,q _ (I5.hok.fresh (z12 _))⟩
 refine⟨?_,_,0,rp,z1c _ rfl⟩
 rw [zd,zd] at le
 show (dH xs l u c).length≤sizeLine
 unfold dH
 rw [lp]
 lia
end
noncomputable def xb(lo:Int)(n:Nat):It:=⟨λi _=>i<n,λi H x H'=>H'=H/\x=.int (lo-i),λi _=>n≤i⟩
theorem Ax{P:Program}{w:World}{K:W.Frag}{tg:Expr}(it:Addr)(lo:Int)(n:Nat):Turn P w K tg (xb lo n) [it] it (λi h=>IsRangeIter h it (lo+(i:Nat) * -1) ((n:Int)-(i:Nat)) (-1)) where
 mem:=by simp
 obj:=λi h st b hb=>by
  have e:b=it:=by simpa using hb
  subst e
  exact⟨_,st,λv q=>by cases q⟩
 keep:=λi h h' st k=>k it (by simp) _ st
 item:=by
  intro X hP hw hK hc i pins s σ H E I hf st hg
  subst hP hw hK
  obtain⟨f0,f1,f2,f3,f4,f5⟩:=hf it (by simp)
  refine (Walks.range (I.ok.hd hc) it lo (-1) n).item i s _ _ hg st λv h' tk hv st' kk=>?_
  obtain⟨t,rfl⟩:=hv
  have J:Inv X pins σ H { s with heap:=h',toks:=tk }:=I.turned (λb o hb e=>kk b o (by simpa using hb) e) f0 f1 f3 f4 f5
  refine⟨_,rfl,j6 st' rfl rfl (by decide) ⟨.int (lo-i),H,J,⟨t,?_⟩,⟨rfl,rfl⟩,st',λb hb=>(hf b hb).1⟩⟩
  congr 1
  lia
 done:=by
  intro X hP hw hK hc i pins s σ H E I hf st hg
  subst hP hw hK
  obtain⟨f0,f1,f2,f3,f4,f5⟩:=hf it (by simp)
  have hg':n≤i:=hg
  exact wpAny_pyNext_range_end (I.ok.hd hc) st (by lia) λh' eb=>⟨rfl,I.turned (λb o hb e=>eb b o hb e) f0 f1 f3 f4 f5⟩
 self:=λ_ _ _ _ _ st h=>wpAny_pyIter_rangeiter st h
theorem sC:Builtin.Range.rangeSize a b (-1)=if a>b then a-b else 0:=by
 unfold Builtin.Range.rangeSize
 rw [if_neg (by decide)]
 split
 ·rw [show (- -1:Int)=1 from rfl,Int.ediv_one];lia
 ·rfl
theorem fY(ha:-(2 ^ 62)≤a)(ha':a<2 ^ 62)(hb:-(2 ^ 62)≤b)(hb':b<2 ^ 62):Builtin.Range.small a b (-1)=true:=by
 unfold Builtin.Range.small
 rw [sC]
 have n1:¬ ((-1:Int)>0):=by decide
 simp only [Builtin.Range.rangeFitsLong,z2b,Bool.or_eq_true,decide_eq_true_eq,beq_iff_eq,if_neg n1]
 split<;>lia
section
variable {X:Cx}{tg:Expr}
noncomputable def sD(ta:TA):TI:=λσ H R=>ta σ H λvs H1=>∃i j:Int,vs=[.int i,.int j,.int (-1)]/\(-(2 ^ 62)≤i/\i<2 ^ 62/\-(2 ^ 62)≤j/\j<2 ^ 62)/\R (xb i (i-j).toNat) H1
theorem Ay (hg:Gl X "range")(hm:X.mg "range" = none)(ha:PA X [a,b,c] ta)
  (hs:starEach [a,b,c] X.env=[(false,eval a X.env),(false,eval b X.env),(false,eval c X.env)]:=by rfl) (hs2:starEach [b,c] X.env=[(false,eval b X.env),(false,eval c X.env)]:=by rfl) :
  PI X tg (.Call (.Name "range" p) [a,b,c] [] pos) (sD ta):=by
 intro pins s σ H R I h
 refine Call_ (dG I hg hm boot_range (PyProof.Rows.callWith_type1 (aF (ha pos pins s σ H _ I h) λus s1 ⟨vs,H1,I1,r1,q1⟩=>?_) (by rw [hs,hs2]) (by rw [hs2];rfl)))
 obtain⟨i,j,e,⟨q1,q2,q3,q4⟩,q⟩:=q1
 subst e
 cases r1 with
 | cons r rr =>
  cases rr with
  | cons r' rr =>
   cases rr with
   | cons r'' rr =>
    cases rr
    obtain⟨t,rfl⟩:=r
    obtain⟨t',rfl⟩:=r'
    obtain⟨t'',rfl⟩:=r''
    refine PySem.call_range_3 (by decide) ?_ (.inl (PyProof.noPylong_of_log2 (by decide +kernel)))
    refine wpAny_pyIter_range (IsRange.new ..) (fY q1 q2 q3 q4) ?_
    have J:Inv X pins σ H1 { s1 with heap:=s1.heap.push { cls:=.type "range",data:=.fields #[.int i t,.int j t',.int (-1) t''] },toks:=s1.toks }:=I1.kept λb o e=>ze _ e
    refine⟨_,[(s1.heap.push { cls:=.type "range",data:=.fields #[.int i t,.int j t',.int (-1) t''] }).objs.size],_,_,H1,rfl,J.kept λb o e=>ze _ e,Ax _ i (i-j).toNat,?_,λb hb=>?_,q⟩
    ·have e1:i+((0:Nat):Int) * -1=i:=by lia
     have e2:(((i-j).toNat:Nat):Int)-((0:Nat):Int)=Builtin.Range.rangeSize i j (-1):=by rw [sC];split<;>lia
     show IsRangeIter _ _ (i+((0:Nat):Int) * -1) ((((i-j).toNat:Nat):Int)-((0:Nat):Int)) (-1)
     rw [e1,e2]
     exact z1c _ rfl
    ·rw [z28.mp hb]
     exact J.y154 (z12 _) (J.hok.fresh (z12 _))
end
end
end L2
namespace PySem
open Sem (wp)
open AutoSeq1 (wpAny_loadPart')
section
theorem Az  (hb:s.heap.IsTupleIter b t i)(ht:s.heap.IsTuple t ys)(hy:ys[i]?=some y)
  (k:∀h2,h2.IsTupleIter b t (i+1)->Heap.SameBut b s.heap h2->Q y { s with heap:=h2 }):wpAny (model prog w) A (Builtin.SmallTypes.nextOf (.ref b)) Q E s:=by
 obtain⟨ob,gb,cb,db⟩:=id hb
 obtain⟨ot,gt,_,nt,dt⟩:=ht
 unfold Builtin.SmallTypes.nextOf
 refine zc (wpAny_callSpecial?_slot hb.typeIs F.slot_tuple_iterator_next (wpAny_call_entry F.slot_tuple_iterator_next hb.typeIs F.entry_tuple_iterator_next ?_ (F.args_tuple_iterator_next_1 _)))
 show wpAny _ _ (field (.ref b) 0 >>= _) _ _ s
 refine zc (wpAny_field gb db rfl ?_)
 show wpAny _ _ (if (Value.ref t == Value.none)=true then _ else _) _ _ s
 have no:¬ ((Value.ref t == Value.none)=true):=z18
 rw [if_neg no]
 show wpAny _ _ (field (.ref b) 1 >>= _) _ _ s
 refine zc (wpAny_field gb db rfl ?_)
 show wpAny _ _ (seqItems? (.ref t) >>= _) _ _ s
 refine zc (wpAny_seqItems gt dt ?_)
 simp only [Int.toNat_natCast,hy]
 refine zc (wpAny_setField gb db (by simp) (zf ⟨y,rfl,zf (k _ ?_ (Heap.SameBut.update ..))⟩))
 refine⟨_,Heap.get?_update_self _ gb (Obj.isFreed_of_fields (Obj.data_mapFields db _)),(Obj.cls_mapFields ..).trans cb,?_⟩
 rw [Obj.data_mapFields db]
 simp [rawInt]
theorem AA  (calm:A.handled=none)(hb:s.heap.IsTupleIter b t i)(ht:s.heap.IsTuple t ys)(hy:ys[i]?=none)
  (k:∀h2 x,Heap.ExtBut b s.heap h2->(∃o,h2.get? x=some o/\o.cls=.type "StopIteration")->E (.ref x) { s with heap:=h2 }):wpAny (model prog w) A (Builtin.SmallTypes.nextOf (.ref b)) Q E s:=by
 obtain⟨ob,gb,cb,db⟩:=id hb
 obtain⟨ot,gt,_,nt,dt⟩:=ht
 unfold Builtin.SmallTypes.nextOf
 refine zc (wpAny_callSpecial?_slot hb.typeIs F.slot_tuple_iterator_next (wpAny_call_entry F.slot_tuple_iterator_next hb.typeIs F.entry_tuple_iterator_next ?_ (F.args_tuple_iterator_next_1 _)))
 show wpAny _ _ (field (.ref b) 0 >>= _) _ _ s
 refine zc (wpAny_field gb db rfl ?_)
 show wpAny _ _ (if (Value.ref t == Value.none)=true then _ else _) _ _ s
 have no:¬ ((Value.ref t == Value.none)=true):=z18
 rw [if_neg no]
 show wpAny _ _ (field (.ref b) 1 >>= _) _ _ s
 refine zc (wpAny_field gb db rfl ?_)
 show wpAny _ _ (seqItems? (.ref t) >>= _) _ _ s
 refine zc (wpAny_seqItems gt dt ?_)
 simp only [Int.toNat_natCast,hy]
 refine zc (wpAny_rule (zc (wpAny_setField gb db (by simp) ?_)))
 have calm':A.in1.handled=none:=calm
 unfold Builtin.SmallTypes.stopIteration
 wp_walk
 refine wpAny_raiseNew_none calm' ?_
 refine k _ _ (((Heap.SameBut.update ..).extBut.push _).push _) ⟨_,z1c _ rfl,rfl⟩
end
theorem Draws.tup (calm:A.handled=none)(b t:Addr)(ne:t≠b)(ys:Array Value) :
  Draws prog w A b [b,t] ys.size (λi v=>ys[i]?=some v) (λi h=>h.IsTupleIter b t i/\h.IsTuple t ys) where
 live:=λ_ _ st=>by
  obtain⟨o,g,_⟩:=st.1
  exact⟨o,g⟩
 frame:=λ_ _ _ st kk=>⟨st.1.at λo e=>kk b (by simp) o e,st.2.at λo e=>kk t (by simp) o e⟩
 item:=λi s Q E hi st hQ=>Az st.1 st.2 (y:=ys[i]) (by simp [hi]) λh2 b2 sb=>hQ _ h2 s.toks (by simp [hi]) ⟨b2,st.2.extBut sb.extBut ne⟩ sb
 done:=λs Q E st hE=>AA calm st.1 st.2 (by simp) hE
set_option maxHeartbeats 4000000 in
theorem AB(t:Addr)(ys:Array Value)(m:Nat)(td:Option Addr)(ts:Array (Option Value)) :
  Meets (Builtin.«enumerate.__new__» ⟨[.type "enumerate",.ref t],[]⟩) (λ_ R st=>st.heap.get? t=some { cls:=.type "tuple",dict:=td,data:=.seq ys m,slots:=ts } /\
   R (.ok (.ret (.ref (st.heap.push { cls:=.type "tuple_iterator",data:=.fields #[.ref t,.int 0 0] }).objs.size)))
    { st with heap:=(st.heap.push { cls:=.type "tuple_iterator",data:=.fields #[.ref t,.int 0 0] }).push { cls:=.type "enumerate",data:=.fields #[.none,.bool false,.ref st.heap.objs.size,rawInt 0,.none,.none] } }):=by
 refine .of_wp λprog w A R st g=>?_
 obtain⟨heap0,gens0,yef,toks0,os0⟩:=st
 obtain⟨gt,gR⟩:=g
 have a1:=sub_enumerate
 have gT:Heap.IsTuple (Shared.heap ⟨heap0,gens0,yef,toks0,os0⟩) t ys:=⟨_,gt,rfl,m,rfl⟩
 wp_walk using wpAny_loadPart' gt
 refine wpAny_stack_any λstk=>zf ?_
 split
 ·rename_i c _ _ _ _ _
  cases (c == Value.type "enumerate")
  ·wp_walk using wpAny_loadPart' gt,wpAny_pyIter_tuple gT
   exact⟨_,rfl,gR⟩
  ·wp_walk using wpAny_loadPart' gt,wpAny_pyIter_tuple gT
   exact⟨_,rfl,gR⟩
 ·wp_walk using wpAny_loadPart' gt,wpAny_pyIter_tuple gT
  exact⟨_,rfl,gR⟩
section
noncomputable abbrev nJ(t:Addr):Obj:={ cls:=.type "tuple_iterator",data:=.fields #[.ref t,.int 0 0] }
noncomputable abbrev sE(i:Addr):Obj:={ cls:=.type "enumerate",data:=.fields #[.none,.bool false,.ref i,rawInt 0,.none,.none] }
theorem y95 (hT:s.heap.IsTuple t ys)
  (k:∀h2,IsEnum h2 (s.heap.objs.size+1) s.heap.objs.size 0 .none->h2.IsTupleIter s.heap.objs.size t 0->(∀b o,s.heap.get? b=some o->h2.get? b=some o)->Q (.ref (s.heap.objs.size+1)) { s with heap:=h2 }) :
  wpAny (model prog w) A (call (.type "enumerate") [.ref t]) Q E s:=by
 obtain⟨⟨c,td,dt,ts⟩,gt,ct,m,dd⟩:=hT
 have ct':c=.type "tuple":=ct
 have dd':dt=.seq ys m:=dd
 subst ct' dd'
 refine callType_new F.called_enumerate (by decide) (F.typeCall_enumerate_1 _) (F.newCall_enumerate_1 _) (λobj=>F.args_object_init_2 obj _) F.entry_enumerate_new (AB t ys m td ts) ⟨gt,?_⟩
 have sz:(s.heap.push (nJ t)).objs.size=s.heap.objs.size+1:=Heap.size_push ..
 show _/\_
 rw [sz]
 have en:IsEnum ((s.heap.push (nJ t)).push (sE s.heap.objs.size)) (s.heap.objs.size+1) s.heap.objs.size 0 .none:=by
  have a:=z1c (s.heap.push (nJ t)) (o:=sE s.heap.objs.size) rfl
  rw [sz] at a
  exact a
 exact⟨⟨_,en,rfl⟩,k _ en ⟨_,ze _ (z1c _ rfl),rfl,rfl⟩ λb o e=>ze _ (ze _ e)⟩
end
end PySem
namespace L2
open PySem PySem.Spec PyProof.Rows
section
noncomputable def AD(K:W.Frag)(a:Addr):It:=⟨λi H=>∃xs x,aO K H a xs/\xs[i]?=some x,
 λi H v H'=>∃T,v=.ref T/\H T=none/\∀xs x,aO K H a xs->xs[i]?=some x->H'=ax H T (.tup [.int i,x]),λi H=>∃xs,aO K H a xs/\xs.length=i⟩
theorem AE{P:Program}{w:World}{K:W.Frag}{elts:List Expr}{k0:Nat}{p0:Pos}{e it a:Addr}(n1:e≠it)(n2:a≠e)(n3:a≠it) :
  Turn P w K (.Tuple elts k0 p0) (AD K a) [e,it] e (λi h=>(∃old,IsEnum h e it i old)/\h.IsTupleIter it a i) where
 mem:=by simp
 obj:=λi h st b hb=>by
  obtain⟨⟨old,h1⟩,⟨o2,h2,c2,d2⟩⟩:=st
  simp only [z1b,List.not_mem_nil,or_false] at hb
  rcases hb with rfl|rfl
  ·exact⟨_,h1,λv q=>by cases q⟩
  ·exact⟨_,h2,λv q=>by rw [d2] at q;cases q⟩
 keep:=λi h h' st k=>by
  obtain⟨⟨old,h1⟩,h2⟩:=st
  exact⟨⟨old,k e (by simp) _ h1⟩,h2.at λo q=>k it (by simp) o q⟩
 item:=by
  intro X hP hw hK hc i pins s σ H E I hf st hg
  subst hP hw hK
  obtain⟨xs,x,hx,ex⟩:=hg
  obtain⟨us,r1,p1,z1⟩:=I.tuple hx
  obtain⟨u,eu,ru⟩:=r1.get ex
  obtain⟨⟨old,h1⟩,h2⟩:=st
  have W:=WalksT.enumerateD (Draws.tup (prog:=X.prog) (w:=X.w) (A:=X.A.in1) (I.ok.hd hc) it a n3 us.toArray) e n1 (by simp;exact⟨n1,n2.symm⟩) (by simp)
  have hiu:i<us.length:=(z14.mp eu).1
  refine wpAny_pyNext_enum_itemD (Draws.tup (A:=X.A.in1) (I.ok.hd hc) it a n3 us.toArray) h1 ⟨h2,show s.heap.IsTuple a us.toArray from p1⟩ (by rw [zd];exact hiu) n1 (by simp;exact⟨n1,n2.symm⟩) λx' h' t0 e1 ho hs' hT0 _ hk0=>⟨.ref _,rfl,?_⟩
  obtain⟨T,eT⟩:∃T,T=s.heap.objs.size:=⟨_,rfl⟩
  have hsz:s.heap.objs.size≤T:=Nat.le_of_eq eT.symm
  have hT:eW h' s.heap.objs.size #[.int i t0,x']:=⟨_,hT0,rfl,rfl,_,rfl⟩
  have hk:∀b o,b∉[e,it]->s.heap.get? b=some o->h'.get? b=some o:=λb o hb=>hk0 b o (λz=>hb (by simp [z])) (λz=>hb (by simp [z]))
  have hM:(∃x,IsEnumOut h' e it ((i:Int)+1) x s.heap.objs.size)/\(h'.IsTupleIter it a (i+1)/\h'.IsTuple a us.toArray)/\s.heap.objs.size≠e/\s.heap.objs.size≠it:=⟨⟨_,ho⟩,hs',Nat.ne_of_gt (z16 h1),by obtain⟨_,q,_⟩:=h2;exact Nat.ne_of_gt (z16 q)⟩
  rw [<- eT] at hT hM ⊢
  have e1':u=x':=by
   have q:us[i]?=some x':=by simpa using e1
   rw [eu] at q;exact z2a q
  subst e1'
  refine W.go elts k0 p0 i T { s with heap:=h',toks:=t0+1 } _ _ hM λh'' st'' hk'=>?_
  obtain⟨g1,g2,g3⟩:=st''
  have nT:=W.apart i T _ hM
  have hT2:eW h'' T #[.int i t0,u]:=hT.keep λo q=>hk' T o nT q
  refine⟨.ref T,ax H T (.tup [.int i,x]),?_,rfl,⟨T,rfl,I.hok.fresh hsz,λxs' x'' q1 q3=>?_⟩,⟨g1,g2⟩,λb hb=>?_⟩
  ·refine I.y44b hf (λb o hb q=>hk' b o hb (hk b o hb q)) hsz ?_
   exact⟨by show 2≤sizeLine;decide,[.int i t0,u],.cons ⟨t0,rfl⟩ (.cons ru .nil),hT2⟩
  ·rw [I.y442 q1 hx,ex] at q3
   cases q3;rfl
  ·have q:=(hf b hb).1
   have nb:b≠T:=by
    intro z
    obtain⟨o,eo⟩:∃o,s.heap.get? b=some o:=by
     simp only [z1b,List.not_mem_nil,or_false] at hb
     obtain⟨o2,h2,_⟩:=h2
     rcases hb with rfl|rfl
     ·exact⟨_,h1⟩
     ·exact⟨_,h2⟩
    exact z30 _ (z19 (z16 eo) (by rw [z];exact hsz))
   rw [ay nb];exact q
 done:=by
  intro X hP hw hK hc i pins s σ H E I hf st hg
  subst hP hw hK
  obtain⟨xs,hx,hi⟩:=hg
  obtain⟨us,r1,p1,z1⟩:=I.tuple hx
  obtain⟨⟨old,h1⟩,h2⟩:=st
  have W:=WalksT.enumerateD (Draws.tup (prog:=X.prog) (w:=X.w) (A:=X.A.in1) (I.ok.hd hc) it a n3 us.toArray) e n1 (by simp;exact⟨n1,n2.symm⟩) (by simp)
  have l1':=r1.length
  have q:i=us.toArray.size:=by rw [zd];lia
  subst q
  exact W.done s _ _ ⟨⟨old,h1⟩,h2,show s.heap.IsTuple a us.toArray from p1⟩ λh' tk hk=>⟨rfl,I.y44c (fp:=[e,it]) hf λb o hb q=>hk b o hb q⟩
 self:=λA i s Q E st h=>by
  obtain⟨⟨old,h1⟩,_⟩:=st
  exact wpAny_pyIter_enum h1 h
section
noncomputable def sF(K:W.Frag)(ta:TA):TI:=λσ H R=>ta σ H λvs H1=>∃a xs,vs=[.ref a]/\aO K H1 a xs/\R (AD K a) H1
theorem AF{elts:List Expr}{k0:Nat}{p0:Pos}{c:Expr}{ta:TA}{p pos:Pos}(hg:Gl X "enumerate")(hm:X.mg "enumerate" = none)(ha:PA X [c] ta)(hs:starEach [c] X.env=[(false,eval c X.env)]:=by rfl) :
  PI X (.Tuple elts k0 p0) (.Call (.Name "enumerate" p) [c] [] pos) (sF X.K ta):=by
 intro pins s σ H R I h
 refine Call_ (dG I hg hm PyProof.Rows.boot_enumerate (PyProof.Rows.callWith_type1 (aF (ha pos pins s σ H _ I h) λus s1 ⟨vs,H1,I1,r1,q1⟩=>?_) hs rfl))
 obtain⟨a,xs,e,hx,q⟩:=q1
 subst e
 cases r1 with
 | cons r rr =>
  cases rr
  cases r
  obtain⟨as,ra,pa,za⟩:=I1.tuple hx
  have pa':s1.heap.IsTuple a as.toArray:=pa
  refine y95 pa' λh2 z1 z2 zk=>?_
  have la:a<s1.heap.objs.size:=by obtain⟨_,e,_⟩:=pa';exact z16 e
  refine wpAny_pyIter_enum z1 ?_
  refine⟨_,[s1.heap.objs.size+1,s1.heap.objs.size],_,_,H1,rfl,I1.kept zk,
   AE (Nat.ne_of_gt (z34 _)) (z1f (Nat.lt_succ_of_lt la)) (z1f la),⟨⟨_,z1⟩,z2⟩,λb hb=>?_,q⟩
  have hb':s1.heap.objs.size≤b:=by
   simp only [z1b,List.not_mem_nil,or_false] at hb
   rcases hb with e|e<;>(rw [e];first|exact Nat.le_add_right _ _|exact z12 _)
  exact I1.y154 hb' (I1.hok.fresh hb')
end
end
section
section
variable   {elt iter tg:Expr}
noncomputable def AG(n:Nat)(ix:List Nat)(i:Nat)(wi:TI)(g:yb->TG)(tt:yb->TT)(te:yb->TE):TS:=λD σ H=>nG n ix wi g tt te σ H λv H1=>D.nx (σ.set i (some v)) H1
theorem sG (O:yc X scope xs ys ix)(hc:X.calm=true)(hN:X.N.Nodup)(hy:X.N[i]?=some y)(hl:X.env.scope.names.lookup y=some .local)(hit:PI X tg iter wi)
  (hg:∀z,PG (cV X scope (xs++ys) z) tg (g z)) (hi:∀z,mn (cV X scope (xs++ys) z) ifs (tt z)) (he:∀z,PE (cV X scope (xs++ys) z) elt (te z))
  (hsw:swapsWith (.ListComp elt [⟨tg,iter,ifs,0⟩] scope pos) (some (.Name y py)) y401.line X.env=pure true:=by rfl) (hs:∀v,foldedSetIterable iter X.env v=pure v:=by intro _;rfl) :
  PS X (.Assign [.Name y py] (.ListComp elt [⟨tg,iter,ifs,0⟩] scope pos) y401) (AG xs.length ix i wi g tt te):=by
 intro pins s σ H D I h
 rw [exec_Assign_Name_used _ _ _ _ hsw]
 refine zc (wpAny_standAt (zc ?_))
 show wpAny _ _ (do let _ <- comprehension (.ListComp elt [⟨tg,iter,ifs,0⟩] scope pos) scope X.env _ (newList []) false (eval iter X.env) (some (assign (.Name y py) X.env))) _ _ s
 refine zc (wpAny_mono (wpAny_comprehension_free rfl hs (ya6 λp hp hf=>I.ok.has p.1 (O.fr p hp hf)) O.kind O.names (aF (hit pins s σ H _ I h) λv s1 h1=>aF h1 λitv s2 h2=>?_))
  (λ_ s' hq=>zf (zf hq)) λ_ _ e=>e)
 obtain⟨it,fp,tn,J,H2,e,I2,T,st2,f2,hw⟩:=h2
 subst e
 refine yb0 O hc hg hi he I2 T st2 f2 hw ?_
 intro E C m' H' s' I' n' fC q
 show wpAny _ _ (assign (.Name y py) X.env (.ref E)) _ _ s'
 refine wpAny_assign_Name (pY (v:=.ref E) I' hN hy (.inl hl) rfl (λs'' I'' ⟨a,sb,ha⟩=>?_) (.inr hl))
 have hCa:C≠a:=by
  rcases ha with rfl|ha
  ·exact fC.2.1
  ·exact λz=>fC.2.2.2.2.1 _ _ ha z.symm
 exact⟨m',n'.sameBut sb hCa,λh' hs'=>⟨_,H',yb4 I'' fC hs',q⟩⟩
end
theorem kD{α:Type}{xs:List α}{f:Nat->Nat}:∀{c:Nat},(∀k,k<c->f k<xs.length)->(((List.range c).map f).filterMap (xs[·]?)).length=c/\∀k,k<c->(((List.range c).map f).filterMap (xs[·]?))[k]?=xs[f k]?
 | 0,_=>⟨rfl,λk h=>absurd h (Nat.not_lt_zero _)⟩
 | c+1,h=>by
  obtain⟨h1,h2⟩:=kD λk hk=>h k (Nat.lt_succ_of_lt hk)
  have hc:=h c (z34 c)
  have e:((List.range (c+1)).map f).filterMap (xs[·]?)=((List.range c).map f).filterMap (xs[·]?)++[xs[f c]]:=by
   rw [List.range_succ,z26,List.filterMap_append]
   congr 1
   simp [hc]
  rw [e]
  refine⟨by rw [z17,h1];rfl,λk hk=>?_⟩
  by_cases q:k<c
  ·rw [z21 (by rw [h1];exact q)]
   exact h2 k q
  ·have q':k=c:=by lia
   subst q'
   rw [z25 (by rw [h1];exact z12 _),h1,Nat.sub_self,z13 hc]
   rfl
theorem AH(xs:List V):(dH xs none none (some (-1))).length=xs.length/\∀k,k<xs.length->(dH xs none none (some (-1)))[k]?=xs[xs.length-1-k]?:=by
 have e:dH xs none none (some (-1))=((List.range xs.length).map λk=>xs.length-1-k).filterMap (xs[·]?):=by
  unfold dH sliceRange
  have c:(if (-1:Int)>0 then (if (xs.length:Int)-1 < -1 then (-1-((xs.length:Int)-1) + -1-1) / -1 else 0) else (if (xs.length:Int)-1 > -1 then ((xs.length:Int)-1 - -1 - -1-1) / (- -1) else 0)).toNat=xs.length:=by
   rw [if_neg (by decide)]
   split
   ·rw [show (- -1:Int)=1 from rfl,Int.ediv_one];lia
   ·lia
  show ((List.range (if (-1:Int)>0 then (if (xs.length:Int)-1 < -1 then (-1-((xs.length:Int)-1) + -1-1) / -1 else 0) else (if (xs.length:Int)-1 > -1 then ((xs.length:Int)-1 - -1 - -1-1) / (- -1) else 0)).toNat).map λ(k:Nat)=>((xs.length:Int)-1 + -1*(k:Int)).toNat).filterMap (xs[·]?)=_
  rw [c]
  congr 2
  funext k
  lia
 rw [e]
 exact kD λk hk=>by lia
end
end L2
namespace B
open PySem L2
section
inductive I where
 | non|bl (b:Bool)|int (i:Int)|str (x:Str)|ty (n:String)|tup (xs:List I)|ref (k:Nat)|fro (xs:List I)|con (xs:List I)
inductive M where
 | lst (xs:List I)|dic (kvs:List (ai×I))|dit (kvs:List (List ai×I))|fdi (kvs:List (ai×I))|obj (c:Str) (fs:List (Str×I))
inductive Vl where
 | im (d:I)|ow (m:M)
noncomputable def jS(K:W.Frag)(H:Hp)(a:Addr)(vs:List V):Prop:=(∃o,H a=some (.frz o (.lst vs)))∨aP K (λ_=>none) a vs
mutual
inductive RpI(K:W.Frag)(ι:List Addr)(H:Hp):V->I->Prop
 | non:RpI K ι H .non .non
 | bl (b:Bool):RpI K ι H (.bl b) (.bl b)
 | int (i:Int):RpI K ι H (.int i) (.int i)
 | str (x:Str):RpI K ι H (.str x) (.str x)
 | ty (n:String):RpI K ι H (.ty n) (.ty n)
 | ref {a:Addr} {k:Nat}:ι[k]?=some a->RpI K ι H (.ref a) (.ref k)
 | tup {a:Addr} {vs:List V} {xs:List I}:H a=some (.tup vs)->y4c K ι H vs xs->RpI K ι H (.ref a) (.tup xs)
 | con {a:Addr} {vs:List V} {xs:List I}:aO K (λ_=>none) a vs->y4c K ι H vs xs->RpI K ι H (.ref a) (.con xs)
 | fro {a:Addr} {vs:List V} {xs:List I}:jS K H a vs->y4c K ι H vs xs->RpI K ι H (.ref a) (.fro xs)
inductive y4c(K:W.Frag)(ι:List Addr)(H:Hp):List V->List I->Prop
 | nil:y4c K ι H [] []
 | cons {v:V} {d:I} {vs:List V} {ds:List I}:RpI K ι H v d->y4c K ι H vs ds->y4c K ι H (v::vs) (d::ds)
end
theorem b4(r:RpI K ι H v (.int i)):v=.int i:=by cases r;rfl
theorem eZ(r:RpI K ι H v (.str i)):v=.str i:=by cases r;rfl
theorem nK(r:RpI K ι H v (.bl i)):v=.bl i:=by cases r;rfl
theorem i5(r:RpI K ι H v .non):v=.non:=by cases r;rfl
theorem fZ(r:RpI K ι H v (.tup xs)):∃a vs,v=.ref a/\H a=some (.tup vs)/\y4c K ι H vs xs:=by cases r with|tup h q=>exact⟨_,_,rfl,h,q⟩
theorem nL(r:RpI K ι H v (.con xs)):∃a vs,v=.ref a/\aO K (λ_=>none) a vs/\y4c K ι H vs xs:=by cases r with|con h q=>exact⟨_,_,rfl,h,q⟩
theorem sH(r:RpI K ι H v (.fro xs)):∃a vs,v=.ref a/\jS K H a vs/\y4c K ι H vs xs:=by cases r with|fro h q=>exact⟨_,_,rfl,h,q⟩
noncomputable def bo(ι ι':List Addr):Prop:=∀(k:Nat) (a:Addr),ι[k]?=some a->ι'[k]?=some a
structure Kp(H H':Hp):Prop where
 tup:∀a xs,H a=some (.tup xs)->H' a=some (.tup xs)
 frz:∀a o u,H a=some (.frz o u)->H' a=some (.frz o u)
theorem Kp.refl(H:Hp):Kp H H:=⟨λ_ _ h=>h,λ_ _ _ h=>h⟩
theorem Kp.trans(x:Kp H H1)(y:Kp H1 H2):Kp H H2:=⟨λa xs h=>y.tup a xs (x.tup a xs h),λa o u h=>y.frz a o u (x.frz a o u h)⟩
theorem Kp.same(h:cU H H'):Kp H H':=⟨λa xs e=>h _ _ e,λa o u e=>h _ _ e⟩
theorem bo.refl(ι:List Addr):bo ι ι:=λ_ _ h=>h
theorem bo.trans(x:bo ι ι1)(y:bo ι1 ι2):bo ι ι2:=λk a h=>y k a (x k a h)
theorem bo.snoc(ι:List Addr)(b:List Addr):bo ι (ι++b):=λk a h=>by
 have:k<ι.length:=(z14.mp h).1
 rw [z21 this];exact h
theorem Kp.frL  (k:Kp H H')(h:jS K H a vs):jS K H' a vs:=by
 rcases h with⟨o,h⟩| h
 ·exact .inl ⟨o,k.frz _ _ _ h⟩
 ·exact .inr h
theorem aO.kon  (h:aO K (λ_=>none) a vs):aO K H a vs:=by
 rcases h with (h|⟨o,h⟩)|h
 ·cases h
 ·cases h
 ·exact .inr h
theorem jS.sq  (h:jS K H a vs):aP K H a vs:=by
 rcases h with⟨o,h⟩| h
 ·exact .inl (.inr ⟨o,h⟩)
 ·rcases h with (h|⟨o,h⟩)|h
  ·cases h
  ·cases h
  ·exact .inr h
section
mutual
theorem RpI.mono (p:bo ι ι')(k:Kp H H'):RpI K ι H v d->RpI K ι' H' v d
 | .non=>.non
 | .bl b=>.bl b
 | .int i=>.int i
 | .str x=>.str x
 | .ty n=>.ty n
 | .ref h=>.ref (p _ _ h)
 | .tup h r=>.tup (k.tup _ _ h) (y4c.mono p k r)
 | .con h r=>.con h (y4c.mono p k r)
 | .fro h r=>.fro (k.frL h) (y4c.mono p k r)
theorem y4c.mono (p:bo ι ι')(k:Kp H H'):y4c K ι H vs ds->y4c K ι' H' vs ds
 | .nil=>.nil
 | .cons h r=>.cons (RpI.mono p k h) (y4c.mono p k r)
end
theorem y4c.len:∀{vs:List V} {ds:List I},y4c K ι H vs ds->vs.length=ds.length
 | _,_,.nil=>rfl
 | _,_,.cons _ r=>by rw [z29,z29,r.len]
theorem y4c.get:∀{vs:List V} {ds:List I} {i:Nat} {d:I},y4c K ι H vs ds->ds[i]?=some d->∃v,vs[i]?=some v/\RpI K ι H v d
 | _,_,_,_,.nil,e=>by simp at e
 | _,_,0,_,.cons h _,e=>by simp at e;subst e;exact⟨_,rfl,h⟩
 | _,_,i+1,d,.cons _ r,e=>by
  obtain⟨v,h1,h2⟩:=y4c.get r (by simpa using e)
  exact⟨v,by simpa using h1,h2⟩
theorem y4c.app:∀{vs ws:List V} {ds es:List I},y4c K ι H vs ds->y4c K ι H ws es->y4c K ι H (vs++ws) (ds++es)
 | _,_,_,_,.nil,s=>s
 | _,_,_,_,.cons h r,s=>.cons h (y4c.app r s)
theorem y4c.take:∀{vs:List V} {ds:List I} (n:Nat),y4c K ι H vs ds->y4c K ι H (vs.take n) (ds.take n)
 | _,_,0,_=>.nil
 | _,_,_+1,.nil=>.nil
 | _,_,n+1,.cons h r=>.cons h (y4c.take n r)
theorem y4c.drop:∀{vs:List V} {ds:List I} (n:Nat),y4c K ι H vs ds->y4c K ι H (vs.drop n) (ds.drop n)
 | _,_,0,r=>r
 | _,_,_+1,.nil=>.nil
 | _,_,n+1,.cons _ r=>y4c.drop n r
theorem y4c.set:∀{vs:List V} {ds:List I} {v:V} {d:I} (i:Nat),y4c K ι H vs ds->RpI K ι H v d->y4c K ι H (vs.set i v) (ds.set i d)
 | _,_,_,_,_,.nil,_=>.nil
 | _,_,_,_,0,.cons _ r,h=>.cons h r
 | _,_,_,_,i+1,.cons g r,h=>.cons g (y4c.set i r h)
theorem y4c.rev:∀{vs:List V} {ds:List I},y4c K ι H vs ds->y4c K ι H vs.reverse ds.reverse
 | _,_,.nil=>.nil
 | _,_,.cons h r=>by rw [List.reverse_cons,List.reverse_cons];exact r.rev.app (.cons h .nil)
theorem y4c.none_of{vs:List V}{ds:List I}{i:Nat}(r:y4c K ι H vs ds)(e:ds[i]?=none):vs[i]?=none:=by
 have h1:=r.len
 have h2:ds.length≤i:=List.getElem?_eq_none_iff.mp e
 exact List.getElem?_eq_none_iff.mpr (by lia)
noncomputable def cz(K:W.Frag)(κ:Str->Addr)(ι:List Addr)(H:Hp)(a:Addr):M->Prop
 | .lst xs=>∃vs,H a=some (.lst vs)/\y4c K ι H vs xs
 | .dic kvs=>∃ws,H a=some (.dK ws)/\ws.map (·.1)=kvs.map (·.1)/\y4c K ι H (ws.map (·.2)) (kvs.map (·.2))
 | .dit kvs=>∃ws,H a=some (.dT ws)/\ws.map (·.1)=kvs.map (·.1)/\y4c K ι H (ws.map (·.2)) (kvs.map (·.2))
 | .fdi kvs=>∃o ws,H a=some (.frz o (.dK ws))/\ws.map (·.1)=kvs.map (·.1)/\y4c K ι H (ws.map (·.2)) (kvs.map (·.2))
 | .obj c fs=>∃dx ws,H a=some (.ins (κ c) dx ws)/\ws.map (·.1)=fs.map (·.1)/\y4c K ι H (ws.map (·.2)) (fs.map (·.2))
theorem cz.mono (p:bo ι ι')(k:Kp H H')(e:H' a=H a)(h:cz K κ ι H a m):cz K κ ι' H' a m:=by
 cases m with
 | lst xs=>obtain⟨vs,h1,h2⟩:=h;exact⟨vs,by rw [e];exact h1,h2.mono p k⟩
 | dic xs=>obtain⟨vs,h1,h2,h3⟩:=h;exact⟨vs,by rw [e];exact h1,h2,h3.mono p k⟩
 | dit xs=>obtain⟨vs,h1,h2,h3⟩:=h;exact⟨vs,by rw [e];exact h1,h2,h3.mono p k⟩
 | obj c xs=>obtain⟨dx,vs,h1,h2,h3⟩:=h;exact⟨dx,vs,by rw [e];exact h1,h2,h3.mono p k⟩
 | fdi xs=>obtain⟨o,vs,h1,h2,h3⟩:=h;exact⟨o,vs,by rw [e];exact h1,h2,h3.mono p k⟩
noncomputable def kE:HO->Bool
 | .lst _ | .dK _ | .dT _ | .ins _ _ _=>true
 | .frz _ (.dK _)=>true
 | _=>false
noncomputable def sI:M->Bool
 | .fdi _=>true
 | _=>false
theorem cz.nf (h:cz K κ ι H a m)(hf:sI m=false):∀o u,H a≠some (.frz o u):=λo u e=>by
 cases m with
 | lst xs=>obtain⟨vs,h1,h2⟩:=h;rw [h1] at e;cases e
 | dic xs=>obtain⟨vs,h1,h2,h3⟩:=h;rw [h1] at e;cases e
 | dit xs=>obtain⟨vs,h1,h2,h3⟩:=h;rw [h1] at e;cases e
 | obj c xs=>obtain⟨dx,vs,h1,h2,h3⟩:=h;rw [h1] at e;cases e
 | fdi xs=>cases hf
theorem cz.mu (h:cz K κ ι H a m):∃o,H a=some o/\kE o=true:=by
 cases m with
 | lst xs=>obtain⟨vs,h1,h2⟩:=h;exact⟨_,h1,rfl⟩
 | dic xs=>obtain⟨vs,h1,h2,h3⟩:=h;exact⟨_,h1,rfl⟩
 | dit xs=>obtain⟨vs,h1,h2,h3⟩:=h;exact⟨_,h1,rfl⟩
 | obj c xs=>obtain⟨dx,vs,h1,h2,h3⟩:=h;exact⟨_,h1,rfl⟩
 | fdi xs=>obtain⟨o,vs,h1,h2,h3⟩:=h;exact⟨_,h1,rfl⟩
inductive RpE(K:W.Frag)(κ:Str->Addr)(ι:List Addr)(H:Hp):Option V->Option Vl->Prop
 | no (x:Option V):RpE K κ ι H x none
 | im {v:V} {d:I}:RpI K ι H v d->RpE K κ ι H (some v) (some (.im d))
 | ow {a:Addr} {m:M}:cz K κ ι H a m->RpE K κ ι H (some (.ref a)) (some (.ow m))
noncomputable def aT:Option V->Option Vl->List Addr
 | some (.ref a),some (.ow _)=>[a]
 | _,_=>[]
noncomputable def own:List (Option V)->List (Option Vl)->List Addr
 | v::σ,x::Z=>aT v x++own σ Z
 | _,_=>[]
theorem bz:∀{σ:List (Option V)} {Z:List (Option Vl)} (τ:List (Option V)) (θ:List (Option Vl)),σ.length=Z.length->own (σ++τ) (Z++θ)=own σ Z++own τ θ
 | [],[],_,_,_=>rfl
 | [],_::_,_,_,h=>by cases h
 | _::_,[],_,_,h=>by cases h
 | v::σ,x::Z,τ,θ,h=>by
  show aT v x++own (σ++τ) (Z++θ)=aT v x++own σ Z++own τ θ
  rw [bz τ θ (by simpa using h),z33]
noncomputable abbrev aQ(a:Addr)(l:List Addr):Nat:=List.count a l
structure SR(K:W.Frag)(κ:Str->Addr)(ι:List Addr)(H:Hp)(σ:St)(Z:List (Option Vl))(G:List M):Prop where
 sl:Paired (RpE K κ ι H) σ Z
 gs:Paired (cz K κ ι H) ι G
 nd:∀a,aQ a (own σ Z)+aQ a ι≤1
structure Step(ι fp:List Addr)(H:Hp)(ι' fp':List Addr)(H':Hp):Prop where
 pre:bo ι ι'
 src:∀a,a∈fp'->a∈fp∨H a=none
 keep:∀a o,H a=some o->a∉fp->H' a=some o
 dom:∀a,H' a=none->H a=none
 kp:Kp H H'
theorem Step.refl(ι fp:List Addr)(H:Hp):Step ι fp H ι fp H:=⟨bo.refl _,λ_ h=>.inl h,λ_ _ h _=>h,λ_ h=>h,Kp.refl _⟩
theorem Step.trans (x:Step ι fp H ι1 fp1 H1)(y:Step ι1 fp1 H1 ι2 fp2 H2):Step ι fp H ι2 fp2 H2 where
 pre:=x.pre.trans y.pre
 src:=λa h=>by
  rcases y.src a h with q|q
  ·exact x.src a q
  ·exact .inr (x.dom a q)
 keep:=λa o h n=>y.keep a o (x.keep a o h n) λq=>by
  rcases x.src a q with z|z
  ·exact n z
  ·rw [z] at h;cases h
 dom:=λa h=>x.dom a (y.dom a h)
 kp:=x.kp.trans y.kp
theorem Step.sub (x:Step ι fp H ι1 fp1 H1)(h:∀a,a∈fp2->a∈fp1):Step ι fp H ι1 fp2 H1:=⟨x.pre,λa q=>x.src a (h a q),x.keep,x.dom,x.kp⟩
theorem Step.wide (x:Step ι fp H ι1 fp1 H1)(h:∀a,a∈fp->a∈fq):Step ι fq H ι1 fp1 H1:=⟨x.pre,λa q=>(x.src a q).imp (h a) id,λa o q n=>x.keep a o q λz=>n (h a z),x.dom,x.kp⟩
theorem Step.y7e (x:Step ι fp H ι1 fp1 H1):Step ι (t++fp) H ι1 (t++fp1) H1 where
 pre:=x.pre
 src:=λa h=>by
  rcases z1d.mp h with q|q
  ·exact .inl (List.mem_append_left _ q)
  ·exact (x.src a q).imp (z20 _) id
 keep:=λa o h n=>x.keep a o h λq=>n (z20 _ q)
 dom:=x.dom
 kp:=x.kp
theorem eS  : a∈l↔0<aQ a l:=List.count_pos_iff.symm
theorem RpE.mono (p:bo ι ι')(k:Kp H H')(e:∀a,a∈aT v x->H' a=H a)(h:RpE K κ ι H v x):RpE K κ ι' H' v x:=by
 cases h with
 | no=>exact .no _
 | im h=>exact .im (h.mono p k)
 | ow h=>exact .ow (h.mono p k (e _ (by unfold aT;exact z28.mpr rfl)))
theorem gO(p:bo ι ι')(k:Kp H H'):∀{σ:St} {Z:List (Option Vl)},(∀a,a∈own σ Z->H' a=H a)->Paired (RpE K κ ι H) σ Z->Paired (RpE K κ ι' H') σ Z
 | _,_,_,.nil=>.nil
 | _,_,e,.cons h r=>.cons (h.mono p k λa q=>e a (List.mem_append_left _ q)) (gO p k (λa q=>e a (z20 _ q)) r)
theorem kF(p:bo ι ι')(k:Kp H H'):∀{as:List Addr} {G:List M},(∀a,a∈as->H' a=H a)->Paired (cz K κ ι H) as G->Paired (cz K κ ι' H') as G
 | _,_,_,.nil=>.nil
 | _,_,e,.cons h r=>.cons (h.mono p k (e _ List.mem_cons_self)) (kF p k (λa q=>e a (z22 _ q)) r)
theorem i6(v:Option V):aT v none=[]:=by
 cases v with
 | none=>rfl
 | some v=>cases v<;>rfl
theorem eh(v:Option V)(d:I):aT v (some (.im d))=[]:=by
 cases v with
 | none=>rfl
 | some v=>cases v<;>rfl
theorem kG:∀{σ:St} {Z:List (Option Vl)} {a:Addr},Paired (RpE K κ ι H) σ Z->a∈own σ Z->∃o,H a=some o/\kE o=true
 | _,_,_,.nil,h=>by cases h
 | _,_,a,.cons h r,q=>by
  rcases z1d.mp q with z|z
  ·cases h with
   | no=>rw [i6] at z;cases z
   | im h=>rw [eh] at z;cases z
   | ow h=>obtain rfl:=z28.mp z;exact h.mu
  ·exact kG r z
theorem nM:∀{as:List Addr} {G:List M} {a:Addr},Paired (cz K κ ι H) as G->a∈as->∃o,H a=some o/\kE o=true
 | _,_,_,.nil,h=>by cases h
 | _,_,a,.cons h r,q=>by
  rcases z1b.mp q with rfl|z
  ·exact h.mu
  ·exact nM r z
theorem SR.len (h:SR K κ ι H σ Z G):σ.length=Z.length:=Paired.length h.sl
theorem SR.mu  (h:SR K κ ι H σ Z G)(q:a∈own σ Z++ι):∃o,H a=some o/\kE o=true:=by
 rcases z1d.mp q with z|z
 ·exact kG h.sl z
 ·exact nM h.gs z
theorem cM{α β:Type}{F:α->β->Prop}:∀{a:List α} {b:List β} {c:List α} {d:List β},Paired F a b->Paired F c d->Paired F (a++c) (b++d)
 | _,_,_,_,.nil,h=>h
 | _,_,_,_,.cons h r,q=>.cons h (cM r q)
theorem bQ{α β:Type}{F:α->β->Prop}:∀{a:List α} {b:List β} {c:List α} {d:List β},a.length=b.length->Paired F (a++c) (b++d)->Paired F a b/\Paired F c d
 | [],[],_,_,_,h=>⟨.nil,h⟩
 | [],_::_,_,_,l,_=>by cases l
 | _::_,[],_,_,l,_=>by cases l
 | x::a,y::b,c,d,l,h=>by
  cases h with
  | cons h r =>
   obtain⟨p,q⟩:=bQ (by simpa using l) r
   exact⟨.cons h p,q⟩
theorem SR.join  (h1:SR K κ ι1 H1 (σ0++τ) (Z1++θ) G1)(l1:σ0.length=Z1.length)(h2:SR K κ ι2 H2 (σ++τ2) (Z2++θ2) G2)(l2:σ.length=Z2.length)
  (st:Step ι1 (own σ0 Z1++ι1) H1 ι2 (own (σ++τ2) (Z2++θ2)++ι2) H2):SR K κ ι2 H2 (σ++(τ++τ2)) (Z2++(θ++θ2)) G2/\Step ι1 (own (σ0++τ) (Z1++θ)++ι1) H1 ι2 (own (σ++(τ++τ2)) (Z2++(θ++θ2))++ι2) H2:=by
 obtain⟨a1,b1⟩:=bQ l1 h1.sl
 obtain⟨a2,b2⟩:=bQ l2 h2.sl
 have lt:=Paired.length b1
 have n1:=h1.nd
 have n2:=h2.nd
 rw [bz _ _ l1] at n1
 rw [bz _ _ l2] at n2
 have st':=st
 rw [bz _ _ l2] at st'
 have apart:∀a,a∈own τ θ->a∉own σ0 Z1++ι1:=λa q z=>by
  have:=n1 a
  rw [aQ,z23] at this
  have p1:0<aQ a (own τ θ):=eS.mp q
  rcases z1d.mp z with z|z
  ·have:=eS.mp z;unfold aQ at *;lia
  ·have:=eS.mp z;unfold aQ at *;lia
 have y3fe:∀a,a∈own τ θ->∃o,H1 a=some o:=λa q=>let ⟨o,e,_⟩:=kG b1 q;⟨o,e⟩
 have e2:own (σ++(τ++τ2)) (Z2++(θ++θ2))=own σ Z2++(own τ θ++own τ2 θ2):=by rw [bz _ _ l2,bz _ _ lt]
 refine⟨⟨cM a2 (cM (gO st.pre st.kp (λa q=>?_) b1) b2),h2.gs,λa=>?_⟩,?_⟩
 ·obtain⟨o,e⟩:=y3fe a q
  rw [e,st.keep a o e (apart a q)]
 ·rw [e2]
  have m2:=n2 a
  have m1:=n1 a
  simp only [aQ,z23] at m1 m2 ⊢
  by_cases q:a∈own τ θ
  ·obtain⟨o,e⟩:=y3fe a q
   have z:a∉own σ Z2++own τ2 θ2++ι2:=λz=>by
    rcases st'.src a z with y|y
    ·exact apart a q y
    ·rw [e] at y;cases y
   have:aQ a (own σ Z2++own τ2 θ2++ι2)=0:=List.count_eq_zero.mpr z
   simp only [aQ,z23] at this
   lia
  ·have:aQ a (own τ θ)=0:=List.count_eq_zero.mpr q
   unfold aQ at this
   lia
 ·rw [e2,bz _ _ l1]
  have s:=(Step.y7e (t:=own τ θ) st')
  refine (s.sub λa h=>?_).wide λa h=>?_
  ·simp only [z1d] at h ⊢
   rcases h with (h|h|h)|h
   ·exact .inr (.inl (.inl h))
   ·exact .inl h
   ·exact .inr (.inl (.inr h))
   ·exact .inr (.inr h)
  ·simp only [z1d] at h ⊢
   rcases h with h|h|h
   ·exact .inl (.inr h)
   ·exact .inl (.inl h)
   ·exact .inr h
end
end
section
section
theorem kH(a:Addr)(m:M):aT (some (.ref a)) (some (.ow m))=[a]:=rfl
theorem xc:∀{σ:St} {Z:List (Option Vl)} {i:Nat} {v w:Option V} {x y:Option Vl} (a:Addr),σ[i]?=some v->Z[i]?=some x ->
  aQ a (own (σ.set i w) (Z.set i y))+aQ a (aT v x)=aQ a (own σ Z)+aQ a (aT w y)
 | [],_,_,_,_,_,_,_,h,_=>by simp at h
 | _::_,[],_,_,_,_,_,_,_,h=>by simp at h
 | v0::σ,x0::Z,0,v,w,x,y,a,h1,h2=>by
  simp at h1 h2
  subst h1;subst h2
  show aQ a (aT w y++own σ Z)+aQ a (aT v0 x0)=aQ a (aT v0 x0++own σ Z)+aQ a (aT w y)
  simp only [aQ,z23]
  lia
 | v0::σ,x0::Z,i+1,v,w,x,y,a,h1,h2=>by
  have:=xc (w:=w) (y:=y) a (by simpa using h1) (by simpa using h2)
  show aQ a (aT v0 x0++own (σ.set i w) (Z.set i y))+aQ a (aT v x)=aQ a (aT v0 x0++own σ Z)+aQ a (aT w y)
  simp only [aQ,z23] at this ⊢
  lia
theorem sJ{α:Type}{l:List α}{i:Nat}{v:α}(h:l[i]?=some v):l.set i v=l:=by
 refine List.ext_getElem? λj=>?_
 by_cases e:i=j
 ·subst e
  rw [List.getElem?_set_self (z14.mp h).1,h]
 ·rw [z1e e]
theorem sL (a:Addr)(h1:σ[i]?=some v)(h2:Z[i]?=some x) :
  aQ a (own σ (Z.set i y))+aQ a (aT v x)=aQ a (own σ Z)+aQ a (aT v y):=by
 have:=xc (w:=v) (y:=y) a h1 h2
 rw [sJ h1] at this
 exact this
theorem kJ{α β:Type}{F:α->β->Prop}:∀{l:List α} {r:List β} {i:Nat} {y:β},Paired F l r->r[i]?=some y->∃x,l[i]?=some x/\F x y
 | _,_,_,_,.nil,h=>by simp at h
 | _,_,0,_,.cons h _,e=>by simp at e;subst e;exact⟨_,rfl,h⟩
 | _,_,i+1,y,.cons _ r,e=>by
  obtain⟨x,h1,h2⟩:=kJ r (by simpa using e)
  exact⟨x,by simpa using h1,h2⟩
theorem nN{α β:Type}{F:α->β->Prop}{x:α}{y:β}:∀{l:List α} {r:List β} (i:Nat),Paired F l r->F x y->Paired F (l.set i x) (r.set i y)
 | _,_,_,.nil,_=>.nil
 | _,_,0,.cons _ r,q=>.cons q r
 | _,_,i+1,.cons h r,q=>.cons h (nN i r q)
theorem kK{α β:Type}{F:α->β->Prop}{x:α}{y:β}{l:List α}{r:List β}{i:Nat}(h:Paired F l r)(e:l[i]?=some x)(q:F x y):Paired F l (r.set i y):=by
 have:=nN i h q
 rw [sJ e] at this
 exact this
theorem SR.y168(h:SR K κ ι H σ Z G){i:Nat}{d:I}(e:Z[i]?=some (some (.im d))):∃v,σ[i]?=some (some v)/\RpI K ι H v d:=by
 obtain⟨x,e1,q⟩:=kJ h.sl e
 cases q with
 | im q=>exact⟨_,e1,q⟩
theorem SR.y16a(h:SR K κ ι H σ Z G){i:Nat}{m:M}(e:Z[i]?=some (some (.ow m))):∃a,σ[i]?=some (some (.ref a))/\cz K κ ι H a m:=by
 obtain⟨x,e1,q⟩:=kJ h.sl e
 cases q with
 | ow q=>exact⟨_,e1,q⟩
theorem SR.y167(h:SR K κ ι H σ Z G){k:Nat}{m:M}(e:G[k]?=some m):∃a,ι[k]?=some a/\cz K κ ι H a m:=kJ h.gs e
theorem nO:∀{σ:St} {Z:List (Option Vl)} {i:Nat} {a:Addr} {m:M},σ[i]?=some (some (.ref a))->Z[i]?=some (some (.ow m))->a∈own σ Z
 | [],_,_,_,_,h,_=>by simp at h
 | _::_,[],_,_,_,_,h=>by simp at h
 | v0::σ,x0::Z,0,a,m,h1,h2=>by
  simp at h1 h2
  subst h1;subst h2
  exact List.mem_append_left _ (z28.mpr rfl)
 | v0::σ,x0::Z,i+1,a,m,h1,h2=>z20 _ (nO (by simpa using h1) (by simpa using h2))
theorem SR.same(h:SR K κ ι H σ Z G)(s:cU H H'):SR K κ ι H' σ Z G where
 sl:=gO (bo.refl _) (Kp.same s) (λa q=>by obtain⟨o,e,_⟩:=kG h.sl q;rw [e,s _ _ e]) h.sl
 gs:=kF (bo.refl _) (Kp.same s) (λa q=>by obtain⟨o,e,_⟩:=nM h.gs q;rw [e,s _ _ e]) h.gs
 nd:=h.nd
theorem Step.same(s:cU H H'):Step ι fp H ι fp H':=⟨bo.refl _,λ_ h=>.inl h,λa o e _=>s _ _ e,λa e=>s.free e,Kp.same s⟩
theorem cU.lay (hp:H p=none):cU H (ax H p o):=λb u e=>by rw [ay (cY e hp)];exact e
theorem SR.pop(h:SR K κ ι H (σ++τ) (Z++θ) G)(l:σ.length=Z.length):SR K κ ι H σ Z G:=by
 obtain⟨a,b⟩:=bQ l h.sl
 refine⟨a,h.gs,λx=>?_⟩
 have:=h.nd x
 rw [bz _ _ l] at this
 simp only [aQ,z23] at this ⊢
 lia
theorem b7(l:σ.length=Z.length)(h:a∈own σ Z++ι):a∈own (σ++τ) (Z++θ)++ι:=by
 rw [bz _ _ l]
 simp only [z1d] at h ⊢
 rcases h with h|h
 ·exact .inl (.inl h)
 ·exact .inr h
theorem SR.push_im (h:SR K κ ι H σ Z G)(r:RpI K ι H v d):SR K κ ι H (σ++[some v]) (Z++[some (.im d)]) G:=by
 refine⟨cM h.sl (.cons (.im r) .nil),h.gs,λx=>?_⟩
 have e:own [some v] [some (.im d)]=[]:=by show aT _ _++[]=[];rw [eh];rfl
 rw [bz _ _ h.len,e,z1a]
 exact h.nd x
theorem cO (l:σ.length=Z.length):own (σ++[some v]) (Z++[some (.im d)])=own σ Z:=by
 rw [bz _ _ l]
 show own σ Z++(aT _ _++[])=_
 rw [eh];simp
theorem ez (l:σ.length=Z.length):own (σ++[some (.ref a)]) (Z++[some (.ow m)])=own σ Z++[a]:=by
 rw [bz _ _ l];rfl
theorem SR.y364 (h:SR K κ ι H σ Z G)(hp:H p=none)(r:cz K κ ι (ax H p o) p m):SR K κ ι (ax H p o) (σ++[some (.ref p)]) (Z++[some (.ow m)]) G:=by
 have h':=h.same (cU.lay (o:=o) hp)
 refine⟨cM h'.sl (.cons (.ow r) .nil),h'.gs,λx=>?_⟩
 rw [ez h.len]
 have:=h.nd x
 simp only [aQ,z23] at this ⊢
 by_cases e:p=x
 ·subst e
  have n:p∉own σ Z++ι:=λq=>by obtain⟨o,e,_⟩:=h.mu q;rw [hp] at e;cases e
  have:aQ p (own σ Z++ι)=0:=List.count_eq_zero.mpr n
  simp only [aQ,z23] at this
  simp
  lia
 ·have:List.count x [p]=0:=List.count_eq_zero.mpr (by simp;exact λz=>e z.symm)
  lia
theorem Step.y1f9 (l:σ.length=Z.length)(hp:H p=none):Step ι (own σ Z++ι) H ι (own (σ++[some (.ref p)]) (Z++[some (.ow m)])++ι) (ax H p o) where
 pre:=bo.refl _
 src:=λa h=>by
  rw [ez l] at h
  simp only [z1d,z28] at h ⊢
  rcases h with (h|h)|h
  ·exact .inl (.inl h)
  ·subst h;exact .inr hp
  ·exact .inl (.inr h)
 keep:=λa u e _=>cU.lay hp _ _ e
 dom:=λa e=>(cU.lay hp).free e
 kp:=Kp.same (cU.lay hp)
theorem SR.store (h:SR K κ ι H (σ++[some v]) (Z++[some x]) G)(l:σ.length=Z.length):SR K κ ι H (σ.set i (some v)) (Z.set i (some x)) G:=by
 obtain⟨a,b⟩:=bQ l h.sl
 cases b with
 | cons b _ =>
  refine⟨nN i a b,h.gs,λy=>?_⟩
  have n:=h.nd y
  rw [bz _ _ l] at n
  have e1:own [some v] [some x]=aT (some v) (some x):=z1a _
  rw [e1] at n
  by_cases hi:i<σ.length
  ·have:=xc (Z:=Z) (w:=some v) (y:=some x) y (z13 hi) (z13 (by lia))
   simp only [aQ,z23] at this n ⊢
   lia
  ·rw [List.set_eq_of_length_le (by lia),List.set_eq_of_length_le (by lia)]
   simp only [aQ,z23] at n ⊢
   lia
theorem sM  (l:σ.length=Z.length)(h:a∈own (σ.set i (some v)) (Z.set i (some x))++ι):a∈own (σ++[some v]) (Z++[some x])++ι:=by
 rw [bz _ _ l]
 have e1:own [some v] [some x]=aT (some v) (some x):=z1a _
 rw [e1]
 rw [eS] at h ⊢
 by_cases hi:i<σ.length
 ·have:=xc (Z:=Z) (w:=some v) (y:=some x) a (z13 hi) (z13 (by lia))
  simp only [aQ,z23] at this h ⊢
  lia
 ·rw [List.set_eq_of_length_le (by lia),List.set_eq_of_length_le (by lia)] at h
  simp only [aQ,z23] at h ⊢
  lia
theorem SR.take{i:Nat}{a:Addr}{m:M}(h:SR K κ ι H σ Z G)(e1:σ[i]?=some (some (.ref a)))(e2:Z[i]?=some (some (.ow m))) :
  SR K κ ι H (σ++[some (.ref a)]) (Z.set i none++[some (.ow m)]) G/\Step ι (own σ Z++ι) H ι (own (σ++[some (.ref a)]) (Z.set i none++[some (.ow m)])++ι) H:=by
 have l:σ.length=(Z.set i none).length:=by rw [z31];exact h.len
 obtain⟨a',e1',r⟩:=h.y16a e2
 rw [e1] at e1';cases e1'
 have q:∀x,aQ x (own σ (Z.set i none))+aQ x [a]=aQ x (own σ Z):=λx=>by
  have:=sL (y:=none) x e1 e2
  rw [kH,i6] at this
  exact this
 refine⟨⟨cM (kK h.sl e1 (.no _)) (.cons (.ow r) .nil),h.gs,λx=>?_⟩,(Step.refl _ _ _).sub λx hx=>?_⟩
 ·rw [ez l]
  have:=h.nd x
  have:=q x
  simp only [aQ,z23] at *
  lia
 ·rw [ez l,eS] at hx
  rw [eS]
  have:=q x
  simp only [aQ,z23] at *
  lia
theorem SR.gl(h:SR K κ ι H σ Z G):ι.length=G.length:=Paired.length h.gs
theorem SR.box (h:SR K κ ι H (σ++[some (.ref a)]) (Z++[some (.ow m)]) G)(l:σ.length=Z.length) :
  SR K κ (ι++[a]) H σ Z (G++[m])/\RpI K (ι++[a]) H (.ref a) (.ref G.length)/\Step ι (own (σ++[some (.ref a)]) (Z++[some (.ow m)])++ι) H (ι++[a]) (own σ Z++(ι++[a])) H:=by
 obtain⟨p,q⟩:=bQ l h.sl
 have pr:=bo.snoc ι [a]
 cases q with
 | cons q _ =>
  cases q with
  | ow q =>
   refine⟨⟨gO pr (Kp.refl _) (λ_ _=>rfl) p,cM (kF pr (Kp.refl _) (λ_ _=>rfl) h.gs) (.cons (q.mono pr (Kp.refl _) rfl) .nil),λx=>?_⟩,?_,⟨pr,λx hx=>.inl ?_,λ_ _ e _=>e,λ_ e=>e,Kp.refl _⟩⟩
   ·have:=h.nd x
    rw [ez l] at this
    simp only [aQ,z23] at this ⊢
    lia
   ·refine .ref ?_
    have e:=h.gl
    rw [<- e,z25 (z12 _),Nat.sub_self];rfl
   ·rw [ez l]
    simp only [z1d] at hx ⊢
    rcases hx with hx|hx|hx
    ·exact .inl (.inl hx)
    ·exact .inr hx
    ·exact .inl (.inr hx)
theorem SR.poke{i:Nat}{a:Addr}{m m':M}{o:HO}(h:SR K κ ι H σ Z G)(e1:σ[i]?=some (some (.ref a)))(e2:Z[i]?=some (some (.ow m)))(r:∀(ρ:cz K κ ι H a m),Kp H (ax H a o)->cz K κ ι (ax H a o) a m')(hf:sI m=false:=by rfl) :
  SR K κ ι (ax H a o) σ (Z.set i (some (.ow m'))) G/\Step ι (own σ Z++ι) H ι (own σ (Z.set i (some (.ow m')))++ι) (ax H a o):=by
 obtain⟨a',e1',rm⟩:=h.y16a e2
 rw [e1] at e1';cases e1'
 obtain⟨u,hu,mu⟩:=rm.mu
 have kp:Kp H (ax H a o):=⟨λb xs e=>by rw [ay (iV e hu (by rintro rfl;cases mu))];exact e,λb o' u' e=>by rw [ay (λz=>by subst z;exact rm.nf hf _ _ e)];exact e⟩
 have q:∀x,aQ x (own σ (Z.set i (some (.ow m'))))=aQ x (own σ Z):=λx=>by
  have:=sL (y:=some (.ow m')) x e1 e2
  rw [kH,kH] at this
  lia
 have mem:=nO e1 e2
 have na:∀x,x∈own σ (Z.set i none)->x≠a:=λx hx z=>by
  subst z
  have:=sL (y:=none) x e1 e2
  rw [kH,i6] at this
  have n:=h.nd x
  have:=eS.mp hx
  have z1:aQ x [x]=1:=by simp [aQ]
  have z0:aQ x []=0:=rfl
  lia
 have ni:∀x,x∈ι->x≠a:=λx hx z=>by
  subst z
  have n:=h.nd x
  have:=eS.mp hx
  have:=eS.mp mem
  lia
 have p1:=gO (bo.refl ι) kp (λx hx=>ay (na x hx)) (kK h.sl e1 (.no _))
 refine⟨⟨?_,kF (bo.refl ι) kp (λx hx=>ay (ni x hx)) h.gs,λx=>by rw [q];exact h.nd x⟩,⟨bo.refl _,λx hx=>.inl ?_,λx u e n=>?_,λx e=>?_,kp⟩⟩
 ·have:=kK p1 e1 (.ow (r rm kp))
  rw [List.set_set] at this
  exact this
 ·rw [eS] at hx ⊢
  have:=q x
  simp only [aQ,z23] at *
  lia
 ·rw [ay (λz=>n (by rw [z];exact List.mem_append_left _ mem))];exact e
 ·by_cases z:x=a
  ·subst z;rw [aJ] at e;cases e
  ·rw [ay z] at e;exact e
theorem SR.y315{k:Nat}{a:Addr}{m m':M}{o:HO}(h:SR K κ ι H σ Z G)(e1:ι[k]?=some a)(e2:G[k]?=some m)(r:∀(ρ:cz K κ ι H a m),Kp H (ax H a o)->cz K κ ι (ax H a o) a m')(hf:sI m=false:=by rfl) :
  SR K κ ι (ax H a o) σ Z (G.set k m')/\Step ι (own σ Z++ι) H ι (own σ Z++ι) (ax H a o):=by
 obtain⟨a',e1',rm⟩:=h.y167 e2
 rw [e1] at e1';cases e1'
 obtain⟨u,hu,mu⟩:=rm.mu
 have kp:Kp H (ax H a o):=⟨λb xs e=>by rw [ay (iV e hu (by rintro rfl;cases mu))];exact e,λb o' u' e=>by rw [ay (λz=>by subst z;exact rm.nf hf _ _ e)];exact e⟩
 have mem:a∈ι:=z2e e1
 have na:∀x,x∈own σ Z->x≠a:=λx hx z=>by
  subst z
  have n:=h.nd x
  have:=eS.mp hx
  have:=eS.mp mem
  lia
 have inj:∀j,ι[j]?=some a->j=k:=λj ej=>by
  have n:=h.nd a
  have c1:aQ a ι≤1:=by lia
  by_cases z:j=k
  ·exact z
  ·exfalso
   have:2≤aQ a ι:=by
    have hj:=(z14.mp ej)
    have hk:=(z14.mp e1)
    obtain⟨hj,vj⟩:=hj
    obtain⟨hk,vk⟩:=hk
    have two:∀(l:List Addr) (i j:Nat) (hi:i<l.length) (hj:j<l.length),i<j->l[i]=a->l[j]=a->2≤List.count a l:=by
     intro l i j hi hj hij e1 e2
     have e:l=l.take j++l.drop j:=(List.take_append_drop j l).symm
     rw [e,z23]
     have p1:0<List.count a (l.take j):=List.count_pos_iff.mpr (by rw [List.mem_take_iff_getElem];exact⟨i,by lia,e1⟩)
     have p2:0<List.count a (l.drop j):=List.count_pos_iff.mpr (by rw [List.mem_drop_iff_getElem];exact⟨0,by lia,by simpa using e2⟩)
     lia
    rcases Nat.lt_or_gt_of_ne z with z|z
    ·exact two ι j k hj hk z vj vk
    ·exact two ι k j hk hj z vk vj
   lia
 have objs:∀(as:List Addr) (Gs:List M) (b:Nat),(∀j x,as[j]?=some x->x=a->b+j=k)->Paired (cz K κ ι H) as Gs->(∀j,b+j=k->j<as.length->as[j]?=some a)->Paired (cz K κ ι (ax H a o)) as (if b≤k then Gs.set (k-b) m' else Gs):=by
  intro as Gs b hj p hk
  induction p generalizing b with
  | nil=>by_cases z:b≤k<;>simp [z]<;>exact .nil
  | @cons x y l r hx hr ih =>
   have ih':=ih (b+1) (λj x e z=>by have:=hj (j+1) x (by simpa using e) z;lia) (λj e l=>by have:=hk (j+1) (by lia) (by simp;lia);simpa using this)
   by_cases z:b=k
   ·subst z
    have xa:x=a:=by have:=hk 0 rfl (by simp);simpa using this
    subst xa
    rw [if_neg (by lia)] at ih'
    rw [if_pos (z12 _),Nat.sub_self]
    exact .cons (r rm kp) ih'
   ·have xa:x≠a:=λe=>z (by have:=hj 0 x rfl e;lia)
    by_cases w:b≤k
    ·rw [if_pos (by lia)] at ih'
     rw [if_pos w]
     obtain⟨n,hn⟩:∃n,k-b=n+1:=⟨k-b-1,by lia⟩
     have hn':k-(b+1)=n:=by lia
     rw [hn];rw [hn'] at ih'
     exact .cons (hx.mono (bo.refl _) kp (ay xa)) ih'
    ·rw [if_neg (by lia)] at ih'
     rw [if_neg w]
     exact .cons (hx.mono (bo.refl _) kp (ay xa)) ih'
 have p2:=objs ι G 0 (λj x e z=>by subst z;have:=inj j e;lia) h.gs (λj e _=>(show j=k by lia) ▸ e1)
 rw [if_pos (Nat.zero_le _),Nat.sub_zero] at p2
 refine⟨⟨gO (bo.refl ι) kp (λx hx=>ay (na x hx)) h.sl,p2,h.nd⟩,⟨bo.refl _,λx hx=>.inl hx,λx u e n=>?_,λx e=>?_,kp⟩⟩
 ·rw [ay (λz=>n (by rw [z];exact z20 _ mem))];exact e
 ·by_cases z:x=a
  ·subst z;rw [aJ] at e;cases e
  ·rw [ay z] at e;exact e
end
end
section
inductive Ev where
 | v (x:Vl)|s (i:Nat)
noncomputable abbrev De:=List (Option Vl)
noncomputable abbrev Mo(α:Type):=De->List M->Option (α×De×List M)
noncomputable def bd{α β:Type}(m:Mo α)(f:α->Mo β):Mo β:=λZ G=>match m Z G with
 | some (a,Z1,G1)=>f a Z1 G1
 | none=>none
noncomputable def rt{α:Type}(a:α):Mo α:=λZ G=>some (a,Z,G)
theorem bH{α β:Type}{m:Mo α}{f:α->Mo β}{Z:De}{G:List M}{r:β×De×List M}(h:bd m f Z G=some r):∃a Z1 G1,m Z G=some (a,Z1,G1)/\f a Z1 G1=some r:=by
 unfold bd at h
 split at h
 ·exact⟨_,_,_,by assumption,h⟩
 ·cases h
theorem mq{α β:Type}{m:Mo α}{f:α->Mo β}{Z Z1:De}{G G1:List M}{a:α}(h:m Z G=some (a,Z1,G1)):bd m f Z G=f a Z1 G1:=by
 unfold bd;rw [h]
noncomputable def tS:List Ev->List V->St
 | .v _::es,v::vs=>some v::tS es vs
 | .s _::es,_::vs=>tS es vs
 | _,_=>[]
noncomputable def tD:List Ev->De
 | .v x::es=>some x::tD es
 | .s _::es=>tD es
 | []=>[]
theorem nP:∀{es:List Ev} {vs:List V} (fs:List Ev) (ws:List V),es.length=vs.length->tS (es++fs) (vs++ws)=tS es vs++tS fs ws
 | [],[],_,_,_=>rfl
 | [],_::_,_,_,h=>by cases h
 | _::_,[],_,_,h=>by cases h
 | .v x::es,v::vs,fs,ws,h=>by
  show some v::tS (es++fs) (vs++ws)=some v::(tS es vs++tS fs ws)
  rw [nP fs ws (by simpa using h)]
 | .s i::es,v::vs,fs,ws,h=>by
  show tS (es++fs) (vs++ws)=tS es vs++tS fs ws
  rw [nP fs ws (by simpa using h)]
theorem nQ:∀(es fs:List Ev),tD (es++fs)=tD es++tD fs
 | [],_=>rfl
 | .v x::es,fs=>by
  show some x::tD (es++fs)=some x::(tD es++tD fs)
  rw [nQ]
 | .s i::es,fs=>by
  show tD (es++fs)=tD es++tD fs
  rw [nQ]
structure Args(K:W.Frag)(κ:Str->Addr)(ι:List Addr)(H:Hp)(σ:St)(Z:De)(G:List M)(es:List Ev)(vs:List V):Prop where
 l:σ.length=Z.length
 sr:SR K κ ι H (σ++tS es vs) (Z++tD es) G
 al:Paired (λ(e:Ev) (v:V)=>∀i,e=.s i->σ[i]?=some (some v)) es vs
structure After(K:W.Frag)(κ:Str->Addr)(σ:St)(ι fp:List Addr)(H:Hp)(es:List Ev)(Z':De)(G':List M)(vs:List V)(ι':List Addr)(H':Hp):Prop where
 ar:Args K κ ι' H' σ Z' G' es vs
 st:Step ι fp H ι' (own (σ++tS es vs) (Z'++tD es)++ι') H'
theorem bp(h:some (x,Z,G)=some (e,Z',G'))(a:After K κ σ ι fp H [x] Z G vs ι' H'):After K κ σ ι fp H [e] Z' G' vs ι' H':=by cases h;exact a
noncomputable def aK(K:W.Frag)(κ:Str->Addr)(f:Mo Ev):TE:=λσ H Q=>∃ι Z G e Z' G',SR K κ ι H σ Z G/\f Z G=some (e,Z',G')/\∀v ι' H',After K κ σ ι (own σ Z++ι) H [e] Z' G' [v] ι' H'->Q v H'
noncomputable def gG(K:W.Frag)(κ:Str->Addr)(f:Mo (List Ev)):TA:=λσ H Q=>∃ι Z G es Z' G',SR K κ ι H σ Z G/\f Z G=some (es,Z',G')/\∀vs ι' H',After K κ σ ι (own σ Z++ι) H es Z' G' vs ι' H'->Q vs H'
section
variable {κ:Str->Addr}{H H1 H2:Hp}{σ:St}{Z Z1 Z2:De}
theorem Args.base(h:Args K κ ι H σ Z G es vs):SR K κ ι H σ Z G:=h.sr.pop h.l
theorem AI (h:n=vs.length)(e:n=0:=by rfl):vs=[]:=by subst e;cases vs with|nil=>rfl|cons _ _=>cases h
theorem bq (h:n=vs.length)(e:n=1:=by rfl):∃a,vs=[a]:=by
 subst e
 cases vs with
 | nil=>cases h
 | cons a r=>exact⟨a,by rw [AI (Nat.succ.inj h)]⟩
theorem bR (h:n=vs.length)(e:n=2:=by rfl):∃a b,vs=[a,b]:=by
 subst e
 cases vs with
 | nil=>cases h
 | cons a r=>obtain⟨b,e⟩:=bq (Nat.succ.inj h);exact⟨a,b,by rw [e]⟩
theorem sN (h:n=vs.length)(e:n=3:=by rfl):∃a b c,vs=[a,b,c]:=by
 subst e
 cases vs with
 | nil=>cases h
 | cons a r=>obtain⟨b,c,e⟩:=bR (Nat.succ.inj h);exact⟨a,b,c,by rw [e]⟩
theorem Args.len(h:Args K κ ι H σ Z G es vs):es.length=vs.length:=Paired.length h.al
theorem After.app(a:After K κ σ ι fp H es Z1 G1 vs ι1 H1)(b:After K κ σ ι1 (own σ Z1++ι1) H1 fs Z2 G2 ws ι2 H2):After K κ σ ι fp H (es++fs) Z2 G2 (vs++ws) ι2 H2:=by
 obtain⟨s,t⟩:=SR.join a.ar.sr a.ar.l b.ar.sr b.ar.l b.st
 have e1:=nP fs ws a.ar.len
 have e2:=nQ es fs
 refine⟨⟨b.ar.l,by rw [e1,e2];exact s,cM a.ar.al b.ar.al⟩,?_⟩
 rw [e1,e2]
 exact a.st.trans t
theorem After.nil(h:SR K κ ι H σ Z G):After K κ σ ι (own σ Z++ι) H [] Z G [] ι H:=by
 refine⟨⟨h.len,?_,.nil⟩,?_⟩
 ·show SR K κ ι H (σ++[]) (Z++[]) G
  rw [z1a,z1a];exact h
 ·show Step ι _ H ι (own (σ++[]) (Z++[])++ι) H
  rw [z1a,z1a];exact Step.refl _ _ _
noncomputable def ae:Mo (List Ev):=rt []
noncomputable def af(fa:Mo Ev)(fr:Mo (List Ev)):Mo (List Ev):=bd fa λe=>bd fr λes=>rt (e::es)
theorem sO(h:gG K κ ae σ H Q):nj σ H Q:=by
 obtain⟨ι,Z,G,es,Z',G',s,e,k⟩:=h
 cases e
 exact k _ _ _ (After.nil s)
theorem AJ (h:gG K κ (af fa fr) σ H Q):qP (aK K κ fa) (gG K κ fr) σ H Q:=by
 obtain⟨ι,Z,G,es,Z',G',s,e,k⟩:=h
 obtain⟨x,Z1,G1,e1,e⟩:=bH e
 obtain⟨xs,Z2,G2,e2,e⟩:=bH e
 cases e
 refine⟨ι,Z,G,x,Z1,G1,s,e1,λv ι1 H1 a=>?_⟩
 refine⟨ι1,Z1,G1,xs,_,_,a.ar.base,e2,λvs ι2 H2 b=>?_⟩
 exact k _ _ _ (a.app b)
noncomputable def aw(K:W.Frag)(κ:Str->Addr)(r:List V->Hp->VK->Prop)(p:List Ev->Mo Ev):Prop :=
 ∀(ι:List Addr) (H:Hp) (σ:St) (Z:De) (G:List M) (es:List Ev) (vs:List V) (e:Ev) (Z':De) (G':List M) (Q:VK),Args K κ ι H σ Z G es vs->p es Z G=some (e,Z',G') ->
  (∀v ι' H',After K κ σ ι (own (σ++tS es vs) (Z++tD es)++ι) H [e] Z' G' [v] ι' H'->Q v H')->r vs H Q
theorem After.then (a:After K κ σ ι fp H es Z1 G1 vs ι1 H1)(b:After K κ σ ι1 (own (σ++tS es vs) (Z1++tD es)++ι1) H1 es' Z2 G2 vs' ι2 H2):After K κ σ ι fp H es' Z2 G2 vs' ι2 H2:=⟨b.ar,a.st.trans b.st⟩
theorem c3  (hp:aw K κ r p)(h:aK K κ (bd fa p) σ H Q):gG K κ fa σ H λvs H1=>r vs H1 Q:=by
 obtain⟨ι,Z,G,e,Z',G',s,eq,k⟩:=h
 obtain⟨xs,Z1,G1,e1,e2⟩:=bH eq
 refine⟨ι,Z,G,xs,Z1,G1,s,e1,λvs ι1 H1 a=>?_⟩
 exact hp _ _ _ _ _ _ _ _ _ _ _ a.ar e2 λv ι2 H2 b=>k _ _ _ (a.then b)
noncomputable def r2(r:R2):List V->Hp->VK->Prop:=λvs H Q=>∃x y,vs=[x,y]/\r x y H Q
noncomputable def r1(r:V->Hp->VK->Prop):List V->Hp->VK->Prop:=λvs H Q=>∃x,vs=[x]/\r x H Q
noncomputable def ak(p:List Ev->Mo Ev)(fa fb:Mo Ev):Mo Ev:=bd fa λx=>bd fb λy=>p [x,y]
noncomputable def bS(p:List Ev->Mo Ev)(fa:Mo Ev):Mo Ev:=bd fa λx=>p [x]
theorem gc  (hp:aw K κ (r2 r) p)(h:aK K κ (ak p fa fb) σ H Q):mi r (aK K κ fa) (aK K κ fb) σ H Q:=by
 obtain⟨ι,Z,G,e,Z',G',s,eq,k⟩:=h
 obtain⟨x,Z1,G1,e1,eq⟩:=bH eq
 obtain⟨y,Z2,G2,e2,eq⟩:=bH eq
 refine⟨ι,Z,G,x,Z1,G1,s,e1,λv ι1 H1 a=>?_⟩
 refine⟨ι1,Z1,G1,y,Z2,G2,a.ar.base,e2,λw ι2 H2 b=>?_⟩
 have c:=a.app b
 obtain⟨x',y',e',q⟩:=hp _ _ _ _ _ _ _ _ _ _ Q c.ar eq λv ι3 H3 d=>k _ _ _ (c.then d)
 cases e'
 exact q
theorem gg  (hp:aw K κ (r1 r) p)(h:aK K κ (bS p fa) σ H Q):tUn r (aK K κ fa) σ H Q:=by
 obtain⟨ι,Z,G,e,Z',G',s,eq,k⟩:=h
 obtain⟨x,Z1,G1,e1,eq⟩:=bH eq
 refine⟨ι,Z,G,x,Z1,G1,s,e1,λv ι1 H1 a=>?_⟩
 obtain⟨x',e',q⟩:=hp _ _ _ _ _ _ _ _ _ _ Q a.ar eq λv ι3 H3 d=>k _ _ _ (a.then d)
 cases e'
 exact q
theorem nR:∀{es:List Ev} {vs:List V} {j:Nat} {x:Vl} {v:V},Paired (RpE K κ ι H) (tS es vs) (tD es)->es[j]?=some (.v x)->vs[j]?=some v->RpE K κ ι H (some v) (some x)
 | [],_,_,_,_,_,h,_=>by simp at h
 | _::_,[],_,_,_,_,_,h=>by simp at h
 | .v y::es,w::vs,0,x,v,p,h1,h2=>by
  simp at h1 h2
  subst h1;subst h2
  cases p with
  | cons q _=>exact q
 | .s i::es,w::vs,0,x,v,p,h1,h2=>by simp at h1
 | .v y::es,w::vs,j+1,x,v,p,h1,h2=>by
  cases p with
  | cons _ p=>exact nR p (by simpa using h1) (by simpa using h2)
 | .s i::es,w::vs,j+1,x,v,p,h1,h2=>nR (vs:=vs) p (by simpa using h1) (by simpa using h2)
theorem Args.im{j:Nat}{d:I}{v:V}(a:Args K κ ι H σ Z G es vs)(h1:es[j]?=some (.v (.im d)))(h2:vs[j]?=some v):RpI K ι H v d:=by
 have:=nR (bQ a.l a.sr.sl).2 h1 h2
 cases this with
 | im r=>exact r
noncomputable def pk(Z:De)(G:List M):Ev->Option M
 | .v (.ow m)=>some m
 | .v (.im (.ref k))=>G[k]?
 | .v (.im _)=>none
 | .s i=>match Z[i]? with
  | some (some (.ow m))=>some m
  | _=>none
theorem Args.pk{j:Nat}{e:Ev}{m:M}{v:V}(a:Args K κ ι H σ Z G es vs)(h1:es[j]?=some e)(h2:vs[j]?=some v)(h:B.pk Z G e=some m):∃b,v=.ref b/\cz K κ ι H b m:=by
 cases e with
 | v x =>
  have q:=nR (bQ a.l a.sr.sl).2 h1 h2
  cases x with
  | ow m'=>cases h;cases q with
   | ow r=>exact⟨_,rfl,r⟩
  | im d =>
   cases q with
   | im r =>
    cases r with
    | ref e =>
     obtain⟨b,e',r⟩:=a.base.y167 h
     rw [e] at e';cases e'
     exact⟨_,rfl,r⟩
    | _=>cases h
 | s i =>
  have h:(match Z[i]? with|some (some (.ow m))=>some m|_=>none)=some m:=h
  obtain⟨v',e1,al⟩:∃v',vs[j]?=some v'/\σ[i]?=some (some v'):=by
   have:∀{es:List Ev} {vs:List V} {j:Nat},Paired (λ(e:Ev) (v:V)=>∀i,e=.s i->σ[i]?=some (some v)) es vs->es[j]?=some (.s i)->∃v',vs[j]?=some v'/\σ[i]?=some (some v'):=by
    intro es vs j p
    induction p generalizing j with
    | nil=>intro h;simp at h
    | cons q _ ih =>
     intro h
     cases j with
     | zero=>simp at h;exact⟨_,rfl,q i h⟩
     | succ j=>obtain⟨v',e,z⟩:=ih (by simpa using h);exact⟨v',by simpa using e,z⟩
   exact this a.al h1
  rw [h2] at e1;cases e1
  split at h
  ·rename_i m' e
   cases h
   obtain⟨b,e',r⟩:=a.base.y16a e
   rw [al] at e';cases e'
   exact⟨_,rfl,r⟩
  ·cases h
noncomputable def sq(Z:De)(G:List M):Ev->Option (List I)
 | .v (.im (.tup xs))=>some xs
 | .v (.im (.fro xs))=>some xs
 | .v (.im (.con xs))=>some xs
 | e=>match pk Z G e with
  | some (.lst xs)=>some xs
  | _=>none
theorem Args.sq{j:Nat}{e:Ev}{xs:List I}{v:V}(a:Args K κ ι H σ Z G es vs)(h1:es[j]?=some e)(h2:vs[j]?=some v)(h:B.sq Z G e=some xs):∃b ys,v=.ref b/\(aP K H b ys∨aO K H b ys)/\y4c K ι H ys xs:=by
 have y156:(match B.pk Z G e with|some (.lst xs)=>some xs|_=>none)=some xs->∃b ys,v=.ref b/\(aP K H b ys∨aO K H b ys)/\y4c K ι H ys xs:=λq=>by
  split at q
  ·rename_i xs' e'
   cases q
   obtain⟨b,e1,ys,h3,r⟩:=a.pk h1 h2 e'
   exact⟨b,ys,e1,.inl (aP.of h3),r⟩
  ·cases q
 cases e with
 | s i=>exact y156 h
 | v x =>
  cases x with
  | ow m=>exact y156 h
  | im d =>
   have r:=a.im h1 h2
   cases r with
   | tup q r=>cases h;exact⟨_,_,rfl,.inr (aO.of q),r⟩
   | con q r=>cases h;exact⟨_,_,rfl,.inr (aO.kon q),r⟩
   | fro q r=>cases h;exact⟨_,_,rfl,.inl q.sq,r⟩
   | ref q=>exact y156 h
   | non=>exact y156 h
   | bl=>exact y156 h
   | int=>exact y156 h
   | str=>exact y156 h
   | ty=>exact y156 h
theorem a8 (a:Args K κ ι H σ Z G es vs)(r:RpI K ι H v d):After K κ σ ι (own (σ++tS es vs) (Z++tD es)++ι) H [.v (.im d)] Z G [v] ι H:=by
 refine⟨⟨a.l,a.base.push_im r,.cons (λ_ h=>by cases h) .nil⟩,(Step.refl _ _ _).sub λx h=>?_⟩
 have h:x∈own (σ++[some v]) (Z++[some (.im d)])++ι:=h
 rw [cO a.l] at h
 exact b7 a.l h
theorem nS (a:Args K κ ι H σ Z G es vs)(s:cU H H')(r:RpI K ι H' v d):After K κ σ ι (own (σ++tS es vs) (Z++tD es)++ι) H [.v (.im d)] Z G [v] ι H':=by
 refine⟨⟨a.l,(a.base.same s).push_im r,.cons (λ_ h=>by cases h) .nil⟩,(Step.same s).sub λx h=>?_⟩
 have h:x∈own (σ++[some v]) (Z++[some (.im d)])++ι:=h
 rw [cO a.l] at h
 exact b7 a.l h
theorem kL (a:Args K κ ι H σ Z G es vs)(hp:H p=none)(r:y4c K ι H ys xs):After K κ σ ι (own (σ++tS es vs) (Z++tD es)++ι) H [.v (.im (.tup xs))] Z G [.ref p] ι (ax H p (.tup ys)) :=
 nS a (cU.lay hp) (.tup aJ (r.mono (bo.refl _) (Kp.same (cU.lay hp))))
theorem i7 (a:Args K κ ι H σ Z G es vs)(hp:H p=none)(r:cz K κ ι (ax H p o) p m):After K κ σ ι (own (σ++tS es vs) (Z++tD es)++ι) H [.v (.ow m)] Z G [.ref p] ι (ax H p o) :=
 ⟨⟨a.l,a.base.y364 hp r,.cons (λ_ h=>by cases h) .nil⟩,(Step.y1f9 a.l hp).wide λx h=>b7 a.l h⟩
theorem eA (a:Args K κ ι H σ Z G es vs)(hp:H p=none)(r:y4c K ι H ys xs):After K κ σ ι (own (σ++tS es vs) (Z++tD es)++ι) H [.v (.ow (.lst xs))] Z G [.ref p] ι (ax H p (.lst ys)) :=
 i7 a hp ⟨ys,aJ,r.mono (bo.refl _) (Kp.same (cU.lay hp))⟩
noncomputable def dU(Z:De)(G:List M)(m':M):Ev->De×List M
 | .v (.im (.ref k))=>(Z,G.set k m')
 | .v _=>(Z,G)
 | .s i=>(Z.set i (some (.ow m')),G)
theorem nU:∀{es:List Ev} {vs:List V} {j:Nat} {x:Vl} {v:V},es[j]?=some (.v x)->vs[j]?=some v->es.length=vs.length->∃n:Nat,(tS es vs)[n]?=some (some v)/\(tD es)[n]?=some (some x)
 | [],_,_,_,_,h,_,_=>by simp at h
 | _::_,[],_,_,_,_,h,_=>by simp at h
 | .v y::es,w::vs,0,x,v,h1,h2,_=>by
  simp at h1 h2
  subst h1;subst h2
  exact⟨0,rfl,rfl⟩
 | .s i::es,w::vs,0,x,v,h1,h2,_=>by simp at h1
 | .v y::es,w::vs,j+1,x,v,h1,h2,l=>by
  obtain⟨n,p,q⟩:=nU (by simpa using h1) (by simpa using h2) (by simpa using l)
  exact⟨n+1,by simpa [tS] using p,by simpa [tD] using q⟩
 | .s i::es,w::vs,j+1,x,v,h1,h2,l=>by
  obtain⟨n,p,q⟩:=nU (by simpa using h1) (by simpa using h2) (by simpa using l)
  exact⟨n,p,q⟩
theorem sP{i:Nat}:∀{es:List Ev} {vs:List V} {j:Nat} {v:V},Paired (λ(e:Ev) (v:V)=>∀i,e=.s i->σ[i]?=some (some v)) es vs->es[j]?=some (.s i)->vs[j]?=some v->σ[i]?=some (some v):=by
 intro es vs j v p
 induction p generalizing j with
 | nil=>intro h;simp at h
 | cons q _ ih =>
  intro h h2
  cases j with
  | zero=>simp at h h2;subst h2;exact q i h
  | succ j=>exact ih (by simpa using h) (by simpa using h2)
theorem gP{j:Nat}{e:Ev}{m m':M}{b:Addr}{o:HO}{v:V}{d:I}(a:Args K κ ι H σ Z G es vs)(h1:es[j]?=some e)(h2:vs[j]?=some (.ref b))(h:pk Z G e=some m)
  (r:cz K κ ι H b m->Kp H (ax H b o)->cz K κ ι (ax H b o) b m') (rv:RpI K ι H v d) (hf:sI m=false:=by rfl) :
  After K κ σ ι (own (σ++tS es vs) (Z++tD es)++ι) H [.v (.im d)] (dU Z G m' e).1 (dU Z G m' e).2 [v] ι (ax H b o):=by
 have fin:∀{Z':De} {G':List M},SR K κ ι (ax H b o) σ Z' G'->Step ι (own (σ++tS es vs) (Z++tD es)++ι) H ι (own σ Z'++ι) (ax H b o)->After K κ σ ι (own (σ++tS es vs) (Z++tD es)++ι) H [.v (.im d)] Z' G' [v] ι (ax H b o):=λs st=>by
  refine⟨⟨s.len,s.push_im (rv.mono (bo.refl _) st.kp),.cons (λ_ h=>by cases h) .nil⟩,st.sub λx h=>?_⟩
  have h:x∈own (σ++[some v]) (_++[some (.im d)])++ι:=h
  rw [cO s.len] at h
  exact h
 cases e with
 | s i =>
  have al:=sP a.al h1 h2
  have h:(match Z[i]? with|some (some (.ow m))=>some m|_=>none)=some m:=h
  split at h
  ·rename_i m0 e
   cases h
   obtain⟨p,q⟩:=a.base.poke al e r hf
   exact fin p (q.wide λx h=>b7 a.l h)
  ·cases h
 | v x =>
  cases x with
  | im d =>
   cases d with
   | ref k =>
    have rr:=a.im h1 h2
    cases rr with
    | ref e =>
     obtain⟨p,q⟩:=a.base.y315 e h r hf
     exact fin p (q.wide λx h=>b7 a.l h)
   | _=>cases h
  | ow m0 =>
   cases h
   obtain⟨n,p1,p2⟩:=nU h1 h2 a.len
   have e1:(σ++tS es vs)[σ.length+n]?=some (some (.ref b)):=by rw [z25 (by lia)];simpa using p1
   have e2:(Z++tD es)[σ.length+n]?=some (some (.ow m)):=by rw [a.l,z25 (by lia)];simpa using p2
   obtain⟨p,q⟩:=a.sr.poke e1 e2 r hf
   have e3:(Z++tD es).set (σ.length+n) (some (.ow m'))=Z++(tD es).set n (some (.ow m')):=by rw [a.l,List.set_append_right _ _ (by lia)];simp
   rw [e3] at p q
   exact fin (p.pop a.l) (q.sub λx h=>b7 a.l h)
end
end
section
section
noncomputable def aa(i:Nat):Mo Ev:=λZ G=>match Z[i]? with
 | some (some (.im d))=>some (.v (.im d),Z,G)
 | some (some (.ow _))=>some (.s i,Z,G)
 | _=>none
theorem AK (h:aK K κ (aa i) σ H Q):p4 i σ H Q:=by
 obtain⟨ι,Z,G,e,Z',G',s,eq,k⟩:=h
 unfold aa at eq
 split at eq
 ·rename_i d hd
  cases eq
  obtain⟨v,e1,r⟩:=s.y168 hd
  refine⟨v,e1,k v ι H ⟨⟨s.len,s.push_im r,.cons (λ_ h=>by cases h) .nil⟩,(Step.refl _ _ _).sub λx h=>?_⟩⟩
  have h:x∈own (σ++[some v]) (Z++[some (.im d)])++ι:=h
  rw [cO s.len] at h
  exact h
 ·rename_i m hd
  cases eq
  obtain⟨a,e1,r⟩:=s.y16a hd
  have n:=After.nil s
  exact⟨_,e1,k _ ι H ⟨⟨s.len,n.ar.sr,.cons (λj h=>by cases h;exact e1) .nil⟩,n.st⟩⟩
 ·cases eq
noncomputable def ao(d:I):Mo Ev:=rt (.v (.im d))
theorem i8 (r:∀ι H,RpI K ι H v d)(h:aK K κ (ao d) σ H Q):tC v σ H Q:=by
 obtain⟨ι,Z,G,e,Z',G',s,eq,k⟩:=h
 cases eq
 have a:=a8 (After.nil s).ar (r ι H)
 exact k _ _ _ ⟨a.ar,(After.nil s).st.trans a.st⟩
noncomputable def mv:Ev->Mo Ev
 | .v (.im d)=>rt (.v (.im d))
 | .v (.ow m)=>λZ G=>some (.v (.im (.ref G.length)),Z,G++[m])
 | .s i=>λZ G=>match Z[i]? with
  | some (some (.ow m))=>some (.v (.im (.ref G.length)),Z.set i (some (.im (.ref G.length))),G++[m])
  | _=>none
noncomputable def gQ:Ev->Mo Ev
 | .v x=>rt (.v x)
 | .s i=>λZ G=>match Z[i]? with
  | some (some (.ow m))=>some (.v (.ow m),Z.set i none,G)
  | _=>none
noncomputable def c6(f:Mo Ev):Mo Ev:=bd f mv
noncomputable def dq(f:Mo Ev):Mo Ev:=bd f gQ
theorem y5b  (a:After K κ σ ι fp H [e] Z1 G1 [v] ι1 H1)(h:gQ e Z1 G1=some (e',Z',G')):After K κ σ ι fp H [e'] Z' G' [v] ι1 H1/\∃x,e'=.v x:=by
 cases e with
 | v x=>cases h;exact⟨a,_,rfl⟩
 | s i =>
  unfold gQ at h
  dsimp only at h
  split at h
  ·rename_i m hm
   cases h
   have al:=sP (j:=0) a.ar.al rfl rfl
   obtain⟨b,e1,r⟩:=a.ar.base.y16a hm
   rw [al] at e1;cases e1
   obtain⟨p,q⟩:=a.ar.base.take al hm
   refine⟨⟨⟨by rw [z31];exact a.ar.l,p,.cons (λ_ h=>by cases h) .nil⟩,?_⟩,_,rfl⟩
   have st:=a.st
   have e0:own (σ++tS [.s i] [.ref b]) (Z1++tD [.s i])=own σ Z1:=by
    show own (σ++[]) (Z1++[])=_
    rw [z1a,z1a]
   rw [e0] at st
   exact st.trans q
  ·cases h
theorem y5a  (a:After K κ σ ι fp H [e] Z1 G1 [v] ι1 H1)(h:mv e Z1 G1=some (e',Z',G')):∃ι2,After K κ σ ι fp H [e'] Z' G' [v] ι2 H1:=by
 have go:∀{Z3:De} {b:Addr} {m:M},σ.length=Z3.length->After K κ σ ι fp H [.v (.ow m)] Z3 G1 [.ref b] ι1 H1->After K κ σ ι fp H [.v (.im (.ref G1.length))] Z3 (G1++[m]) [.ref b] (ι1++[b]) H1:=λ{Z3 b m} l a=>by
  obtain⟨p,r,q⟩:=SR.box a.ar.sr l
  refine⟨⟨l,p.push_im r,.cons (λ_ h=>by cases h) .nil⟩,a.st.trans (q.sub λx h=>?_)⟩
  have h:x∈own (σ++[some (.ref b)]) (Z3++[some (.im (.ref G1.length))])++(ι1++[b]):=h
  rw [cO l] at h
  exact h
 cases e with
 | v x =>
  cases x with
  | im d=>cases h;exact⟨_,a⟩
  | ow m =>
   cases h
   have r:=nR (bQ a.ar.l a.ar.sr.sl).2 (j:=0) rfl rfl
   cases r
   exact⟨_,go a.ar.l a⟩
 | s i =>
  unfold mv at h
  dsimp only at h
  split at h
  ·rename_i m hm
   cases h
   have al:=sP (j:=0) a.ar.al rfl rfl
   have hm':gQ (.s i) Z1 G1=some (.v (.ow m),Z1.set i none,G1):=by unfold gQ;dsimp only;rw [hm]
   obtain⟨a',_⟩:=y5b a hm'
   obtain⟨b,e1,r⟩:=a.ar.base.y16a hm
   rw [al] at e1;cases e1
   have c:=go (by rw [z31];exact a.ar.l) a'
   have hr:RpI K (ι1++[b]) H1 (.ref b) (.ref G1.length):=c.ar.im (j:=0) rfl rfl
   have s0:=c.ar.base
   have l:σ.length=(Z1.set i (some (.im (.ref G1.length)))).length:=by rw [z31];exact a.ar.l
   have eo:∀x,aQ x (own σ (Z1.set i (some (.im (.ref G1.length)))))=aQ x (own σ (Z1.set i none)):=λx=>by
    have h1:=sL (y:=some (.im (.ref G1.length))) x al hm
    have h2:=sL (y:=none) x al hm
    rw [eh] at h1;rw [i6] at h2
    lia
   have sr:SR K κ (ι1++[b]) H1 σ (Z1.set i (some (.im (.ref G1.length)))) (G1++[m]):=by
    refine⟨?_,s0.gs,λx=>by rw [eo];exact s0.nd x⟩
    have:=kK s0.sl al (.im hr)
    rw [List.set_set] at this
    exact this
   refine⟨_,⟨l,sr.push_im hr,.cons (λ_ h=>by cases h) .nil⟩,c.st.sub λx h=>?_⟩
   have h:x∈own (σ++[some (.ref b)]) (Z1.set i (some (.im (.ref G1.length)))++[some (.im (.ref G1.length))])++(ι1++[b]):=h
   rw [cO l] at h
   show x∈own (σ++[some (.ref b)]) (Z1.set i none++[some (.im (.ref G1.length))])++(ι1++[b])
   rw [cO (by rw [z31];exact a.ar.l)]
   simp only [z1d] at h ⊢
   rcases h with h|h
   ·left;rw [eS] at h ⊢;rw [<- eo];exact h
   ·exact .inr h
  ·cases h
theorem AL (h:aK K κ (c6 f) σ H Q):aK K κ f σ H Q:=by
 obtain⟨ι,Z,G,e,Z',G',s,eq,k⟩:=h
 obtain⟨x,Z1,G1,e1,eq⟩:=bH eq
 refine⟨ι,Z,G,x,Z1,G1,s,e1,λv ι1 H1 a=>?_⟩
 obtain⟨ι2,b⟩:=y5a a eq
 exact k _ _ _ b
theorem sQ (h:aK K κ (dq f) σ H Q):aK K κ f σ H Q:=by
 obtain⟨ι,Z,G,e,Z',G',s,eq,k⟩:=h
 obtain⟨x,Z1,G1,e1,eq⟩:=bH eq
 refine⟨ι,Z,G,x,Z1,G1,s,e1,λv ι1 H1 a=>?_⟩
 obtain⟨b,_⟩:=y5b a eq
 exact k _ _ _ b
noncomputable def xf:Ev->Option I
 | .v (.im d)=>some d
 | _=>none
noncomputable def nV:List Ev->Option (List I)
 | []=>some []
 | e::es=>match xf e,nV es with
  | some d,some ds=>some (d::ds)
  | _,_=>none
theorem y66:∀{es:List Ev} {vs:List V} {ds:List I},Paired (RpE K κ ι H) (tS es vs) (tD es)->es.length=vs.length->nV es=some ds->y4c K ι H vs ds
 | [],[],_,_,_,h=>by cases h;exact .nil
 | [],_::_,_,_,l,_=>by cases l
 | _::_,[],_,_,l,_=>by cases l
 | e::es,v::vs,ds,p,l,h=>by
  unfold nV at h
  split at h
  ·rename_i d ds' h1 h2
   cases h
   cases e with
   | s i=>cases h1
   | v x =>
    cases x with
    | ow m=>cases h1
    | im d' =>
     cases h1
     cases p with
     | cons q p =>
      cases q with
      | im r=>exact .cons r (y66 p (by simpa using l) h2)
  ·cases h
theorem Args.ims(a:Args K κ ι H σ Z G es vs)(h:nV es=some ds):y4c K ι H vs ds:=y66 (bQ a.l a.sr.sl).2 a.len h
noncomputable def bF:List Ev->Mo Ev:=λes Z G=>match nV es with
 | some ds=>if ds.length≤1000 then some (.v (.im (.tup ds)),Z,G) else none
 | none=>none
noncomputable def b8:List Ev->Mo Ev:=λes Z G=>match nV es with
 | some ds=>if ds.length≤1000 then some (.v (.ow (.lst ds)),Z,G) else none
 | none=>none
theorem sR:1000≤sizeLine:=by decide
theorem AM:aw K κ (λvs H Q=>vs.length≤sizeLine/\∀p,H p=none->Q (.ref p) (ax H p (.tup vs))) bF:=by
 intro ι H σ Z G es vs e Z' G' Q a h k
 unfold bF at h
 split at h
 ·rename_i ds hd
  split at h
  ·have r:=a.ims hd
   exact⟨by rw [r.len];exact z27 (by assumption) sR,λp hp=>k _ _ _ (bp h (kL a hp r))⟩
  ·cases h
 ·cases h
theorem AN:aw K κ (λvs H Q=>vs.length≤sizeLine/\∀p,H p=none->Q (.ref p) (ax H p (.lst vs))) b8:=by
 intro ι H σ Z G es vs e Z' G' Q a h k
 unfold b8 at h
 split at h
 ·rename_i ds hd
  split at h
  ·have r:=a.ims hd
   exact⟨by rw [r.len];exact z27 (by assumption) sR,λp hp=>k _ _ _ (bp h (eA a hp r))⟩
  ·cases h
 ·cases h
noncomputable def cH(K:W.Frag)(κ:Str->Addr)(f:Mo Bool):TT:=λσ H Q=>∃ι Z G b Z' G',SR K κ ι H σ Z G/\f Z G=some (b,Z',G')/\∀ι' H',SR K κ ι' H' σ Z' G'->Step ι (own σ Z++ι) H ι' (own σ Z'++ι') H'->Q b H'
noncomputable def pL:Ev->Mo Bool
 | .v (.im (.bl b))=>rt b
 | _=>λ_ _=>none
noncomputable def aD(f:Mo Ev):Mo Bool:=bd f pL
theorem After.drop (a:After K κ σ ι fp H [e] Z1 G1 [v] ι1 H1):SR K κ ι1 H1 σ Z1 G1/\Step ι fp H ι1 (own σ Z1++ι1) H1:=⟨a.ar.base,a.st.sub λx h=>b7 a.ar.l h⟩
theorem nW (h:cH K κ (aD f) σ H Q):qG (aK K κ f) σ H Q:=by
 obtain⟨ι,Z,G,b,Z',G',s,eq,k⟩:=h
 obtain⟨x,Z1,G1,e1,eq⟩:=bH eq
 refine⟨ι,Z,G,x,Z1,G1,s,e1,λv ι1 H1 a=>?_⟩
 unfold pL at eq
 split at eq
 ·rename_i b'
  cases eq
  have r:=a.ar.im (j:=0) rfl rfl
  cases nK (r)
  obtain⟨p,q⟩:=a.drop
  exact⟨_,rfl,k _ _ p q⟩
 ·cases eq
noncomputable def pM(c d:Mo Bool):Mo Bool:=bd c λb=>if b then d else rt false
noncomputable def gH(c d:Mo Bool):Mo Bool:=bd c λb=>if b then rt true else d
noncomputable def eB(c:Mo Bool):Mo Bool:=bd c λb=>rt (!b)
theorem cH.go{Q Q':Bool->Hp->Prop} (s:SR K κ ι1 H1 σ Z1 G1)(st:Step ι fp H ι1 (own σ Z1++ι1) H1)(e:f Z1 G1=some (b,Z2,G2))
  (k:∀ι' H',SR K κ ι' H' σ Z2 G2->Step ι fp H ι' (own σ Z2++ι') H'->Q b H'):cH K κ f σ H1 Q:=⟨ι1,Z1,G1,b,Z2,G2,s,e,λι' H' s' st'=>k ι' H' s' (st.trans st')⟩
theorem AO (h:cH K κ (pM c d) σ H Q):qa (cH K κ c) (cH K κ d) σ H Q:=by
 obtain⟨ι,Z,G,b,Z',G',s,eq,k⟩:=h
 obtain⟨x,Z1,G1,e1,eq⟩:=bH eq
 refine⟨ι,Z,G,x,Z1,G1,s,e1,λι1 H1 s1 st=>?_⟩
 cases x with
 | true=>rw [if_pos rfl] at eq ⊢;exact cH.go (Q':=Q) s1 st eq k
 | false=>rw [if_neg z18] at eq ⊢;cases eq;exact k _ _ s1 st
theorem sS (h:cH K κ (gH c d) σ H Q):tOr (cH K κ c) (cH K κ d) σ H Q:=by
 obtain⟨ι,Z,G,b,Z',G',s,eq,k⟩:=h
 obtain⟨x,Z1,G1,e1,eq⟩:=bH eq
 refine⟨ι,Z,G,x,Z1,G1,s,e1,λι1 H1 s1 st=>?_⟩
 cases x with
 | true=>rw [if_pos rfl] at eq ⊢;cases eq;exact k _ _ s1 st
 | false=>rw [if_neg z18] at eq ⊢;exact cH.go (Q':=Q) s1 st eq k
theorem AQ (h:cH K κ (eB c) σ H Q):qb (cH K κ c) σ H Q:=by
 obtain⟨ι,Z,G,b,Z',G',s,eq,k⟩:=h
 obtain⟨x,Z1,G1,e1,eq⟩:=bH eq
 cases eq
 exact⟨ι,Z,G,x,_,_,s,e1,λι1 H1 s1 st=>k _ _ s1 st⟩
noncomputable def xg(c:Mo Bool)(fa fb:Mo Ev):Mo Ev:=bd c λb=>if b then fa else fb
theorem aK.go  (s:SR K κ ι1 H1 σ Z1 G1)(st:Step ι fp H ι1 (own σ Z1++ι1) H1)(eq:f Z1 G1=some (e,Z2,G2))
  (k:∀v ι' H',After K κ σ ι fp H [e] Z2 G2 [v] ι' H'->Q v H'):aK K κ f σ H1 Q:=⟨ι1,Z1,G1,e,Z2,G2,s,eq,λv ι' H' a=>k v ι' H' ⟨a.ar,st.trans a.st⟩⟩
theorem AR (h:aK K κ (xg c fa fb) σ H Q):tIf (cH K κ c) (aK K κ fa) (aK K κ fb) σ H Q:=by
 obtain⟨ι,Z,G,b,Z',G',s,eq,k⟩:=h
 obtain⟨x,Z1,G1,e1,eq⟩:=bH eq
 refine⟨ι,Z,G,x,Z1,G1,s,e1,λι1 H1 s1 st=>?_⟩
 cases x with
 | true=>rw [if_pos rfl] at eq ⊢;exact aK.go s1 st eq k
 | false=>rw [if_neg z18] at eq ⊢;exact aK.go s1 st eq k
inductive Fl where
 | nx (Z:De) (G:List M)|rt (x:Vl) (G:List M)|bk (Z:De) (G:List M)|ct (Z:De) (G:List M)
noncomputable abbrev SF:=De->List M->Option Fl
noncomputable def sT(K:W.Frag)(κ:Str->Addr)(ι fp:List Addr)(H:Hp)(D:Ends):Fl->Prop
 | .nx Z' G'=>∀σ' ι' H',SR K κ ι' H' σ' Z' G'->Step ι fp H ι' (own σ' Z'++ι') H'->D.nx σ' H'
 | .bk Z' G'=>∀σ' ι' H',SR K κ ι' H' σ' Z' G'->Step ι fp H ι' (own σ' Z'++ι') H'->D.bk σ' H'
 | .ct Z' G'=>∀σ' ι' H',SR K κ ι' H' σ' Z' G'->Step ι fp H ι' (own σ' Z'++ι') H'->D.ct σ' H'
 | .rt x G'=>∀v ι' H',SR K κ ι' H' [some v] [some x] G'->Step ι fp H ι' (own [some v] [some x]++ι') H'->D.rt v H'
noncomputable def cA(K:W.Frag)(κ:Str->Addr)(f:SF):TS:=λD σ H=>∃ι Z G fl,SR K κ ι H σ Z G/\f Z G=some fl/\sT K κ ι (own σ Z++ι) H D fl
theorem sT.step (st:Step ι fp H ι1 fq H1)(h:sT K κ ι fp H D fl):sT K κ ι1 fq H1 D fl:=by
 cases fl with
 | nx Z' G'=>exact λσ' ι' H' s t=>h σ' ι' H' s (st.trans t)
 | bk Z' G'=>exact λσ' ι' H' s t=>h σ' ι' H' s (st.trans t)
 | ct Z' G'=>exact λσ' ι' H' s t=>h σ' ι' H' s (st.trans t)
 | rt x G'=>exact λv ι' H' s t=>h v ι' H' s (st.trans t)
theorem cA.of (s:SR K κ ι1 H1 σ Z1 G1)(st:Step ι fp H ι1 (own σ Z1++ι1) H1)(eq:f Z1 G1=some fl)(k:sT K κ ι fp H D fl):cA K κ f D σ H1:=⟨ι1,Z1,G1,fl,s,eq,k.step st⟩
noncomputable def bA:SF:=λZ G=>some (.nx Z G)
noncomputable def aq(a b:SF):SF:=λZ G=>match a Z G with
 | some (.nx Z1 G1)=>b Z1 G1
 | r=>r
theorem AS(h:cA K κ bA D σ H):qd D σ H:=by
 obtain⟨ι,Z,G,fl,s,eq,k⟩:=h
 cases eq
 exact k _ _ _ s (Step.refl _ _ _)
theorem AU (h:cA K κ (aq a b) D σ H):qe (cA K κ a) (cA K κ b) D σ H:=by
 obtain⟨ι,Z,G,fl,s,eq,k⟩:=h
 unfold aq at eq
 split at eq
 ·rename_i Z1 G1 e1
  exact⟨ι,Z,G,_,s,e1,λσ' ι' H' s' t=>cA.of s' t eq k⟩
 ·rename_i r hn
  cases fl with
  | nx Z' G'=>exact absurd eq (hn Z' G')
  | bk Z' G'=>exact⟨ι,Z,G,_,s,eq,k⟩
  | ct Z' G'=>exact⟨ι,Z,G,_,s,eq,k⟩
  | rt x G'=>exact⟨ι,Z,G,_,s,eq,k⟩
noncomputable def a9(c:Mo Bool)(a b:SF):SF:=λZ G=>match c Z G with
 | some (true,Z1,G1)=>a Z1 G1
 | some (false,Z1,G1)=>b Z1 G1
 | none=>none
theorem sU (h:cA K κ (a9 c a b) D σ H):qh (cH K κ c) (cA K κ a) (cA K κ b) D σ H:=by
 obtain⟨ι,Z,G,fl,s,eq,k⟩:=h
 unfold a9 at eq
 split at eq
 ·rename_i Z1 G1 e1
  exact⟨ι,Z,G,true,Z1,G1,s,e1,λι' H' s' t=>by dsimp only;rw [if_pos rfl];exact cA.of s' t eq k⟩
 ·rename_i Z1 G1 e1
  exact⟨ι,Z,G,false,Z1,G1,s,e1,λι' H' s' t=>by dsimp only;rw [if_neg z18];exact cA.of s' t eq k⟩
 ·cases eq
noncomputable def gS(f:Mo Ev):SF:=λZ G=>match f Z G with
 | some (_,Z1,G1)=>some (.nx Z1 G1)
 | none=>none
theorem AV (h:cA K κ (gS f) D σ H):qf (aK K κ f) D σ H:=by
 obtain⟨ι,Z,G,fl,s,eq,k⟩:=h
 unfold gS at eq
 split at eq
 ·rename_i e Z1 G1 e1
  cases eq
  refine⟨ι,Z,G,e,Z1,G1,s,e1,λv ι' H' a=>?_⟩
  obtain⟨p,q⟩:=a.drop
  exact k _ _ _ p q
 ·cases eq
theorem SR.last (h:SR K κ ι H (σ++[some v]) (Z++[some x]) G)(l:σ.length=Z.length):SR K κ ι H [some v] [some x] G/\∀a,a∈own [some v] [some x]++ι->a∈own (σ++[some v]) (Z++[some x])++ι:=by
 obtain⟨p,q⟩:=bQ l h.sl
 refine⟨⟨q,h.gs,λa=>?_⟩,λa ha=>?_⟩
 ·have:=h.nd a
  rw [bz _ _ l] at this
  simp only [aQ,z23] at this ⊢
  lia
 ·rw [bz _ _ l]
  simp only [z1d] at ha ⊢
  rcases ha with ha|ha
  ·exact .inl (.inr ha)
  ·exact .inr ha
noncomputable def aI(f:Mo Ev):SF:=λZ G=>match dq f Z G with
 | some (.v x,_,G1)=>some (.rt x G1)
 | _=>none
theorem AW (h:cA K κ (aI f) D σ H):qg (aK K κ f) D σ H:=by
 obtain⟨ι,Z,G,fl,s,eq,k⟩:=h
 unfold aI at eq
 split at eq
 ·rename_i x Z1 G1 e1
  cases eq
  refine sQ ⟨ι,Z,G,_,Z1,G1,s,e1,λv ι' H' a=>?_⟩
  obtain⟨p,q⟩:=SR.last a.ar.sr a.ar.l
  exact k _ _ _ p (a.st.sub q)
 ·cases eq
noncomputable def AX:SF:=λ_ G=>some (.rt (.im .non) G)
noncomputable abbrev GF:=Vl->De->List M->Option (De×List M)
noncomputable def mw(K:W.Frag)(κ:Str->Addr)(g:GF):TG:=λv σ H Q=>∃ι Z G x Z' G',σ.length=Z.length/\SR K κ ι H (σ++[some v]) (Z++[some x]) G/\g x Z G=some (Z',G') /\
 ∀σ' ι' H',SR K κ ι' H' σ' Z' G'->Step ι (own (σ++[some v]) (Z++[some x])++ι) H ι' (own σ' Z'++ι') H'->Q σ' H'
noncomputable def aN(i:Nat):GF:=λx Z G=>some (Z.set i (some x),G)
theorem kM (h:mw K κ (aN i) v σ H Q):gK i v σ H Q:=by
 obtain⟨ι,Z,G,x,Z',G',l,s,eq,k⟩:=h
 cases eq
 exact k _ _ _ (s.store l) ((Step.refl _ _ _).sub λa ha=>sM l ha)
noncomputable def i9:List Nat->List I->De->Option De
 | [],[],Z=>some Z
 | i::is,d::ds,Z=>i9 is ds (Z.set i (some (.im d)))
 | _,_,_=>none
noncomputable def cC(is:List Nat):GF:=λx Z G=>match x with
 | .im (.tup ds)=>(i9 is ds Z).map λZ'=>(Z',G)
 | _=>none
noncomputable def gh(is:List Nat):mh:=is.foldr (λi t=>qm (gK i) t) ql
theorem kN:∀{is:List Nat} {ds:List I} {vs:List V} {σ:St} {Z Z':De} {Q:St->Hp->Prop},y4c K ι H vs ds->i9 is ds Z=some Z'->SR K κ ι H σ Z G ->
  (∀σ',SR K κ ι H σ' Z' G->(∀a,a∈own σ' Z'->a∈own σ Z)->Q σ' H)->gh is vs σ H Q
 | [],[],_,_,_,_,_,r,e,s,k=>by
  cases r;cases e
  exact⟨rfl,k _ s λ_ h=>h⟩
 | i::is,d::ds,_,σ,Z,Z',Q,.cons r rs,e,s,k=>by
  refine⟨_,_,rfl,?_⟩
  have s1:=(s.push_im r).store (i:=i) s.len
  refine kN rs e s1 λσ' s' sub=>k σ' s' λa ha=>?_
  have h1:=sub a ha
  have:a∈own (σ++[some _]) (Z++[some (.im d)])++[]:=sM s.len (List.mem_append_left _ h1)
  rw [cO s.len,z1a] at this
  exact this
 | [],_::_,_,_,_,_,_,_,e,_,_=>by cases e
 | _::_,[],_,_,_,_,_,_,e,_,_=>by cases e
theorem sV:∀{is:List Nat} {ds:List I} {Z Z':De},i9 is ds Z=some Z'->ds.length=is.length
 | [],[],_,_,_=>rfl
 | i::is,d::ds,Z,_,e=>by rw [z29,z29,sV (ds:=ds) e]
 | [],_::_,_,_,e=>by cases e
 | _::_,[],_,_,e=>by cases e
theorem AY (h:mw K κ (cC is) v σ H Q):j4 K is.length (gh is) v σ H Q:=by
 obtain⟨ι,Z,G,x,Z',G',l,s,eq,k⟩:=h
 unfold cC at eq
 split at eq
 ·rename_i ds
  cases q:i9 is ds Z with
  | none=>rw [q] at eq;cases eq
  | some Z2 =>
   rw [q] at eq
   cases eq
   have r:=nR (es:=[.v (.im (.tup ds))]) (vs:=[v]) (bQ l s.sl).2 (j:=0) rfl rfl
   cases r with
   | im r =>
    obtain⟨_,_,rfl,h1,h2⟩:=fZ r
    refine⟨_,_,rfl,aO.of h1,by rw [h2.len];exact sV q,kN h2 q (s.pop l) λσ' s' sub=>k _ _ _ s' ((Step.refl _ _ _).sub λa ha=>?_)⟩
    rw [cO l]
    simp only [z1d] at ha ⊢
    rcases ha with ha|ha
    ·exact .inl (sub a ha)
    ·exact .inr ha
 ·cases eq
noncomputable def bb(f:Mo Ev)(g:GF):SF:=λZ G=>match dq f Z G with
 | some (.v x,Z1,G1)=>match g x Z1 G1 with
  | some (Z2,G2)=>some (.nx Z2 G2)
  | none=>none
 | _=>none
theorem kO (h:cA K κ (bb f g) D σ H):j5 (aK K κ f) (mw K κ g) D σ H:=by
 obtain⟨ι,Z,G,fl,s,eq,k⟩:=h
 unfold bb at eq
 split at eq
 ·rename_i x Z1 G1 e1
  split at eq
  ·rename_i Z2 G2 e2
   cases eq
   refine sQ ⟨ι,Z,G,_,Z1,G1,s,e1,λv ι' H' a=>?_⟩
   exact⟨ι',Z1,G1,x,Z2,G2,a.ar.l,a.ar.sr,e2,λσ' ι2 H2 s2 st=>k _ _ _ s2 (a.st.trans st)⟩
  ·cases eq
 ·cases eq
end
end
section
section
noncomputable def e9(c:Mo Bool)(b:SF):Nat->SF
 | 0,_,_=>none
 | n+1,Z,G=>match c Z G with
  | some (true,Z1,G1)=>match b Z1 G1 with
   | some (.nx Z2 G2)=>e9 c b n Z2 G2
   | some (.ct Z2 G2)=>e9 c b n Z2 G2
   | some (.bk Z2 G2)=>some (.nx Z2 G2)
   | some (.rt x G2)=>some (.rt x G2)
   | none=>none
  | some (false,Z1,G1)=>some (.nx Z1 G1)
  | none=>none
theorem nX  : ∀{n:Nat} {Z:De} {G:List M} {fl:Fl},e9 c b n Z G=some fl->e9 c b (n+1) Z G=some fl
 | 0,_,_,_,h=>by cases h
 | n+1,Z,G,fl,h=>by
  unfold e9 at h ⊢
  cases e:c Z G with
  | none=>rw [e] at h;cases h
  | some r =>
   obtain⟨t,Z1,G1⟩:=r
   rw [e] at h
   cases t with
   | false=>exact h
   | true =>
    cases e2:b Z1 G1 with
    | none=>dsimp only at h;rw [e2] at h;cases h
    | some fl2 =>
     dsimp only at h
     rw [e2] at h
     dsimp only
     rw [e2]
     cases fl2 with
     | nx Z2 G2=>exact nX h
     | ct Z2 G2=>exact nX h
     | bk Z2 G2=>exact h
     | rt x G2=>exact h
theorem sW   (h:e9 c b n Z G=some fl)(l:n≤m):e9 c b m Z G=some fl:=by
 induction l with
 | refl=>exact h
 | step _ ih=>exact nX ih
open Classical in
noncomputable def fQ(c:Mo Bool)(b:SF):SF:=λZ G=>if h:∃n fl,e9 c b n Z G=some fl then some (choose (choose_spec h)) else none
theorem nY   (h:e9 c b n Z G=some fl):fQ c b Z G=some fl:=by
 have ex:∃n fl,e9 c b n Z G=some fl:=⟨n,fl,h⟩
 unfold fQ
 rw [dif_pos ex]
 have q:=Classical.choose_spec (Classical.choose_spec ex)
 have h1:=sW h (Nat.le_max_left n (Classical.choose ex))
 have h2:=sW q (Nat.le_max_right n (Classical.choose ex))
 rw [h1] at h2
 exact h2.symm
theorem nZ  (h:fQ c b Z G=some fl):∃n,e9 c b n Z G=some fl:=by
 unfold fQ at h
 split at h
 ·rename_i ex
  have q:=Classical.choose_spec (Classical.choose_spec ex)
  cases h
  exact⟨_,q⟩
 ·cases h
theorem sX  (h1:c Z G=some (true,Z1,G1))(h2:b Z1 G1=some (.nx Z2 G2)):fQ c b Z G=fQ c b Z2 G2:=by
 cases e:fQ c b Z2 G2 with
 | some fl =>
  obtain⟨n,hn⟩:=nZ e
  refine nY (n:=n+1) ?_
  unfold e9
  rw [h1];dsimp only;rw [h2];exact hn
 | none =>
  cases e':fQ c b Z G with
  | none=>rfl
  | some fl =>
   obtain⟨n,hn⟩:=nZ e'
   cases n with
   | zero=>cases hn
   | succ n =>
    unfold e9 at hn
    rw [h1] at hn;dsimp only at hn;rw [h2] at hn
    have:=nY hn
    rw [e] at this;cases this
theorem n9  (h1:c Z G=some (false,Z1,G1)):fQ c b Z G=some (.nx Z1 G1):=by
 refine nY (n:=1) ?_
 unfold e9
 rw [h1]
theorem AZ (h:cA K κ (fQ c b) D σ H):qt (cH K κ c) (cA K κ b) D σ H:=by
 obtain⟨ι,Z,G,fl,s,eq,k⟩:=h
 obtain⟨n,hn⟩:=nZ eq
 refine⟨λm σ' H'=>∃ι' Z' G',SR K κ ι' H' σ' Z' G'/\Step ι (own σ Z++ι) H ι' (own σ' Z'++ι') H'/\e9 c b m Z' G'=some fl,⟨n,ι,Z,G,s,Step.refl _ _ _,hn⟩,?_⟩
 rintro m σ' H' ⟨ι',Z',G',s',st,e⟩
 cases m with
 | zero=>cases e
 | succ m =>
  unfold e9 at e
  split at e
  ·rename_i Z1 G1 e1
   refine⟨ι',Z',G',true,Z1,G1,s',e1,λι1 H1 s1 st1=>?_⟩
   dsimp only
   rw [if_pos rfl]
   refine⟨λσ2 H2=>∃ι2 Z2 G2,SR K κ ι2 H2 σ2 Z2 G2/\Step ι (own σ Z++ι) H ι2 (own σ2 Z2++ι2) H2/\e9 c b m Z2 G2=some fl,λσ2 H2 q=>⟨m,z34 _,q⟩,?_⟩
   split at e
   ·rename_i Z2 G2 e2
    exact⟨ι1,Z1,G1,_,s1,e2,λσ2 ι2 H2 s2 st2=>⟨ι2,Z2,G2,s2,(st.trans st1).trans st2,e⟩⟩
   ·rename_i Z2 G2 e2
    exact⟨ι1,Z1,G1,_,s1,e2,λσ2 ι2 H2 s2 st2=>⟨ι2,Z2,G2,s2,(st.trans st1).trans st2,e⟩⟩
   ·rename_i Z2 G2 e2
    cases e
    exact⟨ι1,Z1,G1,_,s1,e2,λσ2 ι2 H2 s2 st2=>k _ _ _ s2 ((st.trans st1).trans st2)⟩
   ·rename_i x G2 e2
    cases e
    exact⟨ι1,Z1,G1,_,s1,e2,λv ι2 H2 s2 st2=>k _ _ _ s2 ((st.trans st1).trans st2)⟩
   ·cases e
  ·rename_i Z1 G1 e1
   cases e
   refine⟨ι',Z',G',false,Z1,G1,s',e1,λι1 H1 s1 st1=>?_⟩
   dsimp only
   rw [if_neg z18]
   exact k _ _ _ s1 (st.trans st1)
  ·cases e
structure Wk where
 n:Nat
 at_:Nat->De->List M->Option I
 fin:De->List M->Bool
structure Walks(K:W.Frag)(κ:Str->Addr)(J:It)(τ:St)(θ:De)(w:Wk):Prop where
 go:∀{i:Nat} {d:I} {ι:List Addr} {H:Hp} {σ:St} {Z:De} {G:List M},i<w.n->w.at_ i Z G=some d->σ.length=Z.length->SR K κ ι H (σ++τ) (Z++θ) G->J.go i H/\∀x H',J.yld i H x H'->cU H H'/\RpI K ι H' x d
 stop:∀{ι:List Addr} {H:Hp} {σ:St} {Z:De} {G:List M},w.fin Z G=true->σ.length=Z.length->SR K κ ι H (σ++τ) (Z++θ) G->J.stop w.n H
noncomputable def aY(w:Wk)(g:GF)(b:SF):Nat->Nat->SF
 | i,0,Z,G=>if w.fin Z G then some (.nx Z G) else none
 | i,r+1,Z,G=>match w.at_ i Z G with
  | some d=>match g (.im d) Z G with
   | some (Z1,G1)=>match b Z1 G1 with
    | some (.nx Z2 G2)=>aY w g b (i+1) r Z2 G2
    | some (.ct Z2 G2)=>aY w g b (i+1) r Z2 G2
    | some (.bk Z2 G2)=>some (.nx Z2 G2)
    | some (.rt x G2)=>some (.rt x G2)
    | none=>none
   | none=>none
  | none=>none
noncomputable abbrev IF:=De->List M->Option (Wk×List Ev×De×List M)
noncomputable def oa(K:W.Frag)(κ:Str->Addr)(f:IF):TI:=λσ H R=>∃ι Z G w es Z' G',SR K κ ι H σ Z G/\f Z G=some (w,es,Z',G') /\
 ∀J vs ι' H',After K κ σ ι (own σ Z++ι) H es Z' G' vs ι' H'->Walks K κ J (tS es vs) (tD es) w->R J H'
noncomputable def bT(f:IF)(g:GF)(b:SF):SF:=λZ G=>match f Z G with
 | some (w,_,Z1,G1)=>aY w g b 0 w.n Z1 G1
 | none=>none
theorem A0  (h:cA K κ (bT f g b) D σ H):mX (oa K κ f) (mw K κ g) (cA K κ b) D σ H:=by
 obtain⟨ι,Z,G,fl,s,eq,k⟩:=h
 unfold bT at eq
 split at eq
 ·rename_i w es Z1 G1 e1
  refine⟨ι,Z,G,w,es,Z1,G1,s,e1,λJ vs ι1 H1 a wk=>?_⟩
  refine⟨λi m σ' H'=>i+m=w.n/\∃ι' Z' G',σ'.length=Z'.length/\SR K κ ι' H' (σ'++tS es vs) (Z'++tD es) G'/\Step ι (own σ Z++ι) H ι' (own (σ'++tS es vs) (Z'++tD es)++ι') H'/\aY w g b i m Z' G'=some fl,
   ⟨w.n,by lia,ι1,Z1,G1,a.ar.l,a.ar.sr,a.st,eq⟩,?_⟩
  rintro i m σ' H' ⟨him,ι',Z',G',l,s',st,e⟩
  have sub:∀a,a∈own σ' Z'++ι'->a∈own (σ'++tS es vs) (Z'++tD es)++ι':=λa ha=>b7 l ha
  cases m with
  | zero =>
   have hi:i=w.n:=by lia
   subst hi
   unfold aY at e
   split at e
   ·rename_i hf
    cases e
    exact .inl ⟨wk.stop hf l s',k _ _ _ (s'.pop l) (st.sub sub)⟩
   ·cases e
  | succ m =>
   unfold aY at e
   split at e
   ·rename_i d hd
    obtain⟨go,yl⟩:=wk.go (by lia) hd l s'
    refine .inr ⟨go,λσ2 H2=>∃ι2 Z2 G2,σ2.length=Z2.length/\SR K κ ι2 H2 (σ2++tS es vs) (Z2++tD es) G2/\Step ι (own σ Z++ι) H ι2 (own (σ2++tS es vs) (Z2++tD es)++ι2) H2/\aY w g b (i+1) m Z2 G2=some fl,
     λσ2 H2 q=>⟨m,z34 _,by lia,q⟩,λx H3 hy=>?_⟩
    obtain⟨sm,rx⟩:=yl x H3 hy
    have s3:=s'.same sm
    have st3:=st.trans (Step.same sm)
    split at e
    ·rename_i Z4 G4 e4
     have p:=(s3.pop l).push_im rx
     refine⟨ι',Z',G',.im d,Z4,G4,l,p,e4,λσ4 ι4 H4 s4 st4=>?_⟩
     rw [cO l] at st4
     have jn:∀{σ5:St} {Z5:De} {G5:List M} {ι5:List Addr} {H5:Hp},SR K κ ι5 H5 σ5 Z5 G5->Step ι4 (own σ4 Z4++ι4) H4 ι5 (own σ5 Z5++ι5) H5 ->
       SR K κ ι5 H5 (σ5++tS es vs) (Z5++tD es) G5/\Step ι (own σ Z++ι) H ι5 (own (σ5++tS es vs) (Z5++tD es)++ι5) H5:=λ{σ5 Z5 G5 ι5 H5} s5 st5=>by
      have j:=SR.join s3 l (by rw [z1a,z1a];exact s5) s5.len (by rw [z1a,z1a];exact st4.trans st5)
      rw [z1a,z1a] at j
      exact⟨j.1,st3.trans j.2⟩
     split at e
     ·rename_i Z5 G5 e5
      exact⟨ι4,Z4,G4,_,s4,e5,λσ5 ι5 H5 s5 st5=>⟨ι5,Z5,G5,s5.len,(jn s5 st5).1,(jn s5 st5).2,e⟩⟩
     ·rename_i Z5 G5 e5
      exact⟨ι4,Z4,G4,_,s4,e5,λσ5 ι5 H5 s5 st5=>⟨ι5,Z5,G5,s5.len,(jn s5 st5).1,(jn s5 st5).2,e⟩⟩
     ·rename_i Z5 G5 e5
      cases e
      exact⟨ι4,Z4,G4,_,s4,e5,λσ5 ι5 H5 s5 st5=>k _ _ _ s5 ((jn s5 st5).2.sub λa ha=>b7 s5.len ha)⟩
     ·rename_i x5 G5 e5
      cases e
      refine⟨ι4,Z4,G4,_,s4,e5,λv ι5 H5 s5 st5=>k _ _ _ s5 ((jn s5 st5).2.sub λa ha=>b7 s5.len ha)⟩
     ·cases e
    ·cases e
   ·cases e
 ·cases eq
end
end
section
section
theorem sY(l:σ.length=Z.length)(l2:τ.length=θ.length):aQ a (own (τ++σ) (θ++Z))=aQ a (own (σ++τ) (Z++θ)):=by
 rw [bz _ _ l,bz _ _ l2]
 simp only [aQ,z23]
 lia
theorem SR.swap(h:SR K κ ι H (σ++τ) (Z++θ) G)(l:σ.length=Z.length):SR K κ ι H (τ++σ) (θ++Z) G:=by
 obtain⟨p,q⟩:=bQ l h.sl
 exact⟨cM q p,h.gs,λa=>by rw [sY l (Paired.length q)];exact h.nd a⟩
theorem ff (l:σ.length=Z.length)(l2:τ.length=θ.length)(h:a∈own (τ++σ) (θ++Z)++l1):a∈own (σ++τ) (Z++θ)++l1:=by
 simp only [z1d] at h ⊢
 rcases h with h|h
 ·left;rw [eS] at h ⊢;rw [<- sY l l2];exact h
 ·exact .inr h
noncomputable abbrev FF:=List Vl->List M->Option (Vl×List M)
noncomputable def aR(K:W.Frag)(κ:Str->Addr)(n:Nat)(fn:FF):Sp:=λvs H Q _=>∃ι xs G x G',xs.length=n/\SR K κ ι H (vs.map some) (xs.map some) G/\fn xs G=some (x,G') /\
 ∀v ι' H',SR K κ ι' H' [some v] [some x] G'->Step ι (own (vs.map some) (xs.map some)++ι) H ι' (own [some v] [some x]++ι') H'->Q v H'
noncomputable def mx:List Ev->Option (List Vl)
 | []=>some []
 | .v x::es=>(mx es).map (x::·)
 | .s _::_=>none
noncomputable def bf(n:Nat)(fn:FF):List Ev->Mo Ev:=λes Z G=>match mx es with
 | some xs=>if xs.length=n then match fn xs G with
  | some (x,G')=>some (.v x,Z,G')
  | none=>none
  else none
 | none=>none
theorem og:∀{es:List Ev} {vs:List V} {xs:List Vl},mx es=some xs->es.length=vs.length->tS es vs=vs.map some/\tD es=xs.map some
 | [],[],_,h,_=>by cases h;exact⟨rfl,rfl⟩
 | [],_::_,_,_,l=>by cases l
 | _::_,[],_,_,l=>by cases l
 | .s i::_,_::_,_,h,_=>by cases h
 | .v x::es,v::vs,xs,h,l=>by
  have h:(mx es).map (x::·)=some xs:=h
  cases e:mx es with
  | none=>rw [e] at h;cases h
  | some ys =>
   rw [e] at h;cases h
   obtain⟨p,q⟩:=og e (by simpa using l)
   exact⟨by show some v::tS es vs=_;rw [p];rfl,by show some x::tD es=_;rw [q];rfl⟩
theorem sZ  : aw K κ (λvs H Q=>aR K κ n fn vs H Q E) (bf n fn):=by
 intro ι H σ Z G es vs e Z' G' Q a h k
 unfold bf at h
 split at h
 ·rename_i xs hx
  split at h
  ·rename_i hl
   split at h
   ·rename_i x G1 e1
    cases h
    obtain⟨t1,t2⟩:=og hx a.len
    have sr:=a.sr
    rw [t1,t2] at sr k
    have sw:=sr.swap a.l
    have lt:(vs.map some).length=(xs.map some).length:=Paired.length (bQ a.l sr.sl).2
    refine⟨ι,xs,G,x,_,hl,sw.pop lt,e1,λv ι' H' s st=>?_⟩
    have s':SR K κ ι' H' ([some v]++[]) ([some x]++[]) _:=s
    obtain⟨j1,j2⟩:=SR.join sw lt s' rfl st
    rw [z1a,z1a] at j1 j2
    refine k v ι' H' ⟨⟨a.l,j1.swap rfl,.cons (λ_ h=>by cases h) .nil⟩,(j2.wide λy hy=>ff a.l lt hy).sub λy hy=>?_⟩
    exact ff rfl a.l hy
   ·cases h
  ·cases h
 ·cases h
noncomputable def aZ(n r:Nat)(body:SF):FF:=λxs G=>if xs.length=n then match body (xs.map some++List.replicate r none) G with
 | some (.rt x G')=>some (x,G')
 | some (.nx _ G')=>some (.im .non,G')
 | _=>none
 else none
theorem tf:∀(r:Nat),Paired (RpE K κ ι H) (List.replicate r none) (List.replicate r none)
 | 0=>.nil
 | r+1=>.cons (.no _) (tf r)
theorem tj:∀(r:Nat),own (List.replicate r none) (List.replicate r none)=[]
 | 0=>rfl
 | r+1=>tj r
theorem SR.nones(h:SR K κ ι H σ Z G)(r:Nat):SR K κ ι H (σ++List.replicate r none) (Z++List.replicate r none) G/\own (σ++List.replicate r none) (Z++List.replicate r none)=own σ Z:=by
 have e:own (σ++List.replicate r none) (Z++List.replicate r none)=own σ Z:=by rw [bz _ _ h.len,tj,z1a]
 exact⟨⟨cM h.sl (tf r),h.gs,λa=>by rw [e];exact h.nd a⟩,e⟩
theorem tm  (h:aR K κ n (aZ n r body) vs H Q E):vs.length=n/\cA K κ body { nx:=λ_ H'=>Q .non H',rt:=Q } (vs.map some++List.replicate r none) H:=by
 obtain⟨ι,xs,G,x,G',hl,s,eq,k⟩:=h
 have lv:vs.length=n:=by have:=s.len;rw [z24,z24] at this;lia
 refine⟨lv,?_⟩
 unfold aZ at eq
 rw [if_pos hl] at eq
 obtain⟨s0,e0⟩:=s.nones r
 split at eq
 ·rename_i x' G1 e1
  cases eq
  refine⟨ι,_,G,_,s0,e1,?_⟩
  rw [e0]
  exact λv ι' H' s' st=>k v ι' H' s' st
 ·rename_i Z1 G1 e1
  cases eq
  refine⟨ι,_,G,_,s0,e1,?_⟩
  rw [e0]
  intro σ' ι' H' s' st
  obtain⟨p,q⟩:=SR.last (s'.push_im .non) s'.len
  refine k _ _ _ p (st.sub λa ha=>?_)
  have:=q a ha
  rw [cO s'.len] at this
  exact this
 ·cases eq
noncomputable def oh(K:W.Frag)(κ:Str->Addr)(r:List V->Hp->(It->Hp->Prop)->Prop)(p:List Ev->De->List M->Option Wk):Prop :=
 ∀(ι:List Addr) (H:Hp) (σ:St) (Z:De) (G:List M) (es:List Ev) (vs:List V) (w:Wk) (R:It->Hp->Prop),Args K κ ι H σ Z G es vs->p es Z G=some w ->
  (∀J,Walks K κ J (tS es vs) (tD es) w->R J H)->r vs H R
noncomputable def bC(fa:Mo (List Ev))(p:List Ev->De->List M->Option Wk):IF:=λZ G=>match fa Z G with
 | some (es,Z1,G1)=>(p es Z1 G1).map λw=>(w,es,Z1,G1)
 | none=>none
theorem gU  (hp:oh K κ r p)(h:oa K κ (bC fa p) σ H R):gG K κ fa σ H λvs H1=>r vs H1 R:=by
 obtain⟨ι,Z,G,w,es,Z',G',s,eq,k⟩:=h
 unfold bC at eq
 split at eq
 ·rename_i es1 Z1 G1 e1
  cases q:p es1 Z1 G1 with
  | none=>rw [q] at eq;cases eq
  | some w' =>
   rw [q] at eq
   cases eq
   exact⟨ι,Z,G,_,_,_,s,e1,λvs ι1 H1 a=>hp _ _ _ _ _ _ _ _ _ a.ar q λJ wk=>k J vs ι1 H1 a wk⟩
 ·cases eq
noncomputable def one(f:Mo Ev):Mo (List Ev):=bd f λe=>rt [e]
theorem tp (h:gG K κ (one f) σ H λvs H1=>∃v,vs=[v]/\Q v H1):aK K κ f σ H Q:=by
 obtain⟨ι,Z,G,es,Z',G',s,eq,k⟩:=h
 obtain⟨x,Z1,G1,e1,eq⟩:=bH eq
 cases eq
 refine⟨ι,Z,G,x,_,_,s,e1,λv ι1 H1 a=>?_⟩
 obtain⟨v',e',q⟩:=k _ _ _ a
 cases e'
 exact q
noncomputable def cP:List Ev->De->List M->Option Wk:=λes _ _=>match es with
 | [.v (.im (.int j))]=>if j<2 ^ 62/\-(2 ^ 62)≤j then some ⟨j.toNat,λi _ _=>some (.int i),λ_ _=>true⟩ else none
 | _=>none
theorem Ba   : Walks K κ (qu lo n) τ θ ⟨n,λi _ _=>some (.int (lo+i)),λ_ _=>true⟩ where
 go:=λhi hd _ _=>by
  cases hd
  refine⟨hi,λx H' y=>?_⟩
  obtain⟨e1,e2⟩:=y
  subst e1;subst e2
  exact⟨(λ_ _ h=>h),.int _⟩
 stop:=λ_ _ _=>z12 _
theorem Bb:oh K κ (λvs H R=>∃j:Int,vs=[.int j]/\-(2 ^ 62)≤j/\j<2 ^ 62/\R (qu 0 j.toNat) H) cP:=by
 intro ι H σ Z G es vs w R a h k
 unfold cP at h
 split at h
 ·rename_i j
  split at h
  ·rename_i hj
   cases h
   obtain⟨v,rfl⟩:=bq a.len
   have r:=a.im (j:=0) rfl rfl
   cases b4 (r)
   refine⟨j,rfl,hj.2,hj.1,k _ ?_⟩
   have:=Ba (K:=K) (κ:=κ) (lo:=0) (n:=j.toNat) (τ:=tS [.v (.im (.int j))] [.int j]) (θ:=tD [.v (.im (.int j))])
   simpa using this
  ·cases h
 ·cases h
noncomputable def bj(e:Ev)(n:Nat):Wk:=⟨n,λi Z G=>(sq Z G e).bind (·[i]?),λZ G=>match sq Z G e with|some xs=>decide (xs.length≤n)|none=>false⟩
noncomputable def fR(Z:De)(G:List M):Ev->Bool
 | .v (.im (.fro _))=>true
 | .v (.im (.ref _))=>true
 | .v (.ow (.lst _))=>true
 | _=>false
noncomputable def my:List Ev->De->List M->Option Wk:=λes Z G=>match es with
 | [e]=>if fR Z G e then (sq Z G e).map λxs=>bj e xs.length else none
 | _=>none
noncomputable def pN:List Ev->De->List M->Option Wk:=λes Z G=>match es with
 | [.v (.im (.tup xs))]=>some (bj (.v (.im (.tup xs))) xs.length)
 | [.v (.im (.con xs))]=>some (bj (.v (.im (.con xs))) xs.length)
 | _=>none
theorem pO (he:e=.v x)(l:σ.length=Z.length)(h:SR K κ ι H (σ++tS [e] [v]) (Z++tD [e]) G):Args K κ ι H σ Z G [e] [v]:=⟨l,h,.cons (λi q=>by rw [he] at q;cases q) .nil⟩
theorem oi (a:Args K κ ι H σ Z G [e] [v])(hl:fR Z G e=true)(h:sq Z G e=some xs):∃b ys,v=.ref b/\aP K H b ys/\y4c K ι H ys xs:=by
 cases e with
 | s i=>cases hl
 | v x =>
  cases x with
  | ow m =>
   cases m with
   | lst ys =>
    cases h
    obtain⟨b,e1,zs,h3,r⟩:=a.pk (j:=0) rfl rfl rfl
    exact⟨b,zs,e1,aP.of h3,r⟩
   | _=>cases hl
  | im d =>
   cases d with
   | fro ys =>
    cases h
    have r:=a.im (j:=0) rfl rfl
    obtain⟨_,_,rfl,q,r9⟩:=sH r
    exact⟨_,_,rfl,q.sq,r9⟩
   | ref k =>
    have h:(match pk Z G (.v (.im (.ref k))) with|some (.lst xs)=>some xs|_=>none)=some xs:=h
    split at h
    ·rename_i ys e1
     cases h
     obtain⟨b,e1,zs,h3,r⟩:=a.pk (j:=0) rfl rfl e1
     exact⟨b,zs,e1,aP.of h3,r⟩
    ·cases h
   | _=>cases hl
theorem gW(h:fR Z G e=true):∃x,e=.v x:=by
 cases e with
 | v x=>exact⟨x,rfl⟩
 | s i=>cases h
theorem gX(h:fR Z G e=true):fR Z1 G1 e=true:=by
 cases e with
 | s i=>cases h
 | v x =>
  cases x with
  | ow m=>cases m<;>first|rfl|cases h
  | im d=>cases d<;>first|rfl|cases h
theorem Bc (hl:fR Z G e=true):Walks K κ (wQ K b) (tS [e] [.ref b]) (tD [e]) (bj e n) where
 go:=λ{i d ι H σ Z' G'} hi hd l s=>by
  obtain⟨x,hx⟩:=gW hl
  have hd:(sq Z' G' e).bind (·[i]?)=some d:=hd
  cases q:sq Z' G' e with
  | none=>rw [q] at hd;cases hd
  | some xs =>
   rw [q] at hd
   obtain⟨b',ys,e1,h1,r⟩:=oi (pO hx l s) (gX hl) q
   cases e1
   obtain⟨v,hv,rv⟩:=r.get hd
   refine⟨⟨ys,v,h1,hv⟩,λx H' y=>?_⟩
   obtain⟨e2,e3⟩:=y
   subst e2
   have:=e3 ys h1
   rw [hv] at this;cases this
   exact⟨(λ_ _ h=>h),rv⟩
 stop:=λ{ι H σ Z' G'} hf l s=>by
  obtain⟨x,hx⟩:=gW hl
  have hf:(match sq Z' G' e with|some xs=>decide (xs.length≤n)|none=>false)=true:=hf
  cases q:sq Z' G' e with
  | none=>rw [q] at hf;cases hf
  | some xs =>
   rw [q] at hf
   obtain⟨b',ys,e1,h1,r⟩:=oi (pO hx l s) (gX hl) q
   cases e1
   exact⟨ys,h1,by rw [r.len];exact of_decide_eq_true hf⟩
theorem Bd:oh K κ (λvs H R=>∃v,vs=[v]/\∃a,v=.ref a/\(∃xs,aP K H a xs)/\R (wQ K a) H) my:=by
 intro ι H σ Z G es vs w R a h k
 unfold my at h
 split at h
 ·rename_i e
  split at h
  ·rename_i hl
   cases q:sq Z G e with
   | none=>rw [q] at h;cases h
   | some xs =>
    rw [q] at h
    cases h
    obtain⟨v,rfl⟩:=bq a.len
    obtain⟨b,ys,e1,h1,r⟩:=oi a hl q
    subst e1
    exact⟨_,rfl,b,rfl,⟨ys,h1⟩,k _ (Bc hl)⟩
  ·cases h
 ·cases h
theorem Be:oh K κ (λvs H R=>∃v,vs=[v]/\∃a,v=.ref a/\(∃xs,aO K H a xs)/\R (wR K a) H) pN:=by
 intro ι H σ Z G es vs w R a h k
 unfold pN at h
 have go:∀{x:I} {xs:List I},(x=.tup xs∨x=.con xs)->Args K κ ι H σ Z G [.v (.im x)] vs->sq Z G (.v (.im x))=some xs->(∀J,Walks K κ J (tS [.v (.im x)] vs) (tD [.v (.im x)]) (bj (.v (.im x)) xs.length)->R J H) ->
   ∃v,vs=[v]/\∃a,v=.ref a/\(∃xs,aO K H a xs)/\R (wR K a) H:=λ{x xs} hx a hq k=>by
  have tv:∀{ι:List Addr} {H:Hp} {v:V},RpI K ι H v x->∃b ys,v=.ref b/\aO K H b ys/\y4c K ι H ys xs:=λr=>by
   rcases hx with rfl|rfl
   ·obtain⟨_,_,rfl,h,r9⟩:=fZ r
    exact⟨_,_,rfl,aO.of h,r9⟩
   ·obtain⟨_,_,rfl,h,r9⟩:=nL r
    exact⟨_,_,rfl,aO.kon h,r9⟩
  have sx:∀(Z:De) (G:List M),sq Z G (.v (.im x))=some xs:=λZ G=>by rcases hx with rfl|rfl<;>rfl
  obtain⟨v,rfl⟩:=bq a.len
  obtain⟨b,ys,e1,h1,r⟩:=tv (a.im (j:=0) rfl rfl)
  subst e1
  refine⟨_,rfl,b,rfl,⟨ys,h1⟩,k _ ⟨λ{i d ι' H' σ' Z' G'} hi hd l s=>?_,λ{ι' H' σ' Z' G'} hf l s=>?_⟩⟩
  ·obtain⟨b',zs,e2,h2,r2⟩:=tv ((pO rfl l s).im (j:=0) rfl rfl)
   cases e2
   have hd:(sq Z' G' (.v (.im x))).bind (·[i]?)=some d:=hd
   rw [sx] at hd
   have hd:xs[i]?=some d:=hd
   obtain⟨v,hv,rv⟩:=r2.get hd
   refine⟨⟨zs,v,h2,hv⟩,λx H' y=>?_⟩
   obtain⟨e2,e3⟩:=y
   subst e2
   have:=e3 zs h2
   rw [hv] at this;cases this
   exact⟨(λ_ _ h=>h),rv⟩
  ·obtain⟨b',zs,e2,h2,r2⟩:=tv ((pO rfl l s).im (j:=0) rfl rfl)
   cases e2
   exact⟨zs,h2,by rw [r2.len];exact z12 _⟩
 split at h
 ·cases h
  exact go (.inl rfl) a rfl k
 ·cases h
  exact go (.inr rfl) a rfl k
 ·cases h
end
end
section
section
noncomputable def mz:List Nat->Mo Unit
 | []=>rt ()
 | i::is=>λZ G=>match Z[i]? with
  | some (some (.ow m))=>mz is (Z.set i (some (.im (.ref G.length)))) (G++[m])
  | _=>mz is Z G
theorem Bf:∀{ix:List Nat} {Z Z':De} {G G':List M} {ι:List Addr} {u:Unit},mz ix Z G=some (u,Z',G')->SR K κ ι H σ Z G->∃ι',SR K κ ι' H σ Z' G'/\Step ι (own σ Z++ι) H ι' (own σ Z'++ι') H
 | [],_,_,_,_,ι,_,h,s=>by cases h;exact⟨ι,s,Step.refl _ _ _⟩
 | i::is,Z,Z',G,G',ι,u,h,s=>by
  unfold mz at h
  split at h
  ·rename_i m hm
   obtain⟨a,e1,r⟩:=s.y16a hm
   have n:=After.nil s
   have a1:After K κ σ ι (own σ Z++ι) H [.s i] Z G [.ref a] ι H:=⟨⟨s.len,n.ar.sr,.cons (λj h=>by cases h;exact e1) .nil⟩,n.st⟩
   have hb:mv (.s i) Z G=some (.v (.im (.ref G.length)),Z.set i (some (.im (.ref G.length))),G++[m]):=by unfold mv;dsimp only;rw [hm]
   obtain⟨ι2,a2⟩:=y5a a1 hb
   obtain⟨s2,st2⟩:=a2.drop
   obtain⟨ι3,s3,st3⟩:=Bf h s2
   exact⟨ι3,s3,st2.trans st3⟩
  ·exact Bf h s
noncomputable def gY(Z:De)(i:Nat):Option Vl:=match Z[i]? with
 | some (some (.im d))=>some (.im d)
 | _=>none
noncomputable def gZ(ix:List Nat)(Z:De):De:=ix.map (gY Z)
noncomputable def inV(ix:List Nat)(σ:St):St:=ix.map λi=>(σ[i]?).getD none
theorem mB(h:SR K κ ι H σ Z G):∀(ix:List Nat),Paired (RpE K κ ι H) (inV ix σ) (gZ ix Z)/\own (inV ix σ) (gZ ix Z)=[]
 | []=>⟨.nil,rfl⟩
 | i::ix=>by
  obtain⟨p,q⟩:=mB h ix
  have one:RpE K κ ι H ((σ[i]?).getD none) (gY Z i)/\aT ((σ[i]?).getD none) (gY Z i)=[]:=by
   unfold gY
   split
   ·rename_i d hd
    obtain⟨v,e,r⟩:=h.y168 hd
    rw [e]
    exact⟨.im r,eh _ _⟩
   ·exact⟨.no _,i6 _⟩
  refine⟨.cons one.1 p,?_⟩
  show aT _ _++own (inV ix σ) (gZ ix Z)=[]
  rw [one.2,q];rfl
theorem tq:∀{xs:List V} {ds:List I},y4c K ι H xs ds->Paired (RpE K κ ι H) (xs.map some) (ds.map λd=>some (Vl.im d))/\own (xs.map some) (ds.map λd=>some (Vl.im d))=[]
 | _,_,.nil=>⟨.nil,rfl⟩
 | _,_,.cons r rs=>by
  obtain⟨p,q⟩:=tq rs
  refine⟨.cons (.im r) p,?_⟩
  show aT _ _++own _ _=[]
  rw [eh,q];rfl
noncomputable def dI(w:Wk)(c:I->Option (List I))(tt:Mo Bool)(te:Mo Ev)(di:De):Nat->Nat->List I->De->List M->Option (List I×List M)
 | i,0,acc,Z,G=>if w.fin Z G then some (acc,G) else none
 | i,r+1,acc,Z,G=>match w.at_ i Z G with
  | some d=>match c d with
   | some ds=>match tt ((ds.map λd=>some (Vl.im d))++di) G with
    | some (true,Za,Ga)=>match te Za Ga with
     | some (.v (.im y),_,Gb)=>dI w c tt te di (i+1) r (acc++[y]) Z Gb
     | _=>none
    | some (false,_,Ga)=>dI w c tt te di (i+1) r acc Z Ga
    | none=>none
   | none=>none
  | none=>none
noncomputable def Bg(K:W.Frag)(g:TG)(n:Nat)(c:I->Option (List I)):Prop:=∀(ι:List Addr) (H:Hp) (x:V) (d:I) (ds:List I) (σ':St) (Q:St->Hp->Prop),RpI K ι H x d->c d=some ds ->
 ds.length=n/\((∀xs,y4c K ι H xs ds->Q (xs.map some++σ') H)->g x (List.replicate n none++σ') H Q)
noncomputable def c1:I->Option (List I):=λd=>some [d]
noncomputable def cN(n:Nat):I->Option (List I):=λd=>match d with
 | .tup ds=>if ds.length=n then some ds else none
 | _=>none
theorem tu:Bg K (gK 0) 1 c1:=by
 intro ι H x d ds σ' Q r h
 cases h
 exact⟨rfl,λk=>k [x] (.cons r .nil)⟩
theorem tw:∀(vs:List V) (pre:St) (σ':St) (Q:St->Hp->Prop),Q (pre++(vs.map some++σ')) H->gh ((List.range vs.length).map (pre.length + ·)) vs (pre++(List.replicate vs.length none++σ')) H Q
 | [],pre,σ',Q,h=>⟨rfl,h⟩
 | v::vs,pre,σ',Q,h=>by
  have e:(List.range (v::vs).length).map (pre.length + ·)=pre.length::(List.range vs.length).map ((pre++[some v]).length + ·):=by
   rw [z29,List.range_succ_eq_map,z15,z39]
   congr 1
   refine List.map_congr_left λj _=>?_
   simp
   lia
  rw [e]
  refine⟨v,vs,rfl,?_⟩
  show gh _ vs ((pre++(List.replicate (vs.length+1) none++σ')).set pre.length (some v)) H Q
  have e2:(pre++(List.replicate (vs.length+1) none++σ')).set pre.length (some v)=(pre++[some v])++(List.replicate vs.length none++σ'):=by
   rw [List.set_append_right _ _ (z12 _),Nat.sub_self,List.replicate_succ]
   simp
  rw [e2]
  refine tw vs (pre++[some v]) σ' Q ?_
  have e3:pre++[some v]++(vs.map some++σ')=pre++((v::vs).map some++σ'):=by simp
  rw [e3]
  exact h
theorem tx(n:Nat):Bg K (j4 K n (gh (List.range n))) n (cN n):=by
 intro ι H x d ds σ' Q r h
 unfold cN at h
 split at h
 ·rename_i xs
  split at h
  ·rename_i hl
   cases h
   refine⟨hl,λk=>?_⟩
   cases r with
   | @tup a ys _ h1 r =>
    have e:=r.len
    refine⟨a,ys,rfl,aO.of h1,by lia,?_⟩
    have q:=tw (H:=H) ys [] σ' Q (k ys r)
    have e1:(List.range ys.length).map (([]:St).length + ·)=List.range n:=by
     rw [e,hl];simp
    rw [e1] at q
    have e2:n=ys.length:=by lia
    rw [e2]
    rw [<- e2] at q ⊢
    exact q
  ·cases h
 ·cases h
noncomputable def c7(fi:IF)(ix:List Nat)(c:I->Option (List I))(tt:Mo Bool)(te:Mo Ev):Mo Ev:=λZ G=>match mz ix Z G with
 | some (_,Z0,G0)=>match fi Z0 G0 with
  | some (w,_,Z1,G1)=>if w.n≤100000 then match dI w c tt te (gZ ix Z1) 0 w.n [] Z1 G1 with
   | some (ds,G2)=>some (.v (.ow (.lst ds)),Z1,G2)
   | none=>none
   else none
  | none=>none
 | none=>none
theorem Bh:100000<sizeLine:=by decide
theorem oj    (hg:∀z,Bg K (g z) n c)(h:aK K κ (c7 fi ix c tt te) σ H Q) :
  nG n ix (oa K κ fi) g (λ_=>cH K κ tt) (λ_=>aK K κ te) σ H Q:=by
 obtain⟨ι,Z,G,e,Z',G',s,eq,k⟩:=h
 unfold c7 at eq
 split at eq
 ·rename_i u Z0 G0 e0
  split at eq
  ·rename_i w es Z1 G1 e1
   split at eq
   ·rename_i hn
    split at eq
    ·rename_i ds G2 e2
     obtain⟨ι0,s0,st0⟩:=Bf e0 s
     refine⟨ι0,Z0,G0,w,es,Z1,G1,s0,e1,λJ vs ι1 H1 a wk=>?_⟩
     intro D hD
     have lo:(σ++tS es vs).length=(Z1++tD es).length:=by
      have:=a.ar.sr.len;exact this
     refine⟨λi m ys H'=>i+m=w.n/\H' D=some (.lst ys)/\∃ι' G' acc,SR K κ ι' H' ((σ++tS es vs)++[some (.ref D)]) ((Z1++tD es)++[some (.ow (.lst acc))]) G' /\
      Step ι (own σ Z++ι) H ι' (own ((σ++tS es vs)++[some (.ref D)]) ((Z1++tD es)++[some (.ow (.lst acc))])++ι') H'/\acc.length≤i/\acc.length=ys.length/\dI w c tt te (gZ ix Z1) i m acc Z1 G'=some (ds,G2),⟨w.n,by lia,aJ,ι1,G1,[],?_,?_,z12 _,rfl,e2⟩,?_⟩
     ·exact a.ar.sr.y364 hD ⟨[],aJ,.nil⟩
     ·exact (st0.trans a.st).trans (Step.y1f9 lo hD)
     ·rintro i m ys H' ⟨him,hys,ι',G',acc,s',st,hac,hay,et⟩
      refine⟨hys,?_⟩
      have sb:=s'.pop lo
      cases m with
      | zero =>
       unfold dI at et
       split at et
       ·rename_i hf
        cases et
        have hi:i=w.n:=by lia
        subst hi
        refine .inl ⟨wk.stop hf a.ar.l sb,?_⟩
        have l1:=a.ar.l
        obtain⟨pa,pc⟩:=bQ lo s'.sl
        obtain⟨pa,pb⟩:=bQ l1 pa
        have lt:=Paired.length pb
        have e3:own ((σ++tS es vs)++[some (.ref D)]) ((Z1++tD es)++[some (.ow (.lst ds))])=own σ Z1++own (tS es vs) (tD es)++[D]:=by rw [ez lo,bz _ _ l1]
        have e4:own (σ++[some (.ref D)]) (Z1++[some (.ow (.lst ds))])=own σ Z1++[D]:=ez l1
        refine k _ ι' H' (bp eq ⟨⟨l1,⟨cM pa pc,s'.gs,λx=>?_⟩,.cons (λ_ h=>by cases h) .nil⟩,st.sub λx hx=>?_⟩)
        ·have n':=s'.nd x
         rw [e3] at n'
         show aQ x (own (σ++[some (.ref D)]) (Z1++[some (.ow (.lst ds))]))+aQ x ι'≤1
         rw [e4]
         simp only [aQ,z23] at n' ⊢
         lia
        ·have hx:x∈own (σ++[some (.ref D)]) (Z1++[some (.ow (.lst ds))])++ι':=hx
         rw [e4] at hx
         rw [e3]
         simp only [z1d] at hx ⊢
         rcases hx with (hx|hx)|hx
         ·exact .inl (.inl (.inl hx))
         ·exact .inl (.inr hx)
         ·exact .inr hx
       ·cases et
      | succ m =>
       unfold dI at et
       split at et
       ·rename_i d hd
        obtain⟨go,yl⟩:=wk.go (by lia) hd a.ar.l sb
        refine .inr ⟨go,by have:=Bh;lia,λys' H5=>i+1+m=w.n/\H5 D=some (.lst ys')/\∃ι5 G5 y56,SR K κ ι5 H5 ((σ++tS es vs)++[some (.ref D)]) ((Z1++tD es)++[some (.ow (.lst y56))]) G5 /\
         Step ι (own σ Z++ι) H ι5 (own ((σ++tS es vs)++[some (.ref D)]) ((Z1++tD es)++[some (.ow (.lst y56))])++ι5) H5/\y56.length≤i+1/\y56.length=ys'.length/\dI w c tt te (gZ ix Z1) (i+1) m y56 Z1 G5=some (ds,G2),λys' H5 q=>⟨m,z34 _,q⟩,λx H3 hy z=>?_⟩
        obtain⟨sm,rx⟩:=yl x H3 hy
        split at et
        ·rename_i dd hc
         obtain⟨hl,tg⟩:=hg z ι' H3 x d dd (inV ix σ) _ rx hc
         refine tg λxs rs=>?_
         have s3:=s'.same sm
         have st3:=st.trans (Step.same (ι:=ι') (fp:=own ((σ++tS es vs)++[some (.ref D)]) ((Z1++tD es)++[some (.ow (.lst acc))])++ι') sm)
         obtain⟨p1,o1⟩:=tq (κ:=κ) rs
         obtain⟨p2,o2⟩:=mB ((s3.pop lo).pop a.ar.l) ix
         have lx:=Paired.length p1
         have oin:own (xs.map some++inV ix σ) (dd.map (λd=>some (Vl.im d))++gZ ix Z1)=[]:=by rw [bz _ _ lx,o1,o2];rfl
         have sin:SR K κ ι' H3 (xs.map some++inV ix σ) (dd.map (λd=>some (Vl.im d))++gZ ix Z1) G':=⟨cM p1 p2,s3.gs,λy=>by
          rw [oin];have:=s3.nd y;simp only [aQ,List.count_nil] at *;lia⟩
         have lin:=sin.len
         have both:SR K κ ι' H3 ((xs.map some++inV ix σ)++((σ++tS es vs)++[some (.ref D)])) ((dd.map (λd=>some (Vl.im d))++gZ ix Z1)++((Z1++tD es)++[some (.ow (.lst acc))])) G':=⟨cM sin.sl s3.sl,s3.gs,λy=>by
          rw [bz _ _ lin,oin];have:=s3.nd y;simpa using this⟩
         have kn:y3b n ix σ (xs.map some++inV ix σ):=by
          have lxs:xs.length=n:=by rw [z24,z24] at lx;lia
          refine⟨by rw [z17,z24];unfold inV;rw [z24,lxs],λj v hj=>?_⟩
          unfold cL at hj
          by_cases hjn:j<n
          ·rw [z21 (by simpa using hjn),List.getElem?_replicate,if_pos hjn] at hj
           cases hj
          ·rw [z25 (by simp;lia)] at hj
           rw [z25 (by simp;lia)]
           simp only [List.length_replicate,z24,lxs] at hj ⊢
           exact hj
         refine⟨kn,?_⟩
         have jn:∀{σ5:St} {Z5:De} {θ5:De} {τ5:St} {G5:List M} {ι5:List Addr} {H5:Hp},σ5.length=Z5.length->SR K κ ι5 H5 (σ5++τ5) (Z5++θ5) G5->Step ι' (own (xs.map some++inV ix σ) (dd.map (λd=>some (Vl.im d))++gZ ix Z1)++ι') H3 ι5 (own (σ5++τ5) (Z5++θ5)++ι5) H5 ->
           SR K κ ι5 H5 (((σ++tS es vs)++[some (.ref D)])++τ5) (((Z1++tD es)++[some (.ow (.lst acc))])++θ5) G5/\Step ι (own σ Z++ι) H ι5 (own (((σ++tS es vs)++[some (.ref D)])++τ5) (((Z1++tD es)++[some (.ow (.lst acc))])++θ5)++ι5) H5/\H5 D=some (.lst ys):=λ{σ5 Z5 θ5 τ5 G5 ι5 H5} l5 s5 st5=>by
          obtain⟨j1,j2⟩:=SR.join both lin s5 l5 st5
          have lT:((σ++tS es vs)++[some (V.ref D)]).length=((Z1++tD es)++[some (Vl.ow (.lst acc))]).length:=s3.len
          have lj:(((σ++tS es vs)++[some (V.ref D)])++τ5).length=(((Z1++tD es)++[some (Vl.ow (.lst acc))])++θ5).length:=by
           have:=j1.len;rw [z17,z17 (as:=Z5)] at this;lia
          refine⟨(j1.swap l5).pop lj,?_,?_⟩
          ·refine (st3.trans (j2.wide λy hy=>?_)).sub λy hy=>?_
           ·rw [bz _ _ lin,oin] at hy;exact hy
           ·exact ff (σ:=σ5) (Z:=Z5) l5 lj (b7 lj hy)
          ·have q:=sm _ _ hys
           refine st5.keep D _ q λhm=>?_
           rw [oin] at hm
           have n':=s3.nd D
           rw [ez lo] at n'
           have:=eS.mp (show D∈ι' from hm)
           have c1:List.count D [D]=1:=by simp
           simp only [aQ,z23] at *
           lia
         split at et
         ·rename_i Za Ga ea
          refine⟨ι',_,G',true,Za,Ga,sin,ea,λι4 H4 s4 st4=>?_⟩
          dsimp only
          rw [if_pos rfl]
          split at et
          ·rename_i y Zb Gb eb
           refine⟨ι4,Za,Ga,_,Zb,Gb,s4,eb,λyv ι5 H5 a5=>?_⟩
           obtain⟨j1,j2,j3⟩:=jn a5.ar.l a5.ar.sr (st4.trans a5.st)
           refine⟨j3,by lia,aJ,ι5,Gb,acc++[y],?_⟩
           have ry:RpI K ι5 H5 yv y:=a5.ar.im (j:=0) rfl rfl
           have lT:((σ++tS es vs)++[some (V.ref D)]).length=((Z1++tD es)++[some (Vl.ow (.lst acc))]).length:=s3.len
           have s6:=j1.pop lT
           have i1:((σ++tS es vs)++[some (V.ref D)])[(σ++tS es vs).length]?=some (some (.ref D)):=by rw [z25 (z12 _),Nat.sub_self];rfl
           have i2:((Z1++tD es)++[some (Vl.ow (.lst acc))])[(σ++tS es vs).length]?=some (some (.ow (.lst acc))):=by rw [lo,z25 (z12 _),Nat.sub_self];rfl
           obtain⟨q1,q2⟩:=s6.poke i1 i2 (m':=.lst (acc++[y])) (o:=.lst (ys++[yv])) (λρ kp=>by
            obtain⟨zs,h1,h2⟩:=ρ
            rw [j3] at h1;cases h1
            exact⟨_,aJ,(h2.app (.cons ry .nil)).mono (bo.refl _) kp⟩)
           have e5:((Z1++tD es)++[some (Vl.ow (.lst acc))]).set (σ++tS es vs).length (some (.ow (.lst (acc++[y]))))=(Z1++tD es)++[some (.ow (.lst (acc++[y])))]:=by rw [lo,List.set_append_right _ _ (z12 _),Nat.sub_self];rfl
           rw [e5] at q1 q2
           refine⟨q1,(j2.sub λw hw=>b7 lT hw).trans q2,by rw [z17];simp;lia,by rw [z17,z17];simp;lia,et⟩
          ·cases et
         ·rename_i Za Ga ea
          refine⟨ι',_,G',false,Za,Ga,sin,ea,λι4 H4 s4 st4=>?_⟩
          dsimp only
          rw [if_neg z18]
          have s4':SR K κ ι4 H4 ((xs.map some++inV ix σ)++[]) (Za++[]) Ga:=by rw [z1a,z1a];exact s4
          obtain⟨j1,j2,j3⟩:=jn (τ5:=[]) (θ5:=[]) s4.len s4' (by rw [z1a,z1a];exact st4)
          rw [z1a,z1a] at j1 j2
          exact⟨by lia,j3,ι4,Ga,acc,j1,j2,by lia,hay,et⟩
         ·cases et
        ·cases et
       ·cases et
    ·cases eq
   ·cases eq
  ·cases eq
 ·cases eq
end
end
section
section
variable {κ:Str->Addr}
theorem tE{κ':Type}[BEq κ']{f:κ'}:∀{ws:List (κ'×V)} {fs:List (κ'×I)} {d:I},ws.map (·.1)=fs.map (·.1)->y4c K ι H (ws.map (·.2)) (fs.map (·.2))->fs.lookup f=some d->∃v,ws.lookup f=some v/\RpI K ι H v d
 | [],[],_,_,_,h=>by cases h
 | [],_::_,_,e,_,_=>by cases e
 | _::_,[],_,e,_,_=>by cases e
 | (g,v)::ws,(g',d0)::fs,d,e,r,h=>by
  simp only [z15,List.cons.injEq] at e
  obtain⟨e1,e2⟩:=e
  subst e1
  cases r with
  | cons r rs =>
   rw [List.lookup_cons] at h ⊢
   cases q:(f == g) with
   | true=>rw [q] at h;cases h;exact⟨v,rfl,r⟩
   | false=>rw [q] at h;exact tE e2 rs h
theorem tF{κ':Type}[BEq κ']{f:κ'}:∀{ws:List (κ'×V)} {fs:List (κ'×I)},ws.map (·.1)=fs.map (·.1)->fs.lookup f=none->ws.lookup f=none
 | [],[],_,_=>rfl
 | [],_::_,e,_=>by cases e
 | _::_,[],e,_=>by cases e
 | (g,v)::ws,(g',d0)::fs,e,h=>by
  simp only [z15,List.cons.injEq] at e
  obtain⟨e1,e2⟩:=e
  subst e1
  rw [List.lookup_cons] at h ⊢
  cases q:(f == g) with
  | true=>rw [q] at h;cases h
  | false=>rw [q] at h;exact tF e2 h
noncomputable def gi(f:Str)(d:I):List (Str×I)->List (Str×I)
 | []=>[(f,d)]
 | (g,x)::r=>if g=f then (g,d)::r else (g,x)::gi f d r
theorem tG (rv:RpI K ι H v d):∀{ws:List (Str×V)} {fs:List (Str×I)},ws.map (·.1)=fs.map (·.1)->y4c K ι H (ws.map (·.2)) (fs.map (·.2)) ->
  (bP f v ws).map (·.1)=(gi f d fs).map (·.1)/\y4c K ι H ((bP f v ws).map (·.2)) ((gi f d fs).map (·.2))
 | [],[],_,_=>⟨rfl,.cons rv .nil⟩
 | [],_::_,e,_=>by cases e
 | _::_,[],e,_=>by cases e
 | (g,u)::ws,(g',d0)::fs,e,r=>by
  simp only [z15,List.cons.injEq] at e
  obtain⟨e1,e2⟩:=e
  subst e1
  cases r with
  | cons r rs =>
   unfold bP gi
   by_cases q:g=f
   ·rw [if_pos q,if_pos q]
    exact⟨by simp [e2],.cons rv rs⟩
   ·rw [if_neg q,if_neg q]
    obtain⟨p1,p2⟩:=tG rv e2 rs
    exact⟨by simp [p1],.cons r p2⟩
noncomputable def cq(c f:Str):List Ev->Mo Ev:=λes Z G=>match es with
 | [.v (.im (.ref k))]=>match G[k]? with
  | some (.obj c' fs)=>if c'=c then match fs.lookup f with
   | some d=>some (.v (.im d),Z,G)
   | none=>none
   else none
  | _=>none
 | _=>none
theorem Bi(hc:Cls K (κ c))(hn:gE K (κ c) f):aw K κ (r1 λx H1 Q=>∃a C dx fs v,x=.ref a/\H1 a=some (.ins C dx fs)/\Cls K C/\gE K C f/\fs.lookup f=some v/\Q v H1) (cq c f):=by
 intro ι H σ Z G es vs e Z' G' Q a h k
 unfold cq at h
 split at h
 ·rename_i n
  split at h
  ·rename_i c' fs hg
   split at h
   ·rename_i ec
    subst ec
    split at h
    ·rename_i d hd
     obtain⟨v,rfl⟩:=bq a.len
     have r:=a.im (j:=0) rfl rfl
     cases r with
     | @ref b _ e1 =>
      obtain⟨b',e2,dx,ws,h1,h2,h3⟩:=a.base.y167 hg
      rw [e1] at e2;cases e2
      obtain⟨v,hv,rv⟩:=tE h2 h3 hd
      exact⟨_,rfl,b,_,dx,ws,v,rfl,h1,hc,hn,hv,k _ _ _ (bp h (a8 a rv))⟩
    ·cases h
   ·cases h
  ·cases h
 ·cases h
theorem Bj (hc:Cls K (κ c))(hn:gE K (κ c) f)(h:aK K κ (bS (cq c f) fo) σ H Q):qN K (aK K κ fo) f σ H Q:=gg (Bi hc hn) h
noncomputable def g0(c f:Str)(fo fv:Mo Ev):SF:=λZ G=>match fv Z G with
 | some (.v (.im d),Z1,G1)=>match fo Z1 G1 with
  | some (.v (.im (.ref k)),Z2,G2)=>match G2[k]? with
   | some (.obj c' fs)=>if c'=c/\fs.length<1000 then some (.nx Z2 (G2.set k (.obj c (gi f d fs)))) else none
   | _=>none
  | _=>none
 | _=>none
theorem Bk (hc:Cls K (κ c))(hn:gE K (κ c) f)(h:cA K κ (g0 c f fo fv) D σ H):qO K (aK K κ fo) (aK K κ fv) f D σ H:=by
 obtain⟨ι,Z,G,fl,s,eq,k⟩:=h
 unfold g0 at eq
 split at eq
 ·rename_i d Z1 G1 e1
  split at eq
  ·rename_i n Z2 G2 e2
   split at eq
   ·rename_i c' fs hg
    split at eq
    ·rename_i hcl
     obtain⟨ec,hl⟩:=hcl
     subst ec
     cases eq
     refine⟨ι,Z,G,_,Z1,G1,s,e1,λv ι1 H1 a1=>?_⟩
     refine⟨ι1,Z1,G1,_,Z2,G2,a1.ar.base,e2,λx ι2 H2 a2=>?_⟩
     have a:=a1.app a2
     have rv:=a.ar.im (j:=0) rfl rfl
     have rx:=a.ar.im (j:=1) rfl rfl
     cases rx with
     | @ref b _ eb =>
      obtain⟨b',e3,dx,ws,h1,h2,h3⟩:=a.ar.base.y167 hg
      rw [eb] at e3;cases e3
      have hlw:ws.length<1000:=by have:=congrArg List.length h2;simp at this;lia
      refine⟨b,_,dx,ws,rfl,h1,hc,hn,hlw,?_⟩
      obtain⟨p,q⟩:=a.ar.base.y315 eb hg (m':=.obj c' (gi f d fs)) (λ_ kp=>by
       obtain⟨p1,p2⟩:=tG rv h2 h3
       exact⟨dx,_,aJ,p1,p2.mono (bo.refl _) kp⟩)
      exact k _ _ _ p ((a.st.sub λy hy=>b7 a.ar.l hy).trans q)
    ·cases eq
   ·cases eq
  ·cases eq
 ·cases eq
noncomputable def bI(c m:Str)(n:Nat)(fn:FF)(fo:Mo Ev)(fa:Mo (List Ev)):Mo Ev:=bd fo λe=>λZ G=>match e with
 | .v (.im (.ref k))=>match G[k]? with
  | some (.obj c' fs)=>if c'=c/\(fs.lookup m).isNone then bd fa (λes=>bf n fn (.v (.im (.ref k))::es)) Z G else none
  | _=>none
 | _=>none
theorem Bl   (h:aK K κ (bI c m n fn fo fa) σ H Q):qQ (κ c) m (aR K κ n fn) [] E (aK K κ fo) (gG K κ fa) σ H Q:=by
 obtain⟨ι,Z,G,e,Z',G',s,eq,k⟩:=h
 obtain⟨x,Z1,G1,e1,eq2⟩:=bH eq
 clear eq
 split at eq2
 ·rename_i kk
  split at eq2
  ·rename_i c' fs hg
   split at eq2
   ·rename_i hcl
    obtain⟨ec,hl⟩:=hcl
    subst ec
    obtain⟨ys,Z2,G2,e2,eq3⟩:=bH eq2
    refine⟨ι,Z,G,_,Z1,G1,s,e1,λv ι1 H1 a1=>?_⟩
    have rx:=a1.ar.im (j:=0) rfl rfl
    cases rx with
    | @ref b _ eb =>
     obtain⟨b',e3,dx,ws,h1,h2,h3⟩:=a1.ar.base.y167 hg
     rw [eb] at e3;cases e3
     refine⟨b,dx,ws,rfl,h1,tF h2 (Option.isNone_iff_eq_none.mp hl),?_⟩
     refine⟨ι1,Z1,G1,ys,Z2,G2,a1.ar.base,e2,λvs ι2 H2 a2=>?_⟩
     have a:=a1.app a2
     dsimp only
     rw [z1a]
     exact sZ _ _ _ _ _ _ _ _ _ _ Q a.ar eq3 λv ι3 H3 d=>k _ _ _ (a.then d)
   ·cases eq2
  ·cases eq2
 ·cases eq2
noncomputable def ja(c:Str)(n:Nat)(fn:FF):List Ev->Mo Ev:=λes Z G=>match mx es with
 | some xs=>if xs.length+1=n then match fn (.im (.ref G.length)::xs) (G++[.obj c []]) with
  | some (.im .non,G')=>some (.v (.im (.ref G.length)),Z,G')
  | _=>none
  else none
 | none=>none
theorem Bm   : aw K κ (λvs H1 Q=>∀x dx,H1 x=none->H1 dx=none->dx≠x ->
  aR K κ n fn (.ref x::(vs++[])) (ax (ax H1 dx (.own x)) x (.ins (κ c) dx [])) (λv H2=>v=.non/\Q (.ref x) H2) E) (ja c n fn):=by
 intro ι H σ Z G es vs e Z' G' Q a h k x dx hx hdx ndx
 unfold ja at h
 split at h
 ·rename_i xs hxs
  split at h
  ·rename_i hl
   split at h
   ·rename_i G1 e1
    cases h
    rw [z1a]
    obtain⟨t1,t2⟩:=og hxs a.len
    have sr:=a.sr
    rw [t1,t2] at sr k
    have lt:(vs.map some).length=(xs.map some).length:=Paired.length (bQ a.l sr.sl).2
    have hx1:(ax H dx (.own x)) x=none:=by rw [ay (Ne.symm ndx)];exact hx
    have sm1:cU H (ax H dx (.own x)):=cU.lay hdx
    have sm2:cU (ax H dx (.own x)) (ax (ax H dx (.own x)) x (.ins (κ c) dx [])):=cU.lay hx1
    have s1:=sr.same sm1
    have s2:=s1.y364 (m:=.obj c []) hx1 ⟨dx,[],aJ,rfl,.nil⟩
    obtain⟨s3,r3,q3⟩:=s2.box s1.len
    have s4:SR K κ (ι++[x]) (ax (ax H dx (.own x)) x (.ins (κ c) dx [])) (((V.ref x::vs).map some)++σ) (((Vl.im (.ref G.length)::xs).map some)++Z) (G++[.obj c []]):=by
     have q:=(s3.swap a.l)
     refine⟨.cons (.im r3) q.sl,q.gs,λy=>?_⟩
     have:=q.nd y
     show aQ y (aT _ _++own (vs.map some++σ) (xs.map some++Z))+_≤1
     rw [eh]
     exact this
    have l4:((V.ref x::vs).map some).length=((Vl.im (.ref G.length)::xs).map some).length:=by simpa using lt
    refine⟨ι++[x],.im (.ref G.length)::xs,G++[.obj c []],.im .non,_,by simpa using hl,s4.pop l4,e1,λv ι' H' s st=>?_⟩
    have rv:RpI K ι' H' v .non:=by
     have:=s.sl
     cases this with
     | cons q _=>cases q with
      | im q=>exact q
    cases i5 (rv)
    refine⟨rfl,?_⟩
    have s':SR K κ ι' H' ([some V.non]++[]) ([some (Vl.im .non)]++[]) _:=s
    obtain⟨j1,j2⟩:=SR.join (Z1:=(Vl.im (.ref G.length)::xs).map some) (Z2:=[some (Vl.im .non)]) s4 l4 s' rfl st
    rw [z1a,z1a] at j1 j2
    have jb:=(j1.swap rfl).pop a.l
    have rx:RpI K ι' H' (.ref x) (.ref G.length):=r3.mono st.pre st.kp
    have stt:Step ι (own (σ++vs.map some) (Z++xs.map some)++ι) H ι' (own σ Z++ι') H':=by
     have b1:Step ι (own (σ++vs.map some) (Z++xs.map some)++ι) H ι (own (σ++vs.map some) (Z++xs.map some)++ι) (ax H dx (.own x)):=Step.same sm1
     have b2:=Step.y1f9 (ι:=ι) (o:=.ins (κ c) dx []) (m:=.obj c []) s1.len hx1
     have b3:=q3
     refine ((b1.trans (b2.trans b3)).trans (j2.wide λy hy=>?_)).sub λy hy=>?_
     ·have hy:y∈(aT _ _++own (vs.map some++σ) (xs.map some++Z))++(ι++[x]):=hy
      rw [eh] at hy
      exact ff a.l lt hy
     ·exact ff (σ:=[some V.non]) (Z:=[some (Vl.im .non)]) rfl a.l (b7 a.l hy) |> λz=>by
       have z:=ff (Z:=Z) a.l rfl (ff (σ:=[some V.non]) (Z:=[some (Vl.im .non)]) (τ:=σ) (θ:=Z) rfl a.l (b7 a.l hy))
       exact ff (σ:=[some V.non]) (Z:=[some (Vl.im .non)]) (τ:=σ) (θ:=Z) rfl a.l z
    refine k _ ι' H' ⟨⟨a.l,jb.push_im rx,.cons (λ_ h=>by cases h) .nil⟩,stt.sub λy hy=>?_⟩
    have hy:y∈own (σ++[some (V.ref x)]) (Z++[some (Vl.im (.ref G.length))])++ι':=hy
    rw [cO a.l] at hy
    exact hy
   ·cases h
  ·cases h
 ·cases h
end
end
end B
namespace B
open PySem PySem.Spec PyProof.Rows L2
section
section
variable {X:Cx}{e:Expr}{es:List Expr}{st:Stmt}{sts:List Stmt}
theorem aH(h:PE X e t)(k:∀σ H Q,t' σ H Q->t σ H Q):PE X e t':=λpins s σ H Q I q=>h pins s σ H Q I (k σ H Q q)
theorem jc(h:PT X e t)(k:∀σ H Q,t' σ H Q->t σ H Q):PT X e t':=λpins s σ H Q I q=>h pins s σ H Q I (k σ H Q q)
theorem jd(h:PW X e t)(k:∀σ H Q,t' σ H Q->t σ H Q):PW X e t':=λw pins s σ H Q I q=>h w pins s σ H Q I (k σ H Q q)
theorem tH(h:PA X es t)(k:∀σ H Q,t' σ H Q->t σ H Q):PA X es t':=λpos pins s σ H Q I q=>h pos pins s σ H Q I (k σ H Q q)
theorem c8{t t':TS}(h:PS X st t)(k:∀D σ H,t' D σ H->t D σ H):PS X st t':=λpins s σ H D I q=>h pins s σ H D I (k D σ H q)
theorem tI(h:dY X sts t)(k:∀D σ H,t' D σ H->t D σ H):dY X sts t':=λpins s σ H D I q=>h pins s σ H D I (k D σ H q)
theorem je (h:PI X tg iter t)(k:∀σ H R,t' σ H R->t σ H R):PI X tg iter t':=λpins s σ H R I q=>h pins s σ H R I (k σ H R q)
theorem tJ (h:PG X tg t)(k:∀v σ H Q,t' v σ H Q->t v σ H Q):PG X tg t':=λpins s σ H v u Q I r q=>h pins s σ H v u Q I r (k v σ H Q q)
theorem mT(h:PE X e t)(h':PE X e t'):PE X e (λσ H Q=>t σ H Q∨t' σ H Q):=λpins s σ H Q I q=>q.elim (h pins s σ H Q I) (h' pins s σ H Q I)
theorem tK(h:PT X e t)(h':PT X e t'):PT X e (λσ H Q=>t σ H Q∨t' σ H Q):=λpins s σ H Q I q=>q.elim (h pins s σ H Q I) (h' pins s σ H Q I)
theorem tL{t t':TS}(h:PS X st t)(h':PS X st t'):PS X st (λD σ H=>t D σ H∨t' D σ H):=λpins s σ H D I q=>q.elim (h pins s σ H D I) (h' pins s σ H D I)
theorem tM (h:PI X tg iter t)(h':PI X tg iter t'):PI X tg iter (λσ H R=>t σ H R∨t' σ H R):=λpins s σ H R I q=>q.elim (h pins s σ H R I) (h' pins s σ H R I)
end
section
variable {X:Cx}{κ:Str->Addr}{a b c:Expr}{fa fb fv:Mo Ev}{fc fd:Mo Bool}{fs:Mo (List Ev)}{es:List Expr}{pos:Pos}
@[irreducible] noncomputable def LE(X:Cx)(κ:Str->Addr)(e:Expr)(f:Mo Ev):Prop:=PE X e (aK X.K κ f)
theorem LE.mk  (h:PE X e (aK X.K κ f)):LE X κ e f:=by unfold LE;exact h
theorem LE.pe  (h:LE X κ e f):PE X e (aK X.K κ f):=by unfold LE at h;exact h
@[irreducible] noncomputable def LT(X:Cx)(κ:Str->Addr)(e:Expr)(f:Mo Bool):Prop:=PT X e (cH X.K κ f)
theorem LT.mk  (h:PT X e (cH X.K κ f)):LT X κ e f:=by unfold LT;exact h
theorem LT.pe  (h:LT X κ e f):PT X e (cH X.K κ f):=by unfold LT at h;exact h
@[irreducible] noncomputable def LW(X:Cx)(κ:Str->Addr)(e:Expr)(f:Mo Bool):Prop:=PW X e (cH X.K κ f)
theorem LW.mk  (h:PW X e (cH X.K κ f)):LW X κ e f:=by unfold LW;exact h
theorem LW.pe  (h:LW X κ e f):PW X e (cH X.K κ f):=by unfold LW at h;exact h
@[irreducible] noncomputable def LA(X:Cx)(κ:Str->Addr)(es:List Expr)(f:Mo (List Ev)):Prop:=PA X es (gG X.K κ f)
theorem LA.mk  (h:PA X es (gG X.K κ f)):LA X κ es f:=by unfold LA;exact h
theorem LA.pe  (h:LA X κ es f):PA X es (gG X.K κ f):=by unfold LA at h;exact h
@[irreducible] noncomputable def LS(X:Cx)(κ:Str->Addr)(s:Stmt)(f:SF):Prop:=PS X s (cA X.K κ f)
theorem LS.mk  (h:PS X s (cA X.K κ f)):LS X κ s f:=by unfold LS;exact h
theorem LS.pe  (h:LS X κ s f):PS X s (cA X.K κ f):=by unfold LS at h;exact h
@[irreducible] noncomputable def fS(X:Cx)(κ:Str->Addr)(s:List Stmt)(f:SF):Prop:=dY X s (cA X.K κ f)
theorem fS.mk  (h:dY X s (cA X.K κ f)):fS X κ s f:=by unfold fS;exact h
theorem fS.pe  (h:fS X κ s f):dY X s (cA X.K κ f):=by unfold fS at h;exact h
@[irreducible] noncomputable def LI(X:Cx)(κ:Str->Addr)(tg e:Expr)(f:IF):Prop:=PI X tg e (oa X.K κ f)
theorem LI.mk  (h:PI X tg e (oa X.K κ f)):LI X κ tg e f:=by unfold LI;exact h
theorem LI.pe  (h:LI X κ tg e f):PI X tg e (oa X.K κ f):=by unfold LI at h;exact h
@[irreducible] noncomputable def LG(X:Cx)(κ:Str->Addr)(tg:Expr)(f:GF):Prop:=PG X tg (mw X.K κ f)
theorem LG.mk  (h:PG X tg (mw X.K κ f)):LG X κ tg f:=by unfold LG;exact h
theorem LG.pe  (h:LG X κ tg f):PG X tg (mw X.K κ f):=by unfold LG at h;exact h
theorem ab(i:Nat)(hN:X.N[i]?=some x:=by rfl)(hv:xE X.env.scope x:=by first|exact Or.inl rfl|exact Or.inr (Or.inl rfl)|exact Or.inr (Or.inr rfl))(hd:(x == ("__debug__" : Str))=false:=by decide)
  (hcd:(x == ("__classdict__" : Str))=false:=by decide):LE X κ (.Name x pos) (aa i):=.mk (aH (xG hN hv hd hcd) λ_ _ _=>AK)
theorem aj{j pos}:LE X κ (.Constant (.int i) j pos) (ao (.int i)):=.mk (aH mP λ_ _ _=>i8 λ_ _=>.int _)
theorem tN{j pos}:LE X κ (.Constant (.bool i) j pos) (ao (.bl i)):=.mk (aH p5 λ_ _ _=>i8 λ_ _=>.bl _)
theorem g8{j pos}:LE X κ (.Constant .none j pos) (ao .non):=.mk (aH xH λ_ _ _=>i8 λ_ _=>.non)
theorem b5{j pos}:LE X κ (.Constant (.str x) j pos) (ao (.str x)):=.mk (aH xI λ_ _ _=>i8 λ_ _=>.str _)
theorem Bn  (hg:Gl X x)(hm:X.mg x=some u)(r:au v u)(rd:∀ι H,RpI X.K ι H v d)(hd:(x == ("__debug__" : Str))=false:=by decide):LE X κ (.Name x pos) (ao d):=.mk (aH (xJ hg hm r hd) λ_ _ _=>i8 rd)
theorem fg(h:LE X κ a fa):LE X κ a (c6 fa):=.mk (aH h.pe λ_ _ _=>AL)
theorem aA:LA X κ [] ae:=.mk (tH nk λ_ _ _=>sO)
theorem ah(h:LE X κ a fa)(r:LA X κ es fs)(hs:starEach (a::es) X.env=(false,eval a X.env)::starEach es X.env:=by rfl):LA X κ (a::es) (af fa fs):=.mk (tH (nq h.pe r.pe hs) λ_ _ _=>AJ)
theorem aB (ho:bw X (binaryOp op) r)(hp:aw X.K κ (r2 r) p)(ha:LE X κ a fa)(hb:LE X κ b fb):LE X κ (.BinOp a op b pos) (ak p fa fb):=.mk (aH (qz ho ha.pe hb.pe) λ_ _ _=>gc hp)
theorem Bo (ho:wU X (unaryOp op) r)(hp:aw X.K κ (r1 r) p)(ha:LE X κ a fa):LE X κ (.UnaryOp op a pos) (bS p fa):=.mk (aH (mZ ho ha.pe) λ_ _ _=>gg hp)
theorem yfb (ho:bw X (compareOp op) r)(hp:aw X.K κ (r2 r) p)(ha:LE X κ a fa)(hb:LE X κ b fb)(hm:behindInMarks op b=false):LE X κ (.Compare a [op] [b] pos) (ak p fa fb):=.mk (aH (yD ho ha.pe hb.pe hm) λ_ _ _=>gc hp)
theorem g9 (ho:bw X (compareOp op) r)(hp:aw X.K κ (r2 r) p)(ha:LE X κ a fa)(hb:LE X κ b fb)(hm:behindInMarks op b=false):LT X κ (.Compare a [op] [b] pos) (aD (ak p fa fb)):=.mk (jc (qH ho ha.pe hb.pe hm) λσ H Q h=>gc hp (nW h))
theorem Bp(hc:LT X κ c fc)(ha:LE X κ a fa)(hb:LE X κ b fb):LE X κ (.IfExp c a b pos) (xg fc fa fb):=.mk (aH (xR hc.pe ha.pe hb.pe) λ_ _ _=>AR)
theorem b9{x1}(h:LA X κ es fs):LE X κ (.Tuple es x1 pos) (bd fs bF):=.mk (aH (yU h.pe) λ_ _ _ q=>c3 AM q)
theorem eC(h:LA X κ es fs):LE X κ (.List es pos) (bd fs b8):=.mk (aH (yV h.pe) λ_ _ _ q=>c3 AN q)
theorem mC(h:LW X κ a fc):LT X κ a fc:=.mk (h.pe.pt)
theorem tO(h:LT X κ a fc):LW X κ (.BoolOp .And [a] pos) fc:=.mk (j0 h.pe)
theorem hI(h:LT X κ a fc):LW X κ (.BoolOp .Or [a] pos) fc:=.mk (mR h.pe)
theorem mD{aS:List Expr}(h:LT X κ a fc)(k:LW X κ (.BoolOp .And (b::aS) pos) fd):LW X κ (.BoolOp .And (a::b::aS) pos) (pM fc fd):=.mk (jd (mS h.pe k.pe) λ_ _ _=>AO)
theorem eD{aS:List Expr}(h:LT X κ a fc)(k:LW X κ (.BoolOp .Or (b::aS) pos) fd):LW X κ (.BoolOp .Or (a::b::aS) pos) (gH fc fd):=.mk (jd (qc h.pe k.pe) λ_ _ _=>sS)
theorem kP(h:LT X κ a fc):LT X κ (.UnaryOp .Not a pos) (eB fc):=.mk (jc (xP h.pe) λ_ _ _=>AQ)
noncomputable def dr:Ev->Mo Bool:=λe Z G=>match e with
 | .v (.im .non)=>some (false,Z,G)
 | .v (.im (.bl b))=>some (b,Z,G)
 | .v (.im (.int i))=>some (i != 0,Z,G)
 | .v (.im (.str y))=>if y.length≤1000000 then some ((y.length:Int) != 0,Z,G) else none
 | e=>match pk Z G e with
  | some (.dic kvs)=>some (!kvs.isEmpty,Z,G)
  | _=>match sq Z G e with
   | some xs=>some (!xs.isEmpty,Z,G)
   | none=>none
theorem isE{K:W.Frag}{ι:List Addr}{H:Hp}{vs:List V}{xs:List I}(r:y4c K ι H vs xs):(!xs.isEmpty)=!vs.isEmpty:=by cases r<;>rfl
theorem om{K:W.Frag}{e:Ev}{c:Bool}(a:Args K κ ι H σ Z G [e] [v])(h:dr e Z G=some (c,Z',G')):pI K v H c/\Z'=Z/\G'=G:=by
 have seqs:∀{xs:List I},sq Z G e=some xs->pI K v H (!xs.isEmpty):=λhx=>by
  obtain⟨b,ys,e2,h2,r⟩:=a.sq (j:=0) rfl rfl hx
  subst e2
  rw [isE r]
  rcases h2 with h2|h2
  ·exact .inl ⟨ys,h2,rfl⟩
  ·exact .inr (.inl ⟨ys,h2,rfl⟩)
 unfold dr at h
 split at h
 ·cases h;cases i5 (a.im (j:=0) rfl rfl);exact⟨rfl,rfl,rfl⟩
 ·cases h;cases nK (a.im (j:=0) rfl rfl);exact⟨rfl,rfl,rfl⟩
 ·cases h;cases b4 (a.im (j:=0) rfl rfl);exact⟨rfl,rfl,rfl⟩
 ·split at h
  ·rename_i y hy
   cases h;cases eZ (a.im (j:=0) rfl rfl)
   exact⟨⟨z27 hy (by decide),rfl⟩,rfl,rfl⟩
  ·cases h
 ·split at h
  ·rename_i kvs hp
   cases h
   obtain⟨b,e2,ws,h1,h2,h3⟩:=a.pk (j:=0) rfl rfl hp
   subst e2
   refine⟨.inr (.inr ⟨ws,h1,?_⟩),rfl,rfl⟩
   have:=congrArg List.length h2
   simp at this
   cases kvs<;>cases ws<;>simp_all
  ·split at h
   ·rename_i xs hx
    cases h
    exact⟨seqs hx,rfl,rfl⟩
   ·cases h
theorem Bq{K:W.Frag}{f:Mo Ev}{σ:L2.St}{H:Hp}{Q:Bool->Hp->Prop}(h:cH K κ (bd f dr) σ H Q):aK K κ f σ H λx H'=>∃k,pI K x H' k/\Q k H':=by
 obtain⟨ι,Z,G,t,Z',G',s,eq,k⟩:=h
 obtain⟨x,Z1,G1,e1,eq⟩:=bH eq
 refine⟨ι,Z,G,x,Z1,G1,s,e1,λv ι1 H1 a=>?_⟩
 obtain⟨p,q⟩:=a.drop
 obtain⟨h1,rfl,rfl⟩:=om a.ar eq
 exact⟨_,h1,k _ _ p q⟩
theorem kQ(h:LE X κ a fa)(he:∀whole,isTrue a X.env whole=(do let v <- whole;standAt a.pos;holding [v] (truthy v)):=by intro _;rfl):LT X κ a (bd fa dr):=.mk (jc (yF h.pe he) λ_ _ _ q=>Bq q)
noncomputable def isP:List Ev->Mo Ev:=λes Z G=>match es with
 | [.v (.im .non)]=>some (.v (.im (.bl true)),Z,G)
 | [_]=>some (.v (.im (.bl false)),Z,G)
 | _=>none
theorem Args.nn{K:W.Frag}{ι:List Addr}{H:Hp}{σ:L2.St}{Z:De}{G:List M}{e:Ev}{v:V}(a:Args K κ ι H σ Z G [e] [v])(h:e≠.v (.im .non))(hs:∀i,e=.s i->∃m,Z[i]?=some (some (.ow m))):v≠.non:=by
 cases e with
 | s i =>
  obtain⟨m,hm⟩:=hs i rfl
  obtain⟨b,e1,r⟩:=a.base.y16a hm
  have al:=sP (j:=0) a.al rfl rfl
  rw [al] at e1;cases e1
  intro z;cases z
 | v x =>
  cases x with
  | ow m =>
   have r:=nR (bQ a.l a.sr.sl).2 (j:=0) rfl rfl
   cases r
   intro z;cases z
  | im d =>
   have r:=a.im (j:=0) rfl rfl
   cases r<;>first|exact absurd rfl h|(intro z;cases z)
noncomputable def kR(Z:De):Ev->Bool
 | .s i=>match Z[i]? with
  | some (some (.ow _))=>true
  | _=>false
 | _=>true
theorem tP (h:kR Z e=true):∀i,e=.s i->∃m,Z[i]?=some (some (.ow m)):=by
 intro i hi
 subst hi
 unfold kR at h
 dsimp only at h
 split at h
 ·rename_i m hm;exact⟨m,hm⟩
 ·cases h
noncomputable def iU(pos:Bool):List Ev->Mo Ev:=λes Z G=>match es with
 | [.v (.im .non)]=>some (.v (.im (.bl pos)),Z,G)
 | [e]=>if kR Z e then some (.v (.im (.bl (!pos))),Z,G) else none
 | _=>none
theorem Br{K:W.Frag}:aw K κ (r1 λx H1 Q=>Q (.bl (decide (x=.non))) H1) (iU true):=by
 intro ι H σ Z G es vs e Z' G' Q a h k
 unfold iU at h
 split at h
 ·obtain⟨v,rfl⟩:=bq a.len
  cases i5 (a.im (j:=0) rfl rfl)
  exact⟨_,rfl,k _ _ _ (bp h (a8 a (.bl _)))⟩
 ·rename_i e0 hne
  split at h
  ·rename_i hs
   obtain⟨v,rfl⟩:=bq a.len
   have n:=a.nn (λz=>hne (by rw [z])) (tP hs)
   refine⟨_,rfl,?_⟩
   dsimp only
   rw [decide_eq_false n]
   exact k _ _ _ (bp h (a8 a (.bl _)))
  ·cases h
 ·cases h
theorem Bs{K:W.Frag}:aw K κ (r1 λx H1 Q=>Q (.bl (!decide (x=.non))) H1) (iU false):=by
 intro ι H σ Z G es vs e Z' G' Q a h k
 unfold iU at h
 split at h
 ·obtain⟨v,rfl⟩:=bq a.len
  cases i5 (a.im (j:=0) rfl rfl)
  exact⟨_,rfl,k _ _ _ (bp h (a8 a (.bl _)))⟩
 ·rename_i e0 hne
  split at h
  ·rename_i hs
   obtain⟨v,rfl⟩:=bq a.len
   have n:=a.nn (λz=>hne (by rw [z])) (tP hs)
   refine⟨_,rfl,?_⟩
   dsimp only
   rw [decide_eq_false n]
   exact k _ _ _ (bp h (a8 a (.bl _)))
  ·cases h
 ·cases h
theorem tQ{j pos'}(h:LE X κ a fa):LE X κ (.Compare a [.IsNot] [.Constant .none j pos'] pos) (bS (iU false) fa):=.mk (aH (xO (xN h.pe)) λ_ _ _ q=>gg Bs q)
theorem tR{j pos'}(h:LE X κ a fa):LT X κ (.Compare a [.Is] [.Constant .none j pos'] pos) (aD (bS (iU true) fa)):=.mk (jc (p9 (xM h.pe)) λ_ _ _ q=>gg Br (nW q))
variable {s:Stmt}{ss ss2:List Stmt}{f g:SF}
theorem cc:fS X κ [] bA:=.mk (tI xT λ_ _ _=>AS)
theorem aG(h:LS X κ s f):fS X κ [s] f:=.mk (xV h.pe)
theorem av(h:LS X κ s f)(r:fS X κ ss g):fS X κ (s::ss) (aq f g):=.mk (tI (xU h.pe r.pe) λ_ _ _=>AU)
theorem aU(h:LE X κ a fa):LS X κ (.Return (some a) pos) (aI fa):=.mk (c8 (xX h.pe) λ_ _ _=>AW)
theorem hU(h:LE X κ a fa)(hs:swapsWith a none pos.line X.env=pure false:=by rfl):LS X κ (.Expr a pos) (gS fa):=.mk (c8 (xW h.pe hs) λ_ _ _=>AV)
theorem cf(hc:LT X κ c fc)(ha:fS X κ ss f)(hb:fS X κ ss2 g):LS X κ (.If c ss ss2 pos) (a9 fc f g):=.mk (c8 (qi hc.pe ha.pe hb.pe) λ_ _ _=>sU)
theorem tT(hc:LT X κ c fc)(hb:fS X κ ss f)(hp:PassesOwn (model X.prog X.w) X.A X.env X.xe:=by exact PassesOwn.never):LS X κ (.While c ss [] pos) (fQ fc f):=.mk (c8 (x9 hp hc.pe hb.pe) λ_ _ _=>AZ)
theorem dJ (hi:LI X κ tg it fi)(hg:LG X κ tg gf)(hb:fS X κ ss f)(hc:X.calm=true:=by rfl)(hp:PassesOwn (model X.prog X.w) X.A X.env X.xe:=by exact PassesOwn.never)(hs:∀x,foldedSetIterable it X.env x=pure x:=by intro _;rfl):LS X κ (.For tg it ss [] pos) (bT fi gf f):=.mk (c8 (qy hp hc hi.pe hg.pe hb.pe hs) λ_ _ _=>A0)
theorem gj (hN:X.N.Nodup)(hi:X.N[i]?=some x:=by rfl)(hx:mO X.env.scope x:=by first|exact Or.inl rfl|exact Or.inr rfl)(hf:X.fn x=true∨X.env.scope.names.lookup x=some .local:=by first|exact .inl rfl|exact .inr rfl|assumption):LG X κ (.Name x p) (aN i):=.mk (tJ (mV hN hi hx hf) λ_ _ _ _=>kM)
noncomputable def xh(X:Cx)(es:List Expr)(is:List Nat):Prop:=qj X es (gh is)
theorem hV:xh X [] []:=qo
theorem gk  (hN:X.N.Nodup)(r:xh X es is)(hi:X.N[i]?=some x:=by rfl)(hx:mO X.env.scope x:=by first|exact Or.inl rfl|exact Or.inr rfl)(hf:X.fn x=true∨X.env.scope.names.lookup x=some .local:=by first|exact .inl rfl|exact .inr rfl|assumption)
  : xh X (.Name x p::es) (i::is):=mW (mV hN hi hx hf) r
end
end
section
section
variable {X:Cx}{K:W.Frag}{κ:Str->Addr}
noncomputable def bB(f:Int->Int->Option I):List Ev->Mo Ev:=λes Z G=>match es with
 | [.v (.im (.int i)),.v (.im (.int j))]=>match f i j with
  | some d=>some (.v (.im d),Z,G)
  | none=>none
 | _=>none
theorem gm{C:Int->Int->Prop}{g:Int->Int->V}{f:Int->Int->Option I}(hf:∀i j d,f i j=some d->C i j/\∀ι H,RpI K ι H (g i j) d):aw K κ (r2 (rI C g)) (bB f):=by
 intro ι H σ Z G es vs e Z' G' Q a h k
 unfold bB at h
 split at h
 ·rename_i i j
  split at h
  ·rename_i d hd
   obtain⟨v,u,rfl⟩:=bR a.len
   cases b4 (a.im (j:=0) rfl rfl)
   cases b4 (a.im (j:=1) rfl rfl)
   obtain⟨c,r⟩:=hf i j d hd
   exact⟨_,_,rfl,i,j,rfl,rfl,c,k _ _ _ (bp h (a8 a (r ι H)))⟩
  ·cases h
 ·cases h
theorem eE{g:Int->Int->V}{f:Int->Int->Option I}(hf:∀i j d,f i j=some d->∀ι H,RpI K ι H (g i j) d):aw K κ (r2 (dZ g)) (bB f):=by
 intro ι H σ Z G es vs e Z' G' Q a h k
 obtain⟨x,y,e1,i,j,e2,e3,_,q⟩:=gm (λi j d hd=>⟨trivial,hf i j d hd⟩) ι H σ Z G es vs e Z' G' Q a h k
 exact⟨x,y,e1,i,j,e2,e3,q⟩
theorem aw.or{r r':R2}{p p':List Ev->Mo Ev}(h:aw K κ (r2 r) p)(h':aw K κ (r2 r') p'):aw K κ (r2 λx y H Q=>r x y H Q∨r' x y H Q) (λes Z G=>match p es Z G with|some z=>some z|none=>p' es Z G):=by
 intro ι H σ Z G es vs e Z' G' Q a hp k
 dsimp only at hp
 split at hp
 ·rename_i z hz
  cases hp
  obtain⟨x,y,e1,q⟩:=h ι H σ Z G es vs _ _ _ Q a hz k
  exact⟨x,y,e1,.inl q⟩
 ·obtain⟨x,y,e1,q⟩:=h' ι H σ Z G es vs _ _ _ Q a hp k
  exact⟨x,y,e1,.inr q⟩
noncomputable def eF(p p':List Ev->Mo Ev):List Ev->Mo Ev:=λes Z G=>match p es Z G with|some z=>some z|none=>p' es Z G
noncomputable def kS:List Ev->Mo Ev:=λes Z G=>match es with
 | [.v (.im (.str x)),.v (.im (.str y))]=>if x.length+y.length≤1000000 then some (.v (.im (.str (x++y))),Z,G) else none
 | _=>none
theorem Bt:aw K κ (r2 λx y H Q=>∃i j,x=.str i/\y=.str j/\i.length+j.length≤sizeLine/\Q (.str (i++j)) H) kS:=by
 intro ι H σ Z G es vs e Z' G' Q a h k
 unfold kS at h
 split at h
 ·rename_i i j
  split at h
  ·rename_i hl
   obtain⟨v,u,rfl⟩:=bR a.len
   cases eZ (a.im (j:=0) rfl rfl)
   cases eZ (a.im (j:=1) rfl rfl)
   exact⟨_,_,rfl,i,j,rfl,rfl,z27 hl (by decide),k _ _ _ (bp h (a8 a (.str _)))⟩
  ·cases h
 ·cases h
noncomputable def kT(K:W.Frag):R2:=λx y H Q=>∃a b xs ys,x=.ref a/\y=.ref b/\aO K H a xs/\aO K H b ys/\xs.length+ys.length≤sizeLine /\
 (xs=[]->Q (.ref b) H)/\(xs≠[]->ys=[]->Q (.ref a) H)/\(xs≠[]->ys≠[]->∀p,H p=none->Q (.ref p) (ax H p (.tup (xs++ys))))
theorem Bu:bw X (binaryOp .Add) (kT X.K):=by
 intro pins s σ H x y v u Q I rx ry h
 obtain⟨a,b,xs,ys,rfl,rfl,ha,hb,hz,q0,q1,q2⟩:=h
 by_cases hx:xs=[]
 ·cases rx
  cases ry
  obtain⟨its,r1,p1,_⟩:=I.tuple ha
  obtain⟨y1cd,r2,p2,_⟩:=I.tuple hb
  have hi:its=[]:=r1.y258.mpr hx
  obtain⟨⟨cls,dd,data,sl⟩,ho,hc,n,hd⟩:=id p1
  obtain⟨⟨cls2,dd2,data2,sl2⟩,ho2,hc2,n2,hd2⟩:=id p2
  simp only at hc hd hc2 hd2
  subst hc hd hc2 hd2
  exact concat_meets ⟨_,ho,rfl⟩ ⟨_,ho2,rfl⟩ noFill_tuple_add seq_tuple_add PySem.F.slot_tuple_add PySem.F.entry_tuple_add (PySem.F.args_tuple_add_2 _ _)
   (tuple_addW0 a b its.toArray y1cd.toArray n n2 dd dd2 sl sl2 (by simp [hi])) ⟨ho,ho2,⟨.ref b,H,I,rfl,q0 hx⟩⟩
 ·exact zB pins s σ H _ _ v u Q I rx ry ⟨a,b,xs,ys,rfl,rfl,ha,hb,hx,hz,q1 hx,q2 hx⟩
noncomputable def kU:List Ev->Mo Ev:=λes Z G=>match es with
 | [.v (.im (.tup xs)),.v (.im (.tup ys))]=>if xs.length+ys.length≤1000000 then some (.v (.im (.tup (xs++ys))),Z,G) else none
 | _=>none
theorem Bv:aw K κ (r2 (kT K)) kU:=by
 intro ι H σ Z G es vs e Z' G' Q a h k
 unfold kU at h
 split at h
 ·rename_i xs ys
  split at h
  ·rename_i hl
   obtain⟨v,u,rfl⟩:=bR a.len
   have ra:=a.im (j:=0) rfl rfl
   have rb:=a.im (j:=1) rfl rfl
   cases ra with
   | @tup p vs1 _ h1 r1 =>
    cases rb with
    | @tup q vs2 _ h2 r2 =>
     have l1:=r1.len
     have l2:=r2.len
     refine⟨_,_,rfl,p,q,vs1,vs2,rfl,rfl,aO.of h1,aO.of h2,z27 (by lia) (show 1000000≤sizeLine by decide),λe=>?_,λ_ e=>?_,λ_ _ p' hp=>?_⟩
     ·subst e
      cases r1
      exact k _ _ _ (bp h (a8 a (.tup h2 r2)))
     ·subst e
      cases r2
      exact k _ _ _ (bp h (a8 a (by rw [z1a];exact .tup h1 r1)))
     ·exact k _ _ _ (bp h (kL a hp (r1.app r2)))
  ·cases h
 ·cases h
noncomputable def oq:List Ev->Mo Ev:=λes Z G=>match es with
 | [a,b]=>match pk Z G a,pk Z G b with
  | some (.lst xs),some (.lst ys)=>if xs.length+ys.length≤1000000 then some (.v (.ow (.lst (xs++ys))),Z,G) else none
  | _,_=>none
 | _=>none
theorem Bw:aw K κ (r2 kr) oq:=by
 intro ι H σ Z G es vs e Z' G' Q a h k
 unfold oq at h
 split at h
 ·rename_i x y
  split at h
  ·rename_i xs ys hx hy
   split at h
   ·rename_i hl
    obtain⟨v,u,rfl⟩:=bR a.len
    obtain⟨p,e1,vs1,h1,r1⟩:=a.pk (j:=0) rfl rfl hx
    obtain⟨q,e2,vs2,h2,r2⟩:=a.pk (j:=1) rfl rfl hy
    subst e1;subst e2
    have l1:=r1.len
    have l2:=r2.len
    exact⟨_,_,rfl,p,q,vs1,vs2,rfl,rfl,h1,h2,z27 (by lia) (show 1000000≤sizeLine by decide),λp' hp=>k _ _ _ (bp h (eA a hp (r1.app r2)))⟩
   ·cases h
  ·cases h
 ·cases h
noncomputable def ou:List Ev->Mo Ev:=bB λi j=>some (.int (i+j))
noncomputable def eU:List Ev->Mo Ev:=eF ou (eF kS (eF kU oq))
theorem c9 (hr:y4a k A):bw X (binaryOp .Add) (λx y H Q=>dZ (λi j=>.int (i+j)) x y H Q∨((∃i j,x=.str i/\y=.str j/\i.length+j.length≤sizeLine/\Q (.str (i++j)) H)∨(kT X.K x y H Q∨kr x y H Q))) :=
 yt.or (yG.or (Bu.or zU))
theorem bV:aw K κ (r2 λx y H Q=>dZ (λi j=>.int (i+j)) x y H Q∨((∃i j,x=.str i/\y=.str j/\i.length+j.length≤sizeLine/\Q (.str (i++j)) H)∨(kT K x y H Q∨kr x y H Q))) eU :=
 aw.or (eE λi j d h ι H=>by cases h;exact .int _) (aw.or Bt (aw.or Bv Bw))
noncomputable def dM:List Ev->Mo Ev:=bB λi j=>some (.int (i-j))
theorem hX (hr:y4a k A):bw X (binaryOp .Sub) (dZ λi j=>.int (i-j)):=yu
theorem hZ:aw K κ (r2 (dZ λi j=>.int (i-j))) dM:=eE λi j d h ι H=>by cases h;exact .int _
noncomputable def tU:List Ev->Mo Ev:=bB λi j=>if (-(2 ^ 64)<i/\i<2 ^ 64)∨(-(2 ^ 64)<j/\j<2 ^ 64) then some (.int (i*j)) else none
noncomputable def kW:List Ev->Mo Ev:=λes Z G=>match es with
 | [a,.v (.im (.int j))]=>match pk Z G a with
  | some (.lst xs)=>if 0≤j/\j≤1000/\xs.length≤1000 then some (.v (.ow (.lst (List.replicate j.toNat xs).flatten)),Z,G) else none
  | _=>none
 | _=>none
theorem y4c.rep{ι:List Addr}{H:Hp}{vs:List V}{xs:List I}(r:y4c K ι H vs xs):∀n:Nat,y4c K ι H (List.replicate n vs).flatten (List.replicate n xs).flatten
 | 0=>.nil
 | n+1=>by rw [List.replicate_succ,List.replicate_succ,List.flatten_cons,List.flatten_cons];exact r.app (y4c.rep r n)
theorem Bx:aw K κ (r2 ku) kW:=by
 intro ι H σ Z G es vs e Z' G' Q a h k
 unfold kW at h
 split at h
 ·rename_i x j
  split at h
  ·rename_i xs hx
   split at h
   ·rename_i hl
    obtain⟨v,u,rfl⟩:=bR a.len
    obtain⟨p,e1,vs1,h1,r1⟩:=a.pk (j:=0) rfl rfl hx
    cases b4 (a.im (j:=1) rfl rfl)
    subst e1
    have l1:=r1.len
    refine⟨_,_,rfl,p,j,vs1,rfl,rfl,h1,by lia,by lia,z27 (Nat.mul_le_mul (show vs1.length≤1000 by lia) (show j.toNat≤1000 by lia)) (show 1000*1000≤sizeLine by decide),λp' hp=>k _ _ _ (bp h (eA a hp (r1.rep _)))⟩
   ·cases h
  ·cases h
 ·cases h
noncomputable def ox:List Ev->Mo Ev:=λes Z G=>match es with
 | [.v (.im (.str z)),.v (.im (.int j))]=>if 0≤j/\j≤1000/\z.length≤1000 then some (.v (.im (.str (PySem.Txt.mul z j))),Z,G) else none
 | _=>none
noncomputable def oy:R2:=λx y H Q=>∃z n,x=.str z/\y=.int n/\MulOk z n/\Q (.str (PySem.Txt.mul z n)) H
theorem jf (h:0≤j/\j≤1000/\z.length≤1000):MulOk z j:=by
  obtain⟨h0,h1,h2⟩:=h
  have hb:(z.length:Int)*j≤1000*1000:=Int.mul_le_mul (by lia) h1 h0 (by lia)
  have hn:z.length*j.toNat≤1000*1000:=Nat.mul_le_mul h2 (by lia)
  refine⟨by simp only [Bool.or_eq_false_iff,decide_eq_false_iff_not];lia,λh3 _ h4=>?_,λ_ _=>?_⟩
  · have:=(Int.le_ediv_iff_mul_le (c:=j) (a:=(z.length:Int)) (b:=2 ^ 63-1) (by lia)).mpr (by lia)
    lia
  · exact decide_eq_false (by have:(1000*1000:Nat)≤sizeLine:=by decide
                              lia)
theorem By:aw K κ (r2 oy) ox:=by
 intro ι H σ Z G es vs e Z' G' Q a h k
 unfold ox at h
 split at h
 ·rename_i z j
  split at h
  ·rename_i hl
   obtain⟨v,u,rfl⟩:=bR a.len
   cases eZ (a.im (j:=0) rfl rfl)
   cases b4 (a.im (j:=1) rfl rfl)
   exact⟨_,_,rfl,z,j,rfl,rfl,jf hl,k _ _ _ (bp h (a8 a (.str _)))⟩
  ·cases h
 ·cases h
noncomputable def cD:List Ev->Mo Ev:=eF tU (eF kW ox)
theorem fj (hr:y4a k A):bw X (binaryOp .Mult) (λx y H Q=>rI y6 (λi j=>.int (i*j)) x y H Q∨(ku x y H Q∨oy x y H Q)):=yw.or (zV.or Ai)
theorem fm:aw K κ (r2 λx y H Q=>rI y6 (λi j=>.int (i*j)) x y H Q∨(ku x y H Q∨oy x y H Q)) cD:=aw.or (gm λi j d h=>by
 split at h
 ·rename_i c;cases h;exact⟨c,λι H=>.int _⟩
 ·cases h) (aw.or Bx By)
noncomputable def gn:List Ev->Mo Ev:=bB λi j=>if 0<j/\j<2 ^ 200 then some (.int (i / j)) else none
theorem oz (hr:y4a k A):bw X (binaryOp .FloorDiv) (rI (λ_ j=>0<j/\j<2 ^ 200) λi j=>.int (i / j)):=Ag
theorem oA:aw K κ (r2 (rI (λ_ j=>0<j/\j<2 ^ 200) λi j=>.int (i / j))) gn:=gm λi j d h=>by
 split at h
 ·rename_i c;cases h;exact⟨c,λι H=>.int _⟩
 ·cases h
noncomputable def cE:List Ev->Mo Ev:=bB λi j=>if 0<j then some (.int (i % j)) else none
theorem eG (hr:y4a k A):bw X (binaryOp .Mod) (rI (λ_ j=>0<j) λi j=>.int (i % j)):=yx
theorem eI:aw K κ (r2 (rI (λ_ j=>0<j) λi j=>.int (i % j))) cE:=gm λi j d h=>by
 split at h
 ·rename_i c;cases h;exact⟨c,λι H=>.int _⟩
 ·cases h
noncomputable def gp:List Ev->Mo Ev:=bB λi j=>if 0≤j/\j≤1000000/\i.natAbs<2 ^ 64 then some (.int (i ^ j.toNat)) else none
theorem tV (hr:y4a k A):bw X (binaryOp .Pow) (rI y8 λi j=>.int (i ^ j.toNat)):=yy
theorem tW:aw K κ (r2 (rI y8 λi j=>.int (i ^ j.toNat))) gp:=gm λi j d h=>by
 split at h
 ·rename_i c;cases h;exact⟨c,λι H=>.int _⟩
 ·cases h
noncomputable def du:List Ev->Mo Ev:=bB λi j=>if 0≤j/\j≤1000000/\i.natAbs<2 ^ 64 then some (.int (i*2 ^ j.toNat)) else none
theorem jg (hr:y4a k A):bw X (binaryOp .LShift) (rI y8 λi j=>.int (i*2 ^ j.toNat)):=yz
theorem jh:aw K κ (r2 (rI y8 λi j=>.int (i*2 ^ j.toNat))) du:=gm λi j d h=>by
 split at h
 ·rename_i c;cases h;exact⟨c,λι H=>.int _⟩
 ·cases h
noncomputable def ft:List Ev->Mo Ev:=bB λi j=>if 0≤j then some (.int (i / 2 ^ j.toNat)) else none
theorem h9 (hr:y4a k A):bw X (binaryOp .RShift) (rI (λ_ j=>0≤j) λi j=>.int (i / 2 ^ j.toNat)):=yA
theorem ic:aw K κ (r2 (rI (λ_ j=>0≤j) λi j=>.int (i / 2 ^ j.toNat))) ft:=gm λi j d h=>by
 split at h
 ·rename_i c;cases h;exact⟨c,λι H=>.int _⟩
 ·cases h
noncomputable def oB:List Ev->Mo Ev:=bB λi j=>some (.int (Builtin.bitAnd i j))
theorem tX (hr:y4a k A):bw X (binaryOp .BitAnd) (dZ λi j=>.int (Builtin.bitAnd i j)):=yB
theorem tY:aw K κ (r2 (dZ λi j=>.int (Builtin.bitAnd i j))) oB:=eE λi j d h ι H=>by cases h;exact .int _
noncomputable def ie:List Ev->Mo Ev:=bB λi j=>some (.int (Builtin.bitXor i j))
theorem tZ (hr:y4a k A):bw X (binaryOp .BitXor) (dZ λi j=>.int (Builtin.bitXor i j)):=yC
theorem t4:aw K κ (r2 (dZ λi j=>.int (Builtin.bitXor i j))) ie:=eE λi j d h ι H=>by cases h;exact .int _
noncomputable def ig:List Ev->Mo Ev:=λes Z G=>match es with
 | [.v (.im (.int i))]=>some (.v (.im (.int (-i))),Z,G)
 | _=>none
theorem Bz:aw K κ (r1 (rU λi=>.int (-i))) ig:=by
 intro ι H σ Z G es vs e Z' G' Q a h k
 unfold ig at h
 split at h
 ·rename_i i
  obtain⟨v,rfl⟩:=bq a.len
  cases b4 (a.im (j:=0) rfl rfl)
  exact⟨_,rfl,i,rfl,k _ _ _ (bp h (a8 a (.int _)))⟩
 ·cases h
theorem t5 (h:LE X κ a fa):LE X κ (.UnaryOp .USub a pos) (bS ig fa):=Bo nc Bz h
noncomputable def pP:List Ev->Mo Ev:=bB λi j=>some (.bl (decide (i<j)))
noncomputable def leP:List Ev->Mo Ev:=bB λi j=>some (.bl (decide (i≤j)))
noncomputable def jT:List Ev->Mo Ev:=bB λi j=>some (.bl (decide (j<i)))
noncomputable def mE:List Ev->Mo Ev:=bB λi j=>some (.bl (decide (j≤i)))
end
end
set_option maxHeartbeats 400000
section
section
noncomputable def kX(K:W.Frag)(H:Hp)(x:V):Prop:=∃a xs,x=.ref a/\aO K H a xs
noncomputable def mF(K:W.Frag)(H:Hp)(x y:V)(b:Bool):Prop:=(aX x=true/\aX y=true/\b=fP x y)∨(kX K H x/\aX y=true/\b=false)∨(aX x=true/\kX K H y/\b=false)
noncomputable def ji(K:W.Frag)(H:Hp):Nat->V->V->Bool->Prop
 | 0,x,y,b=>mF K H x y b
 | n+1,x,y,b=>mF K H x y b∨∃a c xs ys e,x=.ref a/\y=.ref c/\aO K H a xs/\aO K H c ys/\(∀(j:Nat) u w,xs[j]?=some u->ys[j]?=some w->ji K H n u w (e j))/\b=((List.range (min xs.length ys.length)).all e&&xs.length == ys.length)
theorem BA(h:aX x=true):fP x x=true:=by
 cases x with
 | non=>rfl
 | bl b=>exact beq_self_eq_true b
 | int i=>exact beq_self_eq_true i
 | str z=>exact beq_self_eq_true z
 | _=>cases h
theorem mF.refl  (I:Inv X pins σ H s)(h:mF X.K H x x b):b=true:=by
 rcases h with⟨h1,_,rfl⟩| ⟨⟨a,xs,rfl,_⟩,h2,_⟩| ⟨h2,⟨a,xs,rfl,_⟩,_⟩
 ·exact BA h1
 ·cases h2
 ·cases h2
theorem ji.refl (I:Inv X pins σ H s):∀{n:Nat} {x:V} {b:Bool},ji X.K H n x x b->b=true
 | 0,_,_,h=>mF.refl I h
 | n+1,x,b,h=>by
  rcases h with h|⟨a,c,xs,ys,e,e1,e2,h1,h2,he,rfl⟩
  ·exact mF.refl I h
  ·subst e1;cases e2
   have:=I.y442 h1 h2
   subst this
   rw [Nat.min_self]
   have:(List.range xs.length).all e=true:=by
    rw [z35]
    intro j hj
    have hj:j<xs.length:=by simpa using hj
    exact ji.refl I (he j _ _ (z13 hj) (z13 hj))
   rw [this];simp
theorem ij (r:ag xs us)(h:j<us.toArray.size):∃x,xs[j]?=some x/\au x us.toArray[j]:=by
 have l:=r.length
 have h':j<xs.length:=by rw [l];simpa using h
 obtain⟨u,eu,ru⟩:=r.get (z13 h')
 refine⟨_,z13 h',?_⟩
 have:us.toArray[j]?=some u:=by simpa using eu
 rw [Array.getElem?_eq_getElem h] at this
 rw [z2a this]
 exact ru
theorem t6   (I:Inv X pins σ H s)(h:mF X.K H x y b)(ru:au x u)(rw':au y w)(hu:A.units<cLine):SeqAt.EqAt A s u w b:=by
 rcases h with⟨h1,h2,rfl⟩| ⟨⟨a,xs,rfl,ht⟩,h2,rfl⟩| ⟨h2,⟨a,xs,rfl,ht⟩,rfl⟩
 ·exact nA ru rw' h1 h2
 ·cases ru
  obtain⟨its,r1,p1,_⟩:=I.tuple ht
  have p1:s.heap.IsTuple a its.toArray:=p1
  cases y with
  | non=>cases rw';exact SeqAt.EqAt.tuple_none p1 hu
  | bl c=>cases rw';exact SeqAt.EqAt.tuple_bool _ p1 hu
  | int i=>obtain⟨t,rfl⟩:=rw';exact SeqAt.EqAt.tuple_int _ _ p1 hu
  | str z=>obtain⟨t,rfl⟩:=rw';exact SeqAt.EqAt.tuple_str _ _ p1 hu
  | _=>cases h2
 ·cases rw'
  obtain⟨its,r1,p1,_⟩:=I.tuple ht
  have p1:s.heap.IsTuple a its.toArray:=p1
  cases x with
  | non=>cases ru;exact SeqAt.EqAt.none_tuple p1 hu
  | bl c=>cases ru;exact SeqAt.EqAt.bool_tuple _ p1 hu
  | int i=>obtain⟨t,rfl⟩:=ru;exact SeqAt.EqAt.int_tuple _ _ p1 hu
  | str z=>obtain⟨t,rfl⟩:=ru;exact SeqAt.EqAt.str_tuple _ _ p1 hu
  | _=>cases h2
theorem oC:∀{n:Nat} {A:Around} {pins:List (Addr×Obj)} {σ:L2.St} {s:Shared} {x y:V} {u w:Value} {b:Bool},Inv X pins σ H s->ji X.K H n x y b->au x u->au y w->A.units+n<cLine->SeqAt.EqAt A s u w b
 | 0,_,_,_,_,_,_,_,_,_,I,h,ru,rw',hu=>t6 I h ru rw' hu
 | n+1,A,_,_,s,_,_,_,_,_,I,h,ru,rw',hu=>by
  rcases h with h|⟨a,c,xs,ys,e,e1,e2,h1,h2,he,rfl⟩
  ·exact t6 I h ru rw' (by lia)
  ·subst e1;subst e2
   cases ru;cases rw'
   by_cases hac:a=c
   ·subst hac
    have:=ji.refl (n:=n+1) I (.inr ⟨a,a,xs,ys,e,rfl,rfl,h1,h2,he,rfl⟩)
    rw [this]
    exact SeqAt.EqAt.same _
   ·obtain⟨its,r1,p1,_⟩:=I.tuple h1
    obtain⟨y1cd,r2,p2,_⟩:=I.tuple h2
    have q:=SeqAt.RcAt.tuples (A:=A) (show s.heap.IsTuple a its.toArray from p1) (show s.heap.IsTuple c y1cd.toArray from p2) (by lia) (λj z1 z2=>by
     obtain⟨x,ex,rx⟩:=ij r1 z1
     obtain⟨y,ey,ry⟩:=ij r2 z2
     exact oC I (he j x y ex ey) rx ry (by show A.units+1+n<cLine;lia))
    rw [zd,zd,<- r1.length,<- r2.length] at q
    exact SeqAt.EqAt.of_refs hac q
end
end
section
section
noncomputable def EqL(K:W.Frag)(H:Hp)(n:Nat)(x y:V)(b:Bool):Prop:=∃a c xs ys,x=.ref a/\y=.ref c/\aP K H a xs/\aP K H c ys/\((xs.length≠ys.length/\b=false)∨(xs.length=ys.length/\∃e,(∀(j:Nat) u w,xs[j]?=some u->ys[j]?=some w->ji K H n u w (e j))/\b=(List.range xs.length).all e))
noncomputable def pQ(K:W.Frag)(H:Hp)(x y:V)(b:Bool):Prop:=(gL x y=true/\b=decide (x=y))∨(kX K H x/\aX y=true/\b=false)∨(aX x=true/\kX K H y/\b=false) ∨
 (∃a c xs ys e,x=.ref a/\y=.ref c/\aO K H a xs/\aO K H c ys/\(∀(j:Nat) u w,xs[j]?=some u->ys[j]?=some w->ji K H 40 u w (e j))/\b=((List.range (min xs.length ys.length)).all e&&xs.length == ys.length))∨EqL K H 40 x y b
theorem t7(hu:X.A.units+50<cLine):bw X (compareOp .Eq) (λx y H Q=>∃b,pQ X.K H x y b/\Q (.bl b) H):=by
 intro pins s σ H x y v u Q I rx ry h
 obtain⟨b,h,q⟩:=h
 have hu0:X.A.units<cLine:=by lia
 have hel:∀{xs ys:List V} {us ws:List Value} {e:Nat->Bool},ag xs us->ag ys ws->(∀(j:Nat) u w,xs[j]?=some u->ys[j]?=some w->ji X.K H 40 u w (e j))->∀j (z1:j<us.toArray.size) (z2:j<ws.toArray.size),SeqAt.EqAt X.A.in1 s us.toArray[j] ws.toArray[j] (e j):=λr1 r2 he j z1 z2=>by
  obtain⟨x,ex,rx⟩:=ij r1 z1
  obtain⟨y,ey,ry⟩:=ij r2 z2
  exact oC I (he j x y ex ey) rx ry (by show X.A.units+1+40<cLine;lia)
 rcases h with⟨hs,rfl⟩| ⟨⟨a,xs,rfl,ht⟩,h2,rfl⟩| ⟨h2,⟨a,xs,rfl,ht⟩,rfl⟩| ⟨a,c,xs,ys,e,rfl,rfl,h1,h2,he,rfl⟩| ⟨a,c,xs,ys,rfl,rfl,h1,h2,h3⟩
 ·exact qA pins s σ H x y v u Q I rx ry ⟨hs,q⟩
 ·cases rx
  obtain⟨its,r1,p1,_⟩:=I.tuple ht
  have p1:s.heap.IsTuple a its.toArray:=p1
  have fin:EP X pins σ Q (.bool false) s:=⟨.bl false,H,I,rfl,q⟩
  cases y with
  | non=>cases ry;exact SeqAt.RcAt.tuple_none p1 hu0 _ _ _ _ fin
  | bl c=>cases ry;exact SeqAt.RcAt.tuple_bool _ p1 hu0 _ _ _ _ fin
  | int i=>obtain⟨t,rfl⟩:=ry;exact SeqAt.RcAt.tuple_int _ _ p1 hu0 _ _ _ _ fin
  | str z=>obtain⟨t,rfl⟩:=ry;exact SeqAt.RcAt.tuple_str _ _ p1 hu0 _ _ _ _ fin
  | _=>cases h2
 ·cases ry
  obtain⟨its,r1,p1,_⟩:=I.tuple ht
  have p1:s.heap.IsTuple a its.toArray:=p1
  have fin:EP X pins σ Q (.bool false) s:=⟨.bl false,H,I,rfl,q⟩
  cases x with
  | non=>cases rx;exact SeqAt.RcAt.none_tuple p1 hu0 _ _ _ _ fin
  | bl c=>cases rx;exact SeqAt.RcAt.bool_tuple _ p1 hu0 _ _ _ _ fin
  | int i=>obtain⟨t,rfl⟩:=rx;exact SeqAt.RcAt.int_tuple _ _ p1 hu0 _ _ _ _ fin
  | str z=>obtain⟨t,rfl⟩:=rx;exact SeqAt.RcAt.str_tuple _ _ p1 hu0 _ _ _ _ fin
  | _=>cases h2
 ·cases rx;cases ry
  obtain⟨its,r1,p1,_⟩:=I.tuple h1
  obtain⟨y1cd,r2,p2,_⟩:=I.tuple h2
  refine SeqAt.RcAt.tuples (show s.heap.IsTuple a its.toArray from p1) (show s.heap.IsTuple c y1cd.toArray from p2) hu0 (hel r1 r2 he) _ _ _ _ ?_
  rw [zd,zd,<- r1.length,<- r2.length]
  exact⟨.bl _,H,I,rfl,q⟩
 ·cases rx;cases ry
  obtain⟨its,r1,p1,_⟩:=I.list h1
  obtain⟨y1cd,r2,p2,_⟩:=I.list h2
  have l1:=r1.length
  have l2:=r2.length
  rcases h3 with⟨hn,rfl⟩| ⟨hn,e,he,rfl⟩
  ·exact SeqAt.RcAt.lists_lengths p1.isList p2.isList (by simp;lia) hu0 X.prog X.w X.xe _ ⟨.bl _,H,I,rfl,q⟩
  ·refine SeqAt.eq_listAt p1.isList p2.isList (by simp;lia) hu0 (hel r1 r2 he) ?_
   rw [zd,<- l1]
   exact⟨.bl _,H,I,rfl,q⟩
end
end
section
section
theorem BB(hu:X.A.units+50<cLine):bw X (compareOp .NotEq) (λx y H Q=>∃b,pQ X.K H x y b/\Q (.bl (!b)) H):=by
 intro pins s σ H x y v u Q I rx ry h
 obtain⟨b,h,q⟩:=h
 have hu0:X.A.units<cLine:=by lia
 have hel:∀{xs ys:List V} {us ws:List Value} {e:Nat->Bool},ag xs us->ag ys ws->(∀(j:Nat) u w,xs[j]?=some u->ys[j]?=some w->ji X.K H 40 u w (e j))->∀j (z1:j<us.toArray.size) (z2:j<ws.toArray.size),SeqAt.EqAt X.A.in1 s us.toArray[j] ws.toArray[j] (e j):=λr1 r2 he j z1 z2=>by
  obtain⟨x,ex,rx⟩:=ij r1 z1
  obtain⟨y,ey,ry⟩:=ij r2 z2
  exact oC I (he j x y ex ey) rx ry (by show X.A.units+1+40<cLine;lia)
 rcases h with⟨hs,rfl⟩| ⟨⟨a,xs,rfl,ht⟩,h2,rfl⟩| ⟨h2,⟨a,xs,rfl,ht⟩,rfl⟩| ⟨a,c,xs,ys,e,rfl,rfl,h1,h2,he,rfl⟩| ⟨a,c,xs,ys,rfl,rfl,h1,h2,h3⟩
 ·exact qB pins s σ H x y v u Q I rx ry ⟨hs,q⟩
 ·cases rx
  obtain⟨its,r1,p1,_⟩:=I.tuple ht
  have p1:s.heap.IsTuple a its.toArray:=p1
  have fin:EP X pins σ Q (.bool true) s:=⟨.bl true,H,I,rfl,q⟩
  cases y with
  | non=>cases ry;exact SeqAt.RcNeAt.tuple_none p1 hu0 _ _ _ _ fin
  | bl c=>cases ry;exact SeqAt.RcNeAt.tuple_bool _ p1 hu0 _ _ _ _ fin
  | int i=>obtain⟨t,rfl⟩:=ry;exact SeqAt.RcNeAt.tuple_int _ _ p1 hu0 _ _ _ _ fin
  | str z=>obtain⟨t,rfl⟩:=ry;exact SeqAt.RcNeAt.tuple_str _ _ p1 hu0 _ _ _ _ fin
  | _=>cases h2
 ·cases ry
  obtain⟨its,r1,p1,_⟩:=I.tuple ht
  have p1:s.heap.IsTuple a its.toArray:=p1
  have fin:EP X pins σ Q (.bool true) s:=⟨.bl true,H,I,rfl,q⟩
  cases x with
  | non=>cases rx;exact SeqAt.RcNeAt.none_tuple p1 hu0 _ _ _ _ fin
  | bl c=>cases rx;exact SeqAt.RcNeAt.bool_tuple _ p1 hu0 _ _ _ _ fin
  | int i=>obtain⟨t,rfl⟩:=rx;exact SeqAt.RcNeAt.int_tuple _ _ p1 hu0 _ _ _ _ fin
  | str z=>obtain⟨t,rfl⟩:=rx;exact SeqAt.RcNeAt.str_tuple _ _ p1 hu0 _ _ _ _ fin
  | _=>cases h2
 ·cases rx;cases ry
  obtain⟨its,r1,p1,_⟩:=I.tuple h1
  obtain⟨y1cd,r2,p2,_⟩:=I.tuple h2
  refine SeqAt.RcNeAt.tuples (show s.heap.IsTuple a its.toArray from p1) (show s.heap.IsTuple c y1cd.toArray from p2) hu0 (hel r1 r2 he) _ _ _ _ ?_
  rw [zd,zd,<- r1.length,<- r2.length]
  exact⟨.bl _,H,I,rfl,q⟩
 ·cases rx;cases ry
  obtain⟨its,r1,p1,_⟩:=I.list h1
  obtain⟨y1cd,r2,p2,_⟩:=I.list h2
  have l1:=r1.length
  have l2:=r2.length
  rcases h3 with⟨hn,rfl⟩| ⟨hn,e,he,rfl⟩
  ·exact SeqAt.RcNeAt.lists_lengths p1.isList p2.isList (by simp;lia) hu0 X.prog X.w X.xe _ ⟨.bl _,H,I,rfl,q⟩
  ·refine SeqAt.RcNeAt.lists p1.isList p2.isList (by simp;lia) hu0 (hel r1 r2 he) X.prog X.w X.xe _ ?_
   rw [zd,<- l1]
   exact⟨.bl _,H,I,rfl,q⟩
end
end
section
section
variable {X:Cx}{K:W.Frag}{κ:Str->Addr}{H:Hp}
noncomputable def oE(f:I->I->Option Bool):List I->List I->Option Bool
 | [],[]=>some true
 | x::xs,y::ys=>match f x y,oE f xs ys with
  | some b,some c=>some (b&&c)
  | _,_=>none
 | [],_::_=>some false
 | _::_,[]=>some false
noncomputable def jU:I->Option (List I)
 | .tup xs=>some xs
 | .con xs=>some xs
 | _=>none
noncomputable def b6:I->Bool
 | .non=>true
 | .bl _=>true
 | .int _=>true
 | .str _=>true
 | _=>false
noncomputable def de:I->I->Bool
 | .non,.non=>true
 | .bl a,.bl b=>a == b
 | .bl a,.int b=>(if a then 1 else 0) == b
 | .int a,.bl b=>a == (if b then 1 else 0)
 | .int a,.int b=>a == b
 | .str a,.str b=>a == b
 | _,_=>false
noncomputable def kY:Nat->I->I->Option Bool
 | 0,x,y=>if b6 x&&b6 y then some (de x y) else if ((jU x).isSome&&b6 y)||(b6 x&&(jU y).isSome) then some false else none
 | n+1,x,y=>if b6 x&&b6 y then some (de x y) else if ((jU x).isSome&&b6 y)||(b6 x&&(jU y).isSome) then some false else match jU x,jU y with
  | some xs,some ys=>oE (kY n) xs ys
  | _,_=>none
variable {ι:List Addr}
theorem eJ{v:V}{x:I}(r:RpI K ι H v x)(h:b6 x=true):aX v=true:=by cases r<;>first|rfl|cases h
noncomputable def t8:V->I
 | .bl b=>.bl b
 | .int i=>.int i
 | .str x=>.str x
 | _=>.non
theorem kZ(r:RpI K ι H v x)(h:aX v=true):x=t8 v:=by
 cases r<;>first|rfl|cases h
theorem BC(h:aX v=true)(h':aX w=true):de (t8 v) (t8 w)=fP v w:=by
 cases v<;>first|cases h;done|(cases w<;>first|rfl|cases h')
theorem oF(r:RpI K ι H v x)(r':RpI K ι H w y)(h:b6 x=true)(h':b6 y=true):de x y=fP v w:=by
 have h:=eJ r h
 have h':=eJ r' h'
 rw [kZ r h,kZ r' h',BC h h']
theorem k4{v:V}{x:I}{xs:List I}(r:RpI K ι H v x)(h:jU x=some xs):∃a vs,v=.ref a/\aO K H a vs/\y4c K ι H vs xs:=by
 cases r with
 | tup h1 h2=>cases h;exact⟨_,_,rfl,aO.of h1,h2⟩
 | con h1 h2=>cases h;exact⟨_,_,rfl,aO.kon h1,h2⟩
 | _=>cases h
theorem oG{f:I->I->Option Bool}{E:V->V->Bool->Prop}(hf:∀{v w x y b},RpI K ι H v x->RpI K ι H w y->f x y=some b->E v w b):∀{vs ws:List V} {xs ys:List I} {b:Bool},y4c K ι H vs xs->y4c K ι H ws ys->oE f xs ys=some b ->
  ∃e:Nat->Bool,(∀(j:Nat) u w,vs[j]?=some u->ws[j]?=some w->E u w (e j))/\b=((List.range (min vs.length ws.length)).all e&&vs.length == ws.length)
 | [],[],_,_,b,.nil,.nil,h=>by cases h;exact⟨λ_=>true,λj u w e=>by simp at e,rfl⟩
 | [],_::_,_,_,b,.nil,.cons _ _,h=>by cases h;exact⟨λ_=>true,λj u w e=>by simp at e,by simp⟩
 | _::_,[],_,_,b,.cons _ _,.nil,h=>by cases h;exact⟨λ_=>true,λj u w _ e=>by simp at e,by simp⟩
 | v::vs,w::ws,_,_,b,.cons r rs,.cons r' rs',h=>by
  unfold oE at h
  split at h
  ·rename_i b0 c h0 h1
   cases h
   obtain⟨e',he,rfl⟩:=oG hf rs rs' h1
   refine⟨λj=>match j with|0=>b0|j+1=>e' j,λj u w' e1 e2=>?_,?_⟩
   ·cases j with
    | zero=>simp at e1 e2;subst e1;subst e2;exact hf r r' h0
    | succ j=>exact he j u w' (by simpa using e1) (by simpa using e2)
   ·have e3:min (v::vs).length (w::ws).length=min vs.length ws.length+1:=by simp only [z29];lia
    rw [e3,Aj]
    have e4:((v::vs).length == (w::ws).length)=(vs.length == ws.length):=by simp
    rw [e4,Bool.and_assoc]
  ·cases h
theorem t9:∀{n:Nat} {v w:V} {x y:I} {b:Bool},RpI K ι H v x->RpI K ι H w y->kY n x y=some b->ji K H n v w b:=by
 have base:∀{v w:V} {x y:I} {b:Bool} {o:Option Bool},RpI K ι H v x->RpI K ι H w y->(if b6 x&&b6 y then some (de x y) else if ((jU x).isSome&&b6 y)||(b6 x&&(jU y).isSome) then some false else o)=some b->mF K H v w b∨o=some b:=λ{v w x y b o} r r' h=>by
  split at h
  ·rename_i hf
   rw [z2b] at hf
   cases h
   exact .inl (.inl ⟨eJ r hf.1,eJ r' hf.2,oF r r' hf.1 hf.2⟩)
  ·split at h
   ·rename_i hf
    cases h
    rw [Bool.or_eq_true,z2b,z2b] at hf
    rcases hf with⟨h1,h2⟩| ⟨h1,h2⟩
    ·obtain⟨xs,hx⟩:=Option.isSome_iff_exists.mp h1
     obtain⟨a,vs,e1,h3,_⟩:=k4 r hx
     exact .inl (.inr (.inl ⟨⟨a,vs,e1,h3⟩,eJ r' h2,rfl⟩))
    ·obtain⟨xs,hx⟩:=Option.isSome_iff_exists.mp h2
     obtain⟨a,vs,e1,h3,_⟩:=k4 r' hx
     exact .inl (.inr (.inr ⟨eJ r h1,⟨a,vs,e1,h3⟩,rfl⟩))
   ·exact .inr h
 intro n
 induction n with
 | zero =>
  intro v w x y b r r' h
  unfold kY at h
  rcases base r r' h with q|q
  ·exact q
  ·cases q
 | succ n ih =>
  intro v w x y b r r' h
  unfold kY at h
  rcases base r r' h with q|q
  ·exact .inl q
  ·split at q
   ·rename_i xs ys hx hy
    obtain⟨a,vs,e1,h1,r1⟩:=k4 r hx
    obtain⟨c,ws,e2,h2,r2⟩:=k4 r' hy
    obtain⟨e,he,hb⟩:=oG (λr r' h=>ih r r' h) r1 r2 q
    exact .inr ⟨a,c,vs,ws,e,e1,e2,h1,h2,he,hb⟩
   ·cases q
theorem BD(h:gL x y=true)(hf:aX x=true):fP x y=decide (x=y):=by
 cases x<;>first|exact Bool.noConfusion hf|(cases y<;>first|rfl|exact Bool.noConfusion h|skip)
 ·rename_i a b
  show (a == b)=_
  by_cases e:a=b
  ·subst e;simp
  ·rw [beq_eq_false_iff_ne.mpr e,decide_eq_false (λz=>e (by injection z))]
 ·rename_i a b
  show (a == b)=_
  by_cases e:a=b
  ·subst e;simp
  ·rw [beq_eq_false_iff_ne.mpr e,decide_eq_false (λz=>e (by injection z))]
 ·rename_i a b
  show (a == b)=_
  by_cases e:a=b
  ·subst e;simp
  ·rw [beq_eq_false_iff_ne.mpr e,decide_eq_false (λz=>e (by injection z))]
noncomputable def k5:I->I->Bool
 | .bl _,.int _=>true
 | .int _,.bl _=>true
 | _,_=>false
noncomputable def ua(Z:De)(G:List M)(a b:Ev):Option Bool :=
 match xf a,xf b with
 | some x,some y=>if k5 x y then none else match kY 41 x y with
  | some r=>some r
  | none=>match pk Z G a,pk Z G b with
   | some (.lst xs),some (.lst ys)=>oE (kY 40) xs ys
   | _,_=>none
 | _,_=>match pk Z G a,pk Z G b with
  | some (.lst xs),some (.lst ys)=>oE (kY 40) xs ys
  | _,_=>none
noncomputable def fu:List Ev->Mo Ev:=λes Z G=>match es with
 | [a,b]=>match ua Z G a b with
  | some r=>some (.v (.im (.bl r)),Z,G)
  | none=>none
 | _=>none
noncomputable def k6:List Ev->Mo Ev:=λes Z G=>match es with
 | [a,b]=>match ua Z G a b with
  | some r=>some (.v (.im (.bl (!r))),Z,G)
  | none=>none
 | _=>none
theorem BE(h:aX v=true)(h':aX u=true)(hm:¬ k5 (t8 v) (t8 u)=true):gL v u=true:=by
 cases v<;>first|cases h;done|(cases u<;>first|rfl|cases h';done|exact absurd rfl hm)
theorem BF(r:RpI K ι H v x)(r':RpI K ι H u y)(h:aX v=true)(h':aX u=true)(hm:¬ k5 x y=true):gL v u=true:=by
 rw [kZ r h,kZ r' h'] at hm
 exact BE h h' hm
theorem uc{σ:L2.St}{Z:De}{G:List M}{a b:Ev}{v u:V}{r:Bool}(A:Args K κ ι H σ Z G [a,b] [v,u])(h:ua Z G a b=some r):pQ K H v u r:=by
 have lists:(match pk Z G a,pk Z G b with|some (.lst xs),some (.lst ys)=>oE (kY 40) xs ys|_,_=>none)=some r->pQ K H v u r:=λh=>by
  split at h
  ·rename_i xs ys hx hy
   obtain⟨p,e1,vs,h1,r1⟩:=A.pk (j:=0) rfl rfl hx
   obtain⟨q,e2,ws,h2,r2⟩:=A.pk (j:=1) rfl rfl hy
   obtain⟨e,he,hb⟩:=oG (λr r' h=>t9 r r' h) r1 r2 h
   refine .inr (.inr (.inr (.inr ⟨p,q,vs,ws,e1,e2,aP.of h1,aP.of h2,?_⟩)))
   by_cases hl:vs.length=ws.length
   ·refine .inr ⟨hl,e,he,?_⟩
    rw [hb,<- hl,Nat.min_self];simp
   ·refine .inl ⟨hl,?_⟩
    rw [hb]
    have:(vs.length == ws.length)=false:=by simpa using hl
    rw [this,Bool.and_false]
  ·cases h
 unfold ua at h
 split at h
 ·rename_i x y hx hy
  split at h
  ·cases h
  ·rename_i hm
   split at h
   ·rename_i r' hr
    cases h
    have ra:RpI K ι H v x:=by
     cases a with
     | s i=>cases hx
     | v z=>cases z with
      | ow m=>cases hx
      | im d=>cases hx;exact A.im (j:=0) rfl rfl
    have rb:RpI K ι H u y:=by
     cases b with
     | s i=>cases hy
     | v z=>cases z with
      | ow m=>cases hy
      | im d=>cases hy;exact A.im (j:=1) rfl rfl
    rcases t9 ra rb hr with q|⟨a',c,xs,ys,e,e1,e2,h1,h2,he,hb⟩
    ·rcases q with⟨h1,h2,rfl⟩| ⟨h1,h2,rfl⟩| ⟨h1,h2,rfl⟩
     ·have sc:=BF ra rb h1 h2 hm
      exact .inl ⟨sc,BD sc h1⟩
     ·exact .inr (.inl ⟨h1,h2,rfl⟩)
     ·exact .inr (.inr (.inl ⟨h1,h2,rfl⟩))
    ·exact .inr (.inr (.inr (.inl ⟨a',c,xs,ys,e,e1,e2,h1,h2,he,hb⟩)))
   ·exact lists h
 ·exact lists h
theorem ud:aw K κ (r2 λx y H Q=>∃b,pQ K H x y b/\Q (.bl b) H) fu:=by
 intro ι H σ Z G es vs e Z' G' Q a h k
 unfold fu at h
 split at h
 ·split at h
  ·rename_i r hr
   obtain⟨v,u,rfl⟩:=bR a.len
   exact⟨_,_,rfl,r,uc a hr,k _ _ _ (bp h (a8 a (.bl _)))⟩
  ·cases h
 ·cases h
theorem BG:aw K κ (r2 λx y H Q=>∃b,pQ K H x y b/\Q (.bl (!b)) H) k6:=by
 intro ι H σ Z G es vs e Z' G' Q a h k
 unfold k6 at h
 split at h
 ·split at h
  ·rename_i r hr
   obtain⟨v,u,rfl⟩:=bR a.len
   exact⟨_,_,rfl,r,uc a hr,k _ _ _ (bp h (a8 a (.bl _)))⟩
  ·cases h
 ·cases h
end
section
variable {X:Cx}{κ:Str->Addr}{a b:Expr}{fa fb:Mo Ev}{pos:Pos}{k:Nat}
theorem gq(hr:y4a k X.A):X.A.units+50<cLine:=by have:=hr.units;lia
theorem ue(hr:y4a k X.A)(ha:LE X κ a fa)(hb:LE X κ b fb):LE X κ (.Compare a [.Eq] [b] pos) (ak fu fa fb):=yfb (t7 (gq hr)) ud ha hb (eX _)
theorem gu(hr:y4a k X.A)(ha:LE X κ a fa)(hb:LE X κ b fb):LT X κ (.Compare a [.Eq] [b] pos) (aD (ak fu fa fb)):=g9 (t7 (gq hr)) ud ha hb (eX _)
theorem k7(hr:y4a k X.A)(ha:LE X κ a fa)(hb:LE X κ b fb):LT X κ (.Compare a [.NotEq] [b] pos) (aD (ak k6 fa fb)):=g9 (BB (gq hr)) BG ha hb (eX _)
theorem k9(hr:y4a k X.A)(ha:LE X κ a fa)(hb:LE X κ b fb):LT X κ (.Compare a [.Lt] [b] pos) (aD (ak pP fa fb)):=g9 qC (eE λi j d h ι H=>by cases h;exact .bl _) ha hb (eX _)
theorem Fn(hr:y4a k X.A)(ha:LE X κ a fa)(hb:LE X κ b fb):LT X κ (.Compare a [.LtE] [b] pos) (aD (ak leP fa fb)):=g9 qD (eE λi j d h ι H=>by cases h;exact .bl _) ha hb (eX _)
theorem gv(hr:y4a k X.A)(ha:LE X κ a fa)(hb:LE X κ b fb):LT X κ (.Compare a [.Gt] [b] pos) (aD (ak jT fa fb)):=g9 qE (eE λi j d h ι H=>by cases h;exact .bl _) ha hb (eX _)
theorem uf(hr:y4a k X.A)(ha:LE X κ a fa)(hb:LE X κ b fb):LT X κ (.Compare a [.GtE] [b] pos) (aD (ak mE fa fb)):=g9 qF (eE λi j d h ι H=>by cases h;exact .bl _) ha hb (eX _)
end
end
section
section
variable {X:Cx}{K:W.Frag}{κ:Str->Addr}{ι:List Addr}{H:Hp}
theorem y4c.at{vs:List V}{xs:List I}{i:Int}{d:I}(r:y4c K ι H vs xs)(h:dm xs i=some d):∃v,dm vs i=some v/\RpI K ι H v d:=by
 unfold dm at h ⊢
 rw [r.len]
 cases q:iT xs.length i with
 | none=>rw [q] at h;cases h
 | some j =>
  rw [q] at h
  obtain⟨v,hv,rv⟩:=r.get h
  exact⟨v,hv,rv⟩
noncomputable def ik:List Ev->Mo Ev:=λes Z G=>match es with
 | [a,.v (.im (.int i))]=>match sq Z G a with
  | some xs=>match dm xs i with
   | some d=>some (.v (.im d),Z,G)
   | none=>none
  | none=>match a with
   | .v (.im (.str z))=>match dm z.cps.toList i with
    | some c=>if z.length≤1000000 then some (.v (.im (.str ⟨#[c]⟩)),Z,G) else none
    | none=>none
   | _=>none
 | _=>none
theorem BH:aw K κ (r2 (zG K)) ik:=by
 intro ι H σ Z G es vs e Z' G' Q a h k
 unfold ik at h
 split at h
 ·rename_i x i
  split at h
  ·rename_i xs hx
   split at h
   ·rename_i d hd
    obtain⟨v,u,rfl⟩:=bR a.len
    obtain⟨p,ys,e1,h1,r⟩:=a.sq (j:=0) rfl rfl hx
    cases b4 (a.im (j:=1) rfl rfl)
    subst e1
    obtain⟨w,hw,rw'⟩:=r.at hd
    rcases h1 with h1|h1
    ·exact⟨_,_,rfl,.inl ⟨p,ys,i,w,rfl,rfl,h1,hw,k _ _ _ (bp h (a8 a rw'))⟩⟩
    ·exact⟨_,_,rfl,.inr (.inl ⟨p,ys,i,w,rfl,rfl,h1,hw,k _ _ _ (bp h (a8 a rw'))⟩)⟩
   ·cases h
  ·split at h
   ·rename_i z _
    split at h
    ·rename_i c hc
     split at h
     ·rename_i hz
      obtain⟨v,u,rfl⟩:=bR a.len
      cases eZ (a.im (j:=0) rfl rfl)
      cases b4 (a.im (j:=1) rfl rfl)
      exact⟨_,_,rfl,.inr (.inr ⟨z,i,c,rfl,rfl,z27 hz (by decide),hc,k _ _ _ (bp h (a8 a (.str _)))⟩)⟩
     ·cases h
    ·cases h
   ·cases h
 ·cases h
noncomputable def dv:I->Option ai
 | .int i=>some (.inl i)
 | .str x=>some (.inr x)
 | _=>none
noncomputable def il:List I->Option (List ai)
 | []=>some []
 | x::xs=>match dv x,il xs with
  | some k,some ks=>some (k::ks)
  | _,_=>none
noncomputable def cQ:I->Option (List ai)
 | .tup xs=>il xs
 | _=>none
theorem lg{v:V}{x:I}{k:ai}(r:RpI K ι H v x)(h:dv x=some k):v=kV k:=by
 cases r<;>first|(cases h;rfl)|cases h
theorem ug:∀{vs:List V} {xs:List I} {ks:List ai},y4c K ι H vs xs->il xs=some ks->vs=ks.map kV
 | [],[],_,.nil,h=>by cases h;rfl
 | v::vs,x::xs,ks,.cons r rs,h=>by
  unfold il at h
  split at h
  ·rename_i k ks' h1 h2
   cases h
   rw [z15,lg r h1,ug rs h2]
  ·cases h
theorem lh{v:V}{x:I}{ks:List ai}(r:RpI K ι H v x)(h:cQ x=some ks):∃b,v=.ref b/\H b=some (.tup (ks.map kV)):=by
 cases r with
 | tup h1 h2=>exact⟨_,rfl,by rw [h1,ug h2 h]⟩
 | _=>cases h
noncomputable def az{κ':Type}[DecidableEq κ']:List (κ'×I)->κ'->Option I
 | [],_=>none
 | (g,x)::r,k=>if g=k then some x else az r k
noncomputable def cg{κ':Type}[DecidableEq κ'](kvs:List (κ'×I))(k:κ'):Bool:=kvs.any λkv=>decide (kv.1=k)
noncomputable def aE{κ':Type}[DecidableEq κ'](kvs:List (κ'×I))(k:κ')(d:I):List (κ'×I):=if cg kvs k then kvs.map (λkv=>if kv.1=k then (kv.1,d) else kv) else kvs++[(k,d)]
theorem jj{κ':Type}[DecidableEq κ']{k:κ'}:∀{ws:List (κ'×V)} {kvs:List (κ'×I)},ws.map (·.1)=kvs.map (·.1)->y4c K ι H (ws.map (·.2)) (kvs.map (·.2)) ->
  (∀d,az kvs k=some d->∃v,bD ws k=some v/\RpI K ι H v d)/\(az kvs k=none->bD ws k=none)
 | [],[],_,_=>⟨λd h=>(by cases h),λ_=>rfl⟩
 | [],_::_,e,_=>by cases e
 | _::_,[],e,_=>by cases e
 | (g,v)::ws,(g',x)::kvs,e,r=>by
  simp only [z15,List.cons.injEq] at e
  obtain⟨e1,e2⟩:=e
  subst e1
  cases r with
  | cons r rs =>
   obtain⟨p,q⟩:=jj e2 rs
   by_cases hg:g=k
   ·rw [kf hg]
    unfold az
    rw [if_pos hg]
    exact⟨λd h=>(by cases h;exact⟨v,rfl,r⟩),λh=>(by cases h)⟩
   ·rw [kg hg]
    unfold az
    rw [if_neg hg]
    exact⟨p,q⟩
theorem fw{κ' α β:Type}[DecidableEq κ']{k:κ'}:∀{ws:List (κ'×α)} {kvs:List (κ'×β)},ws.map (·.1)=kvs.map (·.1)->(ws.any λkv=>decide (kv.1=k))=(kvs.any λkv=>decide (kv.1=k))
 | [],[],_=>rfl
 | [],_::_,e=>by cases e
 | _::_,[],e=>by cases e
 | (g,v)::ws,(g',x)::kvs,e=>by
  simp only [z15,List.cons.injEq] at e
  obtain⟨e1,e2⟩:=e
  subst e1
  rw [List.any_cons,List.any_cons,fw e2]
theorem uh{κ':Type}[DecidableEq κ']{k:κ'}{v:V}{d:I}(rv:RpI K ι H v d):∀{ws:List (κ'×V)} {kvs:List (κ'×I)},ws.map (·.1)=kvs.map (·.1)->y4c K ι H (ws.map (·.2)) (kvs.map (·.2)) ->
  (ws.map λkv=>if kv.1=k then (kv.1,v) else kv).map (·.1)=(kvs.map λkv=>if kv.1=k then (kv.1,d) else kv).map (·.1)/\y4c K ι H ((ws.map λkv=>if kv.1=k then (kv.1,v) else kv).map (·.2)) ((kvs.map λkv=>if kv.1=k then (kv.1,d) else kv).map (·.2))
 | [],[],_,_=>⟨rfl,.nil⟩
 | [],_::_,e,_=>by cases e
 | _::_,[],e,_=>by cases e
 | (g,w)::ws,(g',x)::kvs,e,r=>by
  simp only [z15,List.cons.injEq] at e
  obtain⟨e1,e2⟩:=e
  subst e1
  cases r with
  | cons r rs =>
   obtain⟨p,q⟩:=uh rv e2 rs
   by_cases hg:g=k
   ·simp only [z15,if_pos hg]
    exact⟨by rw [p],.cons rv q⟩
   ·simp only [z15,if_neg hg]
    exact⟨by rw [p],.cons r q⟩
theorem jk{κ':Type}[DecidableEq κ']{k:κ'}{v:V}{d:I}{ws:List (κ'×V)}{kvs:List (κ'×I)}(rv:RpI K ι H v d)(e:ws.map (·.1)=kvs.map (·.1))(r:y4c K ι H (ws.map (·.2)) (kvs.map (·.2))) :
  (bE ws k v).map (·.1)=(aE kvs k d).map (·.1)/\y4c K ι H ((bE ws k v).map (·.2)) ((aE kvs k d).map (·.2)):=by
 unfold bE aE cg
 rw [fw e]
 split
 ·exact uh rv e r
 ·rw [z26,z26,z26,z26,e]
  exact⟨rfl,r.app (.cons rv .nil)⟩
noncomputable def eK(Z:De)(G:List M)(a:Ev)(x:I):Option (Option I):=match pk Z G a with
 | some (.dic kvs)=>(dv x).map λk=>az kvs k
 | some (.dit kvs)=>(cQ x).map λk=>az kvs k
 | _=>none
theorem uk{σ:L2.St}{Z:De}{G:List M}{es:List Ev}{vs:List V}{j j':Nat}{a:Ev}{x:I}{v u:V}{o:Option I}(A:Args K κ ι H σ Z G es vs)(h1:es[j]?=some a)(h2:vs[j]?=some v)(h3:es[j']?=some (.v (.im x)))(h4:vs[j']?=some u)
  (h:eK Z G a x=some o):∃b ov,v=.ref b/\ye H b u ov/\(∀d,o=some d->∃w,ov=some w/\RpI K ι H w d)/\(o=none->ov=none):=by
 have ru:=A.im h3 h4
 unfold eK at h
 split at h
 ·rename_i kvs hp
  obtain⟨b,e1,ws,hw,e2,r⟩:=A.pk h1 h2 hp
  cases hk:dv x with
  | none=>rw [hk] at h;cases h
  | some k =>
   rw [hk] at h
   cases h
   have eu:=lg ru hk
   subst eu
   obtain⟨p,q⟩:=jj e2 r
   exact⟨b,_,e1,ye.k hw,p,q⟩
 ·rename_i kvs hp
  obtain⟨b,e1,ws,hw,e2,r⟩:=A.pk h1 h2 hp
  cases hk:cQ x with
  | none=>rw [hk] at h;cases h
  | some k =>
   rw [hk] at h
   cases h
   obtain⟨c,eu,hc⟩:=lh ru hk
   subst eu
   obtain⟨p,q⟩:=jj e2 r
   exact⟨b,_,e1,ye.t hw hc,p,q⟩
 ·cases h
noncomputable def lr:List Ev->Mo Ev:=λes Z G=>match es with
 | [a,.v (.im x)]=>match eK Z G a x with
  | some (some d)=>some (.v (.im d),Z,G)
  | _=>none
 | _=>none
theorem BI:aw K κ (r2 λx y H2 Q=>∃a v,x=.ref a/\ye H2 a y (some v)/\Q v H2) lr:=by
 intro ι H σ Z G es vs e Z' G' Q a h k
 unfold lr at h
 split at h
 ·split at h
  ·rename_i d hd
   obtain⟨v,u,rfl⟩:=bR a.len
   obtain⟨b,ov,e1,g,p,_⟩:=uk a (j:=0) (j':=1) rfl rfl rfl rfl hd
   obtain⟨w,rfl,rw'⟩:=p d rfl
   exact⟨_,_,rfl,b,w,e1,g,k _ _ _ (bp h (a8 a rw'))⟩
  ·cases h
 ·cases h
noncomputable def bc:List Ev->Mo Ev:=eF ik lr
theorem um{fo fi:Mo Ev}{σ:L2.St}{Q:VK}(h:aK K κ (ak bc fo fi) σ H Q):mi (zG K) (aK K κ fo) (aK K κ fi) σ H Q∨rf (aK K κ fo) (aK K κ fi) σ H Q:=by
 obtain⟨ι,Z,G,e,Z',G',s,eq,k⟩:=h
 obtain⟨x,Z1,G1,e1,eq1⟩:=bH eq
 obtain⟨y,Z2,G2,e2,eq2⟩:=bH eq1
 have eq2:eF ik lr [x,y] Z2 G2=some (e,Z',G'):=eq2
 unfold eF at eq2
 split at eq2
 ·rename_i z hz
  cases eq2
  refine .inl (gc BH ⟨ι,Z,G,_,_,_,s,?_,k⟩)
  unfold ak
  rw [mq e1,mq e2];exact hz
 ·refine .inr (gc BI ⟨ι,Z,G,_,_,_,s,?_,k⟩)
  unfold ak
  rw [mq e1,mq e2];exact eq2
noncomputable def lu(neg:Bool):List Ev->Mo Ev:=λes Z G=>match es with
 | [.v (.im x),b]=>match sq Z G b with
  | some xs=>if b6 x&&xs.all b6 then some (.v (.im (.bl (if neg then !(xs.any λy=>de y x) else xs.any λy=>de y x))),Z,G) else none
  | none=>none
 | _=>none
noncomputable def ip(neg:Bool):List Ev->Mo Ev:=λes Z G=>match es with
 | [.v (.im x),b]=>match eK Z G b x with
  | some o=>some (.v (.im (.bl (if neg then !o.isSome else o.isSome))),Z,G)
  | none=>none
 | _=>none
theorem BJ:aw K κ (r2 λy x H2 Q=>∃a o,x=.ref a/\ye H2 a y o/\Q (.bl (!o.isSome)) H2) (ip true):=by
 intro ι H σ Z G es vs e Z' G' Q a h k
 unfold ip at h
 split at h
 ·split at h
  ·rename_i o ho
   obtain⟨v,u,rfl⟩:=bR a.len
   obtain⟨b,ov,e1,g,p,q⟩:=uk a (j:=1) (j':=0) rfl rfl rfl rfl ho
   have:ov.isSome=o.isSome:=by
    cases o with
    | none=>rw [q rfl];rfl
    | some d=>obtain⟨w,rfl,_⟩:=p d rfl;rfl
   refine⟨_,_,rfl,b,ov,e1,g,?_⟩
   rw [this]
   exact k _ _ _ (bp h (a8 a (.bl _)))
  ·cases h
 ·cases h
end
section
variable {X:Cx}{κ:Str->Addr}{a b:Expr}{fa fb:Mo Ev}{pos:Pos}{k:Nat}
theorem aV(hr:y4a k X.A)(ha:LE X κ a fa)(hb:LE X κ b fb)(hs:gF b:=by exact (λ_ _=>rfl)):LE X κ (.Subscript a b pos) (ak bc fa fb):=.mk (aH (mT (rJ zH ha.pe hb.pe hs) (zj (nD hr) ha.pe hb.pe hs)) λ_ _ _=>um)
end
end
section
section
variable {X:Cx}{K:W.Frag}{κ:Str->Addr}{ι:List Addr}{H:Hp}
theorem uo{v:V}{x:I}(r:RpI K ι H v x)(hx:b6 x=true):∀{vs:List V} {xs:List I},y4c K ι H vs xs->xs.all b6=true->vs.all aX=true/\(xs.any λy=>de y x)=vs.any λy=>fP y v
 | [],[],.nil,_=>⟨rfl,rfl⟩
 | w::vs,y::xs,.cons r' rs,h=>by
  rw [List.all_cons,z2b] at h
  obtain⟨p,q⟩:=uo r hx rs h.2
  rw [List.all_cons,List.any_cons,List.any_cons,p,q,oF r' r h.1 hx,eJ r' h.1]
  exact⟨rfl,rfl⟩
theorem BK:aw K κ (r2 (rIn K true)) (lu true):=by
 intro ι H σ Z G es vs e Z' G' Q a h k
 unfold lu at h
 split at h
 ·rename_i x b
  split at h
  ·rename_i xs hx
   split at h
   ·rename_i hf
    rw [z2b] at hf
    obtain⟨v,u,rfl⟩:=bR a.len
    obtain⟨p,ys,e1,h1,r⟩:=a.sq (j:=1) rfl rfl hx
    have rx:=a.im (j:=0) rfl rfl
    obtain⟨p1,p2⟩:=uo rx hf.1 r hf.2
    refine⟨_,_,rfl,p,ys,e1,h1,eJ rx hf.1,p1,?_⟩
    have:L2.inV v ys=xs.any λy=>de y x:=p2.symm
    rw [this]
    exact k _ _ _ (bp h (a8 a (.bl _)))
   ·cases h
  ·cases h
 ·cases h
noncomputable def jl:List Ev->Mo Ev:=eF (lu true) (ip true)
theorem BL{p p':List Ev->Mo Ev}{r r':R2}{fo fi:Mo Ev}{σ:L2.St}{Q:VK}(h1:aw K κ (r2 r) p)(h2:aw K κ (r2 r') p')(h:aK K κ (ak (eF p p') fo fi) σ H Q):mi r (aK K κ fo) (aK K κ fi) σ H Q∨mi r' (aK K κ fo) (aK K κ fi) σ H Q:=by
 obtain⟨ι,Z,G,e,Z',G',s,eq,k⟩:=h
 obtain⟨x,Z1,G1,e1,eq1⟩:=bH eq
 obtain⟨y,Z2,G2,e2,eq2⟩:=bH eq1
 have eq2:eF p p' [x,y] Z2 G2=some (e,Z',G'):=eq2
 unfold eF at eq2
 split at eq2
 ·rename_i z hz
  cases eq2
  refine .inl (gc h1 ⟨ι,Z,G,_,_,_,s,?_,k⟩)
  unfold ak
  rw [mq e1,mq e2];exact hz
 ·refine .inr (gc h2 ⟨ι,Z,G,_,_,_,s,?_,k⟩)
  unfold ak
  rw [mq e1,mq e2];exact eq2
end
section
variable {X:Cx}{κ:Str->Addr}{a b:Expr}{fa fb:Mo Ev}{pos:Pos}{k:Nat}
theorem uq(hr:y4a k X.A)(ha:LE X κ a fa)(hb:LE X κ b fb)(hm:behindInMarks .NotIn b=false:=by rfl):LT X κ (.Compare a [.NotIn] [b] pos) (aD (ak jl fa fb)):=.mk (jc (tK (qH zN ha.pe hb.pe hm) (p9 (zl (nD hr) ha.pe hb.pe) hm)) λ_ _ _ h=>BL BK BJ (nW h))
end
section
variable {K:W.Frag}{κ:Str->Addr}
noncomputable def bW:List Ev->Mo Ev:=λes Z G=>match es with
 | [a]=>match sq Z G a with
  | some xs=>some (.v (.im (.int xs.length)),Z,G)
  | none=>match a with
   | .v (.im (.str z))=>if z.length≤1000000 then some (.v (.im (.int z.length)),Z,G) else none
   | a=>match pk Z G a with
    | some (.dic kvs)=>some (.v (.im (.int kvs.length)),Z,G)
    | _=>none
 | _=>none
theorem BM:aw K κ (λxs H Q=>(∃p ys,xs=[.ref p]/\(aP K H p ys∨aO K H p ys)/\Q (.int ys.length) H)∨((∃z,xs=[.str z]/\z.length≤sizeLine/\Q (.int z.length) H)∨(∃a kvs,xs=[V.ref a]/\H a=some (.dK kvs)/\Q (.int kvs.length) H))) bW:=by
 intro ι H σ Z G es vs e Z' G' Q a h k
 unfold bW at h
 split at h
 ·rename_i x
  split at h
  ·rename_i xs hx
   obtain⟨v,rfl⟩:=bq a.len
   obtain⟨p,ys,e1,h1,r⟩:=a.sq (j:=0) rfl rfl hx
   subst e1
   exact .inl ⟨p,ys,rfl,h1,by rw [r.len];exact k _ _ _ (bp h (a8 a (.int _)))⟩
  ·split at h
   ·split at h
    ·rename_i hz
     obtain⟨v,rfl⟩:=bq a.len
     cases eZ (a.im (j:=0) rfl rfl)
     exact .inr (.inl ⟨_,rfl,z27 hz (by decide),k _ _ _ (bp h (a8 a (.int _)))⟩)
    ·cases h
   ·split at h
    ·rename_i kvs hp
     obtain⟨v,rfl⟩:=bq a.len
     obtain⟨b,e1,ws,hw,e2,r⟩:=a.pk (j:=0) rfl rfl hp
     subst e1
     have e3:kvs.length=ws.length:=by have:=congrArg List.length e2;simpa using this.symm
     exact .inr (.inr ⟨b,ws,rfl,hw,by rw [<- e3];exact k _ _ _ (bp h (a8 a (.int _)))⟩)
    ·cases h
 ·cases h
noncomputable def dN:List Ev->Mo Ev:=λes Z G=>match es with
 | [.v (.im (.tup xs))]=>some (.v (.im (.tup xs)),Z,G)
 | [.v (.im (.con xs))]=>some (.v (.im (.con xs)),Z,G)
 | [a]=>match sq Z G a with
  | some xs=>some (.v (.im (.tup xs)),Z,G)
  | none=>none
 | _=>none
theorem ur{ι:List Addr}{H:Hp}{σ:L2.St}{Z:De}{G:List M}{e:Ev}{v:V}{xs:List I}(a:Args K κ ι H σ Z G [e] [v])(h:sq Z G e=some xs)(n1:∀ys,e≠.v (.im (.tup ys)))(n2:∀ys,e≠.v (.im (.con ys))):∃b ys,v=.ref b/\aP K H b ys/\y4c K ι H ys xs:=by
 have y156:(match B.pk Z G e with|some (.lst xs)=>some xs|_=>none)=some xs->∃b ys,v=.ref b/\aP K H b ys/\y4c K ι H ys xs:=λq=>by
  split at q
  ·rename_i xs' e'
   cases q
   obtain⟨b,e1,ys,h3,r⟩:=a.pk (j:=0) rfl rfl e'
   exact⟨b,ys,e1,aP.of h3,r⟩
  ·cases q
 cases e with
 | s i=>exact y156 h
 | v x =>
  cases x with
  | ow m=>exact y156 h
  | im d =>
   have r:=a.im (j:=0) rfl rfl
   cases r with
   | tup q r=>exact absurd rfl (n1 _)
   | con q r=>exact absurd rfl (n2 _)
   | fro q r=>cases h;exact⟨_,_,rfl,q.sq,r⟩
   | ref q=>exact y156 h
   | non=>exact y156 h
   | bl=>exact y156 h
   | int=>exact y156 h
   | str=>exact y156 h
   | ty=>exact y156 h
theorem BN:aw K κ (λxs H Q=>∃p ys,xs=[.ref p]/\((aP K H p ys/\∀l,H l=none->Q (.ref l) (ax H l (.tup ys)))∨(aO K H p ys/\Q (.ref p) H))) dN:=by
 intro ι H σ Z G es vs e Z' G' Q a h k
 unfold dN at h
 split at h
 ·obtain⟨v,rfl⟩:=bq a.len
  have r:=a.im (j:=0) rfl rfl
  obtain⟨_,_,rfl,h1,h2⟩:=fZ r
  exact⟨_,_,rfl,.inr ⟨aO.of h1,k _ _ _ (bp h (a8 a (.tup h1 h2)))⟩⟩
 ·obtain⟨v,rfl⟩:=bq a.len
  have r:=a.im (j:=0) rfl rfl
  obtain⟨_,_,rfl,h1,h2⟩:=nL r
  exact⟨_,_,rfl,.inr ⟨aO.kon h1,k _ _ _ (bp h (a8 a (.con h1 h2)))⟩⟩
 ·rename_i x n1 n2
  split at h
  ·rename_i xs hx
   obtain⟨v,rfl⟩:=bq a.len
   obtain⟨p,ys,e1,h1,r⟩:=ur a hx (λys z=>n1 ys (by rw [z])) (λys z=>n2 ys (by rw [z]))
   subst e1
   exact⟨p,ys,rfl,.inl ⟨h1,λl hl=>k _ _ _ (bp h (kL a hl r))⟩⟩
  ·cases h
 ·cases h
noncomputable def ly:List Ev->Mo Ev:=λes Z G=>match es with
 | [a]=>match sq Z G a with
  | some xs=>some (.v (.ow (.lst xs)),Z,G)
  | none=>none
 | _=>none
theorem BO:aw K κ (λxs H Q=>∃p ys,xs=[.ref p]/\(aP K H p ys∨aO K H p ys)/\∀l,H l=none->Q (.ref l) (ax H l (.lst ys))) ly:=by
 intro ι H σ Z G es vs e Z' G' Q a h k
 unfold ly at h
 split at h
 ·split at h
  ·rename_i xs hx
   obtain⟨v,rfl⟩:=bq a.len
   obtain⟨p,ys,e1,h1,r⟩:=a.sq (j:=0) rfl rfl hx
   subst e1
   exact⟨p,ys,rfl,h1,λl hl=>k _ _ _ (bp h (eA a hl r))⟩
  ·cases h
 ·cases h
noncomputable def jm:List Ev->Mo Ev:=bB λi j=>some (.int (if j>i then j else i))
noncomputable def oH:List Ev->Mo Ev:=bB λi j=>some (.int (if j<i then j else i))
theorem uu{g:Int->Int->Int}:aw K κ (λxs H Q=>∃i j,xs=[.int i,.int j]/\Q (.int (g i j)) H) (bB λi j=>some (.int (g i j))):=by
 intro ι H σ Z G es vs e Z' G' Q a h k
 obtain⟨x,y,e1,i,j,e2,e3,q⟩:=eE (λi j d h ι H=>by cases h;exact .int _) ι H σ Z G es vs e Z' G' Q a h k
 exact⟨i,j,by rw [e1,e2,e3],q⟩
noncomputable def cu:Ev->Bool
 | .v (.im (.tup _))=>false
 | .v (.im (.con _))=>false
 | _=>true
noncomputable def iq:List Ev->Mo Ev:=λes Z G=>match es with
 | [a]=>if cu a then match sq Z G a with
  | some xs=>some (.v (.ow (.lst xs.reverse)),Z,G)
  | none=>none
  else none
 | _=>none
theorem BP:aw K κ (r1 λx H1 Q=>∃l ys,x=.ref l/\aP K H1 l ys/\∀p,H1 p=none->Q (.ref p) (ax H1 p (.lst ys.reverse))) iq:=by
 intro ι H σ Z G es vs e Z' G' Q a h k
 unfold iq at h
 split at h
 ·rename_i x
  split at h
  ·rename_i hl
   split at h
   ·rename_i xs hx
    obtain⟨v,rfl⟩:=bq a.len
    obtain⟨p,ys,e1,h1,r⟩:=ur a hx (λys z=>by subst z;cases hl) (λys z=>by subst z;cases hl)
    subst e1
    exact⟨_,rfl,p,ys,rfl,h1,λl hl=>k _ _ _ (bp h (eA a hl r.rev))⟩
   ·cases h
  ·cases h
 ·cases h
end
section
variable {X:Cx}{κ:Str->Addr}{a b e:Expr}{es:List Expr}{fa fb:Mo Ev}{fs:Mo (List Ev)}{p pos:Pos}{k:Nat}
theorem dw(hr:y4a k X.A)(hm:X.mg "len" = none)(ha:LA X κ (e::es) fs)(hg:Gl X "len":=by rfl)(he:gM X e es:=by rfl)(hpl:fW X pos es:=by rfl):LE X κ (.Call (.Name "len" p) (e::es) [] pos) (bd fs bW):=.mk (aH (iY (y99.or (y9a.or y97)) hg hm PySem.boot_len ha.pe (by decide) (by decide) he hpl) λ_ _ _ q=>c3 BM q)
theorem oI(hr:y4a k X.A)(hm:X.mg "tuple" = none)(ha:LA X κ (e::es) fs)(hg:Gl X "tuple":=by rfl)(he:gM X e es:=by rfl)(hpl:fW X pos es:=by rfl):LE X κ (.Call (.Name "tuple" p) (e::es) [] pos) (bd fs dN):=.mk (aH (iZ ya0 hg hm PyProof.Rows.boot_tuple ha.pe (by decide) (by decide) he hpl) λ_ _ _ q=>c3 BN q)
theorem BQ(hr:y4a k X.A)(hm:X.mg "list" = none)(ha:LA X κ (e::es) fs)(hg:Gl X "list":=by rfl)(he:gM X e es:=by rfl)(hpl:fW X pos es:=by rfl):LE X κ (.Call (.Name "list" p) (e::es) [] pos) (bd fs ly):=.mk (aH (iZ y9b hg hm PyProof.Rows.boot_list ha.pe (by decide) (by decide) he hpl) λ_ _ _ q=>c3 BO q)
theorem BR(hr:y4a k X.A)(hm:X.mg "max" = none)(ha:LA X κ (e::es) fs)(hg:Gl X "max":=by rfl)(hc:X.calm=true:=by rfl)(he:gM X e es:=by rfl)(hpl:fW X pos es:=by rfl):LE X κ (.Call (.Name "max" p) (e::es) [] pos) (bd fs jm):=.mk (aH (iY (y9d hc) hg hm PyProof.Rows.boot_max ha.pe (by decide) (by decide) he hpl) λ_ _ _ q=>c3 uu q)
theorem BS(hr:y4a k X.A)(hm:X.mg "min" = none)(ha:LA X κ (e::es) fs)(hg:Gl X "min":=by rfl)(hc:X.calm=true:=by rfl)(he:gM X e es:=by rfl)(hpl:fW X pos es:=by rfl):LE X κ (.Call (.Name "min" p) (e::es) [] pos) (bd fs oH):=.mk (aH (iY (y9e hc) hg hm PyProof.Rows.boot_min ha.pe (by decide) (by decide) he hpl) λ_ _ _ q=>c3 uu q)
theorem BU(hl:X.mg "list" = none)(hv:X.mg "reversed" = none)(h:LE X κ e fa)(hc:X.calm=true:=by rfl)(gl:Gl X "list":=by rfl)(gr:Gl X "reversed":=by rfl)(hs1:starEach [e] X.env=[(false,eval e X.env)]:=by rfl)
  (hs2:starEach [.Call (.Name "reversed" p2) [e] [] q2] X.env=[(false,eval (.Call (.Name "reversed" p2) [e] [] q2) X.env)]:=by rfl):LE X κ (.Call (.Name "list" p1) [.Call (.Name "reversed" p2) [e] [] q2] [] q1) (bS iq fa):=.mk (aH (Af hc gl hl gr hv h.pe hs1 hs2) λ_ _ _ q=>gg BP q)
end
end
section
section
variable {X:Cx}{K:W.Frag}{κ:Str->Addr}{ι:List Addr}{H:Hp}{σ:L2.St}
noncomputable def cR:Mo (List Ev):=rt []
noncomputable def cF(f:Mo Ev):Mo (List Ev):=one f
noncomputable def gw:List Ev->Option (Option Int)
 | []=>some none
 | [.v (.im (.int i))]=>some (some i)
 | _=>none
noncomputable def jV(K:W.Frag)(κ:Str->Addr)(f:Mo (List Ev)):TO:=λσ H Q=>∃ι Z G es o Z' G',SR K κ ι H σ Z G/\f Z G=some (es,Z',G')/\gw es=some o/\∀vs ι' H',After K κ σ ι (own σ Z++ι) H es Z' G' vs ι' H'->Q o H'
theorem ir:PO X none (jV X.K κ cR):=λpins s σ H Q I h=>nz pins s σ H Q I (by
 obtain⟨ι,Z,G,es,o,Z',G',s,e,p,k⟩:=h
 cases e;cases p
 exact k _ _ _ (After.nil s))
theorem iu (h:LE X κ e f):PO X (some e) (jV X.K κ (cF f)):=λpins s σ H Q I q=>rF h.pe pins s σ H Q I (by
 obtain⟨ι,Z,G,es,o,Z',G',s,e,p,k⟩:=q
 obtain⟨x,Z1,G1,e1,e2⟩:=bH e
 cases e2
 refine⟨ι,Z,G,x,_,_,s,e1,λv ι1 H1 a=>?_⟩
 unfold gw at p
 split at p
 ·rename_i hq;cases hq
 ·rename_i i hq
  cases p
  cases hq
  have r:=a.ar.im (j:=0) rfl rfl
  cases b4 (r)
  exact⟨i,rfl,k _ _ _ a⟩
 ·cases p)
noncomputable def gx(xs:List I)(lo hi:Option Int):List I:=(xs.drop (HT.sIx xs.length 0 lo)).take (HT.sIx xs.length xs.length hi-HT.sIx xs.length 0 lo)
theorem y4c.cut{vs:List V}{xs:List I}(r:y4c K ι H vs xs)(lo hi:Option Int):y4c K ι H (i3 vs lo hi) (gx xs lo hi):=by
 unfold i3 gx
 rw [r.len]
 exact (r.drop _).take _
noncomputable def fz(lo hi:Option Int):List Ev->Mo Ev:=λes Z G=>match es with
 | .v (.im (.tup xs))::_=>some (.v (.im (.tup (gx xs lo hi))),Z,G)
 | .v (.im (.str z))::_=>if z.length≤1000000 then some (.v (.im (.str (Txt.slice z lo hi))),Z,G) else none
 | a::_=>if cu a then match sq Z G a with
  | some xs=>some (.v (.ow (.lst (gx xs lo hi))),Z,G)
  | none=>none
  else none
 | _=>none
noncomputable def df(fe:Mo Ev)(fl fh:Mo (List Ev)):Mo Ev:=bd fe λx=>bd fl λls=>bd fh λhs=>λZ G=>match gw ls,gw hs with
 | some lo,some hi=>fz lo hi (x::(ls++hs)) Z G
 | _,_=>none
theorem oJ{Z:De}{G:List M}{e:Ev}{es:List Ev}{v:V}{vs:List V}{xs:List I}(a:Args K κ ι H σ Z G (e::es) (v::vs))(h:sq Z G e=some xs)(n:cu e=true):∃b ys,v=.ref b/\aP K H b ys/\y4c K ι H ys xs:=by
 have y156:(match B.pk Z G e with|some (.lst xs)=>some xs|_=>none)=some xs->∃b ys,v=.ref b/\aP K H b ys/\y4c K ι H ys xs:=λq=>by
  split at q
  ·rename_i xs' e'
   cases q
   obtain⟨b,e1,ys,h3,r⟩:=a.pk (j:=0) rfl rfl e'
   exact⟨b,ys,e1,aP.of h3,r⟩
  ·cases q
 cases e with
 | s i=>exact y156 h
 | v x =>
  cases x with
  | ow m=>exact y156 h
  | im d =>
   have r:=a.im (j:=0) rfl rfl
   cases r with
   | tup q r=>cases n
   | con q r=>cases n
   | fro q r=>cases h;exact⟨_,_,rfl,q.sq,r⟩
   | ref q=>exact y156 h
   | non=>exact y156 h
   | bl=>exact y156 h
   | int=>exact y156 h
   | str=>exact y156 h
   | ty=>exact y156 h
noncomputable def BV(K:W.Frag):V->Option Int->Option Int->Hp->VK->Prop:=λx lo hi H Q=>rP K x lo hi H Q∨(sy x lo hi H Q∨sj x lo hi H Q)
theorem BW{fe:Mo Ev}{fl fh:Mo (List Ev)}{Q:VK}(h:aK K κ (df fe fl fh) σ H Q):tSl (BV K) (aK K κ fe) (jV K κ fl) (jV K κ fh) σ H Q:=by
 obtain⟨ι,Z,G,e,Z',G',s,eq,k⟩:=h
 obtain⟨x,Z1,G1,e1,eq1⟩:=bH eq
 obtain⟨ls,Z2,G2,e2,eq2⟩:=bH eq1
 obtain⟨hs,Z3,G3,e3,eq3⟩:=bH eq2
 split at eq3
 ·rename_i lo hi hlo hhi
  refine⟨ι,Z,G,x,Z1,G1,s,e1,λv ι1 H1 a1=>?_⟩
  refine⟨ι1,Z1,G1,ls,lo,Z2,G2,a1.ar.base,e2,hlo,λvs ι2 H2 a2=>?_⟩
  refine⟨ι2,Z2,G2,hs,hi,Z3,G3,a2.ar.base,e3,hhi,λws ι3 H3 a3=>?_⟩
  have a23:=a2.app a3
  have a:=a1.app a23
  have fin:∀{v':V} {ι':List Addr} {H':Hp},After K κ σ ι3 (own (σ++tS ([x]++(ls++hs)) ([v]++(vs++ws))) (Z3++tD ([x]++(ls++hs)))++ι3) H3 [e] Z' G' [v'] ι' H'->Q v' H':=λb=>k _ _ _ (a.then b)
  have ar:Args K κ ι3 H3 σ Z3 G3 (x::(ls++hs)) (v::(vs++ws)):=a.ar
  unfold fz at eq3
  split at eq3
  ·rename_i xs aS hq
   cases hq
   have r:=ar.im (j:=0) rfl rfl
   obtain⟨_,_,rfl,h1,h2⟩:=fZ r
   refine .inr (.inl ⟨_,_,rfl,h1,λb H' hb kp=>?_⟩)
   exact fin (bp eq3 (nS a.ar kp (.tup hb ((h2.cut lo hi).mono (bo.refl _) (Kp.same kp)))))
  ·rename_i z aS hq
   cases hq
   split at eq3
   ·rename_i hz
    cases eZ (ar.im (j:=0) rfl rfl)
    exact .inr (.inr ⟨z,rfl,z27 hz (by decide),fin (bp eq3 (a8 a.ar (.str _)))⟩)
   ·cases eq3
  ·rename_i a0 aS _ _ hq
   cases hq
   split at eq3
   ·rename_i hn
    split at eq3
    ·rename_i xs hx
     obtain⟨b,ys,e4,h1,r⟩:=oJ ar hx hn
     exact .inl ⟨b,ys,e4,h1,λp hp=>fin (bp eq3 (eA a.ar hp (r.cut lo hi)))⟩
    ·cases eq3
   ·cases eq3
  ·cases eq3
 ·cases eq3
noncomputable def cS(xs:List I)(lo hi st:Option Int):List I:=(sliceRange (sliceBounds lo hi st xs.length).1 (sliceBounds lo hi st xs.length).2.1 (sliceBounds lo hi st xs.length).2.2).filterMap (xs[·]?)
theorem y4c.filt{vs:List V}{xs:List I}(r:y4c K ι H vs xs):∀js:List Nat,y4c K ι H (js.filterMap (vs[·]?)) (js.filterMap (xs[·]?))
 | []=>.nil
 | j::js=>by
  cases e:xs[j]? with
  | none=>simp only [List.filterMap_cons,e,r.none_of e];exact y4c.filt r js
  | some x =>
   obtain⟨v,hv,rv⟩:=r.get e
   simp only [List.filterMap_cons,e,hv]
   exact .cons rv (y4c.filt r js)
theorem y4c.pick{vs:List V}{xs:List I}(r:y4c K ι H vs xs)(lo hi st:Option Int):y4c K ι H (dH vs lo hi st) (cS xs lo hi st):=by
 unfold dH cS
 rw [r.len]
 exact r.filt _
noncomputable def jo(fe:Mo Ev)(fl fh:Mo (List Ev))(fk:Mo Ev):Mo Ev:=bd fe λx=>bd fl λls=>bd fh λhs=>bd (one fk) λks=>λZ G=>match gw ls,gw hs,gw ks with
 | some lo,some hi,some (some c)=>if c≠0/\cu x then match sq Z G x with
  | some xs=>some (.v (.ow (.lst (cS xs lo hi (some c)))),Z,G)
  | none=>none
  else none
 | _,_,_=>none
theorem BX{fe fk:Mo Ev}{fl fh:Mo (List Ev)}{Q:VK}(h:aK K κ (jo fe fl fh fk) σ H Q):nI K (aK K κ fe) (jV K κ fl) (jV K κ fh) (ny (aK K κ fk)) σ H Q:=by
 obtain⟨ι,Z,G,e,Z',G',s,eq,k⟩:=h
 obtain⟨x,Z1,G1,e1,eq1⟩:=bH eq
 obtain⟨ls,Z2,G2,e2,eq2⟩:=bH eq1
 obtain⟨hs,Z3,G3,e3,eq3⟩:=bH eq2
 obtain⟨ks,Z4,G4,e4,eq4⟩:=bH eq3
 obtain⟨y,Z5,G5,e5,eq5⟩:=bH e4
 cases eq5
 split at eq4
 ·rename_i lo hi c hlo hhi hk
  split at eq4
  ·rename_i hc
   split at eq4
   ·rename_i xs hx
    refine⟨ι,Z,G,x,Z1,G1,s,e1,λv ι1 H1 a1=>?_⟩
    refine⟨ι1,Z1,G1,ls,lo,Z2,G2,a1.ar.base,e2,hlo,λvs ι2 H2 a2=>?_⟩
    refine⟨ι2,Z2,G2,hs,hi,Z3,G3,a2.ar.base,e3,hhi,λws ι3 H3 a3=>?_⟩
    refine⟨ι3,Z3,G3,y,_,_,a3.ar.base,e5,λu ι4 H4 a4=>?_⟩
    have a:=a1.app (a2.app (a3.app a4))
    have ar:Args K κ ι4 H4 σ _ _ (x::(ls++(hs++[y]))) (v::(vs++(ws++[u]))):=a.ar
    unfold gw at hk
    split at hk
    ·rename_i hq;cases hq
    ·rename_i i hq
     cases hk
     cases hq
     have r:=a4.ar.im (j:=0) rfl rfl
     cases b4 (r)
     obtain⟨b,ys,e6,h1,r⟩:=oJ ar hx hc.2
     exact⟨c,rfl,b,ys,e6,h1,λz=>hc.1 (by cases z;rfl),λp hp=>k _ _ _ (bp eq4 (a.then (eA a.ar hp (r.pick lo hi (some c)))))⟩
    ·cases hk
   ·cases eq4
  ·cases eq4
 ·cases eq4
noncomputable def jq:List Ev->Mo Ev:=λes Z G=>match es with
 | [.v (.im (.tup xs))]=>some (.v (.im (.tup xs.reverse)),Z,G)
 | [a]=>if cu a then match sq Z G a with
  | some xs=>some (.v (.ow (.lst xs.reverse)),Z,G)
  | none=>none
  else none
 | _=>none
theorem nH(xs:List V):dH xs none none (some (-1))=xs.reverse:=by
 obtain⟨h1,h2⟩:=AH xs
 refine List.ext_getElem? λj=>?_
 by_cases hj:j<xs.length
 ·rw [h2 j hj,List.getElem?_reverse hj]
 ·rw [List.getElem?_eq_none_iff.mpr (by lia),List.getElem?_eq_none_iff.mpr (by rw [z2f];lia)]
theorem BY{fe:Mo Ev}{tk:TO}{Q:VK}(htk:∀σ H Q,Q (some (-1)) H->tk σ H Q)(h:aK K κ (bS jq fe) σ H Q):sv K (aK K κ fe) σ H Q∨nI K (aK K κ fe) nv nv tk σ H Q:=by
 obtain⟨ι,Z,G,e,Z',G',s,eq,k⟩:=h
 obtain⟨x,Z1,G1,e1,eq1⟩:=bH eq
 unfold jq at eq1
 split at eq1
 ·rename_i xs hq
  cases hq
  refine .inl ⟨ι,Z,G,_,_,_,s,e1,λv ι1 H1 a=>?_⟩
  have r:=a.ar.im (j:=0) rfl rfl
  obtain⟨_,_,rfl,h1,h2⟩:=fZ r
  exact⟨_,_,rfl,aO.of h1,λp hp=>k _ _ _ (bp eq1 (a.then (kL a.ar hp h2.rev)))⟩
 ·rename_i a0 _ hq
  cases hq
  split at eq1
  ·rename_i hn
   split at eq1
   ·rename_i xs hx
    refine .inr ⟨ι,Z,G,_,_,_,s,e1,λv ι1 H1 a=>?_⟩
    refine htk _ _ _ ?_
    obtain⟨b,ys,e6,h1,r⟩:=oJ a.ar hx hn
    refine⟨b,ys,e6,h1,(by decide),λp hp=>?_⟩
    rw [nH]
    exact k _ _ _ (bp eq1 (a.then (eA a.ar hp r.rev)))
   ·cases eq1
  ·cases eq1
 ·cases eq1
end
section
variable {X:Cx}{κ:Str->Addr}{a b e st:Expr}{fa fb:Mo Ev}{fl fh:Mo (List Ev)}{lo hi:Option Expr}{pos p2:Pos}{k:Nat}
theorem lz(h:LE X κ e fa)(hl:PO X lo (jV X.K κ fl))(hh:PO X hi (jV X.K κ fh)):LE X κ (.Subscript e (.Slice lo hi none p2) pos) (df fa fl fh):=.mk (aH (zx (zL.or (Aq.or Ah)) h.pe hl hh) λ_ _ _=>BW)
theorem uv(h:LE X κ e fa)(hl:PO X lo (jV X.K κ fl))(hh:PO X hi (jV X.K κ fh))(hs:LE X κ st fb):LE X κ (.Subscript e (.Slice lo hi (some st) p2) pos) (jo fa fl fh fb):=.mk (aH (sA h.pe hl hh hs.pe) λ_ _ _=>BX)
theorem uw{pu pc:Pos}{j}(h:LE X κ e fa):LE X κ (.Subscript e (.Slice none none (some (.UnaryOp .USub (.Constant (.int 1) j pc) pu)) p2) pos) (bS jq fa):=.mk (aH (mT (Ap h.pe (mZ nc mP) λ_ _ _ q=>⟨1,rfl,q⟩) (sA h.pe nz nz (mZ nc mP))) λ_ _ _ q=>BY (λ_ _ _ q=>⟨1,rfl,⟨_,rfl,q⟩⟩) q)
end
end
section
section
variable {X:Cx}{K:W.Frag}{κ:Str->Addr}{ι:List Addr}{H:Hp}{σ:L2.St}
noncomputable def eL(Z:De)(G:List M)(e:Ev):Bool:=match pk Z G e with
 | some (.lst _)=>true
 | _=>false
noncomputable def iw(p:List Ev->Mo Ev)(fo:Mo Ev)(fa:Mo (List Ev)):Mo Ev:=bd fo λe=>λZ G=>if eL Z G e then bd fa (λes=>p (e::es)) Z G else none
noncomputable def rM(r:V->List V->Hp->VK->Prop):List V->Hp->VK->Prop:=λvs H Q=>∃x xs,vs=x::xs/\r x xs H Q
theorem ux{Z:De}{G:List M}{e:Ev}{v:V}{fp:List Addr}{H0:Hp}{ι0:List Addr}(a:After K κ σ ι0 fp H0 [e] Z G [v] ι H)(h:eL Z G e=true):rR K "list" v H:=by
 unfold eL at h
 split at h
 ·rename_i xs hp
  obtain⟨b,e1,ys,h1,r⟩:=a.ar.pk (j:=0) rfl rfl hp
  subst e1
  exact .inl ⟨rfl,ys,aP.of h1⟩
 ·cases h
theorem uz{p:List Ev->Mo Ev}{fo:Mo Ev}{fa:Mo (List Ev)}{r:V->List V->Hp->VK->Prop}{Q:VK}(hp:aw K κ (rM r) p)(h:aK K κ (iw p fo fa) σ H Q):zO K "list" r (aK K κ fo) (gG K κ fa) σ H Q:=by
 obtain⟨ι,Z,G,e,Z',G',s,eq,k⟩:=h
 obtain⟨x,Z1,G1,e1,eq1⟩:=bH eq
 split at eq1
 ·rename_i hl
  obtain⟨es,Z2,G2,e2,eq2⟩:=bH eq1
  refine⟨ι,Z,G,x,Z1,G1,s,e1,λv ι1 H1 a1=>⟨ux a1 hl,?_⟩⟩
  refine⟨ι1,Z1,G1,es,Z2,G2,a1.ar.base,e2,λvs ι2 H2 a2=>?_⟩
  have a:=a1.app a2
  obtain⟨y,ys,ey,q⟩:=hp _ _ _ _ _ _ _ _ _ _ Q a.ar eq2 λv ι3 H3 d=>k _ _ _ (a.then d)
  cases ey
  exact q
 ·cases eq1
theorem BZ{p:List Ev->Mo Ev}{fo:Mo Ev}{r:V->List V->Hp->VK->Prop}{Q:VK}(hp:aw K κ (rM r) p)(hl:∀e Z G z,p [e] Z G=some z->eL Z G e=true)(h:aK K κ (bS p fo) σ H Q):rT K "list" r (aK K κ fo) σ H Q:=by
 obtain⟨ι,Z,G,e,Z',G',s,eq,k⟩:=h
 obtain⟨x,Z1,G1,e1,eq1⟩:=bH eq
 refine⟨ι,Z,G,x,Z1,G1,s,e1,λv ι1 H1 a1=>⟨ux a1 (hl _ _ _ _ eq1),?_⟩⟩
 obtain⟨y,ys,ey,q⟩:=hp _ _ _ _ _ _ _ _ _ _ Q a1.ar eq1 λv ι3 H3 d=>k _ _ _ (a1.then d)
 cases ey
 exact q
noncomputable def jr:List Ev->Mo Ev:=λes Z G=>match es with
 | [a,.v (.im d)]=>match pk Z G a with
  | some (.lst xs)=>if xs.length<1000000 then some (.v (.im .non),(dU Z G (.lst (xs++[d])) a).1,(dU Z G (.lst (xs++[d])) a).2) else none
  | _=>none
 | _=>none
theorem B0:aw K κ (rM rX) jr:=by
 intro ι H σ Z G es vs e Z' G' Q a h k
 unfold jr at h
 split at h
 ·rename_i x d
  split at h
  ·rename_i xs hx
   split at h
   ·rename_i hl
    obtain⟨v,u,rfl⟩:=bR a.len
    obtain⟨b,e1,ys,h1,r⟩:=a.pk (j:=0) rfl rfl hx
    subst e1
    have ru:=a.im (j:=1) rfl rfl
    have l1:=r.len
    refine⟨_,_,rfl,b,ys,u,rfl,rfl,h1,z19 (by lia) (show 1000000≤sizeLine by decide),k _ _ _ (bp h (gP a (j:=0) rfl rfl hx (λ_ kp=>⟨_,aJ,(r.app (.cons ru .nil)).mono (bo.refl _) kp⟩) .non))⟩
   ·cases h
  ·cases h
 ·cases h
noncomputable def gy:List Ev->Mo Ev:=λes Z G=>match es with
 | [a]=>match pk Z G a with
  | some (.lst xs)=>match xs[xs.length-1]? with
   | some d=>some (.v (.im d),(dU Z G (.lst xs.dropLast) a).1,(dU Z G (.lst xs.dropLast) a).2)
   | none=>none
  | _=>none
 | _=>none
theorem y4c.dropLast{vs:List V}{xs:List I}(r:y4c K ι H vs xs):y4c K ι H vs.dropLast xs.dropLast:=by
 rw [List.dropLast_eq_take,List.dropLast_eq_take,r.len]
 exact r.take _
theorem B1:aw K κ (rM rZ) gy:=by
 intro ι H σ Z G es vs e Z' G' Q a h k
 unfold gy at h
 split at h
 ·rename_i x
  split at h
  ·rename_i xs hx
   split at h
   ·rename_i d hd
    obtain⟨v,rfl⟩:=bq a.len
    obtain⟨b,e1,ys,h1,r⟩:=a.pk (j:=0) rfl rfl hx
    subst e1
    obtain⟨w,hw,rw'⟩:=r.get hd
    refine⟨_,_,rfl,b,ys,w,rfl,rfl,h1,by rw [r.len];exact hw,k _ _ _ (bp h (gP a (j:=0) rfl rfl hx (λ_ kp=>⟨_,aJ,r.dropLast.mono (bo.refl _) kp⟩) rw'))⟩
   ·cases h
  ·cases h
 ·cases h
theorem B2(e:Ev)(Z:De)(G:List M)(z:Ev×De×List M)(h:gy [e] Z G=some z):eL Z G e=true:=by
 unfold gy at h
 dsimp only at h
 unfold eL
 split at h
 ·rfl
 ·cases h
noncomputable def dO:List Ev->De->List M->Option (De×List M):=λes Z G=>match es with
 | [.v (.im d),a,.v (.im x)]=>match pk Z G a with
  | some (.lst xs)=>match x with
   | .int i=>match iT xs.length i with
    | some j=>some (dU Z G (.lst (xs.set j d)) a)
    | none=>none
   | _=>none
  | some (.dic kvs)=>match dv x with
   | some k=>if kvs.length<1000000 then some (dU Z G (.dic (aE kvs k d)) a) else none
   | none=>none
  | some (.dit kvs)=>match cQ x with
   | some k=>if kvs.length<1000000 then some (dU Z G (.dit (aE kvs k d)) a) else none
   | none=>none
  | _=>none
 | _=>none
noncomputable def cv(fo fi fv:Mo Ev):SF:=λZ G=>match bd fv (λv=>bd fo λo=>bd fi λi=>rt [v,o,i]) Z G with
 | some (es,Z1,G1)=>match dO es Z1 G1 with
  | some (Z2,G2)=>some (.nx Z2 G2)
  | none=>none
 | none=>none
theorem B3{fo fi fv:Mo Ev}{D:Ends}(h:cA K κ (cv fo fi fv) D σ H):j5 (aK K κ fv) (qq (aK K κ fo) (aK K κ fi) rO) D σ H∨rg (aK K κ fo) (aK K κ fi) (aK K κ fv) D σ H:=by
 obtain⟨ι,Z,G,fl,s,eq,k⟩:=h
 unfold cv at eq
 split at eq
 ·rename_i es Ze Ge ee
  obtain⟨v,Z1,G1,e1,ee⟩:=bH ee
  obtain⟨o,Z2,G2,e2,ee⟩:=bH ee
  obtain⟨i,Z3,G3,e3,ee⟩:=bH ee
  cases ee
  split at eq
  ·rename_i Z4 G4 e4
   cases eq
   have go:∀{vv ov iv:V} {ι3:List Addr} {H3:Hp},After K κ σ ι (own σ Z++ι) H [v,o,i] Ze Ge [vv,ov,iv] ι3 H3 ->
     (∃p xs kk j,ov=.ref p/\iv=.int kk/\H3 p=some (.lst xs)/\iT xs.length kk=some j/\D.nx σ (ax H3 p (.lst (xs.set j vv))))∨(∃a H4,ov=.ref a/\yf H3 a iv vv H4/\D.nx σ H4):=λ{vv ov iv ι3 H3} a=>by
    unfold dO at e4
    split at e4
    ·rename_i d a0 x hq
     cases hq
     have rv:=a.ar.im (j:=0) rfl rfl
     have rx:=a.ar.im (j:=2) rfl rfl
     have nxt:∀{m m':M} {b:Addr} {ob:HO},sI m=false->pk Ze Ge o=some m->ov=.ref b->(cz K κ ι3 H3 b m->Kp H3 (ax H3 b ob)->cz K κ ι3 (ax H3 b ob) b m')->(dU Ze Ge m' o=(Z4,G4))->D.nx σ (ax H3 b ob):=λhf hp eo hr he=>by
      subst eo
      have f:=gP a.ar (j:=1) rfl rfl hp hr (RpI.non) hf
      obtain⟨p,q⟩:=(a.then f).drop
      rw [he] at p q
      exact k _ _ _ p q
     split at e4
     ·rename_i xs hp
      cases rx with
      | int kk =>
       dsimp only at e4
       split at e4
       ·rename_i j hj
        obtain⟨b,eb,ys,h1,r⟩:=a.ar.pk (j:=1) rfl rfl hp
        have l:=r.len
        exact .inl ⟨b,ys,kk,j,eb,rfl,h1,by rw [l];exact hj,nxt (m':=.lst (xs.set j d)) rfl hp eb (λ_ kp=>⟨_,aJ,(r.set j rv).mono (bo.refl _) kp⟩) (z2a e4)⟩
       ·cases e4
      | _=>cases e4
     ·rename_i kvs hp
      split at e4
      ·rename_i kk hk
       split at e4
       ·rename_i hl
        obtain⟨b,eb,ws,h1,h2,r⟩:=a.ar.pk (j:=1) rfl rfl hp
        have ek:=lg rx hk
        subst ek
        have l:ws.length=kvs.length:=by have:=congrArg List.length h2;simpa using this
        refine .inr ⟨b,_,eb,yf.k h1 (z19 (by lia) (show 1000000≤sizeLine by decide)),nxt rfl hp eb (λ_ kp=>?_) (z2a e4)⟩
        obtain⟨p,q⟩:=jk rv h2 r
        exact⟨_,aJ,p,q.mono (bo.refl _) kp⟩
       ·cases e4
      ·cases e4
     ·rename_i kvs hp
      split at e4
      ·rename_i kk hk
       split at e4
       ·rename_i hl
        obtain⟨b,eb,ws,h1,h2,r⟩:=a.ar.pk (j:=1) rfl rfl hp
        obtain⟨c,ek,hc⟩:=lh rx hk
        subst ek
        have l:ws.length=kvs.length:=by have:=congrArg List.length h2;simpa using this
        refine .inr ⟨b,_,eb,yf.t h1 hc (z19 (by lia) (show 1000000≤sizeLine by decide)),nxt rfl hp eb (λ_ kp=>?_) (z2a e4)⟩
        obtain⟨p,q⟩:=jk (k:=kk) rv h2 r
        exact⟨_,aJ,p,q.mono (bo.refl _) kp⟩
       ·cases e4
      ·cases e4
     ·cases e4
    ·cases e4
   by_cases hl:∃xs,pk Ze Ge o=some (.lst xs)
   ·left
    refine⟨ι,Z,G,v,Z1,G1,s,e1,λvv ι1 H1 a1=>?_⟩
    refine⟨ι1,Z1,G1,o,Z2,G2,a1.ar.base,e2,λov ι2 H2 a2=>?_⟩
    refine⟨ι2,Z2,G2,i,_,_,a2.ar.base,e3,λiv ι3 H3 a3=>?_⟩
    have a:=a1.app (a2.app a3)
    rcases go a with q|⟨a',H4,ea,dp,q⟩
    ·exact q
    ·exfalso
     obtain⟨xs,hx⟩:=hl
     obtain⟨b,eb,ys,h1,r⟩:=a.ar.pk (j:=1) rfl rfl hx
     rw [ea] at eb;cases eb
     rcases dp with⟨_,_,h2,_⟩| ⟨_,_,_,h2,_⟩<;>(rw [h1] at h2;cases h2)
   ·right
    refine⟨ι,Z,G,v,Z1,G1,s,e1,λvv ι1 H1 a1=>?_⟩
    refine⟨ι1,Z1,G1,o,Z2,G2,a1.ar.base,e2,λov ι2 H2 a2=>?_⟩
    refine⟨ι2,Z2,G2,i,_,_,a2.ar.base,e3,λiv ι3 H3 a3=>?_⟩
    have a:=a1.app (a2.app a3)
    rcases go a with⟨p,xs,kk,j,eo,_,h1,_,_⟩| q
    ·exfalso
     unfold dO at e4
     split at e4
     ·rename_i d a0 x hq
      cases hq
      split at e4
      ·rename_i ys hp;exact hl ⟨ys,hp⟩
      ·rename_i kvs hp
       obtain⟨b,eb,ws,h2,_⟩:=a.ar.pk (j:=1) rfl rfl hp
       rw [eo] at eb;cases eb
       rw [h1] at h2;cases h2
      ·rename_i kvs hp
       obtain⟨b,eb,ws,h2,_⟩:=a.ar.pk (j:=1) rfl rfl hp
       rw [eo] at eb;cases eb
       rw [h1] at h2;cases h2
      ·cases e4
     ·cases e4
    ·exact q
  ·cases eq
 ·cases eq
end
section
variable {X:Cx}{κ:Str->Addr}{a b e o:Expr}{es:List Expr}{fa fb fv:Mo Ev}{fs:Mo (List Ev)}{pos apos yb8 pos':Pos}{k:Nat}
theorem uA(hr:y4a k X.A)(ho:LE X κ o fa)(ha:LA X κ (e::es) fs)(y189:attributeBase o "append" X.env (eval o X.env)=eval o X.env:=by rfl)
  (y18e:((backTo yb8 (starEach (e::es) X.env)).all (λx=>!x.1)&&(backToKw yb8 (keywordEach [] X.env)).all (λx=>x.1.isSome)&&decide ((e::es).length+([]:List Keyword).length+(if ([]:List Keyword).isEmpty then 0 else 1)<30))=true:=by rfl)
  (y195:(apos.endLine == yb8.line)=true:=by rfl) (hs:starEach (e::es) X.env=(false,eval e X.env)::starEach es X.env:=by rfl) (y199:(backTo yb8 (starEach es X.env)).any (·.1)=false:=by rfl):LE X κ (.Call (.Attribute o "append" apos) (e::es) [] yb8) (iw jr fa fs):=.mk (aH (kq PySem.F.plainAttrs_list PySem.F.slot_list_append PySem.F.type_list_append rY ho.pe ha.pe y189 y18e y195 hs y199) λ_ _ _=>uz B0)
theorem B4(ho:LE X κ o fa)(y189:attributeBase o "pop" X.env (eval o X.env)=eval o X.env:=by rfl)(y195:(apos.endLine == yb8.line)=true:=by rfl):LE X κ (.Call (.Attribute o "pop" apos) [] [] yb8) (bS gy fa):=.mk (aH (zP PySem.F.plainAttrs_list PySem.F.slot_list_pop PySem.F.type_list_pop zS ho.pe y189 y195) λ_ _ _=>BZ B1 B2)
theorem fA(hr:y4a k X.A)(ho:LE X κ o fa)(hi:LE X κ e fb)(hv:LE X κ a fv)(hs:swapsWith a (some (.Subscript o e pos')) pos.line X.env=pure false:=by rfl)(hs1:swapsWithSole [.Subscript o e pos'] a pos.line X.env=pure false:=by rfl)
  (hw:swappedStores [.Subscript o e pos'] a X.env=pure none:=by rfl) (h1:(assignEach [.Subscript o e pos'] X.env).map (·.2)=[assign (.Subscript o e pos') X.env]:=by rfl)
  (ha:∀v,assign (.Subscript o e pos') X.env v=(do
   let ov <- holding [v] (eval o X.env)
   let iv <- holding [v,ov] (eval e X.env)
   standAt pos'
   holding [v,ov,iv] (setItem ov iv v)
   release [v,ov,iv] []):=by intro _;rfl):LS X κ (.Assign [.Subscript o e pos'] a pos) (cv fa fb fv):=.mk (c8 (tL (qr hv.pe (xY ho.pe hi.pe i4 ha) hs1 hw h1) (zm (nD hr) ho.pe hi.pe hv.pe hs)) λ_ _ _=>B3)
end
end
section
section
variable {X:Cx}{K:W.Frag}{κ:Str->Addr}{ι:List Addr}{H:Hp}{σ:L2.St}
noncomputable def jt:Mo Ev:=rt (.v (.ow (.dic [])))
noncomputable def iy:Mo Ev:=rt (.v (.ow (.dit [])))
theorem B5{Q:VK}(h:aK K κ jt σ H Q):rh σ H Q:=by
 obtain⟨ι,Z,G,e,Z',G',s,eq,k⟩:=h
 cases eq
 intro p hp
 have a:=i7 (After.nil s).ar hp (m:=.dic []) ⟨[],aJ,rfl,.nil⟩
 exact k _ _ _ ⟨a.ar,(After.nil s).st.trans a.st⟩
theorem B6{Q:VK}(h:aK K κ iy σ H Q):rj σ H Q:=by
 obtain⟨ι,Z,G,e,Z',G',s,eq,k⟩:=h
 cases eq
 intro p hp
 have a:=i7 (After.nil s).ar hp (m:=.dit []) ⟨[],aJ,rfl,.nil⟩
 exact k _ _ _ ⟨a.ar,(After.nil s).st.trans a.st⟩
noncomputable def uB(K:W.Frag)(κ:Str->Addr)(trs:List (TE×TE))(f:Mo (List Ev)):Prop:=∀σ H Q,gG K κ f σ H (λvs H1=>∀ps:List (V×V),vs=ps.flatMap (λp=>[p.1,p.2])->Q ps H1)->ki trs σ H Q
noncomputable def oK:Mo (List Ev):=rt []
noncomputable def ju(fk fv:Mo Ev)(r:Mo (List Ev)):Mo (List Ev):=bd fk λa=>bd fv λb=>bd r λes=>rt (a::b::es)
theorem B7:uB K κ [] oK:=λσ H Q h=>by
 obtain⟨ι,Z,G,es,Z',G',s,e,k⟩:=h
 cases e
 exact k _ _ _ (After.nil s) [] rfl
theorem B8{fk fv:Mo Ev}{r:Mo (List Ev)}{trs:List (TE×TE)}(hr:uB K κ trs r):uB K κ ((aK K κ fk,aK K κ fv)::trs) (ju fk fv r):=λσ H Q h=>by
 obtain⟨ι,Z,G,es,Z',G',s,e,k⟩:=h
 obtain⟨x,Z1,G1,e1,e⟩:=bH e
 obtain⟨y,Z2,G2,e2,e⟩:=bH e
 obtain⟨zs,Z3,G3,e3,e⟩:=bH e
 cases e
 refine⟨ι,Z,G,x,Z1,G1,s,e1,λv ι1 H1 a1=>?_⟩
 refine⟨ι1,Z1,G1,y,Z2,G2,a1.ar.base,e2,λw ι2 H2 a2=>?_⟩
 refine hr _ _ _ ⟨ι2,Z2,G2,zs,_,_,a2.ar.base,e3,λvs ι3 H3 a3 ps hps=>?_⟩
 exact k _ _ _ (a1.app (a2.app a3)) ((v,w)::ps) (by rw [hps];rfl)
noncomputable def iz:List Ev->Option (List (ai×I))
 | []=>some []
 | .v (.im x)::.v (.im d)::r=>match dv x,iz r with
  | some k,some ps=>some ((k,d)::ps)
  | _,_=>none
 | _=>none
noncomputable def iA(ps:List (ai×I)):List (ai×I):=ps.foldl (λacc kv=>aE acc kv.1 kv.2) []
noncomputable def oM(f:Mo (List Ev)):Mo Ev:=bd f λes Z G=>match iz es with
 | some ps=>if ps.length≤15 then some (.v (.ow (.dic (iA ps))),Z,G) else none
 | none=>none
theorem uC:∀{es:List Ev} {vs:List V} {ps:List (ai×I)},Paired (RpE K κ ι H) (tS es vs) (tD es)->es.length=vs.length->iz es=some ps ->
  ∃kvs:List (ai×V),vs=(kvs.map λkv=>(kV kv.1,kv.2)).flatMap (λp=>[p.1,p.2])/\kvs.map (·.1)=ps.map (·.1)/\y4c K ι H (kvs.map (·.2)) (ps.map (·.2))
 | [],[],_,_,_,h=>by cases h;exact⟨[],rfl,rfl,.nil⟩
 | [],_::_,_,_,l,_=>by cases l
 | _::_,[],_,_,l,_=>by cases l
 | [_],[_],_,_,_,h=>by
  unfold iz at h
  split at h
  ·rename_i hq;cases hq
  ·rename_i hq;cases hq
  ·cases h
 | [_],_::_::_,_,_,l,_=>by cases l
 | _::_::_,[_],_,_,l,_=>by cases l
 | a::b::es,v::w::vs,ps,p,l,h=>by
  unfold iz at h
  split at h
  ·rename_i hq;cases hq
  ·rename_i x d r hq
   cases hq
   split at h
   ·rename_i kk ps' hk hps
    cases h
    cases p with
    | cons p1 p =>
     cases p with
     | cons p2 p =>
      cases p1 with
      | im r1 =>
       cases p2 with
       | im r2 =>
        obtain⟨kvs,e1,e2,e3⟩:=uC p (by simpa using l) hps
        refine⟨(kk,w)::kvs,?_,?_,.cons r2 e3⟩
        ·rw [lg r1 hk,e1];rfl
        ·rw [z15,z15,e2]
   ·cases h
  ·cases h
theorem uD:∀{kvs:List (ai×V)} {ps:List (ai×I)} {acc:List (ai×V)} {ac:List (ai×I)},kvs.map (·.1)=ps.map (·.1)->y4c K ι H (kvs.map (·.2)) (ps.map (·.2))->acc.map (·.1)=ac.map (·.1)->y4c K ι H (acc.map (·.2)) (ac.map (·.2)) ->
  (fX acc kvs).map (·.1)=(ps.foldl (λacc kv=>aE acc kv.1 kv.2) ac).map (·.1)/\y4c K ι H ((fX acc kvs).map (·.2)) ((ps.foldl (λacc kv=>aE acc kv.1 kv.2) ac).map (·.2))
 | [],[],_,_,_,_,e,r=>⟨e,r⟩
 | [],_::_,_,_,e,_,_,_=>by cases e
 | _::_,[],_,_,e,_,_,_=>by cases e
 | (k,v)::kvs,(k',d)::ps,acc,ac,e,r,e',r'=>by
  simp only [z15,List.cons.injEq] at e
  obtain⟨e1,e2⟩:=e
  subst e1
  cases r with
  | cons r rs =>
   obtain⟨p,q⟩:=jk r e' r'
   have:=uD e2 rs p q
   exact this
theorem B9{trs:List (TE×TE)}{f:Mo (List Ev)}{Q:VK}(hf:uB K κ trs f)(h:aK K κ (oM f) σ H Q):rC trs σ H Q:=by
 obtain⟨ι,Z,G,e,Z',G',s,eq,k⟩:=h
 obtain⟨es,Z1,G1,e1,eq1⟩:=bH eq
 intro p hp
 split at eq1
 ·rename_i ps hps
  split at eq1
  ·rename_i hl
   cases eq1
   have sp:=s.y364 (m:=.dic []) hp ⟨[],aJ,rfl,.nil⟩
   have st0:=Step.y1f9 (ι:=ι) (Z:=Z) (o:=.dK []) (m:=.dic []) s.len hp
   refine hf _ _ _ ⟨ι,Z,G,es,_,_,sp.pop s.len,e1,λvs ι1 H1 a qs hqs=>?_⟩
   obtain⟨j1,j2⟩:=SR.join (Z1:=Z) sp s.len a.ar.sr a.ar.l a.st
   have hp1:H1 p=some (.dK []):=by
    refine a.st.keep p _ aJ λhm=>?_
    obtain⟨o,ho,_⟩:=s.mu hm
    rw [hp] at ho;cases ho
   obtain⟨kvs,ev,ek,rk⟩:=uC (bQ a.ar.l a.ar.sr.sl).2 a.ar.len hps
   have hq:qs=kvs.map λkv=>(kV kv.1,kv.2):=by
    rw [ev] at hqs
    have inj:∀{l1 l2:List (V×V)},l1.flatMap (λp=>[p.1,p.2])=l2.flatMap (λp=>[p.1,p.2])->l1=l2:=by
     intro l1
     induction l1 with
     | nil=>intro l2 h;cases l2 with
      | nil=>rfl
      | cons x l2=>simp at h
     | cons x l1 ih=>intro l2 h;cases l2 with
      | nil=>simp at h
      | cons y l2 =>
       simp only [List.flatMap_cons,List.cons_append,List.nil_append,List.cons.injEq] at h
       obtain⟨h1,h2,h3⟩:=h
       rw [ih h3,Prod.ext h1 h2]
    exact (inj hqs).symm
   have hkl:kvs.length≤15:=by have:=congrArg List.length ek;simp at this;lia
   refine⟨hp1,kvs,hq,hkl,?_⟩
   have l1:=a.ar.l
   have i1:(σ++([some (V.ref p)]++tS es vs))[σ.length]?=some (some (.ref p)):=by rw [z25 (z12 _),Nat.sub_self];rfl
   have i2:(Z'++([some (Vl.ow (.dic []))]++tD es))[σ.length]?=some (some (.ow (.dic []))):=by rw [l1,z25 (z12 _),Nat.sub_self];rfl
   obtain⟨q1,q2⟩:=j1.poke i1 i2 (m':=.dic (iA ps)) (λ_ kp=>by
    obtain⟨z1,z2⟩:=uD (acc:=[]) (ac:=[]) ek rk rfl .nil
    exact⟨_,aJ,z1,z2.mono (bo.refl _) kp⟩)
   have e5:∀(Zx:De),σ.length=Zx.length->(Zx++([some (Vl.ow (.dic []))]++tD es)).set σ.length (some (.ow (.dic (iA ps))))=(Zx++[some (.ow (.dic (iA ps)))])++tD es:=λZx l=>by
    rw [l,List.set_append_right _ _ (z12 _),Nat.sub_self];simp
   rw [e5 _ l1,<- z33 σ] at q1
   rw [e5 _ l1,<- z33 σ] at q2
   rw [<- z33 σ] at j2
   have l2:(σ++[some (V.ref p)]).length=(Z'++[some (Vl.ow (.dic (iA ps)))]).length:=by rw [z17,z17,l1];rfl
   refine k _ _ _ ⟨⟨l1,q1.pop l2,.cons (λ_ h=>by cases h) .nil⟩,?_⟩
   exact ((st0.trans j2).trans q2).sub λx hx=>b7 l2 hx
  ·cases eq1
 ·cases eq1
noncomputable def orV(fa fb:Mo Ev):Mo Ev:=bd fa λe=>λZ G=>match dr e Z G with
 | some (true,_,_)=>some (e,Z,G)
 | some (false,_,_)=>fb Z G
 | none=>none
end
section
variable {X:Cx}{κ:Str->Addr}{a b e o:Expr}{es:List Expr}{fa fb fv:Mo Ev}{fs:Mo (List Ev)}{p pos apos:Pos}{k n:Nat}
theorem yff:LE X κ (.Dict [] [] pos) jt:=.mk (aH zo λ_ _ _=>B5)
theorem oN:LE X κ (.Dict [] [] pos) iy:=.mk (aH zp λ_ _ _=>B6)
noncomputable def LP(X:Cx)(κ:Str->Addr)(pos:Pos)(keys:List (Option Expr))(vals:List Expr)(f:Mo (List Ev)):Prop:=∃trs,rn X pos keys vals trs/\uB X.K κ trs f
theorem uE:LP X κ pos [] [] oK:=⟨[],zq,B7⟩
theorem Ca (hk:LE X κ a fa)(hv:LE X κ b fb)(hr:LP X κ pos ks vs fs):LP X κ pos (some a::ks) (b::vs) (ju fa fb fs):=let ⟨trs,h1,h2⟩:=hr;⟨_,zr hk.pe hv.pe h1,B8 h2⟩
theorem uF (hr:y4a k X.A)(h:LP X κ pos ks vs fs)(y182:ks.all (·.isSome)=true:=by rfl)(hl:ks.length=vs.length:=by rfl)(h0:ks≠[]:=by exact (λz=>nomatch z))(h15:ks.length≤15:=by decide):LE X κ (.Dict ks vs pos) (oM fs):=.mk (by
 obtain⟨trs,h1,h2⟩:=h
 exact aH (zt h1 y182 hl h0 h15) λ_ _ _=>B9 h2)
theorem uG{op}(h:LE X κ a fa):LE X κ (.BoolOp op [a] pos) fa:=.mk (L2.y2e5 h.pe)
theorem Cb{K:W.Frag}{σ:L2.St}{H:Hp}{fn:FF}{Q:VK}(h:aK K κ (bd fs (bf n fn)) σ H Q):ke (aR K κ n fn) [] E0 (gG K κ fs) σ H Q:=by
 have:=c3 (sZ (E:=E0)) h
 unfold ke
 simpa only [z1a] using this
theorem bX (h:cZ X.prog X.w X.K X.mg X.base x k ps (aR X.K κ n fn))(hr:y4a k X.A)(ha:LA X κ (e::es) fs)(hg:Gl X x:=by rfl)
  (hdb:(x == ("__debug__" : Str))=false:=by decide) (he:gM X e es:=by rfl) (hpl:fW X pos es:=by rfl):LE X κ (.Call (.Name x p) (e::es) [] pos) (bd fs (bf n fn)):=.mk (aH (Ak h hr hg ha.pe hdb he hpl) λ_ _ _=>Cb)
noncomputable def iB(P:Program)(w:World)(K:W.Frag)(mg:Str->Option Value)(base:Heap)(C:Addr)(m:Str)(k:Nat)(ps:List Str)(sp:Sp):Prop :=
 ∃(f:Addr) (fd:FuncData),Meth K C m f/\bZ K fd ps []/\y36 P w K mg base bU k f fd ps sp
theorem cT  (h:iB X.prog X.w X.K X.mg X.base (κ c) m k ps (aR X.K κ n fn))(hc:Cls X.K (κ c))(hr:y4a k X.A)(ho:LE X κ o fa)(ha:LA X κ (e::es) fs)
  (hst:starEach (e::es) X.env=(false,eval e X.env)::starEach es X.env:=by rfl) (hpl:fW X pos es:=by rfl)
  (ht:eval (.Call (.Attribute o m apos) (e::es) [] pos) X.env=(do
   let ov <- eval o X.env
   standAt apos.atName
   let (f,first) <- holding [ov] (getMethod ov m pl)
   callWith pos f first (backTo pos (starEach (e::es) X.env)) (backToKw pos (keywordEach [] X.env))):=by rfl):LE X κ (.Call (.Attribute o m apos) (e::es) [] pos) (bI c m n fn fa fs):=.mk (by
 obtain⟨f,fd,hm,hb,F⟩:=h
 exact aH (yX ho.pe hc hm F hr hb .nil nC ha.pe hst hpl ht) λ_ _ _=>Bl)
noncomputable def oO(P:Program)(w:World)(K:W.Frag)(mg:Str->Option Value)(base:Heap)(C:Addr)(k:Nat)(ps:List Str)(sp:Sp):Prop :=
 ∃(f:Addr) (fd:FuncData),Mk K C f/\bZ K fd ps []/\y36 P w K mg base bU k f fd ps sp
theorem Cc (h:oO X.prog X.w X.K X.mg X.base (κ c) k ps (aR X.K κ n fn))(hr:y4a (k+1) X.A)(hm:X.mg x=some (.ref (κ c)))(hg:Gl X x:=by rfl)(hdb:(x == ("__debug__" : Str))=false:=by decide):LE X κ (.Call (.Name x p) [] [] pos) (bd ae (ja c n fn)):=.mk (by
 obtain⟨f,fd,hM,hb,F⟩:=h
 refine aH (yZ hM F hr hg hm hb .nil nC hdb) λ_ _ _ q=>?_
 exact sO (c3 (Bm) q))
theorem gz(hc:Cls X.K (κ c))(hn:gE X.K (κ c) f)(h:LE X κ o fa)(hb:attributeBase o f X.env (eval o X.env)=eval o X.env:=by rfl):LE X κ (.Attribute o f pos) (bS (cq c f) fa):=.mk (aH (yO h.pe hb) λ_ _ _=>Bj hc hn)
theorem uH (hc:Cls X.K (κ c))(hn:gE X.K (κ c) f)(h:LE X κ o fa)(hv:LE X κ a fv)(hs:swapsWith a (some (.Attribute o f pos')) pos.line X.env=pure false:=by rfl):LS X κ (.Assign [.Attribute o f pos'] a pos) (g0 c f fa fv):=.mk (c8 (yP h.pe hv.pe hs) λ_ _ _=>Bk hc hn)
theorem aM (hN:X.N.Nodup)(h:LE X κ a fa)(hi:X.N[i]?=some x:=by rfl)(hx:mO X.env.scope x:=by first|exact Or.inl rfl|exact Or.inr rfl)(hs:swapsWith a (some (.Name x pos')) pos.line X.env=pure false:=by rfl)(hf:X.fn x=true∨X.env.scope.names.lookup x=some .local:=by first|exact .inl rfl|exact .inr rfl|assumption):LS X κ (.Assign [.Name x pos'] a pos) (bb fa (aN i)):=.mk (c8 (xZ hN hi hx h.pe hs hf) λD σ H q=>by
 obtain⟨ι,Z,G,e,Z',G',s,eq,kk⟩:=kO q
 exact⟨ι,Z,G,e,Z',G',s,eq,λv ι' H' a=>kM (kk v ι' H' a)⟩)
theorem uI (h:LE X κ a fa)(hg:LG X κ tg g)(hs:swapsWithSole [tg] a pos.line X.env=pure false:=by rfl)(hw:swappedStores [tg] a X.env=pure none:=by rfl)(h1:(assignEach [tg] X.env).map (·.2)=[assign tg X.env]:=by rfl):LS X κ (.Assign [tg] a pos) (bb fa g):=.mk (c8 (qr h.pe hg.pe hs hw h1) λ_ _ _=>kO)
end
end
section
section
variable {X:Cx}{K:W.Frag}{κ:Str->Addr}{ι:List Addr}{H:Hp}{σ:L2.St}
noncomputable def br:List Ev->De->List M->Option Wk:=λes Z G=>match my es Z G with
 | some w=>some w
 | none=>pN es Z G
theorem uJ    (h:bC fa p Z G=some (w,es,Z1,G1))(hpq:p es Z1 G1=some w->q es Z1 G1=some w):bC fa q Z G=some (w,es,Z1,G1):=by
 unfold bC at h ⊢
 split at h
 ·rename_i es' Z' G' e
  cases hp:p es' Z' G' with
  | none=>rw [hp] at h;cases h
  | some w' =>
   rw [hp] at h
   cases h
   rw [hpq hp];rfl
 ·cases h
theorem Cd{f:Mo Ev}{R:It->Hp->Prop}(h:oa K κ (bC (one f) br) σ H R):qv K (aK K κ f) σ H R∨qw K (aK K κ f) σ H R:=by
 obtain⟨ι,Z,G,w,es,Z',G',s,eq,k⟩:=h
 by_cases hq:my es Z' G'=some w
 ·left
  refine tp (gU Bd ⟨ι,Z,G,w,es,Z',G',s,uJ eq λ_=>hq,k⟩)
 ·right
  refine tp (gU Be ⟨ι,Z,G,w,es,Z',G',s,uJ eq λhs=>?_,k⟩)
  unfold br at hs
  split at hs
  ·rename_i w' hw
   exact absurd (hw.trans hs) hq
  ·exact hs
noncomputable def fB:List Ev->De->List M->Option Wk:=λes _ _=>match es with
 | [.v (.im (.int i)),.v (.im (.int j)),.v (.im (.int c))]=>if c=-1/\j<2 ^ 62/\-(2 ^ 62)≤j/\i<2 ^ 62/\-(2 ^ 62)≤i then some ⟨(i-j).toNat,λk _ _=>some (.int (i-k)),λ_ _=>true⟩ else none
 | _=>none
theorem Ce{lo:Int}{n:Nat}{τ:L2.St}{θ:De}:Walks K κ (xb lo n) τ θ ⟨n,λi _ _=>some (.int (lo-i)),λ_ _=>true⟩ where
 go:=λhi hd _ _=>by
  cases hd
  refine⟨hi,λx H' y=>?_⟩
  obtain⟨e1,e2⟩:=y
  subst e1;subst e2
  exact⟨(λ_ _ h=>h),.int _⟩
 stop:=λ_ _ _=>z12 _
theorem Cf:oh K κ (λvs H R=>∃i j:Int,vs=[.int i,.int j,.int (-1)]/\(-(2 ^ 62)≤i/\i<2 ^ 62/\-(2 ^ 62)≤j/\j<2 ^ 62)/\R (xb i (i-j).toNat) H) fB:=by
 intro ι H σ Z G es vs w R a h k
 unfold fB at h
 split at h
 ·rename_i i j c
  split at h
  ·rename_i hj
   obtain⟨rfl,h1,h2,h3,h4⟩:=hj
   cases h
   obtain⟨v,u,t,rfl⟩:=sN a.len
   cases b4 (a.im (j:=0) rfl rfl)
   cases b4 (a.im (j:=1) rfl rfl)
   cases b4 (a.im (j:=2) rfl rfl)
   exact⟨i,j,rfl,⟨h4,h3,h2,h1⟩,k _ Ce⟩
  ·cases h
 ·cases h
noncomputable def fD(a b:Ev)(n:Nat):Wk:=⟨n,λi Z G=>match (sq Z G a).bind (·[i]?),(sq Z G b).bind (·[i]?) with|some x,some y=>some (.tup [x,y])|_,_=>none,λZ G=>match sq Z G a,sq Z G b with|some xs,some ys=>decide (min xs.length ys.length=n)|_,_=>false⟩
noncomputable def jv:List Ev->De->List M->Option Wk:=λes Z G=>match es with
 | [a,b]=>if fR Z G a&&fR Z G b then match sq Z G a,sq Z G b with
  | some xs,some ys=>some (fD a b (min xs.length ys.length))
  | _,_=>none
  else none
 | _=>none
theorem y68{a b:Ev}{v u:V}{x y:Vl}{Z:De}{G:List M}(ha:a=.v x)(hb:b=.v y)(l:σ.length=Z.length)(h:SR K κ ι H (σ++tS [a,b] [v,u]) (Z++tD [a,b]) G):Args K κ ι H σ Z G [a,b] [v,u]:=⟨l,h,.cons (λi q=>by rw [ha] at q;cases q) (.cons (λi q=>by rw [hb] at q;cases q) .nil)⟩
theorem iC{es:List Ev}{vs:List V}{Z:De}{G:List M}{e:Ev}{v:V}{xs:List I}{j:Nat}(a:Args K κ ι H σ Z G es vs)(h1:es[j]?=some e)(h2:vs[j]?=some v)(hl:fR Z G e=true)(h:sq Z G e=some xs):∃b ys,v=.ref b/\aP K H b ys/\y4c K ι H ys xs:=by
 cases e with
 | s i=>cases hl
 | v x =>
  cases x with
  | ow m =>
   cases m with
   | lst ys =>
    cases h
    obtain⟨b,e1,zs,h3,r⟩:=a.pk h1 h2 rfl
    exact⟨b,zs,e1,aP.of h3,r⟩
   | _=>cases hl
  | im d =>
   cases d with
   | fro ys =>
    cases h
    have r:=a.im h1 h2
    obtain⟨_,_,rfl,q,r9⟩:=sH r
    exact⟨_,_,rfl,q.sq,r9⟩
   | ref k =>
    have h:(match pk Z G (.v (.im (.ref k))) with|some (.lst xs)=>some xs|_=>none)=some xs:=h
    split at h
    ·rename_i ys e1
     cases h
     obtain⟨b,e1,zs,h3,r⟩:=a.pk h1 h2 e1
     exact⟨b,zs,e1,aP.of h3,r⟩
    ·cases h
   | _=>cases hl
theorem Cg{a b:Ev}{n:Nat}{p q:Addr}{Z:De}{G:List M}(ha:fR Z G a=true)(hb:fR Z G b=true):Walks K κ (w8 K p q) (tS [a,b] [.ref p,.ref q]) (tD [a,b]) (fD a b n) where
 go:=λ{i d ι H σ Z' G'} hi hd l s=>by
  obtain⟨x,hx⟩:=gW ha
  obtain⟨y,hy⟩:=gW hb
  have hd:(match (sq Z' G' a).bind (·[i]?),(sq Z' G' b).bind (·[i]?) with|some x,some y=>some (I.tup [x,y])|_,_=>none)=some d:=hd
  split at hd
  ·rename_i u w hu hw
   cases hd
   cases q1:sq Z' G' a with
   | none=>rw [q1] at hu;cases hu
   | some xs =>
    cases q2:sq Z' G' b with
    | none=>rw [q2] at hw;cases hw
    | some ys =>
     rw [q1] at hu;rw [q2] at hw
     have A:=y68 hx hy l s
     obtain⟨b1,vs,e1,h1,r1⟩:=iC A (j:=0) rfl rfl (gX ha) q1
     obtain⟨b2,ws,e2,h2,r2⟩:=iC A (j:=1) rfl rfl (gX hb) q2
     cases e1;cases e2
     obtain⟨v1,hv1,rv1⟩:=r1.get hu
     obtain⟨v2,hv2,rv2⟩:=r2.get hw
     refine⟨⟨vs,ws,v1,v2,h1,h2,hv1,hv2⟩,λx H' y=>?_⟩
     obtain⟨T,rfl,hT,hy⟩:=y
     have:=hy vs ws v1 v2 h1 h2 hv1 hv2
     subst this
     have sm:=cU.lay (o:=.tup [v1,v2]) hT
     exact⟨sm,.tup aJ (.cons (rv1.mono (bo.refl _) (Kp.same sm)) (.cons (rv2.mono (bo.refl _) (Kp.same sm)) .nil))⟩
  ·cases hd
 stop:=λ{ι H σ Z' G'} hf l s=>by
  obtain⟨x,hx⟩:=gW ha
  obtain⟨y,hy⟩:=gW hb
  have hf:(match sq Z' G' a,sq Z' G' b with|some xs,some ys=>decide (min xs.length ys.length=n)|_,_=>false)=true:=hf
  split at hf
  ·rename_i xs ys q1 q2
   have A:=y68 hx hy l s
   obtain⟨b1,vs,e1,h1,r1⟩:=iC A (j:=0) rfl rfl (gX ha) q1
   obtain⟨b2,ws,e2,h2,r2⟩:=iC A (j:=1) rfl rfl (gX hb) q2
   cases e1;cases e2
   exact⟨vs,ws,h1,h2,by rw [r1.len,r2.len];exact of_decide_eq_true hf⟩
  ·cases hf
theorem Ci:oh K κ (λvs H R=>∃l1 l2 xs ys,vs=[.ref l1,.ref l2]/\aP K H l1 xs/\aP K H l2 ys/\R (w8 K l1 l2) H) jv:=by
 intro ι H σ Z G es vs w R a h k
 unfold jv at h
 split at h
 ·rename_i x y
  split at h
  ·rename_i hl
   rw [z2b] at hl
   split at h
   ·rename_i xs ys q1 q2
    cases h
    obtain⟨v,u,rfl⟩:=bR a.len
    obtain⟨b1,vs,e1,h1,r1⟩:=iC a (j:=0) rfl rfl hl.1 q1
    obtain⟨b2,ws,e2,h2,r2⟩:=iC a (j:=1) rfl rfl hl.2 q2
    subst e1;subst e2
    exact⟨b1,b2,vs,ws,rfl,h1,h2,k _ (Cg hl.1 hl.2)⟩
   ·cases h
  ·cases h
 ·cases h
noncomputable def jw(xs:List I):Wk:=⟨xs.length,λi _ _=>(xs[i]?).map λx=>.tup [.int i,x],λ_ _=>true⟩
noncomputable def lC:List Ev->De->List M->Option Wk:=λes _ _=>match es with
 | [.v (.im (.tup xs))]=>some (jw xs)
 | _=>none
theorem Cj:oh K κ (λvs H R=>∃a xs,vs=[.ref a]/\aO K H a xs/\R (AD K a) H) lC:=by
 intro ι H σ Z G es vs w R a h k
 unfold lC at h
 split at h
 ·rename_i xs
  cases h
  obtain⟨v,rfl⟩:=bq a.len
  have r:=a.im (j:=0) rfl rfl
  cases r with
  | @tup b ys _ h1 r =>
   refine⟨b,ys,rfl,aO.of h1,k _ ⟨λ{i d ι' H' σ' Z' G'} hi hd l s=>?_,λ{ι' H' σ' Z' G'} hf l s=>?_⟩⟩
   ·have rr:=(pO rfl l s).im (j:=0) rfl rfl
    have hd:(xs[i]?).map (λx=>I.tup [.int i,x])=some d:=hd
    cases rr with
    | @tup _ zs _ h2 r2 =>
     cases q:xs[i]? with
     | none=>rw [q] at hd;cases hd
     | some x =>
      rw [q] at hd;cases hd
      obtain⟨v,hv,rv⟩:=r2.get q
      refine⟨⟨zs,v,aO.of h2,hv⟩,λx H' y=>?_⟩
      obtain⟨T,rfl,hT,hy⟩:=y
      have:=hy zs v (aO.of h2) hv
      subst this
      have sm:=cU.lay (o:=.tup [.int i,v]) hT
      exact⟨sm,.tup aJ (.cons (.int _) (.cons (rv.mono (bo.refl _) (Kp.same sm)) .nil))⟩
   ·have rr:=(pO rfl l s).im (j:=0) rfl rfl
    cases rr with
    | @tup _ zs _ h2 r2=>exact⟨zs,aO.of h2,r2.len⟩
 ·cases h
noncomputable def ba:Mo Bool:=rt true
theorem Ck{Q:Bool->Hp->Prop}(h:cH K κ ba σ H Q):si σ H Q:=by
 obtain⟨ι,Z,G,b,Z',G',s,eq,k⟩:=h
 cases eq
 exact k _ _ s (Step.refl _ _ _)
end
section
variable {X:Cx}{κ:Str->Addr}{a b c e tg:Expr}{es:List Expr}{fa fb:Mo Ev}{fs:Mo (List Ev)}{fc:Mo Bool}{p pos p0:Pos}{k k0:Nat}{elts:List Expr}
theorem dy(h:LE X κ a fa):LI X κ tg a (bC (one fa) br):=.mk (je (tM (yj h.pe) (yk h.pe)) λ_ _ _=>Cd)
theorem iD(hm:X.mg "range" = none)(ha:LA X κ [a] fs)(hg:Gl X "range":=by rfl)(hs:starEach [a] X.env=[(false,eval a X.env)]:=by rfl):LI X κ tg (.Call (.Name "range" p) [a] [] pos) (bC fs cP):=.mk (je (yn hg hm ha.pe hs) λ_ _ _ q=>gU Bb q)
theorem Cm(hm:X.mg "range" = none)(ha:LA X κ [a,b,c] fs)(hg:Gl X "range":=by rfl)(hs:starEach [a,b,c] X.env=[(false,eval a X.env),(false,eval b X.env),(false,eval c X.env)]:=by rfl)(hs2:starEach [b,c] X.env=[(false,eval b X.env),(false,eval c X.env)]:=by rfl):LI X κ tg (.Call (.Name "range" p) [a,b,c] [] pos) (bC fs fB):=.mk (je (Ay hg hm ha.pe hs hs2) λ_ _ _ q=>gU Cf q)
theorem uK(hm:X.mg "zip" = none)(ha:LA X κ [a,b] fs)(hg:Gl X "zip":=by rfl)(hs:starEach [a,b] X.env=[(false,eval a X.env),(false,eval b X.env)]:=by rfl)(hs2:starEach [b] X.env=[(false,eval b X.env)]:=by rfl):LI X κ (.Tuple elts k0 p0) (.Call (.Name "zip" p) [a,b] [] pos) (bC fs jv):=.mk (je (Aw hg hm ha.pe hs hs2) λ_ _ _ q=>gU Ci q)
theorem Cn(hm:X.mg "enumerate" = none)(ha:LA X κ [a] fs)(hg:Gl X "enumerate":=by rfl)(hs:starEach [a] X.env=[(false,eval a X.env)]:=by rfl):LI X κ (.Tuple elts k0 p0) (.Call (.Name "enumerate" p) [a] [] pos) (bC fs lC):=.mk (je (AF hg hm ha.pe hs) λ_ _ _ q=>gU Cj q)
theorem iE(h:xh X es is)(hc:X.calm=true:=by rfl)(hl:(assignEach es X.env).length=is.length:=by rfl)(hst:(assignEach es X.env).findIdx? (·.1)=none:=by rfl):LG X κ (.Tuple es k0 p) (cC is):=.mk (by
 refine tJ (qp hc h hl hst) λ_ _ _ _=>AY)
@[irreducible] noncomputable def jx(X:Cx)(κ:Str->Addr)(ifs:List Expr)(f:Mo Bool):Prop:=mn X ifs (cH X.K κ f)
theorem jx.mk  (h:mn X ifs (cH X.K κ f)):jx X κ ifs f:=by unfold jx;exact h
theorem jx.pe  (h:jx X κ ifs f):mn X ifs (cH X.K κ f):=by unfold jx at h;exact h
theorem eM:jx X κ [] ba:=.mk (λpins s σ H Q I h=>Aa pins s σ H Q I (Ck h))
theorem uL(h:LT X κ c fc):jx X κ [c] fc:=.mk (Ab h.pe)
variable {scope:Scope}{x y:Str}{ys:List Str}{ix:List Nat}{ifs:List Expr}{fi:IF}{px py:Pos}
theorem uM(O:yc X scope [x] ys ix)(hi:LI X κ (.Name x px) a fi)(hf:∀z,jx (cV X scope ([x]++ys) z) κ ifs fc)(he:∀z,LE (cV X scope ([x]++ys) z) κ e fb)(hc:X.calm=true:=by rfl)(hs:∀v,foldedSetIterable a X.env v=pure v:=by intro _;rfl):LE X κ (.ListComp e [⟨.Name x px,a,ifs,0⟩] scope pos) (c7 fi ix c1 fc fb):=.mk (aH (Am O hc hi.pe (λz=>kC O rfl) (λz=>(hf z).pe) (λz=>(he z).pe) hs) λ_ _ _=>oj (λ_=>tu))
theorem lD (O:yc X scope [x] ys ix)(hi:LI X κ (.Name x px) a fi)(hf:∀z,jx (cV X scope ([x]++ys) z) κ ifs fc)(he:∀z,LE (cV X scope ([x]++ys) z) κ e fb)(hN:X.N.Nodup)(hy:X.N[i]?=some y:=by rfl)(hl:X.env.scope.names.lookup y=some .local:=by rfl)(hc:X.calm=true:=by rfl)
  (hsw:swapsWith (.ListComp e [⟨.Name x px,a,ifs,0⟩] scope pos) (some (.Name y py)) y401.line X.env=pure true:=by rfl) (hs:∀v,foldedSetIterable a X.env v=pure v:=by intro _;rfl):LS X κ (.Assign [.Name y py] (.ListComp e [⟨.Name x px,a,ifs,0⟩] scope pos) y401) (bb (c7 fi ix c1 fc fb) (aN i)):=.mk (c8 (sG O hc hN hy hl hi.pe (λz=>kC O rfl) (λz=>(hf z).pe) (λz=>(he z).pe) hsw hs) λD σ H q=>by
  obtain⟨ι,Z,G,e,Z',G',s,eq,kk⟩:=kO q
  exact oj (λ_=>tu) ⟨ι,Z,G,e,Z',G',s,eq,λv ι' H' a=>kM (kk v ι' H' a)⟩)
theorem Co (O:yc X scope [x1,x2] ys ix)(hc:X.calm=true)(z:yb):PG (cV X scope ([x1,x2]++ys) z) (.Tuple [.Name x1 q1,.Name x2 q2] kk q0) (j4 X.K 2 (gh (List.range 2))) :=
 qp hc (mW (kC O rfl) (mW (kC O rfl) qo))
theorem Cp  (O:yc X scope [x1,x2] ys ix)(hi:LI X κ (.Tuple [.Name x1 q1,.Name x2 q2] kk q0) a fi)(hf:∀z,jx (cV X scope ([x1,x2]++ys) z) κ ifs fc)(he:∀z,LE (cV X scope ([x1,x2]++ys) z) κ e fb)(hN:X.N.Nodup)(hy:X.N[i]?=some y:=by rfl)(hl:X.env.scope.names.lookup y=some .local:=by rfl)(hc:X.calm=true:=by rfl)
  (hsw:swapsWith (.ListComp e [⟨.Tuple [.Name x1 q1,.Name x2 q2] kk q0,a,ifs,0⟩] scope pos) (some (.Name y py)) y401.line X.env=pure true:=by rfl) (hs:∀v,foldedSetIterable a X.env v=pure v:=by intro _;rfl):LS X κ (.Assign [.Name y py] (.ListComp e [⟨.Tuple [.Name x1 q1,.Name x2 q2] kk q0,a,ifs,0⟩] scope pos) y401) (bb (c7 fi ix (cN 2) fc fb) (aN i)):=.mk (c8 (sG O hc hN hy hl hi.pe (Co O hc) (λz=>(hf z).pe) (λz=>(he z).pe) hsw hs) λD σ H q=>by
  obtain⟨ι,Z,G,e,Z',G',s,eq,kk⟩:=kO q
  exact oj (λ_=>tx 2) ⟨ι,Z,G,e,Z',G',s,eq,λv ι' H' a=>kM (kk v ι' H' a)⟩)
end
section
variable {P:Program}{w:World}{K:W.Frag}{mg:Str->Option Value}{base:Heap}{κ:Str->Addr}
theorem bN{x qual:Str}{st:Stmt}{f:Addr}{fd:FuncData}{N ps:List Str}{k n r:Nat}{body:SF}(F:Fun K x qual st f fd)(S:y37 N ps (bK st))(hn:ps.length=n)(hN:N.length=n+r)
  (hb:∀(cdv:Value) (A:Around) (outer:List Env) (s:Shared) (H:Hp) (E:XK),y4a k (A.deeper (envOfC qual (bK st) s.heap.objs.size f cdv))->fS (nr bU P w K mg base N qual (bK st) f cdv A outer s H E).nox κ (mm st) body) :
  y36 P w K mg base bU (k+1) f fd ps (aR K κ n (aZ n r body)):=by
 refine F.ok S (λvs H Q E h=>by rw [(tm h).1,hn]) (λcdv A outer s H vs Q E hr h=>⟨_,(hb cdv A outer s H E hr).pe,?_⟩)
 obtain⟨l,q⟩:=tm h
 unfold L2.start
 have e:N.length-vs.length=r:=by lia
 rw [e]
 exact q
theorem Cq{f:Addr}{fd:FuncData}{ps:List Str}{k n:Nat}:y36 P w K mg base bU k f fd ps (aR K κ n λ_ _=>none) :=
 ⟨λvs H Q E h=>(by obtain⟨_,_,_,_,_,_,_,e,_⟩:=h;cases e),λ_ _ _ _ _ _ _ _ _ _ _ _ _ h=>(by obtain⟨_,_,_,_,_,_,_,e,_⟩:=h;cases e)⟩
end
end
end B
set_option maxHeartbeats 4000000
namespace PySem
open PySem.Spec PyProof.Rows
theorem uN:entryFor table "dict.update.loop" = some Builtin.«dict.update.loop»:=entryFor_of_tree (by kernel_rfl)
theorem lE:plainId "dict.update.loop" = true:=by decide +kernel
section
variable {prog:Program}{w:World}{K:Type}[DecidableEq K]{knd:KeyKind prog w K}{A:Around}{E:Value->Shared->Prop}{R:Result->Shared->Prop}
noncomputable def y3d(s:Shared):Value->Shared->Prop:=λv t=>v=.ref s.heap.objs.size/\t={ s with heap:=s.heap.push { cls:=.type "dict",data:=.dict #[] } }
end
end PySem
set_option maxHeartbeats 400000
namespace B
open PySem PySem.Spec PyProof.Rows L2
section
section
variable {K:W.Frag}{κ:Str->Addr}{ι:List Addr}{H:Hp}
noncomputable def fE:List I->Option (List Int)
 | []=>some []
 | .int i::r=>(fE r).map (i::·)
 | _=>none
theorem uO:∀ns:List Int,fE (ns.map I.int)=some ns
 | []=>rfl
 | n::ns=>by rw [z15,fE,uO ns];rfl
theorem uP:∀{xs:List I} {vs:List V} {ns:List Int},y4c K ι H vs xs->fE xs=some ns->vs=ns.map V.int
 | [],_,_,r,h=>by cases r;cases h;rfl
 | x::xs,_,_,r,h=>by
  cases r with
  | cons r1 r2 =>
   cases r1 with
   | int i =>
    rw [fE] at h
    cases e:fE xs with
    | none=>rw [e] at h;cases h
    | some ms=>rw [e] at h;cases h;rw [z15,<- uP r2 e]
   | _=>cases h
noncomputable def Fo:List Ev->Mo Ev:=λes Z G=>match es with
 | [a]=>if cu a then match sq Z G a with
  | some xs=>match fE xs with
   | some ns=>some (.v (.im (.int ns.sum)),Z,G)
   | none=>none
  | none=>none
  else none
 | _=>none
noncomputable def oP:List I->Option (List Bool)
 | []=>some []
 | .bl i::r=>(oP r).map (i::·)
 | _=>none
theorem y84:∀ns:List Bool,oP (ns.map I.bl)=some ns
 | []=>rfl
 | n::ns=>by rw [z15,oP,y84 ns];rfl
theorem y85:∀{xs:List I} {vs:List V} {ns:List Bool},y4c K ι H vs xs->oP xs=some ns->vs=ns.map V.bl
 | [],_,_,r,h=>by cases r;cases h;rfl
 | x::xs,_,_,r,h=>by
  cases r with
  | cons r1 r2 =>
   cases r1 with
   | bl i =>
    rw [oP] at h
    cases e:oP xs with
    | none=>rw [e] at h;cases h
    | some ms=>rw [e] at h;cases h;rw [z15,<- y85 r2 e]
   | _=>cases h
noncomputable def oQ:List Ev->Mo Ev:=λes Z G=>match es with
 | [a]=>match pk Z G a with
  | some (.lst xs)=>match oP xs with
   | some bs=>some (.v (.im (.bl (bs.all id))),Z,G)
   | none=>none
  | _=>none
 | _=>none
theorem Cr:aw K κ (λxs H Q=>∃(p:Addr) (bs:List Bool),xs=[.ref p]/\aP K H p (bs.map V.bl)/\Q (.bl (bs.all id)) H) oQ:=by
 intro ι H σ Z G es vs e Z' G' Q a h k
 unfold oQ at h
 split at h
 ·rename_i x
  split at h
  ·rename_i xs hx
   split at h
   ·rename_i ns hn
    obtain⟨v,rfl⟩:=bq a.len
    obtain⟨p,e1,ys,h1,r⟩:=a.pk (j:=0) rfl rfl hx
    subst e1
    exact⟨p,ns,rfl,by rw [<- y85 r hn];exact aP.of h1,k _ _ _ (bp h (a8 a (.bl _)))⟩
   ·cases h
  ·cases h
 ·cases h
mutual
noncomputable def jy:I->Option PyData
 | .non=>some .none
 | .bl b=>some (.bool b)
 | .int i=>some (.int i)
 | .str x=>some (.str x)
 | .tup xs=>(fF xs).map PyData.tuple
 | .con xs=>(fF xs).map PyData.tuple
 | _=>none
noncomputable def fF:List I->Option (List PyData)
 | []=>some []
 | x::xs=>match jy x,fF xs with
  | some d,some ds=>some (d::ds)
  | _,_=>none
end
end
mutual
inductive RdD(K:W.Frag)(H:Hp):V->PyData->Prop
 | non:RdD K H .non .none
 | bl (b:Bool):RdD K H (.bl b) (.bool b)
 | int (i:Int):RdD K H (.int i) (.int i)
 | str (x:Str):RdD K H (.str x) (.str x)
 | tup {a:Addr} {vs:List V} {xs:List PyData}:aO K H a vs->y48 K H vs xs->RdD K H (.ref a) (.tuple xs)
inductive y48(K:W.Frag)(H:Hp):List V->List PyData->Prop
 | nil:y48 K H [] []
 | cons {v:V} {d:PyData} {vs:List V} {ds:List PyData}:RdD K H v d->y48 K H vs ds->y48 K H (v::vs) (d::ds)
end
section
variable {X:Cx}{K:W.Frag}{κ:Str->Addr}{ι:List Addr}{H:Hp}{pins:List (Addr×Obj)}{σ:L2.St}{s:Shared}
mutual
theorem RdD.reads(I:Inv X pins σ H s):∀{v:V} {d:PyData} {u:Value},RdD X.K H v d->au v u->∃as,Reads s.heap u d as/\d.hasDict=false
 | _,_,_,.non,r=>by cases (show _=Value.none from r);exact⟨_,.none,rfl⟩
 | _,_,_,.bl b,r=>by cases (show _=Value.bool b from r);exact⟨_,.bool b,rfl⟩
 | _,_,_,.int i,r=>by obtain⟨t,rfl⟩:=r;exact⟨_,.int i t,rfl⟩
 | _,_,_,.str x,r=>by obtain⟨t,rfl⟩:=r;exact⟨_,.str x t,rfl⟩
 | _,_,_,.tup h hs,r=>by
  cases (show _=Value.ref _ from r)
  obtain⟨its,rv,⟨o,h1,h2,n,h3⟩,_⟩:=I.tuple h
  obtain⟨as,hr,hd⟩:=y48.reads I hs rv
  exact⟨as,.tuple h1 h2 h3 (by simpa using hr),by simpa only [PyData.hasDict] using hd⟩
theorem y48.reads(I:Inv X pins σ H s):∀{vs:List V} {ds:List PyData} {us:List Value},y48 X.K H vs ds->ag vs us->∃as,ReadsAll s.heap us ds as/\PyData.hasDictAll ds=false
 | _,_,_,.nil,r=>by cases r;exact⟨_,.nil,rfl⟩
 | _,_,_,.cons h hs,r=>by
  cases r with
  | cons r1 r2 =>
   obtain⟨as,p1,p2⟩:=RdD.reads I h r1
   obtain⟨bs,q1,q2⟩:=y48.reads I hs r2
   exact⟨_,.cons p1 q1,by simp only [PyData.hasDictAll,p2,q2,Bool.or_self]⟩
end
mutual
theorem RpI.rdD:∀{x:I} {v:V} {d:PyData},RpI K ι H v x->jy x=some d->RdD K H v d
 | .non,_,_,r,h=>by cases i5 (r);rw [jy] at h;cases h;exact .non
 | .bl b,_,_,r,h=>by cases nK (r);rw [jy] at h;cases h;exact .bl b
 | .int i,_,_,r,h=>by cases b4 (r);rw [jy] at h;cases h;exact .int i
 | .str i,_,_,r,h=>by cases eZ (r);rw [jy] at h;cases h;exact .str i
 | .tup xs,_,_,r,h=>by
  rw [jy] at h
  obtain⟨_,_,rfl,h1,h2⟩:=fZ r
  cases e:fF xs with
  | none=>rw [e] at h;cases h
  | some ds=>rw [e] at h;cases h;exact .tup (aO.of h1) (y4c.rdD h2 e)
 | .con xs,_,_,r,h=>by
  rw [jy] at h
  obtain⟨_,_,rfl,h1,h2⟩:=nL r
  cases e:fF xs with
  | none=>rw [e] at h;cases h
  | some ds=>rw [e] at h;cases h;exact .tup (aO.kon h1) (y4c.rdD h2 e)
 | .ty _,_,_,r,h=>by rw [jy] at h<;>first|cases h|(intros;contradiction)
 | .ref _,_,_,r,h=>by rw [jy] at h<;>first|cases h|(intros;contradiction)
 | .fro _,_,_,r,h=>by rw [jy] at h<;>first|cases h|(intros;contradiction)
theorem y4c.rdD:∀{xs:List I} {vs:List V} {ds:List PyData},y4c K ι H vs xs->fF xs=some ds->y48 K H vs ds
 | [],_,_,r,h=>by cases r;rw [fF] at h;cases h;exact .nil
 | x::xs,_,_,r,h=>by
  cases r with
  | cons r1 r2 =>
   rw [fF] at h
   split at h
   ·rename_i d ds e1 e2
    cases h
    exact .cons (RpI.rdD r1 e1) (y4c.rdD r2 e2)
   ·cases h
end
end
section
variable {X:Cx}{κ:Str->Addr}{a b e o:Expr}{es:List Expr}{fa fb:Mo Ev}{fs:Mo (List Ev)}{p pos apos yb8:Pos}{k:Nat}
theorem yf5(hr:y4a k X.A)(hm:X.mg "all" = none)(ha:LA X κ (e::es) fs)(hg:Gl X "all":=by rfl)(hc:X.calm=true:=by rfl)(he:gM X e es:=by rfl)(hpl:fW X pos es:=by rfl):LE X κ (.Call (.Name "all" p) (e::es) [] pos) (bd fs oQ):=.mk (aH (iY (y90 hc) hg hm PyProof.Rows.boot_all ha.pe (by decide) (by decide) he hpl) λ_ _ _ q=>c3 Cr q)
end
end
section
theorem rm (r:y4a k A)(h:j≤k:=by first|decide|lia):y4a j A:=r.mono h
end
end B
set_option maxHeartbeats 4000000
namespace PySem
open PySem.Spec PyProof.Rows
theorem uQ{h h':Heap}{t I d:Addr}{items:Array Value}(x:h.IsList t items)(kp:∀b o,b≠I->b≠d->h.get? b=some o->h'.get? b=some o)(n1:t≠I)(n3:d≠t):h'.IsList t items :=
 let ⟨o,e,r⟩:=x;⟨o,kp t o n1 (Ne.symm n3) e,r⟩
theorem Cs
  (hx:s.heap.get? a=some o) (hc:o.cls=.type "list") (y18d:o.data=.seq xs k) (hd:o.dict=none) (hA:A.handled=none)
  (h:∀h' tk,(∀b o,s.heap.get? b=some o->h'.get? b=some o)->Q none { s with heap:=h',toks:=tk }):wpAny (model prog w) A (getAttr? (.ref a) "keys") Q E s:=by
 have hmiss:typeLookup (.type "list") "keys" = pure none:=by rw [typeLookup_type,builtinLookup_eq_fast];kernel_rfl
 obtain⟨c,dct,dat,sl⟩:=o
 simp only at hc y18d hd
 subst hc y18d hd
 obtain⟨hp,g,d,tk,os⟩:=s
 have ty:∀t',(⟨hp,g,d,t',os⟩:Shared).TypeIs (.ref a) "list":=λ_=>⟨_,hx,rfl⟩
 have w1:=sub_AttributeError
 have w2:=F.slot_list_getattribute.lookup
 have w3:=F.slot_list_getattribute.bind (.ref a)
 have w4:=am_list_getattr_none
 unfold getAttr? getAttrBy? getAttrBy
 repeat (any_goals (first|assumption|exact ty _|((with_reducible show wpAny _ _ (call (Value.builtin "list.__getattribute__") _ _) _ _ _);refine call_meets F.slot_list_getattribute (ty _) am_entry_list_getattribute (F.args_list_getattribute_2 _ _) (meets_getattribute_miss_list a xs k sl "keys" _ hmiss (by decide) (by size_fits)) ⟨hx,hA,λh2 t2 e2 x2=>?_⟩)|wp_step))
 obtain⟨t',u',he⟩:=x2.there
 show wpAny _ _ (getattributeRaised _ _ _ _ _ _ _) _ _ _
 unfold getattributeRaised
 repeat (any_goals (first|assumption|wp_step))
 exact h h2 t2 x2.of.keeps
end PySem
set_option maxHeartbeats 400000
namespace L2
open PySem PySem.Spec PyProof.Rows
section
section
variable {X:Cx}{pins:List (Addr×Obj)}{σ:L2.St}{H:Hp}{s:Shared}
noncomputable def dz(kvs:List (ai×V)):Bool:=kvs.all λp=>aX p.2
noncomputable def oR(kb:List (ai×V)):List (ai×V)->Bool
 | []=>true
 | (k,v)::r=>match bD kb k with
  | none=>false
  | some y=>fP v y&&oR kb r
theorem Ct (h:dz kb=true)(e:bD kb k=some y):aX y=true:=by
 unfold bD at e
 cases hf:kb.find? (λkv=>decide (kv.1=k)) with
 | none=>rw [hf] at e;cases e
 | some p =>
  rw [hf] at e
  cases e
  exact z35.mp h p (List.mem_of_find?_eq_some hf)
theorem uR (rb:KV kb vb)(fb:dz kb=true):∀{ka:List (ai×V)} {va:List (ai×Value)},KV ka va->dz ka=true->W.KeqHits A s vb va (oR kb ka)
 | [],_,r,_=>by cases r;exact .nil
 | (k,v)::ka,_,r,f=>by
  cases r with
  | cons r1 r2 =>
   rename_i q va
   obtain⟨k',u⟩:=q
   obtain⟨e1,ru⟩:=r1
   dsimp only at e1 ru
   subst e1
   have f1:aX v=true/\dz ka=true:=by simpa [dz] using f
   have rv:=rb.val k
   unfold oR
   cases e:bD kb k with
   | none =>
    rw [e] at rv
    have hn:valueAt vb k=none:=by
     cases z:valueAt vb k with
     | none=>rfl
     | some _=>rw [z] at rv;exact rv.elim
    exact .miss hn
   | some y =>
    rw [e] at rv
    cases z:valueAt vb k with
    | none=>rw [z] at rv;exact rv.elim
    | some w =>
     rw [z] at rv
     exact .hit z (nA ru rv f1.1 (Ct fb e)) (uR rb fb r2 f1.2)
end
end
end L2
namespace B
open PySem PySem.Spec PyProof.Rows L2
section
section
variable {K:W.Frag}{κ:Str->Addr}{ι:List Addr}{H:Hp}
noncomputable def oS(kb:List (ai×I)):List (ai×I)->Bool
 | []=>true
 | (k,v)::r=>match az kb k with
  | none=>false
  | some y=>de v y&&oS kb r
theorem oT:∀{ws:List (ai×V)} {kvs:List (ai×I)},ws.map (·.1)=kvs.map (·.1)->y4c K ι H (ws.map (·.2)) (kvs.map (·.2))->kvs.all (λp=>b6 p.2)=true->dz ws=true
 | [],[],_,_,_=>rfl
 | w::ws,q::kvs,e,r,f=>by
  rw [z15,z15] at e r
  cases r with
  | cons r1 r2 =>
   have f1:b6 q.2=true/\kvs.all (λp=>b6 p.2)=true:=by simpa using f
   have:=oT (z3b e).2 r2 f1.2
   unfold dz at this ⊢
   rw [List.all_cons,this,eJ r1 f1.1];rfl
 | [],_::_,e,_,_=>by cases e
 | _::_,[],e,_,_=>by cases e
theorem uS  : ∀{kb:List (ai×I)},kb.all (λp=>b6 p.2)=true->az kb k=some y->b6 y=true
 | [],_,e=>by cases e
 | (g,x)::r,f,e=>by
  have f1:b6 x=true/\r.all (λp=>b6 p.2)=true:=by simpa using f
  unfold az at e
  split at e
  ·cases e;exact f1.1
  ·exact uS f1.2 e
theorem ycb{wb:List (ai×V)}{kb:List (ai×I)}(eb:wb.map (·.1)=kb.map (·.1))(rb:y4c K ι H (wb.map (·.2)) (kb.map (·.2)))(fb:kb.all (λp=>b6 p.2)=true) :
  ∀{wa:List (ai×V)} {ka:List (ai×I)},wa.map (·.1)=ka.map (·.1)->y4c K ι H (wa.map (·.2)) (ka.map (·.2))->ka.all (λp=>b6 p.2)=true->oR wb wa=oS kb ka
 | [],[],_,_,_=>rfl
 | (k,v)::wa,(k',x)::ka,e,r,f=>by
  rw [z15,z15] at e r
  cases r with
  | cons r1 r2 =>
   have f1:b6 x=true/\ka.all (λp=>b6 p.2)=true:=by simpa using f
   have ih:=ycb eb rb fb (z3b e).2 r2 f1.2
   cases (show k=k' from (z3b e).1)
   unfold oR oS
   have vr:=jj (k:=k) eb rb
   cases z:az kb k with
   | none=>rw [vr.2 z]
   | some y =>
    obtain⟨w,e2,rw'⟩:=vr.1 y z
    rw [e2]
    dsimp only
    rw [ih,oF r1 rw' f1.1 (uS fb z)]
 | [],_::_,e,_,_=>by cases e
 | _::_,[],e,_,_=>by cases e
end
theorem bO (h1:sc.kind=.function:=by rfl)(h2:sc.isCoroutine=false:=by rfl)(h3:sc.isGenerator=false:=by rfl)(h4:N.Nodup:=by decide +kernel)(h5:N.take P.length=P:=by rfl)(h6:∀x∈P,sc.names.lookup x=some .local∨sc.names.lookup x=some .cell:=by decide +kernel)(h7:∀y∈sc.names,y.2≠.free:=by decide +kernel):y37 N P sc:=⟨h1,h2,h3,h4,h5,h6,h7⟩
end
end B
set_option maxHeartbeats 4000000
namespace PySem
open PySem.Spec PyProof.Rows
section
variable {prog:Program}{w:World}{K:Type}[DecidableEq K]{knd:HeapKind prog w K}{A:Around}{E:Value->Shared->Prop}{s:Shared}
theorem Cu  (hu:knd.room A)(y194:knd.is s.heap k a)(hm:s.heap.DictOfH knd d xs)
  (h1:∀p,atKey xs k=some p->Q p.2 { s with toks:=s.toks+knd.draws k })
  (h2:atKey xs k=none->∀h',h'.DictOfH knd d (storedH xs k a v)->Heap.SameBut d s.heap h'->Q v { s with heap:=h',toks:=s.toks+knd.draws k }) (hsz:xs.length≤sizeLine) :
  wpAny (model prog w) A (dictSetDefault d (.ref a) v) Q E s:=by
 obtain⟨o,es,ep,ho,hc,hd,he,his,hn⟩:=hm
 unfold dictSetDefault
 try with_reducible refine wpAny_holding ?_
 refine zc (knd.pyHash hu y194 ?_)
 refine zc (wpAny_dictFind_heap hu y194 ho hd he his hn ?_ ?_)
 ·intro hno
  have hnot:k∉xs.map (·.1):=not_mem_keys_of_get hno
  have hnk:=atKey_none_of_get hno
  refine zc (wpAny_rule (zc (wpAny_updateDictKeys (hz:=by have e:=size_of_entries he;lia) ho hd (zf (h2 hnk _ ⟨_,_,ep+1,Heap.get?_update_self _ ho (Obj.isFreed_of_dict (Obj.data_mapDictKeys hd _)),
   hc.mapDictKeys _,Obj.data_mapDictKeys hd _,?_,?_,?_⟩ (Heap.SameBut.update ..))))))
  ·rw [storedH_new hnk]
   simp [he,entryOfKey]
  ·rw [storedH_new hnk]
   intro x hx
   rcases z1d.mp hx with hx|hx
   ·exact knd.keeps (his x hx) ho hd (Heap.SameBut.update ..)
   ·simp only [z28] at hx
    subst hx
    exact knd.keeps y194 ho hd (Heap.SameBut.update ..)
  ·rw [storedH_new hnk,z26,List.nodup_append]
   refine⟨hn,by simp,?_⟩
   intro x hx y hy
   simp only [z15,List.map_nil,z28] at hy
   subst hy
   exact λe=>hnot (e ▸ hx)
 ·intro j p hj
  refine zc (wpAny_dictEntries ho hd ?_)
  rw [entry_at he j,hj]
  exact zc (wpAny_rule (zf (h1 p (atKey_of_get hn hj))))
theorem Cv(knd:HeapKind prog w K)(d a:Addr)(hd:(d == sysModules)=false)(dflt:Value) :
  MeetsIn prog w (Builtin.«dict.setdefault» ⟨[.ref d,.ref a,dflt],[]⟩) (λA R s=>knd.room A.in1/\∃k xs,knd.is s.heap k a/\s.heap.DictOfH knd d xs/\xs.length≤sizeLine /\
   (∀p,atKey xs k=some p->R (.ok (.ret p.2)) { s with toks:=s.toks+knd.draws k }) /\
   (atKey xs k=none->∀h',h'.DictOfH knd d (storedH xs k a dflt)->Heap.SameBut d s.heap h'->R (.ok (.ret dflt)) { s with heap:=h',toks:=s.toks+knd.draws k })) :=
 .of_wp λA R s zz=>by
  obtain⟨hu,k,xs,y194,hm,hz,h1,h2⟩:=zz
  unfold Builtin.«dict.setdefault»
  refine zc ?_
  unfold Builtin.Dict.keyAndDefault
  refine zc (wpAny_notOrdered_dict hm.typeIs ?_)
  show wpAny _ _ (pure (d,Value.ref a,some dflt)) _ _ s
  refine zf ?_
  show wpAny _ _ (if (d == sysModules)=true then _ else (dictSetDefault d (.ref a) dflt >>= _)) _ _ s
  rw [if_neg (by rw [hd];exact z18)]
  exact zc (Cu hu y194 hm (λp hp=>zf ⟨p.2,rfl,h1 p hp⟩) (λhn h' hm' hs'=>zf ⟨dflt,rfl,h2 hn h' hm' hs'⟩) hz)
end
section
variable {K:Type}[DecidableEq K]
noncomputable def bu(kvs more:List (K×Addr×Value)):List (K×Addr×Value):=more.foldl (λacc x=>storedH acc x.1 x.2.1 x.2.2) kvs
theorem uT(kvs more:List (K×Addr×Value))(i:Nat)(x:K×Addr×Value)(h:more[i]?=some x):bu kvs (more.take (i+1))=storedH (bu kvs (more.take i)) x.1 x.2.1 x.2.2:=by
 simp [bu,List.take_add_one,h,List.foldl_append]
theorem Cw(xs:List (K×Addr×Value))(k:K)(a:Addr)(v:Value):(storedH xs k a v).length≤xs.length+1:=by
 unfold storedH;split<;>simp
theorem lF(kvs more:List (K×Addr×Value)):(bu kvs more).length≤kvs.length+more.length:=by
 induction more generalizing kvs with
 | nil=>simp [bu]
 | cons x aS ih =>
  have e1:=ih (storedH kvs x.1 x.2.1 x.2.2)
  have e2:=Cw kvs x.1 x.2.1 x.2.2
  simp only [bu,List.foldl_cons,z29] at e1 ⊢
  lia
theorem uU{F:K->Addr->Prop}  (h:∀x∈xs,F x.1 x.2.1)(ha:F k a):∀x∈storedH xs k a v,F x.1 x.2.1:=by
 intro x hx
 unfold storedH at hx
 split at hx
 ·obtain⟨y,hy,rfl⟩:=z2c.mp hx
  have:=h y hy
  unfold putAt;split<;>exact this
 ·rcases z1d.mp hx with hx|hx
  ·exact h x hx
  ·rw [z28.mp hx];exact ha
theorem uV{F:K->Addr->Prop}:∀{more kvs:List (K×Addr×Value)},(∀x∈kvs,F x.1 x.2.1)->(∀x∈more,F x.1 x.2.1)->∀x∈bu kvs more,F x.1 x.2.1
 | [],kvs,h,_=>h
 | y::more,kvs,h,g=>uV (kvs:=storedH kvs y.1 y.2.1 y.2.2) (uU h (g y List.mem_cons_self)) λx hx=>g x (z22 _ hx)
end
section
variable {prog:Program}{w:World}{K:Type}[DecidableEq K]{knd:HeapKind prog w K}{A:Around}{E:Value->Shared->Prop}{R:Result->Shared->Prop}
noncomputable def uW(knd:HeapKind prog w K)(h:Heap)(k:K)(b:Addr):Prop:=∀h':Heap,(∀o,h.get? b=some o->h'.get? b=some o)->knd.is h' k b
theorem ye2{h h' h0:Heap}{d:Addr}{xs:List (K×Addr×Value)}(x:h.DictOfH knd d xs)(e:∀o,h.get? d=some o->h'.get? d=some o)(ks:∀x∈xs,uW knd h0 x.1 x.2.1)(kp:∀x∈xs,∀o,h0.get? x.2.1=some o->h'.get? x.2.1=some o):h'.DictOfH knd d xs:=by
 obtain⟨o,es,ep,ho,hc,hd,he,_,hn⟩:=x
 exact⟨o,es,ep,e o ho,hc,hd,he,λy hy=>ks y hy h' (kp y hy),hn⟩
noncomputable def Cy(knd:HeapKind prog w K)(h:Heap)(d I:Addr)(items:List Value)(ps:List (K×Addr×Value)):Prop :=
 items.length=ps.length/\∀(i:Nat) (p:K×Addr×Value),ps[i]?=some p->∃a,items[i]?=some (.ref a)/\a≠d/\a≠I/\IsTup h a #[.ref p.2.1,p.2.2]/\uW knd h p.1 p.2.1/\p.2.1≠d/\p.2.1≠I
theorem Cz{h₀:Heap}{I t d:Addr}{items:List Value}{ps:List (K×Addr×Value)}(hu:knd.room A.in1)(hh:A.in1.handled=none)(n1:t≠I)(n2:d≠I)(n3:d≠t)(ht:h₀.IsList t items.toArray)(hp:Cy knd h₀ d I items ps)(hz:ps.length≤sizeLine) :
  ∀(k i:Nat) (s:Shared),ps.length-i=k->i≤ps.length->s.heap.IsListIter I t i->(∀b o,b≠I->b≠d->h₀.get? b=some o->s.heap.get? b=some o)->s.heap.DictOfH knd d (bu [] (ps.take i)) ->
   (∀h' tk,(∀b o,b≠I->b≠d->h₀.get? b=some o->h'.get? b=some o)->h'.DictOfH knd d (bu [] ps)->R (.ok (.ret .none)) { s with heap:=h',toks:=tk }) ->
   codeAny (model prog w) A (.builtin "dict.update.loop" ⟨[.ref d,.ref I,rawInt i,.none],[]⟩) R s:=by
 have len:=hp.1
 have all:∀j,∀x∈bu [] (ps.take j),uW knd h₀ x.1 x.2.1/\x.2.1≠d/\x.2.1≠I:=λj=>uV (F:=λk b=>uW knd h₀ k b/\b≠d/\b≠I) (λx hx=>by cases hx) λx hx=>by
  obtain⟨m,hm,e⟩:=List.getElem_of_mem (List.mem_of_mem_take hx)
  obtain⟨_,_,_,_,_,q⟩:=hp.2 m x (by rw [z13 hm,e])
  exact q
 intro k
 induction k with
 | zero =>
  intro i s hk hi hit kp hd hR
  have hin:i=ps.length:=by lia
  subst hin
  refine codeAny_builtin uN ?_
  rw [Around.under_plainId lE _]
  show wpAny _ A.in1 (pyNext (.ref I) >>= _) _ _ s
  refine zc (wpAny_pyNext_list_end hh hit (uQ ht kp n1 n3) (by simp;lia) λh' eb=>?_)
  show wpAny _ A.in1 (Builtin.Dict.addKeywords d [] >>= _) _ _ _
  refine zc (zf (zf ?_))
  refine hR h' s.toks (λb o b1 b2 e=>eb b o b1 (kp b o b1 b2 e)) ?_
  rw [List.take_length] at hd
  have al:=all ps.length
  rw [List.take_length] at al
  exact ye2 hd (λo e=>eb d o n2 e) (λx hx=>(al x hx).1) λx hx o e=>eb _ o (al x hx).2.2 (kp _ o (al x hx).2.2 (al x hx).2.1 e)
 | succ k ih =>
  intro i s hk hi hit kp hd hR
  have hlt:i<ps.length:=by lia
  obtain⟨a,ev,a1,a2,ta,y194,b1,b2⟩:=hp.2 i ps[i] (z13 hlt)
  refine codeAny_builtin uN ?_
  rw [Around.under_plainId lE _]
  show wpAny _ A.in1 (pyNext (.ref I) >>= _) _ _ s
  refine zc (wpAny_pyNext_list_item hit (uQ ht kp n1 n3) (by simpa using ev) λh1 it1 sb1=>?_)
  obtain⟨o,ho,hc,n,y18d⟩:=ta
  have ho1:h1.get? a=some o:=(sb1.2 a a2).trans (kp a o a2 a1 ho)
  have hd1:h1.DictOfH knd d (bu [] (ps.take i)):=ye2 hd (λo e=>(sb1.2 d n2).trans e) (λx hx=>(all i x hx).1) λx hx o e=>(sb1.2 _ (all i x hx).2.2).trans (kp _ o (all i x hx).2.2 (all i x hx).2.1 e)
  have hk1:knd.is h1 (ps[i]).1 (ps[i]).2.1:=y194 h1 λo e=>(sb1.2 _ b2).trans (kp _ o b2 b1 e)
  refine zc (wpAny_holding (zc (wpAny_tryCatch ?_)))
  unfold Builtin.Dict.pairItems
  refine zc (wpAny_typeOf (show Shared.TypeIs { s with heap:=h1 } (.ref a) "tuple" from ⟨o,ho1,hc⟩) ?_)
  rw [if_pos (by decide)]
  refine zc (wpAny_seqItems ho1 y18d (zf ?_))
  show wpAny _ _ (holding [.ref (ps[i]).2.1,(ps[i]).2.2] (dictSet d (.ref (ps[i]).2.1) (ps[i]).2.2)) _ _ _
  have ml:=lF ([]:List (K×Addr×Value)) (ps.take i)
  refine wpAny_holding (wpAny_dictSet_heap hu hk1 hd1 (λh2 hd2 sb2=>?_) (by rw [z36] at ml;simp at ml;lia))
  refine zf ⟨plainId_quiet lE _,?_⟩
  have e1:((i:Int)+1)=((i+1:Nat):Int):=by lia
  have kp2:∀b o,b≠I->b≠d->h₀.get? b=some o->h2.get? b=some o:=λb o b1 b2 e=>(sb2.2 b b2).trans ((sb1.2 b b1).trans (kp b o b1 b2 e))
  have it2:h2.IsListIter I t (i+1):=by obtain⟨o,e,r⟩:=it1;exact⟨o,(sb2.2 I (Ne.symm n2)).trans e,r⟩
  rw [e1]
  refine ih (i+1) _ (by lia) hlt it2 kp2 (by rw [uT [] ps i ps[i] (z13 hlt)];exact hd2) λh' tk q1 q2=>hR h' tk q1 q2
theorem y94   (hu:knd.room A.in1.in1)(hh:A.handled=none)(ho:s.heap.get? t=some o)(hc:o.cls=.type "list")(hdi:o.dict=none)(y18d:o.data=.seq items.toArray n)
  (hp:∀d I,s.heap.objs.size≤d->s.heap.objs.size≤I->Cy knd s.heap d I items ps) (hz:ps.length≤sizeLine)
  (h:∀h' tk,(∀b o,s.heap.get? b=some o->h'.get? b=some o)->h'.DictOfH knd s.heap.objs.size (bu [] ps)->Q (.ref s.heap.objs.size) { s with heap:=h',toks:=tk }) :
  wpAny (model prog w) A (call (.type "dict") [.ref t]) Q E s:=by
 refine callType_codes (Q₁:=y3d s) F.kt_called_dict (F.kt_typeCall_dict_1 _) F.entry_dict_init (kt_code_dict_new _ ⟨rfl,rfl⟩) ?_
 rintro obj s₁ ⟨rfl,rfl⟩
 have y198:(s.heap.push { cls:=.type "dict",data:=.dict #[] }).DictOfH knd s.heap.objs.size []:=Heap.DictOfH.new s.heap
 have hlt:=z16 ho
 have ho1:(s.heap.push { cls:=.type "dict",data:=.dict #[] }).get? t=some o:=ze _ ho
 refine⟨y198.typeIs,F.args_dict_init_2 _ _,?_⟩
 unfold Builtin.«dict.__init__»
 refine zc ?_
 unfold Builtin.Dict.selfAndRest
 refine zc (wpAny_notOrdered_dict y198.typeIs (zf ?_))
 show wpAny _ _ (Builtin.Dict.updateFrom "dict.__init__" s.heap.objs.size (.ref t) [] .none) _ _ _
 unfold Builtin.Dict.updateFrom
 refine zc (wpAny_typeOf (show Shared.TypeIs { s with heap:=s.heap.push { cls:=.type "dict",data:=.dict #[] } } (.ref t) "list" from ⟨o,ho1,hc⟩) ?_)
 rw [if_pos (by decide)]
 refine zc (Cs ho1 hc y18d hdi hh λh1 tk1 k1=>?_)
 rw [if_pos (by rfl:(none:Option Value).isNone=true)]
 refine zc (wpAny_rule ?_)
 have ho2:h1.get? t=some o:=k1 _ _ ho1
 refine zc (wpAny_pyIter_list (show h1.IsList t items.toArray from ⟨o,ho2,hc,n,y18d⟩) ?_)
 have sz1:s.heap.objs.size<h1.objs.size:=z16 (k1 _ _ (z1c s.heap rfl))
 refine zf ⟨plainId_quiet lE _,?_⟩
 refine Cz hu hh (z1f (Nat.lt_trans hlt sz1)) (z1f sz1) (Nat.ne_of_gt hlt) ⟨o,ho,hc,n,y18d⟩ (hp _ _ (z12 _) (z38 sz1)) hz _ 0 _ rfl (Nat.zero_le _) ⟨_,z1c _ rfl,rfl,rfl⟩ (λb o b1 b2 e=>ze _ (k1 _ _ (ze _ e))) ?_ λh' tk q1 q2=>⟨rfl,h h' tk (λb o e=>q1 b o (λz=>?_) (λz=>?_) e) q2⟩
 ·obtain⟨u,es,ep,hu,hc',hd',he',_,hn'⟩:=y198
  exact⟨u,es,ep,ze _ (k1 _ _ hu),hc',hd',he',(λx hx=>by cases hx),hn'⟩
 ·exact z30 _ (z19 (z16 e) (by rw [z];exact z38 sz1))
 ·exact z30 _ (z19 (z16 e) (by rw [z];exact z12 _))
end
section
variable {prog:Program}{w:World}{K:Type}[DecidableEq K]{knd:HeapKind prog w K}{A:Around}{E:Value->Shared->Prop}{s:Shared}
theorem uX{xs:List (K×Addr×Value)}{k:K}{a:Addr}{v:Value}(nd:(xs.map (·.1)).Nodup):((storedH xs k a v).map (·.1)).Nodup:=by
 cases q:atKey xs k with
 | some p=>rw [storedH_old q,keys_map_putAt];exact nd
 | none =>
  have no:∀x∈xs,x.1≠k:=λx m z=>by
   have:=List.find?_eq_none.mp (Option.map_eq_none_iff.mp q) x m
   simp [z] at this
  rw [storedH_new q,z26]
  refine List.nodup_append.mpr ⟨nd,by simp,λx hx y hy z=>?_⟩
  obtain⟨u,mu,rfl⟩:=z2c.mp hx
  exact no u mu (z.trans (by simpa using hy))
theorem CA(hu:knd.room A)(y194:knd.is s.heap k a)(hm:s.heap.DictOfH knd d xs)
  (hQ:∀h',h'.DictOfH knd d (storedH xs k a v)->Heap.SameBut d s.heap h'->Q () { s with heap:=h' }) (hsz:xs.length≤sizeLine) :
  wpAny (model prog w) A (dictSetHashed d (.ref a) (knd.hash k) v) Q E s:=by
 obtain⟨o,es,ep,ho,hc,hd,he,his,hn⟩:=hm
 have len:=size_of_entries he
 have keys:∀{h'},Heap.SameBut d s.heap h'->∀x∈storedH xs k a v,knd.is h' x.1 x.2.1:=λsb=>uU (F:=λy b=>knd.is _ y b) (λx m=>knd.keeps (his x m) ho hd sb) (knd.keeps y194 ho hd sb)
 unfold dictSetHashed
 refine wpAny_holding (zc (wpAny_dictFind_heap hu y194 ho hd he his hn (λno=>?_) λj p hj=>?_))
 ·have sb:=Heap.SameBut.update s.heap d (Obj.mapDictKeys (·.push ⟨knd.hash k,.ref a,v⟩))
  refine zc (wpAny_rule (wpAny_updateDictKeys (hz:=by lia) ho hd (hQ _ ⟨_,_,_,Heap.get?_update_self _ ho (Obj.isFreed_of_dict (Obj.data_mapDictKeys hd _)),hc.mapDictKeys _,Obj.data_mapDictKeys hd _,?_,keys sb,uX hn⟩ sb)))
  rw [storedH_new (atKey_none_of_get no),Array.toList_push,he,z26]
  rfl
 ·have sb:=Heap.SameBut.update s.heap d (Obj.mapDict (·.modify j λe=>{ e with val:=v }))
  refine zc (wpAny_rule (zc (wpAny_updateDict ho hd (wpAny_point (hQ _ ⟨_,_,_,Heap.get?_update_self _ ho (Obj.isFreed_of_dict (Obj.data_mapDict hd _)),hc.mapDict _,Obj.data_mapDict hd _,?_,keys sb,uX hn⟩ sb)))))
  have put:=modify_map_putAt (entryOfKey knd) (λe:DictEntry=>{ e with val:=v }) k v (λ_ _=>rfl) hn hj
  rw [storedH_old (atKey_of_get hn hj),<- put,<- he]
  simp
theorem CB{id:String}{d:Addr}{o:Obj}{es ep}{xs:List (K×Addr×Value)}{Q:Array DictEntry->Shared->Prop}(ho:s.heap.get? d=some o)(hd:o.data=.dict es ep)(he:es.toList=xs.map (entryOfKey knd))
  (ty:∀x∈xs,s.TypeIs (.ref x.2.1) "tuple") (hn:(xs.map λx=>knd.hash x.1).Nodup) (h:Q es s) :
  wpAny (model prog w) A (Builtin.Dict.entriesForEmpty id d) Q E s:=by
 unfold Builtin.Dict.entriesForEmpty
 refine zc (wpAny_dictEntries ho hd ?_)
 refine zc ?_
 rw [<- Array.forIn_toList]
 have one:∀e∈es.toList,¬ ((es.filter (·.hash == e.hash)).size>1):=λe hm=>by
  have e1:(es.filter (·.hash == e.hash)).toList=es.toList.filter (·.hash == e.hash):=by simp
  rw [<- Array.length_toList,e1]
  have nd:(es.toList.map (·.hash)).Nodup:=by rw [he,z39];exact hn
  generalize es.toList=l at nd
  clear e1 hm
  intro gt
  induction l with
  | nil=>simp at gt
  | cons a l ih =>
   rw [z15,List.nodup_cons] at nd
   by_cases q:(a.hash == e.hash)=true
   ·rw [List.filter_cons_of_pos (by simpa using q),z29] at gt
    have:l.filter (λx=>x.hash == e.hash)=[]:=List.filter_eq_nil_iff.mpr λb hb z=>nd.1 (by
     have e2:a.hash=e.hash:=by simpa using q
     have e3:b.hash=e.hash:=by simpa using z
     rw [e2,<- e3];exact z2c.mpr ⟨b,hb,rfl⟩)
    rw [this] at gt;simp at gt
   ·rw [List.filter_cons_of_neg (by simpa using q)] at gt
    exact ih nd.2 gt
 refine wpAny_forIn_list _ (λaS _ s'=>s'=s/\∀e∈aS,e∈es.toList) _ ?_ ?_ _ _ ⟨rfl,λ_ q=>q⟩
 ·rintro e aS b s' ⟨rfl,al⟩
  have hm:=al e List.mem_cons_self
  obtain⟨x,hx,ex⟩:∃x∈xs,entryOfKey knd x=e:=by
   have:=hm;rw [he] at this;exact z2c.mp this
  have hk:e.key=.ref x.2.1:=by rw [<- ex];rfl
  rw [hk]
  unfold Builtin.Dict.quietEq
  refine zc (zc (wpAny_specialOf (ty x hx) F.slot_tuple_eq.lookup (zf ?_)))
  rw [show (some (Value.builtin "tuple.__eq__") == some (Value.builtin "object.__eq__"))=false from by decide]
  simp only [Bool.not_false,if_true]
  rw [if_neg (one e hm)]
  exact zf ⟨rfl,λe' q=>al e' (z22 _ q)⟩
 ·rintro b s' ⟨rfl,_⟩
  exact zf h
end
section
variable {prog:Program}{w:World}{K:Type}[DecidableEq K]{knd:HeapKind prog w K}{A:Around}{E:Value->Shared->Prop}{s:Shared}
theorem CC(acc more:List (K×Addr×Value))(hn:((acc++more).map (·.1)).Nodup):bu acc more=acc++more:=by
 induction more generalizing acc with
 | nil=>simp [bu]
 | cons kv aS ih =>
  have hf:atKey acc kv.1=none:=by
   refine atKey_none_of_get λj p hj=>?_
   rw [z26,z15,List.nodup_append] at hn
   exact hn.2.2 kv.1 (z2c.mpr ⟨_,z2e hj,rfl⟩) kv.1 List.mem_cons_self rfl
  have:bu acc (kv::aS)=bu (acc++[kv]) aS:=by
   simp only [bu,List.foldl_cons]
   rw [storedH_new hf]
  rw [this,ih (acc++[kv]) (by simpa using hn)]
  simp
theorem uY{M:Model}{A:Around}{E:Value->Shared->Prop}{f:Nat->PUnit->Sem (ForInStep PUnit)}{Q:PUnit->Shared->Prop}(J:Nat->Shared->Prop):∀(n i:Nat) (s:Shared),
  (∀j t,j<i+n->J j t->wpAny M A (f j ⟨⟩) (λr t'=>r=.yield ⟨⟩/\J (j+1) t') E t)->J i s->(∀t,J (i+n) t->Q ⟨⟩ t)->wpAny M A (forIn (List.range' i n) PUnit.unit f) Q E s
 | 0,i,s,_,j,k=>zf (k s j)
 | n+1,i,s,step,j,k=>by
  rw [List.range'_succ,List.forIn_cons]
  refine zc (wpAny_mono (step i s (by lia) j) (λr t z=>?_) λ_ _ z=>z)
  obtain⟨rfl,z⟩:=z
  exact uY J n (i+1) t (λj t l=>step j t (by lia)) z λt y=>k t (by rw [show i+(n+1)=i+1+n from by lia];exact y)
theorem CD{nm:String}{d o:Addr}{kvs more:List (K×Addr×Value)}{Q:Unit->Shared->Prop}(hu:knd.room A)(hdo:d≠o)(hoS:(o == sysModules)=false)
  (hd:s.heap.DictOfH knd d kvs) (ho:s.heap.DictOfH knd o more) (ty:∀x∈more,s.TypeIs (.ref x.2.1) "tuple") (hne:kvs=[]->(more.map λx=>knd.hash x.1).Nodup)
  (hQ:∀h',h'.DictOfH knd d (bu kvs more)->Heap.SameBut d s.heap h'->Q () { s with heap:=h' })
  (hsz:kvs.length+more.length≤sizeLine) :
  wpAny (model prog w) A (Builtin.Dict.mergeDict nm d o) Q E s:=by
 obtain⟨od,esd,epd,hod,hcd,hdd,hed,_,_⟩:=id hd
 obtain⟨oo,eso,epo,hoo,_,hoe,heo,hiso,hno⟩:=ho
 have len:eso.size=more.length:=size_of_entries heo
 have same:∀{h'},Heap.SameBut d s.heap h'->h'.get? o=some oo:=λsb=>(sb.2 o hdo.symm).trans hoo
 unfold Builtin.Dict.mergeDict Builtin.Dict.showsAll
 rw [if_neg (by simpa using hdo),if_neg (by rw [hoS];exact z18)]
 refine zc (zf (zc (wpAny_dictEntries hoo hoe ?_)))
 dsimp only
 split
 refine zc (wpAny_dictEntries hod hdd ?_)
 split
 ·rename_i none
  obtain rfl:kvs=[]:=List.length_eq_zero_iff.mp (by rw [<- size_of_entries hed,Array.isEmpty_iff.mp none];rfl)
  rw [show bu [] more=more from by simpa using CC [] more (by simpa using hno)] at hQ
  rw [List.length_nil,Nat.zero_add,<- len] at hsz
  refine zc (CB hoo hoe heo ty (hne rfl) ?_)
  split
  ·have sb:=Heap.SameBut.update s.heap d (Obj.mapDictKeys λ_=>eso)
   exact zc (wpAny_updateDictKeysTo hod hdd (zf (hQ _ ⟨_,_,_,Heap.get?_update_self _ hod (Obj.isFreed_of_dict (Obj.data_mapDictKeys hdd _)),hcd.mapDictKeys _,Obj.data_mapDictKeys hdd _,heo,λy m=>knd.keeps (hiso y m) hod hdd sb,hno⟩ sb)) (Nat.le_succ_of_le hsz))
  ·rename_i some
   obtain rfl:more=[]:=List.length_eq_zero_iff.mp (by have z:eso=#[]:=Array.isEmpty_iff.mp (by simpa using some);rw [<- len,z];rfl)
   exact zf (hQ _ hd (.refl _ _))
 all_goals
  refine zc (wpAny_dictEpoch hoo hoe (zc (wpAny_dictEntries hoo hoe (zc ?_))))
  rw [Std.Legacy.Range.forIn_eq_forIn_range']
  simp only [Std.Legacy.Range.size,Nat.sub_zero,Nat.add_sub_cancel,Nat.div_one]
  refine uY (λi t=>∃h',t={ s with heap:=h' }/\h'.DictOfH knd d (bu kvs (more.take i))/\Heap.SameBut d s.heap h') _ 0 s (λi t lt z=>?_) ⟨s.heap,rfl,by simpa [bu] using hd,.refl _ _⟩ λt z=>?_
  ·obtain⟨h',rfl,dd,sb⟩:=z
   have lt:i<more.length:=by lia
   have small:(bu kvs (more.take i)).length≤sizeLine:=by
    have e1:=lF kvs (more.take i)
    rw [z36] at e1
    lia
   refine zc (wpAny_dictEntries (same sb) hoe ?_)
   rw [show eso[i]?=some (entryOfKey knd more[i]) from by rw [entry_at heo i,z13 lt];rfl]
   refine zc (wpAny_holding (CA hu (knd.keeps (hiso _ (z2d lt)) hod hdd sb) dd (λg dg sg=>?_) small))
   refine zc (wpAny_dictEpoch (same (sb.trans sg)) hoe ?_)
   rw [if_neg (by simp)]
   exact zf ⟨rfl,g,rfl,by rw [uT kvs more i more[i] (z13 lt)];exact dg,sb.trans sg⟩
  ·obtain⟨h',rfl,dd,sb⟩:=z
   rw [Nat.zero_add,len,List.take_length] at dd
   exact zf (hQ h' dd sb)
theorem CF(knd:HeapKind prog w K)(d o:Addr)(hdo:d≠o)(hoS:(o == sysModules)=false) :
  MeetsIn prog w (Builtin.«dict.update» ⟨[.ref d,.ref o],[]⟩) (λA R s=>knd.room A.in1/\∃kvs more,s.heap.DictOfH knd d kvs/\s.heap.DictOfH knd o more/\(∀x∈more,s.TypeIs (.ref x.2.1) "tuple")/\(kvs=[]->(more.map λx=>knd.hash x.1).Nodup)/\kvs.length+more.length≤sizeLine /\
   ∀h',h'.DictOfH knd d (bu kvs more)->Heap.SameBut d s.heap h'->R (.ok (.ret .none)) { s with heap:=h' }) :=
 .of_wp λA R s zz=>by
  obtain⟨hu,kvs,more,hd,ho,ty,hne,hsz,h⟩:=zz
  have plain:¬ (Value.type "dict" != Value.type "dict")=true:=by decide
  unfold Builtin.«dict.update» Builtin.Dict.selfAndRest
  refine zc (zc (wpAny_notOrdered_dict hd.typeIs (zf ?_)))
  unfold Builtin.Dict.updateCommon Builtin.Dict.updateFrom Builtin.Dict.merge Builtin.Dict.readDirectly
  refine zc (wpAny_typeOf ho.typeIs ?_)
  rw [if_neg plain]
  refine zc (zc (zc (wpAny_isInstance ho.typeIs isSubtype_dict_dict ?_)))
  simp only [Bool.not_true,Bool.false_eq_true,if_false]
  refine zc (wpAny_specialOf ho.typeIs F.slot_dict_iter.lookup (zf ?_))
  simp only [beq_self_eq_true,if_true]
  exact zc (zf (CD hu hdo hoS hd ho ty hne (λg dg sb=>zc (m:=Builtin.Dict.addKeywords d []) (zf (zf ⟨.none,rfl,h g dg sb⟩))) hsz))
end
section
variable {prog:Program}{w:World}{K:Type}[DecidableEq K]{knd:KeyKind prog w K}{A:Around}{E:Value->Shared->Prop}{s:Shared}
theorem y93 (ho:s.heap.DictOf knd o more)(hoS:(o == sysModules)=false)(hsz:more.length≤sizeLine)
  (h:∀h' tk,(∀b o,s.heap.get? b=some o->h'.get? b=some o)->h'.DictOf knd s.heap.objs.size more->Q (.ref s.heap.objs.size) { s with heap:=h',toks:=tk }) :
  wpAny (model prog w) A (call (.type "dict") [.ref o]) Q E s:=by
 refine callType_codes (Q₁:=y3d s) F.kt_called_dict (F.kt_typeCall_dict_1 _) F.entry_dict_init (kt_code_dict_new _ ⟨rfl,rfl⟩) ?_
 rintro obj s₁ ⟨rfl,rfl⟩
 have y198:(s.heap.push { cls:=.type "dict",data:=.dict #[] }).DictOf knd s.heap.objs.size []:=Heap.DictOf.new s.heap
 obtain⟨oo,eo,epo,hoo,r⟩:=id ho
 have hlt:=z16 hoo
 have ho1:(s.heap.push { cls:=.type "dict",data:=.dict #[] }).DictOf knd o more:=⟨oo,eo,epo,ze _ hoo,r⟩
 refine⟨y198.typeIs,F.args_dict_init_2 _ _,?_⟩
 unfold Builtin.«dict.__init__»
 refine zc ?_
 unfold Builtin.Dict.selfAndRest
 refine zc (wpAny_notOrdered_dict y198.typeIs (zf ?_))
 show wpAny _ _ (Builtin.Dict.updateFrom "dict.__init__" s.heap.objs.size (.ref o) [] .none) _ _ _
 unfold Builtin.Dict.updateFrom
 refine zc (wpAny_typeOf (ho1.typeIs) ?_)
 rw [if_neg (by decide)]
 refine zc ?_
 unfold Builtin.Dict.merge
 refine zc ?_
 unfold Builtin.Dict.readDirectly
 refine zc (wpAny_isInstance (ho1.typeIs) isSubtype_dict_dict ?_)
 simp only [Bool.not_true,Bool.false_eq_true,if_false]
 refine zc (wpAny_specialOf (ho1.typeIs) F.slot_dict_iter.lookup (zf ?_))
 simp only [beq_self_eq_true,if_true]
 refine zc (zf ?_)
 refine wpAny_mergeDict (Nat.ne_of_gt hlt) hoS y198 ho1 λh' hd' _ hs'=>?_
 show wpAny _ _ (Builtin.Dict.addKeywords _ [] >>= _) _ _ _
 refine zc (zf (zf ⟨rfl,h h' _ (λb u e=>(hs'.2 b (z1f (z16 e))).trans (ze _ e)) ?_⟩))
 rw [merged_nil_of_nodup more r.2.2.2.2] at hd'
 exact hd'
end
end PySem
set_option maxHeartbeats 400000
namespace L2
open PySem PySem.Spec PyProof.Rows
section
section
noncomputable def rSd:V->List V->Hp->VK->Prop:=λx vs H Q=>∃(a b:Addr) (kvs:List (List ai×V)) (k:List ai) (y:V),x=.ref a/\vs=[.ref b,y]/\H a=some (.dT kvs)/\H b=some (.tup (k.map kV))/\kvs.length<sizeLine /\
 (∀v,bD kvs k=some v->Q v H)/\(bD kvs k=none->Q y (ax H a (.dT (bE kvs k y))))
theorem CG(hu:X.A.units+50<cLine):wY X "dict.setdefault" rSd:=by
 intro pins s σ H x vs v us Q I rx rv h
 obtain⟨a,b,kvs,k,y,rfl,rfl,hH,hb,hl,q1,q2⟩:=h
 cases rx
 cases rv with
 | cons rb rv=>cases rv with
  | cons ry rv =>
   cases rv
   rename_i ub uy
   cases (show ub=Value.ref b from rb)
   obtain⟨z,hd,xs,rel,dd⟩:=wX I.hok hH
   have hz:xs.length≤sizeLine:=by rw [<- Paired.length rel];exact z
   refine call_meetsIn PySem.F.slot_dict_setdefault dd.typeIs PySem.F.entry_dict_setdefault (PySem.F.args_dict_setdefault_3 _ _ _) (Cv (tupleKind (bx X.prog X.w)) a b hd uy) ⟨show X.A.units+1<cLine by lia,k,xs,gN I.hok hb,dd,hz,λp hp=>?_,λhn h' dd' hs=>?_⟩
   ·have rv:=rel.val k
    rw [hp] at rv
    cases e:bD kvs k with
    | none=>rw [e] at rv;exact rv.elim
    | some w=>rw [e] at rv;exact⟨w,H,I.tok _,rv,q1 w e⟩
   ·have rv:=rel.val k
    rw [hn] at rv
    have e:bD kvs k=none:=by
     cases e:bD kvs k with
     | none=>rfl
     | some w=>rw [e] at rv;exact rv.elim
    obtain⟨q,es,ep,hq,h2,h3,h4,_,h5⟩:=dd'
    have hl':(bE kvs k y).length≤sizeLine:=by have:=kh kvs k y;lia
    refine⟨y,_,pJ I (by rw [hH];exact True.intro) hs ⟨q,hq⟩ (ob:=.dT (bE kvs k y)) ⟨hl',hd,_,(rel.put k hb ry).keeps λc ys ec=>?_,q,es,ep,hq,h2,h3,h4,h5⟩,ry,q2 e⟩
    rw [ay (iV ec hH (λz=>nomatch z))]
    exact ec
noncomputable def fG(kvs more:List (List ai×V)):List (List ai×V):=more.foldl (λacc kv=>bE acc kv.1 kv.2) kvs
theorem KT.merge:∀{more:List (List ai×V)} {rs:List (List ai×Addr×Value)} {kvs:List (List ai×V)} {xs:List (List ai×Addr×Value)},KT H more rs->KT H kvs xs->KT H (fG kvs more) (bu xs rs):=by
 intro more rs kvs xs r
 unfold KT at r
 induction r generalizing kvs xs with
 | nil=>intro q;exact q
 | @cons p q ps qs h t ih =>
  intro r0
  obtain⟨p1,p2⟩:=p
  obtain⟨q1,q2,q3⟩:=q
  obtain⟨h1,h2,h3⟩:=h
  dsimp only at h1 h2 h3
  subst h1
  exact ih (r0.put p1 h2 h3)
noncomputable def uZ(H:Hp)(vs:List V)(ps:List (List ai×V)):Prop:=Paired (λv p=>∃a b,v=V.ref a/\H a=some (.tup [.ref b,p.2])/\H b=some (.tup (p.1.map kV))) vs ps
theorem CH  (ok:cm P w H h)(e:H a=some (.tup (ks.map kV))):uW (tupleKind (bx P w)) h ks a:=λh' kp=>by
 obtain⟨o,items,n,h1,r⟩:=gN ok e
 exact⟨o,items,n,kp o h1,r⟩
theorem CI(I:Inv X pins σ H s):∀{vs:List V} {ps:List (List ai×V)} {us:List Value},uZ H vs ps->ag vs us->∃rs:List (List ai×Addr×Value),KT H ps rs/\∀d J,s.heap.objs.size≤d->s.heap.objs.size≤J->Cy (tupleKind (bx X.prog X.w)) s.heap d J us rs:=by
 intro vs ps us h r
 unfold uZ at h
 induction h generalizing us with
 | nil=>cases r;exact⟨[],.nil,λd J _ _=>⟨rfl,λi p e=>by simp at e⟩⟩
 | @cons v p vs ps h1 h2 ih =>
  cases r with
  | @cons _ u _ us r1 r2 =>
   obtain⟨a,b,rfl,ha,hb⟩:=h1
   obtain⟨rs,q1,q2⟩:=ih r2
   cases (show _=Value.ref a from r1)
   obtain⟨_,its,rv,pt⟩:=(show cn X.prog X.w H s.heap a (.tup [.ref b,p.2]) from I.hok a _ ha)
   obtain⟨k,u,rfl⟩:∃k u,its=[k,u]:=by
    cases rv with
    | cons _ rv=>cases rv with
     | cons _ rv=>cases rv;exact⟨_,_,rfl⟩
   cases rv with
   | cons rk rv=>cases rv with
    | cons ru _ =>
     cases (show k=Value.ref b from rk)
     have hlt:a<s.heap.objs.size:=by obtain⟨_,e,_⟩:=pt;exact z16 e
     have hlb:b<s.heap.objs.size:=I.hok.lt hb
     refine⟨(p.1,b,u)::rs,.cons ⟨rfl,hb,ru⟩ q1,λd J hd hJ=>⟨by simp [(q2 d J hd hJ).1],λi y e=>?_⟩⟩
     cases i with
     | zero =>
      cases (show (p.1,b,u)=y from z2a e)
      exact⟨a,rfl,z1f (z19 hlt hd),z1f (z19 hlt hJ),pt.tup,CH I.hok hb,z1f (z19 hlb hd),z1f (z19 hlb hJ)⟩
     | succ i=>exact (q2 d J hd hJ).2 i y e
theorem y92(hc:X.calm=true)(hu:X.A.units+50<cLine):y9 X (.type "dict") (λxs H Q=>∃(p:Addr) (vs:List V) (ps:List (List ai×V)),xs=[.ref p]/\H p=some (.lst vs)/\uZ H vs ps/\ps.length≤1000000/\∀l,H l=none->Q (.ref l) (ax H l (.dT (fG [] ps)))):=by
 intro pins s σ H xs us Q I r h
 obtain⟨p,vs,ps,rfl,hp,hv,hz,q⟩:=h
 obtain⟨u,rfl,ru⟩:=bY r
 cases (show _=Value.ref p from ru)
 obtain⟨_,its,n,rv,ho⟩:=(show cn X.prog X.w H s.heap p (.lst vs) from I.hok p _ hp)
 obtain⟨rs,q1,q2⟩:=CI I hv rv
 have hl:=Paired.length q1
 have hs:(1000000:Nat)≤sizeLine:=by decide
 refine y94 (show X.A.units+1+1<cLine by lia) (I.ok.hd hc) ho rfl rfl rfl q2 (by lia) λh' tk kp hd=>?_
 have hm:=KT.merge q1 (Paired.nil:KT H ([]:List (List ai×V)) ([]:List (List ai×Addr×Value)))
 have ml:(bu ([]:List (List ai×Addr×Value)) rs).length≤0+rs.length:=lF [] rs
 have hl2:=Paired.length hm
 obtain⟨o,es,ep,g1,g2,g3,g4,_,g5⟩:=hd
 refine⟨.ref s.heap.objs.size,_,I.laid (o:=.dT (fG [] ps)) kp (z12 _) ⟨by lia,beq_eq_false_iff_ne.mpr (Ne.symm (z1f I.big)),_,hm.keeps λc ys ec=>?_,o,es,ep,g1,g2,g3,g4,g5⟩,rfl,q _ (I.hok.fresh (z12 _))⟩
 rw [ay (z1f (I.hok.lt ec))]
 exact ec
noncomputable def gA(w:World)(k:List ai):Int:=reduceHash (Builtin.Tuple.tupleHashOf (k.map (mN w)))
noncomputable def u0(w:World):V->List V->Hp->VK->Prop:=λx vs H Q=>∃(a b:Addr) (kvs more:List (List ai×V)),x=.ref a/\vs=[.ref b]/\a≠b/\H a=some (.dT kvs)/\H b=some (.dT more)/\(kvs=[]->(more.map λp=>gA w p.1).Nodup)/\kvs.length+more.length≤1000000/\Q .non (ax H a (.dT (fG kvs more)))
theorem CJ(hu:X.A.units+50<cLine):wY X "dict.update" (u0 X.w):=by
 intro pins s σ H x vs v us Q I rx rv h
 obtain⟨a,b,kvs,more,rfl,rfl,hab,ha,hb,hn,hl,q⟩:=h
 cases rx
 obtain⟨u,rfl,ru⟩:=bY rv
 cases (show _=Value.ref b from ru)
 obtain⟨z1,hd1,xs,rel,dd⟩:=wX I.hok ha
 obtain⟨z2,hd2,ys,rel2,dd2⟩:=wX I.hok hb
 have l1:=Paired.length rel
 have l2:=Paired.length rel2
 have hs:(1000000:Nat)≤sizeLine:=by decide
 have ty:∀y∈ys,s.TypeIs (.ref y.2.1) "tuple":=λy hy=>by
  obtain⟨_,_,_,_,_,_,_,his,_⟩:=dd2
  exact IsTupleKey.typeIs (his y hy)
 have hh:(ys.map λy=>(tupleKind (bx X.prog X.w)).hash y.1)=more.map λp=>gA X.w p.1:=by
  clear q hn hl z2 dd2 l2 ty hb
  unfold KT at rel2
  induction rel2 with
  | nil=>rfl
  | cons h _ ih=>rw [z15,z15,ih,h.1];rfl
 refine call_meetsIn PySem.F.slot_dict_update dd.typeIs PySem.F.entry_dict_update (PySem.F.args_dict_update_2 _ _) (CF (tupleKind (bx X.prog X.w)) a b hab hd2) ⟨show X.A.units+1<cLine by lia,xs,ys,dd,dd2,ty,λe=>?_,by lia,λh' dd' hs'=>?_⟩
 ·rw [hh]
  refine hn ?_
  subst e
  exact List.length_eq_zero_iff.mp (by simpa using l1)
 ·obtain⟨o,es,ep,g1,g2,g3,g4,_,g5⟩:=dd'
  have hm:=KT.merge rel2 rel
  have ml:=lF xs ys
  have hl2:=Paired.length hm
  refine⟨.non,_,pJ I (by rw [ha];exact True.intro) hs' ⟨o,g1⟩ (ob:=.dT (fG kvs more)) ⟨by lia,hd1,_,hm.keeps λc zs ec=>?_,o,es,ep,g1,g2,g3,g4,g5⟩,rfl,q⟩
  rw [ay (iV ec ha (λz=>nomatch z))]
  exact ec
theorem y91:y9 X (.type "dict") (λxs H Q=>∃(p:Addr) (kvs:List (ai×V)),xs=[.ref p]/\H p=some (.dK kvs)/\∀l,H l=none->Q (.ref l) (ax H l (.dK kvs))):=by
 intro pins s σ H xs us Q I r h
 obtain⟨p,kvs,rfl,hp,q⟩:=h
 obtain⟨u,rfl,ru⟩:=bY r
 cases (show _=Value.ref p from ru)
 obtain⟨z,hd,vs,rel,dd⟩:=nu I.hok hp
 have hl:=rel.length
 refine y93 dd hd (by lia) λh' tk kp dd'=>?_
 exact⟨.ref s.heap.objs.size,_,I.laid (o:=.dK kvs) kp (z12 _) ⟨z,beq_eq_false_iff_ne.mpr (Ne.symm (z1f I.big)),_,rel,dd'⟩,rfl,q _ (I.hok.fresh (z12 _))⟩
theorem CK(hu:X.A.units<cLine):bw X (compareOp .Eq) (λx y H Q=>∃(a b:Addr) (ka kb:List (ai×V)),x=.ref a/\y=.ref b/\H a=some (.dK ka)/\H b=some (.dK kb)/\dz ka=true/\dz kb=true/\Q (.bl (ka.length == kb.length&&oR kb ka)) H):=by
 intro pins s σ H x y v u Q I rx ry h
 obtain⟨a,b,ka,kb,rfl,rfl,e1,e2,f1,f2,q⟩:=h
 cases rx
 cases ry
 obtain⟨_,ha,va,ra,da⟩:=nu I.hok e1
 obtain⟨_,hb,vb,rb,db⟩:=nu I.hok e2
 refine W.keq_eq ha hb da db hu (λ_=>uR rb f2 ra f1) ?_
 rw [<- ra.length,<- rb.length]
 exact⟨.bl _,H,I,rfl,q⟩
end
end
end L2
namespace PySem
theorem CL:entryFor table "dict_itemiterator.__iter__" = some Builtin.«dict_keyiterator.__iter__» :=
 entryFor_alias (id':="dict_keyiterator.__iter__") (by kernel_rfl) rfl (by decide +kernel) (by kernel_rfl)
theorem CM    (hit:IsItemIter s.heap it d i n ep ok ov)(h:Q (.ref it) s):wpAny (model prog w) A (pyIter (.ref it)) Q E s:=by
 have ty:s.TypeIs (.ref it) "dict_itemiterator":=⟨_,hit,rfl⟩
 refine wpAny_pyIter_slot ty F.slot_dict_itemiterator_iter (wpAny_call_entry F.slot_dict_itemiterator_iter ty CL ?_ (F.args_dict_itemiterator_iter_1 _))
 show wpAny _ _ (ret (.ref it)) _ _ s
 exact zf ⟨_,rfl,"dict_itemiterator",_,ty,F.slot_dict_itemiterator_next.lookup,h⟩
end PySem
namespace L2
open PySem PySem.Spec PyProof.Rows
section
theorem KV.at{κ:Type}:∀{kvs:List (κ×V)} {vs:List (κ×Value)} {i:Nat} {p:κ×V},KV kvs vs->kvs[i]?=some p->∃u,vs[i]?=some (p.1,u)/\au p.2 u
 | _,_,_,_,.nil,e=>by simp at e
 | _,_,0,_,.cons r _,e=>by
  simp at e;subst e
  obtain⟨r1,r2⟩:=r
  exact⟨_,by rw [r1];rfl,r2⟩
 | _,_,i+1,p,.cons _ r,e=>KV.at (i:=i) r e
theorem CN (h:fT k u=true):au (kV k) u:=by
 rcases dF h with⟨i,t,rfl,rfl⟩| ⟨x,t,rfl,rfl⟩
 ·exact⟨t,rfl⟩
 ·exact⟨t,rfl⟩
noncomputable def Iti(a:Addr)(o:Obj):It:=⟨λi H=>∃kvs p,H a=some (.frz o (.dK kvs))/\kvs[i]?=some p,
 λi H v H'=>∃T,v=.ref T/\H T=none/\∀kvs p,H a=some (.frz o (.dK kvs))->kvs[i]?=some p->H'=ax H T (.tup [kV p.1,p.2]),λi H=>∃kvs,H a=some (.frz o (.dK kvs))/\kvs.length=i⟩
theorem ydf    (ok:cm P w H h)(e:H a=some (.frz o (.dK kvs)))(hd:o.data=.dict es ep):∃vs,KV kvs vs/\h.DictAt (bx P w) a vs ep/\vs.length=es.size:=by
 obtain⟨h1,_,_,vs,rel,o',es',ep',g1,g2,g3,g4,g5,g6⟩:=(show cn P w H h a (.frz o (.dK kvs)) from ok a _ e)
 rw [h1] at g1;cases g1
 rw [hd] at g3
 injection g3 with g3 g3'
 subst g3 g3'
 exact⟨vs,rel,⟨o,es,h1,g2,hd,g4,g5,g6⟩,by have:=g5.length;simpa using this.symm⟩
theorem CO{P:Program}{w:World}{K:W.Frag}{elts:List Expr}{k0:Nat}{p0:Pos}{it a:Addr}{o:Obj}{es:Array DictEntry}{ep:Nat}(hd:o.data=.dict es ep)(n1:a≠it) :
  Turn P w K (.Tuple elts k0 p0) (Iti a o) [it] it (λi h=>∃ok ov,IsItemIter h it a i es.size ep ok ov) where
 mem:=by simp
 obj:=λi h st b hb=>by
  obtain⟨ok,ov,h1⟩:=st
  simp only [z1b,List.not_mem_nil,or_false] at hb
  subst hb
  exact⟨_,h1,λv q=>by cases q⟩
 keep:=λi h h' st k=>by
  obtain⟨ok,ov,h1⟩:=st
  exact⟨ok,ov,k it (by simp) _ h1⟩
 item:=by
  intro X hP hw hK hc i pins s σ H E I hf st hg
  subst hP hw hK
  obtain⟨kvs,p,hx,ex⟩:=hg
  obtain⟨vs,rel,dd,hl⟩:=ydf I.hok hx hd
  obtain⟨u,eu,ru⟩:=KV.at rel ex
  obtain⟨ok,ov,h1⟩:=st
  rw [<- hl] at h1
  refine wpAny_pyNext_items_item h1 dd eu λkey h' y194 hout ht hsz hk=>⟨.ref _,rfl,?_⟩
  refine wpAny_letOwnedTupleGo_items hout λh'' hit'' hs''=>?_
  have lt:=z16 h1
  have nT:s.heap.objs.size≠it:=Nat.ne_of_gt lt
  refine⟨.ref s.heap.objs.size,ax H s.heap.objs.size (.tup [kV p.1,p.2]),?_,rfl,⟨_,rfl,I.hok.fresh (z12 _),λy1f1 p' q1 q2=>?_⟩,⟨key,u,by rw [<- hl];exact hit''⟩,λb hb=>?_⟩
  ·refine I.y44b hf (λb o' hb q=>hs''.extBut b o' (λz=>hb (by simp [z])) (hk b o' (λz=>hb (by simp [z])) q)) (z12 _) ?_
   exact⟨by show 2≤sizeLine;decide,[key,u],.cons (CN y194) (.cons ru .nil),⟨_,hs''.extBut _ _ nT ht,rfl,rfl,_,rfl⟩⟩
  ·rw [hx] at q1
   cases q1
   rw [ex] at q2
   cases q2
   rfl
  ·have q:=(hf b hb).1
   simp only [z1b,List.not_mem_nil,or_false] at hb
   rw [ay (by rw [hb];exact nT.symm)];exact q
 done:=by
  intro X hP hw hK hc i pins s σ H E I hf st hg
  subst hP hw hK
  obtain⟨kvs,hx,hi⟩:=hg
  obtain⟨vs,rel,dd,hl⟩:=ydf I.hok hx hd
  obtain⟨ok,ov,h1⟩:=st
  rw [<- hl] at h1
  have hn:vs[i]?=none:=by rw [List.getElem?_eq_none_iff,<- rel.length];lia
  refine wpAny_pyNext_items_end (I.ok.hd hc) h1 dd hn λh' eb=>⟨rfl,?_⟩
  exact I.y44c hf λb o' hb q=>eb b o' (λz=>hb (by simp [z])) q
 self:=λA i s Q E st h=>by
  obtain⟨ok,ov,h1⟩:=st
  exact CM h1 h
section
variable {X:Cx}{pins:List (Addr×Obj)}{σ:L2.St}{H:Hp}{s:Shared}
theorem Inv.unfrz (I:Inv X pins σ H s)(e:H a=some (.frz o u))(n:∀o' u',X.H₀ a≠some (.frz o' u')):Inv X pins σ (ax H a u) s:=by
 have ne:∀{b:Addr} {x:HO},H b=some x->(∀o' u',x≠.frz o' u')->b≠a:=λ{b x} q z w=>by subst w;rw [e] at q;cases q;exact z _ _ rfl
 have nn:∀{b:Addr},H b=none->b≠a:=λ{b} q w=>by subst w;rw [e] at q;cases q
 have st:∀{c:Addr} {x:HO},cn X.prog X.w H s.heap c x->cn X.prog X.w (ax H a u) s.heap c x:=λ{c x} k=>k.y409 (λb u _ q=>q) (λb q=>by rw [ay (ne q λ_ _ z=>nomatch z)];exact q) λb xs q=>by rw [ay (ne q λ_ _ z=>nomatch z)];exact q
 refine⟨I.ok,I.os,I.bare,⟨I.base.keep,I.base.slot,λb o' q1 q2 q3=>?_,I.base.there,λb xs q=>?_,λb o' u' q=>?_,λb ps q=>?_⟩,I.loc,I.cell,?_,λx c q=>?_,λp hp=>?_,λb x q=>?_,I.len⟩
 ·have:=I.base.free b o' q1 q2 q3
  rw [ay (nn this)];exact this
 ·have:=I.base.y443 b xs q
  rw [ay (ne this λ_ _ z=>nomatch z)];exact this
 ·have:=I.base.y157 b o' u' q
  rw [ay (λz=>by subst z;exact n o' u' q)];exact this
 ·obtain⟨more,this⟩:=I.base.y430 b ps q
  exact⟨more,by rw [ay (ne this λ_ _ z=>nomatch z)];exact this⟩
 ·rw [ay (nn I.free)];exact I.free
 ·rw [ay (nn (I.y155 x c q))];exact I.y155 x c q
 ·obtain⟨z1,z2,z3⟩:=I.pin p hp
  exact⟨z1,by rw [ay (nn z2)];exact z2,z3⟩
 ·by_cases z:b=a
  ·subst z
   rw [aJ] at q
   cases q
   exact st (show cn X.prog X.w H s.heap b (.frz o u) from I.hok b _ e).2
  ·rw [ay z] at q
   exact st (I.hok b x q)
theorem Inv.freeze (I:Inv X pins σ H s)(e:H a=some (.dK kvs)):∃(o:Obj) (es:Array DictEntry) (ep:Nat),o.data=.dict es ep/\s.heap.get? a=some o/\Inv X pins σ (ax H a (.frz o (.dK kvs))) s/\∀o' u',X.H₀ a≠some (.frz o' u'):=by
 obtain⟨z,hd,vs,rel,o,es,ep,g1,r⟩:=nu I.hok e
 refine⟨o,es,ep,r.2.1,g1,pJ I (by rw [e];exact True.intro) (Heap.SameBut.refl _ _) ⟨o,g1⟩ ⟨g1,z,hd,vs,rel,o,es,ep,g1,r⟩,λo' u' q=>?_⟩
 have:=I.base.y157 a o' u' q
 rw [e] at this
 cases this
noncomputable def u1(H₀:Hp)(te:TE):TI:=λσ H R=>te σ H λx H1=>∃a kvs,x=.ref a/\H1 a=some (.dK kvs)/\∀o,(∀o' u',H₀ a≠some (.frz o' u'))->R (Iti a o) (ax H1 a (.frz o (.dK kvs)))
theorem CP{elts:List Expr}{k0:Nat}{p0:Pos}{e:Expr}{te:TE}{apos pos:Pos}(he:PE X e te)
  (y189:attributeBase e "items" X.env (eval e X.env)=eval e X.env:=by rfl) (y195:(apos.endLine == pos.line)=true:=by rfl):PI X (.Tuple elts k0 p0) (.Call (.Attribute e "items" apos) [] [] pos) (u1 X.H₀ te):=by
 intro pins s σ H R I h
 refine wpAny_Call_method0_late y189 y195 (aF (he pins s σ H _ I h) λv s1 zz=>?_)
 obtain⟨x,H1,I1,r1,a,kvs,ex,ha,q⟩:=zz
 subst ex
 cases r1
 obtain⟨z,hd,vs,rel,dd⟩:=nu I1.hok ha
 obtain⟨o,es,ep,y18d,hg,I2,nf⟩:=I1.freeze ha
 refine⟨"dict","dict.items",PySem.F.plainAttrs_dict,PySem.F.slot_dict_items,PySem.F.type_dict_items,dd.typeIs,?_,Calls.callWith_builtin rfl (PySem.evalArgs_none ?_)⟩
 ·intro b q
  cases q
  obtain⟨ob,_,_,h1,h2,_⟩:=dd
  exact⟨ob,h1,h2.2.1⟩
 ·refine call_meetsIn PySem.F.slot_dict_items dd.typeIs PySem.F.entry_dict_items (PySem.F.args_dict_items_1 _) (meets_dict_items (bx X.prog X.w) a hd) ⟨⟨vs,dd⟩,?_⟩
  have hlt:a<s1.heap.objs.size:=z16 hg
  have dA:(s1.heap.push { cls:=.type "dict_items",data:=.fields #[.ref a] }).DictAt (bx X.prog X.w) a vs ep:=by
   obtain⟨o',es',ep',g1,g2,g3,g4,g5,g6⟩:=dd
   rw [hg] at g1;cases g1
   rw [y18d] at g3
   injection g3 with g3 g3'
   subst g3 g3'
   exact⟨o,es,ze _ hg,g2,y18d,g4,g5,g6⟩
  have hl:vs.length=es.size:=by
   obtain⟨o',es',ep',g1,g2,g3,g4,g5,g6⟩:=dd
   rw [hg] at g1;cases g1
   rw [y18d] at g3
   injection g3 with g3 g3'
   subst g3 g3'
   have:=g5.length;simpa using this.symm
  refine wpAny_pyIter_items ⟨_,z1c _ rfl,rfl,rfl⟩ dA ?_
  have sz:(s1.heap.push { cls:=.type "dict_items",data:=.fields #[.ref a] }).objs.size=s1.heap.objs.size+1:=Heap.size_push ..
  refine⟨_,[(s1.heap.push { cls:=.type "dict_items",data:=.fields #[.ref a] }).objs.size],_,_,ax H1 a (.frz o (.dK kvs)),rfl,I2.kept λb u q=>ze _ (ze _ q),CO y18d (by rw [sz];exact z1f (Nat.lt_succ_of_lt hlt)),⟨.none,.none,?_⟩,λb hb=>?_,q o nf⟩
  ·rw [<- hl];exact z1c _ rfl
  ·have hb':s1.heap.objs.size≤b:=by
    simp only [z1b,List.not_mem_nil,or_false] at hb
    rw [hb,sz];exact Nat.le_succ _
   exact I2.y154 hb' (I2.hok.fresh hb')
noncomputable def oU(H₀:Hp)(D:Ends):Ends:=⟨λσ' H'=>∃a o kvs,H' a=some (.frz o (.dK kvs))/\(∀o' u',H₀ a≠some (.frz o' u'))/\D.nx σ' (ax H' a (.dK kvs)),λ_ _=>False,λ_ _=>False,λ_ _=>False⟩
noncomputable def u2(H₀:Hp)(te:TE)(g:TG)(tb:TS):TS:=λD σ H=>mX (u1 H₀ te) g tb (oU H₀ D) σ H
theorem CQ    (hp:PassesOwn (model X.prog X.w) X.A X.env X.xe)(hc:X.calm=true)(he:PE X e te)(hg:PG X (.Tuple elts k0 p0) g)(hb:dY X body tb)
  (y189:attributeBase e "items" X.env (eval e X.env)=eval e X.env:=by rfl) (y195:(apos.endLine == yb8.line)=true:=by rfl) (hs:∀x,foldedSetIterable (.Call (.Attribute e "items" apos) [] [] yb8) X.env x=pure x:=by intro _;rfl) :
  PS X (.For (.Tuple elts k0 p0) (.Call (.Attribute e "items" apos) [] [] yb8) body [] pos) (u2 X.H₀ te g tb):=by
 intro pins s σ H D I h
 refine wpAny_mono (qy hp hc (CP he y189 y195) hg hb hs pins s σ H (oU X.H₀ D) I h) (λf s' q=>?_) λ_ _ q=>q
 cases f with
 | next =>
  obtain⟨σ',H',I',a,o,kvs,e1,nf,q⟩:=q
  exact⟨σ',_,I'.unfrz e1 nf,q⟩
 | brk=>obtain⟨_,_,_,q⟩:=q;exact q.elim
 | cont=>obtain⟨_,_,_,q⟩:=q;exact q.elim
 | ret u=>obtain⟨_,_,_,_,_,q⟩:=q;exact q.elim
end
end
end L2
namespace B
open PySem PySem.Spec PyProof.Rows L2
section
variable {X:Cx}{K:W.Frag}{κ:Str->Addr}{ι:List Addr}{H H':Hp}{σ:L2.St}{Z:De}{G:List M}
structure Kw(H H':Hp):Prop where
 tup:∀a xs,H a=some (.tup xs)->H' a=some (.tup xs)
 frz:∀a o u,(∀ws,u≠HO.dK ws)->H a=some (.frz o u)->H' a=some (.frz o u)
theorem jS.kw{a:Addr}{vs:List V}(k:Kw H H')(h:jS K H a vs):jS K H' a vs:=by
 rcases h with⟨o,h⟩| h
 ·exact .inl ⟨o,k.frz _ _ _ (λ_ z=>nomatch z) h⟩
 ·exact .inr h
mutual
theorem RpI.kw{v:V}{d:I}(k:Kw H H'):RpI K ι H v d->RpI K ι H' v d
 | .non=>.non
 | .bl b=>.bl b
 | .int i=>.int i
 | .str x=>.str x
 | .ty n=>.ty n
 | .ref h=>.ref h
 | .tup h r=>.tup (k.tup _ _ h) (y4c.kw k r)
 | .con h r=>.con h (y4c.kw k r)
 | .fro h r=>.fro (h.kw k) (y4c.kw k r)
theorem y4c.kw{vs:List V}{ds:List I}(k:Kw H H'):y4c K ι H vs ds->y4c K ι H' vs ds
 | .nil=>.nil
 | .cons h r=>.cons (RpI.kw k h) (y4c.kw k r)
end
theorem cz.kw{a:Addr}{m:M}(k:Kw H H')(e:H' a=H a)(h:cz K κ ι H a m):cz K κ ι H' a m:=by
 cases m with
 | lst xs=>obtain⟨vs,h1,h2⟩:=h;exact⟨vs,by rw [e];exact h1,h2.kw k⟩
 | dic xs=>obtain⟨vs,h1,h2,h3⟩:=h;exact⟨vs,by rw [e];exact h1,h2,h3.kw k⟩
 | dit xs=>obtain⟨vs,h1,h2,h3⟩:=h;exact⟨vs,by rw [e];exact h1,h2,h3.kw k⟩
 | obj c xs=>obtain⟨dx,vs,h1,h2,h3⟩:=h;exact⟨dx,vs,by rw [e];exact h1,h2,h3.kw k⟩
 | fdi xs=>obtain⟨o,vs,h1,h2,h3⟩:=h;exact⟨o,vs,by rw [e];exact h1,h2,h3.kw k⟩
theorem u3(k:Kw H H'):∀{σ:L2.St} {Z:List (Option Vl)},(∀a,a∈own σ Z->H' a=H a)->Paired (RpE K κ ι H) σ Z->Paired (RpE K κ ι H') σ Z
 | _,_,_,.nil=>.nil
 | _,_,e,.cons h r=>.cons (by
   cases h with
   | no=>exact .no _
   | im q=>exact .im (q.kw k)
   | ow q=>exact .ow (q.kw k (e _ (List.mem_append_left _ (by simp [aT]))))) (u3 k (λa q=>e a (z20 _ q)) r)
theorem u4{α β:Type}{R R':α->β->Prop}:∀{as:List α} {bs:List β} {j:Nat} {a:α} {b':β},Paired R as bs->as[j]?=some a->(∀(i:Nat) x y,i≠j->as[i]?=some x->R x y->R' x y)->R' a b'->Paired R' as (bs.set j b')
 | _,_,_,_,_,.nil,e,_,_=>by simp at e
 | _,_,0,a,b',.cons h r,e,k,n=>by
  simp at e;subst e
  refine .cons n ?_
  have go:∀{as:List α} {bs:List β},Paired R as bs->(∀(i:Nat) x y,as[i]?=some x->R x y->R' x y)->Paired R' as bs:=by
   intro as bs p
   induction p with
   | nil=>intro _;exact .nil
   | cons h _ ih=>intro q;exact .cons (q 0 _ _ rfl h) (ih λi x y e z=>q (i+1) x y e z)
  exact go r λi x y e z=>k (i+1) x y (by lia) (by simpa using e) z
 | _,_,j+1,a,b',.cons h r,e,k,n=>.cons (k 0 _ _ (by lia) rfl h) (u4 r (by simpa using e) (λi x y ne e z=>k (i+1) x y (by lia) (by simpa using e) z) n)
theorem CS{l:List Addr}{a:Addr}(c:List.count a l≤1){i j:Nat}(e1:l[i]?=some a)(e2:l[j]?=some a):i=j:=by
 obtain⟨hi,vi⟩:=z14.mp e1
 obtain⟨hj,vj⟩:=z14.mp e2
 have two:∀(i j:Nat) (hi:i<l.length) (hj:j<l.length),i<j->l[i]=a->l[j]=a->2≤List.count a l:=by
  intro i j hi hj hij e1 e2
  have e:l=l.take j++l.drop j:=(List.take_append_drop j l).symm
  rw [e,z23]
  have p1:0<List.count a (l.take j):=List.count_pos_iff.mpr (by rw [List.mem_take_iff_getElem];exact⟨i,by lia,e1⟩)
  have p2:0<List.count a (l.drop j):=List.count_pos_iff.mpr (by rw [List.mem_drop_iff_getElem];exact⟨0,by lia,by simpa using e2⟩)
  lia
 rcases Nat.lt_trichotomy i j with z|z|z
 ·have:=two i j hi hj z vi vj;lia
 ·exact z
 ·have:=two j i hj hi z vj vi;lia
theorem SR.unfz{j:Nat}{a:Addr}{o:Obj}{ws:List (ai×V)}{kvs:List (ai×I)}(h:SR K κ ι H σ Z G)(e1:ι[j]?=some a)(e2:G[j]?=some (.fdi kvs))(hH:H a=some (.frz o (.dK ws))):SR K κ ι (ax H a (.dK ws)) σ Z (G.set j (.dic kvs)):=by
 have kw:Kw H (ax H a (.dK ws)):=⟨λb xs e=>by rw [ay (λz=>by subst z;rw [hH] at e;cases e)];exact e,λb o' u' n e=>by rw [ay (λz=>by subst z;rw [hH] at e;cases e;exact n _ rfl)];exact e⟩
 have mem:a∈ι:=z2e e1
 have nd:=h.nd a
 have cp:=eS.mp mem
 have na:∀x,x∈own σ Z->x≠a:=λx hx z=>by
  subst z
  have:=eS.mp hx
  lia
 obtain⟨a',ea,o2,ws2,q1,q2,q3⟩:=h.y167 e2
 rw [e1] at ea;cases ea
 rw [hH] at q1;cases q1
 refine⟨u3 kw (λx hx=>ay (na x hx)) h.sl,u4 h.gs e1 (λi x y ne ex r=>r.kw kw (ay λz=>?_)) ⟨ws,aJ,q2,q3.kw kw⟩,h.nd⟩
 subst z
 exact ne (CS (show aQ x ι≤1 by lia) ex e1)
noncomputable def kI:ai->I
 | .inl i=>.int i
 | .inr x=>.str x
theorem CT{k:ai}:RpI K ι H (kV k) (kI k):=by
 cases k with
 | inl i=>exact .int i
 | inr x=>exact .str x
noncomputable def mG(kvs:List (ai×I)):Wk:=⟨kvs.length,λi _ _=>(kvs[i]?).map λp=>I.tup [kI p.1,p.2],λ_ _=>true⟩
noncomputable def iF(fe:Mo Ev)(g:GF)(b:SF):SF:=λZ G=>match fe Z G with
 | some (.v (.im (.ref j)),Z1,G1)=>match G1[j]? with
  | some (.dic kvs)=>match aY (mG kvs) g b 0 kvs.length Z1 (G1.set j (.fdi kvs)) with
   | some (.nx Z2 G2)=>match G2[j]? with
    | some (.fdi y1f2)=>some (.nx Z2 (G2.set j (.dic y1f2)))
    | _=>none
   | _=>none
  | _=>none
 | _=>none
theorem CU{H₀:Hp}{fe:Mo Ev}{g:GF}{b:SF}{D:Ends}(h:cA K κ (iF fe g b) D σ H):u2 H₀ (aK K κ fe) (mw K κ g) (cA K κ b) D σ H:=by
 obtain⟨ι,Z,G,fl,s,eq,k⟩:=h
 unfold iF at eq
 split at eq
 ·rename_i j Z1 G1 e1
  split at eq
  ·rename_i kvs e2
   split at eq
   ·rename_i Z2 G2 e3
    split at eq
    ·rename_i y1f2 e4
     cases eq
     refine⟨ι,Z,G,.v (.im (.ref j)),Z1,G1,s,e1,λv ι1 H1 a=>?_⟩
     obtain⟨ad,ev,ws,h1,h2,h3⟩:=a.ar.pk (j:=0) rfl rfl (show pk Z1 G1 (.v (.im (.ref j)))=some (.dic kvs) from e2)
     subst ev
     have hj:ι1[j]?=some ad:=by
      cases a.ar.im (j:=0) rfl rfl with
      | ref q=>exact q
     obtain⟨s1,st1⟩:=a.drop
     refine⟨ad,ws,rfl,h1,λo nf=>?_⟩
     obtain⟨s2,st2⟩:=s1.y315 hj e2 (m':=.fdi kvs) (λ_ kp=>⟨o,ws,aJ,h2,h3.mono (bo.refl _) kp⟩)
     have lw:ws.length=kvs.length:=by have:=congrArg List.length h2;simpa using this
     refine⟨λi m σ' H'=>i+m=ws.length/\∃ι' Z' G',SR K κ ι' H' σ' Z' G'/\Step ι1 (own σ Z1++ι1) (ax H1 ad (.frz o (.dK ws))) ι' (own σ' Z'++ι') H'/\aY (mG kvs) g b i m Z' G'=some (.nx Z2 G2),⟨ws.length,by simp,ι1,Z1,_,s2,Step.refl _ _ _,by rw [lw];exact e3⟩,?_⟩
     have fin:∀{σ':L2.St} {ι':List Addr} {H':Hp},SR K κ ι' H' σ' Z2 G2->Step ι1 (own σ Z1++ι1) (ax H1 ad (.frz o (.dK ws))) ι' (own σ' Z2++ι') H'->(oU H₀ D).nx σ' H':=λ{σ' ι' H'} s' st=>by
      have hz:H' ad=some (.frz o (.dK ws)):=st.kp.frz _ _ _ aJ
      have hj':=st.pre j ad hj
      refine⟨ad,o,ws,hz,nf,k _ _ _ (s'.unfz hj' e4 hz) ?_⟩
      have stA:=st1.trans (st2.trans st)
      have inA:∀{x:HO},H ad=some x->ad∈own σ Z++ι:=λ{x} hx=>by
       rcases st1.src ad (z20 _ (z2e hj)) with q|q
       ·exact q
       ·rw [q] at hx;cases hx
      refine⟨stA.pre,stA.src,λx u hx n=>?_,λx hx=>?_,⟨λx xs hx=>?_,λx o' u' hx=>?_⟩⟩
      ·rw [ay (λz=>by subst z;exact n (inA hx))];exact stA.keep x u hx n
      ·by_cases z:x=ad
       ·subst z;rw [aJ] at hx;cases hx
       ·rw [ay z] at hx;exact stA.dom x hx
      ·have:=st1.kp.tup x xs hx
       rw [ay (λz=>by subst z;rw [h1] at this;cases this)]
       exact stA.kp.tup x xs hx
      ·have:=st1.kp.frz x o' u' hx
       rw [ay (λz=>by subst z;rw [h1] at this;cases this)]
       exact stA.kp.frz x o' u' hx
     rintro i m σ' H' ⟨him,ι',Z',G',s',st,e⟩
     have hz:H' ad=some (.frz o (.dK ws)):=st.kp.frz _ _ _ aJ
     cases m with
     | zero =>
      unfold aY at e
      have e:some (Fl.nx Z' G')=some (.nx Z2 G2):=e
      cases e
      exact .inl ⟨⟨ws,hz,by lia⟩,fin s' st⟩
     | succ m =>
      have hi:i<ws.length:=by lia
      have hi':i<kvs.length:=by lia
      have ew:ws[i]?=some ws[i]:=z13 hi
      have ek:(mG kvs).at_ i Z' G'=some (.tup [kI kvs[i].1,kvs[i].2]):=by
       show (kvs[i]?).map _=_
       rw [z13 hi'];rfl
      have kk:ws[i].1=kvs[i].1:=by
       have q:=congrArg (·[i]?) h2
       simp [hi,hi'] at q
       exact q
      have rv:RpI K ι' H' ws[i].2 kvs[i].2:=by
       have h3':y4c K ι' H' (ws.map (·.2)) (kvs.map (·.2)):=(h3.mono (bo.refl _) st2.kp).mono st.pre st.kp
       obtain⟨v,hv,r⟩:=h3'.get (i:=i) (d:=kvs[i].2) (by simp [hi'])
       have:v=ws[i].2:=by simp [hi] at hv;exact hv.symm
       rw [<- this];exact r
      unfold aY at e
      rw [ek] at e
      refine .inr ⟨⟨ws,ws[i],hz,ew⟩,λσ2 H2=>∃ι2 Z3 G3,SR K κ ι2 H2 σ2 Z3 G3/\Step ι1 (own σ Z1++ι1) (ax H1 ad (.frz o (.dK ws))) ι2 (own σ2 Z3++ι2) H2/\aY (mG kvs) g b (i+1) m Z3 G3=some (.nx Z2 G2),λσ2 H2 q=>⟨m,z34 _,by lia,q⟩,λx H3 hy=>?_⟩
      obtain⟨T,rfl,hT,hH3⟩:=hy
      rw [hH3 ws ws[i] hz ew]
      have sm:=cU.lay (o:=.tup [kV ws[i].1,ws[i].2]) hT
      have s3:=s'.same sm
      have rx:RpI K ι' (ax H' T (.tup [kV ws[i].1,ws[i].2])) (.ref T) (.tup [kI kvs[i].1,kvs[i].2]):=.tup aJ (.cons (by rw [kk];exact CT) (.cons (rv.mono (bo.refl _) (Kp.same sm)) .nil))
      have st3:=st.trans (Step.same sm)
      have l:=s'.len
      dsimp only at e
      split at e
      ·rename_i Z4 G4 e4'
       refine⟨ι',Z',G',.im (.tup [kI kvs[i].1,kvs[i].2]),Z4,G4,l,s3.push_im rx,e4',λσ4 ι4 H4 s4 st4=>?_⟩
       rw [cO l] at st4
       have stB:=st3.trans st4
       split at e
       ·rename_i Z5 G5 e5
        exact⟨ι4,Z4,G4,_,s4,e5,λσ5 ι5 H5 s5 st5=>⟨ι5,Z5,G5,s5,stB.trans st5,e⟩⟩
       ·rename_i Z5 G5 e5
        exact⟨ι4,Z4,G4,_,s4,e5,λσ5 ι5 H5 s5 st5=>⟨ι5,Z5,G5,s5,stB.trans st5,e⟩⟩
       ·rename_i Z5 G5 e5
        cases e
        exact⟨ι4,Z4,G4,_,s4,e5,λσ5 ι5 H5 s5 st5=>fin s5 (stB.trans st5)⟩
       ·cases e
       ·cases e
      ·cases e
    ·cases eq
   ·cases eq
  ·cases eq
 ·cases eq
end
end B
namespace L2
open PySem PySem.Spec PyProof.Rows
section
section
noncomputable def mH(ns:List Int):List Int:=firstMet (λi=>ns.getD i 0) ns.length
theorem u5:∀{ns:List Int} {us:List Value},ag (ns.map V.int) us->IntsAre us ns
 | [],_,.nil=>.nil
 | n::ns,_,.cons r rs=>by
  obtain⟨t,rfl⟩:=r
  exact .cons _ _ (u5 rs)
noncomputable def lG(K:W.Frag):List V->Hp->VK->Prop:=λxs H Q=>∃(p:Addr) (ns:List Int),xs=[.ref p]/\aP K H p (ns.map V.int)/\ns.length≤4000/\∀l,H l=none->Q (.ref l) (ax H l (.set (λk'=>(mH ns).any (· == k')) (mH ns).length))
theorem y9f(hc:X.calm=true):y9 X (.type "set") (lG X.K):=by
 intro pins s σ H xs us Q I r h
 obtain⟨p,ns,rfl,hp,hl,q⟩:=h
 obtain⟨u,rfl,ru⟩:=bY r
 cases (show _=Value.ref p from ru)
 obtain⟨its,rv,pl,hz⟩:=I.list hp
 have e1:its.length=ns.length:=by have:=rv.length;simpa using this.symm
 refine call_set_list (I.ok.hd hc) pl.isList (by simpa using u5 rv) (by rw [zd,e1];unfold scanBound;lia) λh' tk hS hk=>?_
 have e2:its.toArray.size=ns.length:=by rw [zd,e1]
 rw [e2] at hS
 have hk':∀b o,s.heap.get? b=some o->h'.get? b=some o:=λb o e=>hk b o (z16 e) e
 exact⟨.ref s.heap.objs.size,_,I.laid (o:=.set (λk'=>(mH ns).any (· == k')) (mH ns).length) hk' (z12 _) hS,rfl,q _ (I.hok.fresh (z12 _))⟩
noncomputable def lH:List V->Hp->VK->Prop:=λxs H Q=>∃(a:Addr) (S:Int->Bool) (n:Nat),xs=[.ref a]/\H a=some (.set S n)/\n≤4000/\Q (.int n) H
theorem y98:y9 X (.builtin "len") lH:=by
 intro pins s σ H xs us Q I r h
 obtain⟨a,S,n,rfl,ha,hn,q⟩:=h
 obtain⟨u,rfl,ru⟩:=bY r
 cases (show _=Value.ref a from ru)
 have hS:s.heap.SetOf (intKind X.prog X.w) a S n:=I.hok a _ ha
 obtain⟨o,ho,hso⟩:=hS.objOf
 obtain⟨hex,es,ep,t,hd,_,_,hn',hf⟩:=hso
 subst hn'
 exact call_len_set ho hex hd hf (by lia) ⟨.int es.size,H,I.tok _,⟨_,rfl⟩,q⟩
theorem CV (hc:X.calm=true)(gl:Gl X "len")(ml:X.mg "len" = none)(gs:Gl X "set")(ms:X.mg "set" = none)(he:PE X e te)
  (hs1:starEach [e] X.env=[(false,eval e X.env)]:=by rfl)
  (hs2:starEach [.Call (.Name "set" p2) [e] [] q2] X.env=[(false,eval (.Call (.Name "set" p2) [e] [] q2) X.env)]:=by rfl) :
  PE X (.Call (.Name "len" p1) [.Call (.Name "set" p2) [e] [] q2] [] q1) (λσ H Q=>te σ H λx H1=>lG X.K [x] H1 λy H2=>lH [y] H2 Q) :=
 iY y98 gl ml PySem.boot_len (nq (iZ (y9f hc) gs ms PyProof.Rows.boot_set (nq he nk hs1) (by decide) (by decide) hs1) nk hs2) (by decide) (by decide) hs2
theorem u6:∀{xs:List V} {us:List Value},xs.length=us.length->(∀(i:Nat) x u,xs[i]?=some x->us[i]?=some u->au x u)->ag xs us
 | [],[],_,_=>.nil
 | x::xs,u::us,l,h=>.cons (h 0 x u rfl rfl) (u6 (by simpa using l) λi x u a b=>h (i+1) x u (by simpa using a) (by simpa using b))
theorem CW (hc:X.calm=true)(gl:Gl X "list")(ml:X.mg "list" = none)(gr:Gl X "range")(mr:X.mg "range" = none)(he:PE X e te)
  (hs1:starEach [e] X.env=[(false,eval e X.env)]:=by rfl)
  (hs2:starEach [.Call (.Name "range" p2) [e] [] q2] X.env=[(false,eval (.Call (.Name "range" p2) [e] [] q2) X.env)]:=by rfl) :
  PE X (.Call (.Name "list" p1) [.Call (.Name "range" p2) [e] [] q2] [] q1) (λσ H Q=>te σ H λx H1=>∃n:Nat,x=.int n/\n≤100000/\∀p,H1 p=none->Q (.ref p) (ax H1 p (.lst ((List.range n).map λi=>V.int (i:Nat))))):=by
 intro pins s σ H Q I h
 refine Call_ (dG I gl ml PyProof.Rows.boot_list (PyProof.Rows.callWith_type1 ?_ (by rw [hs2];rfl) rfl))
 rw [hs2]
 show wpAny _ _ (spliced ((false,eval (.Call (.Name "range" p2) [e] [] q2) X.env)::backTo q1 [])) _ _ s
 refine Calls.spliced_cons ?_
 refine Call_ (dG I gr mr boot_range (PyProof.Rows.callWith_type1 ?_ (by rw [hs1];rfl) rfl))
 rw [hs1]
 show wpAny _ _ (spliced ((false,eval e X.env)::backTo q2 [])) _ _ s
 refine Calls.spliced_cons (aF (he pins s σ H _ I h) λu s1 ⟨x,H1,I1,r1,q1⟩=>Calls.spliced_nil ?_)
 obtain⟨n,e1,hn,q⟩:=q1
 subst e1
 obtain⟨t,rfl⟩:=r1
 refine call_range_1 (Calls.spliced_nil ?_)
 have hsm:Builtin.Range.small 0 (n:Int) 1=true:=small_one (by lia) (by lia) (by lia) (by lia)
 refine call_list_range (n:=n) (I1.ok.hd hc) (IsRange.new ..) hsm (by rw [rangeSize_one];split<;>lia) (by lia) λh' tk acc c hk hD y181=>?_
 have hk':∀b o,s1.heap.get? b=some o->h'.get? b=some o:=λb o e=>hk b o (ze _ e)
 have hsz:s1.heap.objs.size≤(s1.heap.push { cls:=.type "range",data:=.fields #[.int 0 s1.toks,.int n t,.int 1 (s1.toks+1)] }).objs.size:=by rw [Heap.size_push];exact Nat.le_succ _
 refine⟨.ref _,_,I1.laid hk' hsz ?_,rfl,q _ (I1.hok.fresh hsz)⟩
 refine⟨by rw [z24,List.length_range];exact z27 hn (by decide),acc.toList,c,?_,by rw [Array.toArray_toList];exact hD⟩
 refine u6 (by rw [z24,List.length_range,Array.length_toList,y181.1]) λi x u hx hu=>?_
 obtain⟨t',rfl⟩:=y181.2 i u (by rw [<- hu,Array.getElem?_toList])
 rw [List.getElem?_map] at hx
 cases hr:(List.range n)[i]? with
 | none=>rw [hr] at hx;cases hx
 | some j =>
  rw [hr] at hx
  cases hx
  have:j=i:=by
   obtain⟨h1,h2⟩:=z14.mp hr
   simpa using h2.symm
  subst this
  exact⟨t',by simp⟩
end
end
end L2
namespace B
open PySem PySem.Spec PyProof.Rows L2
section
section
variable {X:Cx}{K:W.Frag}{κ:Str->Addr}{ι:List Addr}{H:Hp}{σ:L2.St}
noncomputable def iG(Z:De)(G:List M)(e:Ev):Bool:=match pk Z G e with
 | some (.dic _)=>true
 | some (.dit _)=>true
 | _=>false
noncomputable def oV(p:List Ev->Mo Ev)(fo:Mo Ev)(fa:Mo (List Ev)):Mo Ev:=bd fo λe=>λZ G=>if iG Z G e then bd fa (λes=>p (e::es)) Z G else none
theorem yde{Z:De}{G:List M}{e:Ev}{v:V}{fp:List Addr}{H0:Hp}{ι0:List Addr}(a:After K κ σ ι0 fp H0 [e] Z G [v] ι H)(h:iG Z G e=true):rR K "dict" v H:=by
 unfold iG at h
 split at h
 ·rename_i xs hp
  obtain⟨b,e1,ys,h1,r⟩:=a.ar.pk (j:=0) rfl rfl hp
  subst e1
  exact .inr (.inr (.inl ⟨rfl,.inl ⟨_,h1⟩⟩))
 ·rename_i xs hp
  obtain⟨b,e1,ys,h1,r⟩:=a.ar.pk (j:=0) rfl rfl hp
  subst e1
  exact .inr (.inr (.inl ⟨rfl,.inr ⟨_,h1⟩⟩))
 ·cases h
theorem u7{p:List Ev->Mo Ev}{fo:Mo Ev}{fa:Mo (List Ev)}{r:V->List V->Hp->VK->Prop}{Q:VK}(hp:aw K κ (rM r) p)(h:aK K κ (oV p fo fa) σ H Q):zO K "dict" r (aK K κ fo) (gG K κ fa) σ H Q:=by
 obtain⟨ι,Z,G,e,Z',G',s,eq,k⟩:=h
 obtain⟨x,Z1,G1,e1,eq1⟩:=bH eq
 split at eq1
 ·rename_i hl
  obtain⟨es,Z2,G2,e2,eq2⟩:=bH eq1
  refine⟨ι,Z,G,x,Z1,G1,s,e1,λv ι1 H1 a1=>⟨yde a1 hl,?_⟩⟩
  refine⟨ι1,Z1,G1,es,Z2,G2,a1.ar.base,e2,λvs ι2 H2 a2=>?_⟩
  have a:=a1.app a2
  obtain⟨y,ys,ey,q⟩:=hp _ _ _ _ _ _ _ _ _ _ Q a.ar eq2 λv ι3 H3 d=>k _ _ _ (a.then d)
  cases ey
  exact q
 ·cases eq1
noncomputable def fH:List Ev->Mo Ev:=λes Z G=>match es with
 | [a,.v (.im x),.v (.im d)]=>match pk Z G a,cQ x with
  | some (.dit kvs),some k=>if kvs.length<1000000 then match az kvs k with
    | some y=>some (.v (.im y),Z,G)
    | none=>some (.v (.im d),(dU Z G (.dit (aE kvs k d)) a).1,(dU Z G (.dit (aE kvs k d)) a).2)
   else none
  | _,_=>none
 | _=>none
theorem CY:aw K κ (rM rSd) fH:=by
 intro ι H σ Z G es vs e Z' G' Q a h k
 unfold fH at h
 split at h
 ·rename_i x0 x d
  split at h
  ·rename_i kvs ky hx hk
   split at h
   ·rename_i hl
    obtain⟨v,u,y,rfl⟩:=sN a.len
    obtain⟨b,e1,ws,h1,h2,h3⟩:=a.pk (j:=0) rfl rfl hx
    subst e1
    obtain⟨c,eu,hc⟩:=lh (a.im (j:=1) rfl rfl) hk
    subst eu
    have ry:=a.im (j:=2) rfl rfl
    have lw:ws.length=kvs.length:=by have:=congrArg List.length h2;simpa using this
    obtain⟨p,q⟩:=jj h2 h3
    refine⟨_,_,rfl,b,c,ws,ky,y,rfl,rfl,h1,hc,z19 (by lia) (show 1000000≤sizeLine by decide),λz hz=>?_,λhz=>?_⟩
    ·cases hv:az kvs ky with
     | none=>rw [q hv] at hz;cases hz
     | some w =>
      rw [hv] at h
      obtain⟨z',e2,rz⟩:=p w hv
      rw [hz] at e2
      cases e2
      exact k _ _ _ (bp h (a8 a rz))
    ·cases hv:az kvs ky with
     | some w=>obtain⟨z',e2,rz⟩:=p w hv;rw [hz] at e2;cases e2
     | none =>
      rw [hv] at h
      obtain⟨y1,y2⟩:=jk ry h2 h3
      exact k _ _ _ (bp h (gP a (j:=0) rfl rfl hx (λ_ kp=>⟨_,aJ,y1,y2.mono (bo.refl _) kp⟩) ry))
   ·cases h
  ·cases h
 ·cases h
noncomputable def lI:ai->Bool
 | .inl _=>true
 | .inr _=>false
noncomputable def dh(k:List ai):Int:=reduceHash (Builtin.Tuple.tupleHashOf (k.map λx=>match x with | .inl i=>hashInt i | .inr _=>0))
theorem CZ (h:k.all lI=true):gA w k=dh k:=by
 unfold gA dh
 have:k.map (mN w)=k.map λx=>match x with | .inl i=>hashInt i | .inr _=>0:=List.map_congr_left λx hx=>by
  have:=z35.mp h x hx
  cases x with
  | inl i=>rfl
  | inr x=>cases this
 rw [this]
noncomputable def jz(kvs more:List (List ai×I)):Bool:=!kvs.isEmpty||(more.all (λp=>p.1.all lI)&&decide ((more.map λp=>dh p.1).Nodup))
noncomputable def iH:List Ev->Mo Ev:=λes Z G=>match es with
 | [.s i,.v (.ow (.dit more))]=>match pk Z G (.s i) with
  | some (.dit kvs)=>if kvs.length+more.length≤1000000/\jz kvs more=true then some (.v (.im .non),(dU Z G (.dit (more.foldl (λacc kv=>aE acc kv.1 kv.2) kvs)) (.s i)).1,(dU Z G (.dit (more.foldl (λacc kv=>aE acc kv.1 kv.2) kvs)) (.s i)).2) else none
  | _=>none
 | _=>none
theorem oW:∀{qs:List (List ai×V)} {ps:List (List ai×I)} {ws:List (List ai×V)} {kvs:List (List ai×I)},qs.map (·.1)=ps.map (·.1)->y4c K ι H (qs.map (·.2)) (ps.map (·.2))->ws.map (·.1)=kvs.map (·.1)->y4c K ι H (ws.map (·.2)) (kvs.map (·.2)) ->
  (fG ws qs).map (·.1)=(ps.foldl (λacc kv=>aE acc kv.1 kv.2) kvs).map (·.1)/\y4c K ι H ((fG ws qs).map (·.2)) ((ps.foldl (λacc kv=>aE acc kv.1 kv.2) kvs).map (·.2))
 | [],[],_,_,_,_,e,r=>⟨e,r⟩
 | q::qs,p::ps,ws,kvs,e1,r1,e,r=>by
  rw [z15,z15] at e1 r1
  cases r1 with
  | cons s1 s2 =>
   have e2:=z3b e1
   obtain⟨x,y⟩:=jk s1 e r
   have z:=oW e2.2 s2 x y
   rw [List.foldl_cons,<- e2.1]
   exact z
 | [],_::_,_,_,e,_,_,_=>by cases e
 | _::_,[],_,_,e,_,_,_=>by cases e
theorem C0{w:World}:aw K κ (rM (u0 w)) iH:=by
 intro ι H σ Z G es vs e Z' G' Q a h k
 unfold iH at h
 split at h
 ·rename_i i more
  split at h
  ·rename_i kvs hx
   split at h
   ·rename_i hl
    obtain⟨hl,hh⟩:=hl
    obtain⟨v,u,rfl⟩:=bR a.len
    obtain⟨b,e1,ws,h1,h2,h3⟩:=a.pk (j:=0) rfl rfl hx
    subst e1
    obtain⟨c,e2,qs,g1,g2,g3⟩:=a.pk (j:=1) rfl rfl rfl
    subst e2
    have lw:ws.length=kvs.length:=by have:=congrArg List.length h2;simpa using this
    have lq:qs.length=more.length:=by have:=congrArg List.length g2;simpa using this
    have hb:b∈own σ Z:=by
     have al:=sP a.al (j:=0) rfl rfl
     have hx':(match Z[i]? with|some (some (.ow m))=>some m|_=>none)=some (.dit kvs):=hx
     split at hx'
     ·rename_i m e;exact nO al e
     ·cases hx'
    have ne:b≠c:=λz=>by
     subst z
     have nd:=a.sr.nd b
     rw [bz _ _ a.l] at nd
     have c1:=eS.mp hb
     have c2:aQ b (own (tS [.s i,.v (.ow (.dit more))] [.ref b,.ref b]) (tD [.s i,.v (.ow (.dit more))]))=1:=by
      show List.count b ([b]++[])=1
      simp
     rw [aQ,z23] at nd
     unfold aQ at c1 c2
     lia
    obtain⟨y1,y2⟩:=oW g2 g3 h2 h3
    refine⟨_,_,rfl,b,c,ws,qs,rfl,rfl,ne,h1,g1,λe=>?_,by lia,k _ _ _ (bp h (gP a (j:=0) rfl rfl hx (λ_ kp=>⟨_,aJ,y1,y2.mono (bo.refl _) kp⟩) .non))⟩
    subst e
    have kn:kvs=[]:=List.length_eq_zero_iff.mp (by rw [<- lw];rfl)
    subst kn
    have hh':more.all (λp=>p.1.all lI)=true/\(more.map λp=>dh p.1).Nodup:=by simpa [jz] using hh
    have em:(qs.map λp=>gA w p.1)=more.map λp=>dh p.1:=by
     have e1:(qs.map λp=>gA w p.1)=(qs.map (·.1)).map (gA w):=by rw [z39];rfl
     have e2:(more.map λp=>dh p.1)=(more.map (·.1)).map dh:=by rw [z39];rfl
     rw [e1,e2,g2]
     refine List.map_congr_left λx hx=>?_
     obtain⟨p,hp,rfl⟩:=z2c.mp hx
     exact CZ (z35.mp hh'.1 p hp)
    rw [em]
    exact hh'.2
   ·cases h
  ·cases h
 ·cases h
noncomputable def iI:List I->Option (List (List ai×I))
 | []=>some []
 | .tup [k,x]::r=>match cQ k,iI r with
  | some k',some ps=>some ((k',x)::ps)
  | _,_=>none
 | _=>none
theorem u9:∀{xs:List I} {vs:List V} {ps:List (List ai×I)},y4c K ι H vs xs->iI xs=some ps->∃qs:List (List ai×V),uZ H vs qs/\qs.map (·.1)=ps.map (·.1)/\y4c K ι H (qs.map (·.2)) (ps.map (·.2))
 | [],_,_,r,h=>by cases r;cases h;exact⟨[],.nil,rfl,.nil⟩
 | x::xs,_,_,r,h=>by
  unfold iI at h
  split at h
  ·rename_i e;cases e
  ·rename_i k x r0 e
   cases e
   split at h
   ·rename_i k' ps' e1 e2
    cases h
    cases r with
    | cons r1 r2 =>
     obtain⟨qs,p1,p2,p3⟩:=u9 r2 e2
     obtain⟨_,_,rfl,h1,h2⟩:=fZ r1
     cases h2 with
     | cons s1 h2=>cases h2 with
      | cons s2 h2 =>
       cases h2
       obtain⟨c,ec,hc⟩:=lh s1 e1
       subst ec
       exact⟨(k',_)::qs,.cons ⟨_,_,rfl,h1,hc⟩ p1,by rw [z15,z15,p2],by rw [z15,z15];exact .cons s2 p3⟩
   ·cases h
  ·cases h
noncomputable def pR:List Ev->Mo Ev:=λes Z G=>match es with
 | [a]=>match pk Z G a with
  | some (.lst xs)=>match iI xs with
   | some ps=>if ps.length≤1000000 then some (.v (.ow (.dit (ps.foldl (λacc kv=>aE acc kv.1 kv.2) []))),Z,G) else none
   | none=>none
  | _=>none
 | _=>none
theorem C1:aw K κ (λxs H Q=>∃(p:Addr) (vs:List V) (ps:List (List ai×V)),xs=[.ref p]/\H p=some (.lst vs)/\uZ H vs ps/\ps.length≤1000000/\∀l,H l=none->Q (.ref l) (ax H l (.dT (fG [] ps)))) pR:=by
 intro ι H σ Z G es vs e Z' G' Q a h k
 unfold pR at h
 split at h
 ·rename_i x
  split at h
  ·rename_i xs hx
   split at h
   ·rename_i ps hps
    split at h
    ·rename_i hz
     obtain⟨v,rfl⟩:=bq a.len
     obtain⟨b,e1,ys,h1,r⟩:=a.pk (j:=0) rfl rfl hx
     subst e1
     obtain⟨qs,p1,p2,p3⟩:=u9 r hps
     have hl:qs.length=ps.length:=by have:=congrArg List.length p2;simpa using this
     refine⟨_,_,qs,rfl,h1,p1,by lia,λl hl=>?_⟩
     obtain⟨y1,y2⟩:=oW (ws:=[]) (kvs:=[]) p2 p3 rfl .nil
     exact k _ _ _ (bp h (i7 a hl ⟨_,aJ,y1,y2.mono (bo.refl _) (Kp.same (cU.lay hl))⟩))
    ·cases h
   ·cases h
  ·cases h
 ·cases h
noncomputable def vc:List Ev->Mo Ev:=λes Z G=>match es with
 | [a]=>match pk Z G a with
  | some (.dic kvs)=>some (.v (.ow (.dic kvs)),Z,G)
  | _=>none
 | _=>none
theorem C2:aw K κ (λxs H Q=>∃(p:Addr) (kvs:List (ai×V)),xs=[.ref p]/\H p=some (.dK kvs)/\∀l,H l=none->Q (.ref l) (ax H l (.dK kvs))) vc:=by
 intro ι H σ Z G es vs e Z' G' Q a h k
 unfold vc at h
 split at h
 ·split at h
  ·rename_i kvs hx
   obtain⟨v,rfl⟩:=bq a.len
   obtain⟨b,e1,ws,h1,h2,h3⟩:=a.pk (j:=0) rfl rfl hx
   subst e1
   exact⟨b,ws,rfl,h1,λl hl=>k _ _ _ (bp h (i7 a hl ⟨_,aJ,h2,h3.mono (bo.refl _) (Kp.same (cU.lay hl))⟩))⟩
  ·cases h
 ·cases h
noncomputable def jA:List Ev->Mo Ev:=λes Z G=>match es with
 | [a,b]=>match pk Z G a,pk Z G b with
  | some (.dic ka),some (.dic kb)=>if ka.all (λp=>b6 p.2)&&kb.all (λp=>b6 p.2) then some (.v (.im (.bl (ka.length == kb.length&&oS kb ka))),Z,G) else none
  | _,_=>none
 | _=>none
theorem C3:aw K κ (r2 λx y H Q=>∃(a b:Addr) (ka kb:List (ai×V)),x=.ref a/\y=.ref b/\H a=some (.dK ka)/\H b=some (.dK kb)/\dz ka=true/\dz kb=true/\Q (.bl (ka.length == kb.length&&oR kb ka)) H) jA:=by
 intro ι H σ Z G es vs e Z' G' Q a h k
 unfold jA at h
 split at h
 ·split at h
  ·rename_i ka kb hx hy
   split at h
   ·rename_i hf
    have hf':=Bool.and_eq_true_iff.mp hf
    obtain⟨v,u,rfl⟩:=bR a.len
    obtain⟨p,e1,wa,h1,h2,h3⟩:=a.pk (j:=0) rfl rfl hx
    obtain⟨q,e2,wb,g1,g2,g3⟩:=a.pk (j:=1) rfl rfl hy
    subst e1;subst e2
    have la:wa.length=ka.length:=by have:=congrArg List.length h2;simpa using this
    have lb:wb.length=kb.length:=by have:=congrArg List.length g2;simpa using this
    refine⟨_,_,rfl,p,q,wa,wb,rfl,rfl,h1,g1,oT h2 h3 hf'.1,oT g2 g3 hf'.2,?_⟩
    rw [la,lb,ycb g2 g3 hf'.2 h2 h3 hf'.1]
    exact k _ _ _ (bp h (a8 a (.bl _)))
   ·cases h
  ·cases h
 ·cases h
noncomputable def jB:List Ev->Mo Ev:=λes Z G=>match es with
 | [a,.v (.im (.int i))]=>match pk Z G a with
  | some (.lst xs)=>if 0≤i/\i<1000000 then match xs[i.toNat]? with
    | some y=>some (.v (.im y),(dU Z G (.lst (xs.eraseIdx i.toNat)) a).1,(dU Z G (.lst (xs.eraseIdx i.toNat)) a).2)
    | none=>none
   else none
  | _=>none
 | _=>none
theorem y4c.erase:∀{vs:List V} {xs:List I} (k:Nat),y4c K ι H vs xs->y4c K ι H (vs.eraseIdx k) (xs.eraseIdx k)
 | _,_,_,.nil=>.nil
 | _,_,0,.cons _ r=>r
 | _,_,k+1,.cons h r=>.cons h (y4c.erase k r)
theorem C4:aw K κ (rM r6) jB:=by
 intro ι H σ Z G es vs e Z' G' Q a h k
 unfold jB at h
 split at h
 ·rename_i x i
  split at h
  ·rename_i xs hx
   split at h
   ·rename_i hi
    split at h
    ·rename_i y hy
     obtain⟨v,u,rfl⟩:=bR a.len
     obtain⟨b,e1,ys,h1,r⟩:=a.pk (j:=0) rfl rfl hx
     subst e1
     cases b4 (a.im (j:=1) rfl rfl)
     obtain⟨z,hz,rz⟩:=r.get hy
     have hlt:i.toNat<ys.length:=(z14.mp hz).1
     refine⟨_,_,rfl,b,ys,i,i.toNat,z,rfl,rfl,h1,by lia,by lia,PySem.StrLaws.seqIndex_nonneg hi.1 (by lia),hz,k _ _ _ (bp h (gP a (j:=0) rfl rfl hx (λ_ kp=>⟨_,aJ,(r.erase _).mono (bo.refl _) kp⟩) rz))⟩
    ·cases h
   ·cases h
  ·cases h
 ·cases h
noncomputable def iJ:List Ev->Mo Ev:=λes Z G=>match es with
 | [a]=>match pk Z G a with
  | some (.lst xs)=>match fE xs with
   | some ns=>if ns.length≤4000 then some (.v (.im (.int (mH ns).length)),Z,G) else none
   | none=>none
  | _=>none
 | _=>none
theorem C5:aw K κ (r1 λx H1 Q=>lG K [x] H1 λy H2=>lH [y] H2 Q) iJ:=by
 intro ι H σ Z G es vs e Z' G' Q a h k
 unfold iJ at h
 split at h
 ·rename_i x
  split at h
  ·rename_i xs hx
   split at h
   ·rename_i ns hn
    split at h
    ·rename_i hl
     obtain⟨v,rfl⟩:=bq a.len
     obtain⟨p,e1,ys,h1,r⟩:=a.pk (j:=0) rfl rfl hx
     subst e1
     have e2:=uP r hn
     subst e2
     refine⟨_,rfl,p,ns,rfl,aP.of h1,hl,λl hl'=>⟨l,_,_,rfl,aJ,?_,k _ _ _ (bp h (nS a (cU.lay hl') (.int _)))⟩⟩
     have:=firstMet_length_le (λi=>ns.getD i 0) ns.length
     unfold mH
     lia
    ·cases h
   ·cases h
  ·cases h
 ·cases h
noncomputable def jC:List Ev->Mo Ev:=λes Z G=>match es with
 | [.v (.im (.int j))]=>if 0≤j/\j≤100000 then some (.v (.ow (.lst ((List.range j.toNat).map λi=>I.int (i:Nat)))),Z,G) else none
 | _=>none
theorem vd:∀(l:List Nat),y4c K ι H (l.map λi=>V.int (i:Nat)) (l.map λi=>I.int (i:Nat))
 | []=>.nil
 | _::l=>.cons (.int _) (vd l)
theorem C6:aw K κ (r1 λx H1 Q=>∃n:Nat,x=.int n/\n≤100000/\∀p,H1 p=none->Q (.ref p) (ax H1 p (.lst ((List.range n).map λi=>V.int (i:Nat))))) jC:=by
 intro ι H σ Z G es vs e Z' G' Q a h k
 unfold jC at h
 split at h
 ·rename_i j
  split at h
  ·rename_i hj
   obtain⟨v,rfl⟩:=bq a.len
   cases b4 (a.im (j:=0) rfl rfl)
   exact⟨_,rfl,j.toNat,by rw [Int.toNat_of_nonneg hj.1],by lia,λp hp=>k _ _ _ (bp h (eA a hp (vd _)))⟩
  ·cases h
 ·cases h
noncomputable def vf(fa fb:Mo Ev):Mo Ev:=bd fa λe=>λZ G=>match dr e Z G with
 | some (false,_,_)=>some (e,Z,G)
 | some (true,_,_)=>fb Z G
 | none=>none
noncomputable def vg(K:W.Frag)(ta tb:TE):TE:=λσ H Q=>ta σ H λx H1=>∃c,pI K x H1 c/\if c=true then tb σ H1 Q else Q x H1
theorem C7{a b:Expr}{aS:List Expr}{pos:Pos}{ta tb:TE}(ha:PE X a ta)(hb:PE X (.BoolOp .And (b::aS) pos) tb):PE X (.BoolOp .And (a::b::aS) pos) (vg X.K ta tb):=by
 intro pins s σ H Q I h
 refine BoolOp_and (aF (ha pins s σ H _ I h) λv s1 zz=>?_)
 obtain⟨x,H1,I1,r1,c,hc,q1⟩:=zz
 refine aF (qJ pins s1 σ H1 x v (λb H'=>H'=H1/\b=c) I1 r1 ⟨c,hc,rfl,rfl⟩) λb s2 zz=>?_
 obtain⟨H2,I2,e1,e2⟩:=zz
 subst e1;subst e2
 cases b with
 | false=>rw [if_neg z18] at q1;exact⟨x,_,I2,r1,q1⟩
 | true=>rw [if_pos rfl] at q1;exact hb pins s2 σ _ Q I2 q1
theorem C8{fa fb:Mo Ev}{Q:VK}(h:aK K κ (vf fa fb) σ H Q):vg K (aK K κ fa) (aK K κ fb) σ H Q:=by
 obtain⟨ι,Z,G,e,Z',G',s,eq,k⟩:=h
 obtain⟨x,Z1,G1,e1,eq1⟩:=bH eq
 refine⟨ι,Z,G,x,Z1,G1,s,e1,λv ι1 H1 a=>?_⟩
 split at eq1
 ·rename_i d1 d2 ht
  cases eq1
  obtain⟨t,_,_⟩:=om a.ar ht
  exact⟨false,t,by rw [if_neg z18];exact k _ _ _ a⟩
 ·rename_i d1 d2 ht
  obtain⟨t,_,_⟩:=om a.ar ht
  obtain⟨p,q⟩:=a.drop
  exact⟨true,t,by rw [if_pos rfl];exact aK.go p q eq1 k⟩
 ·cases eq1
end
section
variable {X:Cx}{κ:Str->Addr}{a b e o:Expr}{es:List Expr}{ss:List Stmt}{fa fb fv:Mo Ev}{f:SF}{gf:GF}{fs:Mo (List Ev)}{p pos pos' apos yb8:Pos}{k:Nat}
theorem yf6{aS:List Expr}(ha:LE X κ a fa)(hb:LE X κ (.BoolOp .And (b::aS) pos) fb):LE X κ (.BoolOp .And (a::b::aS) pos) (vf fa fb):=.mk (aH (C7 ha.pe hb.pe) λ_ _ _=>C8)
theorem C9 (hg:Gl X x)(hm:∃t,X.mg x=some (.int i t))(hd:(x == ("__debug__" : Str))=false:=by decide):LE X κ (.Name x pos) (ao (.int i)):=by
 obtain⟨t,hm⟩:=hm
 exact Bn (v:=.int i) hg hm ⟨t,rfl⟩ (λ_ _=>.int _) hd
theorem Dc (he:LE X κ e fa)(hg:LG X κ (.Tuple elts k0 p0) gf)(hb:fS X κ ss f)(hc:X.calm=true:=by rfl)(hp:PassesOwn (model X.prog X.w) X.A X.env X.xe:=by exact PassesOwn.never)
  (y189:attributeBase e "items" X.env (eval e X.env)=eval e X.env:=by rfl) (y195:(apos.endLine == yb8.line)=true:=by rfl) (hs:∀x,foldedSetIterable (.Call (.Attribute e "items" apos) [] [] yb8) X.env x=pure x:=by intro _;rfl) :
  LS X κ (.For (.Tuple elts k0 p0) (.Call (.Attribute e "items" apos) [] [] yb8) ss [] pos) (iF fa gf f):=.mk (c8 (CQ hp hc he.pe hg.pe hb.pe y189 y195 hs) λ_ _ _=>CU)
theorem Dd(hr:y4a k X.A)(ho:LE X κ o fa)(ha:LA X κ (e::es) fs)(y189:attributeBase o "setdefault" X.env (eval o X.env)=eval o X.env:=by rfl)
  (y18e:((backTo yb8 (starEach (e::es) X.env)).all (λx=>!x.1)&&(backToKw yb8 (keywordEach [] X.env)).all (λx=>x.1.isSome)&&decide ((e::es).length+([]:List Keyword).length+(if ([]:List Keyword).isEmpty then 0 else 1)<30))=true:=by rfl)
  (y195:(apos.endLine == yb8.line)=true:=by rfl) (hs:starEach (e::es) X.env=(false,eval e X.env)::starEach es X.env:=by rfl) (y199:(backTo yb8 (starEach es X.env)).any (·.1)=false:=by rfl):LE X κ (.Call (.Attribute o "setdefault" apos) (e::es) [] yb8) (oV fH fa fs):=.mk (aH (kq PySem.F.plainAttrs_dict PySem.F.slot_dict_setdefault PySem.F.type_dict_setdefault (CG (gq hr)) ho.pe ha.pe y189 y18e y195 hs y199) λ_ _ _=>u7 CY)
theorem Df(hr:y4a k X.A)(ho:LE X κ o fa)(ha:LA X κ (e::es) fs)(y189:attributeBase o "update" X.env (eval o X.env)=eval o X.env:=by rfl)
  (y18e:((backTo yb8 (starEach (e::es) X.env)).all (λx=>!x.1)&&(backToKw yb8 (keywordEach [] X.env)).all (λx=>x.1.isSome)&&decide ((e::es).length+([]:List Keyword).length+(if ([]:List Keyword).isEmpty then 0 else 1)<30))=true:=by rfl)
  (y195:(apos.endLine == yb8.line)=true:=by rfl) (hs:starEach (e::es) X.env=(false,eval e X.env)::starEach es X.env:=by rfl) (y199:(backTo yb8 (starEach es X.env)).any (·.1)=false:=by rfl):LE X κ (.Call (.Attribute o "update" apos) (e::es) [] yb8) (oV iH fa fs):=.mk (aH (kq PySem.F.plainAttrs_dict PySem.F.slot_dict_update PySem.F.type_dict_update (CJ (gq hr)) ho.pe ha.pe y189 y18e y195 hs y199) λ_ _ _=>u7 C0)
theorem Dg(hr:y4a k X.A)(ho:LE X κ o fa)(ha:LA X κ (e::es) fs)(y189:attributeBase o "pop" X.env (eval o X.env)=eval o X.env:=by rfl)
  (y18e:((backTo yb8 (starEach (e::es) X.env)).all (λx=>!x.1)&&(backToKw yb8 (keywordEach [] X.env)).all (λx=>x.1.isSome)&&decide ((e::es).length+([]:List Keyword).length+(if ([]:List Keyword).isEmpty then 0 else 1)<30))=true:=by rfl)
  (y195:(apos.endLine == yb8.line)=true:=by rfl) (hs:starEach (e::es) X.env=(false,eval e X.env)::starEach es X.env:=by rfl) (y199:(backTo yb8 (starEach es X.env)).any (·.1)=false:=by rfl):LE X κ (.Call (.Attribute o "pop" apos) (e::es) [] yb8) (iw jB fa fs):=.mk (aH (kq PySem.F.plainAttrs_list PySem.F.slot_list_pop PySem.F.type_list_pop zT ho.pe ha.pe y189 y18e y195 hs y199) λ_ _ _=>uz C4)
theorem yfe(hr:y4a k X.A)(hm:X.mg "dict" = none)(ha:LA X κ (e::es) fs)(hg:Gl X "dict":=by rfl)(hc:X.calm=true:=by rfl)(he:gM X e es:=by rfl)(hpl:fW X pos es:=by rfl):LE X κ (.Call (.Name "dict" p) (e::es) [] pos) (bd fs pR):=.mk (aH (iZ (y92 hc (gq hr)) hg hm PyProof.Rows.boot_dict ha.pe (by decide) (by decide) he hpl) λ_ _ _ q=>c3 C1 q)
theorem yfd(hr:y4a k X.A)(hm:X.mg "dict" = none)(ha:LA X κ (e::es) fs)(hg:Gl X "dict":=by rfl)(he:gM X e es:=by rfl)(hpl:fW X pos es:=by rfl):LE X κ (.Call (.Name "dict" p) (e::es) [] pos) (bd fs vc):=.mk (aH (iZ y91 hg hm PyProof.Rows.boot_dict ha.pe (by decide) (by decide) he hpl) λ_ _ _ q=>c3 C2 q)
theorem vh(hr:y4a k X.A)(ha:LE X κ a fa)(hb:LE X κ b fb):LE X κ (.Compare a [.Eq] [b] pos) (ak jA fa fb):=yfb (CK (by have:=gq hr;lia)) C3 ha hb (eX _)
theorem Dh(hl:X.mg "len" = none)(hv:X.mg "set" = none)(h:LE X κ e fa)(hc:X.calm=true:=by rfl)(gl:Gl X "len":=by rfl)(gr:Gl X "set":=by rfl)(hs1:starEach [e] X.env=[(false,eval e X.env)]:=by rfl)
  (hs2:starEach [.Call (.Name "set" p2) [e] [] q2] X.env=[(false,eval (.Call (.Name "set" p2) [e] [] q2) X.env)]:=by rfl):LE X κ (.Call (.Name "len" p1) [.Call (.Name "set" p2) [e] [] q2] [] q1) (bS iJ fa):=.mk (aH (CV hc gl hl gr hv h.pe hs1 hs2) λ_ _ _ q=>gg (r:=λx H1 Q=>lG X.K [x] H1 λy H2=>lH [y] H2 Q) C5 q)
theorem Di(hl:X.mg "list" = none)(hv:X.mg "range" = none)(h:LE X κ e fa)(hc:X.calm=true:=by rfl)(gl:Gl X "list":=by rfl)(gr:Gl X "range":=by rfl)(hs1:starEach [e] X.env=[(false,eval e X.env)]:=by rfl)
  (hs2:starEach [.Call (.Name "range" p2) [e] [] q2] X.env=[(false,eval (.Call (.Name "range" p2) [e] [] q2) X.env)]:=by rfl):LE X κ (.Call (.Name "list" p1) [.Call (.Name "range" p2) [e] [] q2] [] q1) (bS jC fa):=.mk (aH (CW hc gl hl gr hv h.pe hs1 hs2) λ_ _ _ q=>gg C6 q)
end
end
end B
namespace Q
open PySem L2 B
noncomputable section
noncomputable def xi:SF :=
 (bb (ak cE (ak eU (ak cD (aa 3) (ao (.int 48271))) (ak cE (aa 4) (ao (.int 2147483629)))) (ao (.int 2147483647))) (aN 3))
noncomputable def vm:FF:=aZ 2 3
 (aq (bb (c7 (bC (one (df (aa 0) (cF (aa 1)) (cF (ao (.int 63))))) br) [] c1 ba (bd (af (aa 0) (af (ak dM (ao (.int 0)) (aa 0)) ae)) jm)) (aN 2))
 (aq (bb (ak eU (ao (.int 7919)) (aa 1)) (aN 3))
 (aq (bT (bC (one (c6 (aa 2))) br) (aN 4)
 xi)
 (aI (oM (ju (ao (.str "seed")) (aa 3) (ju (ao (.str "number")) (ao (.int 0)) (ju (ao (.str "left")) (c6 (bS iq (c7 (bC (one (c6 (aa 2))) br) [] c1 (aD (ak mE (aa 0) (ak gp (ao (.int 10)) (ao (.int 18))))) (aa 0)))) oK))))))))
noncomputable def pS:FF:=aZ 1 0
 (aq (g0 "House" "given" (aa 0) (c6 (bd ae b8)))
 (g0 "House" "seals" (aa 0) (c6 iy)))
noncomputable def oX:Mo Bool:=(pM (aD (ak fu (ak bc (aa 0) (ao (.str "number"))) (ao (.int 0)))) (aD (ak jT (bd (af (ak bc (aa 0) (ao (.str "left"))) ae) bW) (ao (.int 0)))))
noncomputable def vn:SF :=
 (cv (aa 0) (ao (.str "number")) (bS gy (ak bc (aa 0) (ao (.str "left")))))
noncomputable def cB:FF:=aZ 2 3
 (aq (fQ oX
 vn)
 (aq (bb (ak bc (aa 0) (ao (.str "number"))) (aN 2))
 (aq (a9 (aD (ak jT (aa 2) (ao (.int 0))))
 (aq (cv (aa 0) (ao (.str "number")) (ak gn (aa 2) (aa 1)))
 (aI (ak cE (aa 2) (aa 1))))
 bA)
 (aq (bb (ak cE (ak eU (ak cD (ak bc (aa 0) (ao (.str "seed"))) (ao (.int 48271))) (ao (.int 7919))) (ao (.int 2147483647))) (aN 3))
 (aq (cv (aa 0) (ao (.str "seed")) (ak cE (ak eU (ak cD (aa 3) (ao (.int 40692))) (ao (.int 104729))) (ao (.int 2147483399))))
 (aq (bb (ak cE (ak cD (ak bc (aa 0) (ao (.str "seed"))) (ak bc (aa 0) (ao (.str "seed")))) (ao (.int 2147483563))) (aN 4))
 (aI (ak cE (ak eU (ak cD (ak cE (ak cD (aa 3) (aa 3)) (ao (.int 2147483629))) (ao (.int 2147483563))) (aa 4)) (aa 1)))))))))
noncomputable def iK:FF:=aZ 1 0
 (aI (ak bc (bd (af (bd (af (aa 0) (af (ao (.int 3)) ae)) (bf 2 cB)) (af (ak dM (ak dM (ao (.int 4294967296)) (ao (.int 1))) (bd (af (aa 0) (af (ao (.int 3)) ae)) (bf 2 cB))) (af (bd (af (aa 0) (af (ao (.int 4294967296)) ae)) (bf 2 cB)) ae))) b8) (bd (af (aa 0) (af (ao (.int 3)) ae)) (bf 2 cB))))
noncomputable def mI:FF:=aZ 2 3
 (aq (bb (c7 (bC (af (ak eU (ao (.int 1)) (bd (af (aa 0) (af (ao (.int 4)) ae)) (bf 2 cB))) ae) cP) [0] c1 ba (bd (af (aa 1) ae) (bf 1 iK))) (aN 2))
 (aq (bb (c7 (bC (af (ak du (ao (.int 1)) (aa 1)) ae) cP) [2,0] c1 ba (ak bc (aa 1) (bd (af (aa 2) (af (bd (af (aa 1) ae) bW) ae)) (bf 2 cB)))) (aN 3))
 (aq (bb (bd (af (aa 0) (af (ao (.int 4)) ae)) (bf 2 cB)) (aN 4))
 (aq (a9 (pM (aD (ak jT (aa 1) (ao (.int 0)))) (aD (ak fu (aa 4) (ao (.int 0)))))
 (bb (ak cD (df (aa 3) cR (cF (ak gn (ak du (ao (.int 1)) (aa 1)) (ao (.int 2))))) (ao (.int 2))) (aN 3))
 bA)
 (aq (a9 (aD (ak fu (aa 4) (ao (.int 1))))
 (bb (c7 (bC (af (ak du (ao (.int 1)) (aa 1)) ae) cP) [2] c1 ba (ak cE (ak eU (ak bc (aa 1) (ao (.int 0))) (ak cD (ao (.int 5)) (aa 0))) (ao (.int 4294967296)))) (aN 3))
 bA)
 (aI (bd (af (aa 3) ae) dN)))))))
noncomputable def gI:FF:=aZ 2 0
 (aq (a9 (aD (ak jl (aa 1) (bS (cq "House" "seals") (aa 0))))
 (aq (gS (iw jr (bS (cq "House" "given") (aa 0)) (af (aa 1) ae)))
 (cv (bS (cq "House" "seals") (aa 0)) (aa 1) (bd (af (bS (cq "House" "given") (aa 0)) ae) bW)))
 bA)
 (aI (ak bc (bS (cq "House" "seals") (aa 0)) (aa 1))))
noncomputable def gB:FF:=aZ 2 0
 (aI (bI "House" "seal_for" 2 gI (aa 0) (af (bd (af (ao (.str "leaf")) (af (aa 1) ae)) bF) ae)))
noncomputable def gJ:FF:=aZ 3 0
 (aI (bI "House" "seal_for" 2 gI (aa 0) (af (bd (af (ao (.str "pair")) (af (aa 1) (af (aa 2) ae))) bF) ae)))
noncomputable def xj:Mo Bool:=(aD (ak jT (bd (af (aa 2) ae) bW) (ao (.int 1))))
noncomputable def xk:SF :=
 (bb (c7 (bC (af (c6 (jo (aa 2) cR cR (ao (.int 2)))) (af (c6 (jo (aa 2) (cF (ao (.int 1))) cR (ao (.int 2)))) ae)) jv) [0] (cN 2) ba (bI "House" "pair" 3 gJ (aa 2) (af (aa 0) (af (aa 1) ae)))) (aN 2))
noncomputable def oY:FF:=aZ 2 1
 (aq (bb (c7 (bC (one (aa 1)) br) [0] c1 ba (bI "House" "leaf" 2 gB (aa 1) (af (aa 0) ae))) (aN 2))
 (aq (fQ xj
 xk)
 (aI (ak bc (aa 2) (ao (.int 0))))))
noncomputable def fI:FF:=aZ 2 0
 (aq (a9 (gH (aD (ak pP (aa 1) (ao (.int 1)))) (aD (ak jT (aa 1) (bd (af (bS (cq "House" "given") (aa 0)) ae) bW))))
 (aI (ao .non))
 bA)
 (aI (ak bc (bS (cq "House" "given") (aa 0)) (ak dM (aa 1) (ao (.int 1))))))
noncomputable def jW:SF :=
 (aq (bb (bI "House" "opened" 2 fI (aa 0) (af (aa 1) ae)) (aN 6))
 (aq (a9 (gH (aD (bS (iU true) (aa 6))) (aD (ak fu (ak bc (aa 6) (ao (.int 0))) (ao (.str "leaf")))))
 (aI (ao .non))
 bA)
 (aq (bb (ak oB (ak ft (aa 3) (aa 5)) (ao (.int 1))) (aN 7))
 (aq (bb (ak bc (aa 6) (ak eU (ao (.int 1)) (aa 7))) (aN 1))
 (gS (iw jr (aa 4) (af (ak bc (aa 6) (ak dM (ao (.int 2)) (aa 7))) ae)))))))
noncomputable def lJ:FF:=aZ 4 4
 (aq (bb (bd ae b8) (aN 4))
 (aq (bT (bC (af (ak dM (aa 2) (ao (.int 1))) (af (bS ig (ao (.int 1))) (af (bS ig (ao (.int 1))) ae))) fB) (aN 5)
 jW)
 (aq (bb (bI "House" "opened" 2 fI (aa 0) (af (aa 1) ae)) (aN 6))
 (aq (a9 (gH (aD (bS (iU true) (aa 6))) (aD (ak fu (ak bc (aa 6) (ao (.int 0))) (ao (.str "pair")))))
 (aI (ao .non))
 bA)
 (aI (bd (af (ak bc (aa 6) (ao (.int 1))) (af (bd (af (bS jq (aa 4)) ae) dN) ae)) bF))))))
noncomputable def Dj:SF :=
 (aq (bb (iw jB (aa 5) (af (bd (af (aa 0) (af (bd (af (aa 5) ae) bW) ae)) (bf 2 cB)) ae)) (aN 8))
 (gS (iw jr (aa 6) (af (ak eU (bd (af (aa 8) ae) bF) (bd (af (aa 1) (af (aa 2) (af (aa 3) (af (aa 8) ae)))) (bf 4 lJ))) ae))))
noncomputable def xl:FF:=aZ 5 4
 (aq (bb (bS jC (ak du (ao (.int 1)) (aa 3))) (aN 5))
 (aq (bb (bd ae b8) (aN 6))
 (aq (bT (bC (af (bd (af (bd (af (aa 5) ae) bW) (af (ak eU (ao (.int 1)) (bd (af (aa 0) (af (aa 4) ae)) (bf 2 cB))) ae)) oH) ae) cP) (aN 7)
 Dj)
 (aI (aa 6)))))
noncomputable def mJ:FF:=aZ 4 0
 (aI (xg (aD (ak fu (ak oB (aa 1) (ao (.int 1))) (ao (.int 0)))) (bI "House" "pair" 3 gJ (aa 0) (af (aa 2) (af (aa 3) ae))) (bI "House" "pair" 3 gJ (aa 0) (af (aa 3) (af (aa 2) ae)))))
noncomputable def Dk:SF :=
 (aq (bb (ak ft (aa 2) (aa 7)) (aN 9))
 (aq (gS (iw jr (aa 6) (af (bd (af (bd (af (aa 7) (af (ak ie (aa 9) (ao (.int 1))) ae)) bF) (af (aa 8) ae)) bF) ae)))
 (aq (bb (bd (af (aa 0) (af (aa 9) (af (aa 5) (af (aa 8) ae)))) (bf 4 mJ)) (aN 5))
 (gS (iw jr (aa 6) (af (bd (af (bd (af (ak eU (aa 7) (ao (.int 1))) (af (ak ft (aa 9) (ao (.int 1))) ae)) bF) (af (aa 5) ae)) bF) ae))))))
noncomputable def pT:FF:=aZ 2 8
 (aq (bb (aa 1) (cC [2,3,4]))
 (aq (bb (bI "House" "leaf" 2 gB (aa 0) (af (aa 3) ae)) (aN 5))
 (aq (bb (bd (af (bd (af (bd (af (ao (.int 0)) (af (aa 2) ae)) bF) (af (aa 5) ae)) bF) ae) b8) (aN 6))
 (aq (bT (bC (af (aa 4) ae) lC) (cC [7,8])
 Dk)
 (aI (aa 6))))))
noncomputable def pU:FF:=aZ 3 3
 (aq (bb (aa 2) (cC [3,4,5]))
 (aq (a9 (gH (aD (ak pP (aa 3) (ao (.int 0)))) (gH (aD (ak jT (ak ft (aa 3) (aa 1)) (ao (.int 0)))) (gH (aD (ak pP (aa 4) (ao (.int 0)))) (gH (aD (ak mE (aa 4) (ao (.int 4294967296)))) (aD (ak k6 (bd (af (aa 5) ae) bW) (aa 1)))))))
 (aI (ao (.bl false)))
 bA)
 (aI (bd (af (c7 (bC (one (aa 5)) br) [0] c1 ba (bS (iU false) (bI "House" "opened" 2 fI (aa 1) (af (aa 0) ae)))) ae) oQ))))
noncomputable def Dl:SF :=
 (a9 (aD (ak k6 (oV fH (aa 3) (af (aa 5) (af (aa 6) ae))) (aa 6)))
 (aI (ao .non))
 bA)
noncomputable def Dm:SF :=
 (bT (bC (one (c6 (bd (af (aa 0) (af (aa 4) ae)) (bf 2 pT)))) br) (cC [5,6])
 Dl)
noncomputable def vp:FF:=aZ 3 4
 (aq (a9 (eB (bd (bd (af (c7 (bC (one (aa 2)) br) [0,1] c1 ba (bd (af (aa 1) (af (aa 2) (af (aa 0) ae))) (bf 3 pU))) ae) oQ) dr))
 (aI (ao .non))
 bA)
 (aq (a9 (gH (eB (bd (aa 2) dr)) (aD (ak pP (bS iJ (c7 (bC (one (aa 2)) br) [] c1 ba (ak bc (aa 0) (ao (.int 0))))) (bd (af (aa 2) ae) bW))))
 (aI (ao .non))
 bA)
 (aq (bb iy (aN 3))
 (aq (bT (bC (one (aa 2)) br) (aN 4)
 Dm)
 (aI (ak bc (aa 3) (bd (af (aa 1) (af (ao (.int 0)) ae)) bF)))))))
noncomputable def Dn:SF :=
 (aq (bb (ak ft (aa 6) (aa 8)) (aN 9))
 (aq (bb (bd (af (aa 0) (af (aa 9) (af (ak bc (aa 4) (bd (af (aa 8) (af (aa 9) ae)) bF)) (af (ak bc (aa 4) (bd (af (aa 8) (af (ak ie (aa 9) (ao (.int 1))) ae)) bF)) ae)))) (bf 4 mJ)) (aN 10))
 (cv (aa 4) (bd (af (ak eU (aa 8) (ao (.int 1))) (af (ak ft (aa 9) (ao (.int 1))) ae)) bF) (aa 10))))
noncomputable def Dp:SF :=
 (aq (cv (aa 4) (bd (af (ao (.int 0)) (af (aa 6) ae)) bF) (bI "House" "leaf" 2 gB (aa 0) (af (aa 7) ae)))
 (bT (bC (af (aa 1) ae) cP) (aN 8)
 Dn))
noncomputable def Dq:SF :=
 (gS (oV iH (aa 4) (af (bd (af (bd (af (aa 0) (af (aa 5) ae)) (bf 2 pT)) ae) pR) ae)))
noncomputable def vq:FF:=aZ 4 7
 (aq (bb iy (aN 4))
 (aq (bT (bC (one (aa 2)) br) (aN 5)
 Dq)
 (aq (iF (aa 3) (cC [6,7])
 Dp)
 (aI (ak bc (aa 4) (bd (af (aa 1) (af (ao (.int 0)) ae)) bF))))))
noncomputable def iL:Nat->FF
 | 0=>λ_ _=>none
 | n+1=>aZ 2 2
   (aq (a9 (aD (ak fu (bd (af (aa 1) ae) bW) (ao (.int 1))))
   (aI (bI "House" "leaf" 2 gB (aa 0) (af (ak bc (aa 1) (ao (.int 0))) ae)))
   bA)
   (aq (bb (ak gn (bd (af (aa 1) ae) bW) (ao (.int 2))) (aN 2))
   (aq (bb (bd (af (aa 0) (af (df (aa 1) cR (cF (aa 2))) ae)) (bf 2 (iL n))) (aN 3))
   (aI (bI "House" "pair" 3 gJ (aa 0) (af (aa 3) (af (bd (af (aa 0) (af (df (aa 1) (cF (aa 2)) cR) ae)) (bf 2 (iL n))) ae)))))))
noncomputable def xm:SF :=
 (a9 (aD (ak jT (bd (af (aa 0) (af (ao (.int 3)) ae)) (bf 2 cB)) (ao (.int 0))))
 (aq (cv (aa 6) (aa 8) (ak bc (bd (af (aa 9) (af (bd (af (aa 0) ae) (bf 1 iK)) (af (ak bc (aa 2) (ao (.int 0))) ae))) b8) (bd (af (aa 0) (af (ao (.int 3)) ae)) (bf 2 cB))))
 (cv (aa 7) (aa 8) (ak bc (aa 6) (aa 8))))
 bA)
noncomputable def vt:FF:=aZ 5 7
 (aq (bb (bd (af (bd (af (aa 0) (af (aa 1) (af (aa 3) (af (aa 4) (af (ak bc (bd (af (ao (.int 8)) (af (ak du (ao (.int 1)) (aa 4)) ae)) b8) (bd (af (aa 0) (af (ao (.int 2)) ae)) (bf 2 cB))) ae))))) (bf 5 xl)) ae) dN) (aN 5))
 (aq (bb (c6 jt) (aN 6))
 (aq (bb (bd (af (aa 2) ae) ly) (aN 7))
 (aq (bT (bC (one (aa 5)) br) (cC [8,9,10])
 xm)
 (aq (bb (bd (af (aa 6) ae) vc) (aN 11))
 (aq (a9 (aD (ak k6 (bd (af (aa 1) (af (aa 4) (af (aa 5) ae))) (bf 3 vp)) (aa 3)))
 (aI (ao (.bl false)))
 bA)
 (aq (a9 (aD (ak k6 (bd (af (aa 1) (af (aa 4) (af (aa 5) (af (c6 (aa 6)) ae)))) (bf 4 vq)) (bd (af (aa 1) (af (c6 (aa 7)) ae)) (bf 2 (iL 8)))))
 (aI (ao (.bl false)))
 bA)
 (aI (vf (ak jA (aa 6) (aa 11)) (vf (ak fu (bd (af (aa 1) (af (aa 4) (af (aa 5) (af (c6 jt) ae)))) (bf 4 vq)) (aa 3)) (ak fu (bd (af (aa 1) (af (aa 4) (af (aa 5) ae))) (bf 3 vp)) (aa 3))))))))))))
noncomputable def Dr:SF :=
 (a9 (gH (eB (bd (bd (af (c6 (aa 1)) (af (aa 2) (af (aa 5) (af (ak bc (aa 6) (ao (.int 1))) (af (aa 3) ae))))) (bf 5 vt)) dr)) (eB (bd (bd (af (c6 (aa 1)) (af (aa 2) (af (aa 4) (af (ak bc (aa 6) (ao (.int 0))) (af (aa 3) ae))))) (bf 5 vt)) dr)))
 (aI (ao (.bl false)))
 bA)
noncomputable def Ds:FF:=aZ 1 7
 (aq (bb (bd (af (aa 0) (af (ao (.int 0)) ae)) (bf 2 vm)) (aN 1))
 (aq (bb (bd ae (ja "House" 1 pS)) (aN 2))
 (aq (bb (ak bc (bd (af (ao (.int 0)) (af (ao (.int 1)) (af (ao (.int 2)) (af (ao (.int 3)) (af (ao (.int 4)) (af (ao (.int 6)) ae)))))) b8) (bd (af (c6 (aa 1)) (af (ao (.int 6)) ae)) (bf 2 cB))) (aN 3))
 (aq (bb (bd (af (c6 (aa 1)) (af (aa 3) ae)) (bf 2 mI)) (aN 4))
 (aq (bb (bd (af (c6 (aa 1)) (af (aa 3) ae)) (bf 2 mI)) (aN 5))
 (aq (bb (bd (af (bd (af (aa 2) (af (aa 4) ae)) (bf 2 oY)) (af (bd (af (aa 2) (af (aa 5) ae)) (bf 2 oY)) ae)) b8) (aN 6))
 (aq (bT (bC (af (ao (.int 3)) ae) cP) (aN 7)
 Dr)
 (aI (ao (.bl true))))))))))
end
end Q
namespace Q
open PySem L2 B
theorem dB  (hl:xs.length=n)(h:body (xs.map some++List.replicate r none) G=some (.rt x G')):aZ n r body xs G=some (x,G'):=by
 unfold aZ;rw [if_pos hl,h]
theorem aC  (h:a Z G=some (.nx Z1 G1))(k:b Z1 G1=r):aq a b Z G=r:=by
 unfold aq;rw [h];exact k
theorem oZ  (h:c Z G=some (true,Z1,G1))(k:a Z1 G1=r):a9 c a b Z G=r:=by
 unfold a9;rw [h];exact k
theorem dk  (h:c Z G=some (false,Z1,G1))(k:b Z1 G1=r):a9 c a b Z G=r:=by
 unfold a9;rw [h];exact k
theorem cj  (h:f Z G=some (.v x,Z1,G1))(k:g x Z1 G1=some (Z2,G2)):bb f g Z G=some (.nx Z2 G2):=by
 unfold bb dq bd;rw [h];show (match gQ (.v x) Z1 G1 with|_=>_)=_
 unfold gQ rt;dsimp only;rw [k]
theorem lK  (h:f Z G=some (.v x,Z1,G1)):aI f Z G=some (.rt x G1):=by
 unfold aI dq bd;rw [h];rfl
theorem xn  (h:f Z G=some (e,Z1,G1)):gS f Z G=some (.nx Z1 G1):=by
 unfold gS;rw [h]
theorem a7{α β:Type}{m:Mo α}{f:α->Mo β}{Z Z1:De}{G G1:List M}{a:α}{r:Option (β×De×List M)}(h:m Z G=some (a,Z1,G1))(k:f a Z1 G1=r):bd m f Z G=r:=by
 unfold bd;rw [h];exact k
theorem vw  (h:c Z G=some (false,Z1,G1))(k:d Z1 G1=r):gH c d Z G=r:=by
 unfold gH bd;rw [h];exact k
theorem lL  (h:c Z G=some (b,Z1,G1)):eB c Z G=some (!b,Z1,G1):=by
 unfold eB bd;rw [h];rfl
theorem jD  (h:f Z G=some (.v (.im (.bl b)),Z1,G1)):aD f Z G=some (b,Z1,G1):=by
 unfold aD bd;rw [h];rfl
theorem cw   (h:f Z G=some (x,Z1,G1))(h2:g Z1 G1=some (y,Z2,G2))(k:p [x,y] Z2 G2=r):ak p f g Z G=r:=by
 unfold ak bd;rw [h];dsimp only;rw [h2];exact k
theorem lM   (h:f Z G=some (x,Z1,G1))(k:p [x] Z1 G1=r):bS p f Z G=r:=by
 unfold bS bd;rw [h];exact k
theorem eV   (h:mx es=some xs)(hl:xs.length=n)(k:fn xs G=some (x,G')):bf n fn es Z G=some (.v x,Z,G'):=by
 unfold bf;rw [h];dsimp only;rw [if_pos hl,k]
theorem y86    (h:fo Z G=some (e,Z1,G1))(hl:eL Z1 G1 e=true)(ha:fa Z1 G1=some (es,Z2,G2))(k:p (e::es) Z2 G2=r):iw p fo fa Z G=r:=by
 unfold iw bd;rw [h];dsimp only;rw [if_pos hl,ha];exact k
theorem mK     (hb:mz ix Z G=some ((),Z0,G0))(hi:fi Z0 G0=some (w,es,Z1,G1))(hn:w.n≤100000)(hc:dI w c tt te (gZ ix Z1) 0 w.n [] Z1 G1=some (ds,G2)):c7 fi ix c tt te Z G=some (.v (.ow (.lst ds)),Z1,G2):=by
 unfold c7;rw [hb];dsimp only;rw [hi];dsimp only;rw [if_pos hn,hc]
theorem eN    (hi:f Z G=some (w,es,Z1,G1))(h:aY w g b 0 w.n Z1 G1=r):bT f g b Z G=r:=by
 unfold bT;rw [hi];exact h
theorem jE   (h:fa Z G=some (es,Z1,G1))(k:p es Z1 G1=some w):bC fa p Z G=some (w,es,Z1,G1):=by
 unfold bC;rw [h];dsimp only;rw [k];rfl
noncomputable def dP(n:Nat):Wk:=⟨n,λi _ _=>some (.int i),λ_ _=>true⟩
theorem o6(n:Nat):(dP n).n=n:=rfl
theorem Dt{n:Nat}{j:Int}{Z:De}{G:List M}(h:j=n)(hn:n≤1000000):cP [.v (.im (.int j))] Z G=some (dP n):=by
 subst h
 unfold cP
 dsimp only
 rw [if_pos (by lia)]
 rfl
theorem iM{n:Nat}{fa:Mo (List Ev)}{j:Int}{Z Z1:De}{G G1:List M}(h:fa Z G=some ([.v (.im (.int j))],Z1,G1))(e:j=n)(hn:n≤1000000):bC fa cP Z G=some (dP n,[.v (.im (.int j))],Z1,G1):=jE h (Dt e hn)
end Q
namespace Q
open PySem L2 B
local macro_rules | `(tactic| simp! [$xs,*])=>`(tactic| simp [aZ,aq,a9,gH,pM,eB,aD,ak,bS,bd,aa,ao,rt,af,ae,cq,bW,sq,pk,dU,pL,pP,leP,jT,mE,bB,aI,AX,dq,c6,mv,gQ,bA,gS,bb,aN,bc,eF,ik,lr,eK,dM,eU,ou,cD,tU,gn,cE,gp,du,ft,ig,bf,mx,bI,ja,bF,b8,nV,xf,iw,eL,jr,gy,g0,cv,dO,dv,cQ,il,az,xg,iU,kR,dr,fu,k6,ua,k5,kY,b6,de,jU,jt,iy,one,$xs,*])
local macro_rules | `(↑$x)=>`(some (.im $x))
local macro_rules | `(⇑$x)=>`(.v (.im $x))
local macro_rules | `(↥$x)=>`(some (.ow (.lst $x)))
section
theorem vx:¬ (("seed" : Str)="number"):=by decide +kernel
theorem Du:¬ (("seed" : Str)="left"):=by decide +kernel
theorem vy:¬ (("number" : Str)="left"):=by decide +kernel
theorem vz:¬ (("number" : Str)="seed"):=by decide +kernel
theorem Dv:¬ (("left" : Str)="seed"):=by decide +kernel
theorem Dw:¬ (("left" : Str)="number"):=by decide +kernel
theorem Dx:((Sum.inr ("seed" : Str):ai)=Sum.inr ("number" : Str))=False:=by simp;decide +kernel
theorem Dy:((Sum.inr ("seed" : Str):ai)=Sum.inr ("left" : Str))=False:=by simp;decide +kernel
theorem Dz:((Sum.inr ("number" : Str):ai)=Sum.inr ("left" : Str))=False:=by simp;decide +kernel
noncomputable def cI(a n:Int)(l:Nat):List (ai×I):=[(.inr "seed",.int a),(.inr "number",.int n),(.inr "left",.ref l)]
theorem yd4(a n:Int)(l:Nat):az (cI a n l) (Sum.inr ("seed" : Str))=some (.int a):=by simp [cI,az]
theorem vA(a n:Int)(l:Nat):az (cI a n l) (Sum.inr ("number" : Str))=some (.int n):=by simp only [cI,az,Dx,if_false,if_true]
theorem xo(a n:Int)(l:Nat):az (cI a n l) (Sum.inr ("left" : Str))=some (.ref l):=by simp only [cI,az,Dy,Dz,if_false,if_true]
theorem vB(a n m:Int)(l:Nat):aE (cI a n l) (Sum.inr ("number" : Str)) (.int m)=cI a m l:=by simp [aE,cg,cI,vx,Dw,vy,vz]
theorem vC(a n m:Int)(l:Nat):aE (cI a n l) (Sum.inr ("seed" : Str)) (.int m)=cI m n l:=by simp [aE,cg,cI,vz,Dv]
theorem DA(a n:Int)(l:Nat):(cI a n l).length<1000000:=by show 3<1000000;decide
structure DC(G:List M)(d l:Nat)(a n:Int)(ms:List Int):Prop where
 dc:G[d]?=some (.dic (cI a n l))
 lc:G[l]?=some (.lst (ms.map I.int))
 ne:d≠l
 a0:0≤a
 a1:a<2147483647
 n0:0≤n
 m0:∀m∈ms,0≤m
noncomputable def DG(G:List M)(d l:Nat):Prop:=∃a n ms,DC G d l a n ms
structure Oth(d l:Nat)(G G':List M):Prop where
 len:G'.length=G.length
 at_:∀k,k≠d->k≠l->G'[k]?=G[k]?
theorem Oth.refl(d l:Nat)(G:List M):Oth d l G G:=⟨rfl,λ_ _ _=>rfl⟩
theorem Oth.trans{d l:Nat}{G G1 G2:List M}(x:Oth d l G G1)(y:Oth d l G1 G2):Oth d l G G2:=⟨y.len.trans x.len,λk h1 h2=>(y.at_ k h1 h2).trans (x.at_ k h1 h2)⟩
theorem Oth.setD{d l:Nat}{G:List M}{m:M}:Oth d l G (G.set d m):=⟨z31,λk h1 _=>z1e (Ne.symm h1)⟩
theorem Oth.setL{d l:Nat}{G:List M}{m:M}:Oth d l G (G.set l m):=⟨z31,λk _ h1=>z1e (Ne.symm h1)⟩
theorem eO{G:List M}{k:Nat}{m m':M}(h:G[k]?=some m'):(G.set k m)[k]?=some m:=List.getElem?_set_self (z14.mp h).1
noncomputable def jX(d:Nat)(many:Int):De:=[↑(.ref d),↑(.int many),none,none,none]
theorem DB{G:List M}{d l:Nat}{a n:Int}{ms:List Int}{many:Int}(D:DC G d l a n ms):oX (jX d many) G=some (decide (n=0)&&decide (0<ms.length),jX d many,G):=by
 by_cases h:n=0
 ·by_cases h2:0<ms.length
  ·simp! [oX,jX,D.dc,D.lc,vA,xo,h,h2]
  ·simp! [oX,jX,D.dc,D.lc,vA,xo,h,h2]
 ·simp! [oX,jX,D.dc,D.lc,vA,xo,h]
theorem yeb{G:List M}{d l:Nat}{a n:Int}{ms:List Int}{many y:Int}(D:DC G d l a n ms)(hy:ms[ms.length-1]?=some y):∃G',vn (jX d many) G=some (.nx (jX d many) G')/\DC G' d l a y ms.dropLast/\Oth d l G G':=by
 have h1:(G.set l (.lst (ms.map I.int).dropLast))[d]?=some (.dic (cI a n l)):=by rw [z1e D.ne.symm];exact D.dc
 refine⟨(G.set l (.lst (ms.map I.int).dropLast)).set d (.dic (cI a y l)),?_,⟨eO h1,?_,D.ne,D.a0,D.a1,D.m0 y (z2e hy),λm hm=>D.m0 m (List.dropLast_subset _ hm)⟩,Oth.setL.trans Oth.setD⟩
 ·simp! [vn,jX,D.dc,D.lc,xo,hy,h1,DA,vB]
 ·rw [z1e D.ne,eO D.lc,List.map_dropLast]
theorem yee{d l:Nat}{a:Int}{many:Int}:∀(k:Nat) {G:List M} {n:Int} {ms:List Int},ms.length=k->DC G d l a n ms->∃G' n' ms',fQ oX vn (jX d many) G=some (.nx (jX d many) G')/\DC G' d l a n' ms'/\Oth d l G G':=by
 intro k
 induction k with
 | zero =>
  intro G n ms hk D
  refine⟨G,n,ms,n9 ?_,D,Oth.refl _ _ _⟩
  rw [DB D]
  simp [hk]
 | succ k ih =>
  intro G n ms hk D
  by_cases h:n=0
  ·obtain⟨y,hy⟩:∃y,ms[ms.length-1]?=some y:=⟨_,z13 (by lia)⟩
   obtain⟨G1,e1,D1,o1⟩:=yeb (many:=many) D hy
   obtain⟨G2,n2,ms2,e2,D2,o2⟩:=ih (by rw [List.length_dropLast];lia) D1
   refine⟨G2,n2,ms2,?_,D2,o1.trans o2⟩
   rw [sX (by rw [DB D];simp [h,hk]) e1]
   exact e2
  ·refine⟨G,n,ms,n9 ?_,D,Oth.refl _ _ _⟩
   rw [DB D]
   simp [h]
theorem lN{G:List M}{d l:Nat}{many:Int}(D:DG G d l)(h0:0<many)(h1:many<2 ^ 100):∃r G',cB [.im (.ref d),.im (.int many)] G=some (.im (.int r),G')/\0≤r/\r<many/\DG G' d l/\Oth d l G G':=by
 obtain⟨a,n,ms,D⟩:=D
 obtain⟨G1,n1,ms1,e1,D1,o1⟩:=yee (many:=many) _ rfl D
 have e1':fQ oX vn [↑(.ref d),↑(.int many),none,none,none] G=some (.nx [↑(.ref d),↑(.int many),none,none,none] G1):=e1
 by_cases hn:0<n1
 ·refine⟨n1 % many,G1.set d (.dic (cI a (n1 / many) l)),?_,Int.emod_nonneg _ (by lia),Int.emod_lt_of_pos _ h0,⟨a,n1 / many,ms1,eO D1.dc,by rw [z1e D1.ne];exact D1.lc,D1.ne,D1.a0,D1.a1,Int.ediv_nonneg D1.n0 (by lia),D1.m0⟩,o1.trans Oth.setD⟩
  have h2:many<2 ^ 200:=Int.lt_trans h1 (by decide)
  have h3:(many<1606938044258990275541962092341162602522202993782792835301376):=h2
  simp! [cB,e1',D1.dc,vA,hn,h0,h3,DA,vB]
 ·have q1:0≤(a*48271+7919) % 2147483647:=Int.emod_nonneg _ (by decide)
  have q2:(a*48271+7919) % 2147483647<2147483647:=Int.emod_lt_of_pos _ (by decide)
  have q3:0≤((a*48271+7919) % 2147483647*40692+104729) % 2147483399:=Int.emod_nonneg _ (by decide)
  have q4:((a*48271+7919) % 2147483647*40692+104729) % 2147483399<2147483399:=Int.emod_lt_of_pos _ (by decide)
  obtain⟨o,ho⟩:∃o,(a*48271+7919) % 2147483647=o:=⟨_,rfl⟩
  rw [ho] at q1 q2 q3 q4
  obtain⟨b,hb⟩:∃b,(o*40692+104729) % 2147483399=b:=⟨_,rfl⟩
  rw [hb] at q3 q4
  have D2:(G1.set d (.dic (cI b n1 l)))[d]?=some (.dic (cI b n1 l)):=eO D1.dc
  have c1:-18446744073709551616<b/\b<18446744073709551616:=⟨by lia,by lia⟩
  have c2:-18446744073709551616<o/\o<18446744073709551616:=⟨by lia,by lia⟩
  refine⟨(o*o % 2147483629*2147483563+b*b % 2147483563) % many,G1.set d (.dic (cI b n1 l)),?_,Int.emod_nonneg _ (by lia),Int.emod_lt_of_pos _ h0,⟨b,n1,ms1,D2,by rw [z1e D1.ne];exact D1.lc,D1.ne,q3,by lia,D1.n0,D1.m0⟩,o1.trans Oth.setD⟩
  simp! [cB,e1',D1.dc,D2,vA,yd4,hn,h0,DA,vC,ho,hb,c1,c2]
end
section
inductive Mk where
 | leaf (w:Int)|pair (a b:Int)
 deriving DecidableEq
noncomputable def Mk.i:Mk->I
 | .leaf w=>.tup [.str "leaf",.int w]
 | .pair a b=>.tup [.str "pair",.int a,.int b]
noncomputable def Mk.k:Mk->List ai
 | .leaf w=>[.inr "leaf",.inl w]
 | .pair a b=>[.inr "pair",.inl a,.inl b]
theorem Mk.key(m:Mk):cQ m.i=some m.k:=by cases m<;>simp [Mk.i,Mk.k,cQ,il,dv]
theorem DD:¬ (("leaf" : Str)="pair"):=by decide +kernel
theorem DE:¬ (("pair" : Str)="leaf"):=by decide +kernel
theorem Mk.inj{m m':Mk}(h:m.k=m'.k):m=m':=by
 cases m<;>cases m'<;>simp [Mk.k,DD,DE] at h<;>simp [h]
noncomputable def cx(o:Nat):List Mk->List (List ai×I)
 | []=>[]
 | m::r=>(m.k,.int ((o:Int)+1))::cx (o+1) r
theorem vD:∀(o:Nat) (gs:List Mk),(cx o gs).length=gs.length
 | _,[]=>rfl
 | o,m::r=>by show (cx (o+1) r).length+1=r.length+1;rw [vD]
theorem vE:∀(o:Nat) (gs:List Mk) (m:Mk),cg (cx o gs) m.k=decide (m∈gs)
 | _,[],_=>by simp [cx,cg]
 | o,g::r,m=>by
  have ih:=vE (o+1) r m
  show (decide (g.k=m.k)||cg (cx (o+1) r) m.k)=_
  rw [ih]
  by_cases e:g=m
  ·subst e;simp
  ·have:¬ (g.k=m.k):=λz=>e (Mk.inj z)
   simp [this,e,Ne.symm e,z1b]
theorem lO:∀{o:Nat} {gs:List Mk} {m:Mk},m∈gs->∃j:Nat,az (cx o gs) m.k=some (.int ((o:Int)+j+1))/\gs[j]?=some m
 | _,[],_,h=>by cases h
 | o,g::r,m,h=>by
  by_cases e:g=m
  ·subst e;exact⟨0,by simp [cx,az],rfl⟩
  ·rcases z1b.mp h with z|z
   ·exact absurd z.symm e
   ·obtain⟨j,h1,h2⟩:=lO (o:=o+1) z
    have:¬ (g.k=m.k):=λz=>e (Mk.inj z)
    refine⟨j+1,?_,h2⟩
    simp only [cx,az,if_neg this,h1]
    congr 2;push_cast;lia
theorem vF:∀{o:Nat} {gs:List Mk} {m:Mk},m∉gs->az (cx o gs) m.k=none
 | _,[],_,_=>rfl
 | o,g::r,m,h=>by
  rw [z1b,not_or] at h
  have:¬ (g.k=m.k):=λz=>h.1 (Mk.inj z).symm
  simp only [cx,az,if_neg this]
  exact vF h.2
theorem vG:∀(o:Nat) (gs:List Mk) (m:Mk),cx o (gs++[m])=cx o gs++[(m.k,.int ((o:Int)+gs.length+1))]
 | o,[],m=>by simp [cx]
 | o,g::r,m=>by
  show (g.k,I.int ((o:Int)+1))::cx (o+1) (r++[m])=(g.k,I.int ((o:Int)+1))::(cx (o+1) r++_)
  rw [vG (o+1) r m]
  have:((o+1:Nat):Int)+r.length+1=(o:Int)+(g::r).length+1:=by simp only [z29];push_cast;lia
  rw [this]
noncomputable def dE(g s:Nat):List (Str×I):=[("given",.ref g),("seals",.ref s)]
theorem DF:(("seals" : Str) == "given")=false:=by decide +kernel
theorem jF(g s:Nat):(dE g s).lookup ("given" : Str)=some (.ref g):=by simp [dE,List.lookup]
theorem o9(g s:Nat):(dE g s).lookup ("seals" : Str)=some (.ref s):=by simp [dE,List.lookup,DF]
theorem m1:(("seal_for" : Str) == "given")=false:=by decide +kernel
theorem m2:(("seal_for" : Str) == "seals")=false:=by decide +kernel
theorem m3:(("leaf" : Str) == "given")=false:=by decide +kernel
theorem m4:(("leaf" : Str) == "seals")=false:=by decide +kernel
theorem m5:(("pair" : Str) == "given")=false:=by decide +kernel
theorem m6:(("pair" : Str) == "seals")=false:=by decide +kernel
theorem m7:(("opened" : Str) == "given")=false:=by decide +kernel
theorem m8:(("opened" : Str) == "seals")=false:=by decide +kernel
theorem lP(g s:Nat):(dE g s).lookup ("seal_for" : Str)=none:=by simp [dE,List.lookup,m1,m2]
theorem jG(g s:Nat):(dE g s).lookup ("leaf" : Str)=none:=by simp [dE,List.lookup,m3,m4]
theorem jH(g s:Nat):(dE g s).lookup ("pair" : Str)=none:=by simp [dE,List.lookup,m5,m6]
theorem fJ(g s:Nat):(dE g s).lookup ("opened" : Str)=none:=by simp [dE,List.lookup,m7,m8]
structure HG(G:List M)(h g s:Nat)(gs:List Mk):Prop where
 ob:G[h]?=some (.obj "House" (dE g s))
 gl:G[g]?=some (.lst (gs.map Mk.i))
 sd:G[s]?=some (.dit (cx 0 gs))
 n1:h≠g
 n2:h≠s
 n3:g≠s
 nd:gs.Nodup
noncomputable def At(gs:List Mk)(n:Int)(m:Mk):Prop:=∃j:Nat,n=(j:Int)+1/\gs[j]?=some m
theorem At.app{gs:List Mk}{n:Int}{m:Mk}(h:At gs n m)(r:List Mk):At (gs++r) n m:=by
 obtain⟨j,e,h⟩:=h
 exact⟨j,e,by rw [z21 (z14.mp h).1];exact h⟩
theorem At.uniq{gs:List Mk}{n n':Int}{m:Mk}(nd:gs.Nodup)(h:At gs n m)(h':At gs n' m):n=n':=by
 obtain⟨j,rfl,h⟩:=h
 obtain⟨j',rfl,h'⟩:=h'
 have a1:=z14.mp h
 have a2:=z14.mp h'
 obtain⟨l1,e1⟩:=a1
 obtain⟨l2,e2⟩:=a2
 have:=(List.getElem_inj (i:=j) (j:=j') (h₀:=l1) (h₁:=l2) nd).mp (e1.trans e2.symm)
 subst this;rfl
theorem vH{G:List M}{h g s:Nat}{gs:List Mk}{m:Mk}(S:HG G h g s gs)(hl:gs.length<100000):∃n gs' G',gI [.im (.ref h),.im m.i] G=some (.im (.int n),G')/\HG G' h g s gs'/\At gs' n m/\(gs'=gs∨gs'=gs++[m])/\Oth g s G G':=by
 have hk:=m.key
 by_cases hm:m∈gs
 ·obtain⟨j,hv,hj⟩:=lO (o:=0) hm
  refine⟨(j:Int)+1,gs,G,?_,S,⟨j,rfl,hj⟩,.inl rfl,Oth.refl _ _ _⟩
  have hv:az (cx 0 gs) m.k=some (.int ((j:Int)+1)):=by rw [hv];simp
  have hi:lu true [⇑m.i,⇑(.ref s)] [↑(.ref h),↑m.i] G=none:=by
   cases m<;>simp [lu,sq,pk,S.sd,Mk.i]
  have hq:ik [⇑(.ref s),⇑m.i] [↑(.ref h),↑m.i] G=none:=by cases m<;>simp [ik,Mk.i]
  simp [gI,aZ,aq,a9,aD,ak,bS,bd,aa,rt,cq,jl,eF,ip,eK,pk,pL,aI,dq,gQ,bA,bc,lr,S.ob,S.sd,o9,jF,hk,hv,hi,hq]
 ·have hv:=vF (o:=0) hm
  have hh:cg (cx 0 gs) m.k=false:=by rw [vE];simp [hm]
  have hi:lu true [⇑m.i,⇑(.ref s)] [↑(.ref h),↑m.i] G=none:=by
   cases m<;>simp [lu,sq,pk,S.sd,Mk.i]
  have g1:(G.set g (.lst (gs.map Mk.i++[m.i])))[h]?=some (.obj "House" (dE g s)):=by rw [z1e S.n1.symm];exact S.ob
  have g2:(G.set g (.lst (gs.map Mk.i++[m.i])))[s]?=some (.dit (cx 0 gs)):=by rw [z1e S.n3];exact S.sd
  have g3:(G.set g (.lst (gs.map Mk.i++[m.i])))[g]?=some (.lst (gs.map Mk.i++[m.i])):=eO S.gl
  have e1:cx 0 (gs++[m])=cx 0 gs++[(m.k,.int ((gs.length:Int)+1))]:=by rw [vG];simp
  have e2:aE (cx 0 gs) m.k (.int ((gs.length:Int)+1))=cx 0 (gs++[m]):=by rw [e1];unfold aE;rw [hh];rfl
  have l1:gs.length<1000000:=by lia
  have l2:(cx 0 gs).length<1000000:=by rw [vD];exact l1
  have k1:((G.set g (.lst (gs.map Mk.i++[m.i]))).set s (.dit (cx 0 (gs++[m]))))[h]?=some (.obj "House" (dE g s)):=by rw [z1e S.n2.symm];exact g1
  have k2:((G.set g (.lst (gs.map Mk.i++[m.i]))).set s (.dit (cx 0 (gs++[m]))))[s]?=some (.dit (cx 0 (gs++[m]))):=eO g2
  have hq:∀G',ik [⇑(.ref s),⇑m.i] [↑(.ref h),↑m.i] G'=none:=λG'=>by cases m<;>simp [ik,Mk.i]
  have y197:m∈gs++[m]:=by simp
  have nd':(gs++[m]).Nodup:=by
   rw [List.nodup_append]
   exact⟨S.nd,by simp,λa ha b hb=>by simp at hb;subst hb;exact λz=>hm (z ▸ ha)⟩
  have val:az (cx 0 (gs++[m])) m.k=some (.int ((gs.length:Int)+1)):=by
   obtain⟨j,hv',hj⟩:=lO (o:=0) y197
   rw [hv']
   have a2:(gs++[m])[gs.length]?=some m:=by simp
   obtain⟨l1,e1⟩:=z14.mp hj
   obtain⟨l2,e2⟩:=z14.mp a2
   have:=(List.getElem_inj (h₀:=l1) (h₁:=l2) nd').mp (e1.trans e2.symm)
   subst this
   simp
  refine⟨(gs.length:Int)+1,gs++[m],(G.set g (.lst (gs.map Mk.i++[m.i]))).set s (.dit (cx 0 (gs++[m]))),?_,⟨k1,?_,k2,S.n1,S.n2,S.n3,nd'⟩,⟨gs.length,rfl,by simp⟩,.inr rfl,Oth.setD.trans Oth.setL⟩
  ·simp [gI,aZ,aq,a9,aD,ak,bS,bd,aa,rt,af,ae,cq,jl,eF,ip,eK,pk,dU,sq,bW,pL,aI,dq,gQ,bA,gS,iw,eL,jr,cv,dO,bc,lr,S.ob,S.sd,S.gl,o9,jF,hk,hv,hi,hq,g1,g2,g3,l1,l2,e2,k1,k2,val]
  ·rw [z1e S.n3.symm,g3,z26];rfl
end
section
theorem jY{w:Wk}{c:I->Option (List I)}{tt:Mo Bool}{te:Mo Ev}{di Z:De}(P:Nat->List I->List M->Prop)
  (step:∀i acc G,i<w.n->P i acc G->∃d ds Za Ga y Zb Gb,w.at_ i Z G=some d/\c d=some ds/\tt ((ds.map λd=>some (Vl.im d))++di) G=some (true,Za,Ga)/\te Za Ga=some (⇑y,Zb,Gb)/\P (i+1) (acc++[y]) Gb)
  (fin:∀acc G,P w.n acc G->w.fin Z G=true):∀(r i:Nat) (acc:List I) (G:List M),i+r=w.n->P i acc G->∃ds G',dI w c tt te di i r acc Z G=some (ds,G')/\P w.n ds G'
 | 0,i,acc,G,h,p=>by
  have:i=w.n:=by lia
  subst this
  exact⟨acc,G,by unfold dI;rw [fin acc G p];rfl,p⟩
 | r+1,i,acc,G,h,p=>by
  obtain⟨d,ds,Za,Ga,y,Zb,Gb,h1,h2,h3,h4,p'⟩:=step i acc G (by lia) p
  obtain⟨ds',G',e,q⟩:=jY P step fin r (i+1) (acc++[y]) Gb (by lia) p'
  refine⟨ds',G',?_,q⟩
  unfold dI
  rw [h1];dsimp only;rw [h2];dsimp only;rw [h3];dsimp only;rw [h4]
  exact e
theorem dC{w:Wk}{g:GF}{b:SF}(P:Nat->De->List M->Prop)
  (step:∀i Z G,i<w.n->P i Z G->∃d Z1 G1 Z2 G2,w.at_ i Z G=some d/\g (.im d) Z G=some (Z1,G1)/\b Z1 G1=some (.nx Z2 G2)/\P (i+1) Z2 G2)
  (fin:∀Z G,P w.n Z G->w.fin Z G=true):∀(r i:Nat) (Z:De) (G:List M),i+r=w.n->P i Z G->∃Z' G',aY w g b i r Z G=some (.nx Z' G')/\P w.n Z' G'
 | 0,i,Z,G,h,p=>by
  have:i=w.n:=by lia
  subst this
  exact⟨Z,G,by unfold aY;rw [fin Z G p];rfl,p⟩
 | r+1,i,Z,G,h,p=>by
  obtain⟨d,Z1,G1,Z2,G2,h1,h2,h3,p'⟩:=step i Z G (by lia) p
  obtain⟨Z',G',e,q⟩:=dC P step fin r (i+1) Z2 G2 (by lia) p'
  refine⟨Z',G',?_,q⟩
  unfold aY
  rw [h1];dsimp only;rw [h2];dsimp only;rw [h3]
  exact e
noncomputable def bg(k:Nat)(gs gs':List Mk):Prop:=∃r,gs'=gs++r/\r.length≤k
theorem bg.refl(gs:List Mk):bg 0 gs gs:=⟨[],by simp,by simp⟩
theorem bg.trans{a b:Nat}{gs g1 g2:List Mk}(x:bg a gs g1)(y:bg b g1 g2):bg (a+b) gs g2:=by
 obtain⟨r,rfl,h1⟩:=x
 obtain⟨r',rfl,h2⟩:=y
 exact⟨r++r',by simp,by rw [z17];lia⟩
theorem bg.le{a b:Nat}{gs g1:List Mk}(x:bg a gs g1)(h:a≤b):bg b gs g1:=by
 obtain⟨r,e,l⟩:=x;exact⟨r,e,by lia⟩
theorem bg.len{a:Nat}{gs g1:List Mk}(x:bg a gs g1):g1.length≤gs.length+a:=by
 obtain⟨r,rfl,l⟩:=x;rw [z17];lia
theorem At.ext{a:Nat}{gs g1:List Mk}{n:Int}{m:Mk}(h:At gs n m)(x:bg a gs g1):At g1 n m:=by
 obtain⟨r,rfl,_⟩:=x;exact h.app r
theorem vI{gs gs':List Mk}{m:Mk}(h:gs'=gs∨gs'=gs++[m]):bg 1 gs gs':=by
 rcases h with h|h
 ·exact⟨[],by simp [h],by simp⟩
 ·exact⟨[m],h,by simp⟩
theorem pd{G:List M}{h g s:Nat}{gs:List Mk}{w:Int}(S:HG G h g s gs)(hl:gs.length<100000):∃n gs' G',gB [.im (.ref h),.im (.int w)] G=some (.im (.int n),G')/\HG G' h g s gs'/\At gs' n (.leaf w)/\bg 1 gs gs'/\Oth g s G G':=by
 obtain⟨n,gs',G',e,S',a,x,o⟩:=vH (m:=.leaf w) S hl
 have e:gI [.im (.ref h),.im (.tup [.str "leaf",.int w])] G=some (.im (.int n),G'):=e
 refine⟨n,gs',G',?_,S',a,vI x,o⟩
 simp! [gB,S.ob,lP,e]
theorem pf{G:List M}{h g s:Nat}{gs:List Mk}{a b:Int}(S:HG G h g s gs)(hl:gs.length<100000):∃n gs' G',gJ [.im (.ref h),.im (.int a),.im (.int b)] G=some (.im (.int n),G')/\HG G' h g s gs'/\At gs' n (.pair a b)/\bg 1 gs gs'/\Oth g s G G':=by
 obtain⟨n,gs',G',e,S',at_,x,o⟩:=vH (m:=.pair a b) S hl
 have e:gI [.im (.ref h),.im (.tup [.str "pair",.int a,.int b])] G=some (.im (.int n),G'):=e
 refine⟨n,gs',G',?_,S',at_,vI x,o⟩
 simp! [gJ,S.ob,lP,e]
theorem DH{G:List M}{h g s:Nat}{gs:List Mk}{n:Int}(S:HG G h g s gs)(hn:n<1∨(gs.length:Int)<n):fI [.im (.ref h),.im (.int n)] G=some (.im .non,G):=by
 by_cases h0:n<1
 ·simp! [fI,h0]
 ·have h1:(gs.length:Int)<n:=by lia
  simp! [fI,h0,S.ob,S.gl,jF,h1]
theorem vJ{G:List M}{h g s:Nat}{gs:List Mk}{n:Int}{m:Mk}(S:HG G h g s gs)(hn:At gs n m):fI [.im (.ref h),.im (.int n)] G=some (.im m.i,G):=by
 obtain⟨j,rfl,hj⟩:=hn
 have hl:j<gs.length:=(z14.mp hj).1
 have h0:¬ ((j:Int)+1<1):=by lia
 have h3:¬ ((gs.length:Int)<(j:Int)+1):=by lia
 have h4:dm (gs.map Mk.i) (j:Int)=some m.i:=jQ (by rw [List.getElem?_map,hj];rfl)
 have h5:(j:Int)+1-1=j:=by lia
 simp! [fI,h0,S.ob,S.gl,jF,h3,h4,h5]
theorem DI:¬ (("given" : Str)="seals"):=by decide +kernel
theorem DJ{G:List M}:pS [.im (.ref G.length)] (G++[.obj "House" []])=some (.im .non,G++[.obj "House" (dE (G.length+1) (G.length+2)),.lst [],.dit []]):=by
 simp! [pS,gi,dE,DI]
noncomputable def Sl(gs:List Mk):Nat->Int->List Int->Prop
 | 0,n,ws=>∃w,ws=[w]/\At gs n (.leaf w)
 | d+1,n,ws=>∃a b l r,ws=l++r/\l.length=2 ^ d/\r.length=2 ^ d/\At gs n (.pair a b)/\Sl gs d a l/\Sl gs d b r
theorem Sl.ext{k:Nat}{gs g1:List Mk}(x:bg k gs g1):∀{d:Nat} {n:Int} {ws:List Int},Sl gs d n ws->Sl g1 d n ws
 | 0,_,_,⟨w,e,h⟩=>⟨w,e,h.ext x⟩
 | d+1,_,_,⟨a,b,l,r,e,h1,h2,h3,h4,h5⟩=>⟨a,b,l,r,e,h1,h2,h3.ext x,Sl.ext x h4,Sl.ext x h5⟩
theorem Sl.len{gs:List Mk}:∀{d:Nat} {n:Int} {ws:List Int},Sl gs d n ws->ws.length=2 ^ d
 | 0,_,_,⟨w,e,h⟩=>by rw [e];rfl
 | d+1,_,_,⟨a,b,l,r,e,h1,h2,h3,h4,h5⟩=>by rw [e,z17,h1,h2,Nat.pow_succ];lia
theorem Sl.uniq{gs:List Mk}(nd:gs.Nodup):∀{d:Nat} {n n':Int} {ws:List Int},Sl gs d n ws->Sl gs d n' ws->n=n'
 | 0,_,_,_,⟨w,e,h⟩,⟨w',e',h'⟩=>by rw [e] at e';cases e';exact h.uniq nd h'
 | d+1,_,_,_,⟨a,b,l,r,e,h1,h2,h3,h4,h5⟩,⟨a',b',l',r',e',h1',h2',h3',h4',h5'⟩=>by
  rw [e] at e'
  obtain⟨rfl,rfl⟩:=List.append_inj e' (by lia)
  have:=h4.uniq nd h4'
  have:=h5.uniq nd h5'
  subst a' b'
  exact h3.uniq nd h3'
inductive Blk(gs:List Mk)(j:Nat):List Int->List Int->Prop
 | nil:Blk gs j [] []
 | cons {n:Int} {ns ws vs:List Int}:Sl gs j n ws->Blk gs j ns vs->Blk gs j (n::ns) (ws++vs)
theorem Blk.ext{k:Nat}{gs g1:List Mk}(x:bg k gs g1){j:Nat}:∀{ns ws:List Int},Blk gs j ns ws->Blk g1 j ns ws
 | _,_,.nil=>.nil
 | _,_,.cons h r=>.cons (h.ext x) (r.ext x)
theorem Blk.snoc{gs:List Mk}{j:Nat}:∀{ns ws:List Int} {n:Int} {vs:List Int},Blk gs j ns ws->Sl gs j n vs->Blk gs j (ns++[n]) (ws++vs)
 | _,_,n,vs,.nil,h=>by have:=Blk.cons h (.nil (gs:=gs) (j:=j));simpa using this
 | _,_,n,vs,.cons h0 r,h=>by
  have:=Blk.cons h0 (r.snoc h)
  simpa using this
theorem Blk.len{gs:List Mk}{j:Nat}:∀{ns ws:List Int},Blk gs j ns ws->ws.length=ns.length*2 ^ j
 | _,_,.nil=>by simp
 | _,_,.cons h r=>by rw [z17,h.len,r.len,z29,Nat.succ_mul];lia
theorem Blk.two{gs:List Mk}{j:Nat}{n n':Int}{ns ws:List Int}(h:Blk gs j (n::n'::ns) ws):∃l r t,ws=l++(r++t)/\Sl gs j n l/\Sl gs j n' r/\Blk gs j ns t:=by
 cases h with
 | cons h1 h2=>cases h2 with
  | cons h2 h3=>exact⟨_,_,_,rfl,h1,h2,h3⟩
end
section
theorem DK{xs:List I}{m:Nat}(h:xs.length=2*m):(cS xs none none (some 2)).length=m/\∀k,k<m->(cS xs none none (some 2))[k]?=xs[2*k]?:=by
 have e:cS xs none none (some 2)=((List.range m).map λk=>2*k).filterMap (xs[·]?):=by
  unfold cS sliceRange
  have c:(if (2:Int)>0 then (if (0:Int)<(xs.length:Int) then ((xs.length:Int)-0+2-1) / 2 else 0) else (if (0:Int)>(xs.length:Int) then (0-(xs.length:Int)-2-1) / (-2) else 0)).toNat=m:=by
   rw [if_pos (by decide),h]
   split<;>lia
  show ((List.range (if (2:Int)>0 then (if (0:Int)<(xs.length:Int) then ((xs.length:Int)-0+2-1) / 2 else 0) else (if (0:Int)>(xs.length:Int) then (0-(xs.length:Int)-2-1) / (-2) else 0)).toNat).map λ(k:Nat)=>(0+2*(k:Int)).toNat).filterMap (xs[·]?)=_
  rw [c]
  congr 2
  funext k
  lia
 rw [e]
 exact kD λk hk=>by lia
theorem DL{xs:List I}{m:Nat}(h:xs.length=2*m)(hm:0<m):(cS xs (some 1) none (some 2)).length=m/\∀k,k<m->(cS xs (some 1) none (some 2))[k]?=xs[2*k+1]?:=by
 have e:cS xs (some 1) none (some 2)=((List.range m).map λk=>2*k+1).filterMap (xs[·]?):=by
  unfold cS
  have b1:(sliceBounds (some 1) none (some 2) xs.length)=(1,(xs.length:Int),2):=by
   unfold sliceBounds
   show (max 0 (min (if (1:Int)<0 then 1+(xs.length:Int) else 1) (xs.length:Int)),(xs.length:Int),(2:Int))=_
   rw [if_neg (by decide)]
   congr 1
   lia
  rw [b1]
  unfold sliceRange
  have c:(if (2:Int)>0 then (if (1:Int)<(xs.length:Int) then ((xs.length:Int)-1+2-1) / 2 else 0) else (if (1:Int)>(xs.length:Int) then (1-(xs.length:Int)-2-1) / (-2) else 0)).toNat=m:=by
   rw [if_pos (by decide),h]
   split<;>lia
  show ((List.range (if (2:Int)>0 then (if (1:Int)<(xs.length:Int) then ((xs.length:Int)-1+2-1) / 2 else 0) else (if (1:Int)>(xs.length:Int) then (1-(xs.length:Int)-2-1) / (-2) else 0)).toNat).map λ(k:Nat)=>(1+2*(k:Int)).toNat).filterMap (xs[·]?)=_
  rw [c]
  congr 2
  funext k
  lia
 rw [e]
 exact kD λk hk=>by lia
structure Mor(g s:Nat)(G G':List M):Prop where
 len:G.length≤G'.length
 at_:∀k,k<G.length->k≠g->k≠s->G'[k]?=G[k]?
theorem Mor.refl(g s:Nat)(G:List M):Mor g s G G:=⟨z12 _,λ_ _ _ _=>rfl⟩
theorem Mor.trans{g s:Nat}{G G1 G2:List M}(x:Mor g s G G1)(y:Mor g s G1 G2):Mor g s G G2:=⟨z27 x.len y.len,λk h h1 h2=>(y.at_ k (z19 h x.len) h1 h2).trans (x.at_ k h h1 h2)⟩
theorem Oth.mor{g s:Nat}{G G':List M}(o:Oth g s G G'):Mor g s G G':=⟨by rw [o.len];exact z12 _,λk _ h1 h2=>o.at_ k h1 h2⟩
theorem Mor.app{g s:Nat}{G:List M}(T:List M):Mor g s G (G++T):=⟨by rw [z17];lia,λk h _ _=>z21 h⟩
theorem HG.lt{G:List M}{h g s:Nat}{gs:List Mk}(S:HG G h g s gs):h<G.length/\g<G.length/\s<G.length:=⟨(z14.mp S.ob).1,(z14.mp S.gl).1,(z14.mp S.sd).1⟩
theorem HG.app{G:List M}{h g s:Nat}{gs:List Mk}(S:HG G h g s gs)(T:List M):HG (G++T) h g s gs:=by
 obtain⟨l1,l2,l3⟩:=S.lt
 exact⟨by rw [z21 l1];exact S.ob,by rw [z21 l2];exact S.gl,by rw [z21 l3];exact S.sd,S.n1,S.n2,S.n3,S.nd⟩
theorem vK(e:Ev)(n:Nat):(bj e n).n=n:=rfl
theorem vL(a b:Ev)(n:Nat):(fD a b n).n=n:=rfl
theorem DM{G:List M}{h g s:Nat}{gs:List Mk}{ws:List Int}(S:HG G h g s gs)(hl:gs.length+ws.length<90000):∃ns gs' G',
  c7 (bC (one (aa 1)) br) [0] c1 ba (bI "House" "leaf" 2 gB (aa 1) (af (aa 0) ae)) [↑(.ref h),↑(.tup (ws.map I.int)),none] G=some (.v (.ow (.lst (ns.map I.int))),[↑(.ref h),↑(.tup (ws.map I.int)),none],G') /\
  HG G' h g s gs'/\bg ws.length gs gs'/\Blk gs' 0 ns ws/\Oth g s G G':=by
 obtain⟨ds,G',e,ns,gs',S',x,ed,bl,o⟩:=jY (w:=bj ⇑(.tup (ws.map I.int)) (ws.map I.int).length) (c:=c1) (tt:=ba) (te:=bI "House" "leaf" 2 gB (aa 1) (af (aa 0) ae)) (di:=[↑(.ref h)]) (Z:=[↑(.ref h),↑(.tup (ws.map I.int)),none])
  (λi acc G'=>∃ns gs',HG G' h g s gs'/\bg i gs gs'/\acc=ns.map I.int/\Blk gs' 0 ns (ws.take i)/\Oth g s G G')
  (λi acc G1 hi zz=>by
   obtain⟨ns,gs1,S1,x1,ea,bl,o⟩:=zz
   have hi':i<ws.length:=by simpa [bj] using hi
   have x1l:=x1.len
   obtain⟨n,gs2,G2,e2,S2,a2,x2,o2⟩:=pd (w:=ws[i]) S1 (by lia)
   refine⟨.int ws[i],[.int ws[i]],_,_,.int n,[↑(.int ws[i]),↑(.ref h)],G2,?_,rfl,rfl,?_,ns++[n],gs2,S2,x1.trans x2,by rw [ea,z26];rfl,?_,o.trans o2⟩
   ·simp [bj,sq,hi']
   ·simp! [S1.ob,jG,e2]
   ·rw [List.take_add_one,z13 hi']
    exact (bl.ext x2).snoc ⟨ws[i],rfl,a2⟩)
  (λacc G' _=>by simp [bj,sq]) ws.length 0 [] G (by simp [bj]) ⟨[],gs,S,bg.refl gs,rfl,by simpa using Blk.nil,Oth.refl _ _ _⟩
 have hw:(bj ⇑(.tup (ws.map I.int)) (ws.map I.int).length).n=ws.length:=by simp [bj]
 rw [hw] at x bl
 rw [List.take_length] at bl
 refine⟨ns,gs',G',?_,S',x,bl,o⟩
 rw [ed] at e
 have hle:ws.length≤100000:=by lia
 simp only [z24] at e
 simp [c7,mz,bC,one,bd,aa,rt,br,my,fR,pN,vK,hle,gZ,gY,e]
theorem DN{G:List M}{h g s j m:Nat}{gs:List Mk}{ns ws:List Int}{v:I}(S:HG G h g s gs)(bl:Blk gs j ns ws)(hm:ns.length=2*m)(m0:0<m)(hl:gs.length+m<90000):∃ms gs' G',
  xk [↑(.ref h),↑v,↥(ns.map I.int)] G=some (.nx [↑(.ref h),↑v,↥(ms.map I.int)] G') /\
  HG G' h g s gs'/\bg m gs gs'/\Blk gs' (j+1) ms ws/\ms.length=m/\Mor g s G G':=by
 obtain⟨l1,l2,l3⟩:=S.lt
 have pe:=DK (xs:=ns.map I.int) (m:=m) (by simpa using hm)
 have po:=DL (xs:=ns.map I.int) (m:=m) (by simpa using hm) m0
 obtain⟨ev,hev⟩:∃ev,cS (ns.map I.int) none none (some 2)=ev:=⟨_,rfl⟩
 obtain⟨od,hod⟩:∃od,cS (ns.map I.int) (some 1) none (some 2)=od:=⟨_,rfl⟩
 rw [hev] at pe
 rw [hod] at po
 have G0e:(G++[.lst ev]++[.lst od])[G.length]?=some (.lst ev):=by simp
 have G0o:(G++[.lst ev]++[.lst od])[G.length+1]?=some (.lst od):=by simp
 obtain⟨ds,G',e,ms,gs',dn,td,S',x,ed,ew,b1,b2,lm,o⟩:=jY (w:=fD ⇑(.ref G.length) ⇑(.ref (G.length+1)) m) (c:=cN 2) (tt:=ba) (te:=bI "House" "pair" 3 gJ (aa 2) (af (aa 0) (af (aa 1) ae))) (di:=[↑(.ref h)]) (Z:=[↑(.ref h),↑v,↥(ns.map I.int)])
  (λi acc G'=>∃ms gs' dn td,HG G' h g s gs'/\bg i gs gs'/\acc=ms.map I.int/\ws=dn++td/\Blk gs' (j+1) ms dn/\Blk gs' j (ns.drop (2*i)) td/\ms.length=i/\Oth g s (G++[.lst ev]++[.lst od]) G')
  (λi acc G1 hi zz=>by
   obtain⟨ms,gs1,dn,td,S1,x1,ea,ew,b1,b2,lm,o⟩:=zz
   have hi':i<m:=hi
   have x1l:=x1.len
   have i1:2*i<ns.length:=by lia
   have i2:2*i+1<ns.length:=by lia
   have ed:ns.drop (2*i)=ns[2*i]::ns[2*i+1]::ns.drop (2*(i+1)):=by
    rw [List.drop_eq_getElem_cons i1,List.drop_eq_getElem_cons i2]
    congr 3
   rw [ed] at b2
   obtain⟨l,r,t,et,s1,s2,bt⟩:=b2.two
   obtain⟨n,gs2,G2,e2,S2,a2,x2,o2⟩:=pf (a:=ns[2*i]) (b:=ns[2*i+1]) S1 (by lia)
   have oe:G1[G.length]?=some (.lst ev):=by rw [o.at_ _ (by lia) (by lia)];exact G0e
   have oo:G1[G.length+1]?=some (.lst od):=by rw [o.at_ _ (by lia) (by lia)];exact G0o
   have ve:ev[i]?=some (.int ns[2*i]):=by rw [pe.2 i hi',List.getElem?_map,z13 i1];rfl
   have vo:od[i]?=some (.int ns[2*i+1]):=by rw [po.2 i hi',List.getElem?_map,z13 i2];rfl
   refine⟨.tup [.int ns[2*i],.int ns[2*i+1]],[.int ns[2*i],.int ns[2*i+1]],_,_,.int n,[↑(.int ns[2*i]),↑(.int ns[2*i+1]),↑(.ref h)],G2,?_,rfl,rfl,?_,ms++[n],gs2,dn++(l++r),t,S2,x1.trans x2,by rw [ea,z26];rfl,by rw [ew,et];simp,?_,bt.ext x2,by rw [z17,lm];rfl,o.trans o2⟩
   ·simp [fD,sq,pk,oe,oo,ve,vo]
   ·simp! [S1.ob,jH,e2]
   ·exact (b1.ext x2).snoc ⟨_,_,l,r,rfl,s1.len,s2.len,a2,s1.ext x2,s2.ext x2⟩)
  (λacc G1 zz=>by
   obtain⟨ms,gs1,dn,td,S1,x1,ea,ew,b1,b2,lm,o⟩:=zz
   have oe:G1[G.length]?=some (.lst ev):=by rw [o.at_ _ (by lia) (by lia)];exact G0e
   have oo:G1[G.length+1]?=some (.lst od):=by rw [o.at_ _ (by lia) (by lia)];exact G0o
   simp [fD,sq,pk,oe,oo,pe.1,po.1]) m 0 [] (G++[.lst ev]++[.lst od]) (by simp [fD])
  ⟨[],gs,[],ws,(S.app _).app _,bg.refl gs,rfl,rfl,.nil,bl,rfl,Oth.refl _ _ _⟩
 rw [vL] at x b2 lm
 have hd:ns.drop (2*m)=[]:=by rw [List.drop_eq_nil_iff];lia
 rw [hd] at b2
 have htd:td=[]:=by cases b2;rfl
 subst htd
 rw [z1a] at ew
 subst ew
 refine⟨ms,gs',G',?_,S',x,b1,lm,?_⟩
 ·rw [ed] at e
  have hle:m≤100000:=by lia
  have e2:min ev.length od.length=m:=by rw [pe.1,po.1,Nat.min_self]
  have e:dI (fD ⇑(.ref G.length) ⇑(.ref (G.length+1)) m) (cN 2) ba (bI "House" "pair" 3 gJ (aa 2) (af (aa 0) (af (aa 1) ae))) [↑(.ref h)] 0 m [] [↑(.ref h),↑v,↥(ns.map I.int)] (G++[.lst ev,.lst od])=some (ms.map I.int,G'):=by simpa using e
  simp only [af,ae] at e
  simp [xk,bb,dq,aN,gQ,c7,mz,bC,af,ae,c6,mv,jo,one,cR,cF,ao,gw,cu,bd,aa,rt,jv,fR,sq,pk,vL,hle,gZ,gY,hev,hod,e2,e]
 ·have q:Mor g s G (G++[.lst ev]++[.lst od]):=by rw [z33];exact Mor.app _
  exact q.trans o.mor
theorem vM{h g s:Nat}{v:I}{ws:List Int}:∀(k:Nat) {G:List M} {j:Nat} {gs:List Mk} {ns:List Int},HG G h g s gs->Blk gs j ns ws->ns.length=2 ^ k->gs.length+2 ^ k<90000->∃n gs' G',fQ xj xk [↑(.ref h),↑v,↥(ns.map I.int)] G=some (.nx [↑(.ref h),↑v,↥[.int n]] G')/\HG G' h g s gs'/\bg (2 ^ k) gs gs'/\Sl gs' (j+k) n ws/\Mor g s G G'
 | 0,G,j,gs,ns,S,bl,hn,hl=>by
  match ns,hn with
  | [n],_ =>
   cases bl with
   | cons s1 b1 =>
    cases b1
    refine⟨n,gs,G,n9 ?_,S,(bg.refl gs).le (by simp),by rw [z1a];exact s1,Mor.refl _ _ _⟩
    simp! [xj]
 | k+1,G,j,gs,ns,S,bl,hn,hl=>by
  have p0:0<2 ^ k:=Nat.two_pow_pos k
  have hn2:ns.length=2*2 ^ k:=by rw [hn,Nat.pow_succ];lia
  rw [Nat.pow_succ] at hl
  obtain⟨ms,g1,G1,e1,S1,x1,b1,lm,o1⟩:=DN (v:=v) S bl hn2 p0 (by lia)
  have x1l:=x1.len
  obtain⟨n,g2,G2,e2,S2,x2,sl,o2⟩:=vM k S1 b1 lm (by lia)
  refine⟨n,g2,G2,?_,S2,(x1.trans x2).le (by rw [Nat.pow_succ];lia),by rw [show j+(k+1)=j+1+k by lia];exact sl,o1.trans o2⟩
  rw [sX ?_ e1]
  ·exact e2
  ·have:(1:Int)<(ns.length:Int):=by lia
   simp! [xj,this]
theorem DO{G:List M}{h g s d:Nat}{gs:List Mk}{ws:List Int}(S:HG G h g s gs)(hw:ws.length=2 ^ d)(hd:d≤6)(hl:gs.length<80000):∃n gs' G',oY [.im (.ref h),.im (.tup (ws.map I.int))] G=some (.im (.int n),G')/\HG G' h g s gs'/\bg 128 gs gs'/\Sl gs' d n ws/\Mor g s G G':=by
 have p6:(2:Nat) ^ d≤2 ^ 6:=Nat.pow_le_pow_right (by decide) hd
 have p6:2 ^ d≤64:=p6
 obtain⟨ns,g1,G1,e1,S1,x1,b1,o1⟩:=DM (ws:=ws) S (by lia)
 have x1l:=x1.len
 have ln:ns.length=2 ^ d:=by have:=b1.len;simp at this;lia
 obtain⟨n,g2,G2,e2,S2,x2,sl,o2⟩:=vM (v:=.tup (ws.map I.int)) d S1 b1 ln (by lia)
 refine⟨n,g2,G2,?_,S2,(x1.trans x2).le (by lia),by simpa using sl,o1.mor.trans o2⟩
 have h4:dm [I.int n] 0=some (.int n):=rfl
 simp [oY,aZ,aq,bb,dq,bd,gQ,rt,aN,e1,e2,aI,ak,bc,eF,ik,sq,pk,aa,ao,h4]
end
section
noncomputable def look(gs:List Mk)(n:Int):Option Mk:=if n<1 then none else gs[(n-1).toNat]?
theorem vN{gs:List Mk}{n:Int}{m:Mk}(h:At gs n m):look gs n=some m:=by
 obtain⟨j,rfl,h⟩:=h
 unfold look
 rw [if_neg (by lia),show ((j:Int)+1-1).toNat=j by lia];exact h
theorem y6d{gs:List Mk}{n:Int}{m:Mk}(h:look gs n=some m):At gs n m:=by
 unfold look at h
 split at h
 ·cases h
 ·exact⟨(n-1).toNat,by lia,h⟩
theorem vO{G:List M}{h g s:Nat}{gs:List Mk}{n:Int}(S:HG G h g s gs):fI [.im (.ref h),.im (.int n)] G=some (.im (match look gs n with|some m=>m.i|none=>.non),G):=by
 cases e:look gs n with
 | some m=>exact vJ S (y6d e)
 | none =>
  refine DH S ?_
  unfold look at e
  split at e
  ·exact .inl (by assumption)
  ·have:=List.getElem?_eq_none_iff.mp e
   exact .inr (by lia)
noncomputable def cG(gs:List Mk)(k:Nat):Nat->Int->Option (Int×List Int)
 | 0,n=>some (n,[])
 | r+1,n=>match look gs n with
  | some (.pair a b)=>if k / 2 ^ r % 2=0 then (cG gs k r a).map λp=>(p.1,b::p.2) else (cG gs k r b).map λp=>(p.1,a::p.2)
  | _=>none
noncomputable def way(gs:List Mk)(d:Nat)(n:Int)(k:Nat):Option (Int×List Int):=match cG gs k d n with
 | some (n',ss)=>match look gs n' with
  | some (.leaf w)=>some (w,ss.reverse)
  | _=>none
 | none=>none
noncomputable def jI:Option (Int×List Int)->I
 | some (w,ss)=>.tup [.int w,.tup (ss.map I.int)]
 | none=>.non
theorem DP:(("leaf" : Str) == "pair")=false:=by decide +kernel
theorem vP:(("pair" : Str) == "leaf")=false:=by decide +kernel
theorem iN{α:Type}(x:α)(r:List α):dm (x::r) 0=some x:=jQ (j:=0) rfl
theorem mL{α:Type}(x y:α)(r:List α):dm (x::y::r) 1=some y:=jQ (j:=1) rfl
theorem vQ{α:Type}(x y z:α)(r:List α):dm (x::y::z::r) 2=some z:=jQ (j:=2) rfl
theorem DQ(k r:Nat):Builtin.bitAnd ((k:Int) / 2 ^ r) 1=((k / 2 ^ r % 2:Nat):Int):=by
 rw [PyProof.Rows.bitAnd_m1]
 push_cast
 rfl
theorem DR{G:List M}{h g s:Nat}{gs:List Mk}{n:Int}{sib:List Int}{dp:I}{k r:Nat}{v6 v7:Option Vl}(S:HG G h g s gs)(hl:sib.length<1000) :
  jW [↑(.ref h),↑(.int n),↑dp,↑(.int k),↥(sib.map I.int),↑(.int r),v6,v7] G =
  match look gs n with
  | some (.pair a b)=>some (.nx [↑(.ref h),↑(.int (if k / 2 ^ r % 2=0 then a else b)),↑dp,↑(.int k),↥((sib++[if k / 2 ^ r % 2=0 then b else a]).map I.int),↑(.int r),↑(.tup [.str "pair",.int a,.int b]),↑(.int (k / 2 ^ r % 2:Nat))] G)
  | _=>some (.rt (.im .non) G):=by
 have e:=vO (n:=n) S
 cases q:look gs n with
 | none =>
  rw [q] at e
  simp! [jW,S.ob,fJ,e]
 | some m =>
  rw [q] at e
  cases m with
  | leaf w =>
   have e:fI [.im (.ref h),.im (.int n)] G=some (.im (.tup [.str "leaf",.int w]),G):=e
   simp! [jW,S.ob,fJ,e,iN]
  | pair a b =>
   have e:fI [.im (.ref h),.im (.int n)] G=some (.im (.tup [.str "pair",.int a,.int b]),G):=e
   have hl':sib.length<1000000:=by lia
   have hr0:(0:Int)≤(r:Int):=by lia
   have bt:=DQ k r
   rcases (show k / 2 ^ r % 2=0∨k / 2 ^ r % 2=1 by lia) with z|z
   ·rw [z] at bt
    simp! [jW,oB,S.ob,fJ,e,iN,mL,vQ,vP,hr0,bt,z,hl']
   ·rw [z] at bt
    simp! [jW,oB,S.ob,fJ,e,iN,mL,vQ,vP,hr0,bt,z,hl']
noncomputable def jZ(d:Nat):Wk:=⟨d,λk _ _=>some (.int ((d:Int)-1-k)),λ_ _=>true⟩
theorem ph{G:List M}{h g s d:Nat}{gs:List Mk}{dp:I}{k:Nat}(S:HG G h g s gs)(hd:d≤100):∀(r i:Nat) (n:Int) (sib:List Int) (v5 v6 v7:Option Vl),i+r=d->sib.length≤i ->
  match cG gs k r n with
  | some (n',ss)=>∃v5' v6' v7',aY (jZ d) (aN 5) jW i r [↑(.ref h),↑(.int n),↑dp,↑(.int k),↥(sib.map I.int),v5,v6,v7] G=some (.nx [↑(.ref h),↑(.int n'),↑dp,↑(.int k),↥((sib++ss).map I.int),v5',v6',v7'] G)
  | none=>aY (jZ d) (aN 5) jW i r [↑(.ref h),↑(.int n),↑dp,↑(.int k),↥(sib.map I.int),v5,v6,v7] G=some (.rt (.im .non) G)
 | 0,i,n,sib,v5,v6,v7,h1,h2=>by
  show ∃_,_
  exact⟨v5,v6,v7,by unfold aY;simp [jZ]⟩
 | r+1,i,n,sib,v5,v6,v7,h1,h2=>by
  have ei:(d:Int)-1-i=r:=by lia
  have t:=DR (n:=n) (sib:=sib) (dp:=dp) (k:=k) (r:=r) (v6:=v6) (v7:=v7) S (by lia)
  have hat:(jZ d).at_ i [↑(.ref h),↑(.int n),↑dp,↑(.int k),↥(sib.map I.int),v5,v6,v7] G=some (.int r):=by simp [jZ,ei]
  have hg:aN 5 (.im (.int r)) [↑(.ref h),↑(.int n),↑dp,↑(.int k),↥(sib.map I.int),v5,v6,v7] G=some ([↑(.ref h),↑(.int n),↑dp,↑(.int k),↥(sib.map I.int),↑(.int r),v6,v7],G):=rfl
  unfold cG
  cases q:look gs n with
  | none =>
   rw [q] at t
   dsimp only
   unfold aY
   rw [hat];dsimp only;rw [hg];dsimp only;rw [t]
  | some m =>
   rw [q] at t
   cases m with
   | leaf w =>
    dsimp only
    unfold aY
    rw [hat];dsimp only;rw [hg];dsimp only;rw [t]
   | pair a b =>
    dsimp only at t ⊢
    by_cases z:k / 2 ^ r % 2=0
    ·simp only [z,if_true] at t ⊢
     have ih:=ph (dp:=dp) (k:=k) S hd r (i+1) a (sib++[b]) ↑(.int r) ↑(.tup [.str "pair",.int a,.int b]) ↑(.int (0:Nat)) (by lia) (by rw [z17];simp;lia)
     cases e:cG gs k r a with
     | none =>
      rw [e] at ih
      show _=_
      unfold aY
      rw [hat];dsimp only;rw [hg];dsimp only;rw [t]
      exact ih
     | some p =>
      rw [e] at ih
      obtain⟨n',ss⟩:=p
      obtain⟨w5,w6,w7,ih⟩:=ih
      refine⟨w5,w6,w7,?_⟩
      unfold aY
      rw [hat];dsimp only;rw [hg];dsimp only;rw [t]
      have:sib++[b]++ss=sib++b::ss:=by simp
      rw [this] at ih
      exact ih
    ·simp only [z,if_false] at t ⊢
     have ih:=ph (dp:=dp) (k:=k) S hd r (i+1) b (sib++[a]) ↑(.int r) ↑(.tup [.str "pair",.int a,.int b]) ↑(.int (k / 2 ^ r % 2:Nat)) (by lia) (by rw [z17];simp;lia)
     cases e:cG gs k r b with
     | none =>
      rw [e] at ih
      show _=_
      unfold aY
      rw [hat];dsimp only;rw [hg];dsimp only;rw [t]
      exact ih
     | some p =>
      rw [e] at ih
      obtain⟨n',ss⟩:=p
      obtain⟨w5,w6,w7,ih⟩:=ih
      refine⟨w5,w6,w7,?_⟩
      unfold aY
      rw [hat];dsimp only;rw [hg];dsimp only;rw [t]
      have:sib++[a]++ss=sib++a::ss:=by simp
      rw [this] at ih
      exact ih
theorem DS{G:List M}{h g s d:Nat}{gs:List Mk}{k:Nat}{n:Int}(S:HG G h g s gs)(hd:d≤100):lJ [.im (.ref h),.im (.int n),.im (.int d),.im (.int k)] G=some (.im (jI (way gs d n k)),G):=by
 have lp:=ph (dp:=.int d) (k:=k) S hd d 0 n [] none none none (by lia) (by simp)
 have b1:(d:Int)-1<4611686018427387904:=by lia
 have b2:-4611686018427387904≤(d:Int)-1:=by lia
 have e0:((d:Int)-1 - -1).toNat=d:=by lia
 have ew:(⟨d,λk _ _=>some (.int ((d:Int)-1-k)),λ_ _=>true⟩:Wk)=jZ d:=rfl
 unfold way
 cases e:cG gs k d n with
 | none =>
  rw [e] at lp
  have lp:aY (jZ d) (aN 5) jW 0 d [↑(.ref h),↑(.int n),↑(.int d),↑(.int k),↥[],none,none,none] G=some (.rt (.im .non) G):=lp
  have hn:(jZ d).n=d:=rfl
  simp! [lJ,bT,bC,fB,b1,b2,e0,ew,hn,lp,jI]
 | some p =>
  obtain⟨n',ss⟩:=p
  rw [e] at lp
  obtain⟨v5,v6,v7,lp⟩:=lp
  have lp:aY (jZ d) (aN 5) jW 0 d [↑(.ref h),↑(.int n),↑(.int d),↑(.int k),↥[],none,none,none] G=some (.nx [↑(.ref h),↑(.int n'),↑(.int d),↑(.int k),↥(ss.map I.int),v5,v6,v7] G):=lp
  have hn:(jZ d).n=d:=rfl
  have op:=vO (n:=n') S
  cases q:look gs n' with
  | none =>
   rw [q] at op
   simp! [lJ,bT,bC,fB,b1,b2,e0,ew,hn,lp,jI,q,S.ob,fJ,op]
  | some m =>
   rw [q] at op
   cases m with
   | pair a b =>
    have op:fI [.im (.ref h),.im (.int n')] G=some (.im (.tup [.str "pair",.int a,.int b]),G):=op
    simp! [lJ,bT,bC,fB,b1,b2,e0,ew,hn,lp,jI,q,S.ob,fJ,op,iN]
   | leaf w =>
    have op:fI [.im (.ref h),.im (.int n')] G=some (.im (.tup [.str "leaf",.int w]),G):=op
    simp! [lJ,bT,bC,fB,b1,b2,e0,ew,hn,lp,jI,q,S.ob,fJ,op,iN,mL,DP,jq,cu,dN]
end
section
theorem DT{xs:List I}{m:Nat}:gx xs none (some (m:Int))=xs.take m:=by
 unfold gx
 rw [HT.y3a9,HT.y3a8,List.drop_zero,Nat.sub_zero]
 by_cases h:m≤xs.length
 ·rw [Nat.min_eq_left h]
 ·rw [Nat.min_eq_right (by lia),z37 (z12 _),z37 (by lia)]
theorem yc0{xs:List I}{m:Nat}(h:m≤xs.length):gx xs (some (m:Int)) none=xs.drop m:=by
 unfold gx
 rw [HT.y3a9,HT.y3a8,Nat.min_eq_left h]
 rw [z37 (by rw [z3a];lia)]
theorem DG.lt{d l:Nat}{G:List M}(D:DG G d l):d<G.length/\l<G.length:=by
 obtain⟨a,n,ms,D⟩:=D
 exact⟨(z14.mp D.dc).1,(z14.mp D.lc).1⟩
theorem DG.app{d l:Nat}{G:List M}(D:DG G d l)(T:List M):DG (G++T) d l:=by
 obtain⟨l1,l2⟩:=D.lt
 obtain⟨a,n,ms,D⟩:=D
 exact⟨a,n,ms,by rw [z21 l1];exact D.dc,by rw [z21 l2];exact D.lc,D.ne,D.a0,D.a1,D.n0,D.m0⟩
noncomputable def Wr(w:Int):Prop:=0≤w/\w<4294967296
theorem vR{G:List M}{d l:Nat}(D:DG G d l):∃w G',iK [.im (.ref d)] G=some (.im (.int w),G')/\Wr w/\DG G' d l/\Oth d l G G':=by
 obtain⟨r1,G1,e1,a0,a1,D1,o1⟩:=lN (many:=3) D (by decide) (by decide)
 obtain⟨r2,G2,e2,b0,b1,D2,o2⟩:=lN (many:=3) D1 (by decide) (by decide)
 obtain⟨r3,G3,e3,c0,c1,D3,o3⟩:=lN (many:=4294967296) D2 (by decide) (by decide)
 obtain⟨r4,G4,e4,p0,p1,D4,o4⟩:=lN (many:=3) D3 (by decide) (by decide)
 have o:=((o1.trans o2).trans o3).trans o4
 rcases (show r4=0∨r4=1∨r4=2 by lia) with z|z|z
 ·subst z
  exact⟨r1,G4,by simp! [iK,e1,e2,e3,e4,iN],⟨a0,by lia⟩,D4,o⟩
 ·subst z
  exact⟨4294967295-r2,G4,by simp! [iK,e1,e2,e3,e4,mL],⟨by lia,by lia⟩,D4,o⟩
 ·subst z
  exact⟨r3,G4,by simp! [iK,e1,e2,e3,e4,vQ],⟨c0,c1⟩,D4,o⟩
theorem pj{fs:List Int}{w:Int}(h:∀f∈fs,Wr f)(hw:Wr w):∀f∈fs++[w],Wr f:=λf hf=>by
 rcases z1d.mp hf with z|z
 ·exact h f z
 ·rw [z28.mp z];exact hw
theorem DU{G:List M}{d l:Nat}{n:Nat}{Z:De}(D:DG G d l):∃(fs:List Int) (G':List M),dI (dP n) c1 ba (bd (af (aa 1) ae) (bf 1 iK)) [↑(.ref d)] 0 n [] Z G=some (fs.map I.int,G')/\fs.length=n/\(∀f∈fs,Wr f)/\DG G' d l/\Oth d l G G':=by
 obtain⟨ds,G',e,fs,ed,lf,fr,D',o⟩:=jY (w:=dP n) (c:=c1) (tt:=ba) (te:=bd (af (aa 1) ae) (bf 1 iK)) (di:=[↑(.ref d)]) (Z:=Z)
  (λi acc G'=>∃fs:List Int,acc=fs.map I.int/\fs.length=i/\(∀f∈fs,Wr f)/\DG G' d l/\Oth d l G G')
  (λi acc G1 hi zz=>by
   obtain⟨fs,ea,lf,fr,D1,o⟩:=zz
   obtain⟨w,G2,e2,hw,D2,o2⟩:=vR D1
   refine⟨.int i,[.int i],_,_,.int w,[↑(.int i),↑(.ref d)],G2,rfl,rfl,rfl,?_,fs++[w],by rw [ea,z26];rfl,by rw [z17,lf];rfl,pj fr hw,D2,o.trans o2⟩
   simp! [e2])
  (λ_ _ _=>rfl) n 0 [] G (by simp [dP]) ⟨[],rfl,rfl,λ_ h=>(nomatch h),D,Oth.refl _ _ _⟩
 exact⟨fs,G',by rw [ed] at e;exact e,lf,fr,D',o⟩
theorem DV{G:List M}{d l f:Nat}{n:Nat}{Z:De}{few:List Int}(D:DG G d l)(hf:G[f]?=some (.lst (few.map I.int)))(h0:0<few.length)(h1:few.length≤1000)(nd:f≠d)(nl:f≠l)(hr:∀f∈few,Wr f):∃(fs:List Int) (G':List M),dI (dP n) c1 ba (ak bc (aa 1) (bd (af (aa 2) (af (bd (af (aa 1) ae) bW) ae)) (bf 2 cB))) [↑(.ref f),↑(.ref d)] 0 n [] Z G=some (fs.map I.int,G')/\fs.length=n/\(∀f∈fs,Wr f)/\DG G' d l/\Oth d l G G':=by
 obtain⟨ds,G',e,fs,ed,lf,fr,D',o⟩:=jY (w:=dP n) (c:=c1) (tt:=ba) (te:=ak bc (aa 1) (bd (af (aa 2) (af (bd (af (aa 1) ae) bW) ae)) (bf 2 cB))) (di:=[↑(.ref f),↑(.ref d)]) (Z:=Z)
  (λi acc G'=>∃fs:List Int,acc=fs.map I.int/\fs.length=i/\(∀f∈fs,Wr f)/\DG G' d l/\Oth d l G G')
  (λi acc G1 hi zz=>by
   obtain⟨fs,ea,lf,fr,D1,o⟩:=zz
   obtain⟨r,G2,e2,r0,r1,D2,o2⟩:=lN (many:=few.length) D1 (by lia) (Int.lt_of_le_of_lt (Int.ofNat_le.mpr h1) (by decide))
   have f1:G1[f]?=some (.lst (few.map I.int)):=by rw [o.at_ f nd nl];exact hf
   have f2:G2[f]?=some (.lst (few.map I.int)):=by rw [o2.at_ f nd nl];exact f1
   obtain⟨j,rfl⟩:=Int.eq_ofNat_of_zero_le r0
   have hj:j<few.length:=by lia
   have ha:dm (few.map I.int) (j:Int)=some (.int few[j]):=jQ (by rw [List.getElem?_map,z13 hj];rfl)
   refine⟨.int i,[.int i],_,_,.int few[j],[↑(.int i),↑(.ref f),↑(.ref d)],G2,rfl,rfl,rfl,?_,fs++[few[j]],by rw [ea,z26];rfl,by rw [z17,lf];rfl,pj fr (hr _ (z2d hj)),D2,o.trans o2⟩
   simp! [f1,f2,e2,ha])
  (λ_ _ _=>rfl) n 0 [] G (by simp [dP]) ⟨[],rfl,rfl,λ_ h=>(nomatch h),D,Oth.refl _ _ _⟩
 exact⟨fs,G',by rw [ed] at e;exact e,lf,fr,D',o⟩
theorem DW{G:List M}{f:Nat}{n:Nat}{Z:De}{few:List Int}{w0:Int}(hf:G[f]?=some (.lst (few.map I.int)))(h0:few[0]?=some w0):∃fs:List Int,dI (dP n) c1 ba (ak cE (ak eU (ak bc (aa 1) (ao (.int 0))) (ak cD (ao (.int 5)) (aa 0))) (ao (.int 4294967296))) [↑(.ref f)] 0 n [] Z G=some (fs.map I.int,G)/\fs.length=n/\∀f∈fs,Wr f:=by
 obtain⟨ds,G',e,fs,ed,lf,fr,eg⟩:=jY (w:=dP n) (c:=c1) (tt:=ba) (te:=ak cE (ak eU (ak bc (aa 1) (ao (.int 0))) (ak cD (ao (.int 5)) (aa 0))) (ao (.int 4294967296))) (di:=[↑(.ref f)]) (Z:=Z)
  (λi acc G'=>∃fs:List Int,acc=fs.map I.int/\fs.length=i/\(∀f∈fs,Wr f)/\G'=G)
  (λi acc G1 hi zz=>by
   obtain⟨fs,ea,lf,fr,o⟩:=zz
   subst o
   have ha:dm (few.map I.int) 0=some (.int w0):=jQ (j:=0) (by rw [List.getElem?_map,h0];rfl)
   refine⟨.int i,[.int i],_,_,.int ((w0+5*i) % 4294967296),[↑(.int i),↑(.ref f)],G1,rfl,rfl,rfl,?_,fs++[(w0+5*i) % 4294967296],by rw [ea,z26];rfl,by rw [z17,lf];rfl,pj fr ⟨Int.emod_nonneg _ (by decide),Int.emod_lt_of_pos _ (by decide)⟩,rfl⟩
   simp! [hf,ha])
  (λ_ _ _=>rfl) n 0 [] G (by simp [dP]) ⟨[],rfl,rfl,λ_ h=>(nomatch h),rfl⟩
 exact⟨fs,by rw [ed,eg] at e;exact e,lf,fr⟩
theorem kN{G:List M}{d l dp:Nat}(D:DG G d l)(hd:dp≤6):∃(ws:List Int) (G':List M),mI [.im (.ref d),.im (.int dp)] G=some (.im (.tup (ws.map I.int)),G')/\ws.length=2 ^ dp/\(∀f∈ws,Wr f)/\DG G' d l/\Mor d l G G':=by
 obtain⟨N,hN⟩:∃N,2 ^ dp=N:=⟨_,rfl⟩
 obtain⟨r0,G0,e0,z0,z1,D0,o0⟩:=lN (many:=4) D (by decide) (by decide)
 obtain⟨c,rfl⟩:=Int.eq_ofNat_of_zero_le z0
 obtain⟨few,G1,e1,lf,fr,D1,o1⟩:=DU (n:=1+c) (Z:=[↑(.ref d),↑(.int dp),none,none,none]) D0
 obtain⟨k1,k2⟩:=D1.lt
 have hf:(G1++[.lst (few.map I.int)])[G1.length]?=some (.lst (few.map I.int)):=by simp
 obtain⟨fs,G2,e2,l2,gr,D2,o2⟩:=DV (n:=N) (Z:=[↑(.ref d),↑(.int dp),↑(.ref G1.length),none,none]) (D1.app [.lst (few.map I.int)]) hf (by lia) (by lia) (by lia) (by lia) fr
 obtain⟨r3,G3,e3,y0,y1,D3,o3⟩:=lN (many:=4) D2 (by decide) (by decide)
 have o:Mor d l G G3:=((o0.trans o1).mor.trans (Mor.app _)).trans (o2.trans o3).mor
 have hf3:G3[G1.length]?=some (.lst (few.map I.int)):=by rw [(o2.trans o3).at_ _ (by lia) (by lia)];exact hf
 have p6:(2:Nat) ^ dp≤2 ^ 6:=Nat.pow_le_pow_right (by decide) hd
 have p6:2 ^ dp≤64:=p6
 rw [hN] at p6 ⊢
 have q1:(2:Int) ^ dp=(N:Int):=by rw [<- hN];push_cast;rfl
 have q5:(dp:Int)≤1000000:=by lia
 have sh:∀(Z:De) (G:List M),ak du (ao (.int 1)) (aa 1) (↑(.ref d)::↑(.int dp)::Z) G=some (⇑(.int (N:Int)),↑(.ref d)::↑(.int dp)::Z,G):=λZ G=>by
  simp! [q5,q1]
 have go:∀(fs':List Int),fs'.length=N->(∀f∈fs',Wr f)->(a9 (pM (aD (ak jT (aa 1) (ao (.int 0)))) (aD (ak fu (aa 4) (ao (.int 0)))))
   (bb (ak cD (df (aa 3) cR (cF (ak gn (ak du (ao (.int 1)) (aa 1)) (ao (.int 2))))) (ao (.int 2))) (aN 3)) bA) [↑(.ref d),↑(.int dp),↑(.ref G1.length),↥(fs.map I.int),↑(.int r3)] G3=some (.nx [↑(.ref d),↑(.int dp),↑(.ref G1.length),↥(fs'.map I.int),↑(.int r3)] G3)->∃(ws:List Int) (G':List M),mI [.im (.ref d),.im (.int dp)] G=some (.im (.tup (ws.map I.int)),G')/\ws.length=N/\(∀f∈ws,Wr f)/\DG G' d l/\Mor d l G G':=λfs' lfs' fr' hfs=>by
  have head:∀(ws:List Int),aq (a9 (aD (ak fu (aa 4) (ao (.int 1))))
    (bb (c7 (bC (af (ak du (ao (.int 1)) (aa 1)) ae) cP) [2] c1 ba (ak cE (ak eU (ak bc (aa 1) (ao (.int 0))) (ak cD (ao (.int 5)) (aa 0))) (ao (.int 4294967296)))) (aN 3))
    bA)
    (aI (bd (af (aa 3) ae) dN)) [↑(.ref d),↑(.int dp),↑(.ref G1.length),↥(fs'.map I.int),↑(.int r3)] G3=some (.rt (.im (.tup (ws.map I.int))) G3)->mI [.im (.ref d),.im (.int dp)] G=some (.im (.tup (ws.map I.int)),G3):=λws hw=>by
   refine dB rfl ?_
   refine aC (cj (mK (Z0:=[↑(.ref d),↑(.int dp),none,none,none]) (by rfl) (iM (n:=1+c) (j:=1+(c:Int)) (Z1:=[↑(.ref d),↑(.int dp),none,none,none]) (G1:=G0) ?_ (by lia) (by lia)) (by rw [o6];lia) e1) rfl) ?_
   ·simp! [e0]
   refine aC (cj (mK (Z0:=[↑(.ref d),↑(.int dp),↑(.ref G1.length),none,none]) (by rfl) (iM (n:=N) (j:=(N:Int)) (Z1:=[↑(.ref d),↑(.int dp),↑(.ref G1.length),none,none]) (G1:=G1++[M.lst (few.map I.int)]) ?_ rfl (by lia)) (by rw [o6];lia) e2) rfl) ?_
   ·exact a7 (sh _ _) rfl
   refine aC (cj (x:=.im (.int r3)) (Z1:=[↑(.ref d),↑(.int dp),↑(.ref G1.length),↥(fs.map I.int),none]) (G1:=G3) ?_ rfl) ?_
   ·simp! [e3]
   exact aC hfs hw
  by_cases f1:r3=1
  ·obtain⟨w0,hw0⟩:∃w0,few[0]?=some w0:=⟨_,z13 (by lia)⟩
   obtain⟨gs,e4,l4,r4⟩:=DW (n:=N) (Z:=[↑(.ref d),↑(.int dp),↑(.ref G1.length),↥(fs'.map I.int),↑(.int r3)]) hf3 hw0
   refine⟨gs,G3,head gs ?_,l4,r4,D3,o⟩
   refine aC (oZ (Z1:=[↑(.ref d),↑(.int dp),↑(.ref G1.length),↥(fs'.map I.int),↑(.int r3)]) (G1:=G3) (by simp! [f1]) (cj (mK (Z0:=[↑(.ref d),↑(.int dp),↑(.ref G1.length),↥(fs'.map I.int),↑(.int r3)]) (by rfl) (iM (n:=N) (j:=(N:Int)) (a7 (sh _ _) rfl) rfl (by lia)) (by rw [o6];lia) e4) rfl)) ?_
   simp! [dN]
  ·refine⟨fs',G3,head fs' ?_,lfs',fr',D3,o⟩
   refine aC (dk (Z1:=[↑(.ref d),↑(.int dp),↑(.ref G1.length),↥(fs'.map I.int),↑(.int r3)]) (G1:=G3) (by simp! [f1]) rfl) ?_
   simp! [dN]
 by_cases f0:(0<dp/\r3=0)
 ·obtain⟨f0,rfl⟩:=f0
  obtain⟨q,hq⟩:∃q,N=2*q:=⟨2 ^ (dp-1),by rw [<- hN];rw [show dp=(dp-1)+1 by lia,Nat.pow_succ];simp;lia⟩
  have hc:gx (fs.map I.int) none (some ((q:Int)))=(fs.take q).map I.int:=by rw [DT,List.map_take]
  refine go (fs.take q++fs.take q) (by rw [z17,z36,l2];lia) (λf hf=>by rcases z1d.mp hf with z|z<;>exact gr f (List.mem_of_mem_take z)) ?_
  refine oZ (Z1:=[↑(.ref d),↑(.int dp),↑(.ref G1.length),↥(fs.map I.int),↑(.int 0)]) (G1:=G3) (by simp! [f0]) ?_
  refine cj (Z1:=[↑(.ref d),↑(.int dp),↑(.ref G1.length),↥(fs.map I.int),↑(.int 0)]) (G1:=G3) (x:=.ow (.lst ((fs.take q++fs.take q).map I.int))) ?_ rfl
  have hl:min q fs.length≤1000:=by lia
  refine cw (x:=.v (.ow (.lst ((fs.take q).map I.int)))) (Z1:=[↑(.ref d),↑(.int dp),↑(.ref G1.length),↥(fs.map I.int),↑(.int 0)]) (G1:=G3) ?_ rfl (by simp! [kW,hl])
  refine a7 rfl (a7 rfl (a7 (a:=[⇑(.int q)]) (Z1:=[↑(.ref d),↑(.int dp),↑(.ref G1.length),↥(fs.map I.int),↑(.int 0)]) (G1:=G3) (a7 (cw (sh _ _) rfl (by unfold gn bB;dsimp only;rw [if_pos (by decide),show ((N:Int) / 2)=(q:Int) by lia])) rfl) ?_))
  simp [fz,gw,cu,hc,sq,pk]
 ·by_cases f2:0<dp
  ·have f3:¬ (r3=0):=by lia
   exact go fs l2 gr (by simp! [f2,beq_eq_false_iff_ne.mpr f3])
  ·exact go fs l2 gr (by simp! [f2])
end
section
theorem DX{w:Wk}{c:I->Option (List I)}{tt:Mo Bool}{te:Mo Ev}{di Z:De}(P:Nat->List I->List M->Prop)
  (step:∀i acc G,i<w.n->P i acc G->∃d ds Za Ga,w.at_ i Z G=some d/\c d=some ds/\((tt ((ds.map λd=>some (Vl.im d))++di) G=some (false,Za,Ga)/\P (i+1) acc Ga)∨∃y Zb Gb,tt ((ds.map λd=>some (Vl.im d))++di) G=some (true,Za,Ga)/\te Za Ga=some (⇑y,Zb,Gb)/\P (i+1) (acc++[y]) Gb))
  (fin:∀acc G,P w.n acc G->w.fin Z G=true):∀(r i:Nat) (acc:List I) (G:List M),i+r=w.n->P i acc G->∃ds G',dI w c tt te di i r acc Z G=some (ds,G')/\P w.n ds G'
 | 0,i,acc,G,h,p=>by
  have:i=w.n:=by lia
  subst this
  exact⟨acc,G,by unfold dI;rw [fin acc G p];rfl,p⟩
 | r+1,i,acc,G,h,p=>by
  obtain⟨d,ds,Za,Ga,h1,h2,z⟩:=step i acc G (by lia) p
  rcases z with⟨h3,p'⟩| ⟨y,Zb,Gb,h3,h4,p'⟩
  ·obtain⟨ds',G',e,q⟩:=DX P step fin r (i+1) acc Ga (by lia) p'
   refine⟨ds',G',?_,q⟩
   unfold dI
   rw [h1];dsimp only;rw [h2];dsimp only;rw [h3]
   exact e
  ·obtain⟨ds',G',e,q⟩:=DX P step fin r (i+1) (acc++[y]) Gb (by lia) p'
   refine⟨ds',G',?_,q⟩
   unfold dI
   rw [h1];dsimp only;rw [h2];dsimp only;rw [h3];dsimp only;rw [h4]
   exact e
theorem yc2(ns:List Int)(lo hi:Option Int):∃ms:List Int,gx (ns.map I.int) lo hi=ms.map I.int/\ms.length≤ns.length:=by
 refine⟨(ns.drop (HT.sIx ns.length 0 lo)).take (HT.sIx ns.length ns.length hi-HT.sIx ns.length 0 lo),?_,?_⟩
 ·unfold gx;rw [z24,List.map_take,List.map_drop]
 ·rw [z36,z3a];lia
theorem yd5{ms:List Int}{Z:De}{G:List M}:∃so:List Int,dI (bj (.v (.ow (.lst (ms.map I.int)))) ms.length) c1 ba (bd (af (aa 0) (af (ak dM (ao (.int 0)) (aa 0)) ae)) jm) [] 0 ms.length [] Z G=some (so.map I.int,G)/\so.length=ms.length/\∀m∈so,0≤m:=by
 obtain⟨ds,G',e,so,ed,ls,hp,eg⟩:=jY (w:=bj (.v (.ow (.lst (ms.map I.int)))) ms.length) (c:=c1) (tt:=ba) (te:=bd (af (aa 0) (af (ak dM (ao (.int 0)) (aa 0)) ae)) jm) (di:=[]) (Z:=Z)
  (λi acc G'=>∃so:List Int,acc=so.map I.int/\so.length=i/\(∀m∈so,0≤m)/\G'=G)
  (λi acc G1 hi zz=>by
   obtain⟨so,ea,ls,hp,o⟩:=zz
   have hi:i<ms.length:=hi
   subst o
   obtain⟨y,hy⟩:∃y,(if 0-ms[i]>ms[i] then 0-ms[i] else ms[i])=y:=⟨_,rfl⟩
   refine⟨.int ms[i],[.int ms[i]],_,_,.int y,[↑(.int ms[i])],G1,?_,rfl,rfl,?_,so++[y],by rw [ea,z26];rfl,by rw [z17,ls];rfl,λm hm=>?_,rfl⟩
   ·simp [bj,sq,pk,hi]
   ·subst hy;simp! [jm]
   ·rcases z1d.mp hm with z|z
    ·exact hp m z
    ·have:m=y:=by simpa using z
     subst this;subst hy;split<;>lia)
  (λ_ _ _=>by simp [bj,sq,pk]) ms.length 0 [] G (by simp [bj]) ⟨[],rfl,rfl,λ_ h=>(by cases h),rfl⟩
 exact⟨so,by rw [ed,eg] at e;exact e,ls,hp⟩
theorem yd0{so:List Int}{Z:De}{G:List M}{k:Nat}(hk:G[k]?=some (.lst (so.map I.int)))(hp:∀m∈so,0≤m):∃le:List Int,dI (bj ⇑(.ref k) so.length) c1 (aD (ak mE (aa 0) (ak gp (ao (.int 10)) (ao (.int 18))))) (aa 0) [] 0 so.length [] Z G=some (le.map I.int,G)/\∀m∈le,0≤m:=by
 obtain⟨ds,G',e,so',ed,hp,eg⟩:=DX (w:=bj ⇑(.ref k) so.length) (c:=c1) (tt:=aD (ak mE (aa 0) (ak gp (ao (.int 10)) (ao (.int 18))))) (te:=aa 0) (di:=[]) (Z:=Z)
  (λi acc G'=>∃le:List Int,acc=le.map I.int/\(∀m∈le,0≤m)/\G'=G)
  (λi acc G1 hi zz=>by
   obtain⟨le,ea,hp',o⟩:=zz
   have hi:i<so.length:=hi
   subst o
   refine⟨.int so[i],[.int so[i]],[↑(.int so[i])],G1,by simp [bj,sq,pk,hk,hi],rfl,?_⟩
   by_cases z:(1000000000000000000:Int)≤so[i]
   ·refine .inr ⟨.int so[i],[↑(.int so[i])],G1,by simp! [z],by simp! [],le++[so[i]],by rw [ea,z26];rfl,λm hm=>?_,rfl⟩
    rcases z1d.mp hm with y|y
    ·exact hp' m y
    ·have:m=so[i]:=by simpa using y
     subst this;exact hp _ (z2d hi)
   ·exact .inl ⟨by simp! [];lia,le,ea,hp',rfl⟩)
  (λ_ G1 zz=>by obtain⟨_,_,_,eg⟩:=zz;subst eg;simp [bj,sq,pk,hk]) so.length 0 [] G (by simp [bj]) ⟨[],rfl,λ_ h=>(by cases h),rfl⟩
 exact⟨so',by rw [ed,eg] at e;exact e,hp⟩
theorem yce{so:List Int}{s1 s2 s3 v:Option Vl}{G:List M}{k:Nat}{a:Int}(hk:G[k]?=some (.lst (so.map I.int)))(h0:0≤a)(h1:a<2147483647):∃a' v',aY (bj ⇑(.ref k) so.length) (aN 4) xi 0 so.length [s1,s2,s3,↑(.int a),v] G=some (.nx [s1,s2,s3,↑(.int a'),v'] G)/\0≤a'/\a'<2147483647:=by
 obtain⟨Z',G',e,a',v',ed,p0,p1,eg⟩:=dC (w:=bj ⇑(.ref k) so.length) (g:=aN 4) (b:=xi)
  (λi Z G'=>∃(a:Int) (v:Option Vl),Z=[s1,s2,s3,↑(.int a),v]/\0≤a/\a<2147483647/\G'=G)
  (λi Z G1 hi zz=>by
   obtain⟨a,v,ea,p0,p1,o⟩:=zz
   have hi:i<so.length:=hi
   subst o
   subst ea
   refine⟨.int so[i],[s1,s2,s3,↑(.int a),↑(.int so[i])],G1,[s1,s2,s3,↑(.int ((a*48271+so[i] % 2147483629) % 2147483647)),↑(.int so[i])],G1,by simp [bj,sq,pk,hk,hi],rfl,?_,_,_,rfl,Int.emod_nonneg _ (by decide),Int.emod_lt_of_pos _ (by decide),rfl⟩
   simp! [xi])
  (λ_ G1 zz=>by obtain⟨_,_,_,_,_,eg⟩:=zz;subst eg;simp [bj,sq,pk,hk]) so.length 0 [s1,s2,s3,↑(.int a),v] G (by simp [bj]) ⟨a,v,rfl,h0,h1,rfl⟩
 exact⟨a',v',by rw [ed,eg] at e;exact e,p0,p1⟩
theorem lQ{fe:Mo Ev}{e:Ev}{xs:List I}{n:Nat}{Z Z1:De}{G G1:List M}(h:fe Z G=some (e,Z1,G1))(hl:fR Z1 G1 e=true)(hs:sq Z1 G1 e=some xs)(hn:xs.length=n):bC (one fe) br Z G=some (bj e n,[e],Z1,G1):=by
 subst hn
 refine jE (a7 h rfl) ?_
 unfold br my
 dsimp only
 rw [if_pos hl,hs]
 rfl
theorem yd3{ns:List Int}{b:Nat}{G:List M}(h:ns.length≤63)(hb:b≤1000):∃(a:Int) (so le:List Int),vm [.im (.fro (ns.map I.int)),.im (.int b)] G=some (.ow (.dic (cI a 0 (G.length+1))),G++[.lst (so.map I.int),.lst (le.map I.int)])/\0≤a/\a<2147483647/\∀m∈le,0≤m:=by
 obtain⟨ms,hc,lm⟩:=yc2 ns (some (b:Int)) (some 63)
 obtain⟨so,e1,l1,p1⟩:=yd5 (ms:=ms) (Z:=[↑(.fro (ns.map I.int)),↑(.int b),none,none,none]) (G:=G)
 have hk:(G++[M.lst (so.map I.int)])[G.length]?=some (.lst (so.map I.int)):=by simp
 obtain⟨a,v,e2,a0,a1⟩:=yce (s1:=↑(.fro (ns.map I.int))) (s2:=↑(.int b)) (s3:=↑(.ref G.length)) (v:=none) (a:=7919+(b:Int)) hk (by lia) (by lia)
 obtain⟨le,e3,p3⟩:=yd0 (Z:=[↑(.fro (ns.map I.int)),↑(.int b),↑(.ref G.length),↑(.int a),v]) hk p1
 refine⟨a,so,le.reverse,?_,a0,a1,λm hm=>p3 m (List.mem_reverse.mp hm)⟩
 refine dB rfl ?_
 refine aC (cj (mK (Z0:=[↑(.fro (ns.map I.int)),↑(.int b),none,none,none]) (by rfl) (lQ (e:=.v (.ow (.lst (ms.map I.int)))) (n:=ms.length) (Z1:=[↑(.fro (ns.map I.int)),↑(.int b),none,none,none]) (G1:=G) ?_ rfl rfl (by simp)) (by show ms.length≤100000;lia) e1) rfl) ?_
 ·simp! [df,cF,gw,fz,cu,hc]
 refine aC (cj (x:=.im (.int (7919+(b:Int)))) (Z1:=[↑(.fro (ns.map I.int)),↑(.int b),↥(so.map I.int),none,none]) (G1:=G) (by simp! []) rfl) ?_
 refine aC (eN (lQ (e:=⇑(.ref G.length)) (n:=so.length) (Z1:=[↑(.fro (ns.map I.int)),↑(.int b),↑(.ref G.length),↑(.int (7919+(b:Int))),none]) (G1:=G++[M.lst (so.map I.int)]) (xs:=so.map I.int) (by simp! []) rfl (by simp [sq,pk]) (by simp)) e2) ?_
 refine lK (Z1:=[↑(.fro (ns.map I.int)),↑(.int b),↑(.ref G.length),↑(.int a),v]) ?_
 have e4:c7 (bC (one (c6 (aa 2))) br) [] c1 (aD (ak mE (aa 0) (ak gp (ao (.int 10)) (ao (.int 18))))) (aa 0) [↑(.fro (ns.map I.int)),↑(.int b),↑(.ref G.length),↑(.int a),v] (G++[M.lst (so.map I.int)])=some (.v (.ow (.lst (le.map I.int))),[↑(.fro (ns.map I.int)),↑(.int b),↑(.ref G.length),↑(.int a),v],G++[M.lst (so.map I.int)]):=by
  refine mK (by rfl) (lQ (e:=⇑(.ref G.length)) (n:=so.length) (Z1:=[↑(.fro (ns.map I.int)),↑(.int b),↑(.ref G.length),↑(.int a),v]) (G1:=G++[M.lst (so.map I.int)]) (xs:=so.map I.int) (by simp! []) rfl (by simp [sq,pk]) (by simp)) (by show so.length≤100000;lia) e3
 have e5:c6 (bS iq (c7 (bC (one (c6 (aa 2))) br) [] c1 (aD (ak mE (aa 0) (ak gp (ao (.int 10)) (ao (.int 18))))) (aa 0))) [↑(.fro (ns.map I.int)),↑(.int b),↑(.ref G.length),↑(.int a),v] (G++[M.lst (so.map I.int)])=some (⇑(.ref (G.length+1)),[↑(.fro (ns.map I.int)),↑(.int b),↑(.ref G.length),↑(.int a),v],G++[M.lst (so.map I.int),M.lst (le.reverse.map I.int)]):=by
  refine a7 (lM e4 (r:=some (.v (.ow (.lst (le.reverse.map I.int))),[↑(.fro (ns.map I.int)),↑(.int b),↑(.ref G.length),↑(.int a),v],G++[M.lst (so.map I.int)])) (by simp [iq,cu,sq,pk])) ?_
  simp [mv]
 refine a7 (a:=[⇑(.str "seed"),⇑(.int a),⇑(.str "number"),⇑(.int 0),⇑(.str "left"),⇑(.ref (G.length+1))]) (Z1:=[↑(.fro (ns.map I.int)),↑(.int b),↑(.ref G.length),↑(.int a),v]) (G1:=G++[M.lst (so.map I.int),M.lst (le.reverse.map I.int)]) ?_ ?_
 ·refine a7 rfl (a7 rfl (a7 (a:=[⇑(.str "number"),⇑(.int 0),⇑(.str "left"),⇑(.ref (G.length+1))]) (a7 rfl (a7 rfl (a7 (a:=[⇑(.str "left"),⇑(.ref (G.length+1))]) (a7 rfl (a7 e5 (a7 rfl rfl))) rfl))) rfl))
 ·simp [iz,dv,iA,aE,cg,vx,Du,vy,cI]
end
section
theorem vS{gs:List Mk}{k:Nat}:∀{r:Nat} {n n':Int} {ss:List Int},cG gs k r n=some (n',ss)->ss.length=r
 | 0,n,n',ss,h=>by cases h;rfl
 | r+1,n,n',ss,h=>by
  unfold cG at h
  split at h
  ·split at h
   ·rename_i a b _ _
    cases q:cG gs k r a with
    | none=>rw [q] at h;cases h
    | some p=>rw [q] at h;cases h;exact congrArg (· + 1) (vS q)
   ·rename_i a b _ _
    cases q:cG gs k r b with
    | none=>rw [q] at h;cases h
    | some p=>rw [q] at h;cases h;exact congrArg (· + 1) (vS q)
  ·cases h
theorem vT{G:List M}{h g s:Nat}{gs:List Mk}{m:Mk}{n:Int}(S:HG G h g s gs)(hm:At gs n m):gI [.im (.ref h),.im m.i] G=some (.im (.int n),G):=by
 have hk:=m.key
 have y197:m∈gs:=by obtain⟨j,_,hj⟩:=hm;exact z2e hj
 obtain⟨j,hv,hj⟩:=lO (o:=0) y197
 have hn:n=(j:Int)+1:=hm.uniq S.nd ⟨j,rfl,hj⟩
 subst hn
 have hv:az (cx 0 gs) m.k=some (.int ((j:Int)+1)):=by rw [hv];simp
 have hi:lu true [⇑m.i,⇑(.ref s)] [↑(.ref h),↑m.i] G=none:=by
  cases m<;>simp [lu,sq,pk,S.sd,Mk.i]
 have hq:ik [⇑(.ref s),⇑m.i] [↑(.ref h),↑m.i] G=none:=by cases m<;>simp [ik,Mk.i]
 simp [gI,aZ,aq,a9,aD,ak,bS,bd,aa,rt,cq,jl,eF,ip,eK,pk,pL,aI,dq,gQ,bA,bc,lr,S.ob,S.sd,o9,jF,hk,hv,hi,hq]
theorem vU{G:List M}{h g s:Nat}{gs:List Mk}{w n:Int}(S:HG G h g s gs)(hm:At gs n (.leaf w)):gB [.im (.ref h),.im (.int w)] G=some (.im (.int n),G):=by
 have e:=vT S hm
 have e:gI [.im (.ref h),.im (.tup [.str "leaf",.int w])] G=some (.im (.int n),G):=e
 simp! [gB,S.ob,lP,e]
theorem vV{G:List M}{h g s:Nat}{gs:List Mk}{a b n:Int}(S:HG G h g s gs)(hm:At gs n (.pair a b)):gJ [.im (.ref h),.im (.int a),.im (.int b)] G=some (.im (.int n),G):=by
 have e:=vT S hm
 have e:gI [.im (.ref h),.im (.tup [.str "pair",.int a,.int b])] G=some (.im (.int n),G):=e
 simp! [gJ,S.ob,lP,e]
end
section
noncomputable def cW(m:Nat):Nat:=if m % 2=0 then m+1 else m-1
theorem vW(m:Nat):Builtin.bitXor (m:Int) 1=(cW m:Int):=by
 rw [PyProof.Rows.bitXor_and,PyProof.Rows.bitAnd_m1]
 unfold cW
 split<;>lia
noncomputable def bG(W:List Int)(k j:Nat):List Int:=(W.drop (k*2 ^ j)).take (2 ^ j)
theorem Sl.way{gs:List Mk}{W:List Int}{k:Nat}:∀{r:Nat} {n:Int},Sl gs r n (bG W (k / 2 ^ r) r)->∃n0 ss w,cG gs k r n=some (n0,ss)/\At gs n0 (.leaf w)/\W[k]?=some w/\∀j,j<r->∃m,ss.reverse[j]?=some m/\Sl gs j m (bG W (cW (k / 2 ^ j)) j)
 | 0,n,⟨w,e,a⟩=>by
  refine⟨n,[],w,rfl,a,?_,λj hj=>by lia⟩
  unfold bG at e
  simp only [Nat.pow_zero,Nat.div_one,Nat.mul_one] at e
  have:=congrArg (·[0]?) e
  simpa [List.getElem?_take,List.getElem?_drop] using this
 | r+1,n,⟨a,b,l,rr,e,l1,l2,at_,s1,s2⟩=>by
  have hk:k / 2 ^ (r+1)=k / 2 ^ r / 2:=by rw [Nat.pow_succ,Nat.div_div_eq_div_mul]
  have hlook:=vN at_
  have p2:2 ^ (r+1)=2 ^ r+2 ^ r:=by rw [Nat.pow_succ];lia
  have el:l=(W.drop (k / 2 ^ r / 2*2 ^ (r+1))).take (2 ^ r):=by
   have:=congrArg (·.take (2 ^ r)) e
   unfold bG at this
   rw [hk] at this
   simp only [List.take_take] at this
   rw [Nat.min_eq_left (by lia),<- l1,List.take_left'] at this
   ·rw [l1] at this;exact this.symm
   ·rfl
  have er:rr=(W.drop (k / 2 ^ r / 2*2 ^ (r+1)+2 ^ r)).take (2 ^ r):=by
   have:=congrArg (·.drop (2 ^ r)) e
   unfold bG at this
   rw [hk] at this
   simp only [List.drop_take,List.drop_drop] at this
   rw [show 2 ^ (r+1)-2 ^ r=2 ^ r by lia] at this
   conv at this=>rhs;rw [<- l1,List.drop_left']
   exact this.symm
  unfold cG
  rw [hlook]
  dsimp only
  by_cases z:k / 2 ^ r % 2=0
  ·rw [if_pos z]
   have e1:l=bG W (k / 2 ^ r) r:=by
    rw [el];unfold bG;congr 2
    rw [Nat.pow_succ,Nat.mul_comm (2 ^ r) 2,<- Nat.mul_assoc];congr 1;lia
   have e2:rr=bG W (cW (k / 2 ^ r)) r:=by
    rw [er];unfold bG cW;rw [if_pos z];congr 2
    rw [Nat.add_mul,Nat.one_mul,Nat.pow_succ,Nat.mul_comm (2 ^ r) 2,<- Nat.mul_assoc];congr 2;lia
   rw [e1] at s1
   obtain⟨n0,ss,w,d1,a1,w1,sb⟩:=Sl.way s1
   refine⟨n0,b::ss,w,by rw [d1];rfl,a1,w1,λj hj=>?_⟩
   have ls:=vS d1
   by_cases q:j=r
   ·subst q
    exact⟨b,by rw [List.reverse_cons,z25 (by simp [ls]),z2f,ls];simp,by rw [<- e2];exact s2⟩
   ·obtain⟨m,h1,h2⟩:=sb j (by lia)
    exact⟨m,by rw [List.reverse_cons,z21 (by simp;lia)];exact h1,h2⟩
  ·rw [if_neg z]
   have e1:rr=bG W (k / 2 ^ r) r:=by
    rw [er];unfold bG;congr 2
    rw [Nat.pow_succ,Nat.mul_comm (2 ^ r) 2,<- Nat.mul_assoc]
    have:k / 2 ^ r=k / 2 ^ r / 2*2+1:=by lia
    conv=>rhs;rw [this,Nat.add_mul,Nat.one_mul]
   have e2:l=bG W (cW (k / 2 ^ r)) r:=by
    rw [el];unfold bG cW;rw [if_neg z];congr 2
    rw [Nat.pow_succ,Nat.mul_comm (2 ^ r) 2,<- Nat.mul_assoc];congr 1;lia
   rw [e1] at s2
   obtain⟨n0,ss,w,d1,a1,w1,sb⟩:=Sl.way s2
   refine⟨n0,a::ss,w,by rw [d1];rfl,a1,w1,λj hj=>?_⟩
   have ls:=vS d1
   by_cases q:j=r
   ·subst q
    exact⟨a,by rw [List.reverse_cons,z25 (by simp [ls]),z2f,ls];simp,by rw [<- e2];exact s1⟩
   ·obtain⟨m,h1,h2⟩:=sb j (by lia)
    exact⟨m,by rw [List.reverse_cons,z21 (by simp;lia)];exact h1,h2⟩
theorem DY{gs:List Mk}{W:List Int}{k d:Nat}{n:Int}(h:Sl gs d n W)(hk:k<2 ^ d):∃w ss,way gs d n k=some (w,ss)/\W[k]?=some w/\ss.length=d/\∀j,j<d->∃m,ss[j]?=some m/\Sl gs j m (bG W (cW (k / 2 ^ j)) j):=by
 have e0:bG W (k / 2 ^ d) d=W:=by
  unfold bG
  rw [Nat.div_eq_of_lt hk,Nat.zero_mul,List.drop_zero,z37 (by rw [h.len];exact z12 _)]
 rw [<- e0] at h
 obtain⟨n0,ss,w,d1,a1,w1,sb⟩:=Sl.way h
 refine⟨w,ss.reverse,?_,w1,by rw [z2f];exact vS d1,sb⟩
 unfold Q.way
 rw [d1]
 dsimp only
 rw [vN a1]
theorem y7d{m r:Nat}(h:m<2 ^ (r+1)):cW m<2 ^ (r+1):=by
 rw [Nat.pow_succ] at h ⊢
 unfold cW
 split<;>lia
end
section
structure Wd(d l h g s:Nat)(G:List M)(gs:List Mk):Prop where
 D:DG G d l
 S:HG G h g s gs
 n1:d≠g
 n2:d≠s
 n3:l≠g
 n4:l≠s
 n5:h≠d
 n6:h≠l
theorem Mor.dg{d l g s:Nat}{G G':List M}(o:Mor g s G G')(D:DG G d l)(h1:d≠g)(h2:d≠s)(h3:l≠g)(h4:l≠s):DG G' d l:=by
 obtain⟨k1,k2⟩:=D.lt
 obtain⟨a,n,ms,D⟩:=D
 exact⟨a,n,ms,by rw [o.at_ d k1 h1 h2];exact D.dc,by rw [o.at_ l k2 h3 h4];exact D.lc,D.ne,D.a0,D.a1,D.n0,D.m0⟩
theorem Mor.hg{d l h g s:Nat}{G G':List M}{gs:List Mk}(o:Mor d l G G')(S:HG G h g s gs)(h1:d≠g)(h2:d≠s)(h3:l≠g)(h4:l≠s)(h5:h≠d)(h6:h≠l):HG G' h g s gs:=by
 obtain⟨k1,k2,k3⟩:=S.lt
 exact⟨by rw [o.at_ h k1 h5 h6];exact S.ob,by rw [o.at_ g k2 h1.symm h3.symm];exact S.gl,by rw [o.at_ s k3 h2.symm h4.symm];exact S.sd,S.n1,S.n2,S.n3,S.nd⟩
theorem Wd.ofD{d l h g s:Nat}{G G':List M}{gs:List Mk}(W:Wd d l h g s G gs)(D:DG G' d l)(o:Mor d l G G'):Wd d l h g s G' gs:=⟨D,o.hg W.S W.n1 W.n2 W.n3 W.n4 W.n5 W.n6,W.n1,W.n2,W.n3,W.n4,W.n5,W.n6⟩
theorem Wd.ofS{d l h g s:Nat}{G G':List M}{gs gs':List Mk}(W:Wd d l h g s G gs)(S:HG G' h g s gs')(o:Mor g s G G'):Wd d l h g s G' gs':=⟨o.dg W.D W.n1 W.n2 W.n3 W.n4,S,W.n1,W.n2,W.n3,W.n4,W.n5,W.n6⟩
variable {d l h g s:Nat}{G:List M}{gs:List Mk}
theorem Wd.draw{many:Int}(W:Wd d l h g s G gs)(h0:0<many)(h1:many<2 ^ 100):∃r G',cB [.im (.ref d),.im (.int many)] G=some (.im (.int r),G')/\0≤r/\r<many/\Wd d l h g s G' gs:=by
 obtain⟨r,G',e,a,b,D,o⟩:=lN W.D h0 h1
 exact⟨r,G',e,a,b,W.ofD D o.mor⟩
theorem Wd.row{dp:Nat}(W:Wd d l h g s G gs)(hd:dp≤6):∃(ws:List Int) (G':List M),mI [.im (.ref d),.im (.int dp)] G=some (.im (.tup (ws.map I.int)),G')/\ws.length=2 ^ dp/\(∀f∈ws,Wr f)/\Wd d l h g s G' gs:=by
 obtain⟨r,G',e,le,hr,D,o⟩:=kN W.D hd
 exact⟨r,G',e,le,hr,W.ofD D o⟩
theorem Wd.seal{dp:Nat}{ws:List Int}(W:Wd d l h g s G gs)(hw:ws.length=2 ^ dp)(hd:dp≤6)(hl:gs.length<80000):∃n gs' G',oY [.im (.ref h),.im (.tup (ws.map I.int))] G=some (.im (.int n),G')/\Wd d l h g s G' gs'/\bg 128 gs gs'/\Sl gs' dp n ws:=by
 obtain⟨n,gs',G',e,S,x,sl,o⟩:=DO W.S hw hd hl
 exact⟨n,gs',G',e,W.ofS S o,x,sl⟩
end
section
theorem ck{fa:Mo Ev}{fr:Mo (List Ev)}{Z Z1 Z2:De}{G G1 G2:List M}{e:Ev}{es:List Ev}(h:fa Z G=some (e,Z1,G1))(k:fr Z1 G1=some (es,Z2,G2)):af fa fr Z G=some (e::es,Z2,G2):=a7 h (a7 k rfl)
theorem vX(W:List Int)(p j i:Nat):(bG W p j)[i]?=if i<2 ^ j then W[p*2 ^ j+i]? else none:=by
 unfold bG
 rw [List.getElem?_take]
 split
 ·rw [List.getElem?_drop]
 ·rfl
theorem DZ(W:List Int)(q j:Nat):bG W q (j+1)=bG W (2*q) j++bG W (2*q+1) j:=by
 unfold bG
 have p2:2 ^ (j+1)=2 ^ j+2 ^ j:=by rw [Nat.pow_succ];lia
 have e1:q*2 ^ (j+1)=2*q*2 ^ j:=by rw [Nat.pow_succ,Nat.mul_comm 2 q,Nat.mul_assoc,Nat.mul_comm 2 (2 ^ j)]
 have e2:(2*q+1)*2 ^ j=2*q*2 ^ j+2 ^ j:=by rw [Nat.add_mul,Nat.one_mul]
 rw [e1,e2,p2,List.take_add,List.drop_drop]
theorem vY{W:List Int}{d:Nat}(h:W.length=2 ^ d):bG W 0 d=W:=by
 unfold bG
 rw [Nat.zero_mul,List.drop_zero,z37 (by lia)]
theorem D5{W:List Int}{k p j:Nat}{x:Int}(h:k / 2 ^ j≠p):bG (W.set k x) p j=bG W p j:=by
 refine List.ext_getElem? λi=>?_
 rw [vX,vX]
 split
 ·rename_i hi
  rw [z1e]
  intro e
  subst e
  exact h (by rw [Nat.mul_comm,Nat.mul_add_div (Nat.two_pow_pos j),Nat.div_eq_of_lt hi,Nat.add_zero])
 ·rfl
theorem pq{W:List Int}{k:Nat}{w:Int}(h:W[k]?=some w):bG W k 0=[w]:=by
 obtain⟨hk,hv⟩:=z14.mp h
 unfold bG
 rw [Nat.pow_zero,Nat.mul_one,List.drop_eq_getElem_cons hk,hv]
 rfl
theorem Sl.up{gs:List Mk}{W:List Int}{q j:Nat}{a b n:Int}(s1:Sl gs j a (bG W (2*q) j))(s2:Sl gs j b (bG W (2*q+1) j))(at_:At gs n (.pair a b)):Sl gs (j+1) n (bG W q (j+1)):=⟨a,b,_,_,DZ W q j,s1.len,s2.len,at_,s1,s2⟩
theorem y55{G:List M}{h g s:Nat}{gs:List Mk}{W:List Int}{p j:Nat}{a b:Int}(S:HG G h g s gs)(hl:gs.length<100000)(s1:Sl gs j a (bG W p j))(s2:Sl gs j b (bG W (cW p) j)) :
  ∃n gs' G',mJ [.im (.ref h),.im (.int (p:Nat)),.im (.int a),.im (.int b)] G=some (.im (.int n),G')/\HG G' h g s gs'/\bg 1 gs gs'/\Oth g s G G'/\Sl gs' (j+1) n (bG W (p / 2) (j+1)):=by
 have bt:Builtin.bitAnd (p:Int) 1=(p:Int) % 2:=PyProof.Rows.bitAnd_m1 p
 by_cases z:p % 2=0
 ·obtain⟨n,gs',G',e,S',at_,x,o⟩:=pf (a:=a) (b:=b) S hl
  have z':(p:Int) % 2=0:=by lia
  have eb:cW p=p+1:=by unfold cW;rw [if_pos z]
  have e2:p=2*(p / 2):=by lia
  rw [eb] at s2
  refine⟨n,gs',G',by simp! [mJ,oB,bt,z',S.ob,jH,e],S',x,o,Sl.up ?_ ?_ at_⟩
  ·rw [<- e2];exact s1.ext x
  ·rw [<- e2];exact s2.ext x
 ·obtain⟨n,gs',G',e,S',at_,x,o⟩:=pf (a:=b) (b:=a) S hl
  have z':¬ ((p:Int) % 2=0):=by lia
  have eb:cW p=2*(p / 2):=by unfold cW;rw [if_neg z];lia
  have e2:p=2*(p / 2)+1:=by lia
  rw [eb] at s2
  refine⟨n,gs',G',by simp! [mJ,oB,bt,beq_eq_false_iff_ne.mpr z',S.ob,jH,e],S',x,o,Sl.up (s2.ext x) ?_ at_⟩
  rw [<- e2];exact s1.ext x
noncomputable abbrev Pl:=Nat×Nat×Int
noncomputable def Pl.i(e:Pl):I:=.tup [.tup [.int (e.1:Nat),.int (e.2.1:Nat)],.int e.2.2]
structure Pth where
 k:Nat
 w:Int
 ss:List Int
noncomputable def Pth.i(p:Pth):I:=.tup [.int (p.k:Nat),.int p.w,.tup (p.ss.map I.int)]
structure y45(gs:List Mk)(W:List Int)(d:Nat)(e:Pl):Prop where
 le:e.1≤d
 lt:e.2.1<2 ^ (d-e.1)
 sl:Sl gs e.1 e.2.2 (bG W e.2.1 e.1)
structure y47(gs:List Mk)(W:List Int)(d:Nat)(p:Pth):Prop where
 lt:p.k<2 ^ d
 wd:W[p.k]?=some p.w
 wr:Wr p.w
 ls:p.ss.length=d
 sb:∀j,j<d->∃m,p.ss[j]?=some m/\Sl gs j m (bG W (cW (p.k / 2 ^ j)) j)
theorem y45.ext{k:Nat}{gs g1:List Mk}{W:List Int}{d:Nat}{e:Pl}(h:y45 gs W d e)(x:bg k gs g1):y45 g1 W d e:=⟨h.le,h.lt,h.sl.ext x⟩
theorem y47.ext{k:Nat}{gs g1:List Mk}{W:List Int}{d:Nat}{p:Pth}(h:y47 gs W d p)(x:bg k gs g1):y47 g1 W d p:=⟨h.lt,h.wd,h.wr,h.ls,λj hj=>by obtain⟨m,a,b⟩:=h.sb j hj;exact⟨m,a,b.ext x⟩⟩
theorem D6{k d j:Nat}(hk:k<2 ^ d)(hj:j≤d):k / 2 ^ j<2 ^ (d-j):=by
 rw [Nat.div_lt_iff_lt_mul (Nat.two_pow_pos j),<- Nat.pow_add,Nat.sub_add_cancel hj];exact hk
theorem y7c{k d j:Nat}(hk:k<2 ^ d)(hj:j<d):cW (k / 2 ^ j)<2 ^ (d-j):=by
 have h:=D6 hk (z38 hj)
 obtain⟨r,hr⟩:∃r,d-j=r+1:=⟨d-j-1,by lia⟩
 rw [hr] at h ⊢
 exact y7d h
noncomputable def iO(h:Nat)(p:Pth)(sl:Int)(T:List Pl)(v7 v8 v9:Option Vl):De:=[↑(.ref h),↑p.i,↑(.int (p.k:Nat)),↑(.int p.w),↑(.tup (p.ss.map I.int)),↑(.int sl),↥(T.map Pl.i),v7,v8,v9]
theorem lR(k i:Nat):k / 2 ^ i / 2=k / 2 ^ (i+1):=by rw [Nat.pow_succ,Nat.div_div_eq_div_mul]
theorem D7{G:List M}{h g s i:Nat}{gs:List Mk}{W:List Int}{p:Pth}{sl m:Int}{T:List Pl}{v9:Option Vl}(S:HG G h g s gs)(hl:gs.length<90000)(lt:T.length<1000)(s1:Sl gs i sl (bG W (p.k / 2 ^ i) i))(s2:Sl gs i m (bG W (cW (p.k / 2 ^ i)) i)) :
  ∃n gs' G' v9',Dk (iO h p sl T ↑(.int (i:Nat)) ↑(.int m) v9) G=some (.nx (iO h p n (T++[(i,cW (p.k / 2 ^ i),m),(i+1,p.k / 2 ^ (i+1),n)]) ↑(.int (i:Nat)) ↑(.int m) v9') G')/\HG G' h g s gs'/\bg 1 gs gs'/\Oth g s G G'/\Sl gs' (i+1) n (bG W (p.k / 2 ^ (i+1)) (i+1)):=by
 obtain⟨n,gs',G',e,S',x,o,s3⟩:=y55 S (by lia) s1 s2
 rw [lR] at s3
 have hq:(p.k:Int) / 2 ^ i=((p.k / 2 ^ i:Nat):Int):=by push_cast;rfl
 have hr:((p.k / 2 ^ i:Nat):Int) / 2=((p.k / 2 ^ (i+1):Nat):Int):=by rw [<- lR];push_cast;rfl
 have hx:=vW (p.k / 2 ^ i)
 obtain⟨q,eq⟩:∃q,p.k / 2 ^ i=q:=⟨_,rfl⟩
 obtain⟨r,er⟩:∃r,p.k / 2 ^ (i+1)=r:=⟨_,rfl⟩
 obtain⟨b,eb⟩:∃b,cW (p.k / 2 ^ i)=b:=⟨_,rfl⟩
 rw [eb] at hx ⊢
 rw [er] at hr s3 ⊢
 rw [eq] at hq hr hx e
 refine⟨n,gs',G',↑(.int (q:Nat)),?_,S',x,o,s3⟩
 refine aC (cj (x:=.im (.int (q:Nat))) (Z1:=iO h p sl T ↑(.int (i:Nat)) ↑(.int m) v9) (G1:=G) (by simp! [iO,hq]) rfl) ?_
 have t1:T.length<1000000:=by lia
 have t2:T.length+1<1000000:=by lia
 refine aC (xn (e:=⇑.non) (Z1:=iO h p sl (T++[(i,b,m)]) ↑(.int (i:Nat)) ↑(.int m) ↑(.int (q:Nat))) (G1:=G) (by simp! [iO,ie,hx,t1,Pl.i])) ?_
 refine aC (cj (x:=.im (.int n)) (Z1:=iO h p sl (T++[(i,b,m)]) ↑(.int (i:Nat)) ↑(.int m) ↑(.int (q:Nat))) (G1:=G') (by simp! [iO,e]) rfl) ?_
 refine xn (e:=⇑.non) ?_
 simp! [iO,hr,t2,Pl.i]
end
section
structure Told(gs:List Mk)(W:List Int)(d k:Nat)(T:List Pl):Prop where
 ok:∀e∈T,y45 gs W d e
 le:T.length≤13
 on:∀j,j≤d->∃n,(j,k / 2 ^ j,n)∈T
 by_:∀j,j<d->∃n,(j,cW (k / 2 ^ j),n)∈T
theorem D8(xs:List I):(jw xs).n=xs.length:=rfl
theorem vZ{G:List M}{h g s d:Nat}{gs:List Mk}{W:List Int}{p:Pth}(S:HG G h g s gs)(hl:gs.length<80000)(hp:y47 gs W d p)(hd:d≤6) :
  ∃T gs' G',pT [.im (.ref h),.im p.i] G=some (.ow (.lst (T.map Pl.i)),G')/\HG G' h g s gs'/\bg 7 gs gs'/\Oth g s G G'/\Told gs' W d p.k T:=by
 obtain⟨n0,gs1,G1,e1,S1,a1,x1,o1⟩:=pd (w:=p.w) S (by lia)
 have l1:=x1.len
 have lx:(jw (p.ss.map I.int)).n=d:=by rw [D8,z24,hp.ls]
 have k0:p.k / 2 ^ 0=p.k:=by rw [Nat.pow_zero,Nat.div_one]
 obtain⟨Z',G',ef,sl,T,gs',v7,v8,v9,rfl,S',x',o',_,ok,tl,on,by_⟩:=dC (w:=jw (p.ss.map I.int)) (g:=cC [7,8]) (b:=Dk)
  (λi Z G'=>∃sl T gs' v7 v8 v9,Z=iO h p sl T v7 v8 v9/\HG G' h g s gs'/\bg (1+i) gs gs'/\Oth g s G G'/\Sl gs' i sl (bG W (p.k / 2 ^ i) i)/\(∀e∈T,y45 gs' W d e)/\T.length=1+2*i/\(∀j,j≤i->∃n,(j,p.k / 2 ^ j,n)∈T)/\(∀j,j<i->∃n,(j,cW (p.k / 2 ^ j),n)∈T))
  (λi Z G2 hi zz=>by
   obtain⟨sl,T,gs2,v7,v8,v9,hδ,S2,x2,o2,s2,ok,tl,on,by_⟩:=zz
   rw [lx] at hi
   subst hδ
   have l2:=x2.len
   obtain⟨m,hm,sm⟩:=hp.sb i hi
   obtain⟨n,gs3,G3,v9',e3,S3,x3,o3,s3⟩:=D7 (v9:=v9) (T:=T) S2 (by lia) (by lia) s2 (sm.ext x2)
   refine⟨.tup [.int i,.int m],_,_,_,G3,?_,rfl,e3,n,_,gs3,_,_,_,rfl,S3,x2.trans x3,o2.trans o3,s3,λe he=>?_,?_,λj hj=>?_,λj hj=>?_⟩
   ·show ((p.ss.map I.int)[i]?).map _=_
    rw [List.getElem?_map,hm];rfl
   ·rcases z1d.mp he with he|he
    ·exact (ok e he).ext x3
    ·rcases z1b.mp he with rfl|he
     ·exact⟨z38 hi,y7c hp.lt hi,(sm.ext x2).ext x3⟩
     ·rw [z28.mp he]
      exact⟨hi,D6 hp.lt hi,s3⟩
   ·rw [z17,tl];simp;lia
   ·rcases Nat.lt_or_ge i j with z|z
    ·obtain rfl:j=i+1:=by lia
     exact⟨n,z20 _ (by simp)⟩
    ·obtain⟨n',q⟩:=on j z
     exact⟨n',List.mem_append_left _ q⟩
   ·rcases Nat.lt_or_ge j i with z|z
    ·obtain⟨n',q⟩:=by_ j z
     exact⟨n',List.mem_append_left _ q⟩
    ·obtain rfl:j=i:=by lia
     exact⟨m,z20 _ (by simp)⟩)
  (λ_ _ _=>rfl) d 0 (iO h p n0 [(0,p.k,n0)] none none none) G1 (by lia)
  ⟨n0,_,gs1,none,none,none,rfl,S1,x1,o1,by rw [k0,pq hp.wd];exact⟨p.w,rfl,a1⟩,λe he=>by
   rw [z28.mp he]
   exact⟨Nat.zero_le _,hp.lt,by rw [pq hp.wd];exact⟨p.w,rfl,a1⟩⟩,rfl,λj hj=>by
   obtain rfl:j=0:=by lia
   exact⟨n0,by rw [k0];simp⟩,λj hj=>by lia⟩
 rw [lx] at x' tl on by_
 refine⟨T,gs',G',?_,S',x'.le (by lia),o',ok,by lia,on,by_⟩
 refine dB rfl ?_
 refine aC (cj (x:=.im p.i) (Z1:=[↑(.ref h),↑p.i,none,none,none,none,none,none,none,none]) (G1:=G) rfl rfl) ?_
 refine aC (cj (x:=.im (.int n0)) (Z1:=[↑(.ref h),↑p.i,↑(.int p.k),↑(.int p.w),↑(.tup (p.ss.map I.int)),none,none,none,none,none]) (G1:=G1) (by simp! [S.ob,jG,e1]) rfl) ?_
 refine aC (cj (x:=.ow (.lst [Pl.i (0,p.k,n0)])) (Z1:=[↑(.ref h),↑p.i,↑(.int p.k),↑(.int p.w),↑(.tup (p.ss.map I.int)),↑(.int n0),none,none,none,none]) (G1:=G1) (by simp! [Pl.i]) rfl) ?_
 refine aC (eN (w:=jw (p.ss.map I.int)) (Z1:=iO h p n0 [(0,p.k,n0)] none none none) (G1:=G1) (jE rfl rfl) (by rw [lx];exact ef)) ?_
 simp! [iO]
theorem Sl.at{gs:List Mk}:∀{j:Nat} {n:Int} {ws:List Int},Sl gs j n ws->∃m,At gs n m
 | 0,_,_,⟨w,_,h⟩=>⟨_,h⟩
 | _+1,_,_,⟨_,_,_,_,_,_,_,h,_,_⟩=>⟨_,h⟩
theorem wc(m:Mk)(Z:De)(G:List M):iU false [⇑m.i] Z G=some (⇑(.bl true),Z,G):=by cases m<;>rfl
theorem y5f(n:Nat)(Z:De)(G:List M):oQ [.v (.ow (.lst ((List.replicate n true).map I.bl)))] Z G=some (⇑(.bl true),Z,G):=by
 unfold oQ
 dsimp only [pk]
 rw [y84]
 simp
theorem Ea{G:List M}{h g s d:Nat}{gs:List Mk}{W:List Int}{p:Pth}(S:HG G h g s gs)(hp:y47 gs W d p)(hd:d≤6):pU [.im (.ref h),.im (.int (d:Nat)),.im p.i] G=some (.im (.bl true),G):=by
 have hk:(p.k:Int) / 2 ^ d=0:=by
  have:p.k / 2 ^ d=0:=Nat.div_eq_of_lt hp.lt
  have h2:(p.k:Int) / 2 ^ d=((p.k / 2 ^ d:Nat):Int):=by push_cast;rfl
  rw [h2,this];rfl
 have k0:¬ ((p.k:Int)<0):=by lia
 have w0:¬ (p.w<0):=by have:=hp.wr.1;lia
 have w1:¬ (4294967296≤p.w):=by have:=hp.wr.2;lia
 obtain⟨ds,G',ec,ed,rfl⟩:=jY (w:=bj ⇑(.tup (p.ss.map I.int)) d) (c:=c1) (tt:=ba) (te:=bS (iU false) (bI "House" "opened" 2 fI (aa 1) (af (aa 0) ae))) (di:=[↑(.ref h)]) (Z:=[↑(.ref h),↑(.int d),↑p.i,↑(.int p.k),↑(.int p.w),↑(.tup (p.ss.map I.int))])
  (λi acc G'=>acc=(List.replicate i true).map I.bl/\G'=G)
  (λi acc G1 hi zz=>by
   obtain⟨ea,eg⟩:=zz
   subst eg
   have hi:i<d:=hi
   obtain⟨m,hm,sm⟩:=hp.sb i hi
   obtain⟨mk,hmk⟩:=sm.at
   have eo:=vJ S hmk
   refine⟨.int m,[.int m],_,_,.bl true,_,G1,?_,rfl,rfl,lM (x:=⇑mk.i) (Z1:=[↑(.int m),↑(.ref h)]) (G1:=G1) (by simp! [S.ob,fJ,eo]) (wc _ _ _),by rw [ea,List.replicate_succ',z26];rfl,rfl⟩
   show ((some (p.ss.map I.int)).bind (·[i]?))=_
   simp [hm])
  (λ_ _ _=>by simp [bj,sq,hp.ls]) d 0 [] G (by simp [bj]) ⟨rfl,rfl⟩
 refine dB rfl ?_
 refine aC (cj (x:=.im p.i) (Z1:=[↑(.ref h),↑(.int d),↑p.i,none,none,none]) (G1:=G') rfl rfl) ?_
 refine aC (dk (Z1:=[↑(.ref h),↑(.int d),↑p.i,↑(.int p.k),↑(.int p.w),↑(.tup (p.ss.map I.int))]) (G1:=G') (by simp! [k0,hk,w0,w1,hp.ls]) rfl) ?_
 refine lK (Z1:=[↑(.ref h),↑(.int d),↑p.i,↑(.int p.k),↑(.int p.w),↑(.tup (p.ss.map I.int))]) (a7 (a:=[.v (.ow (.lst ((List.replicate d true).map I.bl)))]) (Z1:=[↑(.ref h),↑(.int d),↑p.i,↑(.int p.k),↑(.int p.w),↑(.tup (p.ss.map I.int))]) (G1:=G') (ck (mK (Z0:=[↑(.ref h),↑(.int d),↑p.i,↑(.int p.k),↑(.int p.w),↑(.tup (p.ss.map I.int))]) (by rfl) (w:=bj ⇑(.tup (p.ss.map I.int)) d) (jE (es:=[⇑(.tup (p.ss.map I.int))]) rfl (by simp [br,my,fR,pN,hp.ls])) (by show d≤100000;lia) (by rw [ed] at ec;exact ec)) rfl) ?_)
 exact y5f _ _ _
end
section
theorem we{κ':Type}[DecidableEq κ'](g k:κ')(x:I)(D:List (κ'×I)):cg ((g,x)::D) k=(decide (g=k)||cg D k):=rfl
theorem iP{κ':Type}[DecidableEq κ'](g k:κ')(x:I)(D:List (κ'×I)):az ((g,x)::D) k=if g=k then some x else az D k:=rfl
theorem wg{κ':Type}[DecidableEq κ'](k k':κ')(v:I):∀D:List (κ'×I),az (D.map λkv=>if kv.1=k then (kv.1,v) else kv) k'=if k=k' then (if cg D k then some v else none) else az D k'
 | []=>by simp [az,cg]
 | (g,x)::D=>by
  rw [z15,we,iP]
  have ih:=wg k k' v D
  by_cases hg:g=k
  ·subst hg
   rw [if_pos rfl,iP,ih]
   by_cases e:g=k'
   ·simp [e]
   ·simp [e]
  ·rw [if_neg hg,iP,ih]
   by_cases e:g=k'
   ·subst e
    simp [hg,Ne.symm hg]
   ·simp [hg,e]
theorem wj{κ':Type}[DecidableEq κ'](k k':κ')(v:I):∀D:List (κ'×I),cg D k=false->az (D++[(k,v)]) k'=if k=k' then some v else az D k'
 | [],_=>by simp [az]
 | (g,x)::D,h=>by
  rw [we] at h
  have h':=Bool.or_eq_false_iff.mp h
  have hg:¬ g=k:=of_decide_eq_false h'.1
  rw [List.cons_append,iP,iP,wj k k' v D h'.2]
  by_cases e:g=k'
  ·subst e
   rw [if_pos rfl,if_pos rfl,if_neg (Ne.symm hg)]
  ·rw [if_neg e,if_neg e]
theorem eP{κ':Type}[DecidableEq κ'](D:List (κ'×I))(k k':κ')(v:I):az (aE D k v) k'=if k=k' then some v else az D k':=by
 unfold aE
 split
 ·rename_i h
  rw [wg,if_pos h]
 ·rename_i h
  exact wj k k' v D (by simpa using h)
theorem lS{κ':Type}[DecidableEq κ'](D:List (κ'×I))(k:κ')(v:I):(aE D k v).length≤D.length+1:=by
 unfold aE
 split
 ·rw [z24];lia
 ·rw [z17];simp
noncomputable def ky(h p:Nat):List ai:=[.inl (h:Int),.inl (p:Int)]
theorem wm{h p h' p':Nat}(e:ky h p=ky h' p'):h=h'/\p=p':=by
 unfold ky at e
 simp at e
 exact⟨by lia,by lia⟩
noncomputable def dQ(gs:List Mk)(W:List Int)(d:Nat)(D:List (List ai×I)):Prop:=∀key v,az D key=some v->∃h p n,key=ky h p/\v=.int n/\y45 gs W d (h,p,n)
theorem dQ.ext{k:Nat}{gs g1:List Mk}{W:List Int}{d:Nat}{D:List (List ai×I)}(h:dQ gs W d D)(x:bg k gs g1):dQ g1 W d D:=λkey v e=>by
 obtain⟨a,b,n,e1,e2,q⟩:=h key v e
 exact⟨a,b,n,e1,e2,q.ext x⟩
theorem dQ.put{gs:List Mk}{W:List Int}{d:Nat}{D:List (List ai×I)}{a b:Nat}{n:Int}(h:dQ gs W d D)(q:y45 gs W d (a,b,n)):dQ gs W d (aE D (ky a b) (.int n)):=λkey v e=>by
 rw [eP] at e
 split at e
 ·rename_i z
  cases e
  exact⟨a,b,n,z.symm,rfl,q⟩
 ·exact h key v e
noncomputable def Hv(D:List (List ai×I))(a b:Nat):Prop:=∃v,az D (ky a b)=some v
theorem Hv.put{D:List (List ai×I)}{a b:Nat}(h:Hv D a b)(k:List ai)(v:I):Hv (aE D k v) a b:=by
 obtain⟨x,h⟩:=h
 unfold Hv
 rw [eP]
 split
 ·exact⟨v,rfl⟩
 ·exact⟨x,h⟩
theorem Eb(D:List (List ai×I))(a b:Nat)(v:I):Hv (aE D (ky a b) v) a b:=⟨v,by rw [eP,if_pos rfl]⟩
theorem Hv.get{gs:List Mk}{W:List Int}{d:Nat}{D:List (List ai×I)}{a b:Nat}(h:Hv D a b)(ok:dQ gs W d D):∃n,az D (ky a b)=some (.int n)/\y45 gs W d (a,b,n):=by
 obtain⟨v,h⟩:=h
 obtain⟨a',b',n,e1,e2,q⟩:=ok _ _ h
 obtain⟨rfl,rfl⟩:=wm e1
 exact⟨n,by rw [h,e2],q⟩
theorem wo:∀(ns acc:List Int),(acc++ns).Nodup->ns.foldl PyProof.Rows.step_dedup acc=acc++ns
 | [],acc,_=>by simp
 | n::ns,acc,h=>by
  rw [List.foldl_cons]
  have e:PyProof.Rows.step_dedup acc n=acc++[n]:=by
   unfold PyProof.Rows.step_dedup
   rw [if_neg]
   intro z
   obtain⟨x,hx,e⟩:=List.any_eq_true.mp z
   have e:x=n:=by simpa using e
   subst e
   exact (List.nodup_append.mp h).2.2 x hx x (by simp) rfl
  have h2:((acc++[n])++ns).Nodup:=by rw [z33];exact h
  rw [e,wo ns _ h2,z33]
  rfl
theorem ycc{ns:List Int}(h:ns.Nodup):mH ns=ns:=by
 unfold mH PyProof.Rows.firstMet
 have e:(List.range ns.length).map (λi=>ns.getD i 0)=ns:=by
  refine List.ext_getElem? λi=>?_
  rw [List.getElem?_map]
  by_cases hi:i<ns.length
  ·rw [List.getElem?_range hi,z13 hi]
   show some (ns.getD i 0)=_
   rw [List.getD_eq_getElem?_getD,z13 hi]
   rfl
  ·rw [List.getElem?_eq_none (by simp;lia),List.getElem?_eq_none (by lia)]
   rfl
 rw [e]
 exact wo ns [] (by simpa using h)
noncomputable def dD(h d:Nat)(ps:List Pth)(D:List (List ai×I))(v4 v5 v6:Option Vl):De:=[↑(.ref h),↑(.int (d:Nat)),↑(.tup (ps.map Pth.i)),some (.ow (.dit D)),v4,v5,v6]
theorem Ec{h d a b:Nat}{ps:List Pth}{D:List (List ai×I)}{v4:Option Vl}{n:Int}{y:I}{G:List M}(hl:D.length<1000000)(hv:az D (ky a b)=some y):oV fH (aa 3) (af (aa 5) (af (aa 6) ae)) (dD h d ps D v4 ↑(.tup [.int (a:Nat),.int (b:Nat)]) ↑(.int n)) G=some (⇑y,dD h d ps D v4 ↑(.tup [.int (a:Nat),.int (b:Nat)]) ↑(.int n),G):=by
 have hk:cQ (.tup [.int (a:Nat),.int (b:Nat)])=some (ky a b):=rfl
 refine a7 (a:=.s 3) (Z1:=dD h d ps D v4 ↑(.tup [.int (a:Nat),.int (b:Nat)]) ↑(.int n)) (G1:=G) rfl ?_
 refine (if_pos (show iG _ _ (.s 3)=true from rfl)).trans ?_
 refine a7 (a:=[⇑(.tup [.int (a:Nat),.int (b:Nat)]),⇑(.int n)]) (Z1:=dD h d ps D v4 ↑(.tup [.int (a:Nat),.int (b:Nat)]) ↑(.int n)) (G1:=G) rfl ?_
 unfold fH
 dsimp only
 rw [show pk (dD h d ps D v4 ↑(.tup [.int (a:Nat),.int (b:Nat)]) ↑(.int n)) G (.s 3)=some (.dit D) from rfl,hk]
 dsimp only
 rw [if_pos hl,hv]
theorem Ed{h d a b:Nat}{ps:List Pth}{D:List (List ai×I)}{v4:Option Vl}{n:Int}{G:List M}(hl:D.length<1000000)(hv:az D (ky a b)=none):oV fH (aa 3) (af (aa 5) (af (aa 6) ae)) (dD h d ps D v4 ↑(.tup [.int (a:Nat),.int (b:Nat)]) ↑(.int n)) G=some (⇑(.int n),dD h d ps (aE D (ky a b) (.int n)) v4 ↑(.tup [.int (a:Nat),.int (b:Nat)]) ↑(.int n),G):=by
 have hk:cQ (.tup [.int (a:Nat),.int (b:Nat)])=some (ky a b):=rfl
 refine a7 (a:=.s 3) (Z1:=dD h d ps D v4 ↑(.tup [.int (a:Nat),.int (b:Nat)]) ↑(.int n)) (G1:=G) rfl ?_
 refine (if_pos (show iG _ _ (.s 3)=true from rfl)).trans ?_
 refine a7 (a:=[⇑(.tup [.int (a:Nat),.int (b:Nat)]),⇑(.int n)]) (Z1:=dD h d ps D v4 ↑(.tup [.int (a:Nat),.int (b:Nat)]) ↑(.int n)) (G1:=G) rfl ?_
 unfold fH
 dsimp only
 rw [show pk (dD h d ps D v4 ↑(.tup [.int (a:Nat),.int (b:Nat)]) ↑(.int n)) G (.s 3)=some (.dit D) from rfl,hk]
 dsimp only
 rw [if_pos hl,hv]
 rfl
theorem lU(x:Int)(Z:De)(G:List M):k6 [⇑(.int x),⇑(.int x)] Z G=some (⇑(.bl false),Z,G):=by
 simp! []
theorem ybb{h d a b:Nat}{gs:List Mk}{W:List Int}{ps:List Pth}{D:List (List ai×I)}{v4:Option Vl}{n:Int}{G:List M}(nd:gs.Nodup)(hl:D.length<1000)(ok:dQ gs W d D)(q:y45 gs W d (a,b,n)) :
  ∃D',Dl (dD h d ps D v4 ↑(.tup [.int (a:Nat),.int (b:Nat)]) ↑(.int n)) G=some (.nx (dD h d ps D' v4 ↑(.tup [.int (a:Nat),.int (b:Nat)]) ↑(.int n)) G)/\dQ gs W d D'/\D'.length≤D.length+1/\(∀a b,Hv D a b->Hv D' a b)/\Hv D' a b:=by
 cases hv:az D (ky a b) with
 | none =>
  exact⟨_,dk (jD (cw (Ed (by lia) hv) rfl (lU n _ _))) rfl,ok.put q,lS _ _ _,λa b z=>z.put _ _,Eb _ _ _ _⟩
 | some y =>
  obtain⟨n',e,q'⟩:=Hv.get ⟨y,hv⟩ ok
  have en:n'=n:=q'.sl.uniq nd q.sl
  subst en
  rw [hv] at e
  cases e
  exact⟨D,dk (jD (cw (Ec (by lia) hv) rfl (lU n' _ _))) rfl,ok,by lia,λ_ _ z=>z,⟨_,hv⟩⟩
end
section
theorem dW{α:Type}{l:List α}{i:Nat}{a b:α}(h:l[i]?=some a)(m:b∈l.take (i+1)):b∈l.take i∨b=a:=by
 rw [List.take_succ,h] at m
 rcases z1d.mp m with m|m
 ·exact .inl m
 ·exact .inr (by simpa using m)
theorem yba{G:List M}{h g s d:Nat}{gs:List Mk}{W:List Int}{p:Pth}{ps:List Pth}{D:List (List ai×I)}{v5 v6:Option Vl}(S:HG G h g s gs)(hl:gs.length<80000)(hp:y47 gs W d p)(hd:d≤6)(dl:D.length<900)(ok:dQ gs W d D) :
  ∃D' gs' G' v5' v6',Dm (dD h d ps D ↑p.i v5 v6) G=some (.nx (dD h d ps D' ↑p.i v5' v6') G')/\HG G' h g s gs'/\bg 7 gs gs'/\Mor g s G G'/\dQ gs' W d D'/\D'.length≤D.length+13/\Hv D' d 0:=by
 obtain⟨T,gs',G1,e1,S1,x1,o1,td⟩:=vZ S hl hp hd
 have hG:(G1++[M.lst (T.map Pl.i)])[G1.length]?=some (.lst (T.map Pl.i)):=by simp
 have hat:∀(Z:De) (i:Nat),(bj ⇑(.ref G1.length) T.length).at_ i Z (G1++[M.lst (T.map Pl.i)])=(T[i]?).map Pl.i:=λZ i=>by
  show (sq Z _ ⇑(.ref G1.length)).bind _=_
  have:sq Z (G1++[M.lst (T.map Pl.i)]) ⇑(.ref G1.length)=some (T.map Pl.i):=by simp [sq,pk]
  rw [this]
  simp
 obtain⟨Z',G',ef,D',v5',v6',rfl,rfl,ok',dl',hs'⟩:=dC (w:=bj ⇑(.ref G1.length) T.length) (g:=cC [5,6]) (b:=Dl)
  (λi Z G'=>∃D' v5 v6,Z=dD h d ps D' ↑p.i v5 v6/\G'=G1++[M.lst (T.map Pl.i)]/\dQ gs' W d D'/\D'.length≤D.length+i/\∀e∈T.take i,Hv D' e.1 e.2.1)
  (λi Z G2 hi zz=>by
   obtain⟨D',v5,v6,hδ,hg,ok',dl',hs'⟩:=zz
   have hi:i<T.length:=hi
   subst hδ hg
   have le:=td.le
   have em:=z2d hi
   obtain⟨D2,e2,ok2,dl2,m2,h2⟩:=ybb (h:=h) (ps:=ps) (v4:=↑p.i) (G:=G1++[M.lst (T.map Pl.i)]) S1.nd (by lia) ok' (td.ok _ em)
   refine⟨Pl.i T[i],_,_,_,_,by rw [hat,z13 hi];rfl,rfl,e2,D2,_,_,rfl,rfl,ok2,by lia,λe he=>?_⟩
   rcases dW (z13 hi) he with q|q
   ·exact m2 _ _ (hs' e q)
   ·rw [q];exact h2)
  (λZ G2 zz=>by
   obtain⟨D',v5,v6,hδ,hg,_⟩:=zz
   subst hg
   show (match sq Z _ ⇑(.ref G1.length) with|some xs=>decide (xs.length≤_)|none=>false)=true
   have:sq Z (G1++[M.lst (T.map Pl.i)]) ⇑(.ref G1.length)=some (T.map Pl.i):=by simp [sq,pk]
   rw [this]
   simp)
  T.length 0 (dD h d ps D ↑p.i v5 v6) (G1++[M.lst (T.map Pl.i)]) (by simp [bj]) ⟨D,v5,v6,rfl,rfl,ok.ext x1,by lia,λe he=>by simp at he⟩
 have le:=td.le
 have dl':D'.length≤D.length+T.length:=dl'
 have hs':∀e∈T.take T.length,Hv D' e.1 e.2.1:=hs'
 rw [List.take_length] at hs'
 refine⟨D',gs',G1++[M.lst (T.map Pl.i)],v5',v6',?_,S1.app _,x1,o1.mor.trans (Mor.app _),ok',by lia,?_⟩
 ·refine eN (w:=bj ⇑(.ref G1.length) T.length) (Z1:=dD h d ps D ↑p.i v5 v6) (G1:=G1++[M.lst (T.map Pl.i)]) (lQ (xs:=T.map Pl.i) (a7 (a:=.v (.ow (.lst (T.map Pl.i)))) (Z1:=dD h d ps D ↑p.i v5 v6) (G1:=G1) (a7 (a:=[⇑(.ref h),⇑p.i]) (Z1:=dD h d ps D ↑p.i v5 v6) (G1:=G) rfl (eV rfl rfl e1)) rfl) rfl (by simp [sq,pk]) (by simp)) ef
 ·obtain⟨n,hn⟩:=td.on d (z12 _)
  rw [Nat.div_eq_of_lt hp.lt] at hn
  exact hs' _ hn
theorem Ee{ns:List Int}(h:ns.Nodup)(hl:ns.length≤4000)(Z:De)(G:List M):iJ [.v (.ow (.lst (ns.map I.int)))] Z G=some (⇑(.int ns.length),Z,G):=by
 unfold iJ
 dsimp only [pk]
 rw [uO]
 dsimp only
 rw [if_pos hl,ycc h]
theorem jJ{α:Type}(f:α->I)(xs:List α)(Z:De)(G:List M)(i:Nat):(bj ⇑(.tup (xs.map f)) xs.length).at_ i Z G=(xs[i]?).map f:=by
 simp [bj,sq]
theorem jK{α:Type}(f:α->I)(xs:List α)(Z:De)(G:List M):(bj ⇑(.tup (xs.map f)) xs.length).fin Z G=true:=by
 show decide ((xs.map f).length≤xs.length)=true
 simp
theorem jL{α:Type}{fe:Mo Ev}(f:α->I)(xs:List α){Z Z1:De}{G G1:List M}(h:fe Z G=some (⇑(.tup (xs.map f)),Z1,G1)):bC (one fe) br Z G=some (bj ⇑(.tup (xs.map f)) xs.length,[⇑(.tup (xs.map f))],Z1,G1):=by
 refine jE (es:=[⇑(.tup (xs.map f))]) (a7 h rfl) ?_
 simp [br,my,fR,pN]
theorem yb9{G:List M}{h g s d:Nat}{gs:List Mk}{W:List Int}{ps:List Pth}(S:HG G h g s gs)(hl:gs.length+7*ps.length<80000)(hps:∀p∈ps,y47 gs W d p)(hne:ps≠[])(hnd:(ps.map λp=>(p.k:Int)).Nodup)(hlen:ps.length≤64)(hd:d≤6)(hW:W.length=2 ^ d) :
  ∃n gs' G',vp [.im (.ref h),.im (.int (d:Nat)),.im (.tup (ps.map Pth.i))] G=some (.im (.int n),G')/\HG G' h g s gs'/\bg (7*ps.length) gs gs'/\Mor g s G G'/\Sl gs' d n W:=by
 have l0:0<ps.length:=List.length_pos_iff.mpr hne
 let Z0:De:=[↑(.ref h),↑(.int (d:Nat)),↑(.tup (ps.map Pth.i)),none,none,none,none]
 obtain⟨ds,G1,ec,ed,rfl⟩:=jY (w:=bj ⇑(.tup (ps.map Pth.i)) ps.length) (c:=c1) (tt:=ba) (te:=bd (af (aa 1) (af (aa 2) (af (aa 0) ae))) (bf 3 pU)) (di:=[↑(.ref h),↑(.int (d:Nat))]) (Z:=Z0)
  (λi acc G'=>acc=(List.replicate i true).map I.bl/\G'=G)
  (λi acc G1 hi zz=>by
   obtain⟨ea,eg⟩:=zz
   subst eg
   have hi:i<ps.length:=hi
   have e:=Ea S (hps _ (z2d hi)) hd
   exact⟨Pth.i ps[i],[Pth.i ps[i]],_,_,.bl true,_,G1,by rw [jJ,z13 hi];rfl,rfl,rfl,a7 (a:=[⇑(.ref h),⇑(.int (d:Nat)),⇑(Pth.i ps[i])]) (Z1:=[↑(Pth.i ps[i]),↑(.ref h),↑(.int (d:Nat))]) (G1:=G1) rfl (eV rfl rfl e),by rw [ea,List.replicate_succ',z26];rfl,rfl⟩)
  (λ_ _ _=>jK _ _ _ _) ps.length 0 [] G (by simp [bj]) ⟨rfl,rfl⟩
 obtain⟨ds2,G2,ec2,ed2,eg2⟩:=jY (w:=bj ⇑(.tup (ps.map Pth.i)) ps.length) (c:=c1) (tt:=ba) (te:=ak bc (aa 0) (ao (.int 0))) (di:=[]) (Z:=Z0)
  (λi acc G'=>acc=((ps.take i).map λp=>(p.k:Int)).map I.int/\G'=G1)
  (λi acc G2 hi zz=>by
   obtain⟨ea,eg⟩:=zz
   subst eg
   have hi:i<ps.length:=hi
   refine⟨Pth.i ps[i],[Pth.i ps[i]],_,_,.int (ps[i].k:Nat),[↑(Pth.i ps[i])],G2,by rw [jJ,z13 hi];rfl,rfl,rfl,?_,?_,rfl⟩
   ·simp! [Pth.i,iN]
   ·rw [ea,List.take_succ_eq_append_getElem hi,z26,z26];rfl)
  (λ_ _ _=>jK _ _ _ _) ps.length 0 [] G1 (by simp [bj]) ⟨rfl,rfl⟩
 have ed2:ds2=((ps.take ps.length).map λp=>(p.k:Int)).map I.int:=ed2
 rw [List.take_length] at ed2
 subst eg2
 rw [ed2] at ec2
 rw [ed] at ec
 obtain⟨Z',G',ef,D,gs',v4,v5,v6,rfl,S',x',o',ok,dl,hs⟩:=dC (w:=bj ⇑(.tup (ps.map Pth.i)) ps.length) (g:=aN 4) (b:=Dm)
  (λi Z G'=>∃D gs' v4 v5 v6,Z=dD h d ps D v4 v5 v6/\HG G' h g s gs'/\bg (7*i) gs gs'/\Mor g s G2 G'/\dQ gs' W d D/\D.length≤13*i/\(0<i->Hv D d 0))
  (λi Z G3 hi zz=>by
   obtain⟨D,gs3,v4,v5,v6,hδ,S3,x3,o3,ok,dl,hs⟩:=zz
   have hi:i<ps.length:=hi
   subst hδ
   have l3:=x3.len
   obtain⟨D4,gs4,G4,v5',v6',e4,S4,x4,o4,ok4,dl4,h4⟩:=yba (ps:=ps) (v5:=v5) (v6:=v6) S3 (by lia) ((hps _ (z2d hi)).ext x3) hd (by lia) ok
   exact⟨Pth.i ps[i],_,_,_,G4,by rw [jJ,z13 hi];rfl,rfl,e4,D4,gs4,_,v5',v6',rfl,S4,(x3.trans x4).le (by lia),o3.trans o4,ok4,by lia,λ_=>h4⟩)
  (λ_ _ _=>jK _ _ _ _) ps.length 0 (dD h d ps [] none none none) G2 (by simp [bj]) ⟨[],gs,none,none,none,rfl,S,bg.refl _,Mor.refl _ _ _,λkey v e=>(by cases e),by simp,λz=>by lia⟩
 have hs:0<ps.length->Hv D d 0:=hs
 obtain⟨n,hn,pn⟩:=(hs l0).get ok
 have sn:=pn.sl
 rw [show (bG W (0:Nat) d)=W from vY hW] at sn
 refine⟨n,gs',G',?_,S',x',o',sn⟩
 refine dB rfl ?_
 have e1:c7 (bC (one (aa 2)) br) [0,1] c1 ba (bd (af (aa 1) (af (aa 2) (af (aa 0) ae))) (bf 3 pU)) Z0 G2=some (.v (.ow (.lst ((List.replicate ps.length true).map I.bl))),Z0,G2) :=
  mK (Z0:=Z0) rfl (jL Pth.i ps rfl) (by show ps.length≤_;lia) ec
 have e2:c7 (bC (one (aa 2)) br) [] c1 ba (ak bc (aa 0) (ao (.int 0))) Z0 G2=some (.v (.ow (.lst ((ps.map λp=>(p.k:Int)).map I.int))),Z0,G2) :=
  mK (Z0:=Z0) rfl (jL Pth.i ps rfl) (by show ps.length≤_;lia) ec2
 refine aC (dk (Z1:=Z0) (G1:=G2) (lL (b:=true) (a7 (a7 (ck e1 rfl) (y5f _ _ _)) rfl)) rfl) ?_
 refine aC (dk (Z1:=Z0) (G1:=G2) (vw (Z1:=Z0) (G1:=G2) (lL (b:=true) (a7 (a:=⇑(.tup (ps.map Pth.i))) (Z1:=Z0) (G1:=G2) rfl ?_)) (jD (cw (lM e2 (Ee hnd (by simp;lia) _ _)) (y:=⇑(.int ps.length)) (Z2:=Z0) (G2:=G2) (by simp! [Z0]) (by simp! [])))) rfl) ?_
 ·cases ps with
  | nil=>exact absurd rfl hne
  | cons p ps=>rfl
 refine aC (cj (x:=.ow (.dit [])) (Z1:=Z0) (G1:=G2) rfl rfl) ?_
 refine aC (eN (Z1:=dD h d ps [] none none none) (G1:=G2) (jL Pth.i ps rfl) ef) ?_
 have hn':az D [.inl (d:Int),.inl 0]=some (.int n):=hn
 simp! [dD,hn']
end
section
noncomputable abbrev bJ(D ps:List (List ai×I)):List (List ai×I):=ps.foldl (λacc kv=>aE acc kv.1 kv.2) D
theorem wq{k:List ai}{v:I}:∀{ps D:List (List ai×I)},az (bJ D ps) k=some v->(k,v)∈ps∨az D k=some v
 | [],D,h=>.inr h
 | (a,b)::ps,D,h=>by
  rcases wq (ps:=ps) (D:=aE D a b) h with q|q
  ·exact .inl (z22 _ q)
  ·rw [eP] at q
   split at q
   ·rename_i e
    subst e
    cases q
    exact .inl List.mem_cons_self
   ·exact .inr q
theorem lV{k:List ai}:∀{ps D:List (List ai×I)},((∃v,az D k=some v)∨∃v,(k,v)∈ps)->∃v,az (bJ D ps) k=some v
 | [],D,h=>by
  rcases h with h|⟨_,h⟩
  ·exact h
  ·cases h
 | (a,b)::ps,D,h=>by
  refine lV (ps:=ps) (D:=aE D a b) ?_
  rcases h with⟨v,h⟩| ⟨v,h⟩
  ·refine .inl ?_
   rw [eP]
   split
   ·exact⟨_,rfl⟩
   ·exact⟨v,h⟩
  ·rcases z1b.mp h with e|h
   ·cases e
    exact .inl ⟨_,by rw [eP,if_pos rfl]⟩
   ·exact .inr ⟨v,h⟩
theorem pv:∀(ps D:List (List ai×I)),(bJ D ps).length≤D.length+ps.length
 | [],D=>by simp
 | (a,b)::ps,D=>by
  have h:=pv ps (aE D a b)
  have:=lS D a b
  show (bJ (aE D a b) ps).length≤_
  simp only [z29]
  lia
theorem Ef{D:List (List ai×I)}{a:List ai}{b:I}{kv:List ai×I}(h:kv∈aE D a b):kv=(a,b)∨kv∈D:=by
 unfold aE at h
 split at h
 ·obtain⟨x,hx,e⟩:=z2c.mp h
  split at e
  ·rename_i z
   exact .inl (by rw [<- e,z])
  ·exact .inr (by rw [<- e];exact hx)
 ·rcases z1d.mp h with q|q
  ·exact .inr q
  ·exact .inl (by simpa using q)
theorem pw{kv:List ai×I}:∀{ps D:List (List ai×I)},kv∈bJ D ps->kv∈ps∨kv∈D
 | [],D,h=>.inr h
 | (a,b)::ps,D,h=>by
  rcases pw (ps:=ps) (D:=aE D a b) h with q|q
  ·exact .inl (z22 _ q)
  ·rcases Ef q with q|q
   ·exact .inl (by rw [q];exact List.mem_cons_self)
   ·exact .inr q
theorem wt{k:List ai}{v:I}:∀{D:List (List ai×I)},az D k=some v->(k,v)∈D
 | [],h=>by cases h
 | (g,x)::D,h=>by
  rw [iP] at h
  split at h
  ·rename_i e
   subst e
   cases h
   exact List.mem_cons_self
  ·exact z22 _ (wt h)
theorem Eg{D:List (List ai×I)}{a:List ai}{b:I}(h:(D.map (·.1)).Nodup):((aE D a b).map (·.1)).Nodup:=by
 unfold aE
 split
 ·have:(D.map λkv=>if kv.1=a then (kv.1,b) else kv).map (·.1)=D.map (·.1):=by
   rw [z39]
   refine List.map_congr_left λx _=>?_
   show (if x.1=a then (x.1,b) else x).1=x.1
   split<;>rfl
  rw [this];exact h
 ·rename_i z
  rw [z26,List.nodup_append]
  refine⟨h,by simp,λx hx y hy e=>?_⟩
  subst e
  have hy:x=a:=by simpa using hy
  subst hy
  obtain⟨p,hp,e⟩:=z2c.mp hx
  exact z (List.any_eq_true.mpr ⟨p,hp,decide_eq_true e⟩)
theorem wu:∀{ps D:List (List ai×I)},(D.map (·.1)).Nodup->((bJ D ps).map (·.1)).Nodup
 | [],_,h=>h
 | (a,b)::ps,D,h=>wu (ps:=ps) (D:=aE D a b) (Eg h)
noncomputable def pz:List (List ai):=(List.range 7).flatMap λh=>(List.range (2 ^ (6-h))).map λp=>ky h p
theorem Eh:(pz.map dh).Nodup:=by decide +kernel
theorem wx{α β:Type}{f:α->β}:∀{l:List α} {a b:α},(l.map f).Nodup->a∈l->b∈l->f a=f b->a=b
 | x::l,a,b,nd,ha,hb,e=>by
  rw [z15,List.nodup_cons] at nd
  rcases z1b.mp ha with z|ha'
  ·subst z
   rcases z1b.mp hb with z|hb'
   ·exact z.symm
   ·exact absurd (by rw [e];exact List.mem_map_of_mem hb') nd.1
  ·rcases z1b.mp hb with z|hb'
   ·subst z
    exact absurd (by rw [<- e];exact List.mem_map_of_mem ha') nd.1
   ·exact wx nd.2 ha' hb' e
theorem wy:∀{ks:List (List ai)},ks.Nodup->(∀k∈ks,k∈pz)->(ks.map dh).Nodup
 | [],_,_=>.nil
 | k::ks,nd,h=>by
  rw [List.nodup_cons] at nd
  rw [z15,List.nodup_cons]
  refine⟨λz=>?_,wy nd.2 λx hx=>h x (z22 _ hx)⟩
  obtain⟨x,hx,e⟩:=z2c.mp z
  exact nd.1 (by rw [<- wx Eh (h x (z22 _ hx)) (h k List.mem_cons_self) e];exact hx)
theorem Ei{a b d:Nat}(hd:d≤6)(ha:a≤d)(hb:b<2 ^ (d-a)):ky a b∈pz:=by
 refine List.mem_flatMap.mpr ⟨a,List.mem_range.mpr (by lia),z2c.mpr ⟨b,List.mem_range.mpr (z19 hb (Nat.pow_le_pow_right (by decide) (by lia))),rfl⟩⟩
noncomputable def Pl.e(e:Pl):List ai×I:=(ky e.1 e.2.1,.int e.2.2)
theorem wz:∀T:List Pl,iI (T.map Pl.i)=some (T.map Pl.e)
 | []=>rfl
 | e::T=>by
  rw [z15,z15]
  show (match cQ (.tup [.int (e.1:Nat),.int (e.2.1:Nat)]),iI (T.map Pl.i) with|some k',some ps=>some ((k',I.int e.2.2)::ps)|_,_=>none)=_
  rw [wz T]
  rfl
theorem ye9{T:List Pl}(h:T.length≤1000)(Z:De)(G:List M):pR [.v (.ow (.lst (T.map Pl.i)))] Z G=some (.v (.ow (.dit (bJ [] (T.map Pl.e)))),Z,G):=by
 unfold pR
 dsimp only [pk]
 rw [wz]
 dsimp only
 rw [if_pos (by rw [z24];lia)]
theorem Ej{gs:List Mk}{W:List Int}{d:Nat}{T:List Pl}{D:List (List ai×I)}(hd:d≤6)(ok:∀e∈T,y45 gs W d e):jz D (bJ [] (T.map Pl.e))=true:=by
 unfold jz
 have hk:∀p∈bJ [] (T.map Pl.e),∃e∈T,p.1=ky e.1 e.2.1:=λp hp=>by
  rcases pw hp with q|q
  ·obtain⟨e,he,z⟩:=z2c.mp q
   exact⟨e,he,by rw [<- z];rfl⟩
  ·cases q
 have h1:(bJ [] (T.map Pl.e)).all (λp=>p.1.all lI)=true:=z35.mpr λp hp=>by
  obtain⟨e,_,z⟩:=hk p hp
  rw [z];rfl
 have h2:((bJ [] (T.map Pl.e)).map λp=>dh p.1).Nodup:=by
  have:((bJ [] (T.map Pl.e)).map λp=>dh p.1)=((bJ [] (T.map Pl.e)).map (·.1)).map dh:=by rw [z39];rfl
  rw [this]
  refine wy (wu .nil) λk hk'=>?_
  obtain⟨p,hp,rfl⟩:=z2c.mp hk'
  obtain⟨e,he,z⟩:=hk p hp
  rw [z]
  exact Ei hd (ok e he).le (ok e he).lt
 rw [h1,decide_eq_true h2]
 simp
noncomputable def bL(h d:Nat)(ps:List Pth)(j:Nat)(D:List (List ai×I))(v5 v6 v7 v8 v9 v10:Option Vl):De:=[↑(.ref h),↑(.int (d:Nat)),↑(.tup (ps.map Pth.i)),↑(.ref j),some (.ow (.dit D)),v5,v6,v7,v8,v9,v10]
noncomputable def pA(D:List (List ai×I))(d:Nat)(p:Pth):Prop:=(∀j,j≤d->Hv D j (p.k / 2 ^ j))/\∀j,j<d->Hv D j (cW (p.k / 2 ^ j))
theorem Ek{h d j:Nat}{ps:List Pth}{D more:List (List ai×I)}{v5 v6 v7 v8 v9 v10:Option Vl}{G:List M}(hl:D.length+more.length≤1000000)(hh:jz D more=true):iH [.s 4,.v (.ow (.dit more))] (bL h d ps j D v5 v6 v7 v8 v9 v10) G=some (⇑.non,bL h d ps j (bJ D more) v5 v6 v7 v8 v9 v10,G):=by
 unfold iH
 dsimp only
 rw [show pk (bL h d ps j D v5 v6 v7 v8 v9 v10) G (.s 4)=some (.dit D) from rfl]
 dsimp only
 rw [if_pos ⟨hl,hh⟩]
 rfl
theorem lW{G:List M}{h g s d j:Nat}{gs:List Mk}{W:List Int}{p:Pth}{ps:List Pth}{D:List (List ai×I)}{v6 v7 v8 v9 v10:Option Vl}(S:HG G h g s gs)(hl:gs.length<80000)(hp:y47 gs W d p)(hd:d≤6)(dl:D.length<900)(ok:dQ gs W d D) :
  ∃D' gs' G',Dq (bL h d ps j D ↑p.i v6 v7 v8 v9 v10) G=some (.nx (bL h d ps j D' ↑p.i v6 v7 v8 v9 v10) G')/\HG G' h g s gs'/\bg 7 gs gs'/\Oth g s G G'/\dQ gs' W d D'/\D'.length≤D.length+13/\(∀a b,Hv D a b->Hv D' a b)/\pA D' d p:=by
 obtain⟨T,gs',G1,e1,S1,x1,o1,td⟩:=vZ S hl hp hd
 have le:=td.le
 have lm:=pv (T.map Pl.e) []
 rw [z24] at lm
 have lm:(bJ [] (T.map Pl.e)).length≤0+T.length:=lm
 have ld:=pv (bJ [] (T.map Pl.e)) D
 have hs:∀e∈T,Hv (bJ D (bJ [] (T.map Pl.e))) e.1 e.2.1:=λe he=>by
  obtain⟨v,hv⟩:=lV (k:=ky e.1 e.2.1) (D:=[]) (ps:=T.map Pl.e) (.inr ⟨.int e.2.2,z2c.mpr ⟨e,he,rfl⟩⟩)
  exact lV (.inr ⟨v,wt hv⟩)
 refine⟨bJ D (bJ [] (T.map Pl.e)),gs',G1,?_,S1,x1,o1,λkey v e=>?_,by lia,λa b z=>lV (.inl z),λi hi=>?_,λi hi=>?_⟩
 ·refine xn (e:=⇑.non) ?_
  refine a7 (a:=.s 4) (Z1:=bL h d ps j D ↑p.i v6 v7 v8 v9 v10) (G1:=G) rfl ?_
  refine (if_pos (show iG _ _ (.s 4)=true from rfl)).trans ?_
  refine a7 (a:=[.v (.ow (.dit (bJ [] (T.map Pl.e))))]) (Z1:=bL h d ps j D ↑p.i v6 v7 v8 v9 v10) (G1:=G1) ?_ (Ek (by lia) (Ej hd td.ok))
  refine ck (es:=[]) (a7 (a:=[.v (.ow (.lst (T.map Pl.i)))]) (Z1:=bL h d ps j D ↑p.i v6 v7 v8 v9 v10) (G1:=G1) ?_ (ye9 (by lia) _ _)) rfl
  exact ck (es:=[]) (a7 (a:=[⇑(.ref h),⇑p.i]) (Z1:=bL h d ps j D ↑p.i v6 v7 v8 v9 v10) (G1:=G) rfl (eV rfl rfl e1)) rfl
 ·rcases wq e with q|q
  ·rcases pw q with q|q
   ·obtain⟨x,hx,z⟩:=z2c.mp q
    cases z
    exact⟨x.1,x.2.1,x.2.2,rfl,rfl,td.ok x hx⟩
   ·cases q
  ·exact ok.ext x1 key v q
 ·obtain⟨n,hn⟩:=td.on i hi
  exact hs _ hn
 ·obtain⟨n,hn⟩:=td.by_ i hi
  exact hs _ hn
end
section
theorem lX{fo fi fv:Mo Ev}{Z Z1 Z2 Z3 Z4:De}{G G1 G2 G3 G4:List M}{v o i:Ev}(hv:fv Z G=some (v,Z1,G1))(ho:fo Z1 G1=some (o,Z2,G2))(hi:fi Z2 G2=some (i,Z3,G3))(hp:dO [v,o,i] Z3 G3=some (Z4,G4)):cv fo fi fv Z G=some (.nx Z4 G4):=by
 unfold cv
 rw [show bd fv (λv=>bd fo λo=>bd fi λi=>rt [v,o,i]) Z G=some ([v,o,i],Z3,G3) from a7 hv (a7 ho (a7 hi rfl))]
 dsimp only
 rw [hp]
noncomputable def fK(gs:List Mk)(W:List Int)(d k i:Nat)(D:List (List ai×I)):Prop:=∀key v,az D key=some v->∃h p n,key=ky h p/\v=.int n/\h≤d/\p<2 ^ (d-h)/\((i<h/\p=k / 2 ^ h)∨Sl gs h n (bG W p h))
theorem fK.ext{m:Nat}{gs g1:List Mk}{W:List Int}{d k i:Nat}{D:List (List ai×I)}(h:fK gs W d k i D)(x:bg m gs g1):fK g1 W d k i D:=λkey v e=>by
 obtain⟨a,b,n,e1,e2,l1,l2,q⟩:=h key v e
 exact⟨a,b,n,e1,e2,l1,l2,q.imp id (·.ext x)⟩
theorem fK.start{gs:List Mk}{W:List Int}{d k:Nat}{D:List (List ai×I)}{x n:Int}(ok:dQ gs W d D)(hk:k<2 ^ d)(hW:W.length=2 ^ d)(ha:At gs n (.leaf x)):fK gs (W.set k x) d k 0 (aE D (ky 0 k) (.int n)):=λkey v e=>by
 rw [eP] at e
 split at e
 ·rename_i z
  cases e
  refine⟨0,k,n,z.symm,rfl,Nat.zero_le _,hk,.inr ?_⟩
  rw [pq (w:=x) (by rw [List.getElem?_set_self (by lia)])]
  exact⟨x,rfl,ha⟩
 ·rename_i z
  obtain⟨a,b,n',e1,e2,q⟩:=ok key v e
  refine⟨a,b,n',e1,e2,q.le,q.lt,?_⟩
  by_cases hb:b=k / 2 ^ a
  ·refine .inl ⟨?_,hb⟩
   rcases Nat.eq_zero_or_pos a with z0|z0
   ·subst z0
    rw [Nat.pow_zero,Nat.div_one] at hb
    subst hb
    exact absurd e1.symm z
   ·exact z0
  ·exact .inr (by rw [D5 (Ne.symm hb)];exact q.sl)
theorem fK.step{gs:List Mk}{W:List Int}{d k i:Nat}{D:List (List ai×I)}{n:Int}(h:fK gs W d k i D)(hk:k<2 ^ d)(hi:i<d)(s:Sl gs (i+1) n (bG W (k / 2 ^ (i+1)) (i+1))):fK gs W d k (i+1) (aE D (ky (i+1) (k / 2 ^ (i+1))) (.int n)):=λkey v e=>by
 rw [eP] at e
 split at e
 ·rename_i z
  cases e
  exact⟨i+1,_,n,z.symm,rfl,hi,D6 hk hi,.inr s⟩
 ·rename_i z
  obtain⟨a,b,n',e1,e2,l1,l2,q⟩:=h key v e
  refine⟨a,b,n',e1,e2,l1,l2,?_⟩
  rcases q with⟨q1,q2⟩| q
  ·refine .inl ⟨?_,q2⟩
   rcases Nat.lt_or_ge (i+1) a with y|y
   ·exact y
   ·obtain rfl:a=i+1:=by lia
    subst q2
    exact absurd e1.symm z
  ·exact .inr q
theorem fK.fin{gs:List Mk}{W:List Int}{d k:Nat}{D:List (List ai×I)}(h:fK gs W d k d D):dQ gs W d D:=λkey v e=>by
 obtain⟨a,b,n,e1,e2,l1,l2,q⟩:=h key v e
 refine⟨a,b,n,e1,e2,l1,l2,?_⟩
 rcases q with q|q
 ·have:=q.1;exact absurd l1 (by lia)
 ·exact q
theorem fK.get{gs:List Mk}{W:List Int}{d k i:Nat}{D:List (List ai×I)}{b:Nat}(h:fK gs W d k i D)(q:Hv D i b):∃n,az D (ky i b)=some (.int n)/\Sl gs i n (bG W b i):=by
 obtain⟨v,hv⟩:=q
 obtain⟨a,c,n,e1,e2,_,_,z⟩:=h _ _ hv
 obtain⟨rfl,rfl⟩:=wm e1
 refine⟨n,by rw [hv,e2],?_⟩
 rcases z with z|z
 ·have:=z.1;lia
 ·exact z
theorem pB{h d j a b:Nat}{ps:List Pth}{D:List (List ai×I)}{v5 v6 v7 v8 v9 v10:Option Vl}{n:Int}{G:List M}(hv:az D (ky a b)=some (.int n)):bc [.s 4,⇑(.tup [.int (a:Nat),.int (b:Nat)])] (bL h d ps j D v5 v6 v7 v8 v9 v10) G=some (⇑(.int n),bL h d ps j D v5 v6 v7 v8 v9 v10,G):=by
 have hv':az D [.inl (a:Int),.inl (b:Int)]=some (.int n):=hv
 simp! [bL,hv']
theorem wA{h d j:Nat}{ps:List Pth}{D:List (List ai×I)}{v5 v6 v7 v8 v9 v10:Option Vl}{x y:I}{k:List ai}{G:List M}(hl:D.length<1000000)(hk:cQ y=some k):dO [⇑x,.s 4,⇑y] (bL h d ps j D v5 v6 v7 v8 v9 v10) G=some (bL h d ps j (aE D k x) v5 v6 v7 v8 v9 v10,G):=by
 unfold dO
 dsimp only
 rw [show pk (bL h d ps j D v5 v6 v7 v8 v9 v10) G (.s 4)=some (.dit D) from rfl]
 dsimp only
 rw [hk]
 dsimp only
 rw [if_pos hl]
 rfl
theorem lY{G:List M}{h g s d j i k:Nat}{gs:List Mk}{W:List Int}{ps:List Pth}{D:List (List ai×I)}{v5 v7 v9 v10:Option Vl}(S:HG G h g s gs)(hl:gs.length<80000)(dl:D.length<100000)(st:fK gs W d k i D)(hk:k<2 ^ d)(hi:i<d)(h1:Hv D i (k / 2 ^ i))(h2:Hv D i (cW (k / 2 ^ i))) :
  ∃D' gs' G' v9' y488,Dn (bL h d ps j D v5 ↑(.int (k:Nat)) v7 ↑(.int (i:Nat)) v9 v10) G=some (.nx (bL h d ps j D' v5 ↑(.int (k:Nat)) v7 ↑(.int (i:Nat)) v9' y488) G')/\HG G' h g s gs'/\bg 1 gs gs'/\Oth g s G G'/\fK gs' W d k (i+1) D'/\(∀a b,Hv D a b->Hv D' a b)/\D'.length≤D.length+1:=by
 obtain⟨a,ea,sa⟩:=st.get h1
 obtain⟨b,eb,sb⟩:=st.get h2
 obtain⟨n,gs',G',e,S',x,o,s3⟩:=y55 S (by lia) sa sb
 rw [lR] at s3
 have hq:(k:Int) / 2 ^ i=((k / 2 ^ i:Nat):Int):=by push_cast;rfl
 have hr:((k / 2 ^ i:Nat):Int) / 2=((k / 2 ^ (i+1):Nat):Int):=by rw [<- lR];push_cast;rfl
 have hx:=vW (k / 2 ^ i)
 refine⟨aE D (ky (i+1) (k / 2 ^ (i+1))) (.int n),gs',G',↑(.int (k / 2 ^ i:Nat)),↑(.int n),?_,S',x,o,(st.ext x).step hk hi s3,λa b z=>z.put _ _,lS _ _ _⟩
 obtain⟨q,eq⟩:∃q,k / 2 ^ i=q:=⟨_,rfl⟩
 obtain⟨r,er⟩:∃r,k / 2 ^ (i+1)=r:=⟨_,rfl⟩
 obtain⟨c,ec⟩:∃c,cW (k / 2 ^ i)=c:=⟨_,rfl⟩
 rw [ec] at hx eb
 rw [er] at hr ⊢
 rw [eq] at hq hr hx e ea ⊢
 refine aC (cj (x:=.im (.int (q:Nat))) (Z1:=bL h d ps j D v5 ↑(.int (k:Nat)) v7 ↑(.int (i:Nat)) v9 v10) (G1:=G) (by simp! [bL,hq]) rfl) ?_
 have f1:ak bc (aa 4) (bd (af (aa 8) (af (aa 9) ae)) bF) (bL h d ps j D v5 ↑(.int (k:Nat)) v7 ↑(.int (i:Nat)) ↑(.int (q:Nat)) v10) G=some (⇑(.int a),bL h d ps j D v5 ↑(.int (k:Nat)) v7 ↑(.int (i:Nat)) ↑(.int (q:Nat)) v10,G):=cw (x:=.s 4) rfl rfl (pB ea)
 have f2:ak bc (aa 4) (bd (af (aa 8) (af (ak ie (aa 9) (ao (.int 1))) ae)) bF) (bL h d ps j D v5 ↑(.int (k:Nat)) v7 ↑(.int (i:Nat)) ↑(.int (q:Nat)) v10) G=some (⇑(.int b),bL h d ps j D v5 ↑(.int (k:Nat)) v7 ↑(.int (i:Nat)) ↑(.int (q:Nat)) v10,G) :=
  cw (x:=.s 4) (y:=⇑(.tup [.int (i:Nat),.int (c:Nat)])) (Z2:=bL h d ps j D v5 ↑(.int (k:Nat)) v7 ↑(.int (i:Nat)) ↑(.int (q:Nat)) v10) (G2:=G) rfl (by simp! [bL,ie,hx]) (pB eb)
 refine aC (cj (x:=.im (.int n)) (Z1:=bL h d ps j D v5 ↑(.int (k:Nat)) v7 ↑(.int (i:Nat)) ↑(.int (q:Nat)) v10) (G1:=G') (a7 (ck rfl (ck rfl (ck f1 (ck f2 rfl)))) (eV rfl rfl e)) rfl) ?_
 refine lX (v:=⇑(.int n)) (o:=.s 4) (i:=⇑(.tup [.int ((i+1:Nat):Int),.int (r:Nat)])) (Z3:=bL h d ps j D v5 ↑(.int (k:Nat)) v7 ↑(.int (i:Nat)) ↑(.int (q:Nat)) ↑(.int n)) (G3:=G') rfl rfl (by simp! [bL,hr]) (wA (by lia) rfl)
theorem jM{G:List M}{h g s d j k:Nat}{gs:List Mk}{W:List Int}{x:Int}{ps:List Pth}{D:List (List ai×I)}{v5 v8 v9 v10:Option Vl}(S:HG G h g s gs)(hl:gs.length<70000)(dl:D.length<90000)(ok:dQ gs W d D)(hk:k<2 ^ d)(hW:W.length=2 ^ d)(hd:d≤6)(h1:∀i,i≤d->Hv D i (k / 2 ^ i))(h2:∀i,i<d->Hv D i (cW (k / 2 ^ i))) :
  ∃D' gs' G' v8' v9' y488,Dp (bL h d ps j D v5 ↑(.int (k:Nat)) ↑(.int x) v8 v9 v10) G=some (.nx (bL h d ps j D' v5 ↑(.int (k:Nat)) ↑(.int x) v8' v9' y488) G')/\HG G' h g s gs'/\bg 7 gs gs'/\Oth g s G G'/\dQ gs' (W.set k x) d D'/\(∀a b,Hv D a b->Hv D' a b)/\D'.length≤D.length+7:=by
 obtain⟨n,gs1,G1,e1,S1,a1,x1,o1⟩:=pd (w:=x) S (by lia)
 obtain⟨Z',G',ef,D',gs',v8',v9',y488,rfl,S',x',o',st',mo,dl'⟩:=dC (w:=dP d) (g:=aN 8) (b:=Dn)
  (λi Z G'=>∃D' gs' v8 v9 v10,Z=bL h d ps j D' v5 ↑(.int (k:Nat)) ↑(.int x) v8 v9 v10/\HG G' h g s gs'/\bg (1+i) gs gs'/\Oth g s G G'/\fK gs' (W.set k x) d k i D'/\(∀a b,Hv D a b->Hv D' a b)/\D'.length≤D.length+1+i)
  (λi Z G2 hi zz=>by
   obtain⟨D2,gs2,v8,v9,v10,hδ,S2,x2,o2,st,mo,dl2⟩:=zz
   have hi:i<d:=hi
   subst hδ
   have l2:=x2.len
   obtain⟨D3,gs3,G3,v9',y488,e3,S3,x3,o3,st3,mo3,dl3⟩:=lY (j:=j) (ps:=ps) (v5:=v5) (v7:=↑(.int x)) (v9:=v9) (v10:=v10) S2 (by lia) (by lia) st hk hi (mo _ _ (h1 i (by lia))) (mo _ _ (h2 i hi))
   exact⟨.int i,_,_,_,G3,rfl,rfl,e3,D3,gs3,_,v9',y488,rfl,S3,x2.trans x3,o2.trans o3,st3,λa b z=>mo3 a b (mo a b z),by lia⟩)
  (λ_ _ _=>rfl) d 0 (bL h d ps j (aE D (ky 0 k) (.int n)) v5 ↑(.int (k:Nat)) ↑(.int x) v8 v9 v10) G1 (by simp [dP])
  ⟨_,gs1,v8,v9,v10,rfl,S1,x1,o1,fK.start (ok.ext x1) hk hW a1,λa b z=>z.put _ _,lS _ _ _⟩
 have x':bg (1+d) gs gs':=x'
 have dl':D'.length≤D.length+1+d:=dl'
 refine⟨D',gs',G',v8',v9',y488,?_,S',x'.le (by lia),o',fK.fin st',mo,by lia⟩
 refine aC (Z1:=bL h d ps j (aE D (ky 0 k) (.int n)) v5 ↑(.int (k:Nat)) ↑(.int x) v8 v9 v10) (G1:=G1) (lX (v:=⇑(.int n)) (o:=.s 4) (i:=⇑(.tup [.int 0,.int (k:Nat)])) (Z1:=bL h d ps j D v5 ↑(.int (k:Nat)) ↑(.int x) v8 v9 v10) (G1:=G1) (by simp! [bL,S.ob,jG,e1]) rfl rfl (wA (by lia) rfl)) ?_
 exact eN (w:=dP d) (Z1:=bL h d ps j (aE D (ky 0 k) (.int n)) v5 ↑(.int (k:Nat)) ↑(.int x) v8 v9 v10) (G1:=G1) (iM (n:=d) (j:=(d:Int)) rfl rfl (by lia)) ef
end
section
noncomputable def bh(W:List Int)(kvs:List (Nat×Int)):List Int:=kvs.foldl (λW q=>W.set q.1 q.2) W
theorem lZ:∀(kvs:List (Nat×Int)) (W:List Int),(bh W kvs).length=W.length
 | [],_=>rfl
 | q::kvs,W=>by
  show (bh (W.set q.1 q.2) kvs).length=_
  rw [lZ kvs,z31]
theorem wB(W:List Int)(kvs:List (Nat×Int))(q:Nat×Int):bh W (kvs++[q])=(bh W kvs).set q.1 q.2:=by
 unfold bh
 rw [List.foldl_append]
 rfl
noncomputable def bM(q:Nat×Int):ai×I:=(.inl (q.1:Int),.int q.2)
theorem HG.set{G:List M}{h g s j:Nat}{gs:List Mk}{m:M}(S:HG G h g s gs)(n1:j≠h)(n2:j≠g)(n3:j≠s):HG (G.set j m) h g s gs :=
 ⟨by rw [z1e n1];exact S.ob,by rw [z1e n2];exact S.gl,by rw [z1e n3];exact S.sd,S.n1,S.n2,S.n3,S.nd⟩
theorem El{fe:Mo Ev}{g:GF}{b:SF}{Z Z1 Z2:De}{G G1 G2:List M}{j:Nat}{kvs y1f2:List (ai×I)}(h1:fe Z G=some (⇑(.ref j),Z1,G1))(h2:G1[j]?=some (.dic kvs))(h3:aY (mG kvs) g b 0 kvs.length Z1 (G1.set j (.fdi kvs))=some (.nx Z2 G2))(h4:G2[j]?=some (.fdi y1f2)):iF fe g b Z G=some (.nx Z2 (G2.set j (.dic y1f2))):=by
 unfold iF
 rw [h1]
 dsimp only
 rw [h2]
 dsimp only
 rw [h3]
 dsimp only
 rw [h4]
theorem mM{G:List M}{h g s d j:Nat}{gs:List Mk}{W:List Int}{ps:List Pth}{kvs:List (Nat×Int)}(S:HG G h g s gs)(hl:gs.length<60000)(hps:∀p∈ps,y47 gs W d p)(hne:ps≠[])(hlen:ps.length≤64)(hkl:kvs.length≤64)(hd:d≤6)(hW:W.length=2 ^ d)
  (hj:G[j]?=some (.dic (kvs.map bM))) (n1:j≠h) (n2:j≠g) (n3:j≠s) (hk:∀q∈kvs,∃p∈ps,p.k=q.1) :
  ∃n gs' G',vq [.im (.ref h),.im (.int (d:Nat)),.im (.tup (ps.map Pth.i)),.im (.ref j)] G=some (.im (.int n),G')/\HG G' h g s gs'/\bg 896 gs gs'/\Oth g s G G'/\Sl gs' d n (bh W kvs):=by
 have l0:0<ps.length:=List.length_pos_iff.mpr hne
 obtain⟨Z1,G1,ef,D1,gs1,v5,rfl,S1,x1,o1,ok1,dl1,pr1⟩:=dC (w:=bj ⇑(.tup (ps.map Pth.i)) ps.length) (g:=aN 5) (b:=Dq)
  (λi Z G'=>∃D gs' v5,Z=bL h d ps j D v5 none none none none none/\HG G' h g s gs'/\bg (7*i) gs gs'/\Oth g s G G'/\dQ gs' W d D/\D.length≤13*i/\∀p∈ps.take i,pA D d p)
  (λi Z G3 hi zz=>by
   obtain⟨D,gs3,v5,hδ,S3,x3,o3,ok,dl,hs⟩:=zz
   have hi:i<ps.length:=hi
   subst hδ
   have l3:=x3.len
   obtain⟨D4,gs4,G4,e4,S4,x4,o4,ok4,dl4,mo,pr⟩:=lW (ps:=ps) (j:=j) (v6:=none) (v7:=none) (v8:=none) (v9:=none) (v10:=none) S3 (by lia) ((hps _ (z2d hi)).ext x3) hd (by lia) ok
   refine⟨Pth.i ps[i],_,_,_,G4,by rw [jJ,z13 hi];rfl,rfl,e4,D4,gs4,_,rfl,S4,(x3.trans x4).le (by lia),o3.trans o4,ok4,by lia,λp hp=>?_⟩
   rcases dW (z13 hi) hp with q|q
   ·exact⟨λi hi=>mo _ _ ((hs p q).1 i hi),λi hi=>mo _ _ ((hs p q).2 i hi)⟩
   ·rw [q];exact pr)
  (λ_ _ _=>jK _ _ _ _) ps.length 0 (bL h d ps j [] none none none none none none) G (by simp [bj]) ⟨[],gs,none,rfl,S,bg.refl _,Oth.refl _ _ _,λkey v e=>(by cases e),by simp,λp hp=>by simp at hp⟩
 have x1:bg (7*ps.length) gs gs1:=x1
 have dl1:D1.length≤13*ps.length:=dl1
 have pr1:∀p∈ps.take ps.length,pA D1 d p:=pr1
 rw [List.take_length] at pr1
 have j1:G1[j]?=some (.dic (kvs.map bM)):=by rw [o1.at_ j n2 n3];exact hj
 have S1':HG (G1.set j (.fdi (kvs.map bM))) h g s gs1:=S1.set n1 n2 n3
 have m1:=x1.len
 obtain⟨Z2,G2,ef2,D2,gs2,v6',v7',v8',v9',y488,rfl,S2,x2,o2,ok2,dl2,mo2⟩:=dC (w:=mG (kvs.map bM)) (g:=cC [6,7]) (b:=Dp)
  (λi Z G'=>∃D gs' v6 v7 v8 v9 v10,Z=bL h d ps j D v5 v6 v7 v8 v9 v10/\HG G' h g s gs'/\bg (7*ps.length+7*i) gs gs'/\Oth g s (G1.set j (.fdi (kvs.map bM))) G'/\dQ gs' (bh W (kvs.take i)) d D/\D.length≤13*ps.length+7*i/\(∀a b,Hv D1 a b->Hv D a b))
  (λi Z G3 hi zz=>by
   obtain⟨D,gs3,v6,v7,v8,v9,v10,hδ,S3,x3,o3,ok,dl,mo⟩:=zz
   have hi:i<(kvs.map bM).length:=hi
   rw [z24] at hi
   subst hδ
   have l3:=x3.len
   obtain⟨p,hp,ep⟩:=hk _ (z2d hi)
   have pr:=pr1 p hp
   have lt:=(hps p hp).lt
   rw [ep] at lt
   obtain⟨D4,gs4,G4,v8',v9',y488,e4,S4,x4,o4,ok4,mo4,dl4⟩:=jM (k:=kvs[i].1) (x:=kvs[i].2) (ps:=ps) (j:=j) (v5:=v5) (v8:=v8) (v9:=v9) (v10:=v10) S3 (by lia) (by lia) ok lt (by rw [lZ];exact hW) hd
    (λi' hi'=>by rw [<- ep];exact mo _ _ (pr.1 i' hi')) (λi' hi'=>by rw [<- ep];exact mo _ _ (pr.2 i' hi'))
   refine⟨.tup [.int (kvs[i].1:Nat),.int kvs[i].2],_,_,_,G4,?_,rfl,e4,D4,gs4,_,_,v8',v9',y488,rfl,S4,(x3.trans x4).le (by lia),o3.trans o4,?_,by lia,λa b z=>mo4 a b (mo a b z)⟩
   ·show ((kvs.map bM)[i]?).map _=_
    rw [List.getElem?_map,z13 hi]
    rfl
   ·rw [List.take_succ_eq_append_getElem hi,wB];exact ok4)
  (λ_ _ _=>rfl) (kvs.map bM).length 0 (bL h d ps j D1 v5 none none none none none) (G1.set j (.fdi (kvs.map bM))) (by simp [mG]) ⟨D1,gs1,none,none,none,none,none,rfl,S1',x1,Oth.refl _ _ _,ok1,by lia,λ_ _ z=>z⟩
 have en:(mG (kvs.map bM)).n=kvs.length:=by show (kvs.map bM).length=_;rw [z24]
 rw [en] at x2 ok2 dl2
 rw [List.take_length] at ok2
 have hm:ps[0]'l0∈ps:=z2d l0
 have h0:=mo2 _ _ ((pr1 _ hm).1 d (z12 _))
 rw [Nat.div_eq_of_lt (hps _ hm).lt] at h0
 obtain⟨n,hn,pn⟩:=h0.get ok2
 have sn:=pn.sl
 rw [show (bG (bh W kvs) (0:Nat) d)=bh W kvs from vY (by rw [lZ];exact hW)] at sn
 have j2:G2[j]?=some (.fdi (kvs.map bM)):=by rw [o2.at_ j n2 n3];exact eO j1
 refine⟨n,gs2,G2.set j (.dic (kvs.map bM)),?_,S2.set n1 n2 n3,x2.le (by lia),⟨?_,λa ha hb=>?_⟩,sn⟩
 ·refine dB rfl ?_
  refine aC (cj (x:=.ow (.dit [])) (Z1:=[↑(.ref h),↑(.int (d:Nat)),↑(.tup (ps.map Pth.i)),↑(.ref j),none,none,none,none,none,none,none]) (G1:=G) rfl rfl) ?_
  refine aC (eN (Z1:=bL h d ps j [] none none none none none none) (G1:=G) (jL Pth.i ps rfl) ef) ?_
  refine aC (El (Z1:=bL h d ps j D1 v5 none none none none none) (G1:=G1) rfl j1 ef2 j2) ?_
  exact lK (cw (x:=.s 4) (y:=⇑(.tup [.int (d:Nat),.int ((0:Nat):Int)])) rfl rfl (pB hn))
 ·rw [z31,o2.len,z31,o1.len]
 ·by_cases e:a=j
  ·subst e
   rw [eO j2,hj]
  ·rw [z1e (Ne.symm e),o2.at_ a ha hb,z1e (Ne.symm e),o1.at_ a ha hb]
end
section
variable {d l h g s:Nat}{G:List M}{gs:List Mk}
noncomputable def eQ(k:Nat):I:=.int (k:Int)
noncomputable def eR(d h:Nat)(sl:Int)(dp:Nat)(most:Int)(left:List Nat)(ps:List Pth)(v7 v8:Option Vl):De:=[↑(.ref d),↑(.ref h),↑(.int sl),↑(.int (dp:Nat)),↑(.int most),↥(left.map eQ),↥(ps.map Pth.i),v7,v8]
theorem wC{α β:Type}(f:α->β):∀(l:List α) (i:Nat),(l.map f).eraseIdx i=(l.eraseIdx i).map f
 | [],_=>rfl
 | _::_,0=>rfl
 | x::l,i+1=>by rw [z15,List.eraseIdx_cons_succ,List.eraseIdx_cons_succ,z15,wC f l i]
theorem l8{α:Type}:∀{l:List α} {i:Nat} {a:α},a∈l.eraseIdx i->a∈l
 | [],_,_,h=>by simp at h
 | _::_,0,_,h=>z22 _ h
 | x::l,i+1,a,h=>by
  rw [List.eraseIdx_cons_succ] at h
  rcases z1b.mp h with e|h
  ·rw [e];exact List.mem_cons_self
  ·exact z22 _ (l8 h)
theorem wD{α:Type}:∀{l:List α} {i:Nat} (hi:i<l.length),l.Nodup->(l.eraseIdx i).Nodup/\l[i]∉l.eraseIdx i
 | x::l,0,_,nd=>by rw [List.nodup_cons] at nd;exact⟨nd.2,nd.1⟩
 | x::l,i+1,hi,nd=>by
  rw [List.nodup_cons] at nd
  have hi':i<l.length:=by simpa using hi
  obtain⟨h1,h2⟩:=wD hi' nd.2
  rw [List.eraseIdx_cons_succ,List.nodup_cons]
  refine⟨⟨λz=>nd.1 (l8 z),h1⟩,λz=>?_⟩
  rw [List.getElem_cons_succ] at z
  rcases z1b.mp z with e|z
  ·exact nd.1 (by rw [<- e];exact z2d hi')
  ·exact h2 z
theorem Em{W:List Int}{dp k:Nat}{sl:Int}(S:HG G h g s gs)(hS:Sl gs dp sl W)(hd:dp≤6)(hk:k<2 ^ dp)(hr:∀f∈W,Wr f):∃p:Pth,p.k=k/\y47 gs W dp p/\lJ [.im (.ref h),.im (.int sl),.im (.int (dp:Nat)),.im (.int (k:Nat))] G=some (.im (.tup [.int p.w,.tup (p.ss.map I.int)]),G):=by
 obtain⟨w,ss,e1,e2,e3,e4⟩:=DY hS hk
 have e:=DS (n:=sl) (k:=k) S (show dp≤100 by lia)
 rw [e1] at e
 exact⟨⟨k,w,ss⟩,rfl,⟨hk,e2,hr _ (z2e e2),e3,e4⟩,e⟩
theorem En{W:List Int}{dp:Nat}{sl most:Int}{left:List Nat}{ps:List Pth}{v7 v8:Option Vl}(Wo:Wd d l h g s G gs)(hS:Sl gs dp sl W)(hd:dp≤6)(hr:∀f∈W,Wr f)(nd:left.Nodup)(l0:0<left.length)(l1:left.length≤64)(hlt:∀k∈left,k<2 ^ dp)(pl:ps.length<100) :
  ∃(i:Nat) (hi:i<left.length) (p:Pth) (G':List M) (v8':Option Vl),Dj (eR d h sl dp most left ps v7 v8) G=some (.nx (eR d h sl dp most (left.eraseIdx i) (ps++[p]) v7 v8') G')/\p.k=left[i]/\y47 gs W dp p/\Wd d l h g s G' gs:=by
 obtain⟨r,G1,e1,r0,r1,W1⟩:=Wo.draw (many:=left.length) (by lia) (Int.lt_of_le_of_lt (Int.ofNat_le.mpr l1) (by decide))
 obtain⟨i,rfl⟩:=Int.eq_ofNat_of_zero_le r0
 have hi:i<left.length:=by lia
 obtain⟨p,ep,pk,e2⟩:=Em W1.S hS hd (hlt _ (z2d hi)) hr
 have hat:(left.map eQ)[i]?=some (.int (p.k:Nat)):=by rw [List.getElem?_map,z13 hi,ep];rfl
 rw [<- ep] at e2
 refine⟨i,hi,p,G1,↑(.int (p.k:Nat)),?_,ep,pk,W1⟩
 have b1:(i:Int)<1000000:=by lia
 have p1:ps.length<1000000:=by lia
 have er:(left.map eQ).eraseIdx i=(left.eraseIdx i).map eQ:=wC eQ left i
 refine aC (cj (x:=.im (.int (p.k:Nat))) (Z1:=eR d h sl dp most (left.eraseIdx i) ps v7 v8) (G1:=G1) ?_ rfl) ?_
 ·refine y86 (e:=.s 5) (Z1:=eR d h sl dp most left ps v7 v8) (G1:=G) rfl rfl (es:=[⇑(.int (i:Nat))]) (Z2:=eR d h sl dp most left ps v7 v8) (G2:=G1) ?_ ?_
  ·refine ck (es:=[]) (a7 (a:=[⇑(.ref d),⇑(.int left.length)]) (Z1:=eR d h sl dp most left ps v7 v8) (G1:=G) ?_ (eV rfl rfl e1)) rfl
   simp! [eR]
  ·unfold jB
   dsimp only
   rw [show B.pk (eR d h sl dp most left ps v7 v8) G1 (.s 5)=some (.lst (left.map eQ)) from rfl]
   dsimp only
   rw [if_pos ⟨r0,b1⟩,show ((i:Int).toNat)=i from Int.toNat_natCast i,hat,er]
   rfl
 ·refine xn (e:=⇑.non) ?_
  refine y86 (e:=.s 6) (Z1:=eR d h sl dp most (left.eraseIdx i) ps v7 ↑(.int (p.k:Nat))) (G1:=G1) rfl rfl (es:=[⇑p.i]) (Z2:=eR d h sl dp most (left.eraseIdx i) ps v7 ↑(.int (p.k:Nat))) (G2:=G1) ?_ ?_
  ·refine ck (es:=[]) (cw (x:=⇑(.tup [.int (p.k:Nat)])) (Z1:=eR d h sl dp most (left.eraseIdx i) ps v7 ↑(.int (p.k:Nat))) (G1:=G1) rfl (a7 (a:=[⇑(.ref h),⇑(.int sl),⇑(.int (dp:Nat)),⇑(.int (p.k:Nat))]) (Z1:=eR d h sl dp most (left.eraseIdx i) ps v7 ↑(.int (p.k:Nat))) (G1:=G1) rfl (eV rfl rfl e2)) ?_) rfl
   simp [eU,eF,ou,bB,kS,kU,Pth.i]
  ·simp [jr,eR,B.pk,dU,p1]
theorem Eo{W:List Int}{dp:Nat}{sl most:Int}(Wo:Wd d l h g s G gs)(hS:Sl gs dp sl W)(hd:dp≤6)(hr:∀f∈W,Wr f)(m0:0<most)(m1:most≤64) :
  ∃(ps:List Pth) (G':List M),xl [.im (.ref d),.im (.ref h),.im (.int sl),.im (.int (dp:Nat)),.im (.int most)] G=some (.ow (.lst (ps.map Pth.i)),G')/\(∀p∈ps,y47 gs W dp p)/\ps≠[]/\(ps.map λp=>(p.k:Int)).Nodup/\ps.length≤64/\Wd d l h g s G' gs:=by
 obtain⟨N,hN⟩:∃N,2 ^ dp=N:=⟨_,rfl⟩
 have p6:(2:Nat) ^ dp≤2 ^ 6:=Nat.pow_le_pow_right (by decide) hd
 have p6:2 ^ dp≤64:=p6
 have p0:0<2 ^ dp:=Nat.two_pow_pos dp
 obtain⟨r,G1,e1,r0,r1,W1⟩:=Wo.draw (many:=most) m0 (Int.lt_of_le_of_lt m1 (by decide))
 obtain⟨c,rfl⟩:=Int.eq_ofNat_of_zero_le r0
 obtain⟨n,hn⟩:∃n,n=min N (1+c):=⟨_,rfl⟩
 have n0:0<n:=by lia
 have n1:n≤N:=by lia
 have rl:(List.range N).map (λi=>I.int (i:Nat))=(List.range N).map eQ:=rfl
 obtain⟨Z',G',ef,left,ps,v7,v8,rfl,W',nd,ll,lt,pl,ok,pn,dj⟩:=dC (w:=dP n) (g:=aN 7) (b:=Dj)
  (λi Z G'=>∃left ps v7 v8,Z=eR d h sl dp most left ps v7 v8/\Wd d l h g s G' gs/\left.Nodup/\left.length+i=N/\(∀k∈left,k<2 ^ dp)/\ps.length=i/\(∀p∈ps,y47 gs W dp p)/\(ps.map λp=>(p.k:Int)).Nodup/\∀p∈ps,p.k∉left)
  (λi Z G2 hi zz=>by
   obtain⟨left,ps,v7,v8,hδ,W2,nd,ll,lt,pl,ok,pn,dj⟩:=zz
   have hi:i<n:=hi
   subst hδ
   obtain⟨m,hm,p,G3,v8',e3,ep,pk,W3⟩:=En (most:=most) (ps:=ps) (v7:=↑(.int i)) (v8:=v8) W2 hS hd hr nd (by lia) (by lia) lt (by lia)
   obtain⟨nd1,nd2⟩:=wD hm nd
   refine⟨.int i,_,_,_,G3,rfl,rfl,e3,left.eraseIdx m,ps++[p],_,v8',rfl,W3,nd1,?_,λk hk=>lt k (l8 hk),?_,λq hq=>?_,?_,λq hq=>?_⟩
   ·rw [List.length_eraseIdx_of_lt hm];lia
   ·rw [z17,pl];rfl
   ·rcases z1d.mp hq with z|z
    ·exact ok q z
    ·rw [z28.mp z];exact pk
   ·rw [z26,List.nodup_append]
    refine⟨pn,by simp,λx hx y hy e=>?_⟩
    subst e
    obtain⟨q,hq,eq⟩:=z2c.mp hx
    have hy:x=(p.k:Int):=by simpa using hy
    have:q.k=p.k:=by have:=eq.trans hy;lia
    exact dj q hq (by rw [this,ep];exact z2d hm)
   ·rcases z1d.mp hq with z|z
    ·exact λy=>dj q z (l8 y)
    ·rw [z28.mp z,ep];exact nd2)
  (λ_ _ _=>rfl) n 0 (eR d h sl dp most (List.range N) [] none none) G1 (by simp [dP]) ⟨List.range N,[],none,none,rfl,W1,List.nodup_range,by simp,λk hk=>by rw [hN];exact List.mem_range.mp hk,rfl,λp hp=>(nomatch hp),.nil,λp hp=>(nomatch hp)⟩
 have pl:ps.length=n:=pl
 refine⟨ps,G',?_,ok,λz=>by rw [z] at pl;simp at pl;lia,pn,by lia,W'⟩
 have q1:(2:Int) ^ dp=(N:Int):=by rw [<- hN];push_cast;rfl
 have q5:(dp:Int)≤1000000:=by lia
 refine dB rfl ?_
 refine aC (cj (x:=.ow (.lst ((List.range N).map eQ))) (Z1:=[↑(.ref d),↑(.ref h),↑(.int sl),↑(.int (dp:Nat)),↑(.int most),none,none,none,none]) (G1:=G) ?_ rfl) ?_
 ·refine lM (x:=⇑(.int (N:Int))) (Z1:=[↑(.ref d),↑(.ref h),↑(.int sl),↑(.int (dp:Nat)),↑(.int most),none,none,none,none]) (G1:=G) (by simp! [q5,q1]) ?_
  unfold jC
  dsimp only
  rw [if_pos (by lia),Int.toNat_natCast]
  rfl
 refine aC (cj (x:=.ow (.lst [])) (Z1:=[↑(.ref d),↑(.ref h),↑(.int sl),↑(.int (dp:Nat)),↑(.int most),↥((List.range N).map eQ),none,none,none]) (G1:=G) rfl rfl) ?_
 refine aC (eN (w:=dP n) (Z1:=eR d h sl dp most (List.range N) [] none none) (G1:=G1) (iM (n:=n) (j:=(n:Int)) ?_ rfl (by lia)) ef) ?_
 ·have hm:min (N:Int) (1+(c:Int))=(n:Int):=by lia
  refine ck (es:=[]) (a7 (a:=[⇑(.int (N:Int)),⇑(.int (1+(c:Int)))]) (Z1:=eR d h sl dp most (List.range N) [] none none) (G1:=G1) (by simp! [eR,e1]) ?_) rfl
  simp [oH,bB]
  split<;>lia
 simp! [eR]
end
section
theorem l9{G:List M}{h g s:Nat}{gs:List Mk}(S:HG G h g s gs):∀{f d:Nat} {n:Int} {ws:List Int},d<f->Sl gs d n ws->iL f [.im (.ref h),.ow (.lst (ws.map I.int))] G=some (.im (.int n),G)
 | 0,_,_,_,hf,_=>by lia
 | f+1,0,n,ws,hf,⟨w,e,a⟩=>by
  subst e
  have e:=vU S a
  simp! [iL,iN,S.ob,jG,e]
 | f+1,d+1,n,ws,hf,⟨a,b,l,r,e,l1,l2,at_,s1,s2⟩=>by
  have ia:=l9 (f:=f) S (by lia) s1
  have ib:=l9 (f:=f) S (by lia) s2
  have e2:=vV S at_
  have p0:0<2 ^ d:=Nat.two_pow_pos d
  have lw:ws.length=2*2 ^ d:=by rw [e,z17];lia
  have c1:gx (ws.map I.int) none (some ((2 ^ d:Nat):Int))=l.map I.int:=by rw [DT,<- List.map_take,e,<- l1,List.take_left'];rfl
  have c2:gx (ws.map I.int) (some ((2 ^ d:Nat):Int)) none=r.map I.int:=by rw [yc0 (by simp;lia),<- List.map_drop,e,<- l1,List.drop_left'];rfl
  obtain⟨N,hN⟩:∃N,2 ^ d=N:=⟨_,rfl⟩
  rw [hN] at p0 lw c1 c2
  have h1:¬ ((ws.length:Int)=1):=by lia
  have h2:(ws.length:Int) / 2=(N:Int):=by lia
  refine dB rfl ?_
  refine aC (dk (Z1:=[↑(.ref h),↥(ws.map I.int),none,none]) (G1:=G) (by simp! [];lia) rfl) ?_
  refine aC (cj (x:=.im (.int N)) (Z1:=[↑(.ref h),↥(ws.map I.int),none,none]) (G1:=G) (by simp! [h2]) rfl) ?_
  refine aC (cj (x:=.im (.int a)) (Z1:=[↑(.ref h),↥(ws.map I.int),↑(.int N),none]) (G1:=G) (by simp! [df,cR,cF,gw,fz,cu,c1,ia]) rfl) ?_
  simp! [df,cR,cF,gw,fz,cu,c2,ib,S.ob,jH,e2]
theorem Ep{G:List M}{h g s c:Nat}{gs:List Mk}{d:Nat}{n:Int}{ws:List Int}(S:HG G h g s gs)(hd:d≤6)(hc:G[c]?=some (.lst (ws.map I.int)))(hS:Sl gs d n ws):iL 8 [.im (.ref h),.im (.ref c)] G=some (.im (.int n),G):=by
 match d,hd,hS with
 | 0,_,⟨w,e,a⟩ =>
  subst e
  have e:=vU S a
  simp! [iL,iN,S.ob,jG,e,hc]
 | d+1,hd,⟨a,b,l,r,e,l1,l2,at_,s1,s2⟩ =>
  have ia:=l9 (f:=7) S (by lia) s1
  have ib:=l9 (f:=7) S (by lia) s2
  have e2:=vV S at_
  have p0:0<2 ^ d:=Nat.two_pow_pos d
  have lw:ws.length=2*2 ^ d:=by rw [e,z17];lia
  have c1:gx (ws.map I.int) none (some ((2 ^ d:Nat):Int))=l.map I.int:=by rw [DT,<- List.map_take,e,<- l1,List.take_left'];rfl
  have c2:gx (ws.map I.int) (some ((2 ^ d:Nat):Int)) none=r.map I.int:=by rw [yc0 (by simp;lia),<- List.map_drop,e,<- l1,List.drop_left'];rfl
  obtain⟨N,hN⟩:∃N,2 ^ d=N:=⟨_,rfl⟩
  rw [hN] at p0 lw c1 c2
  have h1:¬ ((ws.length:Int)=1):=by lia
  have h2:(ws.length:Int) / 2=(N:Int):=by lia
  refine dB rfl ?_
  refine aC (dk (Z1:=[↑(.ref h),↑(.ref c),none,none]) (G1:=G) (by simp! [hc];lia) rfl) ?_
  refine aC (cj (x:=.im (.int N)) (Z1:=[↑(.ref h),↑(.ref c),none,none]) (G1:=G) (by simp! [h2,hc]) rfl) ?_
  refine aC (cj (x:=.im (.int a)) (Z1:=[↑(.ref h),↑(.ref c),↑(.int N),none]) (G1:=G) (by simp! [df,cR,cF,gw,fz,cu,c1,ia,hc]) rfl) ?_
  simp! [df,cR,cF,gw,fz,cu,c2,ib,S.ob,jH,e2,hc]
end
section
variable {d l h g s j:Nat}{G:List M}{gs:List Mk}
structure Wj(d l h g s j:Nat)(G:List M)(gs:List Mk)(kvs:List (Nat×Int)):Prop where
 W:Wd d l h g s G gs
 dj:G[j]?=some (.dic (kvs.map bM))
 m1:j≠d
 m2:j≠l
 m3:j≠h
 m4:j≠g
 m5:j≠s
theorem Wd.app(W:Wd d l h g s G gs)(T:List M):Wd d l h g s (G++T) gs:=⟨W.D.app T,W.S.app T,W.n1,W.n2,W.n3,W.n4,W.n5,W.n6⟩
theorem Wd.new(W:Wd d l h g s G gs):Wj d l h g s G.length (G++[.dic []]) gs []:=by
 obtain⟨a1,a2⟩:=W.D.lt
 obtain⟨b1,b2,b3⟩:=W.S.lt
 exact⟨W.app _,by simp,by lia,by lia,by lia,by lia,by lia⟩
theorem Wj.draw{kvs:List (Nat×Int)}{many:Int}(W:Wj d l h g s j G gs kvs)(h0:0<many)(h1:many<2 ^ 100):∃r G',cB [.im (.ref d),.im (.int many)] G=some (.im (.int r),G')/\0≤r/\r<many/\Wj d l h g s j G' gs kvs:=by
 obtain⟨r,G',e,a,b,D,o⟩:=lN W.W.D h0 h1
 exact⟨r,G',e,a,b,W.W.ofD D o.mor,by rw [o.at_ j W.m1 W.m2];exact W.dj,W.m1,W.m2,W.m3,W.m4,W.m5⟩
theorem Wj.word{kvs:List (Nat×Int)}(W:Wj d l h g s j G gs kvs):∃w G',iK [.im (.ref d)] G=some (.im (.int w),G')/\Wj d l h g s j G' gs kvs:=by
 obtain⟨r,G',e,_,D,o⟩:=vR W.W.D
 exact⟨r,G',e,W.W.ofD D o.mor,by rw [o.at_ j W.m1 W.m2];exact W.dj,W.m1,W.m2,W.m3,W.m4,W.m5⟩
theorem Wj.set{kvs y1f1:List (Nat×Int)}(W:Wj d l h g s j G gs kvs):Wj d l h g s j (G.set j (.dic (y1f1.map bM))) gs y1f1:=by
 obtain⟨a,n,ms,D⟩:=W.W.D
 refine⟨⟨⟨a,n,ms,by rw [z1e W.m1];exact D.dc,by rw [z1e W.m2];exact D.lc,D.ne,D.a0,D.a1,D.n0,D.m0⟩,W.W.S.set W.m3 W.m4 W.m5,W.W.n1,W.W.n2,W.W.n3,W.W.n4,W.W.n5,W.W.n6⟩,eO W.dj,W.m1,W.m2,W.m3,W.m4,W.m5⟩
theorem Wj.ofS{kvs:List (Nat×Int)}{G':List M}{gs':List Mk}(W:Wj d l h g s j G gs kvs)(S:HG G' h g s gs')(o:Mor g s G G'):Wj d l h g s j G' gs' kvs :=
 ⟨W.W.ofS S o,by rw [o.at_ j (z14.mp W.dj).1 W.m4 W.m5];exact W.dj,W.m1,W.m2,W.m3,W.m4,W.m5⟩
theorem Wj.app{kvs:List (Nat×Int)}(W:Wj d l h g s j G gs kvs)(T:List M):Wj d l h g s j (G++T) gs kvs:=⟨W.W.app T,by rw [z21 (z14.mp W.dj).1];exact W.dj,W.m1,W.m2,W.m3,W.m4,W.m5⟩
theorem wF{kvs:List (Nat×Int)}{k:Nat}(h:∀q∈kvs,q.1≠k):cg (kvs.map bM) (Sum.inl (k:Int):ai)=false:=by
 unfold cg
 rw [List.any_eq_false]
 intro x hx e
 obtain⟨q,hq,rfl⟩:=z2c.mp hx
 have e:(Sum.inl (q.1:Int):ai)=Sum.inl (k:Int):=of_decide_eq_true e
 injection e with e
 exact h q hq (by lia)
theorem Er{kvs:List (Nat×Int)}{k:Nat}{x:Int}(h:∀q∈kvs,q.1≠k):aE (kvs.map bM) (Sum.inl (k:Int):ai) (.int x)=(kvs++[(k,x)]).map bM:=by
 unfold aE
 rw [wF h,z26]
 rfl
theorem wG:∀{kvs:List (Nat×Int)} {k:Nat} {x:Int},(kvs.map (·.1)).Nodup->(k,x)∈kvs->az (kvs.map bM) (Sum.inl (k:Int):ai)=some (.int x)
 | (a,b)::kvs,k,x,nd,h=>by
  rw [z15,List.nodup_cons] at nd
  rw [z15]
  show (if (Sum.inl (a:Int):ai)=Sum.inl (k:Int) then some (I.int b) else az (kvs.map bM) (Sum.inl (k:Int):ai))=_
  rcases z1b.mp h with e|h
  ·cases e;rw [if_pos rfl]
  ·rw [if_neg,wG nd.2 h]
   intro e
   injection e with e
   have e:a=k:=by lia
   subst e
   exact nd.1 (z2c.mpr ⟨_,h,rfl⟩)
theorem wH{kvs:List (Nat×Int)}(nd:(kvs.map (·.1)).Nodup):∀{r:List (Nat×Int)},(∀q∈r,q∈kvs)->oS (kvs.map bM) (r.map bM)=true
 | [],_=>rfl
 | (k,x)::r,h=>by
  rw [z15]
  show (match az (kvs.map bM) (Sum.inl (k:Int):ai) with|none=>false|some y=>de (.int x) y&&oS (kvs.map bM) (r.map bM))=true
  rw [wG nd (h _ List.mem_cons_self)]
  show ((x == x)&&oS (kvs.map bM) (r.map bM))=true
  rw [wH nd λq hq=>h q (z22 _ hq)]
  simp
theorem Es(kvs:List (Nat×Int)):(kvs.map bM).all (λp=>b6 p.2)=true:=z35.mpr λp hp=>by
 obtain⟨q,_,rfl⟩:=z2c.mp hp
 rfl
noncomputable def cX(d h:Nat)(W:List Int)(sl:Int)(dp:Nat)(ps:List Pth)(j:Nat)(cur:List Int)(v8 v9 v10 v11:Option Vl):De:=[↑(.ref d),↑(.ref h),↑(.tup (W.map I.int)),↑(.int sl),↑(.int (dp:Nat)),↑(.tup (ps.map Pth.i)),↑(.ref j),↥(cur.map I.int),v8,v9,v10,v11]
theorem Et{n i:Nat}(h:i<n):iT n (i:Int)=some i:=by
 unfold iT
 rw [if_pos (by lia),if_pos (by lia),Int.toNat_natCast]
theorem Eu{W cur:List Int}{sl w:Int}{dp k:Nat}{ps:List Pth}{kvs:List (Nat×Int)}{v10 v11:Option Vl}(Wo:Wj d l h g s j G gs kvs)(w0:0<W.length)(kl:kvs.length<1000)(hc:k<cur.length)(hn:∀q∈kvs,q.1≠k) :
  ∃y1f1 ybc G',xm (cX d h W sl dp ps j cur ↑(.int (k:Nat)) ↑(.int w) v10 v11) G=some (.nx (cX d h W sl dp ps j ybc ↑(.int (k:Nat)) ↑(.int w) v10 v11) G')/\Wj d l h g s j G' gs y1f1/\((y1f1=kvs/\ybc=cur)∨∃x,y1f1=kvs++[(k,x)]/\ybc=cur.set k x):=by
 obtain⟨r,G1,e1,r0,r1,W1⟩:=Wo.draw (many:=3) (by decide) (by decide)
 by_cases z:0<r
 ·obtain⟨y,G2,e2,W2⟩:=W1.word
  obtain⟨c,G3,e3,c0,c1,W3⟩:=W2.draw (many:=3) (by decide) (by decide)
  have hx:dm (W.map I.int) 0=some (.int (W[0]'w0)):=jQ (j:=0) (by rw [List.getElem?_map,z13 w0];rfl)
  obtain⟨x,ex⟩:∃x:Int,ak bc (bd (af (aa 9) (af (bd (af (aa 0) ae) (bf 1 iK)) (af (ak bc (aa 2) (ao (.int 0))) ae))) b8) (bd (af (aa 0) (af (ao (.int 3)) ae)) (bf 2 cB)) (cX d h W sl dp ps j cur ↑(.int (k:Nat)) ↑(.int w) v10 v11) G1=some (⇑(.int x),cX d h W sl dp ps j cur ↑(.int (k:Nat)) ↑(.int w) v10 v11,G3):=by
   rcases (show c=0∨c=1∨c=2 by lia) with z|z|z
   ·subst z;exact⟨w,by simp! [cX,e2,e3,hx,iN]⟩
   ·subst z;exact⟨y,by simp! [cX,e2,e3,hx,mL]⟩
   ·subst z;exact⟨W[0]'w0,by simp! [cX,e2,e3,hx,vQ]⟩
  have pt:=Er (x:=x) hn
  have W4:Wj d l h g s j (G3.set j (.dic ((kvs++[(k,x)]).map bM))) gs (kvs++[(k,x)]):=W3.set
  have vl:az ((kvs++[(k,x)]).map bM) (Sum.inl (k:Int):ai)=some (.int x):=by rw [<- pt,eP,if_pos rfl]
  refine⟨_,cur.set k x,_,?_,W4,.inr ⟨x,rfl,rfl⟩⟩
  refine oZ (Z1:=cX d h W sl dp ps j cur ↑(.int (k:Nat)) ↑(.int w) v10 v11) (G1:=G1) (by simp! [cX,e1,z]) ?_
  refine aC (lX (o:=⇑(.ref j)) (i:=⇑(.int (k:Nat))) (Z4:=cX d h W sl dp ps j cur ↑(.int (k:Nat)) ↑(.int w) v10 v11) (G4:=G3.set j (.dic ((kvs++[(k,x)]).map bM))) ex rfl rfl ?_) ?_
  ·have l1:kvs.length<1000000:=by lia
   simp only [dO,pk,W3.dj,dv,z24,l1,if_true,dU,pt]
  ·refine lX (v:=⇑(.int x)) (o:=.s 7) (i:=⇑(.int (k:Nat))) (Z1:=cX d h W sl dp ps j cur ↑(.int (k:Nat)) ↑(.int w) v10 v11) (G1:=G3.set j (.dic ((kvs++[(k,x)]).map bM))) (Z2:=cX d h W sl dp ps j cur ↑(.int (k:Nat)) ↑(.int w) v10 v11) (G2:=G3.set j (.dic ((kvs++[(k,x)]).map bM))) (Z3:=cX d h W sl dp ps j cur ↑(.int (k:Nat)) ↑(.int w) v10 v11) (G3:=G3.set j (.dic ((kvs++[(k,x)]).map bM))) (cw (x:=⇑(.ref j)) (y:=⇑(.int (k:Nat))) rfl rfl ?_) rfl rfl ?_
   ·simp only [bc,eF,ik,lr,eK,sq,pk,W4.dj,dv,Option.map_some,vl]
   ·simp only [dO]
    rw [show pk (cX d h W sl dp ps j cur ↑(.int (k:Nat)) ↑(.int w) v10 v11) (G3.set j (.dic ((kvs++[(k,x)]).map bM))) (.s 7)=some (.lst (cur.map I.int)) from rfl]
    dsimp only
    rw [z24,Et hc]
    dsimp only
    rw [show (cur.map I.int).set k (.int x)=(cur.set k x).map I.int by rw [List.map_set]]
    rfl
 ·exact⟨kvs,cur,G1,dk (Z1:=cX d h W sl dp ps j cur ↑(.int (k:Nat)) ↑(.int w) v10 v11) (G1:=G1) (by simp! [cX,e1,z]) rfl,W1,.inl ⟨rfl,rfl⟩⟩
end
section
variable {d l h g s j:Nat}{G:List M}{gs:List Mk}
theorem Ew{W:List Int}{sl:Int}{dp:Nat}{ps:List Pth}(Wo:Wj d l h g s j G gs [])(hW:W.length=2 ^ dp)(hps:∀p∈ps,y47 gs W dp p)(hnd:(ps.map λp=>(p.k:Int)).Nodup)(hlen:ps.length≤64) :
  ∃kvs G' v8 v9 v10,aY (bj ⇑(.tup (ps.map Pth.i)) ps.length) (cC [8,9,10]) xm 0 ps.length (cX d h W sl dp ps j W none none none none) G=some (.nx (cX d h W sl dp ps j (bh W kvs) v8 v9 v10 none) G')/\Wj d l h g s j G' gs kvs/\kvs.length≤64/\(∀q∈kvs,∃p∈ps,p.k=q.1)/\(kvs.map (·.1)).Nodup:=by
 have w0:0<W.length:=by rw [hW];exact Nat.two_pow_pos dp
 obtain⟨Z',G',ef,kvs,v8,v9,v10,rfl,W',kl,kp,nd⟩:=dC (w:=bj ⇑(.tup (ps.map Pth.i)) ps.length) (g:=cC [8,9,10]) (b:=xm)
  (λi Z G'=>∃kvs v8 v9 v10,Z=cX d h W sl dp ps j (bh W kvs) v8 v9 v10 none/\Wj d l h g s j G' gs kvs/\kvs.length≤i/\(∀q∈kvs,∃p∈ps.take i,p.k=q.1)/\(kvs.map (·.1)).Nodup)
  (λi Z G2 hi zz=>by
   obtain⟨kvs,v8,v9,v10,hδ,W2,kl,kp,nd⟩:=zz
   have hi:i<ps.length:=hi
   subst hδ
   have pk:=hps _ (z2d hi)
   have hn:∀q∈kvs,q.1≠ps[i].k:=λq hq e=>by
    obtain⟨p,hp,ep⟩:=kp q hq
    obtain⟨m,hm,e2⟩:=List.mem_take_iff_getElem.mp hp
    have hm1:m<i:=by lia
    have hm2:m<ps.length:=by lia
    have:(ps.map λp=>(p.k:Int))[m]'(by simpa using hm2)=(ps.map λp=>(p.k:Int))[i]'(by simpa using hi):=by
     rw [List.getElem_map,List.getElem_map,e2,ep,e]
    exact (List.pairwise_iff_getElem.mp hnd) m i (by simpa using hm2) (by simpa using hi) hm1 this
   obtain⟨y1f1,ybc,G3,e3,W3,q⟩:=Eu (cur:=bh W kvs) (k:=ps[i].k) (w:=ps[i].w) (sl:=sl) (dp:=dp) (ps:=ps) (v10:=↑(.tup (ps[i].ss.map I.int))) (v11:=none) W2 w0 (by lia) (by rw [lZ,hW];exact pk.lt) hn
   have hcur:ybc=bh W y1f1:=by
    rcases q with⟨q1,q2⟩| ⟨x,q1,q2⟩
    ·rw [q1,q2]
    ·rw [q1,q2,wB]
   subst hcur
   refine⟨Pth.i ps[i],_,_,_,G3,by rw [jJ,z13 hi];rfl,rfl,e3,y1f1,_,_,_,rfl,W3,?_,λq' hq'=>?_,?_⟩
   ·rcases q with⟨q1,q2⟩| ⟨x,q1,q2⟩
    ·rw [q1];lia
    ·rw [q1,z17];simp;lia
   ·have old:∀q∈kvs,∃p∈ps.take (i+1),p.k=q.1:=λq hq=>by
     obtain⟨p,hp,e⟩:=kp q hq
     exact⟨p,by rw [List.take_succ];exact List.mem_append_left _ hp,e⟩
    rcases q with⟨q1,q2⟩| ⟨x,q1,q2⟩
    ·rw [q1] at hq';exact old q' hq'
    ·rw [q1] at hq'
     rcases z1d.mp hq' with z|z
     ·exact old q' z
     ·rw [z28.mp z]
      exact⟨ps[i],by rw [List.take_succ_eq_append_getElem hi];exact z20 _ (z28.mpr rfl),rfl⟩
   ·rcases q with⟨q1,q2⟩| ⟨x,q1,q2⟩
    ·rw [q1];exact nd
    ·rw [q1,z26,List.nodup_append]
     refine⟨nd,by simp,λa ha b hb e=>?_⟩
     subst e
     obtain⟨q,hq,e⟩:=z2c.mp ha
     exact hn q hq (by rw [e];simpa using hb))
  (λ_ _ _=>jK _ _ _ _) ps.length 0 (cX d h W sl dp ps j W none none none none) G (by simp [bj]) ⟨[],none,none,none,rfl,Wo,by simp,λq hq=>(nomatch hq),.nil⟩
 have kl:kvs.length≤ps.length:=kl
 have kp:∀q∈kvs,∃p∈ps.take ps.length,p.k=q.1:=kp
 rw [List.take_length] at kp
 exact⟨kvs,G',v8,v9,v10,ef,W',by lia,kp,nd⟩
theorem wI(x:Int)(Z:De)(G:List M):fu [⇑(.int x),⇑(.int x)] Z G=some (⇑(.bl true),Z,G):=by
 simp! []
theorem y63{fa fb:Mo Ev}{Z Z1:De}{G G1:List M}{r:Option (Ev×De×List M)}(ha:fa Z G=some (⇑(.bl true),Z1,G1))(hb:fb Z1 G1=r):vf fa fb Z G=r:=a7 ha (by show fb Z1 G1=r;exact hb)
theorem wJ{W:List Int}{sl:Int}{dp:Nat}(Wo:Wd d l h g s G gs)(hS:Sl gs dp sl W)(hd:dp≤6)(hr:∀f∈W,Wr f)(hl:gs.length<40000) :
  ∃gs' G',vt [.im (.ref d),.im (.ref h),.im (.tup (W.map I.int)),.im (.int sl),.im (.int (dp:Nat))] G=some (.im (.bl true),G')/\Wd d l h g s G' gs'/\bg 2688 gs gs':=by
 have hW:=hS.len
 have p6:(2:Nat) ^ dp≤2 ^ 6:=Nat.pow_le_pow_right (by decide) hd
 have p6:2 ^ dp≤64:=p6
 have p0:0<2 ^ dp:=Nat.two_pow_pos dp
 obtain⟨N,hN⟩:∃N,2 ^ dp=N:=⟨_,rfl⟩
 have q1:(2:Int) ^ dp=(N:Int):=by rw [<- hN];push_cast;rfl
 have q5:(dp:Int)≤1000000:=by lia
 rw [hN] at p6 p0
 let D0:De:=[↑(.ref d),↑(.ref h),↑(.tup (W.map I.int)),↑(.int sl),↑(.int (dp:Nat)),none,none,none,none,none,none,none]
 obtain⟨r,G1,e1,r0,r1,W1⟩:=Wo.draw (many:=2) (by decide) (by decide)
 obtain⟨most,m0,m1,em⟩:∃most:Int,0<most/\most≤64/\ak bc (bd (af (ao (.int 8)) (af (ak du (ao (.int 1)) (aa 4)) ae)) b8) (bd (af (aa 0) (af (ao (.int 2)) ae)) (bf 2 cB)) D0 G=some (⇑(.int most),D0,G1):=by
  rcases (show r=0∨r=1 by lia) with z|z
  ·subst z;exact⟨8,by decide,by decide,by simp! [D0,e1,q5,q1,iN]⟩
  ·subst z;exact⟨(N:Int),by lia,by lia,by simp! [D0,e1,q5,q1,mL]⟩
 obtain⟨ps,G2,e2,hps,hne,hnd,hlen,W2⟩:=Eo W1 hS hd hr m0 m1
 have J2:=W2.new
 obtain⟨kvs,G3,v8,v9,v10,e3,J3,kl,kp,knd⟩:=Ew (sl:=sl) (W:=W) J2 hW hps hnd hlen
 obtain⟨n4,gs4,G4,e4,S4,x4,o4,s4⟩:=yb9 J3.W.S (by lia) hps hne hnd hlen hd hW
 have E4:=s4.uniq S4.nd (hS.ext x4)
 subst E4
 have J4:=J3.ofS S4 o4
 have l4:=x4.len
 obtain⟨n5,gs5,G5,e5,S5,x5,o5,s5⟩:=mM J4.W.S (by lia) (λp hp=>(hps p hp).ext x4) hne hlen kl hd hW J4.dj J4.m3 J4.m4 J4.m5 kp
 have J5:=(J4.ofS S5 o5.mor).app [M.lst ((bh W kvs).map I.int)]
 have l5:=x5.len
 have e6:=Ep (c:=G5.length) J5.W.S hd (by simp) s5
 have J6:=J5.W.new
 obtain⟨n7,gs7,G7,e7,S7,x7,o7,s7⟩:=mM (kvs:=[]) J6.W.S (by lia) (λp hp=>((hps p hp).ext x4).ext x5) hne hlen (by simp) hd hW J6.dj J6.m3 J6.m4 J6.m5 (λq hq=>(nomatch hq))
 have E7:=s7.uniq S7.nd (((hS.ext x4).ext x5).ext x7)
 subst E7
 have J7:=J6.W.ofS S7 o7.mor
 have l7:=x7.len
 obtain⟨n8,gs8,G8,e8,S8,x8,o8,s8⟩:=yb9 J7.S (by lia) (λp hp=>(((hps p hp).ext x4).ext x5).ext x7) hne hnd hlen hd hW
 have E8:=s8.uniq S8.nd ((((hS.ext x4).ext x5).ext x7).ext x8)
 subst E8
 refine⟨gs8,G8,?_,J7.ofS S8 o8,(((x4.trans x5).trans x7).trans x8).le (by lia)⟩
 refine dB rfl ?_
 refine aC (cj (x:=.im (.tup (ps.map Pth.i))) (Z1:=D0) (G1:=G2) (a7 (a:=[.v (.ow (.lst (ps.map Pth.i)))]) (Z1:=D0) (G1:=G2) (ck (es:=[]) (a7 (ck rfl (ck rfl (ck rfl (ck rfl (ck (es:=[]) em rfl))))) (eV rfl rfl e2)) rfl) rfl) rfl) ?_
 refine aC (cj (x:=.im (.ref G2.length)) (Z1:=[↑(.ref d),↑(.ref h),↑(.tup (W.map I.int)),↑(.int n8),↑(.int (dp:Nat)),↑(.tup (ps.map Pth.i)),none,none,none,none,none,none]) (G1:=G2++[M.dic []]) rfl rfl) ?_
 refine aC (cj (x:=.ow (.lst (W.map I.int))) (Z1:=[↑(.ref d),↑(.ref h),↑(.tup (W.map I.int)),↑(.int n8),↑(.int (dp:Nat)),↑(.tup (ps.map Pth.i)),↑(.ref G2.length),none,none,none,none,none]) (G1:=G2++[M.dic []]) rfl rfl) ?_
 refine aC (eN (Z1:=cX d h W n8 dp ps G2.length W none none none none) (G1:=G2++[M.dic []]) (jL Pth.i ps rfl) e3) ?_
 refine aC (cj (x:=.ow (.dic (kvs.map bM))) (Z1:=cX d h W n8 dp ps G2.length (bh W kvs) v8 v9 v10 none) (G1:=G3) (a7 (a:=[⇑(.ref G2.length)]) (Z1:=cX d h W n8 dp ps G2.length (bh W kvs) v8 v9 v10 none) (G1:=G3) rfl (by simp only [vc,pk,J3.dj])) rfl) ?_
 refine aC (dk (Z1:=cX d h W n8 dp ps G2.length (bh W kvs) v8 v9 v10 (some (.ow (.dic (kvs.map bM))))) (G1:=G4) (jD (cw (a7 (a:=[⇑(.ref h),⇑(.int (dp:Nat)),⇑(.tup (ps.map Pth.i))]) (Z1:=cX d h W n8 dp ps G2.length (bh W kvs) v8 v9 v10 (some (.ow (.dic (kvs.map bM))))) (G1:=G3) rfl (eV rfl rfl e4)) rfl (lU _ _ _))) rfl) ?_
 let D9:De:=[↑(.ref d),↑(.ref h),↑(.tup (W.map I.int)),↑(.int n8),↑(.int (dp:Nat)),↑(.tup (ps.map Pth.i)),↑(.ref G2.length),↑(.ref G5.length),v8,v9,v10,some (.ow (.dic (kvs.map bM)))]
 refine aC (dk (Z1:=D9) (G1:=G5++[M.lst ((bh W kvs).map I.int)]) (jD (cw (x:=⇑(.int n5)) (y:=⇑(.int n5)) (a7 (a:=[⇑(.ref h),⇑(.int (dp:Nat)),⇑(.tup (ps.map Pth.i)),⇑(.ref G2.length)]) (Z1:=cX d h W n8 dp ps G2.length (bh W kvs) v8 v9 v10 (some (.ow (.dic (kvs.map bM))))) (G1:=G4) rfl (eV rfl rfl e5)) (a7 (a:=[⇑(.ref h),⇑(.ref G5.length)]) (Z1:=D9) (G1:=G5++[M.lst ((bh W kvs).map I.int)]) rfl (eV rfl rfl e6)) (lU _ _ _))) rfl) ?_
 refine lK (Z1:=D9) (G1:=G8) (y63 (Z1:=D9) (G1:=G5++[M.lst ((bh W kvs).map I.int)]) (cw (x:=⇑(.ref G2.length)) (y:=.s 11) rfl rfl ?_) (y63 (Z1:=D9) (G1:=G7) (cw (a7 (a:=[⇑(.ref h),⇑(.int (dp:Nat)),⇑(.tup (ps.map Pth.i)),⇑(.ref (G5++[M.lst ((bh W kvs).map I.int)]).length)]) (Z1:=D9) (G1:=G5++[M.lst ((bh W kvs).map I.int)]++[M.dic []]) rfl (eV rfl rfl e7)) rfl (wI _ _ _)) (cw (a7 (a:=[⇑(.ref h),⇑(.int (dp:Nat)),⇑(.tup (ps.map Pth.i))]) (Z1:=D9) (G1:=G7) rfl (eV rfl rfl e8)) rfl (wI _ _ _))))
 unfold jA
 dsimp only
 rw [show pk D9 (G5++[M.lst ((bh W kvs).map I.int)]) ⇑(.ref G2.length)=some (.dic (kvs.map bM)) from J5.dj,show pk D9 (G5++[M.lst ((bh W kvs).map I.int)]) (.s 11)=some (.dic (kvs.map bM)) from rfl]
 dsimp only
 rw [Es,wH knd λq hq=>hq]
 simp
end
section
variable {G:List M}{gs:List Mk}
noncomputable def cJ(ns:List Int)(v3 v4 v5 v6 v7:Option Vl):De:=[↑(.fro (ns.map I.int)),↑(.ref 5),↑(.ref 2),v3,v4,v5,v6,v7]
noncomputable abbrev Wl(G:List M)(gs:List Mk):Prop:=Wd 5 1 2 3 4 G gs
noncomputable def G0(so le:List Int)(a:Int):List M:=[.lst (so.map I.int),.lst (le.map I.int),.obj "House" (dE 3 4),.lst [],.dit [],.dic (cI a 0 1)]
theorem w0{so le:List Int}{a:Int}(h0:0≤a)(h1:a<2147483647)(hm:∀m∈le,0≤m):Wl (G0 so le a) [] :=
 ⟨⟨a,0,le,rfl,rfl,by decide,h0,h1,by decide,hm⟩,⟨rfl,rfl,rfl,by decide,by decide,by decide,List.nodup_nil⟩,by decide,by decide,by decide,by decide,by decide,by decide⟩
theorem Ex{so le ns:List Int}{a:Int}(W0:Wl (G0 so le a) []):∃(dp:Nat) (G1:List M),dp≤6/\Wl G1 []/\bb (ak bc (bd (af (ao (.int 0)) (af (ao (.int 1)) (af (ao (.int 2)) (af (ao (.int 3)) (af (ao (.int 4)) (af (ao (.int 6)) ae)))))) b8) (bd (af (c6 (aa 1)) (af (ao (.int 6)) ae)) (bf 2 cB))) (aN 3) [↑(.fro (ns.map I.int)),some (.ow (.dic (cI a 0 1))),↑(.ref 2),none,none,none,none,none] [.lst (so.map I.int),.lst (le.map I.int),.obj "House" (dE 3 4),.lst [],.dit []]=some (.nx (cJ ns ↑(.int (dp:Nat)) none none none none) G1):=by
 obtain⟨r,G1,e1,b0,b1,W1⟩:=W0.draw (many:=6) (by decide) (by decide)
 have e1':cB [.im (.ref 5),.im (.int 6)] [.lst (so.map I.int),.lst (le.map I.int),.obj "House" (dE 3 4),.lst [],.dit [],.dic (cI a 0 1)]=some (.im (.int r),G1):=e1
 have at3:dm [I.int 0,.int 1,.int 2,.int 3,.int 4,.int 6] 3=some (.int 3):=jQ (j:=3) rfl
 have at4:dm [I.int 0,.int 1,.int 2,.int 3,.int 4,.int 6] 4=some (.int 4):=jQ (j:=4) rfl
 have at5:dm [I.int 0,.int 1,.int 2,.int 3,.int 4,.int 6] 5=some (.int 6):=jQ (j:=5) rfl
 rcases (show r=0∨r=1∨r=2∨r=3∨r=4∨r=5 by lia) with z|z|z|z|z|z
 ·subst z;exact⟨0,G1,by decide,W1,by simp! [cJ,e1',iN]⟩
 ·subst z;exact⟨1,G1,by decide,W1,by simp! [cJ,e1',mL]⟩
 ·subst z;exact⟨2,G1,by decide,W1,by simp! [cJ,e1',vQ]⟩
 ·subst z;exact⟨3,G1,by decide,W1,by simp! [cJ,e1',at3]⟩
 ·subst z;exact⟨4,G1,by decide,W1,by simp! [cJ,e1',at4]⟩
 ·subst z;exact⟨6,G1,by decide,W1,by simp! [cJ,e1',at5]⟩
theorem Ey{ns A B:List Int}{a b:Int}{dp:Nat}{v7:Option Vl}(Wo:Wl G gs)(hA:Sl gs dp a A)(hB:Sl gs dp b B)(hd:dp≤6)(rA:∀f∈A,Wr f)(rB:∀f∈B,Wr f)(hl:gs.length<30000) :
  ∃gs' G',Dr (cJ ns ↑(.int (dp:Nat)) ↑(.tup (A.map I.int)) ↑(.tup (B.map I.int)) ↥[.int a,.int b] v7) G=some (.nx (cJ ns ↑(.int (dp:Nat)) ↑(.tup (A.map I.int)) ↑(.tup (B.map I.int)) ↥[.int a,.int b] v7) G')/\Wl G' gs'/\bg 5376 gs gs':=by
 obtain⟨gs1,G1,e1,W1,x1⟩:=wJ Wo hB hd rB (by lia)
 have l1:=x1.len
 obtain⟨gs2,G2,e2,W2,x2⟩:=wJ W1 (hA.ext x1) hd rA (by lia)
 refine⟨gs2,G2,?_,W2,x1.trans x2⟩
 have f1:ak bc (aa 6) (ao (.int 1)) (cJ ns ↑(.int (dp:Nat)) ↑(.tup (A.map I.int)) ↑(.tup (B.map I.int)) ↥[.int a,.int b] v7) G=some (⇑(.int b),cJ ns ↑(.int (dp:Nat)) ↑(.tup (A.map I.int)) ↑(.tup (B.map I.int)) ↥[.int a,.int b] v7,G):=by simp! [cJ,mL]
 have f2:ak bc (aa 6) (ao (.int 0)) (cJ ns ↑(.int (dp:Nat)) ↑(.tup (A.map I.int)) ↑(.tup (B.map I.int)) ↥[.int a,.int b] v7) G1=some (⇑(.int a),cJ ns ↑(.int (dp:Nat)) ↑(.tup (A.map I.int)) ↑(.tup (B.map I.int)) ↥[.int a,.int b] v7,G1):=by simp! [cJ,iN]
 refine dk (Z1:=cJ ns ↑(.int (dp:Nat)) ↑(.tup (A.map I.int)) ↑(.tup (B.map I.int)) ↥[.int a,.int b] v7) (G1:=G2) (vw (Z1:=cJ ns ↑(.int (dp:Nat)) ↑(.tup (A.map I.int)) ↑(.tup (B.map I.int)) ↥[.int a,.int b] v7) (G1:=G1) (lL (b:=true) ?_) (lL (b:=true) ?_)) rfl
 ·exact a7 (a7 (ck (e:=⇑(.ref 5)) rfl (ck (e:=⇑(.ref 2)) rfl (ck rfl (ck f1 (ck (es:=[]) rfl rfl))))) (eV rfl rfl e1)) rfl
 ·exact a7 (a7 (ck (e:=⇑(.ref 5)) rfl (ck (e:=⇑(.ref 2)) rfl (ck rfl (ck f2 (ck (es:=[]) rfl rfl))))) (eV rfl rfl e2)) rfl
theorem Ez(ns:List Int)(h:ns.length≤63):∃G,Ds [.im (.fro (ns.map I.int))] []=some (.im (.bl true),G):=by
 obtain⟨a,so,le,e0,a0,a1,hm⟩:=yd3 (b:=0) (G:=[]) h (by lia)
 have e0:vm [.im (.fro (ns.map I.int)),.im (.int 0)] []=some (.ow (.dic (cI a 0 1)),[.lst (so.map I.int),.lst (le.map I.int)]):=e0
 have e1:=DJ (G:=[.lst (so.map I.int),.lst (le.map I.int)])
 have e1:pS [.im (.ref 2)] [.lst (so.map I.int),.lst (le.map I.int),.obj "House" []]=some (.im .non,[.lst (so.map I.int),.lst (le.map I.int),.obj "House" (dE 3 4),.lst [],.dit []]):=e1
 obtain⟨dp,G1,hd,W1,e2⟩:=Ex (ns:=ns) (w0 (so:=so) (le:=le) a0 a1 hm)
 obtain⟨A,G3,e3,lA,rA,W3⟩:=W1.row (dp:=dp) hd
 obtain⟨B,G4,e4,lB,rB,W4⟩:=W3.row (dp:=dp) hd
 obtain⟨sa,gs5,G5,e5,W5,x5,hA⟩:=W4.seal lA hd (by simp)
 have l5:=x5.len
 simp only [List.length_nil] at l5
 obtain⟨sb,gs6,G6,e6,W6,x6,hB⟩:=W5.seal lB hd (by lia)
 have l6:=x6.len
 obtain⟨Z7,G7,e7,gs7,v7,ed7,_,_⟩:=dC (w:=dP 3) (g:=aN 7) (b:=Dr)
  (λi Z G'=>∃(gs':List Mk) (v7:Option Vl),Z=cJ ns ↑(.int (dp:Nat)) ↑(.tup (A.map I.int)) ↑(.tup (B.map I.int)) ↥[.int sa,.int sb] v7/\Wl G' gs'/\bg (5376*i) gs6 gs')
  (λi Z Ga hi zz=>by
   obtain⟨gs',v7,ed,W',x'⟩:=zz
   have hi:i<3:=hi
   subst ed
   have l':=x'.len
   obtain⟨gs2,Gb,e,W'',x2⟩:=Ey (ns:=ns) (v7:=↑(.int i)) W' ((hA.ext x6).ext x') (hB.ext x') hd rA rB (by lia)
   exact⟨.int i,_,Ga,_,Gb,rfl,rfl,e,gs2,_,rfl,W'',(x'.trans x2).le (by lia)⟩)
  (λ_ _ _=>rfl) 3 0 (cJ ns ↑(.int (dp:Nat)) ↑(.tup (A.map I.int)) ↑(.tup (B.map I.int)) ↥[.int sa,.int sb] none) G6 (by simp [dP]) ⟨gs6,none,rfl,W6,bg.refl _⟩
 subst ed7
 refine⟨G7,dB rfl ?_⟩
 refine aC (cj (x:=.ow (.dic (cI a 0 1))) (Z1:=[↑(.fro (ns.map I.int)),none,none,none,none,none,none,none]) (G1:=[.lst (so.map I.int),.lst (le.map I.int)]) (by simp! [e0]) rfl) ?_
 refine aC (cj (x:=.im (.ref 2)) (Z1:=[↑(.fro (ns.map I.int)),some (.ow (.dic (cI a 0 1))),none,none,none,none,none,none]) (G1:=[.lst (so.map I.int),.lst (le.map I.int),.obj "House" (dE 3 4),.lst [],.dit []]) (by simp! [e1]) rfl) ?_
 refine aC e2 ?_
 refine aC (cj (x:=.im (.tup (A.map I.int))) (Z1:=cJ ns ↑(.int (dp:Nat)) none none none none) (G1:=G3) (a7 (ck (e:=⇑(.ref 5)) (Z1:=cJ ns ↑(.int (dp:Nat)) none none none none) (G1:=G1) rfl (ck (es:=[]) rfl rfl)) (eV rfl rfl e3)) rfl) ?_
 refine aC (cj (x:=.im (.tup (B.map I.int))) (Z1:=cJ ns ↑(.int (dp:Nat)) ↑(.tup (A.map I.int)) none none none) (G1:=G4) (a7 (ck (e:=⇑(.ref 5)) (Z1:=cJ ns ↑(.int (dp:Nat)) ↑(.tup (A.map I.int)) none none none) (G1:=G3) rfl (ck (es:=[]) rfl rfl)) (eV rfl rfl e4)) rfl) ?_
 refine aC (cj (x:=.ow (.lst [.int sa,.int sb])) (Z1:=cJ ns ↑(.int (dp:Nat)) ↑(.tup (A.map I.int)) ↑(.tup (B.map I.int)) none none) (G1:=G6) (a7 (a:=[⇑(.int sa),⇑(.int sb)]) (Z1:=cJ ns ↑(.int (dp:Nat)) ↑(.tup (A.map I.int)) ↑(.tup (B.map I.int)) none none) (G1:=G6) (ck (a7 (a:=[⇑(.ref 2),⇑(.tup (A.map I.int))]) (Z1:=cJ ns ↑(.int (dp:Nat)) ↑(.tup (A.map I.int)) ↑(.tup (B.map I.int)) none none) (G1:=G4) rfl (eV rfl rfl e5)) (ck (es:=[]) (a7 (a:=[⇑(.ref 2),⇑(.tup (B.map I.int))]) (Z1:=cJ ns ↑(.int (dp:Nat)) ↑(.tup (A.map I.int)) ↑(.tup (B.map I.int)) none none) (G1:=G5) rfl (eV rfl rfl e6)) rfl)) rfl) rfl) ?_
 refine aC (eN (w:=dP 3) (Z1:=cJ ns ↑(.int (dp:Nat)) ↑(.tup (A.map I.int)) ↑(.tup (B.map I.int)) ↥[.int sa,.int sb] none) (G1:=G6) (iM (n:=3) (j:=3) rfl rfl (by decide)) e7) ?_
 rfl
end
end Q
set_option maxHeartbeats 4000000
namespace Q
open PySem PySem.Spec PyProof.Rows L2 B
noncomputable def top(i:Nat):Stmt:=PySem.Challenge.pw_stepcourt_k25_paths_come_to.main.body.getD i (.Pass ⟨0,0,0,0⟩)
abbrev xp:List Str:=["_law_deal_here","_law_depth","_law_few","_law_found","_law_form"]
abbrev EA:List Str:=["_law_deal_here","_law_house","_law_words","_law_seal_here","_law_depth"]
abbrev EB:List Str:=["_law_deal_here","_law_house","_law_seal_here","_law_depth","_law_most"]
abbrev pC:List Str:=["_law_deal_here","_law_many"]
abbrev EC:List Str:=["_law_script","_law_base","_law_some","_law_number","_law_one"]
abbrev wK:List Str:=["house","place","seal","sibling"]
abbrev ED:List Str:=["house","depth","paths","seals","path","place","seal"]
abbrev pV:List Str:=["self","one","other"]
abbrev wL:List Str:=["_law_house","_law_words"]
abbrev pD:List Str:=["house","depth","paths","written"]
abbrev gC:List Str:=["self","word"]
abbrev iQ:List Str:=["_law_deal_here"]
abbrev pE:List Str:=["_law_deal_here","_law_depth"]
abbrev pF:List Str:=["house","seal","depth","k"]
structure Tx(K:W.Frag)(mg:Str->Option Value)(κ:Str->Addr):Prop where
 y8e:Cls K (κ "House")
 y15e:mg "House" = some (.ref (κ "House"))
 y24b:gE K (κ "House") "given"
 y24c:gE K (κ "House") "seals"
 y1d8:∃t,mg "WIDE" = some (.int 4294967296 t)
 y70:mg "all" = none
 y71:mg "dict" = none
 y72:mg "enumerate" = none
 y73:mg "len" = none
 y74:mg "list" = none
 b_max:mg "max" = none
 b_min:mg "min" = none
 y75:mg "range" = none
 y76:mg "reversed" = none
 b_set:mg "set" = none
 y77:mg "tuple" = none
 b_zip:mg "zip" = none
section
variable {P:Program}{w:World}{K:W.Frag}{mg:Str->Option Value}{base:Heap}{κ:Str->Addr}
theorem jN:y37 EC ["_law_script","_law_base"] (bK (top 14)):=bO
theorem EE{f:Addr}{fd:FuncData}(F:Fun K "_law_deal" "_law_deal" (top 14) f fd)(E:Tx K mg κ):y36 P w K mg base bU 1 f fd ["_law_script","_law_base"] (aR K κ 2 vm) :=
 bN F jN rfl rfl λcdv A outer s H _ hr=>(av (lD (i:=2) (jR (osc:=(bK (top 14))) (N:=EC) (xs:=["_law_one"]) (ys:=[]) (ix:=[]) rfl rfl (by decide +kernel)) (dy (lz (ab 0) (iu (ab 1)) (iu aj))) (λz=>eM) (λz=>(BR hr E.b_max (ah (ab 0) (ah (aB (hX hr) hZ aj (ab 0)) aA)))) jN.nd)
 (av (aM (i:=3) jN.nd (aB (c9 hr) bV aj (ab 1)))
 (av (dJ (dy (fg (ab 2))) (gj (i:=4) jN.nd)
 (aG (aM (i:=3) jN.nd (aB (eG hr) eI (aB (c9 hr) bV (aB (fj hr) fm (ab 3) aj) (aB (eG hr) eI (ab 4) aj)) aj))))
 (aG (aU (uF hr (Ca b5 (ab 3) (Ca b5 aj (Ca b5 (fg (BU E.y74 E.y76 (uM (jR (osc:=(bK (top 14))) (N:=EC) (xs:=["_law_one"]) (ys:=[]) (ix:=[]) rfl rfl (by decide +kernel)) (dy (fg (ab 2))) (λz=>(uL (uf hr (ab 0) (aB (tV hr) tW aj aj)))) (λz=>(ab 0))))) uE)))))))))
theorem EF:y37 ["self"] ["self"] (bK (aL (top 12) 0)):=bO
theorem EG{f:Addr}{fd:FuncData}(F:Fun K "__init__" "House.__init__" (aL (top 12) 0) f fd)(E:Tx K mg κ):y36 P w K mg base bU 1 f fd ["self"] (aR K κ 1 pS) :=
 bN F EF rfl rfl λcdv A outer s H _ hr=>(av (uH E.y8e E.y24b (ab 0) (fg (eC aA)))
 (aG (uH E.y8e E.y24c (ab 0) (fg oN))))
theorem ma:y37 ["_law_deal_here","_law_many","_law_number","_law_one","_law_other"] pC (bK (top 15)):=bO
theorem EH{f:Addr}{fd:FuncData}(F:Fun K "_law_draw" "_law_draw" (top 15) f fd)(E:Tx K mg κ):y36 P w K mg base bU 1 f fd pC (aR K κ 2 cB) :=
 bN F ma rfl rfl λcdv A outer s H _ hr=>(av (tT (mC (mD (gu hr (aV hr (ab 0) b5) aj) (tO (gv hr (dw hr E.y73 (ah (aV hr (ab 0) b5) aA)) aj))))
 (aG (fA hr (ab 0) b5 (B4 (aV hr (ab 0) b5)))))
 (av (aM (i:=2) ma.nd (aV hr (ab 0) b5))
 (av (cf (gv hr (ab 2) aj)
 (av (fA hr (ab 0) b5 (aB (oz hr) oA (ab 2) (ab 1)))
 (aG (aU (aB (eG hr) eI (ab 2) (ab 1)))))
 cc)
 (av (aM (i:=3) ma.nd (aB (eG hr) eI (aB (c9 hr) bV (aB (fj hr) fm (aV hr (ab 0) b5) aj) aj) aj))
 (av (fA hr (ab 0) b5 (aB (eG hr) eI (aB (c9 hr) bV (aB (fj hr) fm (ab 3) aj) aj) aj))
 (av (aM (i:=4) ma.nd (aB (eG hr) eI (aB (fj hr) fm (aV hr (ab 0) b5) (aV hr (ab 0) b5)) aj))
 (aG (aU (aB (eG hr) eI (aB (c9 hr) bV (aB (fj hr) fm (aB (eG hr) eI (aB (fj hr) fm (ab 3) (ab 3)) aj) aj) (ab 4)) (ab 1))))))))))
theorem EI:y37 iQ iQ (bK (top 16)):=bO
theorem EJ{f:Addr}{fd:FuncData}(F:Fun K "_law_word" "_law_word" (top 16) f fd)(E:Tx K mg κ)(y174:cZ P w K mg base "_law_draw" 1 pC (aR K κ 2 cB)):y36 P w K mg base bU 2 f fd iQ (aR K κ 1 iK) :=
 bN F EI rfl rfl λcdv A outer s H _ hr=>(aG (aU (aV hr (eC (ah (bX y174 (rm hr) (ah (ab 0) (ah aj aA))) (ah (aB (hX hr) hZ (aB (hX hr) hZ aj aj) (bX y174 (rm hr) (ah (ab 0) (ah aj aA)))) (ah (bX y174 (rm hr) (ah (ab 0) (ah aj aA))) aA)))) (bX y174 (rm hr) (ah (ab 0) (ah aj aA))))))
theorem iR:y37 xp pE (bK (top 17)):=bO
theorem EK{f:Addr}{fd:FuncData}(F:Fun K "_law_row" "_law_row" (top 17) f fd)(E:Tx K mg κ)(y174:cZ P w K mg base "_law_draw" 1 pC (aR K κ 2 cB))(y179:cZ P w K mg base "_law_word" 2 iQ (aR K κ 1 iK)):y36 P w K mg base bU 3 f fd pE (aR K κ 2 mI) :=
 bN F iR rfl rfl λcdv A outer s H _ hr=>(av (aM (i:=2) iR.nd (uM (jR (osc:=(bK (top 17))) (N:=xp) (xs:=["_law_k"]) (ys:=iQ) (ix:=[0]) rfl rfl (by decide +kernel)) (iD E.y75 (ah (aB (c9 hr) bV aj (bX y174 (rm hr) (ah (ab 0) (ah aj aA)))) aA)) (λz=>eM) (λz=>(bX y179 (rm hr) (ah (ab 1) aA)))))
 (av (lD (i:=3) (jR (osc:=(bK (top 17))) (N:=xp) (xs:=["_law_k"]) (ys:=["_law_few","_law_deal_here"]) (ix:=[2,0]) rfl rfl (by decide +kernel)) (iD E.y75 (ah (aB (jg hr) jh aj (ab 1)) aA)) (λz=>eM) (λz=>(aV hr (ab 1) (bX y174 (rm hr) (ah (ab 2) (ah (dw hr E.y73 (ah (ab 1) aA)) aA))))) iR.nd)
 (av (aM (i:=4) iR.nd (bX y174 (rm hr) (ah (ab 0) (ah aj aA))))
 (av (cf (mC (mD (gv hr (ab 1) aj) (tO (gu hr (ab 4) aj))))
 (aG (aM (i:=3) iR.nd (aB (fj hr) fm (lz (ab 3) ir (iu (aB (oz hr) oA (aB (jg hr) jh aj (ab 1)) aj))) aj)))
 cc)
 (av (cf (gu hr (ab 4) aj)
 (aG (lD (i:=3) (jR (osc:=(bK (top 17))) (N:=xp) (xs:=["_law_k"]) (ys:=["_law_few"]) (ix:=[2]) rfl rfl (by decide +kernel)) (iD E.y75 (ah (aB (jg hr) jh aj (ab 1)) aA)) (λz=>eM) (λz=>(aB (eG hr) eI (aB (c9 hr) bV (aV hr (ab 1) aj) (aB (fj hr) fm aj (ab 0))) aj)) iR.nd))
 cc)
 (aG (aU (oI hr E.y77 (ah (ab 3) aA)))))))))
theorem EL:y37 ["self","made"] ["self","made"] (bK (aL (top 12) 1)):=bO
theorem EM{f:Addr}{fd:FuncData}(F:Fun K "seal_for" "House.seal_for" (aL (top 12) 1) f fd)(E:Tx K mg κ):y36 P w K mg base bU 1 f fd ["self","made"] (aR K κ 2 gI) :=
 bN F EL rfl rfl λcdv A outer s H _ hr=>(av (cf (uq hr (ab 1) (gz E.y8e E.y24c (ab 0)))
 (av (hU (uA hr (gz E.y8e E.y24b (ab 0)) (ah (ab 1) aA)))
 (aG (fA hr (gz E.y8e E.y24c (ab 0)) (ab 1) (dw hr E.y73 (ah (gz E.y8e E.y24b (ab 0)) aA)))))
 cc)
 (aG (aU (aV hr (gz E.y8e E.y24c (ab 0)) (ab 1)))))
theorem EN:y37 gC gC (bK (aL (top 12) 2)):=bO
theorem EO{f:Addr}{fd:FuncData}(F:Fun K "leaf" "House.leaf" (aL (top 12) 2) f fd)(E:Tx K mg κ)(y172:iB P w K mg base (κ "House") "seal_for" 1 ["self","made"] (aR K κ 2 gI)):y36 P w K mg base bU 2 f fd gC (aR K κ 2 gB) :=
 bN F EN rfl rfl λcdv A outer s H _ hr=>(aG (aU (cT y172 E.y8e (rm hr) (ab 0) (ah (b9 (ah b5 (ah (ab 1) aA))) aA))))
theorem ER:y37 pV pV (bK (aL (top 12) 3)):=bO
theorem ES{f:Addr}{fd:FuncData}(F:Fun K "pair" "House.pair" (aL (top 12) 3) f fd)(E:Tx K mg κ)(y172:iB P w K mg base (κ "House") "seal_for" 1 ["self","made"] (aR K κ 2 gI)):y36 P w K mg base bU 2 f fd pV (aR K κ 3 gJ) :=
 bN F ER rfl rfl λcdv A outer s H _ hr=>(aG (aU (cT y172 E.y8e (rm hr) (ab 0) (ah (b9 (ah b5 (ah (ab 1) (ah (ab 2) aA)))) aA))))
theorem pG:y37 ["house","words","seals"] ["house","words"] (bK (top 2)):=bO
theorem ET{f:Addr}{fd:FuncData}(F:Fun K "seal_of" "seal_of" (top 2) f fd)(E:Tx K mg κ)(y171:iB P w K mg base (κ "House") "pair" 2 pV (aR K κ 3 gJ))(y16f:iB P w K mg base (κ "House") "leaf" 2 gC (aR K κ 2 gB)):y36 P w K mg base bU 3 f fd ["house","words"] (aR K κ 2 oY) :=
 bN F pG rfl rfl λcdv A outer s H _ hr=>(av (lD (i:=2) (jR (osc:=(bK (top 2))) (N:=["house","words","seals"]) (xs:=["word"]) (ys:=["house"]) (ix:=[0]) rfl rfl (by decide +kernel)) (dy (ab 1)) (λz=>eM) (λz=>(cT y16f E.y8e (rm hr) (ab 1) (ah (ab 0) aA))) pG.nd)
 (av (tT (gv hr (dw hr E.y73 (ah (ab 2) aA)) aj)
 (aG (Cp (i:=2) (jR (osc:=(bK (top 2))) (N:=["house","words","seals"]) (xs:=["one","other"]) (ys:=["house"]) (ix:=[0]) rfl rfl (by decide +kernel)) (uK E.b_zip (ah (fg (uv (ab 2) ir ir aj)) (ah (fg (uv (ab 2) (iu aj) ir aj)) aA))) (λz=>eM) (λz=>(cT y171 E.y8e (rm hr) (ab 2) (ah (ab 0) (ah (ab 1) aA)))) pG.nd)))
 (aG (aU (aV hr (ab 2) aj)))))
theorem EU:y37 ["self","seal"] ["self","seal"] (bK (aL (top 12) 4)):=bO
theorem EV{f:Addr}{fd:FuncData}(F:Fun K "opened" "House.opened" (aL (top 12) 4) f fd)(E:Tx K mg κ):y36 P w K mg base bU 1 f fd ["self","seal"] (aR K κ 2 fI) :=
 bN F EU rfl rfl λcdv A outer s H _ hr=>(av (cf (mC (eD (k9 hr (ab 1) aj) (hI (gv hr (ab 1) (dw hr E.y73 (ah (gz E.y8e E.y24b (ab 0)) aA))))))
 (aG (aU g8))
 cc)
 (aG (aU (aV hr (gz E.y8e E.y24b (ab 0)) (aB (hX hr) hZ (ab 1) aj)))))
theorem gD:y37 ["house","seal","depth","k","siblings","height","made","side"] pF (bK (top 3)):=bO
theorem EW{f:Addr}{fd:FuncData}(F:Fun K "path_in" "path_in" (top 3) f fd)(E:Tx K mg κ)(y170:iB P w K mg base (κ "House") "opened" 1 ["self","seal"] (aR K κ 2 fI)):y36 P w K mg base bU 2 f fd pF (aR K κ 4 lJ) :=
 bN F gD rfl rfl λcdv A outer s H _ hr=>(av (aM (i:=4) gD.nd (eC aA))
 (av (dJ (Cm E.y75 (ah (aB (hX hr) hZ (ab 2) aj) (ah (t5 aj) (ah (t5 aj) aA)))) (gj (i:=5) gD.nd)
 (av (aM (i:=6) gD.nd (cT y170 E.y8e (rm hr) (ab 0) (ah (ab 1) aA)))
 (av (cf (mC (eD (tR (ab 6)) (hI (gu hr (aV hr (ab 6) aj) b5))))
 (aG (aU g8))
 cc)
 (av (aM (i:=7) gD.nd (aB (tX hr) tY (aB (h9 hr) ic (ab 3) (ab 5)) aj))
 (av (aM (i:=1) gD.nd (aV hr (ab 6) (aB (c9 hr) bV aj (ab 7))))
 (aG (hU (uA hr (ab 4) (ah (aV hr (ab 6) (aB (hX hr) hZ aj (ab 7))) aA)))))))))
 (av (aM (i:=6) gD.nd (cT y170 E.y8e (rm hr) (ab 0) (ah (ab 1) aA)))
 (av (cf (mC (eD (tR (ab 6)) (hI (gu hr (aV hr (ab 6) aj) b5))))
 (aG (aU g8))
 cc)
 (aG (aU (b9 (ah (aV hr (ab 6) aj) (ah (oI hr E.y77 (ah (uw (ab 4)) aA)) aA)))))))))
theorem jO:y37 ["_law_deal_here","_law_house","_law_seal_here","_law_depth","_law_most","_law_left","_law_found","_law_turn","_law_k"] EB (bK (top 19)):=bO
theorem EX{f:Addr}{fd:FuncData}(F:Fun K "_law_paths" "_law_paths" (top 19) f fd)(E:Tx K mg κ)(y174:cZ P w K mg base "_law_draw" 1 pC (aR K κ 2 cB))(y17e:cZ P w K mg base "path_in" 2 pF (aR K κ 4 lJ)):y36 P w K mg base bU 3 f fd EB (aR K κ 5 xl) :=
 bN F jO rfl rfl λcdv A outer s H _ hr=>(av (aM (i:=5) jO.nd (Di E.y74 E.y75 (aB (jg hr) jh aj (ab 3))))
 (av (aM (i:=6) jO.nd (eC aA))
 (av (dJ (iD E.y75 (ah (BS hr E.b_min (ah (dw hr E.y73 (ah (ab 5) aA)) (ah (aB (c9 hr) bV aj (bX y174 (rm hr) (ah (ab 0) (ah (ab 4) aA)))) aA))) aA)) (gj (i:=7) jO.nd)
 (av (aM (i:=8) jO.nd (Dg hr (ab 5) (ah (bX y174 (rm hr) (ah (ab 0) (ah (dw hr E.y73 (ah (ab 5) aA)) aA))) aA)))
 (aG (hU (uA hr (ab 6) (ah (aB (c9 hr) bV (b9 (ah (ab 8) aA)) (bX y17e (rm hr) (ah (ab 1) (ah (ab 2) (ah (ab 3) (ah (ab 8) aA)))))) aA))))))
 (aG (aU (ab 6))))))
theorem EY:y37 wK wK (bK (top 4)):=bO
theorem EZ{f:Addr}{fd:FuncData}(F:Fun K "pair_above" "pair_above" (top 4) f fd)(E:Tx K mg κ)(y171:iB P w K mg base (κ "House") "pair" 2 pV (aR K κ 3 gJ)):y36 P w K mg base bU 3 f fd wK (aR K κ 4 mJ) :=
 bN F EY rfl rfl λcdv A outer s H _ hr=>(aG (aU (Bp (gu hr (aB (tX hr) tY (ab 1) aj) aj) (cT y171 E.y8e (rm hr) (ab 0) (ah (ab 2) (ah (ab 3) aA))) (cT y171 E.y8e (rm hr) (ab 0) (ah (ab 3) (ah (ab 2) aA))))))
theorem dR:y37 ["house","path","k","word","siblings","seal","told","height","sibling","place"] ["house","path"] (bK (top 8)):=bO
theorem E1{f:Addr}{fd:FuncData}(F:Fun K "places_of" "places_of" (top 8) f fd)(E:Tx K mg κ)(y17d:cZ P w K mg base "pair_above" 3 wK (aR K κ 4 mJ))(y16f:iB P w K mg base (κ "House") "leaf" 2 gC (aR K κ 2 gB)):y36 P w K mg base bU 4 f fd ["house","path"] (aR K κ 2 pT) :=
 bN F dR rfl rfl λcdv A outer s H _ hr=>(av (uI (ab 1) (iE (gk (i:=2) dR.nd (gk (i:=3) dR.nd (gk (i:=4) dR.nd hV)))))
 (av (aM (i:=5) dR.nd (cT y16f E.y8e (rm hr) (ab 0) (ah (ab 3) aA)))
 (av (aM (i:=6) dR.nd (eC (ah (b9 (ah (b9 (ah aj (ah (ab 2) aA))) (ah (ab 5) aA))) aA)))
 (av (dJ (Cn E.y72 (ah (ab 4) aA)) (iE (gk (i:=7) dR.nd (gk (i:=8) dR.nd hV)))
 (av (aM (i:=9) dR.nd (aB (h9 hr) ic (ab 2) (ab 7)))
 (av (hU (uA hr (ab 6) (ah (b9 (ah (b9 (ah (ab 7) (ah (aB (tZ hr) t4 (ab 9) aj) aA))) (ah (ab 8) aA))) aA)))
 (av (aM (i:=5) dR.nd (bX y17d (rm hr) (ah (ab 0) (ah (ab 9) (ah (ab 5) (ah (ab 8) aA))))))
 (aG (hU (uA hr (ab 6) (ah (b9 (ah (b9 (ah (aB (c9 hr) bV (ab 7) aj) (ah (aB (h9 hr) ic (ab 9) aj) aA))) (ah (ab 5) aA))) aA))))))))
 (aG (aU (ab 6)))))))
theorem md:y37 ["house","depth","path","k","word","siblings"] ["house","depth","path"] (bK (top 7)):=bO
theorem E2{f:Addr}{fd:FuncData}(F:Fun K "is_path" "is_path" (top 7) f fd)(E:Tx K mg κ)(y170:iB P w K mg base (κ "House") "opened" 1 ["self","seal"] (aR K κ 2 fI)):y36 P w K mg base bU 2 f fd ["house","depth","path"] (aR K κ 3 pU) :=
 bN F md rfl rfl λcdv A outer s H _ hr=>(av (uI (ab 2) (iE (gk (i:=3) md.nd (gk (i:=4) md.nd (gk (i:=5) md.nd hV)))))
 (av (cf (mC (eD (k9 hr (ab 3) aj) (eD (gv hr (aB (h9 hr) ic (ab 3) (ab 1)) aj) (eD (k9 hr (ab 4) aj) (eD (uf hr (ab 4) (C9 (by rfl) E.y1d8)) (hI (k7 hr (dw hr E.y73 (ah (ab 5) aA)) (ab 1))))))))
 (aG (aU tN))
 cc)
 (aG (aU (yf5 hr E.y70 (ah (uM (jR (osc:=(bK (top 7))) (N:=["house","depth","path","k","word","siblings"]) (xs:=["sibling"]) (ys:=["house"]) (ix:=[0]) rfl rfl (by decide +kernel)) (dy (ab 5)) (λz=>eM) (λz=>(tQ (cT y170 E.y8e (rm hr) (ab 1) (ah (ab 0) aA))))) aA))))))
theorem jP:y37 ED ["house","depth","paths"] (bK (top 9)):=bO
theorem E3{f:Addr}{fd:FuncData}(F:Fun K "comes_to" "comes_to" (top 9) f fd)(E:Tx K mg κ)(y17f:cZ P w K mg base "places_of" 4 ["house","path"] (aR K κ 2 pT))(y17c:cZ P w K mg base "is_path" 2 ["house","depth","path"] (aR K κ 3 pU)):y36 P w K mg base bU 5 f fd ["house","depth","paths"] (aR K κ 3 vp) :=
 bN F jP rfl rfl λcdv A outer s H _ hr=>(av (cf (kP (kQ (yf5 hr E.y70 (ah (uM (jR (osc:=(bK (top 9))) (N:=ED) (xs:=["path"]) (ys:=["house","depth"]) (ix:=[0,1]) rfl rfl (by decide +kernel)) (dy (ab 2)) (λz=>eM) (λz=>(bX y17c (rm hr) (ah (ab 1) (ah (ab 2) (ah (ab 0) aA)))))) aA))))
 (aG (aU g8))
 cc)
 (av (cf (mC (eD (kP (kQ (ab 2))) (hI (k9 hr (Dh E.y73 E.b_set (uM (jR (osc:=(bK (top 9))) (N:=ED) (xs:=["path"]) (ys:=[]) (ix:=[]) rfl rfl (by decide +kernel)) (dy (ab 2)) (λz=>eM) (λz=>(aV hr (ab 0) aj)))) (dw hr E.y73 (ah (ab 2) aA))))))
 (aG (aU g8))
 cc)
 (av (aM (i:=3) jP.nd oN)
 (av (dJ (dy (ab 2)) (gj (i:=4) jP.nd)
 (aG (dJ (dy (fg (bX y17f (rm hr) (ah (ab 0) (ah (ab 4) aA))))) (iE (gk (i:=5) jP.nd (gk (i:=6) jP.nd hV)))
 (aG (cf (k7 hr (Dd hr (ab 3) (ah (ab 5) (ah (ab 6) aA))) (ab 6))
 (aG (aU g8))
 cc)))))
 (aG (aU (aV hr (ab 3) (b9 (ah (ab 1) (ah aj aA))))))))))
theorem fL:y37 ["house","depth","paths","written","seals","path","k","word","height","place","above"] pD (bK (top 10)):=bO
theorem E5{f:Addr}{fd:FuncData}(F:Fun K "comes_to_with" "comes_to_with" (top 10) f fd)(E:Tx K mg κ)(y17d:cZ P w K mg base "pair_above" 3 wK (aR K κ 4 mJ))(y16f:iB P w K mg base (κ "House") "leaf" 2 gC (aR K κ 2 gB))(y17f:cZ P w K mg base "places_of" 4 ["house","path"] (aR K κ 2 pT)):y36 P w K mg base bU 5 f fd pD (aR K κ 4 vq) :=
 bN F fL rfl rfl λcdv A outer s H _ hr=>(av (aM (i:=4) fL.nd oN)
 (av (dJ (dy (ab 2)) (gj (i:=5) fL.nd)
 (aG (hU (Df hr (ab 4) (ah (yfe hr E.y71 (ah (bX y17f (rm hr) (ah (ab 0) (ah (ab 5) aA))) aA)) aA)))))
 (av (Dc (ab 3) (iE (gk (i:=6) fL.nd (gk (i:=7) fL.nd hV)))
 (av (fA hr (ab 4) (b9 (ah aj (ah (ab 6) aA))) (cT y16f E.y8e (rm hr) (ab 0) (ah (ab 7) aA)))
 (aG (dJ (iD E.y75 (ah (ab 1) aA)) (gj (i:=8) fL.nd)
 (av (aM (i:=9) fL.nd (aB (h9 hr) ic (ab 6) (ab 8)))
 (av (aM (i:=10) fL.nd (bX y17d (rm hr) (ah (ab 0) (ah (ab 9) (ah (aV hr (ab 4) (b9 (ah (ab 8) (ah (ab 9) aA)))) (ah (aV hr (ab 4) (b9 (ah (ab 8) (ah (aB (tZ hr) t4 (ab 9) aj) aA)))) aA))))))
 (aG (fA hr (ab 4) (b9 (ah (aB (c9 hr) bV (ab 8) aj) (ah (aB (h9 hr) ic (ab 9) aj) aA))) (ab 10)))))))))
 (aG (aU (aV hr (ab 4) (b9 (ah (ab 1) (ah aj aA)))))))))
theorem pH:y37 ["_law_house","_law_words","_law_half","_law_one"] wL (bK (top 18)):=bO
theorem E6{f:Addr}{fd:FuncData}{n:Nat}(F:Fun K "_law_seal" "_law_seal" (top 18) f fd)(E:Tx K mg κ)(y171:iB P w K mg base (κ "House") "pair" 2 pV (aR K κ 3 gJ))(y178:cZ P w K mg base "_law_seal" (3+n) wL (aR K κ 2 (iL n)))(y16f:iB P w K mg base (κ "House") "leaf" 2 gC (aR K κ 2 gB)):y36 P w K mg base bU (3+n+1) f fd wL (aR K κ 2 (iL (n+1))):=by
 unfold iL
 exact bN F pH rfl rfl λcdv A outer s H _ hr=>(av (cf (gu hr (dw hr E.y73 (ah (ab 1) aA)) aj)
 (aG (aU (cT y16f E.y8e (rm hr) (ab 0) (ah (aV hr (ab 1) aj) aA))))
 cc)
 (av (aM (i:=2) pH.nd (aB (oz hr) oA (dw hr E.y73 (ah (ab 1) aA)) aj))
 (av (aM (i:=3) pH.nd (bX y178 (rm hr) (ah (ab 0) (ah (lz (ab 1) ir (iu (ab 2))) aA))))
 (aG (aU (cT y171 E.y8e (rm hr) (ab 0) (ah (ab 3) (ah (bX y178 (rm hr) (ah (ab 0) (ah (lz (ab 1) (iu (ab 2)) ir) aA))) aA))))))))
theorem fM:y37 ["_law_deal_here","_law_house","_law_words","_law_seal_here","_law_depth","_law_paths_here","_law_put_so","_law_changed","_law_k","_law_word_here","_law_siblings","_law_kept"] EA (bK (top 20)):=bO
theorem E9{f:Addr}{fd:FuncData}(F:Fun K "_law_right" "_law_right" (top 20) f fd)(E:Tx K mg κ)(y17a:cZ P w K mg base "comes_to" 5 ["house","depth","paths"] (aR K κ 3 vp))(y17b:cZ P w K mg base "comes_to_with" 5 pD (aR K κ 4 vq))(y178:cZ P w K mg base "_law_seal" 11 wL (aR K κ 2 (iL 8)))(y174:cZ P w K mg base "_law_draw" 1 pC (aR K κ 2 cB))(y179:cZ P w K mg base "_law_word" 2 iQ (aR K κ 1 iK))(y175:cZ P w K mg base "_law_paths" 3 EB (aR K κ 5 xl)):y36 P w K mg base bU 12 f fd EA (aR K κ 5 vt) :=
 bN F fM rfl rfl λcdv A outer s H _ hr=>(av (aM (i:=5) fM.nd (oI hr E.y77 (ah (bX y175 (rm hr) (ah (ab 0) (ah (ab 1) (ah (ab 3) (ah (ab 4) (ah (aV hr (eC (ah aj (ah (aB (jg hr) jh aj (ab 4)) aA))) (bX y174 (rm hr) (ah (ab 0) (ah aj aA)))) aA)))))) aA)))
 (av (aM (i:=6) fM.nd (fg yff))
 (av (aM (i:=7) fM.nd (BQ hr E.y74 (ah (ab 2) aA)))
 (av (dJ (dy (ab 5)) (iE (gk (i:=8) fM.nd (gk (i:=9) fM.nd (gk (i:=10) fM.nd hV))))
 (aG (cf (gv hr (bX y174 (rm hr) (ah (ab 0) (ah aj aA))) aj)
 (av (fA hr (ab 6) (ab 8) (aV hr (eC (ah (ab 9) (ah (bX y179 (rm hr) (ah (ab 0) aA)) (ah (aV hr (ab 2) aj) aA)))) (bX y174 (rm hr) (ah (ab 0) (ah aj aA)))))
 (aG (fA hr (ab 7) (ab 8) (aV hr (ab 6) (ab 8)))))
 cc)))
 (av (aM (i:=11) fM.nd (yfd hr E.y71 (ah (ab 6) aA)))
 (av (cf (k7 hr (bX y17a (rm hr) (ah (ab 1) (ah (ab 4) (ah (ab 5) aA)))) (ab 3))
 (aG (aU tN))
 cc)
 (av (cf (k7 hr (bX y17b (rm hr) (ah (ab 1) (ah (ab 4) (ah (ab 5) (ah (fg (ab 6)) aA))))) (bX y178 (rm hr) (ah (ab 1) (ah (fg (ab 7)) aA))))
 (aG (aU tN))
 cc)
 (aG (aU (yf6 (vh hr (ab 6) (ab 11)) (yf6 (ue hr (bX y17b (rm hr) (ah (ab 1) (ah (ab 4) (ah (ab 5) (ah (fg yff) aA))))) (ab 3)) (uG (ue hr (bX y17a (rm hr) (ah (ab 1) (ah (ab 4) (ah (ab 5) aA)))) (ab 3))))))))))))))
theorem fN:y37 ["_law_script","_law_deal_here","_law_house","_law_depth","_law_other","_law_words","_law_seals","_law_turn"] ["_law_script"] (bK (top 21)):=bO
theorem Fb{f:Addr}{fd:FuncData}(F:Fun K "law" "law" (top 21) f fd)(E:Tx K mg κ)(y176:cZ P w K mg base "_law_right" 12 EA (aR K κ 5 vt))(y180:cZ P w K mg base "seal_of" 3 ["house","words"] (aR K κ 2 oY))(y177:cZ P w K mg base "_law_row" 3 pE (aR K κ 2 mI))(y174:cZ P w K mg base "_law_draw" 1 pC (aR K κ 2 cB))(y16e:oO P w K mg base (κ "House") 1 ["self"] (aR K κ 1 pS))(y173:cZ P w K mg base "_law_deal" 1 ["_law_script","_law_base"] (aR K κ 2 vm)):y36 P w K mg base bU 13 f fd ["_law_script"] (aR K κ 1 Ds) :=
 bN F fN rfl rfl λcdv A outer s H _ hr=>(av (aM (i:=1) fN.nd (bX y173 (rm hr) (ah (ab 0) (ah aj aA))))
 (av (aM (i:=2) fN.nd (Cc y16e (rm hr) E.y15e))
 (av (aM (i:=3) fN.nd (aV hr (eC (ah aj (ah aj (ah aj (ah aj (ah aj (ah aj aA))))))) (bX y174 (rm hr) (ah (fg (ab 1)) (ah aj aA)))))
 (av (aM (i:=4) fN.nd (bX y177 (rm hr) (ah (fg (ab 1)) (ah (ab 3) aA))))
 (av (aM (i:=5) fN.nd (bX y177 (rm hr) (ah (fg (ab 1)) (ah (ab 3) aA))))
 (av (aM (i:=6) fN.nd (eC (ah (bX y180 (rm hr) (ah (ab 2) (ah (ab 4) aA))) (ah (bX y180 (rm hr) (ah (ab 2) (ah (ab 5) aA))) aA))))
 (av (dJ (iD E.y75 (ah aj aA)) (gj (i:=7) fN.nd)
 (aG (cf (mC (eD (kP (kQ (bX y176 (rm hr) (ah (fg (ab 1)) (ah (ab 2) (ah (ab 5) (ah (aV hr (ab 6) aj) (ah (ab 3) aA)))))))) (hI (kP (kQ (bX y176 (rm hr) (ah (fg (ab 1)) (ah (ab 2) (ah (ab 4) (ah (aV hr (ab 6) aj) (ah (ab 3) aA)))))))))))
 (aG (aU tN))
 cc)))
 (aG (aU tN)))))))))
end
end Q
namespace Q
open PySem PySem.Spec PyProof.Rows L2 B
noncomputable def me(K:W.Frag):Sp:=λvs H Q _=>∃(a:Addr) (ns:List Int),vs=[.ref a]/\kz H/\aP K H a (ns.map V.int)/\ns.length≤63/\∀H',Q (.bl true) H'
theorem wM{K:W.Frag}{ι:List Addr}{H:Hp}:∀ns:List Int,y4c K ι H (ns.map V.int) (ns.map I.int)
 | []=>.nil
 | n::ns=>.cons (.int n) (wM ns)
theorem Fc{P:Program}{w:World}{K:W.Frag}{mg:Str->Option Value}{base:Heap}{κ:Str->Addr}{f:Addr}{fd:FuncData}(h:y36 P w K mg base bU 13 f fd ["_law_script"] (aR K κ 1 Ds)):y36 P w K mg base bU 13 f fd ["_law_script"] (me K):=by
 refine h.imp λvs H Q E q=>?_
 obtain⟨a,ns,rfl,ho,hs,hl,k⟩:=q
 have fr:jS K H a (ns.map V.int):=by
  rcases hs with (z|⟨o,z⟩)|z
  ·rcases ho a with e|⟨o,xs,e⟩<;>(rw [z] at e;cases e)
  ·exact .inl ⟨o,z⟩
  ·exact .inr (.inr z)
 obtain⟨G,e⟩:=Ez ns hl
 refine⟨[],[.im (.fro (ns.map I.int))],[],_,G,rfl,⟨.cons (.im (.fro fr (wM ns))) .nil,.nil,λx=>?_⟩,e,λv ι' H' s st=>?_⟩
 ·have:own (List.map some [V.ref a]) (List.map some [Vl.im (.fro (ns.map I.int))])=[]:=by show aT _ _++[]=[];rw [eh];rfl
  rw [this];simp
 ·have:=s.sl
  cases this with
  | cons q _=>cases q with
   | im r=>cases r;exact k _
theorem Fd:∀(us:List Value),us.length=1->∃x0,us=[x0]
 | [x0],_=>⟨x0,rfl⟩
theorem Fe:∀(us:List Value),us.length=2->∃x0 x1,us=[x0,x1]
 | [x0,x1],_=>⟨x0,x1,rfl⟩
theorem Ff:∀(us:List Value),us.length=3->∃x0 x1 x2,us=[x0,x1,x2]
 | [x0,x1,x2],_=>⟨x0,x1,x2,rfl⟩
theorem Fg:∀(us:List Value),us.length=4->∃x0 x1 x2 x3,us=[x0,x1,x2,x3]
 | [x0,x1,x2,x3],_=>⟨x0,x1,x2,x3,rfl⟩
theorem Fh:∀(us:List Value),us.length=5->∃x0 x1 x2 x3 x4,us=[x0,x1,x2,x3,x4]
 | [x0,x1,x2,x3,x4],_=>⟨x0,x1,x2,x3,x4,rfl⟩
noncomputable def y3(x q:Str)(st:Stmt)(ps:List Str):Prop:=∀(kV doc pm:Value) (an:Option Addr) (cdv ct:Value) (us:List Value),us.length=ps.length->bindArgs (W.fnOf x q (pK st) (mm st) (bK st) .none kV doc pm an cdv ct) ⟨us,[]⟩=pure (ps.zip us)
noncomputable abbrev NF(K:W.Frag)(x q:Str)(st:Stmt)(f:Addr)(d:FuncData):Prop:=W.nsIn K mainGlobals x=some (some (.ref f))/\Fun K x q st f d
noncomputable abbrev NM(K:W.Frag)(C:Addr)(x q:Str)(st:Stmt)(f:Addr)(d:FuncData):Prop:=W.findIn K (.ref C) x=some (some (.ref f))/\W.isFn K (.ref f)=true/\Fun K x q st f d
section
variable {K:W.Frag}{mg:Str->Option Value}{h:Heap}{k:Nat}{ps:List Str}{sp:Sp}{f:Addr}{fd:FuncData}{C:Addr}{x q m:Str}{st:Stmt}(P:Program)(w:World)(base:Heap)
theorem cy(X:K.In h)(G:h.Ns mainGlobals mg)(A:NF K x q st f fd)(o:y36 P w K mg base bU k f fd ps sp)(hb:y3 x q st ps:=by intro _ _ _ _ _ _ us hl;first|(obtain⟨_,rfl⟩:=Fd us hl;rfl)|(obtain⟨_,_,rfl⟩:=Fe us hl;rfl)|(obtain⟨_,_,_,rfl⟩:=Ff us hl;rfl)|(obtain⟨_,_,_,_,rfl⟩:=Fg us hl;rfl)|(obtain⟨_,_,_,_,_,rfl⟩:=Fh us hl;rfl)):cZ P w K mg base x k ps sp:=⟨f,fd,W.mg_of X G A.1,A.2.kp,A.2.binds hb,o⟩
theorem mf(A:NM K C x q st f fd)(o:y36 P w K mg base bU k f fd ps sp)(hb:y3 x q st ps:=by intro _ _ _ _ _ _ us hl;first|(obtain⟨_,rfl⟩:=Fd us hl;rfl)|(obtain⟨_,_,rfl⟩:=Fe us hl;rfl)|(obtain⟨_,_,_,rfl⟩:=Ff us hl;rfl)|(obtain⟨_,_,_,_,rfl⟩:=Fg us hl;rfl)|(obtain⟨_,_,_,_,_,rfl⟩:=Fh us hl;rfl)):iB P w K mg base C x k ps sp:=⟨f,fd,⟨A.1,A.2.1,A.2.2.kp⟩,A.2.2.binds hb,o⟩
theorem wN(mk:W.makesIn K C=true)(kc:W.keepIn K (.ref C)=true)(A:NM K C "__init__" q st f fd)(o:y36 P w K mg base bU k f fd ps sp)(hb:y3 "__init__" q st ps:=by intro _ _ _ _ _ _ us hl;first|(obtain⟨_,rfl⟩:=Fd us hl;rfl)|(obtain⟨_,_,rfl⟩:=Fe us hl;rfl)|(obtain⟨_,_,_,rfl⟩:=Ff us hl;rfl)|(obtain⟨_,_,_,_,rfl⟩:=Fg us hl;rfl)|(obtain⟨_,_,_,_,_,rfl⟩:=Fh us hl;rfl)):oO P w K mg base C k ps sp:=⟨f,fd,⟨mk,A.1,A.2.1,kc⟩,A.2.2.binds hb,o⟩
end
theorem all_mk{l:W.OpenLaw}{w:World}{K:W.Frag}{h:Heap}{mg:Str->Option Value}{fa y4 f1 f2 f3 f4 f5 f6 f7 f8 f9 f10 f11 f12 f13 f14 f15 f16 f17 f18 f19 f20:Addr}(X:K.In h)(G:h.Ns mainGlobals mg)(hfa:mg "law" = some (.ref fa))
  {d1 d2 d3 d4 d5 d6 d7 d8 d9 d10 d11 d12 d13 d14 d15 d16 d17 d18 d19 d20:FuncData}
  (y52:W.nsIn K mainGlobals "House" = some (some (.ref y4)))
  (A1:NF K "_law_deal" "_law_deal" (top 14) f1 d1)
  (A2:NM K y4 "__init__" "House.__init__" (aL (top 12) 0) f2 d2)
  (A3:NF K "_law_draw" "_law_draw" (top 15) f3 d3)
  (A4:NF K "_law_word" "_law_word" (top 16) f4 d4)
  (A5:NF K "_law_row" "_law_row" (top 17) f5 d5)
  (A6:NM K y4 "seal_for" "House.seal_for" (aL (top 12) 1) f6 d6)
  (A7:NM K y4 "leaf" "House.leaf" (aL (top 12) 2) f7 d7)
  (A8:NM K y4 "pair" "House.pair" (aL (top 12) 3) f8 d8)
  (A9:NF K "seal_of" "seal_of" (top 2) f9 d9)
  (A10:NM K y4 "opened" "House.opened" (aL (top 12) 4) f10 d10)
  (A11:NF K "path_in" "path_in" (top 3) f11 d11)
  (A12:NF K "_law_paths" "_law_paths" (top 19) f12 d12)
  (A13:NF K "pair_above" "pair_above" (top 4) f13 d13)
  (A14:NF K "places_of" "places_of" (top 8) f14 d14)
  (A15:NF K "is_path" "is_path" (top 7) f15 d15)
  (A16:NF K "comes_to" "comes_to" (top 9) f16 d16)
  (A17:NF K "comes_to_with" "comes_to_with" (top 10) f17 d17)
  (A18:NF K "_law_seal" "_law_seal" (top 18) f18 d18)
  (A19:NF K "_law_right" "_law_right" (top 20) f19 d19)
  (A20:NF K "law" "law" (top 21) f20 d20)
  (y2ee:W.plainGet K y4 Str.empty=true) (y18c:W.hasDictIn K y4=true) (y310:W.plainOver K y4=true) (y3b6:W.findIn K (.ref y4) "__setattr__" = some (some (.builtin "object.__setattr__"))) (y23f:W.makesIn K y4=true) (y1d9:W.keepIn K (.ref y4)=true)
  (nf0:W.findIn K (.ref y4) "given" = some none)
  (nf1:W.findIn K (.ref y4) "seals" = some none)
  {y432:Tok} (y1da:W.nsIn K mainGlobals "WIDE" = some (some (.int 4294967296 y432)))
  (z0:W.nsIn K mainGlobals "all" = some none)
  (z1:W.nsIn K mainGlobals "dict" = some none)
  (z2:W.nsIn K mainGlobals "enumerate" = some none)
  (z3:W.nsIn K mainGlobals "len" = some none)
  (z4:W.nsIn K mainGlobals "list" = some none)
  (z5:W.nsIn K mainGlobals "max" = some none)
  (z6:W.nsIn K mainGlobals "min" = some none)
  (z7:W.nsIn K mainGlobals "range" = some none)
  (z8:W.nsIn K mainGlobals "reversed" = some none)
  (z9:W.nsIn K mainGlobals "set" = some none)
  (z10:W.nsIn K mainGlobals "tuple" = some none)
  (z11:W.nsIn K mainGlobals "zip" = some none)
  : ∃fd:FuncData,(∀(s:Shared) (v:Value),BindsTo s fd ⟨[v],[]⟩ [("_law_script",v)])/\∀base:Heap,K.In base->base.Ns mainGlobals mg->y36 l.prog w K mg base bU 13 fa fd ["_law_script"] (me K):=by
 have e:=hfa.symm.trans (W.mg_of X G A20.1)
 cases e
 obtain⟨κ,hκ⟩:∃κ:Str->Addr,κ "House" = y4:=⟨λc:Str=>if c="House" then y4 else 0,if_pos rfl⟩
 subst hκ
 have E:Tx K mg κ:=⟨⟨y2ee,y18c,y310,y3b6⟩,W.mg_of X G y52,nf0,nf1,⟨_,W.mg_of X G y1da⟩,W.mg_none_of X G z0,W.mg_none_of X G z1,W.mg_none_of X G z2,W.mg_none_of X G z3,W.mg_none_of X G z4,W.mg_none_of X G z5,W.mg_none_of X G z6,W.mg_none_of X G z7,W.mg_none_of X G z8,W.mg_none_of X G z9,W.mg_none_of X G z10,W.mg_none_of X G z11⟩
 obtain⟨_,_,kV,dc,pm,an,cd,ct,_,rfl,_,_⟩:=A20.2.ex
 refine⟨W.fnOf "law" "law" (pK (top 21)) (mm (top 21)) (bK (top 21)) .none kV dc pm an cd ct,λs v=>.of_eq rfl,λbase _ _=>?_⟩
 have y173:=cy l.prog w base X G A1 (EE A1.2 E )
 have y16e:=wN l.prog w base y23f y1d9 A2 (EG A2.2.2 E )
 have y174:=cy l.prog w base X G A3 (EH A3.2 E )
 have y179:=cy l.prog w base X G A4 (EJ A4.2 E y174)
 have y177:=cy l.prog w base X G A5 (EK A5.2 E y174 y179)
 have y172:=mf l.prog w base A6 (EM A6.2.2 E )
 have y16f:=mf l.prog w base A7 (EO A7.2.2 E y172)
 have y171:=mf l.prog w base A8 (ES A8.2.2 E y172)
 have y180:=cy l.prog w base X G A9 (ET A9.2 E y171 y16f)
 have y170:=mf l.prog w base A10 (EV A10.2.2 E )
 have y17e:=cy l.prog w base X G A11 (EW A11.2 E y170)
 have y175:=cy l.prog w base X G A12 (EX A12.2 E y174 y17e)
 have y17d:=cy l.prog w base X G A13 (EZ A13.2 E y171)
 have y17f:=cy l.prog w base X G A14 (E1 A14.2 E y17d y16f)
 have y17c:=cy l.prog w base X G A15 (E2 A15.2 E y170)
 have y17a:=cy l.prog w base X G A16 (E3 A16.2 E y17f y17c)
 have y17b:=cy l.prog w base X G A17 (E5 A17.2 E y17d y16f y17f)
 have y385:∀n:Nat,y36 l.prog w K mg base bU (3+n) f18 _ wL (aR K κ 2 (iL n)):=λn=>by
  induction n with
  | zero=>exact (by unfold iL;exact Cq)
  | succ n ih=>exact E6 A18.2 E y171 (cy l.prog w base X G A18 (ih)) y16f
 have y178:=(cy l.prog w base X G A18 ((y385 8)))
 have y176:=cy l.prog w base X G A19 (E9 A19.2 E y17a y17b y178 y174 y179 y175)
 exact Fc (κ:=κ) (Fb A20.2 E y176 y180 y177 y174 y16e y173)
theorem walk{l:W.OpenLaw}{q:Program}{loose:List Str}{XP:(Str->Option Value)->Heap->Prop}{YP:World->Heap->Prop}{d:DefRec}{K:Params->W.Frag}(hn:l.most=some 63)(hdf:d.params.defaults=[])
  (hY:∀(w:World) (h:Heap),YP w h->(K w.params).In h)
  (F:∀(w:World) (mg:Str->Option Value) (fa:Addr) (h:Heap),(K w.params).In h->h.Ns mainGlobals mg->mg d.name=some (.ref fa) ->
   ∃fd:FuncData,(∀(s:Shared) (u:Value),BindsTo s fd ⟨[u],[]⟩ [("_law_script",u)])/\∀base:Heap,(K w.params).In base->base.Ns mainGlobals mg->y36 l.prog w (K w.params) mg base bU 13 fa fd ["_law_script"] (me (K w.params))) :
  W.WalkO q loose XP YP l.row.toRowW d [] (λf vs=>PySem.call f vs) :=
 L2.y49a (n:=63) (k:=13) (x:="_law_script") (CX:=λ_=>bU) (sp:=λw=>me (K w.params)) hn (by decide) hdf ⟨rfl,by decide,by decide,rfl⟩ hY F (λ_ _ a ns hl ho hS=>⟨a,ns,rfl,ho,hS,hl,λ_=>rfl⟩) λ_ _ _ _ _ z=>z
end Q
open PySem PySem.W PyProof.Rows
set_option maxRecDepth 100000 in
set_option maxHeartbeats 0 in
theorem PySem.Challenge.cw_stepcourt_k25_paths_come_to_holds : PySem.Challenge.rw_stepcourt_k25_paths_come_to.Holds := by
 refine zTop ?_
 k_fill
 refine Q.walk (l:=PySem.Challenge.rw_stepcourt_k25_paths_come_to) rfl rfl (λw h Y=>W.kIn_of Y) ?F
 case F =>
  intro w mg fa h KX G hmg
  refine' Q.all_mk KX G hmg ..
  all_goals first|k_is|(refine' ⟨?a,L2.y158 ?l ?c ?k⟩;case a|l|c|k=>k_is)|(refine' ⟨?a,?i,L2.y158 ?l ?c ?k⟩;case a|i|l|c|k=>k_is)|kernel_rfl|(repeat (first|exact .nil|refine .cons ⟨_,rfl⟩ ?_))
