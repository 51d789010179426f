import PyProof.Rows.All
import Wide.All
import OpenK.AllK
import Wide.FinOn
import Lean
import PyProof.EqAt
import PyProof.EqKinds
import PyProof.TupleCall
import PyProof.CompFree
import PyProof.NeKinds
import PyProof.Rows.RegReprOcc
import PyProof.Rows.StrCase
import PyProof.ZipIter
import PyProof.EnumMake
import PyProof.Draws
import PyProof.Rows.Range3
import KE.BitLaws
import KE.KDictOf
import PyProof.AttrMissSeq
import PyProof.DictUpdate
import PyProof.Rows.Tup
import PyProof.ReprRoads
import PyProof.DictRoadsH
import PyProof.DictItemsLoops
import PyProof.DictWalks
import PyProof.Rows.SetFrom
import PyProof.ListRange
import KE.KDictSum
import PyProof.StrCalls6
import PyProof.JoinWalk
import PyProof.FString
import PyProof.ToksMono
import PyProof.StrLawsReplace
import PyProof.StrLawsIdx
import KE.KIntText
import PyProof.Rows.StrClose
import PySem.Challenge.RW_stepcourt_k08_the_first_thing_amiss
import Open.Row
import PyProof.ReprLen
import PyProof.Rows.ReprShort
import PyProof.TupleOfGen
import PyProof.ExcArgsOwn
import OpenK.KWalk
import OpenK.KMake
import PyProof.StationsW
import PyProof.RulesTry
import PyProof.RulesAs
import PyProof.NsDelKeeps
import PyProof.InstStoreFacts
import PyProof.InstSpecial
import PyProof.ExcClsAt
import PyProof.ExcClass3
import PyProof.ExcBaseAll.ValueError
import PyProof.Commute
import KE.KIsAll
set_option Elab.async false
set_option bootstrap.genMatcherCode false
set_option genSizeOf false
set_option compiler.extract_closed false
set_option genSizeOfSpec false
set_option linter.all false
set_option maxRecDepth 100000
section
open PySem PySem.W PyProof.Rows
set_option maxRecDepth 100000
set_option maxHeartbeats 0
namespace PySem.W.Fast
theorem tw13177264999580132443:True:=⟨⟩
theorem tw895538476482711749:True:=⟨⟩
theorem tw4913874936065851510:True:=⟨⟩
theorem tw4519450879807538878:True:=⟨⟩
theorem tw15187169452722266847:True:=⟨⟩
theorem tw15544239321857458025:True:=⟨⟩
theorem tw13218746136861130678:True:=⟨⟩
theorem tw11229071132917530449:True:=⟨⟩
theorem tw17027818914372267458:True:=⟨⟩
theorem tw852478499754853246:True:=⟨⟩
theorem tw9777197614727144175:True:=⟨⟩
theorem tw7516292785299593844:True:=⟨⟩
theorem tw6551363156116692338:True:=⟨⟩
theorem tw395463464014435128:True:=⟨⟩
theorem tw1956548250747423899:True:=⟨⟩
theorem tw8460669310240601629:True:=⟨⟩
theorem tw3902621705068835048:True:=⟨⟩
theorem tw3045374356822331967:True:=⟨⟩
theorem tw8822291404628921983:True:=⟨⟩
theorem tw15881245120926960385:True:=⟨⟩
theorem tw8150494483434907230:True:=⟨⟩
theorem tw7994059539151220853:True:=⟨⟩
theorem tw15891456575636753283:True:=⟨⟩
theorem tw2649044472549066648:True:=⟨⟩
theorem tw6798638055086111401:True:=⟨⟩
theorem tw8528361429512264859:True:=⟨⟩
theorem tw12383037539652737636:True:=⟨⟩
theorem tw9639980338403056850:True:=⟨⟩
theorem tw5916890518424925820:True:=⟨⟩
theorem tw15530991955049172217:True:=⟨⟩
theorem tw6482800158057863147:True:=⟨⟩
theorem tw2459149278501700511:True:=⟨⟩
theorem tw6572183223852449591:True:=⟨⟩
theorem tw9212744562938848036:True:=⟨⟩
theorem tw15269304584810771261:True:=⟨⟩
theorem tw14787167811812044494:True:=⟨⟩
theorem tw17957213987017164864:True:=⟨⟩
theorem tw13851172441453474682:True:=⟨⟩
theorem tw7554348544075112114:True:=⟨⟩
theorem tw18147634735016505190:True:=⟨⟩
theorem tw4487168863061647788:True:=⟨⟩
theorem tw9103119445637474416:True:=⟨⟩
theorem tw4083259587868711730:True:=⟨⟩
theorem tw2698669867553343545:True:=⟨⟩
theorem tw16865912158236578429:True:=⟨⟩
theorem tw7683413027814144735:True:=⟨⟩
theorem tw5930245222610895174:True:=⟨⟩
theorem tw13469112012805276001:True:=⟨⟩
theorem tw15038055886059324390:True:=⟨⟩
theorem tw12453948998007411332:True:=⟨⟩
theorem tw3935902670650191560:True:=⟨⟩
theorem tw16652376392405926066:True:=⟨⟩
theorem tw9747514990888706239:True:=⟨⟩
theorem tw13258880383493924464:True:=⟨⟩
theorem tw11418382477747728562:True:=⟨⟩
theorem tw17584295557712985996:True:=⟨⟩
theorem tw1249609262983394801:True:=⟨⟩
theorem tw2132911524444663084:True:=⟨⟩
theorem tw17332023533657689576:True:=⟨⟩
theorem tw2056797189884044599:True:=⟨⟩
theorem tw1743902035226782177:True:=⟨⟩
theorem tw17759830326070839462:True:=⟨⟩
theorem tw2345989680370554778:True:=⟨⟩
theorem tw2254231063549161415:True:=⟨⟩
theorem tw5564154564620580589:True:=⟨⟩
theorem tw18173385211141234565:True:=⟨⟩
theorem tw16825475289437841240:True:=⟨⟩
theorem tw1815439330302545554:True:=⟨⟩
theorem tw6045546531790125783:True:=⟨⟩
theorem tw7838914647235854133:True:=⟨⟩
theorem tw7458513109189904703:True:=⟨⟩
theorem tw4397684161973488112:True:=⟨⟩
theorem tw15755600195435188709:True:=⟨⟩
theorem tw17407049565445360953:True:=⟨⟩
theorem tw908880305357758839:True:=⟨⟩
theorem tw2455218816632103904:True:=⟨⟩
theorem tw782719872413053650:True:=⟨⟩
theorem tw15923931946982703250:True:=⟨⟩
theorem tw7958174498357925821:True:=⟨⟩
theorem tw3686326400322533805:True:=⟨⟩
theorem tw17236398780377943071:True:=⟨⟩
theorem tw3892227632994185491:True:=⟨⟩
theorem tw7684820258534166126:True:=⟨⟩
theorem tw6746078713729573149:True:=⟨⟩
theorem tw11804292509008479115:True:=⟨⟩
theorem tw13587052777431275356:True:=⟨⟩
theorem tw17362094401345318013:True:=⟨⟩
theorem tw4459180487298125006:True:=⟨⟩
theorem tw9246042815031778251:True:=⟨⟩
theorem tw8709042462198708382:True:=⟨⟩
theorem tw9798698045082436836:True:=⟨⟩
theorem tw6309199330136857025:True:=⟨⟩
theorem tw8083423483217949915:True:=⟨⟩
theorem tw15010142700156670087:True:=⟨⟩
theorem tw11954902030139364750:True:=⟨⟩
theorem tw2615588686933544735:True:=⟨⟩
theorem tw5585903270148390919:True:=⟨⟩
theorem tw3123432008305972677:True:=⟨⟩
theorem tw15040804366717906955:True:=⟨⟩
theorem tw4078788042237280789:True:=⟨⟩
theorem tw13369165591201428539:True:=⟨⟩
theorem tw3583079532035691742:True:=⟨⟩
theorem tw11161512577181806471:True:=⟨⟩
theorem tw13584122695382047704:True:=⟨⟩
theorem tw2790703193821817401:True:=⟨⟩
theorem tw12892738712274723240:True:=⟨⟩
theorem tw15752887362515140783:True:=⟨⟩
theorem tw5628314597858573862:True:=⟨⟩
theorem tw11795361339884293948:True:=⟨⟩
theorem tw17796075267231131897:True:=⟨⟩
theorem tw11501091500179542797:True:=⟨⟩
theorem tw2768536379164225707:True:=⟨⟩
theorem tw4268020307254116079:True:=⟨⟩
theorem tw769526284009388806:True:=⟨⟩
theorem tw5288445787047881752:True:=⟨⟩
theorem tw4926728083454191043:True:=⟨⟩
theorem tw1919947383599481878:True:=⟨⟩
theorem tw13588013580689071181:True:=⟨⟩
theorem tw14298222390208911655:True:=⟨⟩
theorem tw1205011893391287390:True:=⟨⟩
theorem tw17534516426610419080:True:=⟨⟩
theorem tw14287529356680542429:True:=⟨⟩
theorem tw13960732369908283787:True:=⟨⟩
theorem tw15369637706217280882:True:=⟨⟩
theorem tw2276500545618996696:True:=⟨⟩
theorem tw6147404680042301813:True:=⟨⟩
theorem tw15005101350805175016:True:=⟨⟩
theorem tw7938352015378969248:True:=⟨⟩
theorem tw790762417007475954:True:=⟨⟩
theorem tw9040897349740716175:True:=⟨⟩
theorem tw597950867924285991:True:=⟨⟩
theorem tw408116314839106180:True:=⟨⟩
theorem tw3323801378846934992:True:=⟨⟩
end PySem.W.Fast
open_top zTop for PySem.Challenge.rw_stepcourt_k08_the_first_thing_amiss
end
local macro_rules
|`(command|abbrev $i:declId $s:optDeclSig:=$v)=>`(command|noncomputable def $i:declId $s:optDeclSig:=$v)
|`(command|abbrev $i:declId $s:optDeclSig $a:matchAlts)=>`(command|noncomputable def $i:declId $s:optDeclSig $a:matchAlts)
noncomputable abbrev za:=@List.length_append
noncomputable abbrev zb:=@PySem.wpAny_bind
noncomputable abbrev zc:=@List.size_toArray
noncomputable abbrev zd:=@PySem.Heap.get?_push_of_some
noncomputable abbrev ze:=@PySem.wpAny_pure
noncomputable abbrev zf:=@Nat.le_refl
noncomputable abbrev z10:=@List.length_cons
noncomputable abbrev z11:=@List.append_nil
noncomputable abbrev z12:=@List.length_map
noncomputable abbrev z13:=@List.mem_append
noncomputable abbrev z14:=@List.getElem?_eq_some_iff
noncomputable abbrev z15:=@Bool.false_ne_true
noncomputable abbrev z16:=@List.map_cons
noncomputable abbrev z17:=@PySem.Heap.lt_size
noncomputable abbrev z18:=@List.getElem?_append_right
noncomputable abbrev z19:=@Nat.le_trans
noncomputable abbrev z1a:=@List.getElem?_append_left
noncomputable abbrev z1b:=@Nat.lt_of_lt_of_le
noncomputable abbrev z1c:=@List.getElem?_eq_getElem
noncomputable abbrev z1d:=@List.mem_cons
noncomputable abbrev z1e:=@Option.some.inj
noncomputable abbrev z1f:=@List.count_append
noncomputable abbrev z20:=@List.append_assoc
noncomputable abbrev z21:=@List.mem_append_right
noncomputable abbrev z22:=@List.mem_singleton
noncomputable abbrev z23:=@List.mem_cons_of_mem
noncomputable abbrev z24:=@Bool.and_eq_true
noncomputable abbrev z25:=@List.map_append
noncomputable abbrev z26:=@Nat.ne_of_lt
noncomputable abbrev z27:=@PySem.Heap.get?_push_size
noncomputable abbrev z28:=@List.getElem?_set_ne
noncomputable abbrev z29:=@List.nil_append
noncomputable abbrev z2a:=@List.cons_append
noncomputable abbrev z2b:=@PySem.wpAny_newObj_type
noncomputable abbrev z2c:=@List.length_set
noncomputable abbrev z2d:=@List.length_take
noncomputable abbrev z2e:=@List.take_of_length_le
noncomputable abbrev z2f:=@List.length_drop
noncomputable abbrev z30:=@List.length_reverse
noncomputable abbrev z31:=@List.mem_of_getElem?
noncomputable abbrev z32:=@List.getElem_mem
noncomputable abbrev z33:=@Nat.lt_irrefl
noncomputable abbrev z34:=@List.singleton_append
noncomputable abbrev z35:=@Nat.lt_succ_self
noncomputable abbrev z36:=@Bool.and_eq_true_iff
noncomputable abbrev z37:=@List.reverse_append
noncomputable abbrev z38:=@List.map_map
noncomputable abbrev z39:=@List.mem_map
theorem zzA(h:True:=by rfl):True:=h
local macro_rules|`(‹$x›)=>`(autoParam $x zzA._auto_1)
namespace L2
open PySem PySem.Spec PyProof.Rows
section
noncomputable abbrev aK:=Sum Int Str
abbrev iy:aK->Value->Bool
 | .inl k,v=>Value.isInt k v
 | .inr x,v=>Value.isStrOf x v
abbrev qg(w:World):aK->Int
 | .inl k=>hashInt k
 | .inr x=>hashStr w x
def eZ:∀{k:aK} {v:Value},iy k v=true->(∃i t,k=Sum.inl i/\v=Value.int i t)∨(∃x t,k=Sum.inr x/\v=Value.str x t)
 | .inl i,v,h=>by
  obtain⟨t,e⟩:=Value.isInt_shape (k:=i) (v:=v) h
  exact .inl ⟨i,t,rfl,e⟩
 | .inr x,v,h=>by
  obtain⟨t,e⟩:=Value.isStrOf_shape (x:=x) (v:=v) h
  exact .inr ⟨x,t,rfl,e⟩
def zE(i:Int)(t:Tok):iy (.inl i) (.int i t)=true:=by simp [iy,Value.isInt]
def zF(x:Str)(t:Tok):iy (.inr x) (.str x t)=true:=by simp [iy,Value.isStrOf]
def zG(a b:Int):decide ((Sum.inl a:aK)=Sum.inl b)=(a == b):=by
 by_cases e:a=b
 ·subst e;simp
 ·have h:¬ (Sum.inl a:aK)=Sum.inl b:=λq=>e (Sum.inl.inj q)
  rw [decide_eq_false h]
  exact (beq_eq_false_iff_ne.mpr e).symm
def zH(a b:Str):decide ((Sum.inr a:aK)=Sum.inr b)=decide (a=b):=by
 by_cases e:a=b
 ·subst e;simp
 ·have h:¬ (Sum.inr a:aK)=Sum.inr b:=λq=>e (Sum.inr.inj q)
  rw [decide_eq_false h,decide_eq_false e]
def zI(a:Int)(b:Str):decide ((Sum.inl a:aK)=Sum.inr b)=false:=decide_eq_false (λq=>nomatch q)
def zJ(a:Str)(b:Int):decide ((Sum.inr a:aK)=Sum.inl b)=false:=decide_eq_false (λq=>nomatch q)
noncomputable def cR(prog:Program)(w:World):PySem.KeyKind prog w aK where
 is:=iy
 hash:=qg w
 inj:=λv a b ha hb=>by
  rcases eZ ha with⟨i,t,rfl,rfl⟩| ⟨x,t,rfl,rfl⟩
  ·rcases eZ hb with⟨j,u,rfl,e⟩| ⟨y,u,rfl,e⟩
   ·injection e with e1 _;rw [e1]
   ·exact nomatch e
  ·rcases eZ hb with⟨j,u,rfl,e⟩| ⟨y,u,rfl,e⟩
   ·exact nomatch e
   ·injection e with e1 _;rw [e1]
 byValue:=λk v h=>by
  rcases eZ h with⟨i,t,rfl,rfl⟩| ⟨x,t,rfl,rfl⟩<;>rfl
 pyHash:=λhv h=>by
  rcases eZ hv with⟨i,t,rfl,rfl⟩| ⟨x,t,rfl,rfl⟩
  ·exact wpAny_pyHash_int h
  ·exact wpAny_pyHash_str h
 eqBool:=λhu hv h=>by
  rcases eZ hu with⟨i,t,rfl,rfl⟩| ⟨x,t,rfl,rfl⟩
  ·rcases eZ hv with⟨j,u,rfl,rfl⟩| ⟨y,u,rfl,rfl⟩
   ·rw [zG] at h;exact wpAny_eqBool_int h
   ·rw [zI] at h;exact SeqAt.EqAt.int_str i t y u _ _ _ _ h
  ·rcases eZ hv with⟨j,u,rfl,rfl⟩| ⟨y,u,rfl,rfl⟩
   ·rw [zJ] at h;exact SeqAt.EqAt.str_int x t j u _ _ _ _ h
   ·rw [zH] at h;exact wpAny_eqBool_str h
 «strs»:=λk x t v h=>by
  rcases eZ h with⟨i,u,rfl,e⟩| ⟨y,u,rfl,e⟩
  ·exact nomatch e
  ·injection e with e1 _
   subst e1
   cases v<;>rfl
def zK(prog:Program)(w:World)(i:Int)(t:Tok):(cR prog w).is (.inl i) (.int i t)=true:=zE i t
def zL(prog:Program)(w:World)(x:Str)(t:Tok):(cR prog w).is (.inr x) (.str x t)=true:=zF x t
end
section
inductive V where
 | non|bl (b:Bool)|int (i:Int)|str (x:Str)|byt (b:Array UInt8)|flt (b:UInt64)|ref (a:Addr)|ty (n:String)
 deriving DecidableEq
abbrev aA:V->Value->Prop
 | .non,u=>u=Value.none
 | .bl b,u=>u=Value.bool b
 | .int i,u=>∃t,u=Value.int i t
 | .str x,u=>∃t,u=Value.str x t
 | .byt b,u=>∃t,u=Value.bytes b t
 | .flt b,u=>∃t,u=Value.float b t
 | .ref a,u=>u=Value.ref a
 | .ty n,u=>u=Value.type n
noncomputable abbrev au:List V->List Value->Prop:=Paired aA
theorem au.length{xs:List V}{us:List Value}(r:au xs us):xs.length=us.length:=Paired.length r
theorem au.get:∀{xs:List V} {us:List Value} {i:Nat} {x:V},au xs us->xs[i]?=some x->∃u,us[i]?=some u/\aA x u
 | _,_,_,_,.nil,e=>by simp at e
 | _,_,0,_,.cons r _,e=>by simp at e;subst e;exact⟨_,rfl,r⟩
 | _,_,i+1,x,.cons _ t,e=>by
  obtain⟨u,h1,h2⟩:=au.get (i:=i) (x:=x) t (by simpa using e)
  exact⟨u,by simpa using h1,h2⟩
theorem au.set{x:V}{u:Value}(r:aA x u):∀{xs:List V} {us:List Value} (i:Nat),au xs us->au (xs.set i x) (us.set i u)
 | _,_,_,.nil=>.nil
 | _,_,0,.cons _ t=>.cons r t
 | _,_,i+1,.cons q t=>.cons q (au.set r i t)
theorem au.append:∀{xs ys:List V} {us ws:List Value},au xs us->au ys ws->au (xs++ys) (us++ws)
 | _,_,_,_,.nil,s=>s
 | _,_,_,_,.cons r t,s=>.cons r (au.append t s)
theorem au.take:∀{xs:List V} {us:List Value} (n:Nat),au xs us->au (xs.take n) (us.take n)
 | _,_,0,_=>.nil
 | _,_,_+1,.nil=>.nil
 | _,_,n+1,.cons r t=>.cons r (au.take n t)
theorem au.drop:∀{xs:List V} {us:List Value} (n:Nat),au xs us->au (xs.drop n) (us.drop n)
 | _,_,0,r=>r
 | _,_,_+1,.nil=>.nil
 | _,_,n+1,.cons _ t=>au.drop n t
abbrev ib:Option V->Option Value->Prop
 | some v,some u=>aA v u
 | none,none=>True
 | _,_=>False
abbrev KV{κ:Type}:List (κ×V)->List (κ×Value)->Prop:=Paired λ(p:κ×V) (q:κ×Value)=>p.1=q.1/\aA p.2 q.2
abbrev kV:aK->V
 | .inl i=>.int i
 | .inr x=>.str x
inductive HO where
 | lst (xs:List V)
 | tup (xs:List V)
 | dK (kvs:List (aK×V))|dT (kvs:List (List aK×V))
 | set (S:Int->Bool) (n:Nat)
 | ins (C dx:Addr) (fs:List (Str×V))
 | own (x:Addr)
 | xd (fs:List (Str×V))
 | met (f x:Addr)
 | rng (lo hi:Int)
 | frz (o:Obj) (u:HO)
 | tbl (ps:Array Value)
 | ext (φ:Heap->Prop)
noncomputable abbrev Hp:=Addr->Option HO
abbrev aC(H:Hp)(a:Addr)(o:HO):Hp:=λb=>if b=a then some o else H b
def a9{H:Hp}{a:Addr}{o:HO}:aC H a o a=some o:=by unfold aC;rw [if_pos rfl]
def aM{H:Hp}{a b:Addr}{o:HO}(h:b≠a):aC H a o b=H b:=by unfold aC;rw [if_neg h]
def zM{H:Hp}{a:Addr}{o u:HO}:aC (aC H a o) a u=aC H a u:=by
 funext b;unfold aC;split<;>rfl
def m9{H:Hp}{a b:Addr}{o u:HO}(h:H a=some o)(h':H b=some u)(d:o≠u):a≠b:=by
 intro e;subst e;rw [h] at h';exact d (z1e h')
def gF{H:Hp}{a b:Addr}{o:HO}(h:H a=some o)(h':H b=none):a≠b:=by
 intro e;subst e;rw [h] at h';cases h'
abbrev ky(h:Heap)(a:Addr)(items:Array Value):Prop:=∃o,h.get? a=some o/\o.cls=.type "tuple"/\o.dict=none/\∃n,o.data=.seq items n
def ky.tup{h:Heap}{a:Addr}{items:Array Value}(x:ky h a items):IsTup h a items:=let ⟨o,e,c,_,n,d⟩:=x;⟨o,e,c,n,d⟩
def ky.mk'(h:Heap)(items:Array Value):ky (h.push { cls:=.type "tuple",data:=.seq items }) h.objs.size items:=⟨_,z27 _ rfl,rfl,rfl,_,rfl⟩
section
variable (P:Program)(w:World)
abbrev dR(H:Hp)(h:Heap)(a:Addr):HO->Prop
 | .lst xs=>xs.length≤sizeLine/\∃(its:List Value) (n:Nat),au xs its/\h.get? a=some { cls:=.type "list",data:=.seq its.toArray n }
 | .tup xs=>xs.length≤sizeLine/\∃its:List Value,au xs its/\ky h a its.toArray
 | .dK kvs=>kvs.length≤sizeLine/\(a == sysModules)=false/\∃vs,KV kvs vs/\h.DictOf (cR P w) a vs
 | .dT kvs=>kvs.length≤sizeLine/\(a == sysModules)=false/\∃xs:List (List aK×Addr×Value),
   Paired (λ(p:List aK×V) (q:List aK×Addr×Value)=>p.1=q.1/\H q.2.1=some (.tup (p.1.map kV))/\aA p.2 q.2.2) kvs xs /\
   ∃o es ep,h.get? a=some o/\o.ExactDict/\o.data=.dict es ep/\es.toList=xs.map (entryOfKey (tupleKind (cR P w)))/\(xs.map (·.1)).Nodup
 | .set S n=>h.SetOf (intKind P w) a S n
 | .ins C dx fs=>H dx=some (.own a)/\fs.length≤1000/\dx≠a/\h.get? a=some (W.instObj C dx) /\
   ∃mA,h.Ns1 dx mA/\(∀f,ib (fs.lookup f) (mA f))/\PySem.Within mA (fs.map (·.1))
 | .own _=>∃o,h.get? a=some o
 | .xd fs=>∃mA,h.Ns1 a mA/\∀f,ib (fs.lookup f) (mA f)
 | .rng lo hi=>∃t u v,h.get? a=some { cls:=.type "range",data:=.fields #[.int lo t,.int hi u,.int 1 v] }
 | .frz o u=>h.get? a=some o/\dR H h a u
 | .tbl ps=>h.get? a=some { cls:=.none,data:=.fields ps }
 | .met f x=>h.get? a=some (W.methodObj (.ref f) (.ref x))
 | .ext φ=>φ h/\(∃o,h.get? a=some o)/\∀h1 h2:Heap,φ h1->(∀o,h1.get? a=some o->h2.get? a=some o)->φ h2
abbrev cP(H:Hp)(h:Heap):Prop:=∀a o,H a=some o->dR P w H h a o
end
section
variable {P:Program}{w:World}{H H':Hp}{h h':Heap}{a:Addr}{o:HO}
theorem dR.lt(x:dR P w H h a o):a<h.objs.size:=by
 cases o with
 | lst xs=>obtain⟨_,_,_,_,e⟩:=x;exact z17 e
 | tup xs=>obtain⟨_,_,_,p⟩:=x;exact p.tup.lt
 | dK kvs=>obtain⟨_,_,_,_,o,_,_,e,_⟩:=x;exact z17 e
 | dT kvs=>obtain⟨_,_,_,_,o,_,_,e,_⟩:=x;exact z17 e
 | set S n=>obtain⟨o,_,_,_,e,_⟩:=x;exact z17 e
 | ins C dx fs=>obtain⟨_,_,_,e,_⟩:=x;exact z17 e
 | own y=>obtain⟨_,e⟩:=x;exact z17 e
 | xd fs=>obtain⟨_,⟨_,_,_,e,_⟩,_⟩:=x;exact z17 e
 | rng lo hi=>obtain⟨_,_,_,e⟩:=x;exact z17 e
 | frz ob u=>obtain⟨e,_⟩:=x;exact z17 e
 | tbl ps=>exact z17 (show h.get? a=some _ from x)
 | met f y=>exact z17 (show h.get? a=some _ from x)
 | ext φ=>obtain⟨_,⟨_,e⟩,_⟩:=x;exact z17 e
theorem Paired.mapP{α β:Type}{F G:α->β->Prop}:∀{l₁:List α} {l₂:List β},Paired F l₁ l₂->(∀a b,F a b->G a b)->Paired G l₁ l₂
 | _,_,.nil,_=>.nil
 | _,_,.cons r t,f=>.cons (f _ _ r) (Paired.mapP t f)
def dR.y3d4(x:dR P w H h a o)(k:∀b u,(b=a∨H b=some (.own a))->h.get? b=some u->h'.get? b=some u)
  (ho:∀b,H b=some (.own a)->H' b=some (.own a)) (ht:∀b xs,H b=some (.tup xs)->H' b=some (.tup xs)):dR P w H' h' a o:=by
 induction o with
 | lst xs=>obtain⟨z,its,n,r,e⟩:=x;exact⟨z,its,n,r,k _ _ (.inl rfl) e⟩
 | tup xs=>obtain⟨z,its,r,ob,e,c⟩:=x;exact⟨z,its,r,ob,k _ _ (.inl rfl) e,c⟩
 | dK kvs=>obtain⟨z,y,vs,r,ob,es,ep,e,c⟩:=x;exact⟨z,y,vs,r,ob,es,ep,k _ _ (.inl rfl) e,c⟩
 | dT kvs =>
  obtain⟨z,y,xs,r,ob,es,ep,e,c⟩:=x
  exact⟨z,y,xs,Paired.mapP r λp q z=>⟨z.1,ht _ _ z.2.1,z.2.2⟩,ob,es,ep,k _ _ (.inl rfl) e,c⟩
 | set S n=>obtain⟨ob,es,ep,t,e,c⟩:=x;exact⟨ob,es,ep,t,k _ _ (.inl rfl) e,c⟩
 | ins C dx fs =>
  obtain⟨d,z,ne,e,mA,⟨od,es,ep,e2,c⟩,r⟩:=x
  exact⟨ho _ d,z,ne,k _ _ (.inl rfl) e,mA,⟨od,es,ep,k _ _ (.inr d) e2,c⟩,r⟩
 | own y=>obtain⟨ob,e⟩:=x;exact⟨ob,k _ _ (.inl rfl) e⟩
 | xd fs=>obtain⟨mA,⟨od,es,ep,e,c⟩,r⟩:=x;exact⟨mA,⟨od,es,ep,k _ _ (.inl rfl) e,c⟩,r⟩
 | rng lo hi=>obtain⟨t,u,v,e⟩:=x;exact⟨t,u,v,k _ _ (.inl rfl) e⟩
 | frz ob u ih=>obtain⟨e,q⟩:=x;exact⟨k _ _ (.inl rfl) e,ih q⟩
 | tbl ps =>
  have e:h.get? a=some { cls:=.none,data:=.fields ps }:=x
  show h'.get? a=some { cls:=.none,data:=.fields ps }
  exact k a _ (.inl rfl) e
 | met f y =>
  have e:h.get? a=some (W.methodObj (.ref f) (.ref y)):=x
  show h'.get? a=some (W.methodObj (.ref f) (.ref y))
  exact k a _ (.inl rfl) e
 | ext φ=>obtain⟨p,⟨o,e⟩,st⟩:=x;exact⟨st _ _ p λo q=>k _ _ (.inl rfl) q,⟨o,k _ _ (.inl rfl) e⟩,st⟩
theorem cP.lt(x:cP P w H h)(e:H a=some o):a<h.objs.size:=(x a o e).lt
def cP.fresh(x:cP P w H h)(e:h.objs.size≤a):H a=none:=by
 cases q:H a with
 | none=>rfl
 | some u=>exact absurd (z1b (x.lt q) e) (z33 _)
def cP.kept(x:cP P w H h)(k:∀b u,h.get? b=some u->h'.get? b=some u):cP P w H h':=λa o e =>
 (x a o e).y3d4 (λb u _ q=>k b u q) (λ_ q=>q) λ_ _ q=>q
def cP.laid(x:cP P w H h)(k:∀b u,h.get? b=some u->h'.get? b=some u)(hp:h.objs.size≤a)(new:dR P w (aC H a o) h' a o):cP P w (aC H a o) h':=λb u e=>by
 have hn:=x.fresh hp
 by_cases hb:b=a
 ·subst hb;rw [a9] at e;cases e;exact new
 ·rw [aM hb] at e
  exact (x b u e).y3d4 (λc v _ q=>k c v q) (λc q=>by rw [aM (gF q hn)];exact q) λc xs q=>by rw [aM (gF q hn)];exact q
end
abbrev Rd(H:Hp)(a:Addr)(u:HO):Prop:=H a=some u∨∃o,H a=some (.frz o u)
def Rd.ok{P:Program}{w:World}{H:Hp}{h:Heap}{a:Addr}{u:HO}(r:Rd H a u)(x:cP P w H h):dR P w H h a u:=by
 rcases r with r|⟨o,r⟩
 ·exact x a u r
 ·obtain⟨_,q⟩:=x a _ r
  exact q
abbrev qh:Option HO->Prop
 | some (.lst _)=>True
 | some (.dK _)=>True
 | some (.dT _)=>True
 | some (.set _ _)=>True
 | some (.ins _ _ _)=>True
 | some (.ext _)=>True
 | _=>False
section
variable {P:Program}{w:World}{H:Hp}{h h':Heap}{x e:Addr}{o':HO}
def cP.write(ok:cP P w H h)(mu:qh (H x))(he:e=x∨H e=some (.own x))(k:∀b u,b≠e->h.get? b=some u->h'.get? b=some u)(heo:∃u,h'.get? e=some u)
  (new:dR P w (aC H x o') h' x o'):cP P w (aC H x o') h':=λb u q=>by
 have nown:∀c y,H c=some (.own y)->c≠x:=λc y r z=>by subst z;rw [r] at mu;exact mu
 have ntup:∀c xs,H c=some (.tup xs)->c≠x:=λc xs r z=>by subst z;rw [r] at mu;exact mu
 by_cases hb:b=x
 ·subst hb;rw [a9] at q;cases q;exact new
 ·rw [aM hb] at q
  by_cases hbe:b=e
  ·have q':H b=some (.own x):=by
    rcases he with z|z
    ·exact absurd (hbe.trans z) hb
    ·rw [hbe];exact z
   rw [q] at q';cases q'
   obtain⟨v,hv⟩:=heo
   exact⟨v,by rw [hbe];exact hv⟩
  ·refine (ok b u q).y3d4 (λc v hc r=>k c v ?_ r) (λc r=>by rw [aM (nown c b r)];exact r) λc xs r=>by rw [aM (ntup c xs r)];exact r
   rcases hc with rfl|hc
   ·exact hbe
   ·rintro rfl
    rcases he with z|z
    ·exact nown c b hc z
    ·rw [hc] at z;cases z;exact hb rfl
end
structure Un(fs ex:List Addr)(H H':Hp)(h h':Heap):Prop where
 keep:∀b o,h.get? b=some o->H b=none->b∉fs->b∉ex->h'.get? b=some o
 slot:∀b o,h.get? b=some o->H b=none->b∈fs->b∉ex->∃sl,h'.get? b=some { o with slots:=sl }
 free:∀b o,h.get? b=some o->H b=none->b∉ex->H' b=none
 there:∀b o,h.get? b=some o->b∉ex->∃o',h'.get? b=some o'
 y426:∀b xs,H b=some (.tup xs)->H' b=some (.tup xs)
 y150:∀b o u,H b=some (.frz o u)->H' b=some (.frz o u)
 y40b:∀b ps,H b=some (.tbl ps)->∃more,H' b=some (.tbl (ps++more))
section
variable {fs fs' ex ex':List Addr}{H H1 H2:Hp}{h h1 h2 h':Heap}{a x e:Addr}{o:HO}
def Un.any(u:Un fs ex H H1 h h1){b:Addr}{ob:Obj}(q:h.get? b=some ob)(n:H b=none)(hx:b∉ex):∃sl,h1.get? b=some { ob with slots:=sl }:=by
 by_cases hb:b∈fs
 ·exact u.slot b ob q n hb hx
 ·exact⟨ob.slots,u.keep b ob q n hb hx⟩
def Un.kept(k:∀b u,h.get? b=some u->h'.get? b=some u):Un fs ex H H h h' :=
 ⟨λb ob q _ _ _=>k b ob q,λb ob q _ _ _=>⟨ob.slots,k b ob q⟩,λ_ _ _ n _=>n,λb ob q _=>⟨ob,k b ob q⟩,λ_ _ q=>q,λ_ _ _ q=>q,λ_ ps q=>⟨#[],by rw [q];simp⟩⟩
def Un.refl:Un fs ex H H h h:=Un.kept λ_ _ q=>q
def Un.laid(k:∀b u,h.get? b=some u->h'.get? b=some u)(hp:h.objs.size≤a)(hn:H a=none):Un fs ex H (aC H a o) h h' where
 keep:=λb u q _ _ _=>k b u q
 slot:=λb u q _ _ _=>⟨u.slots,k b u q⟩
 free:=λb u q n _=>by rw [aM (z26 (z1b (z17 q) hp))];exact n
 there:=λb u q _=>⟨u,k b u q⟩
 y426:=λb xs q=>by rw [aM (gF q hn)];exact q
 y150:=λb u xs q=>by rw [aM (gF q hn)];exact q
 y40b:=λb ps q=>⟨#[],by rw [aM (gF q hn),q];simp⟩
def Un.write(mu:qh (H x))(he:e=x∨H e=some (.own x))(k:∀b u,b≠e->h.get? b=some u->h'.get? b=some u)(heo:∃u,h'.get? e=some u):Un fs ex H (aC H x o) h h':=by
 have hx:∀b,H b=none->b≠x:=λb n z=>by subst z;rw [n] at mu;exact mu
 have hb:∀b,H b=none->b≠e:=λb n z=>by
  subst z
  rcases he with r|r
  ·exact hx b n r
  ·rw [n] at r;cases r
 have hm:∀b u,H b=some u->¬ qh (some u)->b≠x:=λb u q nm z=>by subst z;rw [q] at mu;exact nm mu
 refine⟨λb u q n _ _=>k b u (hb b n) q,λb u q n _ _=>⟨u.slots,k b u (hb b n) q⟩,λb u q n _=>by rw [aM (hx b n)];exact n,λb u q _=>?_,
  λb xs q=>by rw [aM (hm b _ q λz=>z)];exact q,λb u xs q=>by rw [aM (hm b _ q λz=>z)];exact q,λb ps q=>⟨#[],by rw [aM (hm b _ q λz=>z),q];simp⟩⟩
 by_cases hbe:b=e
 ·subst hbe;exact heo
 ·exact⟨u,k b u hbe q⟩
end
abbrev yC(h:Heap)(H:Hp):List Addr:=(List.range h.objs.size).filter λa=>(H a).isSome
abbrev ff(h:Heap)(H:Hp):Heap:=W.hideAll h (yC h H)
def zN(h:Heap)(H:Hp):(ff h H).objs.size=h.objs.size:=W.hideAll_size _ _
def zO{h:Heap}{H:Hp}{b:Addr}{o:Obj}(e:h.get? b=some o)(n:H b=none):(ff h H).get? b=some o :=
 W.hideAll_get _ e λhm=>by
  have q:(H b).isSome=true:=(List.mem_filter.mp hm).2
  rw [n] at q;simp at q
def zP{h:Heap}{H:Hp}{b:Addr}{o:Obj}(e:(ff h H).get? b=some o):h.get? b=some o/\H b=none:=by
 have e':h.get? b=some o:=W.of_hideAll (yC h H) e
 refine⟨e',?_⟩
 cases q:H b with
 | none=>rfl
 | some x =>
  have hm:b∈yC h H:=List.mem_filter.mpr ⟨List.mem_range.mpr (z17 e'),by simp [q]⟩
  have z:(ff h H).get? b=none:=W.hideAll_none (yC h H) hm
  rw [z] at e;cases e
abbrev y6b(g h:Heap)(L:Addr):List (Addr×Obj):=(List.range h.objs.size).filterMap λa=>if a=L∨(g.get? a).isSome=true then none else (h.get? a).map λo=>(a,o)
abbrev aG(g h:Heap)(L d:Addr):List (Addr×Obj):=(y6b g h L).filter λp=>decide (p.1≠d)
end
section
structure Mod(K:W.Frag)(mg:Str->Option Value)(base:Heap):Prop where
 kin:K.In base
 glob:base.Ns mainGlobals mg
 blt:∃mb,base.Ns builtinsNs mb/\∀x:Str,x≠"__name__"->mb x=bootBuiltins x
 nolimit:base.NoLimit
structure Cx where
 prog:Program
 w:World
 K:W.Frag
 mg:Str->Option Value
 base:Heap
 A:Around
 N:List Str
 s₀:Shared
 H₀:Hp
 env:Env
 outer:List Env
 stack:List Env
 ex:List Addr
 fn:Str->Bool
 calm:Bool
 pn:List (Addr×Obj)
 xe:Value->Shared->Prop
abbrev fP(l:List Env):List Addr:=l.filterMap (·.frame)
noncomputable abbrev Cx.fs(X:Cx):List Addr:=fP X.outer
abbrev yD(sc:Scope)(x:Str):Prop:=sc.names.lookup x=some .local∨sc.names.lookup x=some .cell∨sc.names.lookup x=some .free
abbrev ng(sc:Scope)(x:Str):Prop:=sc.names.lookup x=some .local∨sc.names.lookup x=some .cell
abbrev zQ(env:Env)(h:Heap)(m:Str->Option Value)(x:Str)(u:Value):Prop :=
 (env.kindOf x=some .local/\m x=some u)∨((env.kindOf x=some .cell∨env.kindOf x=some .free)/\∃c,env.cells.lookup x=some c/\h.IsCell c (some u))
structure Cx.Ok(X:Cx):Prop where
 mod:Mod X.K X.mg X.base
 kind:X.env.scope.kind=.function
 glob:X.env.globals=mainGlobals
 blt:X.env.builtins=builtinsNs
 above:X.s₀.heap.objs.size≤X.env.locals
 inj:∀x y c,X.env.cells.lookup x=some c->X.env.cells.lookup y=some c->x=y
 has:∀x,(X.env.kindOf x=some .cell∨X.env.kindOf x=some .free)->∃c,X.env.cells.lookup x=some c
 cab:∀x c,X.fn x=true->X.env.cells.lookup x=some c->X.s₀.heap.objs.size≤c
 hd:X.calm=true->X.A.handled=none
 frames:X.A.frames=some X.stack
 stk:X.stack=X.outer∨(X.stack=X.env::X.outer/\X.env.frame=some X.env.locals)
 exf:∀b∈X.ex,b≠X.env.locals/\∀x c,X.env.cells.lookup x=some c->c≠b
 bs:∀b o,X.base.get? b=some o->X.s₀.heap.get? b=some o/\X.H₀ b=none
 bsz:X.base.objs.size≤X.s₀.heap.objs.size
 y236:∀b o,X.base.get? b=some o->b∉X.ex
 y133:∀b∈X.ex,b∉X.fs
 y152:X.s₀.heap.FunFrames X.base X.outer
 frf:∀b∈X.fs,X.H₀ b=none
structure Inv(X:Cx)(pins:List (Addr×Obj))(σ:List (Option V))(H:Hp)(s:Shared):Prop where
 ok:X.Ok
 os:s.os=X.s₀.os
 bare:AllBare s.gens
 base:Un X.fs X.ex X.H₀ H X.s₀.heap s.heap
 loc:∃m,s.heap.Ns X.env.locals m/\∀(i:Nat) (x:Str) (v:V),X.N[i]?=some x->σ[i]?=some (some v)->yD X.env.scope x->∃u,aA v u/\zQ X.env s.heap m x u
 cell:∀x c,X.env.cells.lookup x=some c->∃v,s.heap.IsCell c v
 free:H X.env.locals=none
 y14e:∀x c,X.env.cells.lookup x=some c->H c=none
 pin:∀p∈X.pn++pins,s.heap.get? p.1=some p.2/\H p.1=none/\p.1≠X.env.locals/\p.1∉X.fs/\∀v,p.2.data≠.cell v
 hok:cP X.prog X.w H s.heap
 len:σ.length=X.N.length
section
variable {X:Cx}{pins:List (Addr×Obj)}{σ:List (Option V)}{H H':Hp}{s:Shared}{h':Heap}
def Cx.Ok.nofr(ok:X.Ok){b:Addr}{o:Obj}(e:X.base.get? b=some o):b∉X.fs:=λhb=>by
 have:=(ok.y152.mem hb).1
 rw [e] at this;cases this
theorem Inv.bs(I:Inv X pins σ H s):∀b o,X.base.get? b=some o->s.heap.get? b=some o/\H b=none:=λb o e =>
 ⟨I.base.keep b o (I.ok.bs b o e).1 (I.ok.bs b o e).2 (I.ok.nofr e) (I.ok.y236 b o e),I.base.free b o (I.ok.bs b o e).1 (I.ok.bs b o e).2 (I.ok.y236 b o e)⟩
def Inv.bk(I:Inv X pins σ H s):∀b o,X.base.get? b=some o->s.heap.get? b=some o:=λb o e=>(I.bs b o e).1
theorem Inv.mod(I:Inv X pins σ H s):Mod X.K X.mg X.base:=I.ok.mod
def Inv.kIn(I:Inv X pins σ H s):X.K.In s.heap:=I.ok.mod.kin.keeps I.bk
def Inv.fr(I:Inv X pins σ H s):∃m,Fr X.base X.env.locals s.heap m :=
 let ⟨m,hn,_⟩:=I.loc
 ⟨m,hn,I.bk,z19 I.ok.bsz I.ok.above⟩
theorem Inv.lt(I:Inv X pins σ H s):X.env.locals<s.heap.objs.size:=let ⟨_,hn,_⟩:=I.loc;hn.lt
def Inv.sz(I:Inv X pins σ H s):X.s₀.heap.objs.size≤s.heap.objs.size:=z19 I.ok.above (Nat.le_of_lt I.lt)
def Inv.nofs(I:Inv X pins σ H s){a:Addr}(h:s.heap.objs.size≤a):a∉X.fs:=λhb=>by
 obtain⟨_,o,ho,_⟩:=I.ok.y152.mem hb
 exact absurd (z1b (z17 ho) (z19 I.sz h)) (z33 _)
def Inv.cne(I:Inv X pins σ H s):∀x c,X.env.cells.lookup x=some c->c≠X.env.locals:=λx c e z=>by
 obtain⟨v,o,ho,hd⟩:=I.cell x c e
 obtain⟨m,⟨o',es,ep,ho',hd',_⟩,_⟩:=I.loc
 rw [z,ho'] at ho;cases ho;rw [hd'] at hd;cases hd
theorem Inv.y152(I:Inv X pins σ H s):s.heap.FunFrames X.base X.outer:=by
 have all:∀(l:List Env),(∀b∈fP l,b∈X.fs)->X.s₀.heap.FunFrames X.base l->s.heap.FunFrames X.base l:=by
  intro l
  induction l with
  | nil=>intro _ _;trivial
  | cons env r ih =>
   intro hs hl
   obtain⟨hk,⟨L,o,hf,hn,ho,hd⟩,hr⟩:=hl
   have hL:L∈X.fs:=hs L (by unfold fP;rw [List.filterMap_cons,hf];exact List.mem_cons_self)
   obtain⟨sl,e⟩:=I.base.slot L o ho (I.ok.frf L hL) hL λz=>I.ok.y133 L z hL
   exact⟨hk,⟨L,_,hf,hn,e,hd⟩,ih (λb hb=>hs b (by unfold fP;rw [List.filterMap_cons,hf];exact z23 _ hb)) hr⟩
 exact all X.outer (λ_ hb=>hb) I.ok.y152
theorem Inv.stack(I:Inv X pins σ H s):s.heap.FunFrames X.base X.stack:=by
 rcases I.ok.stk with e|⟨e,hf⟩
 ·rw [e];exact I.y152
 ·rw [e]
  obtain⟨m,hn,_⟩:=I.loc
  refine .cons (by rw [I.ok.kind];decide) hf hn ?_ I.y152
  exact Heap.get?_none_of_le (z19 I.ok.bsz I.ok.above)
def Inv.y3d6(I:Inv X pins σ H s):∀b∈fP X.stack,b∈X.env.locals::X.fs:=λb hb=>by
 rcases I.ok.stk with e|⟨e,hf⟩
 ·rw [e] at hb;exact z23 _ hb
 ·rw [e] at hb
  unfold fP at hb
  rw [List.filterMap_cons,hf] at hb
  exact hb
def Inv.y3d5(I:Inv X pins σ H s):∀b∈fP X.stack,H b=none:=λb hb=>by
 rcases z1d.mp (I.y3d6 b hb) with e|hb
 ·rw [e];exact I.free
 ·obtain⟨_,o,ho,_⟩:=I.ok.y152.mem hb
  exact I.base.free b o ho (I.ok.frf b hb) λz=>I.ok.y133 b z hb
def Inv.step{g':Array GenState}{t':Nat}{d':Drawn}{ch:List Addr}(I:Inv X pins σ H s)
  (hch:∀b∈ch,(b∈X.ex∨X.s₀.heap.objs.size≤b)/\b≠X.env.locals/\(∀x c,X.env.cells.lookup x=some c->c≠b)/\∀p∈X.pn++pins,p.1≠b)
  (keep:∀b o,b≠X.env.locals->b∉X.fs->b∉ch->s.heap.get? b=some o->H b=none->h'.get? b=some o)
  (slot:∀b o,b≠X.env.locals->b∈X.fs->b∉ch->s.heap.get? b=some o->H b=none->∃sl,h'.get? b=some { o with slots:=sl }) (free:∀b o,b∉ch->s.heap.get? b=some o->H b=none->H' b=none)
  (there:∀b o,b∉ch->s.heap.get? b=some o->∃o',h'.get? b=some o')
  (y426:∀b xs,H b=some (.tup xs)->H' b=some (.tup xs)) (y150:∀b o u,H b=some (.frz o u)->H' b=some (.frz o u)) (y40b:∀b ps,H b=some (.tbl ps)->∃more,H' b=some (.tbl (ps++more)))
  (ns:∀m,s.heap.Ns X.env.locals m->h'.Ns X.env.locals m) (hok:cP X.prog X.w H' h') (hg:AllBare g') :
  Inv X pins σ H' { s with heap:=h',gens:=g',drawn:=d',toks:=t' }:=by
 have neL:∀b o,X.s₀.heap.get? b=some o->b≠X.env.locals:=λb o e=>z26 (z1b (z17 e) I.ok.above)
 have neC:∀b o,X.s₀.heap.get? b=some o->b∉X.ex->b∉ch:=λb o e hx hb=>by
  rcases (hch b hb).1 with z|z
  ·exact hx z
  ·exact absurd (z1b (z17 e) z) (z33 _)
 have cellK:∀x c,X.env.cells.lookup x=some c->∀v,s.heap.IsCell c v->h'.IsCell c v:=λx c e v zz=>by
  obtain⟨o,ho,hd⟩:=zz
  have nch:c∉ch:=λz=>(hch c z).2.2.1 x c e rfl
  by_cases hc:c∈X.fs
  ·obtain⟨sl,q⟩:=slot c o (I.cne x c e) hc nch ho (I.y14e x c e)
   exact⟨_,q,hd⟩
  ·exact⟨o,keep c o (I.cne x c e) hc nch ho (I.y14e x c e),hd⟩
 refine⟨I.ok,I.os,hg,⟨λb o e n hb hx=>?_,λb o e n hb hx=>?_,λb o e n hx=>?_,λb o e hx=>?_,λb xs e=>y426 b xs (I.base.y426 b xs e),λb o xs e=>y150 b o xs (I.base.y150 b o xs e),λb ps e=>?_⟩,?_,λx c e=>?_,?_,λx c e=>?_,λp hp=>?_,hok,I.len⟩
 ·exact keep b o (neL b o e) hb (neC b o e hx) (I.base.keep b o e n hb hx) (I.base.free b o e n hx)
 ·obtain⟨sl,e1⟩:=I.base.slot b o e n hb hx
  obtain⟨sl',e2⟩:=slot b _ (neL b o e) hb (neC b o e hx) e1 (I.base.free b o e n hx)
  exact⟨sl',e2⟩
 ·obtain⟨o',e1⟩:=I.base.there b o e hx
  exact free b o' (neC b o e hx) e1 (I.base.free b o e n hx)
 ·obtain⟨o',e1⟩:=I.base.there b o e hx
  exact there b o' (neC b o e hx) e1
 ·obtain⟨m1,e1⟩:=I.base.y40b b ps e
  obtain⟨m2,e2⟩:=y40b b _ e1
  exact⟨m1++m2,by rw [e2,Array.append_assoc]⟩
 ·obtain⟨m,hn,hl⟩:=I.loc
  refine⟨m,ns m hn,λi x v e1 e2 e3=>?_⟩
  obtain⟨u,r,l⟩:=hl i x v e1 e2 e3
  refine⟨u,r,?_⟩
  rcases l with l|⟨k,c,e,z⟩
  ·exact .inl l
  ·exact .inr ⟨k,c,e,cellK x c e _ z⟩
 ·obtain⟨v,z⟩:=I.cell x c e
  exact⟨v,cellK x c e v z⟩
 ·obtain⟨m,⟨o,_,_,ho,_⟩,_⟩:=I.loc
  exact free _ o (λz=>(hch _ z).2.1 rfl) ho I.free
 ·obtain⟨v,o,ho,hd⟩:=I.cell x c e
  exact free c o (λz=>(hch c z).2.2.1 x c e rfl) ho (I.y14e x c e)
 ·obtain⟨e,n,ne,nf,d⟩:=I.pin p hp
  have nch:p.1∉ch:=λz=>(hch p.1 z).2.2.2 p hp rfl
  exact⟨keep p.1 p.2 ne nf nch e n,free p.1 p.2 nch e n,ne,nf,d⟩
def Inv.un{t':Nat}(I:Inv X pins σ H s)(u:Un X.fs [] H H' s.heap h')(hok:cP X.prog X.w H' h'):Inv X pins σ H' { s with heap:=h',toks:=t' }:=by
 obtain⟨m,⟨o,es,ep,ho,r⟩,_⟩:=id I.loc
 obtain⟨sl,hL⟩:=u.any ho I.free (by simp)
 exact I.step (g':=s.gens) (d':=s.drawn) (ch:=[]) (λ_ z=>nomatch z) (λb o _ hb _ e n=>u.keep b o e n hb (by simp)) (λb o _ hb _ e n=>u.slot b o e n hb (by simp)) (λb o _ e n=>u.free b o e n (by simp)) (λb o _ e=>u.there b o e (by simp)) u.y426 u.y150 u.y40b (λm' hm=>by
  obtain⟨o',es',ep',ho',r'⟩:=hm
  rw [ho] at ho';cases ho'
  exact⟨_,es',ep',hL,r'⟩) hok I.bare
def Inv.call{g':Array GenState}{t':Nat}{d':Drawn}{ch:List Addr}(I:Inv X pins σ H s)(u:Un (fP X.stack) ch H H' s.heap h')(hok:cP X.prog X.w H' h')(hg:AllBare g')
  (hch:∀b∈ch,(b∈X.ex∨X.s₀.heap.objs.size≤b)/\b≠X.env.locals/\(∀x c,X.env.cells.lookup x=some c->c≠b)/\∀p∈X.pn++pins,p.1≠b) :
  Inv X pins σ H' { s with heap:=h',gens:=g',drawn:=d',toks:=t' }:=by
 obtain⟨m,⟨o,es,ep,ho,r⟩,_⟩:=id I.loc
 obtain⟨sl,hL⟩:=u.any ho I.free λz=>(hch _ z).2.1 rfl
 exact I.step (ch:=ch) hch (λb o hL hb hc e n=>u.keep b o e n (λz=>(z1d.mp (I.y3d6 b z)).elim hL hb) hc) (λb o _ _ hc e n=>u.any e n hc) (λb o hc e n=>u.free b o e n hc) (λb o hc e=>u.there b o e hc) u.y426 u.y150 u.y40b (λm' hm=>by
  obtain⟨o',es',ep',ho',r'⟩:=hm
  rw [ho] at ho';cases ho'
  exact⟨_,es',ep',hL,r'⟩) hok hg
def Inv.turned{t':Nat}{it:Addr}(I:Inv X pins σ H s)(k:∀b o,b≠it->s.heap.get? b=some o->h'.get? b=some o)(hn:H it=none)(hL:it≠X.env.locals)
  (h1:it∈X.ex∨X.s₀.heap.objs.size≤it) (h2:∀x c,X.env.cells.lookup x=some c->c≠it) (h3:∀p∈X.pn++pins,p.1≠it):Inv X pins σ H { s with heap:=h',toks:=t' }:=by
 have nit:∀b u,H b=some u->b≠it:=λb u e z=>by rw [z,hn] at e;cases e
 refine I.step (g':=s.gens) (d':=s.drawn) (ch:=[it]) (λb hb=>?_) (λb o _ _ hc e _=>k b o (λz=>hc (by simp [z])) e) (λb o _ _ hc e _=>⟨o.slots,k b o (λz=>hc (by simp [z])) e⟩) (λ_ _ _ _ n=>n)
  (λb o hc e=>⟨o,k b o (λz=>hc (by simp [z])) e⟩) (λ_ _ e=>e) (λ_ _ _ e=>e) (λb ps e=>⟨#[],by rw [e];simp⟩) (λm hm=>?_) (λb u e=>?_) I.bare
 ·have e:b=it:=by simpa using hb
  subst e
  exact⟨h1,hL,h2,h3⟩
 ·obtain⟨o,es,ep,ho,r⟩:=hm
  exact⟨o,es,ep,k _ o (Ne.symm hL) ho,r⟩
 ·refine (I.hok b u e).y3d4 (λc v hc q=>k c v ?_ q) (λ_ q=>q) λ_ _ q=>q
  rcases hc with z|z
  ·rw [z];exact nit b u e
  ·exact nit c _ z
def Inv.tok(I:Inv X pins σ H s)(t:Nat):Inv X pins σ H { s with toks:=t }:=I.un (h':=s.heap) (t':=t) Un.refl I.hok
theorem Inv.kept{t':Nat}(I:Inv X pins σ H s)(k:∀b u,s.heap.get? b=some u->h'.get? b=some u):Inv X pins σ H { s with heap:=h',toks:=t' }:=I.un (Un.kept k) (I.hok.kept k)
theorem Inv.laid{a:Addr}{o:HO}{t':Nat}(I:Inv X pins σ H s)(k:∀b u,s.heap.get? b=some u->h'.get? b=some u)(hp:s.heap.objs.size≤a)(new:dR X.prog X.w (aC H a o) h' a o) :
  Inv X pins σ (aC H a o) { s with heap:=h',toks:=t' }:=I.un (Un.laid k hp (I.hok.fresh hp)) (I.hok.laid k hp new)
theorem Inv.write{x e:Addr}{o:HO}{t':Nat}(I:Inv X pins σ H s)(mu:qh (H x))(he:e=x∨H e=some (.own x))(k:∀b u,b≠e->s.heap.get? b=some u->h'.get? b=some u)(heo:∃u,h'.get? e=some u)
  (new:dR X.prog X.w (aC H x o) h' x o):Inv X pins σ (aC H x o) { s with heap:=h',toks:=t' }:=I.un (Un.write mu he k heo) (I.hok.write mu he k heo new)
def Inv.weak{σ':List (Option V)}(I:Inv X pins σ H s)(hl:σ'.length=σ.length)(w:∀(i:Nat) v,σ'[i]?=some (some v)->σ[i]?=some (some v)):Inv X pins σ' H s :=
 ⟨I.ok,I.os,I.bare,I.base,let ⟨m,hn,hl'⟩:=I.loc;⟨m,hn,λi x v e1 e2 e3=>hl' i x v e1 (w i v e2) e3⟩,I.cell,I.free,I.y14e,I.pin,I.hok,hl.trans I.len⟩
def Inv.y2d7{y2d5:List (Addr×Obj)}(I:Inv X pins σ H s)(h:∀p∈y2d5,s.heap.get? p.1=some p.2/\H p.1=none/\p.1≠X.env.locals/\p.1∉X.fs/\∀v,p.2.data≠.cell v):Inv X y2d5 σ H s :=
 ⟨I.ok,I.os,I.bare,I.base,I.loc,I.cell,I.free,I.y14e,λp hp=>(z13.mp hp).elim (λz=>I.pin p (List.mem_append_left _ z)) (h p),I.hok,I.len⟩
def nh{N:List Str}(hN:N.Nodup){i j:Nat}{x:Str}(a:N[i]?=some x)(b:N[j]?=some x):i=j:=by
 obtain⟨h1,e1⟩:=z14.mp a
 obtain⟨h2,e2⟩:=z14.mp b
 exact (List.getElem_inj hN).mp (e1.trans e2.symm)
def qi{M:Model}{A:Around}{E:Value->Shared->Prop}{i:Nat}{x:Str}{v:V}{u:Value}{Q:Unit->Shared->Prop}(I:Inv X pins σ H s)(hN:X.N.Nodup)(hi:X.N[i]?=some x)(hx:ng X.env.scope x)(r:aA v u)
  (h:∀s',Inv X pins (σ.set i (some v)) H s'->(∃a,Heap.SameBut a s.heap s'.heap/\(a=X.env.locals∨X.env.cells.lookup x=some a))->Q () s') (hf:X.fn x=true∨X.env.scope.names.lookup x=some .local:=by first|exact .inl rfl|exact .inr rfl|assumption):wpAny M A (storeName X.env x u) Q E s:=by
 obtain⟨m,hn,hl⟩:=id I.loc
 have y18a:(X.env.scope.kind == .class||(X.env.scope.kind == .module&&X.env.locals != X.env.globals))=false:=by rw [I.ok.kind];rfl
 have hiσ:i<σ.length:=by rw [I.len];exact (z14.mp hi).1
 have cne:=I.cne
 have tracked:∀{a:Addr} {h':Heap},(∃o,s.heap.get? a=some o/\H a=none)->Heap.SameBut a s.heap h'->cP X.prog X.w H h':=λ{a h'} ha hs b ob e=>by
  obtain⟨_,_,y190⟩:=ha
  refine (I.hok b ob e).y3d4 (λc w' hc q=>(hs.2 c ?_).trans q) (λ_ q=>q) λ_ _ q=>q
  rintro rfl
  rcases hc with rfl|hc
  ·rw [y190] at e;cases e
  ·rw [y190] at hc;cases hc
 rcases hx with hk|hk
 ·refine wpAny_storeName_local hk hn (λh' hn' hs=>?_) y18a
  obtain⟨oL,_,_,hoL,_⟩:=id hn
  refine h _ ⟨I.ok,I.os,I.bare,⟨λb o e n hb hx=>?_,λb o e n hb hx=>?_,I.base.free,λb o e hx=>?_,I.base.y426,I.base.y150,I.base.y40b⟩,⟨_,hn',λj y v' e1 e2 e3=>?_⟩,λy c e=>?_,I.free,I.y14e,λp hp=>?_,tracked ⟨oL,hoL,I.free⟩ hs,by simpa using I.len⟩ ⟨_,hs,.inl rfl⟩
  ·exact (hs.2 b (z26 (z1b (z17 e) I.ok.above))).trans (I.base.keep b o e n hb hx)
  ·obtain⟨sl,e1⟩:=I.base.slot b o e n hb hx
   exact⟨sl,(hs.2 b (z26 (z1b (z17 e) I.ok.above))).trans e1⟩
  ·obtain⟨o',e1⟩:=I.base.there b o e hx
   exact⟨o',(hs.2 b (z26 (z1b (z17 e) I.ok.above))).trans e1⟩
  ·by_cases hj:j=i
   ·subst hj
    rw [hi] at e1;cases e1
    rw [List.getElem?_set_self hiσ] at e2
    cases e2
    exact⟨u,r,.inl ⟨hk,by simp⟩⟩
   ·rw [z28 (Ne.symm hj)] at e2
    obtain⟨u',r',q⟩:=hl j y v' e1 e2 e3
    refine⟨u',r',?_⟩
    rcases q with⟨k,e⟩| ⟨k,c,e,z⟩
    ·refine .inl ⟨k,?_⟩
     have:y≠x:=λe=>hj (nh hN e1 (e ▸ hi))
     simp [this,e]
    ·exact .inr ⟨k,c,e,z.sameBut hs (cne y c e)⟩
  ·obtain⟨w',z⟩:=I.cell y c e
   exact⟨w',z.sameBut hs (cne y c e)⟩
  ·obtain⟨e,n,ne,nf,d⟩:=I.pin p hp
   exact⟨(hs.2 p.1 ne).trans e,n,ne,nf,d⟩
 ·have hfn:X.fn x=true:=by
   rcases hf with z|z
   ·exact z
   ·rw [z] at hk;cases hk
  obtain⟨c,hc⟩:=I.ok.has x (.inl hk)
  obtain⟨w',z⟩:=I.cell x c hc
  refine wpAny_storeName_cell I.ok.kind hk hc z (λh' hc' hs=>?_)
  obtain⟨oc,hoc,hocd⟩:=id z
  refine h { s with heap:=h' } ⟨I.ok,I.os,I.bare,⟨λb o e n hb hx=>?_,λb o e n hb hx=>?_,I.base.free,λb o e hx=>?_,I.base.y426,I.base.y150,I.base.y40b⟩,⟨m,hn.sameBut hs (Ne.symm (cne x c hc)),λj y v' e1 e2 e3=>?_⟩,λy c' e=>?_,I.free,I.y14e,λp hp=>?_,tracked ⟨oc,hoc,I.y14e x c hc⟩ hs,by simpa using I.len⟩ ⟨c,hs,.inr hc⟩
  ·exact (hs.2 b (z26 (z1b (z17 e) (I.ok.cab x c hfn hc)))).trans (I.base.keep b o e n hb hx)
  ·obtain⟨sl,e1⟩:=I.base.slot b o e n hb hx
   exact⟨sl,(hs.2 b (z26 (z1b (z17 e) (I.ok.cab x c hfn hc)))).trans e1⟩
  ·obtain⟨o',e1⟩:=I.base.there b o e hx
   exact⟨o',(hs.2 b (z26 (z1b (z17 e) (I.ok.cab x c hfn hc)))).trans e1⟩
  ·by_cases hj:j=i
   ·subst hj
    rw [hi] at e1;cases e1
    rw [List.getElem?_set_self hiσ] at e2
    cases e2
    exact⟨u,r,.inr ⟨.inl hk,c,hc,hc'⟩⟩
   ·rw [z28 (Ne.symm hj)] at e2
    obtain⟨u',r',q⟩:=hl j y v' e1 e2 e3
    refine⟨u',r',?_⟩
    rcases q with q|⟨k,c',e,z'⟩
    ·exact .inl q
    ·refine .inr ⟨k,c',e,z'.sameBut hs ?_⟩
     rintro rfl
     exact hj (nh hN e1 (I.ok.inj _ _ _ e hc ▸ hi))
  ·by_cases hcc:c'=c
   ·subst hcc;exact⟨_,hc'⟩
   ·obtain⟨w2,z2⟩:=I.cell y c' e
    exact⟨w2,z2.sameBut hs hcc⟩
  ·obtain⟨e,n,ne,nf,d⟩:=I.pin p hp
   refine⟨(hs.2 p.1 ?_).trans e,n,ne,nf,d⟩
   intro q
   rw [q,hoc] at e
   have q':oc=p.2:=z1e e
   exact d w' (by rw [<- q'];exact hocd)
def nj{M:Model}{A:Around}{E:Value->Shared->Prop}{i:Nat}{x:Str}{v:V}{u:Value}{Q:Unit->Shared->Prop}(I:Inv X pins σ H s)(hN:X.N.Nodup)(hi:X.N[i]?=some x)(hx:ng X.env.scope x)(r:aA v u)
  (h:∀s',Inv X pins (σ.set i (some v)) H s'->Q () s') (hf:X.fn x=true∨X.env.scope.names.lookup x=some .local:=by first|exact .inl rfl|exact .inr rfl|assumption):wpAny M A (storeName X.env x u) Q E s :=
 qi I hN hi hx r (λs' I' _=>h s' I') hf
def Inv.ya1{s':Shared}{ch:List Addr}(I:Inv X pins σ H s)(ho:s'.os=s.os)(u:Un (fP X.stack) ch H H' s.heap s'.heap)(hok:cP X.prog X.w H' s'.heap)(hg:AllBare s'.gens)
  (hch:∀b∈ch,(b∈X.ex∨X.s₀.heap.objs.size≤b)/\b≠X.env.locals/\(∀x c,X.env.cells.lookup x=some c->c≠b)/\∀p∈X.pn++pins,p.1≠b):Inv X pins σ H' s':=by
 obtain⟨h',g',d',t',o'⟩:=s'
 have e:o'=s.os:=ho
 subst e
 exact I.call (g':=g') (t':=t') (d':=d') u hok hg hch
end
noncomputable abbrev XK:=Value->Option Addr->Hp->Prop
noncomputable abbrev St:=List (Option V)
noncomputable abbrev VK:=V->Hp->Prop
noncomputable abbrev TE:=St->Hp->VK->Prop
noncomputable abbrev TT:=St->Hp->(Bool->Hp->Prop)->Prop
noncomputable abbrev TA:=St->Hp->(List V->Hp->Prop)->Prop
structure Ends where
 nx:St->Hp->Prop
 rt:VK
 bk:St->Hp->Prop:=λ_ _=>False
 ct:St->Hp->Prop:=λ_ _=>False
noncomputable abbrev TS:=Ends->St->Hp->Prop
abbrev EP(X:Cx)(pins:List (Addr×Obj))(σ:St)(Q:VK)(u:Value)(s':Shared):Prop:=∃v H',Inv X pins σ H' s'/\aA v u/\Q v H'
abbrev TP(X:Cx)(pins:List (Addr×Obj))(σ:St)(Q:Bool->Hp->Prop)(b:Bool)(s':Shared):Prop:=∃H',Inv X pins σ H' s'/\Q b H'
abbrev AP(X:Cx)(pins:List (Addr×Obj))(σ:St)(Q:List V->Hp->Prop)(us:List Value)(s':Shared):Prop:=∃vs H',Inv X pins σ H' s'/\au vs us/\Q vs H'
abbrev SP(X:Cx)(pins:List (Addr×Obj))(D:Ends)(f:Flow)(s':Shared):Prop :=
 match f with
 | .next=>∃σ' H',Inv X pins σ' H' s'/\D.nx σ' H'
 | .brk=>∃σ' H',Inv X pins σ' H' s'/\D.bk σ' H'
 | .cont=>∃σ' H',Inv X pins σ' H' s'/\D.ct σ' H'
 | .ret u=>∃v σ' H',Inv X pins σ' H' s'/\aA v u/\D.rt v H'
abbrev PE(X:Cx)(e:Expr)(t:TE):Prop :=
 ∀(pins:List (Addr×Obj)) (s:Shared) (σ:St) (H:Hp) (Q:VK),Inv X pins σ H s->t σ H Q->wpAny (model X.prog X.w) X.A (eval e X.env) (EP X pins σ Q) X.xe s
abbrev PT(X:Cx)(e:Expr)(t:TT):Prop :=
 ∀(pins:List (Addr×Obj)) (s:Shared) (σ:St) (H:Hp) (Q:Bool->Hp->Prop),Inv X pins σ H s->t σ H Q->wpAny (model X.prog X.w) X.A (isTrue e X.env (eval e X.env)) (TP X pins σ Q) X.xe s
abbrev PW(X:Cx)(e:Expr)(t:TT):Prop :=
 ∀(whole:Sem Value) (pins:List (Addr×Obj)) (s:Shared) (σ:St) (H:Hp) (Q:Bool->Hp->Prop),Inv X pins σ H s->t σ H Q->wpAny (model X.prog X.w) X.A (isTrue e X.env whole) (TP X pins σ Q) X.xe s
def PW.pt{X:Cx}{e:Expr}{t:TT}(h:PW X e t):PT X e t:=h _
abbrev PA(X:Cx)(es:List Expr)(t:TA):Prop :=
 ∀(pos:Pos) (pins:List (Addr×Obj)) (s:Shared) (σ:St) (H:Hp) (Q:List V->Hp->Prop),Inv X pins σ H s->t σ H Q->wpAny (model X.prog X.w) X.A (spliced (backTo pos (starEach es X.env))) (AP X pins σ Q) X.xe s
abbrev PS(X:Cx)(st:Stmt)(t:TS):Prop :=
 ∀(pins:List (Addr×Obj)) (s:Shared) (σ:St) (H:Hp) (D:Ends),Inv X pins σ H s->t D σ H->wpAny (model X.prog X.w) X.A (exec st X.env) (SP X pins D) X.xe s
abbrev dS(X:Cx)(st:List Stmt)(t:TS):Prop :=
 ∀(pins:List (Addr×Obj)) (s:Shared) (σ:St) (H:Hp) (D:Ends),Inv X pins σ H s->t D σ H->wpAny (model X.prog X.w) X.A (execs st X.env) (SP X pins D) X.xe s
def aJ{α:Type}{t:Sem α}{Q Q':α->Shared->Prop}{M:Model}{A:Around}{E:Value->Shared->Prop}{s:Shared}(h:wpAny M A t Q E s)(hQ:∀a s,Q a s->Q' a s):wpAny M A t Q' E s:=wpAny_mono h hQ λ_ _ x=>x
end
section
section
variable {X:Cx}
def bin{a b:Expr}{ta tb:TE}(ha:PE X a ta)(hb:PE X b tb){pins:List (Addr×Obj)}{s:Shared}{σ:St}{H:Hp}{R:V->V->Hp->Prop}(I:Inv X pins σ H s)(h:ta σ H λx H1=>tb σ H1 λy H2=>R x y H2)
  {α:Type} {Q:α->Shared->Prop} {f:Value->Value->Sem α}
  (hf:∀v u s2 x y H2,Inv X pins σ H2 s2->aA x v->aA y u->R x y H2->wpAny (model X.prog X.w) X.A (f v u) Q X.xe s2) :
  wpAny (model X.prog X.w) X.A (eval a X.env) (λv s₁=>wpAny (model X.prog X.w) X.A (eval b X.env) (λu s₂=>wpAny (model X.prog X.w) X.A (f v u) Q X.xe s₂) X.xe s₁) X.xe s:=by
 refine aJ (ha pins s σ H _ I h) λv s1 zz=>?_
 obtain⟨x,H1,I1,r1,q1⟩:=zz
 refine aJ (hb pins s1 σ H1 _ I1 q1) λu s2 zz=>?_
 obtain⟨y,H2,I2,r2,q2⟩:=zz
 exact hf v u s2 x y H2 I2 r1 r2 q2
abbrev gG(i:Nat):TE:=λσ H Q=>∃v,σ[i]?=some (some v)/\Q v H
abbrev tC(v:V):TE:=λ_ H Q=>Q v H
def qj{i:Nat}{x:Str}{pos:Pos}(hN:X.N[i]?=some x)(hv:yD X.env.scope x)(hd:(x == ("__debug__" : Str))=false:=by decide)(hcd:(x == ("__classdict__" : Str))=false:=by decide):PE X (.Name x pos) (gG i):=by
 intro pins s σ H Q I h
 obtain⟨v,e,h⟩:=h
 obtain⟨m,hn,hl⟩:=I.loc
 obtain⟨u,r,l⟩:=hl i x v hN e hv
 have fin:EP X pins σ Q u s:=⟨v,H,I,r,h⟩
 rcases l with⟨hk,hm⟩| ⟨hk,c,hc,y189⟩
 ·exact wpAny_Name (wpAny_loadName_local I.ok.kind hk hn hm fin) hd
 ·rcases hk with hk|hk
  ·exact wpAny_Name (wpAny_loadName_cell I.ok.kind hk hc y189 fin) hd
  ·exact wpAny_Name (wpAny_loadName_free I.ok.kind hk hc y189 fin hcd) hd
def nk{i j pos}:PE X (.Constant (.int i) j pos) (tC (.int i)):=λ_ _ _ H _ I h=>wpAny_Constant_int ⟨.int i,H,I.tok _,⟨_,rfl⟩,h⟩
def qk{b j pos}:PE X (.Constant (.bool b) j pos) (tC (.bl b)):=λ_ _ _ H _ I h=>Constant_bool ⟨.bl b,H,I,rfl,h⟩
def ql{j pos}:PE X (.Constant .none j pos) (tC .non):=λ_ _ _ H _ I h=>Constant_none ⟨.non,H,I,rfl,h⟩
def jf{x j pos}:PE X (.Constant (.str x) j pos) (tC (.str x)):=λ_ _ _ H _ I h=>Calls.Constant_str ⟨.str x,H,I.tok _,⟨_,rfl⟩,h⟩
abbrev Gl(X:Cx)(x:Str):Prop:=X.env.kindOf x=some .globalImplicit
def jg{E:Value->Shared->Prop}{pins:List (Addr×Obj)}{s:Shared}{σ:St}{H:Hp}{x:Str}{u:Value}{pos:Pos}{Q:Value->Shared->Prop}(I:Inv X pins σ H s)(hg:Gl X x)(hm:X.mg x=some u)(h:Q u s)
  (hd:(x == ("__debug__" : Str))=false:=by decide):wpAny (model X.prog X.w) X.A (eval (.Name x pos) X.env) Q E s :=
 Calls.Name_function_global I.ok.kind hg (Calls.loadGlobal_global (by rw [I.ok.glob];exact I.mod.glob.keeps I.bk) hm h) hd
def iz{E:Value->Shared->Prop}{pins:List (Addr×Obj)}{s:Shared}{σ:St}{H:Hp}{x:Str}{u:Value}{pos:Pos}{Q:Value->Shared->Prop}(I:Inv X pins σ H s)(hg:Gl X x)(hm:X.mg x=none)(hv:bootBuiltins x=some u)(h:Q u s)
  (hn:x≠"__name__":=by decide) (hd:(x == ("__debug__" : Str))=false:=by decide):wpAny (model X.prog X.w) X.A (eval (.Name x pos) X.env) Q E s:=by
 obtain⟨mb,h1,h2⟩:=I.mod.blt
 exact Calls.Name_function_global I.ok.kind hg (Calls.loadGlobal_builtin (by rw [I.ok.glob];exact I.mod.glob.keeps I.bk) hm (by rw [I.ok.blt];exact h1.keeps I.bk) ((h2 x hn).trans hv) h) hd
def kK{x:Str}{v:V}{u:Value}{pos:Pos}(hg:Gl X x)(hm:X.mg x=some u)(r:aA v u)(hd:(x == ("__debug__" : Str))=false:=by decide):PE X (.Name x pos) (tC v) :=
 λ_ _ _ H _ I h=>jg I hg hm ⟨v,H,I,r,h⟩ hd
def zR{x:Str}{v:V}{u:Value}{pos:Pos}(hg:Gl X x)(hm:X.mg x=none)(hv:bootBuiltins x=some u)(r:aA v u)(hn:x≠"__name__":=by decide)(hd:(x == ("__debug__" : Str))=false:=by decide):PE X (.Name x pos) (tC v) :=
 λ_ _ _ H _ I h=>iz I hg hm hv ⟨v,H,I,r,h⟩ hn hd
variable {a b:Expr}{ta tb:TE}{pos:Pos}
abbrev PC(X:Cx)(op:CmpOp)(a b:Expr)(t:TE):Prop :=
 ∀(pins:List (Addr×Obj)) (s:Shared) (σ:St) (H:Hp) (Q:VK),Inv X pins σ H s->t σ H Q ->
  wpAny (model X.prog X.w) X.A (eval a X.env) (λv s₁=>wpAny (model X.prog X.w) X.A (eval b X.env) (λu s₂=>wpAny (model X.prog X.w) X.A (compareOp op v u) (EP X pins σ Q) X.xe s₂) X.xe s₁) X.xe s
def qm(b:Expr){op:CmpOp}(h:op≠.In)(h2:op≠.NotIn):behindInMarks op b=false:=by
 have e1:(op == CmpOp.In)=false:=by cases op<;>first|rfl|exact absurd rfl h
 have e2:(op == CmpOp.NotIn)=false:=by cases op<;>first|rfl|exact absurd rfl h2
 cases b<;>simp [behindInMarks,e1,e2]
abbrev zS(ta:TE):TE:=λσ H Q=>ta σ H λx H1=>Q (.bl (decide (x=.non))) H1
abbrev qo(ta:TE):TE:=λσ H Q=>ta σ H λx H1=>Q (.bl (!decide (x=.non))) H1
def aA.y23a{x:V}{v:Value}(r:aA x v):(v == Value.none)=decide (x=.non):=by
 cases x with
 | non=>cases r;rfl
 | bl _=>cases r;rfl
 | int _=>obtain⟨t,rfl⟩:=r;rfl
 | str _=>obtain⟨t,rfl⟩:=r;rfl
 | byt _=>obtain⟨t,rfl⟩:=r;rfl
 | flt _=>obtain⟨t,rfl⟩:=r;rfl
 | ref _=>cases r;rfl
 | ty _=>cases r;rfl
def zT{j pos'}(ha:PE X a ta):PC X .Is a (.Constant .none j pos') (zS ta):=by
 intro pins s σ H Q I h
 refine aJ (ha pins s σ H _ I h) λv s1 zz=>?_
 obtain⟨x,H1,I1,r1,q1⟩:=zz
 exact Constant_none (is_none_gen ⟨.bl _,H1,I1,by rw [r1.y23a];rfl,q1⟩)
def zU{j pos'}(ha:PE X a ta):PC X .IsNot a (.Constant .none j pos') (qo ta):=by
 intro pins s σ H Q I h
 refine aJ (ha pins s σ H _ I h) λv s1 zz=>?_
 obtain⟨x,H1,I1,r1,q1⟩:=zz
 exact Constant_none (isnot_none_gen ⟨.bl _,H1,I1,by rw [r1.y23a];rfl,q1⟩)
abbrev tB(t:TE):TT:=λσ H Q=>t σ H λx H1=>∃c,x=.bl c/\Q c H1
def zV{op:CmpOp}{t:TE}(h:PC X op a b t)(h1:behindInMarks op b=false:=by first|exact qm _ (by decide) (by decide)|rfl):PE X (.Compare a [op] [b] pos) t:=λpins s σ H Q I hw=>wpAny_Compare1 (h pins s σ H Q I hw) h1
def kL{op:CmpOp}{t:TE}(h:PC X op a b t)(h1:behindInMarks op b=false:=by first|exact qm _ (by decide) (by decide)|rfl):PT X (.Compare a [op] [b] pos) (tB t):=by
 intro pins s σ H Q I hw
 refine wpAny_isTrue_Compare1 (aJ (h pins s σ H _ I hw) λv s1 h1=>aJ h1 λu s2 h2=>aJ h2 λc s3 ⟨x,H1,I1,r1,q1⟩=>?_) h1
 obtain⟨d,rfl,q⟩:=q1
 cases r1
 exact wpAny_truthy_bool ⟨H1,I1,q⟩
def qp{e:Expr}{t:TE}(h:PE X e t)(he:∀whole,isTrue e X.env whole=(do let v <- whole;standAt e.pos;holding [v] (truthy v)):=by intro _;rfl):PT X e (tB t):=by
 intro pins s σ H Q I hw
 refine isTrue_plain (aJ (h pins s σ H _ I hw) λv s1 ⟨x,H1,I1,r1,q1⟩=>?_) (he _)
 obtain⟨d,rfl,q⟩:=q1
 cases r1
 exact wpAny_truthy_bool ⟨H1,I1,q⟩
variable {tA tB':TT}{aG:List Expr}
abbrev nq(t u:TT):TT:=λσ H Q=>t σ H λc H1=>if c=true then u σ H1 Q else Q false H1
abbrev tOr(t u:TT):TT:=λσ H Q=>t σ H λc H1=>if c=true then Q true H1 else u σ H1 Q
abbrev qq(t:TT):TT:=λσ H Q=>t σ H λc H1=>Q (!c) H1
def ie(ha:PT X a tA):PW X (.BoolOp .And [a] pos) tA:=by
 intro wh pins s σ H Q I h
 refine isTrue_and (aJ (ha pins s σ H Q I h) λc s1 e=>?_)
 cases c with
 | true=>exact isTrue_and_nil e
 | false=>exact e
def nr(ha:PT X a tA):PW X (.BoolOp .Or [a] pos) tA:=by
 intro wh pins s σ H Q I h
 refine isTrue_or (aJ (ha pins s σ H Q I h) λc s1 e=>?_)
 cases c with
 | false=>exact isTrue_or_nil e
 | true=>exact e
def jh(ha:PT X a tA)(hb:PW X (.BoolOp .And (b::aG) pos) tB'):PW X (.BoolOp .And (a::b::aG) pos) (nq tA tB'):=by
 intro wh pins s σ H Q I h
 refine isTrue_and (aJ (ha pins s σ H _ I h) λc s1 zz=>?_)
 obtain⟨H1,I1,q1⟩:=zz
 cases c with
 | true=>exact hb wh pins s1 σ H1 Q I1 q1
 | false=>exact⟨H1,I1,q1⟩
def qr(ha:PT X a tA)(hb:PW X (.BoolOp .Or (b::aG) pos) tB'):PW X (.BoolOp .Or (a::b::aG) pos) (tOr tA tB'):=by
 intro wh pins s σ H Q I h
 refine isTrue_or (aJ (ha pins s σ H _ I h) λc s1 zz=>?_)
 obtain⟨H1,I1,q1⟩:=zz
 cases c with
 | true=>exact⟨H1,I1,q1⟩
 | false=>exact hb wh pins s1 σ H1 Q I1 q1
def zW(ha:PT X a tA):PT X (.UnaryOp .Not a pos) (qq tA):=by
 intro pins s σ H Q I h
 exact isTrue_not (ha pins s σ H (λc H1=>Q (!c) H1) I h)
abbrev qt(ta tb:TE):TE:=λσ H Q=>ta σ H λx H1=>∃c,x=.bl c/\if c=true then Q (.bl true) H1 else tb σ H1 Q
abbrev qu(ta:TE):TE:=λσ H Q=>ta σ H λx H1=>∃c,x=.bl c/\Q (.bl (!c)) H1
def zX{op}{t:TE}(h:PE X a t):PE X (.BoolOp op [a] pos) t:=λpins s σ H Q I hw=>BoolOp_one (h pins s σ H Q I hw)
def ji(ha:PE X a ta)(hb:PE X (.BoolOp .Or (b::aG) pos) tb):PE X (.BoolOp .Or (a::b::aG) pos) (qt ta tb):=by
 intro pins s σ H Q I h
 refine BoolOp_or (aJ (ha pins s σ H _ I h) λv s1 zz=>?_)
 obtain⟨x,H1,I1,r1,q1⟩:=zz
 obtain⟨c,rfl,q1⟩:=q1
 cases r1
 refine wpAny_truthy_bool ?_
 cases c with
 | false=>exact hb pins s1 σ H1 Q I1 q1
 | true=>exact⟨.bl true,H1,I1,rfl,q1⟩
def zY(ha:PE X a ta):PE X (.UnaryOp .Not a pos) (qu ta):=by
 intro pins s σ H Q I h
 refine UnaryOp_ (aJ (ha pins s σ H _ I h) λv s1 zz=>?_)
 obtain⟨x,H1,I1,r1,q1⟩:=zz
 obtain⟨c,rfl,q1⟩:=q1
 cases r1
 exact not_of (wpAny_truthy_bool ⟨.bl (!c),H1,I1,rfl,q1⟩)
end
end
section
abbrev bM(K:W.Frag)(H:Hp)(a:Addr)(xs:List V):Prop :=
 Rd H a (.lst xs) ∨
  ∃(o:Obj) (its:Array Value) (n:Nat),K.lookup a=some o/\o.cls=.type "list"/\o.dict=none/\o.data=.seq its n/\its.size≤sizeLine/\au xs its.toList
abbrev br(K:W.Frag)(H:Hp)(a:Addr)(xs:List V):Prop :=
 Rd H a (.tup xs) ∨
  ∃(o:Obj) (its:Array Value) (n:Nat),K.lookup a=some o/\o.cls=.type "tuple"/\o.data=.seq its n/\its.size≤sizeLine/\au xs its.toList
abbrev zZ:Value->Option V
 | .none=>some .non
 | .bool b=>some (.bl b)
 | .int i _=>some (.int i)
 | .str x _=>some (.str x)
 | .bytes b _=>some (.byt b)
 | .float b _=>some (.flt b)
 | .ref a=>some (.ref a)
 | .type n=>some (.ty n)
 | _=>none
def aA.abs{x:V}{u:Value}(r:aA x u):zZ u=some x:=by
 cases x with
 | non=>cases r;rfl
 | bl _=>cases r;rfl
 | int _=>obtain⟨t,rfl⟩:=r;rfl
 | str _=>obtain⟨t,rfl⟩:=r;rfl
 | byt _=>obtain⟨t,rfl⟩:=r;rfl
 | flt _=>obtain⟨t,rfl⟩:=r;rfl
 | ref _=>cases r;rfl
 | ty _=>cases r;rfl
def aA.inj{x y:V}{u:Value}(r:aA x u)(q:aA y u):x=y:=z1e (r.abs.symm.trans q.abs)
theorem au.inj:∀{xs ys:List V} {us:List Value},au xs us->au ys us->xs=ys
 | _,_,_,.nil,.nil=>rfl
 | _,_,_,.cons r t,.cons r' t'=>by rw [r.inj r',au.inj t t']
section
variable {X:Cx}{pins:List (Addr×Obj)}{σ:St}{H:Hp}{s:Shared}{a:Addr}{xs ys:List V}
def bM.of{K:W.Frag}(h:H a=some (.lst xs)):bM K H a xs:=.inl (.inl h)
def br.of{K:W.Frag}(h:H a=some (.tup xs)):br K H a xs:=.inl (.inl h)
def Inv.list(I:Inv X pins σ H s)(h:bM X.K H a xs):∃its:List Value,au xs its/\PlainL s.heap a its.toArray/\xs.length≤sizeLine:=by
 rcases h with h|⟨o,its,n,hk,hc,hd,hs,hz,r⟩
 ·obtain⟨z,its,n,r,e⟩:=h.ok I.hok
  exact⟨its,r,⟨_,n,e,rfl,rfl,rfl⟩,z⟩
 ·refine⟨its.toList,r,⟨o,n,I.kIn a o hk,hc,hd,by simpa using hs⟩,?_⟩
  have e:=r.length
  simp only [Array.length_toList] at e
  lia
def Inv.tuple(I:Inv X pins σ H s)(h:br X.K H a xs):∃its:List Value,au xs its/\IsTup s.heap a its.toArray/\xs.length≤sizeLine:=by
 rcases h with h|⟨o,its,n,hk,hc,hs,hz,r⟩
 ·obtain⟨z,its,r,p⟩:=h.ok I.hok
  exact⟨its,r,p.tup,z⟩
 ·refine⟨its.toList,r,⟨o,I.kIn a o hk,hc,n,by simpa using hs⟩,?_⟩
  have e:=r.length
  simp only [Array.length_toList] at e
  lia
def Inv.y1f1(I:Inv X pins σ H s)(h:bM X.K H a xs)(h':bM X.K H a ys):xs=ys:=by
 obtain⟨its,r,⟨o,n,e,_,_,d⟩,_⟩:=I.list h
 obtain⟨its',r',⟨o',n',e',_,_,d'⟩,_⟩:=I.list h'
 rw [e] at e';cases e'
 rw [d] at d'
 injection d' with d1 _
 have:its=its':=by simpa using congrArg Array.toList d1
 subst this
 exact r.inj r'
def Inv.y425(I:Inv X pins σ H s)(h:br X.K H a xs)(h':br X.K H a ys):xs=ys:=by
 obtain⟨its,r,⟨o,e,_,n,d⟩,_⟩:=I.tuple h
 obtain⟨its',r',⟨o',e',_,n',d'⟩,_⟩:=I.tuple h'
 rw [e] at e';cases e'
 rw [d] at d'
 injection d' with d1 _
 have:its=its':=by simpa using congrArg Array.toList d1
 subst this
 exact r.inj r'
end
noncomputable abbrev Cx.y490(X:Cx)(E:Value->Shared->Prop):Cx:={ X with xe:=E }
noncomputable abbrev Cx.nox(X:Cx):Cx:=X.y490 λ_ _=>False
theorem Cx.Ok.y490{X:Cx}(ok:X.Ok)(E:Value->Shared->Prop):(X.y490 E).Ok :=
 ⟨ok.mod,ok.kind,ok.glob,ok.blt,ok.above,ok.inj,ok.has,ok.cab,ok.hd,ok.frames,ok.stk,ok.exf,ok.bs,ok.bsz,ok.y236,ok.y133,ok.y152,ok.frf⟩
def Cx.Ok.y432{X:Cx}{E:Value->Shared->Prop}(ok:(X.y490 E).Ok):X.Ok :=
 ⟨ok.mod,ok.kind,ok.glob,ok.blt,ok.above,ok.inj,ok.has,ok.cab,ok.hd,ok.frames,ok.stk,ok.exf,ok.bs,ok.bsz,ok.y236,ok.y133,ok.y152,ok.frf⟩
section
variable {X:Cx}{pins:List (Addr×Obj)}{σ:St}{H:Hp}{s:Shared}{E:Value->Shared->Prop}
theorem Inv.y490(I:Inv X pins σ H s)(E:Value->Shared->Prop):Inv (X.y490 E) pins σ H s:=⟨I.ok.y490 E,I.os,I.bare,I.base,I.loc,I.cell,I.free,I.y14e,I.pin,I.hok,I.len⟩
theorem Inv.y432(I:Inv (X.y490 E) pins σ H s):Inv X pins σ H s:=⟨I.ok.y432,I.os,I.bare,I.base,I.loc,I.cell,I.free,I.y14e,I.pin,I.hok,I.len⟩
theorem SP.y432{D:Ends}{f:Flow}{s':Shared}(h:SP (X.y490 E) pins D f s'):SP X pins D f s':=by
 cases f with
 | next=>obtain⟨σ',H',I,q⟩:=h;exact⟨σ',H',I.y432,q⟩
 | brk=>obtain⟨σ',H',I,q⟩:=h;exact⟨σ',H',I.y432,q⟩
 | cont=>obtain⟨σ',H',I,q⟩:=h;exact⟨σ',H',I.y432,q⟩
 | ret u=>obtain⟨v,σ',H',I,r,q⟩:=h;exact⟨v,σ',H',I.y432,r,q⟩
theorem dS.nox{st:List Stmt}{t:TS}(h:dS X.nox st t):dS X st t:=λpins s σ H D I hw =>
 wpAny_mono (h pins s σ H D (I.y490 _) hw) (λ_ _ q=>q.y432) λ_ _ z=>False.elim z
end
section
variable {X:Cx}{st:Stmt}{aG:List Stmt}{t u:TS}{e:Expr}{te:TE}{pos:Pos}
abbrev nt:TS:=λD σ H=>D.nx σ H
abbrev jj(t u:TS):TS:=λD σ H=>t { D with nx:=u D } σ H
def nv:dS X [] nt:=λ_ _ σ H _ I h=>wpAny_execs_nil ⟨σ,H,I,h⟩
def fS(h1:PS X st t)(h2:dS X aG u):dS X (st::aG) (jj t u):=by
 intro pins s σ H D I h
 refine wpAny_execs_cons (aJ (h1 pins s σ H { D with nx:=u D } I h) λf s1 q=>?_)
 cases f with
 | next =>
  obtain⟨σ',H',I',q⟩:=q
  exact h2 pins s1 σ' H' D I' q
 | ret v=>exact q
 | brk=>exact q
 | cont=>exact q
def fT(h1:PS X st t):dS X [st] t:=by
 intro pins s σ H D I h
 refine wpAny_execs_cons (aJ (h1 pins s σ H D I h) λf s1 q=>?_)
 cases f with
 | next=>exact wpAny_execs_nil q
 | ret v=>exact q
 | brk=>exact q
 | cont=>exact q
def Inv.quiet{pins:List (Addr×Obj)}{σ:St}{H:Hp}{s:Shared}(I:Inv X pins σ H s):interactive X.env=false:=by simp [interactive,I.ok.kind]
abbrev ny(te:TE):TS:=λD σ H=>te σ H λ_ H1=>D.nx σ H1
def nz(he:PE X e te)(hs:‹swapsWith e none pos.line X.env=pure false›):PS X (.Expr e pos) (ny te):=by
 intro pins s σ H D I h
 exact wpAny_Expr_any (aJ (he pins s σ H _ I h) λv s1 ⟨x,H1,I1,r1,q1⟩=>⟨σ,H1,I1,q1⟩) I.quiet hs
abbrev qv(te:TE):TS:=λD σ H=>te σ H D.rt
def qw(he:PE X e te):PS X (.Return (some e) pos) (qv te):=by
 intro pins s σ H D I h
 exact wpAny_Return_some (aJ (he pins s σ H _ I h) λv s1 ⟨x,H1,I1,r1,q1⟩=>⟨x,σ,H1,I1,r1,q1⟩)
abbrev kM(c:TT)(t u:TS):TS:=λD σ H=>c σ H λb H1=>if b=true then t D σ H1 else u D σ H1
def kN{c:Expr}{a b:List Stmt}{tc:TT}(hc:PT X c tc)(ha:dS X a t)(hb:dS X b u):PS X (.If c a b pos) (kM tc t u):=by
 intro pins s σ H D I h
 refine wpAny_If (aJ (hc pins s σ H _ I h) λd s1 zz=>?_)
 obtain⟨H1,I1,q1⟩:=zz
 cases d with
 | true=>exact ha pins s1 σ H1 D I1 q1
 | false=>exact hb pins s1 σ H1 D I1 q1
end
noncomputable abbrev TG:=V->St->Hp->(St->Hp->Prop)->Prop
noncomputable abbrev mK:=List V->St->Hp->(St->Hp->Prop)->Prop
abbrev PG(X:Cx)(target:Expr)(t:TG):Prop :=
 ∀(pins:List (Addr×Obj)) (s:Shared) (σ:St) (H:Hp) (v:V) (u:Value) (Q:St->Hp->Prop),Inv X pins σ H s->aA v u->t v σ H Q ->
  wpAny (model X.prog X.w) X.A (assign target X.env u) (λ_ s'=>∃σ' H',Inv X pins σ' H' s'/\Q σ' H') X.xe s
abbrev qx(X:Cx)(ts:List Expr)(t:mK):Prop :=
 ∀(pins:List (Addr×Obj)) (s:Shared) (σ:St) (H:Hp) (vs:List V) (us:List Value) (Q:St->Hp->Prop),Inv X pins σ H s->au vs us->t vs σ H Q ->
  wpAny (model X.prog X.w) X.A (assignInOrder ((assignEach ts X.env).map (·.2)) us) (λ_ s'=>∃σ' H',Inv X pins σ' H' s'/\Q σ' H') X.xe s
noncomputable abbrev nA:=V->V->V->Hp->(Hp->Prop)->Prop
abbrev qy(X:Cx)(t:nA):Prop :=
 ∀(pins:List (Addr×Obj)) (s:Shared) (σ:St) (H:Hp) (o i v:V) (ov iv u:Value) (Q:Hp->Prop),Inv X pins σ H s->aA o ov->aA i iv->aA v u->t o i v H Q ->
  wpAny (model X.prog X.w) X.A (setItem ov iv u) (λ_ s'=>∃H',Inv X pins σ H' s'/\Q H') X.xe s
section
variable {X:Cx}{pos:Pos}
abbrev fg(i:Nat):TG:=λv σ H Q=>Q (σ.set i (some v)) H
def fU{i:Nat}{x:Str}(hN:X.N.Nodup)(hi:X.N[i]?=some x)(hx:ng X.env.scope x)(hf:X.fn x=true∨X.env.scope.names.lookup x=some .local:=by first|exact .inl rfl|exact .inr rfl|assumption):PG X (.Name x pos) (fg i):=by
 intro pins s σ H v u Q I r h
 exact wpAny_assign_Name (nj I hN hi hx r (λs' I'=>⟨_,H,I',h⟩) hf)
abbrev qz:mK:=λvs σ H Q=>vs=[]/\Q σ H
abbrev qA(t:TG)(u:mK):mK:=λvs σ H Q=>∃v r,vs=v::r/\t v σ H λσ' H'=>u r σ' H' Q
def qB:qx X [] qz:=by
 intro pins s σ H vs us Q I r h
 obtain⟨e,h⟩:=h
 subst e
 cases r
 exact assignInOrder_nil ⟨σ,H,I,h⟩
def nB{e:Expr}{es:List Expr}{t:TG}{u:mK}(h1:PG X e t)(h2:qx X es u)
  (hs:‹(assignEach (e::es) X.env).map (·.2)=assign e X.env::(assignEach es X.env).map (·.2)›):qx X (e::es) (qA t u):=by
 intro pins s σ H vs us Q I r h
 obtain⟨v,vr,e1,h⟩:=h
 subst e1
 cases r with
 | cons r rr =>
  rw [hs]
  refine assignInOrder_cons (aJ (h1 pins s σ H _ _ _ I r h) λ_ s1 zz=>?_)
  obtain⟨σ1,H1,I1,q1⟩:=zz
  exact h2 pins s1 σ1 H1 _ _ Q I1 rr q1
abbrev kO(K:W.Frag)(n:Nat)(t:mK):TG:=λv σ H Q=>∃a xs,v=.ref a/\br K H a xs/\xs.length=n/\t xs σ H Q
def qC{es:List Expr}{k:Nat}{t:mK}{n:Nat}(hc:X.calm=true)(h:qx X es t)
  (hn:‹(assignEach es X.env).length=n›) (hst:‹(assignEach es X.env).findIdx? (·.1)=none›):PG X (.Tuple es k pos) (kO X.K n t):=by
 intro pins s σ H v u Q I r hw
 obtain⟨a,xs,e1,hq,hl,hw⟩:=hw
 subst e1
 cases r
 obtain⟨its,rv,ht,hz⟩:=I.tuple hq
 refine assign_Tuple_tuple (I.ok.hd hc) ht (by simp [hn,<- hl,rv.length]) hst λh' hx=>?_
 have I1:Inv X pins σ H { s with heap:=h' }:=I.kept (t':=s.toks) λb o e=>hx b o (z26 (z17 e)) e
 exact h pins _ σ H xs _ Q I1 (by simpa using rv) hw
abbrev qD(to ti:TE)(t:nA):TG:=λv σ H Q=>to σ H λo H1=>ti σ H1 λi H2=>t o i v H2 λH3=>Q σ H3
def Aa{o i:Expr}{to ti:TE}{t:nA}(ho:PE X o to)(hi:PE X i ti)(hs:qy X t)
  (ha:∀v,assign (.Subscript o i pos) X.env v=(do
   let ov <- holding [v] (eval o X.env)
   let iv <- holding [v,ov] (eval i X.env)
   standAt pos
   holding [v,ov,iv] (setItem ov iv v)
   release [v,ov,iv] []):=by intro _;rfl):PG X (.Subscript o i pos) (qD to ti t):=by
 intro pins s σ H v u Q I r h
 rw [ha]
 refine zb (wpAny_holding (aJ (ho pins s σ H _ I h) λov s1 zz=>?_))
 obtain⟨x,H1,I1,r1,q1⟩:=zz
 refine zb (wpAny_holding (aJ (hi pins s1 σ H1 _ I1 q1) λiv s2 zz=>?_))
 obtain⟨y,H2,I2,r2,q2⟩:=zz
 refine zb (wpAny_standAt (zb (wpAny_holding (aJ (hs pins s2 σ H2 x y v ov iv u _ I2 r1 r2 r q2) λ_ s3 zz=>?_))))
 obtain⟨H3,I3,q3⟩:=zz
 exact wpAny_release ⟨σ,H3,I3,q3⟩
abbrev fV(te:TE)(g:TG):TS:=λD σ H=>te σ H λx H1=>g x σ H1 D.nx
def fW{tg e:Expr}{te:TE}{g:TG}(he:PE X e te)(hg:PG X tg g)(hs:‹swapsWithSole [tg] e pos.line X.env=pure false›)(hw:‹swappedStores [tg] e X.env=pure none›)
  (h1:‹(assignEach [tg] X.env).map (·.2)=[assign tg X.env]›):PS X (.Assign [tg] e pos) (fV te g):=by
 intro pins s σ H D I h
 refine wpAny_Assign_stores (aJ (he pins s σ H _ I h) λv s1 ⟨x,H1,I1,r1,q1⟩=>?_) hs hw
 rw [h1]
 exact aJ (hg pins s1 σ H1 x v _ I1 r1 q1) λ_ s2 q=>q
def Ab{i:Nat}{x:Str}{e:Expr}{te:TE}{pos':Pos}(hN:X.N.Nodup)(hi:X.N[i]?=some x)(hx:ng X.env.scope x)(he:PE X e te)(hs:‹swapsWith e (some (.Name x pos')) pos.line X.env=pure false›)(hf:X.fn x=true∨X.env.scope.names.lookup x=some .local:=by first|exact .inl rfl|exact .inr rfl|assumption) :
  PS X (.Assign [.Name x pos'] e pos) (fV te (fg i)):=by
 intro pins s σ H D I h
 refine wpAny_Assign_Name (aJ (he pins s σ H _ I h) λv s1 ⟨y,H1,I1,r1,q1⟩=>?_) hs
 exact nj I1 hN hi hx r1 (λs2 I2=>⟨_,H1,I2,q1⟩) hf
end
section
variable {X:Cx}{pos:Pos}
abbrev qE(c:TT)(tb:TS):TS:=λD σ H=>∃W:Nat->St->Hp->Prop,(∃m,W m σ H)/\∀m σ H,W m σ H ->
 c σ H λb H1=>if b=true then ∃N:St->Hp->Prop,(∀σ' H',N σ' H'->∃m',m'<m/\W m' σ' H')/\tb { D with nx:=N,ct:=N,bk:=D.nx } σ H1 else D.nx σ H1
def Ac{c:Expr}{body:List Stmt}{tc:TT}{tb:TS}(hp:PassesOwn (model X.prog X.w) X.A X.env X.xe)(hc:PT X c tc)(hb:dS X body tb):PS X (.While c body [] pos) (qE tc tb):=by
 intro pins s σ H D I h
 obtain⟨W,⟨m0,w0⟩,turn⟩:=h
 refine wpAny_While (codeAny_whileLoop (λn s'=>∃σ' H',Inv X pins σ' H' s'/\W n σ' H') ?_ m0 ⟨σ,H,I,w0⟩)
 rintro n s1 ⟨σ1,H1,I1,w1⟩
 refine wpAny_passesOwn hp (aJ (hc pins s1 σ1 H1 _ I1 (turn n σ1 H1 w1)) λb s2 zz=>?_)
 obtain⟨H2,I2,q2⟩:=zz
 cases b with
 | true =>
  obtain⟨N,hN,q2⟩:=q2
  rw [if_pos rfl]
  refine wpAny_passesOwn hp (aJ (hb pins s2 σ1 H2 _ I2 q2) λf s3 q3=>?_)
  cases f with
  | next =>
   obtain⟨σ3,H3,I3,n3⟩:=q3
   obtain⟨m',hm,w3⟩:=hN σ3 H3 n3
   exact⟨m',hm,σ3,H3,I3,w3⟩
  | cont =>
   obtain⟨σ3,H3,I3,n3⟩:=q3
   obtain⟨m',hm,w3⟩:=hN σ3 H3 n3
   exact⟨m',hm,σ3,H3,I3,w3⟩
  | brk=>exact q3
  | ret v=>exact q3
 | false =>
  rw [if_neg z15]
  exact wpAny_execs_nil ⟨σ1,H2,I2,q2⟩
end
structure It where
 go:Nat->Hp->Prop
 yld:Nat->Hp->V->Hp->Prop
 stop:Nat->Hp->Prop
abbrev iA(X:Cx)(pins:List (Addr×Obj))(H:Hp)(b:Addr):Prop :=
 H b=none/\b≠X.env.locals/\b∉X.fs/\(b∈X.ex∨X.s₀.heap.objs.size≤b)/\(∀x c,X.env.cells.lookup x=some c->c≠b)/\∀p∈X.pn++pins,p.1≠b
def Inv.fpOk{X:Cx}{pins:List (Addr×Obj)}{σ:St}{H H':Hp}{s:Shared}{b:Addr}(I:Inv X pins σ H s)(hb:s.heap.objs.size≤b)(hn:H' b=none):iA X pins H' b:=by
 refine⟨hn,Nat.ne_of_gt (z1b I.lt hb),I.nofs hb,.inr (z19 I.sz hb),λx c e z=>?_,λp hp z=>?_⟩
 ·obtain⟨v,q⟩:=I.cell x c e
  exact absurd (z1b q.lt (by rw [z];exact hb)) (z33 _)
 ·exact absurd (z1b (z17 (I.pin p hp).1) (by rw [z];exact hb)) (z33 _)
structure Turn(P:Program)(w:World)(K:W.Frag)(tg:Expr)(J:It)(fp:List Addr)(it:Addr)(tn:Nat->Heap->Prop):Prop where
 mem:it∈fp
 obj:∀i h,tn i h->∀b∈fp,∃o,h.get? b=some o/\∀v,o.data≠.cell v
 keep:∀i h h',tn i h->(∀b∈fp,∀o,h.get? b=some o->h'.get? b=some o)->tn i h'
 item:∀(X:Cx),X.prog=P->X.w=w->X.K=K->X.calm=true->∀(i:Nat) (pins:List (Addr×Obj)) (s:Shared) (σ:St) (H:Hp) (E:Value->Shared->Prop),Inv X pins σ H s->(∀b∈fp,iA X pins H b)->tn i s.heap->J.go i H ->
  wpAny (model P w) X.A (pyNext (.ref it)) (λr s1=>∃u,r=some u /\
   wpAny (model P w) X.A (letOwnedTupleGo tg (.ref it) u) (λ_ s2=>∃x H',Inv X pins σ H' s2/\aA x u/\J.yld i H x H'/\tn (i+1) s2.heap/\∀b∈fp,H' b=none) E s1) E s
 done:∀(X:Cx),X.prog=P->X.w=w->X.K=K->X.calm=true->∀(i:Nat) (pins:List (Addr×Obj)) (s:Shared) (σ:St) (H:Hp) (E:Value->Shared->Prop),Inv X pins σ H s->(∀b∈fp,iA X pins H b)->tn i s.heap->J.stop i H ->
  wpAny (model P w) X.A (pyNext (.ref it)) (λr s1=>r=none/\Inv X pins σ H s1) E s
 self:∀(A:Around) (i:Nat) (s:Shared) (Q:Value->Shared->Prop) (E:Value->Shared->Prop),tn i s.heap->Q (.ref it) s->wpAny (model P w) A (pyIter (.ref it)) Q E s
noncomputable abbrev TI:=St->Hp->(It->Hp->Prop)->Prop
abbrev PIE(X:Cx)(pins:List (Addr×Obj))(σ:St)(tg:Expr)(R:It->Hp->Prop)(itv:Value)(s2:Shared):Prop :=
 ∃(it:Addr) (fp:List Addr) (tn:Nat->Heap->Prop) (J:It) (H':Hp),itv=.ref it/\Inv X pins σ H' s2/\Turn X.prog X.w X.K tg J fp it tn/\tn 0 s2.heap/\(∀b∈fp,iA X pins H' b)/\R J H'
abbrev PI(X:Cx)(tg iter:Expr)(wi:TI):Prop :=
 ∀(pins:List (Addr×Obj)) (s:Shared) (σ:St) (H:Hp) (R:It->Hp->Prop),Inv X pins σ H s->wi σ H R ->
  wpAny (model X.prog X.w) X.A (eval iter X.env) (λv s1=>wpAny (model X.prog X.w) X.A (pyIter v) (PIE X pins σ tg R) X.xe s1) X.xe s
def nC{M:Model}{A:Around}{E:Value->Shared->Prop}{s:Shared}{tg:Expr}{it:Addr}{u:Value}{o:Obj}{n:String}{vs:Array Value}{Q:Unit->Shared->Prop}(ho:s.heap.get? it=some o)(hc:o.cls=.type n)(hd:o.data=.fields vs)
  (hn:["enumerate","zip","dict_itemiterator","dict_reverseitemiterator","odict_iterator","itertools.zip_longest","itertools.pairwise"].contains n=false) (hQ:Q () s):wpAny M A (letOwnedTupleGo tg (.ref it) u) Q E s:=by
 unfold letOwnedTupleGo
 cases tg<;>first
  | exact ze hQ
  | (cases u<;>first
    | exact ze hQ
    | (refine zb (wpAny_load ho ?_);rw [hc,hd];show wpAny M A (if (["enumerate","zip","dict_itemiterator","dict_reverseitemiterator","odict_iterator","itertools.zip_longest","itertools.pairwise"].contains n&&vs[0]? == some (rawInt _))=true then _ else _) Q E s;rw [if_neg (by intro h;rw [hn,Bool.false_and] at h;cases h)];exact ze hQ))
abbrev yE(K:W.Frag)(a:Addr):It :=
 ⟨λi H=>∃xs x,bM K H a xs/\xs[i]?=some x,λi H x H'=>H'=H/\∀xs,bM K H a xs->xs[i]?=some x,λi H=>∃xs,bM K H a xs/\xs.length≤i⟩
abbrev yF(K:W.Frag)(a:Addr):It :=
 ⟨λi H=>∃xs x,br K H a xs/\xs[i]?=some x,λi H x H'=>H'=H/\∀xs,br K H a xs->xs[i]?=some x,λi H=>∃xs,br K H a xs/\xs.length≤i⟩
abbrev qF(lo:Int)(n:Nat):It:=⟨λi _=>i<n,λi H x H'=>H'=H/\x=.int (lo+i),λi _=>n≤i⟩
def Ad{P:Program}{w:World}{K:W.Frag}{tg:Expr}(a it:Addr):Turn P w K tg (yE K a) [it] it (λi h=>h.IsListIter it a i) where
 mem:=by simp
 obj:=λi h st b hb=>by
  have e:b=it:=by simpa using hb
  subst e
  obtain⟨o,e,c,d⟩:=st
  exact⟨o,e,λv z=>by rw [d] at z;cases z⟩
 keep:=λi h h' st k=>st.at λo e=>k it (by simp) o e
 item:=by
  intro X hP hw hK hc i pins s σ H E I hf st hg
  subst hP hw hK
  obtain⟨xs,x,hq,hx⟩:=hg
  obtain⟨its,rv,p,hz⟩:=I.list hq
  obtain⟨u,hu,ru⟩:=rv.get hx
  obtain⟨f0,f1,f2,f3,f4,f5⟩:=hf it (by simp)
  refine wpAny_pyNext_list_item st p.isList (x:=u) (by simpa using hu) λh' st' sb=>?_
  have I1:Inv X pins σ H { s with heap:=h' }:=I.turned (t':=s.toks) (λb o hb e=>(sb.2 b hb).trans e) f0 f1 f3 f4 f5
  obtain⟨o,e,c,d⟩:=id st'
  exact⟨u,rfl,nC (s:={ s with heap:=h' }) e c d (by decide) ⟨x,H,I1,ru,⟨rfl,λys hy=>by rw [I.y1f1 hy hq];exact hx⟩,st',λb hb=>(hf b hb).1⟩⟩
 done:=by
  intro X hP hw hK hc i pins s σ H E I hf st hg
  subst hP hw hK
  obtain⟨xs,hq,hx⟩:=hg
  obtain⟨its,rv,p,hz⟩:=I.list hq
  obtain⟨f0,f1,f2,f3,f4,f5⟩:=hf it (by simp)
  have hl:=rv.length
  exact wpAny_pyNext_list_end (I.ok.hd hc) st p.isList (by simp;lia) λh' eb=>⟨rfl,I.turned (t':=s.toks) (λb o hb e=>eb b o hb e) f0 f1 f3 f4 f5⟩
 self:=λ_ _ _ _ _ st h=>wpAny_pyIter_listiter st h
def Ae{P:Program}{w:World}{K:W.Frag}{tg:Expr}(a it:Addr):Turn P w K tg (yF K a) [it] it (λi h=>h.IsTupleIter it a i) where
 mem:=by simp
 obj:=λi h st b hb=>by
  have e:b=it:=by simpa using hb
  subst e
  obtain⟨o,e,c,d⟩:=st
  exact⟨o,e,λv z=>by rw [d] at z;cases z⟩
 keep:=λi h h' st k=>st.at λo e=>k it (by simp) o e
 item:=by
  intro X hP hw hK hc i pins s σ H E I hf st hg
  subst hP hw hK
  obtain⟨xs,x,hq,hx⟩:=hg
  obtain⟨its,rv,p,hz⟩:=I.tuple hq
  obtain⟨u,hu,ru⟩:=rv.get hx
  obtain⟨f0,f1,f2,f3,f4,f5⟩:=hf it (by simp)
  refine wpAny_pyNext_tuple_item st (show s.heap.IsTuple a its.toArray from p) (x:=u) (by simpa using hu) λh' st' sb=>?_
  have I1:Inv X pins σ H { s with heap:=h' }:=I.turned (t':=s.toks) (λb o hb e=>(sb.2 b hb).trans e) f0 f1 f3 f4 f5
  obtain⟨o,e,c,d⟩:=id st'
  exact⟨u,rfl,nC (s:={ s with heap:=h' }) e c d (by decide) ⟨x,H,I1,ru,⟨rfl,λys hy=>by rw [I.y425 hy hq];exact hx⟩,st',λb hb=>(hf b hb).1⟩⟩
 done:=by
  intro X hP hw hK hc i pins s σ H E I hf st hg
  subst hP hw hK
  obtain⟨xs,hq,hx⟩:=hg
  obtain⟨its,rv,p,hz⟩:=I.tuple hq
  obtain⟨f0,f1,f2,f3,f4,f5⟩:=hf it (by simp)
  have hl:=rv.length
  exact wpAny_pyNext_tuple_end (I.ok.hd hc) st (show s.heap.IsTuple a its.toArray from p) (by simp;lia) λh' eb=>⟨rfl,I.turned (t':=s.toks) (λb o hb e=>eb b o hb e) f0 f1 f3 f4 f5⟩
 self:=λ_ _ _ _ _ st h=>wpAny_pyIter_tupleiter st h
def Af{P:Program}{w:World}{K:W.Frag}{tg:Expr}(it:Addr)(lo:Int)(n:Nat):Turn P w K tg (qF lo n) [it] it (λi h=>IsRangeIter h it (lo+(i:Nat)*1) ((n:Int)-(i:Nat)) 1) where
 mem:=by simp
 obj:=λi h st b hb=>by
  have e:b=it:=by simpa using hb
  subst e
  exact⟨_,st,λv z=>by
   have z':Data.fields _=Data.cell v:=z
   cases z'⟩
 keep:=λi h h' st k=>k it (by simp) _ st
 item:=by
  intro X hP hw hK hc i pins s σ H E I hf st hg
  subst hP hw hK
  obtain⟨f0,f1,f2,f3,f4,f5⟩:=hf it (by simp)
  have W:=Walks.range (prog:=X.prog) (w:=X.w) (I.ok.hd hc) it lo 1 n
  refine W.item i s _ _ hg st λv h' tk hv st' kk=>?_
  obtain⟨t,rfl⟩:=hv
  have I1:Inv X pins σ H { s with heap:=h',toks:=tk }:=I.turned (λb o hb e=>kk b o (by simpa using hb) e) f0 f1 f3 f4 f5
  refine⟨_,rfl,nC (s:={ s with heap:=h',toks:=tk }) (n:="range_iterator") st' rfl rfl (by decide) ⟨.int (lo+i),H,I1,⟨t,?_⟩,⟨rfl,rfl⟩,st',λb hb=>(hf b hb).1⟩⟩
  rw [Int.mul_one]
 done:=by
  intro X hP hw hK hc i pins s σ H E I hf st hg
  subst hP hw hK
  obtain⟨f0,f1,f2,f3,f4,f5⟩:=hf it (by simp)
  exact wpAny_pyNext_range_end (I.ok.hd hc) st (by have:n≤i:=hg;lia) λh' eb=>⟨rfl,I.turned (t':=s.toks) (λb o hb e=>eb b o hb e) f0 f1 f3 f4 f5⟩
 self:=λ_ _ _ _ _ st h=>wpAny_pyIter_rangeiter st h
end
section
section
variable {X:Cx}{tg:Expr}
abbrev qG(K:W.Frag)(tl:TE):TI:=λσ H R=>tl σ H λx H1=>∃a,x=.ref a/\(∃xs,bM K H1 a xs)/\R (yE K a) H1
abbrev qH(K:W.Frag)(tl:TE):TI:=λσ H R=>tl σ H λx H1=>∃a,x=.ref a/\(∃xs,br K H1 a xs)/\R (yF K a) H1
def Ag{l:Expr}{tl:TE}(hl:PE X l tl):PI X tg l (qG X.K tl):=by
 intro pins s σ H R I h
 refine aJ (hl pins s σ H _ I h) λv s1 zz=>?_
 obtain⟨x,H1,I1,r1,q1⟩:=zz
 obtain⟨a,e,⟨xs,hq⟩,q⟩:=q1
 subst e
 cases r1
 obtain⟨its,rv,p,hz⟩:=I1.list hq
 refine wpAny_pyIter_list p.isList ?_
 refine⟨s1.heap.objs.size,[s1.heap.objs.size],_,_,H1,rfl,I1.kept (t':=s1.toks) λb o e=>zd _ e,Ad a _,⟨_,z27 _ rfl,rfl,rfl⟩,λb hb=>?_,q⟩
 have e:b=s1.heap.objs.size:=by simpa using hb
 subst e
 exact I1.fpOk (zf _) (I1.hok.fresh (zf _))
def Ah{l:Expr}{tl:TE}(hl:PE X l tl):PI X tg l (qH X.K tl):=by
 intro pins s σ H R I h
 refine aJ (hl pins s σ H _ I h) λv s1 zz=>?_
 obtain⟨x,H1,I1,r1,q1⟩:=zz
 obtain⟨a,e,⟨xs,hq⟩,q⟩:=q1
 subst e
 cases r1
 obtain⟨its,rv,p,hz⟩:=I1.tuple hq
 refine wpAny_pyIter_tuple (show s1.heap.IsTuple a its.toArray from p) ?_
 refine⟨s1.heap.objs.size,[s1.heap.objs.size],_,_,H1,rfl,I1.kept (t':=s1.toks) λb o e=>zd _ e,Ae a _,⟨_,z27 _ rfl,rfl,rfl⟩,λb hb=>?_,q⟩
 have e:b=s1.heap.objs.size:=by simpa using hb
 subst e
 exact I1.fpOk (zf _) (I1.hok.fresh (zf _))
def Ai{pins:List (Addr×Obj)}{σ:St}{H:Hp}{s:Shared}{R:It->Hp->Prop}{E:Value->Shared->Prop}{lo hi:Int}{t u v:Tok}{tk:Nat}(I:Inv X pins σ H s)(h1:-(2 ^ 62)≤lo)(h2:lo<2 ^ 62)(h3:-(2 ^ 62)≤hi)(h4:hi<2 ^ 62)
  (q:R (qF lo (hi-lo).toNat) H):wpAny (model X.prog X.w) X.A (pyIter (.ref s.heap.objs.size)) (PIE X pins σ tg R) E { s with heap:=s.heap.push { cls:=.type "range",data:=.fields #[.int lo t,.int hi u,.int 1 v] },toks:=tk }:=by
 refine wpAny_pyIter_range (IsRange.new ..) (small_one h1 h2 h3 h4) ?_
 have I1:Inv X pins σ H { s with heap:=s.heap.push { cls:=.type "range",data:=.fields #[.int lo t,.int hi u,.int 1 v] },toks:=tk }:=I.kept λb o e=>zd _ e
 refine⟨(s.heap.push { cls:=.type "range",data:=.fields #[.int lo t,.int hi u,.int 1 v] }).objs.size,[(s.heap.push { cls:=.type "range",data:=.fields #[.int lo t,.int hi u,.int 1 v] }).objs.size],_,_,H,rfl,
  I1.kept (t':=tk) λb o e=>zd _ e,Af _ lo (hi-lo).toNat,?_,λb hb=>?_,q⟩
 ·have e1:lo+((0:Nat):Int)*1=lo:=by simp
  have e2:(((hi-lo).toNat:Nat):Int)-((0:Nat):Int)=Builtin.Range.rangeSize lo hi 1:=by rw [rangeSize_one];split<;>lia
  show IsRangeIter _ _ (lo+((0:Nat):Int)*1) ((((hi-lo).toNat:Nat):Int)-((0:Nat):Int)) 1
  rw [e1,e2]
  exact z27 _ rfl
 ·have e:b=(s.heap.push { cls:=.type "range",data:=.fields #[.int lo t,.int hi u,.int 1 v] }).objs.size:=by simpa using hb
  subst e
  exact I1.fpOk (zf _) (I1.hok.fresh (zf _))
abbrev qI(ta:TA):TI:=λσ H R=>ta σ H λvs H1=>∃j:Int,vs=[.int j]/\-(2 ^ 62)≤j/\j<2 ^ 62/\R (qF 0 j.toNat) H1
def Aj{a:Expr}{ta:TA}{p pos:Pos}(hg:Gl X "range")(hm:X.mg "range" = none)(ha:PA X [a] ta)(hs:‹starEach [a] X.env=[(false,eval a X.env)]›):PI X tg (.Call (.Name "range" p) [a] [] pos) (qI ta):=by
 intro pins s σ H R I h
 refine Call_ (iz I hg hm boot_range (PyProof.Rows.callWith_type1 (aJ (ha pos pins s σ H _ I h) λus s1 ⟨vs,H1,I1,r1,q1⟩=>?_) hs rfl))
 obtain⟨j,e,q1,q2,q⟩:=q1
 subst e
 cases r1 with
 | cons r rr =>
  cases rr
  obtain⟨t,rfl⟩:=r
  exact call_range_1 (Ai I1 (by lia) (by lia) q1 q2 (by simpa using q))
abbrev nD(wi:TI)(g:TG)(tb:TS):TS:=λD σ H=>wi σ H λJ H1=>∃W:Nat->Nat->St->Hp->Prop,(∃m,W 0 m σ H1)/\∀i m σ H,W i m σ H ->
 (J.stop i H/\D.nx σ H)∨(J.go i H/\∃N:St->Hp->Prop,(∀σ' H',N σ' H'->∃m',m'<m/\W (i+1) m' σ' H')/\∀x H',J.yld i H x H'->g x σ H' λσ2 H2=>tb { D with nx:=N,ct:=N,bk:=D.nx } σ2 H2)
abbrev jk(fp:List Addr)(h:Heap):List (Addr×Obj):=fp.filterMap λb=>(h.get? b).map λo=>(b,o)
def kP{fp:List Addr}{h:Heap}{b:Addr}{o:Obj}(hb:b∈fp)(e:h.get? b=some o):(b,o)∈jk fp h:=List.mem_filterMap.mpr ⟨b,hb,by rw [e];rfl⟩
def Ak{fp:List Addr}{h:Heap}{p:Addr×Obj}(hp:p∈jk fp h):p.1∈fp/\h.get? p.1=some p.2:=by
 obtain⟨b,hb,e⟩:=List.mem_filterMap.mp hp
 cases q:h.get? b with
 | none=>rw [q] at e;cases e
 | some o =>
  rw [q] at e
  have e':(b,o)=p:=z1e e
  subst e'
  exact⟨hb,q⟩
def Inv.pinned{pins:List (Addr×Obj)}{σ:St}{H:Hp}{s:Shared}{fp:List Addr}(I:Inv X pins σ H s)(hf:∀b∈fp,iA X pins H b)(ho:∀b∈fp,∃o,s.heap.get? b=some o/\∀v,o.data≠.cell v):Inv X (pins++jk fp s.heap) σ H s :=
 I.y2d7 λp hp=>(z13.mp hp).elim (λz=>I.pin p (z21 _ z)) λz=>by
  obtain⟨hb,e⟩:=Ak z
  obtain⟨f0,f1,f2,_⟩:=hf p.1 hb
  obtain⟨o,e',d⟩:=ho p.1 hb
  rw [e] at e';cases e'
  exact⟨e,f0,f1,f2,d⟩
def Inv.y430{pins pl:List (Addr×Obj)}{σ:St}{H:Hp}{s:Shared}(I:Inv X (pins++pl) σ H s):Inv X pins σ H s:=I.y2d7 λp hp=>I.pin p (z21 _ (List.mem_append_left _ hp))
def qJ{iter:Expr}{body:List Stmt}{wi:TI}{g:TG}{tb:TS}{pos:Pos}(hp:PassesOwn (model X.prog X.w) X.A X.env X.xe)(hc:X.calm=true)(hi:PI X tg iter wi)(hg:PG X tg g)(hb:dS X body tb)
  (hs:∀x,foldedSetIterable iter X.env x=pure x:=by intro _;rfl):PS X (.For tg iter body [] pos) (nD wi g tb):=by
 intro pins s σ H D I h
 refine wpAny_For (aJ (hi pins s σ H _ I h) λv s1 h1=>aJ h1 λitv s2 h2=>?_) hs
 obtain⟨it,fp,tn,J,H2,e,I2,T,st2,f2,W,⟨m0,w0⟩,turn⟩:=h2
 subst e
 have stat:∀{H':Hp},(∀b∈fp,H' b=none)->∀b∈fp,iA X pins H' b:=λhn b hb=>⟨hn b hb,(f2 b hb).2⟩
 refine codeAny_forLoop_any (λn s'=>∃i σ' H',Inv X pins σ' H' s'/\tn i s'.heap/\(∀b∈fp,H' b=none)/\W i n σ' H') ?_ m0 ⟨0,σ,H2,I2,st2,λb hb=>(f2 b hb).1,w0⟩
 rintro n s3 ⟨i,σ3,H3,I3,st3,fr3,w3⟩
 rcases turn i n σ3 H3 w3 with⟨stop,qn⟩| ⟨go,N,hN,step⟩
 ·refine wpAny_passesOwn hp (aJ (T.done X rfl rfl rfl hc i pins s3 σ3 H3 X.xe I3 (stat fr3) st3 stop) λr s4 zz=>?_)
  obtain⟨hr,I4⟩:=zz
  subst hr
  exact wpAny_execs_nil ⟨σ3,H3,I4,qn⟩
 ·refine wpAny_passesOwn hp (aJ (T.item X rfl rfl rfl hc i pins s3 σ3 H3 X.xe I3 (stat fr3) st3 go) λr s4 zz=>?_)
  obtain⟨u,hr,h4⟩:=zz
  subst hr
  refine wpAny_passesOwn hp (aJ h4 λ_ s5 zz=>?_)
  obtain⟨x,H5,I5,r5,y5,st5,fr5⟩:=zz
  have I5':=I5.pinned (stat fr5) (T.obj _ _ st5)
  refine wpAny_passesOwn hp (aJ (hg _ s5 σ3 H5 x u _ I5' r5 (step x H5 y5)) λ_ s6 zz=>?_)
  obtain⟨σ6,H6,I6,q6⟩:=zz
  refine wpAny_passesOwn hp (aJ (hb _ s6 σ6 H6 _ I6 q6) λf s7 q7=>?_)
  have again:∀{σ7:St} {H7:Hp},Inv X (pins++jk fp s5.heap) σ7 H7 s7->N σ7 H7->∃m,m<n/\∃i σ' H',Inv X pins σ' H' s7/\tn i s7.heap/\(∀b∈fp,H' b=none)/\W i m σ' H':=λ{σ7 H7} I7 n7=>by
   obtain⟨m',hm,w7⟩:=hN σ7 H7 n7
   refine⟨m',hm,i+1,σ7,H7,I7.y430,T.keep _ _ _ st5 λb hb o e=>(I7.pin (b,o) (z21 _ (z21 _ (kP hb e)))).1,λb hb=>?_,w7⟩
   obtain⟨o,e,d⟩:=T.obj _ _ st5 b hb
   exact (I7.pin (b,o) (z21 _ (z21 _ (kP hb e)))).2.1
  cases f with
  | next=>obtain⟨σ7,H7,I7,n7⟩:=q7;exact again I7 n7
  | cont=>obtain⟨σ7,H7,I7,n7⟩:=q7;exact again I7 n7
  | brk=>obtain⟨σ7,H7,I7,q7⟩:=q7;exact⟨σ7,H7,I7.y430,q7⟩
  | ret v=>obtain⟨x7,σ7,H7,I7,r7,q7⟩:=q7;exact⟨x7,σ7,H7,I7.y430,r7,q7⟩
end
end
section
noncomputable abbrev R2:=V->V->Hp->VK->Prop
abbrev cf(X:Cx)(f:Value->Value->Sem Value)(r:R2):Prop :=
 ∀(pins:List (Addr×Obj)) (s:Shared) (σ:St) (H:Hp) (x y:V) (v u:Value) (Q:VK),Inv X pins σ H s->aA x v->aA y u->r x y H Q ->
  wpAny (model X.prog X.w) X.A (f v u) (EP X pins σ Q) X.xe s
abbrev yG(X:Cx)(f:Value->Sem Value)(r:V->Hp->VK->Prop):Prop :=
 ∀(pins:List (Addr×Obj)) (s:Shared) (σ:St) (H:Hp) (x:V) (v:Value) (Q:VK),Inv X pins σ H s->aA x v->r x H Q ->
  wpAny (model X.prog X.w) X.A (f v) (EP X pins σ Q) X.xe s
abbrev y6(X:Cx)(f:Value)(r:List V->Hp->VK->Prop):Prop :=
 ∀(pins:List (Addr×Obj)) (s:Shared) (σ:St) (H:Hp) (xs:List V) (us:List Value) (Q:VK),Inv X pins σ H s->au xs us->r xs H Q ->
  wpAny (model X.prog X.w) X.A (call f us) (EP X pins σ Q) X.xe s
abbrev Al(X:Cx)(r:V->Hp->(Bool->Hp->Prop)->Prop):Prop :=
 ∀(pins:List (Addr×Obj)) (s:Shared) (σ:St) (H:Hp) (x:V) (v:Value) (Q:Bool->Hp->Prop),Inv X pins σ H s->aA x v->r x H Q ->
  wpAny (model X.prog X.w) X.A (truthy v) (TP X pins σ Q) X.xe s
abbrev mL(r:R2)(ta tb:TE):TE:=λσ H Q=>ta σ H λx H1=>tb σ H1 λy H2=>r x y H2 Q
abbrev tUn(r:V->Hp->VK->Prop)(ta:TE):TE:=λσ H Q=>ta σ H λx H1=>r x H1 Q
abbrev rI(C:Int->Int->Prop)(g:Int->Int->V):R2:=λx y H Q=>∃i j,x=.int i/\y=.int j/\C i j/\Q (g i j) H
abbrev i9(g:Int->Int->V):R2:=λx y H Q=>∃i j,x=.int i/\y=.int j/\Q (g i j) H
abbrev rU(g:Int->V):V->Hp->VK->Prop:=λx H Q=>∃i,x=.int i/\Q (g i) H
section
variable {X:Cx}{a b c:Expr}{ta tb tc:TE}{pos:Pos}
def nE(ha:PE X a ta)(hb:PE X b tb){pins:List (Addr×Obj)}{s:Shared}{σ:St}{H:Hp}{R:V->V->Hp->Prop}(I:Inv X pins σ H s)
  (h:ta σ H λx H1=>tb σ H1 λy H2=>R x y H2) {Q:Value->Shared->Prop} {f:Value->Value->Sem Value}
  (hf:∀v u s2 x y H2,Inv X pins σ H2 s2->aA x v->aA y u->R x y H2->wpAny (model X.prog X.w) X.A (f v u) Q X.xe s2) :
  wpAny (model X.prog X.w) X.A (eval a X.env) (λv s₁=>wpAny (model X.prog X.w) X.A (eval b X.env) (λu s₂=>wpAny (model X.prog X.w) X.A (f v u) Q X.xe s₂) X.xe s₁) X.xe s:=by
 refine aJ (ha pins s σ H _ I h) λv s1 zz=>?_
 obtain⟨x,H1,I1,r1,q1⟩:=zz
 refine aJ (hb pins s1 σ H1 _ I1 q1) λu s2 zz=>?_
 obtain⟨y,H2,I2,r2,q2⟩:=zz
 exact hf v u s2 x y H2 I2 r1 r2 q2
def qK{op:Operator}{r:R2}(ho:cf X (binaryOp op) r)(ha:PE X a ta)(hb:PE X b tb):PE X (.BinOp a op b pos) (mL r ta tb):=by
 intro pins s σ H Q I h
 exact wpAny_BinOp (nE ha hb I h λv u s2 x y H2 I2 rx ry q=>ho pins s2 σ H2 x y v u Q I2 rx ry q)
def nF{op:UnaryOp}{r:V->Hp->VK->Prop}(ho:yG X (unaryOp op) r)(ha:PE X a ta):PE X (.UnaryOp op a pos) (tUn r ta):=by
 intro pins s σ H Q I h
 exact UnaryOp_ (aJ (ha pins s σ H _ I h) λv s1 ⟨x,H1,I1,r1,q1⟩=>ho pins s1 σ H1 x v Q I1 r1 q1)
def qL{f:Value->Value->Sem Value}{C:Int->Int->Prop}{g:Int->Int->Int}
  (rule:∀(i j:Int) (t u:Tok) (s:Shared) (Q:Value->Shared->Prop) (E:Value->Shared->Prop),C i j->Q (.int (g i j) s.toks) { s with toks:=s.toks+1 }->wpAny (model X.prog X.w) X.A (f (.int i t) (.int j u)) Q E s) :
  cf X f (rI C λi j=>.int (g i j)):=by
 intro pins s σ H x y v u Q I rx ry h
 obtain⟨i,j,rfl,rfl,hc,q⟩:=h
 obtain⟨t,rfl⟩:=rx
 obtain⟨t',rfl⟩:=ry
 exact rule i j t t' s _ _ hc ⟨.int (g i j),H,I.tok _,⟨_,rfl⟩,q⟩
def qM{f:Value->Value->Sem Value}{g:Int->Int->Int}
  (rule:∀(i j:Int) (t u:Tok) (s:Shared) (Q:Value->Shared->Prop) (E:Value->Shared->Prop),Q (.int (g i j) s.toks) { s with toks:=s.toks+1 }->wpAny (model X.prog X.w) X.A (f (.int i t) (.int j u)) Q E s) :
  cf X f (i9 λi j=>.int (g i j)):=by
 intro pins s σ H x y v u Q I rx ry h
 obtain⟨i,j,rfl,rfl,q⟩:=h
 obtain⟨t,rfl⟩:=rx
 obtain⟨t',rfl⟩:=ry
 exact rule i j t t' s _ _ ⟨.int (g i j),H,I.tok _,⟨_,rfl⟩,q⟩
def nG{f:Value->Value->Sem Value}{g:Int->Int->Bool}
  (rule:∀(i j:Int) (t u:Tok) (s:Shared) (Q:Value->Shared->Prop) (E:Value->Shared->Prop),Q (.bool (g i j)) s->wpAny (model X.prog X.w) X.A (f (.int i t) (.int j u)) Q E s) :
  cf X f (i9 λi j=>.bl (g i j)):=by
 intro pins s σ H x y v u Q I rx ry h
 obtain⟨i,j,rfl,rfl,q⟩:=h
 obtain⟨t,rfl⟩:=rx
 obtain⟨t',rfl⟩:=ry
 exact rule i j t t' s _ _ ⟨.bl (g i j),H,I,rfl,q⟩
abbrev Am(i j:Int):Prop:=0<j/\j<1073741824
abbrev nH(i j:Int):Prop:=0≤j/\j≤1000000/\i.natAbs<2 ^ 64
abbrev y4(i j:Int):Prop:=(-(2 ^ 64)<i/\i<2 ^ 64)∨(-(2 ^ 64)<j/\j<2 ^ 64)
def y4.ok{i j:Int}(h:y4 i j):IntMulOk i j:=by
 rcases h with⟨h1,h2⟩| ⟨h1,h2⟩
 ·exact .of_left (intBits_le_64 h1 h2)
 ·exact .of_right (intBits_le_64 h1 h2)
def An:cf X (binaryOp .Add) (i9 λi j=>.int (i+j)):=qM λ_ _ _ _ _ _ _ q=>add_int q
def Ao:cf X (binaryOp .Sub) (i9 λi j=>.int (i-j)):=qM λ_ _ _ _ _ _ _ q=>sub_int q
def Ap:cf X (binaryOp .Mult) (rI y4 λi j=>.int (i*j)):=qL λ_ _ _ _ _ _ _ hc q=>mul_int q hc.ok
def yH:cf X (binaryOp .FloorDiv) (rI Am λi j=>.int (i / j)):=qL λi j _ _ _ _ _ hc q=>by
 have h1:(0:Int)<j:=hc.1
 have h2:j<1073741824:=hc.2
 exact floordiv_int (by lia) (by rw [Int.fdiv_eq_ediv_of_nonneg i (by lia)];exact q) (.inl (PyProof.noPylong_small (by lia)))
def Aq:cf X (binaryOp .Mod) (rI (λ_ j=>0<j) λi j=>.int (i % j)):=qL λi j _ _ _ _ _ hc q=>by
 have h1:(0:Int)<j:=hc
 exact mod_int' (by lia) (by rw [Int.fmod_eq_emod_of_nonneg i (by lia)];exact q)
def Ar:cf X (binaryOp .Pow) (rI nH λi j=>.int (i ^ j.toNat)):=qL λ_ _ _ _ _ _ _ hc q=>pow_int_small hc.1 hc.2.1 hc.2.2 q
def unI{f:Value->Sem Value}{g:Int->Int}
  (rule:∀(i:Int) (t:Tok) (s:Shared) (Q:Value->Shared->Prop) (E:Value->Shared->Prop),Q (.int (g i) s.toks) { s with toks:=s.toks+1 }->wpAny (model X.prog X.w) X.A (f (.int i t)) Q E s) :
  yG X f (rU λi=>.int (g i)):=by
 intro pins s σ H x v Q I rx h
 obtain⟨i,rfl,q⟩:=h
 obtain⟨t,rfl⟩:=rx
 exact rule i t s _ _ ⟨.int (g i),H,I.tok _,⟨_,rfl⟩,q⟩
def nI:yG X (unaryOp .USub) (rU λi=>.int (-i)):=unI λ_ _ _ _ _ q=>neg_int q
end
abbrev iB:V->V->Bool
 | .non,.non=>true | .non,.int _=>true | .int _,.non=>true | .non,.bl _=>true | .bl _,.non=>true | .non,.str _=>true | .str _,.non=>true
 | .int _,.int _=>true | .bl _,.bl _=>true | .str _,.str _=>true | .byt _,.byt _=>true
 | .int _,.str _=>true | .str _,.int _=>true | .bl _,.str _=>true | .str _,.bl _=>true
 | _,_=>false
abbrev rEq:R2:=λx y H Q=>iB x y=true/\Q (.bl (decide (x=y))) H
abbrev rNe:R2:=λx y H Q=>iB x y=true/\Q (.bl (!decide (x=y))) H
def yee{i j:Int}:decide (V.int i=V.int j)=(i == j):=by
 rw [Bool.eq_iff_iff]
 simp
def yec{i j:Bool}:decide (V.bl i=V.bl j)=(i == j):=by
 rw [Bool.eq_iff_iff]
 simp
def yef{i j:Str}:decide (V.str i=V.str j)=(i == j):=by
 rw [Bool.eq_iff_iff]
 simp
def yed{i j:Array UInt8}:decide (V.byt i=V.byt j)=(i.toList == j.toList):=by
 rw [Bool.eq_iff_iff]
 cases i
 cases j
 simp
section
variable {X:Cx}{a b c:Expr}{ta tb tc:TE}{pos:Pos}
def bp{pins:List (Addr×Obj)}{σ:St}{H:Hp}{s:Shared}{Q:VK}{k k':Bool}(I:Inv X pins σ H s)(q:Q (.bl k) H)(e:k=k'):EP X pins σ Q (.bool k') s:=by
 subst e
 exact⟨.bl k,H,I,rfl,q⟩
def qN:cf X (compareOp .Eq) rEq:=by
 intro pins s σ H x y v u Q I rx ry h
 obtain⟨hs,q⟩:=h
 cases x with
 | non =>
  cases rx
  cases y with
  | non=>cases ry;exact PySem.EqNone.eq_none_none (bp I q (by simp))
  | bl j=>cases ry;exact PySem.EqNone.eq_none_bool (bp I q (by simp))
  | int j=>obtain⟨t',rfl⟩:=ry;exact PySem.EqNone.eq_none_int (bp I q (by simp))
  | str j=>obtain⟨t',rfl⟩:=ry;exact PySem.EqNone.eq_none_str (bp I q (by simp))
  | _=>exact absurd (show false=true from hs) z15
 | bl i =>
  cases rx
  cases y with
  | non=>cases ry;exact PySem.EqNone.eq_bool_none (bp I q (by simp))
  | bl j=>cases ry;exact eq_bool (bp I q yec)
  | str j=>obtain⟨t',rfl⟩:=ry;exact PySem.EqMixed.eq_bool_str (bp I q (by simp))
  | _=>exact absurd (show false=true from hs) z15
 | int i =>
  obtain⟨t,rfl⟩:=rx
  cases y with
  | non=>cases ry;exact PySem.EqNone.eq_int_none (bp I q (by simp))
  | int j=>obtain⟨t',rfl⟩:=ry;exact eq_int (bp I q yee)
  | str j=>obtain⟨t',rfl⟩:=ry;exact PySem.EqMixed.eq_int_str (bp I q (by simp))
  | _=>exact absurd (show false=true from hs) z15
 | str i =>
  obtain⟨t,rfl⟩:=rx
  cases y with
  | non=>cases ry;exact PySem.EqNone.eq_str_none (bp I q (by simp))
  | bl j=>cases ry;exact PySem.EqMixed.eq_str_bool (bp I q (by simp))
  | int j=>obtain⟨t',rfl⟩:=ry;exact PySem.EqMixed.eq_str_int (bp I q (by simp))
  | str j=>obtain⟨t',rfl⟩:=ry;exact eq_str (bp I q yef)
  | _=>exact absurd (show false=true from hs) z15
 | byt i =>
  obtain⟨t,rfl⟩:=rx
  cases y with
  | byt j=>obtain⟨t',rfl⟩:=ry;exact W.eq_bytes (bp I q yed)
  | _=>exact absurd (show false=true from hs) z15
 | _=>cases y<;>exact absurd (show false=true from hs) z15
def qO:cf X (compareOp .NotEq) rNe:=by
 intro pins s σ H x y v u Q I rx ry h
 obtain⟨hs,q⟩:=h
 cases x with
 | non =>
  cases rx
  cases y with
  | non=>cases ry;exact PySem.EqNone.ne_none_none (bp I q (by simp))
  | bl j=>cases ry;exact PySem.EqNone.ne_none_bool (bp I q (by simp))
  | int j=>obtain⟨t',rfl⟩:=ry;exact PySem.EqNone.ne_none_int (bp I q (by simp))
  | str j=>obtain⟨t',rfl⟩:=ry;exact PySem.EqNone.ne_none_str (bp I q (by simp))
  | _=>exact absurd (show false=true from hs) z15
 | bl i =>
  cases rx
  cases y with
  | non=>cases ry;exact PySem.EqNone.ne_bool_none (bp I q (by simp))
  | bl j=>cases ry;exact ne_bool (bp I q (congrArg not yec))
  | str j=>obtain⟨t',rfl⟩:=ry;exact PySem.EqMixed.ne_bool_str (bp I q (by simp))
  | _=>exact absurd (show false=true from hs) z15
 | int i =>
  obtain⟨t,rfl⟩:=rx
  cases y with
  | non=>cases ry;exact PySem.EqNone.ne_int_none (bp I q (by simp))
  | int j=>obtain⟨t',rfl⟩:=ry;exact ne_int (bp I q (congrArg not yee))
  | str j=>obtain⟨t',rfl⟩:=ry;exact PySem.EqMixed.ne_int_str (bp I q (by simp))
  | _=>exact absurd (show false=true from hs) z15
 | str i =>
  obtain⟨t,rfl⟩:=rx
  cases y with
  | non=>cases ry;exact PySem.EqNone.ne_str_none (bp I q (by simp))
  | bl j=>cases ry;exact PySem.EqMixed.ne_str_bool (bp I q (by simp))
  | int j=>obtain⟨t',rfl⟩:=ry;exact PySem.EqMixed.ne_str_int (bp I q (by simp))
  | str j=>obtain⟨t',rfl⟩:=ry;exact ne_str (bp I q (congrArg not yef))
  | _=>exact absurd (show false=true from hs) z15
 | byt i =>
  obtain⟨t,rfl⟩:=rx
  cases y with
  | byt j=>obtain⟨t',rfl⟩:=ry;exact W.ne_bytes (bp I q (congrArg not yed))
  | _=>exact absurd (show false=true from hs) z15
 | _=>cases y<;>exact absurd (show false=true from hs) z15
def qP:cf X (compareOp .Lt) (i9 λi j=>.bl (decide (i<j))):=nG λ_ _ _ _ _ _ _ q=>lt_int q
def qQ:cf X (compareOp .Gt) (i9 λi j=>.bl (decide (j<i))):=nG λ_ _ _ _ _ _ _ q=>gt_int q
def qR:cf X (compareOp .GtE) (i9 λi j=>.bl (decide (j≤i))):=nG λ_ _ _ _ _ _ _ q=>ge_int q
def cf.or{f:Value->Value->Sem Value}{r r':R2}(h:cf X f r)(h':cf X f r'):cf X f (λx y H Q=>r x y H Q∨r' x y H Q):=by
 intro pins s σ H x y v u Q I rx ry q
 rcases q with q|q
 ·exact h pins s σ H x y v u Q I rx ry q
 ·exact h' pins s σ H x y v u Q I rx ry q
def iC(b:Expr){op:CmpOp}(h:op≠.In:=by decide)(h2:op≠.NotIn:=by decide):behindInMarks op b=false:=by
 have e1:(op == CmpOp.In)=false:=by cases op<;>first|rfl|exact absurd rfl h
 have e2:(op == CmpOp.NotIn)=false:=by cases op<;>first|rfl|exact absurd rfl h2
 cases b<;>simp [behindInMarks,e1,e2]
def qS{op:CmpOp}{r:R2}(ho:cf X (compareOp op) r)(ha:PE X a ta)(hb:PE X b tb)(hm:behindInMarks op b=false):PE X (.Compare a [op] [b] pos) (mL r ta tb):=by
 intro pins s σ H Q I h
 exact wpAny_Compare1 (nE ha hb I h λv u s2 x y H2 I2 rx ry q=>ho pins s2 σ H2 x y v u Q I2 rx ry q) hm
abbrev qT(t:TE):TT:=λσ H Q=>t σ H λx H'=>∃k,x=.bl k/\Q k H'
def kQ{op:CmpOp}{r:R2}(ho:cf X (compareOp op) r)(ha:PE X a ta)(hb:PE X b tb)(hm:behindInMarks op b=false):PT X (.Compare a [op] [b] pos) (qT (mL r ta tb)):=by
 intro pins s σ H Q I h
 refine wpAny_isTrue_Compare1 (aJ (ha pins s σ H _ I h) λv s1 ⟨x,H1,I1,r1,q1⟩=>aJ (hb pins s1 σ H1 _ I1 q1) λu s2 ⟨y,H2,I2,r2,q2⟩ =>
  aJ (ho pins s2 σ H2 x y v u _ I2 r1 r2 q2) λc s3 ⟨z,H3,I3,r3,k,e,q3⟩=>?_) hm
 subst e
 cases r3
 exact wpAny_truthy_bool ⟨H3,I3,q3⟩
abbrev qU(K:W.Frag)(x:V)(H:Hp)(k:Bool):Prop :=
 match x with
 | .non=>k=false
 | .bl b=>k=b
 | .int i=>k=(i != 0)
 | .str y=>y.length≤sizeLine/\k=((y.length:Int) != 0)
 | .byt y=>y.size≤sizeLine/\k=((y.size:Int) != 0)
 | .ref p=>(∃xs,bM K H p xs/\k=!xs.isEmpty)∨(∃xs,br K H p xs/\k=!xs.isEmpty)∨∃kvs,H p=some (.dK kvs)/\k=!kvs.isEmpty
 | _=>False
def As{κ:Type}{kvs:List (κ×V)}{vs:List (κ×Value)}(r:KV kvs vs):(!vs.isEmpty)=!kvs.isEmpty:=by
 cases r<;>rfl
def qV{xs:List V}{its:List Value}(r:au xs its):(!its.toArray.isEmpty)=!xs.isEmpty:=by
 cases r<;>simp
def gH:(sizeLine:Nat)<2 ^ 63:=by rw [sizeLine_eq];decide
def Au:Al X (λx H Q=>∃k,qU X.K x H k/\Q k H):=by
 intro pins s σ H x v Q I rx h
 obtain⟨k,e,q⟩:=h
 have hl:=gH
 have hs:sizeLine=16777216:=sizeLine_eq
 cases x with
 | non =>
  cases rx
  have e':k=false:=e
  subst e'
  exact truthy_none ⟨H,I,q⟩
 | bl b =>
  cases rx
  have e':k=b:=e
  subst e'
  exact wpAny_truthy_bool ⟨H,I,q⟩
 | int i =>
  obtain⟨t,rfl⟩:=rx
  have e':k=(i != 0):=e
  subst e'
  exact PySem.P.truthy_int ⟨H,I,q⟩
 | str y =>
  obtain⟨t,rfl⟩:=rx
  obtain⟨hy,e'⟩:y.length≤sizeLine/\k=((y.length:Int) != 0):=e
  subst e'
  exact PySem.P.truthy_str (by lia) ⟨H,I.tok _,q⟩
 | byt y =>
  obtain⟨t,rfl⟩:=rx
  obtain⟨hy,e'⟩:y.size≤sizeLine/\k=((y.size:Int) != 0):=e
  subst e'
  exact W.truthy_bytes (by lia) ⟨H,I.tok _,q⟩
 | ref p =>
  cases rx
  have e':(∃xs,bM X.K H p xs/\k=!xs.isEmpty)∨(∃xs,br X.K H p xs/\k=!xs.isEmpty)∨∃kvs,H p=some (.dK kvs)/\k=!kvs.isEmpty:=e
  rcases e' with⟨xs,hx,e'⟩| ⟨xs,hx,e'⟩| ⟨kvs,hx,e'⟩
  ·subst e'
   obtain⟨its,r,pl,hz⟩:=I.list hx
   have hlen:=r.length
   exact wpAny_truthy_list pl.isList (by simp only [zc];lia) ⟨H,I.tok _,by rw [qV r];exact q⟩
  ·subst e'
   obtain⟨its,r,pl,hz⟩:=I.tuple hx
   have hlen:=r.length
   exact truthy_tuple pl (by simp only [zc];lia) ⟨H,I.tok _,by rw [qV r];exact q⟩
  ·subst e'
   obtain⟨hz,hS,vs,r,m⟩:kvs.length≤sizeLine/\(p == sysModules)=false/\∃vs,KV kvs vs/\s.heap.DictOf (cR X.prog X.w) p vs:=I.hok p _ hx
   have hlen:kvs.length=vs.length:=Paired.length r
   exact wpAny_truthy_dict hS m (by lia) ⟨H,I.tok _,by rw [As r];exact q⟩
 | _=>exact (show False from e).elim
def Av(ha:PE X a ta)(he:∀whole,isTrue a X.env whole=(do let v <- whole;standAt a.pos;holding [v] (truthy v))) :
  PT X a (λσ H Q=>ta σ H λx H'=>∃k,qU X.K x H' k/\Q k H'):=by
 intro pins s σ H Q I h
 exact isTrue_plain (aJ (ha pins s σ H _ I h) λv s1 ⟨x,H1,I1,r1,q1⟩=>Au pins s1 σ H1 x v Q I1 r1 q1) (he _)
def Aw:cf X (binaryOp .Add) (λx y H Q=>∃i j,x=.str i/\y=.str j/\i.length+j.length≤sizeLine/\Q (.str (i++j)) H):=by
 intro pins s σ H x y v u Q I rx ry h
 obtain⟨i,j,rfl,rfl,hz,q⟩:=h
 obtain⟨t,rfl⟩:=rx
 obtain⟨t',rfl⟩:=ry
 exact add_str (λt' tk=>⟨.str (i++j),H,I.tok _,⟨_,rfl⟩,q⟩) hz
def dF{x:V}{us:List Value}(r:au [x] us):∃u,us=[u]/\aA x u:=by
 cases r with
 | cons r1 r2=>cases r2;exact⟨_,rfl,r1⟩
def qW{x y:V}{us:List Value}(r:au [x,y] us):∃u w',us=[u,w']/\aA x u/\aA y w':=by
 cases r with
 | cons r1 r2 =>
  cases r2 with
  | cons r3 r4=>cases r4;exact⟨_,_,rfl,r1,r3⟩
def yb0(hc:X.calm=true):y6 X (.builtin "max") (λxs H Q=>∃i j,xs=[.int i,.int j]/\Q (.int (if j>i then j else i)) H):=by
 intro pins s σ H xs us Q I r h
 obtain⟨i,j,rfl,q⟩:=h
 obtain⟨u,w',rfl,⟨t,rfl⟩,⟨t',rfl⟩⟩:=qW r
 refine max_two_ints (I.ok.hd hc) λh' tk k=>⟨_,H,I.kept k,?_,q⟩
 by_cases hj:j>i
 ·rw [if_pos hj,if_pos hj];exact⟨_,rfl⟩
 ·rw [if_neg hj,if_neg hj];exact⟨_,rfl⟩
def ya9:y6 X (.type "int") (λxs H Q=>(∃i,xs=[.int i]/\Q (.int i) H)∨∃k,xs=[.bl k]/\Q (.int (if k then 1 else 0)) H):=by
 intro pins s σ H xs us Q I r h
 rcases h with⟨i,rfl,q⟩| ⟨k,rfl,q⟩
 ·obtain⟨u,rfl,t,rfl⟩:=dF r
  exact call_int_int ⟨.int i,H,I,⟨_,rfl⟩,q⟩
 ·obtain⟨u,rfl,r1⟩:=dF r
  cases r1
  exact call_int_bool ⟨.int (if k then 1 else 0),H,I.tok _,⟨_,rfl⟩,q⟩
end
end
section
structure ObjM(h:Heap)(x dx C:Addr)(mA:Str->Option Value):Prop where
 obj:h.get? x=some (W.instObj C dx)
 ns:h.Ns1 dx mA
 ne:dx≠x
def kR{h:Heap}{dx:Addr}{mA:Str->Option Value}(n:h.Ns1 dx mA):∃od,h.get? dx=some od/\∀name,W.lookIn name od=some (mA name):=by
 obtain⟨o,es,ep,ho,hd,hk,_,hm⟩:=n
 refine⟨o,ho,λname=>?_⟩
 have e:=hm name
 unfold nsFind findBy at e
 rw [<- Array.find?_toList] at e
 unfold W.lookIn
 rw [hd]
 dsimp only
 split
 ·rename_i y q
  rw [q] at e
  exact congrArg some e
 ·rename_i q
  rw [q] at e
  have a:es.toList.any (·.refKey)=false:=by
   rw [List.any_eq_false]
   intro y hy
   obtain⟨z,t,hkey⟩:=hk y (Array.mem_toList_iff.mp hy)
   simp [DictEntry.refKey,hkey]
  have a':¬ es.toList.any (·.refKey)=true:=by rw [a];exact z15
  rw [if_neg a']
  exact congrArg some e
section
variable {prog:Program}{w:World}{A:Around}{E:Value->Shared->Prop}{s:Shared}{K:W.Frag}{x dx C f:Addr}{mA:Str->Option Value}{name:Str}{v:Value}
end
abbrev cS(f:Str)(v:V):List (Str×V)->List (Str×V)
 | []=>[(f,v)]
 | (g,x)::r=>if g=f then (g,v)::r else (g,x)::cS f v r
theorem qX(f g:Str)(v:V):∀fs:List (Str×V),(cS f v fs).lookup g=if g=f then some v else fs.lookup g
 | []=>by
  show List.lookup g [(f,v)]=_
  by_cases h:g=f
  ·have hb:(g == f)=true:=beq_iff_eq.mpr h
   simp only [List.lookup,hb,if_pos h]
  ·have hb:(g == f)=false:=beq_eq_false_iff_ne.mpr h
   simp only [List.lookup,hb,if_neg h]
 | (k,x)::r=>by
  have ih:=qX f g v r
  rw [show cS f v ((k,x)::r)=(if k=f then (k,v)::r else (k,x)::cS f v r) from rfl]
  by_cases hk:k=f
  ·rw [if_pos hk]
   by_cases h:g=k
   ·have hb:(g == k)=true:=beq_iff_eq.mpr h
    simp only [List.lookup,hb,if_pos (h.trans hk)]
   ·have hb:(g == k)=false:=beq_eq_false_iff_ne.mpr h
    simp only [List.lookup,hb,if_neg (λe:g=f=>h (e.trans hk.symm))]
  ·rw [if_neg hk]
   by_cases h:g=k
   ·have hb:(g == k)=true:=beq_iff_eq.mpr h
    simp only [List.lookup,hb,if_neg (λe:g=f=>hk (h.symm.trans e))]
   ·have hb:(g == k)=false:=beq_eq_false_iff_ne.mpr h
    simp only [List.lookup,hb]
    exact ih
theorem nJ(f:Str)(v:V):∀fs:List (Str×V),f∈(cS f v fs).map (·.1)/\∀g,g∈fs.map (·.1)->g∈(cS f v fs).map (·.1)
 | []=>⟨by simp [cS],λg h=>by simp at h⟩
 | (k,x)::r=>by
  obtain⟨i1,i2⟩:=nJ f v r
  rw [show cS f v ((k,x)::r)=(if k=f then (k,v)::r else (k,x)::cS f v r) from rfl]
  by_cases hk:k=f
  ·rw [if_pos hk]
   subst hk
   exact⟨by simp,λg h=>by simpa using h⟩
  ·rw [if_neg hk]
   refine⟨?_,λg h=>?_⟩
   ·rw [z16]
    exact z23 _ i1
   ·rw [z16] at h ⊢
    rcases z1d.mp h with e|e
    ·exact z1d.mpr (.inl e)
    ·exact z23 _ (i2 g e)
theorem qY(f:Str)(v:V):∀fs:List (Str×V),(cS f v fs).length≤fs.length+1
 | []=>by simp [cS]
 | (k,x)::r=>by
  have ih:=qY f v r
  rw [show cS f v ((k,x)::r)=(if k=f then (k,v)::r else (k,x)::cS f v r) from rfl]
  by_cases hk:k=f
  ·rw [if_pos hk,z10,z10];lia
  ·rw [if_neg hk,z10,z10];lia
def ib.some_of{v:V}{o:Option Value}(r:ib (some v) o):∃u,o=some u/\aA v u:=by
 cases o with
 | none=>exact (show False from r).elim
 | some u=>exact⟨u,rfl,r⟩
def Ax{v:V}{u:Value}(r:aA v u):W.handedIn u=true:=by
 cases v with
 | non=>cases (show u=Value.none from r);rfl
 | bl b=>cases (show u=Value.bool b from r);rfl
 | int i=>obtain⟨t,e⟩:=(show ∃t,u=Value.int i t from r);cases e;rfl
 | str x=>obtain⟨t,e⟩:=(show ∃t,u=Value.str x t from r);cases e;rfl
 | byt b=>obtain⟨t,e⟩:=(show ∃t,u=Value.bytes b t from r);cases e;rfl
 | flt b=>obtain⟨t,e⟩:=(show ∃t,u=Value.float b t from r);cases e;rfl
 | ref a=>cases (show u=Value.ref a from r);rfl
 | ty n=>cases (show u=Value.type n from r);rfl
section
variable {P:Program}{w:World}{H H':Hp}{h h':Heap}{a C dx:Addr}{fs fs':List (Str×V)}
end
structure Cls(K:W.Frag)(C:Addr):Prop where
 pg:W.plainGet K C Str.empty=true
 hd:W.hasDictIn K C=true
 po:W.plainOver K C=true
 sa:W.findIn K (.ref C) "__setattr__" = some (some (.builtin "object.__setattr__"))
abbrev ig(K:W.Frag)(C:Addr)(f:Str):Prop:=W.findIn K (.ref C) f=some none
structure Con(K:W.Frag)(C:Addr)(f:Str)(v:V)(u:Value):Prop where
 at_:W.findIn K (.ref C) f=some (some u)
 rel:aA v u
 get:W.specialIn K u "__get__" = some none
 cp:W.copiedNames.contains f=false
structure Meth(K:W.Frag)(C:Addr)(m:Str)(f:Addr):Prop where
 at_:W.findIn K (.ref C) m=some (some (.ref f))
 fn:W.isFn K (.ref f)=true
 kp:W.keepIn K (.ref f)=true
section
variable {X:Cx}{pins:List (Addr×Obj)}{σ:St}{H:Hp}{s:Shared}{a C dx:Addr}{fs:List (Str×V)}{f:Str}{v:V}{A:Around}{E:Value->Shared->Prop}
def y80{prog:Program}{w:World}{env:Env}{e:Expr}{f:Str}{pos:Pos}{s:Shared}{Q:Value->Shared->Prop}(hb:attributeBase e f env (eval e env)=eval e env)
  (h:wpAny (model prog w) A (eval e env) (λo s₁=>wpAny (model prog w) A (getAttr o f true) Q E s₁) E s):wpAny (model prog w) A (eval (.Attribute e f pos) env) Q E s :=
 Attribute_any_ h (by rw [arm_eval_Attribute,hb])
end
section
variable {X:Cx}{o e value:Expr}{f:Str}{pos pos' tpos:Pos}{ta tv:TE}
end
section
variable {X:Cx}{pins:List (Addr×Obj)}{σ:St}{H:Hp}{s:Shared}{A:Around}{E:Value->Shared->Prop}{Q:Value->Shared->Prop}{c:Value}{b:Bool}
inductive y5d(K:W.Frag)(H:Hp):V->Value->Prop where
 | non:y5d K H .non (.type "NoneType")
 | bl (x:Bool):y5d K H (.bl x) (.type "bool")
 | int (i:Int):y5d K H (.int i) (.type "int")
 | str (x:Str):y5d K H (.str x) (.type "str")
 | flt (x:UInt64):y5d K H (.flt x) (.type "float")
 | lst {a:Addr} {xs:List V} (e:H a=some (.lst xs)):y5d K H (.ref a) (.type "list")
 | frz {a:Addr} {o:Obj} {xs:List V} (e:H a=some (.frz o (.lst xs))):y5d K H (.ref a) (.type "list")
 | tup {a:Addr} {xs:List V} (e:H a=some (.tup xs)):y5d K H (.ref a) (.type "tuple")
 | dK {a:Addr} {kvs:List (aK×V)} (e:H a=some (.dK kvs)):y5d K H (.ref a) (.type "dict")
 | dT {a:Addr} {kvs:List (List aK×V)} (e:H a=some (.dT kvs)):y5d K H (.ref a) (.type "dict")
 | ins {a C dx:Addr} {fs:List (Str×V)} (e:H a=some (.ins C dx fs)) (cl:Cls K C) (ha:W.findIn K (.ref C) "__class__" = some (some (.builtin "object.__class__")))
   (hn:W.specialIn K (.builtin "object.__class__") "__get__" = some (some (.builtin "getset_descriptor.__get__"))) (htk:W.takesIn K (.builtin "object.__class__")=some true)
   (hm:W.mroIn K C (.type "object")=some true):y5d K H (.ref a) (.ref C)
end
end
section
structure y55(k:Nat)(A:Around):Prop where
 hd:A.handled=none
 dp:A.depth+3*k+5<recursionLimit
 un:A.units+16*k+200<cLine
 gd:A.guards=some []
def y55.mono{j k:Nat}{A:Around}(r:y55 k A)(h:j≤k):y55 j A:=⟨r.hd,by have:=r.dp;lia,by have:=r.un;lia,r.gd⟩
theorem y55.deeper{k:Nat}{A:Around}(r:y55 (k+1) A)(env:Env):y55 k (A.deeper env) :=
 ⟨r.hd,by have:=r.dp;show A.depth+1+3*k+5<_;lia,by have:=r.un;show A.units+3+16*k+200<_;lia,r.gd⟩
def Ay{A:Around}{C:Addr}{us:List Value}{kw:List (Str×Value)}:(A.under (.builtin "type.__call__" ⟨.ref C::us,kw⟩)).depth=A.depth+1:=by
 first|rfl|simp [Around.under,Code.weight,Code.isCreation,Code.isGuard,Code.isCaller,Code.frames,Code.isFrame,guardIds]
def Az{A:Around}{C:Addr}{us:List Value}{kw:List (Str×Value)}:(A.under (.builtin "type.__call__" ⟨.ref C::us,kw⟩)).units=A.units+1:=by
 first|rfl|simp [Around.under,Code.cUnits,Code.frames,Code.isFrame]
def y55.make{k:Nat}{A:Around}(r:y55 (k+1) A)(C:Addr)(us:List Value)(kw:List (Str×Value)):y55 k (A.under (.builtin "type.__call__" ⟨.ref C::us,kw⟩)) :=
 ⟨r.hd,by have:=r.dp;rw [Ay];lia,by have:=r.un;rw [Az];lia,by have:=r.gd;first|exact this|simpa [Around.under,Code.guards,Code.isGuard,guardIds,pushGuards] using this⟩
theorem y55.depth{k:Nat}{A:Around}(r:y55 k A):A.depth<recursionLimit:=by have:=r.dp;lia
theorem y55.units{k:Nat}{A:Around}(r:y55 k A):A.units+64<cLine:=by have:=r.un;lia
abbrev iD:TA:=λ_ H Q=>Q [] H
abbrev dU(ta:TE)(tr:TA):TA:=λσ H Q=>ta σ H λx H1=>tr σ H1 λxs H2=>Q (x::xs) H2
section
variable {X:Cx}{e:Expr}{es:List Expr}{te:TE}{t:TA}{pos:Pos}
def eM:PA X [] iD:=λ_ _ _ _ H Q I h=>Calls.spliced_nil ⟨[],H,I,.nil,h⟩
def cm(ha:PE X e te)(hr:PA X es t)(hs:‹starEach (e::es) X.env=(false,eval e X.env)::starEach es X.env›):PA X (e::es) (dU te t):=by
 intro pos pins s σ H Q I h
 rw [hs]
 show wpAny _ _ (spliced ((false,eval e X.env)::backTo pos (starEach es X.env))) _ _ s
 refine Calls.spliced_cons (aJ (ha pins s σ H _ I h) λu s1 zz=>?_)
 obtain⟨x,H1,I1,r1,q1⟩:=zz
 exact aJ (hr pos pins s1 σ H1 _ I1 q1) λus s2 ⟨xs,H2,I2,r2,q2⟩=>⟨x::xs,H2,I2,.cons r1 r2,q2⟩
abbrev kS(t:TA):TE:=λσ H Q=>t σ H λxs H1=>xs.length≤sizeLine/\∀p,H1 p=none->Q (.ref p) (aC H1 p (.tup xs))
abbrev AA(t:TA):TE:=λσ H Q=>t σ H λxs H1=>xs.length≤sizeLine/\∀p,H1 p=none->Q (.ref p) (aC H1 p (.lst xs))
def jm{x1}(h:PA X es t):PE X (.Tuple es x1 pos) (kS t):=by
 intro pins s σ H Q I hq
 refine wpAny_Tuple_spliced (aJ (h pos pins s σ H _ I hq) λus s1 ⟨xs,H1,I1,r,z,q⟩=>⟨by rw [<- r.length];exact z,?_⟩)
 have hf:H1 s1.heap.objs.size=none:=I1.hok.fresh (zf _)
 refine⟨.ref s1.heap.objs.size,aC H1 s1.heap.objs.size (.tup xs),I1.laid (t':=s1.toks) (λb u e=>zd _ e) (zf _) ?_,rfl,q _ hf⟩
 exact⟨z,us,r,ky.mk' _ _⟩
def AB(h:PA X es t):PE X (.List es pos) (AA t):=by
 intro pins s σ H Q I hq
 refine wpAny_List_spliced (aJ (h pos pins s σ H _ I hq) λus s1 ⟨xs,H1,I1,r,z,q⟩=>⟨by rw [<- r.length];exact z,?_⟩)
 have hf:H1 s1.heap.objs.size=none:=I1.hok.fresh (zf _)
 refine⟨.ref s1.heap.objs.size,aC H1 s1.heap.objs.size (.lst xs),I1.laid (t':=s1.toks) (λb u e=>zd _ e) (zf _) ?_,rfl,q _ hf⟩
 exact⟨z,us,0,r,z27 _ rfl⟩
end
noncomputable abbrev Sp:=List V->Hp->VK->XK->Prop
noncomputable abbrev gI:=List Env->Hp->Shared->XK->Value->Shared->Prop
structure y11(P:Program)(w:World)(K:W.Frag)(mg:Str->Option Value)(base:Heap)(A:Around)(outer:List Env)(s:Shared)(H:Hp):Prop where
 frames:A.frames=some outer
 mod:Mod K mg base
 bs:∀b o,base.get? b=some o->s.heap.get? b=some o/\H b=none
 bsz:base.objs.size≤s.heap.objs.size
 y152:s.heap.FunFrames base outer
 frf:∀b∈fP outer,H b=none
 hok:cP P w H s.heap
 bare:AllBare s.gens
abbrev CE(outer:List Env)(P:Program)(w:World)(H:Hp)(s:Shared)(Q:VK)(u:Value)(s':Shared):Prop :=
 ∃v H',s'.os=s.os/\AllBare s'.gens/\Un (fP outer) [] H H' s.heap s'.heap/\cP P w H' s'.heap/\aA v u/\Q v H'
abbrev CR(CX:gI)(outer:List Env)(P:Program)(w:World)(H:Hp)(s:Shared)(Q:VK)(E:XK)(r:Result)(s':Shared):Prop :=
 match r with
 | .ok (.ret u)=>CE outer P w H s Q u s'
 | .ok _=>False
 | .error e=>CX outer H s E e s'
structure y46(P:Program)(w:World)(K:W.Frag)(mg:Str->Option Value)(base:Heap)(CX:gI)(k:Nat)(f:Addr)(fd:FuncData)(ps:List Str)(sp:Sp):Prop where
 len:∀vs H Q E,sp vs H Q E->vs.length=ps.length
 run:∀(A:Around) (outer:List Env) (s:Shared) (H:Hp) (args:Args) (us:List Value) (vs:List V) (Q:VK) (E:XK),y55 k A->y11 P w K mg base A outer s H->BindsTo s fd args (ps.zip us)->au vs us->sp vs H Q E ->
  codeAny (model P w) A (.call (.ref f) args) (CR CX outer P w H s Q E) s
def y46.imp{P:Program}{w:World}{K:W.Frag}{mg:Str->Option Value}{base:Heap}{CX:gI}{k:Nat}{f:Addr}{fd:FuncData}{ps:List Str}{sp sp':Sp}(F:y46 P w K mg base CX k f fd ps sp)
  (h:∀vs H Q E,sp' vs H Q E->sp vs H Q E):y46 P w K mg base CX k f fd ps sp' :=
 ⟨λvs H Q E q=>F.len vs H Q E (h _ _ _ _ q),λA outer s H args us vs Q E hr he hb hv hs=>F.run A outer s H args us vs Q E hr he hb hv (h _ _ _ _ hs)⟩
def y11.make{P:Program}{w:World}{K:W.Frag}{mg:Str->Option Value}{base:Heap}{A:Around}{outer:List Env}{s:Shared}{H:Hp}(e:y11 P w K mg base A outer s H)(C:Addr)(us:List Value)(kw:List (Str×Value)) :
  y11 P w K mg base (A.under (.builtin "type.__call__" ⟨.ref C::us,kw⟩)) outer s H:=⟨by first|exact e.frames|(simpa [Around.under,Code.envs,Code.isFrame,pushEnvs] using e.frames),e.mod,e.bs,e.bsz,e.y152,e.frf,e.hok,e.bare⟩
section
variable {X:Cx}{pins:List (Addr×Obj)}{σ:St}{H:Hp}{s s':Shared}
def Inv.env0(I:Inv X pins σ H s):y11 X.prog X.w X.K X.mg X.base X.A X.stack s H :=
 ⟨I.ok.frames,I.ok.mod,I.bs,z19 I.ok.bsz I.sz,I.stack,I.y3d5,I.hok,I.bare⟩
def Inv.after{Q:VK}{u:Value}(I:Inv X pins σ H s)(h:CE X.stack X.prog X.w H s Q u s'):EP X pins σ Q u s':=by
 obtain⟨v,H',os,bare,un,hok,r,q⟩:=h
 obtain⟨hh,g,d,t,os'⟩:=s'
 obtain rfl:os'=s.os:=os
 exact⟨v,H',I.call (h':=hh) (g':=g) (d':=d) (t':=t) (ch:=[]) un hok bare (λb z=>absurd z (by simp)),r,q⟩
end
abbrev ft(sp:Sp)(dvs:List V)(E:XK)(t:TA):TE:=λσ H Q=>t σ H λvs H1=>sp (vs++dvs) H1 Q E
abbrev cX(K:W.Frag)(fd:FuncData)(ps:List Str)(ds:List Value):Prop :=
 ∀(s:Shared) (us:List Value),K.In s.heap->(us++ds).length=ps.length->BindsTo s fd ⟨us,[]⟩ (ps.zip (us++ds))
def cX.all{K:W.Frag}{fd:FuncData}{ps:List Str}(h:∀us:List Value,us.length=ps.length->bindArgs fd ⟨us,[]⟩=pure (ps.zip us)):cX K fd ps []:=λs us _ hl=>by
 rw [z11] at hl ⊢
 exact .of_eq (h us hl)
abbrev bN(CX:gI)(X:Cx)(E:XK):Prop:=∀(pins:List (Addr×Obj)) (σ:St) (H:Hp) (s:Shared) (e:Value) (s':Shared),Inv X pins σ H s->CX X.stack H s E e s'->X.xe e s'
section
variable {X:Cx}{CX:gI}{k:Nat}{f C:Addr}{fd:FuncData}{ps:List Str}{sp:Sp}{dvs:List V}{ds:List Value}{E:XK}{x m:Str}{p pos apos:Pos}{e o:Expr}{es:List Expr}{ta:TE}{t:TA}
def AD{pins:List (Addr×Obj)}{σ:St}{H:Hp}{s:Shared}{Q:VK}{us:List Value}{vs:List V}(F:y46 X.prog X.w X.K X.mg X.base CX k f fd ps sp)(hr:y55 k X.A)(hb:cX X.K fd ps ds)(hd:au dvs ds)(hx:bN CX X E)
  (I:Inv X pins σ H s) (r:au vs us) (h:sp (vs++dvs) H Q E):wpAny (model X.prog X.w) X.A (call (.ref f) us) (EP X pins σ Q) X.xe s:=by
 have r2:au (vs++dvs) (us++ds):=r.append hd
 have hl:(us++ds).length=ps.length:=by rw [<- r2.length];exact F.len _ _ _ _ h
 refine wpAny_call (codeAny_mono (F.run X.A X.stack s H ⟨us,[]⟩ (us++ds) (vs++dvs) Q E hr I.env0 (hb s us I.kIn hl) r2 h) λr s' hq=>?_)
 cases r with
 | error e=>exact hx pins σ H s e s' I hq
 | ok fl =>
  cases fl with
  | ret u=>exact I.after hq
  | next=>exact False.elim hq
  | brk=>exact False.elim hq
  | cont=>exact False.elim hq
noncomputable abbrev gJ(X:Cx)(e:Expr)(es:List Expr):Prop:=starEach (e::es) X.env=(false,eval e X.env)::starEach es X.env
noncomputable abbrev gC(X:Cx)(pos:Pos)(es:List Expr):Prop:=(backTo pos (starEach es X.env)).any (·.1)=false
def nK(F:y46 X.prog X.w X.K X.mg X.base CX k f fd ps sp)(hr:y55 k X.A)(hg:Gl X x)(hm:X.mg x=some (.ref f))(hk:W.keepIn X.K (.ref f)=true)(hb:cX X.K fd ps ds)(hd:au dvs ds)(hx:bN CX X E)
  (ha:PA X (e::es) t) (hdb:(x == ("__debug__" : Str))=false:=by decide) (he:‹gJ X e es›) (hpl:‹gC X pos es›) :
  PE X (.Call (.Name x p) (e::es) [] pos) (ft sp dvs E t):=by
 intro pins s σ H Q I h
 refine wpAny_Call_Name_kw (jg I hg hm ?_ hdb)
 refine W.callWith_K (h₀:=X.base) I.ok.mod.kin hk (aJ (ha pos pins s σ H _ I h) λus s1 ⟨vs,H1,I1,r,q⟩=>⟨I1.kIn,?_⟩) he hpl
 exact AD F hr hb hd hx I1 r q
structure Mk(K:W.Frag)(C f:Addr):Prop where
 makes:W.makesIn K C=true
 init:W.findIn K (.ref C) "__init__" = some (some (.ref f))
 fn:W.isFn K (.ref f)=true
 kp:W.keepIn K (.ref C)=true
end
section
variable {X:Cx}{CX:gI}{k:Nat}{f C:Addr}{fd:FuncData}{ps ks:List Str}{sp:Sp}{E:XK}{x m:Str}{p pos apos kpos:Pos}{e o:Expr}{es:List Expr}{kws:List Keyword}{te ta:TE}{t tk:TA}{nm:Option Str}
structure KBinds(K:W.Frag)(fd:FuncData)(ps ks:List Str)(g:List Value->List Value->List Value)(gV:List V->List V->List V):Prop where
 to:∀(s:Shared) (us ws:List Value),K.In s.heap->(g us ws).length=ps.length->BindsTo s fd ⟨us,ks.zip ws⟩ (ps.zip (g us ws))
 rel:∀{vs:List V} {us:List Value} {zs:List V} {ws:List Value},au vs us->au zs ws->au (gV vs zs) (g us ws)
variable {g:List Value->List Value->List Value}{gV:List V->List V->List V}
end
structure y47(N P:List Str)(sc:Scope):Prop where
 kind:sc.kind=.function
 co:sc.isCoroutine=false
 gen:sc.isGenerator=false
 nd:N.Nodup
 pre:N.take P.length=P
 par:∀x∈P,sc.names.lookup x=some .local∨sc.names.lookup x=some .cell
 y237:∀y∈sc.names,y.2≠.free
theorem y8f{kindOf:Str->Option NameKind}{x:Str}:∀{binds:List (Str×Value)} {m:Str->Option Value},(∀v,(x,v)∉binds)->bindL kindOf binds m x=m x
 | [],_,_=>rfl
 | (n,v)::r,m,h=>by
  unfold bindL
  rw [y8f λw hw=>h w (z23 _ hw)]
  split
  ·have:x≠n:=by rintro rfl;exact h v List.mem_cons_self
   simp [this]
  ·rfl
theorem y8d{kindOf:Str->Option NameKind}{x:Str}:∀{binds:List (Str×Value)} {m:Str->Option Value},(∀v,(x,v)∉binds)->bindC kindOf binds m x=m x
 | [],_,_=>rfl
 | (n,v)::r,m,h=>by
  unfold bindC
  rw [y8d λw hw=>h w (z23 _ hw)]
  split
  ·rfl
  ·have:x≠n:=by rintro rfl;exact h v List.mem_cons_self
   simp [this]
theorem y8e{kindOf:Str->Option NameKind}{x:Str}{v:Value}:∀{P:List Str} {vs:List Value} {i:Nat} {m:Str->Option Value},P.Nodup->P[i]?=some x->vs[i]?=some v->kindOf x=some .local ->
  bindL kindOf (P.zip vs) m x=some v
 | [],_,_,_,_,h,_,_=>by simp at h
 | _::_,[],_,_,_,_,h,_=>by simp at h
 | p::P,w::vs,0,m,nd,h1,h2,hk=>by
  simp at h1 h2;subst h1;subst h2
  show bindL kindOf ((p,w)::P.zip vs) m p=_
  unfold bindL
  rw [y8f λv hv=>(List.nodup_cons.mp nd).1 (List.of_mem_zip hv).1,if_pos hk]
  simp
 | p::P,w::vs,i+1,m,nd,h1,h2,hk=>by
  show bindL kindOf ((p,w)::P.zip vs) m x=_
  unfold bindL
  exact y8e (i:=i) (List.nodup_cons.mp nd).2 (by simpa using h1) (by simpa using h2) hk
theorem y8c{kindOf:Str->Option NameKind}{x:Str}{v:Value}:∀{P:List Str} {vs:List Value} {i:Nat} {m:Str->Option Value},P.Nodup->P[i]?=some x->vs[i]?=some v->kindOf x≠some .local ->
  bindC kindOf (P.zip vs) m x=some v
 | [],_,_,_,_,h,_,_=>by simp at h
 | _::_,[],_,_,_,_,h,_=>by simp at h
 | p::P,w::vs,0,m,nd,h1,h2,hk=>by
  simp at h1 h2;subst h1;subst h2
  show bindC kindOf ((p,w)::P.zip vs) m p=_
  unfold bindC
  rw [y8d λv hv=>(List.nodup_cons.mp nd).1 (List.of_mem_zip hv).1,if_neg hk]
  simp
 | p::P,w::vs,i+1,m,nd,h1,h2,hk=>by
  show bindC kindOf ((p,w)::P.zip vs) m x=_
  unfold bindC
  exact y8c (i:=i) (List.nodup_cons.mp nd).2 (by simpa using h1) (by simpa using h2) hk
abbrev start(N:List Str)(vs:List V):St:=vs.map some++List.replicate (N.length-vs.length) none
noncomputable def fu(CX:gI)(P:Program)(w:World)(K:W.Frag)(mg:Str->Option Value)(base:Heap)(N:List Str)(qual:Str)(scope:Scope)(f:Addr)(cd:Value)(A:Around)(outer:List Env)(s:Shared)(H:Hp)(E:XK):Cx where
 prog:=P
 w:=w
 K:=K
 mg:=mg
 base:=base
 A:=A.deeper (envOfC qual scope s.heap.objs.size f cd)
 N:=N
 s₀:=s
 H₀:=H
 env:=envOfC qual scope s.heap.objs.size f cd
 outer:=outer
 stack:=envOfC qual scope s.heap.objs.size f cd::outer
 ex:=[]
 calm:=true
 fn:=λ_=>true
 pn:=[]
 xe:=λe s'=>wpAny (model P w) (A.deeper (envOfC qual scope s.heap.objs.size f cd)) (leaving (envOfC qual scope s.heap.objs.size f cd) e) (λ_ s''=>CX outer H s E e s'') (λe' s''=>CX outer H s E e' s'') s'
def yb7{sc:Scope}{n:Nat}{x:Str}(h:sc.names.lookup x=some .cell):∃c,(cellsFrom n sc.names []).lookup x=some c:=by
 have q:=W.cellsFrom_some sc.names n [] (.inl h)
 exact Option.isSome_iff_exists.mp q
def AE{CX:gI}{P:Program}{w:World}{K:W.Frag}{mg:Str->Option Value}{base:Heap}{N ps:List Str}{qual:Str}{scope:Scope}{f:Addr}{cd:Value}{A:Around}{outer:List Env}{s s1:Shared}{H:Hp}{E:XK}{us:List Value}{vs:List V}
  (S:y47 N ps scope) (hd:A.handled=none) (e0:y11 P w K mg base A outer s H) (hl:vs.length=ps.length) (r:au vs us)
  (x:InCallC s s.heap.objs.size (bindL (envOfC qual scope s.heap.objs.size f cd).kindOf (ps.zip us) λ_=>none) (cellsFrom (s.heap.objs.size+1) scope.names []) (bindC (envOfC qual scope s.heap.objs.size f cd).kindOf (ps.zip us) λ_=>none) s1) :
  Inv (fu CX P w K mg base N qual scope f cd A outer s H E) [] (start N vs) H s1:=by
 have hpl:ps.length≤N.length:=by have:=congrArg List.length S.pre;rw [z2d] at this;lia
 obtain⟨h1,tk,rfl,hk⟩:=x.done
 have noA:∀b:Addr,b∉(fu CX P w K mg base N qual scope f cd A outer s H E).ex:=λb z=>absurd (show b∈([]:List Addr) from z) (by simp)
 refine⟨⟨e0.mod,S.kind,rfl,rfl,zf _,λy z c h1 h2=>?_,λy hy=>?_,λy c _ h=>?_,λ_=>hd,Around.frames_deeper e0.frames,.inr ⟨rfl,rfl⟩,λb z=>absurd z (noA b),e0.bs,e0.bsz,λb _ _=>noA b,λb z=>absurd z (noA b),e0.y152,e0.frf⟩,
  rfl,e0.bare,Un.kept hk,⟨_,x.toInCall.ns,λi y v h1 h2 h3=>?_⟩,λy c h=>⟨_,x.cell y c h⟩,e0.hok.fresh (zf _),λy c h=>?_,λp hp=>absurd (show p∈([]:List (Addr×Obj)) from hp) (by simp),e0.hok.kept hk,?_⟩
 ·exact name_of_addr x.apart (PySem.mem_of_lookup h1) (PySem.mem_of_lookup h2)
 ·have hy:scope.names.lookup y=some .cell∨scope.names.lookup y=some .free:=hy
  rcases hy with hy|hy
  ·exact yb7 hy
  ·exact absurd rfl (S.y237 _ (PySem.mem_of_lookup hy))
 ·exact Nat.le_of_lt (x.above y c (PySem.mem_of_lookup h))
 ·have hi:i<vs.length:=by
   unfold start at h2
   by_cases hi:i<vs.length
   ·exact hi
   ·rw [z18 (by simpa using hi)] at h2
    rw [List.getElem?_replicate] at h2
    split at h2<;>cases h2
  have ha:vs[i]?=some v:=by
   unfold start at h2
   rw [z1a (by simpa using hi),List.getElem?_map] at h2
   cases e:vs[i]? with
   | none=>rw [e] at h2;cases h2
   | some a=>rw [e] at h2;cases h2;rfl
  obtain⟨u,hu,rv⟩:=r.get ha
  have hp:ps[i]?=some y:=by
   rw [<- S.pre,List.getElem?_take_of_lt (by lia)];exact h1
  have ndP:ps.Nodup:=by rw [<- S.pre];exact S.nd.sublist (List.take_sublist _ _)
  refine⟨u,rv,?_⟩
  rcases S.par y (z31 hp) with k|k
  ·exact .inl ⟨k,y8e ndP hp hu k⟩
  ·obtain⟨c,e⟩:=yb7 (n:=s.heap.objs.size+1) k
   refine .inr ⟨.inl k,c,e,?_⟩
   have q:=x.cell y c e
   rw [y8c ndP hp hu (by show scope.names.lookup y≠_;rw [k];decide)] at q
   exact q
 ·exact e0.hok.fresh (Nat.le_of_lt (x.above y c (PySem.mem_of_lookup h)))
 ·unfold start
  show _=N.length
  rw [za,z12,List.length_replicate]
  lia
def qZ{CX:gI}{P:Program}{w:World}{K:W.Frag}{mg:Str->Option Value}{base:Heap}{k:Nat}{f:Addr}{name qual:Str}{params:Arguments}{body:List Stmt}{scope:Scope}{dV kV doc pm cdv ct oc:Value}{an od:Option Addr}
  {osl:Array (Option Value)} {N ps:List Str} {sp:Sp} (lk:K.lookup f=some ⟨oc,od,.func (W.fnOf name qual params body scope dV kV doc pm an cdv ct),osl⟩) (hcd:W.codeIn K cdv qual=true) (S:y47 N ps scope)
  (len:∀vs H Q E,sp vs H Q E->vs.length=ps.length)
  (y188:∀(A:Around) (outer:List Env) (s:Shared) (H:Hp) (vs:List V) (Q:VK) (E:XK),y55 k (A.deeper (envOfC qual scope s.heap.objs.size f cdv))->sp vs H Q E ->
   ∃t,dS (fu CX P w K mg base N qual scope f cdv A outer s H E) body t/\t { nx:=λ_ H'=>Q .non H',rt:=Q } (start N vs) H) :
  y46 P w K mg base CX (k+1) f (W.fnOf name qual params body scope dV kV doc pm an cdv ct) ps sp:=by
 refine⟨len,λA outer s H args us vs Q E hr e0 hb r hsp=>?_⟩
 have hl:=len _ _ _ _ hsp
 have KX:K.In s.heap:=e0.mod.kin.keeps λb o e=>(e0.bs b o e).1
 have lim:s.heap.NoLimit:=e0.mod.nolimit.keeps λb o e=>(e0.bs b o e).1
 have hkind:∀y∈ps.zip us,scope.names.lookup y.1=some .local∨(scope.names.lookup y.1=some .cell/\((cellsFrom (s.heap.objs.size+1) scope.names []).lookup y.1).isSome=true):=λzz hy=>by
  obtain⟨n,v⟩:=zz
  rcases S.par n (List.of_mem_zip hy).1 with q|q
  ·exact .inl q
  ·exact .inr ⟨q,W.cellsFrom_some _ _ _ (.inl q)⟩
 refine codeAny_call_function hr.depth (KX _ _ lk) rfl S.co S.gen rfl (W.codeRec_of KX hcd) (hb _ _ _ _ ?_)
 refine wpAny_newFunctionEnv_cells S.kind hkind λenv he s1 x=>?_
 subst he
 refine⟨lim.keeps x.toInCall.keep,codeAny_func ?_⟩
 obtain⟨t,ht,hq⟩:=y188 A outer s H vs Q E (hr.deeper _) hsp
 have I:Inv (fu CX P w K mg base N qual scope f cdv A outer s H E) [] (start N vs) H s1:=AE S hr.hd e0 hl r x
 refine wpAny_mono (ht [] s1 (start N vs) H _ I hq) (λfl s' hs=>?_) λe s' hs=>hs
 have fin:∀{σ':St} {H':Hp} {v:V} {u:Value},Inv (fu CX P w K mg base N qual scope f cdv A outer s H E) [] σ' H' s'->aA v u->Q v H'->CE outer P w H s Q u s' :=
  λ{σ' H' v u} J rv q=>⟨v,H',J.os,J.bare,J.base,J.hok,rv,q⟩
 cases fl with
 | ret u =>
  obtain⟨v,σ',H',J,rv,q⟩:=hs
  exact fin J rv q
 | next =>
  obtain⟨σ',H',J,q⟩:=hs
  exact fin (v:=V.non) (u:=Value.none) J rfl q
 | brk =>
  obtain⟨_,_,_,q⟩:=hs
  exact False.elim q
 | cont =>
  obtain⟨_,_,_,q⟩:=hs
  exact False.elim q
end
section
section
variable {X:Cx}{x:Str}{p pos:Pos}{e:Expr}{es:List Expr}{t:TA}{id T:String}{r:List V->Hp->VK->Prop}
abbrev AF(r:List V->Hp->VK->Prop)(t:TA):TE:=λσ H Q=>t σ H λvs H1=>r vs H1 Q
def jo(hc:y6 X (.builtin id) r)(hg:Gl X x)(hm:X.mg x=none)(hv:bootBuiltins x=some (.builtin id))(ha:PA X (e::es) t)(hn:x≠"__name__":=by decide)(hdb:(x == ("__debug__" : Str))=false:=by decide)
  (he:‹gJ X e es›) (hpl:‹gC X pos es›):PE X (.Call (.Name x p) (e::es) [] pos) (AF r t):=by
 intro pins s σ H Q I h
 refine wpAny_Call_Name_kw (iz I hg hm hv ?_ hn hdb)
 exact PyProof.Rows.callWith_builtin1 (aJ (ha pos pins s σ H _ I h) λus s1 ⟨vs,H1,I1,r1,q1⟩=>hc pins s1 σ H1 vs us Q I1 r1 q1) he hpl
def nL(hc:y6 X (.type T) r)(hg:Gl X x)(hm:X.mg x=none)(hv:bootBuiltins x=some (.type T))(ha:PA X (e::es) t)(hn:x≠"__name__":=by decide)(hdb:(x == ("__debug__" : Str))=false:=by decide)
  (he:‹gJ X e es›) (hpl:‹gC X pos es›):PE X (.Call (.Name x p) (e::es) [] pos) (AF r t):=by
 intro pins s σ H Q I h
 refine wpAny_Call_Name_kw (iz I hg hm hv ?_ hn hdb)
 exact PyProof.Rows.callWith_type1 (aJ (ha pos pins s σ H _ I h) λus s1 ⟨vs,H1,I1,r1,q1⟩=>hc pins s1 σ H1 vs us Q I1 r1 q1) he hpl
end
end
section
section
variable {κ:Type}[DecidableEq κ]
abbrev dg(kvs:List (κ×V))(k:κ):Option V:=(kvs.find? λkv=>decide (kv.1=k)).map (·.2)
abbrev cq(kvs:List (κ×V))(k:κ)(v:V):List (κ×V) :=
 if (kvs.any λkv=>decide (kv.1=k))=true then kvs.map (λkv=>if kv.1=k then (kv.1,v) else kv) else kvs++[(k,v)]
def kT{p:κ×V}{r:List (κ×V)}{k:κ}(e:p.1=k):dg (p::r) k=some p.2:=by simp [dg,List.find?_cons,e]
def kU{p:κ×V}{r:List (κ×V)}{k:κ}(e:¬ p.1=k):dg (p::r) k=dg r k:=by simp [dg,List.find?_cons,e]
theorem q5(k:κ):∀kvs:List (κ×V),(kvs.any λkv=>decide (kv.1=k))=(dg kvs k).isSome
 | []=>rfl
 | p::r=>by
  rw [List.any_cons]
  by_cases e:p.1=k
  ·simp only [kT e,decide_eq_true e,Bool.true_or,Option.isSome_some]
  ·rw [kU e,decide_eq_false e,Bool.false_or];exact q5 k r
def nM(kvs:List (κ×V))(k:κ)(v:V):(cq kvs k v).length≤kvs.length+1:=by
 unfold cq
 split
 ·rw [z12];lia
 ·rw [za,z10,List.length_nil];lia
def ib.y1b1{o:Option V}{u:Option Value}(r:ib o u):o.isSome=u.isSome:=by
 cases o with
 | none=>cases u with
  | none=>rfl
  | some _=>exact (show False from r).elim
 | some _=>cases u with
  | none=>exact (show False from r).elim
  | some _=>rfl
def KV.val{kvs:List (κ×V)}{vs:List (κ×Value)}(r:KV kvs vs)(k:κ):ib (dg kvs k) (valueAt vs k):=by
 unfold KV at r
 induction r with
 | nil=>exact True.intro
 | @cons p q ps qs h t ih =>
  obtain⟨h1,h2⟩:=h
  by_cases e:p.1=k
  ·have e':q.1=k:=h1.symm.trans e
   have b:valueAt (q::qs) k=some q.2:=by simp [valueAt,List.find?_cons,e']
   rw [kT e,b];exact h2
  ·have e':¬ q.1=k:=λz=>e (h1.trans z)
   have b:valueAt (q::qs) k=valueAt qs k:=by simp [valueAt,List.find?_cons,e']
   rw [kU e,b];exact ih
theorem KV.any{kvs:List (κ×V)}{vs:List (κ×Value)}(r:KV kvs vs)(k:κ):(kvs.any λkv=>decide (kv.1=k))=vs.any λkv=>decide (kv.1=k):=by
 unfold KV at r
 induction r with
 | nil=>rfl
 | cons h t ih=>rw [List.any_cons,List.any_cons,ih,h.1]
def KV.repl{kvs:List (κ×V)}{vs:List (κ×Value)}(r:KV kvs vs)(k:κ){y:V}{u:Value}(ry:aA y u) :
  KV (kvs.map λkv=>if kv.1=k then (kv.1,y) else kv) (vs.map λkv=>if kv.1=k then (kv.1,u) else kv):=by
 unfold KV at r ⊢
 induction r with
 | nil=>exact .nil
 | @cons p q ps qs h t ih =>
  rw [z16,z16]
  refine .cons ?_ ih
  obtain⟨h1,h2⟩:=h
  by_cases e:p.1=k
  ·rw [if_pos e,if_pos (h1.symm.trans e)];exact⟨h1,ry⟩
  ·rw [if_neg e,if_neg (λz=>e (h1.trans z))];exact⟨h1,h2⟩
def KV.put{kvs:List (κ×V)}{vs:List (κ×Value)}(r:KV kvs vs)(k:κ){y:V}{u:Value}(ry:aA y u):KV (cq kvs k y) (stored vs k u):=by
 unfold cq stored
 rw [r.any k]
 by_cases e:(vs.any λkv=>decide (kv.1=k))=true
 ·rw [if_pos e,if_pos e];exact r.repl k ry
 ·rw [if_neg e,if_neg e];exact Paired.snoc r ⟨rfl,ry⟩
theorem KV.length{kvs:List (κ×V)}{vs:List (κ×Value)}(r:KV kvs vs):kvs.length=vs.length:=Paired.length r
end
def iE{P:Program}{w:World}{k:aK}{u:Value}(r:aA (kV k) u):(cR P w).is k u=true:=by
 cases k with
 | inl i=>obtain⟨t,e⟩:=(show ∃t,u=Value.int i t from r);subst e;exact zK P w i t
 | inr x=>obtain⟨t,e⟩:=(show ∃t,u=Value.str x t from r);subst e;exact zL P w x t
theorem rf{P:Program}{w:World}:∀{ks:List aK} {us:List Value},au (ks.map kV) us->ItemsAre (cR P w) ks us
 | [],_,r=>by rw [List.map_nil] at r;cases r;exact .nil
 | k::ks,_,r=>by
  rw [z16] at r
  cases r with
  | cons h t=>exact .cons (iE h) (rf t)
noncomputable abbrev KT(H:Hp):List (List aK×V)->List (List aK×Addr×Value)->Prop:=Paired λp q=>p.1=q.1/\H q.2.1=some (.tup (p.1.map kV))/\aA p.2 q.2.2
def KT.val{H:Hp}{kvs:List (List aK×V)}{xs:List (List aK×Addr×Value)}(r:KT H kvs xs)(k:List aK):ib (dg kvs k) ((atKey xs k).map (·.2)):=by
 induction r with
 | nil=>exact True.intro
 | @cons p q ps qs h t ih =>
  obtain⟨h1,_,h2⟩:=h
  by_cases e:p.1=k
  ·have e':q.1=k:=h1.symm.trans e
   have b:atKey (q::qs) k=some q.2:=by simp [atKey,List.find?_cons,e']
   rw [kT e,b];exact h2
  ·have e':¬ q.1=k:=λz=>e (h1.trans z)
   have b:atKey (q::qs) k=atKey qs k:=by simp [atKey,List.find?_cons,e']
   rw [kU e,b];exact ih
def KT.repl{H:Hp}{kvs:List (List aK×V)}{xs:List (List aK×Addr×Value)}(r:KT H kvs xs)(k:List aK){y:V}{u:Value}(ry:aA y u) :
  KT H (kvs.map λkv=>if kv.1=k then (kv.1,y) else kv) (xs.map (putAt k u)):=by
 induction r with
 | nil=>exact .nil
 | @cons p q ps qs h t ih =>
  rw [z16,z16]
  refine .cons ?_ ih
  obtain⟨h1,h2,h3⟩:=h
  unfold putAt
  by_cases e:p.1=k
  ·rw [if_pos e,if_pos (h1.symm.trans e)];exact⟨h1,h2,ry⟩
  ·rw [if_neg e,if_neg (λz=>e (h1.trans z))];exact⟨h1,h2,h3⟩
def KT.put{H:Hp}{kvs:List (List aK×V)}{xs:List (List aK×Addr×Value)}(r:KT H kvs xs)(k:List aK){b:Addr}{y:V}{u:Value}(hb:H b=some (.tup (k.map kV)))(ry:aA y u) :
  KT H (cq kvs k y) (storedH xs k b u):=by
 have e:(kvs.any λkv=>decide (kv.1=k))=(atKey xs k).isSome:=by
  rw [q5,(r.val k).y1b1,Option.isSome_map]
 unfold cq storedH
 rw [e]
 by_cases q:(atKey xs k).isSome=true
 ·rw [if_pos q,if_pos q];exact r.repl k ry
 ·rw [if_neg q,if_neg q];exact Paired.snoc r ⟨rfl,hb,ry⟩
def KT.keeps{H H':Hp}{kvs:List (List aK×V)}{xs:List (List aK×Addr×Value)}(r:KT H kvs xs)(ht:∀b ys,H b=some (.tup ys)->H' b=some (.tup ys)):KT H' kvs xs :=
 Paired.mapP r λ_ _ z=>⟨z.1,ht _ _ z.2.1,z.2.2⟩
section
variable {P:Program}{w:World}{H:Hp}{h:Heap}{a:Addr}
def rg{u:HO}(ok:cP P w H h)(e:Rd H a u):dR P w H h a u:=e.ok ok
def iF{kvs:List (aK×V)}(ok:cP P w H h)(e:Rd H a (.dK kvs)):kvs.length≤sizeLine/\(a == sysModules)=false/\∃vs,KV kvs vs/\h.DictOf (cR P w) a vs :=
 show dR P w H h a (.dK kvs) from rg ok e
def yff{kvs:List (aK×V)}(ok:cP P w H h)(e:H a=some (.dK kvs)):kvs.length≤sizeLine/\(a == sysModules)=false/\∃vs,KV kvs vs/\h.DictOf (cR P w) a vs:=iF ok (.inl e)
def jq{ks:List aK}(ok:cP P w H h)(e:H a=some (.tup (ks.map kV))):(tupleKind (cR P w)).is h ks a:=by
 obtain⟨_,its,r,o,h1,h2,_,n,h3⟩:=(show dR P w H h a (.tup (ks.map kV)) from ok a _ e)
 exact⟨o,its.toArray,n,h1,h2,h3,by simpa using rf r⟩
def jr{kvs:List (List aK×V)}(ok:cP P w H h)(e:Rd H a (.dT kvs)):kvs.length≤sizeLine/\(a == sysModules)=false /\
  ∃xs,KT H kvs xs/\h.DictOfH (tupleKind (cR P w)) a xs:=by
 obtain⟨z,y,xs,r,o,es,ep,h1,h2,h3,h4,h5⟩:=(show dR P w H h a (.dT kvs) from rg ok e)
 refine⟨z,y,xs,r,o,es,ep,h1,h2,h3,h4,λx hx=>?_,h5⟩
 have all:∀{l:List (List aK×V)} {m:List (List aK×Addr×Value)},KT H l m->∀x∈m,(tupleKind (cR P w)).is h x.1 x.2.1:=by
  intro l m q
  induction q with
  | nil=>intro x hx;exact nomatch hx
  | @cons p q ps qs hq t ih =>
   intro x hx
   rcases z1d.mp hx with e|hx
   ·subst e
    exact jq ok (by rw [<- hq.1];exact hq.2.1)
   ·exact ih x hx
 exact all r x hx
def rh{kvs:List (List aK×V)}(ok:cP P w H h)(e:H a=some (.dT kvs)):kvs.length≤sizeLine/\(a == sysModules)=false /\
  ∃xs,KT H kvs xs/\h.DictOfH (tupleKind (cR P w)) a xs:=jr ok (.inl e)
end
abbrev yd(H:Hp)(a:Addr)(y:V)(r:Option V):Prop :=
 (∃kvs k,Rd H a (.dK kvs)/\y=kV k/\r=dg kvs k)∨∃kvs k b,Rd H a (.dT kvs)/\y=.ref b/\H b=some (.tup (k.map kV))/\r=dg kvs k
abbrev ye(H:Hp)(a:Addr)(y v:V)(H':Hp):Prop :=
 (∃kvs k,H a=some (.dK kvs)/\y=kV k/\kvs.length<sizeLine/\H'=aC H a (.dK (cq kvs k v))) ∨
 ∃kvs k b,H a=some (.dT kvs)/\y=.ref b/\H b=some (.tup (k.map kV))/\kvs.length<sizeLine/\H'=aC H a (.dT (cq kvs k v))
theorem yd.k{H:Hp}{a:Addr}{kvs:List (aK×V)}{k:aK}(e:H a=some (.dK kvs)):yd H a (kV k) (dg kvs k):=.inl ⟨kvs,k,.inl e,rfl,rfl⟩
def yd.t{H:Hp}{a b:Addr}{kvs:List (List aK×V)}{k:List aK}(e:H a=some (.dT kvs))(eb:H b=some (.tup (k.map kV))):yd H a (.ref b) (dg kvs k):=.inr ⟨kvs,k,b,.inl e,rfl,eb,rfl⟩
theorem ye.k{H:Hp}{a:Addr}{kvs:List (aK×V)}{k:aK}{v:V}(e:H a=some (.dK kvs))(hl:kvs.length<sizeLine):ye H a (kV k) v (aC H a (.dK (cq kvs k v))):=.inl ⟨kvs,k,e,rfl,hl,rfl⟩
def ye.t{H:Hp}{a b:Addr}{kvs:List (List aK×V)}{k:List aK}{v:V}(e:H a=some (.dT kvs))(eb:H b=some (.tup (k.map kV)))(hl:kvs.length<sizeLine) :
  ye H a (.ref b) v (aC H a (.dT (cq kvs k v))):=.inr ⟨kvs,k,b,e,rfl,eb,hl,rfl⟩
section
variable {X:Cx}{pins:List (Addr×Obj)}{σ:St}{H:Hp}{s:Shared}{a:Addr}{y v:V}{u r:Value}{o:Option V}{A:Around}{E:Value->Shared->Prop}
def Inv.big(I:Inv X pins σ H s):sysModules<s.heap.objs.size:=by
 have h:mainGlobals<s.heap.objs.size:=(I.mod.glob.keeps I.bk).lt
 exact Nat.lt_trans (by decide) h
def ydf{Q:Value->Shared->Prop}(hu:A.units+1<cLine)(I:Inv X pins σ H s)(g:yd H a y (some v))(ry:aA y u)(h:∀w' s',Inv X pins σ H s'->aA v w'->Q w' s') :
  wpAny (model X.prog X.w) A (getItem (.ref a) u) Q E s:=by
 rcases g with⟨kvs,k,e,ey,l⟩| ⟨kvs,k,b,e,ey,eb,l⟩
 ·subst ey
  obtain⟨z,hd,vs,rel,dd⟩:=iF I.hok e
  obtain⟨w',hw,rw'⟩:=ib.some_of (v:=v) (o:=valueAt vs k) (by rw [l];exact rel.val k)
  exact wpAny_getItem_of (iE ry) dd.mapOf hw (h w' _ (I.tok _) rw')
 ·subst ey
  cases (show u=Value.ref b from ry)
  obtain⟨z,hd,xs,rel,dd⟩:=jr I.hok e
  obtain⟨w',hw,rw'⟩:=ib.some_of (v:=v) (o:=(atKey xs k).map (·.2)) (by rw [l];exact rel.val k)
  obtain⟨p,hp,hp2⟩:=Option.map_eq_some_iff.mp hw
  refine wpAny_getItem_heap (tupleKind_room_in1 hu) (jq I.hok eb) dd hp ?_
  rw [hp2]
  exact h w' _ (I.tok _) rw'
def AG{Q:Value->Shared->Prop}(hu:A.units+1<cLine)(I:Inv X pins σ H s)(g:yd H a y o)(ry:aA y u)(h:∀s',Inv X pins σ H s'->Q (.bool o.isSome) s') :
  wpAny (model X.prog X.w) A (compareOp .In u (.ref a)) Q E s:=by
 rcases g with⟨kvs,k,e,ey,l⟩| ⟨kvs,k,b,e,ey,eb,l⟩
 ·subst ey
  obtain⟨z,hd,vs,rel,dd⟩:=iF I.hok e
  refine wpAny_in_of (iE ry) hd dd.mapOf ?_
  rw [<- (rel.val k).y1b1,<- l]
  exact h _ (I.tok _)
 ·subst ey
  cases (show u=Value.ref b from ry)
  obtain⟨z,hd,xs,rel,dd⟩:=jr I.hok e
  refine wpAny_in_heap (tupleKind_room_in1 hu) (jq I.hok eb) hd dd ?_
  have q:=(rel.val k).y1b1
  rw [Option.isSome_map] at q
  rw [<- q,<- l]
  exact h _ (I.tok _)
def ye0{Q:Value->Shared->Prop}(hu:A.units+1<cLine)(I:Inv X pins σ H s)(g:yd H a y o)(ry:aA y u)(h:∀s',Inv X pins σ H s'->Q (.bool (!o.isSome)) s') :
  wpAny (model X.prog X.w) A (compareOp .NotIn u (.ref a)) Q E s:=by
 rcases g with⟨kvs,k,e,ey,l⟩| ⟨kvs,k,b,e,ey,eb,l⟩
 ·subst ey
  obtain⟨z,hd,vs,rel,dd⟩:=iF I.hok e
  refine wpAny_notIn_of (iE ry) hd dd.mapOf ?_
  rw [<- (rel.val k).y1b1,<- l]
  exact h _ (I.tok _)
 ·subst ey
  cases (show u=Value.ref b from ry)
  obtain⟨z,hd,xs,rel,dd⟩:=jr I.hok e
  refine wpAny_notIn_heap (tupleKind_room_in1 hu) (jq I.hok eb) hd dd ?_
  have q:=(rel.val k).y1b1
  rw [Option.isSome_map] at q
  rw [<- q,<- l]
  exact h _ (I.tok _)
def AH{h':Heap}{t':Nat}{ob:HO}(I:Inv X pins σ H s)(mu:qh (H a))(hs:Heap.SameBut a s.heap h')(he:∃q,h'.get? a=some q)(new:dR X.prog X.w (aC H a ob) h' a ob) :
  Inv X pins σ (aC H a ob) { s with heap:=h',toks:=t' } :=
 I.write (x:=a) (e:=a) mu (.inl rfl) (λb q hb z=>(hs.2 b hb).trans z) he new
def yfe{P:Program}{w:World}{H':Hp}{h':Heap}{kvs:List (aK×V)}{vs:List (aK×Value)}(z:kvs.length≤sizeLine)(hd:(a == sysModules)=false)(rel:KV kvs vs)(dd:h'.DictOf (cR P w) a vs) :
  dR P w H' h' a (.dK kvs):=⟨z,hd,vs,rel,dd⟩
def ye1{H':Hp}{Q:Unit->Shared->Prop}(hu:A.units+1<cLine)(I:Inv X pins σ H s)(g:ye H a y v H')(ry:aA y u)(rv:aA v r)(h:∀s',Inv X pins σ H' s'->Q () s') :
  wpAny (model X.prog X.w) A (setItem (.ref a) u r) Q E s:=by
 rcases g with⟨kvs,k,e,ey,l,eH⟩| ⟨kvs,k,b,e,ey,eb,l,eH⟩
 ·subst ey eH
  obtain⟨z,hd,vs,rel,dd⟩:=yff I.hok e
  have hz:vs.length≤sizeLine:=by rw [<- rel.length];exact z
  have hl:(cq kvs k v).length≤sizeLine:=by have:=nM kvs k v;lia
  refine wpAny_setItem_pairs (hsz:=hz) (iE ry) dd λh' dd' hs=>h _ ?_
  have he:∃q,h'.get? a=some q:=let ⟨q,_,_,hq,_⟩:=dd';⟨q,hq⟩
  exact AH I (by rw [e];exact True.intro) hs he (yfe hl hd (rel.put k rv) dd')
 ·subst ey eH
  cases (show u=Value.ref b from ry)
  obtain⟨z,hd,xs,rel,dd⟩:=rh I.hok e
  have hz:xs.length≤sizeLine:=by rw [<- Paired.length rel];exact z
  have hl:(cq kvs k v).length≤sizeLine:=by have:=nM kvs k v;lia
  refine wpAny_setItem_heap (hsz:=hz) (tupleKind_room_in1 hu) (jq I.hok eb) dd λh' dd' hs=>h _ ?_
  obtain⟨q,es,ep,hq,h2,h3,h4,_,h5⟩:=dd'
  refine AH I (by rw [e];exact True.intro) hs ⟨q,hq⟩ ⟨hl,hd,_,(rel.put k eb rv).keeps λc ys ec=>?_,q,es,ep,hq,h2,h3,h4,h5⟩
  rw [aM (m9 ec e (λz=>nomatch z))]
  exact ec
end
section
variable {X:Cx}{pins:List (Addr×Obj)}{σ:St}{H:Hp}{s:Shared}{a:Addr}{kvs:List (aK×V)}{k:aK}{u:Value}{A:Around}{E:Value->Shared->Prop}
def rj{Q:Value->Shared->Prop}(I:Inv X pins σ H s)(e:Rd H a (.dK kvs))(h:∀t s',Inv X pins σ H s'->Q (.int kvs.length t) s'):wpAny (model X.prog X.w) A (call (.builtin "len") [.ref a]) Q E s:=by
 obtain⟨z,hd,vs,rel,dd⟩:=iF I.hok e
 refine call_len_dict hd dd (by rw [<- rel.length];rw [sizeLine_eq] at z;lia) ?_
 rw [<- rel.length]
 exact h _ _ (I.tok _)
end
abbrev rl(i:Expr):Prop:=∀ov iv,subscripted i false ov iv=operate [ov,iv] (getItem ov iv)
def AI{prog:Program}{w:World}{A:Around}{E:Value->Shared->Prop}{s:Shared}{env:Env}{value slice:Expr}{pos:Pos}{T id:String}{Q:Value->Shared->Prop}
  (hl:typeLookup (.type T) "__getitem__" = pure (some (.builtin id))) (hs:rl slice)
  (h:wpAny (model prog w) A (eval value env) (λo s₁=>wpAny (model prog w) A (eval slice env) (λi s₂=>s₂.TypeIs o T/\wpAny (model prog w) A (getItem o i) Q E s₂) E s₁) E s) :
  wpAny (model prog w) A (eval (.Subscript value slice pos) env) Q E s:=by
 refine Subscript_ (wpAny_mono h (λo s₁ h₁=>wpAny_mono h₁ (λi s₂ h₂=>?_) λ_ _ x=>x) λ_ _ x=>x)
 obtain⟨hT,h₂⟩:=h₂
 unfold subscriptTail
 refine zb ?_
 rw [getitemInPython_of_ne hT.not_modules]
 refine zb (wpAny_specialOf hT hl ?_)
 have fin:wpAny (model prog w) A (subscripted slice false o i) (λr s₃=>wpAny (model prog w) A (letTemporaryGo value o r >>= λ_=>pure r) Q E s₃) E s₂:=by
  rw [hs o i]
  exact wpAny_operating (wpAny_mono h₂ (λr s₃ h₃=>zb (wpAny_letTemporaryGo (ze h₃))) λ_ _ x=>x)
 first
  | exact ze (zb fin)
  | exact zb (ze (zb fin))
  | exact zb fin
def yfc{X:Cx}{pins:List (Addr×Obj)}{σ:St}{H:Hp}{s:Shared}{a:Addr}{y:V}{o:Option V}(I:Inv X pins σ H s)(g:yd H a y o):s.TypeIs (.ref a) "dict":=by
 rcases g with⟨kvs,k,e,_,_⟩| ⟨kvs,k,b,e,_,_,_⟩
 ·obtain⟨_,_,vs,_,dd⟩:=iF I.hok e
  exact dd.typeIs
 ·obtain⟨_,_,xs,_,dd⟩:=jr I.hok e
  exact dd.typeIs
abbrev rq(td ty:TE):TE:=λσ H Q=>td σ H λx H1=>ty σ H1 λy H2=>∃a v,x=.ref a/\yd H2 a y (some v)/\Q v H2
abbrev AJ(ty td:TE):TE:=λσ H Q=>ty σ H λy H1=>td σ H1 λx H2=>∃a o,x=.ref a/\yd H2 a y o/\Q (.bl o.isSome) H2
abbrev AK(ty td:TE):TE:=λσ H Q=>ty σ H λy H1=>td σ H1 λx H2=>∃a o,x=.ref a/\yd H2 a y o/\Q (.bl (!o.isSome)) H2
abbrev rz(td ty tv:TE):TS:=λD σ H=>tv σ H λv H1=>td σ H1 λx H2=>ty σ H2 λy H3=>∃a H4,x=.ref a/\ye H3 a y v H4/\D.nx σ H4
section
variable {X:Cx}{o i e value:Expr}{pos pos' tpos:Pos}{td ty tv:TE}
def AL(hu:X.A.units+1<cLine)(ho:PE X o td)(hi:PE X i ty)(hs:rl i):PE X (.Subscript o i pos) (rq td ty):=by
 intro pins s σ H Q I h
 refine AI PySem.F.slot_dict_getitem.lookup hs (aJ (ho pins s σ H _ I h) λu s1 ⟨x,H1,I1,rx,q1⟩=>aJ (hi pins s1 σ H1 _ I1 q1) λiv s2 zz=>?_)
 obtain⟨y,H2,I2,ry,a,v,ex,g,q2⟩:=zz
 subst ex
 obtain rfl:u=Value.ref a:=rx
 exact⟨yfc I2 g,ydf hu I2 g ry λw' s3 I3 rw'=>⟨v,H2,I3,rw',q2⟩⟩
def rA(hu:X.A.units+1<cLine)(hi:PE X i ty)(ho:PE X o td):PC X .In i o (AJ ty td):=by
 intro pins s σ H Q I h
 refine aJ (hi pins s σ H _ I h) λiv s1 ⟨y,H1,I1,ry,q1⟩=>aJ (ho pins s1 σ H1 _ I1 q1) λu s2 zz=>?_
 obtain⟨x,H2,I2,rx,a,ov,ex,g,q2⟩:=zz
 subst ex
 obtain rfl:u=Value.ref a:=rx
 exact AG hu I2 g ry λs3 I3=>⟨.bl ov.isSome,H2,I3,rfl,q2⟩
def AM(hu:X.A.units+1<cLine)(hi:PE X i ty)(ho:PE X o td):PC X .NotIn i o (AK ty td):=by
 intro pins s σ H Q I h
 refine aJ (hi pins s σ H _ I h) λiv s1 ⟨y,H1,I1,ry,q1⟩=>aJ (ho pins s1 σ H1 _ I1 q1) λu s2 zz=>?_
 obtain⟨x,H2,I2,rx,a,ov,ex,g,q2⟩:=zz
 subst ex
 obtain rfl:u=Value.ref a:=rx
 exact ye0 hu I2 g ry λs3 I3=>⟨.bl (!ov.isSome),H2,I3,rfl,q2⟩
def AN(hu:X.A.units+1<cLine)(ho:PE X o td)(hi:PE X i ty)(hv:PE X value tv)(hs:swapsWith value (some (.Subscript o i pos')) pos.line X.env=pure false) :
  PS X (.Assign [.Subscript o i pos'] value pos) (rz td ty tv):=by
 intro pins s σ H D I h
 refine wpAny_Assign_Subscript (aJ (hv pins s σ H _ I h) λr s1 ⟨v,H1,I1,rv,q1⟩=>aJ (ho pins s1 σ H1 _ I1 q1) λu s2 ⟨x,H2,I2,rx,q2⟩=>aJ (hi pins s2 σ H2 _ I2 q2) λiv s3 ⟨y,H3,I3,ry,a,H4,ex,g,q3⟩=>?_) hs
 subst ex
 obtain rfl:u=Value.ref a:=rx
 exact ye1 hu I3 g ry rv λs4 I4=>⟨σ,H4,I4,q3⟩
end
def yfd{P:Program}{w:World}{H:Hp}(h:Heap)(hb:sysModules<h.objs.size):dR P w H (h.push { cls:=.type "dict",data:=.dict #[] }) h.objs.size (.dK []) :=
 ⟨Nat.zero_le _,beq_eq_false_iff_ne.mpr (Ne.symm (z26 hb)),[],.nil,Heap.DictOf.new h⟩
abbrev rB:TE:=λ_ H Q=>∀p,H p=none->Q (.ref p) (aC H p (.dK []))
section
variable {X:Cx}{pos:Pos}
def AO:PE X (.Dict [] [] pos) rB:=λpins s σ H Q I h =>
 wpAny_Dict_empty ⟨.ref s.heap.objs.size,_,I.laid (a:=s.heap.objs.size) (o:=.dK []) (t':=s.toks) (λ_ _ q=>zd _ q) (zf _) (yfd s.heap I.big),rfl,h _ (I.hok.fresh (zf _))⟩
end
abbrev kW:List (TE×TE)->St->Hp->(List (V×V)->Hp->Prop)->Prop
 | [],_,H,Q=>Q [] H
 | (tk,tv)::r,σ,H,Q=>tk σ H λx H1=>tv σ H1 λy H2=>kW r σ H2 λps H3=>Q ((x,y)::ps) H3
noncomputable abbrev VV:List (V×V)->List (Value×Value)->Prop:=Paired λp q=>aA p.1 q.1/\aA p.2 q.2
abbrev rC(X:Cx)(pos:Pos)(keys:List (Option Expr))(values:List Expr)(trs:List (TE×TE)):Prop :=
 ∀(pins:List (Addr×Obj)) (s:Shared) (σ:St) (H:Hp) (Q:List (V×V)->Hp->Prop),Inv X pins σ H s->kW trs σ H Q ->
  wpAny (model X.prog X.w) X.A (evalPairs (pairTrees keys values X.env pos)) (λvs s'=>∃ps H',Inv X pins σ H' s'/\VV ps vs/\Q ps H') X.xe s
def AQ{X:Cx}{pos:Pos}:rC X pos [] [] []:=λpins s σ H Q I h=>pairTrees_nil_walk ⟨[],H,I,.nil,h⟩
def AR{X:Cx}{pos:Pos}{k v:Expr}{ks:List (Option Expr)}{vs:List Expr}{tk tv:TE}{trs:List (TE×TE)}(hk:PE X k tk)(hv:PE X v tv)(hr:rC X pos ks vs trs) :
  rC X pos (some k::ks) (v::vs) ((tk,tv)::trs):=λpins s σ H Q I h =>
 pairTrees_cons_walk (aJ (hk pins s σ H _ I h) λu s1 ⟨x,H1,I1,rx,q1⟩=>aJ (hv pins s1 σ H1 _ I1 q1) λw2 s2 ⟨y,H2,I2,ry,q2⟩ =>
  aJ (hr pins s2 σ H2 _ I2 q2) λws s3 ⟨ps,H3,I3,rel,q3⟩=>⟨(x,y)::ps,H3,I3,.cons ⟨rx,ry⟩ rel,q3⟩)
abbrev gK(kvs more:List (aK×V)):List (aK×V):=more.foldl (λacc kv=>cq acc kv.1 kv.2) kvs
def KV.merge:∀{more:List (aK×V)} {rs:List (aK×Value)} {kvs:List (aK×V)} {vs:List (aK×Value)},KV more rs->KV kvs vs->KV (gK kvs more) (merged vs rs):=by
 intro more rs kvs vs r
 unfold KV at r
 induction r generalizing kvs vs with
 | nil=>intro q;exact q
 | @cons p q ps qs h t ih =>
  intro r0
  have e:KV (cq kvs p.1 p.2) (stored vs q.1 q.2):=by
   have:=r0.put p.1 h.2
   rw [<- h.1];exact this
  exact ih e
theorem rE:∀(more kvs:List (aK×V)),(gK kvs more).length≤kvs.length+more.length
 | [],kvs=>by show kvs.length≤kvs.length+0;lia
 | p::r,kvs=>by
  have h1:=rE r (cq kvs p.1 p.2)
  have h2:=nM kvs p.1 p.2
  show (gK (cq kvs p.1 p.2) r).length≤_
  rw [z10];lia
theorem yb2{P:Program}{w:World}:∀{kvs:List (aK×V)} {ws:List (Value×Value)},VV (kvs.map λkv=>(kV kv.1,kv.2)) ws->∃rs,Carries (cR P w) ws rs/\KV kvs rs
 | [],_,r=>by rw [List.map_nil] at r;cases r;exact⟨[],True.intro,.nil⟩
 | p::kvs,_,r=>by
  rw [z16] at r
  cases r with
  | @cons a b as bs h t =>
   obtain⟨rs,c,q⟩:=yb2 (P:=P) (w:=w) t
   obtain⟨b1,b2⟩:=b
   exact⟨(p.1,b2)::rs,⟨iE h.1,rfl,c⟩,.cons ⟨rfl,h.2⟩ q⟩
abbrev rF(trs:List (TE×TE)):TE:=λσ H Q=>∀p,H p=none->kW trs σ (aC H p (.dK [])) λps H2=>H2 p=some (.dK [])/\∃kvs:List (aK×V),ps=kvs.map (λkv=>(kV kv.1,kv.2))/\kvs.length≤15/\Q (.ref p) (aC H2 p (.dK (gK [] kvs)))
def AS{X:Cx}{pos:Pos}{keys:List (Option Expr)}{values:List Expr}{trs:List (TE×TE)}(h:rC X pos keys values trs)(y181:keys.all (·.isSome)=true)(hl:keys.length=values.length)(h0:keys≠[])
  (h15:keys.length≤15):PE X (.Dict keys values pos) (rF trs):=by
 intro pins s σ H Q I q
 have hn:=I.hok.fresh (zf s.heap.objs.size)
 have I1:=I.laid (a:=s.heap.objs.size) (o:=.dK []) (h':=s.heap.push { cls:=.type "dict",data:=.dict #[] }) (t':=s.toks) (λ_ _ q=>zd _ q) (zf _) (yfd s.heap I.big)
 refine wpAny_Dict_walk (knd:=cR X.prog X.w) y181 hl h0 h15 (aJ (h pins _ σ _ _ I1 (q _ hn)) λws s2 zz=>?_)
 obtain⟨ps,H2,I2,rel,e,kvs,ep,lk,q2⟩:=zz
 subst ep
 obtain⟨rs,c,rk⟩:=yb2 (P:=X.prog) (w:=X.w) rel
 obtain⟨z,hd,vs0,r0,dd⟩:=yff I2.hok e
 cases r0
 refine⟨rs,c,dd,λh' dd' hs=>⟨.ref s.heap.objs.size,_,?_,rfl,q2⟩⟩
 have hz:(gK [] kvs).length≤sizeLine:=by
  have h1:=rE kvs []
  rw [List.length_nil] at h1
  rw [sizeLine_eq];lia
 have he:∃q,h'.get? s.heap.objs.size=some q:=let ⟨q,_,_,hq,_⟩:=dd';⟨q,hq⟩
 exact AH I2 (by rw [e];exact True.intro) hs he (yfe hz hd (rk.merge .nil) dd')
structure M1(X:Cx)(o:Expr)(m:Str)(apos:Pos)(e:Expr)(yd1:Pos):Prop where
 base:attributeBase o m X.env (eval o X.env)=eval o X.env
 few:((backTo yd1 (starEach [e] X.env)).all (λx=>!x.1)&&(backToKw yd1 (keywordEach [] X.env)).all (λx=>x.1.isSome)
  && decide (([e]:List Expr).length+([]:List Keyword).length+(if ([]:List Keyword).isEmpty then 0 else 1)<30))=true
 line:(apos.endLine == yd1.line)=true
 trees:backTo yd1 (starEach [e] X.env)=[(false,eval e X.env)]
structure M2(X:Cx)(o:Expr)(m:Str)(apos:Pos)(e f:Expr)(yd1:Pos):Prop where
 base:attributeBase o m X.env (eval o X.env)=eval o X.env
 few:((backTo yd1 (starEach [e,f] X.env)).all (λx=>!x.1)&&(backToKw yd1 (keywordEach [] X.env)).all (λx=>x.1.isSome)
  && decide (([e,f]:List Expr).length+([]:List Keyword).length+(if ([]:List Keyword).isEmpty then 0 else 1)<30))=true
 line:(apos.endLine == yd1.line)=true
 trees:backTo yd1 (starEach [e,f] X.env)=[(false,eval e X.env),(false,eval f X.env)]
section
variable {X:Cx}{pins:List (Addr×Obj)}{σ:St}{H:Hp}{s:Shared}{a:Addr}{y d:V}{u r:Value}{o:Option V}{A:Around}{E:Value->Shared->Prop}
end
section
variable {X:Cx}{o e f:Expr}{apos yd1:Pos}{td ty tx:TE}
end
section
variable {X:Cx}{pins:List (Addr×Obj)}{σ:St}{H:Hp}{s:Shared}{a:Addr}{kvs:List (aK×V)}{A:Around}{E:Value->Shared->Prop}
end
section
variable {X:Cx}{pins:List (Addr×Obj)}{σ:St}{H:Hp}{s:Shared}{a:Addr}{y:V}{u:Value}{A:Around}{E:Value->Shared->Prop}
end
end
end L2
namespace HT
open PySem PyProof.Rows
section
open PySem.SeqAt
open PySem.AutoSeq1 (wpAny_loadPart')
open PySem.MeetsSeq PySem.MeetsSeq2 PySem.MeetsSeq3
end
section
variable {prog:Program}{w:World}{A:Around}{E:Value->Shared->Prop}{s:Shared}
def yb6{t b:Addr}{vs ws:List Value}{Q:Value->Shared->Prop}(ht:IsTup s.heap t vs.toArray)(hb:IsTup s.heap b ws.toArray)(hv:vs≠[])
  (h1:ws=[]->Q (.ref t) s) (h2:ws≠[]->Q (.ref s.heap.objs.size) { s with heap:=s.heap.push { cls:=.type "tuple",data:=.seq (vs++ws).toArray } })
  (hsz:vs.length+ws.length≤sizeLine):wpAny (model prog w) A (binaryOp .Add (.ref t) (.ref b)) Q E s:=by
 obtain⟨⟨cls,dd,data,sl⟩,ho,hc,n,hd⟩:=id ht
 obtain⟨⟨cls2,dd2,data2,sl2⟩,ho2,hc2,n2,hd2⟩:=id hb
 simp only at hc hd hc2 hd2
 subst hc hd hc2 hd2
 have e:vs.toArray++ws.toArray=(vs++ws).toArray:=by simp
 by_cases hw:ws=[]
 ·exact concat_meets ⟨_,ho,rfl⟩ ⟨_,ho2,rfl⟩ noFill_tuple_add seq_tuple_add PySem.F.slot_tuple_add PySem.F.entry_tuple_add (PySem.F.args_tuple_add_2 _ _)
   (tuple_addW1 t b vs.toArray ws.toArray n n2 dd dd2 sl sl2 (by simpa using hv) (by simp [hw])) ⟨ho,ho2,h1 hw⟩
 ·refine concat_meets ⟨_,ho,rfl⟩ ⟨_,ho2,rfl⟩ noFill_tuple_add seq_tuple_add PySem.F.slot_tuple_add PySem.F.entry_tuple_add (PySem.F.args_tuple_add_2 _ _)
   (tuple_addW2 t b vs.toArray ws.toArray n n2 dd dd2 sl sl2 (by simpa using hv) (by simpa using hw) (by rw [zc,zc];exact hsz)) ⟨ho,ho2,?_⟩
  rw [e]
  exact h2 hw
abbrev sIx(n d:Nat):Option Int->Nat
 | none=>d
 | some v=>if v<0 then (v+(n:Int)).toNat else min v.toNat n
def y364(n d:Nat):sIx n d none=d:=rfl
def y363(n d k:Nat):sIx n d (some (k:Int))=min k n:=by
 show (if (k:Int)<0 then ((k:Int)+(n:Int)).toNat else min (k:Int).toNat n)=min k n
 rw [if_neg (by lia),Int.toNat_natCast]
def AU(n d:Nat)(hd:d≤n)(o:Option Int):sIx n d o≤n:=by
 cases o with
 | none=>exact hd
 | some v =>
  show (if v<0 then (v+(n:Int)).toNat else min v.toNat n)≤n
  by_cases hv:v<0
  ·rw [if_pos hv];lia
  ·rw [if_neg hv];exact Nat.min_le_right _ _
def ybd(v:Int)(n d:Nat):(if v<0 then max (v+(n:Int)) 0 else min v (n:Int))=((sIx n d (some v):Nat):Int):=by
 show (if v<0 then max (v+(n:Int)) 0 else min v (n:Int))=(((if v<0 then (v+(n:Int)).toNat else min v.toNat n):Nat):Int)
 by_cases hv:v<0
 ·simp only [if_pos hv];lia
 ·simp only [if_neg hv];lia
def y64(lo hi:Option Int)(n:Nat):Builtin.Slice.sliceAdjust lo hi 1 (n:Int)=(((sIx n 0 lo:Nat):Int),((sIx n n hi:Nat):Int)):=by
 have h1:¬ ((1:Int)<0):=by lia
 unfold Builtin.Slice.sliceAdjust
 simp only [h1,if_false]
 refine Prod.ext ?_ ?_
 ·cases lo with
  | none=>rfl
  | some v=>exact ybd v n 0
 ·cases hi with
  | none=>rfl
  | some v=>exact ybd v n n
def AV(i j:Nat):Builtin.Slice.slicePlaces (i:Int) (j:Int) 1=j-i:=by
 unfold Builtin.Slice.slicePlaces
 have h1:(1:Int)>0:=by lia
 simp only [h1,if_true,Int.ediv_one]
 split<;>lia
def rG{v:Value}{o:Option Int}{Q:Option Int->Shared->Prop}(p:IsPart v o)(h:Q o s):wpAny (model prog w) A (Builtin.Slice.slicePartIndex v) Q E s:=by
 cases p with
 | none=>exact slicePart_none h
 | int i t=>exact slicePart_int h
def rH{sl:Addr}{vl vu:Value}{lo hi:Option Int}{n:Nat}{Q:Int×Int×Nat->Shared->Prop}(hs:s.heap.IsSliceOf sl vl vu .none)(pl:IsPart vl lo)(pu:IsPart vu hi)
  (h:Q (((sIx n 0 lo:Nat):Int),1,sIx n n hi-sIx n 0 lo) s):wpAny (model prog w) A (Builtin.Slice.sliceApplied (.ref sl) (pure (n:Int))) Q E s:=by
 obtain⟨os,hos,hcs,hds⟩:=id hs
 unfold Builtin.Slice.sliceApplied Builtin.Slice.sliceFields
 refine zb (zb (wpAny_field hos hds (x:=vl) rfl (zb (wpAny_field hos hds (x:=vu) rfl (zb (wpAny_field hos hds (x:=.none) rfl (ze ?_)))))))
 refine zb (slicePart_none ?_)
 show wpAny _ _ (if ((1:Int) == 0)=true then _ else _) _ _ s
 rw [if_neg (by decide)]
 refine zb (rG pl (zb (rG pu (zb (ze ?_)))))
 show wpAny _ _ (match Builtin.Slice.sliceAdjust lo hi 1 (n:Int) with|(lo,hi)=>pure (lo,(1:Int),Builtin.Slice.slicePlaces lo hi 1)) _ _ s
 rw [y64 lo hi n]
 show wpAny _ _ (pure (((sIx n 0 lo:Nat):Int),(1:Int),Builtin.Slice.slicePlaces ((sIx n 0 lo:Nat):Int) ((sIx n n hi:Nat):Int) 1)) _ _ s
 rw [AV]
 exact ze h
def AW(xs:Array Value)(i k:Nat):((List.range k).filterMap λ(m:Nat)=>xs[((i:Int)+(m:Int)*1).toNat]?).toArray=((xs.toList.drop i).take k).toArray:=by
 have e:(λ(m:Nat)=>xs[((i:Int)+(m:Int)*1).toNat]?)=λm=>xs[i+m]?:=by
  funext m
  have:((i:Int)+(m:Int)*1).toNat=i+m:=by lia
  rw [this]
 rw [e]
 have:=pick_run xs i k
 rw [List.filterMap_map] at this
 have e2:((λx=>xs[x]?) ∘ λx=>i+x)=λm=>xs[i+m]?:=rfl
 rw [e2] at this
 rw [this]
def y159{t sl:Addr}{items:Array Value}{vl vu:Value}{lo hi:Option Int}{Q:Value->Shared->Prop}(ht:IsTup s.heap t items)(hs:s.heap.IsSliceOf sl vl vu .none)(pl:IsPart vl lo)(pu:IsPart vu hi)
  (hw:¬ (sIx items.size 0 lo=0/\sIx items.size items.size hi=items.size))
  (h:Q (.ref s.heap.objs.size) { s with heap:=s.heap.push { cls:=.type "tuple",data:=.seq ((items.toList.drop (sIx items.size 0 lo)).take (sIx items.size items.size hi-sIx items.size 0 lo)).toArray } })
  (hsz:items.size≤sizeLine):wpAny (model prog w) A (getItem (.ref t) (.ref sl)) Q E s:=by
 have y198:sizeOk (.seq ((items.toList.drop (sIx items.size 0 lo)).take (sIx items.size items.size hi-sIx items.size 0 lo)).toArray):=by
  show ((items.toList.drop (sIx items.size 0 lo)).take (sIx items.size items.size hi-sIx items.size 0 lo)).toArray.size≤sizeLine
  rw [zc,z2d,z2f,Array.length_toList]
  lia
 have hj:sIx items.size items.size hi≤items.size:=AU _ _ (zf _) hi
 obtain⟨os,hos,hcs,hds⟩:=id hs
 have hTs:s.TypeIs (.ref sl) "slice":=⟨os,hos,hcs⟩
 unfold getItem
 try with_reducible refine wpAny_holding ?_
 first|refine zb (ze ?_)|skip
 refine zb (wpAny_sequenceKey ht.typeIs (by decide) ?_)
 refine zb (wpAny_callSpecial?_slot (name:=Str.ofString "__getitem__") ht.typeIs PyProof.Rows.slot_tuple_getitem
  (wpAny_call_entry PyProof.Rows.slot_tuple_getitem ht.typeIs entry_tuple_getitem ?_ (args_tuple_getitem _ _)))
 show wpAny _ _ (Builtin.Tuple.tupleItemsOf (.ref t) >>= _) _ _ s
 refine zb (tupleItemsOf_ ht ?_)
 refine zb (wpAny_typeOf hTs ?_)
 rw [if_pos (by decide)]
 refine zb (rH hs pl pu ?_)
 have hno:¬ ((((sIx items.size 0 lo:Nat):Int) == 0&&(1:Int) == 1&&(sIx items.size items.size hi-sIx items.size 0 lo) == items.size)=true):=by
  intro q
  rw [z24,z24] at q
  have q1:((sIx items.size 0 lo:Nat):Int)=0:=eq_of_beq q.1.1
  have q2:sIx items.size items.size hi-sIx items.size 0 lo=items.size:=eq_of_beq q.2
  exact hw ⟨by lia,by lia⟩
 show wpAny _ _ (if (((sIx items.size 0 lo:Nat):Int) == 0&&(1:Int) == 1&&(sIx items.size items.size hi-sIx items.size 0 lo) == items.size)=true then _ else _) _ _ s
 rw [if_neg hno,AW]
 first
  | exact zb (m:=Builtin.Tuple.tupleExact _) (z2b (ze ⟨_,rfl,ze h⟩) y198)
  | exact zb (m:=Builtin.Tuple.tupleExact _) (z2b (zb (ze (ze ⟨_,rfl,ze h⟩))) y198)
  | exact zb (zb (m:=Builtin.Tuple.tupleExact _) (z2b (ze (ze ⟨_,rfl,ze h⟩)) y198))
  | exact zb (zb (m:=Builtin.Tuple.tupleExact _) (z2b (ze ⟨_,rfl,ze h⟩) y198))
end
end HT
namespace L2
open PySem PySem.Spec PyProof.Rows
section
noncomputable abbrev TO:=St->Hp->(Option Int->Hp->Prop)->Prop
abbrev PO(X:Cx)(e:Option Expr)(t:TO):Prop :=
 ∀(pins:List (Addr×Obj)) (s:Shared) (σ:St) (H:Hp) (Q:Option Int->Hp->Prop),Inv X pins σ H s->t σ H Q ->
  wpAny (model X.prog X.w) X.A (evalPart e X.env) (λu s'=>∃o H',Inv X pins σ H' s'/\IsPart u o/\Q o H') X.xe s
abbrev nN:TO:=λ_ H Q=>Q none H
abbrev rJ(t:TE):TO:=λσ H Q=>t σ H λx H1=>∃i,x=.int i/\Q (some i) H1
section
variable {X:Cx}{e:Expr}{te:TE}{lo hi:Option Expr}{tl th:TO}{pos p2:Pos}
def nO:PO X none nN:=by
 intro pins s σ H Q I h
 rw [evalPart_none]
 exact ze ⟨none,H,I,.none,h⟩
def rK(h:PE X e te):PO X (some e) (rJ te):=by
 intro pins s σ H Q I hw
 rw [evalPart_some]
 refine aJ (h pins s σ H _ I hw) λu s1 zz=>?_
 obtain⟨x,H1,I1,r1,q1⟩:=zz
 obtain⟨i,rfl,q⟩:=q1
 obtain⟨t,rfl⟩:=r1
 exact⟨some i,H1,I1,.int i t,q⟩
abbrev kX(X:Cx)(r:V->Option Int->Option Int->Hp->VK->Prop):Prop :=
 ∀(pins:List (Addr×Obj)) (s:Shared) (σ:St) (H:Hp) (x:V) (v vl vu:Value) (lo hi:Option Int) (sl:Addr) (Q:VK),Inv X pins σ H s->aA x v->s.heap.IsSliceOf sl vl vu .none->IsPart vl lo->IsPart vu hi->r x lo hi H Q ->
  ∃T id,typeLookup (.type T) "__getitem__" = pure (some (.builtin id))/\s.TypeIs v T/\wpAny (model X.prog X.w) X.A (getItem v (.ref sl)) (EP X pins σ Q) X.xe s
def kX.or{r r':V->Option Int->Option Int->Hp->VK->Prop}(h:kX X r)(h':kX X r'):kX X (λx lo hi H Q=>r x lo hi H Q∨r' x lo hi H Q):=by
 intro pins s σ H x v vl vu lo hi sl Q I rx hs pl pu q
 rcases q with q|q
 ·exact h pins s σ H x v vl vu lo hi sl Q I rx hs pl pu q
 ·exact h' pins s σ H x v vl vu lo hi sl Q I rx hs pl pu q
abbrev tSl(r:V->Option Int->Option Int->Hp->VK->Prop)(te:TE)(tl th:TO):TE:=λσ H Q=>te σ H λx H1=>tl σ H1 λl H2=>th σ H2 λu H3=>r x l u H3 Q
def AX{r:V->Option Int->Option Int->Hp->VK->Prop}(hr:kX X r)(he:PE X e te)(hl:PO X lo tl)(hu:PO X hi th):PE X (.Subscript e (.Slice lo hi none p2) pos) (tSl r te tl th):=by
 intro pins s σ H Q I h
 refine Subscript_ (aJ (he pins s σ H _ I h) λv s1 zz=>?_)
 obtain⟨x,H1,I1,r1,q1⟩:=zz
 refine wpAny_Slice (aJ (hl pins s1 σ H1 _ I1 q1) λvl s2 ⟨l,H2,I2,pl,q2⟩=>aJ (hu pins s2 σ H2 _ I2 q2) λvu s3 zz=>?_)
 obtain⟨u,H3,I3,pu,q3⟩:=zz
 rw [evalPart_none]
 refine ze ?_
 have I4:Inv X pins σ H3 { s3 with heap:=s3.heap.push { cls:=.type "slice",data:=.fields #[vl,vu,.none] } }:=I3.kept (t':=s3.toks) λb ob q=>zd _ q
 obtain⟨T,id,hT,ht,hg⟩:=hr pins { s3 with heap:=s3.heap.push { cls:=.type "slice",data:=.fields #[vl,vu,.none] } } σ H3 x v vl vu l u s3.heap.objs.size Q I4 r1 (Heap.IsSliceOf.new ..) pl pu q3
 show wpAny (model X.prog X.w) X.A (subscriptTail e (.Slice lo hi none p2) v (.ref s3.heap.objs.size)) (EP X pins σ Q) X.xe { s3 with heap:=s3.heap.push { cls:=.type "slice",data:=.fields #[vl,vu,.none] } }
 exact tail_any (ops:=[.ref s3.heap.objs.size,v]) ht hT hg (by with_unfolding_all rfl)
abbrev jt(xs:List V)(lo hi:Option Int):List V:=(xs.drop (HT.sIx xs.length 0 lo)).take (HT.sIx xs.length xs.length hi-HT.sIx xs.length 0 lo)
def yd5(xs:List V)(lo hi:Option Int):(jt xs lo hi).length≤xs.length:=by
 unfold jt
 rw [z2d,z2f]
 lia
abbrev AY(K:W.Frag):V->Option Int->Option Int->Hp->VK->Prop:=λx lo hi H Q=>∃a xs,x=.ref a/\br K H a xs /\
 ¬ (HT.sIx xs.length 0 lo=0/\HT.sIx xs.length xs.length hi=xs.length)/\∀p,H p=none->Q (.ref p) (aC H p (.tup (jt xs lo hi)))
def AZ:kX X (AY X.K):=by
 intro pins s σ H x v vl vu lo hi sl Q I rx hs pl pu h
 obtain⟨a,xs,rfl,hx,hw,q⟩:=h
 cases rx
 obtain⟨its,r,ht,hz⟩:=I.tuple hx
 have hlen:its.toArray.size=xs.length:=by rw [zc];exact r.length.symm
 refine⟨"tuple",_,PyProof.Rows.slot_tuple_getitem.lookup,ht.typeIs,?_⟩
 refine HT.y159 ht hs pl pu (by rw [hlen];exact hw) ?_ (by rw [hlen];exact hz)
 rw [hlen]
 refine⟨.ref s.heap.objs.size,_,I.laid (t':=s.toks) (o:=.tup (jt xs lo hi)) (λb ob q=>zd _ q) (zf _) ?_,rfl,q _ (I.hok.fresh (zf _))⟩
 exact⟨z19 (yd5 xs lo hi) hz,_,(r.drop (HT.sIx xs.length 0 lo)).take (HT.sIx xs.length xs.length hi-HT.sIx xs.length 0 lo),ky.mk' _ _⟩
abbrev rL(K:W.Frag):R2:=λx y H Q=>∃a b xs ys,x=.ref a/\y=.ref b/\br K H a xs/\br K H b ys/\xs≠[]/\xs.length+ys.length≤sizeLine /\
 (ys=[]->Q (.ref a) H)/\(ys≠[]->∀p,H p=none->Q (.ref p) (aC H p (.tup (xs++ys))))
def au.y22d{xs:List V}{us:List Value}(r:au xs us):us=[]↔xs=[]:=by
 cases r with
 | nil=>simp
 | cons _ _=>simp
def A0:cf X (binaryOp .Add) (rL X.K):=by
 intro pins s σ H x y v u Q I rx ry h
 obtain⟨a,b,xs,ys,rfl,rfl,ha,hb,hx,hz,q1,q2⟩:=h
 cases rx
 cases ry
 obtain⟨its,r1,p1,_⟩:=I.tuple ha
 obtain⟨y1ba,r2,p2,_⟩:=I.tuple hb
 refine HT.yb6 p1 p2 (λz=>hx (r1.y22d.mp z)) (λz=>⟨.ref a,H,I,rfl,q1 (r2.y22d.mp z)⟩) (λz=>?_) (by rw [<- r1.length,<- r2.length];exact hz)
 refine⟨.ref s.heap.objs.size,_,I.laid (t':=s.toks) (o:=.tup (xs++ys)) (λb ob q=>zd _ q) (zf _) ?_,rfl,q2 (λw=>z (r2.y22d.mpr w)) _ (I.hok.fresh (zf _))⟩
 exact⟨by rw [za];exact hz,_,r1.append r2,ky.mk' _ _⟩
end
end
section
abbrev gD(n:Nat)(i:Int):Option Nat:=if 0≤i then (if i<n then some i.toNat else none) else if -(n:Int)≤i then some (i+n).toNat else none
abbrev dh{α:Type}(xs:List α)(i:Int):Option α:=(gD xs.length i).bind λj=>xs[j]?
def rN{n:Nat}{i:Int}{j:Nat}(h:gD n i=some j):seqIndex? i n=some j/\j<n/\-(n:Int)≤i/\i<n:=by
 unfold gD at h
 by_cases h0:0≤i
 ·rw [if_pos h0] at h
  by_cases h1:i<n
  ·rw [if_pos h1] at h
   have e:i.toNat=j:=z1e h
   exact⟨by rw [seqIndex_of h0 h1,e],by lia,by lia,h1⟩
  ·rw [if_neg h1] at h;cases h
 ·rw [if_neg h0] at h
  by_cases h1:-(n:Int)≤i
  ·rw [if_pos h1] at h
   have e:(i+n).toNat=j:=z1e h
   exact⟨by rw [seqIndex_neg (by lia) h1,e],by lia,h1,by lia⟩
  ·rw [if_neg h1] at h;cases h
def Ba{α:Type}{xs:List α}{i:Int}{v:α}(h:dh xs i=some v):∃j,seqIndex? i xs.length=some j/\xs[j]?=some v/\j<xs.length/\-(xs.length:Int)≤i/\i<xs.length:=by
 unfold dh at h
 cases e:gD xs.length i with
 | none=>rw [e] at h;cases h
 | some j =>
  rw [e] at h
  obtain⟨h1,h2,h3,h4⟩:=rN e
  exact⟨j,h1,h,h2,h3,h4⟩
def kY{α:Type}{xs:List α}{j:Nat}{v:α}(h:xs[j]?=some v):dh xs (j:Int)=some v:=by
 have hj:j<xs.length:=(z14.mp h).1
 have e:gD xs.length (j:Int)=some j:=by
  unfold gD
  rw [if_pos (by lia),if_pos (by lia)];simp
 unfold dh;rw [e];exact h
abbrev ij(b:Expr):Prop:=∀o i,subscripted b false o i=operate [o,i] (getItem o i)
abbrev kZ(X:Cx)(r:R2):Prop :=
 ∀(value slice:Expr) (pins:List (Addr×Obj)) (s:Shared) (σ:St) (H:Hp) (x y:V) (v u:Value) (Q:VK),Inv X pins σ H s->aA x v->aA y u->r x y H Q ->
  subscripted slice false v u=operate [v,u] (getItem v u)->wpAny (model X.prog X.w) X.A (subscriptTail value slice v u) (EP X pins σ Q) X.xe s
abbrev mM(X:Cx)(id:String)(r:V->List V->Hp->VK->Prop):Prop :=
 ∀(pins:List (Addr×Obj)) (s:Shared) (σ:St) (H:Hp) (x:V) (xs:List V) (v:Value) (us:List Value) (Q:VK),Inv X pins σ H s->aA x v->au xs us->r x xs H Q ->
  wpAny (model X.prog X.w) X.A (call (.builtin id) (v::us)) (EP X pins σ Q) X.xe s
section
variable {X:Cx}{a b:Expr}{ta tb:TE}{pos:Pos}
def kZ.or{r r':R2}(h:kZ X r)(h':kZ X r'):kZ X (λx y H Q=>r x y H Q∨r' x y H Q):=by
 intro value slice pins s σ H x y v u Q I rx ry q hs
 rcases q with q|q
 ·exact h value slice pins s σ H x y v u Q I rx ry q hs
 ·exact h' value slice pins s σ H x y v u Q I rx ry q hs
def mM.or{id:String}{r r':V->List V->Hp->VK->Prop}(h:mM X id r)(h':mM X id r'):mM X id (λx xs H Q=>r x xs H Q∨r' x xs H Q):=by
 intro pins s σ H x xs v us Q I rx rs q
 rcases q with q|q
 ·exact h pins s σ H x xs v us Q I rx rs q
 ·exact h' pins s σ H x xs v us Q I rx rs q
def rO{r:R2}(hr:kZ X r)(ha:PE X a ta)(hb:PE X b tb)(hs:ij b):PE X (.Subscript a b pos) (mL r ta tb):=by
 intro pins s σ H Q I h
 exact Subscript_ (nE ha hb I h λv u s2 x y H2 I2 rx ry q=>hr a b pins s2 σ H2 x y v u Q I2 rx ry q (hs _ _))
abbrev rP(K:W.Frag):R2:=λx y H Q=>∃p xs i v,x=.ref p/\y=.int i/\bM K H p xs/\dh xs i=some v/\Q v H
abbrev rQ(K:W.Frag):R2:=λx y H Q=>∃p xs i v,x=.ref p/\y=.int i/\br K H p xs/\dh xs i=some v/\Q v H
abbrev rR:R2:=λx y H Q=>∃z i c,x=.str z/\y=.int i/\z.length≤sizeLine/\dh z.cps.toList i=some c/\Q (.str ⟨#[c]⟩) H
def Bb:kZ X (rP X.K):=by
 intro value slice pins s σ H x y v u Q I rx ry h hs
 obtain⟨p,xs,i,z,rfl,rfl,hq,he,q⟩:=h
 cases rx
 obtain⟨t,rfl⟩:=ry
 obtain⟨its,r,pl,hz⟩:=I.list hq
 obtain⟨j,h1,h2,h3,h4,h5⟩:=Ba he
 obtain⟨w,ew,rw'⟩:=r.get h2
 have hl:=r.length
 have hn:=gH
 have fin:EP X pins σ Q w s:=⟨z,H,I,rw',q⟩
 by_cases h0:0≤i
 ·have hj:i.toNat=j:=by
   rw [seqIndex_of h0 h5] at h1
   exact z1e h1
  exact item_listR pl.isList h0 (by lia) (by rw [hj];simpa using ew) fin hs
 ·have hj:(i+(its.toArray.size:Int)).toNat=j:=by
   rw [seqIndex_neg (by lia) h4] at h1
   rw [zc,<- hl]
   exact z1e h1
  exact subscriptTail_builtinR (x:=w) pl.isList.typeIs slot_list_getitem.lookup
   (wpAny_getItem_list_neg (Q:=λr s'=>r=w/\EP X pins σ Q r s') pl.isList (by lia) (by rw [zc]<;>lia) (by lia) (by rw [hj];simpa using ew) ⟨rfl,fin⟩) hs
def Bc:kZ X (rQ X.K):=by
 intro value slice pins s σ H x y v u Q I rx ry h hs
 obtain⟨p,xs,i,z,rfl,rfl,hq,he,q⟩:=h
 cases rx
 obtain⟨t,rfl⟩:=ry
 obtain⟨its,r,pl,hz⟩:=I.tuple hq
 obtain⟨j,h1,h2,h3,h4,h5⟩:=Ba he
 obtain⟨w,ew,rw'⟩:=r.get h2
 have hl:=r.length
 have hn:=gH
 have fin:EP X pins σ Q w s:=⟨z,H,I,rw',q⟩
 exact subscriptTail_builtinR (x:=w) pl.typeIs slot_tuple_getitem.lookup
  (getItem_tuple (j:=j) (Q:=λr s'=>r=w/\EP X pins σ Q r s') pl (by lia) (by lia) (by rw [zc,<- hl];exact h1) (by simpa using ew) ⟨rfl,fin⟩) hs
def Bd:kZ X rR:=by
 intro value slice pins s σ H x y v u Q I rx ry h hs
 obtain⟨z,i,c,rfl,rfl,hz,he,q⟩:=h
 obtain⟨t,rfl⟩:=rx
 obtain⟨t',rfl⟩:=ry
 obtain⟨j,h1,h2,h3,h4,h5⟩:=Ba he
 have hl:z.cps.toList.length=z.length:=by simp [Str.length]
 rw [hl] at h1 h4 h5
 have hn:=gH
 exact tail_any (typeIs_str s z t) slot_str_getitem.lookup (getItem_str (c:=c) (by
  have e1:decide (i < -(2 ^ 63:Int))=false:=decide_eq_false (by lia)
  have e2:decide (i ≥ 2 ^ 63)=false:=decide_eq_false (by lia)
  rw [e1,e2,Bool.or_false]) (by rw [h1];simpa using h2) ⟨.str ⟨#[c]⟩,H,I.tok _,⟨_,rfl⟩,q⟩) hs
abbrev Be(K:W.Frag):R2:=λx y H Q=>rP K x y H Q∨rQ K x y H Q∨rR x y H Q
def Bf:kZ X (Be X.K):=Bb.or (Bc.or Bd)
def Bg(its:List Value)(n j:Nat)(u:Value):Obj.mapSeq (·.setIfInBounds j u) { cls:=.type "list",data:=.seq its.toArray n }={ cls:=.type "list",data:=.seq (its.set j u).toArray n }:=by
 simp [Obj.mapSeq]
theorem Inv.lst{pins:List (Addr×Obj)}{σ:St}{H:Hp}{s:Shared}{p:Addr}{xs:List V}(I:Inv X pins σ H s)(h:H p=some (.lst xs)) :
  ∃(its:List Value) (n:Nat),au xs its/\s.heap.get? p=some { cls:=.type "list",data:=.seq its.toArray n }/\xs.length≤sizeLine:=by
 obtain⟨z,its,n,r,e⟩:=I.hok p _ h
 exact⟨its,n,r,e,z⟩
def Inv.y201{pins:List (Addr×Obj)}{σ:St}{H:Hp}{s:Shared}{p:Addr}{xs ys:List V}{its its':List Value}{n n':Nat}{f:Obj->Obj}(I:Inv X pins σ H s)(h:H p=some (.lst xs))
  (ho:s.heap.get? p=some { cls:=.type "list",data:=.seq its.toArray n }) (hf:f { cls:=.type "list",data:=.seq its.toArray n }={ cls:=.type "list",data:=.seq its'.toArray n' }) (r:au ys its') (hz:ys.length≤sizeLine) (t:Nat) :
  Inv X pins σ (aC H p (.lst ys)) { s with heap:=s.heap.update p f,toks:=t }:=by
 have e:(s.heap.update p f).get? p=some { cls:=.type "list",data:=.seq its'.toArray n' }:=by
  rw [Heap.get?_update_self f ho (by rw [hf]<;>rfl),hf]
 refine I.write (x:=p) (e:=p) (by rw [h];trivial) (.inl rfl) (λb u hb q=>(Heap.get?_update_other _ _ (Ne.symm hb)).trans q) ⟨_,e⟩ ?_
 exact⟨hz,its',n',r,e⟩
abbrev rS:V->V->V->Hp->(Hp->Prop)->Prop:=λo i v H Q=>∃p xs k j,o=.ref p/\i=.int k/\H p=some (.lst xs)/\gD xs.length k=some j/\Q (aC H p (.lst (xs.set j v)))
def ju:qy X rS:=by
 intro pins s σ H o i v ov iv u Q I ro ri rv h
 obtain⟨p,xs,k,j,rfl,rfl,hp,hj,q⟩:=h
 cases ro
 obtain⟨t,rfl⟩:=ri
 obtain⟨its,n,r,ho,hz⟩:=I.lst hp
 obtain⟨h1,h2,h3,h4⟩:=rN hj
 have hl:=r.length
 have hn:=gH
 have I':Inv X pins σ (aC H p (.lst (xs.set j v))) { s with heap:=s.heap.update p (Obj.mapSeq (·.setIfInBounds j u)) } :=
  I.y201 hp ho (Bg its n j u) (r.set rv j) (by rw [z2c];exact hz) s.toks
 by_cases h0:0≤k
 ·have hk:k.toNat=j:=by
   rw [seqIndex_of h0 h4] at h1
   exact z1e h1
  exact W.ki_setAt ho h0 (by lia) (by rw [zc,<- hl];exact h4) (by rw [hk];exact⟨_,I',q⟩)
 ·have hk:(k+(its.toArray.size:Int)).toNat=j:=by
   rw [seqIndex_neg (by lia) h3] at h1
   rw [zc,<- hl]
   exact z1e h1
  exact W.ki_setBack ho (by lia) (by rw [zc,<- hl];exact h3) (by lia) (by rw [hk];exact⟨_,I',q⟩)
def Bh(lo hi:Option Int)(n:Nat):(sliceBounds lo hi none n).1=((HT.sIx n 0 lo:Nat):Int)/\(sliceBounds lo hi none n).2.1=((HT.sIx n n hi:Nat):Int)/\(sliceBounds lo hi none n).2.2=1:=by
 refine⟨?_,?_,rfl⟩
 ·cases lo with
  | none=>simp [sliceBounds,HT.sIx]
  | some i =>
   simp only [sliceBounds,HT.sIx,Option.getD_none,show (1:Int)>0 by decide,if_true]
   by_cases h:i<0
   ·simp only [h,if_true]<;>lia
   ·simp only [h,if_false]<;>lia
 ·cases hi with
  | none=>simp [sliceBounds,HT.sIx]
  | some i =>
   simp only [sliceBounds,HT.sIx,Option.getD_none,show (1:Int)>0 by decide,if_true]
   by_cases h:i<0
   ·simp only [h,if_true]<;>lia
   ·simp only [h,if_false]<;>lia
def Bi(its:List Value)(lo hi:Option Int):slicePick its.toArray lo hi none=((its.drop (HT.sIx its.length 0 lo)).take (HT.sIx its.length its.length hi-HT.sIx its.length 0 lo)).toArray:=by
 obtain⟨h1,h2,h3⟩:=Bh lo hi its.toArray.size
 unfold slicePick
 rw [h1,h2,h3]
 simp only [sliceRange_one,pick_run,zc]<;>rfl
abbrev rT(K:W.Frag):V->Option Int->Option Int->Hp->VK->Prop:=λx lo hi H Q=>∃a xs,x=.ref a/\bM K H a xs/\∀p,H p=none->Q (.ref p) (aC H p (.lst (jt xs lo hi)))
def Bj:kX X (rT X.K):=by
 intro pins s σ H x v vl vu lo hi sl Q I rx hs pl pu h
 obtain⟨a,xs,rfl,hx,q⟩:=h
 cases rx
 obtain⟨its,r,ht,hz⟩:=I.list hx
 have hlen:=r.length
 refine⟨"list",_,slot_list_getitem.lookup,ht.isList.typeIs,?_⟩
 refine wpAny_getItem_list_slice ht.isList hs pl pu .none (by simp) ?_ (by rw [zc]<;>lia)
 rw [Bi,<- hlen]
 refine⟨.ref s.heap.objs.size,_,I.laid (t':=s.toks) (o:=.lst (jt xs lo hi)) (λb ob q=>zd _ q) (zf _) ?_,rfl,q _ (I.hok.fresh (zf _))⟩
 exact⟨z19 (yd5 xs lo hi) hz,_,0,(r.drop (HT.sIx xs.length 0 lo)).take (HT.sIx xs.length xs.length hi-HT.sIx xs.length 0 lo),z27 _ rfl⟩
abbrev bJ:V->Bool
 | .non=>true
 | .bl _=>true
 | .int _=>true
 | .str _=>true
 | _=>false
abbrev gL:V->V->Bool
 | .non,.non=>true
 | .bl a,.bl b=>a == b
 | .bl a,.int b=>(if a then 1 else 0) == b
 | .int a,.bl b=>a == (if b then 1 else 0)
 | .int a,.int b=>a == b
 | .str a,.str b=>a == b
 | _,_=>false
def rV{A:Around}{s:Shared}{y x:V}{u v:Value}(ry:aA y u)(rx:aA x v)(fy:bJ y=true)(fx:bJ x=true):SeqAt.EqAt A s u v (gL y x):=by
 cases y with
 | non =>
  cases ry
  cases x with
  | non=>cases rx;exact SeqAt.EqAt.same _
  | bl b=>cases rx;exact SeqAt.EqAt.none_bool b
  | int b=>obtain⟨t,rfl⟩:=rx;exact SeqAt.EqAt.none_int b t
  | str b=>obtain⟨t,rfl⟩:=rx;exact SeqAt.EqAt.none_str b t
  | _=>exact absurd (show false=true from fx) z15
 | bl a =>
  cases ry
  cases x with
  | non=>cases rx;exact SeqAt.EqAt.bool_none a
  | bl b=>cases rx;exact SeqAt.EqAt.bool_bool a b
  | int b=>obtain⟨t,rfl⟩:=rx;exact SeqAt.EqAt.bool_int a b t
  | str b=>obtain⟨t,rfl⟩:=rx;exact SeqAt.EqAt.bool_str a b t
  | _=>exact absurd (show false=true from fx) z15
 | int a =>
  obtain⟨t',rfl⟩:=ry
  cases x with
  | non=>cases rx;exact SeqAt.EqAt.int_none a t'
  | bl b=>cases rx;exact SeqAt.EqAt.int_bool a t' b
  | int b=>obtain⟨t,rfl⟩:=rx;exact SeqAt.EqAt.int_int a t' b t
  | str b=>obtain⟨t,rfl⟩:=rx;exact SeqAt.EqAt.int_str a t' b t
  | _=>exact absurd (show false=true from fx) z15
 | str a =>
  obtain⟨t',rfl⟩:=ry
  cases x with
  | non=>cases rx;exact SeqAt.EqAt.str_none a t'
  | bl b=>cases rx;exact SeqAt.EqAt.str_bool a t' b
  | int b=>obtain⟨t,rfl⟩:=rx;exact SeqAt.EqAt.str_int a t' b t
  | str b=>obtain⟨t,rfl⟩:=rx;exact SeqAt.EqAt.str_str a t' b t
  | _=>exact absurd (show false=true from fx) z15
 | _=>exact absurd (show false=true from fy) z15
abbrev gM(x:V)(u:Value):Bool:=match u with
 | .none=>gL .non x
 | .bool b=>gL (.bl b) x
 | .int i _=>gL (.int i) x
 | .str z _=>gL (.str z) x
 | _=>false
def rW{x y:V}{u:Value}(r:aA y u)(f:bJ y=true):gM x u=gL y x:=by
 cases y with
 | non=>cases r;rfl
 | bl b=>cases r;rfl
 | int i=>obtain⟨t,rfl⟩:=r;rfl
 | str z=>obtain⟨t,rfl⟩:=r;rfl
 | _=>exact absurd (show false=true from f) z15
theorem rX{x:V}:∀{xs:List V} {us:List Value},au xs us->xs.all bJ=true->us.any (gM x)=xs.any λy=>gL y x
 | _,_,.nil,_=>rfl
 | y::xs,u::us,.cons r t,f=>by
  rw [List.all_cons,z24] at f
  rw [List.any_cons,List.any_cons,rW r f.1,rX t f.2]
theorem jv{A:Around}{s:Shared}{x:V}{v:Value}(rx:aA x v)(fx:bJ x=true):∀{xs:List V} {us:List Value},au xs us->xs.all bJ=true->∀u∈us,SeqAt.EqAt A s u v (gM x u)
 | _,_,.nil,_=>λu hu=>by cases hu
 | y::xs,u::us,.cons r t,f=>λu' hu=>by
  rw [List.all_cons,z24] at f
  rcases z1d.mp hu with rfl|hu
  ·rw [rW r f.1];exact rV r rx f.1 fx
  ·exact jv rx fx t f.2 u' hu
abbrev inV(x:V)(xs:List V):Bool:=xs.any λy=>gL y x
abbrev yI(K:W.Frag)(neg:Bool):R2:=λx y H Q=>∃p xs,y=.ref p/\(bM K H p xs∨br K H p xs)/\bJ x=true/\xs.all bJ=true/\Q (.bl (if neg then !inV x xs else inV x xs)) H
def rY:cf X (compareOp .In) (yI X.K false):=by
 intro pins s σ H x y v u Q I rx ry h
 obtain⟨p,xs,rfl,hq,fx,fs,q⟩:=h
 cases ry
 rcases hq with hq|hq
 ·obtain⟨its,r,pl,hz⟩:=I.list hq
  refine SeqAt.in_listAt (gM x) pl.isList (λw hw=>jv rx fx r fs w (by simpa using hw)) ⟨.bl _,H,I,rfl,?_⟩
  rw [show its.toArray.any (gM x)=its.any (gM x) by simp,rX r fs]
  exact q
 ·obtain⟨its,r,pl,hz⟩:=I.tuple hq
  refine SeqAt.in_tupleAt (gM x) pl (λw hw=>jv rx fx r fs w (by simpa using hw)) ⟨.bl _,H,I,rfl,?_⟩
  rw [show its.toArray.any (gM x)=its.any (gM x) by simp,rX r fs]
  exact q
def Bk:cf X (compareOp .NotIn) (yI X.K true):=by
 intro pins s σ H x y v u Q I rx ry h
 obtain⟨p,xs,rfl,hq,fx,fs,q⟩:=h
 cases ry
 rcases hq with hq|hq
 ·obtain⟨its,r,pl,hz⟩:=I.list hq
  refine SeqAt.notIn_listAt (gM x) pl.isList (λw hw=>jv rx fx r fs w (by simpa using hw)) ⟨.bl _,H,I,rfl,?_⟩
  rw [show its.toArray.any (gM x)=its.any (gM x) by simp,rX r fs]
  exact q
 ·obtain⟨its,r,pl,hz⟩:=I.tuple hq
  refine SeqAt.notIn_tupleAt (gM x) pl (λw hw=>jv rx fx r fs w (by simpa using hw)) ⟨.bl _,H,I,rfl,?_⟩
  rw [show its.toArray.any (gM x)=its.any (gM x) by simp,rX r fs]
  exact q
def yac:y6 X (.builtin "len") (λxs H Q=>∃p ys,xs=[.ref p]/\(bM X.K H p ys∨br X.K H p ys)/\Q (.int ys.length) H):=by
 intro pins s σ H xs us Q I r h
 obtain⟨p,ys,rfl,hq,q⟩:=h
 obtain⟨u,rfl,rx⟩:=dF r
 cases rx
 have hn:=gH
 rcases hq with hq|hq
 ·obtain⟨its,r',pl,hz⟩:=I.list hq
  have hlen:=r'.length
  exact Calls.call_len_list pl.isList (by simp only [zc]<;>lia) ⟨.int ys.length,H,I.tok _,⟨s.toks+1,by rw [zc,hlen]⟩,q⟩
 ·obtain⟨its,r',pl,hz⟩:=I.tuple hq
  have hlen:=r'.length
  exact len_tuple pl (by simp only [zc]<;>lia) ⟨.int ys.length,H,I.tok _,⟨s.toks+1,by rw [zc,hlen]⟩,q⟩
def yad:y6 X (.builtin "len") (λxs H Q=>∃z,xs=[.str z]/\z.length≤sizeLine/\Q (.int z.length) H):=by
 intro pins s σ H xs us Q I r h
 obtain⟨z,rfl,hz,q⟩:=h
 obtain⟨u,rfl,t,rfl⟩:=dF r
 have hn:=gH
 exact len_str (by lia) ⟨.int z.length,H,I.tok _,⟨_,rfl⟩,q⟩
def y6.or{f:Value}{r r':List V->Hp->VK->Prop}(h:y6 X f r)(h':y6 X f r'):y6 X f (λxs H Q=>r xs H Q∨r' xs H Q):=by
 intro pins s σ H xs us Q I rs q
 rcases q with q|q
 ·exact h pins s σ H xs us Q I rs q
 ·exact h' pins s σ H xs us Q I rs q
def yae:y6 X (.type "list") (λxs H Q=>∃p ys,xs=[.ref p]/\(bM X.K H p ys∨br X.K H p ys)/\∀l,H l=none->Q (.ref l) (aC H l (.lst ys))):=by
 intro pins s σ H xs us Q I r h
 obtain⟨p,ys,rfl,hq,q⟩:=h
 obtain⟨u,rfl,rx⟩:=dF r
 cases rx
 have fin:∀(its:List Value),au ys its->ys.length≤sizeLine->∀(h':Heap) (c':Nat),(∀b o',s.heap.get? b=some o'->h'.get? b=some o') ->
   h'.get? s.heap.objs.size=some { cls:=.type "list",dict:=none,data:=.seq its.toArray c',slots:=#[] }->EP X pins σ Q (.ref s.heap.objs.size) { s with heap:=h' }:=λits r' hz h' c' kp e =>
  ⟨.ref s.heap.objs.size,_,I.laid (t':=s.toks) kp (zf _) (show dR X.prog X.w _ h' _ (.lst ys) from ⟨hz,its,c',r',e⟩),rfl,q _ (I.hok.fresh (zf _))⟩
 rcases hq with hq|hq
 ·obtain⟨its,r',pl,hz⟩:=I.list hq
  have hlen:=r'.length
  obtain⟨o,ho,hc,n,hd⟩:=pl.isList
  exact call_list_seq p (.inl rfl) ho hc hd (λh' c' kp e=>fin its r' hz h' c' kp e) (by simp only [zc]<;>lia)
 ·obtain⟨its,r',pl,hz⟩:=I.tuple hq
  have hlen:=r'.length
  obtain⟨o,ho,hc,n,hd⟩:=pl
  exact call_list_seq p (.inr rfl) ho hc hd (λh' c' kp e=>fin its r' hz h' c' kp e) (by simp only [zc]<;>lia)
def yb1:y6 X (.type "tuple") (λxs H Q=>∃p ys,xs=[.ref p]/\((bM X.K H p ys/\∀l,H l=none->Q (.ref l) (aC H l (.tup ys)))∨(br X.K H p ys/\Q (.ref p) H))):=by
 intro pins s σ H xs us Q I r h
 obtain⟨p,ys,rfl,h⟩:=h
 obtain⟨u,rfl,rx⟩:=dF r
 cases rx
 rcases h with⟨hq,q⟩| ⟨hq,q⟩
 ·obtain⟨its,r',pl,hz⟩:=I.list hq
  have hlen:=r'.length
  refine call_tuple_list pl.isList (λh' kp=>?_) (by simp only [zc]<;>lia)
  have I1:Inv X pins σ H { s with heap:=h' }:=I.kept (t':=s.toks) kp
  have I2:Inv X pins σ (aC H h'.objs.size (.tup ys)) { s with heap:=h'.push { cls:=.type "tuple",data:=.seq its.toArray } } :=
   I1.laid (t':=s.toks) (λb o e=>zd _ e) (zf _) (show dR X.prog X.w _ _ _ (.tup ys) from ⟨hz,its,r',ky.mk' _ _⟩)
  exact⟨.ref h'.objs.size,_,I2,rfl,q _ (I1.hok.fresh (zf _))⟩
 ·obtain⟨its,r',pl,hz⟩:=I.tuple hq
  exact call_tuple_same pl ⟨.ref p,H,I,rfl,q⟩
abbrev yJ(K:W.Frag)(T:String)(x:V)(H:Hp):Prop:=match x with
 | .str _=>T="str"
 | .int _=>T="int"
 | .ref p=>(T="list"/\∃xs,bM K H p xs)∨(T="tuple"/\∃o,K.lookup p=some o/\o.cls=.type "tuple"/\o.dict=none) ∨
   (T="dict"/\((∃kvs,H p=some (.dK kvs))∨∃kvs,H p=some (.dT kvs)))∨(T="set"/\∃S n,H p=some (.set S n))
 | _=>False
def rZ{pins:List (Addr×Obj)}{σ:St}{H:Hp}{s:Shared}{T:String}{x:V}{v:Value}(I:Inv X pins σ H s)(r:aA x v)(ty:yJ X.K T x H) :
  s.TypeIs v T/\∀a,v=.ref a->∃ob,s.heap.get? a=some ob/\ob.dict=none:=by
 cases x with
 | str z =>
  obtain⟨t,rfl⟩:=r
  cases (show T="str" from ty)
  exact⟨typeIs_str s z t,λ_ e=>nomatch e⟩
 | int i =>
  obtain⟨t,rfl⟩:=r
  cases (show T="int" from ty)
  exact⟨typeIs_int s i t,λ_ e=>nomatch e⟩
 | ref p =>
  cases r
  rcases ty with⟨rfl,xs,hq⟩| ⟨rfl,o,hk,hc,hd⟩| ⟨rfl,hk⟩| ⟨rfl,S,n,hk⟩
  ·obtain⟨its,_,pl,_⟩:=I.list hq
   refine⟨pl.isList.typeIs,λa e=>?_⟩
   cases e
   obtain⟨o,n,e,c,hd,_⟩:=pl
   exact⟨o,e,hd⟩
  ·refine⟨⟨o,I.kIn p o hk,hc⟩,λa e=>?_⟩
   cases e
   exact⟨o,I.kIn _ o hk,hd⟩
  ·have z:∃o,s.heap.get? p=some o/\o.ExactDict:=by
    rcases hk with⟨kvs,hk⟩| ⟨kvs,hk⟩
    ·obtain⟨_,_,_,_,o,_,_,e,ex,_⟩:=I.hok p _ hk
     exact⟨o,e,ex⟩
    ·obtain⟨_,_,_,_,o,_,_,e,ex,_⟩:=I.hok p _ hk
     exact⟨o,e,ex⟩
   obtain⟨o,e,ex⟩:=z
   refine⟨⟨o,e,ex.1⟩,λa e2=>?_⟩
   cases e2
   exact⟨o,e,ex.2.1⟩
  ·obtain⟨o,_,_,_,e,ex,_⟩:=I.hok p _ hk
   refine⟨⟨o,e,ex.1⟩,λa e2=>?_⟩
   cases e2
   exact⟨o,e,ex.2.1⟩
 | _=>exact False.elim ty
abbrev se(K:W.Frag)(T:String)(r:V->List V->Hp->VK->Prop)(to:TE):TE:=λσ H Q=>to σ H λx H1=>yJ K T x H1/\r x [] H1 Q
abbrev Bl(K:W.Frag)(T:String)(r:V->List V->Hp->VK->Prop)(to:TE)(t:TA):TE:=λσ H Q=>to σ H λx H1=>yJ K T x H1/\t σ H1 λxs H2=>r x xs H2 Q
variable {o e:Expr}{es:List Expr}{to:TE}{t:TA}{name:Str}{apos yd1:Pos}{T id:String}{r:V->List V->Hp->VK->Prop}
def Bm(pa:PlainAttrs T)(slot:Slot T name id)(hty:typeOf (.builtin id)=pure (.type "method_descriptor"))(hm:mM X id r)(ho:PE X o to)
  (y187:‹attributeBase o name X.env (eval o X.env)=eval o X.env›) (y194:‹(apos.endLine == yd1.line)=true›):PE X (.Call (.Attribute o name apos) [] [] yd1) (se X.K T r to):=by
 intro pins s σ H Q I h
 refine wpAny_Call_method0_late y187 y194 (aJ (ho pins s σ H _ I h) λv s1 zz=>?_)
 obtain⟨x,H1,I1,r1,ty,q1⟩:=zz
 obtain⟨h1,h2⟩:=rZ I1 r1 ty
 exact⟨T,id,pa,slot,hty,h1,h2,Calls.callWith_builtin rfl (PySem.evalArgs_none (hm pins s1 σ H1 x [] v [] Q I1 r1 .nil q1))⟩
def nP(pa:PlainAttrs T)(slot:Slot T name id)(hty:typeOf (.builtin id)=pure (.type "method_descriptor"))(hm:mM X id r)(ho:PE X o to)(ha:PA X (e::es) t)
  (y187:‹attributeBase o name X.env (eval o X.env)=eval o X.env›)
  (y18f:‹((backTo yd1 (starEach (e::es) X.env)).all (λx=>!x.1)&&(backToKw yd1 (keywordEach [] X.env)).all (λx=>x.1.isSome)
   && decide ((e::es).length+([]:List Keyword).length+(if ([]:List Keyword).isEmpty then 0 else 1)<30))=true›)
  (y194:‹(apos.endLine == yd1.line)=true›) (hs:‹starEach (e::es) X.env=(false,eval e X.env)::starEach es X.env›) (y196:‹(backTo yd1 (starEach es X.env)).any (·.1)=false›) :
  PE X (.Call (.Attribute o name apos) (e::es) [] yd1) (Bl X.K T r to t):=by
 intro pins s σ H Q I h
 refine wpAny_Call_method_late y187 y18f y194 rfl (aJ (ho pins s σ H _ I h) λv s1 zz=>?_)
 obtain⟨x,H1,I1,r1,ty,q1⟩:=zz
 obtain⟨h1,h2⟩:=rZ I1 r1 ty
 refine⟨T,id,pa,slot,hty,h1,h2,?_⟩
 have hA:=ha yd1 pins s1 σ H1 _ I1 q1
 rw [hs] at hA ⊢
 refine Calls.callWith_builtin (by show (false||(backTo yd1 (starEach es X.env)).any (·.1))=false;rw [y196]<;>rfl) (Calls.evalArgs_plain ?_)
 exact aJ hA λus s2 ⟨vs,H2,I2,r2,q2⟩=>hm pins s2 σ H2 x vs v us Q I2 r1 r2 q2
end
end
section
abbrev yK(X:Cx)(id:String)(r:V->List V->Hp->VK->Prop):Prop :=
 ∀(pins:List (Addr×Obj)) (s:Shared) (σ:St) (H:Hp) (x:V) (xs:List V) (v:Value) (us:List Value) (Q:VK),Inv X pins σ H s->aA x v->au xs us->r x xs H Q ->
  wpAny (model X.prog X.w) X.A (call (.builtin id) (v::us)) (EP X pins σ Q) X.xe s
def au.one:∀{x:V} {us:List Value},au [x] us->∃u,us=[u]/\aA x u:=by
 intro x us h
 rcases h with _|⟨r,_|_⟩
 exact⟨_,rfl,r⟩
def au.zero:∀{us:List Value},au [] us->us=[]
 | _,.nil=>rfl
theorem au.dropLast{xs:List V}{us:List Value}(h:au xs us):au xs.dropLast us.dropLast:=by
 induction h with
 | nil=>exact .nil
 | cons r t ih =>
  cases t with
  | nil=>exact .nil
  | cons q t'=>exact .cons r ih
theorem au.reverse{xs:List V}{us:List Value}(h:au xs us):au xs.reverse us.reverse:=by
 induction h with
 | nil=>exact .nil
 | cons r t ih=>rw [List.reverse_cons,List.reverse_cons];exact au.append ih (.cons r .nil)
theorem au.rep{xs:List V}{us:List Value}(h:au xs us):∀k:Nat,au (List.replicate k xs).flatten (List.replicate k us).flatten
 | 0=>.nil
 | k+1=>by
  rw [List.replicate_succ,List.replicate_succ,List.flatten_cons,List.flatten_cons]
  exact au.append h (au.rep h k)
def Bo{α:Type}(l:List α):l.eraseIdx (l.length-1)=l.dropLast:=by
 induction l with
 | nil=>rfl
 | cons a r ih =>
  cases r with
  | nil=>rfl
  | cons b r =>
   have e:(a::b::r).length-1=((b::r).length-1)+1:=by
    have h1:(a::b::r).length=r.length+2:=rfl
    have h2:(b::r).length=r.length+1:=rfl
    lia
   rw [e,List.eraseIdx_cons_succ,ih]
   all_goals rfl
theorem eW(its:List Value):∀(k:Nat) (acc:List Value),
  List.foldl (λx1 x2=>x1++x2) acc.toArray (List.replicate k its.toArray)=(acc++(List.replicate k its).flatten).toArray
 | 0,acc=>by simp
 | k+1,acc=>by
  have e:acc.toArray++its.toArray=(acc++its).toArray:=by simp
  have e2:(acc++its)++(List.replicate k its).flatten=acc++(List.replicate (k+1) its).flatten:=by
   rw [List.replicate_succ,List.flatten_cons,z20]
  rw [<- e2,<- eW its k (acc++its),<- e,List.replicate_succ,List.foldl_cons]
section
variable {X:Cx}{pins:List (Addr×Obj)}{σ:St}{H:Hp}{s:Shared}{l b:Addr}{xs ys zs:List V}
def Inv.lset{its its':List Value}{n:Nat}{f:Array Value->Array Value}{t':Nat}(I:Inv X pins σ H s)(hH:H l=some (.lst xs))
  (e:s.heap.get? l=some { cls:=.type "list",data:=.seq its.toArray n }) (hf:f its.toArray=its'.toArray) (hv:au ys its') (hz:ys.length≤sizeLine) :
  Inv X pins σ (aC H l (.lst ys)) { s with heap:=s.heap.update l (Obj.mapSeq f),toks:=t' }:=by
 have q:=PySem.IsL.update e f
 rw [hf] at q
 refine I.write (x:=l) (e:=l) (by rw [hH];exact trivial) (.inl rfl) (λb' u hb hu=>(Heap.get?_update_other s.heap (Obj.mapSeq f) (Ne.symm hb)).trans hu) ⟨_,q⟩ ?_
 exact⟨hz,its',_,hv,q⟩
def Inv.lnew{its:List Value}{t':Nat}(I:Inv X pins σ H s)(hv:au ys its)(hz:ys.length≤sizeLine) :
  Inv X pins σ (aC H s.heap.objs.size (.lst ys)) { s with heap:=s.heap.push { cls:=.type "list",data:=.seq its.toArray },toks:=t' } :=
 I.laid (λ_ _ q=>zd _ q) (zf _) ⟨hz,its,0,hv,z27 _ rfl⟩
theorem Inv.fresh(I:Inv X pins σ H s):H s.heap.objs.size=none:=I.hok.fresh (zf _)
def Inv.y200(I:Inv X pins σ H s)(hH:H l=some (.lst xs)):xs.length≤sizeLine/\∃(its:List Value) (n:Nat),au xs its/\xs.length=its.length/\s.heap.get? l=some { cls:=.type "list",data:=.seq its.toArray n }:=by
 obtain⟨z,its,n,r,e⟩:=I.hok l _ hH
 exact⟨z,its,n,r,r.length,e⟩
def nQ{n:Nat}(h:n≤sizeLine):Builtin.List.listTooLong n=false:=by
 unfold Builtin.List.listTooLong
 exact decide_eq_false (by lia)
end
section
variable {X:Cx}
abbrev sf:V->List V->Hp->VK->Prop:=λx vs H Q=>∃l xs y,x=.ref l/\vs=[y]/\H l=some (.lst xs)/\xs.length<sizeLine/\Q .non (aC H l (.lst (xs++[y])))
def si:yK X "list.append" sf:=by
 intro pins s σ H x vs v us Q I rx rv h
 obtain⟨l,xs,y,rfl,rfl,hH,hz,q⟩:=h
 cases rx
 obtain⟨u,rfl,ru⟩:=rv.one
 obtain⟨z,its,n,r,hl,e⟩:=I.y200 hH
 refine call_meets F.slot_list_append ⟨_,e,rfl⟩ F.entry_list_append (F.args_list_append_2 _ _) (PySem.list_append l its.toArray n u (by rw [zc];lia)) ⟨e,?_⟩
 refine⟨.non,_,I.lset (its':=its++[u]) hH e (by simp) (r.append (.cons ru .nil)) ?_,rfl,q⟩
 rw [za,List.length_singleton]
 lia
abbrev sj:V->List V->Hp->VK->Prop:=λx vs H Q=>∃l b xs zs,x=.ref l/\vs=[.ref b]/\H l=some (.lst xs)/\H b=some (.lst zs)/\xs.length+zs.length≤sizeLine/\Q .non (aC H l (.lst (xs++zs)))
def Bp:yK X "list.extend" sj:=by
 intro pins s σ H x vs v us Q I rx rv h
 obtain⟨l,b,xs,zs,rfl,rfl,hH,hB,hz,q⟩:=h
 cases rx
 obtain⟨u,rfl,ru⟩:=rv.one
 cases ru
 obtain⟨z,its,n,r,hl,e⟩:=I.y200 hH
 obtain⟨z2,y1ba,n2,r2,hl2,e2⟩:=I.y200 hB
 have hsz:its.toArray.size+y1ba.toArray.size≤sizeLine:=by rw [zc,zc];lia
 have y195:¬ (!its.toArray.isEmpty&&Builtin.List.listTooLong (its.toArray.size+y1ba.toArray.size))=true:=by
  rw [nQ hsz,Bool.and_false]
  exact z15
 refine call_meets F.slot_list_extend ⟨_,e,rfl⟩ F.entry_list_extend (F.args_list_extend_2 _ _)
  (AutoSeq1.list_extend_list_list_0 l its.toArray n b y1ba.toArray n2 y195 (by rw [zc];lia) (by lia)) ⟨e,e2,?_⟩
 refine⟨.non,_,I.lset (its':=its++y1ba) hH e (by simp) (r.append r2) ?_,rfl,q⟩
 rw [za]
 lia
abbrev sk:V->List V->Hp->VK->Prop:=λx vs H Q=>∃l xs y,x=.ref l/\vs=[]/\H l=some (.lst xs)/\xs[xs.length-1]?=some y/\Q y (aC H l (.lst xs.dropLast))
def Bq:yK X "list.pop" sk:=by
 intro pins s σ H x vs v us Q I rx rv h
 obtain⟨l,xs,y,rfl,rfl,hH,hy,q⟩:=h
 cases rx
 have hus:=rv.zero
 subst hus
 obtain⟨z,its,n,r,hl,e⟩:=I.y200 hH
 obtain⟨u,hu,ru⟩:=r.get hy
 have hy':its.toArray[its.toArray.size-1]?=some u:=by
  show its.toArray[its.length-1]?=some u
  rw [<- Array.getElem?_toList,<- hl]
  exact hu
 refine call_meets F.slot_list_pop ⟨_,e,rfl⟩ F.entry_list_pop (F.args_list_pop_1 _) (MeetsSeq.list_pop_last l its.toArray n u hy' (by rw [zc];lia)) ⟨e,?_⟩
 refine⟨y,_,I.lset (its':=its.dropLast) hH e ?_ r.dropLast ?_,ru,q⟩
 ·show its.toArray.eraseIdxIfInBounds (its.toArray.size-1)=its.dropLast.toArray
  rw [zc,List.eraseIdxIfInBounds_toArray,Bo]
 ·rw [List.length_dropLast]
  lia
abbrev k6:R2:=λx y H Q=>∃l b xs zs,x=.ref l/\y=.ref b/\H l=some (.lst xs)/\H b=some (.lst zs)/\xs.length+zs.length≤sizeLine/\∀p,H p=none->Q (.ref p) (aC H p (.lst (xs++zs)))
def Br:cf X (binaryOp .Add) k6:=by
 intro pins s σ H x y v u Q I rx ry h
 obtain⟨l,b,xs,zs,rfl,rfl,hH,hB,hz,q⟩:=h
 cases rx
 cases ry
 obtain⟨z,its,n,r,hl,e⟩:=I.y200 hH
 obtain⟨z2,y1ba,n2,r2,hl2,e2⟩:=I.y200 hB
 refine PySem.P.add_list e e2 ?_ (by rw [zc,zc];lia)
 have ea:its.toArray++y1ba.toArray=(its++y1ba).toArray:=by simp
 rw [ea]
 exact⟨.ref _,_,I.lnew (t':=s.toks) (r.append r2) (by rw [za];lia),rfl,q _ I.fresh⟩
abbrev k7:R2:=λx y H Q=>∃l k xs,x=.ref l/\y=.int k/\H l=some (.lst xs)/\-(2 ^ 63)≤k/\k<2 ^ 63/\xs.length*k.toNat≤sizeLine /\
 ∀p,H p=none->Q (.ref p) (aC H p (.lst (List.replicate k.toNat xs).flatten))
def k9{α:Type}(xs:List α)(k:Nat):(List.replicate k xs).flatten.length=k*xs.length:=by
 induction k with
 | zero=>simp
 | succ k ih=>rw [List.replicate_succ,List.flatten_cons,za,ih,Nat.succ_mul,Nat.add_comm]
def Bt:cf X (binaryOp .Mult) k7:=by
 intro pins s σ H x y v u Q I rx ry h
 obtain⟨l,k,xs,rfl,rfl,hH,h1,h2,hz,q⟩:=h
 cases rx
 obtain⟨t,rfl⟩:=ry
 obtain⟨z,its,n,r,hl,e⟩:=I.y200 hH
 have hlen:its.toArray.size*k.toNat≤sizeLine:=by rw [zc,<- hl];exact hz
 have hcap:¬ its.toArray.size*k.toNat>(2 ^ 63-1) / 8:=by
  have:(sizeLine:Nat)≤(2 ^ 63-1) / 8:=by decide
  lia
 have hfit:¬ (!Builtin.List.listFitsIndex k)=true:=by
  rw [fitsIndex_both h1 h2]
  exact z15
 have y195:¬ Builtin.List.listTooLong (its.toArray.size*k.toNat)=true:=by
  rw [nQ hlen]
  exact z15
 have hnew:List.foldl (λx1 x2=>x1++x2) #[] (List.replicate (if its.toArray.isEmpty=true then 0 else k.toNat) its.toArray)=(List.replicate k.toNat its).flatten.toArray:=by
  have f0:∀m:Nat,List.foldl (λx1 x2=>x1++x2) #[] (List.replicate m its.toArray)=(List.replicate m its).flatten.toArray:=λm=>by
   have:=eW its m []
   rw [z29] at this
   exact this
  rw [f0]
  cases its with
  | nil=>simp
  | cons a r'=>rw [if_neg (by simp)]
 refine wpAny_binaryOp_repeat_ref (T:="list") (U:="int") (by decide) ⟨_,e,rfl⟩ (λs'=>typeIs_int s' k t) noFill_list_mul F.fills_int_mul F.slot_int_rmul repeat_list F.slot_int_index.lookup
  (call_meets F.slot_int_rmul (typeIs_int s k t) F.entry_int_rmul (F.args_int_rmul_2 _ _) (int___rmul___int_list k t l its.toArray n)
   ⟨e,rfl,⟨_,e,rfl⟩,call_meets F.slot_list_mul ⟨_,e,rfl⟩ F.entry_list_mul (F.args_list_mul_2 _ _) (AutoListH.list___mul___list_int_3 l its.toArray n k t hfit hcap y195) ⟨e,?_⟩⟩)
 rw [hnew]
 exact⟨.ref _,_,I.lnew (t':=s.toks) (r.rep k.toNat) (by rw [k9,Nat.mul_comm];exact hz),rfl,q _ I.fresh⟩
end
section
variable {prog:Program}{w:World}{A:Around}{E:Value->Shared->Prop}{s:Shared}
end
section
variable {X:Cx}
end
end
end L2
namespace Att
open PySem PySem.W PySem.Calls PyProof.Rows
def Bu{P:Params}{h:Heap}:∀(ns:List Int) (vs:List Value),WellAll P h vs (ns.map WData.int)->IntsAre vs ns:=by
 intro ns
 induction ns with
 | nil =>
  intro vs w
  rw [List.map_nil] at w
  cases w
  exact .nil
 | cons n ns ih =>
  intro vs w
  rw [z16] at w
  cases w with
  | cons a b =>
   cases a
   exact .cons _ _ (ih _ b)
def Bv{l:OpenLaw}{n:Nat}(hn:l.most=some n){P:Params}{h:Heap}{args:List WData}{vals:List Value}
  (hpre:l.row.toRowW.claim.pre args=true) (hwl:WellAll P h vals args) :
  ∃a vs ns,vals=[Value.ref a]/\args=[WData.list (ns.map WData.int)]/\h.get? a=some { cls:=.type "list",data:=.seq vs.toArray }/\IntsAre vs ns/\ns.length≤n:=by
 have hsh:WShape.hasAll [] args [.list .int]=true:=(pre_splitW hpre).1
 have hc:l.pre.holds [] { args:=args }=true:=(pre_splitW hpre).2
 obtain⟨d,r,rfl,h1,h2⟩:=hasAllW_cons hsh
 obtain rfl:=hasAllW_nil h2
 obtain⟨xs,rfl,h3⟩:=hasW_list h1
 obtain⟨ns,rfl⟩:=items_int h3
 have hlen:ns.length≤n:=by
  unfold OpenLaw.pre at hc
  have h4:(WTm.not (.lt (.lit (.int (n:Int))) (.len (.arg 0)))).holds [] { args:=[.list (ns.map .int)] }=true:=by
   have h4:=(holds_andW hc).1
   rw [hn] at h4
   exact h4
  have h5:=condW_of h4 (w_not (w_lt w_lit (w_len_list (w_arg rfl))))
  rw [z12] at h5
  refine Nat.le_of_not_lt λq=>?_
  have q':(n:Int)<((ns.length:Nat):Int):=by lia
  first
   | (rw [decide_eq_true q'] at h5;exact absurd h5 (by decide))
   | (simp at h5;lia)
 cases hwl with
 | cons w1 w2 =>
  cases w2
  cases w1 with
  | list ho y181=>exact⟨_,_,ns,rfl,rfl,ho,Bu ns _ y181,hlen⟩
def Bw(l:OpenLaw)(args:List WData):l.row.toRowW.claim.post args (.bool true) args=true :=
 postW_of (r:=l.row.toRowW) (X:=(true == true))
  (show WShape.has [] (.bool true) .bool=true by first|rfl|decide|simp [WShape.has,WShape.arms,WShape.armsAll])
  (show (WTm.eq .res (.lit (.bool true))).value [] { args:=args,res:=some (.bool true),after:=args }=some (.bool (true == true)) from w_eq_bool (w_res rfl) w_lit) rfl
def y7f{l:OpenLaw}{n:Nat}{q:Program}{loose:List Str}{XP:(Str->Option Value)->Heap->Prop}{YP:World->Heap->Prop}{d:DefRec}
  (hn:l.most=some n) (hdf:d.params.defaults=[])
  (call:∀(w:World) (s₀ s₁:Shared) (mg mb:Str->Option Value) (fa:Addr) (o:Obj) (pm cd doc:Value) (a:Addr) (vs:List Value) (ns:List Int),
   Ground q loose [] XP w s₀ mg mb s₁.heap->YP w s₁.heap ->
   s₁.heap.get? fa=some o->o.data=.func (docDef d.name d.params d.body d.scope pm cd doc)->s₁.heap.CodeRec cd d.name->mg d.name=some (.ref fa) ->
   s₁.heap.get? a=some { cls:=.type "list",data:=.seq vs.toArray }->IntsAre vs ns->ns.length≤n->s₁.gens=#[] ->
   codeAny (model l.prog w) callerA (.call (.ref fa) ⟨[.ref a],[]⟩) (λr s'=>r=.ok (.ret (.bool true))/\OldK s₁.heap s'.heap/\s'.os=s₁.os/\AllBare s'.gens) s₁) :
  WalkO q loose XP YP l.row.toRowW d [] (λf vs=>PySem.call f vs):=by
 intro w s₀ s₁ mg mb G Y fa o pm cd doc dV kV ho hd hcd hD hmg hg args vals as hpre hlay hrd hwl hlo
 obtain rfl:dV=.none:=Dflts.none hD hdf
 obtain rfl:kV=.none:=Dflts.noKw hD
 obtain⟨a,vs,ns,rfl,rfl,hobj,hints,hlen⟩:=Bv hn hpre hwl
 refine enter_call (codeAny_mono (call w s₀ s₁ mg mb fa o pm cd doc a vs ns G Y ho (fd_plain hd) hcd hmg hobj hints hlen hg) λr s' hq=>?_)
 obtain⟨rfl,h2,h3,h4⟩:=hq
 exact⟨.inl ⟨.bool true,.bool true,[],rfl,λ_=>rfl,.bool true,Bw l _,λ_=>⟨List.Pairwise.nil,λ_ hm=>(nomatch hm)⟩⟩,h2,h3,h4⟩
section
variable {prog:Program}{w:World}{A:Around}{E:Value->Shared->Prop}{s:Shared}{K:Frag}
end
end Att
namespace L2
open PySem PySem.Spec PyProof.Rows
section
theorem su:∀{vs:List Value} {ns:List Int},IntsAre vs ns->au (ns.map V.int) vs
 | _,_,.nil=>.nil
 | _,_,.cons n t h=>.cons ⟨t,rfl⟩ (su h)
abbrev lg(H:Hp):Prop:=∀b,H b=none∨∃o xs,H b=some (.frz o (.lst xs))
def Bx{P:Program}{w:World}{K:W.Frag}{mg mb:Str->Option Value}{CX:gI}{k:Nat}{fa a:Addr}{fd:FuncData}{x:Str}{sp:Sp}{s₁:Shared}{vs:List Value}{ns:List Int}
  (KX:K.In s₁.heap) (hns:s₁.heap.Ns mainGlobals mg) (hb:s₁.heap.Ns builtinsNs mb) (hbb:∀x:Str,x≠"__name__"->mb x=bootBuiltins x) (hlim:s₁.heap.NoLimit) (hg:s₁.gens=#[])
  (ha:s₁.heap.get? a=some { cls:=.type "list",data:=.seq vs.toArray }) (hi:IntsAre vs ns) (hl:ns.length≤sizeLine) (hr:y55 k callerA)
  (F:∀base:Heap,K.In base->base.Ns mainGlobals mg->y46 P w K mg base CX k fa fd [x] sp) (hbind:∀(s:Shared) (u:Value),BindsTo s fd ⟨[u],[]⟩ [(x,u)])
  (hsp:∀H:Hp,lg H->bM K H a (ns.map V.int)->sp [.ref a] H (λv _=>v=.bl true) λ_ _ _=>False)
  (hCX:∀H e s',CX [] H s₁ (λ_ _ _=>False) e s'->False) :
  codeAny (model P w) callerA (.call (.ref fa) ⟨[.ref a],[]⟩) (λr s'=>r=.ok (.ret (.bool true))/\OldK s₁.heap s'.heap/\s'.os=s₁.os/\AllBare s'.gens) s₁:=by
 have rv:=su hi
 have lenV:=hi.length
 have core:∀H:Hp,lg H->bM K H a (ns.map V.int)->cP P w H s₁.heap->(∀b,H b≠none->b=a)->(H a≠none->K.lookup a=none) ->
   codeAny (model P w) callerA (.call (.ref fa) ⟨[.ref a],[]⟩) (λr s'=>r=.ok (.ret (.bool true))/\OldK s₁.heap s'.heap/\s'.os=s₁.os/\AllBare s'.gens) s₁:=by
  intro H hO hS hok hA hK
  have y84:∀{b:Addr} {o:Obj},s₁.heap.get? b=some o->H b=none->(ff s₁.heap H).get? b=some o:=λe n=>zO e n
  have noA:∀{b:Addr} {o:Obj} {es:Array DictEntry} {ep:Nat},s₁.heap.get? b=some o->o.data=.dict es ep->H b=none:=λ{b o es ep} e d=>by
   cases q:H b with
   | none=>rfl
   | some u =>
    have e':b=a:=hA b (by rw [q];simp)
    subst e'
    rw [ha] at e;cases e
    have d':Data.seq vs.toArray _=Data.dict es ep:=d
    cases d'
  have nsK:∀{b:Addr} {m:Str->Option Value},s₁.heap.Ns b m->(ff s₁.heap H).Ns b m:=λ{b m} ⟨o,es,ep,e,d,r⟩=>⟨o,es,ep,y84 e (noA e d),d,r⟩
  have hKb:K.In (ff s₁.heap H):=λb o e=>y84 (KX b o e) (by
   cases q:H b with
   | none=>rfl
   | some u =>
    have e':b=a:=hA b (by rw [q];simp)
    subst e'
    rw [hK (by rw [q];simp)] at e;cases e)
  have hM:Mod K mg (ff s₁.heap H):=⟨hKb,nsK hns,⟨mb,nsK hb,hbb⟩,let ⟨mc,h1,h2⟩:=hlim;⟨mc,nsK h1,h2⟩⟩
  have e0:y11 P w K mg (ff s₁.heap H) callerA [] s₁ H:=⟨rfl,hM,λb o e=>zP e,Nat.le_of_eq (zN _ _),trivial,λb hb=>absurd (show b∈([]:List Addr) from hb) (by simp),hok,.of_eq hg⟩
  refine codeAny_mono ((F _ hKb (nsK hns)).run callerA [] s₁ H ⟨[.ref a],[]⟩ [.ref a] [.ref a] _ _ hr e0 (hbind s₁ (.ref a)) (.cons rfl .nil) (hsp H hO hS)) λr s' h=>?_
  cases r with
  | error e=>exact (hCX H e s' h).elim
  | ok fl =>
   cases fl with
   | next=>exact False.elim h
   | brk=>exact False.elim h
   | cont=>exact False.elim h
   | ret u =>
    obtain⟨v,H',os,bare,un,hok',r',q⟩:=h
    have q':v=.bl true:=q
    subst q'
    obtain rfl:u=Value.bool true:=r'
    refine⟨rfl,OldK.of_keep λb o e=>?_,os,bare⟩
    cases q:H b with
    | none=>exact un.keep b o e q (by intro z;exact absurd (show b∈([]:List Addr) from z) (by simp)) (by simp)
    | some u =>
     rcases hO b with z|⟨ob,xs,z⟩
     ·rw [q] at z;cases z
     ·have z2:=un.y150 b ob _ z
      obtain⟨e1,_⟩:=hok b _ z
      obtain⟨e2,_⟩:=hok' b _ z2
      rw [e] at e1;cases e1
      exact e2
 cases hk:K.lookup a with
 | some o =>
  have e:=KX a o hk
  rw [ha] at e
  cases e
  refine core (λ_=>none) (λ_=>.inl rfl) (.inr ⟨_,vs.toArray,_,hk,rfl,rfl,rfl,by rw [zc,lenV];exact hl,by simpa using rv⟩) (λb u z=>by have z':(none:Option HO)=some u:=z;cases z') (λb z=>absurd rfl z) λz=>absurd rfl z
 | none =>
  refine core (λb=>if b=a then some (.frz { cls:=.type "list",data:=.seq vs.toArray } (.lst (ns.map V.int))) else none) (λb=>?_) (.inl (.inr ⟨{ cls:=.type "list",data:=.seq vs.toArray },if_pos rfl⟩)) (λb u z=>?_) (λb z=>?_) λ_=>hk
  ·by_cases hb:b=a
   ·exact .inr ⟨_,_,if_pos hb⟩
   ·exact .inl (if_neg hb)
  ·by_cases hb:b=a
   ·have z':=(if_pos hb).symm.trans z
    cases z'
    subst hb
    exact⟨ha,by rw [z12];exact hl,vs,_,rv,ha⟩
   ·have z':=(if_neg hb).symm.trans z
    cases z'
  ·by_cases hb:b=a
   ·exact hb
   ·exact absurd (if_neg hb) z
end
section
def y486{l:W.OpenLaw}{n k:Nat}{q:Program}{loose:List Str}{XP:(Str->Option Value)->Heap->Prop}{YP:World->Heap->Prop}{d:DefRec}{K:Params->W.Frag}{CX:World->gI}{sp:World->Sp}{x:Str}
  (hn:l.most=some n) (hn2:n≤sizeLine) (hdf:d.params.defaults=[]) (hr:y55 k callerA)
  (hY:∀(w:World) (h:Heap),YP w h->(K w.params).In h)
  (F:∀(w:World) (mg:Str->Option Value) (fa:Addr) (h:Heap),(K w.params).In h->h.Ns mainGlobals mg->mg d.name=some (.ref fa) ->
   ∃fd:FuncData,(∀(s:Shared) (u:Value),BindsTo s fd ⟨[u],[]⟩ [(x,u)]) /\
    ∀base:Heap,(K w.params).In base->base.Ns mainGlobals mg->y46 l.prog w (K w.params) mg base (CX w) k fa fd [x] (sp w))
  (hsp:∀(w:World) (H:Hp) (a:Addr) (ns:List Int),ns.length≤n->lg H->bM (K w.params) H a (ns.map V.int)->sp w [.ref a] H (λv _=>v=.bl true) λ_ _ _=>False)
  (hCX:∀(w:World) (H:Hp) (s:Shared) (e:Value) (s':Shared),CX w [] H s (λ_ _ _=>False) e s'->False) :
  W.WalkO q loose XP YP l.row.toRowW d [] (λf vs=>PySem.call f vs):=by
 refine Att.y7f hn hdf λw s₀ s₁ mg mb fa o pm cd doc a vs ns G Y ho hd hcd hmg hobj hints hlen hg=>?_
 have KX:=hY w _ Y
 obtain⟨fd,hb,hF⟩:=F w mg fa _ KX G.T.g hmg
 exact Bx KX G.T.g G.T.b G.T.builtins G.T.nolimit hg hobj hints (z19 hlen hn2) hr hF hb (λH hO hS=>hsp w H a ns hlen hO hS) λH e s'=>hCX w H s₁ e s'
end
section
abbrev fw(s:Stmt)(j:Nat):Stmt:=match s with
 | .ClassDef _ _ _ body _ _ _ _ _ _ _=>body.getD j (.Pass ⟨0,0,0,0⟩)
 | _=>.Pass ⟨0,0,0,0⟩
abbrev pZ(s:Stmt):Arguments:=match s with
 | .FunctionDef _ a _ _ _ _ _ _ _ _=>a
 | _=>{ posonlyargs:=[],args:=[],vararg:=none,kwonlyargs:=[],kw_defaults:=[],kwarg:=none,defaults:=[] }
abbrev kz(s:Stmt):List Stmt:=match s with
 | .FunctionDef _ _ b _ _ _ _ _ _ _=>b
 | _=>[]
abbrev bL(s:Stmt):Scope:=match s with
 | .FunctionDef _ _ _ _ _ _ sc _ _ _=>sc
 | _=>{ kind:=.function,names:=[],isGenerator:=false,isCoroutine:=false }
noncomputable abbrev bW:gI:=λ_ _ _ _ _ _=>False
noncomputable abbrev E0:XK:=λ_ _ _=>False
def sv{X:Cx}:bN bW X E0:=λ_ _ _ _ _ _ _ h=>h.elim
structure Fun(K:W.Frag)(x qual:Str)(st:Stmt)(f:Addr)(fd:FuncData):Prop where
 ex:∃(oc:Value) (od:Option Addr) (kV doc pm:Value) (an:Option Addr) (cdv ct:Value) (osl:Array (Option Value)),
  fd=W.fnOf x qual (pZ st) (kz st) (bL st) .none kV doc pm an cdv ct/\K.lookup f=some ⟨oc,od,.func fd,osl⟩/\W.codeIn K cdv qual=true
 kp:W.keepIn K (.ref f)=true
section
variable {P:Program}{w:World}{K:W.Frag}{mg:Str->Option Value}{base:Heap}
def Fun.ok{x qual:Str}{st:Stmt}{f:Addr}{fd:FuncData}{N ps:List Str}{k:Nat}{sp:Sp}(F:Fun K x qual st f fd)(S:y47 N ps (bL st))(len:∀vs H Q E,sp vs H Q E->vs.length=ps.length)
  (y188:∀(cdv:Value) (A:Around) (outer:List Env) (s:Shared) (H:Hp) (vs:List V) (Q:VK) (E:XK),y55 k (A.deeper (envOfC qual (bL st) s.heap.objs.size f cdv))->sp vs H Q E ->
   ∃t,dS (fu bW P w K mg base N qual (bL st) f cdv A outer s H E).nox (kz st) t/\t { nx:=λ_ H'=>Q .non H',rt:=Q } (start N vs) H):y46 P w K mg base bW (k+1) f fd ps sp:=by
 obtain⟨oc,od,kV,doc,pm,an,cdv,ct,osl,rfl,lk,hcd⟩:=F.ex
 refine qZ lk hcd S len λA outer s H vs Q E hr hsp=>?_
 obtain⟨t,h,q⟩:=y188 cdv A outer s H vs Q E hr hsp
 exact⟨t,h.nox,q⟩
def Fun.binds{x qual:Str}{st:Stmt}{f:Addr}{fd:FuncData}{ps:List Str}(F:Fun K x qual st f fd)
  (h:∀(kV doc pm:Value) (an:Option Addr) (cdv ct:Value) (us:List Value),us.length=ps.length->bindArgs (W.fnOf x qual (pZ st) (kz st) (bL st) .none kV doc pm an cdv ct) ⟨us,[]⟩=pure (ps.zip us)):cX K fd ps []:=by
 obtain⟨oc,od,kV,doc,pm,an,cdv,ct,osl,rfl,lk,hcd⟩:=F.ex
 exact .all (h kV doc pm an cdv ct)
def y151{x qual:Str}{st:Stmt}{f:Addr}{oc:Value}{od an:Option Addr}{osl:Array (Option Value)}{kV doc pm cdv ct:Value}(l:K.lookup f=some ⟨oc,od,.func (W.fnOf x qual (pZ st) (kz st) (bL st) .none kV doc pm an cdv ct),osl⟩)
  (c:W.codeIn K cdv qual=true) (k:W.keepIn K (.ref f)=true):Fun K x qual st f (W.fnOf x qual (pZ st) (kz st) (bL st) .none kV doc pm an cdv ct):=⟨⟨oc,od,kV,doc,pm,an,cdv,ct,osl,rfl,l,c⟩,k⟩
end
def jw{A:Around}{k:Nat}(hr:y55 k A):A.units+1<cLine:=Nat.lt_of_le_of_lt (Nat.add_le_add_left (by decide:1≤64) _) hr.units
section
variable {X:Cx}
def pv(i:Nat){x:Str}{pos:Pos}(hN:‹X.N[i]?=some x›)(hv:yD X.env.scope x:=by first|exact Or.inl rfl|exact Or.inr (Or.inl rfl)|exact Or.inr (Or.inr rfl))(hd:(x == ("__debug__" : Str))=false:=by decide)
  (hcd:(x == ("__classdict__" : Str))=false:=by decide):PE X (.Name x pos) (gG i):=qj hN hv hd hcd
def yab:y6 X (.builtin "len") (λxs H Q=>∃a kvs,xs=[V.ref a]/\H a=some (.dK kvs)/\Q (.int kvs.length) H):=by
 intro pins s σ H xs us Q I r h
 obtain⟨a,kvs,rfl,ha,q⟩:=h
 obtain⟨u,rfl,ru⟩:=dF r
 cases ru
 exact rj I (.inl ha) λt s' I'=>⟨.int kvs.length,H,I',⟨t,rfl⟩,q⟩
end
def sy{A B:Prop}(h:B):if false=true then A else B:=by
 rw [if_neg z15]
 exact h
def nR{A B:Prop}(h:A):if true=true then A else B:=by
 rw [if_pos rfl]
 exact h
abbrev dW(H H':Hp):Prop:=∀b o,H b=some o->H' b=some o
def dW.free{H H':Hp}(e:dW H H'){l:Addr}(h:H' l=Option.none):H l=Option.none:=by
 cases q:H l with
 | none=>rfl
 | some o =>
  rw [e l o q] at h
  cases h
section
variable {κ:Type}[DecidableEq κ]
end
end
end L2
set_option maxHeartbeats 4000000
namespace PySem
abbrev nS(names:List (Str×NameKind))(env:Env):List (Str×Addr) :=
 names.foldl (λcs p=>if p.2 == NameKind.free then (p.1,(env.cells.lookup p.1).getD 0)::cs else cs) []
theorem ybf:∀(l:List (Str×NameKind)) (acc:List (Str×Addr)),(∀p∈l,p.2=.free->∃c,env.cells.lookup p.1=some c) ->
  (forIn l acc (λ(x:Str×NameKind) (cs:List (Str×Addr))=>match x with
   | (name,kind)=>if (kind == NameKind.free)=true then (do let a <- cellOf env name;pure (ForInStep.yield ((name,a)::cs)):Sem _) else pure (ForInStep.yield cs))) =
  (pure (l.foldl (λcs p=>if p.2 == NameKind.free then (p.1,(env.cells.lookup p.1).getD 0)::cs else cs) acc):Sem _)
 | [],acc,_=>by simp
 | (n,k)::r,acc,h=>by
  have ih:=λa=>ybf r a λp hp=>h p (z23 _ hp)
  rw [List.forIn_cons]
  by_cases hk:k=.free
  ·subst hk
   obtain⟨c,e⟩:=h (n,.free) List.mem_cons_self rfl
   have e':cellOf env n=pure c:=by unfold cellOf;rw [e]
   show (if (NameKind.free == NameKind.free)=true then (do let a <- cellOf env n;pure (ForInStep.yield ((n,a)::acc)):Sem _) else pure (ForInStep.yield acc)) >>= _=_
   rw [if_pos (by rfl),e',pure_bind,pure_bind]
   rw [List.foldl_cons]
   have e2:(if ((n,NameKind.free).2 == NameKind.free)=true then ((n,NameKind.free).1,(env.cells.lookup (n,NameKind.free).1).getD 0)::acc else acc)=(n,c)::acc:=by
    rw [if_pos (by rfl),e];rfl
   rw [e2]
   exact ih _
  ·have hb:(k == NameKind.free)=false:=by simpa using hk
   simp only [hb,Bool.false_eq_true,if_false,pure_bind,ih,List.foldl_cons]
def ybe (h:∀p∈scope.names,p.2=.free->∃c,env.cells.lookup p.1=some c):closureFor scope env=pure (nS scope.names env):=by
 unfold closureFor nS
 have:=ybf scope.names [] h
 simp only [bind_pure]
 exact this
theorem lh{env:Env}:∀{l:List (Str×NameKind)} {acc:List (Str×Addr)} {y:Str} {c:Addr},
  (y,c)∈l.foldl (λcs p=>if p.2 == NameKind.free then (p.1,(env.cells.lookup p.1).getD 0)::cs else cs) acc↔(y,c)∈acc∨((y,NameKind.free)∈l/\c=(env.cells.lookup y).getD 0)
 | [],acc,y,c=>by simp
 | (n,k)::r,acc,y,c=>by
  rw [List.foldl_cons,lh]
  by_cases hk:k=.free
  ·subst hk
   simp only [beq_self_eq_true,if_true,z1d,Prod.mk.injEq]
   constructor
   ·rintro ((⟨rfl,rfl⟩| h)|⟨h1,h2⟩)
    ·exact .inr ⟨.inl ⟨rfl,trivial⟩,rfl⟩
    ·exact .inl h
    ·exact .inr ⟨.inr h1,h2⟩
   ·rintro (h|⟨⟨rfl,_⟩| h1,h2⟩)
    ·exact .inl (.inr h)
    ·exact .inl (.inl ⟨rfl,h2⟩)
    ·exact .inr ⟨h1,h2⟩
  ·have hb:(k == NameKind.free)=false:=by simpa using hk
   simp only [hb,Bool.false_eq_true,if_false,z1d,Prod.mk.injEq]
   constructor
   ·rintro (h|⟨h1,h2⟩)
    ·exact .inl h
    ·exact .inr ⟨.inr h1,h2⟩
   ·rintro (h|⟨⟨_,h⟩| h1,h2⟩)
    ·exact .inl h
    ·exact absurd h.symm hk
    ·exact .inr ⟨h1,h2⟩
theorem fX{β:Type}:∀{l:List (Str×β)} {a:Str} {b:β},l.lookup a=some b->(a,b)∈l
 | [],_,_,h=>by simp at h
 | (k,v)::l,a,b,h=>by
  rw [List.lookup_cons] at h
  split at h
  ·rename_i e
   cases h
   have:a=k:=by simpa using e
   subst this
   exact List.mem_cons_self
  ·exact z23 _ (fX h)
theorem sA{β:Type}:∀{l:List (Str×β)} {a:Str} {b:β},(a,b)∈l->∃b',l.lookup a=some b'
 | [],_,_,h=>by simp at h
 | (k,v)::l,a,b,h=>by
  rw [List.lookup_cons]
  split
  ·exact⟨v,rfl⟩
  ·rename_i e
   rcases z1d.mp h with q|q
   ·cases q
    simp at e
   ·exact sA q
theorem lq{env:Env}:∀{names:List (Str×NameKind)} {y:Str} {k:NameKind},
  (names.map λ(n,k)=>if (k == NameKind.free&&env.scope.kind == .function&&env.kindOf n == some .cell) then (n,NameKind.cell) else (n,k)).lookup y=some k ->
  names.lookup y=some k∨(names.lookup y=some .free/\k=.cell)
 | [],_,_,h=>by simp at h
 | (n,k0)::r,y,k,h=>by
  rw [z16] at h
  by_cases hc:(k0 == NameKind.free&&env.scope.kind == .function&&env.kindOf n == some .cell)=true
  ·simp only [hc,if_true] at h
   rw [List.lookup_cons] at h ⊢
   cases hy:y == n with
   | true =>
    rw [hy] at h
    cases h
    have:k0=.free:=by
     rw [z24,z24] at hc
     simpa using hc.1.1
    subst this
    exact .inr ⟨rfl,rfl⟩
   | false =>
    rw [hy] at h
    exact lq h
  ·rw [Bool.not_eq_true] at hc
   simp only [hc,Bool.false_eq_true,if_false] at h
   rw [List.lookup_cons] at h ⊢
   cases hy:y == n with
   | true =>
    rw [hy] at h
    exact .inl h
   | false =>
    rw [hy] at h
    exact lq h
theorem sD{env:Env}:∀{names:List (Str×NameKind)} {y:Str},names.lookup y=some .free ->
  (names.map λ(n,k)=>if (k == NameKind.free&&env.scope.kind == .function&&env.kindOf n == some .cell) then (n,NameKind.cell) else (n,k)).lookup y=some .cell ∨
  (names.map λ(n,k)=>if (k == NameKind.free&&env.scope.kind == .function&&env.kindOf n == some .cell) then (n,NameKind.cell) else (n,k)).lookup y=some .free
 | [],_,h=>by simp at h
 | (n,k0)::r,y,h=>by
  rw [z16]
  rw [List.lookup_cons] at h
  cases hy:y == n with
  | true =>
   rw [hy] at h
   cases h
   by_cases hc:(NameKind.free == NameKind.free&&env.scope.kind == .function&&env.kindOf n == some .cell)=true
   ·left;simp only [hc,if_true,List.lookup_cons,hy]
   ·rw [Bool.not_eq_true] at hc
    right;simp only [hc,Bool.false_eq_true,if_false,List.lookup_cons,hy]
  | false =>
   rw [hy] at h
   have ih:=sD (env:=env) h
   by_cases hc:(k0 == NameKind.free&&env.scope.kind == .function&&env.kindOf n == some .cell)=true
   ·simp only [hc,if_true,List.lookup_cons,hy];exact ih
   ·rw [Bool.not_eq_true] at hc
    simp only [hc,Bool.false_eq_true,if_false,List.lookup_cons,hy];exact ih
section
def yc3   (I:Nat->Shared->Prop)
  (turn:∀n s,I n s->wpAny (model prog w) A (pyNext it) (λr s₁=>match r with
   | none=>R (.ok .next) s₁
   | some v=>wpAny (model prog w) A (letOwnedTupleGo target it v) (λ_ s₂=>wpAny (model prog w) A (assign target env v) (λ_ s₃ =>
     wpAny (model prog w) A (forIn ifs true λc r=>if r=true then do let ok <- isTrue c env (eval c env);pure (ForInStep.yield ok) else pure (ForInStep.yield r)) (λok s₄ =>
      if ok=true then wpAny (model prog w) A (eval elt env) (λx s₅ =>
       wpAny (model prog w) A (call (.builtin "list.append") [acc,x]) (λ_ s₆=>∃m,m<n/\I m s₆) (λ_ _=>False) s₅) (λ_ _=>False) s₄
      else ∃m,m<n/\I m s₄) (λ_ _=>False) s₃) (λ_ _=>False) s₂) (λ_ _=>False) s₁) (λ_ _=>False) s)
  (n:Nat) (h:I n s) :
  codeAny (model prog w) A (.compLoop (.ListComp elt [⟨target,iter,ifs,0⟩] scope pos) 0 it acc env) R s:=by
 refine codeAny_loop rfl I (λn s hI=>?_) n h
 show wpAny _ A ((compTurn (.ListComp elt [⟨target,iter,ifs,0⟩] scope pos) 0 it acc env).onRaise (λx=>do noteFrame x env;theTreesLotGoes x)) _ _ s
 refine wpAny_noted ?_
 rw [compTurn_list]
 refine zb (wpAny_standAt (zb (wpAny_mono (turn n s hI) (λr s₁ h₁=>?_) λ_ _ f=>f.elim)))
 cases r with
 | none=>exact ze h₁
 | some v =>
  refine zb (wpAny_mono h₁ (λ_ s₂ h₂=>?_) λ_ _ f=>f.elim)
  refine zb (wpAny_mono h₂ (λ_ s₃ h₃=>zb (wpAny_mono h₃ (λok s₄ h₄=>?_) λ_ _ f=>f.elim)) λ_ _ f=>f.elim)
  cases ok with
  | false=>exact ze ⟨rfl,h₄⟩
  | true =>
   exact zb (zb (wpAny_mono h₄ (λx s₅ h₅=>zb (wpAny_mono h₅ (λ_ s₆ h₆=>ze (ze ⟨rfl,h₆⟩)) λ_ _ f=>f.elim)) λ_ _ f=>f.elim))
end
end PySem
namespace L2
open PySem PySem.Spec PyProof.Rows
section
structure y9 where
 fp:List Addr
 s:Shared
 H:Hp
 C:Addr
 pins:List (Addr×Obj)
abbrev dG(X:Cx)(scope:Scope)(N:List Str)(z:y9):Cx :=
 { X with N:=N,s₀:=z.s,H₀:=z.H,env:=compEnvC scope (nS scope.names X.env) z.C X.env,outer:=X.stack,ex:=z.fp,fn:=λ_=>false,pn:=X.pn++z.pins,xe:=λ_ _=>False }
structure CompOk(X:Cx)(scope:Scope)(x:Str)(ys:List Str)(ix:List Nat):Prop where
 kind:scope.kind=.function
 hx:scope.names.lookup x=some .local
 y233:∀p∈scope.names,p.2≠.cell
 names:∀p∈scope.names,p.2=.local->scope.names.lookup p.1=some .local
 fr:∀p∈scope.names,p.2=.free->X.env.kindOf p.1=some .cell∨X.env.kindOf p.1=some .free
 len:ys.length=ix.length
 here:∀(j:Nat) (y:Str) (i:Nat),ys[j]?=some y->ix[j]?=some i->scope.names.lookup y=some .free/\X.N[i]?=some y
 nd:(x::ys).Nodup
abbrev mO(X:Cx)(ifs:List Expr)(t:TT):Prop :=
 ∀(pins:List (Addr×Obj)) (s:Shared) (σ:St) (H:Hp) (Q:Bool->Hp->Prop),Inv X pins σ H s->t σ H Q ->
  wpAny (model X.prog X.w) X.A (forIn ifs true λc r=>if r=true then do let ok <- isTrue c X.env (eval c X.env);pure (ForInStep.yield ok) else pure (ForInStep.yield r)) (TP X pins σ Q) X.xe s
abbrev sE:TT:=λ_ H Q=>Q true H
def By:mO X [] sE:=λpins s σ H Q I h=>wpAny_tests_nil ⟨H,I,h⟩
def Bz (h:PT X c t):mO X [c] t:=λpins s σ H Q I q=>wpAny_tests_one (h pins s σ H Q I q)
section
def ycd   (I:Inv X pins σ H s)(f:iA X pins H C)(hs:Heap.SameBut C s.heap h'):Inv X pins σ H { s with heap:=h' } :=
 I.turned (λb o hb e=>(hs.2 b hb).trans e) f.1 f.2.1 f.2.2.2.1 f.2.2.2.2.1 f.2.2.2.2.2
end
section
end
section
end
section
end
end
end L2
namespace PySem
open PyProof.Rows
def BA:typeLookup (.type "list_reverseiterator") "__len__" = pure none:=by rw [typeLookup_type,builtinLookup_eq_fast];kernel_rfl
def BB:typeLookup (.type "list_reverseiterator") "__length_hint__" = pure (some (.builtin "list_reverseiterator.__length_hint__")):=by rw [typeLookup_type,builtinLookup_eq_fast];kernel_rfl
section
def BC (hT:s.TypeIs (.ref r) "list_reverseiterator")(h:Q false s):wpAny (model prog w) A (Builtin.List.listLengthHint (.ref r)) Q E s:=by
 unfold Builtin.List.listLengthHint
 refine zb (wpAny_specialOf hT BA ?_)
 show wpAny _ A (specialOf (.ref r) (Str.ofString "__length_hint__") >>= _) _ _ _
 refine zb (wpAny_specialOf hT BB ?_)
 generalize hid:("list_reverseiterator.__length_hint__" : String)=id0
 wp_delta
 rw [show splitId id0=some ("list_reverseiterator","__length_hint__") from by subst hid;decide +kernel]
 subst hid
 refine zb (wpAny_isInstance (b:=true) hT (by rw [isSubtype_type];kernel_rfl) ?_)
 refine wpAny_ite_split (λhab=>absurd hab (by decide)) (λ_=>?_)
 refine wpAny_ite_split (λ_=>?_) (λhab=>absurd (by decide +kernel) hab)
 refine wpAny_ite_split (λhab=>absurd hab (by decide +kernel)) (λ_=>?_)
 exact ze h
def yaf (hh:A.handled=none)(hl:s.heap.IsList l items)(hne:l≠it)(hi:s.heap.IsRevIter it l ((items.size:Int)-1))(hn:items.size≤sizeLine)
  (hQ:∀h' tk acc c,(∀b o,b≠it->s.heap.get? b=some o->h'.get? b=some o)->h'.get? s.heap.objs.size=some { cls:=.type "list",dict:=none,data:=.seq acc c,slots:=#[] } ->
   ItemsOf (λi v=>items[items.size-1-i]?=some v) acc items.size->Q (.ref s.heap.objs.size) { s with heap:=h',toks:=tk }) :
  wpAny (model prog w) A (call (.type "list") [.ref it]) Q E s:=by
 refine callType_codes (Q₁:=λobj s₁=>obj=.ref s.heap.objs.size/\s₁={ s with heap:=s.heap.push { cls:=.type "list",data:=.seq #[] } }) PySem.F.called_list (PySem.F.typeCall_list_1 _) PySem.F.entry_list_init
  (code_list_new _ ⟨rfl,rfl⟩) λobj s₁ h₁=>?_
 obtain⟨rfl,rfl⟩:=h₁
 have hS:(s.heap.push { cls:=.type "list",data:=.seq #[] }).get? s.heap.objs.size=some { cls:=.type "list",data:=.seq #[] }:=z27 _ rfl
 have hlt:l<s.heap.objs.size:=by obtain⟨_,e,_⟩:=hl;exact z17 e
 have hit:it<s.heap.objs.size:=by obtain⟨_,e,_⟩:=hi;exact z17 e
 refine⟨⟨_,hS,rfl⟩,PySem.F.args_list_init_2 _ _,?_⟩
 show wpAny _ _ (do let old <- Builtin.List.listItems (.ref s.heap.objs.size);Builtin.List.listUpdate (.ref s.heap.objs.size) (λ_=>#[]);letGo old.toList.reverse;Builtin.List.listExtendWith (.ref s.heap.objs.size) (.ref it) .none) _ _ _
 refine zb ?_
 unfold Builtin.List.listItems
 refine zb (wpAny_seqItems hS rfl (ze ?_))
 show wpAny _ _ (updateSeq s.heap.objs.size (λ_=>#[]) >>= λ_=>letGo (#[]:Array Value).toList.reverse >>= λ_=>Builtin.List.listExtendWith (.ref s.heap.objs.size) (.ref it) .none) _ _ _
 refine zb (wpAny_updateSeq hS rfl ?_)
 have hS₂:=Heap.get?_update_self (Obj.mapSeq (λ_=>(#[]:Array Value))) hS rfl
 generalize hh2:(s.heap.push { cls:=.type "list",data:=.seq #[] }).update s.heap.objs.size (Obj.mapSeq (λ_=>(#[]:Array Value)))=h2 at hS₂ ⊢
 have oth:∀b o,s.heap.get? b=some o->h2.get? b=some o:=λb o e=>by
  rw [<- hh2]
  exact (Heap.get?_update_other _ _ (Nat.ne_of_gt (z17 e))).trans (zd _ e)
 refine zb (wpAny_letGo ?_)
 have hl2:h2.IsList l items:=hl.at λo e=>oth l o e
 have hi2:h2.IsRevIter it l ((items.size:Int)-1):=hi.at λo e=>oth it o e
 have hSI:s.heap.objs.size≠it:=Nat.ne_of_gt hit
 have W:=Walks.listRev (prog:=prog) (w:=w) (A:=A.in1.in1) hh it l hne items
 have st:(λi (h:Heap)=>i≤items.size/\h.IsRevIter it l ((items.size:Int)-1-(i:Int))/\h.IsList l items) 0 h2:=⟨Nat.zero_le _,by simpa using hi2,hl2⟩
 unfold Builtin.List.listExtendWith
 have hT:({ s with heap:=h2 }:Shared).TypeIs (.ref it) "list_reverseiterator":=hi2.typeIs
 refine zb (wpAny_typeOf hT ?_)
 have h1:Builtin.List.listSameRef (.ref s.heap.objs.size) (.ref it)=false:=by simp [Builtin.List.listSameRef,hSI]
 have h2':(Value.type "list_reverseiterator" == Value.type "list")=false:=by decide
 have h3:(Value.type "list_reverseiterator" == Value.type "tuple")=false:=by decide
 simp only [h1,h2',h3,Bool.or_false,Bool.false_eq_true,if_false]
 refine zb (wpAny_pyIter_revIter hi2 ?_)
 refine zb (wpAny_holding (BC hT ?_))
 have hSf:s.heap.objs.size∉[it,l]:=by simp only [z1d,List.not_mem_nil,or_false,not_or];exact⟨hSI,Nat.ne_of_gt hlt⟩
 have key:∀(h:Heap) (c₁:Nat),(λi (h:Heap)=>i≤items.size/\h.IsRevIter it l ((items.size:Int)-1-(i:Int))/\h.IsList l items) 0 h->(∀b o,s.heap.get? b=some o->h.get? b=some o) ->
   h.get? s.heap.objs.size=some { cls:=.type "list",data:=.seq #[] c₁ }->codeAny (model prog w) A.in1 (.builtin "list.extend.loop" ⟨[.ref s.heap.objs.size,.ref it,.none],[]⟩) (wants (λr s₂=>r=.none/\Q (.ref s.heap.objs.size) s₂) E) { s with heap:=h }:=by
  intro h c₁ hst hk hS₁
  refine codeAny_extend_loopS W.toS hn s.heap.objs.size hSf .none items.size 0 _ #[] c₁ rfl (Nat.zero_le _) hst hS₁ (ItemsOf.nil _) λs' acc' c' hm hS' y17f=>?_
  rw [Moved.eq_with hm]
  refine⟨rfl,hQ s'.heap s'.toks acc' c' (λb o hb e=>hm.heap b o (λhmem=>?_) (hk b o e)) hS' y17f⟩
  rcases z1d.mp hmem with e'|hmem
  ·exact absurd (z17 e) (by rw [e'];exact z33 _)
  ·exact hb (z22.mp hmem)
 refine wpAny_ite_split (λ_=>?_) (λ_=>ze ⟨plainId_quiet PySem.F.plain_extend_loop _,key _ _ st oth hS₂⟩)
 refine zb (wpAny_rule ?_)
 refine zb ?_
 show wpAny _ _ (updateSeq s.heap.objs.size (·.push .none) >>= λ_=>updateSeq s.heap.objs.size (·.pop)) _ _ _
 refine zb (wpAny_updateSeq hS₂ rfl ?_)
 have hS₃:=Heap.get?_update_self (Obj.mapSeq (·.push Value.none)) hS₂ rfl
 refine wpAny_updateSeq hS₃ rfl ?_
 have hS₄:=Heap.get?_update_self (Obj.mapSeq (·.pop)) hS₃ rfl
 have oth2:∀b o,b≠s.heap.objs.size->h2.get? b=some o->((h2.update s.heap.objs.size (Obj.mapSeq (·.push Value.none))).update s.heap.objs.size (Obj.mapSeq (·.pop))).get? b=some o :=
  λb o hb e=>(Heap.get?_update_other _ _ (Ne.symm hb)).trans ((Heap.get?_update_other _ _ (Ne.symm hb)).trans e)
 refine ze ⟨plainId_quiet PySem.F.plain_extend_loop _,key _ _ ?_ (λb o e=>oth2 b o (z26 (z17 e)) (oth b o e)) hS₄⟩
 exact W.frame 0 _ _ st λb hb o e=>oth2 b o (λz=>hSf (z ▸ hb)) e
end
end PySem
namespace L2
open PySem PySem.Spec PyProof.Rows
section
section
def BD(hc:X.calm=true)(gl:Gl X "list")(ml:X.mg "list" = none)(gr:Gl X "reversed")(mr:X.mg "reversed" = none)(he:PE X e te)
  (hs1:‹starEach [e] X.env=[(false,eval e X.env)]›)
  (hs2:‹starEach [.Call (.Name "reversed" p2) [e] [] q2] X.env=[(false,eval (.Call (.Name "reversed" p2) [e] [] q2) X.env)]›) :
  PE X (.Call (.Name "list" p1) [.Call (.Name "reversed" p2) [e] [] q2] [] q1) (λσ H Q=>te σ H λx H1=>∃l ys,x=.ref l/\bM X.K H1 l ys/\∀p,H1 p=none->Q (.ref p) (aC H1 p (.lst ys.reverse))):=by
 intro pins s σ H Q I h
 refine Call_ (iz I gl ml PyProof.Rows.boot_list (PyProof.Rows.callWith_type1 ?_ (by rw [hs2];rfl) rfl))
 rw [hs2]
 show wpAny _ _ (spliced ((false,eval (.Call (.Name "reversed" p2) [e] [] q2) X.env)::backTo q1 [])) _ _ s
 refine Calls.spliced_cons ?_
 refine Call_ (iz I gr mr PyProof.Rows.boot_reversed (PyProof.Rows.callWith_type1 ?_ (by rw [hs1];rfl) rfl))
 rw [hs1]
 show wpAny _ _ (spliced ((false,eval e X.env)::backTo q2 [])) _ _ s
 refine Calls.spliced_cons (aJ (he pins s σ H _ I h) λu s1 ⟨x,H1,I1,r1,q1⟩=>Calls.spliced_nil ?_)
 obtain⟨l,ys,e1,hq,q⟩:=q1
 subst e1
 cases r1
 obtain⟨its,rv,p,hz⟩:=I1.list hq
 have hlen:=rv.length
 refine call_reversed_list p.isList (Calls.spliced_nil ?_)
 have hl1:(s1.heap.push (revObj l ((its.toArray.size:Int)-1))).IsList l its.toArray:=p.isList.push _
 have hlt:l<s1.heap.objs.size:=by obtain⟨_,e,_⟩:=p.isList;exact z17 e
 refine yaf (I1.ok.hd hc) hl1 (z26 hlt) ⟨_,z27 _ rfl,rfl,rfl⟩ (by rw [zc,<- hlen];exact hz) λh' tk acc c hk hD y17f=>?_
 have hk':∀b o,s1.heap.get? b=some o->h'.get? b=some o:=λb o e=>hk b o (z26 (z17 e)) (zd _ e)
 have hsz:s1.heap.objs.size≤(s1.heap.push (revObj l ((its.toArray.size:Int)-1))).objs.size:=by rw [Heap.size_push];exact Nat.le_succ _
 have hv:acc.toList=its.reverse:=by
  refine List.ext_getElem? λi=>?_
  by_cases hi:i<its.length
  ·have hi2:i<acc.size:=by rw [y17f.1,zc];exact hi
   have e:=y17f.2 i acc[i] (Array.getElem?_eq_getElem hi2)
   rw [List.getElem?_reverse hi,Array.getElem?_toList,Array.getElem?_eq_getElem hi2]
   simpa using e.symm
  ·rw [List.getElem?_eq_none (by rw [Array.length_toList,y17f.1,zc];lia),List.getElem?_eq_none (by rw [z30];lia)]
 refine⟨.ref _,_,I1.laid hk' hsz ?_,rfl,q _ (I1.hok.fresh hsz)⟩
 exact⟨by rw [z30];exact hz,acc.toList,c,by rw [hv];exact rv.reverse,by rw [Array.toArray_toList];exact hD⟩
def BE:cf X (binaryOp .FloorDiv) (rI (λ_ j=>0<j/\j<2 ^ 200) λi j=>.int (i / j)):=qL λi j _ _ _ _ _ hc q=>by
 have h0:j≠0:=by lia
 refine floordiv_int h0 ?_ (.inl (PyProof.noPylong_of_log2 ?_))
 ·rw [Int.fdiv_eq_ediv_of_nonneg _ (by lia)];exact q
 ·have:j.natAbs<2 ^ 200:=by lia
  have h1:j.natAbs≠0:=by lia
  exact Nat.lt_trans ((Nat.log2_lt h1).mpr this) (by decide)
theorem sF:∀{ys:List Str} {us:List Value},au (ys.map V.str) us->StrsAre us ys
 | [],_,r=>by rw [List.map_nil] at r;cases r;exact .nil
 | y::ys,_,r=>by
  rw [z16] at r
  cases r with
  | cons r1 r2 =>
   obtain⟨t,rfl⟩:=r1
   exact .cons y t (sF r2)
abbrev mP(K:W.Frag):V->List V->Hp->VK->Prop:=λx vs H Q=>∃(z:Str) (p:Addr) (ys:List Str),x=.str z/\vs=[.ref p]/\bM K H p (ys.map V.str)/\(ys.map (·.length)).sum+ys.length*z.length≤16777216/\Q (.str (Txt.join z ys)) H
def BF:mM X "str.join" (mP X.K):=by
 intro pins s σ H x xs v us Q I rx r h
 obtain⟨z,p,ys,rfl,rfl,hq,hz,q⟩:=h
 obtain⟨t,rfl⟩:=rx
 obtain⟨u,rfl,ru⟩:=dF r
 cases ru
 obtain⟨its,rv,pl,_⟩:=I.list hq
 exact join_list pl.isList (sF (by simpa using rv)) hz λt' k=>⟨.str (Txt.join z ys),H,I.tok _,⟨_,rfl⟩,q⟩
end
end
end L2
namespace L2
open PySem PySem.Spec PyProof.Rows Builtin.Str
section
section
abbrev sG:V->Option Int->Option Int->Hp->VK->Prop:=λx lo hi H Q=>∃z,x=.str z/\z.length≤sizeLine/\Q (.str (Txt.slice z lo hi)) H
def BG:kX X sG:=by
 intro pins s σ H x v vl vu lo hi sl Q I rx hs pl pu h
 obtain⟨z,rfl,hz,q⟩:=h
 obtain⟨t,rfl⟩:=rx
 refine⟨"str",_,PySem.F.slot_str_getitem.lookup,typeIs_str _ _ _,?_⟩
 cases pl with
 | none =>
  cases pu with
  | none=>exact wpAny_getItem_str_slice (l:=none) (u:=none) (st:=none) hs rfl (post_val_or_str ⟨z19 (Txt.slice_le z _ _) hz,λt' k=>⟨.str (Txt.slice z none none),H,I.tok _,⟨_,rfl⟩,q⟩⟩)
  | int j uj=>exact wpAny_getItem_str_slice (l:=none) (u:=some (j,uj)) (st:=none) hs rfl (post_val_or_str ⟨z19 (Txt.slice_le z _ _) hz,λt' k=>⟨.str (Txt.slice z none (some j)),H,I.tok _,⟨_,rfl⟩,q⟩⟩)
 | int i ui =>
  cases pu with
  | none=>exact wpAny_getItem_str_slice (l:=some (i,ui)) (u:=none) (st:=none) hs rfl (post_val_or_str ⟨z19 (Txt.slice_le z _ _) hz,λt' k=>⟨.str (Txt.slice z (some i) none),H,I.tok _,⟨_,rfl⟩,q⟩⟩)
  | int j uj=>exact wpAny_getItem_str_slice (l:=some (i,ui)) (u:=some (j,uj)) (st:=none) hs rfl (post_val_or_str ⟨z19 (Txt.slice_le z _ _) hz,λt' k=>⟨.str (Txt.slice z (some i) (some j)),H,I.tok _,⟨_,rfl⟩,q⟩⟩)
def BH:cf X (binaryOp .Mult) (λx y H Q=>∃z n,x=.str z/\y=.int n/\MulOk z n/\Q (.str (Txt.mul z n)) H):=by
 intro pins s σ H x y v u Q I rx ry h
 obtain⟨z,n,rfl,rfl,hm,q⟩:=h
 obtain⟨t,rfl⟩:=rx
 obtain⟨t',rfl⟩:=ry
 exact SB.mul hm λt' k=>⟨.str (Txt.mul z n),H,I.tok _,⟨_,rfl⟩,q⟩
abbrev nT:List V->List V->Bool
 | [],[]=>true
 | x::xs,y::ys=>gL x y&&nT xs ys
 | _,_=>false
def BI(n:Nat)(f:Nat->Bool):(List.range (n+1)).all f=(f 0&&(List.range n).all λj=>f (j+1)):=by
 rw [List.range_succ_eq_map,List.all_cons,List.all_map];rfl
abbrev Ip(K:W.Frag)(neg:Bool):R2:=λx y H Q=>∃a b xs ys,x=.ref a/\y=.ref b/\bM K H a xs/\bM K H b ys/\xs.all bJ=true/\ys.all bJ=true/\Q (.bl (if neg then !nT xs ys else nT xs ys)) H
end
abbrev b9(P:Program)(w:World)(K:W.Frag)(mg:Str->Option Value)(base:Heap)(x:Str)(k:Nat)(ps:List Str)(sp:Sp):Prop :=
 ∃(f:Addr) (fd:FuncData),mg x=some (.ref f)/\W.keepIn K (.ref f)=true/\cX K fd ps []/\y46 P w K mg base bW k f fd ps sp
def BJ    (h:b9 X.prog X.w X.K X.mg X.base x k ps sp)(hr:y55 k X.A)(hg:Gl X x)(ha:PA X (e::es) t)
  (hdb:(x == ("__debug__" : Str))=false:=by decide) (he:‹gJ X e es›) (hpl:‹gC X pos es›) :
  PE X (.Call (.Name x p) (e::es) [] pos) (ft sp [] E0 t):=by
 obtain⟨f,fd,hm,hk,hb,G⟩:=h
 exact nK G hr hg hm hk hb .nil sv ha hdb he hpl
end
end L2
namespace L2
open PySem PySem.Spec PyProof.Rows
section
abbrev dm(n:Nat)(ix:List Nat)(σ:St):St:=List.replicate n none++ix.map λi=>(σ[i]?).getD none
structure ya(X:Cx)(scope:Scope)(xs ys:List Str)(ix:List Nat):Prop where
 kind:scope.kind=.function
 hx:∀x∈xs,scope.names.lookup x=some .local
 y233:∀p∈scope.names,p.2≠.cell
 names:∀p∈scope.names,p.2=.local->scope.names.lookup p.1=some .local
 fr:∀p∈scope.names,p.2=.free->X.env.kindOf p.1=some .cell∨X.env.kindOf p.1=some .free
 len:ys.length=ix.length
 here:∀(j:Nat) (y:Str) (i:Nat),ys[j]?=some y->ix[j]?=some i->scope.names.lookup y=some .free/\X.N[i]?=some y
 nd:(xs++ys).Nodup
abbrev BK(osc:Scope)(N:List Str)(scope:Scope)(xs ys:List Str)(ix:List Nat):Bool :=
 decide (scope.kind=.function)&&xs.all (λx=>decide (scope.names.lookup x=some .local))&&scope.names.all (λp=>decide (p.2≠.cell)) &&
 scope.names.all (λp=>decide (p.2=.local->scope.names.lookup p.1=some .local)) &&
 scope.names.all (λp=>decide (p.2=.free->osc.names.lookup p.1=some .cell∨osc.names.lookup p.1=some .free)) &&
 decide (ys.length=ix.length)&&(ys.zip ix).all (λp=>decide (scope.names.lookup p.1=some .free/\N[p.2]?=some p.1))&&decide ((xs++ys).Nodup)
def yc9  (hsc:X.env.scope=osc)(hN:X.N=N)(h:BK osc N scope xs ys ix=true):ya X scope xs ys ix:=by
 unfold BK at h
 simp only [z24,List.all_eq_true,decide_eq_true_eq] at h
 obtain⟨⟨⟨⟨⟨⟨⟨h1,h2⟩,h3⟩,h4⟩,h5⟩,h6⟩,h7⟩,h8⟩:=h
 refine⟨h1,h2,h3,h4,λp hp hf=>?_,h6,λj y i e1 e2=>?_,h8⟩
 ·have:=h5 p hp hf
  unfold Env.kindOf
  rw [hsc]
  exact this
 ·rw [hN]
  refine h7 (y,i) ?_
  have:(ys.zip ix)[j]?=some (y,i):=by rw [List.getElem?_zip_eq_some];exact⟨e1,e2⟩
  exact z31 this
abbrev y4d(n:Nat)(ix:List Nat)(σ σ':St):Prop:=σ'.length=n+ix.length/\∀(j:Nat) v,(dm n ix σ)[j]?=some (some v)->σ'[j]?=some (some v)
def sH(n:Nat)(ix:List Nat)(σ:St):(dm n ix σ).length=n+ix.length:=by
 unfold dm
 rw [za,List.length_replicate,z12]
def BL  (h:j<n)(v:V):(dm n ix σ)[j]?≠some (some v):=by
 unfold dm
 rw [z1a (by rw [List.length_replicate];exact h),List.getElem?_replicate,if_pos h]
 intro e
 have:(none:Option V)=some v:=z1e e
 cases this
def ycc  (O:ya X scope xs ys ix)
  (I:Inv X pins σ H s) (hf:∀b∈fp,iA X pins H b) (hfl:∀b∈fp,b<s.heap.objs.size) (m:Str->Option Value)
  (hns:h'.Ns s.heap.objs.size m) (hk:∀b o,s.heap.get? b=some o->h'.get? b=some o) :
  Inv (dG X scope (xs++ys) ⟨fp,s,H,s.heap.objs.size,pins⟩) [] (dm xs.length ix σ) H { s with heap:=h',toks:=t' }:=by
 have hC:H s.heap.objs.size=none:=I.hok.fresh (zf _)
 have cl:∀y c,(nS scope.names X.env).lookup y=some c->X.env.cells.lookup y=some c:=λy c e=>by
  rcases (lh).mp (fX e) with z|⟨z,rfl⟩
  ·simp at z
  ·obtain⟨c',e'⟩:=I.ok.has y (O.fr _ z rfl)
   rw [e'];rfl
 have clh:∀y,(y,NameKind.free)∈scope.names->∃c,(nS scope.names X.env).lookup y=some c:=λy z=>sA ((lh).mpr (.inr ⟨z,rfl⟩))
 refine⟨⟨I.ok.mod,O.kind,I.ok.glob,I.ok.blt,zf _,λy z c h1 h2=>I.ok.inj y z c (cl y c h1) (cl z c h2),λy hy=>?_,λy c h _=>?_,I.ok.hd,I.ok.frames,.inl rfl,
  λb hb=>⟨z26 (hfl b hb),λy c e=>(hf b hb).2.2.2.2.1 y c (cl y c e)⟩,I.bs,z19 I.ok.bsz I.sz,λb o e hb=>?_,λb hb hb2=>?_,I.stack,I.y3d5⟩,
  rfl,I.bare,Un.kept hk,⟨m,hns,λi y v e1 e2 vis=>?_⟩,λy c e=>?_,hC,λy c e=>I.y14e y c (cl y c e),λp hp=>?_,I.hok.kept hk,?_⟩
 ·rcases hy with h|h
  ·rcases lq h with q|⟨q,_⟩
   ·exact absurd rfl (O.y233 _ (fX q))
   ·exact clh y (fX q)
  ·rcases lq h with q|⟨q,e⟩
   ·exact clh y (fX q)
   ·cases e
 ·exact Bool.noConfusion (show false=true from h)
 ·rcases (hf b hb).2.2.2.1 with z|z
  ·exact I.ok.y236 b o e z
  ·exact absurd (z1b (z1b (z17 e) I.ok.bsz) z) (z33 _)
 ·exact (z1d.mp (I.y3d6 b hb2)).elim (λe=>(hf b hb).2.1 e) λz=>(hf b hb).2.2.1 z
 ·have hil:xs.length≤i:=Nat.le_of_not_lt λq=>BL q v e2
  obtain⟨j,rfl⟩:=Nat.exists_eq_add_of_le hil
  have ey:ys[j]?=some y:=by
   have e1':(xs++ys)[xs.length+j]?=some y:=e1
   rw [z18 (Nat.le_add_right _ _),Nat.add_sub_cancel_left] at e1'
   exact e1'
  have e2':(ix.map λi=>(σ[i]?).getD none)[j]?=some (some v):=by
   have e2'':(dm xs.length ix σ)[xs.length+j]?=some (some v):=e2
   unfold dm at e2''
   rw [z18 (by rw [List.length_replicate];exact Nat.le_add_right _ _),List.length_replicate,Nat.add_sub_cancel_left] at e2''
   exact e2''
  rw [List.getElem?_map] at e2'
  cases hi:ix[j]? with
  | none=>rw [hi] at e2';cases e2'
  | some i =>
   rw [hi] at e2'
   have e3:(σ[i]?).getD none=some v:=z1e e2'
   obtain⟨y190,hN⟩:=O.here j y i ey hi
   have ev:σ[i]?=some (some v):=by
    cases h:σ[i]? with
    | none=>rw [h] at e3;cases e3
    | some q=>rw [h] at e3;exact congrArg some e3
   obtain⟨m',_,hl⟩:=I.loc
   have hkx:=O.fr (y,.free) (fX y190) rfl
   obtain⟨u,r,l⟩:=hl i y v hN ev (hkx.elim (λz=>.inr (.inl z)) λz=>.inr (.inr z))
   refine⟨u,r,.inr ⟨sD y190,?_⟩⟩
   obtain⟨c,ec⟩:=clh y (fX y190)
   rcases l with⟨k,_⟩| ⟨_,c',ec',z⟩
   ·rcases hkx with q|q
    ·rw [q] at k;cases k
    ·rw [q] at k;cases k
   ·have:c=c':=z1e ((cl y c ec).symm.trans ec')
    subst this
    exact⟨c,ec,z.keeps hk⟩
 ·obtain⟨v,z⟩:=I.cell y c (cl y c e)
  exact⟨v,z.keeps hk⟩
 ·have hp':p∈(X.pn++pins)++([]:List (Addr×Obj)):=hp
  rw [z11] at hp'
  obtain⟨e,n,ne,nf,d⟩:=I.pin p hp'
  exact⟨hk _ _ e,n,z26 (z17 e),λz=>(z1d.mp (I.y3d6 _ z)).elim ne nf,d⟩
 ·show (dm xs.length ix σ).length=(xs++ys).length
  rw [sH,za,O.len]
abbrev yc(n:Nat)(ix:List Nat)(J:It)(g:y9->TG)(tt:y9->TT)(te:y9->TE)(σ:St)(Q:VK)(H1:Hp):Prop :=
 ∀D,H1 D=none->∃W:Nat->Nat->List V->Hp->Prop,(∃m,W 0 m [] (aC H1 D (.lst [])))/\∀i m ys H2,W i m ys H2->H2 D=some (.lst ys) /\
  ((J.stop i H2/\Q (.ref D) H2)∨(J.go i H2/\ys.length<sizeLine/\∃N:List V->Hp->Prop,(∀ys' H',N ys' H'->∃m',m'<m/\W (i+1) m' ys' H') /\
   ∀x H3,J.yld i H2 x H3->∀z,g z x (dm n ix σ) H3 λσ' H3'=>y4d n ix σ σ'/\tt z σ' H3' λb H4 =>
    if b=true then te z σ' H4 λy H5=>H5 D=some (.lst ys)/\N (ys++[y]) (aC H5 D (.lst (ys++[y]))) else N ys H4))
def yca  (O:ya X scope xs ys ix)(hc:X.calm=true)  {g:y9->TG}{tt:y9->TT}{te:y9->TE}
  (hg:∀z,PG (dG X scope (xs++ys) z) tg (g z)) (hi:∀z,mO (dG X scope (xs++ys) z) ifs (tt z)) (he:∀z,PE (dG X scope (xs++ys) z) elt (te z))
  {σ:St} {H:Hp}   {tn:Nat->Heap->Prop} (I2:Inv X pins σ H s2) (T:Turn X.prog X.w X.K tg J fp it tn) (st:tn 0 s2.heap)
  (hf:∀b∈fp,iA X pins H b) {Q:VK} (hw:yc xs.length ix J g tt te σ Q H) {RR:Value->Addr->Result->Shared->Prop} {E:Value->Shared->Prop}
  (hRR:∀D C m' H' s',Inv X pins σ H' s'->s'.heap.Ns C m'->iA X pins H' C->Q (.ref D) H'->RR (.ref D) C (.ok .next) s') :
  wpAny (model X.prog X.w) X.A (newList []) (λacc s₃=>wpAny (model X.prog X.w) X.A (newFunctionEnv scope X.env.globals (nS scope.names X.env) [] X.env.qual none .none (some X.env)) (λcenv s₄ =>
   codeAny (model X.prog X.w) X.A (.compStart (.ListComp elt [⟨tg,iter,ifs,0⟩] scope pos) 0 (.ref it) acc { cenv with scope:=relabel scope X.env }) (RR acc cenv.locals) s₄) E s₃) E s2:=by
 refine z2b (wpAny_newFunctionEnv O.y233 (by intro y hy;simp at hy) (λh₁ hns₁ hsb₁=>?_) O.kind)
 dsimp only at hns₁ hsb₁ ⊢
 have hDn:H s2.heap.objs.size=none:=I2.hok.fresh (zf _)
 obtain⟨W,⟨m0,w0⟩,turn⟩:=hw s2.heap.objs.size hDn
 have flt:∀b∈fp,b<s2.heap.objs.size:=λb hb=>by
  obtain⟨o,e,_⟩:=T.obj 0 _ st b hb
  exact z17 e
 obtain⟨s3,hs3⟩:∃s3:Shared,s3={ s2 with heap:=s2.heap.push { cls:=.type "list",data:=.seq ([]:List Value).toArray } }:=⟨_,rfl⟩
 have hh3:s3.heap=s2.heap.push { cls:=.type "list",data:=.seq ([]:List Value).toArray }:=by rw [hs3]
 have I3:Inv X pins σ (aC H s2.heap.objs.size (.lst [])) s3:=by
  rw [hs3]
  exact I2.laid (λb u e=>zd _ e) (zf _) (show dR X.prog X.w _ _ _ (.lst []) from ⟨Nat.zero_le _,[],0,.nil,z27 _ rfl⟩)
 have hns₂:h₁.Ns s3.heap.objs.size λx=>([]:List (Str×Value)).reverse.lookup x:=by rw [hh3];exact hns₁
 have hsb₂:Heap.SameBut s3.heap.objs.size (s3.heap.push { cls:=.type (if (some X.env).isSome then "dict" else "frame"),data:=.dict #[] }) h₁:=by rw [hh3];exact hsb₁
 have hf3:∀b∈fp,iA X pins (aC H s2.heap.objs.size (.lst [])) b:=λb hb=>⟨by rw [aM (z26 (flt b hb))];exact (hf b hb).1,(hf b hb).2⟩
 have hsz:s3.heap.objs.size=s2.heap.objs.size+1:=by rw [hh3,Heap.size_push]
 have flt3:∀b∈fp,b<s3.heap.objs.size:=λb hb=>by rw [hsz];exact Nat.lt_succ_of_lt (flt b hb)
 have hk:∀b o,s3.heap.get? b=some o->h₁.get? b=some o:=λb o e=>hsb₂.extBut b o (z26 (z17 e)) (zd _ e)
 have hk2:∀b o,s2.heap.get? b=some o->h₁.get? b=some o:=λb o e=>hk b o (by rw [hh3];exact zd _ e)
 have st1:tn 0 h₁:=T.keep _ _ _ st λb hb o e=>hk2 b o e
 let z:y9:=⟨fp,s3,aC H s2.heap.objs.size (.lst []),s3.heap.objs.size,pins⟩
 have cl:∀y c,(nS scope.names X.env).lookup y=some c->X.env.cells.lookup y=some c:=λy c e=>by
  rcases (lh).mp (fX e) with q|⟨q,rfl⟩
  ·simp at q
  ·obtain⟨c',e'⟩:=I2.ok.has y (O.fr _ q rfl)
   rw [e'];rfl
 have fpy:∀{H':Hp},(∀b∈fp,H' b=none)->∀b∈fp,iA (dG X scope (xs++ys) z) [] H' b:=λhn b hb=>by
  refine⟨hn b hb,z26 (flt3 b hb),λhb2=>?_,.inl hb,λy c e=>(hf b hb).2.2.2.2.1 y c (cl y c e),λp hp=>?_⟩
  ·exact (z1d.mp (I3.y3d6 b hb2)).elim (λe=>(hf b hb).2.1 e) λq=>(hf b hb).2.2.1 q
  ·have hp':p∈(X.pn++pins)++([]:List (Addr×Obj)):=hp
   rw [z11] at hp'
   exact (hf b hb).2.2.2.2.2 p hp'
 have back:∀{pl:List (Addr×Obj)} {σ':St} {H':Hp} {s':Shared},Inv (dG X scope (xs++ys) z) pl σ' H' s'->Inv X pins σ H' s'/\iA X pins H' s3.heap.objs.size:=λ{pl σ' H' s'} IY=>by
  have I':Inv X pins σ H' s':=I3.ya1 IY.os IY.base IY.hok IY.bare λb hb=>⟨(hf b hb).2.2.2.1,(hf b hb).2.1,(hf b hb).2.2.2.2.1,(hf b hb).2.2.2.2.2⟩
  exact⟨I',I3.fpOk (zf _) IY.free⟩
 have loop:∀t':Nat,codeAny (model X.prog X.w) X.A (.compLoop (.ListComp elt [⟨tg,iter,ifs,0⟩] scope pos) 0 (.ref it) (.ref s2.heap.objs.size) (dG X scope (xs++ys) z).env) (RR (.ref s2.heap.objs.size) s3.heap.objs.size) { s3 with heap:=h₁,toks:=t' }:=by
  intro t'
  have IY:=ycc (t':=t') O I3 hf3 flt3 _ hns₂ hk
  refine yc3 (λn s'=>∃i vs H',Inv (dG X scope (xs++ys) z) [] (dm xs.length ix σ) H' s'/\tn i s'.heap/\(∀b∈fp,H' b=none)/\W i n vs H') ?_ m0 ⟨0,[],_,IY,st1,λb hb=>(hf3 b hb).1,w0⟩
  rintro n s5 ⟨i,vs,H5,I5,st5,fr5,w5⟩
  obtain⟨hD,stop|go⟩:=turn i n vs H5 w5
  ·refine aJ (T.done (dG X scope (xs++ys) z) rfl rfl rfl hc i [] s5 _ H5 _ I5 (fpy fr5) st5 stop.1) λr s6 zz=>?_
   obtain⟨hr,I6⟩:=zz
   subst hr
   obtain⟨m6,n6,_⟩:=I6.loc
   exact hRR _ _ m6 H5 s6 (back I6).1 n6 (back I6).2 stop.2
  ·obtain⟨hgo,hl,N,hN,step⟩:=go
   refine aJ (T.item (dG X scope (xs++ys) z) rfl rfl rfl hc i [] s5 _ H5 _ I5 (fpy fr5) st5 hgo) λr s6 zz=>?_
   obtain⟨u,hr,h6⟩:=zz
   subst hr
   refine aJ h6 λ_ s7 zz=>?_
   obtain⟨xv,H7,I7,r7,y7,st7,fr7⟩:=zz
   have I7':=I7.pinned (fpy fr7) (T.obj _ _ st7)
   have q7:=step xv H7 y7 z
   refine aJ (hg z _ s7 _ H7 xv u _ I7' r7 q7) λ_ s8 q8=>?_
   obtain⟨σ8,H8,I8,k8,q8⟩:=q8
   have wk:∀{H':Hp} {s':Shared},Inv (dG X scope (xs++ys) z) ([]++jk fp s7.heap) σ8 H' s'->Inv (dG X scope (xs++ys) z) [] (dm xs.length ix σ) H' s'/\tn (i+1) s'.heap/\∀b∈fp,H' b=none:=λ{H' s'} IW=>by
    refine⟨(IW.y430).weak (by rw [sH];exact k8.1.symm) k8.2,T.keep _ _ _ st7 λb hb o e=>(IW.pin (b,o) (z21 _ (z21 _ (kP hb e)))).1,λb hb=>?_⟩
    obtain⟨o,e,d⟩:=T.obj _ _ st7 b hb
    exact (IW.pin (b,o) (z21 _ (z21 _ (kP hb e)))).2.1
   refine aJ (hi z _ s8 _ H8 _ I8 q8) λok s9 zz=>?_
   obtain⟨H9,I9,q9⟩:=zz
   cases ok with
   | false =>
    rw [if_neg z15] at q9
    rw [if_neg z15]
    obtain⟨m',hm,w9⟩:=hN _ _ q9
    exact⟨m',hm,i+1,vs,H9,(wk I9).1,(wk I9).2.1,(wk I9).2.2,w9⟩
   | true =>
    rw [if_pos rfl] at q9
    rw [if_pos rfl]
    refine aJ (he z _ s9 _ H9 _ I9 q9) λyv s10 zz=>?_
    obtain⟨y,H10,I10,r10,hD10,n10⟩:=zz
    obtain⟨m',hm,w10⟩:=hN _ _ n10
    have ap:=si _ s10 _ H10 (.ref s2.heap.objs.size) [y] (.ref s2.heap.objs.size) [yv] (λv H'=>H'=aC H10 s2.heap.objs.size (.lst (vs++[y]))) I10 rfl (.cons r10 .nil) ⟨s2.heap.objs.size,vs,y,rfl,rfl,hD10,hl,rfl⟩
    refine aJ ap λ_ s11 zz=>?_
    obtain⟨_,H11,I11,_,e11⟩:=zz
    subst e11
    exact⟨m',hm,i+1,vs++[y],_,(wk I11).1,(wk I11).2.1,(wk I11).2.2,w10⟩
 subst hs3
 exact codeAny_compStart_list (loop _) (T.self X.A 0 _ _ _ st1 (loop _))
abbrev nU(n:Nat)(ix:List Nat)(wi:TI)(g:y9->TG)(tt:y9->TT)(te:y9->TE):TE:=λσ H Q=>wi σ H λJ H1=>yc n ix J g tt te σ Q H1
section
variable {X:Cx}{scope:Scope}{xs ys:List Str}{ix:List Nat}{elt iter tg:Expr}{ifs:List Expr}{pos:Pos}{wi:TI}{g:y9->TG}{tt:y9->TT}{te:y9->TE}
def sI(O:ya X scope xs ys ix)(hc:X.calm=true)(hit:PI X tg iter wi)(hg:∀z,PG (dG X scope (xs++ys) z) tg (g z))
  (hi:∀z,mO (dG X scope (xs++ys) z) ifs (tt z)) (he:∀z,PE (dG X scope (xs++ys) z) elt (te z)) (hs:∀v,foldedSetIterable iter X.env v=pure v:=by intro _;rfl) :
  PE X (.ListComp elt [⟨tg,iter,ifs,0⟩] scope pos) (nU xs.length ix wi g tt te):=by
 intro pins s σ H Q I h
 rw [eval_ListComp]
 refine wpAny_comprehension_free rfl hs (ybe λp hp hf=>I.ok.has p.1 (O.fr p hp hf)) O.kind O.names (aJ (hit pins s σ H _ I h) λv s1 h1=>aJ h1 λitv s2 h2=>?_)
 obtain⟨it,fp,tn,J,H2,e,I2,T,st2,f2,hw⟩:=h2
 subst e
 refine yca O hc hg hi he I2 T st2 f2 hw ?_
 intro D C m' H' s' I' n' fC q
 exact⟨m',n',λh' hs'=>⟨.ref D,H',ycd I' fC hs',rfl,q⟩⟩
def lA  (O:ya X scope xs ys ix)(hi:xs[i]?=some x):PG (dG X scope (xs++ys) z) (.Name x p) (fg i):=by
 have hm:x∈xs:=z31 hi
 have hl:i<xs.length:=(z14.mp hi).1
 exact fU O.nd (by show (xs++ys)[i]?=some x;rw [z1a hl];exact hi) (.inl (lookup_relabel_local (O.hx x hm))) (.inr (lookup_relabel_local (O.hx x hm)))
end
end
end L2
namespace PySem
open Sem
open PySem.AutoSeq1 in
def y137(p:Addr)(xs:Array Value)(m:Nat)(q:Addr)(ys:Array Value)(m2:Nat)(qd:Option Addr)(qs:Array (Option Value))
  (short:¬(!xs.isEmpty&&Builtin.List.listTooLong (xs.size+ys.size))=true) (hx:xs.size≤sizeLine) (hxy:xs.size+ys.size≤sizeLine+1) :
  Meets (Builtin.«list.extend» ⟨[.ref p,.ref q],[]⟩) (λ_ R st =>
   st.heap.get? p=some { cls:=.type "list",dict:=none,data:=.seq xs m,slots:=#[] } /\
   st.heap.get? q=some { cls:=.type "tuple",dict:=qd,data:=.seq ys m2,slots:=qs } /\
   R (.ok (.ret Value.none)) { st with heap:=st.heap.update p (Obj.mapSeq λzs=>zs++ys),toks:=st.toks }):=by
 refine .of_wp λprog w A R st g=>?_
 obtain⟨heap0,gens0,drawn0,toks0,os0⟩:=st
 obtain⟨gp,gq,gR⟩:=g
 have a1:=idx_int
 have a2:=sub_tuple_tuple
 have a3:=sub_list_list
 have a4:=sub_tuple_list
 have a5:=sub_list_tuple
 have both:(xs++ys).size≤sizeLine+1:=by
  rw [Array.size_append]
  exact hxy
 wp_walk using (wpAny_updateSeq gp rfl),wpAny_loadPart' gp,wpAny_loadPart' gq
 exact⟨_,rfl,gR⟩
end PySem
namespace HT
open PySem PySem.Spec PyProof.Rows
section
variable {prog:Program}{w:World}{A:Around}{E:Value->Shared->Prop}{s:Shared}
def y65(n:Nat):Builtin.Slice.sliceAdjust none none (-1) (n:Int)=((n:Int)-1,-1):=rfl
def BM(n:Nat):Builtin.Slice.slicePlaces ((n:Int)-1) (-1) (-1)=n:=by
 unfold Builtin.Slice.slicePlaces
 rw [if_neg (by decide)]
 by_cases h:n=0
 ·subst h;decide
 ·rw [if_pos (by lia)]
  have:((n:Int)-1 - -1-1) / (- -1)=(n:Int)-1:=by
   have e:(- -1:Int)=1:=by decide
   rw [e,Int.ediv_one];lia
  rw [this];lia
def BN{sl:Addr}{n:Nat}{t:Tok}{Q:Int×Int×Nat->Shared->Prop}(hs:s.heap.IsSliceOf sl .none .none (.int (-1) t))
  (h:Q ((n:Int)-1,-1,n) s):wpAny (model prog w) A (Builtin.Slice.sliceApplied (.ref sl) (pure (n:Int))) Q E s:=by
 obtain⟨os,hos,hcs,hds⟩:=id hs
 unfold Builtin.Slice.sliceApplied Builtin.Slice.sliceFields
 refine zb (zb (wpAny_field hos hds rfl (zb (wpAny_field hos hds rfl (zb (wpAny_field hos hds rfl (ze ?_)))))))
 refine zb (slicePart_int ?_)
 show wpAny _ _ (if ((-1:Int) == 0)=true then _ else _) _ _ s
 rw [if_neg (by decide)]
 refine zb (slicePart_none (zb (slicePart_none (zb (ze ?_)))))
 show wpAny _ _ (match Builtin.Slice.sliceAdjust none none (-1) (n:Int) with|(lo,hi)=>pure (lo,(-1:Int),Builtin.Slice.slicePlaces lo hi (-1))) _ _ s
 rw [y65 n]
 show wpAny _ _ (pure ((n:Int)-1,(-1:Int),Builtin.Slice.slicePlaces ((n:Int)-1) (-1) (-1))) _ _ s
 rw [BM]
 exact ze h
theorem sJ{α β:Type}{f g:α->Option β}:∀{l:List α},(∀a∈l,f a=g a)->l.filterMap f=l.filterMap g
 | [],_=>rfl
 | a::r,h=>by
  rw [List.filterMap_cons,List.filterMap_cons,h a List.mem_cons_self,sJ λb hb=>h b (z23 _ hb)]
def nV(xs:Array Value):((List.range xs.size).filterMap λ(m:Nat)=>xs[((xs.size:Int)-1+(m:Int) * -1).toNat]?).toArray=xs.toList.reverse.toArray:=by
 congr 1
 have e:∀m∈List.range xs.size,xs[((xs.size:Int)-1+(m:Int) * -1).toNat]?=xs.toList.reverse[m]?:=by
  intro m hm
  have hm':=List.mem_range.mp hm
  have:((xs.size:Int)-1+(m:Int) * -1).toNat=xs.size-1-m:=by lia
  rw [this,List.getElem?_reverse (by rw [Array.length_toList];exact hm'),Array.length_toList,Array.getElem?_toList]
 rw [sJ e]
 have hl:xs.size=xs.toList.reverse.length:=by rw [z30,Array.length_toList]
 rw [hl]
 generalize xs.toList.reverse=zs
 induction zs with
 | nil=>rfl
 | cons z r ih =>
  rw [z10,List.range_succ_eq_map,List.filterMap_cons]
  show z::_=_
  rw [List.filterMap_map]
  show z::List.filterMap (λm=>(z::r)[m+1]?) (List.range r.length)=_
  have:(λm=>(z::r)[m+1]?)=λm=>r[m]?:=by funext m;rfl
  rw [this,ih]
def y15a  (ht:IsTup s.heap t items)(hs:s.heap.IsSliceOf sl .none .none (.int (-1) tk))
  (h:Q (.ref s.heap.objs.size) { s with heap:=s.heap.push { cls:=.type "tuple",data:=.seq items.toList.reverse.toArray } })
  (hsz:items.size≤sizeLine):wpAny (model prog w) A (getItem (.ref t) (.ref sl)) Q E s:=by
 have y198:sizeOk (.seq items.toList.reverse.toArray):=by
  show items.toList.reverse.toArray.size≤sizeLine
  rw [zc,z30,Array.length_toList]
  exact hsz
 obtain⟨os,hos,hcs,hds⟩:=id hs
 have hTs:s.TypeIs (.ref sl) "slice":=⟨os,hos,hcs⟩
 unfold getItem
 try with_reducible refine wpAny_holding ?_
 first|refine zb (ze ?_)|skip
 refine zb (wpAny_sequenceKey ht.typeIs (by decide) ?_)
 refine zb (wpAny_callSpecial?_slot ht.typeIs PyProof.Rows.slot_tuple_getitem
  (wpAny_call_entry PyProof.Rows.slot_tuple_getitem ht.typeIs entry_tuple_getitem ?_ (args_tuple_getitem _ _)))
 show wpAny _ _ (Builtin.Tuple.tupleItemsOf (.ref t) >>= _) _ _ s
 refine zb (tupleItemsOf_ ht ?_)
 refine zb (wpAny_typeOf hTs ?_)
 rw [if_pos (by decide)]
 refine zb (BN hs ?_)
 have hno:¬ ((((items.size:Int)-1) == 0&&(-1:Int) == 1&&items.size == items.size)=true):=by
  intro q
  rw [z24,z24] at q
  exact absurd q.1.2 (by decide)
 show wpAny _ _ (if (((items.size:Int)-1) == 0&&(-1:Int) == 1&&items.size == items.size)=true then _ else _) _ _ s
 rw [if_neg hno,nV]
 first
  | exact zb (z2b (ze ⟨_,rfl,ze h⟩) y198)
  | exact zb (z2b (zb (ze (ze ⟨_,rfl,ze h⟩))) y198)
  | exact zb (zb (z2b (ze (ze ⟨_,rfl,ze h⟩)) y198))
  | exact zb (zb (z2b (ze ⟨_,rfl,ze h⟩) y198))
end
end HT
namespace L2
open PySem PySem.Spec PyProof.Rows
section
section
variable {X:Cx}{e st:Expr}{te:TE}{p2 pos:Pos}
abbrev sL(K:W.Frag)(te:TE):TE:=λσ H Q=>te σ H λx H1=>∃a xs,x=.ref a/\br K H1 a xs/\∀p,H1 p=none->Q (.ref p) (aC H1 p (.tup xs.reverse))
def BO{ts:TE}(he:PE X e te)(hst:PE X st ts)(hv:∀σ H Q,Q (.int (-1)) H->ts σ H Q):PE X (.Subscript e (.Slice none none (some st) p2) pos) (sL X.K te):=by
 intro pins s σ H Q I h
 refine Subscript_ (aJ (he pins s σ H _ I h) λv s1 zz=>?_)
 obtain⟨x,H1,I1,r1,q1⟩:=zz
 obtain⟨a,xs,rfl,hq,q⟩:=q1
 cases r1
 refine wpAny_Slice ?_
 rw [evalPart_none]
 refine ze (ze ?_)
 rw [evalPart_some]
 refine aJ (hst pins s1 σ H1 (λv H'=>v=.int (-1)/\H'=H1) I1 (hv _ _ _ ⟨rfl,rfl⟩)) λvs s2 zz=>?_
 obtain⟨y,H2,I2,r2,e2,e3⟩:=zz
 subst e2 e3
 obtain⟨tk,rfl⟩:=r2
 have I4:Inv X pins σ _ { s2 with heap:=s2.heap.push { cls:=.type "slice",data:=.fields #[.none,.none,.int (-1) tk] } }:=I2.kept λb ob q=>zd _ q
 obtain⟨its,r,ht,hz⟩:=I4.tuple hq
 have hlen:its.toArray.size=xs.length:=by rw [zc];exact r.length.symm
 show wpAny (model X.prog X.w) X.A (subscriptTail e (.Slice none none (some st) p2) (.ref a) (.ref s2.heap.objs.size)) (EP X pins σ Q) X.xe { s2 with heap:=s2.heap.push { cls:=.type "slice",data:=.fields #[.none,.none,.int (-1) tk] } }
 refine tail_any ht.typeIs PyProof.Rows.slot_tuple_getitem.lookup ?_ (by with_unfolding_all rfl)
 refine HT.y15a ht (Heap.IsSliceOf.new ..) ?_ (by rw [hlen];exact hz)
 refine⟨.ref _,_,I4.laid (λb ob q=>zd _ q) (zf _) ?_,rfl,q _ (I4.hok.fresh (zf _))⟩
 exact⟨by rw [z30];exact hz,_,r.reverse,ky.mk' _ _⟩
abbrev sM(K:W.Frag):V->List V->Hp->VK->Prop:=λx vs H Q=>∃l b xs zs,x=.ref l/\vs=[.ref b]/\H l=some (.lst xs)/\br K H b zs/\xs.length+zs.length≤sizeLine/\Q .non (aC H l (.lst (xs++zs)))
def BP:yK X "list.extend" (sM X.K):=by
 intro pins s σ H x vs v us Q I rx rv h
 obtain⟨l,b,xs,zs,rfl,rfl,hH,hB,hz,q⟩:=h
 cases rx
 obtain⟨u,rfl,ru⟩:=rv.one
 cases ru
 obtain⟨z,its,n,r,hl,e⟩:=I.y200 hH
 obtain⟨y1ba,r2,ht,hl2⟩:=I.tuple hB
 obtain⟨⟨oc,od,oda,os⟩,e2,rfl,n2,rfl⟩:=id ht
 have hsz:its.toArray.size+y1ba.toArray.size≤sizeLine:=by rw [zc,zc,<- r.length,<- r2.length];lia
 have y195:¬ (!its.toArray.isEmpty&&Builtin.List.listTooLong (its.toArray.size+y1ba.toArray.size))=true:=by
  rw [nQ hsz,Bool.and_false]
  exact z15
 refine call_meets F.slot_list_extend ⟨_,e,rfl⟩ F.entry_list_extend (F.args_list_extend_2 _ _)
  (PySem.y137 l its.toArray n b y1ba.toArray n2 od os y195 (by rw [zc];lia) (by lia)) ⟨e,e2,?_⟩
 refine⟨.non,_,I.lset hH e (by simp) (r.append r2) ?_,rfl,q⟩
 rw [za]
 lia
end
end
section
def BQ:cf X (compareOp .IsNot) (λx y H Q=>∃b c,x=.bl b/\y=.bl c/\Q (.bl (b != c)) H):=by
 intro pins s σ H x y v u Q I rx ry h
 obtain⟨b,c,rfl,rfl,q⟩:=h
 cases rx
 cases ry
 exact PyProof.Rows.isnot_bool (bp I q rfl)
end
end L2
namespace My
inductive F2{α β:Type}(R:α->β->Prop):List α->List β->Prop
 | nil:F2 R [] []
 | cons {a:α} {b:β} {as:List α} {bs:List β}:R a b->F2 R as bs->F2 R (a::as) (b::bs)
end My
namespace L2
open PySem PySem.Spec PyProof.Rows
section
section
end
end
end L2
namespace HT
open PySem PySem.Spec PyProof.Rows
section
def y15b{t sl:Addr}{items:Array Value}{vl vu:Value}{lo hi:Option Int}{Q:Value->Shared->Prop}(ht:IsTup s.heap t items)(hs:s.heap.IsSliceOf sl vl vu .none)(pl:IsPart vl lo)(pu:IsPart vu hi)
  (hw:sIx items.size 0 lo=0/\sIx items.size items.size hi=items.size) (h:Q (.ref t) s):wpAny (model prog w) A (getItem (.ref t) (.ref sl)) Q E s:=by
 obtain⟨os,hos,hcs,hds⟩:=id hs
 have hTs:s.TypeIs (.ref sl) "slice":=⟨os,hos,hcs⟩
 unfold getItem
 try with_reducible refine wpAny_holding ?_
 first|refine zb (ze ?_)|skip
 refine zb (wpAny_sequenceKey ht.typeIs (by decide) ?_)
 refine zb (wpAny_callSpecial?_slot ht.typeIs PyProof.Rows.slot_tuple_getitem
  (wpAny_call_entry PyProof.Rows.slot_tuple_getitem ht.typeIs entry_tuple_getitem ?_ (args_tuple_getitem _ _)))
 show wpAny _ _ (Builtin.Tuple.tupleItemsOf (.ref t) >>= _) _ _ s
 refine zb (tupleItemsOf_ ht ?_)
 refine zb (wpAny_typeOf hTs ?_)
 rw [if_pos (by decide)]
 refine zb (rH hs pl pu ?_)
 have hyes:(((sIx items.size 0 lo:Nat):Int) == 0&&(1:Int) == 1&&(sIx items.size items.size hi-sIx items.size 0 lo) == items.size)=true:=by
  rw [hw.1,hw.2];simp
 show wpAny _ _ (if (((sIx items.size 0 lo:Nat):Int) == 0&&(1:Int) == 1&&(sIx items.size items.size hi-sIx items.size 0 lo) == items.size)=true then _ else _) _ _ s
 rw [if_pos hyes]
 unfold Builtin.Tuple.tupleIsExact
 refine zb (zb (wpAny_typeOf ht.typeIs (ze ?_)))
 rw [if_pos (by decide)]
 refine zb (wpAny_rule ?_)
 exact ze ⟨_,rfl,ze h⟩
end
end HT
namespace L2
open PySem PySem.Spec PyProof.Rows
section
section
abbrev sN:V->Option Int->Option Int->Hp->VK->Prop:=λx lo hi H Q=>∃a xs,x=.ref a/\H a=some (.tup xs)/\∀(b:Addr) (H':Hp),H' b=some (.tup (jt xs lo hi))->(∀c o,H c=some o->H' c=some o)->Q (.ref b) H'
def BR:kX X sN:=by
 intro pins s σ H x v vl vu lo hi sl Q I rx hs pl pu h
 obtain⟨a,xs,rfl,hx,q⟩:=h
 by_cases hw:HT.sIx xs.length 0 lo=0/\HT.sIx xs.length xs.length hi=xs.length
 ·cases rx
  obtain⟨its,r,ht,hz⟩:=I.tuple (br.of hx)
  have hlen:its.toArray.size=xs.length:=by rw [zc];exact r.length.symm
  refine⟨"tuple",_,PyProof.Rows.slot_tuple_getitem.lookup,ht.typeIs,?_⟩
  refine HT.y15b ht hs pl pu (by rw [hlen];exact hw) ⟨.ref a,H,I,rfl,q a H ?_ λ_ _ e=>e⟩
  have e:jt xs lo hi=xs:=by
   unfold jt
   rw [hw.1,hw.2];simp
  rw [e];exact hx
 ·exact AZ pins s σ H (.ref a) v vl vu lo hi sl Q I rx hs pl pu ⟨a,xs,rfl,br.of hx,hw,λp hp=>q p _ a9 λc o e=>by rw [aM (gF e hp)];exact e⟩
end
end
section
section
end
section
end
end
section
abbrev fY(xs:List V)(lo hi st:Option Int):List V:=(sliceRange (sliceBounds lo hi st xs.length).1 (sliceBounds lo hi st xs.length).2.1 (sliceBounds lo hi st xs.length).2.2).filterMap (xs[·]?)
def au.y239{xs:List V}{us:List Value}(h:au xs us){j:Nat}(e:xs[j]?=none):us[j]?=none:=by
 rw [List.getElem?_eq_none_iff] at e ⊢
 rw [<- h.length];exact e
def au.some_of{xs:List V}{us:List Value}(h:au xs us):∀js:List Nat,au (js.filterMap (xs[·]?)) (js.filterMap (us[·]?)):=by
 intro js
 induction js with
 | nil=>exact .nil
 | cons j js ih =>
  cases e:xs[j]? with
  | none=>simp only [List.filterMap_cons,e,h.y239 e];exact ih
  | some x =>
   obtain⟨u,eu,r⟩:=h.get e
   simp only [List.filterMap_cons,e,eu]
   exact .cons r ih
section
variable {X:Cx}{e st:Expr}{te ts:TE}{lo hi:Option Expr}{tl th:TO}{p2 pos:Pos}
abbrev sO(K:W.Frag)(te:TE)(tl th tk:TO):TE:=λσ H Q=>te σ H λx H1=>tl σ H1 λl H2=>th σ H2 λu H3=>tk σ H3 λc H4 =>
 ∃a xs,x=.ref a/\bM K H4 a xs/\c≠some 0/\∀p,H4 p=none->Q (.ref p) (aC H4 p (.lst (fY xs l u c)))
def BS(he:PE X e te)(hl:PO X lo tl)(hu:PO X hi th)(hst:PE X st ts):PE X (.Subscript e (.Slice lo hi (some st) p2) pos) (sO X.K te tl th (rJ ts)):=by
 intro pins s σ H Q I h
 refine Subscript_ (aJ (he pins s σ H _ I h) λv s1 zz=>?_)
 obtain⟨x,H1,I1,r1,q1⟩:=zz
 refine wpAny_Slice (aJ (hl pins s1 σ H1 _ I1 q1) λvl s2 ⟨l,H2,I2,pl,q2⟩=>aJ (hu pins s2 σ H2 _ I2 q2) λvu s3 ⟨u,H3,I3,pu,q3⟩=>aJ (rK hst pins s3 σ H3 _ I3 q3) λvs s4 zz=>?_)
 obtain⟨c,H4,I4,ps,q4⟩:=zz
 obtain⟨a,xs,rfl,hq,hc0,q⟩:=q4
 cases r1
 have I5:Inv X pins σ H4 { s4 with heap:=s4.heap.push { cls:=.type "slice",data:=.fields #[vl,vu,vs] } }:=I4.kept λb ob q=>zd _ q
 obtain⟨its,r,pls,hz⟩:=I5.list hq
 show wpAny (model X.prog X.w) X.A (subscriptTail e (.Slice lo hi (some st) p2) (.ref a) (.ref s4.heap.objs.size)) (EP X pins σ Q) X.xe { s4 with heap:=s4.heap.push { cls:=.type "slice",data:=.fields #[vl,vu,vs] } }
 refine tail_any pls.isList.typeIs list_getitem_lookup ?_ (by with_unfolding_all rfl)
 have hn:=r.length
 refine wpAny_getItem_list_slice pls.isList (Heap.IsSliceOf.new ..) pl pu ps hc0 ?_ (by rw [zc,<- hn];exact hz)
 have le:=slicePick_size_le its.toArray l u c
 have ep:slicePick its.toArray l u c=((sliceRange (sliceBounds l u c xs.length).1 (sliceBounds l u c xs.length).2.1 (sliceBounds l u c xs.length).2.2).filterMap (its[·]?)).toArray:=by
  unfold slicePick
  rw [zc,hn]
  simp
 have rp:=au.some_of r (sliceRange (sliceBounds l u c xs.length).1 (sliceBounds l u c xs.length).2.1 (sliceBounds l u c xs.length).2.2)
 have lp:=rp.length
 rw [ep] at le ⊢
 refine⟨.ref _,_,I5.laid (λb ob q=>zd _ q) (zf _) ?_,rfl,q _ (I5.hok.fresh (zf _))⟩
 refine⟨?_,_,0,rp,z27 _ rfl⟩
 rw [zc,zc] at le
 show (fY xs l u c).length≤sizeLine
 unfold fY
 rw [lp]
 lia
end
section
variable {X:Cx}{tg:Expr}
end
end
end L2
namespace PySem
open Sem (wp)
open AutoSeq1 (wpAny_loadPart')
section
end
section
end
end PySem
namespace L2
open PySem PySem.Spec PyProof.Rows
section
section
end
end
section
section
variable   {elt iter tg:Expr}
abbrev BU(n:Nat)(ix:List Nat)(i:Nat)(wi:TI)(g:y9->TG)(tt:y9->TT)(te:y9->TE):TS:=λD σ H=>nU n ix wi g tt te σ H λv H1=>D.nx (σ.set i (some v)) H1
def BV (O:ya X scope xs ys ix)(hc:X.calm=true)(hN:X.N.Nodup)(hy:X.N[i]?=some y)(hl:X.env.scope.names.lookup y=some .local)(hit:PI X tg iter wi)
  (hg:∀z,PG (dG X scope (xs++ys) z) tg (g z)) (hi:∀z,mO (dG X scope (xs++ys) z) ifs (tt z)) (he:∀z,PE (dG X scope (xs++ys) z) elt (te z))
  (hsw:‹swapsWith (.ListComp elt [⟨tg,iter,ifs,0⟩] scope pos) (some (.Name y py)) spos.line X.env=pure true›) (hs:∀v,foldedSetIterable iter X.env v=pure v:=by intro _;rfl) :
  PS X (.Assign [.Name y py] (.ListComp elt [⟨tg,iter,ifs,0⟩] scope pos) spos) (BU xs.length ix i wi g tt te):=by
 intro pins s σ H D I h
 rw [exec_Assign_Name_used _ _ _ _ hsw]
 refine zb (wpAny_standAt (zb ?_))
 show wpAny _ _ (do let _ <- comprehension (.ListComp elt [⟨tg,iter,ifs,0⟩] scope pos) scope X.env _ (newList []) false (eval iter X.env) (some (assign (.Name y py) X.env))) _ _ s
 refine zb (wpAny_mono (wpAny_comprehension_free rfl hs (ybe λp hp hf=>I.ok.has p.1 (O.fr p hp hf)) O.kind O.names (aJ (hit pins s σ H _ I h) λv s1 h1=>aJ h1 λitv s2 h2=>?_))
  (λ_ s' hq=>ze (ze hq)) λ_ _ e=>e)
 obtain⟨it,fp,tn,J,H2,e,I2,T,st2,f2,hw⟩:=h2
 subst e
 refine yca O hc hg hi he I2 T st2 f2 hw ?_
 intro E C m' H' s' I' n' fC q
 show wpAny _ _ (assign (.Name y py) X.env (.ref E)) _ _ s'
 refine wpAny_assign_Name (qi (v:=.ref E) I' hN hy (.inl hl) rfl (λs'' I'' ⟨a,sb,ha⟩=>?_) (.inr hl))
 have hCa:C≠a:=by
  rcases ha with rfl|ha
  ·exact fC.2.1
  ·exact λz=>fC.2.2.2.2.1 _ _ ha z.symm
 exact⟨m',n'.sameBut sb hCa,λh' hs'=>⟨_,H',ycd I'' fC hs',q⟩⟩
end
theorem sP{α:Type}{xs:List α}{f:Nat->Nat}:∀{c:Nat},(∀k,k<c->f k<xs.length)->(((List.range c).map f).filterMap (xs[·]?)).length=c/\∀k,k<c->(((List.range c).map f).filterMap (xs[·]?))[k]?=xs[f k]?
 | 0,_=>⟨rfl,λk h=>absurd h (Nat.not_lt_zero _)⟩
 | c+1,h=>by
  obtain⟨h1,h2⟩:=sP λk hk=>h k (Nat.lt_succ_of_lt hk)
  have hc:=h c (z35 c)
  have e:((List.range (c+1)).map f).filterMap (xs[·]?)=((List.range c).map f).filterMap (xs[·]?)++[xs[f c]]:=by
   rw [List.range_succ,z25,List.filterMap_append]
   congr 1
   simp [hc]
  rw [e]
  refine⟨by rw [za,h1];rfl,λk hk=>?_⟩
  by_cases q:k<c
  ·rw [z1a (by rw [h1];exact q)]
   exact h2 k q
  ·have q':k=c:=by lia
   subst q'
   rw [z18 (by rw [h1];exact zf _),h1,Nat.sub_self,z1c hc]
   rfl
def BW(xs:List V):(fY xs none none (some (-1))).length=xs.length/\∀k,k<xs.length->(fY xs none none (some (-1)))[k]?=xs[xs.length-1-k]?:=by
 have e:fY xs none none (some (-1))=((List.range xs.length).map λk=>xs.length-1-k).filterMap (xs[·]?):=by
  unfold fY sliceRange
  have c:(if (-1:Int)>0 then (if (xs.length:Int)-1 < -1 then (-1-((xs.length:Int)-1) + -1-1) / -1 else 0) else (if (xs.length:Int)-1 > -1 then ((xs.length:Int)-1 - -1 - -1-1) / (- -1) else 0)).toNat=xs.length:=by
   rw [if_neg (by decide)]
   split
   ·rw [show (- -1:Int)=1 from rfl,Int.ediv_one];lia
   ·lia
  show ((List.range (if (-1:Int)>0 then (if (xs.length:Int)-1 < -1 then (-1-((xs.length:Int)-1) + -1-1) / -1 else 0) else (if (xs.length:Int)-1 > -1 then ((xs.length:Int)-1 - -1 - -1-1) / (- -1) else 0)).toNat).map λ(k:Nat)=>((xs.length:Int)-1 + -1*(k:Int)).toNat).filterMap (xs[·]?)=_
  rw [c]
  congr 2
  funext k
  lia
 rw [e]
 exact sP λk hk=>by lia
end
end L2
namespace B
open PySem L2
section
inductive I where
 | non|bl (b:Bool)|int (i:Int)|str (x:Str)|ty (n:String)|tup (xs:List I)|ref (k:Nat)|fro (xs:List I)|con (xs:List I)
inductive M where
 | lst (xs:List I)|dic (kvs:List (aK×I))|dit (kvs:List (List aK×I))|fdi (kvs:List (aK×I))|obj (c:Str) (fs:List (Str×I))
inductive Vl where
 | im (d:I)|ow (m:M)
abbrev nW(K:W.Frag)(H:Hp)(a:Addr)(vs:List V):Prop:=(∃o,H a=some (.frz o (.lst vs)))∨bM K (λ_=>none) a vs
mutual
inductive RpI(K:W.Frag)(ι:List Addr)(H:Hp):V->I->Prop
 | non:RpI K ι H .non .non
 | bl (b:Bool):RpI K ι H (.bl b) (.bl b)
 | int (i:Int):RpI K ι H (.int i) (.int i)
 | str (x:Str):RpI K ι H (.str x) (.str x)
 | ty (n:String):RpI K ι H (.ty n) (.ty n)
 | ref {a:Addr} {k:Nat}:ι[k]?=some a->RpI K ι H (.ref a) (.ref k)
 | tup {a:Addr} {vs:List V} {xs:List I}:H a=some (.tup vs)->y57 K ι H vs xs->RpI K ι H (.ref a) (.tup xs)
 | con {a:Addr} {vs:List V} {xs:List I}:br K (λ_=>none) a vs->y57 K ι H vs xs->RpI K ι H (.ref a) (.con xs)
 | fro {a:Addr} {vs:List V} {xs:List I}:nW K H a vs->y57 K ι H vs xs->RpI K ι H (.ref a) (.fro xs)
inductive y57(K:W.Frag)(ι:List Addr)(H:Hp):List V->List I->Prop
 | nil:y57 K ι H [] []
 | cons {v:V} {d:I} {vs:List V} {ds:List I}:RpI K ι H v d->y57 K ι H vs ds->y57 K ι H (v::vs) (d::ds)
end
def dX(r:RpI K ι H v (.int i)):v=.int i:=by cases r;rfl
def fA(r:RpI K ι H v (.str i)):v=.str i:=by cases r;rfl
def lB(r:RpI K ι H v (.bl i)):v=.bl i:=by cases r;rfl
def nX(r:RpI K ι H v .non):v=.non:=by cases r;rfl
def jx(r:RpI K ι H v (.tup xs)):∃a vs,v=.ref a/\H a=some (.tup vs)/\y57 K ι H vs xs:=by cases r with|tup h q=>exact⟨_,_,rfl,h,q⟩
def sQ(r:RpI K ι H v (.con xs)):∃a vs,v=.ref a/\br K (λ_=>none) a vs/\y57 K ι H vs xs:=by cases r with|con h q=>exact⟨_,_,rfl,h,q⟩
def sR(r:RpI K ι H v (.fro xs)):∃a vs,v=.ref a/\nW K H a vs/\y57 K ι H vs xs:=by cases r with|fro h q=>exact⟨_,_,rfl,h,q⟩
abbrev cb(ι ι':List Addr):Prop:=∀(k:Nat) (a:Addr),ι[k]?=some a->ι'[k]?=some a
structure Kp(H H':Hp):Prop where
 tup:∀a xs,H a=some (.tup xs)->H' a=some (.tup xs)
 frz:∀a o u,H a=some (.frz o u)->H' a=some (.frz o u)
def Kp.refl(H:Hp):Kp H H:=⟨λ_ _ h=>h,λ_ _ _ h=>h⟩
def Kp.trans(x:Kp H H1)(y:Kp H1 H2):Kp H H2:=⟨λa xs h=>y.tup a xs (x.tup a xs h),λa o u h=>y.frz a o u (x.frz a o u h)⟩
def Kp.same(h:dW H H'):Kp H H':=⟨λa xs e=>h _ _ e,λa o u e=>h _ _ e⟩
def cb.refl(ι:List Addr):cb ι ι:=λ_ _ h=>h
def cb.trans(x:cb ι ι1)(y:cb ι1 ι2):cb ι ι2:=λk a h=>y k a (x k a h)
def cb.snoc(ι:List Addr)(b:List Addr):cb ι (ι++b):=λk a h=>by
 have:k<ι.length:=(z14.mp h).1
 rw [z1a this];exact h
def Kp.frL  (k:Kp H H')(h:nW K H a vs):nW K H' a vs:=by
 rcases h with⟨o,h⟩| h
 ·exact .inl ⟨o,k.frz _ _ _ h⟩
 ·exact .inr h
def br.kon  (h:br K (λ_=>none) a vs):br K H a vs:=by
 rcases h with (h|⟨o,h⟩)|h
 ·cases h
 ·cases h
 ·exact .inr h
def nW.sq  (h:nW K H a vs):bM K H a vs:=by
 rcases h with⟨o,h⟩| h
 ·exact .inl (.inr ⟨o,h⟩)
 ·rcases h with (h|⟨o,h⟩)|h
  ·cases h
  ·cases h
  ·exact .inr h
section
mutual
theorem RpI.mono (p:cb ι ι')(k:Kp H H'):RpI K ι H v d->RpI K ι' H' v d
 | .non=>.non
 | .bl b=>.bl b
 | .int i=>.int i
 | .str x=>.str x
 | .ty n=>.ty n
 | .ref h=>.ref (p _ _ h)
 | .tup h r=>.tup (k.tup _ _ h) (y57.mono p k r)
 | .con h r=>.con h (y57.mono p k r)
 | .fro h r=>.fro (k.frL h) (y57.mono p k r)
theorem y57.mono (p:cb ι ι')(k:Kp H H'):y57 K ι H vs ds->y57 K ι' H' vs ds
 | .nil=>.nil
 | .cons h r=>.cons (RpI.mono p k h) (y57.mono p k r)
end
theorem y57.len:∀{vs:List V} {ds:List I},y57 K ι H vs ds->vs.length=ds.length
 | _,_,.nil=>rfl
 | _,_,.cons _ r=>by rw [z10,z10,r.len]
theorem y57.get:∀{vs:List V} {ds:List I} {i:Nat} {d:I},y57 K ι H vs ds->ds[i]?=some d->∃v,vs[i]?=some v/\RpI K ι H v d
 | _,_,_,_,.nil,e=>by simp at e
 | _,_,0,_,.cons h _,e=>by simp at e;subst e;exact⟨_,rfl,h⟩
 | _,_,i+1,d,.cons _ r,e=>by
  obtain⟨v,h1,h2⟩:=y57.get r (by simpa using e)
  exact⟨v,by simpa using h1,h2⟩
theorem y57.app:∀{vs ws:List V} {ds es:List I},y57 K ι H vs ds->y57 K ι H ws es->y57 K ι H (vs++ws) (ds++es)
 | _,_,_,_,.nil,s=>s
 | _,_,_,_,.cons h r,s=>.cons h (y57.app r s)
theorem y57.take:∀{vs:List V} {ds:List I} (n:Nat),y57 K ι H vs ds->y57 K ι H (vs.take n) (ds.take n)
 | _,_,0,_=>.nil
 | _,_,_+1,.nil=>.nil
 | _,_,n+1,.cons h r=>.cons h (y57.take n r)
theorem y57.drop:∀{vs:List V} {ds:List I} (n:Nat),y57 K ι H vs ds->y57 K ι H (vs.drop n) (ds.drop n)
 | _,_,0,r=>r
 | _,_,_+1,.nil=>.nil
 | _,_,n+1,.cons _ r=>y57.drop n r
theorem y57.set:∀{vs:List V} {ds:List I} {v:V} {d:I} (i:Nat),y57 K ι H vs ds->RpI K ι H v d->y57 K ι H (vs.set i v) (ds.set i d)
 | _,_,_,_,_,.nil,_=>.nil
 | _,_,_,_,0,.cons _ r,h=>.cons h r
 | _,_,_,_,i+1,.cons g r,h=>.cons g (y57.set i r h)
theorem y57.rev:∀{vs:List V} {ds:List I},y57 K ι H vs ds->y57 K ι H vs.reverse ds.reverse
 | _,_,.nil=>.nil
 | _,_,.cons h r=>by rw [List.reverse_cons,List.reverse_cons];exact r.rev.app (.cons h .nil)
abbrev dq(K:W.Frag)(κ:Str->Addr)(ι:List Addr)(H:Hp)(a:Addr):M->Prop
 | .lst xs=>∃vs,H a=some (.lst vs)/\y57 K ι H vs xs
 | .dic kvs=>∃ws,H a=some (.dK ws)/\ws.map (·.1)=kvs.map (·.1)/\y57 K ι H (ws.map (·.2)) (kvs.map (·.2))
 | .dit kvs=>∃ws,H a=some (.dT ws)/\ws.map (·.1)=kvs.map (·.1)/\y57 K ι H (ws.map (·.2)) (kvs.map (·.2))
 | .fdi kvs=>∃o ws,H a=some (.frz o (.dK ws))/\ws.map (·.1)=kvs.map (·.1)/\y57 K ι H (ws.map (·.2)) (kvs.map (·.2))
 | .obj c fs=>∃dx ws,H a=some (.ins (κ c) dx ws)/\ws.map (·.1)=fs.map (·.1)/\y57 K ι H (ws.map (·.2)) (fs.map (·.2))
theorem dq.mono (p:cb ι ι')(k:Kp H H')(e:H' a=H a)(h:dq K κ ι H a m):dq K κ ι' H' a m:=by
 cases m with
 | lst xs=>obtain⟨vs,h1,h2⟩:=h;exact⟨vs,by rw [e];exact h1,h2.mono p k⟩
 | dic xs=>obtain⟨vs,h1,h2,h3⟩:=h;exact⟨vs,by rw [e];exact h1,h2,h3.mono p k⟩
 | dit xs=>obtain⟨vs,h1,h2,h3⟩:=h;exact⟨vs,by rw [e];exact h1,h2,h3.mono p k⟩
 | obj c xs=>obtain⟨dx,vs,h1,h2,h3⟩:=h;exact⟨dx,vs,by rw [e];exact h1,h2,h3.mono p k⟩
 | fdi xs=>obtain⟨o,vs,h1,h2,h3⟩:=h;exact⟨o,vs,by rw [e];exact h1,h2,h3.mono p k⟩
abbrev lC:HO->Bool
 | .lst _ | .dK _ | .dT _ | .ins _ _ _=>true
 | .frz _ (.dK _)=>true
 | _=>false
abbrev sS:M->Bool
 | .fdi _=>true
 | _=>false
def dq.nf (h:dq K κ ι H a m)(hf:sS m=false):∀o u,H a≠some (.frz o u):=λo u e=>by
 cases m with
 | lst xs=>obtain⟨vs,h1,h2⟩:=h;rw [h1] at e;cases e
 | dic xs=>obtain⟨vs,h1,h2,h3⟩:=h;rw [h1] at e;cases e
 | dit xs=>obtain⟨vs,h1,h2,h3⟩:=h;rw [h1] at e;cases e
 | obj c xs=>obtain⟨dx,vs,h1,h2,h3⟩:=h;rw [h1] at e;cases e
 | fdi xs=>cases hf
def dq.mu (h:dq K κ ι H a m):∃o,H a=some o/\lC o=true:=by
 cases m with
 | lst xs=>obtain⟨vs,h1,h2⟩:=h;exact⟨_,h1,rfl⟩
 | dic xs=>obtain⟨vs,h1,h2,h3⟩:=h;exact⟨_,h1,rfl⟩
 | dit xs=>obtain⟨vs,h1,h2,h3⟩:=h;exact⟨_,h1,rfl⟩
 | obj c xs=>obtain⟨dx,vs,h1,h2,h3⟩:=h;exact⟨_,h1,rfl⟩
 | fdi xs=>obtain⟨o,vs,h1,h2,h3⟩:=h;exact⟨_,h1,rfl⟩
inductive RpE(K:W.Frag)(κ:Str->Addr)(ι:List Addr)(H:Hp):Option V->Option Vl->Prop
 | no (x:Option V):RpE K κ ι H x none
 | im {v:V} {d:I}:RpI K ι H v d->RpE K κ ι H (some v) (some (.im d))
 | ow {a:Addr} {m:M}:dq K κ ι H a m->RpE K κ ι H (some (.ref a)) (some (.ow m))
abbrev bB:Option V->Option Vl->List Addr
 | some (.ref a),some (.ow _)=>[a]
 | _,_=>[]
abbrev own:List (Option V)->List (Option Vl)->List Addr
 | v::σ,x::Z=>bB v x++own σ Z
 | _,_=>[]
theorem bR:∀{σ:List (Option V)} {Z:List (Option Vl)} (τ:List (Option V)) (θ:List (Option Vl)),σ.length=Z.length->own (σ++τ) (Z++θ)=own σ Z++own τ θ
 | [],[],_,_,_=>rfl
 | [],_::_,_,_,h=>by cases h
 | _::_,[],_,_,h=>by cases h
 | v::σ,x::Z,τ,θ,h=>by
  show bB v x++own (σ++τ) (Z++θ)=bB v x++own σ Z++own τ θ
  rw [bR τ θ (by simpa using h),z20]
noncomputable abbrev bj(a:Addr)(l:List Addr):Nat:=List.count a l
structure SR(K:W.Frag)(κ:Str->Addr)(ι:List Addr)(H:Hp)(σ:St)(Z:List (Option Vl))(G:List M):Prop where
 sl:Paired (RpE K κ ι H) σ Z
 gs:Paired (dq K κ ι H) ι G
 nd:∀a,bj a (own σ Z)+bj a ι≤1
structure Step(ι fp:List Addr)(H:Hp)(ι' fp':List Addr)(H':Hp):Prop where
 pre:cb ι ι'
 src:∀a,a∈fp'->a∈fp∨H a=none
 keep:∀a o,H a=some o->a∉fp->H' a=some o
 dom:∀a,H' a=none->H a=none
 kp:Kp H H'
theorem Step.refl(ι fp:List Addr)(H:Hp):Step ι fp H ι fp H:=⟨cb.refl _,λ_ h=>.inl h,λ_ _ h _=>h,λ_ h=>h,Kp.refl _⟩
theorem Step.trans (x:Step ι fp H ι1 fp1 H1)(y:Step ι1 fp1 H1 ι2 fp2 H2):Step ι fp H ι2 fp2 H2 where
 pre:=x.pre.trans y.pre
 src:=λa h=>by
  rcases y.src a h with q|q
  ·exact x.src a q
  ·exact .inr (x.dom a q)
 keep:=λa o h n=>y.keep a o (x.keep a o h n) λq=>by
  rcases x.src a q with z|z
  ·exact n z
  ·rw [z] at h;cases h
 dom:=λa h=>x.dom a (y.dom a h)
 kp:=x.kp.trans y.kp
def Step.sub (x:Step ι fp H ι1 fp1 H1)(h:∀a,a∈fp2->a∈fp1):Step ι fp H ι1 fp2 H1:=⟨x.pre,λa q=>x.src a (h a q),x.keep,x.dom,x.kp⟩
def Step.wide (x:Step ι fp H ι1 fp1 H1)(h:∀a,a∈fp->a∈fq):Step ι fq H ι1 fp1 H1:=⟨x.pre,λa q=>(x.src a q).imp (h a) id,λa o q n=>x.keep a o q λz=>n (h a z),x.dom,x.kp⟩
def Step.y8b (x:Step ι fp H ι1 fp1 H1):Step ι (t++fp) H ι1 (t++fp1) H1 where
 pre:=x.pre
 src:=λa h=>by
  rcases z13.mp h with q|q
  ·exact .inl (List.mem_append_left _ q)
  ·exact (x.src a q).imp (z21 _) id
 keep:=λa o h n=>x.keep a o h λq=>n (z21 _ q)
 dom:=x.dom
 kp:=x.kp
def gN  : a∈l↔0<bj a l:=List.count_pos_iff.symm
theorem RpE.mono (p:cb ι ι')(k:Kp H H')(e:∀a,a∈bB v x->H' a=H a)(h:RpE K κ ι H v x):RpE K κ ι' H' v x:=by
 cases h with
 | no=>exact .no _
 | im h=>exact .im (h.mono p k)
 | ow h=>exact .ow (h.mono p k (e _ (by unfold bB;exact z22.mpr rfl)))
theorem iG(p:cb ι ι')(k:Kp H H'):∀{σ:St} {Z:List (Option Vl)},(∀a,a∈own σ Z->H' a=H a)->Paired (RpE K κ ι H) σ Z->Paired (RpE K κ ι' H') σ Z
 | _,_,_,.nil=>.nil
 | _,_,e,.cons h r=>.cons (h.mono p k λa q=>e a (List.mem_append_left _ q)) (iG p k (λa q=>e a (z21 _ q)) r)
theorem lD(p:cb ι ι')(k:Kp H H'):∀{as:List Addr} {G:List M},(∀a,a∈as->H' a=H a)->Paired (dq K κ ι H) as G->Paired (dq K κ ι' H') as G
 | _,_,_,.nil=>.nil
 | _,_,e,.cons h r=>.cons (h.mono p k (e _ List.mem_cons_self)) (lD p k (λa q=>e a (z23 _ q)) r)
def jy(v:Option V):bB v none=[]:=by
 cases v with
 | none=>rfl
 | some v=>cases v<;>rfl
def fZ(v:Option V)(d:I):bB v (some (.im d))=[]:=by
 cases v with
 | none=>rfl
 | some v=>cases v<;>rfl
theorem lE:∀{σ:St} {Z:List (Option Vl)} {a:Addr},Paired (RpE K κ ι H) σ Z->a∈own σ Z->∃o,H a=some o/\lC o=true
 | _,_,_,.nil,h=>by cases h
 | _,_,a,.cons h r,q=>by
  rcases z13.mp q with z|z
  ·cases h with
   | no=>rw [jy] at z;cases z
   | im h=>rw [fZ] at z;cases z
   | ow h=>obtain rfl:=z22.mp z;exact h.mu
  ·exact lE r z
theorem nY:∀{as:List Addr} {G:List M} {a:Addr},Paired (dq K κ ι H) as G->a∈as->∃o,H a=some o/\lC o=true
 | _,_,_,.nil,h=>by cases h
 | _,_,a,.cons h r,q=>by
  rcases z1d.mp q with rfl|z
  ·exact h.mu
  ·exact nY r z
def SR.len (h:SR K κ ι H σ Z G):σ.length=Z.length:=Paired.length h.sl
def SR.mu  (h:SR K κ ι H σ Z G)(q:a∈own σ Z++ι):∃o,H a=some o/\lC o=true:=by
 rcases z13.mp q with z|z
 ·exact lE h.sl z
 ·exact nY h.gs z
theorem du{α β:Type}{F:α->β->Prop}:∀{a:List α} {b:List β} {c:List α} {d:List β},Paired F a b->Paired F c d->Paired F (a++c) (b++d)
 | _,_,_,_,.nil,h=>h
 | _,_,_,_,.cons h r,q=>.cons h (du r q)
theorem cz{α β:Type}{F:α->β->Prop}:∀{a:List α} {b:List β} {c:List α} {d:List β},a.length=b.length->Paired F (a++c) (b++d)->Paired F a b/\Paired F c d
 | [],[],_,_,_,h=>⟨.nil,h⟩
 | [],_::_,_,_,l,_=>by cases l
 | _::_,[],_,_,l,_=>by cases l
 | x::a,y::b,c,d,l,h=>by
  cases h with
  | cons h r =>
   obtain⟨p,q⟩:=cz (by simpa using l) r
   exact⟨.cons h p,q⟩
def SR.join  (h1:SR K κ ι1 H1 (σ0++τ) (Z1++θ) G1)(l1:σ0.length=Z1.length)(h2:SR K κ ι2 H2 (σ++τ2) (Z2++θ2) G2)(l2:σ.length=Z2.length)
  (st:Step ι1 (own σ0 Z1++ι1) H1 ι2 (own (σ++τ2) (Z2++θ2)++ι2) H2):SR K κ ι2 H2 (σ++(τ++τ2)) (Z2++(θ++θ2)) G2/\Step ι1 (own (σ0++τ) (Z1++θ)++ι1) H1 ι2 (own (σ++(τ++τ2)) (Z2++(θ++θ2))++ι2) H2:=by
 obtain⟨a1,b1⟩:=cz l1 h1.sl
 obtain⟨a2,b2⟩:=cz l2 h2.sl
 have lt:=Paired.length b1
 have n1:=h1.nd
 have n2:=h2.nd
 rw [bR _ _ l1] at n1
 rw [bR _ _ l2] at n2
 have st':=st
 rw [bR _ _ l2] at st'
 have apart:∀a,a∈own τ θ->a∉own σ0 Z1++ι1:=λa q z=>by
  have:=n1 a
  rw [bj,z1f] at this
  have p1:0<bj a (own τ θ):=gN.mp q
  rcases z13.mp z with z|z
  ·have:=gN.mp z;unfold bj at *;lia
  ·have:=gN.mp z;unfold bj at *;lia
 have y3c7:∀a,a∈own τ θ->∃o,H1 a=some o:=λa q=>let ⟨o,e,_⟩:=lE b1 q;⟨o,e⟩
 have e2:own (σ++(τ++τ2)) (Z2++(θ++θ2))=own σ Z2++(own τ θ++own τ2 θ2):=by rw [bR _ _ l2,bR _ _ lt]
 refine⟨⟨du a2 (du (iG st.pre st.kp (λa q=>?_) b1) b2),h2.gs,λa=>?_⟩,?_⟩
 ·obtain⟨o,e⟩:=y3c7 a q
  rw [e,st.keep a o e (apart a q)]
 ·rw [e2]
  have m2:=n2 a
  have m1:=n1 a
  simp only [bj,z1f] at m1 m2 ⊢
  by_cases q:a∈own τ θ
  ·obtain⟨o,e⟩:=y3c7 a q
   have z:a∉own σ Z2++own τ2 θ2++ι2:=λz=>by
    rcases st'.src a z with y|y
    ·exact apart a q y
    ·rw [e] at y;cases y
   have:bj a (own σ Z2++own τ2 θ2++ι2)=0:=List.count_eq_zero.mpr z
   simp only [bj,z1f] at this
   lia
  ·have:bj a (own τ θ)=0:=List.count_eq_zero.mpr q
   unfold bj at this
   lia
 ·rw [e2,bR _ _ l1]
  have s:=(Step.y8b (t:=own τ θ) st')
  refine (s.sub λa h=>?_).wide λa h=>?_
  ·simp only [z13] at h ⊢
   rcases h with (h|h|h)|h
   ·exact .inr (.inl (.inl h))
   ·exact .inl h
   ·exact .inr (.inl (.inr h))
   ·exact .inr (.inr h)
  ·simp only [z13] at h ⊢
   rcases h with h|h|h
   ·exact .inl (.inr h)
   ·exact .inl (.inl h)
   ·exact .inr h
end
end
section
section
def lF(a:Addr)(m:M):bB (some (.ref a)) (some (.ow m))=[a]:=rfl
theorem yL:∀{σ:St} {Z:List (Option Vl)} {i:Nat} {v w:Option V} {x y:Option Vl} (a:Addr),σ[i]?=some v->Z[i]?=some x ->
  bj a (own (σ.set i w) (Z.set i y))+bj a (bB v x)=bj a (own σ Z)+bj a (bB w y)
 | [],_,_,_,_,_,_,_,h,_=>by simp at h
 | _::_,[],_,_,_,_,_,_,_,h=>by simp at h
 | v0::σ,x0::Z,0,v,w,x,y,a,h1,h2=>by
  simp at h1 h2
  subst h1;subst h2
  show bj a (bB w y++own σ Z)+bj a (bB v0 x0)=bj a (bB v0 x0++own σ Z)+bj a (bB w y)
  simp only [bj,z1f]
  lia
 | v0::σ,x0::Z,i+1,v,w,x,y,a,h1,h2=>by
  have:=yL (w:=w) (y:=y) a (by simpa using h1) (by simpa using h2)
  show bj a (bB v0 x0++own (σ.set i w) (Z.set i y))+bj a (bB v x)=bj a (bB v0 x0++own σ Z)+bj a (bB w y)
  simp only [bj,z1f] at this ⊢
  lia
def sT{α:Type}{l:List α}{i:Nat}{v:α}(h:l[i]?=some v):l.set i v=l:=by
 refine List.ext_getElem? λj=>?_
 by_cases e:i=j
 ·subst e
  rw [List.getElem?_set_self (z14.mp h).1,h]
 ·rw [z28 e]
def sU (a:Addr)(h1:σ[i]?=some v)(h2:Z[i]?=some x) :
  bj a (own σ (Z.set i y))+bj a (bB v x)=bj a (own σ Z)+bj a (bB v y):=by
 have:=yL (w:=v) (y:=y) a h1 h2
 rw [sT h1] at this
 exact this
theorem lG{α β:Type}{F:α->β->Prop}:∀{l:List α} {r:List β} {i:Nat} {y:β},Paired F l r->r[i]?=some y->∃x,l[i]?=some x/\F x y
 | _,_,_,_,.nil,h=>by simp at h
 | _,_,0,_,.cons h _,e=>by simp at e;subst e;exact⟨_,rfl,h⟩
 | _,_,i+1,y,.cons _ r,e=>by
  obtain⟨x,h1,h2⟩:=lG r (by simpa using e)
  exact⟨x,by simpa using h1,h2⟩
theorem nZ{α β:Type}{F:α->β->Prop}{x:α}{y:β}:∀{l:List α} {r:List β} (i:Nat),Paired F l r->F x y->Paired F (l.set i x) (r.set i y)
 | _,_,_,.nil,_=>.nil
 | _,_,0,.cons _ r,q=>.cons q r
 | _,_,i+1,.cons h r,q=>.cons h (nZ i r q)
def lH{α β:Type}{F:α->β->Prop}{x:α}{y:β}{l:List α}{r:List β}{i:Nat}(h:Paired F l r)(e:l[i]?=some x)(q:F x y):Paired F l (r.set i y):=by
 have:=nZ i h q
 rw [sT e] at this
 exact this
def SR.y15d(h:SR K κ ι H σ Z G){i:Nat}{d:I}(e:Z[i]?=some (some (.im d))):∃v,σ[i]?=some (some v)/\RpI K ι H v d:=by
 obtain⟨x,e1,q⟩:=lG h.sl e
 cases q with
 | im q=>exact⟨_,e1,q⟩
def SR.y15e(h:SR K κ ι H σ Z G){i:Nat}{m:M}(e:Z[i]?=some (some (.ow m))):∃a,σ[i]?=some (some (.ref a))/\dq K κ ι H a m:=by
 obtain⟨x,e1,q⟩:=lG h.sl e
 cases q with
 | ow q=>exact⟨_,e1,q⟩
def SR.y15c(h:SR K κ ι H σ Z G){k:Nat}{m:M}(e:G[k]?=some m):∃a,ι[k]?=some a/\dq K κ ι H a m:=lG h.gs e
theorem sV:∀{σ:St} {Z:List (Option Vl)} {i:Nat} {a:Addr} {m:M},σ[i]?=some (some (.ref a))->Z[i]?=some (some (.ow m))->a∈own σ Z
 | [],_,_,_,_,h,_=>by simp at h
 | _::_,[],_,_,_,_,h=>by simp at h
 | v0::σ,x0::Z,0,a,m,h1,h2=>by
  simp at h1 h2
  subst h1;subst h2
  exact List.mem_append_left _ (z22.mpr rfl)
 | v0::σ,x0::Z,i+1,a,m,h1,h2=>z21 _ (sV (by simpa using h1) (by simpa using h2))
theorem SR.same(h:SR K κ ι H σ Z G)(s:dW H H'):SR K κ ι H' σ Z G where
 sl:=iG (cb.refl _) (Kp.same s) (λa q=>by obtain⟨o,e,_⟩:=lE h.sl q;rw [e,s _ _ e]) h.sl
 gs:=lD (cb.refl _) (Kp.same s) (λa q=>by obtain⟨o,e,_⟩:=nY h.gs q;rw [e,s _ _ e]) h.gs
 nd:=h.nd
theorem Step.same(s:dW H H'):Step ι fp H ι fp H':=⟨cb.refl _,λ_ h=>.inl h,λa o e _=>s _ _ e,λa e=>s.free e,Kp.same s⟩
def dW.lay (hp:H p=none):dW H (aC H p o):=λb u e=>by rw [aM (gF e hp)];exact e
def SR.pop(h:SR K κ ι H (σ++τ) (Z++θ) G)(l:σ.length=Z.length):SR K κ ι H σ Z G:=by
 obtain⟨a,b⟩:=cz l h.sl
 refine⟨a,h.gs,λx=>?_⟩
 have:=h.nd x
 rw [bR _ _ l] at this
 simp only [bj,z1f] at this ⊢
 lia
def cE(l:σ.length=Z.length)(h:a∈own σ Z++ι):a∈own (σ++τ) (Z++θ)++ι:=by
 rw [bR _ _ l]
 simp only [z13] at h ⊢
 rcases h with h|h
 ·exact .inl (.inl h)
 ·exact .inr h
def SR.push_im (h:SR K κ ι H σ Z G)(r:RpI K ι H v d):SR K κ ι H (σ++[some v]) (Z++[some (.im d)]) G:=by
 refine⟨du h.sl (.cons (.im r) .nil),h.gs,λx=>?_⟩
 have e:own [some v] [some (.im d)]=[]:=by show bB _ _++[]=[];rw [fZ];rfl
 rw [bR _ _ h.len,e,z11]
 exact h.nd x
def dv (l:σ.length=Z.length):own (σ++[some v]) (Z++[some (.im d)])=own σ Z:=by
 rw [bR _ _ l]
 show own σ Z++(bB _ _++[])=_
 rw [fZ];simp
def fB (l:σ.length=Z.length):own (σ++[some (.ref a)]) (Z++[some (.ow m)])=own σ Z++[a]:=by
 rw [bR _ _ l];rfl
def SR.y324 (h:SR K κ ι H σ Z G)(hp:H p=none)(r:dq K κ ι (aC H p o) p m):SR K κ ι (aC H p o) (σ++[some (.ref p)]) (Z++[some (.ow m)]) G:=by
 have h':=h.same (dW.lay (o:=o) hp)
 refine⟨du h'.sl (.cons (.ow r) .nil),h'.gs,λx=>?_⟩
 rw [fB h.len]
 have:=h.nd x
 simp only [bj,z1f] at this ⊢
 by_cases e:p=x
 ·subst e
  have n:p∉own σ Z++ι:=λq=>by obtain⟨o,e,_⟩:=h.mu q;rw [hp] at e;cases e
  have:bj p (own σ Z++ι)=0:=List.count_eq_zero.mpr n
  simp only [bj,z1f] at this
  simp
  lia
 ·have:List.count x [p]=0:=List.count_eq_zero.mpr (by simp;exact λz=>e z.symm)
  lia
def Step.y1df (l:σ.length=Z.length)(hp:H p=none):Step ι (own σ Z++ι) H ι (own (σ++[some (.ref p)]) (Z++[some (.ow m)])++ι) (aC H p o) where
 pre:=cb.refl _
 src:=λa h=>by
  rw [fB l] at h
  simp only [z13,z22] at h ⊢
  rcases h with (h|h)|h
  ·exact .inl (.inl h)
  ·subst h;exact .inr hp
  ·exact .inl (.inr h)
 keep:=λa u e _=>dW.lay hp _ _ e
 dom:=λa e=>(dW.lay hp).free e
 kp:=Kp.same (dW.lay hp)
def SR.store (h:SR K κ ι H (σ++[some v]) (Z++[some x]) G)(l:σ.length=Z.length):SR K κ ι H (σ.set i (some v)) (Z.set i (some x)) G:=by
 obtain⟨a,b⟩:=cz l h.sl
 cases b with
 | cons b _ =>
  refine⟨nZ i a b,h.gs,λy=>?_⟩
  have n:=h.nd y
  rw [bR _ _ l] at n
  have e1:own [some v] [some x]=bB (some v) (some x):=z11 _
  rw [e1] at n
  by_cases hi:i<σ.length
  ·have:=yL (Z:=Z) (w:=some v) (y:=some x) y (z1c hi) (z1c (by lia))
   simp only [bj,z1f] at this n ⊢
   lia
  ·rw [List.set_eq_of_length_le (by lia),List.set_eq_of_length_le (by lia)]
   simp only [bj,z1f] at n ⊢
   lia
def sW  (l:σ.length=Z.length)(h:a∈own (σ.set i (some v)) (Z.set i (some x))++ι):a∈own (σ++[some v]) (Z++[some x])++ι:=by
 rw [bR _ _ l]
 have e1:own [some v] [some x]=bB (some v) (some x):=z11 _
 rw [e1]
 rw [gN] at h ⊢
 by_cases hi:i<σ.length
 ·have:=yL (Z:=Z) (w:=some v) (y:=some x) a (z1c hi) (z1c (by lia))
  simp only [bj,z1f] at this h ⊢
  lia
 ·rw [List.set_eq_of_length_le (by lia),List.set_eq_of_length_le (by lia)] at h
  simp only [bj,z1f] at h ⊢
  lia
def SR.take{i:Nat}{a:Addr}{m:M}(h:SR K κ ι H σ Z G)(e1:σ[i]?=some (some (.ref a)))(e2:Z[i]?=some (some (.ow m))) :
  SR K κ ι H (σ++[some (.ref a)]) (Z.set i none++[some (.ow m)]) G/\Step ι (own σ Z++ι) H ι (own (σ++[some (.ref a)]) (Z.set i none++[some (.ow m)])++ι) H:=by
 have l:σ.length=(Z.set i none).length:=by rw [z2c];exact h.len
 obtain⟨a',e1',r⟩:=h.y15e e2
 rw [e1] at e1';cases e1'
 have q:∀x,bj x (own σ (Z.set i none))+bj x [a]=bj x (own σ Z):=λx=>by
  have:=sU (y:=none) x e1 e2
  rw [lF,jy] at this
  exact this
 refine⟨⟨du (lH h.sl e1 (.no _)) (.cons (.ow r) .nil),h.gs,λx=>?_⟩,(Step.refl _ _ _).sub λx hx=>?_⟩
 ·rw [fB l]
  have:=h.nd x
  have:=q x
  simp only [bj,z1f] at *
  lia
 ·rw [fB l,gN] at hx
  rw [gN]
  have:=q x
  simp only [bj,z1f] at *
  lia
def SR.gl(h:SR K κ ι H σ Z G):ι.length=G.length:=Paired.length h.gs
def SR.box (h:SR K κ ι H (σ++[some (.ref a)]) (Z++[some (.ow m)]) G)(l:σ.length=Z.length) :
  SR K κ (ι++[a]) H σ Z (G++[m])/\RpI K (ι++[a]) H (.ref a) (.ref G.length)/\Step ι (own (σ++[some (.ref a)]) (Z++[some (.ow m)])++ι) H (ι++[a]) (own σ Z++(ι++[a])) H:=by
 obtain⟨p,q⟩:=cz l h.sl
 have pr:=cb.snoc ι [a]
 cases q with
 | cons q _ =>
  cases q with
  | ow q =>
   refine⟨⟨iG pr (Kp.refl _) (λ_ _=>rfl) p,du (lD pr (Kp.refl _) (λ_ _=>rfl) h.gs) (.cons (q.mono pr (Kp.refl _) rfl) .nil),λx=>?_⟩,?_,⟨pr,λx hx=>.inl ?_,λ_ _ e _=>e,λ_ e=>e,Kp.refl _⟩⟩
   ·have:=h.nd x
    rw [fB l] at this
    simp only [bj,z1f] at this ⊢
    lia
   ·refine .ref ?_
    have e:=h.gl
    rw [<- e,z18 (zf _),Nat.sub_self];rfl
   ·rw [fB l]
    simp only [z13] at hx ⊢
    rcases hx with hx|hx|hx
    ·exact .inl (.inl hx)
    ·exact .inr hx
    ·exact .inl (.inr hx)
def SR.poke{i:Nat}{a:Addr}{m m':M}{o:HO}(h:SR K κ ι H σ Z G)(e1:σ[i]?=some (some (.ref a)))(e2:Z[i]?=some (some (.ow m)))(r:∀(ρ:dq K κ ι H a m),Kp H (aC H a o)->dq K κ ι (aC H a o) a m')(hf:‹sS m=false›) :
  SR K κ ι (aC H a o) σ (Z.set i (some (.ow m'))) G/\Step ι (own σ Z++ι) H ι (own σ (Z.set i (some (.ow m')))++ι) (aC H a o):=by
 obtain⟨a',e1',rm⟩:=h.y15e e2
 rw [e1] at e1';cases e1'
 obtain⟨u,hu,mu⟩:=rm.mu
 have kp:Kp H (aC H a o):=⟨λb xs e=>by rw [aM (m9 e hu (by rintro rfl;cases mu))];exact e,λb o' u' e=>by rw [aM (λz=>by subst z;exact rm.nf hf _ _ e)];exact e⟩
 have q:∀x,bj x (own σ (Z.set i (some (.ow m'))))=bj x (own σ Z):=λx=>by
  have:=sU (y:=some (.ow m')) x e1 e2
  rw [lF,lF] at this
  lia
 have mem:=sV e1 e2
 have na:∀x,x∈own σ (Z.set i none)->x≠a:=λx hx z=>by
  subst z
  have:=sU (y:=none) x e1 e2
  rw [lF,jy] at this
  have n:=h.nd x
  have:=gN.mp hx
  have z1:bj x [x]=1:=by simp [bj]
  have z0:bj x []=0:=rfl
  lia
 have ni:∀x,x∈ι->x≠a:=λx hx z=>by
  subst z
  have n:=h.nd x
  have:=gN.mp hx
  have:=gN.mp mem
  lia
 have p1:=iG (cb.refl ι) kp (λx hx=>aM (na x hx)) (lH h.sl e1 (.no _))
 refine⟨⟨?_,lD (cb.refl ι) kp (λx hx=>aM (ni x hx)) h.gs,λx=>by rw [q];exact h.nd x⟩,⟨cb.refl _,λx hx=>.inl ?_,λx u e n=>?_,λx e=>?_,kp⟩⟩
 ·have:=lH p1 e1 (.ow (r rm kp))
  rw [List.set_set] at this
  exact this
 ·rw [gN] at hx ⊢
  have:=q x
  simp only [bj,z1f] at *
  lia
 ·rw [aM (λz=>n (by rw [z];exact List.mem_append_left _ mem))];exact e
 ·by_cases z:x=a
  ·subst z;rw [a9] at e;cases e
  ·rw [aM z] at e;exact e
def SR.pokeG{k:Nat}{a:Addr}{m m':M}{o:HO}(h:SR K κ ι H σ Z G)(e1:ι[k]?=some a)(e2:G[k]?=some m)(r:∀(ρ:dq K κ ι H a m),Kp H (aC H a o)->dq K κ ι (aC H a o) a m')(hf:‹sS m=false›) :
  SR K κ ι (aC H a o) σ Z (G.set k m')/\Step ι (own σ Z++ι) H ι (own σ Z++ι) (aC H a o):=by
 obtain⟨a',e1',rm⟩:=h.y15c e2
 rw [e1] at e1';cases e1'
 obtain⟨u,hu,mu⟩:=rm.mu
 have kp:Kp H (aC H a o):=⟨λb xs e=>by rw [aM (m9 e hu (by rintro rfl;cases mu))];exact e,λb o' u' e=>by rw [aM (λz=>by subst z;exact rm.nf hf _ _ e)];exact e⟩
 have mem:a∈ι:=z31 e1
 have na:∀x,x∈own σ Z->x≠a:=λx hx z=>by
  subst z
  have n:=h.nd x
  have:=gN.mp hx
  have:=gN.mp mem
  lia
 have inj:∀j,ι[j]?=some a->j=k:=λj ej=>by
  have n:=h.nd a
  have c1:bj a ι≤1:=by lia
  by_cases z:j=k
  ·exact z
  ·exfalso
   have:2≤bj a ι:=by
    have hj:=(z14.mp ej)
    have hk:=(z14.mp e1)
    obtain⟨hj,vj⟩:=hj
    obtain⟨hk,vk⟩:=hk
    have two:∀(l:List Addr) (i j:Nat) (hi:i<l.length) (hj:j<l.length),i<j->l[i]=a->l[j]=a->2≤List.count a l:=by
     intro l i j hi hj hij e1 e2
     have e:l=l.take j++l.drop j:=(List.take_append_drop j l).symm
     rw [e,z1f]
     have p1:0<List.count a (l.take j):=List.count_pos_iff.mpr (by rw [List.mem_take_iff_getElem];exact⟨i,by lia,e1⟩)
     have p2:0<List.count a (l.drop j):=List.count_pos_iff.mpr (by rw [List.mem_drop_iff_getElem];exact⟨0,by lia,by simpa using e2⟩)
     lia
    rcases Nat.lt_or_gt_of_ne z with z|z
    ·exact two ι j k hj hk z vj vk
    ·exact two ι k j hk hj z vk vj
   lia
 have objs:∀(as:List Addr) (Gs:List M) (b:Nat),(∀j x,as[j]?=some x->x=a->b+j=k)->Paired (dq K κ ι H) as Gs->(∀j,b+j=k->j<as.length->as[j]?=some a)->Paired (dq K κ ι (aC H a o)) as (if b≤k then Gs.set (k-b) m' else Gs):=by
  intro as Gs b hj p hk
  induction p generalizing b with
  | nil=>by_cases z:b≤k<;>simp [z]<;>exact .nil
  | @cons x y l r hx hr ih =>
   have ih':=ih (b+1) (λj x e z=>by have:=hj (j+1) x (by simpa using e) z;lia) (λj e l=>by have:=hk (j+1) (by lia) (by simp;lia);simpa using this)
   by_cases z:b=k
   ·subst z
    have xa:x=a:=by have:=hk 0 rfl (by simp);simpa using this
    subst xa
    rw [if_neg (by lia)] at ih'
    rw [if_pos (zf _),Nat.sub_self]
    exact .cons (r rm kp) ih'
   ·have xa:x≠a:=λe=>z (by have:=hj 0 x rfl e;lia)
    by_cases w:b≤k
    ·rw [if_pos (by lia)] at ih'
     rw [if_pos w]
     obtain⟨n,hn⟩:∃n,k-b=n+1:=⟨k-b-1,by lia⟩
     have hn':k-(b+1)=n:=by lia
     rw [hn];rw [hn'] at ih'
     exact .cons (hx.mono (cb.refl _) kp (aM xa)) ih'
    ·rw [if_neg (by lia)] at ih'
     rw [if_neg w]
     exact .cons (hx.mono (cb.refl _) kp (aM xa)) ih'
 have p2:=objs ι G 0 (λj x e z=>by subst z;have:=inj j e;lia) h.gs (λj e _=>(show j=k by lia) ▸ e1)
 rw [if_pos (Nat.zero_le _),Nat.sub_zero] at p2
 refine⟨⟨iG (cb.refl ι) kp (λx hx=>aM (na x hx)) h.sl,p2,h.nd⟩,⟨cb.refl _,λx hx=>.inl hx,λx u e n=>?_,λx e=>?_,kp⟩⟩
 ·rw [aM (λz=>n (by rw [z];exact z21 _ mem))];exact e
 ·by_cases z:x=a
  ·subst z;rw [a9] at e;cases e
  ·rw [aM z] at e;exact e
end
end
section
inductive Ev where
 | v (x:Vl)|s (i:Nat)
noncomputable abbrev De:=List (Option Vl)
noncomputable abbrev Mo(α:Type):=De->List M->Option (α×De×List M)
abbrev bd{α β:Type}(m:Mo α)(f:α->Mo β):Mo β:=λZ G=>match m Z G with
 | some (a,Z1,G1)=>f a Z1 G1
 | none=>none
abbrev rt{α:Type}(a:α):Mo α:=λZ G=>some (a,Z,G)
def cD{α β:Type}{m:Mo α}{f:α->Mo β}{Z:De}{G:List M}{r:β×De×List M}(h:bd m f Z G=some r):∃a Z1 G1,m Z G=some (a,Z1,G1)/\f a Z1 G1=some r:=by
 unfold bd at h
 split at h
 ·exact⟨_,_,_,by assumption,h⟩
 ·cases h
def mQ{α β:Type}{m:Mo α}{f:α->Mo β}{Z Z1:De}{G G1:List M}{a:α}(h:m Z G=some (a,Z1,G1)):bd m f Z G=f a Z1 G1:=by
 unfold bd;rw [h]
abbrev tS:List Ev->List V->St
 | .v _::es,v::vs=>some v::tS es vs
 | .s _::es,_::vs=>tS es vs
 | _,_=>[]
abbrev tD:List Ev->De
 | .v x::es=>some x::tD es
 | .s _::es=>tD es
 | []=>[]
theorem n5:∀{es:List Ev} {vs:List V} (fs:List Ev) (ws:List V),es.length=vs.length->tS (es++fs) (vs++ws)=tS es vs++tS fs ws
 | [],[],_,_,_=>rfl
 | [],_::_,_,_,h=>by cases h
 | _::_,[],_,_,h=>by cases h
 | .v x::es,v::vs,fs,ws,h=>by
  show some v::tS (es++fs) (vs++ws)=some v::(tS es vs++tS fs ws)
  rw [n5 fs ws (by simpa using h)]
 | .s i::es,v::vs,fs,ws,h=>by
  show tS (es++fs) (vs++ws)=tS es vs++tS fs ws
  rw [n5 fs ws (by simpa using h)]
theorem n8:∀(es fs:List Ev),tD (es++fs)=tD es++tD fs
 | [],_=>rfl
 | .v x::es,fs=>by
  show some x::tD (es++fs)=some x::(tD es++tD fs)
  rw [n8]
 | .s i::es,fs=>by
  show tD (es++fs)=tD es++tD fs
  rw [n8]
structure Args(K:W.Frag)(κ:Str->Addr)(ι:List Addr)(H:Hp)(σ:St)(Z:De)(G:List M)(es:List Ev)(vs:List V):Prop where
 l:σ.length=Z.length
 sr:SR K κ ι H (σ++tS es vs) (Z++tD es) G
 al:Paired (λ(e:Ev) (v:V)=>∀i,e=.s i->σ[i]?=some (some v)) es vs
structure After(K:W.Frag)(κ:Str->Addr)(σ:St)(ι fp:List Addr)(H:Hp)(es:List Ev)(Z':De)(G':List M)(vs:List V)(ι':List Addr)(H':Hp):Prop where
 ar:Args K κ ι' H' σ Z' G' es vs
 st:Step ι fp H ι' (own (σ++tS es vs) (Z'++tD es)++ι') H'
def bZ(h:some (x,Z,G)=some (e,Z',G'))(a:After K κ σ ι fp H [x] Z G vs ι' H'):After K κ σ ι fp H [e] Z' G' vs ι' H':=by cases h;exact a
abbrev bF(K:W.Frag)(κ:Str->Addr)(f:Mo Ev):TE:=λσ H Q=>∃ι Z G e Z' G',SR K κ ι H σ Z G/\f Z G=some (e,Z',G')/\∀v ι' H',After K κ σ ι (own σ Z++ι) H [e] Z' G' [v] ι' H'->Q v H'
abbrev gb(K:W.Frag)(κ:Str->Addr)(f:Mo (List Ev)):TA:=λσ H Q=>∃ι Z G es Z' G',SR K κ ι H σ Z G/\f Z G=some (es,Z',G')/\∀vs ι' H',After K κ σ ι (own σ Z++ι) H es Z' G' vs ι' H'->Q vs H'
section
variable {κ:Str->Addr}{H H1 H2:Hp}{σ:St}{Z Z1 Z2:De}
def Args.base(h:Args K κ ι H σ Z G es vs):SR K κ ι H σ Z G:=h.sr.pop h.l
def BX (h:n=vs.length)(e:‹n=0›):vs=[]:=by subst e;cases vs with|nil=>rfl|cons _ _=>cases h
def cu (h:n=vs.length)(e:‹n=1›):∃a,vs=[a]:=by
 subst e
 cases vs with
 | nil=>cases h
 | cons a r=>exact⟨a,by rw [BX (Nat.succ.inj h)]⟩
def bP (h:n=vs.length)(e:‹n=2›):∃a b,vs=[a,b]:=by
 subst e
 cases vs with
 | nil=>cases h
 | cons a r=>obtain⟨b,e⟩:=cu (Nat.succ.inj h);exact⟨a,b,by rw [e]⟩
def sX (h:n=vs.length)(e:‹n=3›):∃a b c,vs=[a,b,c]:=by
 subst e
 cases vs with
 | nil=>cases h
 | cons a r=>obtain⟨b,c,e⟩:=bP (Nat.succ.inj h);exact⟨a,b,c,by rw [e]⟩
def Args.len(h:Args K κ ι H σ Z G es vs):es.length=vs.length:=Paired.length h.al
def After.app(a:After K κ σ ι fp H es Z1 G1 vs ι1 H1)(b:After K κ σ ι1 (own σ Z1++ι1) H1 fs Z2 G2 ws ι2 H2):After K κ σ ι fp H (es++fs) Z2 G2 (vs++ws) ι2 H2:=by
 obtain⟨s,t⟩:=SR.join a.ar.sr a.ar.l b.ar.sr b.ar.l b.st
 have e1:=n5 fs ws a.ar.len
 have e2:=n8 es fs
 refine⟨⟨b.ar.l,by rw [e1,e2];exact s,du a.ar.al b.ar.al⟩,?_⟩
 rw [e1,e2]
 exact a.st.trans t
theorem After.nil(h:SR K κ ι H σ Z G):After K κ σ ι (own σ Z++ι) H [] Z G [] ι H:=by
 refine⟨⟨h.len,?_,.nil⟩,?_⟩
 ·show SR K κ ι H (σ++[]) (Z++[]) G
  rw [z11,z11];exact h
 ·show Step ι _ H ι (own (σ++[]) (Z++[])++ι) H
  rw [z11,z11];exact Step.refl _ _ _
abbrev ae:Mo (List Ev):=rt []
abbrev af(fa:Mo Ev)(fr:Mo (List Ev)):Mo (List Ev):=bd fa λe=>bd fr λes=>rt (e::es)
def BY(h:gb K κ ae σ H Q):iD σ H Q:=by
 obtain⟨ι,Z,G,es,Z',G',s,e,k⟩:=h
 cases e
 exact k _ _ _ (After.nil s)
def BZ (h:gb K κ (af fa fr) σ H Q):dU (bF K κ fa) (gb K κ fr) σ H Q:=by
 obtain⟨ι,Z,G,es,Z',G',s,e,k⟩:=h
 obtain⟨x,Z1,G1,e1,e⟩:=cD e
 obtain⟨xs,Z2,G2,e2,e⟩:=cD e
 cases e
 refine⟨ι,Z,G,x,Z1,G1,s,e1,λv ι1 H1 a=>?_⟩
 refine⟨ι1,Z1,G1,xs,_,_,a.ar.base,e2,λvs ι2 H2 b=>?_⟩
 exact k _ _ _ (a.app b)
abbrev aE(K:W.Frag)(κ:Str->Addr)(r:List V->Hp->VK->Prop)(p:List Ev->Mo Ev):Prop :=
 ∀(ι:List Addr) (H:Hp) (σ:St) (Z:De) (G:List M) (es:List Ev) (vs:List V) (e:Ev) (Z':De) (G':List M) (Q:VK),Args K κ ι H σ Z G es vs->p es Z G=some (e,Z',G') ->
  (∀v ι' H',After K κ σ ι (own (σ++tS es vs) (Z++tD es)++ι) H [e] Z' G' [v] ι' H'->Q v H')->r vs H Q
def After.then (a:After K κ σ ι fp H es Z1 G1 vs ι1 H1)(b:After K κ σ ι1 (own (σ++tS es vs) (Z1++tD es)++ι1) H1 es' Z2 G2 vs' ι2 H2):After K κ σ ι fp H es' Z2 G2 vs' ι2 H2:=⟨b.ar,a.st.trans b.st⟩
def gc  (hp:aE K κ r p)(h:bF K κ (bd fa p) σ H Q):gb K κ fa σ H λvs H1=>r vs H1 Q:=by
 obtain⟨ι,Z,G,e,Z',G',s,eq,k⟩:=h
 obtain⟨xs,Z1,G1,e1,e2⟩:=cD eq
 refine⟨ι,Z,G,xs,Z1,G1,s,e1,λvs ι1 H1 a=>?_⟩
 exact hp _ _ _ _ _ _ _ _ _ _ _ a.ar e2 λv ι2 H2 b=>k _ _ _ (a.then b)
abbrev r2(r:R2):List V->Hp->VK->Prop:=λvs H Q=>∃x y,vs=[x,y]/\r x y H Q
abbrev r1(r:V->Hp->VK->Prop):List V->Hp->VK->Prop:=λvs H Q=>∃x,vs=[x]/\r x H Q
abbrev ah(p:List Ev->Mo Ev)(fa fb:Mo Ev):Mo Ev:=bd fa λx=>bd fb λy=>p [x,y]
abbrev cZ(p:List Ev->Mo Ev)(fa:Mo Ev):Mo Ev:=bd fa λx=>p [x]
def gO  (hp:aE K κ (r2 r) p)(h:bF K κ (ah p fa fb) σ H Q):mL r (bF K κ fa) (bF K κ fb) σ H Q:=by
 obtain⟨ι,Z,G,e,Z',G',s,eq,k⟩:=h
 obtain⟨x,Z1,G1,e1,eq⟩:=cD eq
 obtain⟨y,Z2,G2,e2,eq⟩:=cD eq
 refine⟨ι,Z,G,x,Z1,G1,s,e1,λv ι1 H1 a=>?_⟩
 refine⟨ι1,Z1,G1,y,Z2,G2,a.ar.base,e2,λw ι2 H2 b=>?_⟩
 have c:=a.app b
 obtain⟨x',y',e',q⟩:=hp _ _ _ _ _ _ _ _ _ _ Q c.ar eq λv ι3 H3 d=>k _ _ _ (c.then d)
 cases e'
 exact q
def lI  (hp:aE K κ (r1 r) p)(h:bF K κ (cZ p fa) σ H Q):tUn r (bF K κ fa) σ H Q:=by
 obtain⟨ι,Z,G,e,Z',G',s,eq,k⟩:=h
 obtain⟨x,Z1,G1,e1,eq⟩:=cD eq
 refine⟨ι,Z,G,x,Z1,G1,s,e1,λv ι1 H1 a=>?_⟩
 obtain⟨x',e',q⟩:=hp _ _ _ _ _ _ _ _ _ _ Q a.ar eq λv ι3 H3 d=>k _ _ _ (a.then d)
 cases e'
 exact q
theorem n9:∀{es:List Ev} {vs:List V} {j:Nat} {x:Vl} {v:V},Paired (RpE K κ ι H) (tS es vs) (tD es)->es[j]?=some (.v x)->vs[j]?=some v->RpE K κ ι H (some v) (some x)
 | [],_,_,_,_,_,h,_=>by simp at h
 | _::_,[],_,_,_,_,_,h=>by simp at h
 | .v y::es,w::vs,0,x,v,p,h1,h2=>by
  simp at h1 h2
  subst h1;subst h2
  cases p with
  | cons q _=>exact q
 | .s i::es,w::vs,0,x,v,p,h1,h2=>by simp at h1
 | .v y::es,w::vs,j+1,x,v,p,h1,h2=>by
  cases p with
  | cons _ p=>exact n9 p (by simpa using h1) (by simpa using h2)
 | .s i::es,w::vs,j+1,x,v,p,h1,h2=>n9 (vs:=vs) p (by simpa using h1) (by simpa using h2)
theorem Args.im{j:Nat}{d:I}{v:V}(a:Args K κ ι H σ Z G es vs)(h1:es[j]?=some (.v (.im d)))(h2:vs[j]?=some v):RpI K ι H v d:=by
 have:=n9 (cz a.l a.sr.sl).2 h1 h2
 cases this with
 | im r=>exact r
abbrev pk(Z:De)(G:List M):Ev->Option M
 | .v (.ow m)=>some m
 | .v (.im (.ref k))=>G[k]?
 | .v (.im _)=>none
 | .s i=>match Z[i]? with
  | some (some (.ow m))=>some m
  | _=>none
theorem Args.pk{j:Nat}{e:Ev}{m:M}{v:V}(a:Args K κ ι H σ Z G es vs)(h1:es[j]?=some e)(h2:vs[j]?=some v)(h:B.pk Z G e=some m):∃b,v=.ref b/\dq K κ ι H b m:=by
 cases e with
 | v x =>
  have q:=n9 (cz a.l a.sr.sl).2 h1 h2
  cases x with
  | ow m'=>cases h;cases q with
   | ow r=>exact⟨_,rfl,r⟩
  | im d =>
   cases q with
   | im r =>
    cases r with
    | ref e =>
     obtain⟨b,e',r⟩:=a.base.y15c h
     rw [e] at e';cases e'
     exact⟨_,rfl,r⟩
    | _=>cases h
 | s i =>
  have h:(match Z[i]? with|some (some (.ow m))=>some m|_=>none)=some m:=h
  obtain⟨v',e1,al⟩:∃v',vs[j]?=some v'/\σ[i]?=some (some v'):=by
   have:∀{es:List Ev} {vs:List V} {j:Nat},Paired (λ(e:Ev) (v:V)=>∀i,e=.s i->σ[i]?=some (some v)) es vs->es[j]?=some (.s i)->∃v',vs[j]?=some v'/\σ[i]?=some (some v'):=by
    intro es vs j p
    induction p generalizing j with
    | nil=>intro h;simp at h
    | cons q _ ih =>
     intro h
     cases j with
     | zero=>simp at h;exact⟨_,rfl,q i h⟩
     | succ j=>obtain⟨v',e,z⟩:=ih (by simpa using h);exact⟨v',by simpa using e,z⟩
   exact this a.al h1
  rw [h2] at e1;cases e1
  split at h
  ·rename_i m' e
   cases h
   obtain⟨b,e',r⟩:=a.base.y15e e
   rw [al] at e';cases e'
   exact⟨_,rfl,r⟩
  ·cases h
abbrev sq(Z:De)(G:List M):Ev->Option (List I)
 | .v (.im (.tup xs))=>some xs
 | .v (.im (.fro xs))=>some xs
 | .v (.im (.con xs))=>some xs
 | e=>match pk Z G e with
  | some (.lst xs)=>some xs
  | _=>none
theorem Args.sq{j:Nat}{e:Ev}{xs:List I}{v:V}(a:Args K κ ι H σ Z G es vs)(h1:es[j]?=some e)(h2:vs[j]?=some v)(h:B.sq Z G e=some xs):∃b ys,v=.ref b/\(bM K H b ys∨br K H b ys)/\y57 K ι H ys xs:=by
 have y14f:(match B.pk Z G e with|some (.lst xs)=>some xs|_=>none)=some xs->∃b ys,v=.ref b/\(bM K H b ys∨br K H b ys)/\y57 K ι H ys xs:=λq=>by
  split at q
  ·rename_i xs' e'
   cases q
   obtain⟨b,e1,ys,h3,r⟩:=a.pk h1 h2 e'
   exact⟨b,ys,e1,.inl (bM.of h3),r⟩
  ·cases q
 cases e with
 | s i=>exact y14f h
 | v x =>
  cases x with
  | ow m=>exact y14f h
  | im d =>
   have r:=a.im h1 h2
   cases r with
   | tup q r=>cases h;exact⟨_,_,rfl,.inr (br.of q),r⟩
   | con q r=>cases h;exact⟨_,_,rfl,.inr (br.kon q),r⟩
   | fro q r=>cases h;exact⟨_,_,rfl,.inl q.sq,r⟩
   | ref q=>exact y14f h
   | non=>exact y14f h
   | bl=>exact y14f h
   | int=>exact y14f h
   | str=>exact y14f h
   | ty=>exact y14f h
def bt (a:Args K κ ι H σ Z G es vs)(r:RpI K ι H v d):After K κ σ ι (own (σ++tS es vs) (Z++tD es)++ι) H [.v (.im d)] Z G [v] ι H:=by
 refine⟨⟨a.l,a.base.push_im r,.cons (λ_ h=>by cases h) .nil⟩,(Step.refl _ _ _).sub λx h=>?_⟩
 have h:x∈own (σ++[some v]) (Z++[some (.im d)])++ι:=h
 rw [dv a.l] at h
 exact cE a.l h
def sY (a:Args K κ ι H σ Z G es vs)(s:dW H H')(r:RpI K ι H' v d):After K κ σ ι (own (σ++tS es vs) (Z++tD es)++ι) H [.v (.im d)] Z G [v] ι H':=by
 refine⟨⟨a.l,(a.base.same s).push_im r,.cons (λ_ h=>by cases h) .nil⟩,(Step.same s).sub λx h=>?_⟩
 have h:x∈own (σ++[some v]) (Z++[some (.im d)])++ι:=h
 rw [dv a.l] at h
 exact cE a.l h
def lJ (a:Args K κ ι H σ Z G es vs)(hp:H p=none)(r:y57 K ι H ys xs):After K κ σ ι (own (σ++tS es vs) (Z++tD es)++ι) H [.v (.im (.tup xs))] Z G [.ref p] ι (aC H p (.tup ys)) :=
 sY a (dW.lay hp) (.tup a9 (r.mono (cb.refl _) (Kp.same (dW.lay hp))))
def sZ (a:Args K κ ι H σ Z G es vs)(hp:H p=none)(r:dq K κ ι (aC H p o) p m):After K κ σ ι (own (σ++tS es vs) (Z++tD es)++ι) H [.v (.ow m)] Z G [.ref p] ι (aC H p o) :=
 ⟨⟨a.l,a.base.y324 hp r,.cons (λ_ h=>by cases h) .nil⟩,(Step.y1df a.l hp).wide λx h=>cE a.l h⟩
def gP (a:Args K κ ι H σ Z G es vs)(hp:H p=none)(r:y57 K ι H ys xs):After K κ σ ι (own (σ++tS es vs) (Z++tD es)++ι) H [.v (.ow (.lst xs))] Z G [.ref p] ι (aC H p (.lst ys)) :=
 sZ a hp ⟨ys,a9,r.mono (cb.refl _) (Kp.same (dW.lay hp))⟩
abbrev ik(Z:De)(G:List M)(m':M):Ev->De×List M
 | .v (.im (.ref k))=>(Z,G.set k m')
 | .v _=>(Z,G)
 | .s i=>(Z.set i (some (.ow m')),G)
theorem oa:∀{es:List Ev} {vs:List V} {j:Nat} {x:Vl} {v:V},es[j]?=some (.v x)->vs[j]?=some v->es.length=vs.length->∃n:Nat,(tS es vs)[n]?=some (some v)/\(tD es)[n]?=some (some x)
 | [],_,_,_,_,h,_,_=>by simp at h
 | _::_,[],_,_,_,_,h,_=>by simp at h
 | .v y::es,w::vs,0,x,v,h1,h2,_=>by
  simp at h1 h2
  subst h1;subst h2
  exact⟨0,rfl,rfl⟩
 | .s i::es,w::vs,0,x,v,h1,h2,_=>by simp at h1
 | .v y::es,w::vs,j+1,x,v,h1,h2,l=>by
  obtain⟨n,p,q⟩:=oa (by simpa using h1) (by simpa using h2) (by simpa using l)
  exact⟨n+1,by simpa [tS] using p,by simpa [tD] using q⟩
 | .s i::es,w::vs,j+1,x,v,h1,h2,l=>by
  obtain⟨n,p,q⟩:=oa (by simpa using h1) (by simpa using h2) (by simpa using l)
  exact⟨n,p,q⟩
def yM{i:Nat}:∀{es:List Ev} {vs:List V} {j:Nat} {v:V},Paired (λ(e:Ev) (v:V)=>∀i,e=.s i->σ[i]?=some (some v)) es vs->es[j]?=some (.s i)->vs[j]?=some v->σ[i]?=some (some v):=by
 intro es vs j v p
 induction p generalizing j with
 | nil=>intro h;simp at h
 | cons q _ ih =>
  intro h h2
  cases j with
  | zero=>simp at h h2;subst h2;exact q i h
  | succ j=>exact ih (by simpa using h) (by simpa using h2)
def lK{j:Nat}{e:Ev}{m m':M}{b:Addr}{o:HO}{v:V}{d:I}(a:Args K κ ι H σ Z G es vs)(h1:es[j]?=some e)(h2:vs[j]?=some (.ref b))(h:pk Z G e=some m)
  (r:dq K κ ι H b m->Kp H (aC H b o)->dq K κ ι (aC H b o) b m') (rv:RpI K ι H v d) (hf:‹sS m=false›) :
  After K κ σ ι (own (σ++tS es vs) (Z++tD es)++ι) H [.v (.im d)] (ik Z G m' e).1 (ik Z G m' e).2 [v] ι (aC H b o):=by
 have fin:∀{Z':De} {G':List M},SR K κ ι (aC H b o) σ Z' G'->Step ι (own (σ++tS es vs) (Z++tD es)++ι) H ι (own σ Z'++ι) (aC H b o)->After K κ σ ι (own (σ++tS es vs) (Z++tD es)++ι) H [.v (.im d)] Z' G' [v] ι (aC H b o):=λs st=>by
  refine⟨⟨s.len,s.push_im (rv.mono (cb.refl _) st.kp),.cons (λ_ h=>by cases h) .nil⟩,st.sub λx h=>?_⟩
  have h:x∈own (σ++[some v]) (_++[some (.im d)])++ι:=h
  rw [dv s.len] at h
  exact h
 cases e with
 | s i =>
  have al:=yM a.al h1 h2
  have h:(match Z[i]? with|some (some (.ow m))=>some m|_=>none)=some m:=h
  split at h
  ·rename_i m0 e
   cases h
   obtain⟨p,q⟩:=a.base.poke al e r hf
   exact fin p (q.wide λx h=>cE a.l h)
  ·cases h
 | v x =>
  cases x with
  | im d =>
   cases d with
   | ref k =>
    have rr:=a.im h1 h2
    cases rr with
    | ref e =>
     obtain⟨p,q⟩:=a.base.pokeG e h r hf
     exact fin p (q.wide λx h=>cE a.l h)
   | _=>cases h
  | ow m0 =>
   cases h
   obtain⟨n,p1,p2⟩:=oa h1 h2 a.len
   have e1:(σ++tS es vs)[σ.length+n]?=some (some (.ref b)):=by rw [z18 (by lia)];simpa using p1
   have e2:(Z++tD es)[σ.length+n]?=some (some (.ow m)):=by rw [a.l,z18 (by lia)];simpa using p2
   obtain⟨p,q⟩:=a.sr.poke e1 e2 r hf
   have e3:(Z++tD es).set (σ.length+n) (some (.ow m'))=Z++(tD es).set n (some (.ow m')):=by rw [a.l,List.set_append_right _ _ (by lia)];simp
   rw [e3] at p q
   exact fin (p.pop a.l) (q.sub λx h=>cE a.l h)
end
end
section
section
abbrev aa(i:Nat):Mo Ev:=λZ G=>match Z[i]? with
 | some (some (.im d))=>some (.v (.im d),Z,G)
 | some (some (.ow _))=>some (.s i,Z,G)
 | _=>none
def B1 (h:bF K κ (aa i) σ H Q):gG i σ H Q:=by
 obtain⟨ι,Z,G,e,Z',G',s,eq,k⟩:=h
 unfold aa at eq
 split at eq
 ·rename_i d hd
  cases eq
  obtain⟨v,e1,r⟩:=s.y15d hd
  refine⟨v,e1,k v ι H ⟨⟨s.len,s.push_im r,.cons (λ_ h=>by cases h) .nil⟩,(Step.refl _ _ _).sub λx h=>?_⟩⟩
  have h:x∈own (σ++[some v]) (Z++[some (.im d)])++ι:=h
  rw [dv s.len] at h
  exact h
 ·rename_i m hd
  cases eq
  obtain⟨a,e1,r⟩:=s.y15e hd
  have n:=After.nil s
  exact⟨_,e1,k _ ι H ⟨⟨s.len,n.ar.sr,.cons (λj h=>by cases h;exact e1) .nil⟩,n.st⟩⟩
 ·cases eq
abbrev ag(d:I):Mo Ev:=rt (.v (.im d))
def lL (r:∀ι H,RpI K ι H v d)(h:bF K κ (ag d) σ H Q):tC v σ H Q:=by
 obtain⟨ι,Z,G,e,Z',G',s,eq,k⟩:=h
 cases eq
 have a:=bt (After.nil s).ar (r ι H)
 exact k _ _ _ ⟨a.ar,(After.nil s).st.trans a.st⟩
abbrev og:Ev->Mo Ev
 | .v (.im d)=>rt (.v (.im d))
 | .v (.ow m)=>λZ G=>some (.v (.im (.ref G.length)),Z,G++[m])
 | .s i=>λZ G=>match Z[i]? with
  | some (some (.ow m))=>some (.v (.im (.ref G.length)),Z.set i (some (.im (.ref G.length))),G++[m])
  | _=>none
abbrev mR:Ev->Mo Ev
 | .v x=>rt (.v x)
 | .s i=>λZ G=>match Z[i]? with
  | some (some (.ow m))=>some (.v (.ow m),Z.set i none,G)
  | _=>none
abbrev aZ(f:Mo Ev):Mo Ev:=bd f og
abbrev iH(f:Mo Ev):Mo Ev:=bd f mR
def y67  (a:After K κ σ ι fp H [e] Z1 G1 [v] ι1 H1)(h:mR e Z1 G1=some (e',Z',G')):After K κ σ ι fp H [e'] Z' G' [v] ι1 H1/\∃x,e'=.v x:=by
 cases e with
 | v x=>cases h;exact⟨a,_,rfl⟩
 | s i =>
  unfold mR at h
  dsimp only at h
  split at h
  ·rename_i m hm
   cases h
   have al:=yM (j:=0) a.ar.al rfl rfl
   obtain⟨b,e1,r⟩:=a.ar.base.y15e hm
   rw [al] at e1;cases e1
   obtain⟨p,q⟩:=a.ar.base.take al hm
   refine⟨⟨⟨by rw [z2c];exact a.ar.l,p,.cons (λ_ h=>by cases h) .nil⟩,?_⟩,_,rfl⟩
   have st:=a.st
   have e0:own (σ++tS [.s i] [.ref b]) (Z1++tD [.s i])=own σ Z1:=by
    show own (σ++[]) (Z1++[])=_
    rw [z11,z11]
   rw [e0] at st
   exact st.trans q
  ·cases h
def y66  (a:After K κ σ ι fp H [e] Z1 G1 [v] ι1 H1)(h:og e Z1 G1=some (e',Z',G')):∃ι2,After K κ σ ι fp H [e'] Z' G' [v] ι2 H1:=by
 have go:∀{Z3:De} {b:Addr} {m:M},σ.length=Z3.length->After K κ σ ι fp H [.v (.ow m)] Z3 G1 [.ref b] ι1 H1->After K κ σ ι fp H [.v (.im (.ref G1.length))] Z3 (G1++[m]) [.ref b] (ι1++[b]) H1:=λ{Z3 b m} l a=>by
  obtain⟨p,r,q⟩:=SR.box a.ar.sr l
  refine⟨⟨l,p.push_im r,.cons (λ_ h=>by cases h) .nil⟩,a.st.trans (q.sub λx h=>?_)⟩
  have h:x∈own (σ++[some (.ref b)]) (Z3++[some (.im (.ref G1.length))])++(ι1++[b]):=h
  rw [dv l] at h
  exact h
 cases e with
 | v x =>
  cases x with
  | im d=>cases h;exact⟨_,a⟩
  | ow m =>
   cases h
   have r:=n9 (cz a.ar.l a.ar.sr.sl).2 (j:=0) rfl rfl
   cases r
   exact⟨_,go a.ar.l a⟩
 | s i =>
  unfold og at h
  dsimp only at h
  split at h
  ·rename_i m hm
   cases h
   have al:=yM (j:=0) a.ar.al rfl rfl
   have hm':mR (.s i) Z1 G1=some (.v (.ow m),Z1.set i none,G1):=by unfold mR;dsimp only;rw [hm]
   obtain⟨a',_⟩:=y67 a hm'
   obtain⟨b,e1,r⟩:=a.ar.base.y15e hm
   rw [al] at e1;cases e1
   have c:=go (by rw [z2c];exact a.ar.l) a'
   have hr:RpI K (ι1++[b]) H1 (.ref b) (.ref G1.length):=c.ar.im (j:=0) rfl rfl
   have s0:=c.ar.base
   have l:σ.length=(Z1.set i (some (.im (.ref G1.length)))).length:=by rw [z2c];exact a.ar.l
   have eo:∀x,bj x (own σ (Z1.set i (some (.im (.ref G1.length)))))=bj x (own σ (Z1.set i none)):=λx=>by
    have h1:=sU (y:=some (.im (.ref G1.length))) x al hm
    have h2:=sU (y:=none) x al hm
    rw [fZ] at h1;rw [jy] at h2
    lia
   have sr:SR K κ (ι1++[b]) H1 σ (Z1.set i (some (.im (.ref G1.length)))) (G1++[m]):=by
    refine⟨?_,s0.gs,λx=>by rw [eo];exact s0.nd x⟩
    have:=lH s0.sl al (.im hr)
    rw [List.set_set] at this
    exact this
   refine⟨_,⟨l,sr.push_im hr,.cons (λ_ h=>by cases h) .nil⟩,c.st.sub λx h=>?_⟩
   have h:x∈own (σ++[some (.ref b)]) (Z1.set i (some (.im (.ref G1.length)))++[some (.im (.ref G1.length))])++(ι1++[b]):=h
   rw [dv l] at h
   show x∈own (σ++[some (.ref b)]) (Z1.set i none++[some (.im (.ref G1.length))])++(ι1++[b])
   rw [dv (by rw [z2c];exact a.ar.l)]
   simp only [z13] at h ⊢
   rcases h with h|h
   ·left;rw [gN] at h ⊢;rw [<- eo];exact h
   ·exact .inr h
  ·cases h
def B2 (h:bF K κ (aZ f) σ H Q):bF K κ f σ H Q:=by
 obtain⟨ι,Z,G,e,Z',G',s,eq,k⟩:=h
 obtain⟨x,Z1,G1,e1,eq⟩:=cD eq
 refine⟨ι,Z,G,x,Z1,G1,s,e1,λv ι1 H1 a=>?_⟩
 obtain⟨ι2,b⟩:=y66 a eq
 exact k _ _ _ b
def tf (h:bF K κ (iH f) σ H Q):bF K κ f σ H Q:=by
 obtain⟨ι,Z,G,e,Z',G',s,eq,k⟩:=h
 obtain⟨x,Z1,G1,e1,eq⟩:=cD eq
 refine⟨ι,Z,G,x,Z1,G1,s,e1,λv ι1 H1 a=>?_⟩
 obtain⟨b,_⟩:=y67 a eq
 exact k _ _ _ b
abbrev oi:Ev->Option I
 | .v (.im d)=>some d
 | _=>none
abbrev mS:List Ev->Option (List I)
 | []=>some []
 | e::es=>match oi e,mS es with
  | some d,some ds=>some (d::ds)
  | _,_=>none
theorem y73:∀{es:List Ev} {vs:List V} {ds:List I},Paired (RpE K κ ι H) (tS es vs) (tD es)->es.length=vs.length->mS es=some ds->y57 K ι H vs ds
 | [],[],_,_,_,h=>by cases h;exact .nil
 | [],_::_,_,_,l,_=>by cases l
 | _::_,[],_,_,l,_=>by cases l
 | e::es,v::vs,ds,p,l,h=>by
  unfold mS at h
  split at h
  ·rename_i d ds' h1 h2
   cases h
   cases e with
   | s i=>cases h1
   | v x =>
    cases x with
    | ow m=>cases h1
    | im d' =>
     cases h1
     cases p with
     | cons q p =>
      cases q with
      | im r=>exact .cons r (y73 p (by simpa using l) h2)
  ·cases h
def Args.ims(a:Args K κ ι H σ Z G es vs)(h:mS es=some ds):y57 K ι H vs ds:=y73 (cz a.l a.sr.sl).2 a.len h
abbrev ay:List Ev->Mo Ev:=λes Z G=>match mS es with
 | some ds=>if ds.length≤1000 then some (.v (.im (.tup ds)),Z,G) else none
 | none=>none
abbrev aP:List Ev->Mo Ev:=λes Z G=>match mS es with
 | some ds=>if ds.length≤1000 then some (.v (.ow (.lst ds)),Z,G) else none
 | none=>none
def tj:1000≤sizeLine:=by decide
def B3:aE K κ (λvs H Q=>vs.length≤sizeLine/\∀p,H p=none->Q (.ref p) (aC H p (.tup vs))) ay:=by
 intro ι H σ Z G es vs e Z' G' Q a h k
 unfold ay at h
 split at h
 ·rename_i ds hd
  split at h
  ·have r:=a.ims hd
   exact⟨by rw [r.len];exact z19 (by assumption) tj,λp hp=>k _ _ _ (bZ h (lJ a hp r))⟩
  ·cases h
 ·cases h
def B4:aE K κ (λvs H Q=>vs.length≤sizeLine/\∀p,H p=none->Q (.ref p) (aC H p (.lst vs))) aP:=by
 intro ι H σ Z G es vs e Z' G' Q a h k
 unfold aP at h
 split at h
 ·rename_i ds hd
  split at h
  ·have r:=a.ims hd
   exact⟨by rw [r.len];exact z19 (by assumption) tj,λp hp=>k _ _ _ (bZ h (gP a hp r))⟩
  ·cases h
 ·cases h
abbrev dH(K:W.Frag)(κ:Str->Addr)(f:Mo Bool):TT:=λσ H Q=>∃ι Z G b Z' G',SR K κ ι H σ Z G/\f Z G=some (b,Z',G')/\∀ι' H',SR K κ ι' H' σ Z' G'->Step ι (own σ Z++ι) H ι' (own σ Z'++ι') H'->Q b H'
abbrev B5:Ev->Mo Bool
 | .v (.im (.bl b))=>rt b
 | _=>λ_ _=>none
abbrev ao(f:Mo Ev):Mo Bool:=bd f B5
def After.drop (a:After K κ σ ι fp H [e] Z1 G1 [v] ι1 H1):SR K κ ι1 H1 σ Z1 G1/\Step ι fp H ι1 (own σ Z1++ι1) H1:=⟨a.ar.base,a.st.sub λx h=>cE a.ar.l h⟩
def jz (h:dH K κ (ao f) σ H Q):qT (bF K κ f) σ H Q:=by
 obtain⟨ι,Z,G,b,Z',G',s,eq,k⟩:=h
 obtain⟨x,Z1,G1,e1,eq⟩:=cD eq
 refine⟨ι,Z,G,x,Z1,G1,s,e1,λv ι1 H1 a=>?_⟩
 unfold B5 at eq
 split at eq
 ·rename_i b'
  cases eq
  have r:=a.ar.im (j:=0) rfl rfl
  cases lB (r)
  obtain⟨p,q⟩:=a.drop
  exact⟨_,rfl,k _ _ p q⟩
 ·cases eq
abbrev eG(c d:Mo Bool):Mo Bool:=bd c λb=>if b then d else rt false
abbrev kA(c d:Mo Bool):Mo Bool:=bd c λb=>if b then rt true else d
abbrev B6(c:Mo Bool):Mo Bool:=bd c λb=>rt (!b)
def dH.go{Q Q':Bool->Hp->Prop} (s:SR K κ ι1 H1 σ Z1 G1)(st:Step ι fp H ι1 (own σ Z1++ι1) H1)(e:f Z1 G1=some (b,Z2,G2))
  (k:∀ι' H',SR K κ ι' H' σ Z2 G2->Step ι fp H ι' (own σ Z2++ι') H'->Q b H'):dH K κ f σ H1 Q:=⟨ι1,Z1,G1,b,Z2,G2,s,e,λι' H' s' st'=>k ι' H' s' (st.trans st')⟩
def B7 (h:dH K κ (eG c d) σ H Q):nq (dH K κ c) (dH K κ d) σ H Q:=by
 obtain⟨ι,Z,G,b,Z',G',s,eq,k⟩:=h
 obtain⟨x,Z1,G1,e1,eq⟩:=cD eq
 refine⟨ι,Z,G,x,Z1,G1,s,e1,λι1 H1 s1 st=>?_⟩
 cases x with
 | true=>rw [if_pos rfl] at eq ⊢;exact dH.go (Q':=Q) s1 st eq k
 | false=>rw [if_neg z15] at eq ⊢;cases eq;exact k _ _ s1 st
def tm (h:dH K κ (kA c d) σ H Q):tOr (dH K κ c) (dH K κ d) σ H Q:=by
 obtain⟨ι,Z,G,b,Z',G',s,eq,k⟩:=h
 obtain⟨x,Z1,G1,e1,eq⟩:=cD eq
 refine⟨ι,Z,G,x,Z1,G1,s,e1,λι1 H1 s1 st=>?_⟩
 cases x with
 | true=>rw [if_pos rfl] at eq ⊢;cases eq;exact k _ _ s1 st
 | false=>rw [if_neg z15] at eq ⊢;exact dH.go (Q':=Q) s1 st eq k
abbrev ifE(c:Mo Bool)(fa fb:Mo Ev):Mo Ev:=bd c λb=>if b then fa else fb
inductive Fl where
 | nx (Z:De) (G:List M)|rt (x:Vl) (G:List M)|bk (Z:De) (G:List M)|ct (Z:De) (G:List M)
noncomputable abbrev SF:=De->List M->Option Fl
abbrev yf(K:W.Frag)(κ:Str->Addr)(ι fp:List Addr)(H:Hp)(D:Ends):Fl->Prop
 | .nx Z' G'=>∀σ' ι' H',SR K κ ι' H' σ' Z' G'->Step ι fp H ι' (own σ' Z'++ι') H'->D.nx σ' H'
 | .bk Z' G'=>∀σ' ι' H',SR K κ ι' H' σ' Z' G'->Step ι fp H ι' (own σ' Z'++ι') H'->D.bk σ' H'
 | .ct Z' G'=>∀σ' ι' H',SR K κ ι' H' σ' Z' G'->Step ι fp H ι' (own σ' Z'++ι') H'->D.ct σ' H'
 | .rt x G'=>∀v ι' H',SR K κ ι' H' [some v] [some x] G'->Step ι fp H ι' (own [some v] [some x]++ι') H'->D.rt v H'
abbrev dk(K:W.Frag)(κ:Str->Addr)(f:SF):TS:=λD σ H=>∃ι Z G fl,SR K κ ι H σ Z G/\f Z G=some fl/\yf K κ ι (own σ Z++ι) H D fl
def yf.step (st:Step ι fp H ι1 fq H1)(h:yf K κ ι fp H D fl):yf K κ ι1 fq H1 D fl:=by
 cases fl with
 | nx Z' G'=>exact λσ' ι' H' s t=>h σ' ι' H' s (st.trans t)
 | bk Z' G'=>exact λσ' ι' H' s t=>h σ' ι' H' s (st.trans t)
 | ct Z' G'=>exact λσ' ι' H' s t=>h σ' ι' H' s (st.trans t)
 | rt x G'=>exact λv ι' H' s t=>h v ι' H' s (st.trans t)
def dk.of (s:SR K κ ι1 H1 σ Z1 G1)(st:Step ι fp H ι1 (own σ Z1++ι1) H1)(eq:f Z1 G1=some fl)(k:yf K κ ι fp H D fl):dk K κ f D σ H1:=⟨ι1,Z1,G1,fl,s,eq,k.step st⟩
abbrev aO:SF:=λZ G=>some (.nx Z G)
abbrev ai(a b:SF):SF:=λZ G=>match a Z G with
 | some (.nx Z1 G1)=>b Z1 G1
 | r=>r
def B8(h:dk K κ aO D σ H):nt D σ H:=by
 obtain⟨ι,Z,G,fl,s,eq,k⟩:=h
 cases eq
 exact k _ _ _ s (Step.refl _ _ _)
def B9 (h:dk K κ (ai a b) D σ H):jj (dk K κ a) (dk K κ b) D σ H:=by
 obtain⟨ι,Z,G,fl,s,eq,k⟩:=h
 unfold ai at eq
 split at eq
 ·rename_i Z1 G1 e1
  exact⟨ι,Z,G,_,s,e1,λσ' ι' H' s' t=>dk.of s' t eq k⟩
 ·rename_i r hn
  cases fl with
  | nx Z' G'=>exact absurd eq (hn Z' G')
  | bk Z' G'=>exact⟨ι,Z,G,_,s,eq,k⟩
  | ct Z' G'=>exact⟨ι,Z,G,_,s,eq,k⟩
  | rt x G'=>exact⟨ι,Z,G,_,s,eq,k⟩
abbrev aF(c:Mo Bool)(a b:SF):SF:=λZ G=>match c Z G with
 | some (true,Z1,G1)=>a Z1 G1
 | some (false,Z1,G1)=>b Z1 G1
 | none=>none
def tq (h:dk K κ (aF c a b) D σ H):kM (dH K κ c) (dk K κ a) (dk K κ b) D σ H:=by
 obtain⟨ι,Z,G,fl,s,eq,k⟩:=h
 unfold aF at eq
 split at eq
 ·rename_i Z1 G1 e1
  exact⟨ι,Z,G,true,Z1,G1,s,e1,λι' H' s' t=>by dsimp only;rw [if_pos rfl];exact dk.of s' t eq k⟩
 ·rename_i Z1 G1 e1
  exact⟨ι,Z,G,false,Z1,G1,s,e1,λι' H' s' t=>by dsimp only;rw [if_neg z15];exact dk.of s' t eq k⟩
 ·cases eq
abbrev cL(f:Mo Ev):SF:=λZ G=>match f Z G with
 | some (_,Z1,G1)=>some (.nx Z1 G1)
 | none=>none
def Ca (h:dk K κ (cL f) D σ H):ny (bF K κ f) D σ H:=by
 obtain⟨ι,Z,G,fl,s,eq,k⟩:=h
 unfold cL at eq
 split at eq
 ·rename_i e Z1 G1 e1
  cases eq
  refine⟨ι,Z,G,e,Z1,G1,s,e1,λv ι' H' a=>?_⟩
  obtain⟨p,q⟩:=a.drop
  exact k _ _ _ p q
 ·cases eq
def SR.last (h:SR K κ ι H (σ++[some v]) (Z++[some x]) G)(l:σ.length=Z.length):SR K κ ι H [some v] [some x] G/\∀a,a∈own [some v] [some x]++ι->a∈own (σ++[some v]) (Z++[some x])++ι:=by
 obtain⟨p,q⟩:=cz l h.sl
 refine⟨⟨q,h.gs,λa=>?_⟩,λa ha=>?_⟩
 ·have:=h.nd a
  rw [bR _ _ l] at this
  simp only [bj,z1f] at this ⊢
  lia
 ·rw [bR _ _ l]
  simp only [z13] at ha ⊢
  rcases ha with ha|ha
  ·exact .inl (.inr ha)
  ·exact .inr ha
abbrev aD(f:Mo Ev):SF:=λZ G=>match iH f Z G with
 | some (.v x,_,G1)=>some (.rt x G1)
 | _=>none
def Cb (h:dk K κ (aD f) D σ H):qv (bF K κ f) D σ H:=by
 obtain⟨ι,Z,G,fl,s,eq,k⟩:=h
 unfold aD at eq
 split at eq
 ·rename_i x Z1 G1 e1
  cases eq
  refine tf ⟨ι,Z,G,_,Z1,G1,s,e1,λv ι' H' a=>?_⟩
  obtain⟨p,q⟩:=SR.last a.ar.sr a.ar.l
  exact k _ _ _ p (a.st.sub q)
 ·cases eq
abbrev Cc:SF:=λ_ G=>some (.rt (.im .non) G)
noncomputable abbrev GF:=Vl->De->List M->Option (De×List M)
abbrev lM(K:W.Frag)(κ:Str->Addr)(g:GF):TG:=λv σ H Q=>∃ι Z G x Z' G',σ.length=Z.length/\SR K κ ι H (σ++[some v]) (Z++[some x]) G/\g x Z G=some (Z',G') /\
 ∀σ' ι' H',SR K κ ι' H' σ' Z' G'->Step ι (own (σ++[some v]) (Z++[some x])++ι) H ι' (own σ' Z'++ι') H'->Q σ' H'
abbrev aB(i:Nat):GF:=λx Z G=>some (Z.set i (some x),G)
def oj (h:lM K κ (aB i) v σ H Q):fg i v σ H Q:=by
 obtain⟨ι,Z,G,x,Z',G',l,s,eq,k⟩:=h
 cases eq
 exact k _ _ _ (s.store l) ((Step.refl _ _ _).sub λa ha=>sW l ha)
abbrev jA:List Nat->List I->De->Option De
 | [],[],Z=>some Z
 | i::is,d::ds,Z=>jA is ds (Z.set i (some (.im d)))
 | _,_,_=>none
abbrev gQ(is:List Nat):GF:=λx Z G=>match x with
 | .im (.tup ds)=>(jA is ds Z).map λZ'=>(Z',G)
 | _=>none
abbrev gS(is:List Nat):mK:=is.foldr (λi t=>qA (fg i) t) qz
theorem tu:∀{is:List Nat} {ds:List I} {vs:List V} {σ:St} {Z Z':De} {Q:St->Hp->Prop},y57 K ι H vs ds->jA is ds Z=some Z'->SR K κ ι H σ Z G ->
  (∀σ',SR K κ ι H σ' Z' G->(∀a,a∈own σ' Z'->a∈own σ Z)->Q σ' H)->gS is vs σ H Q
 | [],[],_,_,_,_,_,r,e,s,k=>by
  cases r;cases e
  exact⟨rfl,k _ s λ_ h=>h⟩
 | i::is,d::ds,_,σ,Z,Z',Q,.cons r rs,e,s,k=>by
  refine⟨_,_,rfl,?_⟩
  have s1:=(s.push_im r).store (i:=i) s.len
  refine tu rs e s1 λσ' s' sub=>k σ' s' λa ha=>?_
  have h1:=sub a ha
  have:a∈own (σ++[some _]) (Z++[some (.im d)])++[]:=sW s.len (List.mem_append_left _ h1)
  rw [dv s.len,z11] at this
  exact this
 | [],_::_,_,_,_,_,_,_,e,_,_=>by cases e
 | _::_,[],_,_,_,_,_,_,e,_,_=>by cases e
theorem tw:∀{is:List Nat} {ds:List I} {Z Z':De},jA is ds Z=some Z'->ds.length=is.length
 | [],[],_,_,_=>rfl
 | i::is,d::ds,Z,_,e=>by rw [z10,z10,tw (ds:=ds) e]
 | [],_::_,_,_,e=>by cases e
 | _::_,[],_,_,e=>by cases e
def Cd (h:lM K κ (gQ is) v σ H Q):kO K is.length (gS is) v σ H Q:=by
 obtain⟨ι,Z,G,x,Z',G',l,s,eq,k⟩:=h
 unfold gQ at eq
 split at eq
 ·rename_i ds
  cases q:jA is ds Z with
  | none=>rw [q] at eq;cases eq
  | some Z2 =>
   rw [q] at eq
   cases eq
   have r:=n9 (es:=[.v (.im (.tup ds))]) (vs:=[v]) (cz l s.sl).2 (j:=0) rfl rfl
   cases r with
   | im r =>
    obtain⟨_,_,rfl,h1,h2⟩:=jx r
    refine⟨_,_,rfl,br.of h1,by rw [h2.len];exact tw q,tu h2 q (s.pop l) λσ' s' sub=>k _ _ _ s' ((Step.refl _ _ _).sub λa ha=>?_)⟩
    rw [dv l]
    simp only [z13] at ha ⊢
    rcases ha with ha|ha
    ·exact .inl (sub a ha)
    ·exact .inr ha
 ·cases eq
abbrev aI(f:Mo Ev)(g:GF):SF:=λZ G=>match iH f Z G with
 | some (.v x,Z1,G1)=>match g x Z1 G1 with
  | some (Z2,G2)=>some (.nx Z2 G2)
  | none=>none
 | _=>none
def om (h:dk K κ (aI f g) D σ H):fV (bF K κ f) (lM K κ g) D σ H:=by
 obtain⟨ι,Z,G,fl,s,eq,k⟩:=h
 unfold aI at eq
 split at eq
 ·rename_i x Z1 G1 e1
  split at eq
  ·rename_i Z2 G2 e2
   cases eq
   refine tf ⟨ι,Z,G,_,Z1,G1,s,e1,λv ι' H' a=>?_⟩
   exact⟨ι',Z1,G1,x,Z2,G2,a.ar.l,a.ar.sr,e2,λσ' ι2 H2 s2 st=>k _ _ _ s2 (a.st.trans st)⟩
  ·cases eq
 ·cases eq
end
end
section
section
abbrev gg(c:Mo Bool)(b:SF):Nat->SF
 | 0,_,_=>none
 | n+1,Z,G=>match c Z G with
  | some (true,Z1,G1)=>match b Z1 G1 with
   | some (.nx Z2 G2)=>gg c b n Z2 G2
   | some (.ct Z2 G2)=>gg c b n Z2 G2
   | some (.bk Z2 G2)=>some (.nx Z2 G2)
   | some (.rt x G2)=>some (.rt x G2)
   | none=>none
  | some (false,Z1,G1)=>some (.nx Z1 G1)
  | none=>none
theorem oq  : ∀{n:Nat} {Z:De} {G:List M} {fl:Fl},gg c b n Z G=some fl->gg c b (n+1) Z G=some fl
 | 0,_,_,_,h=>by cases h
 | n+1,Z,G,fl,h=>by
  unfold gg at h ⊢
  cases e:c Z G with
  | none=>rw [e] at h;cases h
  | some r =>
   obtain⟨t,Z1,G1⟩:=r
   rw [e] at h
   cases t with
   | false=>exact h
   | true =>
    cases e2:b Z1 G1 with
    | none=>dsimp only at h;rw [e2] at h;cases h
    | some fl2 =>
     dsimp only at h
     rw [e2] at h
     dsimp only
     rw [e2]
     cases fl2 with
     | nx Z2 G2=>exact oq h
     | ct Z2 G2=>exact oq h
     | bk Z2 G2=>exact h
     | rt x G2=>exact h
def tE   (h:gg c b n Z G=some fl)(l:n≤m):gg c b m Z G=some fl:=by
 induction l with
 | refl=>exact h
 | step _ ih=>exact oq ih
open Classical in
abbrev fQ(c:Mo Bool)(b:SF):SF:=λZ G=>if h:∃n fl,gg c b n Z G=some fl then some (choose (choose_spec h)) else none
def ot   (h:gg c b n Z G=some fl):fQ c b Z G=some fl:=by
 have ex:∃n fl,gg c b n Z G=some fl:=⟨n,fl,h⟩
 unfold fQ
 rw [dif_pos ex]
 have q:=Classical.choose_spec (Classical.choose_spec ex)
 have h1:=tE h (Nat.le_max_left n (Classical.choose ex))
 have h2:=tE q (Nat.le_max_right n (Classical.choose ex))
 rw [h1] at h2
 exact h2.symm
def oy  (h:fQ c b Z G=some fl):∃n,gg c b n Z G=some fl:=by
 unfold fQ at h
 split at h
 ·rename_i ex
  have q:=Classical.choose_spec (Classical.choose_spec ex)
  cases h
  exact⟨_,q⟩
 ·cases h
def oz  (h1:c Z G=some (true,Z1,G1))(h2:b Z1 G1=some (.nx Z2 G2)):fQ c b Z G=fQ c b Z2 G2:=by
 cases e:fQ c b Z2 G2 with
 | some fl =>
  obtain⟨n,hn⟩:=oy e
  refine ot (n:=n+1) ?_
  unfold gg
  rw [h1];dsimp only;rw [h2];exact hn
 | none =>
  cases e':fQ c b Z G with
  | none=>rfl
  | some fl =>
   obtain⟨n,hn⟩:=oy e'
   cases n with
   | zero=>cases hn
   | succ n =>
    unfold gg at hn
    rw [h1] at hn;dsimp only at hn;rw [h2] at hn
    have:=ot hn
    rw [e] at this;cases this
def lN  (h1:c Z G=some (false,Z1,G1)):fQ c b Z G=some (.nx Z1 G1):=by
 refine ot (n:=1) ?_
 unfold gg
 rw [h1]
def Ce (h:dk K κ (fQ c b) D σ H):qE (dH K κ c) (dk K κ b) D σ H:=by
 obtain⟨ι,Z,G,fl,s,eq,k⟩:=h
 obtain⟨n,hn⟩:=oy eq
 refine⟨λm σ' H'=>∃ι' Z' G',SR K κ ι' H' σ' Z' G'/\Step ι (own σ Z++ι) H ι' (own σ' Z'++ι') H'/\gg c b m Z' G'=some fl,⟨n,ι,Z,G,s,Step.refl _ _ _,hn⟩,?_⟩
 rintro m σ' H' ⟨ι',Z',G',s',st,e⟩
 cases m with
 | zero=>cases e
 | succ m =>
  unfold gg at e
  split at e
  ·rename_i Z1 G1 e1
   refine⟨ι',Z',G',true,Z1,G1,s',e1,λι1 H1 s1 st1=>?_⟩
   dsimp only
   rw [if_pos rfl]
   refine⟨λσ2 H2=>∃ι2 Z2 G2,SR K κ ι2 H2 σ2 Z2 G2/\Step ι (own σ Z++ι) H ι2 (own σ2 Z2++ι2) H2/\gg c b m Z2 G2=some fl,λσ2 H2 q=>⟨m,z35 _,q⟩,?_⟩
   split at e
   ·rename_i Z2 G2 e2
    exact⟨ι1,Z1,G1,_,s1,e2,λσ2 ι2 H2 s2 st2=>⟨ι2,Z2,G2,s2,(st.trans st1).trans st2,e⟩⟩
   ·rename_i Z2 G2 e2
    exact⟨ι1,Z1,G1,_,s1,e2,λσ2 ι2 H2 s2 st2=>⟨ι2,Z2,G2,s2,(st.trans st1).trans st2,e⟩⟩
   ·rename_i Z2 G2 e2
    cases e
    exact⟨ι1,Z1,G1,_,s1,e2,λσ2 ι2 H2 s2 st2=>k _ _ _ s2 ((st.trans st1).trans st2)⟩
   ·rename_i x G2 e2
    cases e
    exact⟨ι1,Z1,G1,_,s1,e2,λv ι2 H2 s2 st2=>k _ _ _ s2 ((st.trans st1).trans st2)⟩
   ·cases e
  ·rename_i Z1 G1 e1
   cases e
   refine⟨ι',Z',G',false,Z1,G1,s',e1,λι1 H1 s1 st1=>?_⟩
   dsimp only
   rw [if_neg z15]
   exact k _ _ _ s1 (st.trans st1)
  ·cases e
structure Wk where
 n:Nat
 at_:Nat->De->List M->Option I
 fin:De->List M->Bool
structure Walks(K:W.Frag)(κ:Str->Addr)(J:It)(τ:St)(θ:De)(w:Wk):Prop where
 go:∀{i:Nat} {d:I} {ι:List Addr} {H:Hp} {σ:St} {Z:De} {G:List M},i<w.n->w.at_ i Z G=some d->σ.length=Z.length->SR K κ ι H (σ++τ) (Z++θ) G->J.go i H/\∀x H',J.yld i H x H'->dW H H'/\RpI K ι H' x d
 stop:∀{ι:List Addr} {H:Hp} {σ:St} {Z:De} {G:List M},w.fin Z G=true->σ.length=Z.length->SR K κ ι H (σ++τ) (Z++θ) G->J.stop w.n H
abbrev aW(w:Wk)(g:GF)(b:SF):Nat->Nat->SF
 | i,0,Z,G=>if w.fin Z G then some (.nx Z G) else none
 | i,r+1,Z,G=>match w.at_ i Z G with
  | some d=>match g (.im d) Z G with
   | some (Z1,G1)=>match b Z1 G1 with
    | some (.nx Z2 G2)=>aW w g b (i+1) r Z2 G2
    | some (.ct Z2 G2)=>aW w g b (i+1) r Z2 G2
    | some (.bk Z2 G2)=>some (.nx Z2 G2)
    | some (.rt x G2)=>some (.rt x G2)
    | none=>none
   | none=>none
  | none=>none
noncomputable abbrev IF:=De->List M->Option (Wk×List Ev×De×List M)
abbrev mT(K:W.Frag)(κ:Str->Addr)(f:IF):TI:=λσ H R=>∃ι Z G w es Z' G',SR K κ ι H σ Z G/\f Z G=some (w,es,Z',G') /\
 ∀J vs ι' H',After K κ σ ι (own σ Z++ι) H es Z' G' vs ι' H'->Walks K κ J (tS es vs) (tD es) w->R J H'
abbrev bC(f:IF)(g:GF)(b:SF):SF:=λZ G=>match f Z G with
 | some (w,_,Z1,G1)=>aW w g b 0 w.n Z1 G1
 | none=>none
def Cf  (h:dk K κ (bC f g b) D σ H):nD (mT K κ f) (lM K κ g) (dk K κ b) D σ H:=by
 obtain⟨ι,Z,G,fl,s,eq,k⟩:=h
 unfold bC at eq
 split at eq
 ·rename_i w es Z1 G1 e1
  refine⟨ι,Z,G,w,es,Z1,G1,s,e1,λJ vs ι1 H1 a wk=>?_⟩
  refine⟨λi m σ' H'=>i+m=w.n/\∃ι' Z' G',σ'.length=Z'.length/\SR K κ ι' H' (σ'++tS es vs) (Z'++tD es) G'/\Step ι (own σ Z++ι) H ι' (own (σ'++tS es vs) (Z'++tD es)++ι') H'/\aW w g b i m Z' G'=some fl,
   ⟨w.n,by lia,ι1,Z1,G1,a.ar.l,a.ar.sr,a.st,eq⟩,?_⟩
  rintro i m σ' H' ⟨him,ι',Z',G',l,s',st,e⟩
  have sub:∀a,a∈own σ' Z'++ι'->a∈own (σ'++tS es vs) (Z'++tD es)++ι':=λa ha=>cE l ha
  cases m with
  | zero =>
   have hi:i=w.n:=by lia
   subst hi
   unfold aW at e
   split at e
   ·rename_i hf
    cases e
    exact .inl ⟨wk.stop hf l s',k _ _ _ (s'.pop l) (st.sub sub)⟩
   ·cases e
  | succ m =>
   unfold aW at e
   split at e
   ·rename_i d hd
    obtain⟨go,yl⟩:=wk.go (by lia) hd l s'
    refine .inr ⟨go,λσ2 H2=>∃ι2 Z2 G2,σ2.length=Z2.length/\SR K κ ι2 H2 (σ2++tS es vs) (Z2++tD es) G2/\Step ι (own σ Z++ι) H ι2 (own (σ2++tS es vs) (Z2++tD es)++ι2) H2/\aW w g b (i+1) m Z2 G2=some fl,
     λσ2 H2 q=>⟨m,z35 _,by lia,q⟩,λx H3 hy=>?_⟩
    obtain⟨sm,rx⟩:=yl x H3 hy
    have s3:=s'.same sm
    have st3:=st.trans (Step.same sm)
    split at e
    ·rename_i Z4 G4 e4
     have p:=(s3.pop l).push_im rx
     refine⟨ι',Z',G',.im d,Z4,G4,l,p,e4,λσ4 ι4 H4 s4 st4=>?_⟩
     rw [dv l] at st4
     have jn:∀{σ5:St} {Z5:De} {G5:List M} {ι5:List Addr} {H5:Hp},SR K κ ι5 H5 σ5 Z5 G5->Step ι4 (own σ4 Z4++ι4) H4 ι5 (own σ5 Z5++ι5) H5 ->
       SR K κ ι5 H5 (σ5++tS es vs) (Z5++tD es) G5/\Step ι (own σ Z++ι) H ι5 (own (σ5++tS es vs) (Z5++tD es)++ι5) H5:=λ{σ5 Z5 G5 ι5 H5} s5 st5=>by
      have j:=SR.join s3 l (by rw [z11,z11];exact s5) s5.len (by rw [z11,z11];exact st4.trans st5)
      rw [z11,z11] at j
      exact⟨j.1,st3.trans j.2⟩
     split at e
     ·rename_i Z5 G5 e5
      exact⟨ι4,Z4,G4,_,s4,e5,λσ5 ι5 H5 s5 st5=>⟨ι5,Z5,G5,s5.len,(jn s5 st5).1,(jn s5 st5).2,e⟩⟩
     ·rename_i Z5 G5 e5
      exact⟨ι4,Z4,G4,_,s4,e5,λσ5 ι5 H5 s5 st5=>⟨ι5,Z5,G5,s5.len,(jn s5 st5).1,(jn s5 st5).2,e⟩⟩
     ·rename_i Z5 G5 e5
      cases e
      exact⟨ι4,Z4,G4,_,s4,e5,λσ5 ι5 H5 s5 st5=>k _ _ _ s5 ((jn s5 st5).2.sub λa ha=>cE s5.len ha)⟩
     ·rename_i x5 G5 e5
      cases e
      refine⟨ι4,Z4,G4,_,s4,e5,λv ι5 H5 s5 st5=>k _ _ _ s5 ((jn s5 st5).2.sub λa ha=>cE s5.len ha)⟩
     ·cases e
    ·cases e
   ·cases e
 ·cases eq
end
end
section
section
def tF(l:σ.length=Z.length)(l2:τ.length=θ.length):bj a (own (τ++σ) (θ++Z))=bj a (own (σ++τ) (Z++θ)):=by
 rw [bR _ _ l,bR _ _ l2]
 simp only [bj,z1f]
 lia
def SR.swap(h:SR K κ ι H (σ++τ) (Z++θ) G)(l:σ.length=Z.length):SR K κ ι H (τ++σ) (θ++Z) G:=by
 obtain⟨p,q⟩:=cz l h.sl
 exact⟨du q p,h.gs,λa=>by rw [tF l (Paired.length q)];exact h.nd a⟩
def iI (l:σ.length=Z.length)(l2:τ.length=θ.length)(h:a∈own (τ++σ) (θ++Z)++l1):a∈own (σ++τ) (Z++θ)++l1:=by
 simp only [z13] at h ⊢
 rcases h with h|h
 ·left;rw [gN] at h ⊢;rw [<- tF l l2];exact h
 ·exact .inr h
noncomputable abbrev FF:=List Vl->List M->Option (Vl×List M)
abbrev aV(K:W.Frag)(κ:Str->Addr)(n:Nat)(fn:FF):Sp:=λvs H Q _=>∃ι xs G x G',xs.length=n/\SR K κ ι H (vs.map some) (xs.map some) G/\fn xs G=some (x,G') /\
 ∀v ι' H',SR K κ ι' H' [some v] [some x] G'->Step ι (own (vs.map some) (xs.map some)++ι) H ι' (own [some v] [some x]++ι') H'->Q v H'
abbrev mU:List Ev->Option (List Vl)
 | []=>some []
 | .v x::es=>(mU es).map (x::·)
 | .s _::_=>none
abbrev ax(n:Nat)(fn:FF):List Ev->Mo Ev:=λes Z G=>match mU es with
 | some xs=>if xs.length=n then match fn xs G with
  | some (x,G')=>some (.v x,Z,G')
  | none=>none
  else none
 | none=>none
theorem oB:∀{es:List Ev} {vs:List V} {xs:List Vl},mU es=some xs->es.length=vs.length->tS es vs=vs.map some/\tD es=xs.map some
 | [],[],_,h,_=>by cases h;exact⟨rfl,rfl⟩
 | [],_::_,_,_,l=>by cases l
 | _::_,[],_,_,l=>by cases l
 | .s i::_,_::_,_,h,_=>by cases h
 | .v x::es,v::vs,xs,h,l=>by
  have h:(mU es).map (x::·)=some xs:=h
  cases e:mU es with
  | none=>rw [e] at h;cases h
  | some ys =>
   rw [e] at h;cases h
   obtain⟨p,q⟩:=oB e (by simpa using l)
   exact⟨by show some v::tS es vs=_;rw [p];rfl,by show some x::tD es=_;rw [q];rfl⟩
def Cg  : aE K κ (λvs H Q=>aV K κ n fn vs H Q E) (ax n fn):=by
 intro ι H σ Z G es vs e Z' G' Q a h k
 unfold ax at h
 split at h
 ·rename_i xs hx
  split at h
  ·rename_i hl
   split at h
   ·rename_i x G1 e1
    cases h
    obtain⟨t1,t2⟩:=oB hx a.len
    have sr:=a.sr
    rw [t1,t2] at sr k
    have sw:=sr.swap a.l
    have lt:(vs.map some).length=(xs.map some).length:=Paired.length (cz a.l sr.sl).2
    refine⟨ι,xs,G,x,_,hl,sw.pop lt,e1,λv ι' H' s st=>?_⟩
    have s':SR K κ ι' H' ([some v]++[]) ([some x]++[]) _:=s
    obtain⟨j1,j2⟩:=SR.join sw lt s' rfl st
    rw [z11,z11] at j1 j2
    refine k v ι' H' ⟨⟨a.l,j1.swap rfl,.cons (λ_ h=>by cases h) .nil⟩,(j2.wide λy hy=>iI a.l lt hy).sub λy hy=>?_⟩
    exact iI rfl a.l hy
   ·cases h
  ·cases h
 ·cases h
abbrev aS(n r:Nat)(body:SF):FF:=λxs G=>if xs.length=n then match body (xs.map some++List.replicate r none) G with
 | some (.rt x G')=>some (x,G')
 | some (.nx _ G')=>some (.im .non,G')
 | _=>none
 else none
theorem tG:∀(r:Nat),Paired (RpE K κ ι H) (List.replicate r none) (List.replicate r none)
 | 0=>.nil
 | r+1=>.cons (.no _) (tG r)
theorem tH:∀(r:Nat),own (List.replicate r none) (List.replicate r none)=[]
 | 0=>rfl
 | r+1=>tH r
def SR.y23c(h:SR K κ ι H σ Z G)(r:Nat):SR K κ ι H (σ++List.replicate r none) (Z++List.replicate r none) G/\own (σ++List.replicate r none) (Z++List.replicate r none)=own σ Z:=by
 have e:own (σ++List.replicate r none) (Z++List.replicate r none)=own σ Z:=by rw [bR _ _ h.len,tH,z11]
 exact⟨⟨du h.sl (tG r),h.gs,λa=>by rw [e];exact h.nd a⟩,e⟩
def tJ  (h:aV K κ n (aS n r body) vs H Q E):vs.length=n/\dk K κ body { nx:=λ_ H'=>Q .non H',rt:=Q } (vs.map some++List.replicate r none) H:=by
 obtain⟨ι,xs,G,x,G',hl,s,eq,k⟩:=h
 have lv:vs.length=n:=by have:=s.len;rw [z12,z12] at this;lia
 refine⟨lv,?_⟩
 unfold aS at eq
 rw [if_pos hl] at eq
 obtain⟨s0,e0⟩:=s.y23c r
 split at eq
 ·rename_i x' G1 e1
  cases eq
  refine⟨ι,_,G,_,s0,e1,?_⟩
  rw [e0]
  exact λv ι' H' s' st=>k v ι' H' s' st
 ·rename_i Z1 G1 e1
  cases eq
  refine⟨ι,_,G,_,s0,e1,?_⟩
  rw [e0]
  intro σ' ι' H' s' st
  obtain⟨p,q⟩:=SR.last (s'.push_im .non) s'.len
  refine k _ _ _ p (st.sub λa ha=>?_)
  have:=q a ha
  rw [dv s'.len] at this
  exact this
 ·cases eq
abbrev yN(K:W.Frag)(κ:Str->Addr)(r:List V->Hp->(It->Hp->Prop)->Prop)(p:List Ev->De->List M->Option Wk):Prop :=
 ∀(ι:List Addr) (H:Hp) (σ:St) (Z:De) (G:List M) (es:List Ev) (vs:List V) (w:Wk) (R:It->Hp->Prop),Args K κ ι H σ Z G es vs->p es Z G=some w ->
  (∀J,Walks K κ J (tS es vs) (tD es) w->R J H)->r vs H R
abbrev bG(fa:Mo (List Ev))(p:List Ev->De->List M->Option Wk):IF:=λZ G=>match fa Z G with
 | some (es,Z1,G1)=>(p es Z1 G1).map λw=>(w,es,Z1,G1)
 | none=>none
def oC  (hp:yN K κ r p)(h:mT K κ (bG fa p) σ H R):gb K κ fa σ H λvs H1=>r vs H1 R:=by
 obtain⟨ι,Z,G,w,es,Z',G',s,eq,k⟩:=h
 unfold bG at eq
 split at eq
 ·rename_i es1 Z1 G1 e1
  cases q:p es1 Z1 G1 with
  | none=>rw [q] at eq;cases eq
  | some w' =>
   rw [q] at eq
   cases eq
   exact⟨ι,Z,G,_,_,_,s,e1,λvs ι1 H1 a=>hp _ _ _ _ _ _ _ _ _ a.ar q λJ wk=>k J vs ι1 H1 a wk⟩
 ·cases eq
abbrev one(f:Mo Ev):Mo (List Ev):=bd f λe=>rt [e]
def tK (h:gb K κ (one f) σ H λvs H1=>∃v,vs=[v]/\Q v H1):bF K κ f σ H Q:=by
 obtain⟨ι,Z,G,es,Z',G',s,eq,k⟩:=h
 obtain⟨x,Z1,G1,e1,eq⟩:=cD eq
 cases eq
 refine⟨ι,Z,G,x,_,_,s,e1,λv ι1 H1 a=>?_⟩
 obtain⟨v',e',q⟩:=k _ _ _ a
 cases e'
 exact q
abbrev c6:List Ev->De->List M->Option Wk:=λes _ _=>match es with
 | [.v (.im (.int j))]=>if j<2 ^ 62/\-(2 ^ 62)≤j then some ⟨j.toNat,λi _ _=>some (.int i),λ_ _=>true⟩ else none
 | _=>none
def Ci   : Walks K κ (qF lo n) τ θ ⟨n,λi _ _=>some (.int (lo+i)),λ_ _=>true⟩ where
 go:=λhi hd _ _=>by
  cases hd
  refine⟨hi,λx H' y=>?_⟩
  obtain⟨e1,e2⟩:=y
  subst e1;subst e2
  exact⟨(λ_ _ h=>h),.int _⟩
 stop:=λ_ _ _=>zf _
def Cj:yN K κ (λvs H R=>∃j:Int,vs=[.int j]/\-(2 ^ 62)≤j/\j<2 ^ 62/\R (qF 0 j.toNat) H) c6:=by
 intro ι H σ Z G es vs w R a h k
 unfold c6 at h
 split at h
 ·rename_i j
  split at h
  ·rename_i hj
   cases h
   obtain⟨v,rfl⟩:=cu a.len
   have r:=a.im (j:=0) rfl rfl
   cases dX (r)
   refine⟨j,rfl,hj.2,hj.1,k _ ?_⟩
   have:=Ci (K:=K) (κ:=κ) (lo:=0) (n:=j.toNat) (τ:=tS [.v (.im (.int j))] [.int j]) (θ:=tD [.v (.im (.int j))])
   simpa using this
  ·cases h
 ·cases h
abbrev a7(e:Ev)(n:Nat):Wk:=⟨n,λi Z G=>(sq Z G e).bind (·[i]?),λZ G=>match sq Z G e with|some xs=>decide (xs.length≤n)|none=>false⟩
abbrev oE(Z:De)(G:List M):Ev->Bool
 | .v (.im (.fro _))=>true
 | .v (.im (.ref _))=>true
 | .v (.ow (.lst _))=>true
 | _=>false
abbrev tL:List Ev->De->List M->Option Wk:=λes Z G=>match es with
 | [e]=>if oE Z G e then (sq Z G e).map λxs=>a7 e xs.length else none
 | _=>none
abbrev Ck:List Ev->De->List M->Option Wk:=λes Z G=>match es with
 | [.v (.im (.tup xs))]=>some (a7 (.v (.im (.tup xs))) xs.length)
 | [.v (.im (.con xs))]=>some (a7 (.v (.im (.con xs))) xs.length)
 | _=>none
def yO (he:e=.v x)(l:σ.length=Z.length)(h:SR K κ ι H (σ++tS [e] [v]) (Z++tD [e]) G):Args K κ ι H σ Z G [e] [v]:=⟨l,h,.cons (λi q=>by rw [he] at q;cases q) .nil⟩
def oF (a:Args K κ ι H σ Z G [e] [v])(hl:oE Z G e=true)(h:sq Z G e=some xs):∃b ys,v=.ref b/\bM K H b ys/\y57 K ι H ys xs:=by
 cases e with
 | s i=>cases hl
 | v x =>
  cases x with
  | ow m =>
   cases m with
   | lst ys =>
    cases h
    obtain⟨b,e1,zs,h3,r⟩:=a.pk (j:=0) rfl rfl rfl
    exact⟨b,zs,e1,bM.of h3,r⟩
   | _=>cases hl
  | im d =>
   cases d with
   | fro ys =>
    cases h
    have r:=a.im (j:=0) rfl rfl
    obtain⟨_,_,rfl,q,r9⟩:=sR r
    exact⟨_,_,rfl,q.sq,r9⟩
   | ref k =>
    have h:(match pk Z G (.v (.im (.ref k))) with|some (.lst xs)=>some xs|_=>none)=some xs:=h
    split at h
    ·rename_i ys e1
     cases h
     obtain⟨b,e1,zs,h3,r⟩:=a.pk (j:=0) rfl rfl e1
     exact⟨b,zs,e1,bM.of h3,r⟩
    ·cases h
   | _=>cases hl
def tM(h:oE Z G e=true):∃x,e=.v x:=by
 cases e with
 | v x=>exact⟨x,rfl⟩
 | s i=>cases h
def tN(h:oE Z G e=true):oE Z1 G1 e=true:=by
 cases e with
 | s i=>cases h
 | v x =>
  cases x with
  | ow m=>cases m<;>first|rfl|cases h
  | im d=>cases d<;>first|rfl|cases h
def Cm (hl:oE Z G e=true):Walks K κ (yE K b) (tS [e] [.ref b]) (tD [e]) (a7 e n) where
 go:=λ{i d ι H σ Z' G'} hi hd l s=>by
  obtain⟨x,hx⟩:=tM hl
  have hd:(sq Z' G' e).bind (·[i]?)=some d:=hd
  cases q:sq Z' G' e with
  | none=>rw [q] at hd;cases hd
  | some xs =>
   rw [q] at hd
   obtain⟨b',ys,e1,h1,r⟩:=oF (yO hx l s) (tN hl) q
   cases e1
   obtain⟨v,hv,rv⟩:=r.get hd
   refine⟨⟨ys,v,h1,hv⟩,λx H' y=>?_⟩
   obtain⟨e2,e3⟩:=y
   subst e2
   have:=e3 ys h1
   rw [hv] at this;cases this
   exact⟨(λ_ _ h=>h),rv⟩
 stop:=λ{ι H σ Z' G'} hf l s=>by
  obtain⟨x,hx⟩:=tM hl
  have hf:(match sq Z' G' e with|some xs=>decide (xs.length≤n)|none=>false)=true:=hf
  cases q:sq Z' G' e with
  | none=>rw [q] at hf;cases hf
  | some xs =>
   rw [q] at hf
   obtain⟨b',ys,e1,h1,r⟩:=oF (yO hx l s) (tN hl) q
   cases e1
   exact⟨ys,h1,by rw [r.len];exact of_decide_eq_true hf⟩
def Cn:yN K κ (λvs H R=>∃v,vs=[v]/\∃a,v=.ref a/\(∃xs,bM K H a xs)/\R (yE K a) H) tL:=by
 intro ι H σ Z G es vs w R a h k
 unfold tL at h
 split at h
 ·rename_i e
  split at h
  ·rename_i hl
   cases q:sq Z G e with
   | none=>rw [q] at h;cases h
   | some xs =>
    rw [q] at h
    cases h
    obtain⟨v,rfl⟩:=cu a.len
    obtain⟨b,ys,e1,h1,r⟩:=oF a hl q
    subst e1
    exact⟨_,rfl,b,rfl,⟨ys,h1⟩,k _ (Cm hl)⟩
  ·cases h
 ·cases h
def Co:yN K κ (λvs H R=>∃v,vs=[v]/\∃a,v=.ref a/\(∃xs,br K H a xs)/\R (yF K a) H) Ck:=by
 intro ι H σ Z G es vs w R a h k
 unfold Ck at h
 have go:∀{x:I} {xs:List I},(x=.tup xs∨x=.con xs)->Args K κ ι H σ Z G [.v (.im x)] vs->sq Z G (.v (.im x))=some xs->(∀J,Walks K κ J (tS [.v (.im x)] vs) (tD [.v (.im x)]) (a7 (.v (.im x)) xs.length)->R J H) ->
   ∃v,vs=[v]/\∃a,v=.ref a/\(∃xs,br K H a xs)/\R (yF K a) H:=λ{x xs} hx a hq k=>by
  have tv:∀{ι:List Addr} {H:Hp} {v:V},RpI K ι H v x->∃b ys,v=.ref b/\br K H b ys/\y57 K ι H ys xs:=λr=>by
   rcases hx with rfl|rfl
   ·obtain⟨_,_,rfl,h,r9⟩:=jx r
    exact⟨_,_,rfl,br.of h,r9⟩
   ·obtain⟨_,_,rfl,h,r9⟩:=sQ r
    exact⟨_,_,rfl,br.kon h,r9⟩
  have sx:∀(Z:De) (G:List M),sq Z G (.v (.im x))=some xs:=λZ G=>by rcases hx with rfl|rfl<;>rfl
  obtain⟨v,rfl⟩:=cu a.len
  obtain⟨b,ys,e1,h1,r⟩:=tv (a.im (j:=0) rfl rfl)
  subst e1
  refine⟨_,rfl,b,rfl,⟨ys,h1⟩,k _ ⟨λ{i d ι' H' σ' Z' G'} hi hd l s=>?_,λ{ι' H' σ' Z' G'} hf l s=>?_⟩⟩
  ·obtain⟨b',zs,e2,h2,r2⟩:=tv ((yO rfl l s).im (j:=0) rfl rfl)
   cases e2
   have hd:(sq Z' G' (.v (.im x))).bind (·[i]?)=some d:=hd
   rw [sx] at hd
   have hd:xs[i]?=some d:=hd
   obtain⟨v,hv,rv⟩:=r2.get hd
   refine⟨⟨zs,v,h2,hv⟩,λx H' y=>?_⟩
   obtain⟨e2,e3⟩:=y
   subst e2
   have:=e3 zs h2
   rw [hv] at this;cases this
   exact⟨(λ_ _ h=>h),rv⟩
  ·obtain⟨b',zs,e2,h2,r2⟩:=tv ((yO rfl l s).im (j:=0) rfl rfl)
   cases e2
   exact⟨zs,h2,by rw [r2.len];exact zf _⟩
 split at h
 ·cases h
  exact go (.inl rfl) a rfl k
 ·cases h
  exact go (.inr rfl) a rfl k
 ·cases h
end
end
section
section
abbrev iJ:List Nat->Mo Unit
 | []=>rt ()
 | i::is=>λZ G=>match Z[i]? with
  | some (some (.ow m))=>iJ is (Z.set i (some (.im (.ref G.length)))) (G++[m])
  | _=>iJ is Z G
theorem Cp:∀{ix:List Nat} {Z Z':De} {G G':List M} {ι:List Addr} {u:Unit},iJ ix Z G=some (u,Z',G')->SR K κ ι H σ Z G->∃ι',SR K κ ι' H σ Z' G'/\Step ι (own σ Z++ι) H ι' (own σ Z'++ι') H
 | [],_,_,_,_,ι,_,h,s=>by cases h;exact⟨ι,s,Step.refl _ _ _⟩
 | i::is,Z,Z',G,G',ι,u,h,s=>by
  unfold iJ at h
  split at h
  ·rename_i m hm
   obtain⟨a,e1,r⟩:=s.y15e hm
   have n:=After.nil s
   have a1:After K κ σ ι (own σ Z++ι) H [.s i] Z G [.ref a] ι H:=⟨⟨s.len,n.ar.sr,.cons (λj h=>by cases h;exact e1) .nil⟩,n.st⟩
   have hb:og (.s i) Z G=some (.v (.im (.ref G.length)),Z.set i (some (.im (.ref G.length))),G++[m]):=by unfold og;dsimp only;rw [hm]
   obtain⟨ι2,a2⟩:=y66 a1 hb
   obtain⟨s2,st2⟩:=a2.drop
   obtain⟨ι3,s3,st3⟩:=Cp h s2
   exact⟨ι3,s3,st2.trans st3⟩
  ·exact Cp h s
abbrev lO(Z:De)(i:Nat):Option Vl:=match Z[i]? with
 | some (some (.im d))=>some (.im d)
 | _=>none
abbrev jB(ix:List Nat)(Z:De):De:=ix.map (lO Z)
abbrev inV(ix:List Nat)(σ:St):St:=ix.map λi=>(σ[i]?).getD none
theorem mV(h:SR K κ ι H σ Z G):∀(ix:List Nat),Paired (RpE K κ ι H) (inV ix σ) (jB ix Z)/\own (inV ix σ) (jB ix Z)=[]
 | []=>⟨.nil,rfl⟩
 | i::ix=>by
  obtain⟨p,q⟩:=mV h ix
  have one:RpE K κ ι H ((σ[i]?).getD none) (lO Z i)/\bB ((σ[i]?).getD none) (lO Z i)=[]:=by
   unfold lO
   split
   ·rename_i d hd
    obtain⟨v,e,r⟩:=h.y15d hd
    rw [e]
    exact⟨.im r,fZ _ _⟩
   ·exact⟨.no _,jy _⟩
  refine⟨.cons one.1 p,?_⟩
  show bB _ _++own (inV ix σ) (jB ix Z)=[]
  rw [one.2,q];rfl
theorem tO:∀{xs:List V} {ds:List I},y57 K ι H xs ds->Paired (RpE K κ ι H) (xs.map some) (ds.map λd=>some (Vl.im d))/\own (xs.map some) (ds.map λd=>some (Vl.im d))=[]
 | _,_,.nil=>⟨.nil,rfl⟩
 | _,_,.cons r rs=>by
  obtain⟨p,q⟩:=tO rs
  refine⟨.cons (.im r) p,?_⟩
  show bB _ _++own _ _=[]
  rw [fZ,q];rfl
abbrev dI(w:Wk)(c:I->Option (List I))(tt:Mo Bool)(te:Mo Ev)(di:De):Nat->Nat->List I->De->List M->Option (List I×List M)
 | i,0,acc,Z,G=>if w.fin Z G then some (acc,G) else none
 | i,r+1,acc,Z,G=>match w.at_ i Z G with
  | some d=>match c d with
   | some ds=>match tt ((ds.map λd=>some (Vl.im d))++di) G with
    | some (true,Za,Ga)=>match te Za Ga with
     | some (.v (.im y),_,Gb)=>dI w c tt te di (i+1) r (acc++[y]) Z Gb
     | _=>none
    | some (false,_,Ga)=>dI w c tt te di (i+1) r acc Z Ga
    | none=>none
   | none=>none
  | none=>none
abbrev Cq(K:W.Frag)(g:TG)(n:Nat)(c:I->Option (List I)):Prop:=∀(ι:List Addr) (H:Hp) (x:V) (d:I) (ds:List I) (σ':St) (Q:St->Hp->Prop),RpI K ι H x d->c d=some ds ->
 ds.length=n/\((∀xs,y57 K ι H xs ds->Q (xs.map some++σ') H)->g x (List.replicate n none++σ') H Q)
abbrev c1:I->Option (List I):=λd=>some [d]
abbrev cN(n:Nat):I->Option (List I):=λd=>match d with
 | .tup ds=>if ds.length=n then some ds else none
 | _=>none
def tP:Cq K (fg 0) 1 c1:=by
 intro ι H x d ds σ' Q r h
 cases h
 exact⟨rfl,λk=>k [x] (.cons r .nil)⟩
theorem tQ:∀(vs:List V) (pre:St) (σ':St) (Q:St->Hp->Prop),Q (pre++(vs.map some++σ')) H->gS ((List.range vs.length).map (pre.length + ·)) vs (pre++(List.replicate vs.length none++σ')) H Q
 | [],pre,σ',Q,h=>⟨rfl,h⟩
 | v::vs,pre,σ',Q,h=>by
  have e:(List.range (v::vs).length).map (pre.length + ·)=pre.length::(List.range vs.length).map ((pre++[some v]).length + ·):=by
   rw [z10,List.range_succ_eq_map,z16,z38]
   congr 1
   refine List.map_congr_left λj _=>?_
   simp
   lia
  rw [e]
  refine⟨v,vs,rfl,?_⟩
  show gS _ vs ((pre++(List.replicate (vs.length+1) none++σ')).set pre.length (some v)) H Q
  have e2:(pre++(List.replicate (vs.length+1) none++σ')).set pre.length (some v)=(pre++[some v])++(List.replicate vs.length none++σ'):=by
   rw [List.set_append_right _ _ (zf _),Nat.sub_self,List.replicate_succ]
   simp
  rw [e2]
  refine tQ vs (pre++[some v]) σ' Q ?_
  have e3:pre++[some v]++(vs.map some++σ')=pre++((v::vs).map some++σ'):=by simp
  rw [e3]
  exact h
def tR(n:Nat):Cq K (kO K n (gS (List.range n))) n (cN n):=by
 intro ι H x d ds σ' Q r h
 unfold cN at h
 split at h
 ·rename_i xs
  split at h
  ·rename_i hl
   cases h
   refine⟨hl,λk=>?_⟩
   cases r with
   | @tup a ys _ h1 r =>
    have e:=r.len
    refine⟨a,ys,rfl,br.of h1,by lia,?_⟩
    have q:=tQ (H:=H) ys [] σ' Q (k ys r)
    have e1:(List.range ys.length).map (([]:St).length + ·)=List.range n:=by
     rw [e,hl];simp
    rw [e1] at q
    have e2:n=ys.length:=by lia
    rw [e2]
    rw [<- e2] at q ⊢
    exact q
  ·cases h
 ·cases h
abbrev dJ(fi:IF)(ix:List Nat)(c:I->Option (List I))(tt:Mo Bool)(te:Mo Ev):Mo Ev:=λZ G=>match iJ ix Z G with
 | some (_,Z0,G0)=>match fi Z0 G0 with
  | some (w,_,Z1,G1)=>if w.n≤100000 then match dI w c tt te (jB ix Z1) 0 w.n [] Z1 G1 with
   | some (ds,G2)=>some (.v (.ow (.lst ds)),Z1,G2)
   | none=>none
   else none
  | none=>none
 | none=>none
def Cr:100000<sizeLine:=by decide
def oG    (hg:∀z,Cq K (g z) n c)(h:bF K κ (dJ fi ix c tt te) σ H Q) :
  nU n ix (mT K κ fi) g (λ_=>dH K κ tt) (λ_=>bF K κ te) σ H Q:=by
 obtain⟨ι,Z,G,e,Z',G',s,eq,k⟩:=h
 unfold dJ at eq
 split at eq
 ·rename_i u Z0 G0 e0
  split at eq
  ·rename_i w es Z1 G1 e1
   split at eq
   ·rename_i hn
    split at eq
    ·rename_i ds G2 e2
     obtain⟨ι0,s0,st0⟩:=Cp e0 s
     refine⟨ι0,Z0,G0,w,es,Z1,G1,s0,e1,λJ vs ι1 H1 a wk=>?_⟩
     intro D hD
     have lo:(σ++tS es vs).length=(Z1++tD es).length:=by
      have:=a.ar.sr.len;exact this
     refine⟨λi m ys H'=>i+m=w.n/\H' D=some (.lst ys)/\∃ι' G' acc,SR K κ ι' H' ((σ++tS es vs)++[some (.ref D)]) ((Z1++tD es)++[some (.ow (.lst acc))]) G' /\
      Step ι (own σ Z++ι) H ι' (own ((σ++tS es vs)++[some (.ref D)]) ((Z1++tD es)++[some (.ow (.lst acc))])++ι') H'/\acc.length≤i/\acc.length=ys.length/\dI w c tt te (jB ix Z1) i m acc Z1 G'=some (ds,G2),⟨w.n,by lia,a9,ι1,G1,[],?_,?_,zf _,rfl,e2⟩,?_⟩
     ·exact a.ar.sr.y324 hD ⟨[],a9,.nil⟩
     ·exact (st0.trans a.st).trans (Step.y1df lo hD)
     ·rintro i m ys H' ⟨him,hys,ι',G',acc,s',st,hac,hay,et⟩
      refine⟨hys,?_⟩
      have sb:=s'.pop lo
      cases m with
      | zero =>
       unfold dI at et
       split at et
       ·rename_i hf
        cases et
        have hi:i=w.n:=by lia
        subst hi
        refine .inl ⟨wk.stop hf a.ar.l sb,?_⟩
        have l1:=a.ar.l
        obtain⟨pa,pc⟩:=cz lo s'.sl
        obtain⟨pa,pb⟩:=cz l1 pa
        have lt:=Paired.length pb
        have e3:own ((σ++tS es vs)++[some (.ref D)]) ((Z1++tD es)++[some (.ow (.lst ds))])=own σ Z1++own (tS es vs) (tD es)++[D]:=by rw [fB lo,bR _ _ l1]
        have e4:own (σ++[some (.ref D)]) (Z1++[some (.ow (.lst ds))])=own σ Z1++[D]:=fB l1
        refine k _ ι' H' (bZ eq ⟨⟨l1,⟨du pa pc,s'.gs,λx=>?_⟩,.cons (λ_ h=>by cases h) .nil⟩,st.sub λx hx=>?_⟩)
        ·have n':=s'.nd x
         rw [e3] at n'
         show bj x (own (σ++[some (.ref D)]) (Z1++[some (.ow (.lst ds))]))+bj x ι'≤1
         rw [e4]
         simp only [bj,z1f] at n' ⊢
         lia
        ·have hx:x∈own (σ++[some (.ref D)]) (Z1++[some (.ow (.lst ds))])++ι':=hx
         rw [e4] at hx
         rw [e3]
         simp only [z13] at hx ⊢
         rcases hx with (hx|hx)|hx
         ·exact .inl (.inl (.inl hx))
         ·exact .inl (.inr hx)
         ·exact .inr hx
       ·cases et
      | succ m =>
       unfold dI at et
       split at et
       ·rename_i d hd
        obtain⟨go,yl⟩:=wk.go (by lia) hd a.ar.l sb
        refine .inr ⟨go,by have:=Cr;lia,λys' H5=>i+1+m=w.n/\H5 D=some (.lst ys')/\∃ι5 G5 y61,SR K κ ι5 H5 ((σ++tS es vs)++[some (.ref D)]) ((Z1++tD es)++[some (.ow (.lst y61))]) G5 /\
         Step ι (own σ Z++ι) H ι5 (own ((σ++tS es vs)++[some (.ref D)]) ((Z1++tD es)++[some (.ow (.lst y61))])++ι5) H5/\y61.length≤i+1/\y61.length=ys'.length/\dI w c tt te (jB ix Z1) (i+1) m y61 Z1 G5=some (ds,G2),λys' H5 q=>⟨m,z35 _,q⟩,λx H3 hy z=>?_⟩
        obtain⟨sm,rx⟩:=yl x H3 hy
        split at et
        ·rename_i dd hc
         obtain⟨hl,tg⟩:=hg z ι' H3 x d dd (inV ix σ) _ rx hc
         refine tg λxs rs=>?_
         have s3:=s'.same sm
         have st3:=st.trans (Step.same (ι:=ι') (fp:=own ((σ++tS es vs)++[some (.ref D)]) ((Z1++tD es)++[some (.ow (.lst acc))])++ι') sm)
         obtain⟨p1,o1⟩:=tO (κ:=κ) rs
         obtain⟨p2,o2⟩:=mV ((s3.pop lo).pop a.ar.l) ix
         have lx:=Paired.length p1
         have oin:own (xs.map some++inV ix σ) (dd.map (λd=>some (Vl.im d))++jB ix Z1)=[]:=by rw [bR _ _ lx,o1,o2];rfl
         have sin:SR K κ ι' H3 (xs.map some++inV ix σ) (dd.map (λd=>some (Vl.im d))++jB ix Z1) G':=⟨du p1 p2,s3.gs,λy=>by
          rw [oin];have:=s3.nd y;simp only [bj,List.count_nil] at *;lia⟩
         have lin:=sin.len
         have both:SR K κ ι' H3 ((xs.map some++inV ix σ)++((σ++tS es vs)++[some (.ref D)])) ((dd.map (λd=>some (Vl.im d))++jB ix Z1)++((Z1++tD es)++[some (.ow (.lst acc))])) G':=⟨du sin.sl s3.sl,s3.gs,λy=>by
          rw [bR _ _ lin,oin];have:=s3.nd y;simpa using this⟩
         have kn:y4d n ix σ (xs.map some++inV ix σ):=by
          have lxs:xs.length=n:=by rw [z12,z12] at lx;lia
          refine⟨by rw [za,z12];unfold inV;rw [z12,lxs],λj v hj=>?_⟩
          unfold dm at hj
          by_cases hjn:j<n
          ·rw [z1a (by simpa using hjn),List.getElem?_replicate,if_pos hjn] at hj
           cases hj
          ·rw [z18 (by simp;lia)] at hj
           rw [z18 (by simp;lia)]
           simp only [List.length_replicate,z12,lxs] at hj ⊢
           exact hj
         refine⟨kn,?_⟩
         have jn:∀{σ5:St} {Z5:De} {θ5:De} {τ5:St} {G5:List M} {ι5:List Addr} {H5:Hp},σ5.length=Z5.length->SR K κ ι5 H5 (σ5++τ5) (Z5++θ5) G5->Step ι' (own (xs.map some++inV ix σ) (dd.map (λd=>some (Vl.im d))++jB ix Z1)++ι') H3 ι5 (own (σ5++τ5) (Z5++θ5)++ι5) H5 ->
           SR K κ ι5 H5 (((σ++tS es vs)++[some (.ref D)])++τ5) (((Z1++tD es)++[some (.ow (.lst acc))])++θ5) G5/\Step ι (own σ Z++ι) H ι5 (own (((σ++tS es vs)++[some (.ref D)])++τ5) (((Z1++tD es)++[some (.ow (.lst acc))])++θ5)++ι5) H5/\H5 D=some (.lst ys):=λ{σ5 Z5 θ5 τ5 G5 ι5 H5} l5 s5 st5=>by
          obtain⟨j1,j2⟩:=SR.join both lin s5 l5 st5
          have lT:((σ++tS es vs)++[some (V.ref D)]).length=((Z1++tD es)++[some (Vl.ow (.lst acc))]).length:=s3.len
          have lj:(((σ++tS es vs)++[some (V.ref D)])++τ5).length=(((Z1++tD es)++[some (Vl.ow (.lst acc))])++θ5).length:=by
           have:=j1.len;rw [za,za (as:=Z5)] at this;lia
          refine⟨(j1.swap l5).pop lj,?_,?_⟩
          ·refine (st3.trans (j2.wide λy hy=>?_)).sub λy hy=>?_
           ·rw [bR _ _ lin,oin] at hy;exact hy
           ·exact iI (σ:=σ5) (Z:=Z5) l5 lj (cE lj hy)
          ·have q:=sm _ _ hys
           refine st5.keep D _ q λhm=>?_
           rw [oin] at hm
           have n':=s3.nd D
           rw [fB lo] at n'
           have:=gN.mp (show D∈ι' from hm)
           have c1:List.count D [D]=1:=by simp
           simp only [bj,z1f] at *
           lia
         split at et
         ·rename_i Za Ga ea
          refine⟨ι',_,G',true,Za,Ga,sin,ea,λι4 H4 s4 st4=>?_⟩
          dsimp only
          rw [if_pos rfl]
          split at et
          ·rename_i y Zb Gb eb
           refine⟨ι4,Za,Ga,_,Zb,Gb,s4,eb,λyv ι5 H5 a5=>?_⟩
           obtain⟨j1,j2,j3⟩:=jn a5.ar.l a5.ar.sr (st4.trans a5.st)
           refine⟨j3,by lia,a9,ι5,Gb,acc++[y],?_⟩
           have ry:RpI K ι5 H5 yv y:=a5.ar.im (j:=0) rfl rfl
           have lT:((σ++tS es vs)++[some (V.ref D)]).length=((Z1++tD es)++[some (Vl.ow (.lst acc))]).length:=s3.len
           have s6:=j1.pop lT
           have i1:((σ++tS es vs)++[some (V.ref D)])[(σ++tS es vs).length]?=some (some (.ref D)):=by rw [z18 (zf _),Nat.sub_self];rfl
           have i2:((Z1++tD es)++[some (Vl.ow (.lst acc))])[(σ++tS es vs).length]?=some (some (.ow (.lst acc))):=by rw [lo,z18 (zf _),Nat.sub_self];rfl
           obtain⟨q1,q2⟩:=s6.poke i1 i2 (m':=.lst (acc++[y])) (o:=.lst (ys++[yv])) (λρ kp=>by
            obtain⟨zs,h1,h2⟩:=ρ
            rw [j3] at h1;cases h1
            exact⟨_,a9,(h2.app (.cons ry .nil)).mono (cb.refl _) kp⟩)
           have e5:((Z1++tD es)++[some (Vl.ow (.lst acc))]).set (σ++tS es vs).length (some (.ow (.lst (acc++[y]))))=(Z1++tD es)++[some (.ow (.lst (acc++[y])))]:=by rw [lo,List.set_append_right _ _ (zf _),Nat.sub_self];rfl
           rw [e5] at q1 q2
           refine⟨q1,(j2.sub λw hw=>cE lT hw).trans q2,by rw [za];simp;lia,by rw [za,za];simp;lia,et⟩
          ·cases et
         ·rename_i Za Ga ea
          refine⟨ι',_,G',false,Za,Ga,sin,ea,λι4 H4 s4 st4=>?_⟩
          dsimp only
          rw [if_neg z15]
          have s4':SR K κ ι4 H4 ((xs.map some++inV ix σ)++[]) (Za++[]) Ga:=by rw [z11,z11];exact s4
          obtain⟨j1,j2,j3⟩:=jn (τ5:=[]) (θ5:=[]) s4.len s4' (by rw [z11,z11];exact st4)
          rw [z11,z11] at j1 j2
          exact⟨by lia,j3,ι4,Ga,acc,j1,j2,by lia,hay,et⟩
         ·cases et
        ·cases et
       ·cases et
    ·cases eq
   ·cases eq
  ·cases eq
 ·cases eq
end
end
section
section
variable {κ:Str->Addr}
abbrev tT(f:Str)(d:I):List (Str×I)->List (Str×I)
 | []=>[(f,d)]
 | (g,x)::r=>if g=f then (g,d)::r else (g,x)::tT f d r
abbrev Cs(c f:Str):List Ev->Mo Ev:=λes Z G=>match es with
 | [.v (.im (.ref k))]=>match G[k]? with
  | some (.obj c' fs)=>if c'=c then match fs.lookup f with
   | some d=>some (.v (.im d),Z,G)
   | none=>none
   else none
  | _=>none
 | _=>none
abbrev Ct(c f:Str)(fo fv:Mo Ev):SF:=λZ G=>match fv Z G with
 | some (.v (.im d),Z1,G1)=>match fo Z1 G1 with
  | some (.v (.im (.ref k)),Z2,G2)=>match G2[k]? with
   | some (.obj c' fs)=>if c'=c/\fs.length<1000 then some (.nx Z2 (G2.set k (.obj c (tT f d fs)))) else none
   | _=>none
  | _=>none
 | _=>none
abbrev tU(c m:Str)(n:Nat)(fn:FF)(fo:Mo Ev)(fa:Mo (List Ev)):Mo Ev:=bd fo λe=>λZ G=>match e with
 | .v (.im (.ref k))=>match G[k]? with
  | some (.obj c' fs)=>if c'=c/\(fs.lookup m).isNone then bd fa (λes=>ax n fn (.v (.im (.ref k))::es)) Z G else none
  | _=>none
 | _=>none
abbrev tV(c:Str)(n:Nat)(fn:FF):List Ev->Mo Ev:=λes Z G=>match mU es with
 | some xs=>if xs.length+1=n then match fn (.im (.ref G.length)::xs) (G++[.obj c []]) with
  | some (.im .non,G')=>some (.v (.im (.ref G.length)),Z,G')
  | _=>none
  else none
 | none=>none
end
end
end B
namespace B
open PySem PySem.Spec PyProof.Rows L2
section
section
variable {X:Cx}{e:Expr}{es:List Expr}{st:Stmt}{sts:List Stmt}
def bu(h:PE X e t)(k:∀σ H Q,t' σ H Q->t σ H Q):PE X e t':=λpins s σ H Q I q=>h pins s σ H Q I (k σ H Q q)
def iK(h:PT X e t)(k:∀σ H Q,t' σ H Q->t σ H Q):PT X e t':=λpins s σ H Q I q=>h pins s σ H Q I (k σ H Q q)
def jC(h:PW X e t)(k:∀σ H Q,t' σ H Q->t σ H Q):PW X e t':=λw pins s σ H Q I q=>h w pins s σ H Q I (k σ H Q q)
def tW(h:PA X es t)(k:∀σ H Q,t' σ H Q->t σ H Q):PA X es t':=λpos pins s σ H Q I q=>h pos pins s σ H Q I (k σ H Q q)
def c7{t t':TS}(h:PS X st t)(k:∀D σ H,t' D σ H->t D σ H):PS X st t':=λpins s σ H D I q=>h pins s σ H D I (k D σ H q)
def lP(h:dS X sts t)(k:∀D σ H,t' D σ H->t D σ H):dS X sts t':=λpins s σ H D I q=>h pins s σ H D I (k D σ H q)
def tX (h:PI X tg iter t)(k:∀σ H R,t' σ H R->t σ H R):PI X tg iter t':=λpins s σ H R I q=>h pins s σ H R I (k σ H R q)
def tY (h:PG X tg t)(k:∀v σ H Q,t' v σ H Q->t v σ H Q):PG X tg t':=λpins s σ H v u Q I r q=>h pins s σ H v u Q I r (k v σ H Q q)
def ji(h:PE X e t)(h':PE X e t'):PE X e (λσ H Q=>t σ H Q∨t' σ H Q):=λpins s σ H Q I q=>q.elim (h pins s σ H Q I) (h' pins s σ H Q I)
def tZ(h:PT X e t)(h':PT X e t'):PT X e (λσ H Q=>t σ H Q∨t' σ H Q):=λpins s σ H Q I q=>q.elim (h pins s σ H Q I) (h' pins s σ H Q I)
def t4{t t':TS}(h:PS X st t)(h':PS X st t'):PS X st (λD σ H=>t D σ H∨t' D σ H):=λpins s σ H D I q=>q.elim (h pins s σ H D I) (h' pins s σ H D I)
def t5 (h:PI X tg iter t)(h':PI X tg iter t'):PI X tg iter (λσ H R=>t σ H R∨t' σ H R):=λpins s σ H R I q=>q.elim (h pins s σ H R I) (h' pins s σ H R I)
end
section
variable {X:Cx}{κ:Str->Addr}{a b c:Expr}{fa fb fv:Mo Ev}{fc fd:Mo Bool}{fs:Mo (List Ev)}{es:List Expr}{pos:Pos}
@[irreducible] noncomputable def LE(X:Cx)(κ:Str->Addr)(e:Expr)(f:Mo Ev):Prop:=PE X e (bF X.K κ f)
def LE.mk  (h:PE X e (bF X.K κ f)):LE X κ e f:=by unfold LE;exact h
def LE.pe  (h:LE X κ e f):PE X e (bF X.K κ f):=by unfold LE at h;exact h
@[irreducible] noncomputable def LT(X:Cx)(κ:Str->Addr)(e:Expr)(f:Mo Bool):Prop:=PT X e (dH X.K κ f)
def LT.mk  (h:PT X e (dH X.K κ f)):LT X κ e f:=by unfold LT;exact h
def LT.pe  (h:LT X κ e f):PT X e (dH X.K κ f):=by unfold LT at h;exact h
@[irreducible] noncomputable def LW(X:Cx)(κ:Str->Addr)(e:Expr)(f:Mo Bool):Prop:=PW X e (dH X.K κ f)
def LW.mk  (h:PW X e (dH X.K κ f)):LW X κ e f:=by unfold LW;exact h
def LW.pe  (h:LW X κ e f):PW X e (dH X.K κ f):=by unfold LW at h;exact h
@[irreducible] noncomputable def LA(X:Cx)(κ:Str->Addr)(es:List Expr)(f:Mo (List Ev)):Prop:=PA X es (gb X.K κ f)
def LA.mk  (h:PA X es (gb X.K κ f)):LA X κ es f:=by unfold LA;exact h
def LA.pe  (h:LA X κ es f):PA X es (gb X.K κ f):=by unfold LA at h;exact h
@[irreducible] noncomputable def LS(X:Cx)(κ:Str->Addr)(s:Stmt)(f:SF):Prop:=PS X s (dk X.K κ f)
def LS.mk  (h:PS X s (dk X.K κ f)):LS X κ s f:=by unfold LS;exact h
def LS.pe  (h:LS X κ s f):PS X s (dk X.K κ f):=by unfold LS at h;exact h
@[irreducible] noncomputable def gE(X:Cx)(κ:Str->Addr)(s:List Stmt)(f:SF):Prop:=dS X s (dk X.K κ f)
def gE.mk  (h:dS X s (dk X.K κ f)):gE X κ s f:=by unfold gE;exact h
def gE.pe  (h:gE X κ s f):dS X s (dk X.K κ f):=by unfold gE at h;exact h
@[irreducible] noncomputable def LI(X:Cx)(κ:Str->Addr)(tg e:Expr)(f:IF):Prop:=PI X tg e (mT X.K κ f)
def LI.mk  (h:PI X tg e (mT X.K κ f)):LI X κ tg e f:=by unfold LI;exact h
def LI.pe  (h:LI X κ tg e f):PI X tg e (mT X.K κ f):=by unfold LI at h;exact h
@[irreducible] noncomputable def LG(X:Cx)(κ:Str->Addr)(tg:Expr)(f:GF):Prop:=PG X tg (lM X.K κ f)
def LG.mk  (h:PG X tg (lM X.K κ f)):LG X κ tg f:=by unfold LG;exact h
def LG.pe  (h:LG X κ tg f):PG X tg (lM X.K κ f):=by unfold LG at h;exact h
def t6(i:Nat)(hN:‹X.N[i]?=some x›)(hv:yD X.env.scope x:=by first|exact Or.inl rfl|exact Or.inr (Or.inl rfl)|exact Or.inr (Or.inr rfl))(hd:(x == ("__debug__" : Str))=false:=by decide)
  (hcd:(x == ("__classdict__" : Str))=false:=by decide):LE X κ (.Name x pos) (aa i):=.mk (bu (qj hN hv hd hcd) λ_ _ _=>B1)
def t7{j pos}:LE X κ (.Constant (.int i) j pos) (ag (.int i)):=.mk (bu nk λ_ _ _=>lL λ_ _=>.int _)
def Cu{j pos}:LE X κ (.Constant (.bool i) j pos) (ag (.bl i)):=.mk (bu qk λ_ _ _=>lL λ_ _=>.bl _)
def t8{j pos}:LE X κ (.Constant .none j pos) (ag .non):=.mk (bu ql λ_ _ _=>lL λ_ _=>.non)
def t9{j pos}:LE X κ (.Constant (.str x) j pos) (ag (.str x)):=.mk (bu jf λ_ _ _=>lL λ_ _=>.str _)
def ua(h:LE X κ a fa):LE X κ a (aZ fa):=.mk (bu h.pe λ_ _ _=>B2)
def ub:LA X κ [] ae:=.mk (tW eM λ_ _ _=>BY)
def y60(h:LE X κ a fa)(r:LA X κ es fs)(hs:‹starEach (a::es) X.env=(false,eval a X.env)::starEach es X.env›):LA X κ (a::es) (af fa fs):=.mk (tW (cm h.pe r.pe hs) λ_ _ _=>BZ)
def iL (ho:cf X (binaryOp op) r)(hp:aE X.K κ (r2 r) p)(ha:LE X κ a fa)(hb:LE X κ b fb):LE X κ (.BinOp a op b pos) (ah p fa fb):=.mk (bu (qK ho ha.pe hb.pe) λ_ _ _=>gO hp)
def Cw (ho:yG X (unaryOp op) r)(hp:aE X.K κ (r1 r) p)(ha:LE X κ a fa):LE X κ (.UnaryOp op a pos) (cZ p fa):=.mk (bu (nF ho ha.pe) λ_ _ _=>lI hp)
def Cy (ho:cf X (compareOp op) r)(hp:aE X.K κ (r2 r) p)(ha:LE X κ a fa)(hb:LE X κ b fb)(hm:behindInMarks op b=false):LE X κ (.Compare a [op] [b] pos) (ah p fa fb):=.mk (bu (qS ho ha.pe hb.pe hm) λ_ _ _=>gO hp)
def jD (ho:cf X (compareOp op) r)(hp:aE X.K κ (r2 r) p)(ha:LE X κ a fa)(hb:LE X κ b fb)(hm:behindInMarks op b=false):LT X κ (.Compare a [op] [b] pos) (ao (ah p fa fb)):=.mk (iK (kQ ho ha.pe hb.pe hm) λσ H Q h=>gO hp (jz h))
def uc{x1}(h:LA X κ es fs):LE X κ (.Tuple es x1 pos) (bd fs ay):=.mk (bu (jm h.pe) λ_ _ _ q=>gc B3 q)
def ud(h:LA X κ es fs):LE X κ (.List es pos) (bd fs aP):=.mk (bu (AB h.pe) λ_ _ _ q=>gc B4 q)
def t_w(h:LW X κ a fc):LT X κ a fc:=.mk (h.pe.pt)
def Cz(h:LT X κ a fc):LW X κ (.BoolOp .And [a] pos) fc:=.mk (ie h.pe)
def ue(h:LT X κ a fc):LW X κ (.BoolOp .Or [a] pos) fc:=.mk (nr h.pe)
def uf{aG:List Expr}(h:LT X κ a fc)(k:LW X κ (.BoolOp .And (b::aG) pos) fd):LW X κ (.BoolOp .And (a::b::aG) pos) (eG fc fd):=.mk (jC (jh h.pe k.pe) λ_ _ _=>B7)
def ug{aG:List Expr}(h:LT X κ a fc)(k:LW X κ (.BoolOp .Or (b::aG) pos) fd):LW X κ (.BoolOp .Or (a::b::aG) pos) (kA fc fd):=.mk (jC (qr h.pe k.pe) λ_ _ _=>tm)
abbrev gh:Ev->Mo Bool:=λe Z G=>match e with
 | .v (.im .non)=>some (false,Z,G)
 | .v (.im (.bl b))=>some (b,Z,G)
 | .v (.im (.int i))=>some (i != 0,Z,G)
 | .v (.im (.str y))=>if y.length≤1000000 then some ((y.length:Int) != 0,Z,G) else none
 | e=>match pk Z G e with
  | some (.dic kvs)=>some (!kvs.isEmpty,Z,G)
  | _=>match sq Z G e with
   | some xs=>some (!xs.isEmpty,Z,G)
   | none=>none
def isE{K:W.Frag}{ι:List Addr}{H:Hp}{vs:List V}{xs:List I}(r:y57 K ι H vs xs):(!xs.isEmpty)=!vs.isEmpty:=by cases r<;>rfl
def CA{K:W.Frag}{e:Ev}{c:Bool}(a:Args K κ ι H σ Z G [e] [v])(h:gh e Z G=some (c,Z',G')):qU K v H c/\Z'=Z/\G'=G:=by
 have seqs:∀{xs:List I},sq Z G e=some xs->qU K v H (!xs.isEmpty):=λhx=>by
  obtain⟨b,ys,e2,h2,r⟩:=a.sq (j:=0) rfl rfl hx
  subst e2
  rw [isE r]
  rcases h2 with h2|h2
  ·exact .inl ⟨ys,h2,rfl⟩
  ·exact .inr (.inl ⟨ys,h2,rfl⟩)
 unfold gh at h
 split at h
 ·cases h;cases nX (a.im (j:=0) rfl rfl);exact⟨rfl,rfl,rfl⟩
 ·cases h;cases lB (a.im (j:=0) rfl rfl);exact⟨rfl,rfl,rfl⟩
 ·cases h;cases dX (a.im (j:=0) rfl rfl);exact⟨rfl,rfl,rfl⟩
 ·split at h
  ·rename_i y hy
   cases h;cases fA (a.im (j:=0) rfl rfl)
   exact⟨⟨z19 hy (by decide),rfl⟩,rfl,rfl⟩
  ·cases h
 ·split at h
  ·rename_i kvs hp
   cases h
   obtain⟨b,e2,ws,h1,h2,h3⟩:=a.pk (j:=0) rfl rfl hp
   subst e2
   refine⟨.inr (.inr ⟨ws,h1,?_⟩),rfl,rfl⟩
   have:=congrArg List.length h2
   simp at this
   cases kvs<;>cases ws<;>simp_all
  ·split at h
   ·rename_i xs hx
    cases h
    exact⟨seqs hx,rfl,rfl⟩
   ·cases h
def CB{K:W.Frag}{f:Mo Ev}{σ:L2.St}{H:Hp}{Q:Bool->Hp->Prop}(h:dH K κ (bd f gh) σ H Q):bF K κ f σ H λx H'=>∃k,qU K x H' k/\Q k H':=by
 obtain⟨ι,Z,G,t,Z',G',s,eq,k⟩:=h
 obtain⟨x,Z1,G1,e1,eq⟩:=cD eq
 refine⟨ι,Z,G,x,Z1,G1,s,e1,λv ι1 H1 a=>?_⟩
 obtain⟨p,q⟩:=a.drop
 obtain⟨h1,rfl,rfl⟩:=CA a.ar eq
 exact⟨_,h1,k _ _ p q⟩
def uh(h:LE X κ a fa)(he:∀whole,isTrue a X.env whole=(do let v <- whole;standAt a.pos;holding [v] (truthy v)):=by intro _;rfl):LT X κ a (bd fa gh):=.mk (iK (Av h.pe he) λ_ _ _ q=>CB q)
abbrev isP:List Ev->Mo Ev:=λes Z G=>match es with
 | [.v (.im .non)]=>some (.v (.im (.bl true)),Z,G)
 | [_]=>some (.v (.im (.bl false)),Z,G)
 | _=>none
def Args.nn{K:W.Frag}{ι:List Addr}{H:Hp}{σ:L2.St}{Z:De}{G:List M}{e:Ev}{v:V}(a:Args K κ ι H σ Z G [e] [v])(h:e≠.v (.im .non))(hs:∀i,e=.s i->∃m,Z[i]?=some (some (.ow m))):v≠.non:=by
 cases e with
 | s i =>
  obtain⟨m,hm⟩:=hs i rfl
  obtain⟨b,e1,r⟩:=a.base.y15e hm
  have al:=yM (j:=0) a.al rfl rfl
  rw [al] at e1;cases e1
  intro z;cases z
 | v x =>
  cases x with
  | ow m =>
   have r:=n9 (cz a.l a.sr.sl).2 (j:=0) rfl rfl
   cases r
   intro z;cases z
  | im d =>
   have r:=a.im (j:=0) rfl rfl
   cases r<;>first|exact absurd rfl h|(intro z;cases z)
abbrev lQ(Z:De):Ev->Bool
 | .s i=>match Z[i]? with
  | some (some (.ow _))=>true
  | _=>false
 | _=>true
def uk (h:lQ Z e=true):∀i,e=.s i->∃m,Z[i]?=some (some (.ow m)):=by
 intro i hi
 subst hi
 unfold lQ at h
 dsimp only at h
 split at h
 ·rename_i m hm;exact⟨m,hm⟩
 ·cases h
abbrev kB(pos:Bool):List Ev->Mo Ev:=λes Z G=>match es with
 | [.v (.im .non)]=>some (.v (.im (.bl pos)),Z,G)
 | [e]=>if lQ Z e then some (.v (.im (.bl (!pos))),Z,G) else none
 | _=>none
def CC{K:W.Frag}:aE K κ (r1 λx H1 Q=>Q (.bl (decide (x=.non))) H1) (kB true):=by
 intro ι H σ Z G es vs e Z' G' Q a h k
 unfold kB at h
 split at h
 ·obtain⟨v,rfl⟩:=cu a.len
  cases nX (a.im (j:=0) rfl rfl)
  exact⟨_,rfl,k _ _ _ (bZ h (bt a (.bl _)))⟩
 ·rename_i e0 hne
  split at h
  ·rename_i hs
   obtain⟨v,rfl⟩:=cu a.len
   have n:=a.nn (λz=>hne (by rw [z])) (uk hs)
   refine⟨_,rfl,?_⟩
   dsimp only
   rw [decide_eq_false n]
   exact k _ _ _ (bZ h (bt a (.bl _)))
  ·cases h
 ·cases h
def CD{K:W.Frag}:aE K κ (r1 λx H1 Q=>Q (.bl (!decide (x=.non))) H1) (kB false):=by
 intro ι H σ Z G es vs e Z' G' Q a h k
 unfold kB at h
 split at h
 ·obtain⟨v,rfl⟩:=cu a.len
  cases nX (a.im (j:=0) rfl rfl)
  exact⟨_,rfl,k _ _ _ (bZ h (bt a (.bl _)))⟩
 ·rename_i e0 hne
  split at h
  ·rename_i hs
   obtain⟨v,rfl⟩:=cu a.len
   have n:=a.nn (λz=>hne (by rw [z])) (uk hs)
   refine⟨_,rfl,?_⟩
   dsimp only
   rw [decide_eq_false n]
   exact k _ _ _ (bZ h (bt a (.bl _)))
  ·cases h
 ·cases h
def Iq{j pos'}(h:LE X κ a fa):LT X κ (.Compare a [.Is] [.Constant .none j pos'] pos) (ao (cZ (kB true) fa)):=.mk (iK (kL (zT h.pe)) λ_ _ _ q=>lI CC (jz q))
def um{j pos'}(h:LE X κ a fa):LT X κ (.Compare a [.IsNot] [.Constant .none j pos'] pos) (ao (cZ (kB false) fa)):=.mk (iK (kL (zU h.pe)) λ_ _ _ q=>lI CD (jz q))
variable {s:Stmt}{ss ss2:List Stmt}{f g:SF}
def CF:gE X κ [] aO:=.mk (lP nv λ_ _ _=>B8)
def CG(h:LS X κ s f):gE X κ [s] f:=.mk (fT h.pe)
def CH(h:LS X κ s f)(r:gE X κ ss g):gE X κ (s::ss) (ai f g):=.mk (lP (fS h.pe r.pe) λ_ _ _=>B9)
def uo(h:LE X κ a fa):LS X κ (.Return (some a) pos) (aD fa):=.mk (c7 (qw h.pe) λ_ _ _=>Cb)
def CI(h:LE X κ a fa)(hs:‹swapsWith a none pos.line X.env=pure false›):LS X κ (.Expr a pos) (cL fa):=.mk (c7 (nz h.pe hs) λ_ _ _=>Ca)
def CJ(hc:LT X κ c fc)(ha:gE X κ ss f)(hb:gE X κ ss2 g):LS X κ (.If c ss ss2 pos) (aF fc f g):=.mk (c7 (kN hc.pe ha.pe hb.pe) λ_ _ _=>tq)
def CK(hc:LT X κ c fc)(hb:gE X κ ss f)(hp:PassesOwn (model X.prog X.w) X.A X.env X.xe:=by exact PassesOwn.never):LS X κ (.While c ss [] pos) (fQ fc f):=.mk (c7 (Ac hp hc.pe hb.pe) λ_ _ _=>Ce)
def uq (hi:LI X κ tg it fi)(hg:LG X κ tg gf)(hb:gE X κ ss f)(hc:‹X.calm=true›)(hp:PassesOwn (model X.prog X.w) X.A X.env X.xe:=by exact PassesOwn.never)(hs:∀x,foldedSetIterable it X.env x=pure x:=by intro _;rfl):LS X κ (.For tg it ss [] pos) (bC fi gf f):=.mk (c7 (qJ hp hc hi.pe hg.pe hb.pe hs) λ_ _ _=>Cf)
def CL (hN:X.N.Nodup)(hi:‹X.N[i]?=some x›)(hx:ng X.env.scope x:=by first|exact Or.inl rfl|exact Or.inr rfl)(hf:X.fn x=true∨X.env.scope.names.lookup x=some .local:=by first|exact .inl rfl|exact .inr rfl|assumption):LG X κ (.Name x p) (aB i):=.mk (tY (fU hN hi hx hf) λ_ _ _ _=>oj)
abbrev yP(X:Cx)(es:List Expr)(is:List Nat):Prop:=qx X es (gS is)
def CM:yP X [] []:=qB
def g_r  (hN:X.N.Nodup)(r:yP X es is)(hi:‹X.N[i]?=some x›)(hx:ng X.env.scope x:=by first|exact Or.inl rfl|exact Or.inr rfl)(hf:X.fn x=true∨X.env.scope.names.lookup x=some .local:=by first|exact .inl rfl|exact .inr rfl|assumption)
  : yP X (.Name x p::es) (i::is):=nB (fU hN hi hx hf) r
end
end
section
section
variable {X:Cx}{K:W.Frag}{κ:Str->Addr}
abbrev bK(f:Int->Int->Option I):List Ev->Mo Ev:=λes Z G=>match es with
 | [.v (.im (.int i)),.v (.im (.int j))]=>match f i j with
  | some d=>some (.v (.im d),Z,G)
  | none=>none
 | _=>none
def jE{C:Int->Int->Prop}{g:Int->Int->V}{f:Int->Int->Option I}(hf:∀i j d,f i j=some d->C i j/\∀ι H,RpI K ι H (g i j) d):aE K κ (r2 (rI C g)) (bK f):=by
 intro ι H σ Z G es vs e Z' G' Q a h k
 unfold bK at h
 split at h
 ·rename_i i j
  split at h
  ·rename_i d hd
   obtain⟨v,u,rfl⟩:=bP a.len
   cases dX (a.im (j:=0) rfl rfl)
   cases dX (a.im (j:=1) rfl rfl)
   obtain⟨c,r⟩:=hf i j d hd
   exact⟨_,_,rfl,i,j,rfl,rfl,c,k _ _ _ (bZ h (bt a (r ι H)))⟩
  ·cases h
 ·cases h
def iM{g:Int->Int->V}{f:Int->Int->Option I}(hf:∀i j d,f i j=some d->∀ι H,RpI K ι H (g i j) d):aE K κ (r2 (i9 g)) (bK f):=by
 intro ι H σ Z G es vs e Z' G' Q a h k
 obtain⟨x,y,e1,i,j,e2,e3,_,q⟩:=jE (λi j d hd=>⟨trivial,hf i j d hd⟩) ι H σ Z G es vs e Z' G' Q a h k
 exact⟨x,y,e1,i,j,e2,e3,q⟩
def aE.or{r r':R2}{p p':List Ev->Mo Ev}(h:aE K κ (r2 r) p)(h':aE K κ (r2 r') p'):aE K κ (r2 λx y H Q=>r x y H Q∨r' x y H Q) (λes Z G=>match p es Z G with|some z=>some z|none=>p' es Z G):=by
 intro ι H σ Z G es vs e Z' G' Q a hp k
 dsimp only at hp
 split at hp
 ·rename_i z hz
  cases hp
  obtain⟨x,y,e1,q⟩:=h ι H σ Z G es vs _ _ _ Q a hz k
  exact⟨x,y,e1,.inl q⟩
 ·obtain⟨x,y,e1,q⟩:=h' ι H σ Z G es vs _ _ _ Q a hp k
  exact⟨x,y,e1,.inr q⟩
abbrev bX(p p':List Ev->Mo Ev):List Ev->Mo Ev:=λes Z G=>match p es Z G with|some z=>some z|none=>p' es Z G
abbrev jF:List Ev->Mo Ev:=λes Z G=>match es with
 | [.v (.im (.str x)),.v (.im (.str y))]=>if x.length+y.length≤1000000 then some (.v (.im (.str (x++y))),Z,G) else none
 | _=>none
def CN:aE K κ (r2 λx y H Q=>∃i j,x=.str i/\y=.str j/\i.length+j.length≤sizeLine/\Q (.str (i++j)) H) jF:=by
 intro ι H σ Z G es vs e Z' G' Q a h k
 unfold jF at h
 split at h
 ·rename_i i j
  split at h
  ·rename_i hl
   obtain⟨v,u,rfl⟩:=bP a.len
   cases fA (a.im (j:=0) rfl rfl)
   cases fA (a.im (j:=1) rfl rfl)
   exact⟨_,_,rfl,i,j,rfl,rfl,z19 hl (by decide),k _ _ _ (bZ h (bt a (.str _)))⟩
  ·cases h
 ·cases h
abbrev lR(K:W.Frag):R2:=λx y H Q=>∃a b xs ys,x=.ref a/\y=.ref b/\br K H a xs/\br K H b ys/\xs.length+ys.length≤sizeLine /\
 (xs=[]->Q (.ref b) H)/\(xs≠[]->ys=[]->Q (.ref a) H)/\(xs≠[]->ys≠[]->∀p,H p=none->Q (.ref p) (aC H p (.tup (xs++ys))))
def CO:cf X (binaryOp .Add) (lR X.K):=by
 intro pins s σ H x y v u Q I rx ry h
 obtain⟨a,b,xs,ys,rfl,rfl,ha,hb,hz,q0,q1,q2⟩:=h
 by_cases hx:xs=[]
 ·cases rx
  cases ry
  obtain⟨its,r1,p1,_⟩:=I.tuple ha
  obtain⟨y1ba,r2,p2,_⟩:=I.tuple hb
  have hi:its=[]:=r1.y22d.mpr hx
  obtain⟨⟨cls,dd,data,sl⟩,ho,hc,n,hd⟩:=id p1
  obtain⟨⟨cls2,dd2,data2,sl2⟩,ho2,hc2,n2,hd2⟩:=id p2
  simp only at hc hd hc2 hd2
  subst hc hd hc2 hd2
  exact concat_meets ⟨_,ho,rfl⟩ ⟨_,ho2,rfl⟩ noFill_tuple_add seq_tuple_add PySem.F.slot_tuple_add PySem.F.entry_tuple_add (PySem.F.args_tuple_add_2 _ _)
   (tuple_addW0 a b its.toArray y1ba.toArray n n2 dd dd2 sl sl2 (by simp [hi])) ⟨ho,ho2,⟨.ref b,H,I,rfl,q0 hx⟩⟩
 ·exact A0 pins s σ H _ _ v u Q I rx ry ⟨a,b,xs,ys,rfl,rfl,ha,hb,hx,hz,q1 hx,q2 hx⟩
abbrev mW:List Ev->Mo Ev:=λes Z G=>match es with
 | [.v (.im (.tup xs)),.v (.im (.tup ys))]=>if xs.length+ys.length≤1000000 then some (.v (.im (.tup (xs++ys))),Z,G) else none
 | _=>none
def CP:aE K κ (r2 (lR K)) mW:=by
 intro ι H σ Z G es vs e Z' G' Q a h k
 unfold mW at h
 split at h
 ·rename_i xs ys
  split at h
  ·rename_i hl
   obtain⟨v,u,rfl⟩:=bP a.len
   have ra:=a.im (j:=0) rfl rfl
   have rb:=a.im (j:=1) rfl rfl
   cases ra with
   | @tup p vs1 _ h1 r1 =>
    cases rb with
    | @tup q vs2 _ h2 r2 =>
     have l1:=r1.len
     have l2:=r2.len
     refine⟨_,_,rfl,p,q,vs1,vs2,rfl,rfl,br.of h1,br.of h2,z19 (by lia) (show 1000000≤sizeLine by decide),λe=>?_,λ_ e=>?_,λ_ _ p' hp=>?_⟩
     ·subst e
      cases r1
      exact k _ _ _ (bZ h (bt a (.tup h2 r2)))
     ·subst e
      cases r2
      exact k _ _ _ (bZ h (bt a (by rw [z11];exact .tup h1 r1)))
     ·exact k _ _ _ (bZ h (lJ a hp (r1.app r2)))
  ·cases h
 ·cases h
abbrev oH:List Ev->Mo Ev:=λes Z G=>match es with
 | [a,b]=>match pk Z G a,pk Z G b with
  | some (.lst xs),some (.lst ys)=>if xs.length+ys.length≤1000000 then some (.v (.ow (.lst (xs++ys))),Z,G) else none
  | _,_=>none
 | _=>none
def CQ:aE K κ (r2 k6) oH:=by
 intro ι H σ Z G es vs e Z' G' Q a h k
 unfold oH at h
 split at h
 ·rename_i x y
  split at h
  ·rename_i xs ys hx hy
   split at h
   ·rename_i hl
    obtain⟨v,u,rfl⟩:=bP a.len
    obtain⟨p,e1,vs1,h1,r1⟩:=a.pk (j:=0) rfl rfl hx
    obtain⟨q,e2,vs2,h2,r2⟩:=a.pk (j:=1) rfl rfl hy
    subst e1;subst e2
    have l1:=r1.len
    have l2:=r2.len
    exact⟨_,_,rfl,p,q,vs1,vs2,rfl,rfl,h1,h2,z19 (by lia) (show 1000000≤sizeLine by decide),λp' hp=>k _ _ _ (bZ h (gP a hp (r1.app r2)))⟩
   ·cases h
  ·cases h
 ·cases h
abbrev oI:List Ev->Mo Ev:=bK λi j=>some (.int (i+j))
abbrev bx:List Ev->Mo Ev:=bX oI (bX jF (bX mW oH))
def ur (hr:y55 k A):cf X (binaryOp .Add) (λx y H Q=>i9 (λi j=>.int (i+j)) x y H Q∨((∃i j,x=.str i/\y=.str j/\i.length+j.length≤sizeLine/\Q (.str (i++j)) H)∨(lR X.K x y H Q∨k6 x y H Q))) :=
 An.or (Aw.or (CO.or Br))
def uu:aE K κ (r2 λx y H Q=>i9 (λi j=>.int (i+j)) x y H Q∨((∃i j,x=.str i/\y=.str j/\i.length+j.length≤sizeLine/\Q (.str (i++j)) H)∨(lR K x y H Q∨k6 x y H Q))) bx :=
 aE.or (iM λi j d h ι H=>by cases h;exact .int _) (aE.or CN (aE.or CP CQ))
abbrev cM:List Ev->Mo Ev:=bK λi j=>some (.int (i-j))
def uv (hr:y55 k A):cf X (binaryOp .Sub) (i9 λi j=>.int (i-j)):=Ao
def uw:aE K κ (r2 (i9 λi j=>.int (i-j))) cM:=iM λi j d h ι H=>by cases h;exact .int _
abbrev oJ:List Ev->Mo Ev:=bK λi j=>if (-(2 ^ 64)<i/\i<2 ^ 64)∨(-(2 ^ 64)<j/\j<2 ^ 64) then some (.int (i*j)) else none
abbrev lS:List Ev->Mo Ev:=λes Z G=>match es with
 | [a,.v (.im (.int j))]=>match pk Z G a with
  | some (.lst xs)=>if 0≤j/\j≤1000/\xs.length≤1000 then some (.v (.ow (.lst (List.replicate j.toNat xs).flatten)),Z,G) else none
  | _=>none
 | _=>none
theorem y57.rep{ι:List Addr}{H:Hp}{vs:List V}{xs:List I}(r:y57 K ι H vs xs):∀n:Nat,y57 K ι H (List.replicate n vs).flatten (List.replicate n xs).flatten
 | 0=>.nil
 | n+1=>by rw [List.replicate_succ,List.replicate_succ,List.flatten_cons,List.flatten_cons];exact r.app (y57.rep r n)
def CS:aE K κ (r2 k7) lS:=by
 intro ι H σ Z G es vs e Z' G' Q a h k
 unfold lS at h
 split at h
 ·rename_i x j
  split at h
  ·rename_i xs hx
   split at h
   ·rename_i hl
    obtain⟨v,u,rfl⟩:=bP a.len
    obtain⟨p,e1,vs1,h1,r1⟩:=a.pk (j:=0) rfl rfl hx
    cases dX (a.im (j:=1) rfl rfl)
    subst e1
    have l1:=r1.len
    refine⟨_,_,rfl,p,j,vs1,rfl,rfl,h1,by lia,by lia,z19 (Nat.mul_le_mul (show vs1.length≤1000 by lia) (show j.toNat≤1000 by lia)) (show 1000*1000≤sizeLine by decide),λp' hp=>k _ _ _ (bZ h (gP a hp (r1.rep _)))⟩
   ·cases h
  ·cases h
 ·cases h
abbrev lU:List Ev->Mo Ev:=λes Z G=>match es with
 | [.v (.im (.str z)),.v (.im (.int j))]=>if 0≤j/\j≤1000/\z.length≤1000 then some (.v (.im (.str (PySem.Txt.mul z j))),Z,G) else none
 | _=>none
abbrev oK:R2:=λx y H Q=>∃z n,x=.str z/\y=.int n/\MulOk z n/\Q (.str (PySem.Txt.mul z n)) H
def jG (h:0≤j/\j≤1000/\z.length≤1000):MulOk z j:=by
  obtain⟨h0,h1,h2⟩:=h
  have hb:(z.length:Int)*j≤1000*1000:=Int.mul_le_mul (by lia) h1 h0 (by lia)
  have hn:z.length*j.toNat≤1000*1000:=Nat.mul_le_mul h2 (by lia)
  refine⟨by simp only [Bool.or_eq_false_iff,decide_eq_false_iff_not];lia,λh3 _ h4=>?_,λ_ _=>?_⟩
  · have:=(Int.le_ediv_iff_mul_le (c:=j) (a:=(z.length:Int)) (b:=2 ^ 63-1) (by lia)).mpr (by lia)
    lia
  · exact decide_eq_false (by have:(1000*1000:Nat)≤sizeLine:=by decide
                              lia)
def CT:aE K κ (r2 oK) lU:=by
 intro ι H σ Z G es vs e Z' G' Q a h k
 unfold lU at h
 split at h
 ·rename_i z j
  split at h
  ·rename_i hl
   obtain⟨v,u,rfl⟩:=bP a.len
   cases fA (a.im (j:=0) rfl rfl)
   cases dX (a.im (j:=1) rfl rfl)
   exact⟨_,_,rfl,z,j,rfl,rfl,jG hl,k _ _ _ (bZ h (bt a (.str _)))⟩
  ·cases h
 ·cases h
abbrev c8:List Ev->Mo Ev:=bX oJ (bX lS lU)
def ux (hr:y55 k A):cf X (binaryOp .Mult) (λx y H Q=>rI y4 (λi j=>.int (i*j)) x y H Q∨(k7 x y H Q∨oK x y H Q)):=Ap.or (Bt.or BH)
def uy:aE K κ (r2 λx y H Q=>rI y4 (λi j=>.int (i*j)) x y H Q∨(k7 x y H Q∨oK x y H Q)) c8:=aE.or (jE λi j d h=>by
 split at h
 ·rename_i c;cases h;exact⟨c,λι H=>.int _⟩
 ·cases h) (aE.or CS CT)
abbrev iN:List Ev->Mo Ev:=bK λi j=>if 0<j/\j<2 ^ 200 then some (.int (i / j)) else none
def CU (hr:y55 k A):cf X (binaryOp .FloorDiv) (rI (λ_ j=>0<j/\j<2 ^ 200) λi j=>.int (i / j)):=BE
def CV:aE K κ (r2 (rI (λ_ j=>0<j/\j<2 ^ 200) λi j=>.int (i / j))) iN:=jE λi j d h=>by
 split at h
 ·rename_i c;cases h;exact⟨c,λι H=>.int _⟩
 ·cases h
abbrev dM:List Ev->Mo Ev:=bK λi j=>if 0<j then some (.int (i % j)) else none
def uz (hr:y55 k A):cf X (binaryOp .Mod) (rI (λ_ j=>0<j) λi j=>.int (i % j)):=Aq
def uA:aE K κ (r2 (rI (λ_ j=>0<j) λi j=>.int (i % j))) dM:=jE λi j d h=>by
 split at h
 ·rename_i c;cases h;exact⟨c,λι H=>.int _⟩
 ·cases h
abbrev gT:List Ev->Mo Ev:=bK λi j=>if 0≤j/\j≤1000000/\i.natAbs<2 ^ 64 then some (.int (i ^ j.toNat)) else none
def uB (hr:y55 k A):cf X (binaryOp .Pow) (rI nH λi j=>.int (i ^ j.toNat)):=Ar
def uC:aE K κ (r2 (rI nH λi j=>.int (i ^ j.toNat))) gT:=jE λi j d h=>by
 split at h
 ·rename_i c;cases h;exact⟨c,λι H=>.int _⟩
 ·cases h
abbrev CW:List Ev->Mo Ev:=bK λi j=>if 0≤j/\j≤1000000/\i.natAbs<2 ^ 64 then some (.int (i*2 ^ j.toNat)) else none
abbrev CY:List Ev->Mo Ev:=bK λi j=>if 0≤j then some (.int (i / 2 ^ j.toNat)) else none
abbrev fD:List Ev->Mo Ev:=λes Z G=>match es with
 | [.v (.im (.int i))]=>some (.v (.im (.int (-i))),Z,G)
 | _=>none
def CZ:aE K κ (r1 (rU λi=>.int (-i))) fD:=by
 intro ι H σ Z G es vs e Z' G' Q a h k
 unfold fD at h
 split at h
 ·rename_i i
  obtain⟨v,rfl⟩:=cu a.len
  cases dX (a.im (j:=0) rfl rfl)
  exact⟨_,rfl,i,rfl,k _ _ _ (bZ h (bt a (.int _)))⟩
 ·cases h
def uD (h:LE X κ a fa):LE X κ (.UnaryOp .USub a pos) (cZ fD fa):=Cw nI CZ h
abbrev eI:List Ev->Mo Ev:=bK λi j=>some (.bl (decide (i<j)))
abbrev leP:List Ev->Mo Ev:=bK λi j=>some (.bl (decide (i≤j)))
abbrev gU:List Ev->Mo Ev:=bK λi j=>some (.bl (decide (j<i)))
abbrev oM:List Ev->Mo Ev:=bK λi j=>some (.bl (decide (j≤i)))
end
end
set_option maxHeartbeats 400000
section
section
abbrev lV(K:W.Frag)(H:Hp)(x:V):Prop:=∃a xs,x=.ref a/\br K H a xs
abbrev mX(K:W.Frag)(H:Hp)(x y:V)(b:Bool):Prop:=(bJ x=true/\bJ y=true/\b=gL x y)∨(lV K H x/\bJ y=true/\b=false)∨(bJ x=true/\lV K H y/\b=false)
abbrev jH(K:W.Frag)(H:Hp):Nat->V->V->Bool->Prop
 | 0,x,y,b=>mX K H x y b
 | n+1,x,y,b=>mX K H x y b∨∃a c xs ys e,x=.ref a/\y=.ref c/\br K H a xs/\br K H c ys/\(∀(j:Nat) u w,xs[j]?=some u->ys[j]?=some w->jH K H n u w (e j))/\b=((List.range (min xs.length ys.length)).all e&&xs.length == ys.length)
def C5(h:bJ x=true):gL x x=true:=by
 cases x with
 | non=>rfl
 | bl b=>exact beq_self_eq_true b
 | int i=>exact beq_self_eq_true i
 | str z=>exact beq_self_eq_true z
 | _=>cases h
def mX.refl  (I:Inv X pins σ H s)(h:mX X.K H x x b):b=true:=by
 rcases h with⟨h1,_,rfl⟩| ⟨⟨a,xs,rfl,_⟩,h2,_⟩| ⟨h2,⟨a,xs,rfl,_⟩,_⟩
 ·exact C5 h1
 ·cases h2
 ·cases h2
theorem jH.refl (I:Inv X pins σ H s):∀{n:Nat} {x:V} {b:Bool},jH X.K H n x x b->b=true
 | 0,_,_,h=>mX.refl I h
 | n+1,x,b,h=>by
  rcases h with h|⟨a,c,xs,ys,e,e1,e2,h1,h2,he,rfl⟩
  ·exact mX.refl I h
  ·subst e1;cases e2
   have:=I.y425 h1 h2
   subst this
   rw [Nat.min_self]
   have:(List.range xs.length).all e=true:=by
    rw [List.all_eq_true]
    intro j hj
    have hj:j<xs.length:=by simpa using hj
    exact jH.refl I (he j _ _ (z1c hj) (z1c hj))
   rw [this];simp
def iO (r:au xs us)(h:j<us.toArray.size):∃x,xs[j]?=some x/\aA x us.toArray[j]:=by
 have l:=r.length
 have h':j<xs.length:=by rw [l];simpa using h
 obtain⟨u,eu,ru⟩:=r.get (z1c h')
 refine⟨_,z1c h',?_⟩
 have:us.toArray[j]?=some u:=by simpa using eu
 rw [Array.getElem?_eq_getElem h] at this
 rw [z1e this]
 exact ru
def uE   (I:Inv X pins σ H s)(h:mX X.K H x y b)(ru:aA x u)(rw':aA y w)(hu:A.units<cLine):SeqAt.EqAt A s u w b:=by
 rcases h with⟨h1,h2,rfl⟩| ⟨⟨a,xs,rfl,ht⟩,h2,rfl⟩| ⟨h2,⟨a,xs,rfl,ht⟩,rfl⟩
 ·exact rV ru rw' h1 h2
 ·cases ru
  obtain⟨its,r1,p1,_⟩:=I.tuple ht
  have p1:s.heap.IsTuple a its.toArray:=p1
  cases y with
  | non=>cases rw';exact SeqAt.EqAt.tuple_none p1 hu
  | bl c=>cases rw';exact SeqAt.EqAt.tuple_bool _ p1 hu
  | int i=>obtain⟨t,rfl⟩:=rw';exact SeqAt.EqAt.tuple_int _ _ p1 hu
  | str z=>obtain⟨t,rfl⟩:=rw';exact SeqAt.EqAt.tuple_str _ _ p1 hu
  | _=>cases h2
 ·cases rw'
  obtain⟨its,r1,p1,_⟩:=I.tuple ht
  have p1:s.heap.IsTuple a its.toArray:=p1
  cases x with
  | non=>cases ru;exact SeqAt.EqAt.none_tuple p1 hu
  | bl c=>cases ru;exact SeqAt.EqAt.bool_tuple _ p1 hu
  | int i=>obtain⟨t,rfl⟩:=ru;exact SeqAt.EqAt.int_tuple _ _ p1 hu
  | str z=>obtain⟨t,rfl⟩:=ru;exact SeqAt.EqAt.str_tuple _ _ p1 hu
  | _=>cases h2
theorem oN:∀{n:Nat} {A:Around} {pins:List (Addr×Obj)} {σ:L2.St} {s:Shared} {x y:V} {u w:Value} {b:Bool},Inv X pins σ H s->jH X.K H n x y b->aA x u->aA y w->A.units+n<cLine->SeqAt.EqAt A s u w b
 | 0,_,_,_,_,_,_,_,_,_,I,h,ru,rw',hu=>uE I h ru rw' hu
 | n+1,A,_,_,s,_,_,_,_,_,I,h,ru,rw',hu=>by
  rcases h with h|⟨a,c,xs,ys,e,e1,e2,h1,h2,he,rfl⟩
  ·exact uE I h ru rw' (by lia)
  ·subst e1;subst e2
   cases ru;cases rw'
   by_cases hac:a=c
   ·subst hac
    have:=jH.refl (n:=n+1) I (.inr ⟨a,a,xs,ys,e,rfl,rfl,h1,h2,he,rfl⟩)
    rw [this]
    exact SeqAt.EqAt.same _
   ·obtain⟨its,r1,p1,_⟩:=I.tuple h1
    obtain⟨y1ba,r2,p2,_⟩:=I.tuple h2
    have q:=SeqAt.RcAt.tuples (A:=A) (show s.heap.IsTuple a its.toArray from p1) (show s.heap.IsTuple c y1ba.toArray from p2) (by lia) (λj z1 z2=>by
     obtain⟨x,ex,rx⟩:=iO r1 z1
     obtain⟨y,ey,ry⟩:=iO r2 z2
     exact oN I (he j x y ex ey) rx ry (by show A.units+1+n<cLine;lia))
    rw [zc,zc,<- r1.length,<- r2.length] at q
    exact SeqAt.EqAt.of_refs hac q
end
end
section
section
abbrev EqL(K:W.Frag)(H:Hp)(n:Nat)(x y:V)(b:Bool):Prop:=∃a c xs ys,x=.ref a/\y=.ref c/\bM K H a xs/\bM K H c ys/\((xs.length≠ys.length/\b=false)∨(xs.length=ys.length/\∃e,(∀(j:Nat) u w,xs[j]?=some u->ys[j]?=some w->jH K H n u w (e j))/\b=(List.range xs.length).all e))
abbrev p4(K:W.Frag)(H:Hp)(x y:V)(b:Bool):Prop:=(iB x y=true/\b=decide (x=y))∨(lV K H x/\bJ y=true/\b=false)∨(bJ x=true/\lV K H y/\b=false) ∨
 (∃a c xs ys e,x=.ref a/\y=.ref c/\br K H a xs/\br K H c ys/\(∀(j:Nat) u w,xs[j]?=some u->ys[j]?=some w->jH K H 40 u w (e j))/\b=((List.range (min xs.length ys.length)).all e&&xs.length == ys.length))∨EqL K H 40 x y b
def uF(hu:X.A.units+50<cLine):cf X (compareOp .Eq) (λx y H Q=>∃b,p4 X.K H x y b/\Q (.bl b) H):=by
 intro pins s σ H x y v u Q I rx ry h
 obtain⟨b,h,q⟩:=h
 have hu0:X.A.units<cLine:=by lia
 have hel:∀{xs ys:List V} {us ws:List Value} {e:Nat->Bool},au xs us->au ys ws->(∀(j:Nat) u w,xs[j]?=some u->ys[j]?=some w->jH X.K H 40 u w (e j))->∀j (z1:j<us.toArray.size) (z2:j<ws.toArray.size),SeqAt.EqAt X.A.in1 s us.toArray[j] ws.toArray[j] (e j):=λr1 r2 he j z1 z2=>by
  obtain⟨x,ex,rx⟩:=iO r1 z1
  obtain⟨y,ey,ry⟩:=iO r2 z2
  exact oN I (he j x y ex ey) rx ry (by show X.A.units+1+40<cLine;lia)
 rcases h with⟨hs,rfl⟩| ⟨⟨a,xs,rfl,ht⟩,h2,rfl⟩| ⟨h2,⟨a,xs,rfl,ht⟩,rfl⟩| ⟨a,c,xs,ys,e,rfl,rfl,h1,h2,he,rfl⟩| ⟨a,c,xs,ys,rfl,rfl,h1,h2,h3⟩
 ·exact qN pins s σ H x y v u Q I rx ry ⟨hs,q⟩
 ·cases rx
  obtain⟨its,r1,p1,_⟩:=I.tuple ht
  have p1:s.heap.IsTuple a its.toArray:=p1
  have fin:EP X pins σ Q (.bool false) s:=⟨.bl false,H,I,rfl,q⟩
  cases y with
  | non=>cases ry;exact SeqAt.RcAt.tuple_none p1 hu0 _ _ _ _ fin
  | bl c=>cases ry;exact SeqAt.RcAt.tuple_bool _ p1 hu0 _ _ _ _ fin
  | int i=>obtain⟨t,rfl⟩:=ry;exact SeqAt.RcAt.tuple_int _ _ p1 hu0 _ _ _ _ fin
  | str z=>obtain⟨t,rfl⟩:=ry;exact SeqAt.RcAt.tuple_str _ _ p1 hu0 _ _ _ _ fin
  | _=>cases h2
 ·cases ry
  obtain⟨its,r1,p1,_⟩:=I.tuple ht
  have p1:s.heap.IsTuple a its.toArray:=p1
  have fin:EP X pins σ Q (.bool false) s:=⟨.bl false,H,I,rfl,q⟩
  cases x with
  | non=>cases rx;exact SeqAt.RcAt.none_tuple p1 hu0 _ _ _ _ fin
  | bl c=>cases rx;exact SeqAt.RcAt.bool_tuple _ p1 hu0 _ _ _ _ fin
  | int i=>obtain⟨t,rfl⟩:=rx;exact SeqAt.RcAt.int_tuple _ _ p1 hu0 _ _ _ _ fin
  | str z=>obtain⟨t,rfl⟩:=rx;exact SeqAt.RcAt.str_tuple _ _ p1 hu0 _ _ _ _ fin
  | _=>cases h2
 ·cases rx;cases ry
  obtain⟨its,r1,p1,_⟩:=I.tuple h1
  obtain⟨y1ba,r2,p2,_⟩:=I.tuple h2
  refine SeqAt.RcAt.tuples (show s.heap.IsTuple a its.toArray from p1) (show s.heap.IsTuple c y1ba.toArray from p2) hu0 (hel r1 r2 he) _ _ _ _ ?_
  rw [zc,zc,<- r1.length,<- r2.length]
  exact⟨.bl _,H,I,rfl,q⟩
 ·cases rx;cases ry
  obtain⟨its,r1,p1,_⟩:=I.list h1
  obtain⟨y1ba,r2,p2,_⟩:=I.list h2
  have l1:=r1.length
  have l2:=r2.length
  rcases h3 with⟨hn,rfl⟩| ⟨hn,e,he,rfl⟩
  ·exact SeqAt.RcAt.lists_lengths p1.isList p2.isList (by simp;lia) hu0 X.prog X.w X.xe _ ⟨.bl _,H,I,rfl,q⟩
  ·refine SeqAt.eq_listAt p1.isList p2.isList (by simp;lia) hu0 (hel r1 r2 he) ?_
   rw [zc,<- l1]
   exact⟨.bl _,H,I,rfl,q⟩
end
end
section
section
def C6(hu:X.A.units+50<cLine):cf X (compareOp .NotEq) (λx y H Q=>∃b,p4 X.K H x y b/\Q (.bl (!b)) H):=by
 intro pins s σ H x y v u Q I rx ry h
 obtain⟨b,h,q⟩:=h
 have hu0:X.A.units<cLine:=by lia
 have hel:∀{xs ys:List V} {us ws:List Value} {e:Nat->Bool},au xs us->au ys ws->(∀(j:Nat) u w,xs[j]?=some u->ys[j]?=some w->jH X.K H 40 u w (e j))->∀j (z1:j<us.toArray.size) (z2:j<ws.toArray.size),SeqAt.EqAt X.A.in1 s us.toArray[j] ws.toArray[j] (e j):=λr1 r2 he j z1 z2=>by
  obtain⟨x,ex,rx⟩:=iO r1 z1
  obtain⟨y,ey,ry⟩:=iO r2 z2
  exact oN I (he j x y ex ey) rx ry (by show X.A.units+1+40<cLine;lia)
 rcases h with⟨hs,rfl⟩| ⟨⟨a,xs,rfl,ht⟩,h2,rfl⟩| ⟨h2,⟨a,xs,rfl,ht⟩,rfl⟩| ⟨a,c,xs,ys,e,rfl,rfl,h1,h2,he,rfl⟩| ⟨a,c,xs,ys,rfl,rfl,h1,h2,h3⟩
 ·exact qO pins s σ H x y v u Q I rx ry ⟨hs,q⟩
 ·cases rx
  obtain⟨its,r1,p1,_⟩:=I.tuple ht
  have p1:s.heap.IsTuple a its.toArray:=p1
  have fin:EP X pins σ Q (.bool true) s:=⟨.bl true,H,I,rfl,q⟩
  cases y with
  | non=>cases ry;exact SeqAt.RcNeAt.tuple_none p1 hu0 _ _ _ _ fin
  | bl c=>cases ry;exact SeqAt.RcNeAt.tuple_bool _ p1 hu0 _ _ _ _ fin
  | int i=>obtain⟨t,rfl⟩:=ry;exact SeqAt.RcNeAt.tuple_int _ _ p1 hu0 _ _ _ _ fin
  | str z=>obtain⟨t,rfl⟩:=ry;exact SeqAt.RcNeAt.tuple_str _ _ p1 hu0 _ _ _ _ fin
  | _=>cases h2
 ·cases ry
  obtain⟨its,r1,p1,_⟩:=I.tuple ht
  have p1:s.heap.IsTuple a its.toArray:=p1
  have fin:EP X pins σ Q (.bool true) s:=⟨.bl true,H,I,rfl,q⟩
  cases x with
  | non=>cases rx;exact SeqAt.RcNeAt.none_tuple p1 hu0 _ _ _ _ fin
  | bl c=>cases rx;exact SeqAt.RcNeAt.bool_tuple _ p1 hu0 _ _ _ _ fin
  | int i=>obtain⟨t,rfl⟩:=rx;exact SeqAt.RcNeAt.int_tuple _ _ p1 hu0 _ _ _ _ fin
  | str z=>obtain⟨t,rfl⟩:=rx;exact SeqAt.RcNeAt.str_tuple _ _ p1 hu0 _ _ _ _ fin
  | _=>cases h2
 ·cases rx;cases ry
  obtain⟨its,r1,p1,_⟩:=I.tuple h1
  obtain⟨y1ba,r2,p2,_⟩:=I.tuple h2
  refine SeqAt.RcNeAt.tuples (show s.heap.IsTuple a its.toArray from p1) (show s.heap.IsTuple c y1ba.toArray from p2) hu0 (hel r1 r2 he) _ _ _ _ ?_
  rw [zc,zc,<- r1.length,<- r2.length]
  exact⟨.bl _,H,I,rfl,q⟩
 ·cases rx;cases ry
  obtain⟨its,r1,p1,_⟩:=I.list h1
  obtain⟨y1ba,r2,p2,_⟩:=I.list h2
  have l1:=r1.length
  have l2:=r2.length
  rcases h3 with⟨hn,rfl⟩| ⟨hn,e,he,rfl⟩
  ·exact SeqAt.RcNeAt.lists_lengths p1.isList p2.isList (by simp;lia) hu0 X.prog X.w X.xe _ ⟨.bl _,H,I,rfl,q⟩
  ·refine SeqAt.RcNeAt.lists p1.isList p2.isList (by simp;lia) hu0 (hel r1 r2 he) X.prog X.w X.xe _ ?_
   rw [zc,<- l1]
   exact⟨.bl _,H,I,rfl,q⟩
end
end
section
section
variable {X:Cx}{K:W.Frag}{κ:Str->Addr}{H:Hp}
abbrev mY(f:I->I->Option Bool):List I->List I->Option Bool
 | [],[]=>some true
 | x::xs,y::ys=>match f x y,mY f xs ys with
  | some b,some c=>some (b&&c)
  | _,_=>none
 | [],_::_=>some false
 | _::_,[]=>some false
abbrev jI:I->Option (List I)
 | .tup xs=>some xs
 | .con xs=>some xs
 | _=>none
abbrev cT:I->Bool
 | .non=>true
 | .bl _=>true
 | .int _=>true
 | .str _=>true
 | _=>false
abbrev b6:I->I->Bool
 | .non,.non=>true
 | .bl a,.bl b=>a == b
 | .bl a,.int b=>(if a then 1 else 0) == b
 | .int a,.bl b=>a == (if b then 1 else 0)
 | .int a,.int b=>a == b
 | .str a,.str b=>a == b
 | _,_=>false
abbrev ja:Nat->I->I->Option Bool
 | 0,x,y=>if cT x&&cT y then some (b6 x y) else if ((jI x).isSome&&cT y)||(cT x&&(jI y).isSome) then some false else none
 | n+1,x,y=>if cT x&&cT y then some (b6 x y) else if ((jI x).isSome&&cT y)||(cT x&&(jI y).isSome) then some false else match jI x,jI y with
  | some xs,some ys=>mY (ja n) xs ys
  | _,_=>none
variable {ι:List Addr}
def fE{v:V}{x:I}(r:RpI K ι H v x)(h:cT x=true):bJ v=true:=by cases r<;>first|rfl|cases h
abbrev uG:V->I
 | .bl b=>.bl b
 | .int i=>.int i
 | .str x=>.str x
 | _=>.non
def lW(r:RpI K ι H v x)(h:bJ v=true):x=uG v:=by
 cases r<;>first|rfl|cases h
def C7(h:bJ v=true)(h':bJ w=true):b6 (uG v) (uG w)=gL v w:=by
 cases v<;>first|cases h;done|(cases w<;>first|rfl|cases h')
def uH(r:RpI K ι H v x)(r':RpI K ι H w y)(h:cT x=true)(h':cT y=true):b6 x y=gL v w:=by
 have h:=fE r h
 have h':=fE r' h'
 rw [lW r h,lW r' h',C7 h h']
def lX{v:V}{x:I}{xs:List I}(r:RpI K ι H v x)(h:jI x=some xs):∃a vs,v=.ref a/\br K H a vs/\y57 K ι H vs xs:=by
 cases r with
 | tup h1 h2=>cases h;exact⟨_,_,rfl,br.of h1,h2⟩
 | con h1 h2=>cases h;exact⟨_,_,rfl,br.kon h1,h2⟩
 | _=>cases h
theorem oO{f:I->I->Option Bool}{E:V->V->Bool->Prop}(hf:∀{v w x y b},RpI K ι H v x->RpI K ι H w y->f x y=some b->E v w b):∀{vs ws:List V} {xs ys:List I} {b:Bool},y57 K ι H vs xs->y57 K ι H ws ys->mY f xs ys=some b ->
  ∃e:Nat->Bool,(∀(j:Nat) u w,vs[j]?=some u->ws[j]?=some w->E u w (e j))/\b=((List.range (min vs.length ws.length)).all e&&vs.length == ws.length)
 | [],[],_,_,b,.nil,.nil,h=>by cases h;exact⟨λ_=>true,λj u w e=>by simp at e,rfl⟩
 | [],_::_,_,_,b,.nil,.cons _ _,h=>by cases h;exact⟨λ_=>true,λj u w e=>by simp at e,by simp⟩
 | _::_,[],_,_,b,.cons _ _,.nil,h=>by cases h;exact⟨λ_=>true,λj u w _ e=>by simp at e,by simp⟩
 | v::vs,w::ws,_,_,b,.cons r rs,.cons r' rs',h=>by
  unfold mY at h
  split at h
  ·rename_i b0 c h0 h1
   cases h
   obtain⟨e',he,rfl⟩:=oO hf rs rs' h1
   refine⟨λj=>match j with|0=>b0|j+1=>e' j,λj u w' e1 e2=>?_,?_⟩
   ·cases j with
    | zero=>simp at e1 e2;subst e1;subst e2;exact hf r r' h0
    | succ j=>exact he j u w' (by simpa using e1) (by simpa using e2)
   ·have e3:min (v::vs).length (w::ws).length=min vs.length ws.length+1:=by simp only [z10];lia
    rw [e3,BI]
    have e4:((v::vs).length == (w::ws).length)=(vs.length == ws.length):=by simp
    rw [e4,Bool.and_assoc]
  ·cases h
def uJ:∀{n:Nat} {v w:V} {x y:I} {b:Bool},RpI K ι H v x->RpI K ι H w y->ja n x y=some b->jH K H n v w b:=by
 have base:∀{v w:V} {x y:I} {b:Bool} {o:Option Bool},RpI K ι H v x->RpI K ι H w y->(if cT x&&cT y then some (b6 x y) else if ((jI x).isSome&&cT y)||(cT x&&(jI y).isSome) then some false else o)=some b->mX K H v w b∨o=some b:=λ{v w x y b o} r r' h=>by
  split at h
  ·rename_i hf
   rw [z24] at hf
   cases h
   exact .inl (.inl ⟨fE r hf.1,fE r' hf.2,uH r r' hf.1 hf.2⟩)
  ·split at h
   ·rename_i hf
    cases h
    rw [Bool.or_eq_true,z24,z24] at hf
    rcases hf with⟨h1,h2⟩| ⟨h1,h2⟩
    ·obtain⟨xs,hx⟩:=Option.isSome_iff_exists.mp h1
     obtain⟨a,vs,e1,h3,_⟩:=lX r hx
     exact .inl (.inr (.inl ⟨⟨a,vs,e1,h3⟩,fE r' h2,rfl⟩))
    ·obtain⟨xs,hx⟩:=Option.isSome_iff_exists.mp h2
     obtain⟨a,vs,e1,h3,_⟩:=lX r' hx
     exact .inl (.inr (.inr ⟨fE r h1,⟨a,vs,e1,h3⟩,rfl⟩))
   ·exact .inr h
 intro n
 induction n with
 | zero =>
  intro v w x y b r r' h
  unfold ja at h
  rcases base r r' h with q|q
  ·exact q
  ·cases q
 | succ n ih =>
  intro v w x y b r r' h
  unfold ja at h
  rcases base r r' h with q|q
  ·exact .inl q
  ·split at q
   ·rename_i xs ys hx hy
    obtain⟨a,vs,e1,h1,r1⟩:=lX r hx
    obtain⟨c,ws,e2,h2,r2⟩:=lX r' hy
    obtain⟨e,he,hb⟩:=oO (λr r' h=>ih r r' h) r1 r2 q
    exact .inr ⟨a,c,vs,ws,e,e1,e2,h1,h2,he,hb⟩
   ·cases q
def C9(h:iB x y=true)(hf:bJ x=true):gL x y=decide (x=y):=by
 cases x<;>first|exact Bool.noConfusion hf|(cases y<;>first|rfl|exact Bool.noConfusion h|skip)
 ·rename_i a b
  show (a == b)=_
  by_cases e:a=b
  ·subst e;simp
  ·rw [beq_eq_false_iff_ne.mpr e,decide_eq_false (λz=>e (by injection z))]
 ·rename_i a b
  show (a == b)=_
  by_cases e:a=b
  ·subst e;simp
  ·rw [beq_eq_false_iff_ne.mpr e,decide_eq_false (λz=>e (by injection z))]
 ·rename_i a b
  show (a == b)=_
  by_cases e:a=b
  ·subst e;simp
  ·rw [beq_eq_false_iff_ne.mpr e,decide_eq_false (λz=>e (by injection z))]
abbrev gW:I->I->Bool
 | .bl _,.int _=>true
 | .int _,.bl _=>true
 | _,_=>false
abbrev mZ(Z:De)(G:List M)(a b:Ev):Option Bool :=
 match oi a,oi b with
 | some x,some y=>if gW x y then none else match ja 41 x y with
  | some r=>some r
  | none=>match pk Z G a,pk Z G b with
   | some (.lst xs),some (.lst ys)=>mY (ja 40) xs ys
   | _,_=>none
 | _,_=>match pk Z G a,pk Z G b with
  | some (.lst xs),some (.lst ys)=>mY (ja 40) xs ys
  | _,_=>none
abbrev bQ:List Ev->Mo Ev:=λes Z G=>match es with
 | [a,b]=>match mZ Z G a b with
  | some r=>some (.v (.im (.bl r)),Z,G)
  | none=>none
 | _=>none
abbrev lY:List Ev->Mo Ev:=λes Z G=>match es with
 | [a,b]=>match mZ Z G a b with
  | some r=>some (.v (.im (.bl (!r))),Z,G)
  | none=>none
 | _=>none
def Dc(h:bJ v=true)(h':bJ u=true)(hm:¬ gW (uG v) (uG u)=true):iB v u=true:=by
 cases v<;>first|cases h;done|(cases u<;>first|rfl|cases h';done|exact absurd rfl hm)
def Df(r:RpI K ι H v x)(r':RpI K ι H u y)(h:bJ v=true)(h':bJ u=true)(hm:¬ gW x y=true):iB v u=true:=by
 rw [lW r h,lW r' h'] at hm
 exact Dc h h' hm
def uK{σ:L2.St}{Z:De}{G:List M}{a b:Ev}{v u:V}{r:Bool}(A:Args K κ ι H σ Z G [a,b] [v,u])(h:mZ Z G a b=some r):p4 K H v u r:=by
 have lists:(match pk Z G a,pk Z G b with|some (.lst xs),some (.lst ys)=>mY (ja 40) xs ys|_,_=>none)=some r->p4 K H v u r:=λh=>by
  split at h
  ·rename_i xs ys hx hy
   obtain⟨p,e1,vs,h1,r1⟩:=A.pk (j:=0) rfl rfl hx
   obtain⟨q,e2,ws,h2,r2⟩:=A.pk (j:=1) rfl rfl hy
   obtain⟨e,he,hb⟩:=oO (λr r' h=>uJ r r' h) r1 r2 h
   refine .inr (.inr (.inr (.inr ⟨p,q,vs,ws,e1,e2,bM.of h1,bM.of h2,?_⟩)))
   by_cases hl:vs.length=ws.length
   ·refine .inr ⟨hl,e,he,?_⟩
    rw [hb,<- hl,Nat.min_self];simp
   ·refine .inl ⟨hl,?_⟩
    rw [hb]
    have:(vs.length == ws.length)=false:=by simpa using hl
    rw [this,Bool.and_false]
  ·cases h
 unfold mZ at h
 split at h
 ·rename_i x y hx hy
  split at h
  ·cases h
  ·rename_i hm
   split at h
   ·rename_i r' hr
    cases h
    have ra:RpI K ι H v x:=by
     cases a with
     | s i=>cases hx
     | v z=>cases z with
      | ow m=>cases hx
      | im d=>cases hx;exact A.im (j:=0) rfl rfl
    have rb:RpI K ι H u y:=by
     cases b with
     | s i=>cases hy
     | v z=>cases z with
      | ow m=>cases hy
      | im d=>cases hy;exact A.im (j:=1) rfl rfl
    rcases uJ ra rb hr with q|⟨a',c,xs,ys,e,e1,e2,h1,h2,he,hb⟩
    ·rcases q with⟨h1,h2,rfl⟩| ⟨h1,h2,rfl⟩| ⟨h1,h2,rfl⟩
     ·have sc:=Df ra rb h1 h2 hm
      exact .inl ⟨sc,C9 sc h1⟩
     ·exact .inr (.inl ⟨h1,h2,rfl⟩)
     ·exact .inr (.inr (.inl ⟨h1,h2,rfl⟩))
    ·exact .inr (.inr (.inr (.inl ⟨a',c,xs,ys,e,e1,e2,h1,h2,he,hb⟩)))
   ·exact lists h
 ·exact lists h
def uL:aE K κ (r2 λx y H Q=>∃b,p4 K H x y b/\Q (.bl b) H) bQ:=by
 intro ι H σ Z G es vs e Z' G' Q a h k
 unfold bQ at h
 split at h
 ·split at h
  ·rename_i r hr
   obtain⟨v,u,rfl⟩:=bP a.len
   exact⟨_,_,rfl,r,uK a hr,k _ _ _ (bZ h (bt a (.bl _)))⟩
  ·cases h
 ·cases h
def Dg:aE K κ (r2 λx y H Q=>∃b,p4 K H x y b/\Q (.bl (!b)) H) lY:=by
 intro ι H σ Z G es vs e Z' G' Q a h k
 unfold lY at h
 split at h
 ·split at h
  ·rename_i r hr
   obtain⟨v,u,rfl⟩:=bP a.len
   exact⟨_,_,rfl,r,uK a hr,k _ _ _ (bZ h (bt a (.bl _)))⟩
  ·cases h
 ·cases h
end
section
variable {X:Cx}{κ:Str->Addr}{a b:Expr}{fa fb:Mo Ev}{pos:Pos}{k:Nat}
def oP(hr:y55 k X.A):X.A.units+50<cLine:=by have:=hr.units;lia
def Dh(hr:y55 k X.A)(ha:LE X κ a fa)(hb:LE X κ b fb):LE X κ (.Compare a [.Eq] [b] pos) (ah bQ fa fb):=Cy (uF (oP hr)) uL ha hb (iC _)
def Di(hr:y55 k X.A)(ha:LE X κ a fa)(hb:LE X κ b fb):LT X κ (.Compare a [.Eq] [b] pos) (ao (ah bQ fa fb)):=jD (uF (oP hr)) uL ha hb (iC _)
def Dj(hr:y55 k X.A)(ha:LE X κ a fa)(hb:LE X κ b fb):LT X κ (.Compare a [.NotEq] [b] pos) (ao (ah lY fa fb)):=jD (C6 (oP hr)) Dg ha hb (iC _)
def Dl(hr:y55 k X.A)(ha:LE X κ a fa)(hb:LE X κ b fb):LT X κ (.Compare a [.Lt] [b] pos) (ao (ah eI fa fb)):=jD qP (iM λi j d h ι H=>by cases h;exact .bl _) ha hb (iC _)
def Dm(hr:y55 k X.A)(ha:LE X κ a fa)(hb:LE X κ b fb):LT X κ (.Compare a [.Gt] [b] pos) (ao (ah gU fa fb)):=jD qQ (iM λi j d h ι H=>by cases h;exact .bl _) ha hb (iC _)
def Dn(hr:y55 k X.A)(ha:LE X κ a fa)(hb:LE X κ b fb):LT X κ (.Compare a [.GtE] [b] pos) (ao (ah oM fa fb)):=jD qR (iM λi j d h ι H=>by cases h;exact .bl _) ha hb (iC _)
end
end
section
section
variable {X:Cx}{K:W.Frag}{κ:Str->Addr}{ι:List Addr}{H:Hp}
theorem y57.at{vs:List V}{xs:List I}{i:Int}{d:I}(r:y57 K ι H vs xs)(h:dh xs i=some d):∃v,dh vs i=some v/\RpI K ι H v d:=by
 unfold dh at h ⊢
 rw [r.len]
 cases q:gD xs.length i with
 | none=>rw [q] at h;cases h
 | some j =>
  rw [q] at h
  obtain⟨v,hv,rv⟩:=r.get h
  exact⟨v,hv,rv⟩
abbrev dY:List Ev->Mo Ev:=λes Z G=>match es with
 | [a,.v (.im (.int i))]=>match sq Z G a with
  | some xs=>match dh xs i with
   | some d=>some (.v (.im d),Z,G)
   | none=>none
  | none=>match a with
   | .v (.im (.str z))=>match dh z.cps.toList i with
    | some c=>if z.length≤1000000 then some (.v (.im (.str ⟨#[c]⟩)),Z,G) else none
    | none=>none
   | _=>none
 | _=>none
def Dp:aE K κ (r2 (Be K)) dY:=by
 intro ι H σ Z G es vs e Z' G' Q a h k
 unfold dY at h
 split at h
 ·rename_i x i
  split at h
  ·rename_i xs hx
   split at h
   ·rename_i d hd
    obtain⟨v,u,rfl⟩:=bP a.len
    obtain⟨p,ys,e1,h1,r⟩:=a.sq (j:=0) rfl rfl hx
    cases dX (a.im (j:=1) rfl rfl)
    subst e1
    obtain⟨w,hw,rw'⟩:=r.at hd
    rcases h1 with h1|h1
    ·exact⟨_,_,rfl,.inl ⟨p,ys,i,w,rfl,rfl,h1,hw,k _ _ _ (bZ h (bt a rw'))⟩⟩
    ·exact⟨_,_,rfl,.inr (.inl ⟨p,ys,i,w,rfl,rfl,h1,hw,k _ _ _ (bZ h (bt a rw'))⟩)⟩
   ·cases h
  ·split at h
   ·rename_i z _
    split at h
    ·rename_i c hc
     split at h
     ·rename_i hz
      obtain⟨v,u,rfl⟩:=bP a.len
      cases fA (a.im (j:=0) rfl rfl)
      cases dX (a.im (j:=1) rfl rfl)
      exact⟨_,_,rfl,.inr (.inr ⟨z,i,c,rfl,rfl,z19 hz (by decide),hc,k _ _ _ (bZ h (bt a (.str _)))⟩)⟩
     ·cases h
    ·cases h
   ·cases h
 ·cases h
abbrev dw:I->Option aK
 | .int i=>some (.inl i)
 | .str x=>some (.inr x)
 | _=>none
abbrev jJ:List I->Option (List aK)
 | []=>some []
 | x::xs=>match dw x,jJ xs with
  | some k,some ks=>some (k::ks)
  | _,_=>none
abbrev jK:I->Option (List aK)
 | .tup xs=>jJ xs
 | _=>none
def lZ{v:V}{x:I}{k:aK}(r:RpI K ι H v x)(h:dw x=some k):v=kV k:=by
 cases r<;>first|(cases h;rfl)|cases h
theorem uM:∀{vs:List V} {xs:List I} {ks:List aK},y57 K ι H vs xs->jJ xs=some ks->vs=ks.map kV
 | [],[],_,.nil,h=>by cases h;rfl
 | v::vs,x::xs,ks,.cons r rs,h=>by
  unfold jJ at h
  split at h
  ·rename_i k ks' h1 h2
   cases h
   rw [z16,lZ r h1,uM rs h2]
  ·cases h
def uN{v:V}{x:I}{ks:List aK}(r:RpI K ι H v x)(h:jK x=some ks):∃b,v=.ref b/\H b=some (.tup (ks.map kV)):=by
 cases r with
 | tup h1 h2=>exact⟨_,rfl,by rw [h1,uM h2 h]⟩
 | _=>cases h
abbrev cc{κ':Type}[DecidableEq κ']:List (κ'×I)->κ'->Option I
 | [],_=>none
 | (g,x)::r,k=>if g=k then some x else cc r k
abbrev gj{κ':Type}[DecidableEq κ'](kvs:List (κ'×I))(k:κ'):Bool:=kvs.any λkv=>decide (kv.1=k)
abbrev cU{κ':Type}[DecidableEq κ'](kvs:List (κ'×I))(k:κ')(d:I):List (κ'×I):=if gj kvs k then kvs.map (λkv=>if kv.1=k then (kv.1,d) else kv) else kvs++[(k,d)]
theorem oQ{κ':Type}[DecidableEq κ']{k:κ'}:∀{ws:List (κ'×V)} {kvs:List (κ'×I)},ws.map (·.1)=kvs.map (·.1)->y57 K ι H (ws.map (·.2)) (kvs.map (·.2)) ->
  (∀d,cc kvs k=some d->∃v,dg ws k=some v/\RpI K ι H v d)/\(cc kvs k=none->dg ws k=none)
 | [],[],_,_=>⟨λd h=>(by cases h),λ_=>rfl⟩
 | [],_::_,e,_=>by cases e
 | _::_,[],e,_=>by cases e
 | (g,v)::ws,(g',x)::kvs,e,r=>by
  simp only [z16,List.cons.injEq] at e
  obtain⟨e1,e2⟩:=e
  subst e1
  cases r with
  | cons r rs =>
   obtain⟨p,q⟩:=oQ e2 rs
   by_cases hg:g=k
   ·rw [kT hg]
    unfold cc
    rw [if_pos hg]
    exact⟨λd h=>(by cases h;exact⟨v,rfl,r⟩),λh=>(by cases h)⟩
   ·rw [kU hg]
    unfold cc
    rw [if_neg hg]
    exact⟨p,q⟩
theorem gk{κ' α β:Type}[DecidableEq κ']{k:κ'}:∀{ws:List (κ'×α)} {kvs:List (κ'×β)},ws.map (·.1)=kvs.map (·.1)->(ws.any λkv=>decide (kv.1=k))=(kvs.any λkv=>decide (kv.1=k))
 | [],[],_=>rfl
 | [],_::_,e=>by cases e
 | _::_,[],e=>by cases e
 | (g,v)::ws,(g',x)::kvs,e=>by
  simp only [z16,List.cons.injEq] at e
  obtain⟨e1,e2⟩:=e
  subst e1
  rw [List.any_cons,List.any_cons,gk e2]
theorem uO{κ':Type}[DecidableEq κ']{k:κ'}{v:V}{d:I}(rv:RpI K ι H v d):∀{ws:List (κ'×V)} {kvs:List (κ'×I)},ws.map (·.1)=kvs.map (·.1)->y57 K ι H (ws.map (·.2)) (kvs.map (·.2)) ->
  (ws.map λkv=>if kv.1=k then (kv.1,v) else kv).map (·.1)=(kvs.map λkv=>if kv.1=k then (kv.1,d) else kv).map (·.1)/\y57 K ι H ((ws.map λkv=>if kv.1=k then (kv.1,v) else kv).map (·.2)) ((kvs.map λkv=>if kv.1=k then (kv.1,d) else kv).map (·.2))
 | [],[],_,_=>⟨rfl,.nil⟩
 | [],_::_,e,_=>by cases e
 | _::_,[],e,_=>by cases e
 | (g,w)::ws,(g',x)::kvs,e,r=>by
  simp only [z16,List.cons.injEq] at e
  obtain⟨e1,e2⟩:=e
  subst e1
  cases r with
  | cons r rs =>
   obtain⟨p,q⟩:=uO rv e2 rs
   by_cases hg:g=k
   ·simp only [z16,if_pos hg]
    exact⟨by rw [p],.cons rv q⟩
   ·simp only [z16,if_neg hg]
    exact⟨by rw [p],.cons r q⟩
def oR{κ':Type}[DecidableEq κ']{k:κ'}{v:V}{d:I}{ws:List (κ'×V)}{kvs:List (κ'×I)}(rv:RpI K ι H v d)(e:ws.map (·.1)=kvs.map (·.1))(r:y57 K ι H (ws.map (·.2)) (kvs.map (·.2))) :
  (cq ws k v).map (·.1)=(cU kvs k d).map (·.1)/\y57 K ι H ((cq ws k v).map (·.2)) ((cU kvs k d).map (·.2)):=by
 unfold cq cU gj
 rw [gk e]
 split
 ·exact uO rv e r
 ·rw [z25,z25,z25,z25,e]
  exact⟨rfl,r.app (.cons rv .nil)⟩
abbrev eN(Z:De)(G:List M)(a:Ev)(x:I):Option (Option I):=match pk Z G a with
 | some (.dic kvs)=>(dw x).map λk=>cc kvs k
 | some (.dit kvs)=>(jK x).map λk=>cc kvs k
 | _=>none
def oS{σ:L2.St}{Z:De}{G:List M}{es:List Ev}{vs:List V}{j j':Nat}{a:Ev}{x:I}{v u:V}{o:Option I}(A:Args K κ ι H σ Z G es vs)(h1:es[j]?=some a)(h2:vs[j]?=some v)(h3:es[j']?=some (.v (.im x)))(h4:vs[j']?=some u)
  (h:eN Z G a x=some o):∃b ov,v=.ref b/\yd H b u ov/\(∀d,o=some d->∃w,ov=some w/\RpI K ι H w d)/\(o=none->ov=none):=by
 have ru:=A.im h3 h4
 unfold eN at h
 split at h
 ·rename_i kvs hp
  obtain⟨b,e1,ws,hw,e2,r⟩:=A.pk h1 h2 hp
  cases hk:dw x with
  | none=>rw [hk] at h;cases h
  | some k =>
   rw [hk] at h
   cases h
   have eu:=lZ ru hk
   subst eu
   obtain⟨p,q⟩:=oQ e2 r
   exact⟨b,_,e1,yd.k hw,p,q⟩
 ·rename_i kvs hp
  obtain⟨b,e1,ws,hw,e2,r⟩:=A.pk h1 h2 hp
  cases hk:jK x with
  | none=>rw [hk] at h;cases h
  | some k =>
   rw [hk] at h
   cases h
   obtain⟨c,eu,hc⟩:=uN ru hk
   subst eu
   obtain⟨p,q⟩:=oQ e2 r
   exact⟨b,_,e1,yd.t hw hc,p,q⟩
 ·cases h
abbrev p5:List Ev->Mo Ev:=λes Z G=>match es with
 | [a,.v (.im x)]=>match eN Z G a x with
  | some (some d)=>some (.v (.im d),Z,G)
  | _=>none
 | _=>none
def Dq:aE K κ (r2 λx y H2 Q=>∃a v,x=.ref a/\yd H2 a y (some v)/\Q v H2) p5:=by
 intro ι H σ Z G es vs e Z' G' Q a h k
 unfold p5 at h
 split at h
 ·split at h
  ·rename_i d hd
   obtain⟨v,u,rfl⟩:=bP a.len
   obtain⟨b,ov,e1,g,p,_⟩:=oS a (j:=0) (j':=1) rfl rfl rfl rfl hd
   obtain⟨w,rfl,rw'⟩:=p d rfl
   exact⟨_,_,rfl,b,w,e1,g,k _ _ _ (bZ h (bt a rw'))⟩
  ·cases h
 ·cases h
abbrev ak:List Ev->Mo Ev:=bX dY p5
def uP{fo fi:Mo Ev}{σ:L2.St}{Q:VK}(h:bF K κ (ah ak fo fi) σ H Q):mL (Be K) (bF K κ fo) (bF K κ fi) σ H Q∨rq (bF K κ fo) (bF K κ fi) σ H Q:=by
 obtain⟨ι,Z,G,e,Z',G',s,eq,k⟩:=h
 obtain⟨x,Z1,G1,e1,eq1⟩:=cD eq
 obtain⟨y,Z2,G2,e2,eq2⟩:=cD eq1
 have eq2:bX dY p5 [x,y] Z2 G2=some (e,Z',G'):=eq2
 unfold bX at eq2
 split at eq2
 ·rename_i z hz
  cases eq2
  refine .inl (gO Dp ⟨ι,Z,G,_,_,_,s,?_,k⟩)
  unfold ah
  rw [mQ e1,mQ e2];exact hz
 ·refine .inr (gO Dq ⟨ι,Z,G,_,_,_,s,?_,k⟩)
  unfold ah
  rw [mQ e1,mQ e2];exact eq2
abbrev il(neg:Bool):List Ev->Mo Ev:=λes Z G=>match es with
 | [.v (.im x),b]=>match sq Z G b with
  | some xs=>if cT x&&xs.all cT then some (.v (.im (.bl (if neg then !(xs.any λy=>b6 y x) else xs.any λy=>b6 y x))),Z,G) else none
  | none=>none
 | _=>none
abbrev eO(neg:Bool):List Ev->Mo Ev:=λes Z G=>match es with
 | [.v (.im x),b]=>match eN Z G b x with
  | some o=>some (.v (.im (.bl (if neg then !o.isSome else o.isSome))),Z,G)
  | none=>none
 | _=>none
def uQ:aE K κ (r2 λy x H2 Q=>∃a o,x=.ref a/\yd H2 a y o/\Q (.bl o.isSome) H2) (eO false):=by
 intro ι H σ Z G es vs e Z' G' Q a h k
 unfold eO at h
 split at h
 ·split at h
  ·rename_i o ho
   obtain⟨v,u,rfl⟩:=bP a.len
   obtain⟨b,ov,e1,g,p,q⟩:=oS a (j:=1) (j':=0) rfl rfl rfl rfl ho
   have:ov.isSome=o.isSome:=by
    cases o with
    | none=>rw [q rfl];rfl
    | some d=>obtain⟨w,rfl,_⟩:=p d rfl;rfl
   refine⟨_,_,rfl,b,ov,e1,g,?_⟩
   rw [this]
   exact k _ _ _ (bZ h (bt a (.bl _)))
  ·cases h
 ·cases h
def Dr:aE K κ (r2 λy x H2 Q=>∃a o,x=.ref a/\yd H2 a y o/\Q (.bl (!o.isSome)) H2) (eO true):=by
 intro ι H σ Z G es vs e Z' G' Q a h k
 unfold eO at h
 split at h
 ·split at h
  ·rename_i o ho
   obtain⟨v,u,rfl⟩:=bP a.len
   obtain⟨b,ov,e1,g,p,q⟩:=oS a (j:=1) (j':=0) rfl rfl rfl rfl ho
   have:ov.isSome=o.isSome:=by
    cases o with
    | none=>rw [q rfl];rfl
    | some d=>obtain⟨w,rfl,_⟩:=p d rfl;rfl
   refine⟨_,_,rfl,b,ov,e1,g,?_⟩
   rw [this]
   exact k _ _ _ (bZ h (bt a (.bl _)))
  ·cases h
 ·cases h
end
section
variable {X:Cx}{κ:Str->Addr}{a b:Expr}{fa fb:Mo Ev}{pos:Pos}{k:Nat}
def Ds(hr:y55 k X.A)(ha:LE X κ a fa)(hb:LE X κ b fb)(hs:ij b:=by exact (λ_ _=>rfl)):LE X κ (.Subscript a b pos) (ah ak fa fb):=.mk (bu (ji (rO Bf ha.pe hb.pe hs) (AL (jw hr) ha.pe hb.pe hs)) λ_ _ _=>uP)
end
end
section
section
variable {X:Cx}{K:W.Frag}{κ:Str->Addr}{ι:List Addr}{H:Hp}
theorem oU{v:V}{x:I}(r:RpI K ι H v x)(hx:cT x=true):∀{vs:List V} {xs:List I},y57 K ι H vs xs->xs.all cT=true->vs.all bJ=true/\(xs.any λy=>b6 y x)=vs.any λy=>gL y v
 | [],[],.nil,_=>⟨rfl,rfl⟩
 | w::vs,y::xs,.cons r' rs,h=>by
  rw [List.all_cons,z24] at h
  obtain⟨p,q⟩:=oU r hx rs h.2
  rw [List.all_cons,List.any_cons,List.any_cons,p,q,uH r' r h.1 hx,fE r' h.1]
  exact⟨rfl,rfl⟩
def uR:aE K κ (r2 (yI K false)) (il false):=by
 intro ι H σ Z G es vs e Z' G' Q a h k
 unfold il at h
 split at h
 ·rename_i x b
  split at h
  ·rename_i xs hx
   split at h
   ·rename_i hf
    rw [z24] at hf
    obtain⟨v,u,rfl⟩:=bP a.len
    obtain⟨p,ys,e1,h1,r⟩:=a.sq (j:=1) rfl rfl hx
    have rx:=a.im (j:=0) rfl rfl
    obtain⟨p1,p2⟩:=oU rx hf.1 r hf.2
    refine⟨_,_,rfl,p,ys,e1,h1,fE rx hf.1,p1,?_⟩
    have:L2.inV v ys=xs.any λy=>b6 y x:=p2.symm
    rw [this]
    exact k _ _ _ (bZ h (bt a (.bl _)))
   ·cases h
  ·cases h
 ·cases h
def Dt:aE K κ (r2 (yI K true)) (il true):=by
 intro ι H σ Z G es vs e Z' G' Q a h k
 unfold il at h
 split at h
 ·rename_i x b
  split at h
  ·rename_i xs hx
   split at h
   ·rename_i hf
    rw [z24] at hf
    obtain⟨v,u,rfl⟩:=bP a.len
    obtain⟨p,ys,e1,h1,r⟩:=a.sq (j:=1) rfl rfl hx
    have rx:=a.im (j:=0) rfl rfl
    obtain⟨p1,p2⟩:=oU rx hf.1 r hf.2
    refine⟨_,_,rfl,p,ys,e1,h1,fE rx hf.1,p1,?_⟩
    have:L2.inV v ys=xs.any λy=>b6 y x:=p2.symm
    rw [this]
    exact k _ _ _ (bZ h (bt a (.bl _)))
   ·cases h
  ·cases h
 ·cases h
abbrev fR:List Ev->Mo Ev:=bX (il false) (eO false)
abbrev dy:List Ev->Mo Ev:=bX (il true) (eO true)
def oV{p p':List Ev->Mo Ev}{r r':R2}{fo fi:Mo Ev}{σ:L2.St}{Q:VK}(h1:aE K κ (r2 r) p)(h2:aE K κ (r2 r') p')(h:bF K κ (ah (bX p p') fo fi) σ H Q):mL r (bF K κ fo) (bF K κ fi) σ H Q∨mL r' (bF K κ fo) (bF K κ fi) σ H Q:=by
 obtain⟨ι,Z,G,e,Z',G',s,eq,k⟩:=h
 obtain⟨x,Z1,G1,e1,eq1⟩:=cD eq
 obtain⟨y,Z2,G2,e2,eq2⟩:=cD eq1
 have eq2:bX p p' [x,y] Z2 G2=some (e,Z',G'):=eq2
 unfold bX at eq2
 split at eq2
 ·rename_i z hz
  cases eq2
  refine .inl (gO h1 ⟨ι,Z,G,_,_,_,s,?_,k⟩)
  unfold ah
  rw [mQ e1,mQ e2];exact hz
 ·refine .inr (gO h2 ⟨ι,Z,G,_,_,_,s,?_,k⟩)
  unfold ah
  rw [mQ e1,mQ e2];exact eq2
end
section
variable {X:Cx}{κ:Str->Addr}{a b:Expr}{fa fb:Mo Ev}{pos:Pos}{k:Nat}
def Du(hr:y55 k X.A)(ha:LE X κ a fa)(hb:LE X κ b fb)(hm:‹behindInMarks .In b=false›):LE X κ (.Compare a [.In] [b] pos) (ah fR fa fb):=.mk (bu (ji (qS rY ha.pe hb.pe hm) (zV (rA (jw hr) ha.pe hb.pe) hm)) λ_ _ _=>oV uR uQ)
def Dv(hr:y55 k X.A)(ha:LE X κ a fa)(hb:LE X κ b fb)(hm:‹behindInMarks .In b=false›):LT X κ (.Compare a [.In] [b] pos) (ao (ah fR fa fb)):=.mk (iK (tZ (kQ rY ha.pe hb.pe hm) (kL (rA (jw hr) ha.pe hb.pe) hm)) λ_ _ _ h=>oV uR uQ (jz h))
def uS(hr:y55 k X.A)(ha:LE X κ a fa)(hb:LE X κ b fb)(hm:‹behindInMarks .NotIn b=false›):LT X κ (.Compare a [.NotIn] [b] pos) (ao (ah dy fa fb)):=.mk (iK (tZ (kQ Bk ha.pe hb.pe hm) (kL (AM (jw hr) ha.pe hb.pe) hm)) λ_ _ _ h=>oV Dt Dr (jz h))
end
section
variable {K:W.Frag}{κ:Str->Addr}
abbrev aQ:List Ev->Mo Ev:=λes Z G=>match es with
 | [a]=>match sq Z G a with
  | some xs=>some (.v (.im (.int xs.length)),Z,G)
  | none=>match a with
   | .v (.im (.str z))=>if z.length≤1000000 then some (.v (.im (.int z.length)),Z,G) else none
   | a=>match pk Z G a with
    | some (.dic kvs)=>some (.v (.im (.int kvs.length)),Z,G)
    | _=>none
 | _=>none
def Dw:aE K κ (λxs H Q=>(∃p ys,xs=[.ref p]/\(bM K H p ys∨br K H p ys)/\Q (.int ys.length) H)∨((∃z,xs=[.str z]/\z.length≤sizeLine/\Q (.int z.length) H)∨(∃a kvs,xs=[V.ref a]/\H a=some (.dK kvs)/\Q (.int kvs.length) H))) aQ:=by
 intro ι H σ Z G es vs e Z' G' Q a h k
 unfold aQ at h
 split at h
 ·rename_i x
  split at h
  ·rename_i xs hx
   obtain⟨v,rfl⟩:=cu a.len
   obtain⟨p,ys,e1,h1,r⟩:=a.sq (j:=0) rfl rfl hx
   subst e1
   exact .inl ⟨p,ys,rfl,h1,by rw [r.len];exact k _ _ _ (bZ h (bt a (.int _)))⟩
  ·split at h
   ·split at h
    ·rename_i hz
     obtain⟨v,rfl⟩:=cu a.len
     cases fA (a.im (j:=0) rfl rfl)
     exact .inr (.inl ⟨_,rfl,z19 hz (by decide),k _ _ _ (bZ h (bt a (.int _)))⟩)
    ·cases h
   ·split at h
    ·rename_i kvs hp
     obtain⟨v,rfl⟩:=cu a.len
     obtain⟨b,e1,ws,hw,e2,r⟩:=a.pk (j:=0) rfl rfl hp
     subst e1
     have e3:kvs.length=ws.length:=by have:=congrArg List.length e2;simpa using this.symm
     exact .inr (.inr ⟨b,ws,rfl,hw,by rw [<- e3];exact k _ _ _ (bZ h (bt a (.int _)))⟩)
    ·cases h
 ·cases h
abbrev cA:List Ev->Mo Ev:=λes Z G=>match es with
 | [.v (.im (.tup xs))]=>some (.v (.im (.tup xs)),Z,G)
 | [.v (.im (.con xs))]=>some (.v (.im (.con xs)),Z,G)
 | [a]=>match sq Z G a with
  | some xs=>some (.v (.im (.tup xs)),Z,G)
  | none=>none
 | _=>none
def uT{ι:List Addr}{H:Hp}{σ:L2.St}{Z:De}{G:List M}{e:Ev}{v:V}{xs:List I}(a:Args K κ ι H σ Z G [e] [v])(h:sq Z G e=some xs)(n1:∀ys,e≠.v (.im (.tup ys)))(n2:∀ys,e≠.v (.im (.con ys))):∃b ys,v=.ref b/\bM K H b ys/\y57 K ι H ys xs:=by
 have y14f:(match B.pk Z G e with|some (.lst xs)=>some xs|_=>none)=some xs->∃b ys,v=.ref b/\bM K H b ys/\y57 K ι H ys xs:=λq=>by
  split at q
  ·rename_i xs' e'
   cases q
   obtain⟨b,e1,ys,h3,r⟩:=a.pk (j:=0) rfl rfl e'
   exact⟨b,ys,e1,bM.of h3,r⟩
  ·cases q
 cases e with
 | s i=>exact y14f h
 | v x =>
  cases x with
  | ow m=>exact y14f h
  | im d =>
   have r:=a.im (j:=0) rfl rfl
   cases r with
   | tup q r=>exact absurd rfl (n1 _)
   | con q r=>exact absurd rfl (n2 _)
   | fro q r=>cases h;exact⟨_,_,rfl,q.sq,r⟩
   | ref q=>exact y14f h
   | non=>exact y14f h
   | bl=>exact y14f h
   | int=>exact y14f h
   | str=>exact y14f h
   | ty=>exact y14f h
def Dx:aE K κ (λxs H Q=>∃p ys,xs=[.ref p]/\((bM K H p ys/\∀l,H l=none->Q (.ref l) (aC H l (.tup ys)))∨(br K H p ys/\Q (.ref p) H))) cA:=by
 intro ι H σ Z G es vs e Z' G' Q a h k
 unfold cA at h
 split at h
 ·obtain⟨v,rfl⟩:=cu a.len
  have r:=a.im (j:=0) rfl rfl
  obtain⟨_,_,rfl,h1,h2⟩:=jx r
  exact⟨_,_,rfl,.inr ⟨br.of h1,k _ _ _ (bZ h (bt a (.tup h1 h2)))⟩⟩
 ·obtain⟨v,rfl⟩:=cu a.len
  have r:=a.im (j:=0) rfl rfl
  obtain⟨_,_,rfl,h1,h2⟩:=sQ r
  exact⟨_,_,rfl,.inr ⟨br.kon h1,k _ _ _ (bZ h (bt a (.con h1 h2)))⟩⟩
 ·rename_i x n1 n2
  split at h
  ·rename_i xs hx
   obtain⟨v,rfl⟩:=cu a.len
   obtain⟨p,ys,e1,h1,r⟩:=uT a hx (λys z=>n1 ys (by rw [z])) (λys z=>n2 ys (by rw [z]))
   subst e1
   exact⟨p,ys,rfl,.inl ⟨h1,λl hl=>k _ _ _ (bZ h (lJ a hl r))⟩⟩
  ·cases h
 ·cases h
abbrev jL:List Ev->Mo Ev:=λes Z G=>match es with
 | [a]=>match sq Z G a with
  | some xs=>some (.v (.ow (.lst xs)),Z,G)
  | none=>none
 | _=>none
def Dy:aE K κ (λxs H Q=>∃p ys,xs=[.ref p]/\(bM K H p ys∨br K H p ys)/\∀l,H l=none->Q (.ref l) (aC H l (.lst ys))) jL:=by
 intro ι H σ Z G es vs e Z' G' Q a h k
 unfold jL at h
 split at h
 ·split at h
  ·rename_i xs hx
   obtain⟨v,rfl⟩:=cu a.len
   obtain⟨p,ys,e1,h1,r⟩:=a.sq (j:=0) rfl rfl hx
   subst e1
   exact⟨p,ys,rfl,h1,λl hl=>k _ _ _ (bZ h (gP a hl r))⟩
  ·cases h
 ·cases h
abbrev gX:List Ev->Mo Ev:=bK λi j=>some (.int (if j>i then j else i))
def Dz{g:Int->Int->Int}:aE K κ (λxs H Q=>∃i j,xs=[.int i,.int j]/\Q (.int (g i j)) H) (bK λi j=>some (.int (g i j))):=by
 intro ι H σ Z G es vs e Z' G' Q a h k
 obtain⟨x,y,e1,i,j,e2,e3,q⟩:=iM (λi j d h ι H=>by cases h;exact .int _) ι H σ Z G es vs e Z' G' Q a h k
 exact⟨i,j,by rw [e1,e2,e3],q⟩
abbrev fF:Ev->Bool
 | .v (.im (.tup _))=>false
 | .v (.im (.con _))=>false
 | _=>true
abbrev iP:List Ev->Mo Ev:=λes Z G=>match es with
 | [a]=>if fF a then match sq Z G a with
  | some xs=>some (.v (.ow (.lst xs.reverse)),Z,G)
  | none=>none
  else none
 | _=>none
def DA:aE K κ (r1 λx H1 Q=>∃l ys,x=.ref l/\bM K H1 l ys/\∀p,H1 p=none->Q (.ref p) (aC H1 p (.lst ys.reverse))) iP:=by
 intro ι H σ Z G es vs e Z' G' Q a h k
 unfold iP at h
 split at h
 ·rename_i x
  split at h
  ·rename_i hl
   split at h
   ·rename_i xs hx
    obtain⟨v,rfl⟩:=cu a.len
    obtain⟨p,ys,e1,h1,r⟩:=uT a hx (λys z=>by subst z;cases hl) (λys z=>by subst z;cases hl)
    subst e1
    exact⟨_,rfl,p,ys,rfl,h1,λl hl=>k _ _ _ (bZ h (gP a hl r.rev))⟩
   ·cases h
  ·cases h
 ·cases h
end
section
variable {X:Cx}{κ:Str->Addr}{a b e:Expr}{es:List Expr}{fa fb:Mo Ev}{fs:Mo (List Ev)}{p pos:Pos}{k:Nat}
def uU(hr:y55 k X.A)(hm:X.mg "len" = none)(ha:LA X κ (e::es) fs)(hg:‹Gl X "len"›)(he:‹gJ X e es›)(hpl:‹gC X pos es›):LE X κ (.Call (.Name "len" p) (e::es) [] pos) (bd fs aQ):=.mk (bu (jo (yac.or (yad.or yab)) hg hm PySem.boot_len ha.pe (by decide) (by decide) he hpl) λ_ _ _ q=>gc Dw q)
def DB(hr:y55 k X.A)(hm:X.mg "tuple" = none)(ha:LA X κ (e::es) fs)(hg:‹Gl X "tuple"›)(he:‹gJ X e es›)(hpl:‹gC X pos es›):LE X κ (.Call (.Name "tuple" p) (e::es) [] pos) (bd fs cA):=.mk (bu (nL yb1 hg hm PyProof.Rows.boot_tuple ha.pe (by decide) (by decide) he hpl) λ_ _ _ q=>gc Dx q)
def DD(hr:y55 k X.A)(hm:X.mg "list" = none)(ha:LA X κ (e::es) fs)(hg:‹Gl X "list"›)(he:‹gJ X e es›)(hpl:‹gC X pos es›):LE X κ (.Call (.Name "list" p) (e::es) [] pos) (bd fs jL):=.mk (bu (nL yae hg hm PyProof.Rows.boot_list ha.pe (by decide) (by decide) he hpl) λ_ _ _ q=>gc Dy q)
def DE(hr:y55 k X.A)(hm:X.mg "max" = none)(ha:LA X κ (e::es) fs)(hg:‹Gl X "max"›)(hc:‹X.calm=true›)(he:‹gJ X e es›)(hpl:‹gC X pos es›):LE X κ (.Call (.Name "max" p) (e::es) [] pos) (bd fs gX):=.mk (bu (jo (yb0 hc) hg hm PyProof.Rows.boot_max ha.pe (by decide) (by decide) he hpl) λ_ _ _ q=>gc Dz q)
def DF(hl:X.mg "list" = none)(hv:X.mg "reversed" = none)(h:LE X κ e fa)(hc:‹X.calm=true›)(gl:‹Gl X "list"›)(gr:‹Gl X "reversed"›)(hs1:‹starEach [e] X.env=[(false,eval e X.env)]›)
  (hs2:‹starEach [.Call (.Name "reversed" p2) [e] [] q2] X.env=[(false,eval (.Call (.Name "reversed" p2) [e] [] q2) X.env)]›):LE X κ (.Call (.Name "list" p1) [.Call (.Name "reversed" p2) [e] [] q2] [] q1) (cZ iP fa):=.mk (bu (BD hc gl hl gr hv h.pe hs1 hs2) λ_ _ _ q=>lI DA q)
end
end
section
section
variable {X:Cx}{K:W.Frag}{κ:Str->Addr}{ι:List Addr}{H:Hp}{σ:L2.St}
abbrev a6:Mo (List Ev):=rt []
abbrev aX(f:Mo Ev):Mo (List Ev):=one f
abbrev l6:List Ev->Option (Option Int)
 | []=>some none
 | [.v (.im (.int i))]=>some (some i)
 | _=>none
abbrev p6(K:W.Frag)(κ:Str->Addr)(f:Mo (List Ev)):TO:=λσ H Q=>∃ι Z G es o Z' G',SR K κ ι H σ Z G/\f Z G=some (es,Z',G')/\l6 es=some o/\∀vs ι' H',After K κ σ ι (own σ Z++ι) H es Z' G' vs ι' H'->Q o H'
def DH:PO X none (p6 X.K κ a6):=λpins s σ H Q I h=>nO pins s σ H Q I (by
 obtain⟨ι,Z,G,es,o,Z',G',s,e,p,k⟩:=h
 cases e;cases p
 exact k _ _ _ (After.nil s))
def DI (h:LE X κ e f):PO X (some e) (p6 X.K κ (aX f)):=λpins s σ H Q I q=>rK h.pe pins s σ H Q I (by
 obtain⟨ι,Z,G,es,o,Z',G',s,e,p,k⟩:=q
 obtain⟨x,Z1,G1,e1,e2⟩:=cD e
 cases e2
 refine⟨ι,Z,G,x,_,_,s,e1,λv ι1 H1 a=>?_⟩
 unfold l6 at p
 split at p
 ·rename_i hq;cases hq
 ·rename_i i hq
  cases p
  cases hq
  have r:=a.ar.im (j:=0) rfl rfl
  cases dX (r)
  exact⟨i,rfl,k _ _ _ a⟩
 ·cases p)
abbrev dz(xs:List I)(lo hi:Option Int):List I:=(xs.drop (HT.sIx xs.length 0 lo)).take (HT.sIx xs.length xs.length hi-HT.sIx xs.length 0 lo)
def y57.cut{vs:List V}{xs:List I}(r:y57 K ι H vs xs)(lo hi:Option Int):y57 K ι H (jt vs lo hi) (dz xs lo hi):=by
 unfold jt dz
 rw [r.len]
 exact (r.drop _).take _
abbrev gY(lo hi:Option Int):List Ev->Mo Ev:=λes Z G=>match es with
 | .v (.im (.tup xs))::_=>some (.v (.im (.tup (dz xs lo hi))),Z,G)
 | .v (.im (.str z))::_=>if z.length≤1000000 then some (.v (.im (.str (Txt.slice z lo hi))),Z,G) else none
 | a::_=>if fF a then match sq Z G a with
  | some xs=>some (.v (.ow (.lst (dz xs lo hi))),Z,G)
  | none=>none
  else none
 | _=>none
abbrev a8(fe:Mo Ev)(fl fh:Mo (List Ev)):Mo Ev:=bd fe λx=>bd fl λls=>bd fh λhs=>λZ G=>match l6 ls,l6 hs with
 | some lo,some hi=>gY lo hi (x::(ls++hs)) Z G
 | _,_=>none
def uV{Z:De}{G:List M}{e:Ev}{es:List Ev}{v:V}{vs:List V}{xs:List I}(a:Args K κ ι H σ Z G (e::es) (v::vs))(h:sq Z G e=some xs)(n:fF e=true):∃b ys,v=.ref b/\bM K H b ys/\y57 K ι H ys xs:=by
 have y14f:(match B.pk Z G e with|some (.lst xs)=>some xs|_=>none)=some xs->∃b ys,v=.ref b/\bM K H b ys/\y57 K ι H ys xs:=λq=>by
  split at q
  ·rename_i xs' e'
   cases q
   obtain⟨b,e1,ys,h3,r⟩:=a.pk (j:=0) rfl rfl e'
   exact⟨b,ys,e1,bM.of h3,r⟩
  ·cases q
 cases e with
 | s i=>exact y14f h
 | v x =>
  cases x with
  | ow m=>exact y14f h
  | im d =>
   have r:=a.im (j:=0) rfl rfl
   cases r with
   | tup q r=>cases n
   | con q r=>cases n
   | fro q r=>cases h;exact⟨_,_,rfl,q.sq,r⟩
   | ref q=>exact y14f h
   | non=>exact y14f h
   | bl=>exact y14f h
   | int=>exact y14f h
   | str=>exact y14f h
   | ty=>exact y14f h
abbrev DJ(K:W.Frag):V->Option Int->Option Int->Hp->VK->Prop:=λx lo hi H Q=>rT K x lo hi H Q∨(sN x lo hi H Q∨sG x lo hi H Q)
def DK{fe:Mo Ev}{fl fh:Mo (List Ev)}{Q:VK}(h:bF K κ (a8 fe fl fh) σ H Q):tSl (DJ K) (bF K κ fe) (p6 K κ fl) (p6 K κ fh) σ H Q:=by
 obtain⟨ι,Z,G,e,Z',G',s,eq,k⟩:=h
 obtain⟨x,Z1,G1,e1,eq1⟩:=cD eq
 obtain⟨ls,Z2,G2,e2,eq2⟩:=cD eq1
 obtain⟨hs,Z3,G3,e3,eq3⟩:=cD eq2
 split at eq3
 ·rename_i lo hi hlo hhi
  refine⟨ι,Z,G,x,Z1,G1,s,e1,λv ι1 H1 a1=>?_⟩
  refine⟨ι1,Z1,G1,ls,lo,Z2,G2,a1.ar.base,e2,hlo,λvs ι2 H2 a2=>?_⟩
  refine⟨ι2,Z2,G2,hs,hi,Z3,G3,a2.ar.base,e3,hhi,λws ι3 H3 a3=>?_⟩
  have a23:=a2.app a3
  have a:=a1.app a23
  have fin:∀{v':V} {ι':List Addr} {H':Hp},After K κ σ ι3 (own (σ++tS ([x]++(ls++hs)) ([v]++(vs++ws))) (Z3++tD ([x]++(ls++hs)))++ι3) H3 [e] Z' G' [v'] ι' H'->Q v' H':=λb=>k _ _ _ (a.then b)
  have ar:Args K κ ι3 H3 σ Z3 G3 (x::(ls++hs)) (v::(vs++ws)):=a.ar
  unfold gY at eq3
  split at eq3
  ·rename_i xs aG hq
   cases hq
   have r:=ar.im (j:=0) rfl rfl
   obtain⟨_,_,rfl,h1,h2⟩:=jx r
   refine .inr (.inl ⟨_,_,rfl,h1,λb H' hb kp=>?_⟩)
   exact fin (bZ eq3 (sY a.ar kp (.tup hb ((h2.cut lo hi).mono (cb.refl _) (Kp.same kp)))))
  ·rename_i z aG hq
   cases hq
   split at eq3
   ·rename_i hz
    cases fA (ar.im (j:=0) rfl rfl)
    exact .inr (.inr ⟨z,rfl,z19 hz (by decide),fin (bZ eq3 (bt a.ar (.str _)))⟩)
   ·cases eq3
  ·rename_i a0 aG _ _ hq
   cases hq
   split at eq3
   ·rename_i hn
    split at eq3
    ·rename_i xs hx
     obtain⟨b,ys,e4,h1,r⟩:=uV ar hx hn
     exact .inl ⟨b,ys,e4,h1,λp hp=>fin (bZ eq3 (gP a.ar hp (r.cut lo hi)))⟩
    ·cases eq3
   ·cases eq3
  ·cases eq3
 ·cases eq3
abbrev dN:List Ev->Mo Ev:=λes Z G=>match es with
 | [.v (.im (.tup xs))]=>some (.v (.im (.tup xs.reverse)),Z,G)
 | [a]=>if fF a then match sq Z G a with
  | some xs=>some (.v (.ow (.lst xs.reverse)),Z,G)
  | none=>none
  else none
 | _=>none
def nV(xs:List V):fY xs none none (some (-1))=xs.reverse:=by
 obtain⟨h1,h2⟩:=BW xs
 refine List.ext_getElem? λj=>?_
 by_cases hj:j<xs.length
 ·rw [h2 j hj,List.getElem?_reverse hj]
 ·rw [List.getElem?_eq_none_iff.mpr (by lia),List.getElem?_eq_none_iff.mpr (by rw [z30];lia)]
def DL{fe:Mo Ev}{tk:TO}{Q:VK}(htk:∀σ H Q,Q (some (-1)) H->tk σ H Q)(h:bF K κ (cZ dN fe) σ H Q):sL K (bF K κ fe) σ H Q∨sO K (bF K κ fe) nN nN tk σ H Q:=by
 obtain⟨ι,Z,G,e,Z',G',s,eq,k⟩:=h
 obtain⟨x,Z1,G1,e1,eq1⟩:=cD eq
 unfold dN at eq1
 split at eq1
 ·rename_i xs hq
  cases hq
  refine .inl ⟨ι,Z,G,_,_,_,s,e1,λv ι1 H1 a=>?_⟩
  have r:=a.ar.im (j:=0) rfl rfl
  obtain⟨_,_,rfl,h1,h2⟩:=jx r
  exact⟨_,_,rfl,br.of h1,λp hp=>k _ _ _ (bZ eq1 (a.then (lJ a.ar hp h2.rev)))⟩
 ·rename_i a0 _ hq
  cases hq
  split at eq1
  ·rename_i hn
   split at eq1
   ·rename_i xs hx
    refine .inr ⟨ι,Z,G,_,_,_,s,e1,λv ι1 H1 a=>?_⟩
    refine htk _ _ _ ?_
    obtain⟨b,ys,e6,h1,r⟩:=uV a.ar hx hn
    refine⟨b,ys,e6,h1,(by decide),λp hp=>?_⟩
    rw [nV]
    exact k _ _ _ (bZ eq1 (a.then (gP a.ar hp r.rev)))
   ·cases eq1
  ·cases eq1
 ·cases eq1
end
section
variable {X:Cx}{κ:Str->Addr}{a b e st:Expr}{fa fb:Mo Ev}{fl fh:Mo (List Ev)}{lo hi:Option Expr}{pos p2:Pos}{k:Nat}
def uW(h:LE X κ e fa)(hl:PO X lo (p6 X.K κ fl))(hh:PO X hi (p6 X.K κ fh)):LE X κ (.Subscript e (.Slice lo hi none p2) pos) (a8 fa fl fh):=.mk (bu (AX (Bj.or (BR.or BG)) h.pe hl hh) λ_ _ _=>DK)
def uX{pu pc:Pos}{j}(h:LE X κ e fa):LE X κ (.Subscript e (.Slice none none (some (.UnaryOp .USub (.Constant (.int 1) j pc) pu)) p2) pos) (cZ dN fa):=.mk (bu (ji (BO h.pe (nF nI nk) λ_ _ _ q=>⟨1,rfl,q⟩) (BS h.pe nO nO (nF nI nk))) λ_ _ _ q=>DL (λ_ _ _ q=>⟨1,rfl,⟨_,rfl,q⟩⟩) q)
end
end
section
section
variable {X:Cx}{K:W.Frag}{κ:Str->Addr}{ι:List Addr}{H:Hp}{σ:L2.St}
abbrev gm(Z:De)(G:List M)(e:Ev):Bool:=match pk Z G e with
 | some (.lst _)=>true
 | _=>false
abbrev gn(p:List Ev->Mo Ev)(fo:Mo Ev)(fa:Mo (List Ev)):Mo Ev:=bd fo λe=>λZ G=>if gm Z G e then bd fa (λes=>p (e::es)) Z G else none
abbrev rM(r:V->List V->Hp->VK->Prop):List V->Hp->VK->Prop:=λvs H Q=>∃x xs,vs=x::xs/\r x xs H Q
def uY{Z:De}{G:List M}{e:Ev}{v:V}{fp:List Addr}{H0:Hp}{ι0:List Addr}(a:After K κ σ ι0 fp H0 [e] Z G [v] ι H)(h:gm Z G e=true):yJ K "list" v H:=by
 unfold gm at h
 split at h
 ·rename_i xs hp
  obtain⟨b,e1,ys,h1,r⟩:=a.ar.pk (j:=0) rfl rfl hp
  subst e1
  exact .inl ⟨rfl,ys,bM.of h1⟩
 ·cases h
def uZ{p:List Ev->Mo Ev}{fo:Mo Ev}{fa:Mo (List Ev)}{r:V->List V->Hp->VK->Prop}{Q:VK}(hp:aE K κ (rM r) p)(h:bF K κ (gn p fo fa) σ H Q):Bl K "list" r (bF K κ fo) (gb K κ fa) σ H Q:=by
 obtain⟨ι,Z,G,e,Z',G',s,eq,k⟩:=h
 obtain⟨x,Z1,G1,e1,eq1⟩:=cD eq
 split at eq1
 ·rename_i hl
  obtain⟨es,Z2,G2,e2,eq2⟩:=cD eq1
  refine⟨ι,Z,G,x,Z1,G1,s,e1,λv ι1 H1 a1=>⟨uY a1 hl,?_⟩⟩
  refine⟨ι1,Z1,G1,es,Z2,G2,a1.ar.base,e2,λvs ι2 H2 a2=>?_⟩
  have a:=a1.app a2
  obtain⟨y,ys,ey,q⟩:=hp _ _ _ _ _ _ _ _ _ _ Q a.ar eq2 λv ι3 H3 d=>k _ _ _ (a.then d)
  cases ey
  exact q
 ·cases eq1
def DM{p:List Ev->Mo Ev}{fo:Mo Ev}{r:V->List V->Hp->VK->Prop}{Q:VK}(hp:aE K κ (rM r) p)(hl:∀e Z G z,p [e] Z G=some z->gm Z G e=true)(h:bF K κ (cZ p fo) σ H Q):se K "list" r (bF K κ fo) σ H Q:=by
 obtain⟨ι,Z,G,e,Z',G',s,eq,k⟩:=h
 obtain⟨x,Z1,G1,e1,eq1⟩:=cD eq
 refine⟨ι,Z,G,x,Z1,G1,s,e1,λv ι1 H1 a1=>⟨uY a1 (hl _ _ _ _ eq1),?_⟩⟩
 obtain⟨y,ys,ey,q⟩:=hp _ _ _ _ _ _ _ _ _ _ Q a1.ar eq1 λv ι3 H3 d=>k _ _ _ (a1.then d)
 cases ey
 exact q
abbrev ip:List Ev->Mo Ev:=λes Z G=>match es with
 | [a,.v (.im d)]=>match pk Z G a with
  | some (.lst xs)=>if xs.length<1000000 then some (.v (.im .non),(ik Z G (.lst (xs++[d])) a).1,(ik Z G (.lst (xs++[d])) a).2) else none
  | _=>none
 | _=>none
def DN:aE K κ (rM sf) ip:=by
 intro ι H σ Z G es vs e Z' G' Q a h k
 unfold ip at h
 split at h
 ·rename_i x d
  split at h
  ·rename_i xs hx
   split at h
   ·rename_i hl
    obtain⟨v,u,rfl⟩:=bP a.len
    obtain⟨b,e1,ys,h1,r⟩:=a.pk (j:=0) rfl rfl hx
    subst e1
    have ru:=a.im (j:=1) rfl rfl
    have l1:=r.len
    refine⟨_,_,rfl,b,ys,u,rfl,rfl,h1,z1b (by lia) (show 1000000≤sizeLine by decide),k _ _ _ (bZ h (lK a (j:=0) rfl rfl hx (λ_ kp=>⟨_,a9,(r.app (.cons ru .nil)).mono (cb.refl _) kp⟩) .non))⟩
   ·cases h
  ·cases h
 ·cases h
noncomputable def fG:List Ev->Mo Ev:=λes Z G=>match es with
 | [a,b]=>match pk Z G a,sq Z G b with
  | some (.lst xs),some ys=>if xs.length+ys.length≤1000000/\notC b then some (.v (.im .non),(ik Z G (.lst (xs++ys)) a).1,(ik Z G (.lst (xs++ys)) a).2) else none
  | _,_=>none
 | _=>none
where notC:Ev->Bool
 | .v (.im (.fro _))=>false
 | _=>true
def DO:aE K κ (rM λx xs H Q=>sj x xs H Q∨sM K x xs H Q) fG:=by
 intro ι H σ Z G es vs e Z' G' Q a h k
 unfold fG at h
 split at h
 ·rename_i x y
  split at h
  ·rename_i xs ys hx hy
   split at h
   ·rename_i hl
    obtain⟨v,u,rfl⟩:=bP a.len
    obtain⟨b,e1,zs,h1,r⟩:=a.pk (j:=0) rfl rfl hx
    subst e1
    have l1:=r.len
    have ty:(∃c ws,u=.ref c/\H c=some (.lst ws)/\y57 K ι H ws ys)∨(∃c ws,u=.ref c/\br K H c ws/\y57 K ι H ws ys):=by
     have y14f:(match B.pk Z G y with|some (.lst xs)=>some xs|_=>none)=some ys->∃c ws,u=.ref c/\H c=some (.lst ws)/\y57 K ι H ws ys:=λq=>by
      split at q
      ·rename_i xs' e'
       cases q
       obtain⟨b,e1,ws,h3,r⟩:=a.pk (j:=1) rfl rfl e'
       exact⟨b,ws,e1,h3,r⟩
      ·cases q
     cases y with
     | s i=>exact .inl (y14f hy)
     | v z =>
      cases z with
      | ow m=>exact .inl (y14f hy)
      | im d =>
       have r:=a.im (j:=1) rfl rfl
       cases r with
       | tup q r=>cases hy;exact .inr ⟨_,_,rfl,br.of q,r⟩
       | con q r=>cases hy;exact .inr ⟨_,_,rfl,br.kon q,r⟩
       | fro q r=>cases hl.2
       | ref q=>exact .inl (y14f hy)
       | non=>exact .inl (y14f hy)
       | bl=>exact .inl (y14f hy)
       | int=>exact .inl (y14f hy)
       | str=>exact .inl (y14f hy)
       | ty=>exact .inl (y14f hy)
    have fin:∀{ws:List V},y57 K ι H ws ys->Q .non (aC H b (.lst (zs++ws))):=λrw'=>k _ _ _ (bZ h (lK a (j:=0) rfl rfl hx (λ_ kp=>⟨_,a9,(r.app rw').mono (cb.refl _) kp⟩) .non))
    rcases ty with⟨c,ws,rfl,hc,r2⟩| ⟨c,ws,rfl,hc,r2⟩
    ·have l2:=r2.len
     exact⟨_,_,rfl,.inl ⟨b,c,zs,ws,rfl,rfl,h1,hc,z19 (by lia) (show 1000000≤sizeLine by decide),fin r2⟩⟩
    ·have l2:=r2.len
     exact⟨_,_,rfl,.inr ⟨b,c,zs,ws,rfl,rfl,h1,hc,z19 (by lia) (show 1000000≤sizeLine by decide),fin r2⟩⟩
   ·cases h
  ·cases h
 ·cases h
abbrev fH:List Ev->Mo Ev:=λes Z G=>match es with
 | [a]=>match pk Z G a with
  | some (.lst xs)=>match xs[xs.length-1]? with
   | some d=>some (.v (.im d),(ik Z G (.lst xs.dropLast) a).1,(ik Z G (.lst xs.dropLast) a).2)
   | none=>none
  | _=>none
 | _=>none
theorem y57.dropLast{vs:List V}{xs:List I}(r:y57 K ι H vs xs):y57 K ι H vs.dropLast xs.dropLast:=by
 rw [List.dropLast_eq_take,List.dropLast_eq_take,r.len]
 exact r.take _
def DP:aE K κ (rM sk) fH:=by
 intro ι H σ Z G es vs e Z' G' Q a h k
 unfold fH at h
 split at h
 ·rename_i x
  split at h
  ·rename_i xs hx
   split at h
   ·rename_i d hd
    obtain⟨v,rfl⟩:=cu a.len
    obtain⟨b,e1,ys,h1,r⟩:=a.pk (j:=0) rfl rfl hx
    subst e1
    obtain⟨w,hw,rw'⟩:=r.get hd
    refine⟨_,_,rfl,b,ys,w,rfl,rfl,h1,by rw [r.len];exact hw,k _ _ _ (bZ h (lK a (j:=0) rfl rfl hx (λ_ kp=>⟨_,a9,r.dropLast.mono (cb.refl _) kp⟩) rw'))⟩
   ·cases h
  ·cases h
 ·cases h
def DQ(e:Ev)(Z:De)(G:List M)(z:Ev×De×List M)(h:fH [e] Z G=some z):gm Z G e=true:=by
 unfold fH at h
 dsimp only at h
 unfold gm
 split at h
 ·rfl
 ·cases h
abbrev l7:List Ev->De->List M->Option (De×List M):=λes Z G=>match es with
 | [.v (.im d),a,.v (.im x)]=>match pk Z G a with
  | some (.lst xs)=>match x with
   | .int i=>match gD xs.length i with
    | some j=>some (ik Z G (.lst (xs.set j d)) a)
    | none=>none
   | _=>none
  | some (.dic kvs)=>match dw x with
   | some k=>if kvs.length<1000000 then some (ik Z G (.dic (cU kvs k d)) a) else none
   | none=>none
  | some (.dit kvs)=>match jK x with
   | some k=>if kvs.length<1000000 then some (ik Z G (.dit (cU kvs k d)) a) else none
   | none=>none
  | _=>none
 | _=>none
abbrev cO(fo fi fv:Mo Ev):SF:=λZ G=>match bd fv (λv=>bd fo λo=>bd fi λi=>rt [v,o,i]) Z G with
 | some (es,Z1,G1)=>match l7 es Z1 G1 with
  | some (Z2,G2)=>some (.nx Z2 G2)
  | none=>none
 | none=>none
def DR{fo fi fv:Mo Ev}{D:Ends}(h:dk K κ (cO fo fi fv) D σ H):fV (bF K κ fv) (qD (bF K κ fo) (bF K κ fi) rS) D σ H∨rz (bF K κ fo) (bF K κ fi) (bF K κ fv) D σ H:=by
 obtain⟨ι,Z,G,fl,s,eq,k⟩:=h
 unfold cO at eq
 split at eq
 ·rename_i es Ze Ge ee
  obtain⟨v,Z1,G1,e1,ee⟩:=cD ee
  obtain⟨o,Z2,G2,e2,ee⟩:=cD ee
  obtain⟨i,Z3,G3,e3,ee⟩:=cD ee
  cases ee
  split at eq
  ·rename_i Z4 G4 e4
   cases eq
   have go:∀{vv ov iv:V} {ι3:List Addr} {H3:Hp},After K κ σ ι (own σ Z++ι) H [v,o,i] Ze Ge [vv,ov,iv] ι3 H3 ->
     (∃p xs kk j,ov=.ref p/\iv=.int kk/\H3 p=some (.lst xs)/\gD xs.length kk=some j/\D.nx σ (aC H3 p (.lst (xs.set j vv))))∨(∃a H4,ov=.ref a/\ye H3 a iv vv H4/\D.nx σ H4):=λ{vv ov iv ι3 H3} a=>by
    unfold l7 at e4
    split at e4
    ·rename_i d a0 x hq
     cases hq
     have rv:=a.ar.im (j:=0) rfl rfl
     have rx:=a.ar.im (j:=2) rfl rfl
     have nxt:∀{m m':M} {b:Addr} {ob:HO},sS m=false->pk Ze Ge o=some m->ov=.ref b->(dq K κ ι3 H3 b m->Kp H3 (aC H3 b ob)->dq K κ ι3 (aC H3 b ob) b m')->(ik Ze Ge m' o=(Z4,G4))->D.nx σ (aC H3 b ob):=λhf hp eo hr he=>by
      subst eo
      have f:=lK a.ar (j:=1) rfl rfl hp hr (RpI.non) hf
      obtain⟨p,q⟩:=(a.then f).drop
      rw [he] at p q
      exact k _ _ _ p q
     split at e4
     ·rename_i xs hp
      cases rx with
      | int kk =>
       dsimp only at e4
       split at e4
       ·rename_i j hj
        obtain⟨b,eb,ys,h1,r⟩:=a.ar.pk (j:=1) rfl rfl hp
        have l:=r.len
        exact .inl ⟨b,ys,kk,j,eb,rfl,h1,by rw [l];exact hj,nxt (m':=.lst (xs.set j d)) rfl hp eb (λ_ kp=>⟨_,a9,(r.set j rv).mono (cb.refl _) kp⟩) (z1e e4)⟩
       ·cases e4
      | _=>cases e4
     ·rename_i kvs hp
      split at e4
      ·rename_i kk hk
       split at e4
       ·rename_i hl
        obtain⟨b,eb,ws,h1,h2,r⟩:=a.ar.pk (j:=1) rfl rfl hp
        have ek:=lZ rx hk
        subst ek
        have l:ws.length=kvs.length:=by have:=congrArg List.length h2;simpa using this
        refine .inr ⟨b,_,eb,ye.k h1 (z1b (by lia) (show 1000000≤sizeLine by decide)),nxt rfl hp eb (λ_ kp=>?_) (z1e e4)⟩
        obtain⟨p,q⟩:=oR rv h2 r
        exact⟨_,a9,p,q.mono (cb.refl _) kp⟩
       ·cases e4
      ·cases e4
     ·rename_i kvs hp
      split at e4
      ·rename_i kk hk
       split at e4
       ·rename_i hl
        obtain⟨b,eb,ws,h1,h2,r⟩:=a.ar.pk (j:=1) rfl rfl hp
        obtain⟨c,ek,hc⟩:=uN rx hk
        subst ek
        have l:ws.length=kvs.length:=by have:=congrArg List.length h2;simpa using this
        refine .inr ⟨b,_,eb,ye.t h1 hc (z1b (by lia) (show 1000000≤sizeLine by decide)),nxt rfl hp eb (λ_ kp=>?_) (z1e e4)⟩
        obtain⟨p,q⟩:=oR (k:=kk) rv h2 r
        exact⟨_,a9,p,q.mono (cb.refl _) kp⟩
       ·cases e4
      ·cases e4
     ·cases e4
    ·cases e4
   by_cases hl:∃xs,pk Ze Ge o=some (.lst xs)
   ·left
    refine⟨ι,Z,G,v,Z1,G1,s,e1,λvv ι1 H1 a1=>?_⟩
    refine⟨ι1,Z1,G1,o,Z2,G2,a1.ar.base,e2,λov ι2 H2 a2=>?_⟩
    refine⟨ι2,Z2,G2,i,_,_,a2.ar.base,e3,λiv ι3 H3 a3=>?_⟩
    have a:=a1.app (a2.app a3)
    rcases go a with q|⟨a',H4,ea,dp,q⟩
    ·exact q
    ·exfalso
     obtain⟨xs,hx⟩:=hl
     obtain⟨b,eb,ys,h1,r⟩:=a.ar.pk (j:=1) rfl rfl hx
     rw [ea] at eb;cases eb
     rcases dp with⟨_,_,h2,_⟩| ⟨_,_,_,h2,_⟩<;>(rw [h1] at h2;cases h2)
   ·right
    refine⟨ι,Z,G,v,Z1,G1,s,e1,λvv ι1 H1 a1=>?_⟩
    refine⟨ι1,Z1,G1,o,Z2,G2,a1.ar.base,e2,λov ι2 H2 a2=>?_⟩
    refine⟨ι2,Z2,G2,i,_,_,a2.ar.base,e3,λiv ι3 H3 a3=>?_⟩
    have a:=a1.app (a2.app a3)
    rcases go a with⟨p,xs,kk,j,eo,_,h1,_,_⟩| q
    ·exfalso
     unfold l7 at e4
     split at e4
     ·rename_i d a0 x hq
      cases hq
      split at e4
      ·rename_i ys hp;exact hl ⟨ys,hp⟩
      ·rename_i kvs hp
       obtain⟨b,eb,ws,h2,_⟩:=a.ar.pk (j:=1) rfl rfl hp
       rw [eo] at eb;cases eb
       rw [h1] at h2;cases h2
      ·rename_i kvs hp
       obtain⟨b,eb,ws,h2,_⟩:=a.ar.pk (j:=1) rfl rfl hp
       rw [eo] at eb;cases eb
       rw [h1] at h2;cases h2
      ·cases e4
     ·cases e4
    ·exact q
  ·cases eq
 ·cases eq
end
section
variable {X:Cx}{κ:Str->Addr}{a b e o:Expr}{es:List Expr}{fa fb fv:Mo Ev}{fs:Mo (List Ev)}{pos apos yd1 pos':Pos}{k:Nat}
def DS(hr:y55 k X.A)(ho:LE X κ o fa)(ha:LA X κ (e::es) fs)(y187:‹attributeBase o "append" X.env (eval o X.env)=eval o X.env›)
  (y18f:‹((backTo yd1 (starEach (e::es) X.env)).all (λx=>!x.1)&&(backToKw yd1 (keywordEach [] X.env)).all (λx=>x.1.isSome)&&decide ((e::es).length+([]:List Keyword).length+(if ([]:List Keyword).isEmpty then 0 else 1)<30))=true›)
  (y194:‹(apos.endLine == yd1.line)=true›) (hs:‹starEach (e::es) X.env=(false,eval e X.env)::starEach es X.env›) (y196:‹(backTo yd1 (starEach es X.env)).any (·.1)=false›):LE X κ (.Call (.Attribute o "append" apos) (e::es) [] yd1) (gn ip fa fs):=.mk (bu (nP PySem.F.plainAttrs_list PySem.F.slot_list_append PySem.F.type_list_append si ho.pe ha.pe y187 y18f y194 hs y196) λ_ _ _=>uZ DN)
def DT(hr:y55 k X.A)(ho:LE X κ o fa)(ha:LA X κ (e::es) fs)(y187:‹attributeBase o "extend" X.env (eval o X.env)=eval o X.env›)
  (y18f:‹((backTo yd1 (starEach (e::es) X.env)).all (λx=>!x.1)&&(backToKw yd1 (keywordEach [] X.env)).all (λx=>x.1.isSome)&&decide ((e::es).length+([]:List Keyword).length+(if ([]:List Keyword).isEmpty then 0 else 1)<30))=true›)
  (y194:‹(apos.endLine == yd1.line)=true›) (hs:‹starEach (e::es) X.env=(false,eval e X.env)::starEach es X.env›) (y196:‹(backTo yd1 (starEach es X.env)).any (·.1)=false›):LE X κ (.Call (.Attribute o "extend" apos) (e::es) [] yd1) (gn fG fa fs):=.mk (bu (nP PySem.F.plainAttrs_list PySem.F.slot_list_extend PySem.F.type_list_extend (mM.or Bp BP) ho.pe ha.pe y187 y18f y194 hs y196) λ_ _ _=>uZ DO)
def DU(ho:LE X κ o fa)(y187:‹attributeBase o "pop" X.env (eval o X.env)=eval o X.env›)(y194:‹(apos.endLine == yd1.line)=true›):LE X κ (.Call (.Attribute o "pop" apos) [] [] yd1) (cZ fH fa):=.mk (bu (Bm PySem.F.plainAttrs_list PySem.F.slot_list_pop PySem.F.type_list_pop Bq ho.pe y187 y194) λ_ _ _=>DM DP DQ)
def u3(hr:y55 k X.A)(ho:LE X κ o fa)(hi:LE X κ e fb)(hv:LE X κ a fv)(hs:‹swapsWith a (some (.Subscript o e pos')) pos.line X.env=pure false›)(hs1:‹swapsWithSole [.Subscript o e pos'] a pos.line X.env=pure false›)
  (hw:‹swappedStores [.Subscript o e pos'] a X.env=pure none›) (h1:‹(assignEach [.Subscript o e pos'] X.env).map (·.2)=[assign (.Subscript o e pos') X.env]›)
  (ha:∀v,assign (.Subscript o e pos') X.env v=(do
   let ov <- holding [v] (eval o X.env)
   let iv <- holding [v,ov] (eval e X.env)
   standAt pos'
   holding [v,ov,iv] (setItem ov iv v)
   release [v,ov,iv] []):=by intro _;rfl):LS X κ (.Assign [.Subscript o e pos'] a pos) (cO fa fb fv):=.mk (c7 (t4 (fW hv.pe (Aa ho.pe hi.pe ju ha) hs1 hw h1) (AN (jw hr) ho.pe hi.pe hv.pe hs)) λ_ _ _=>DR)
end
end
section
section
variable {X:Cx}{K:W.Frag}{κ:Str->Addr}{ι:List Addr}{H:Hp}{σ:L2.St}
abbrev jM:Mo Ev:=rt (.v (.ow (.dic [])))
abbrev DV:Mo Ev:=rt (.v (.ow (.dit [])))
def DW{Q:VK}(h:bF K κ jM σ H Q):rB σ H Q:=by
 obtain⟨ι,Z,G,e,Z',G',s,eq,k⟩:=h
 cases eq
 intro p hp
 have a:=sZ (After.nil s).ar hp (m:=.dic []) ⟨[],a9,rfl,.nil⟩
 exact k _ _ _ ⟨a.ar,(After.nil s).st.trans a.st⟩
abbrev u4(K:W.Frag)(κ:Str->Addr)(trs:List (TE×TE))(f:Mo (List Ev)):Prop:=∀σ H Q,gb K κ f σ H (λvs H1=>∀ps:List (V×V),vs=ps.flatMap (λp=>[p.1,p.2])->Q ps H1)->kW trs σ H Q
abbrev gu:Mo (List Ev):=rt []
abbrev cF(fk fv:Mo Ev)(r:Mo (List Ev)):Mo (List Ev):=bd fk λa=>bd fv λb=>bd r λes=>rt (a::b::es)
def DX:u4 K κ [] gu:=λσ H Q h=>by
 obtain⟨ι,Z,G,es,Z',G',s,e,k⟩:=h
 cases e
 exact k _ _ _ (After.nil s) [] rfl
def DY{fk fv:Mo Ev}{r:Mo (List Ev)}{trs:List (TE×TE)}(hr:u4 K κ trs r):u4 K κ ((bF K κ fk,bF K κ fv)::trs) (cF fk fv r):=λσ H Q h=>by
 obtain⟨ι,Z,G,es,Z',G',s,e,k⟩:=h
 obtain⟨x,Z1,G1,e1,e⟩:=cD e
 obtain⟨y,Z2,G2,e2,e⟩:=cD e
 obtain⟨zs,Z3,G3,e3,e⟩:=cD e
 cases e
 refine⟨ι,Z,G,x,Z1,G1,s,e1,λv ι1 H1 a1=>?_⟩
 refine⟨ι1,Z1,G1,y,Z2,G2,a1.ar.base,e2,λw ι2 H2 a2=>?_⟩
 refine hr _ _ _ ⟨ι2,Z2,G2,zs,_,_,a2.ar.base,e3,λvs ι3 H3 a3 ps hps=>?_⟩
 exact k _ _ _ (a1.app (a2.app a3)) ((v,w)::ps) (by rw [hps];rfl)
abbrev gZ:List Ev->Option (List (aK×I))
 | []=>some []
 | .v (.im x)::.v (.im d)::r=>match dw x,gZ r with
  | some k,some ps=>some ((k,d)::ps)
  | _,_=>none
 | _=>none
abbrev g6(ps:List (aK×I)):List (aK×I):=ps.foldl (λacc kv=>cU acc kv.1 kv.2) []
abbrev m4(f:Mo (List Ev)):Mo Ev:=bd f λes Z G=>match gZ es with
 | some ps=>if ps.length≤15 then some (.v (.ow (.dic (g6 ps))),Z,G) else none
 | none=>none
theorem u5:∀{es:List Ev} {vs:List V} {ps:List (aK×I)},Paired (RpE K κ ι H) (tS es vs) (tD es)->es.length=vs.length->gZ es=some ps ->
  ∃kvs:List (aK×V),vs=(kvs.map λkv=>(kV kv.1,kv.2)).flatMap (λp=>[p.1,p.2])/\kvs.map (·.1)=ps.map (·.1)/\y57 K ι H (kvs.map (·.2)) (ps.map (·.2))
 | [],[],_,_,_,h=>by cases h;exact⟨[],rfl,rfl,.nil⟩
 | [],_::_,_,_,l,_=>by cases l
 | _::_,[],_,_,l,_=>by cases l
 | [_],[_],_,_,_,h=>by
  unfold gZ at h
  split at h
  ·rename_i hq;cases hq
  ·rename_i hq;cases hq
  ·cases h
 | [_],_::_::_,_,_,l,_=>by cases l
 | _::_::_,[_],_,_,l,_=>by cases l
 | a::b::es,v::w::vs,ps,p,l,h=>by
  unfold gZ at h
  split at h
  ·rename_i hq;cases hq
  ·rename_i x d r hq
   cases hq
   split at h
   ·rename_i kk ps' hk hps
    cases h
    cases p with
    | cons p1 p =>
     cases p with
     | cons p2 p =>
      cases p1 with
      | im r1 =>
       cases p2 with
       | im r2 =>
        obtain⟨kvs,e1,e2,e3⟩:=u5 p (by simpa using l) hps
        refine⟨(kk,w)::kvs,?_,?_,.cons r2 e3⟩
        ·rw [lZ r1 hk,e1];rfl
        ·rw [z16,z16,e2]
   ·cases h
  ·cases h
theorem u6:∀{kvs:List (aK×V)} {ps:List (aK×I)} {acc:List (aK×V)} {ac:List (aK×I)},kvs.map (·.1)=ps.map (·.1)->y57 K ι H (kvs.map (·.2)) (ps.map (·.2))->acc.map (·.1)=ac.map (·.1)->y57 K ι H (acc.map (·.2)) (ac.map (·.2)) ->
  (gK acc kvs).map (·.1)=(ps.foldl (λacc kv=>cU acc kv.1 kv.2) ac).map (·.1)/\y57 K ι H ((gK acc kvs).map (·.2)) ((ps.foldl (λacc kv=>cU acc kv.1 kv.2) ac).map (·.2))
 | [],[],_,_,_,_,e,r=>⟨e,r⟩
 | [],_::_,_,_,e,_,_,_=>by cases e
 | _::_,[],_,_,e,_,_,_=>by cases e
 | (k,v)::kvs,(k',d)::ps,acc,ac,e,r,e',r'=>by
  simp only [z16,List.cons.injEq] at e
  obtain⟨e1,e2⟩:=e
  subst e1
  cases r with
  | cons r rs =>
   obtain⟨p,q⟩:=oR r e' r'
   have:=u6 e2 rs p q
   exact this
def DZ{trs:List (TE×TE)}{f:Mo (List Ev)}{Q:VK}(hf:u4 K κ trs f)(h:bF K κ (m4 f) σ H Q):rF trs σ H Q:=by
 obtain⟨ι,Z,G,e,Z',G',s,eq,k⟩:=h
 obtain⟨es,Z1,G1,e1,eq1⟩:=cD eq
 intro p hp
 split at eq1
 ·rename_i ps hps
  split at eq1
  ·rename_i hl
   cases eq1
   have sp:=s.y324 (m:=.dic []) hp ⟨[],a9,rfl,.nil⟩
   have st0:=Step.y1df (ι:=ι) (Z:=Z) (o:=.dK []) (m:=.dic []) s.len hp
   refine hf _ _ _ ⟨ι,Z,G,es,_,_,sp.pop s.len,e1,λvs ι1 H1 a qs hqs=>?_⟩
   obtain⟨j1,j2⟩:=SR.join (Z1:=Z) sp s.len a.ar.sr a.ar.l a.st
   have hp1:H1 p=some (.dK []):=by
    refine a.st.keep p _ a9 λhm=>?_
    obtain⟨o,ho,_⟩:=s.mu hm
    rw [hp] at ho;cases ho
   obtain⟨kvs,ev,ek,rk⟩:=u5 (cz a.ar.l a.ar.sr.sl).2 a.ar.len hps
   have hq:qs=kvs.map λkv=>(kV kv.1,kv.2):=by
    rw [ev] at hqs
    have inj:∀{l1 l2:List (V×V)},l1.flatMap (λp=>[p.1,p.2])=l2.flatMap (λp=>[p.1,p.2])->l1=l2:=by
     intro l1
     induction l1 with
     | nil=>intro l2 h;cases l2 with
      | nil=>rfl
      | cons x l2=>simp at h
     | cons x l1 ih=>intro l2 h;cases l2 with
      | nil=>simp at h
      | cons y l2 =>
       simp only [List.flatMap_cons,z2a,z29,List.cons.injEq] at h
       obtain⟨h1,h2,h3⟩:=h
       rw [ih h3,Prod.ext h1 h2]
    exact (inj hqs).symm
   have hkl:kvs.length≤15:=by have:=congrArg List.length ek;simp at this;lia
   refine⟨hp1,kvs,hq,hkl,?_⟩
   have l1:=a.ar.l
   have i1:(σ++([some (V.ref p)]++tS es vs))[σ.length]?=some (some (.ref p)):=by rw [z18 (zf _),Nat.sub_self];rfl
   have i2:(Z'++([some (Vl.ow (.dic []))]++tD es))[σ.length]?=some (some (.ow (.dic []))):=by rw [l1,z18 (zf _),Nat.sub_self];rfl
   obtain⟨q1,q2⟩:=j1.poke i1 i2 (m':=.dic (g6 ps)) (λ_ kp=>by
    obtain⟨z1,z2⟩:=u6 (acc:=[]) (ac:=[]) ek rk rfl .nil
    exact⟨_,a9,z1,z2.mono (cb.refl _) kp⟩)
   have e5:∀(Zx:De),σ.length=Zx.length->(Zx++([some (Vl.ow (.dic []))]++tD es)).set σ.length (some (.ow (.dic (g6 ps))))=(Zx++[some (.ow (.dic (g6 ps)))])++tD es:=λZx l=>by
    rw [l,List.set_append_right _ _ (zf _),Nat.sub_self];simp
   rw [e5 _ l1,<- z20 σ] at q1
   rw [e5 _ l1,<- z20 σ] at q2
   rw [<- z20 σ] at j2
   have l2:(σ++[some (V.ref p)]).length=(Z'++[some (Vl.ow (.dic (g6 ps)))]).length:=by rw [za,za,l1];rfl
   refine k _ _ _ ⟨⟨l1,q1.pop l2,.cons (λ_ h=>by cases h) .nil⟩,?_⟩
   exact ((st0.trans j2).trans q2).sub λx hx=>cE l2 hx
  ·cases eq1
 ·cases eq1
abbrev orV(fa fb:Mo Ev):Mo Ev:=bd fa λe=>λZ G=>match gh e Z G with
 | some (true,_,_)=>some (e,Z,G)
 | some (false,_,_)=>fb Z G
 | none=>none
end
section
variable {X:Cx}{κ:Str->Addr}{a b e o:Expr}{es:List Expr}{fa fb fv:Mo Ev}{fs:Mo (List Ev)}{p pos apos:Pos}{k n:Nat}
def Ea:LE X κ (.Dict [] [] pos) jM:=.mk (bu AO λ_ _ _=>DW)
abbrev LP(X:Cx)(κ:Str->Addr)(pos:Pos)(keys:List (Option Expr))(vals:List Expr)(f:Mo (List Ev)):Prop:=∃trs,rC X pos keys vals trs/\u4 X.K κ trs f
def u7:LP X κ pos [] [] gu:=⟨[],AQ,DX⟩
def yde (hk:LE X κ a fa)(hv:LE X κ b fb)(hr:LP X κ pos ks vs fs):LP X κ pos (some a::ks) (b::vs) (cF fa fb fs):=let ⟨trs,h1,h2⟩:=hr;⟨_,AR hk.pe hv.pe h1,DY h2⟩
def u9 (hr:y55 k X.A)(h:LP X κ pos ks vs fs)(y181:‹ks.all (·.isSome)=true›)(hl:‹ks.length=vs.length›)(h0:ks≠[]:=by exact (λz=>nomatch z))(h15:ks.length≤15:=by decide):LE X κ (.Dict ks vs pos) (m4 fs):=.mk (by
 obtain⟨trs,h1,h2⟩:=h
 exact bu (AS h1 y181 hl h0 h15) λ_ _ _=>DZ h2)
def Eb{K:W.Frag}{σ:L2.St}{H:Hp}{fn:FF}{Q:VK}(h:bF K κ (bd fs (ax n fn)) σ H Q):ft (aV K κ n fn) [] E0 (gb K κ fs) σ H Q:=by
 have:=gc (Cg (E:=E0)) h
 unfold ft
 simpa only [z11] using this
def Ec (h:b9 X.prog X.w X.K X.mg X.base x k ps (aV X.K κ n fn))(hr:y55 k X.A)(ha:LA X κ (e::es) fs)(hg:‹Gl X x›)
  (hdb:(x == ("__debug__" : Str))=false:=by decide) (he:‹gJ X e es›) (hpl:‹gC X pos es›):LE X κ (.Call (.Name x p) (e::es) [] pos) (bd fs (ax n fn)):=.mk (bu (BJ h hr hg ha.pe hdb he hpl) λ_ _ _=>Eb)
def vc (hN:X.N.Nodup)(h:LE X κ a fa)(hi:‹X.N[i]?=some x›)(hx:ng X.env.scope x:=by first|exact Or.inl rfl|exact Or.inr rfl)(hs:‹swapsWith a (some (.Name x pos')) pos.line X.env=pure false›)(hf:X.fn x=true∨X.env.scope.names.lookup x=some .local:=by first|exact .inl rfl|exact .inr rfl|assumption):LS X κ (.Assign [.Name x pos'] a pos) (aI fa (aB i)):=.mk (c7 (Ab hN hi hx h.pe hs hf) λD σ H q=>by
 obtain⟨ι,Z,G,e,Z',G',s,eq,kk⟩:=om q
 exact⟨ι,Z,G,e,Z',G',s,eq,λv ι' H' a=>oj (kk v ι' H' a)⟩)
def vd (h:LE X κ a fa)(hg:LG X κ tg g)(hs:‹swapsWithSole [tg] a pos.line X.env=pure false›)(hw:‹swappedStores [tg] a X.env=pure none›)(h1:‹(assignEach [tg] X.env).map (·.2)=[assign tg X.env]›):LS X κ (.Assign [tg] a pos) (aI fa g):=.mk (c7 (fW h.pe hg.pe hs hw h1) λ_ _ _=>om)
end
end
section
section
variable {X:Cx}{K:W.Frag}{κ:Str->Addr}{ι:List Addr}{H:Hp}{σ:L2.St}
abbrev aT:List Ev->De->List M->Option Wk:=λes Z G=>match tL es Z G with
 | some w=>some w
 | none=>Ck es Z G
def ve    (h:bG fa p Z G=some (w,es,Z1,G1))(hpq:p es Z1 G1=some w->q es Z1 G1=some w):bG fa q Z G=some (w,es,Z1,G1):=by
 unfold bG at h ⊢
 split at h
 ·rename_i es' Z' G' e
  cases hp:p es' Z' G' with
  | none=>rw [hp] at h;cases h
  | some w' =>
   rw [hp] at h
   cases h
   rw [hpq hp];rfl
 ·cases h
def Ed{f:Mo Ev}{R:It->Hp->Prop}(h:mT K κ (bG (one f) aT) σ H R):qG K (bF K κ f) σ H R∨qH K (bF K κ f) σ H R:=by
 obtain⟨ι,Z,G,w,es,Z',G',s,eq,k⟩:=h
 by_cases hq:tL es Z' G'=some w
 ·left
  refine tK (oC Cn ⟨ι,Z,G,w,es,Z',G',s,ve eq λ_=>hq,k⟩)
 ·right
  refine tK (oC Co ⟨ι,Z,G,w,es,Z',G',s,ve eq λhs=>?_,k⟩)
  unfold aT at hs
  split at hs
  ·rename_i w' hw
   exact absurd (hw.trans hs) hq
  ·exact hs
abbrev bf:Mo Bool:=rt true
def Ee{Q:Bool->Hp->Prop}(h:dH K κ bf σ H Q):sE σ H Q:=by
 obtain⟨ι,Z,G,b,Z',G',s,eq,k⟩:=h
 cases eq
 exact k _ _ s (Step.refl _ _ _)
end
section
variable {X:Cx}{κ:Str->Addr}{a b c e tg:Expr}{es:List Expr}{fa fb:Mo Ev}{fs:Mo (List Ev)}{fc:Mo Bool}{p pos p0:Pos}{k k0:Nat}{elts:List Expr}
def vf(h:LE X κ a fa):LI X κ tg a (bG (one fa) aT):=.mk (tX (t5 (Ag h.pe) (Ah h.pe)) λ_ _ _=>Ed)
def Ef(hm:X.mg "range" = none)(ha:LA X κ [a] fs)(hg:‹Gl X "range"›)(hs:‹starEach [a] X.env=[(false,eval a X.env)]›):LI X κ tg (.Call (.Name "range" p) [a] [] pos) (bG fs c6):=.mk (tX (Aj hg hm ha.pe hs) λ_ _ _ q=>oC Cj q)
def vg(h:yP X es is)(hc:‹X.calm=true›)(hl:‹(assignEach es X.env).length=is.length›)(hst:‹(assignEach es X.env).findIdx? (·.1)=none›):LG X κ (.Tuple es k0 p) (gQ is):=.mk (by
 refine tY (qC hc h hl hst) λ_ _ _ _=>Cd)
@[irreducible] noncomputable def jN(X:Cx)(κ:Str->Addr)(ifs:List Expr)(f:Mo Bool):Prop:=mO X ifs (dH X.K κ f)
def jN.mk  (h:mO X ifs (dH X.K κ f)):jN X κ ifs f:=by unfold jN;exact h
def jN.pe  (h:jN X κ ifs f):mO X ifs (dH X.K κ f):=by unfold jN at h;exact h
def vh:jN X κ [] bf:=.mk (λpins s σ H Q I h=>By pins s σ H Q I (Ee h))
def vi(h:LT X κ c fc):jN X κ [c] fc:=.mk (Bz h.pe)
variable {scope:Scope}{x y:Str}{ys:List Str}{ix:List Nat}{ifs:List Expr}{fi:IF}{px py:Pos}
def Eg(O:ya X scope [x] ys ix)(hi:LI X κ (.Name x px) a fi)(hf:∀z,jN (dG X scope ([x]++ys) z) κ ifs fc)(he:∀z,LE (dG X scope ([x]++ys) z) κ e fb)(hc:‹X.calm=true›)(hs:∀v,foldedSetIterable a X.env v=pure v:=by intro _;rfl):LE X κ (.ListComp e [⟨.Name x px,a,ifs,0⟩] scope pos) (dJ fi ix c1 fc fb):=.mk (bu (sI O hc hi.pe (λz=>lA O rfl) (λz=>(hf z).pe) (λz=>(he z).pe) hs) λ_ _ _=>oG (λ_=>tP))
def Eh (O:ya X scope [x] ys ix)(hi:LI X κ (.Name x px) a fi)(hf:∀z,jN (dG X scope ([x]++ys) z) κ ifs fc)(he:∀z,LE (dG X scope ([x]++ys) z) κ e fb)(hN:X.N.Nodup)(hy:‹X.N[i]?=some y›)(hl:‹X.env.scope.names.lookup y=some .local›)(hc:‹X.calm=true›)
  (hsw:‹swapsWith (.ListComp e [⟨.Name x px,a,ifs,0⟩] scope pos) (some (.Name y py)) spos.line X.env=pure true›) (hs:∀v,foldedSetIterable a X.env v=pure v:=by intro _;rfl):LS X κ (.Assign [.Name y py] (.ListComp e [⟨.Name x px,a,ifs,0⟩] scope pos) spos) (aI (dJ fi ix c1 fc fb) (aB i)):=.mk (c7 (BV O hc hN hy hl hi.pe (λz=>lA O rfl) (λz=>(hf z).pe) (λz=>(he z).pe) hsw hs) λD σ H q=>by
  obtain⟨ι,Z,G,e,Z',G',s,eq,kk⟩:=om q
  exact oG (λ_=>tP) ⟨ι,Z,G,e,Z',G',s,eq,λv ι' H' a=>oj (kk v ι' H' a)⟩)
def Ei (O:ya X scope [x1,x2] ys ix)(hc:X.calm=true)(z:y9):PG (dG X scope ([x1,x2]++ys) z) (.Tuple [.Name x1 q1,.Name x2 q2] kk q0) (kO X.K 2 (gS (List.range 2))) :=
 qC hc (nB (lA O rfl) (nB (lA O rfl) qB))
def Ej (O:ya X scope [x1,x2] ys ix)(hi:LI X κ (.Tuple [.Name x1 q1,.Name x2 q2] kk q0) a fi)(hf:∀z,jN (dG X scope ([x1,x2]++ys) z) κ ifs fc)(he:∀z,LE (dG X scope ([x1,x2]++ys) z) κ e fb)(hc:‹X.calm=true›)(hs:∀v,foldedSetIterable a X.env v=pure v:=by intro _;rfl):LE X κ (.ListComp e [⟨.Tuple [.Name x1 q1,.Name x2 q2] kk q0,a,ifs,0⟩] scope pos) (dJ fi ix (cN 2) fc fb):=.mk (bu (sI O hc hi.pe (Ei O hc) (λz=>(hf z).pe) (λz=>(he z).pe) hs) λ_ _ _=>oG (λ_=>tR 2))
end
section
variable {P:Program}{w:World}{K:W.Frag}{mg:Str->Option Value}{base:Heap}{κ:Str->Addr}
def bS{x qual:Str}{st:Stmt}{f:Addr}{fd:FuncData}{N ps:List Str}{k n r:Nat}{body:SF}(F:Fun K x qual st f fd)(S:y47 N ps (bL st))(hn:ps.length=n)(hN:N.length=n+r)
  (hb:∀(cdv:Value) (A:Around) (outer:List Env) (s:Shared) (H:Hp) (E:XK),y55 k (A.deeper (envOfC qual (bL st) s.heap.objs.size f cdv))->gE (fu bW P w K mg base N qual (bL st) f cdv A outer s H E).nox κ (kz st) body) :
  y46 P w K mg base bW (k+1) f fd ps (aV K κ n (aS n r body)):=by
 refine F.ok S (λvs H Q E h=>by rw [(tJ h).1,hn]) (λcdv A outer s H vs Q E hr h=>⟨_,(hb cdv A outer s H E hr).pe,?_⟩)
 obtain⟨l,q⟩:=tJ h
 unfold L2.start
 have e:N.length-vs.length=r:=by lia
 rw [e]
 exact q
def g8{f:Addr}{fd:FuncData}{ps:List Str}{k n:Nat}:y46 P w K mg base bW k f fd ps (aV K κ n λ_ _=>none) :=
 ⟨λvs H Q E h=>(by obtain⟨_,_,_,_,_,_,_,e,_⟩:=h;cases e),λ_ _ _ _ _ _ _ _ _ _ _ _ _ h=>(by obtain⟨_,_,_,_,_,_,_,e,_⟩:=h;cases e)⟩
end
end
section
section
variable {K:W.Frag}{κ:Str->Addr}{ι:List Addr}{H:Hp}
abbrev vm:List I->Option (List Int)
 | []=>some []
 | .int i::r=>(vm r).map (i::·)
 | _=>none
abbrev g9:List I->Option (List Str)
 | []=>some []
 | .str i::r=>(g9 r).map (i::·)
 | _=>none
theorem vn:∀ns:List Str,g9 (ns.map I.str)=some ns
 | []=>rfl
 | n::ns=>by rw [z16,g9,vn ns];rfl
theorem vo:∀{xs:List I} {vs:List V} {ns:List Str},y57 K ι H vs xs->g9 xs=some ns->vs=ns.map V.str
 | [],_,_,r,h=>by cases r;cases h;rfl
 | x::xs,_,_,r,h=>by
  cases r with
  | cons r1 r2 =>
   cases r1 with
   | str i =>
    rw [g9] at h
    cases e:g9 xs with
    | none=>rw [e] at h;cases h
    | some ms=>rw [e] at h;cases h;rw [z16,<- vo r2 e]
   | _=>cases h
abbrev Ir:List Ev->Mo Ev:=λes Z G=>match es with
 | [a]=>if fF a then match sq Z G a with
  | some xs=>match vm xs with
   | some ns=>some (.v (.im (.int ns.sum)),Z,G)
   | none=>none
  | none=>none
  else none
 | _=>none
abbrev dO:List Ev->Mo Ev:=λes Z G=>match es with
 | [.v (.im (.bl b))]=>some (.v (.im (.int (if b then 1 else 0))),Z,G)
 | [.v (.im (.int i))]=>some (.v (.im (.int i)),Z,G)
 | _=>none
def Ek:aE K κ (λxs H Q=>(∃i,xs=[.int i]/\Q (.int i) H)∨∃k,xs=[.bl k]/\Q (.int (if k then 1 else 0)) H) dO:=by
 intro ι H σ Z G es vs e Z' G' Q a h k
 unfold dO at h
 split at h
 ·obtain⟨v,rfl⟩:=cu a.len
  cases lB (a.im (j:=0) rfl rfl)
  exact .inr ⟨_,rfl,k _ _ _ (bZ h (bt a (.int _)))⟩
 ·obtain⟨v,rfl⟩:=cu a.len
  cases dX (a.im (j:=0) rfl rfl)
  exact .inl ⟨_,rfl,k _ _ _ (bZ h (bt a (.int _)))⟩
 ·cases h
abbrev vp:List I->Option (List Bool)
 | []=>some []
 | .bl i::r=>(vp r).map (i::·)
 | _=>none
abbrev Iu:List Ev->Mo Ev:=λes Z G=>match es with
 | [a]=>match pk Z G a with
  | some (.lst xs)=>match vp xs with
   | some bs=>some (.v (.im (.bl (bs.all id))),Z,G)
   | none=>none
  | _=>none
 | _=>none
abbrev El:Ev->Bool
 | .v (.im (.str _))=>true
 | _=>false
abbrev vq(p:List Ev->Mo Ev)(fo:Mo Ev)(fa:Mo (List Ev)):Mo Ev:=bd fo λe=>λZ G=>if El e then bd fa (λes=>p (e::es)) Z G else none
def vt{σ:L2.St}{p:List Ev->Mo Ev}{fo:Mo Ev}{fa:Mo (List Ev)}{r:V->List V->Hp->VK->Prop}{Q:VK}(hp:aE K κ (rM r) p)(h:bF K κ (vq p fo fa) σ H Q):Bl K "str" r (bF K κ fo) (gb K κ fa) σ H Q:=by
 obtain⟨ι,Z,G,e,Z',G',s,eq,k⟩:=h
 obtain⟨x,Z1,G1,e1,eq1⟩:=cD eq
 split at eq1
 ·rename_i hl
  obtain⟨es,Z2,G2,e2,eq2⟩:=cD eq1
  refine⟨ι,Z,G,x,Z1,G1,s,e1,λv ι1 H1 a1=>⟨?_,?_⟩⟩
  ·unfold El at hl
   split at hl
   ·cases fA (a1.ar.im (j:=0) rfl rfl);rfl
   ·cases hl
  refine⟨ι1,Z1,G1,es,Z2,G2,a1.ar.base,e2,λvs ι2 H2 a2=>?_⟩
  have a:=a1.app a2
  obtain⟨y,ys,ey,q⟩:=hp _ _ _ _ _ _ _ _ _ _ Q a.ar eq2 λv ι3 H3 d=>k _ _ _ (a.then d)
  cases ey
  exact q
 ·cases eq1
abbrev jO:List Ev->Mo Ev:=λes Z G=>match es with
 | [.v (.im (.str z)),a]=>match pk Z G a with
  | some (.lst xs)=>match g9 xs with
   | some ys=>if (ys.map (·.length)).sum+ys.length*z.length≤1000000 then some (.v (.im (.str (PySem.Txt.join z ys))),Z,G) else none
   | none=>none
  | _=>none
 | _=>none
def Em:aE K κ (rM (mP K)) jO:=by
 intro ι H σ Z G es vs e Z' G' Q a h k
 unfold jO at h
 split at h
 ·rename_i z x
  split at h
  ·rename_i xs hx
   split at h
   ·rename_i ys hn
    split at h
    ·rename_i hz
     obtain⟨v,u,rfl⟩:=bP a.len
     cases fA (a.im (j:=0) rfl rfl)
     obtain⟨p,e1,us,h1,r⟩:=a.pk (j:=1) rfl rfl hx
     subst e1
     exact⟨_,_,rfl,z,p,ys,rfl,rfl,by rw [<- vo r hn];exact bM.of h1,z19 hz (by decide),k _ _ _ (bZ h (bt a (.str _)))⟩
    ·cases h
   ·cases h
  ·cases h
 ·cases h
end
section
variable {X:Cx}{K:W.Frag}{κ:Str->Addr}{ι:List Addr}{H:Hp}{pins:List (Addr×Obj)}{σ:L2.St}{s:Shared}
end
section
variable {X:Cx}{κ:Str->Addr}{a b e o:Expr}{es:List Expr}{fa fb:Mo Ev}{fs:Mo (List Ev)}{p pos apos yd1:Pos}{k:Nat}
def En(hr:y55 k X.A)(hm:X.mg "int" = none)(ha:LA X κ (e::es) fs)(hg:‹Gl X "int"›)(he:‹gJ X e es›)(hpl:‹gC X pos es›):LE X κ (.Call (.Name "int" p) (e::es) [] pos) (bd fs dO):=.mk (bu (nL ya9 hg hm PyProof.Rows.boot_int ha.pe (by decide) (by decide) he hpl) λ_ _ _ q=>gc Ek q)
def Eo(hr:y55 k X.A)(ho:LE X κ o fa)(ha:LA X κ (e::es) fs)(y187:‹attributeBase o "join" X.env (eval o X.env)=eval o X.env›)
  (y18f:‹((backTo yd1 (starEach (e::es) X.env)).all (λx=>!x.1)&&(backToKw yd1 (keywordEach [] X.env)).all (λx=>x.1.isSome)&&decide ((e::es).length+([]:List Keyword).length+(if ([]:List Keyword).isEmpty then 0 else 1)<30))=true›)
  (y194:‹(apos.endLine == yd1.line)=true›) (hs:‹starEach (e::es) X.env=(false,eval e X.env)::starEach es X.env›) (y196:‹(backTo yd1 (starEach es X.env)).any (·.1)=false›):LE X κ (.Call (.Attribute o "join" apos) (e::es) [] yd1) (vq jO fa fs):=.mk (bu (nP PySem.F.plainAttrs_str PySem.F.slot_str_join PySem.F.type_str_join BF ho.pe ha.pe y187 y18f y194 hs y196) λ_ _ _=>vt Em)
end
end
end B
set_option maxHeartbeats 4000000
namespace PySem
open PySem.Spec PyProof.Rows
section
variable {prog:Program}{w:World}{K:Type}[DecidableEq K]{knd:KeyKind prog w K}{A:Around}{E:Value->Shared->Prop}{R:Result->Shared->Prop}
end
end PySem
set_option maxHeartbeats 400000
namespace L2
open PySem PySem.Spec PyProof.Rows
section
section
variable {X:Cx}{pins:List (Addr×Obj)}{σ:L2.St}{H:Hp}{s:Shared}
end
end
end L2
namespace B
open PySem PySem.Spec PyProof.Rows L2
section
section
variable {K:W.Frag}{κ:Str->Addr}{ι:List Addr}{H:Hp}
end
section
variable {X:Cx}{κ:Str->Addr}{e:Expr}{es:List Expr}{fs:Mo (List Ev)}{p pos:Pos}{k:Nat}
end
def rm (r:y55 k A)(h:j≤k:=by first|decide|lia):y55 j A:=r.mono h
end
end B
set_option maxHeartbeats 4000000
namespace PySem
open PySem.Spec PyProof.Rows
section
variable {prog:Program}{w:World}{K:Type}[DecidableEq K]{knd:KeyKind prog w K}{A:Around}{E:Value->Shared->Prop}{R:Result->Shared->Prop}
end
end PySem
set_option maxHeartbeats 400000
namespace L2
open PySem PySem.Spec PyProof.Rows
section
section
variable {X:Cx}{pins:List (Addr×Obj)}{σ:L2.St}{H:Hp}{s:Shared}
end
end
end L2
namespace B
open PySem PySem.Spec PyProof.Rows L2
section
section
variable {K:W.Frag}{κ:Str->Addr}{ι:List Addr}{H:Hp}
end
section
variable {X:Cx}{κ:Str->Addr}{a b e o:Expr}{es:List Expr}{fa fb:Mo Ev}{fs:Mo (List Ev)}{p pos apos yd1:Pos}{k:Nat}
end
def bz (h1:‹sc.kind=.function›)(h2:‹sc.isCoroutine=false›)(h3:‹sc.isGenerator=false›)(h4:N.Nodup:=by decide +kernel)(h5:‹N.take P.length=P›)(h6:∀x∈P,sc.names.lookup x=some .local∨sc.names.lookup x=some .cell:=by decide +kernel)(h7:∀y∈sc.names,y.2≠.free:=by decide +kernel):y47 N P sc:=⟨h1,h2,h3,h4,h5,h6,h7⟩
section
variable {P:Program}{w:World}{K:W.Frag}{mg:Str->Option Value}{base:Heap}{k:Nat}{ps:List Str}{sp:Sp}{f:Addr}{fd:FuncData}{C:Addr}{x q m:Str}{st:Stmt}
end
def Ep  (hsc:X.env.scope=osc)(hN:X.N=N)(h:BK osc N scope xs (ix.map λi=>N.getD i "") ix=true):ya X scope xs (ix.map λi=>N.getD i "") ix:=yc9 hsc hN h
end
section
section
end
noncomputable abbrev Er{N P:List Str}{sc:Scope}(_:y47 N P sc):List Str:=N
noncomputable abbrev oW{N P:List Str}{sc:Scope}(_:y47 N P sc):Scope:=sc
end
end B
set_option maxHeartbeats 4000000
namespace PySem
open PySem.Spec PyProof.Rows
section
variable {prog:Program}{w:World}{K:Type}[DecidableEq K]{knd:HeapKind prog w K}{A:Around}{E:Value->Shared->Prop}{s:Shared}
end
section
variable {K:Type}[DecidableEq K]
end
section
variable {prog:Program}{w:World}{K:Type}[DecidableEq K]{knd:HeapKind prog w K}{A:Around}{E:Value->Shared->Prop}{R:Result->Shared->Prop}
end
section
variable {prog:Program}{w:World}{K:Type}[DecidableEq K]{knd:HeapKind prog w K}{A:Around}{E:Value->Shared->Prop}{s:Shared}
end
section
variable {prog:Program}{w:World}{K:Type}[DecidableEq K]{knd:HeapKind prog w K}{A:Around}{E:Value->Shared->Prop}{s:Shared}
end
section
variable {prog:Program}{w:World}{K:Type}[DecidableEq K]{knd:KeyKind prog w K}{A:Around}{E:Value->Shared->Prop}{s:Shared}
end
end PySem
set_option maxHeartbeats 400000
namespace L2
open PySem PySem.Spec PyProof.Rows
section
section
abbrev Es(kvs more:List (List aK×V)):List (List aK×V):=more.foldl (λacc kv=>cq acc kv.1 kv.2) kvs
abbrev Et(w:World)(k:List aK):Int:=reduceHash (Builtin.Tuple.tupleHashOf (k.map (qg w)))
abbrev Iv(w:World):V->List V->Hp->VK->Prop:=λx vs H Q=>∃(a b:Addr) (kvs more:List (List aK×V)),x=.ref a/\vs=[.ref b]/\a≠b/\H a=some (.dT kvs)/\H b=some (.dT more)/\(kvs=[]->(more.map λp=>Et w p.1).Nodup)/\kvs.length+more.length≤1000000/\Q .non (aC H a (.dT (Es kvs more)))
end
end
end L2
namespace PySem
end PySem
namespace L2
open PySem PySem.Spec PyProof.Rows
section
section
variable {X:Cx}{pins:List (Addr×Obj)}{σ:L2.St}{H:Hp}{s:Shared}
end
end
end L2
namespace B
open PySem PySem.Spec PyProof.Rows L2
section
variable {X:Cx}{K:W.Frag}{κ:Str->Addr}{ι:List Addr}{H H':Hp}{σ:L2.St}{Z:De}{G:List M}
structure Kw(H H':Hp):Prop where
 tup:∀a xs,H a=some (.tup xs)->H' a=some (.tup xs)
 frz:∀a o u,(∀ws,u≠HO.dK ws)->H a=some (.frz o u)->H' a=some (.frz o u)
end
end B
namespace L2
open PySem PySem.Spec PyProof.Rows
section
section
end
end
end L2
namespace B
open PySem PySem.Spec PyProof.Rows L2
section
section
variable {X:Cx}{K:W.Frag}{κ:Str->Addr}{ι:List Addr}{H:Hp}{σ:L2.St}
end
section
variable {X:Cx}{κ:Str->Addr}{a b e o:Expr}{es:List Expr}{ss:List Stmt}{fa fb fv:Mo Ev}{f:SF}{gf:GF}{fs:Mo (List Ev)}{p pos pos' apos yd1:Pos}{k:Nat}
end
end
end B
namespace PySem.W
open PySem PySem.Calls PyProof.Rows PySem.Spec
end PySem.W
namespace L2
open PySem PySem.Spec PyProof.Rows
section
section
variable {X:Cx}{pins:List (Addr×Obj)}{σ:L2.St}{H:Hp}{s:Shared}
end
end
end L2
namespace B
open PySem PySem.Spec PyProof.Rows L2
section
section
variable {X:Cx}{K:W.Frag}{κ:Str->Addr}{ι:List Addr}{H:Hp}{σ:L2.St}
abbrev srt(ns:List Int):List Int:=ns.mergeSort (λa b=>decide (a≤b))
end
section
variable {X:Cx}{κ:Str->Addr}{a b e o:Expr}{es:List Expr}{fa fb:Mo Ev}{fs:Mo (List Ev)}{p pos apos yd1:Pos}{k:Nat}
end
end
end B
namespace PySem
section
variable {prog:Program}{w:World}{A:Around}{E:Value->Shared->Prop}{h:Heap}{g:Array GenState}{d:Drawn}{t:Nat}{os:OsState}
variable {nm q:Str}{C N:Addr}{bs bm bmB:List Value}{y18c:Bool}{sn:List Str}{sub:List Value}{ab:Bool}{col:Option Bool}{dd:Option Addr}{k0 k1 k2 k3 k5:Option Value}{B Bn newId nid y1a3 inN:String}{bmN:List Value}
abbrev gw(h:Heap)(C:Addr)(aG:List Value):Heap:=(h.push { cls:=.type "tuple",data:=.seq aG.toArray }).push { cls:=.ref C,data:=.fields #[.ref h.objs.size,.none,.none,.none,.bool false,.none] }
def Eu{name:Str}{mN:Str->Option Value}{v:Value}{Q:Option Value->Shared->Prop}(hC:h.get? C=some (excClassObj nm q C N bs bm y18c sn sub ab col dd k0 k1 k2 k3 k5 newId))(hn:h.Ns N mN)(hv:mN name=some v)
  (hq:Q (some v) ⟨h,g,d,t,os⟩):wpAny (model prog w) A (typeLookup (.ref C) name) Q E ⟨h,g,d,t,os⟩:=by
 rw [typeLookup_eq]
 refine zb (wpAny_mroOf_exc hC ?_)
 rw [lookupAlong_cons]
 refine zb (wpAny_classOwn_exc hC hn ?_)
 rw [hv]
 exact ze hq
def Ew(Fn:ExcBaseFacts Bn newId inN bmN)(hBn:bmB.contains (.type Bn)=true)(F:ExcBaseFacts B nid y1a3 bmB)(T:OwnTail h bmB bm){mN:Str->Option Value}{f:Addr}{aG:List Value}{Q:Fin->Shared->Prop}
  (hC:h.get? C=some (excClassObj nm q C N bs bm y18c sn sub ab col dd k0 k1 k2 k3 k5 newId)) (hn:h.Ns N mN) (hni:mN "__init__" = some (.ref f)) (hf:∃o,h.get? f=some o/\o.cls=.type "function")
  (hq:codeAny (model prog w) A (.call (.ref f) ⟨.ref (h.objs.size+1)::aG,[]⟩) (λr s'=>match r with | .ok (.ret v)=>v=.none/\Q (.done (.ret (.ref (h.objs.size+1)))) s' | .error e=>E e s'|_=>False) ⟨gw h C aG,g,d,t,os⟩) (hrest:aG.length≤sizeLine:=by size_fits) :
  wpAny (model prog w) A (Builtin.«type.__call__» ⟨.ref C::aG,[]⟩) Q E ⟨h,g,d,t,os⟩:=by
 repeat (first|with_reducible refine wpAny_loadPart_at hC ?_|with_reducible refine wpAny_madeBy_exc hC ?_|wp_step)
 refine codeAny_call_builtin_code (Code.quiet_builtin _ Fn.quiet) (wpAny_check_new_subU Fn hBn T hC ?_)
 refine codeAny_exc_new_subU Fn hBn F T hC ?_ hrest
 show wpAny _ _ _ _ _ _
 have hC₁:=zd { cls:=.ref C,data:=.fields #[.ref h.objs.size,.none,.none,.none,.bool false,.none] }
  (zd { cls:=.type "tuple",data:=.seq aG.toArray } hC)
 have hn₁:((h.push { cls:=.type "tuple",data:=.seq aG.toArray }).push { cls:=.ref C,data:=.fields #[.ref h.objs.size,.none,.none,.none,.bool false,.none] }).Ns N mN :=
  let ⟨o,es,ep,e,r⟩:=hn;⟨o,es,ep,zd _ (zd _ e),r⟩
 have hget:((h.push { cls:=.type "tuple",data:=.seq aG.toArray }).push
   { cls:=.ref C,data:=.fields #[.ref h.objs.size,.none,.none,.none,.bool false,.none] }).get? (h.objs.size+1)=some
   { cls:=.ref C,data:=.fields #[.ref h.objs.size,.none,.none,.none,.bool false,.none] }:=by heap_get
 have hcC:(Value.ref C::bm).contains (.ref C)=true:=by simp
 obtain⟨of,hof,hcf⟩:=hf
 unfold isInstance
 repeat (first|with_reducible refine wpAny_loadPart_at hget ?_|(with_reducible refine wpAny_isSubtype_exc hC₁ ?_;rw [hcC])|wp_step)
 show wpAny _ _ (typeLookup (.ref C) _) _ _ _
 refine Eu hC₁ hn₁ hni ?_
 have hof₁:(gw h C aG).get? f=some of:=zd _ (zd _ hof)
 refine wpAny_holding (zb (wpAny_bindSpecial_def (s:=⟨gw h C aG,g,d,t,os⟩) hof₁ hcf ?_))
 refine zb (wpAny_call (codeAny_mono hq λr s' hr=>?_))
 cases r with
 | error e=>exact hr
 | ok fl =>
  cases fl with
  | ret v =>
   obtain⟨rfl,hr⟩:=hr
   refine ze ?_
   show wpAny _ _ (if (Value.none != Value.none)=true then _ else ret (Value.ref (h.objs.size+1))) _ _ _
   rw [if_neg (by decide)]
   exact ze hr
  | _=>exact hr.elim
def ya6(Fn:ExcBaseFacts Bn newId inN bmN)(hBn:bmB.contains (.type Bn)=true)(F:ExcBaseFacts B nid y1a3 bmB)(T:OwnTail h bmB bm){mN:Str->Option Value}{f:Addr}{aG:List Value}{Q:Value->Shared->Prop}
  (hC:h.get? C=some (excClassObj nm q C N bs bm y18c sn sub ab col dd k0 k1 k2 k3 k5 newId)) (hn:h.Ns N mN) (hni:mN "__init__" = some (.ref f)) (hf:∃o,h.get? f=some o/\o.cls=.type "function")
  (hq:codeAny (model prog w) (A.under (.builtin "type.__call__" ⟨.ref C::aG,[]⟩)) (.call (.ref f) ⟨.ref (h.objs.size+1)::aG,[]⟩) (λr s'=>match r with | .ok (.ret v)=>v=.none/\Q (.ref (h.objs.size+1)) s' | .error e=>E e s'|_=>False) ⟨gw h C aG,g,d,t,os⟩) (hrest:aG.length≤sizeLine:=by size_fits) :
  wpAny (model prog w) A (call (.ref C) aG) Q E ⟨h,g,d,t,os⟩:=by
 have f1:=tc_lookup
 have f2:=tc_bind (.ref C)
 have hT:(⟨h,g,d,t,os⟩:Shared).TypeIs (.ref C) "type":=⟨_,hC,rfl⟩
 refine wpAny_call (codeAny_of_tree ?_)
 show wpAny _ _ (callAny (.ref C) _) _ _ _
 repeat (any_goals (first|assumption|with_reducible refine wpAny_loadPart_at hC ?_|wp_step))
 refine⟨rfl,?_⟩
 refine codeAny_call_builtin_at (Code.quiet_builtin _ (by decide +kernel)) entry_typeCall (wpAny_check_type_call_sub hC (Ew (hrest:=hrest) Fn hBn F T hC hn hni hf ?_))
 exact hq
end
end PySem
namespace PySem
def Ex(o:Obj)(f):(o.mapFields f).dict=o.dict:=by obtain⟨c,d,dt,sl⟩:=o;cases dt<;>rfl
abbrev cj(e:Addr)(p:Addr->Prop)(fs:List Addr)(h h':Heap):Prop:=∀b o,h.get? b=some o->(b≠e/\¬ p b)->(∃sl,h'.get? b=some { o with slots:=sl })/\(b∉fs->h'.get? b=some o)
def cj.refl(e:Addr)(p:Addr->Prop)(fs:List Addr)(h:Heap):cj e p fs h h:=λ_ o q _=>⟨⟨o.slots,q⟩,λ_=>q⟩
def cj.trans{e:Addr}{p:Addr->Prop}{fs:List Addr}{h1 h2 h3:Heap}(x:cj e p fs h1 h2)(y:cj e p fs h2 h3):cj e p fs h1 h3:=λb o q n =>
 let ⟨⟨_,q1⟩,r1⟩:=x b o q n
 let ⟨⟨sl,q2⟩,r2⟩:=y b _ q1 n
 ⟨⟨sl,q2⟩,λnf=>(y b o (r1 nf) n).2 nf⟩
def cj.mono{e:Addr}{p:Addr->Prop}{fs fs':List Addr}{h h':Heap}(x:cj e p fs h h')(k:∀b∈fs,b∈fs'):cj e p fs' h h':=λb o q n=>let ⟨a,c⟩:=x b o q n;⟨a,λnf=>c λz=>nf (k b z)⟩
namespace Heap
abbrev y5b(h base:Heap)(e:Addr)(cls a0:Value)(dct:Option Addr)(p:Addr->Prop):Prop :=
 ∃oe vs T oT ts,h.get? e=some oe/\(oe.cls=cls/\vs[0]?=some a0/\oe.dict=dct)/\oe.data=.fields vs/\vs[1]?=some (.ref T)/\(base.get? T=none/\p T)/\T≠e/\h.get? T=some oT/\(oT.cls=.type "traceback"/\oT.data=.fields ts)/\ts[3]?=some .none
abbrev y5a(h base:Heap)(e:Addr)(cls a0:Value)(dct:Option Addr)(p:Addr->Prop)(fl:Value):Prop :=
 ∃oe vs T oT ts,h.get? e=some oe/\(oe.cls=cls/\vs[0]?=some a0/\oe.dict=dct)/\oe.data=.fields vs/\vs[1]?=some (.ref T)/\(base.get? T=none/\p T)/\T≠e/\h.get? T=some oT/\(oT.cls=.type "traceback"/\oT.data=.fields ts)/\ts[3]?=some fl
def y5b.at{h base:Heap}{e:Addr}{cls a0:Value}{dct:Option Addr}{p:Addr->Prop}(x:h.y5b base e cls a0 dct p):h.y5a base e cls a0 dct p .none:=x
abbrev y50(base:Heap)(l:List Env)(e:Addr)(cls a0:Value)(dct:Option Addr)(p:Addr->Prop)(fl:Value)(h h':Heap):Prop :=
 base.StaysIn h'/\h'.FunFrames base l/\h'.y5a base e cls a0 dct p fl/\cj e p (l.filterMap (·.frame)) h h'
end Heap
section
variable {M:Model}{A:Around}{E:Value->Shared->Prop}{s:Shared}
abbrev Heap.y4e(base:Heap)(l:List Env)(e:Addr)(cls a0:Value)(dct:Option Addr)(p:Addr->Prop)(h h':Heap):Prop :=
 base.StaysIn h'/\h'.FunFrames base l/\h'.y5b base e cls a0 dct p /\
  cj e p (l.filterMap (·.frame)) h h'
def vw{base:Heap}{env:Env}{outer:List Env}{L e:Addr}{oe:Obj}{vs:Array Value}{head a0:Value}{y180:Bool}{Q:Unit->Shared->Prop}{p:Addr->Prop}(hn:∀T,s.heap.objs.size≤T->p T)
  (hfr:A.frames=some (env::outer)) (hl:s.heap.FunFrames base (env::outer)) (hf:env.frame=some L)
  (he:s.heap.get? e=some oe) (hkb:base.StaysIn s.heap) (hen:base.get? e=none) (hd:oe.data=.fields vs) (hsz:1<vs.size) (h0:vs[0]?=some a0)
  (h:∀h',Heap.y4e base (env::outer) e oe.cls a0 oe.dict p s.heap h'->Q () { s with heap:=h' }) :
  wpAny M A (do let a <- frameOf env;let pl <- entryPlaceOf L y180;let b <- EntryCells.newEntry head a .none (rawInt L) .none pl;setField (.ref e) 1 b) (λ_ s'=>wpAny M A (setFlight (.ref e) none) Q E s') E s:=by
 have hene:e∉(env::outer).filterMap (·.frame):=λhm=>by
  obtain⟨_,o,ho,hnf⟩:=hl.mem hm
  rw [he] at ho;injection ho with ho;subst ho;exact hnf vs hd
 refine zb (wpAny_frameOf_fun hfr hl hf λh₁ hs₁=>?_)
 refine zb (wpAny_entryPlaceOf λpl hpl=>?_)
 unfold EntryCells.newEntry newFields
 refine zb (z2b ?_ (hpl.sizeOk5 _ _ _ _ _))
 have he₁:h₁.get? e=some oe:=(hs₁.2.1 e hene).trans he
 have kb₁:base.StaysIn h₁:=λb o hbo=>(hs₁.2.1 b λhm=>by rw [(hl.mem hm).1] at hbo;cases hbo).trans (hkb b o hbo)
 have he₂:=zd (h:=h₁) { cls:=.type "traceback",dict:=none,data:=.fields ([head,.ref L,.none,rawInt L,.none]++(if pl.isEmpty then List.replicate 6 Value.none else pl)).toArray } he₁
 refine wpAny_setField he₂ hd hsz ?_
 have hTe:h₁.objs.size≠e:=Nat.ne_of_gt (z17 he₁)
 have hd₃:=Obj.data_mapFields hd (·.setIfInBounds 1 (Value.ref h₁.objs.size))
 have he₃:=Heap.get?_update_self (Obj.mapFields (·.setIfInBounds 1 (Value.ref h₁.objs.size))) he₂ (Obj.isFreed_of_fields hd₃)
 have hT₃:=(Heap.get?_update_other (h₁.push { cls:=.type "traceback",dict:=none,data:=.fields ([head,.ref L,.none,rawInt L,.none]++(if pl.isEmpty then List.replicate 6 Value.none else pl)).toArray })
  (Obj.mapFields (·.setIfInBounds 1 (Value.ref h₁.objs.size))) (Ne.symm hTe)).trans (z27 h₁ rfl)
 unfold setFlight
 refine zb (wpAny_field he₃ hd₃ (x:=.ref h₁.objs.size) (by simp [hsz]) ?_)
 rw [if_pos (show (Value.ref h₁.objs.size != Value.none)=true from by simp)]
 refine wpAny_setField hT₃ rfl (by simp only [zc,za,z10,List.length_nil]<;>lia) (h _ ?_)
 have keep:∀b o,b≠e->h₁.get? b=some o ->
   (((h₁.push { cls:=.type "traceback",dict:=none,data:=.fields ([head,.ref L,.none,rawInt L,.none]++(if pl.isEmpty then List.replicate 6 Value.none else pl)).toArray }).update e (Obj.mapFields (·.setIfInBounds 1 (Value.ref h₁.objs.size)))).update h₁.objs.size
    (Obj.mapFields (·.setIfInBounds 3 ((none:Option Addr).elim Value.none λf=>rawInt f)))).get? b=some o:=λb o hbe hb=>by
  have hbT:h₁.objs.size≠b:=Nat.ne_of_gt (z17 hb)
  rw [Heap.get?_update_other _ _ hbT,Heap.get?_update_other _ _ (Ne.symm hbe)]
  exact zd _ hb
 have y231:∀b o,s.heap.get? b=some o->(∀vs,o.data≠.fields vs)->b≠e:=λb o hb hnf q=>by
  rw [q,he] at hb;injection hb with hb;subst hb;exact hnf vs hd
 refine⟨λb o hbo=>keep b o (λq=>by rw [q,hen] at hbo;cases hbo) (kb₁ b o hbo),hl.of_keeps λb o hb hnf=>?_,?_,λb o hb hnf=>?_⟩
 ·obtain⟨sl,hs⟩:=hs₁.2.2 b o hb
  exact⟨_,keep b _ (y231 b o hb hnf) hs,rfl⟩
 ·refine⟨_,_,h₁.objs.size,_,_,?_,⟨Obj.cls_mapFields _ _,by rw [Array.getElem?_setIfInBounds_ne (by decide)];exact h0,Ex _ _⟩,hd₃,by simp [hsz],⟨kb₁.fresh,hn _ (by rw [hs₁.1];exact zf _)⟩,hTe,Heap.get?_update_self _ hT₃ (Obj.isFreed_of_fields (Obj.data_mapFields rfl _)),⟨Obj.cls_mapFields _ _,Obj.data_mapFields rfl _⟩,by first|(simp;done)|(rcases hpl with rfl|⟨_,_,_,_,_,_,_,rfl⟩<;>simp)⟩
  rw [Heap.get?_update_other _ _ hTe];exact he₃
 ·obtain⟨sl,hs⟩:=hs₁.2.2 b o hb
  exact⟨⟨sl,keep b _ hnf.1 hs⟩,λnf=>keep b _ hnf.1 ((hs₁.2.1 b nf).trans hb)⟩
def Ey{base:Heap}{env:Env}{outer:List Env}{L e:Addr}{oe:Obj}{vs:Array Value}{a0:Value}{Q:Unit->Shared->Prop}{p:Addr->Prop}(hn:∀T,s.heap.objs.size≤T->p T)
  (hfr:A.frames=some (env::outer)) (hl:s.heap.FunFrames base (env::outer)) (hf:env.frame=some L)
  (he:s.heap.get? e=some oe) (hkb:base.StaysIn s.heap) (hen:base.get? e=none) (hd:oe.data=.fields vs) (h1:vs[1]?=some .none) (h0:vs[0]?=some a0)
  (h:∀h',Heap.y4e base (env::outer) e oe.cls a0 oe.dict p s.heap h'->Q () { s with heap:=h' }):wpAny M A (leaving env (.ref e)) Q E s:=by
 unfold leaving noteFrame
 simp only [hf]
 refine zb (zb (wpAny_field he hd h1 ?_))
 rw [if_neg (by decide)]
 exact vw hn hfr hl hf he hkb hen hd (Array.getElem?_eq_some_iff.mp h1).1 h0 h
def Ez{base:Heap}{env:Env}{outer:List Env}{L e:Addr}{cls a0:Value}{dct:Option Addr}{p:Addr->Prop}{Q:Unit->Shared->Prop}(hn:∀T,s.heap.objs.size≤T->p T)
  (hfr:A.frames=some (env::outer)) (hl:s.heap.FunFrames base (env::outer)) (hf:env.frame=some L) (ht:s.heap.y5b base e cls a0 dct p) (hkb:base.StaysIn s.heap) (hen:base.get? e=none)
  (h:∀h',Heap.y4e base (env::outer) e cls a0 dct p s.heap h'->Q () { s with heap:=h' }):wpAny M A (leaving env (.ref e)) Q E s:=by
 obtain⟨oe,vs,T,oT,ts,he,⟨y18a,h0,hdc⟩,hd,h1,⟨hnT,hnn⟩,hTe,hT,⟨hcT,hdT⟩,h3⟩:=ht
 subst y18a;subst hdc
 unfold leaving noteFrame
 simp only [hf]
 refine zb (zb (wpAny_field he hd h1 ?_))
 rw [if_pos (show (Value.ref T != Value.none)=true from by simp)]
 refine zb (wpAny_field hT hdT h3 ?_)
 rw [if_neg (show ¬ ((Value.none == rawInt L)=true) from by simp [rawInt])]
 refine zb (wpAny_setField hT hdT (Array.getElem?_eq_some_iff.mp h3).1 ?_)
 have other:∀b,b≠T->(s.heap.update T (Obj.mapFields (·.setIfInBounds 3 Value.none))).get? b=s.heap.get? b:=λb hb=>Heap.get?_update_other _ _ (Ne.symm hb)
 have y231:∀b o,s.heap.get? b=some o->(∀vs,o.data≠.fields vs)->b≠T:=λb o hb hnf q=>by
  rw [q,hT] at hb;injection hb with hb;subst hb;exact hnf ts hdT
 refine vw (p:=p) (λT z=>hn T (z19 (Nat.le_of_eq (Heap.size_update _ _ _).symm) z)) hfr (hl.of_keeps λb o hb hnf=>⟨o,(other b (y231 b o hb hnf)).trans hb,rfl⟩) hf ((other e (Ne.symm hTe)).trans he)
  (λb o hbo=>(other b λq=>by rw [q,hnT] at hbo;cases hbo).trans (hkb b o hbo)) hen hd (Array.getElem?_eq_some_iff.mp h1).1 h0
  λh' ⟨x1,x2,x3,x4⟩=>h h' ⟨x1,x2,x3,λb o hb hnf=>x4 b o ((other b (λq=>by rw [q,hT] at hb;cases hb;exact hnf.2 (by rw [q];exact hnn))).trans hb) hnf⟩
abbrev Heap.y45(base:Heap)(l:List Env)(e:Addr)(cls a0:Value)(dct:Option Addr)(p:Addr->Prop)(h:Heap):Prop :=
 base.StaysIn h/\base.get? e=none/\h.FunFrames base l/\h.y5b base e cls a0 dct p
def EA{base:Heap}{env:Env}{outer:List Env}{L e:Addr}{cls a0:Value}{dct:Option Addr}{p:Addr->Prop}{Q:Unit->Shared->Prop}(hn:∀T,s.heap.objs.size≤T->p T)
  (hfr:A.frames=some (env::outer)) (hf:env.frame=some L) (hfl:Heap.y45 base (env::outer) e cls a0 dct p s.heap)
  (hQ:∀h',Heap.y45 base outer e cls a0 dct p h'->cj e p ((env::outer).filterMap (·.frame)) s.heap h'->Q () { s with heap:=h' }):wpAny M A (leaving env (.ref e)) Q E s:=by
 obtain⟨f1,f2,f3,f4⟩:=hfl
 refine Ez hn hfr f3 hf f4 f1 f2 λh' hL=>?_
 obtain⟨k1,⟨_,_,k2⟩,k3,k4⟩:=hL
 exact hQ h' ⟨k1,f2,k2,k3⟩ k4
def EB{base:Heap}{env:Env}{outer:List Env}{L e:Addr}{oe:Obj}{vs:Array Value}{head a0:Value}{y180:Bool}{Q:Unit->Shared->Prop}{p:Addr->Prop}(hn:∀T,s.heap.objs.size≤T->p T)
  (hfr:A.frames=some (env::outer)) (hl:s.heap.FunFrames base (env::outer)) (hf:env.frame=some L)
  (he:s.heap.get? e=some oe) (hkb:base.StaysIn s.heap) (hen:base.get? e=none) (hd:oe.data=.fields vs) (hsz:1<vs.size) (h0:vs[0]?=some a0)
  (h:∀h',Heap.y50 base (env::outer) e oe.cls a0 oe.dict p (rawInt L) s.heap h'->Q () { s with heap:=h' }) :
  wpAny M A (do let a <- frameOf env;let pl <- entryPlaceOf L y180;let b <- EntryCells.newEntry head a .none (rawInt L) .none pl;setField (.ref e) 1 b) Q E s:=by
 have hene:e∉(env::outer).filterMap (·.frame):=λhm=>by
  obtain⟨_,o,ho,hnf⟩:=hl.mem hm
  rw [he] at ho;injection ho with ho;subst ho;exact hnf vs hd
 refine zb (wpAny_frameOf_fun hfr hl hf λh₁ hs₁=>?_)
 refine zb (wpAny_entryPlaceOf λpl hpl=>?_)
 unfold EntryCells.newEntry newFields
 refine zb (z2b ?_ (hpl.sizeOk5 _ _ _ _ _))
 have he₁:h₁.get? e=some oe:=(hs₁.2.1 e hene).trans he
 have kb₁:base.StaysIn h₁:=λb o hbo=>(hs₁.2.1 b λhm=>by rw [(hl.mem hm).1] at hbo;cases hbo).trans (hkb b o hbo)
 have he₂:=zd (h:=h₁) { cls:=.type "traceback",dict:=none,data:=.fields ([head,.ref L,.none,rawInt L,.none]++(if pl.isEmpty then List.replicate 6 Value.none else pl)).toArray } he₁
 refine wpAny_setField he₂ hd hsz (h _ ?_)
 have hTe:h₁.objs.size≠e:=Nat.ne_of_gt (z17 he₁)
 have hd₃:=Obj.data_mapFields hd (·.setIfInBounds 1 (Value.ref h₁.objs.size))
 have he₃:=Heap.get?_update_self (Obj.mapFields (·.setIfInBounds 1 (Value.ref h₁.objs.size))) he₂ (Obj.isFreed_of_fields hd₃)
 have hT₃:=(Heap.get?_update_other (h₁.push { cls:=.type "traceback",dict:=none,data:=.fields ([head,.ref L,.none,rawInt L,.none]++(if pl.isEmpty then List.replicate 6 Value.none else pl)).toArray })
  (Obj.mapFields (·.setIfInBounds 1 (Value.ref h₁.objs.size))) (Ne.symm hTe)).trans (z27 h₁ rfl)
 have keep:∀b o,b≠e->h₁.get? b=some o ->
   ((h₁.push { cls:=.type "traceback",dict:=none,data:=.fields ([head,.ref L,.none,rawInt L,.none]++(if pl.isEmpty then List.replicate 6 Value.none else pl)).toArray }).update e (Obj.mapFields (·.setIfInBounds 1 (Value.ref h₁.objs.size)))).get? b=some o :=
  λb o hbe hb=>by
   rw [Heap.get?_update_other _ _ (Ne.symm hbe)]
   exact zd _ hb
 have y231:∀b o,s.heap.get? b=some o->(∀vs,o.data≠.fields vs)->b≠e:=λb o hb hnf q=>by
  rw [q,he] at hb;injection hb with hb;subst hb;exact hnf vs hd
 refine⟨λb o hbo=>keep b o (λq=>by rw [q,hen] at hbo;cases hbo) (kb₁ b o hbo),hl.of_keeps λb o hb hnf=>?_,?_,λb o hb hnf=>?_⟩
 ·obtain⟨sl,hs⟩:=hs₁.2.2 b o hb
  exact⟨_,keep b _ (y231 b o hb hnf) hs,rfl⟩
 ·exact⟨_,_,h₁.objs.size,_,_,he₃,⟨Obj.cls_mapFields _ _,by rw [Array.getElem?_setIfInBounds_ne (by decide)];exact h0,Ex _ _⟩,hd₃,by simp [hsz],⟨kb₁.fresh,hn _ (by rw [hs₁.1];exact zf _)⟩,hTe,hT₃,⟨rfl,rfl⟩,by first|(simp;done)|(rcases hpl with rfl|⟨_,_,_,_,_,_,_,rfl⟩<;>simp)⟩
 ·obtain⟨sl,hs⟩:=hs₁.2.2 b o hb
  exact⟨⟨sl,keep b _ hnf.1 hs⟩,λnf=>keep b _ hnf.1 ((hs₁.2.1 b nf).trans hb)⟩
def EC{base:Heap}{env:Env}{outer:List Env}{L e:Addr}{cls a0:Value}{dct:Option Addr}{p:Addr->Prop}{Q:Unit->Shared->Prop}(hn:∀T,s.heap.objs.size≤T->p T)
  (hfr:A.frames=some (env::outer)) (hl:s.heap.FunFrames base (env::outer)) (hf:env.frame=some L) (ht:s.heap.y5b base e cls a0 dct p) (hkb:base.StaysIn s.heap) (hen:base.get? e=none)
  (h:∀h',Heap.y50 base (env::outer) e cls a0 dct p (rawInt L) s.heap h'->Q () { s with heap:=h' }):wpAny M A (noteFrame (.ref e) env) Q E s:=by
 obtain⟨oe,vs,T,oT,ts,he,⟨y18a,h0,hdc⟩,hd,h1,⟨hnT,hnn⟩,hTe,hT,⟨hcT,hdT⟩,h3⟩:=ht
 subst y18a;subst hdc
 unfold noteFrame
 simp only [hf]
 refine zb (wpAny_field he hd h1 ?_)
 rw [if_pos (show (Value.ref T != Value.none)=true from by simp)]
 refine zb (wpAny_field hT hdT h3 ?_)
 rw [if_neg (show ¬ ((Value.none == rawInt L)=true) from by simp [rawInt])]
 refine zb (wpAny_setField hT hdT (Array.getElem?_eq_some_iff.mp h3).1 ?_)
 have other:∀b,b≠T->(s.heap.update T (Obj.mapFields (·.setIfInBounds 3 Value.none))).get? b=s.heap.get? b:=λb hb=>Heap.get?_update_other _ _ (Ne.symm hb)
 have y231:∀b o,s.heap.get? b=some o->(∀vs,o.data≠.fields vs)->b≠T:=λb o hb hnf q=>by
  rw [q,hT] at hb;injection hb with hb;subst hb;exact hnf ts hdT
 refine EB (p:=p) (λT z=>hn T (z19 (Nat.le_of_eq (Heap.size_update _ _ _).symm) z)) hfr (hl.of_keeps λb o hb hnf=>⟨o,(other b (y231 b o hb hnf)).trans hb,rfl⟩) hf ((other e (Ne.symm hTe)).trans he)
  (λb o hbo=>(other b λq=>by rw [q,hnT] at hbo;cases hbo).trans (hkb b o hbo)) hen hd (Array.getElem?_eq_some_iff.mp h1).1 h0
  λh' ⟨x1,x2,x3,x4⟩=>h h' ⟨x1,x2,x3,λb o hb hnf=>x4 b o ((other b (λq=>by rw [q,hT] at hb;cases hb;exact hnf.2 (by rw [q];exact hnn))).trans hb) hnf⟩
def vx{base:Heap}{l:List Env}{e:Addr}{cls a0 fl:Value}{dct:Option Addr}{p:Addr->Prop}{Q:Unit->Shared->Prop}
  (hkb:base.StaysIn s.heap) (hl:s.heap.FunFrames base l) (ht:s.heap.y5a base e cls a0 dct p fl)
  (h:∀h',base.StaysIn h'->h'.FunFrames base l->h'.y5b base e cls a0 dct p->(∀b o,s.heap.get? b=some o->(b≠e/\¬ p b)->h'.get? b=some o)->Q () { s with heap:=h' }) :
  wpAny M A (setFlight (.ref e) none) Q E s:=by
 obtain⟨oe,vs,T,oT,ts,he,y18a,hd,h1,⟨hnT,hnn⟩,hTe,hT,⟨hcT,hdT⟩,h3⟩:=ht
 have hsz3:3<ts.size:=(Array.getElem?_eq_some_iff.mp h3).1
 have other:∀b,b≠T->(s.heap.update T (Obj.mapFields (·.setIfInBounds 3 ((none:Option Addr).elim Value.none λf=>rawInt f)))).get? b=s.heap.get? b :=
  λb hb=>Heap.get?_update_other _ _ (Ne.symm hb)
 have y231:∀b o,s.heap.get? b=some o->(∀vs,o.data≠.fields vs)->b≠T:=λb o hb hnf q=>by
  rw [q,hT] at hb;injection hb with hb;subst hb;exact hnf ts hdT
 unfold setFlight
 refine zb (wpAny_field he hd h1 ?_)
 rw [if_pos (show (Value.ref T != Value.none)=true from by simp)]
 refine wpAny_setField hT hdT hsz3 (h _ (λb o hbo=>(other b λq=>by rw [q,hnT] at hbo;cases hbo).trans (hkb b o hbo))
  (hl.of_keeps λb o hb hnf=>⟨o,(other b (y231 b o hb hnf)).trans hb,rfl⟩) ?_ λb o hb hnf=>(other b (λq=>by rw [q,hT] at hb;cases hb;exact hnf.2 (by rw [q];exact hnn))).trans hb)
 exact⟨oe,vs,T,_,_,(other e (Ne.symm hTe)).trans he,y18a,hd,h1,⟨hnT,hnn⟩,hTe,Heap.get?_update_self _ hT (Obj.isFreed_of_fields (Obj.data_mapFields hdT _)),⟨(Obj.cls_mapFields _ _).trans hcT,Obj.data_mapFields hdT _⟩,by simp [hsz3]⟩
abbrev Heap.y4a(base:Heap)(l:List Env)(e:Addr)(cls a0:Value)(dct:Option Addr)(p:Addr->Prop)(L:Addr)(h:Heap):Prop :=
 base.StaysIn h/\base.get? e=none/\h.FunFrames base l/\h.y5a base e cls a0 dct p (rawInt L)
def ED{base:Heap}{env:Env}{outer:List Env}{L e:Addr}{cls a0:Value}{dct:Option Addr}{p:Addr->Prop}{Q:Unit->Shared->Prop}(hn:∀T,s.heap.objs.size≤T->p T)
  (hfr:A.frames=some (env::outer)) (hf:env.frame=some L) (hfl:Heap.y45 base (env::outer) e cls a0 dct p s.heap)
  (hQ:∀h',Heap.y4a base (env::outer) e cls a0 dct p L h'->cj e p ((env::outer).filterMap (·.frame)) s.heap h'->Q () { s with heap:=h' }):wpAny M A (noteFrame (.ref e) env) Q E s:=by
 obtain⟨f1,f2,f3,f4⟩:=hfl
 refine EC hn hfr f3 hf f4 f1 f2 λh' hN=>?_
 obtain⟨k1,k2,k3,k4⟩:=hN
 exact hQ h' ⟨k1,f2,k2,k3⟩ k4
def EE{base:Heap}{l:List Env}{e L:Addr}{cls a0:Value}{dct:Option Addr}{p:Addr->Prop}{Q:Unit->Shared->Prop}(hh:Heap.y4a base l e cls a0 dct p L s.heap)
  (hQ:∀h',Heap.y45 base l e cls a0 dct p h'->cj e p [] s.heap h'->Q () { s with heap:=h' }):wpAny M A (setFlight (.ref e) none) Q E s:=by
 obtain⟨f1,f2,f3,f4⟩:=hh
 exact vx f1 f3 f4 λh' k1 k2 k3 k4=>hQ h' ⟨k1,f2,k2,k3⟩ λb o hb hn=>⟨⟨o.slots,k4 b o hb hn⟩,λ_=>k4 b o hb hn⟩
end
end PySem
namespace L2
open PySem PySem.Spec PyProof.Rows
section
abbrev iq(x C:Addr)(dct:Option Addr)(new:Bool):Heap->Prop:=λh=>∃o vs a0,h.get? x=some o/\o.cls=.ref C/\o.dict=dct/\o.data=.fields vs/\vs[0]?=some a0/\1<vs.size/\(new=true->vs[1]?=some .none)
noncomputable abbrev cI(x C:Addr)(dct:Option Addr)(new:Bool):HO:=.ext (iq x C dct new)
def l8{P:Program}{w:World}{H:Hp}{h:Heap}{x C:Addr}{dct:Option Addr}{new:Bool}(e:iq x C dct new h):dR P w H h x (cI x C dct new):=by
 obtain⟨o,vs,a0,h1,h2⟩:=id e
 exact⟨e,⟨o,h1⟩,λa b ⟨o',vs',a0',q1,q2⟩ k=>⟨o',vs',a0',k _ q1,q2⟩⟩
structure y5f(K:W.Frag)(C f:Addr)(B newId nid y1a3 inN:String)(bmB bmN:List Value):Prop where
 fn:ExcBaseFacts B newId inN bmN
 hB:bmB.contains (.type B)=true
 fb:ExcBaseFacts B nid y1a3 bmB
 cls:∀h:Heap,K.In h->∃nm q N bs bm y18c sn sub ab col dd k0 k1 k2 k3 k5 mN,h.get? C=some (excClassObj nm q C N bs bm y18c sn sub ab col dd k0 k1 k2 k3 k5 newId)/\h.Ns N mN/\mN "__init__" = some (.ref f)/\OwnTail h bmB bm
 fun_:∀h:Heap,K.In h->∃o,h.get? f=some o/\o.cls=.type "function"
section
variable {X:Cx}{CX:gI}{k:Nat}{f C:Addr}{fd:FuncData}{ps:List Str}{sp:Sp}{dvs:List V}{ds:List Value}{E:XK}{B newId nid y1a3 inN:String}{bmB bmN:List Value}
def Inv.exNew{pins:List (Addr×Obj)}{σ:St}{H:Hp}{s:Shared}(I:Inv X pins σ H s)(us:List Value):Inv X pins σ (aC H (s.heap.objs.size+1) (cI (s.heap.objs.size+1) C none true)) { s with heap:=gw s.heap C us }:=by
 have:=I.laid (h':=gw s.heap C us) (a:=s.heap.objs.size+1) (o:=cI (s.heap.objs.size+1) C none true) (t':=s.toks) (λb u e=>zd _ (zd _ e)) (Nat.le_succ _)
  (l8 ⟨_,_,_,(by unfold gw;heap_get:(gw s.heap C us).get? (s.heap.objs.size+1)=some { cls:=.ref C,data:=.fields #[.ref s.heap.objs.size,.none,.none,.none,.bool false,.none] }),rfl,rfl,rfl,rfl,by simp,λ_=>rfl⟩)
 exact this
def EF{pins:List (Addr×Obj)}{σ:St}{H:Hp}{s:Shared}{Q:VK}{us:List Value}{vs:List V}(M:y5f X.K C f B newId nid y1a3 inN bmB bmN)(F:y46 X.prog X.w X.K X.mg X.base CX k f fd ps sp)(hr:y55 (k+1) X.A)(hb:cX X.K fd ps ds)(hd:au dvs ds)
  (hx:bN CX X E) (I:Inv X pins σ H s) (r:au vs us) (hz:us.length≤sizeLine)
  (h:∀x,H x=none->sp (.ref x::(vs++dvs)) (aC H x (cI x C none true)) (λv H2=>v=.non/\Q (.ref x) H2) E) :
  wpAny (model X.prog X.w) X.A (call (.ref C) us) (EP X pins σ Q) X.xe s:=by
 have hq:=h (s.heap.objs.size+1) (I.hok.fresh (Nat.le_succ _))
 have I2:=Inv.exNew (C:=C) I us
 have r2:au (V.ref (s.heap.objs.size+1)::(vs++dvs)) (Value.ref (s.heap.objs.size+1)::(us++ds)):=.cons rfl (r.append hd)
 have hl:(Value.ref (s.heap.objs.size+1)::us++ds).length=ps.length:=by
  have e:=r2.length
  rw [F.len _ _ _ _ hq] at e
  exact e.symm
 obtain⟨nm,q,N,bs,bm,y18c,sn,sub,ab,col,dd,k0,k1,k2,k3,k5,mN,hC,hn,hi,T⟩:=M.cls _ I.kIn
 have hc:=F.run _ X.stack _ _ ⟨Value.ref (s.heap.objs.size+1)::us,[]⟩ (Value.ref (s.heap.objs.size+1)::(us++ds)) _ _ E (hr.make C us [])
  (I2.env0.make C us []) (hb _ (Value.ref (s.heap.objs.size+1)::us) I2.kIn hl) r2 hq
 obtain⟨hh,g,d,t,os⟩:=s
 refine ya6 (hrest:=hz) M.fn M.hB M.fb T hC hn hi (M.fun_ _ I.kIn) (codeAny_mono hc λr s' hq'=>?_)
 cases r with
 | error e=>exact hx pins σ _ _ e s' I2 hq'
 | ok fl =>
  cases fl with
  | ret u =>
   obtain⟨v,H',I3,rv,ev,q3⟩:=I2.after hq'
   subst ev
   exact⟨rv,⟨V.ref (hh.objs.size+1),H',I3,rfl,q3⟩⟩
  | next=>exact False.elim hq'
  | brk=>exact False.elim hq'
  | cont=>exact False.elim hq'
end
end
end L2
namespace PySem
section
variable {prog:Program}{w:World}{A:Around}{E:Value->Shared->Prop}{h:Heap}{g:Array GenState}{d:Drawn}{t:Nat}{os:OsState}
variable {nm q:Str}{C N:Addr}{bs bm bmB:List Value}{y18c:Bool}{sn:List Str}{sub:List Value}{ab:Bool}{col:Option Bool}{dd:Option Addr}{k0 k1 k2 k3 k5:Option Value}{B newId nid y1a3:String}
def EG(F:ExcBaseFacts B nid y1a3 bmB)(T:OwnTail h bmB bm){x:Addr}{oe:Obj}{vs:Array Value}{aG:List Value}{Q:Value->Shared->Prop}
  (hC:h.get? C=some (excClassObj nm q C N bs bm y18c sn sub ab col dd k0 k1 k2 k3 k5 newId)) (he:h.get? x=some oe) (y18a:oe.cls=.ref C) (hd:oe.data=.fields vs) (hz:0<vs.size) (hrest:aG.length≤sizeLine)
  (hq:Q .none ⟨(h.push { cls:=.type "tuple",data:=.seq aG.toArray }).update x (Obj.mapFields (·.setIfInBounds 0 (.ref h.objs.size))),g,d,t,os⟩) :
  wpAny (model prog w) A (call (.builtin y1a3) (.ref x::aG)) Q E ⟨h,g,d,t,os⟩:=by
 refine wpAny_call (codeAny_call_builtin F.init.plain F.initEntry (wpAny_check_init_subU F T hC he y18a ?_))
 wp_walk
 rw [hd]
 refine ze ?_
 obtain⟨y,hy⟩:∃y,vs[0]?=some y:=⟨_,Array.getElem?_eq_getElem hz⟩
 rw [hy]
 refine ze ?_
 have he₁:(h.push { cls:=.type "tuple",data:=.seq aG.toArray }).get? x=some oe:=zd _ he
 refine zb (wpAny_setField he₁ hd hz ?_)
 have key:wpAny (model prog w) A.in1 (match y with | .ref _=>letGo [y]|_=>pure ()) (λ_ s'=>s'=⟨(h.push { cls:=.type "tuple",data:=.seq aG.toArray }).update x (Obj.mapFields (·.setIfInBounds 0 (.ref h.objs.size))),g,d,t,os⟩) E ⟨(h.push { cls:=.type "tuple",data:=.seq aG.toArray }).update x (Obj.mapFields (·.setIfInBounds 0 (.ref h.objs.size))),g,d,t,os⟩:=by
  cases y<;>first|exact ze rfl|exact wpAny_letGo rfl
 refine wpAny_mono key (λ_ s' e=>?_) λ_ _ z=>z
 subst e
 exact ze hq
end
end PySem
namespace L2
open PySem PySem.Spec PyProof.Rows
section
abbrev oX(dx:Addr)(fs:List (Str×V)):Heap->Prop:=λh=>fs.length≤1000/\∃mA,h.Ns1 dx mA/\(∀f,ib (fs.lookup f) (mA f))/\PySem.Within mA (fs.map (·.1))
noncomputable abbrev fI(dx:Addr)(fs:List (Str×V)):HO:=.ext (oX dx fs)
def vy{P:Program}{w:World}{H:Hp}{h:Heap}{dx:Addr}{fs:List (Str×V)}(e:oX dx fs h):dR P w H h dx (fI dx fs):=by
 obtain⟨_,_,⟨o,_,_,q,_⟩,_⟩:=id e
 exact⟨e,⟨o,q⟩,λa b ⟨l,mA,⟨o',es,ep,q1,q2⟩,r⟩ k=>⟨l,mA,⟨o',es,ep,k _ q1,q2⟩,r⟩⟩
structure XA(K:W.Frag)(C:Addr):Prop where
 ga:W.findIn K (.ref C) "__getattribute__" = some (some (.builtin "BaseException.__getattribute__"))
 gt:W.findIn K (.ref C) "__getattr__" = some none
 sa:W.findIn K (.ref C) "__setattr__" = some (some (.builtin "object.__setattr__"))
 cd:∃cd,W.clsIn K C=some cd/\cd.hasDict=true/\cd.mro.contains (.type "object")=true/\cd.mro.contains (.type "BaseException")=true/\∀self,refuseLoop self "__setattr__" cd.mro=pure ()
section
variable {prog:Program}{w:World}{A:Around}{E:Value->Shared->Prop}{s:Shared}{K:W.Frag}{x C:Addr}{name:Str}{v:Value}{ox:Obj}{od:Option Obj}
open PySem.W in
def vA{tk:Tok}{R:Result->Shared->Prop}(X:K.In s.heap)(I:InstAt s.heap x ox C od)(c:XA K C)(n:ig K C name)
  (h:wpAny (model prog w) A.in1 (Builtin.ObjectAttr.storeInOwnDict (.ref x) (.ref C) (.str name tk) name v false)
   (λfin s'=>match fin with | .done f=>R (.ok f) s' | .again c'=>c'.quiet=true/\codeAny (model prog w) A c' R s') (λe s'=>R (.error e) s') s) :
  codeAny (model prog w) A (.call (.builtin "object.__setattr__") ⟨[.ref x,.str name tk,v],[]⟩) R s:=by
 have SF:=PySem.F.store_object
 obtain⟨cd,hc,_,ho,_,hp⟩:=c.cd
 have ne:cd.mro.isEmpty=false:=by cases q:cd.mro with|nil=>rw [q] at ho;simp at ho|cons _ _=>rfl
 have sub:Looks (model prog w) s.heap (isInstance (.ref x) (.type "object")) true:=I.type.andThen (looks_mroIn X (by unfold mroIn;rw [hc,Option.bind_some,if_neg (by rw [ne];decide),ho]))
 refine codeAny_call_builtin SF.slot.plain SF.entry (@check_slot (model prog w) _ _ s "object.__setattr__" "object" "__setattr__" (.ref x) [.str name tk,v] [] _ SF.kind SF.split sub (SF.args (.ref x) (.str name tk) v) ?_)
 have hm:Looks (model prog w) s.heap (mroOf (.ref C)) cd.mro:=(looks_clsIn X hc).andThen .now
 rw [osa_eq,refuse_eq]
 refine zb (zb (I.type.here (zb (hm.here ?_))))
 rw [hp]
 exact ze (zb (I.type.here (zb ((looks_findIn X n).here (zb (ze h))))))
open PySem.W in
def vB{vs:Array Value}{Q:Unit->Shared->Prop}(X:K.In s.heap)(hx:s.heap.get? x=some ox)(hc:ox.cls=.ref C)(hd:ox.data=.fields vs)(hn:ox.dict=none)(c:XA K C)(n:ig K C name)
  (h:∀h',h'.Ns1 s.heap.objs.size (λy=>if y=name then some v else none)->h'.get? x=some { ox with dict:=some s.heap.objs.size } ->
   (∀b o,b≠x->s.heap.get? b=some o->h'.get? b=some o)->Q () { s with heap:=h',toks:=s.toks+2 }) :
  wpAny (model prog w) A (setAttr (.ref x) name v) Q E s:=by
 obtain⟨oc,odi,oda,osl⟩:=ox
 dsimp only at hc hd hn
 subst hc hd hn
 have I:InstAt s.heap x ⟨.ref C,none,.fields vs,osl⟩ C none:=⟨hx,rfl,rfl,trivial⟩
 refine set_plain X I c.sa (vA (s:={ s with toks:=s.toks+1 }) X I c n ?_)
 obtain⟨cd,hcl,hd',_⟩:=c.cd
 have hx₁:(s.heap.push { cls:=.type "dict",data:=.dict #[] }).get? x=some ⟨.ref C,none,.fields vs,osl⟩:=zd _ hx
 have hxs:x≠s.heap.objs.size:=z26 (z17 hx)
 refine zb (ze (zb (zb (wpAny_loadPart hx (zb (Looks.here (s:={ s with toks:=s.toks+1 }) (looks_clsIn X hcl) ?_))))))
 rw [hd']
 refine zb (wpAny_alloc' ?_)
 refine zb (wpAny_update' hx₁ ?_)
 refine ze ?_
 have hgd:((s.heap.push { cls:=.type "dict",data:=.dict #[] }).update x λo=>{ o with dict:=some s.heap.objs.size }).get? s.heap.objs.size=some { cls:=.type "dict",data:=.dict #[] } :=
  (Heap.get?_update_ne _ _ _ _ hxs.symm).trans (Heap.get?_push_at rfl rfl)
 have hnd:((s.heap.push { cls:=.type "dict",data:=.dict #[] }).update x λo=>{ o with dict:=some s.heap.objs.size }).Ns s.heap.objs.size (λ_=>none) :=
  ⟨_,#[],_,hgd,rfl,λe he=>absurd he (by simp),λ_=>rfl⟩
 show wpAny _ _ (Builtin.ObjectAttr.storeInDict s.heap.objs.size (.str name _) name v) _ _ _
 unfold Builtin.ObjectAttr.storeInDict Builtin.ObjectAttr.newKeyGuard
 refine zb (ze (zb (wpAny_nsSet1 (Heap.Ns1.of_empty hnd) λh' hn' hs=>?_)))
 obtain⟨oD,esD,epD,hoD,hdD,hcD⟩:=hn'.count (Within.cons name v Within.nil)
 refine zb (wpAny_lookBehind hoD (by rw [hdD];exact pastItsLine_dict (z19 hcD (by rw [z10,List.length_nil,sizeLine_eq];lia))) ?_)
 refine ze (h h' hn' ?_ λb ob hbx hb=>?_)
 ·exact (hs.2 x hxs).trans (Heap.get?_update_self _ hx₁ rfl)
 ·exact (hs.2 b (z26 (z17 hb))).trans ((Heap.get?_update_ne _ _ _ _ hbx).trans (zd _ hb))
open PySem.W in
def vC{vs:Array Value}{dx:Addr}{mA:Str->Option Value}{ns:List Str}{Q:Unit->Shared->Prop}(X:K.In s.heap)(hx:s.heap.get? x=some ox)(hc:ox.cls=.ref C)(hd:ox.data=.fields vs)(hn:ox.dict=some dx)(hm:s.heap.Ns1 dx mA)
  (hw:Within mA ns) (hsz:ns.length≤sizeLine) (c:XA K C) (n:ig K C name)
  (h:∀h',h'.Ns1 dx (λy=>if y=name then some v else mA y)->Heap.SameBut dx s.heap h'->Q () { s with heap:=h',toks:=s.toks+2 }) :
  wpAny (model prog w) A (setAttr (.ref x) name v) Q E s:=by
 obtain⟨oc,odi,oda,osl⟩:=ox
 dsimp only at hc hd hn
 subst hc hd hn
 obtain⟨oo,hoo,_⟩:=kR hm
 have I:InstAt s.heap x ⟨.ref C,some dx,.fields vs,osl⟩ C (some oo):=⟨hx,rfl,rfl,hoo⟩
 refine set_plain X I c.sa (vA (s:={ s with toks:=s.toks+1 }) X I c n ?_)
 obtain⟨cd,hcl,hd',_⟩:=c.cd
 refine zb (ze (zb (zb (wpAny_loadPart hx (zb (Looks.here (s:={ s with toks:=s.toks+1 }) (looks_clsIn X hcl) ?_))))))
 rw [hd']
 refine ze (a:=some dx) (zb (ze (zb ?_)))
 refine wpAny_nsSet1 (s:={ s with toks:=s.toks+1 }) hm λh' hn2 hs2=>?_
 obtain⟨oD,esD,epD,hoD,hdD,hcD⟩:=hn2.count (PySem.Within.cons name v hw)
 refine zb (wpAny_lookBehind hoD (by rw [hdD];exact pastItsLine_dict (z19 hcD (by rw [z10];lia))) ?_)
 exact ze (h _ hn2 hs2)
open PySem.W in
def EH{vs:Array Value}{dx:Addr}{mA:Str->Option Value}{b:Bool}{Q:Value->Shared->Prop}(X:K.In s.heap)(hx:s.heap.get? x=some ox)(hc:ox.cls=.ref C)(hd:ox.data=.fields vs)(hn:ox.dict=some dx)(hm:s.heap.Ns1 dx mA)
  (c:XA K C) (n:ig K C name) (hv:mA name=some v) (hh:handedIn v=true) (h:Q v { s with toks:=s.toks+1 }) :
  wpAny (model prog w) A (getAttr (.ref x) name b) Q E s:=by
 obtain⟨oc,odi,oda,osl⟩:=ox
 dsimp only at hc hd hn
 subst hc hd hn
 obtain⟨oo,hoo,hl⟩:=kR hm
 have I:InstAt s.heap x ⟨.ref C,some dx,.fields vs,osl⟩ C (some oo):=⟨hx,rfl,rfl,hoo⟩
 obtain⟨cd,hcl,hd',ho,hb,_⟩:=c.cd
 have ne:cd.mro.isEmpty=false:=by cases q:cd.mro with|nil=>rw [q] at ho;simp at ho|cons _ _=>rfl
 have hf:findObj K C (some oo) name=some (.value v):=findObj_own (attr:=none) (by unfold hasDictIn;rw [hcl];exact hd') n rfl (by rw [hl,hv])
 have L0:=I.type (M:=model prog w)
 have L1:=looks_findIn (M:=model prog w) X c.ga
 have L2:=looks_findIn (M:=model prog w) X c.gt
 have L3:=looks_find (M:=model prog w) X I hf
 have sub:Looks (model prog w) s.heap (isInstance (.ref x) (.type "BaseException")) true:=L0.andThen (looks_mroIn X (by unfold mroIn;rw [hcl,Option.bind_some,if_neg (by rw [ne];decide),hb]))
 obtain⟨hh',g,d,t,os⟩:=s
 unfold getAttr getAttrBy
 refine zb (wpAny_mkText (wpAny_holding (zb (L0.at (zb (L1.at ?_))))))
 show wpAny _ _ (getAttrByItsOwn _ _ _ _ _ _) _ _ _
 refine zb (L2.at (zb ?_))
 have hx0:(b&&onTheHeap (Value.builtin "BaseException.__getattribute__"))=false:=by cases b<;>rfl
 have hk:builtinKind "BaseException.__getattribute__" = some .slot:=by decide +kernel
 have y197:splitId "BaseException.__getattribute__" = some ("BaseException","__getattribute__"):=by decide +kernel
 have FA:=PySem.F.excAttr_ValueError.ga
 refine wpAny_attempt (wpAny_holding ?_)
 unfold callGetattribute
 rw [if_neg (by rw [hx0];decide)]
 unfold boundAndCalled
 rw [FA.bind]
 refine zb (ze (wpAny_call (codeAny_call_builtin FA.plain F.entry_bexc_ga (@check_slot (model prog w) _ _ _ "BaseException.__getattribute__" "BaseException" "__getattribute__" (.ref x) [.str name t] [] _ hk y197 sub (F.args_bexc_ga _ _) ?_))))
 refine zb (ze (zb (ze (zb (L0.at (zb (L3.at ?_)))))))
 refine ze ?_
 show wpAny _ _ (handedOut v) _ _ _
 rw [handedOut_of hh];exact ze h
end
end
section
section
variable {X:Cx}{pins:List (Addr×Obj)}{σ:St}{H:Hp}{s:Shared}{a C dx:Addr}{fs:List (Str×V)}{f:Str}{v:V}{A:Around}{E:Value->Shared->Prop}{new:Bool}
def fJ{P:Program}{w:World}{h:Heap}{dct:Option Addr}(hok:cP P w H h)(e:H a=some (cI a C dct new)):iq a C dct new h:=(hok a _ e).1
def l9{P:Program}{w:World}{h:Heap}(hok:cP P w H h)(e:H dx=some (fI dx fs)):oX dx fs h:=(hok dx _ e).1
def EI{b:Bool}{Q:Value->Shared->Prop}(I:Inv X pins σ H s)(e:H a=some (cI a C (some dx) new))(ed:H dx=some (fI dx fs))(c:XA X.K C)(n:ig X.K C f)(l:fs.lookup f=some v)
  (h:∀u s',Inv X pins σ H s'->aA v u->Q u s'):wpAny (model X.prog X.w) A (getAttr (.ref a) f b) Q E s:=by
 obtain⟨o,vs,a0,h1,h2,h3,h4,_⟩:=fJ I.hok e
 obtain⟨_,mA,hm,r,_⟩:=l9 I.hok ed
 obtain⟨u,hu,ru⟩:=ib.some_of (v:=v) (o:=mA f) (by rw [<- l];exact r f)
 exact EH I.kIn h1 h2 h4 h3 hm c n hu (Ax ru) (h u _ (I.tok _) ru)
def EJ{y:V}{u:Value}{Q:Unit->Shared->Prop}(I:Inv X pins σ H s)(e:H a=some (cI a C (some dx) new))(ed:H dx=some (fI dx fs))(c:XA X.K C)(n:ig X.K C f)(hl:fs.length<1000)(ry:aA y u)
  (h:∀s',Inv X pins σ (aC H dx (fI dx (cS f y fs))) s'->Q () s'):wpAny (model X.prog X.w) A (setAttr (.ref a) f u) Q E s:=by
 obtain⟨o,vs,a0,h1,h2,h3,h4,_⟩:=fJ I.hok e
 obtain⟨_,mA,hm,r,wi⟩:=l9 I.hok ed
 have hz:(fs.map (·.1)).length≤sizeLine:=by rw [z12,sizeLine_eq];lia
 refine vC I.kIn h1 h2 h4 h3 hm wi hz c n λh' O' sb=>h _ ?_
 have hd:∃o,h'.get? dx=some o:=let ⟨o,_,_,e',_⟩:=O';⟨o,e'⟩
 refine I.write (x:=dx) (e:=dx) (by rw [ed];exact True.intro) (.inl rfl) (λb q hb z=>(sb.2 b hb).trans z) hd (vy ⟨?_,_,O',λg=>?_,λg hg=>?_⟩)
 ·have:=qY f y fs;lia
 ·show ib ((cS f y fs).lookup g) (if g=f then some u else mA g)
  rw [qX]
  by_cases q:g=f
  ·rw [if_pos q,if_pos q];exact ry
  ·rw [if_neg q,if_neg q];exact r g
 ·by_cases q:g=f
  ·rw [q];exact (nJ f y fs).1
  ·refine (nJ f y fs).2 g (wi g λz=>hg ?_)
   show (if g=f then some u else mA g)=none
   rw [if_neg q];exact z
def EK{y:V}{u:Value}{Q:Unit->Shared->Prop}(I:Inv X pins σ H s)(e:H a=some (cI a C none new))(c:XA X.K C)(n:ig X.K C f)(ry:aA y u)
  (h:∀dx s',H dx=none->Inv X pins σ (aC (aC H dx (fI dx [(f,y)])) a (cI a C (some dx) new)) s'->Q () s'):wpAny (model X.prog X.w) A (setAttr (.ref a) f u) Q E s:=by
 obtain⟨o,vs,a0,h1,h2,h3,h4,h5,h6,h7⟩:=fJ I.hok e
 refine vB I.kIn h1 h2 h4 h3 c n λh' O' hx' sb=>?_
 have fr:=I.hok.fresh (zf s.heap.objs.size)
 have hne:s.heap.objs.size≠a:=λz=>by rw [<- z,fr] at e;cases e
 refine h s.heap.objs.size _ fr ?_
 obtain⟨oD,es,ep,g1,g2⟩:=id O'
 have gf:oD.isFreed=false:=(Heap.get?_some_iff.mp g1).2
 have q1:(s.heap.push oD).get? s.heap.objs.size=some oD:=Heap.get?_push_at rfl gf
 have I1:=I.laid (h':=s.heap.push oD) (a:=s.heap.objs.size) (o:=fI s.heap.objs.size [(f,y)]) (t':=s.toks) (λb u q=>zd _ q) (zf _)
  (vy ⟨by simp,_,⟨oD,es,ep,q1,g2⟩,λg=>(by
   show ib (List.lookup g [(f,y)]) (if g=f then some u else none)
   by_cases q:g=f
   ·have hb:(g == f)=true:=beq_iff_eq.mpr q
    rw [if_pos q];simp only [List.lookup,hb];exact ry
   ·have hb:(g == f)=false:=beq_eq_false_iff_ne.mpr q
    rw [if_neg q];simp only [List.lookup,hb];trivial),λg hg=>(by
   by_cases q:g=f
   ·rw [q];simp
   ·exact absurd (show (if g=f then some u else none)=none from if_neg q) hg)⟩)
 have e1:aC H s.heap.objs.size (fI s.heap.objs.size [(f,y)]) a=some (cI a C none new):=by rw [aM hne.symm];exact e
 refine I1.write (x:=a) (e:=a) (by rw [e1];exact True.intro) (.inl rfl) (λb q hb z=>?_) ⟨_,hx'⟩ (l8 ⟨_,vs,a0,hx',h2,rfl,h4,h5,h6,h7⟩)
 by_cases q2:b=s.heap.objs.size
 ·subst q2;rw [q1] at z;cases z;exact g1
 ·refine sb b q hb ?_
  have:(s.heap.push oD).get? b=s.heap.get? b:=Heap.get?_push_ne _ _ _ q2
  rw [<- this];exact z
end
abbrev EL(K:W.Frag)(ta:TE)(f:Str):TE:=λσ H Q=>ta σ H λx H1=>∃a C dx fs v new,x=.ref a/\H1 a=some (cI a C (some dx) new)/\H1 dx=some (fI dx fs)/\XA K C/\ig K C f/\fs.lookup f=some v/\Q v H1
abbrev EM(K:W.Frag)(ta tv:TE)(f:Str):TS:=λD σ H=>tv σ H λy H1=>ta σ H1 λx H2=>∃a C new,x=.ref a/\H2 a=some (cI a C none new)/\XA K C/\ig K C f /\
 ∀dx,H2 dx=none->D.nx σ (aC (aC H2 dx (fI dx [(f,y)])) a (cI a C (some dx) new))
abbrev sXF(K:W.Frag)(ta tv:TE)(f:Str):TS:=λD σ H=>tv σ H λy H1=>ta σ H1 λx H2=>∃a C dx fs new,x=.ref a/\H2 a=some (cI a C (some dx) new)/\H2 dx=some (fI dx fs)/\XA K C/\ig K C f/\fs.length<1000 /\
 D.nx σ (aC H2 dx (fI dx (cS f y fs)))
section
variable {X:Cx}{o e value:Expr}{f:Str}{pos pos' tpos:Pos}{ta tv:TE}
def vD(he:PE X e ta)(hb:attributeBase e f X.env (eval e X.env)=eval e X.env):PE X (.Attribute e f pos) (EL X.K ta f):=by
 intro pins s σ H Q I h
 refine y80 hb (aJ (he pins s σ H _ I h) λu s1 zz=>?_)
 obtain⟨x,H1,I1,rx,a,C,dx,fs,v,new,ex,ea,ed,c,n,l,q⟩:=zz
 subst ex
 obtain rfl:u=Value.ref a:=rx
 exact EI I1 ea ed c n l λu' s2 I2 ru=>⟨v,H1,I2,ru,q⟩
def EN(ha:PE X o ta)(hv:PE X value tv)(hs:swapsWith value (some (.Attribute o f pos')) pos.line X.env=pure false):PS X (.Assign [.Attribute o f pos'] value pos) (EM X.K ta tv f):=by
 intro pins s σ H D I h
 refine plainObj_wpAny_Assign_Attribute (aJ (hv pins s σ H _ I h) λu s1 ⟨y,H1,I1,ry,q⟩=>aJ (ha pins s1 σ H1 _ I1 q) λov s2 ⟨x,H2,I2,rx,a,C,new,ex,ea,c,n,q2⟩=>?_) hs
 subst ex
 obtain rfl:ov=Value.ref a:=rx
 exact EK I2 ea c n ry λdx s3 hd I3=>⟨σ,_,I3,q2 dx hd⟩
def EO(ha:PE X o ta)(hv:PE X value tv)(hs:swapsWith value (some (.Attribute o f pos')) pos.line X.env=pure false):PS X (.Assign [.Attribute o f pos'] value pos) (sXF X.K ta tv f):=by
 intro pins s σ H D I h
 refine plainObj_wpAny_Assign_Attribute (aJ (hv pins s σ H _ I h) λu s1 ⟨y,H1,I1,ry,q⟩=>aJ (ha pins s1 σ H1 _ I1 q) λov s2 ⟨x,H2,I2,rx,a,C,dx,fs,new,ex,ea,ed,c,n,l,q2⟩=>?_) hs
 subst ex
 obtain rfl:ov=Value.ref a:=rx
 exact EJ I2 ea ed c n l ry λs3 I3=>⟨σ,_,I3,q2⟩
end
end
section
def oY{H:Hp}{a:Addr}{o:HO}(e:H a=some o):aC H a o=H:=by
 funext b;unfold aC;split
 ·rename_i q;rw [q,e]
 ·rfl
structure y13(K:W.Frag)(B0:Addr)(y1a3:String):Prop where
 rd:W.readsIn K B0 (.type "type")=true
 fd:W.findCls K (.ref B0) (.type "type") "__init__" = some (.val (.builtin y1a3))
 ga:W.specialIn K (.ref B0) "__getattribute__" = some (some (.builtin "type.__getattribute__"))
 hh:W.handedIn (.builtin y1a3)=true
abbrev tXI(C:Addr)(t:TA):TE:=λσ H Q=>t σ H λvs H1=>∃a aG new dct,vs=.ref a::aG/\aG.length≤sizeLine/\H1 a=some (cI a C dct new)/\Q .non H1
section
variable {X:Cx}{f C B0:Addr}{B newId nid y1a3 inN:String}{bmB bmN:List Value}{x:Str}{p pos apos:Pos}{e:Expr}{es:List Expr}{t:TA}
def ER{pins:List (Addr×Obj)}{σ:St}{H:Hp}{s:Shared}{a:Addr}{dct:Option Addr}{new:Bool}{us:List Value}{A:Around}{E:Value->Shared->Prop}{Q:Value->Shared->Prop}(M:y5f X.K C f B newId nid y1a3 inN bmB bmN)
  (I:Inv X pins σ H s) (e:H a=some (cI a C dct new)) (hz:us.length≤sizeLine) (h:∀s',Inv X pins σ H s'->Q .none s'):wpAny (model X.prog X.w) A (call (.builtin y1a3) (.ref a::us)) Q E s:=by
 obtain⟨o,vs,a0,h1,h2,h3,h4,h5,h6,h7⟩:=fJ I.hok e
 obtain⟨nm,q,N,bs,bm,y18c,sn,sub,ab,col,dd,k0,k1,k2,k3,k5,mN,hC,hn,hi,T⟩:=M.cls _ I.kIn
 have I1:=I.kept (h':=s.heap.push { cls:=.type "tuple",data:=.seq us.toArray }) (t':=s.toks) (λb u q=>zd _ q)
 have he₁:(s.heap.push { cls:=.type "tuple",data:=.seq us.toArray }).get? a=some o:=zd _ h1
 have hd₃:=Obj.data_mapFields h4 (·.setIfInBounds 0 (Value.ref s.heap.objs.size))
 have he₃:=Heap.get?_update_self (Obj.mapFields (·.setIfInBounds 0 (Value.ref s.heap.objs.size))) he₁ (Obj.isFreed_of_fields hd₃)
 have I2:=I1.write (x:=a) (e:=a) (o:=cI a C dct new) (t':=s.toks) (by rw [e];exact True.intro) (.inl rfl) (λb u hb q=>(Heap.get?_update_other _ _ (Ne.symm hb)).trans q) ⟨_,he₃⟩
  (l8 ⟨_,_,.ref s.heap.objs.size,he₃,(Obj.cls_mapFields _ _).trans h2,(Ex _ _).trans h3,hd₃,by rw [Array.getElem?_setIfInBounds_self_of_lt (Nat.lt_trans Nat.zero_lt_one h6)],by rw [Array.size_setIfInBounds];exact h6,λz=>by rw [Array.getElem?_setIfInBounds_ne (by decide)];exact h7 z⟩)
 rw [oY e] at I2
 obtain⟨hh,g,d,tk,os⟩:=s
 exact EG M.fb T hC h1 h2 h4 (Nat.lt_trans Nat.zero_lt_one h6) hz (h _ I2)
def ES{pl:Sem Bool}(hg:Gl X x)(hm:X.mg x=some (.ref B0))(hi:y13 X.K B0 y1a3)(M:y5f X.K C f B newId nid y1a3 inN bmB bmN)(ha:PA X (e::es) t)(hdb:(x == ("__debug__" : Str))=false:=by decide)
  (hst:‹starEach (e::es) X.env=(false,eval e X.env)::starEach es X.env›) (hpl:‹gC X pos es›)
  (ht:‹eval (.Call (.Attribute (.Name x p) "__init__" apos) (e::es) [] pos) X.env=(do
   let ov <- eval (.Name x p) X.env
   standAt apos.atName
   let (f,first) <- holding [ov] (getMethod ov "__init__" pl)
   callWith pos f first (backTo pos (starEach (e::es) X.env)) (backToKw pos (keywordEach [] X.env)))›) :
  PE X (.Call (.Attribute (.Name x p) "__init__" apos) (e::es) [] pos) (tXI C t):=by
 intro pins s σ H Q I h
 refine W.methodCall_KW (pl:=pl) (jg I hg hm ?_ hdb) ht
 refine W.method_cls I.kIn hi.ga (W.cls_value I.kIn hi.rd hi.fd hi.hh ?_)
 refine PyProof.Rows.callWith_builtin1 (aJ (ha pos pins _ σ H _ (I.tok _) h) λus s1 ⟨vs,H1,I1,r1,a,aG,new,dct,ev,hz,ea,q⟩=>?_) hst hpl
 subst ev
 cases r1 with
 | @cons _ u _ us' ru r2 =>
  obtain rfl:u=Value.ref a:=ru
  exact ER M I1 ea (by rw [<- r2.length];exact hz) λs' I2=>⟨.non,H1,I2,rfl,q⟩
end
end
section
abbrev oZ(n:Nat)(H:Hp):Addr->Prop:=λT=>n≤T/\H T=none
def _root_.PySem.Heap.y5b.imp{h b0:Heap}{e:Addr}{cls a0:Value}{dct:Option Addr}{p p':Addr->Prop}(t:h.y5b b0 e cls a0 dct p)(k:∀T,T≠e->p T->p' T):h.y5b b0 e cls a0 dct p':=by
 obtain⟨oe,vs,T,oT,ts,he,hc,hd,h1,⟨hnT,hnn⟩,hTe,r⟩:=t
 exact⟨oe,vs,T,oT,ts,he,hc,hd,h1,⟨hnT,k T hTe hnn⟩,hTe,r⟩
section
variable {h':Heap}{x C:Addr}{dct:Option Addr}{nw:Bool}{a0:Value}{fl:Value}{p:Addr->Prop}{base:Heap}
def ET(t:h'.y5a base x (.ref C) a0 dct p fl):iq x C dct false h':=by
 obtain⟨oe,vs,T,oT,ts,he,⟨y18a,h0,hdc⟩,hd,h1,_⟩:=t
 exact⟨oe,vs,a0,he,y18a,hdc,hd,h0,(Array.getElem?_eq_some_iff.mp h1).1,λz=>by cases z⟩
def pd{P:Program}{w:World}{H H':Hp}{h0 h:Heap}{fs fs':List Addr}(un:Un fs [] H H' h0 h)(hok:cP P w H' h)(ex:H' x=some (cI x C dct nw))(hf:∀b∈fs',H' b=none)(hsub:∀b∈fs',b∈fs∨h0.get? b=none)
  (up:cj x (oZ h0.objs.size H') fs' h h') (tr:h'.y5a base x (.ref C) a0 dct p fl) :
  Un fs [] H (aC H' x (cI x C dct false)) h0 h'/\cP P w (aC H' x (cI x C dct false)) h':=by
 have nl:∀b:Addr,b∉([]:List Addr):=λb z=>by simp at z
 have hxe:=ET tr
 have hex:∃o,h'.get? x=some o:=let ⟨o,_,_,q,_⟩:=hxe;⟨o,q⟩
 have kp:∀b o,b≠x->H' b=some o->∀u,h.get? b=some u->h'.get? b=some u:=λb o nb e u q =>
  (up b u q ⟨nb,λz=>by rw [z.2] at e;cases e⟩).2 λz=>by rw [hf b z] at e;cases e
 have ni:∀b o,h0.get? b=some o->H b=none->b≠x:=λb o q e z=>by
  have:=un.free b o q e (nl b);rw [z,ex] at this;cases this
 have old:∀b o,h0.get? b=some o->¬ oZ h0.objs.size H' b:=λb o q z=>absurd (z17 q) (Nat.not_lt.mpr z.1)
 refine⟨⟨λb o q e nb _=>?_,λb o q e nb _=>?_,λb o q e _=>?_,λb o q _=>?_,λb xs e=>?_,λb o u e=>?_,λb ps e=>?_⟩,λb o e=>?_⟩
 ·refine (up b o (un.keep b o q e nb (nl b)) ⟨ni b o q e,old b o q⟩).2 λz=>?_
  rcases hsub b z with z|z
  ·exact nb z
  ·rw [q] at z;cases z
 ·obtain⟨sl,q1⟩:=un.slot b o q e nb (nl b)
  obtain⟨sl2,q2⟩:=(up b _ q1 ⟨ni b o q e,old b o q⟩).1
  exact⟨sl2,q2⟩
 ·rw [aM (ni b o q e)];exact un.free b o q e (nl b)
 ·obtain⟨o',q1⟩:=un.there b o q (nl b)
  by_cases hb:b=x
  ·rw [hb];exact hex
  ·obtain⟨sl,q2⟩:=(up b o' q1 ⟨hb,old b o q⟩).1
   exact⟨_,q2⟩
 ·have e1:=un.y426 b xs e
  rw [aM λz=>by rw [z,ex] at e1;cases e1];exact e1
 ·have e1:=un.y150 b o u e
  rw [aM λz=>by rw [z,ex] at e1;cases e1];exact e1
 ·obtain⟨more,e1⟩:=un.y40b b ps e
  exact⟨more,by rw [aM λz=>by rw [z,ex] at e1;cases e1];exact e1⟩
 ·by_cases hb:b=x
  ·subst hb
   rw [a9] at e;cases e
   exact l8 hxe
  ·rw [aM hb] at e
   refine (hok b o e).y3d4 (λc u hc q=>?_) (λc e2=>?_) λc xs e2=>?_
   ·rcases hc with rfl|hc
    ·exact kp c o hb e u q
    ·exact kp c _ (λz=>by rw [z,ex] at hc;cases hc) hc u q
   ·rw [aM λz=>by rw [z,ex] at e2;cases e2];exact e2
   ·rw [aM λz=>by rw [z,ex] at e2;cases e2];exact e2
end
abbrev df(P:Program)(w:World)(base:Heap):gI:=λouter H s E e s'=>∃x C dct a0 H',e=.ref x/\s'.os=s.os/\AllBare s'.gens/\Un (fP outer) [] H H' s.heap s'.heap/\cP P w H' s'.heap /\
 Heap.y45 base outer x (.ref C) a0 dct (oZ s.heap.objs.size H') s'.heap/\H' x=some (cI x C dct false)/\E (.ref C) (some x) H'
abbrev fK(X:Cx)(E:XK):Prop:=∀(pins:List (Addr×Obj)) (σ:St) (H:Hp) (s:Shared) (x C:Addr) (dct:Option Addr),Inv X pins σ H s->H x=some (cI x C dct true) ->
 E (.ref C) (some x) (aC H x (cI x C dct false))->X.xe (.ref x) s
section
variable {P:Program}{w:World}{K:W.Frag}{mg:Str->Option Value}{base:Heap}{N:List Str}{qual:Str}{scope:Scope}{f:Addr}{cd:Value}{A:Around}{outer:List Env}{s:Shared}{H:Hp}{E:XK}
def vE{X:Cx}{pins:List (Addr×Obj)}{σ:St}{H1:Hp}{s1:Shared}(I:Inv X pins σ H1 s1):∀b∈fP X.stack,b∈X.fs∨X.s₀.heap.get? b=none:=λb hb=>by
 rcases z1d.mp (I.y3d6 b hb) with e|hb
 ·exact .inr (by rw [e];exact Heap.get?_none_of_le I.ok.above)
 ·exact .inl hb
def EU:fK (fu (df P w base) P w K mg base N qual scope f cd A outer s H E) E:=by
 intro pins σ H1 s1 x C dct I ex hE
 obtain⟨o,vs,a0,h1,h2,h3,h4,h5,h6,h7⟩:=fJ I.hok ex
 have hxb:base.get? x=none:=by
  cases q:base.get? x with
  | none=>rfl
  | some o=>have:=(I.bs x o q).2;rw [ex] at this;cases this
 have hn:s.heap.objs.size≤s1.heap.objs.size:=I.sz
 refine Ey (p:=oZ s.heap.objs.size H1) (λT z=>⟨z19 hn z,I.hok.fresh z⟩) I.ok.frames I.stack rfl h1 I.bk hxb h4 (h7 rfl) h5 λh' L=>?_
 rw [h2,h3] at L
 obtain⟨l1,l2,l3,l4⟩:=L
 obtain⟨u,k⟩:=pd (fs':=fP (fu (df P w base) P w K mg base N qual scope f cd A outer s H E).stack) I.base I.hok ex I.y3d5 (vE I) l4 l3
 exact⟨x,C,dct,a0,_,rfl,I.os,I.bare,u,k,⟨l1,hxb,l2.2.2,l3.imp λT ne z=>⟨z.1,by rw [aM ne];exact z.2⟩⟩,a9,hE⟩
def EV:bN (df P w base) (fu (df P w base) P w K mg base N qual scope f cd A outer s H E) E:=by
 rintro pins σ H1 s1 e s' I ⟨x,C,dct,a0,H',rfl,os,bare,un,hok,fl,ex,q⟩
 obtain⟨hh,g,d,t,os'⟩:=s'
 obtain rfl:os'=s1.os:=os
 have J:=I.call (h':=hh) (g':=g) (d':=d) (t':=t) (ch:=[]) un hok bare (λb z=>absurd z (by simp))
 have hn:s.heap.objs.size≤hh.objs.size:=J.sz
 have hn1:s.heap.objs.size≤s1.heap.objs.size:=I.sz
 refine EA (p:=oZ s.heap.objs.size H') (λT z=>⟨z19 hn z,hok.fresh z⟩) J.ok.frames rfl ⟨fl.1,fl.2.1,fl.2.2.1,fl.2.2.2.imp λT _ z=>⟨z19 hn1 z.1,z.2⟩⟩ λh' f2 up=>?_
 obtain⟨u,k⟩:=pd (fs':=fP (fu (df P w base) P w K mg base N qual scope f cd A outer s H E).stack) J.base J.hok ex J.y3d5 (vE J) up f2.2.2.2
 rw [oY ex] at u k
 exact⟨x,C,dct,a0,H',rfl,J.os,J.bare,u,k,f2,ex,q⟩
end
end
end L2
namespace PySem
section
variable {M:Model}{A:Around}{E:Value->Shared->Prop}{env:Env}
variable {nm q:Str}{C N:Addr}{bs bm:List Value}{y18c:Bool}{sn:List Str}{sub:List Value}{ab:Bool}{col:Option Bool}{dd:Option Addr}{k0 k1 k2 k3 k5:Option Value}{newId:String}
def EW{s:Shared}{x:Sem Value}{Q:Flow->Shared->Prop}(hh:A.handled=none)
  (h:wpAny M A x (λv s₁=>∃e oe vs nm q C N bs bm y18c sn sub ab col dd k0 k1 k2 k3 k5 newId,v=.ref e/\bm.contains (.type "BaseException")=true/\s₁.heap.get? C=some (excClassObj nm q C N bs bm y18c sn sub ab col dd k0 k1 k2 k3 k5 newId) /\
   s₁.heap.get? e=some oe/\oe.cls=.ref C/\oe.data=.fields vs/\vs[1]?=some .none/\E (.ref e) s₁) E s) :
  wpAny M A (raiseStmt env (some x) none) Q E s:=by
 unfold raiseStmt
 refine zb (wpAny_mono h (λv s₁ h₁=>?_) λ_ _ x=>x)
 obtain⟨e,oe,vs,nm,q,C,N,bs,bm,y18c,sn,sub,ab,col,dd,k0,k1,k2,k3,k5,newId,rfl,y187,hC,he,hc,hd,h1,hE⟩:=h₁
 have hcB:(Value.ref C::bm).contains (.type "BaseException")=true:=by rw [List.contains_cons,y187,Bool.or_true]
 obtain⟨oc,odi,oda,osl⟩:=oe
 dsimp only at hc hd
 subst hc hd
 obtain⟨hp,g,d,tk,os⟩:=s₁
 repeat (first|with_reducible refine wpAny_field he rfl h1 ?_|with_reducible refine wpAny_loadPart_at he ?_|with_reducible refine wpAny_loadPart_at hC ?_|(with_reducible refine wpAny_isSubtype_exc hC ?_;rw [hcB])|wp_step)
 exact wpAny_raiseNew_none hh hE
end
end PySem
namespace L2
open PySem PySem.Spec PyProof.Rows
section
abbrev p7(K:W.Frag)(C:Addr):Prop:=∀h:Heap,K.In h->∃nm q N bs bm y18c sn sub ab col dd k0 k1 k2 k3 k5 newId,h.get? C=some (excClassObj nm q C N bs bm y18c sn sub ab col dd k0 k1 k2 k3 k5 newId)/\bm.contains (.type "BaseException")=true
def y5f.is{K:W.Frag}{C f:Addr}{B newId nid y1a3 inN:String}{bmB bmN:List Value}(M:y5f K C f B newId nid y1a3 inN bmB bmN):p7 K C:=λh x=>by
 obtain⟨nm,q,N,bs,bm,y18c,sn,sub,ab,col,dd,k0,k1,k2,k3,k5,mN,hC,hn,hi,T⟩:=M.cls h x
 exact⟨nm,q,N,bs,bm,y18c,sn,sub,ab,col,dd,k0,k1,k2,k3,k5,_,hC,T.hasType M.fb.hasBase⟩
abbrev vF(K:W.Frag)(te:TE)(E:XK):TS:=λ_ σ H=>te σ H λv H1=>∃x C dct,v=.ref x/\H1 x=some (cI x C dct true)/\p7 K C/\E (.ref C) (some x) (aC H1 x (cI x C dct false))
abbrev vG(C:Addr)(sp:Sp)(dvs:List V)(E:XK)(t:TA):TE:=λσ H Q=>t σ H λvs H1=>∀x,H1 x=none->sp (.ref x::(vs++dvs)) (aC H1 x (cI x C none true)) (λv H2=>v=.non/\Q (.ref x) H2) E
section
variable {X:Cx}{CX:gI}{k:Nat}{f C:Addr}{fd:FuncData}{ps:List Str}{sp:Sp}{dvs:List V}{ds:List Value}{E:XK}{x:Str}{p pos:Pos}{e:Expr}{es:List Expr}{te:TE}{t:TA}{B newId nid y1a3 inN:String}{bmB bmN:List Value}
def EX(hc:X.calm=true)(he:PE X e te)(hr:fK X E):PS X (.Raise (some e) none pos) (vF X.K te E):=by
 intro pins s σ H D I h
 rw [arm_exec_Raise]
 refine zb (wpAny_standAt (EW (I.ok.hd hc) (zb (wpAny_mono (he pins s σ H _ I h) (λv s1 ⟨v',H1,I1,rv,x,C,dct,ev,ex,ic,q⟩=>zb (wpAny_standAt (ze ?_))) λ_ _ z=>z))))
 subst ev
 obtain rfl:v=Value.ref x:=rv
 obtain⟨nm,qn,N,bs,bm,y18c,sn,sub,ab,col,dd,k0,k1,k2,k3,k5,newId,hC,hb⟩:=ic _ I1.kIn
 obtain⟨o,vs,a0,h1,h2,h3,h4,h5,h6,h7⟩:=fJ I1.hok ex
 exact⟨x,o,vs,nm,qn,C,N,bs,bm,y18c,sn,sub,ab,col,dd,k0,k1,k2,k3,k5,newId,rfl,hb,hC,h1,h2,h4,h7 rfl,hr pins σ H1 s1 x C dct I1 ex q⟩
def EY(M:y5f X.K C f B newId nid y1a3 inN bmB bmN)(hk:W.keepIn X.K (.ref C)=true)(F:y46 X.prog X.w X.K X.mg X.base CX k f fd ps sp)(hr:y55 (k+1) X.A)(hg:Gl X x)(hm:X.mg x=some (.ref C))(hb:cX X.K fd ps ds)(hd:au dvs ds)(hx:bN CX X E)(hz:ps.length≤1000)
  (ha:PA X (e::es) t) (hdb:(x == ("__debug__" : Str))=false:=by decide) (he:‹gJ X e es›) (hpl:‹gC X pos es›) :
  PE X (.Call (.Name x p) (e::es) [] pos) (vG C sp dvs E t):=by
 intro pins s σ H Q I h
 refine wpAny_Call_Name_kw (jg I hg hm ?_ hdb)
 refine W.callWith_K (h₀:=X.base) I.ok.mod.kin hk (aJ (ha pos pins s σ H _ I h) λus s1 ⟨vs,H1,I1,r,q⟩=>⟨I1.kIn,?_⟩) he hpl
 refine EF M F hr hb hd hx I1 r ?_ q
 have l:=F.len _ _ _ _ (q _ (I1.hok.fresh (zf _)))
 rw [z10,za] at l
 show us.length≤sizeLine
 rw [<- r.length,sizeLine_eq]
 lia
end
end
end L2
namespace PySem
section
variable {M:Model}{A:Around}{E:Value->Shared->Prop}{h:Heap}{g:Array GenState}{d:Drawn}{t:Nat}{os:OsState}
variable {nm q:Str}{C N:Addr}{bs bm:List Value}{y18c:Bool}{sn:List Str}{sub:List Value}{ab:Bool}{col:Option Bool}{dd:Option Addr}{k0 k1 k2 k3 k5:Option Value}{newId:String}
variable {nm' q':Str}{T N':Addr}{bs' bm':List Value}{y18d:Bool}{sn':List Str}{sub':List Value}{ab':Bool}{col':Option Bool}{dd':Option Addr}{k0' k1' k2' k3' k5':Option Value}{y22a:String}
def EZ{e:Addr}{oe:Obj}{b:Bool}{Q:Bool->Shared->Prop}
  (hC:h.get? C=some (excClassObj nm q C N bs bm y18c sn sub ab col dd k0 k1 k2 k3 k5 newId)) (hT:h.get? T=some (excClassObj nm' q' T N' bs' bm' y18d sn' sub' ab' col' dd' k0' k1' k2' k3' k5' y22a)) (he:h.get? e=some oe) (y18a:oe.cls=.ref C)
  (hbT:bm'.contains (.type "BaseException")=true) (hb:(Value.ref C::bm).contains (.ref T)=b) (hq:Q b ⟨h,g,d,t,os⟩):wpAny M A (excMatches (.ref e) (.ref T)) Q E ⟨h,g,d,t,os⟩:=by
 have hcB:(Value.ref T::bm').contains (.type "BaseException")=true:=by rw [List.contains_cons,hbT,Bool.or_true]
 have f:=tc_notTuple
 unfold excMatches
 repeat (first|(with_reducible refine wpAny_loadPart_at he ?_;rw [y18a])|with_reducible refine wpAny_loadPart_at hT ?_|(with_reducible refine wpAny_isSubtype_exc hT ?_;rw [hcB])|(with_reducible refine wpAny_isSubtype_exc hC ?_;rw [hb])|wp_step)
 cases b<;>(wp_walk;exact hq)
end
end PySem
namespace L2
open PySem PySem.Spec PyProof.Rows
section
section
variable {X:Cx}{pins:List (Addr×Obj)}{σ:St}{H:Hp}{s:Shared}
def md{M:Model}{A:Around}{E:Value->Shared->Prop}{i:Nat}{n:Str}{pos:Pos}{Q:Unit->Shared->Prop}(I:Inv X pins σ H s)(hN:X.N.Nodup)(hi:X.N[i]?=some n)(hk:X.env.scope.names.lookup n=some .local)
  (h:∀s',Inv X pins (σ.set i none) H s'->Q () s'):wpAny M A (do bindName X.env n .none;unbindBehindTheSuite X.env n pos) Q E s:=by
 obtain⟨m,hn,hl⟩:=id I.loc
 have y18a:(X.env.scope.kind == .class||(X.env.scope.kind == .module&&X.env.locals != X.env.globals))=false:=by rw [I.ok.kind];rfl
 have hiσ:i<σ.length:=by rw [I.len];exact (z14.mp hi).1
 refine wpAny_nameGoes_keeps hk hn y18a λh' v hn' hs=>h _ ?_
 have nl:∀b o,X.s₀.heap.get? b=some o->b≠X.env.locals:=λb o e=>z26 (z1b (z17 e) I.ok.above)
 have cK:∀y c w',X.env.cells.lookup y=some c->s.heap.IsCell c w'->h'.IsCell c w':=λy c w' e ⟨o,ho,hd⟩=>⟨o,(hs.2 c (I.cne y c e)).trans ho,hd⟩
 refine⟨I.ok,I.os,I.bare,⟨λb o e n hb hx=>(hs.2 b (nl b o e)).trans (I.base.keep b o e n hb hx),λb o e n hb hx=>?_,I.base.free,λb o e hx=>?_,I.base.y426,I.base.y150,I.base.y40b⟩,⟨_,hn',λj y v' e1 e2 e3=>?_⟩,λy c e=>?_,I.free,I.y14e,λp hp=>?_,λb ob e=>?_,by simpa using I.len⟩
 ·obtain⟨sl,e1⟩:=I.base.slot b o e n hb hx
  exact⟨sl,(hs.2 b (nl b o e)).trans e1⟩
 ·obtain⟨o',e1⟩:=I.base.there b o e hx
  exact⟨o',(hs.2 b (nl b o e)).trans e1⟩
 ·by_cases hj:j=i
  ·subst hj
   rw [List.getElem?_set_self hiσ] at e2
   cases e2
  ·rw [z28 (Ne.symm hj)] at e2
   obtain⟨u',r',q⟩:=hl j y v' e1 e2 e3
   refine⟨u',r',?_⟩
   rcases q with⟨k,e⟩| ⟨k,c,e,z⟩
   ·refine .inl ⟨k,?_⟩
    have hy:y≠n:=λz=>hj (nh hN e1 (z ▸ hi))
    show (if y=n then v else m y)=some u'
    rw [if_neg hy];exact e
   ·exact .inr ⟨k,c,e,cK y c _ e z⟩
 ·obtain⟨w',z⟩:=I.cell y c e
  exact⟨w',cK y c w' e z⟩
 ·obtain⟨e,n1,n2,n3,n4⟩:=I.pin p hp
  exact⟨(hs.2 p.1 n2).trans e,n1,n2,n3,n4⟩
 ·have fr:=I.free
  refine (I.hok b ob e).y3d4 (λc w' hc q=>(hs.2 c ?_).trans q) (λ_ q=>q) λ_ _ q=>q
  rintro rfl
  rcases hc with rfl|hc
  ·rw [fr] at e;cases e
  ·rw [fr] at hc;cases hc
end
end
section
noncomputable abbrev jP(X:Cx):St:=List.replicate X.N.length none
structure y8(X:Cx)(pins:List (Addr×Obj))(x C:Addr)(dct:Option Addr)(H:Hp)(s:Shared):Prop where
 ok:X.Ok
 ex:H x=some (cI x C dct false)
 st:∃p a0,Heap.y45 X.base X.stack x (.ref C) a0 dct p s.heap/\∀h',Heap.y45 X.base X.stack x (.ref C) a0 dct p h'->cj x p [] s.heap h'->Inv X pins (jP X) H { s with heap:=h' }
abbrev pf(K:W.Frag)(C c:Addr)(b:Bool):Prop:=∀h:Heap,K.In h->∃nm q N bs bm y18c sn sub ab col dd k0 k1 k2 k3 k5 newId,h.get? C=some (excClassObj nm q C N bs bm y18c sn sub ab col dd k0 k1 k2 k3 k5 newId)/\(Value.ref C::bm).contains (.ref c)=b
noncomputable abbrev TH:=Addr->Addr->Ends->Hp->Prop
abbrev PH(X:Cx)(hs:List ExceptHandler)(th:TH):Prop :=
 ∀(pins:List (Addr×Obj)) (s:Shared) (x C:Addr) (dct:Option Addr) (H1:Hp) (D:Ends),y8 X pins x C dct H1 s->th x C D H1 ->
  wpAny (model X.prog X.w) X.A (handleBy (.ref x) X.env hs) (SP X pins D) X.xe s
noncomputable abbrev Cx.inX(X:Cx)(x:Addr):Cx:={ X with A:=X.A.mark (some (.ref x)),calm:=false,xe:=λ_ _=>False }
abbrev Ends.drop(D:Ends)(i:Nat):Ends:=⟨λσ H=>D.nx (σ.set i none) H,D.rt,λσ H=>D.bk (σ.set i none) H,λσ H=>D.ct (σ.set i none) H⟩
abbrev hAs(X:Cx)(c:Addr)(i:Nat)(ts:TS)(th:TH):TH:=λx C D H=>∃b,pf X.K C c b/\if b=true then ts (D.drop i) ((jP X).set i (some (.ref x))) H else th x C D H
section
variable {X:Cx}{pins:List (Addr×Obj)}{σ:St}{H:Hp}{s:Shared}
theorem Cx.Ok.inX{x:Addr}(o:X.Ok):(X.inX x).Ok:=⟨o.mod,o.kind,o.glob,o.blt,o.above,o.inj,o.has,o.cab,(λz=>by cases z),o.frames,o.stk,o.exf,o.bs,o.bsz,o.y236,o.y133,o.y152,o.frf⟩
theorem Inv.inX{x:Addr}(I:Inv X pins σ H s):Inv (X.inX x) pins σ H s:=⟨I.ok.inX,I.os,I.bare,I.base,I.loc,I.cell,I.free,I.y14e,I.pin,I.hok,I.len⟩
def Inv.outX{x:Addr}(o:X.Ok)(I:Inv (X.inX x) pins σ H s):Inv X pins σ H s:=⟨o,I.os,I.bare,I.base,I.loc,I.cell,I.free,I.y14e,I.pin,I.hok,I.len⟩
def y8.now{x C:Addr}{dct:Option Addr}(c:y8 X pins x C dct H s):Inv X pins (jP X) H s:=by
 obtain⟨n,a0,f,k⟩:=c.st
 exact k s.heap f (.refl _ _ _ _)
def vH{c:Addr}{i:Nat}{cn n:Str}{p pos:Pos}{b₀:Stmt}{y3e7:List Stmt}{aG:List ExceptHandler}{ts:TS}{th:TH}(hg:Gl X cn)(hm:X.mg cn=some (.ref c))(hc:p7 X.K c)(hN:X.N.Nodup)(hi:X.N[i]?=some n)
  (hk:X.env.scope.names.lookup n=some .local) (hb:∀x,dS (X.inX x) (b₀::y3e7) ts) (hr:PH X aG th) (hdb:(cn == ("__debug__" : Str))=false:=by decide) :
  PH X (.ExceptHandler (some (.Name cn p)) (some n) (b₀::y3e7) pos::aG) (hAs X c i ts th):=by
 intro pins s x C dct H1 D cg h
 have I:=cg.now
 obtain⟨b,hs,hq⟩:=h
 obtain⟨o,vs,a0,h1,h2,_⟩:=fJ I.hok cg.ex
 obtain⟨nm,q,N,bs,bm,y18c,sn,sub,ab,col,dd,k0,k1,k2,k3,k5,newId,hC,hcon⟩:=hs _ I.kIn
 obtain⟨nm',q',N',bs',bm',y18d,sn',sub',ab',col',dd',k0',k1',k2',k3',k5',y22a,hT,hbT⟩:=hc _ I.kIn
 refine wpAny_handleBy_cons (codeAny_handlers_test ?_) (by intro q;cases q)
 refine jg (X:=X.inX x) I.inX hg hm ?_ hdb
 obtain⟨hh,g,d,t,os⟩:=s
 refine EZ hC hT h1 h2 hbT hcon ?_
 cases b with
 | false=>exact hr pins _ x C dct H1 D cg hq
 | true =>
  refine codeAny_handlers_suite_as ?_
  obtain⟨n0,a1,fl,k⟩:=cg.st
  refine vx fl.1 fl.2.2.1 fl.2.2.2.at λh' l1 l2 l3 l4=>?_
  have I3:=k h' ⟨l1,fl.2.1,l2,l3⟩ (λb o hb hn=>⟨⟨o.slots,l4 b o hb hn⟩,λ_=>l4 b o hb hn⟩)
  refine nj (X:=X.inX x) I3.inX hN hi (.inl hk) (v:=.ref x) rfl (λs4 I4=>?_) (.inr hk)
  refine wpAny_mono (hb x pins s4 _ H1 (D.drop i) I4 hq) (λf s5 hsp=>?_) (λe s5 z=>z.elim)
  cases f with
  | next=>obtain⟨σ',H',J,q⟩:=hsp;exact md (X:=X) (J.outX cg.ok) hN hi hk λs6 J6=>⟨_,_,J6,q⟩
  | brk=>obtain⟨σ',H',J,q⟩:=hsp;exact md (X:=X) (J.outX cg.ok) hN hi hk λs6 J6=>⟨_,_,J6,q⟩
  | cont=>obtain⟨σ',H',J,q⟩:=hsp;exact md (X:=X) (J.outX cg.ok) hN hi hk λs6 J6=>⟨_,_,J6,q⟩
  | ret u=>obtain⟨v,σ',H',J,r,q⟩:=hsp;exact md (X:=X) (J.outX cg.ok) hN hi hk λs6 J6=>⟨v,_,H',J6,r,q⟩
end
end
section
abbrev E1(tb:XK->TS)(th:TH):TS:=λD σ H=>tb (λCv xo H'=>∀x C dct,Cv=.ref C->xo=some x->H' x=some (cI x C dct false)->th x C D H') D σ H
section
variable {X:Cx}{pins:List (Addr×Obj)}{σ:St}{H:Hp}{s:Shared}
noncomputable abbrev Cx.y420(X:Cx)(pn:List (Addr×Obj))(xe:Value->Shared->Prop):Cx:={ X with pn:=pn,xe:=xe }
theorem Cx.Ok.y420{pn:List (Addr×Obj)}{xe:Value->Shared->Prop}(o:X.Ok):(X.y420 pn xe).Ok:=⟨o.mod,o.kind,o.glob,o.blt,o.above,o.inj,o.has,o.cab,o.hd,o.frames,o.stk,o.exf,o.bs,o.bsz,o.y236,o.y133,o.y152,o.frf⟩
theorem Inv.y420{xe:Value->Shared->Prop}(I:Inv X pins σ H s):Inv (X.y420 (X.pn++pins) xe) [] σ H s :=
 ⟨I.ok.y420,I.os,I.bare,I.base,I.loc,I.cell,I.free,I.y14e,λp hp=>I.pin p (by simpa using hp),I.hok,I.len⟩
def Inv.y431{xe:Value->Shared->Prop}{y2d5:List (Addr×Obj)}(o:X.Ok)(I:Inv (X.y420 (X.pn++pins) xe) y2d5 σ H s):Inv X pins σ H s :=
 ⟨o,I.os,I.bare,I.base,I.loc,I.cell,I.free,I.y14e,λp hp=>I.pin p (List.mem_append_left _ hp),I.hok,I.len⟩
def E2{body:List Stmt}{h₀:ExceptHandler}{hs:List ExceptHandler}{pos:Pos}{tb:XK->TS}{th:TH}(hst:X.stack=X.env::X.outer)(hfr:X.env.frame=some X.env.locals)
  (hb:∀E pn xe,bN (df X.prog X.w X.base) (X.y420 pn xe) E->dS (X.y420 pn xe) body (tb E)) (hh:PH X (h₀::hs) th):PS X (.Try body (h₀::hs) [] [] pos) (E1 tb th):=by
 intro pins s σ H D I h
 refine wpAny_Try_except ?_
 have o:=I.ok
 have ps:bN (df X.prog X.w X.base) (X.y420 (X.pn++pins) λe s1=>∃σ H s0,Inv X pins σ H s0/\df X.prog X.w X.base X.stack H s0 (λCv xo H'=>∀x C dct,Cv=.ref C->xo=some x->H' x=some (cI x C dct false)->th x C D H') e s1)
   (λCv xo H'=>∀x C dct,Cv=.ref C->xo=some x->H' x=some (cI x C dct false)->th x C D H') :=
  λy2d5 σ' H' s0 e s' J cx=>⟨σ',H',s0,J.y431 o,cx⟩
 refine wpAny_mono (hb _ _ _ ps [] s σ H D I.y420 h) (λf s1 hsp=>?_) λe s1 hx=>?_
 ·cases f with
  | next=>obtain⟨σ',H',J,q⟩:=hsp;exact ze ⟨σ',H',J.y431 o,q⟩
  | brk=>obtain⟨σ',H',J,q⟩:=hsp;exact⟨σ',H',J.y431 o,q⟩
  | cont=>obtain⟨σ',H',J,q⟩:=hsp;exact⟨σ',H',J.y431 o,q⟩
  | ret u=>obtain⟨v,σ',H',J,r,q⟩:=hsp;exact⟨v,σ',H',J.y431 o,r,q⟩
 ·obtain⟨σ',H',s0,J,x,C,dct,a0,H1,rfl,os,bare,un,hok,fl,ex,q⟩:=hx
  have hn:s0.heap.objs.size≤s1.heap.objs.size:=by
   obtain⟨_,_,_,oe,vs,T,oT,ts,he,_,_,_,⟨_,hnn⟩,_,hT,_⟩:=id fl
   exact z19 hnn.1 (Nat.le_of_lt (z17 hT))
  have hf1:∀b∈fP X.stack,H1 b=none:=λb hb=>by
   obtain⟨_,ob,ho,_⟩:=J.stack.mem hb
   exact un.free b ob ho (J.y3d5 b hb) (by simp)
  refine ED (p:=oZ s0.heap.objs.size H1) (λT z=>⟨z19 hn z,hok.fresh z⟩) (o.frames.trans (congrArg some hst)) hfr (hst ▸ fl) λh2 hl up2=>?_
  refine EE hl λh3 f3 up3=>?_
  have up23:cj x (oZ s0.heap.objs.size H1) (fP X.stack) s1.heap h3:=(up2.mono λb hb=>by rw [hst];exact hb).trans (up3.mono λb hb=>by simp at hb)
  refine hh pins _ x C dct H1 D ⟨o,ex,_,a0,hst ▸ f3,λh' f' up'=>?_⟩ (q x C dct rfl rfl ex)
  obtain⟨u,k⟩:=pd (fs':=fP X.stack) un hok ex hf1 (λb hb=>.inl hb) (up23.trans (up'.mono λb hb=>by simp at hb)) f'.2.2.2
  rw [oY ex] at u k
  have K1:=J.ya1 (s':={ s1 with heap:=h' }) (ch:=[]) os u k bare (λb z=>absurd z (by simp))
  exact K1.weak (by rw [K1.len];simp) λi v z=>by
   rw [List.getElem?_replicate] at z
   split at z<;>cases z
end
end
end L2
namespace L2
open PySem PySem.Spec PyProof.Rows PySem.W
section
abbrev VE:List Value:=[.type "ValueError",.type "Exception",.type "BaseException",.type "object"]
abbrev jQ(K:Frag)(N:Addr):Bool:=match K.lookup N with
 | some ⟨_,_,.dict es _,_⟩=>es.toList.all λe=>match e.key with | .str _ _=>true|_=>false
 | _=>false
def vI{K:Frag}{h:Heap}{N:Addr}(x:K.In h)(e:jQ K N=true):∃m,h.Ns N m/\∀name r,nsIn K N name=some r->m name=r:=by
 unfold jQ at e
 split at e
 ·rename_i c d es ep sl q
  refine⟨nsFind es,⟨_,es,ep,x _ _ q,rfl,λen he=>?_,λ_=>rfl⟩,λname r z=>?_⟩
  ·have:=List.all_eq_true.mp e en (Array.mem_toList_iff.mpr he)
   split at this
   ·rename_i n t hk;exact⟨n,t,hk⟩
   ·cases this
  ·unfold nsIn at z
   rw [q] at z
   dsimp only at z
   unfold nsFind findBy
   rw [<- Array.find?_toList]
   split at z
   ·rename_i en he;rw [he];exact z1e z
   ·rename_i he;rw [he]
    split at z
    ·cases z
    ·exact z1e z
 ·cases e
abbrev dA(K:Frag):List Value->Bool
 | .ref A::r=>(match K.lookup A with|some ⟨_,_,.cls cd,_⟩=>jQ K cd.ns&&decide (nsIn K cd.ns "__init__" = some none)|_=>false)&&dA K r
 | l=>decide (l=VE)
def E3{K:Frag}{h:Heap}(x:K.In h):∀{l:List Value},dA K l=true->OwnTail h VE l:=by
 intro l
 induction l with
 | nil=>intro e;exact absurd (of_decide_eq_true (show decide (([]:List Value)=VE)=true from e)) (by intro z;cases z)
 | cons a r ih =>
  intro e
  cases a with
  | ref A =>
   have e:((match K.lookup A with|some ⟨_,_,.cls cd,_⟩=>jQ K cd.ns&&decide (nsIn K cd.ns "__init__" = some none)|_=>false)&&dA K r)=true:=e
   obtain⟨e1,e2⟩:=z36.mp e
   split at e1
   ·rename_i c0 dd cd sl q
    obtain⟨e3,e4⟩:=z36.mp e1
    obtain⟨m,hn,hm⟩:=vI x e3
    exact .own (x _ _ q) hn (hm _ _ (of_decide_eq_true e4)) (ih e2)
   ·cases e1
  | _=>rw [of_decide_eq_true e];exact .base
abbrev eP(K:Frag)(C:Addr):Bool:=match K.lookup C with
 | some ⟨t,_,.cls cd,sl⟩=>decide (t=.type "type")&&decide (cd.mro.head?=some (.ref C))&&dA K cd.mro.tail && !cd.hasDel&&decide (sl.size=6)&&decide (sl[4]?=some (some (.builtin "ValueError.__new__")))&&jQ K cd.ns
 | _=>false
def ph{K:Frag}{h:Heap}{C:Addr}(x:K.In h)(e:eP K C=true):∃nm q N bs bm y18c sn sub ab col dd k0 k1 k2 k3 k5 mN cd,h.get? C=some (excClassObj nm q C N bs bm y18c sn sub ab col dd k0 k1 k2 k3 k5 "ValueError.__new__")/\h.Ns N mN /\
  OwnTail h VE bm/\clsIn K C=some cd/\cd.ns=N/\cd.mro=.ref C::bm/\∀name r,nsIn K N name=some r->mN name=r:=by
 unfold eP at e
 split at e
 ·rename_i t dd cd sl q
  have qc:clsIn K C=some cd:=by unfold clsIn;rw [q]
  obtain⟨nm,bs,mro,N,qn,y18c,sn,sub,ab,col,hdel⟩:=cd
  simp only [z24,decide_eq_true_eq,Bool.not_eq_true'] at e
  obtain⟨⟨⟨⟨⟨⟨e1,e2⟩,e3⟩,e4⟩,e5⟩,e6⟩,e7⟩:=e
  obtain⟨m,hn,hm⟩:=vI x e7
  cases mro with
  | nil=>cases e2
  | cons m0 mr =>
   obtain rfl:m0=.ref C:=z1e e2
   obtain⟨l⟩:=sl
   obtain⟨k0,k1,k2,k3,k5,rfl⟩:=six_places (l:=l) (by simpa using e5) (by simpa using e6)
   subst e1 e4
   exact⟨nm,qn,N,bs,mr,y18c,sn,sub,ab,col,dd,k0,k1,k2,k3,k5,m,_,x _ _ q,hn,E3 x e3,qc,rfl,rfl,hm⟩
 ·cases e
abbrev vJ(K:Frag)(C f:Addr):Bool:=(clsIn K C).any (λcd=>decide (nsIn K cd.ns "__init__" = some (some (.ref f))))&&decide (typeIn K (.ref f)=some (.type "function"))
def vK{K:Frag}{C f:Addr}(e:eP K C=true)(i:vJ K C f=true):y5f K C f "ValueError" "ValueError.__new__" "ValueError.__new__" "ValueError.__init__" "ValueError.__init__" VE VE:=by
 obtain⟨i1,i2⟩:=z36.mp i
 have F:=PySem.F.excBase_ValueError
 refine⟨F,by decide,F,λh x=>?_,λh x=>?_⟩
 ·obtain⟨nm,q,N,bs,bm,y18c,sn,sub,ab,col,dd,k0,k1,k2,k3,k5,mN,cd,h1,h2,h3,h4,h5,h6,h7⟩:=ph x e
  rw [h4] at i1
  subst h5
  exact⟨nm,q,_,bs,bm,y18c,sn,sub,ab,col,dd,k0,k1,k2,k3,k5,mN,h1,h2,h7 _ _ (of_decide_eq_true i1),h3⟩
 ·have z:=of_decide_eq_true i2
  unfold typeIn at z
  obtain⟨o,q,c⟩:=Option.map_eq_some_iff.mp z
  exact⟨o,x _ _ q,c⟩
def E4{K:Frag}{C:Addr}(e:eP K C=true):p7 K C:=λh x=>by
 obtain⟨nm,q,N,bs,bm,y18c,sn,sub,ab,col,dd,k0,k1,k2,k3,k5,mN,cd,h1,h2,h3,_⟩:=ph x e
 exact⟨nm,q,N,bs,bm,y18c,sn,sub,ab,col,dd,k0,k1,k2,k3,k5,_,h1,h3.hasType (by decide)⟩
def E5{K:Frag}{C c:Addr}{b:Bool}(e:eP K C=true)(s:(clsIn K C).map (λcd=>cd.mro.contains (.ref c))=some b):pf K C c b:=λh x=>by
 obtain⟨nm,q,N,bs,bm,y18c,sn,sub,ab,col,dd,k0,k1,k2,k3,k5,mN,cd,h1,h2,h3,h4,h5,h6,_⟩:=ph x e
 rw [h4] at s
 refine⟨nm,q,N,bs,bm,y18c,sn,sub,ab,col,dd,k0,k1,k2,k3,k5,_,h1,?_⟩
 rw [<- h6]
 exact z1e s
end
section
def vL{K:Frag}{p:List Value->Prop}(b:p VE)(s:∀A r,p r->p (.ref A::r)):∀{l:List Value},dA K l=true->p l:=by
 intro l
 induction l with
 | nil=>intro e;exact absurd (of_decide_eq_true (show decide (([]:List Value)=VE)=true from e)) (by intro z;cases z)
 | cons a r ih =>
  intro e
  cases a with
  | ref A=>exact s A r (ih (z36.mp e).2)
  | _=>rw [of_decide_eq_true e];exact b
def vM{K:Frag}{C:Addr}(e:eP K C=true):∃cd bm,clsIn K C=some cd/\cd.mro=.ref C::bm/\dA K bm=true:=by
 unfold eP at e
 split at e
 ·rename_i t dd cd sl q
  have qc:clsIn K C=some cd:=by unfold clsIn;rw [q]
  simp only [z24,decide_eq_true_eq,Bool.not_eq_true'] at e
  obtain⟨⟨⟨⟨⟨⟨e1,e2⟩,e3⟩,e4⟩,e5⟩,e6⟩,e7⟩:=e
  cases hm:cd.mro with
  | nil=>rw [hm] at e2;cases e2
  | cons m0 mr =>
   rw [hm] at e2 e3
   obtain rfl:m0=.ref C:=z1e e2
   exact⟨cd,mr,qc,hm,e3⟩
 ·cases e
abbrev jR(K:Frag)(C:Addr):Bool:=eP K C&&hasDictIn K C&&decide (findIn K (.ref C) "__getattribute__" = some (some (.builtin "BaseException.__getattribute__")))&&decide (findIn K (.ref C) "__getattr__" = some none)&&decide (findIn K (.ref C) "__setattr__" = some (some (.builtin "object.__setattr__")))
def vN{K:Frag}{C:Addr}(e:jR K C=true):XA K C:=by
 unfold jR at e
 simp only [z24,decide_eq_true_eq] at e
 obtain⟨⟨⟨⟨e1,e2⟩,e3⟩,e4⟩,e5⟩:=e
 obtain⟨cd,bm,h1,h2,h3⟩:=vM e1
 have has:∀t,VE.contains (.type t)=true->cd.mro.contains (.type t)=true:=λt z=>by
  rw [h2,List.contains_cons,vL (p:=λl=>l.contains (.type t)=true) z (λA r q=>by rw [List.contains_cons,q,Bool.or_true]) h3,Bool.or_true]
 refine⟨e3,e4,e5,cd,h1,?_,has "object" (by decide),has "BaseException" (by decide),λself=>?_⟩
 ·unfold hasDictIn at e2;rw [h1] at e2;exact e2
 ·rw [h2,refuseLoop_ref]
  exact vL (p:=λl=>refuseLoop self "__setattr__" l=pure ()) (PySem.F.store_ValueError.passes self) (λA r q=>by rw [refuseLoop_ref];exact q) h3
section
variable {P:Program}{w:World}{K:W.Frag}{mg:Str->Option Value}{base:Heap}
def Fun.okX{x qual:Str}{st:Stmt}{f:Addr}{fd:FuncData}{N ps:List Str}{k:Nat}{sp:Sp}(F:Fun K x qual st f fd)(S:y47 N ps (bL st))(len:∀vs H Q E,sp vs H Q E->vs.length=ps.length)
  (y188:∀(cdv:Value) (A:Around) (outer:List Env) (s:Shared) (H:Hp) (vs:List V) (Q:VK) (E:XK),y55 k (A.deeper (envOfC qual (bL st) s.heap.objs.size f cdv))->sp vs H Q E ->
   ∃t,dS (fu (df P w base) P w K mg base N qual (bL st) f cdv A outer s H E) (kz st) t/\t { nx:=λ_ H'=>Q .non H',rt:=Q } (start N vs) H):y46 P w K mg base (df P w base) (k+1) f fd ps sp:=by
 obtain⟨oc,od,kV,doc,pm,an,cdv,ct,osl,rfl,lk,hcd⟩:=F.ex
 exact qZ lk hcd S len λA outer s H vs Q E hr hsp=>y188 cdv A outer s H vs Q E hr hsp
end
end
end L2
namespace L2
open PySem PySem.Spec PyProof.Rows
section
structure XI(K:W.Frag)(D:Addr):Prop where
 ha:W.findIn K (.ref D) "__class__" = some (some (.builtin "object.__class__"))
 hn:W.specialIn K (.builtin "object.__class__") "__get__" = some (some (.builtin "getset_descriptor.__get__"))
 htk:W.takesIn K (.builtin "object.__class__")=some true
 hm:W.mroIn K D (.type "object")=some true
section
variable {K:W.Frag}{x D:Addr}
open PySem.W in
def E6{prog:Program}{w:World}{A:Around}{E:Value->Shared->Prop}{Q:Option Value->Shared->Prop}{s:Shared}{ox od:Obj}(c:XA K D)(i:XI K D)(X:K.In s.heap)(I:InstAt s.heap x ox D (some od))(h:Q (some (.ref D)) { s with toks:=s.toks+1 }) :
  wpAny (model prog w) A (getAttr? (.ref x) "__class__") Q E s:=by
 obtain⟨cd,hcl,hd',ho,hb,_⟩:=c.cd
 have ne:cd.mro.isEmpty=false:=by cases q:cd.mro with|nil=>rw [q] at ho;simp at ho|cons _ _=>rfl
 have hf:findObj K D (some od) "__class__" = some (.bind (.builtin "getset_descriptor.__get__") (.builtin "object.__class__")):=findObj_data (by rw [hcl];rfl) i.ha i.hn i.htk
 have L0:=I.type (M:=model prog w)
 have L1:=looks_findIn (M:=model prog w) X c.ga
 have L2:=looks_findIn (M:=model prog w) X c.gt
 have L3:=looks_find (M:=model prog w) X I hf
 have sub:Looks (model prog w) s.heap (isInstance (.ref x) (.type "BaseException")) true:=L0.andThen (looks_mroIn X (by unfold mroIn;rw [hcl,Option.bind_some,if_neg (by rw [ne];decide),hb]))
 obtain⟨hh',g,d,t,os⟩:=s
 have hx0:(false&&onTheHeap (Value.builtin "BaseException.__getattribute__"))=false:=rfl
 have hk:builtinKind "BaseException.__getattribute__" = some .slot:=by decide +kernel
 have y197:splitId "BaseException.__getattribute__" = some ("BaseException","__getattribute__"):=by decide +kernel
 have FA:=PySem.F.excAttr_ValueError.ga
 unfold getAttr? getAttrBy? getAttrBy
 refine zb (wpAny_mkText (zb (wpAny_attempt (wpAny_holding (zb (L0.at (zb (L1.at ?_))))))))
 show wpAny _ _ (getAttrByItsOwn _ _ _ _ _ _) _ _ _
 refine zb (L2.at (zb ?_))
 refine wpAny_attempt (wpAny_holding ?_)
 unfold callGetattribute
 rw [if_neg (by rw [hx0];decide)]
 unfold boundAndCalled
 rw [FA.bind]
 refine zb (ze (wpAny_call (codeAny_call_builtin FA.plain F.entry_bexc_ga (@check_slot (model prog w) _ _ _ "BaseException.__getattribute__" "BaseException" "__getattribute__" (.ref x) [.str "__class__" t] [] _ hk y197 sub (F.args_bexc_ga _ _) ?_))))
 refine zb (ze (zb (ze (zb (L0.at (zb (L3.at ?_)))))))
 show wpAny _ _ (holding [.builtin "object.__class__"] (call (.builtin "getset_descriptor.__get__") [.builtin "object.__class__",.ref x,.ref D]) >>= PySem.ret) _ _ _
 refine zb (wpAny_holding (wpAny_call (class_get (s:=⟨hh',g,d,t+1,os⟩) (ox:=ox) (od:=some od) X I i.hm ?_)))
 refine ze ?_
 show wpAny _ _ (handedOut (.ref D)) _ _ _
 rw [handedOut_of (v:=.ref D) rfl]
 exact ze (ze h)
open PySem.W in
def vO{ox od:Obj}(c:XA K D)(i:XI K D):KitX K (.ref x) (.ref D) (λh=>InstAt h x ox D (some od)) where
 ty:=λ_ _ _ I=>I.type
 it:=λ_ _ X _=>by
  obtain⟨cdD,hcD,_⟩:=c.cd
  unfold clsIn at hcD
  split at hcD
  ·rename_i c' d' cd' sl' ho
   intro A' Q' E' s' k q
   unfold isType loadHead
   exact zb (wpAny_loadPart (k _ _ (X _ _ ho)) (ze q))
  ·cases hcD
 ne:=λh tp dd its n sl X htp=>by
  obtain⟨cdD,hcD,_⟩:=c.cd
  refine Bool.eq_false_iff.mpr λq=>?_
  have e:D=tp:=Value.ref.inj (beq_iff_eq.mp q)
  subst e
  unfold clsIn at hcD
  split at hcD
  ·rename_i c' d' cd' sl' ho
   have z:=(X _ _ ho).symm.trans htp
   cases z
  ·cases hcD
 ca:=λX I k=>E6 c i X I k
def E7{X:Cx}{b new:Bool}{c:Value}{dx:Addr}{fs:List (Str×V)}(xa:XA X.K D)(xi:XI X.K D)(e:W.kitOne X.K (.ref D) c=some b){pins:List (Addr×Obj)}{σ:St}{H:Hp}{s:Shared}{A:Around}{E:Value->Shared->Prop}{Q:Value->Shared->Prop}
  (I:Inv X pins σ H s) (ex:H x=some (cI x D (some dx) new)) (ed:H dx=some (fI dx fs)) (h:∀tk,Q (.bool b) { s with toks:=tk }):wpAny (model X.prog X.w) A (call (.builtin "isinstance") [.ref x,c]) Q E s:=by
 obtain⟨o,vs,a0,h1,h2,h3,h4,_⟩:=fJ I.hok ex
 obtain⟨_,mA,hm,_⟩:=l9 I.hok ed
 obtain⟨od,hod,_⟩:=kR hm
 obtain⟨oc,odi,oda,osl⟩:=o
 dsimp only at h2 h3 h4
 subst h2 h3 h4
 exact W.kia_one (vO (ox:=⟨.ref D,some dx,.fields vs,osl⟩) (od:=od) xa xi) I.kIn ⟨h1,rfl,rfl,hod⟩ e (λz=>nomatch z) h
end
end
end L2
namespace B
open PySem PySem.Spec PyProof.Rows L2
section
section
variable {K:W.Frag}{κ:Str->Addr}{ι ι1 fp fq:List Addr}{H H1:Hp}{D:Ends}{E:XK}{σ:L2.St}
abbrev XP(K:W.Frag)(κ:Str->Addr)(E:XK)(ι fp:List Addr)(H:Hp)(c:Str)(fs:List (Str×I))(G':List M):Prop :=
 ∀x dx fvs ι' H',H' x=some (cI x (κ c) (some dx) false)->H' dx=some (fI dx fvs)->fvs.map (·.1)=fs.map (·.1)->y57 K ι' H' (fvs.map (·.2)) (fs.map (·.2))->SR K κ ι' H' [] [] G'->Step ι fp H ι' ι' H'->E (.ref (κ c)) (some x) H'
abbrev xo:Fl->Option (Str×List (Str×I)×List M)
 | .rt (.ow (.obj c fs)) G=>some (c,fs,G)
 | _=>none
abbrev kC(K:W.Frag)(κ:Str->Addr)(E:XK)(ι fp:List Addr)(H:Hp)(D:Ends)(fl:Fl):Prop:=match xo fl with
 | some (c,fs,G')=>XP K κ E ι fp H c fs G'
 | none=>yf K κ ι fp H D fl
abbrev cj(K:W.Frag)(κ:Str->Addr)(E:XK)(f:SF):TS:=λD σ H=>∃ι Z G fl,SR K κ ι H σ Z G/\f Z G=some fl/\kC K κ E ι (own σ Z++ι) H D fl
def XP.step{c:Str}{fs:List (Str×I)}{G':List M}(st:Step ι fp H ι1 fq H1)(h:XP K κ E ι fp H c fs G'):XP K κ E ι1 fq H1 c fs G':=λx dx fvs ι' H' a b c d e t=>h x dx fvs ι' H' a b c d e (st.trans t)
theorem kC.step{fl:Fl}(st:Step ι fp H ι1 fq H1)(h:kC K κ E ι fp H D fl):kC K κ E ι1 fq H1 D fl:=by
 unfold kC at h ⊢
 split
 ·rename_i c fs G' e
  rw [e] at h
  exact h.step st
 ·rename_i e
  rw [e] at h
  exact yf.step st h
def cj.of{f:SF}{fl:Fl}{Z1:De}{G1:List M}(s:SR K κ ι1 H1 σ Z1 G1)(st:Step ι fp H ι1 (own σ Z1++ι1) H1)(eq:f Z1 G1=some fl)(k:kC K κ E ι fp H D fl):cj K κ E f D σ H1:=⟨ι1,Z1,G1,fl,s,eq,k.step st⟩
abbrev c9(f:SF):SF:=λZ G=>match f Z G with
 | some fl=>if (xo fl).isNone then some fl else none
 | none=>none
def vP{f:SF}(h:cj K κ E (c9 f) D σ H):dk K κ f D σ H:=by
 obtain⟨ι,Z,G,fl,s,eq,k⟩:=h
 unfold c9 at eq
 split at eq
 ·rename_i fl' e1
  split at eq
  ·rename_i hx
   have e:xo fl'=none:=Option.isNone_iff_eq_none.mp hx
   cases eq
   unfold kC at k
   rw [e] at k
   exact⟨ι,Z,G,_,s,e1,k⟩
  ·cases eq
 ·cases eq
def E8{a b:SF}(h:cj K κ E (ai a b) D σ H):jj (cj K κ E a) (cj K κ E b) D σ H:=by
 obtain⟨ι,Z,G,fl,s,eq,k⟩:=h
 unfold ai at eq
 split at eq
 ·rename_i Z1 G1 e1
  refine⟨ι,Z,G,_,s,e1,?_⟩
  exact λσ' ι' H' s' t=>cj.of s' t eq k
 ·rename_i r hn
  refine⟨ι,Z,G,_,s,eq,?_⟩
  unfold kC at k ⊢
  cases fl with
  | nx Z' G'=>exact absurd eq (hn Z' G')
  | bk Z' G'=>exact k
  | ct Z' G'=>exact k
  | rt x G'=>exact k
def E9{c:Mo Bool}{a b:SF}(h:cj K κ E (aF c a b) D σ H):kM (dH K κ c) (cj K κ E a) (cj K κ E b) D σ H:=by
 obtain⟨ι,Z,G,fl,s,eq,k⟩:=h
 unfold aF at eq
 split at eq
 ·rename_i Z1 G1 e1
  exact⟨ι,Z,G,true,Z1,G1,s,e1,λι' H' s' t=>by dsimp only;rw [if_pos rfl];exact cj.of s' t eq k⟩
 ·rename_i Z1 G1 e1
  exact⟨ι,Z,G,false,Z1,G1,s,e1,λι' H' s' t=>by dsimp only;rw [if_neg z15];exact cj.of s' t eq k⟩
 ·cases eq
def Fb{f:IF}{g:GF}{b:SF}(h:cj K κ E (bC f g b) D σ H):nD (mT K κ f) (lM K κ g) (cj K κ E b) D σ H:=by
 obtain⟨ι,Z,G,fl,s,eq,k⟩:=h
 unfold bC at eq
 split at eq
 ·rename_i w es Z1 G1 e1
  refine⟨ι,Z,G,w,es,Z1,G1,s,e1,λJ vs ι1 H1 a wk=>?_⟩
  refine⟨λi m σ' H'=>i+m=w.n/\∃ι' Z' G',σ'.length=Z'.length/\SR K κ ι' H' (σ'++tS es vs) (Z'++tD es) G'/\Step ι (own σ Z++ι) H ι' (own (σ'++tS es vs) (Z'++tD es)++ι') H'/\aW w g b i m Z' G'=some fl,
   ⟨w.n,by lia,ι1,Z1,G1,a.ar.l,a.ar.sr,a.st,eq⟩,?_⟩
  rintro i m σ' H' ⟨him,ι',Z',G',l,s',st,e⟩
  have sub:∀a,a∈own σ' Z'++ι'->a∈own (σ'++tS es vs) (Z'++tD es)++ι':=λa ha=>cE l ha
  cases m with
  | zero =>
   have hi:i=w.n:=by lia
   subst hi
   unfold aW at e
   split at e
   ·rename_i hf
    cases e
    exact .inl ⟨wk.stop hf l s',k _ _ _ (s'.pop l) (st.sub sub)⟩
   ·cases e
  | succ m =>
   unfold aW at e
   split at e
   ·rename_i d hd
    obtain⟨go,yl⟩:=wk.go (by lia) hd l s'
    refine .inr ⟨go,λσ2 H2=>∃ι2 Z2 G2,σ2.length=Z2.length/\SR K κ ι2 H2 (σ2++tS es vs) (Z2++tD es) G2/\Step ι (own σ Z++ι) H ι2 (own (σ2++tS es vs) (Z2++tD es)++ι2) H2/\aW w g b (i+1) m Z2 G2=some fl,
     λσ2 H2 q=>⟨m,z35 _,by lia,q⟩,λx H3 hy=>?_⟩
    obtain⟨sm,rx⟩:=yl x H3 hy
    have s3:=s'.same sm
    have st3:=st.trans (Step.same sm)
    split at e
    ·rename_i Z4 G4 e4
     have p:=(s3.pop l).push_im rx
     refine⟨ι',Z',G',.im d,Z4,G4,l,p,e4,λσ4 ι4 H4 s4 st4=>?_⟩
     rw [dv l] at st4
     have jn:∀{σ5:L2.St} {Z5:De} {G5:List M} {ι5:List Addr} {H5:Hp},SR K κ ι5 H5 σ5 Z5 G5->Step ι4 (own σ4 Z4++ι4) H4 ι5 (own σ5 Z5++ι5) H5 ->
       SR K κ ι5 H5 (σ5++tS es vs) (Z5++tD es) G5/\Step ι (own σ Z++ι) H ι5 (own (σ5++tS es vs) (Z5++tD es)++ι5) H5:=λ{σ5 Z5 G5 ι5 H5} s5 st5=>by
      have j:=SR.join s3 l (by rw [z11,z11];exact s5) s5.len (by rw [z11,z11];exact st4.trans st5)
      rw [z11,z11] at j
      exact⟨j.1,st3.trans j.2⟩
     have wide4:Step ι (own σ Z++ι) H ι4 (own σ4 Z4++ι4) H4:=st3.trans ((st4.wide λy hy=>cE l hy))
     split at e
     ·rename_i Z5 G5 e5
      exact⟨ι4,Z4,G4,_,s4,e5,λσ5 ι5 H5 s5 st5=>⟨ι5,Z5,G5,s5.len,(jn s5 st5).1,(jn s5 st5).2,e⟩⟩
     ·rename_i Z5 G5 e5
      exact⟨ι4,Z4,G4,_,s4,e5,λσ5 ι5 H5 s5 st5=>⟨ι5,Z5,G5,s5.len,(jn s5 st5).1,(jn s5 st5).2,e⟩⟩
     ·rename_i Z5 G5 e5
      cases e
      exact⟨ι4,Z4,G4,_,s4,e5,λσ5 ι5 H5 s5 st5=>k _ _ _ s5 ((jn s5 st5).2.sub λa ha=>cE s5.len ha)⟩
     ·rename_i x5 G5 e5
      cases e
      refine⟨ι4,Z4,G4,_,s4,e5,?_⟩
      unfold kC at k ⊢
      split at k
      ·rename_i c fs G' ex
       exact XP.step wide4 k
      ·rename_i ex
       exact λv ι5 H5 s5 st5=>k _ _ _ s5 ((jn s5 st5).2.sub λa ha=>cE s5.len ha)
     ·cases e
    ·cases e
   ·cases e
 ·cases eq
abbrev me(K:W.Frag)(κ:Str->Addr)(ι fp:List Addr)(H:Hp)(Q:VK)(E:XK)(x:Vl)(G':List M):Prop:=match x with
 | .ow (.obj c fs)=>XP K κ E ι fp H c fs G'
 | x=>∀v ι' H',SR K κ ι' H' [some v] [some x] G'->Step ι fp H ι' (own [some v] [some x]++ι') H'->Q v H'
abbrev eX(K:W.Frag)(κ:Str->Addr)(n:Nat)(fn:FF):Sp:=λvs H Q E=>∃ι xs G x G',xs.length=n/\SR K κ ι H (vs.map some) (xs.map some) G/\fn xs G=some (x,G')/\me K κ ι (own (vs.map some) (xs.map some)++ι) H Q E x G'
def Fc{Q:VK}{x:Vl}{G':List M}(h:me K κ ι fp H Q E x G')(v:V)(ι':List Addr)(H':Hp)(e:xo (.rt x G')=none)(s:SR K κ ι' H' [some v] [some x] G')(t:Step ι fp H ι' (own [some v] [some x]++ι') H'):Q v H':=by
 unfold me at h
 split at h
 ·cases e
 ·exact h v ι' H' s t
def vQ{n r:Nat}{body:SF}{vs:List V}{Q:VK}(h:eX K κ n (aS n r body) vs H Q E):vs.length=n/\cj K κ E body { nx:=λ_ H'=>Q .non H',rt:=Q } (vs.map some++List.replicate r none) H:=by
 obtain⟨ι,xs,G,x,G',hl,s,eq,k⟩:=h
 have lv:vs.length=n:=by have:=s.len;rw [z12,z12] at this;lia
 refine⟨lv,?_⟩
 unfold aS at eq
 rw [if_pos hl] at eq
 obtain⟨s0,e0⟩:=s.y23c r
 split at eq
 ·rename_i x' G1 e1
  cases eq
  refine⟨ι,_,G,_,s0,e1,?_⟩
  rw [e0]
  unfold kC
  split
  ·rename_i c fs G2 ex
   unfold xo at ex
   split at ex
   ·rename_i c2 fs2 G3 ez
    cases ex
    cases ez
    exact k
   ·cases ex
  ·rename_i ex
   exact λv ι' H' s' st=>Fc k v ι' H' ex s' st
 ·rename_i Z1 G1 e1
  cases eq
  refine⟨ι,_,G,_,s0,e1,?_⟩
  rw [e0]
  intro σ' ι' H' s' st
  obtain⟨p,q⟩:=SR.last (s'.push_im .non) s'.len
  refine k _ _ _ p (st.sub λa ha=>?_)
  have:=q a ha
  rw [dv s'.len] at this
  exact this
 ·cases eq
end
end
section
abbrev cB(f:Mo Ev):SF:=λZ G=>match f Z G with
 | some (.v (.ow (.obj c fs)),_,G1)=>some (.rt (.ow (.obj c fs)) G1)
 | some (_,Z1,G1)=>some (.nx Z1 G1)
 | none=>none
abbrev iQ(f:Mo Ev)(g:GF):SF:=λZ G=>match f Z G with
 | some (.v (.ow (.obj c fs)),_,G1)=>some (.rt (.ow (.obj c fs)) G1)
 | some (.v x,Z1,G1)=>match g x Z1 G1 with
  | some (Z2,G2)=>some (.nx Z2 G2)
  | none=>none
 | _=>none
abbrev iR(c:Str)(fns:List Str)(fa:Mo (List Ev)):SF:=λZ G=>match fa Z G with
 | some (es,_,G1)=>match mS es with
  | some ds=>if ds.length=fns.length then some (.rt (.ow (.obj c (fns.zip ds))) G1) else none
  | none=>none
 | none=>none
abbrev Fd(C:Addr)(fns:List Str):Sp:=λvs H Q _=>∃x us,vs=.ref x::us/\us.length=fns.length/\H x=some (cI x C none true)/\∀dx,H dx=none->Q .non (aC (aC H dx (fI dx (fns.zip us))) x (cI x C (some dx) true))
structure ClN(P:Program)(w:World)(K:W.Frag)(mg:Str->Option Value)(base:Heap)(x:Str)(C:Addr)(fns:List Str):Prop where
 ex:∃f fd,y5f K C f "ValueError" "ValueError.__new__" "ValueError.__new__" "ValueError.__init__" "ValueError.__init__" VE VE/\y46 P w K mg base bW 1 f fd ("self"::fns) (Fd C fns)/\cX K fd ("self"::fns) []/\mg x=some (.ref C)/\W.keepIn K (.ref C)=true
 ln:fns.length≤100
abbrev kE(P:Program)(w:World)(K:W.Frag)(mg:Str->Option Value)(base:Heap)(x:Str)(k:Nat)(ps:List Str)(sp:Sp):Prop :=
 ∃(f:Addr) (fd:FuncData),mg x=some (.ref f)/\W.keepIn K (.ref f)=true/\cX K fd ps []/\y46 P w K mg base (df P w base) k f fd ps sp
section
variable {K:W.Frag}{κ:Str->Addr}{ι:List Addr}{H:Hp}{D:Ends}{E:XK}{σ:L2.St}{n:Nat}{fn:FF}{es:List Ev}{vs:List V}{Z Z':De}{G G':List M}{Q:VK}{fa:Mo (List Ev)}
def mf{x:Vl}(a:Args K κ ι H σ Z G es vs)(h:ax n fn es Z G=some (.v x,Z',G'))
  (k:(∀c fs,x≠.ow (.obj c fs))->∀v ι' H',After K κ σ ι (own (σ++tS es vs) (Z++tD es)++ι) H [.v x] Z' G' [v] ι' H'->Q v H')
  (kx:∀c fs,x=.ow (.obj c fs)->XP K κ E ι (own (σ++tS es vs) (Z++tD es)++ι) H c fs G'):eX K κ n fn vs H Q E:=by
 unfold ax at h
 split at h
 ·rename_i xs hx
  split at h
  ·rename_i hl
   split at h
   ·rename_i x' G1 e1
    cases h
    obtain⟨t1,t2⟩:=oB hx a.len
    have sr:=a.sr
    rw [t1,t2] at sr k kx
    have sw:=sr.swap a.l
    have lt:(vs.map some).length=(xs.map some).length:=Paired.length (cz a.l sr.sl).2
    refine⟨ι,xs,G,x,_,hl,sw.pop lt,e1,?_⟩
    unfold me
    split
    ·rename_i c fs
     exact (kx c fs rfl).step ((Step.refl _ _ _).sub λy hy=>iI a.l lt (cE lt hy))
    ·rename_i hne
     intro v ι' H' s st
     have s':SR K κ ι' H' ([some v]++[]) ([some x]++[]) _:=s
     obtain⟨j1,j2⟩:=SR.join sw lt s' rfl st
     rw [z11,z11] at j1 j2
     refine k (λc fs z=>hne c fs z) v ι' H' ⟨⟨a.l,j1.swap rfl,.cons (λ_ h=>by cases h) .nil⟩,(j2.wide λy hy=>iI a.l lt hy).sub λy hy=>?_⟩
     exact iI rfl a.l hy
   ·cases h
  ·cases h
 ·cases h
def ya4{e:Ev}(h:ax n fn es Z G=some (e,Z',G')):∃x,e=.v x:=by
 unfold ax at h
 split at h
 ·split at h
  ·split at h
   ·cases h;exact⟨_,rfl⟩
   ·cases h
  ·cases h
 ·cases h
def vR{sp:Sp}{ta:TA}(h:ta σ H λvs H1=>sp vs H1 Q E):ft sp [] E ta σ H Q:=by
 unfold ft
 simpa only [z11] using h
def Fe(h:cj K κ E (cB (bd fa (ax n fn))) D σ H):ny (ft (eX K κ n fn) [] E (gb K κ fa)) D σ H:=by
 obtain⟨ι,Z,G,fl,s,eq,k⟩:=h
 refine vR ?_
 unfold cB at eq
 split at eq
 ·rename_i c fs Z1 G1 e0
  cases eq
  obtain⟨es,Z2,G2,e1,e2⟩:=cD e0
  refine⟨ι,Z,G,es,Z2,G2,s,e1,λvs ι1 H1 a=>mf a.ar e2 (λz=>absurd rfl (z c fs)) λc' fs' z=>?_⟩
  cases z
  exact XP.step a.st k
 ·rename_i e Z1 G1 hn e0
  cases eq
  obtain⟨es,Z2,G2,e1,e2⟩:=cD e0
  obtain⟨x,rfl⟩:=ya4 e2
  refine⟨ι,Z,G,es,Z2,G2,s,e1,λvs ι1 H1 a=>mf a.ar e2 (λ_ v ι2 H2 b=>?_) λc' fs' z=>?_⟩
  ·obtain⟨p,q⟩:=(a.then b).drop
   exact k _ _ _ p q
  ·cases z
   exact absurd rfl (hn c' fs')
 ·cases eq
def Ff{g:GF}(h:cj K κ E (iQ (bd fa (ax n fn)) g) D σ H):fV (ft (eX K κ n fn) [] E (gb K κ fa)) (lM K κ g) D σ H:=by
 obtain⟨ι,Z,G,fl,s,eq,k⟩:=h
 refine vR ?_
 unfold iQ at eq
 split at eq
 ·rename_i c fs Z1 G1 e0
  cases eq
  obtain⟨es,Z2,G2,e1,e2⟩:=cD e0
  refine⟨ι,Z,G,es,Z2,G2,s,e1,λvs ι1 H1 a=>mf a.ar e2 (λz=>absurd rfl (z c fs)) λc' fs' z=>?_⟩
  cases z
  exact XP.step a.st k
 ·rename_i x Z1 G1 hn e0
  split at eq
  ·rename_i Z2 G2 eg
   cases eq
   obtain⟨es,Z3,G3,e1,e2⟩:=cD e0
   refine⟨ι,Z,G,es,Z3,G3,s,e1,λvs ι1 H1 a=>mf a.ar e2 (λ_ v ι2 H2 b=>?_) λc' fs' z=>?_⟩
   ·have ab:=a.then b
    exact⟨ι2,Z1,G1,x,Z2,G2,ab.ar.l,ab.ar.sr,eg,λσ' ι3 H3 s3 st=>k _ _ _ s3 (ab.st.trans st)⟩
   ·cases z
    exact absurd rfl (hn c' fs')
  ·cases eq
 ·cases eq
def Fg{H:Hp}{a b:Addr}{o o' o2 u:HO}(ne:b≠a):aC (aC (aC (aC H a o) b u) a o') a o2=aC (aC H b u) a o2:=by
 rw [zM]
 funext c;unfold aC
 by_cases h1:c=a
 ·simp [h1]
 ·by_cases h2:c=b<;>simp [h1,h2]
theorem pj{α β:Type}:∀{a:List α} {b:List β},b.length=a.length->(a.zip b).map (·.1)=a/\(a.zip b).map (·.2)=b
 | [],[],_=>⟨rfl,rfl⟩
 | x::a,y::b,h=>by
  obtain⟨p,q⟩:=pj (a:=a) (b:=b) (by simpa using h)
  exact⟨by rw [List.zip_cons_cons,z16,p],by rw [List.zip_cons_cons,z16,q]⟩
def SR.bare{H':Hp}(s:SR K κ ι H σ Z G)(sm:dW H H'):SR K κ ι H' [] [] G/\Step ι (own σ Z++ι) H ι ι H':=by
 have z:=s.same sm
 refine⟨⟨.nil,z.gs,λx=>?_⟩,(Step.same sm).sub λa ha=>z21 _ ha⟩
 have:=z.nd x
 have h0:bj x (own ([]:L2.St) ([]:De))=0:=rfl
 lia
def Fh{c:Str}{fns:List Str}(ic:p7 K (κ c))(h:cj K κ E (iR c fns fa) D σ H):vF K (vG (κ c) (Fd (κ c) fns) [] E0 (gb K κ fa)) E D σ H:=by
 obtain⟨ι,Z,G,fl,s,eq,k⟩:=h
 unfold iR at eq
 split at eq
 ·rename_i es Z1 G1 e1
  split at eq
  ·rename_i ds hd
   split at eq
   ·rename_i hl
    cases eq
    refine⟨ι,Z,G,es,Z1,G1,s,e1,λvs ι1 H1 a x hx=>?_⟩
    have r:=a.ar.ims hd
    have lv:vs.length=fns.length:=by rw [r.len];exact hl
    refine⟨x,vs,by rw [z11],lv,a9,λdx hdx=>⟨rfl,x,κ c,some dx,rfl,a9,ic,?_⟩⟩
    have ne:dx≠x:=λz=>by rw [z,a9] at hdx;cases hdx
    rw [aM ne] at hdx
    rw [Fg ne]
    have s1:dW H1 (aC H1 dx (fI dx (fns.zip vs))):=dW.lay hdx
    have hx2:aC H1 dx (fI dx (fns.zip vs)) x=none:=by rw [aM ne.symm];exact hx
    have s2:dW H1 (aC (aC H1 dx (fI dx (fns.zip vs))) x (cI x (κ c) (some dx) false)):=λb o e=>dW.lay hx2 b o (s1 b o e)
    obtain⟨z1,z2⟩:=a.ar.sr.bare s2
    obtain⟨f1,f2⟩:=pj (a:=fns) (b:=vs) lv
    obtain⟨g1,g2⟩:=pj (a:=fns) (b:=ds) hl
    refine k x dx (fns.zip vs) ι1 _ a9 (by rw [aM ne];exact a9) (by rw [f1,g1]) ?_ z1 (a.st.trans z2)
    rw [f2,g2]
    exact r.mono (cb.refl _) (Kp.same s2)
   ·cases eq
  ·cases eq
 ·cases eq
end
end
section
@[irreducible] noncomputable def LX(X:Cx)(κ:Str->Addr)(E:XK)(s:Stmt)(f:SF):Prop:=PS X s (cj X.K κ E f)
@[irreducible] noncomputable def ir(X:Cx)(κ:Str->Addr)(E:XK)(s:List Stmt)(f:SF):Prop:=dS X s (cj X.K κ E f)
section
variable {X:Cx}{κ:Str->Addr}{E:XK}{s:Stmt}{ss ss2:List Stmt}{f g:SF}{pos p y359:Pos}{x:Str}{k n:Nat}{ps:List Str}{fn:FF}{e c tg it:Expr}{es:List Expr}{fs:Mo (List Ev)}{fc:Mo Bool}{fi:IF}{gf:GF}
def LX.mk(h:PS X s (cj X.K κ E f)):LX X κ E s f:=by unfold LX;exact h
def LX.pe(h:LX X κ E s f):PS X s (cj X.K κ E f):=by unfold LX at h;exact h
def ir.mk(h:dS X ss (cj X.K κ E f)):ir X κ E ss f:=by unfold ir;exact h
def ir.pe(h:ir X κ E ss f):dS X ss (cj X.K κ E f):=by unfold ir at h;exact h
def jS(h:LS X κ s f):LX X κ E s (c9 f):=.mk (c7 h.pe λ_ _ _=>vP)
def jT(h:gE X κ ss f):ir X κ E ss (c9 f):=.mk (lP h.pe λ_ _ _=>vP)
def jU(h:LX X κ E s f)(r:ir X κ E ss g):ir X κ E (s::ss) (ai f g):=.mk (lP (fS h.pe r.pe) λ_ _ _=>E8)
def jV(h:LX X κ E s f):ir X κ E [s] f:=.mk (fT h.pe)
def jW(hc:LT X κ c fc)(ha:ir X κ E ss f)(hb:ir X κ E ss2 g):LX X κ E (.If c ss ss2 pos) (aF fc f g):=.mk (c7 (kN hc.pe ha.pe hb.pe) λ_ _ _=>E9)
def jX(hp:PassesOwn (model X.prog X.w) X.A X.env X.xe)(hi:LI X κ tg it fi)(hg:LG X κ tg gf)(hb:ir X κ E ss f)(hc:‹X.calm=true›)(hs:∀x,foldedSetIterable it X.env x=pure x:=by intro _;rfl):LX X κ E (.For tg it ss [] pos) (bC fi gf f):=.mk (c7 (qJ hp hc hi.pe hg.pe hb.pe hs) λ_ _ _=>Fb)
def vS(h:kE X.prog X.w X.K X.mg X.base x k ps (eX X.K κ n fn))(hx:bN (df X.prog X.w X.base) X E)(hr:y55 k X.A)(ha:LA X κ (e::es) fs)(hg:‹Gl X x›)
  (hdb:(x == ("__debug__" : Str))=false:=by decide) (he:‹gJ X e es›) (hpl:‹gC X pos es›):PE X (.Call (.Name x p) (e::es) [] pos) (ft (eX X.K κ n fn) [] E (gb X.K κ fs)):=by
 obtain⟨f,fd,hm,hk,hb,G⟩:=h
 exact nK G hr hg hm hk hb .nil hx ha.pe hdb he hpl
def dZ(h:kE X.prog X.w X.K X.mg X.base x k ps (eX X.K κ n fn))(hx:bN (df X.prog X.w X.base) X E)(hr:y55 k X.A)(ha:LA X κ (e::es) fs)(hg:‹Gl X x›)
  (hdb:(x == ("__debug__" : Str))=false:=by decide) (he:‹gJ X e es›) (hpl:‹gC X pos es›)
  (hs:‹swapsWith (.Call (.Name x p) (e::es) [] pos) none y359.line X.env=pure false›):LX X κ E (.Expr (.Call (.Name x p) (e::es) [] pos) y359) (cB (bd fs (ax n fn))) :=
 .mk (c7 (nz (vS h hx hr ha hg hdb he hpl) hs) λ_ _ _=>Fe)
def jY(h:kE X.prog X.w X.K X.mg X.base x k ps (eX X.K κ n fn))(hx:bN (df X.prog X.w X.base) X E)(hr:y55 k X.A)(ha:LA X κ (e::es) fs)(htg:LG X κ tg gf)(hg:‹Gl X x›)
  (hdb:(x == ("__debug__" : Str))=false:=by decide) (he:‹gJ X e es›) (hpl:‹gC X pos es›)
  (hs:‹swapsWithSole [tg] (.Call (.Name x p) (e::es) [] pos) y359.line X.env=pure false›) (hw:‹swappedStores [tg] (.Call (.Name x p) (e::es) [] pos) X.env=pure none›)
  (h1:‹(assignEach [tg] X.env).map (·.2)=[assign tg X.env]›):LX X κ E (.Assign [tg] (.Call (.Name x p) (e::es) [] pos) y359) (iQ (bd fs (ax n fn)) gf) :=
 .mk (c7 (fW (vS h hx hr ha hg hdb he hpl) htg.pe hs hw h1) λ_ _ _=>Ff)
def jZ{fns:List Str}(h:ClN X.prog X.w X.K X.mg X.base x (κ x) fns)(hx:fK X E)(hr:y55 (1+1) X.A)(ha:LA X κ (e::es) fs)(hg:‹Gl X x›)(hc:‹X.calm=true›)
  (hdb:(x == ("__debug__" : Str))=false:=by decide) (he:‹gJ X e es›) (hpl:‹gC X pos es›) :
  LX X κ E (.Raise (some (.Call (.Name x p) (e::es) [] pos)) none y359) (iR x fns fs):=by
 obtain⟨f,fd,c1,c2,c3,c4,c5⟩:=h.ex
 have ln:=h.ln
 exact .mk (c7 (EX hc (EY c1 c5 c2 hr hg c4 c3 .nil sv (by rw [z10];lia) ha.pe hdb he hpl) hx) λ_ _ _=>Fh c1.is)
end
section
variable {P:Program}{w:World}{K:W.Frag}{mg:Str->Option Value}{base:Heap}{κ:Str->Addr}
def Fi{N:List Str}{qual:Str}{scope:Scope}{f:Addr}{cd:Value}{A:Around}{outer:List Env}{s:Shared}{H:Hp}{E:XK}{X:Cx}(e:X=fu (df P w base) P w K mg base N qual scope f cd A outer s H E):PassesOwn (model X.prog X.w) X.A X.env X.xe:=by
 subst e
 exact PassesOwn.leaving (Q₁:=λe s''=>df P w base outer H s E e s'')
def j0{x qual:Str}{st:Stmt}{f:Addr}{fd:FuncData}{N ps:List Str}{k n r:Nat}{body:SF}(F:Fun K x qual st f fd)(S:y47 N ps (bL st))(hn:ps.length=n)(hN:N.length=n+r)
  (hb:∀(cdv:Value) (A:Around) (outer:List Env) (s:Shared) (H:Hp) (E:XK),y55 k (A.deeper (envOfC qual (bL st) s.heap.objs.size f cdv))->PassesOwn (model P w) (fu (df P w base) P w K mg base N qual (bL st) f cdv A outer s H E).A (fu (df P w base) P w K mg base N qual (bL st) f cdv A outer s H E).env (fu (df P w base) P w K mg base N qual (bL st) f cdv A outer s H E).xe->bN (df P w base) (fu (df P w base) P w K mg base N qual (bL st) f cdv A outer s H E) E ->
   fK (fu (df P w base) P w K mg base N qual (bL st) f cdv A outer s H E) E->ir (fu (df P w base) P w K mg base N qual (bL st) f cdv A outer s H E) κ E (kz st) body) :
  y46 P w K mg base (df P w base) (k+1) f fd ps (eX K κ n (aS n r body)):=by
 refine F.okX S (λvs H Q E h=>by rw [(vQ h).1,hn]) (λcdv A outer s H vs Q E hr h=>⟨_,(hb cdv A outer s H E hr (Fi rfl) EV EU).pe,?_⟩)
 obtain⟨l,q⟩:=vQ h
 unfold L2.start
 have e:N.length-vs.length=r:=by lia
 rw [e]
 exact q
end
end
end B
namespace L2
open PySem PySem.Spec PyProof.Rows
section
abbrev mh:V->Option Value
 | .ref a=>some (.ref a)
 | .ty n=>some (.type n)
 | _=>none
abbrev yQ:List V->Option (List Value)
 | []=>some []
 | v::vs=>match mh v,yQ vs with
  | some u,some us=>some (u::us)
  | _,_=>none
def yda{v:V}{u c:Value}(h:mh v=some c)(r:aA v u):u=c:=by
 cases v<;>simp [mh] at h
 ·subst h;exact r
 ·subst h;exact r
theorem ydc:∀{vs:List V} {us cs:List Value},yQ vs=some cs->au vs us->us=cs
 | [],_,_,h,.nil=>by cases h;rfl
 | v::vs,_,cs,h,.cons r rs=>by
  unfold yQ at h
  split at h
  ·rename_i u us h1 h2
   cases h
   rw [yda h1 r,ydc h2 rs]
  ·cases h
abbrev vT(K:W.Frag):List V->Hp->VK->Prop:=λvs H Q=>∃x D dx fs new cv b,vs=[.ref x,cv]/\H x=some (cI x D (some dx) new)/\H dx=some (fI dx fs)/\XA K D/\XI K D/\Q (.bl b) H /\
 ((∃c,mh cv=some c/\W.kitOne K (.ref D) c=some b)∨∃tp cvs cs,cv=.ref tp/\H tp=some (.tup cvs)/\yQ cvs=some cs/\W.kitAny K (.ref D) cs=some b)
def Fj{X:Cx}:y6 X (.builtin "isinstance") (vT X.K):=by
 intro pins s σ H xs us Q I r ⟨x,D,dx,fs,new,cv,b,e,ex,ed,xa,xi,q,h⟩
 subst e
 cases r with
 | @cons _ u _ us' ru r2 =>
  obtain rfl:u=Value.ref x:=ru
  cases r2 with
  | @cons _ u2 _ Im ru2 r3 =>
   cases r3
   rcases h with⟨c,ec,k⟩| ⟨tp,cvs,cs,rfl,et,ec,k⟩
   ·obtain rfl:=yda ec ru2
    exact E7 xa xi k I ex ed λtk=>⟨.bl b,H,I.tok tk,rfl,q⟩
   ·obtain rfl:u2=Value.ref tp:=ru2
    obtain⟨_,its,rv,o,ho,hc,hdn,n,hdt⟩:=I.hok tp _ et
    obtain rfl:=ydc ec rv
    obtain⟨oc,odi,oda,osl⟩:=o
    dsimp only at hc hdn hdt
    subst hc hdn hdt
    obtain⟨o,vs,a0,h1,h2,h3,h4,_⟩:=fJ I.hok ex
    obtain⟨_,mA,hm,_⟩:=l9 I.hok ed
    obtain⟨od,hod,_⟩:=kR hm
    obtain⟨oc,odi,oda,osl2⟩:=o
    dsimp only at h2 h3 h4
    subst h2 h3 h4
    exact W.kia_tup (vO (ox:=⟨.ref D,some dx,.fields vs,osl2⟩) (od:=od) xa xi) I.kIn ⟨h1,rfl,rfl,hod⟩ ho k (λz=>nomatch z) λtk=>⟨.bl b,H,I.tok tk,rfl,q⟩
def Fm{X:Cx}:PH X [] (λ_ _ _ _=>False):=λ_ _ _ _ _ _ _ _ h=>h.elim
end
end L2
set_option maxHeartbeats 4000000
namespace Q
open PySem PySem.Spec PyProof.Rows L2 B
abbrev top(i:Nat):Stmt:=PySem.Challenge.pw_stepcourt_k08_the_first_thing_amiss.main.body.getD i (.Pass ⟨0,0,0,0⟩)
section
variable {P:Program}{w:World}{K:W.Frag}{mg:Str->Option Value}{base:Heap}{C C0 f:Addr}{fd:FuncData}
def Fo{H:Hp}{a b:Addr}{o o' u:HO}(ne:b≠a):aC (aC (aC H b o) a u) b o'=aC (aC H b o') a u:=by
 funext c;unfold aC
 by_cases h1:c=b
 ·rw [if_pos h1,if_neg (by rw [h1];exact ne),if_pos h1]
 ·rw [if_neg h1]
  by_cases h2:c=a
  ·rw [if_pos h2,if_pos h2]
  ·rw [if_neg h2,if_neg h2,if_neg h1,if_neg h1]
def Fp:y47 ["self","word","name"] ["self","word","name"] (bL (fw (top 3) 0)):=bz
def Fq(F:Fun K "__init__" "NoProgram.__init__" (fw (top 3) 0) f fd)(hC:y5f K C f "ValueError" "ValueError.__new__" "ValueError.__new__" "ValueError.__init__" "ValueError.__init__" VE VE)(hA:XA K C)(n:ig K C "word")(n':ig K C "name")(h0:y13 K C0 "ValueError.__init__")(g0:mg "CourtError" = some (.ref C0)):y46 P w K mg base bW 1 f fd ["self","word","name"] (Fd C ["word","name"]):=by
 refine F.ok Fp (λvs H Q E zz=>by obtain⟨x,us,e,l,_⟩:=zz;rw [e,z10,l];rfl) λcdv A outer s H vs Q E hr zz=>?_
 obtain⟨x,us,e,l,ex,k⟩:=zz
 subst e
 match us,l with
 | [v,u],_ =>
 refine⟨_,fS (nz (ES (by rfl) g0 h0 hC (cm (pv 0) (cm (pv 1) (cm (pv 2) eM))))) (fS (EN (pv 0) (pv 1) (by rfl)) (fT (EO (pv 0) (pv 2) (by rfl)))),?_⟩
 refine⟨_,rfl,_,rfl,_,rfl,x,[v,u],true,none,rfl,(show (2:Nat)≤sizeLine by decide),ex,_,rfl,_,rfl,x,C,true,rfl,ex,hA,n,λdx hd=>?_⟩
 have ne:dx≠x:=λz=>by rw [z,ex] at hd;cases hd
 refine⟨_,rfl,_,rfl,x,C,dx,_,true,rfl,a9,(by rw [aM ne];exact a9),hA,n',(by show (1:Nat)<1000;decide),?_⟩
 show Q .non _
 rw [Fo ne]
 exact k dx hd
end
end Q
namespace Q
open PySem L2 B
noncomputable section
abbrev yR:SF :=
 (aI (ah dM (ah bx (ah c8 (aa 3) (ag (.int 48271))) (ah dM (aa 4) (ag (.int 2147483629)))) (ag (.int 2147483647))) (aB 3))
abbrev yS:FF:=aS 2 3
 (ai (aI (dJ (bG (one (a8 (aa 0) (aX (aa 1)) (aX (ag (.int 63))))) aT) [] c1 bf (bd (af (aa 0) (af (ah cM (ag (.int 0)) (aa 0)) ae)) gX)) (aB 2))
 (ai (aI (ah bx (ag (.int 7919)) (aa 1)) (aB 3))
 (ai (bC (bG (one (aZ (aa 2))) aT) (aB 4)
 yR)
 (aD (m4 (cF (ag (.str "seed")) (aa 3) (cF (ag (.str "number")) (ag (.int 0)) (cF (ag (.str "left")) (aZ (cZ iP (dJ (bG (one (aZ (aa 2))) aT) [] c1 (ao (ah oM (aa 0) (ah gT (ag (.int 10)) (ag (.int 18))))) (aa 0)))) gu))))))))
abbrev pq:Mo Bool:=(eG (ao (ah bQ (ah ak (aa 0) (ag (.str "number"))) (ag (.int 0)))) (ao (ah gU (bd (af (ah ak (aa 0) (ag (.str "left"))) ae) aQ) (ag (.int 0)))))
abbrev vU:SF :=
 (cO (aa 0) (ag (.str "number")) (cZ fH (ah ak (aa 0) (ag (.str "left")))))
abbrev aU:FF:=aS 2 3
 (ai (fQ pq
 vU)
 (ai (aI (ah ak (aa 0) (ag (.str "number"))) (aB 2))
 (ai (aF (ao (ah gU (aa 2) (ag (.int 0))))
 (ai (cO (aa 0) (ag (.str "number")) (ah iN (aa 2) (aa 1)))
 (aD (ah dM (aa 2) (aa 1))))
 aO)
 (ai (aI (ah dM (ah bx (ah c8 (ah ak (aa 0) (ag (.str "seed"))) (ag (.int 48271))) (ag (.int 7919))) (ag (.int 2147483647))) (aB 3))
 (ai (cO (aa 0) (ag (.str "seed")) (ah dM (ah bx (ah c8 (aa 3) (ag (.int 40692))) (ag (.int 104729))) (ag (.int 2147483399))))
 (ai (aI (ah dM (ah c8 (ah ak (aa 0) (ag (.str "seed"))) (ah ak (aa 0) (ag (.str "seed")))) (ag (.int 2147483563))) (aB 4))
 (aD (ah dM (ah bx (ah c8 (ah dM (ah c8 (aa 3) (aa 3)) (ag (.int 2147483629))) (ag (.int 2147483563))) (aa 4)) (aa 1)))))))))
abbrev yT:SF :=
 (ai (aI (ah bx (ah ak (aa 2) (ah dM (ah bx (aa 5) (ah c8 (ag (.int 7)) (aa 7))) (ag (.int 26)))) (a8 (aa 3) (aX (aa 4)) a6)) (aB 8))
 (cL (gn ip (aa 6) (af (ah bx (ah bx (a8 (aa 3) a6 (aX (aa 4))) (aa 8)) (ah ak (bd (af (ag (.str "")) (af (ag (.str "z")) ae)) aP) (ah iN (ah dM (aa 7) (ag (.int 5))) (ag (.int 4))))) ae))))
abbrev vV:FF:=aS 2 10
 (ai (aI (ag (.str "abcdefghijklmnopqrstuvwxyz")) (aB 2))
 (ai (aI (vq jO (ag (.str "")) (af (dJ (bG (af (bd (af (aa 0) (af (ag (.int 5)) ae)) (ax 2 aU)) ae) c6) [2,0] c1 bf (ah ak (aa 1) (bd (af (aa 2) (af (ag (.int 26)) ae)) (ax 2 aU)))) ae)) (aB 3))
 (ai (aI (bd (af (aa 0) (af (ah bx (bd (af (aa 3) ae) aQ) (ag (.int 1))) ae)) (ax 2 aU)) (aB 4))
 (ai (aI (bd (af (aa 0) (af (ag (.int 26)) ae)) (ax 2 aU)) (aB 5))
 (ai (aI (bd ae aP) (aB 6))
 (ai (bC (bG (af (aa 1) ae) c6) (aB 7)
 yT)
 (ai (aI (bd (af (ag (.str "cells")) (af (ag (.str "de")) (af (ag (.str "mains")) (af (ag (.str "setx")) (af (ag (.str "ends")) (af (ag (.str "atx")) (af (ag (.str "i")) (af (ag (.str "calls")) ae)))))))) aP) (aB 9))
 (ai (aI (bd (af (ag (.str "cell")) (af (ag (.str "row")) (af (ag (.str "def")) (af (ag (.str "main")) (af (ag (.str "set")) (af (ag (.str "put")) (af (ag (.str "while")) (af (ag (.str "if")) (af (ag (.str "else")) (af (ag (.str "call")) (af (ag (.str "end")) (af (ag (.str "at")) ae)))))))))))) ay) (aB 10))
 (ai (aI (dJ (bG (one (aZ (aa 6))) aT) [10] c1 bf (ah bx (aa 0) (ah c8 (ag (.str "q")) (bd (af (ah fR (aa 0) (aa 1)) ae) dO)))) (aB 6))
 (ai (aI (ah ak (aa 9) (bd (af (aa 0) (af (ag (.int 8)) ae)) (ax 2 aU))) (aB 11))
 (ai (aF (eG (ao (ah bQ (bd (af (aa 0) (af (ag (.int 3)) ae)) (ax 2 aU)) (ag (.int 1)))) (ao (ah dy (aa 11) (aa 6))))
 (cO (aa 6) (bd (af (aa 0) (af (aa 1) ae)) (ax 2 aU)) (aa 11))
 aO)
 (aD (aa 6)))))))))))))
abbrev j4:FF:=aS 1 1
 (ai (aI (bd (af (aa 0) (af (ag (.int 6)) ae)) (ax 2 aU)) (aB 1))
 (ai (aF (ao (ah eI (aa 1) (ag (.int 4))))
 (aD (bd (af (aa 0) (af (ah ak (bd (af (ag (.int 2)) (af (ag (.int 5)) (af (ag (.int 5)) (af (ag (.int 10)) ae)))) aP) (aa 1)) ae)) (ax 2 aU)))
 aO)
 (aD (ah ak (bd (af (bd (af (aa 0) (af (ag (.int 4294967296)) ae)) (ax 2 aU)) (af (ah cM (ag (.int 4294967295)) (bd (af (aa 0) (af (ag (.int 3)) ae)) (ax 2 aU))) ae)) aP) (ah cM (aa 1) (ag (.int 4)))))))
abbrev eQ:Nat->FF
 | 0=>λ_ _=>none
 | n+1=>aS 3 4
   (ai (aI (bd (af (aa 0) (af (ag (.int 8)) ae)) (ax 2 aU)) (aB 3))
   (ai (aF (kA (ao (ah eI (aa 2) (ag (.int 3)))) (ao (ah eI (aa 3) (ag (.int 3)))))
   (ai (aF (ao (ah bQ (bd (af (aa 0) (af (ag (.int 3)) ae)) (ax 2 aU)) (ag (.int 0))))
   (aD (bd (af (ag (.str "num")) (af (bd (af (aa 0) ae) (ax 1 j4)) ae)) ay))
   aO)
   (aD (bd (af (ag (.str "cell")) (af (ah ak (ah ak (aa 1) (ag (.str "cells"))) (bd (af (aa 0) (af (bd (af (ah ak (aa 1) (ag (.str "cells"))) ae) aQ) ae)) (ax 2 aU))) ae)) ay)))
   aO)
   (ai (aF (eG (ao (ah bQ (aa 3) (ag (.int 3)))) (ao (ah gU (bd (af (ah ak (aa 1) (ag (.str "rows"))) ae) aQ) (ag (.int 0)))))
   (ai (aI (ah ak (ah ak (aa 1) (ag (.str "rows"))) (bd (af (aa 0) (af (bd (af (ah ak (aa 1) (ag (.str "rows"))) ae) aQ) ae)) (ax 2 aU))) (aB 4))
   (aD (bd (af (ag (.str "at")) (af (aa 4) (af (bd (af (aa 0) (af (aa 1) (af (ah iN (aa 2) (ag (.int 2))) ae))) (ax 3 (eQ n))) ae))) ay)))
   aO)
   (ai (aI (ah iN (ah cM (aa 2) (ag (.int 1))) (ag (.int 2))) (aB 5))
   (ai (aI (bd (af (aa 0) (af (aa 1) (af (aa 5) ae))) (ax 3 (eQ n))) (aB 6))
   (aD (bd (af (ag (.str "op")) (af (ah ak (ag (.str "+-*<=")) (bd (af (aa 0) (af (ag (.int 5)) ae)) (ax 2 aU))) (af (aa 6) (af (bd (af (aa 0) (af (aa 1) (af (aa 5) ae))) (ax 3 (eQ n))) ae)))) ay)))))))
mutual
noncomputable def kF:Nat->FF
 | 0=>λ_ _=>none
 | n+1=>aS 4 5
   (ai (aI (ah ak (ah ak (aa 1) (ag (.str "cells"))) (bd (af (aa 0) (af (bd (af (ah ak (aa 1) (ag (.str "cells"))) ae) aQ) ae)) (ax 2 aU))) (aB 4))
   (ai (cO (aa 2) (ag (.int 0)) (ah cM (ah ak (aa 2) (ag (.int 0))) (ag (.int 1))))
   (ai (aI (bd (af (aa 0) (af (aa 1) (af (aa 2) (af (ah bx (aa 3) (ag (.int 1))) ae)))) (ax 4 (eY n))) (aB 5))
   (ai (aF (ao (ah bQ (bd (af (aa 0) (af (ag (.int 4)) ae)) (ax 2 aU)) (ag (.int 0))))
   (aD (bd (af (ag (.str "while")) (af (bd (af (aa 0) (af (aa 1) (af (ag (.int 5)) ae))) (ax 3 (eQ 12))) (af (aa 5) ae))) ay))
   aO)
   (ai (aI (bd (af (ag (.str "set")) (af (aa 4) (af (bd (af (ag (.str "op")) (af (ag (.str "-")) (af (bd (af (ag (.str "cell")) (af (aa 4) ae)) ay) (af (bd (af (ag (.str "num")) (af (ag (.int 1)) ae)) ay) ae)))) ay) ae))) ay) (aB 6))
   (ai (aI (bd (af (ag (.str "op")) (af (ag (.str "<")) (af (bd (af (ag (.str "cell")) (af (aa 4) ae)) ay) (af (bd (af (ag (.str "num")) (af (ah bx (ag (.int 1)) (bd (af (aa 0) (af (ag (.int 9)) ae)) (ax 2 aU))) ae)) ay) ae)))) ay) (aB 7))
   (ai (aI (bd (af (ag (.str "set")) (af (aa 4) (af (bd (af (ag (.str "op")) (af (ag (.str "+")) (af (bd (af (ag (.str "cell")) (af (aa 4) ae)) ay) (af (bd (af (ag (.str "num")) (af (ag (.int 1)) ae)) ay) ae)))) ay) ae))) ay) (aB 8))
   (aD (ah ak (bd (af (bd (af (ag (.str "while")) (af (bd (af (ag (.str "cell")) (af (aa 4) ae)) ay) (af (ah bx (aa 5) (bd (af (aa 6) ae) ay)) ae))) ay) (af (bd (af (ag (.str "while")) (af (aa 7) (af (ah bx (aa 5) (bd (af (aa 8) ae) ay)) ae))) ay) ae)) aP) (bd (af (aa 0) (af (ag (.int 2)) ae)) (ax 2 aU)))))))))))
noncomputable def iu:Nat->FF
 | 0=>λ_ _=>none
 | n+1=>aS 4 4
   (ai (aI (bd (af (aa 0) (af (ag (.int 10)) ae)) (ax 2 aU)) (aB 4))
   (ai (aF (eG (ao (ah bQ (aa 4) (ag (.int 0)))) (ao (ah eI (aa 3) (ag (.int 3)))))
   (ai (aI (bd (af (aa 0) (af (aa 1) (af (aa 2) (af (ah bx (aa 3) (ag (.int 1))) ae)))) (ax 4 (eY n))) (aB 5))
   (aD (bd (af (ag (.str "if")) (af (bd (af (aa 0) (af (aa 1) (af (ag (.int 5)) ae))) (ax 3 (eQ 12))) (af (aa 5) (af (bd (af (aa 0) (af (aa 1) (af (aa 2) (af (ah bx (aa 3) (ag (.int 1))) ae)))) (ax 4 (eY n))) ae)))) ay)))
   aO)
   (ai (aF (eG (ao (ah eI (aa 4) (ag (.int 3)))) (ao (ah eI (aa 3) (ag (.int 3)))))
   (aD (bd (af (aa 0) (af (aa 1) (af (aa 2) (af (aa 3) ae)))) (ax 4 (kF n))))
   aO)
   (ai (aF (eG (ao (ah eI (aa 4) (ag (.int 6)))) (ao (ah gU (bd (af (ah ak (aa 1) (ag (.str "defs"))) ae) aQ) (ag (.int 0)))))
   (aD (bd (af (ag (.str "call")) (af (ah ak (ah ak (aa 1) (ag (.str "defs"))) (bd (af (aa 0) (af (bd (af (ah ak (aa 1) (ag (.str "defs"))) ae) aQ) ae)) (ax 2 aU))) ae)) ay))
   aO)
   (ai (aF (eG (ao (ah bQ (aa 4) (ag (.int 6)))) (ao (ah gU (bd (af (ah ak (aa 1) (ag (.str "rows"))) ae) aQ) (ag (.int 0)))))
   (ai (aI (ah ak (ah ak (aa 1) (ag (.str "rows"))) (bd (af (aa 0) (af (bd (af (ah ak (aa 1) (ag (.str "rows"))) ae) aQ) ae)) (ax 2 aU))) (aB 6))
   (aD (bd (af (ag (.str "put")) (af (aa 6) (af (bd (af (aa 0) (af (aa 1) (af (ag (.int 3)) ae))) (ax 3 (eQ 12))) (af (bd (af (aa 0) (af (aa 1) (af (ag (.int 7)) ae))) (ax 3 (eQ 12))) ae)))) ay)))
   aO)
   (ai (aI (ah ak (ah ak (aa 1) (ag (.str "cells"))) (bd (af (aa 0) (af (bd (af (ah ak (aa 1) (ag (.str "cells"))) ae) aQ) ae)) (ax 2 aU))) (aB 7))
   (aD (bd (af (ag (.str "set")) (af (aa 7) (af (bd (af (aa 0) (af (aa 1) (af (ah ak (bd (af (ag (.int 3)) (af (ag (.int 9)) (af (ag (.int 20)) ae))) aP) (bd (af (aa 0) (af (ag (.int 3)) ae)) (ax 2 aU))) ae))) (ax 3 (eQ 12))) ae))) ay))))))))
noncomputable def eY:Nat->FF
 | 0=>λ_ _=>none
 | n+1=>aS 4 2
   (ai (aI (bd ae aP) (aB 4))
   (ai (bC (bG (af (bd (af (aa 0) (af (ah ak (ah ak (bd (af (aZ (bd (af (ag (.int 5)) (af (ag (.int 13)) ae)) aP)) (af (aZ (bd (af (ag (.int 4)) (af (ag (.int 8)) ae)) aP)) (af (aZ (bd (af (ag (.int 3)) (af (ag (.int 6)) ae)) aP)) (af (aZ (bd (af (ag (.int 3)) (af (ag (.int 3)) ae)) aP)) ae)))) aP) (aa 3)) (bd (af (aa 0) (af (ag (.int 2)) ae)) (ax 2 aU))) ae)) (ax 2 aU)) ae) c6) (aB 5)
   (aF (ao (ah gU (ah ak (aa 2) (ag (.int 0))) (ag (.int 1))))
   (ai (cO (aa 2) (ag (.int 0)) (ah cM (ah ak (aa 2) (ag (.int 0))) (ag (.int 1))))
   (cL (gn ip (aa 4) (af (bd (af (aa 0) (af (aa 1) (af (aa 2) (af (aa 3) ae)))) (ax 4 (iu n))) ae))))
   aO))
   (aD (bd (af (aa 4) ae) cA))))
end
abbrev yU:SF :=
 (cL (gn ip (aa 8) (af (bd (af (aa 9) (af (bd (af (aa 0) (af (aZ (aa 6)) (af (aZ (aa 7)) (af (ag (.int 1)) ae)))) (ax 4 (eY 12))) ae)) ay) ae)))
abbrev yV:FF:=aS 1 11
 (ai (aI (bd (af (aa 0) (af (ag (.int 24)) ae)) (ax 2 vV)) (aB 1))
 (ai (aI (ah ak (bd (af (ag (.int 0)) (af (ag (.int 6)) ae)) aP) (bd (af (aa 0) (af (ag (.int 2)) ae)) (ax 2 aU))) (aB 2))
 (ai (aI (a8 (aa 1) a6 (aX (ah bx (ag (.int 1)) (bd (af (aa 0) (af (ag (.int 6)) ae)) (ax 2 aU))))) (aB 3))
 (ai (aI (a8 (a8 (aa 1) (aX (ah cM (ag (.int 6)) (aa 2))) a6) a6 (aX (bd (af (aa 0) (af (ag (.int 4)) ae)) (ax 2 aU)))) (aB 4))
 (ai (aI (a8 (a8 (aa 1) (aX (ah cM (ag (.int 12)) (aa 2))) a6) a6 (aX (bd (af (aa 0) (af (ag (.int 4)) ae)) (ax 2 aU)))) (aB 5))
 (ai (aI (m4 (cF (ag (.str "cells")) (aZ (aa 3)) (cF (ag (.str "rows")) (aZ (aa 4)) (cF (ag (.str "defs")) (aZ (aa 5)) gu)))) (aB 6))
 (ai (aI (bd (af (ag (.int 14)) ae) aP) (aB 7))
 (ai (aI (bd ae aP) (aB 8))
 (ai (bC (bG (one (aZ (aa 5))) aT) (aB 9)
 yU)
 (ai (aI (bd (af (ag (.int 22)) ae) aP) (aB 7))
 (ai (aI (bd (af (aa 0) (af (aZ (aa 6)) (af (aZ (aa 7)) (af (ag (.int 0)) ae)))) (ax 4 (eY 12))) (aB 10))
 (ai (aF (ao (ah bQ (bd (af (aa 10) ae) aQ) (ag (.int 0))))
 (aI (bd (af (bd (af (aa 0) (af (aZ (aa 6)) (af (aZ (aa 7)) (af (ag (.int 0)) ae)))) (ax 4 (iu 12))) ae) ay) (aB 10))
 aO)
 (ai (aI (bd (af (dJ (bG (one (aZ (aa 3))) aT) [0] c1 bf (bd (af (aa 0) (af (bd (af (aa 1) ae) (ax 1 j4)) ae)) ay)) ae) cA) (aB 11))
 (aD (bd (af (aa 11) (af (bd (af (dJ (bG (one (aZ (aa 4))) aT) [0] c1 bf (bd (af (aa 0) (af (ah bx (ag (.int 1)) (bd (af (aa 1) (af (ag (.int 8)) ae)) (ax 2 aU))) ae)) ay)) ae) cA) (af (bd (af (aa 8) ae) cA) (af (aa 10) ae)))) ay)))))))))))))))
abbrev y3c:SF :=
 (ai (aF (ao (ah fR (ah ak (aa 2) (ag (.int 0))) (aa 1)))
 (iR "NoProgram" ["word","name"] (af (ag (.str "twice")) (af (ah ak (aa 2) (ag (.int 0))) ae)))
 (c9 aO))
 (c9 (cO (aa 1) (ah ak (aa 2) (ag (.int 0))) (ag (.bl true)))))
abbrev j5:FF:=aS 1 2
 (ai (c9 (aI jM (aB 1)))
 (ai (bC (bG (one (aa 0)) aT) (aB 2)
 y3c)
 (c9 (aD (aa 1)))))
abbrev vW:FF:=aS 1 0
 (aD (ah bx (dJ (bG (one (ah ak (aa 0) (ag (.int 2)))) aT) [] c1 bf (ah ak (aa 0) (ag (.int 1)))) (bd (af (ah ak (aa 0) (ag (.int 3))) ae) aP)))
abbrev vX:FF:=aS 1 0
 (ai (aF (ao (ah bQ (ah ak (aa 0) (ag (.int 0))) (ag (.str "while"))))
 (aD (bd (af (ah ak (aa 0) (ag (.int 2))) ae) ay))
 aO)
 (ai (aF (ao (ah bQ (ah ak (aa 0) (ag (.int 0))) (ag (.str "if"))))
 (aD (bd (af (ah ak (aa 0) (ag (.int 2))) (af (ah ak (aa 0) (ag (.int 3))) ae)) ay))
 aO)
 (aD (bd ae ay))))
abbrev yW:SF :=
 (cL (gn fG (aa 2) (af (cZ dN (aa 4)) ae)))
abbrev yX:Mo Bool:=(bd (aa 2) gh)
abbrev y40:SF :=
 (ai (aI (cZ fH (aa 2)) (aB 3))
 (ai (cL (gn ip (aa 1) (af (aa 3) ae)))
 (bC (bG (one (cZ dN (bd (af (aa 3) ae) (ax 1 vX)))) aT) (aB 4)
 yW)))
abbrev yY:FF:=aS 1 4
 (ai (aI (bd ae aP) (aB 1))
 (ai (aI (bd (af (cZ dN (aa 0)) ae) jL) (aB 2))
 (ai (fQ yX
 y40)
 (aD (aa 1)))))
abbrev vY:FF:=aS 1 0
 (ai (aF (ao (ah bQ (ah ak (aa 0) (ag (.int 0))) (ag (.str "put"))))
 (aD (bd (af (ah ak (aa 0) (ag (.int 2))) (af (ah ak (aa 0) (ag (.int 3))) ae)) ay))
 aO)
 (ai (aF (ao (ah bQ (ah ak (aa 0) (ag (.int 0))) (ag (.str "set"))))
 (aD (bd (af (ah ak (aa 0) (ag (.int 2))) ae) ay))
 aO)
 (ai (aF (ao (ah bQ (ah ak (aa 0) (ag (.int 0))) (ag (.str "call"))))
 (aD (bd ae ay))
 aO)
 (aD (bd (af (ah ak (aa 0) (ag (.int 1))) ae) ay)))))
abbrev iS:FF:=aS 2 0
 (aF (ao (ah dy (aa 0) (aa 1)))
 (iR "NoProgram" ["word","name"] (af (ag (.str "unknown")) (af (aa 0) ae)))
 (c9 aO))
abbrev yZ:FF:=aS 1 0
 (ai (aF (ao (ah bQ (ah ak (aa 0) (ag (.int 0))) (ag (.str "at"))))
 (aD (bd (af (ah ak (aa 0) (ag (.int 2))) ae) ay))
 aO)
 (ai (aF (ao (ah bQ (ah ak (aa 0) (ag (.int 0))) (ag (.str "op"))))
 (aD (bd (af (ah ak (aa 0) (ag (.int 2))) (af (ah ak (aa 0) (ag (.int 3))) ae)) ay))
 aO)
 (aD (bd ae ay))))
abbrev zg:Mo Bool:=(bd (aa 2) gh)
abbrev Fs:SF :=
 (ai (aI (cZ fH (aa 2)) (aB 3))
 (ai (cL (gn ip (aa 1) (af (aa 3) ae)))
 (cL (gn fG (aa 2) (af (cZ dN (bd (af (aa 3) ae) (ax 1 yZ))) ae)))))
abbrev zh:FF:=aS 1 3
 (ai (aI (bd ae aP) (aB 1))
 (ai (aI (bd (af (aa 0) ae) aP) (aB 2))
 (ai (fQ zg
 Fs)
 (aD (aa 1)))))
abbrev Ft:SF :=
 (aF (ao (ah bQ (ah ak (aa 3) (ag (.int 0))) (ag (.str "cell"))))
 (cB (bd (af (ah ak (aa 3) (ag (.int 1))) (af (aa 1) ae)) (ax 2 iS)))
 (aF (ao (ah bQ (ah ak (aa 3) (ag (.int 0))) (ag (.str "at"))))
 (cB (bd (af (ah ak (aa 3) (ag (.int 1))) (af (aa 2) ae)) (ax 2 iS)))
 (c9 aO)))
abbrev zi:FF:=aS 3 1
 (bC (bG (one (aZ (bd (af (aa 0) ae) (ax 1 zh)))) aT) (aB 3)
 Ft)
abbrev zj:SF :=
 (cB (bd (af (aa 4) (af (aa 1) (af (aa 2) ae))) (ax 3 zi)))
abbrev zk:FF:=aS 4 1
 (ai (aF (ao (ah bQ (ah ak (aa 0) (ag (.int 0))) (ag (.str "set"))))
 (cB (bd (af (ah ak (aa 0) (ag (.int 1))) (af (aa 1) ae)) (ax 2 iS)))
 (aF (ao (ah bQ (ah ak (aa 0) (ag (.int 0))) (ag (.str "put"))))
 (cB (bd (af (ah ak (aa 0) (ag (.int 1))) (af (aa 2) ae)) (ax 2 iS)))
 (aF (ao (ah bQ (ah ak (aa 0) (ag (.int 0))) (ag (.str "call"))))
 (cB (bd (af (ah ak (aa 0) (ag (.int 1))) (af (aa 3) ae)) (ax 2 iS)))
 (c9 aO))))
 (bC (bG (one (bd (af (aa 0) ae) (ax 1 vY))) aT) (aB 4)
 zj))
abbrev Fu:SF :=
 (cB (bd (af (aa 5) (af (aZ (aa 1)) (af (aZ (aa 2)) (af (aZ (aa 3)) ae)))) (ax 4 zk)))
abbrev zl:SF :=
 (bC (bG (one (aZ (bd (af (aa 4) ae) (ax 1 yY)))) aT) (aB 5)
 Fu)
abbrev zm:FF:=aS 1 5
 (ai (iQ (bd (af (ah ak (aa 0) (ag (.int 0))) ae) (ax 1 j5)) (aB 1))
 (ai (iQ (bd (af (ah ak (aa 0) (ag (.int 1))) ae) (ax 1 j5)) (aB 2))
 (ai (iQ (bd (af (ah ak (aa 0) (ag (.int 2))) ae) (ax 1 j5)) (aB 3))
 (ai (bC (bG (one (bd (af (aa 0) ae) (ax 1 vW))) aT) (aB 4)
 zl)
 (c9 (aD (ag (.bl true))))))))
abbrev jb:FF:=λxs G=>match zm xs G with
 | some (.im (.bl true),G')=>some (.im .non,G')
 | some (.ow (.obj c [(n1,a),(n2,b)]),G')=>if c="NoProgram"/\n1="word"/\n2="name" then some (.im (.tup [a,b]),G') else none
 | _=>none
abbrev m5:FF:=aS 5 1
 (ai (cO (aa 2) (ag (.int 0)) (ah cM (ah ak (aa 2) (ag (.int 0))) (ag (.int 1))))
 (ai (aI (ah ak (bd (af (aa 1) (af (aa 3) ae)) aP) (bd (af (ah bQ (ah ak (aa 2) (ag (.int 0))) (cZ fD (ag (.int 1)))) ae) dO)) (aB 5))
 (ai (cL (gn ip (aa 4) (af (bd (af (aa 0) (af (aa 5) ae)) ay) ae)))
 (aD (aa 5)))))
abbrev hG:Nat->FF
 | 0=>λ_ _=>none
 | n+1=>aS 4 2
   (ai (aF (ao (ah bQ (ah ak (aa 0) (ag (.int 0))) (ag (.str "num"))))
   (aD (aa 0))
   aO)
   (ai (aF (ao (ah bQ (ah ak (aa 0) (ag (.int 0))) (ag (.str "op"))))
   (ai (aI (bd (af (ah ak (aa 0) (ag (.int 2))) (af (aa 1) (af (aa 2) (af (aa 3) ae)))) (ax 4 (hG n))) (aB 4))
   (aD (bd (af (ag (.str "op")) (af (ah ak (aa 0) (ag (.int 1))) (af (aa 4) (af (bd (af (ah ak (aa 0) (ag (.int 3))) (af (aa 1) (af (aa 2) (af (aa 3) ae)))) (ax 4 (hG n))) ae)))) ay)))
   aO)
   (ai (aI (bd (af (ah ak (aa 0) (ag (.int 0))) (af (ah ak (aa 0) (ag (.int 1))) (af (aa 1) (af (aa 2) (af (aa 3) ae))))) (ax 5 m5)) (aB 5))
   (ai (aF (ao (ah bQ (ah ak (aa 0) (ag (.int 0))) (ag (.str "cell"))))
   (aD (bd (af (ag (.str "cell")) (af (aa 5) ae)) ay))
   aO)
   (aD (bd (af (ag (.str "at")) (af (aa 5) (af (bd (af (ah ak (aa 0) (ag (.int 2))) (af (aa 1) (af (aa 2) (af (aa 3) ae)))) (ax 4 (hG n))) ae))) ay))))))
mutual
noncomputable def fL:Nat->FF
 | 0=>λ_ _=>none
 | n+1=>aS 4 4
   (ai (aI (ah ak (aa 0) (ag (.int 0))) (aB 4))
   (ai (aF (ao (ah bQ (aa 4) (ag (.str "set"))))
   (ai (aI (bd (af (ag (.str "cell")) (af (ah ak (aa 0) (ag (.int 1))) (af (aa 1) (af (aa 2) (af (aa 3) ae))))) (ax 5 m5)) (aB 5))
   (aD (bd (af (ag (.str "set")) (af (aZ (aa 5)) (af (bd (af (ah ak (aa 0) (ag (.int 2))) (af (aa 1) (af (aa 2) (af (aa 3) ae)))) (ax 4 (hG 20))) ae))) ay)))
   aO)
   (ai (aF (ao (ah bQ (aa 4) (ag (.str "put"))))
   (ai (aI (bd (af (ag (.str "at")) (af (ah ak (aa 0) (ag (.int 1))) (af (aa 1) (af (aa 2) (af (aa 3) ae))))) (ax 5 m5)) (aB 5))
   (ai (aI (bd (af (ah ak (aa 0) (ag (.int 2))) (af (aa 1) (af (aa 2) (af (aa 3) ae)))) (ax 4 (hG 20))) (aB 6))
   (aD (bd (af (ag (.str "put")) (af (aZ (aa 5)) (af (aa 6) (af (bd (af (ah ak (aa 0) (ag (.int 3))) (af (aa 1) (af (aa 2) (af (aa 3) ae)))) (ax 4 (hG 20))) ae)))) ay))))
   aO)
   (ai (aF (ao (ah bQ (aa 4) (ag (.str "call"))))
   (aD (bd (af (ag (.str "call")) (af (bd (af (ag (.str "call")) (af (ah ak (aa 0) (ag (.int 1))) (af (aa 1) (af (aa 2) (af (aa 3) ae))))) (ax 5 m5)) ae)) ay))
   aO)
   (ai (aI (bd (af (aa 4) (af (bd (af (ah ak (aa 0) (ag (.int 1))) (af (aa 1) (af (aa 2) (af (aa 3) ae)))) (ax 4 (hG 20))) ae)) aP) (aB 5))
   (ai (bC (bG (one (a8 (aa 0) (aX (ag (.int 2))) a6)) aT) (aB 7)
   (cL (gn ip (aa 5) (af (bd (af (aa 7) (af (aa 1) (af (aa 2) (af (aa 3) ae)))) (ax 4 (fM n))) ae))))
   (aD (bd (af (aa 5) ae) cA))))))))
noncomputable def fM:Nat->FF
 | 0=>λ_ _=>none
 | n+1=>aS 4 0
   (aD (bd (af (dJ (bG (one (aa 0)) aT) [1,2,3] c1 bf (bd (af (aa 0) (af (aa 1) (af (aa 2) (af (aa 3) ae)))) (ax 4 (fL n)))) ae) cA))
end
abbrev kG:FF:=aS 3 7
 (ai (aI (aa 0) (gQ [3,4,5,6]))
 (ai (aI (bd (af (aa 1) ae) aP) (aB 7))
 (ai (aI (bd ae aP) (aB 8))
 (ai (aI (bd (af (dJ (bG (one (aa 5)) aT) [7,2,8] (cN 2) bf (bd (af (aa 0) (af (bd (af (aa 1) (af (aZ (aa 2)) (af (aa 3) (af (aZ (aa 4)) ae)))) (ax 4 (fM 12))) ae)) ay)) ae) cA) (aB 9))
 (aD (bd (af (bd (af (aa 3) (af (aa 4) (af (aa 9) (af (bd (af (aa 6) (af (aZ (aa 7)) (af (aa 2) (af (aZ (aa 8)) ae)))) (ax 4 (fM 12))) ae)))) ay) (af (aZ (aa 8)) ae)) ay))))))
abbrev y1d:SF :=
 (aF (ao (ah dy (aa 6) (dJ (bG (one (ah ak (aa 0) (ah ak (aa 4) (aa 5)))) aT) [] c1 bf (ah ak (aa 0) (ag (.int 0))))))
 (aD (bd (af (ag (.str "unknown")) (af (aa 6) ae)) ay))
 aO)
abbrev y1e:SF :=
 (aF (ao (ah fR (ah ak (aa 2) (aa 3)) (a8 (aa 2) a6 (aX (aa 3)))))
 (aD (bd (af (ag (.str "twice")) (af (ah ak (aa 2) (aa 3)) ae)) ay))
 aO)
abbrev Fv:SF :=
 (ai (aI (dJ (bG (one (ah ak (aa 0) (aa 1))) aT) [] c1 bf (ah ak (aa 0) (ag (.int 0)))) (aB 2))
 (bC (bG (af (bd (af (aa 2) ae) aQ) ae) c6) (aB 3)
 y1e))
abbrev zo:FF:=aS 1 6
 (ai (bC (bG (af (ag (.int 3)) ae) c6) (aB 1)
 Fv)
 (ai (aI (m4 (cF (ag (.str "cell")) (ag (.int 0)) (cF (ag (.str "at")) (ag (.int 1)) (cF (ag (.str "call")) (ag (.int 2)) gu)))) (aB 4))
 (ai (bC (bG (one (ah ak (bd (af (aa 0) (af (cZ fD (ag (.int 1))) (af (ag (.str "")) ae))) (ax 3 kG)) (ag (.int 1)))) aT) (gQ [5,6])
 y1d)
 (aD (ag .non)))))
abbrev zp:FF:=aS 3 6
 (ai (aI (ah ak (aa 2) (bd (af (aa 0) (af (bd (af (aa 2) ae) aQ) ae)) (ax 2 aU))) (aB 3))
 (ai (aI (ah ak (bd (af (aa 1) (af (cZ fD (ag (.int 1))) (af (aa 3) ae))) (ax 3 kG)) (ag (.int 1))) (aB 4))
 (ai (aI (bd (af (aa 0) (af (ag (.int 6)) ae)) (ax 2 aU)) (aB 5))
 (ai (aF (eG (ao (ah eI (aa 5) (ag (.int 3)))) (ao (ah gU (bd (af (ah ak (aa 1) (aa 5)) ae) aQ) (ag (.int 0)))))
 (ai (aI (bd (af (aa 0) (af (bd (af (ah ak (aa 1) (aa 5)) ae) aQ) ae)) (ax 2 aU)) (aB 6))
 (ai (aI (ah bx (ah bx (a8 (ah ak (aa 1) (aa 5)) a6 (aX (aa 6))) (bd (af (bd (af (aa 3) (af (ah ak (ah ak (ah ak (aa 1) (aa 5)) (aa 6)) (ag (.int 1))) ae)) ay) ae) ay)) (a8 (ah ak (aa 1) (aa 5)) (aX (ah bx (aa 6) (ag (.int 1)))) a6)) (aB 7))
 (aD (ah bx (ah bx (a8 (aa 1) a6 (aX (aa 5))) (bd (af (aa 7) ae) ay)) (a8 (aa 1) (aX (ah bx (aa 5) (ag (.int 1)))) a6)))))
 aO)
 (ai (aF (ao (ah bQ (bd (af (aa 4) ae) aQ) (ag (.int 0))))
 (aD (aa 1))
 aO)
 (ai (aI (bd (af (bd (af (aa 0) (af (bd (af (aa 4) ae) aQ) ae)) (ax 2 aU)) (af (bd (af (aa 0) (af (bd (af (aa 4) ae) aQ) ae)) (ax 2 aU)) ae)) gX) (aB 8))
 (aD (ah ak (bd (af (aa 1) (af (aa 8) (af (aa 3) ae))) (ax 3 kG)) (ag (.int 0))))))))))
abbrev Fw:SF :=
 (aI (bd (af (aZ (aa 1)) (af (aa 5) (af (aZ (aa 3)) ae))) (ax 3 zp)) (aB 5))
abbrev Fx:SF :=
 (ai (aI (aa 2) (aB 5))
 (ai (bC (bG (af (ah bx (ag (.int 1)) (bd (af (aZ (aa 1)) (af (ag (.int 3)) ae)) (ax 2 aU))) ae) c6) (aB 6)
 Fw)
 (ai (aI (bd (af (aa 5) ae) (ax 1 zo)) (aB 7))
 (aF (kA (ao (ah lY (bd (af (aa 5) ae) (ax 1 jb)) (aa 7))) (kA (ao (ah lY (bd (af (aa 5) ae) (ax 1 jb)) (aa 7))) (ao (cZ (kB false) (bd (af (aa 2) ae) (ax 1 jb))))))
 (aD (ag (.bl false)))
 aO))))
abbrev Fy:FF:=aS 1 7
 (ai (aI (aZ (bd (af (aa 0) (af (ag (.int 0)) ae)) (ax 2 yS))) (aB 1))
 (ai (aI (bd (af (aZ (aa 1)) ae) (ax 1 yV)) (aB 2))
 (ai (aI (ah bx (dJ (bG (one (ah bx (ah bx (ah ak (aa 2) (ag (.int 0))) (ah ak (aa 2) (ag (.int 1)))) (ah ak (aa 2) (ag (.int 2))))) aT) [] c1 bf (ah ak (aa 0) (ag (.int 0)))) (bd (af (ag (.str "zzzzzz")) (af (ag (.str "yy")) ae)) aP)) (aB 3))
 (ai (aF (ao (cZ (kB false) (bd (af (aa 2) ae) (ax 1 jb))))
 (aD (ag (.bl false)))
 aO)
 (ai (bC (bG (af (ag (.int 3)) ae) c6) (aB 4)
 Fx)
 (aD (ag (.bl true))))))))
end
end Q
namespace Q
open PySem PySem.Spec PyProof.Rows L2 B
structure Kt(K:W.Frag)(mg:Str->Option Value)(C0 C1 C2 C3 C4:Addr):Prop where
 i:p7 K C0
 g:mg "CourtError" = some (.ref C0)
 g1:mg "NoText" = some (.ref C1)
 g2:mg "NoProgram" = some (.ref C2)
 g3:mg "TooLong" = some (.ref C3)
 g4:mg "NoRecord" = some (.ref C4)
 gi:mg "isinstance" = none
 gv:mg "ValueError" = none
 sb:pf K C2 C0 true
 xa:XA K C2
 xi:XI K C2
 k2:W.kitOne K (.ref C2) (.ref C2)=some true
 kv:W.kitOne K (.ref C2) (.type "ValueError")=some true
 ka:W.kitAny K (.ref C2) [.ref C1,.ref C3,.ref C4]=some false
 n1:ig K C2 "word"
 n2:ig K C2 "name"
def vZ{K:W.Frag}{κ:Str->Addr}{ι ι' fp:List Addr}{H H':Hp}{G':List M}{v:V}{d:I}(s:SR K κ ι' H' [] [] G')(t:Step ι fp H ι' ι' H')(r:RpI K ι' H' v d):SR K κ ι' H' [some v] [some (.im d)] G'/\Step ι fp H ι' (own [some v] [some (.im d)]++ι') H':=by
 have e:own [some v] [some (Vl.im d)]=[]:=by show bB _ _++[]=[];rw [fZ];rfl
 exact⟨s.push_im r,by rw [e];exact t⟩
def pw{H H':Hp}{p:Addr}{o:HO}(s:dW H H')(hp:H' p=none):dW H (aC H' p o)/\H p=none:=by
 have e:=s.free hp
 exact⟨λb q z=>by rw [aM (λy=>by rw [y,e] at z;cases z)];exact s b q z,e⟩
section
variable {P:Program}{w:World}{K:W.Frag}{mg:Str->Option Value}{base:Heap}{κ:Str->Addr}{f C0 C1 C3 C4:Addr}{fd:FuncData}
def Fz:y47 ["_law_program_here","_law_told_here","_law_others","e"] ["_law_program_here"] (bL (top 36)):=bz
noncomputable abbrev tI(K:W.Frag)(t:TE):TE:=AF (vT K) (dU (gG 3) (dU t iD))
def FC(F:Fun K "_law_told" "_law_told" (top 36) f fd)(hL:kE P w K mg base "look" 6 ["program"] (eX K κ 1 zm))(C:Kt K mg C0 C1 (κ "NoProgram") C3 C4) :
  y46 P w K mg base bW 7 f fd ["_law_program_here"] (aV K κ 1 jb):=by
 refine F.ok (k:=6) Fz (λvs H Q E zz=>by obtain⟨ι,xs,G,x,G',hl,sr,_⟩:=zz;have:=sr.len;rw [z12,z12] at this;rw [this,hl];rfl) λcdv A outer s H vs Q E hr zz=>?_
 obtain⟨ι,xs,G,x,G',hl,sr,eq,k⟩:=zz
 have lv:vs.length=1:=by have:=sr.len;rw [z12,z12] at this;lia
 match vs,lv with
 | [v],_ =>
 obtain⟨fl,fdl,gl,kl,bl,ol⟩:=hL
 have nd:(["_law_program_here","_law_told_here","_law_others","e"]:List Str).Nodup:=by decide +kernel
 refine⟨_,fS (fW ql (fU (i:=1) nd rfl (.inl rfl))) (fS (E2 rfl rfl
   (λE pn xe hp=>fT (kN (kQ BQ (nK ol hr (by rfl) gl kl bl .nil hp (cm (pv 0) eM)) qk rfl) (fT (fW (jm (cm jf (cm jf eM))) (fU (i:=1) nd rfl (.inl rfl)))) nv))
   (vH (i:=3) (ts:=jj (fV (kS (dU (tC (.str "other")) (dU (tC (.str "")) iD))) (fg 1)) (jj (fV (qt (tI K (kS (dU (tC (.ref C1)) (dU (tC (.ref C3)) (dU (tC (.ref C4)) iD))))) (qu (tI K (tC (.ty "ValueError"))))) (fg 2))
     (kM (nq (tB (tI K (tC (.ref (κ "NoProgram"))))) (qq (tB (gG 2)))) (fV (kS (dU (EL K (gG 3) "word") (dU (EL K (gG 3) "name") iD))) (fg 1)) nt)))
    (by rfl) C.g C.i nd rfl rfl (λx=>fS (fW (jm (cm jf (cm jf eM))) (fU nd rfl (.inl rfl)))
     (fS (fW (ji (jo Fj (by rfl) C.gi rfl (cm (pv 3) (cm (jm (cm (kK (by rfl) C.g1 rfl) (cm (kK (by rfl) C.g3 rfl) (cm (kK (by rfl) C.g4 rfl) eM)))) eM)))
       (zX (zY (jo Fj (by rfl) C.gi rfl (cm (pv 3) (cm (zR (by rfl) C.gv rfl rfl) eM)))))) (fU nd rfl (.inl rfl)))
      (fT (kN (PW.pt (jh (qp (jo Fj (by rfl) C.gi rfl (cm (pv 3) (cm (kK (by rfl) C.g2 rfl) eM)))) (ie (zW (qp (pv 2))))))
       (fT (fW (jm (cm (vD (pv 3) (by rfl)) (cm (vD (pv 3) (by rfl)) eM))) (fU nd rfl (.inl rfl)))) nv))))
   Fm)) (fT (qw (pv 1)))),?_⟩
 refine⟨v,rfl,?_⟩
 unfold jb at eq
 split at eq
 ·rename_i G1 e1
  cases eq
  refine⟨ι,xs,G,_,_,hl,sr,e1,?_⟩
  intro v' ι' H' s' st
  have hv:v'=.bl true:=by
   cases s'.sl with
   | cons h _=>cases h with
    | im h=>exact lB h
  subst hv
  refine⟨true,true,rfl,rfl,false,rfl,sy ⟨.non,rfl,?_⟩⟩
  obtain⟨z1,z2⟩:=s'.bare (λ_ _ e=>e)
  obtain⟨y1,y2⟩:=vZ z1 (st.trans z2) .non
  exact k _ _ _ y1 y2
 ·rename_i c n1 a n2 b G1 e1
  split at eq
  ·rename_i hc
   obtain⟨rfl,rfl,rfl⟩:=hc
   cases eq
   refine⟨ι,xs,G,_,_,hl,sr,e1,?_⟩
   intro x0 dx fvs ι' H' hX hD hn hr' s' st
   intro x' C' dct' eC ex' e'
   obtain rfl:C'=κ "NoProgram":=(Value.ref.inj eC).symm
   obtain rfl:x'=x0:=(z1e ex').symm
   match fvs,hn,hr' with
   | [(m1,va),(m2,vb)],hn,.cons ra (.cons rb .nil) =>
   simp only [z16,List.map_nil,List.cons.injEq,and_true] at hn
   obtain⟨rfl,rfl⟩:=hn
   refine⟨true,C.sb,nR ⟨(show (2:Nat)≤sizeLine by decide),λp hp=>?_⟩⟩
   have s1:=pw (o:=.tup [.str "other",.str ""]) (λ_ _ e=>e) hp
   refine⟨.ref x',rfl,(show (3:Nat)≤sizeLine by decide),λp2 hp2=>?_⟩
   have s2:=pw (o:=.tup [.ref C1,.ref C3,.ref C4]) s1.1 hp2
   generalize hH2:aC (aC H' p (.tup [.str "other",.str ""])) p2 (.tup [.ref C1,.ref C3,.ref C4])=H2 at s2 ⊢
   have hp2':H2 p2=some (.tup [.ref C1,.ref C3,.ref C4]):=by rw [<- hH2];exact a9
   have X2:=s2.1 _ _ hX
   have D2:=s2.1 _ _ hD
   refine⟨x',κ "NoProgram",dx,_,false,.ref p2,false,rfl,X2,D2,C.xa,C.xi,⟨false,rfl,sy ⟨.ref x',rfl,x',κ "NoProgram",dx,_,false,.ty "ValueError",true,rfl,X2,D2,C.xa,C.xi,⟨true,rfl,?_⟩,.inl ⟨_,rfl,C.kv⟩⟩⟩,.inr ⟨p2,_,_,rfl,hp2',rfl,C.ka⟩⟩
   refine⟨.ref x',rfl,x',κ "NoProgram",dx,_,false,.ref (κ "NoProgram"),true,rfl,X2,D2,C.xa,C.xi,⟨true,rfl,nR ⟨_,rfl,false,rfl,nR ⟨.ref x',rfl,x',κ "NoProgram",dx,_,va,false,rfl,X2,D2,C.xa,C.n1,rfl,.ref x',rfl,x',κ "NoProgram",dx,_,vb,false,rfl,X2,D2,C.xa,C.n2,rfl,(show (2:Nat)≤sizeLine by decide),λp3 hp3=>⟨.ref p3,rfl,?_⟩⟩⟩⟩,.inl ⟨_,rfl,C.k2⟩⟩
   have s3:=pw (o:=.tup [va,vb]) s2.1 hp3
   obtain⟨z1,z2⟩:=s'.bare s3.1
   obtain⟨y1,y2⟩:=vZ (v:=.ref p3) (d:=.tup [a,b]) z1 (st.trans z2) (.tup a9 (.cons (ra.mono (cb.refl _) (Kp.same s3.1)) (.cons (rb.mono (cb.refl _) (Kp.same s3.1)) .nil)))
   exact k _ _ _ y1 y2
  ·cases eq
 ·cases eq
end
end Q
set_option maxHeartbeats 400000
namespace Q
open PySem L2 B
def aL  (hl:xs.length=n)(h:body (xs.map some++List.replicate r none) G=some (.rt x G')):aS n r body xs G=some (x,G'):=by
 unfold aS;rw [if_pos hl,h]
def wa  (hl:xs.length=n)(h:body (xs.map some++List.replicate r none) G=some (.nx Z G')):aS n r body xs G=some (.im .non,G'):=by
 unfold aS;rw [if_pos hl,h]
def aj  (h:a Z G=some (.nx Z1 G1))(k:b Z1 G1=r):ai a b Z G=r:=by
 unfold ai;rw [h];exact k
def b7  (h:a Z G=some (.rt x G1)):ai a b Z G=some (.rt x G1):=by
 unfold ai;rw [h]
def bT  (h:c Z G=some (true,Z1,G1))(k:a Z1 G1=r):aF c a b Z G=r:=by
 unfold aF;rw [h];exact k
def aN  (h:c Z G=some (false,Z1,G1))(k:b Z1 G1=r):aF c a b Z G=r:=by
 unfold aF;rw [h];exact k
def bD  (h:f Z G=some (.v x,Z1,G1))(k:g x Z1 G1=some (Z2,G2)):aI f g Z G=some (.nx Z2 G2):=by
 unfold aI iH bd;rw [h];show (match mR (.v x) Z1 G1 with|_=>_)=_
 unfold mR rt;dsimp only;rw [k]
def cG  (h:f Z G=some (.v x,Z1,G1)):aD f Z G=some (.rt x G1):=by
 unfold aD iH bd;rw [h];rfl
def wb  (h:f Z G=some (e,Z1,G1)):cL f Z G=some (.nx Z1 G1):=by
 unfold cL;rw [h]
def av{α β:Type}{m:Mo α}{f:α->Mo β}{Z Z1:De}{G G1:List M}{a:α}{r:Option (β×De×List M)}(h:m Z G=some (a,Z1,G1))(k:f a Z1 G1=r):bd m f Z G=r:=by
 unfold bd;rw [h];exact k
def wc  (h:c Z G=some (false,Z1,G1))(k:d Z1 G1=r):kA c d Z G=r:=by
 unfold kA bd;rw [h];exact k
def y6f (h:c Z G=some (false,Z1,G1)):eG c d Z G=some (false,Z1,G1):=by
 unfold eG bd;rw [h];rfl
def FD  (h:c Z G=some (true,Z1,G1))(k:d Z1 G1=r):eG c d Z G=r:=by
 unfold eG bd;rw [h];exact k
def dB  (h:f Z G=some (.v (.im (.bl b)),Z1,G1)):ao f Z G=some (b,Z1,G1):=by
 unfold ao bd;rw [h];rfl
def aH   (h:f Z G=some (x,Z1,G1))(h2:g Z1 G1=some (y,Z2,G2))(k:p [x,y] Z2 G2=r):ah p f g Z G=r:=by
 unfold ah bd;rw [h];dsimp only;rw [h2];exact k
def pz   (h:f Z G=some (x,Z1,G1))(k:p [x] Z1 G1=r):cZ p f Z G=r:=by
 unfold cZ bd;rw [h];exact k
def cC   (h:mU es=some xs)(hl:xs.length=n)(k:fn xs G=some (x,G')):ax n fn es Z G=some (.v x,Z,G'):=by
 unfold ax;rw [h];dsimp only;rw [if_pos hl,k]
def y90    (h:fo Z G=some (e,Z1,G1))(hl:gm Z1 G1 e=true)(ha:fa Z1 G1=some (es,Z2,G2))(k:p (e::es) Z2 G2=r):gn p fo fa Z G=r:=by
 unfold gn bd;rw [h];dsimp only;rw [if_pos hl,ha];exact k
def kH     (hb:iJ ix Z G=some ((),Z0,G0))(hi:fi Z0 G0=some (w,es,Z1,G1))(hn:w.n≤100000)(hc:dI w c tt te (jB ix Z1) 0 w.n [] Z1 G1=some (ds,G2)):dJ fi ix c tt te Z G=some (.v (.ow (.lst ds)),Z1,G2):=by
 unfold dJ;rw [hb];dsimp only;rw [hi];dsimp only;rw [if_pos hn,hc]
def b8    (hi:f Z G=some (w,es,Z1,G1))(h:aW w g b 0 w.n Z1 G1=r):bC f g b Z G=r:=by
 unfold bC;rw [hi];exact h
def pA   (h:fa Z G=some (es,Z1,G1))(k:p es Z1 G1=some w):bG fa p Z G=some (w,es,Z1,G1):=by
 unfold bG;rw [h];dsimp only;rw [k];rfl
abbrev jc(n:Nat):Wk:=⟨n,λi _ _=>some (.int i),λ_ _=>true⟩
def j6(n:Nat):(jc n).n=n:=rfl
def FE{n:Nat}{j:Int}{Z:De}{G:List M}(h:j=n)(hn:n≤1000000):c6 [.v (.im (.int j))] Z G=some (jc n):=by
 subst h
 unfold c6
 dsimp only
 rw [if_pos (by lia)]
 rfl
def hJ{n:Nat}{fa:Mo (List Ev)}{j:Int}{Z Z1:De}{G G1:List M}(h:fa Z G=some ([.v (.im (.int j))],Z1,G1))(e:j=n)(hn:n≤1000000):bG fa c6 Z G=some (jc n,[.v (.im (.int j))],Z1,G1):=pA h (FE e hn)
end Q
namespace Q
open PySem L2 B
local macro_rules | `(tactic| simp! [$xs,*])=>do
 let a:=("aS ai aF kA eG B6 ao ah cZ bd aa ag rt af ae Cs aQ sq pk ik B5 eI leP gU oM bK aD Cc iH aZ og mR aO cL aI aB ak bX dY p5 eN cM bx oI c8 oJ iN dM gT CW CY fD ax mU tU tV ay aP mS oi gn gm ip fH Ct cO l7 dw jK jJ cc ifE kB lQ gh bQ lY mZ gW ja cT b6 jI jM DV one".splitOn " ").toArray.map fun s=>Lean.mkIdent s.toName
 `(tactic|simp [$[$a:ident],*,$xs,*])
local macro_rules | `(↑$x)=>`(some (.im $x))
local macro_rules | `(⇑$x)=>`(.v (.im $x))
local macro_rules | `(↥$x)=>`(some (.ow (.lst $x)))
section
def wd:¬ (("seed" : Str)="number"):=by decide +kernel
def FG:¬ (("seed" : Str)="left"):=by decide +kernel
def we:¬ (("number" : Str)="left"):=by decide +kernel
def wg:¬ (("number" : Str)="seed"):=by decide +kernel
def FH:¬ (("left" : Str)="seed"):=by decide +kernel
def FI:¬ (("left" : Str)="number"):=by decide +kernel
def FJ:((Sum.inr ("seed" : Str):aK)=Sum.inr ("number" : Str))=False:=by simp;decide +kernel
def FK:((Sum.inr ("seed" : Str):aK)=Sum.inr ("left" : Str))=False:=by simp;decide +kernel
def FL:((Sum.inr ("number" : Str):aK)=Sum.inr ("left" : Str))=False:=by simp;decide +kernel
abbrev eh(a n:Int)(l:Nat):List (aK×I):=[(.inr "seed",.int a),(.inr "number",.int n),(.inr "left",.ref l)]
def yea(a n:Int)(l:Nat):cc (eh a n l) (Sum.inr ("seed" : Str))=some (.int a):=by simp [eh,cc]
def wj(a n:Int)(l:Nat):cc (eh a n l) (Sum.inr ("number" : Str))=some (.int n):=by simp only [eh,cc,FJ,if_false,if_true]
def zq(a n:Int)(l:Nat):cc (eh a n l) (Sum.inr ("left" : Str))=some (.ref l):=by simp only [eh,cc,FK,FL,if_false,if_true]
def wm(a n m:Int)(l:Nat):cU (eh a n l) (Sum.inr ("number" : Str)) (.int m)=eh a m l:=by simp [cU,gj,eh,wd,FI,we,wg]
def wo(a n m:Int)(l:Nat):cU (eh a n l) (Sum.inr ("seed" : Str)) (.int m)=eh m n l:=by simp [cU,gj,eh,wg,FH]
def FN(a n:Int)(l:Nat):(eh a n l).length<1000000:=by show 3<1000000;decide
structure DC(G:List M)(d l:Nat)(a n:Int)(ms:List Int):Prop where
 dc:G[d]?=some (.dic (eh a n l))
 lc:G[l]?=some (.lst (ms.map I.int))
 ne:d≠l
 a0:0≤a
 a1:a<2147483647
 n0:0≤n
 m0:∀m∈ms,0≤m
abbrev DG(G:List M)(d l:Nat):Prop:=∃a n ms,DC G d l a n ms
structure Oth(d l:Nat)(G G':List M):Prop where
 len:G'.length=G.length
 at_:∀k,k≠d->k≠l->G'[k]?=G[k]?
def Oth.refl(d l:Nat)(G:List M):Oth d l G G:=⟨rfl,λ_ _ _=>rfl⟩
theorem Oth.trans{d l:Nat}{G G1 G2:List M}(x:Oth d l G G1)(y:Oth d l G1 G2):Oth d l G G2:=⟨y.len.trans x.len,λk h1 h2=>(y.at_ k h1 h2).trans (x.at_ k h1 h2)⟩
def Oth.setD{d l:Nat}{G:List M}{m:M}:Oth d l G (G.set d m):=⟨z2c,λk h1 _=>z28 (Ne.symm h1)⟩
def Oth.setL{d l:Nat}{G:List M}{m:M}:Oth d l G (G.set l m):=⟨z2c,λk _ h1=>z28 (Ne.symm h1)⟩
def j7{G:List M}{k:Nat}{m m':M}(h:G[k]?=some m'):(G.set k m)[k]?=some m:=List.getElem?_set_self (z14.mp h).1
abbrev kI(d:Nat)(many:Int):De:=[↑(.ref d),↑(.int many),none,none,none]
def pB{G:List M}{d l:Nat}{a n:Int}{ms:List Int}{many:Int}(D:DC G d l a n ms):pq (kI d many) G=some (decide (n=0)&&decide (0<ms.length),kI d many,G):=by
 by_cases h:n=0
 ·by_cases h2:0<ms.length
  ·simp! [pq,kI,D.dc,D.lc,wj,zq,h,h2]
  ·simp! [pq,kI,D.dc,D.lc,wj,zq,h,h2]
 ·simp! [pq,kI,D.dc,D.lc,wj,zq,h]
def FO{G:List M}{d l:Nat}{a n:Int}{ms:List Int}{many y:Int}(D:DC G d l a n ms)(hy:ms[ms.length-1]?=some y):∃G',vU (kI d many) G=some (.nx (kI d many) G')/\DC G' d l a y ms.dropLast/\Oth d l G G':=by
 have h1:(G.set l (.lst (ms.map I.int).dropLast))[d]?=some (.dic (eh a n l)):=by rw [z28 D.ne.symm];exact D.dc
 refine⟨(G.set l (.lst (ms.map I.int).dropLast)).set d (.dic (eh a y l)),?_,⟨j7 h1,?_,D.ne,D.a0,D.a1,D.m0 y (z31 hy),λm hm=>D.m0 m (List.dropLast_subset _ hm)⟩,Oth.setL.trans Oth.setD⟩
 ·simp! [vU,kI,D.dc,D.lc,zq,hy,h1,FN,wm]
 ·rw [z28 D.ne,j7 D.lc,List.map_dropLast]
def FP{d l:Nat}{a:Int}{many:Int}:∀(k:Nat) {G:List M} {n:Int} {ms:List Int},ms.length=k->DC G d l a n ms->∃G' n' ms',fQ pq vU (kI d many) G=some (.nx (kI d many) G')/\DC G' d l a n' ms'/\Oth d l G G':=by
 intro k
 induction k with
 | zero =>
  intro G n ms hk D
  refine⟨G,n,ms,lN ?_,D,Oth.refl _ _ _⟩
  rw [pB D]
  simp [hk]
 | succ k ih =>
  intro G n ms hk D
  by_cases h:n=0
  ·obtain⟨y,hy⟩:∃y,ms[ms.length-1]?=some y:=⟨_,z1c (by lia)⟩
   obtain⟨G1,e1,D1,o1⟩:=FO (many:=many) D hy
   obtain⟨G2,n2,ms2,e2,D2,o2⟩:=ih (by rw [List.length_dropLast];lia) D1
   refine⟨G2,n2,ms2,?_,D2,o1.trans o2⟩
   rw [oz (by rw [pB D];simp [h,hk]) e1]
   exact e2
  ·refine⟨G,n,ms,lN ?_,D,Oth.refl _ _ _⟩
   rw [pB D]
   simp [h]
def bU{G:List M}{d l:Nat}{many:Int}(D:DG G d l)(h0:0<many)(h1:many<2 ^ 100):∃r G',aU [.im (.ref d),.im (.int many)] G=some (.im (.int r),G')/\0≤r/\r<many/\DG G' d l/\Oth d l G G':=by
 obtain⟨a,n,ms,D⟩:=D
 obtain⟨G1,n1,ms1,e1,D1,o1⟩:=FP (many:=many) _ rfl D
 have e1':fQ pq vU [↑(.ref d),↑(.int many),none,none,none] G=some (.nx [↑(.ref d),↑(.int many),none,none,none] G1):=e1
 by_cases hn:0<n1
 ·refine⟨n1 % many,G1.set d (.dic (eh a (n1 / many) l)),?_,Int.emod_nonneg _ (by lia),Int.emod_lt_of_pos _ h0,⟨a,n1 / many,ms1,j7 D1.dc,by rw [z28 D1.ne];exact D1.lc,D1.ne,D1.a0,D1.a1,Int.ediv_nonneg D1.n0 (by lia),D1.m0⟩,o1.trans Oth.setD⟩
  have h2:many<2 ^ 200:=Int.lt_trans h1 (by decide)
  have h3:(many<1606938044258990275541962092341162602522202993782792835301376):=h2
  simp! [aU,e1',D1.dc,wj,hn,h0,h3,FN,wm]
 ·have q1:0≤(a*48271+7919) % 2147483647:=Int.emod_nonneg _ (by decide)
  have q2:(a*48271+7919) % 2147483647<2147483647:=Int.emod_lt_of_pos _ (by decide)
  have q3:0≤((a*48271+7919) % 2147483647*40692+104729) % 2147483399:=Int.emod_nonneg _ (by decide)
  have q4:((a*48271+7919) % 2147483647*40692+104729) % 2147483399<2147483399:=Int.emod_lt_of_pos _ (by decide)
  obtain⟨o,ho⟩:∃o,(a*48271+7919) % 2147483647=o:=⟨_,rfl⟩
  rw [ho] at q1 q2 q3 q4
  obtain⟨b,hb⟩:∃b,(o*40692+104729) % 2147483399=b:=⟨_,rfl⟩
  rw [hb] at q3 q4
  have D2:(G1.set d (.dic (eh b n1 l)))[d]?=some (.dic (eh b n1 l)):=j7 D1.dc
  have c1:-18446744073709551616<b/\b<18446744073709551616:=⟨by lia,by lia⟩
  have c2:-18446744073709551616<o/\o<18446744073709551616:=⟨by lia,by lia⟩
  refine⟨(o*o % 2147483629*2147483563+b*b % 2147483563) % many,G1.set d (.dic (eh b n1 l)),?_,Int.emod_nonneg _ (by lia),Int.emod_lt_of_pos _ h0,⟨b,n1,ms1,D2,by rw [z28 D1.ne];exact D1.lc,D1.ne,q3,by lia,D1.n0,D1.m0⟩,o1.trans Oth.setD⟩
  simp! [aU,e1',D1.dc,D2,wj,yea,hn,h0,FN,wo,ho,hb,c1,c2]
theorem p8{w:Wk}{c:I->Option (List I)}{tt:Mo Bool}{te:Mo Ev}{di Z:De}(P:Nat->List I->List M->Prop)
  (step:∀i acc G,i<w.n->P i acc G->∃d ds Za Ga y Zb Gb,w.at_ i Z G=some d/\c d=some ds/\tt ((ds.map λd=>some (Vl.im d))++di) G=some (true,Za,Ga)/\te Za Ga=some (⇑y,Zb,Gb)/\P (i+1) (acc++[y]) Gb)
  (fin:∀acc G,P w.n acc G->w.fin Z G=true):∀(r i:Nat) (acc:List I) (G:List M),i+r=w.n->P i acc G->∃ds G',dI w c tt te di i r acc Z G=some (ds,G')/\P w.n ds G'
 | 0,i,acc,G,h,p=>by
  have:i=w.n:=by lia
  subst this
  exact⟨acc,G,by unfold dI;rw [fin acc G p];rfl,p⟩
 | r+1,i,acc,G,h,p=>by
  obtain⟨d,ds,Za,Ga,y,Zb,Gb,h1,h2,h3,h4,p'⟩:=step i acc G (by lia) p
  obtain⟨ds',G',e,q⟩:=p8 P step fin r (i+1) (acc++[y]) Gb (by lia) p'
  refine⟨ds',G',?_,q⟩
  unfold dI
  rw [h1];dsimp only;rw [h2];dsimp only;rw [h3];dsimp only;rw [h4]
  exact e
theorem hR{w:Wk}{g:GF}{b:SF}(P:Nat->De->List M->Prop)
  (step:∀i Z G,i<w.n->P i Z G->∃d Z1 G1 Z2 G2,w.at_ i Z G=some d/\g (.im d) Z G=some (Z1,G1)/\b Z1 G1=some (.nx Z2 G2)/\P (i+1) Z2 G2)
  (fin:∀Z G,P w.n Z G->w.fin Z G=true):∀(r i:Nat) (Z:De) (G:List M),i+r=w.n->P i Z G->∃Z' G',aW w g b i r Z G=some (.nx Z' G')/\P w.n Z' G'
 | 0,i,Z,G,h,p=>by
  have:i=w.n:=by lia
  subst this
  exact⟨Z,G,by unfold aW;rw [fin Z G p];rfl,p⟩
 | r+1,i,Z,G,h,p=>by
  obtain⟨d,Z1,G1,Z2,G2,h1,h2,h3,p'⟩:=step i Z G (by lia) p
  obtain⟨Z',G',e,q⟩:=hR P step fin r (i+1) Z2 G2 (by lia) p'
  refine⟨Z',G',?_,q⟩
  unfold aW
  rw [h1];dsimp only;rw [h2];dsimp only;rw [h3]
  exact e
structure Mor(g s:Nat)(G G':List M):Prop where
 len:G.length≤G'.length
 at_:∀k,k<G.length->k≠g->k≠s->G'[k]?=G[k]?
def Mor.refl(g s:Nat)(G:List M):Mor g s G G:=⟨zf _,λ_ _ _ _=>rfl⟩
theorem Mor.trans{g s:Nat}{G G1 G2:List M}(x:Mor g s G G1)(y:Mor g s G1 G2):Mor g s G G2:=⟨z19 x.len y.len,λk h h1 h2=>(y.at_ k (z1b h x.len) h1 h2).trans (x.at_ k h h1 h2)⟩
def Oth.mor{g s:Nat}{G G':List M}(o:Oth g s G G'):Mor g s G G':=⟨by rw [o.len];exact zf _,λk _ h1 h2=>o.at_ k h1 h2⟩
def Mor.app{g s:Nat}{G:List M}(T:List M):Mor g s G (G++T):=⟨by rw [za];lia,λk h _ _=>z1a h⟩
def p9{xs:List I}{m:Nat}:dz xs none (some (m:Int))=xs.take m:=by
 unfold dz
 rw [HT.y364,HT.y363,List.drop_zero,Nat.sub_zero]
 by_cases h:m≤xs.length
 ·rw [Nat.min_eq_left h]
 ·rw [Nat.min_eq_right (by lia),z2e (zf _),z2e (by lia)]
def zr{xs:List I}{m:Nat}(h:m≤xs.length):dz xs (some (m:Int)) none=xs.drop m:=by
 unfold dz
 rw [HT.y364,HT.y363,Nat.min_eq_left h]
 rw [z2e (by rw [z2f];lia)]
def DG.lt{d l:Nat}{G:List M}(D:DG G d l):d<G.length/\l<G.length:=by
 obtain⟨a,n,ms,D⟩:=D
 exact⟨(z14.mp D.dc).1,(z14.mp D.lc).1⟩
def DG.app{d l:Nat}{G:List M}(D:DG G d l)(T:List M):DG (G++T) d l:=by
 obtain⟨l1,l2⟩:=D.lt
 obtain⟨a,n,ms,D⟩:=D
 exact⟨a,n,ms,by rw [z1a l1];exact D.dc,by rw [z1a l2];exact D.lc,D.ne,D.a0,D.a1,D.n0,D.m0⟩
theorem FQ{w:Wk}{c:I->Option (List I)}{tt:Mo Bool}{te:Mo Ev}{di Z:De}(P:Nat->List I->List M->Prop)
  (step:∀i acc G,i<w.n->P i acc G->∃d ds Za Ga,w.at_ i Z G=some d/\c d=some ds/\((tt ((ds.map λd=>some (Vl.im d))++di) G=some (false,Za,Ga)/\P (i+1) acc Ga)∨∃y Zb Gb,tt ((ds.map λd=>some (Vl.im d))++di) G=some (true,Za,Ga)/\te Za Ga=some (⇑y,Zb,Gb)/\P (i+1) (acc++[y]) Gb))
  (fin:∀acc G,P w.n acc G->w.fin Z G=true):∀(r i:Nat) (acc:List I) (G:List M),i+r=w.n->P i acc G->∃ds G',dI w c tt te di i r acc Z G=some (ds,G')/\P w.n ds G'
 | 0,i,acc,G,h,p=>by
  have:i=w.n:=by lia
  subst this
  exact⟨acc,G,by unfold dI;rw [fin acc G p];rfl,p⟩
 | r+1,i,acc,G,h,p=>by
  obtain⟨d,ds,Za,Ga,h1,h2,z⟩:=step i acc G (by lia) p
  rcases z with⟨h3,p'⟩| ⟨y,Zb,Gb,h3,h4,p'⟩
  ·obtain⟨ds',G',e,q⟩:=FQ P step fin r (i+1) acc Ga (by lia) p'
   refine⟨ds',G',?_,q⟩
   unfold dI
   rw [h1];dsimp only;rw [h2];dsimp only;rw [h3]
   exact e
  ·obtain⟨ds',G',e,q⟩:=FQ P step fin r (i+1) (acc++[y]) Gb (by lia) p'
   refine⟨ds',G',?_,q⟩
   unfold dI
   rw [h1];dsimp only;rw [h2];dsimp only;rw [h3];dsimp only;rw [h4]
   exact e
def yd8(ns:List Int)(lo hi:Option Int):∃ms:List Int,dz (ns.map I.int) lo hi=ms.map I.int/\ms.length≤ns.length:=by
 refine⟨(ns.drop (HT.sIx ns.length 0 lo)).take (HT.sIx ns.length ns.length hi-HT.sIx ns.length 0 lo),?_,?_⟩
 ·unfold dz;rw [z12,List.map_take,List.map_drop]
 ·rw [z2d,z2f];lia
def yeb{ms:List Int}{Z:De}{G:List M}:∃so:List Int,dI (a7 (.v (.ow (.lst (ms.map I.int)))) ms.length) c1 bf (bd (af (aa 0) (af (ah cM (ag (.int 0)) (aa 0)) ae)) gX) [] 0 ms.length [] Z G=some (so.map I.int,G)/\so.length=ms.length/\∀m∈so,0≤m:=by
 obtain⟨ds,G',e,so,ed,ls,hp,eg⟩:=p8 (w:=a7 (.v (.ow (.lst (ms.map I.int)))) ms.length) (c:=c1) (tt:=bf) (te:=bd (af (aa 0) (af (ah cM (ag (.int 0)) (aa 0)) ae)) gX) (di:=[]) (Z:=Z)
  (λi acc G'=>∃so:List Int,acc=so.map I.int/\so.length=i/\(∀m∈so,0≤m)/\G'=G)
  (λi acc G1 hi zz=>by
   obtain⟨so,ea,ls,hp,o⟩:=zz
   have hi:i<ms.length:=hi
   subst o
   obtain⟨y,hy⟩:∃y,(if 0-ms[i]>ms[i] then 0-ms[i] else ms[i])=y:=⟨_,rfl⟩
   refine⟨.int ms[i],[.int ms[i]],_,_,.int y,[↑(.int ms[i])],G1,?_,rfl,rfl,?_,so++[y],by rw [ea,z25];rfl,by rw [za,ls];rfl,λm hm=>?_,rfl⟩
   ·simp [a7,sq,pk,hi]
   ·subst hy;simp! [gX]
   ·rcases z13.mp hm with z|z
    ·exact hp m z
    ·have:m=y:=by simpa using z
     subst this;subst hy;split<;>lia)
  (λ_ _ _=>by simp [a7,sq,pk]) ms.length 0 [] G (by simp [a7]) ⟨[],rfl,rfl,λ_ h=>(by cases h),rfl⟩
 exact⟨so,by rw [ed,eg] at e;exact e,ls,hp⟩
def ye6{so:List Int}{Z:De}{G:List M}{k:Nat}(hk:G[k]?=some (.lst (so.map I.int)))(hp:∀m∈so,0≤m):∃le:List Int,dI (a7 ⇑(.ref k) so.length) c1 (ao (ah oM (aa 0) (ah gT (ag (.int 10)) (ag (.int 18))))) (aa 0) [] 0 so.length [] Z G=some (le.map I.int,G)/\∀m∈le,0≤m:=by
 obtain⟨ds,G',e,so',ed,hp,eg⟩:=FQ (w:=a7 ⇑(.ref k) so.length) (c:=c1) (tt:=ao (ah oM (aa 0) (ah gT (ag (.int 10)) (ag (.int 18))))) (te:=aa 0) (di:=[]) (Z:=Z)
  (λi acc G'=>∃le:List Int,acc=le.map I.int/\(∀m∈le,0≤m)/\G'=G)
  (λi acc G1 hi zz=>by
   obtain⟨le,ea,hp',o⟩:=zz
   have hi:i<so.length:=hi
   subst o
   refine⟨.int so[i],[.int so[i]],[↑(.int so[i])],G1,by simp [a7,sq,pk,hk,hi],rfl,?_⟩
   by_cases z:(1000000000000000000:Int)≤so[i]
   ·refine .inr ⟨.int so[i],[↑(.int so[i])],G1,by simp! [z],by simp! [],le++[so[i]],by rw [ea,z25];rfl,λm hm=>?_,rfl⟩
    rcases z13.mp hm with y|y
    ·exact hp' m y
    ·have:m=so[i]:=by simpa using y
     subst this;exact hp _ (z32 hi)
   ·exact .inl ⟨by simp! [];lia,le,ea,hp',rfl⟩)
  (λ_ G1 zz=>by obtain⟨_,_,_,eg⟩:=zz;subst eg;simp [a7,sq,pk,hk]) so.length 0 [] G (by simp [a7]) ⟨[],rfl,λ_ h=>(by cases h),rfl⟩
 exact⟨so',by rw [ed,eg] at e;exact e,hp⟩
def ye4{so:List Int}{s1 s2 s3 v:Option Vl}{G:List M}{k:Nat}{a:Int}(hk:G[k]?=some (.lst (so.map I.int)))(h0:0≤a)(h1:a<2147483647):∃a' v',aW (a7 ⇑(.ref k) so.length) (aB 4) yR 0 so.length [s1,s2,s3,↑(.int a),v] G=some (.nx [s1,s2,s3,↑(.int a'),v'] G)/\0≤a'/\a'<2147483647:=by
 obtain⟨Z',G',e,a',v',ed,p0,p1,eg⟩:=hR (w:=a7 ⇑(.ref k) so.length) (g:=aB 4) (b:=yR)
  (λi Z G'=>∃(a:Int) (v:Option Vl),Z=[s1,s2,s3,↑(.int a),v]/\0≤a/\a<2147483647/\G'=G)
  (λi Z G1 hi zz=>by
   obtain⟨a,v,ea,p0,p1,o⟩:=zz
   have hi:i<so.length:=hi
   subst o
   subst ea
   refine⟨.int so[i],[s1,s2,s3,↑(.int a),↑(.int so[i])],G1,[s1,s2,s3,↑(.int ((a*48271+so[i] % 2147483629) % 2147483647)),↑(.int so[i])],G1,by simp [a7,sq,pk,hk,hi],rfl,?_,_,_,rfl,Int.emod_nonneg _ (by decide),Int.emod_lt_of_pos _ (by decide),rfl⟩
   simp! [yR])
  (λ_ G1 zz=>by obtain⟨_,_,_,_,_,eg⟩:=zz;subst eg;simp [a7,sq,pk,hk]) so.length 0 [s1,s2,s3,↑(.int a),v] G (by simp [a7]) ⟨a,v,rfl,h0,h1,rfl⟩
 exact⟨a',v',by rw [ed,eg] at e;exact e,p0,p1⟩
def eA{fe:Mo Ev}{e:Ev}{xs:List I}{n:Nat}{Z Z1:De}{G G1:List M}(h:fe Z G=some (e,Z1,G1))(hl:oE Z1 G1 e=true)(hs:sq Z1 G1 e=some xs)(hn:xs.length=n):bG (one fe) aT Z G=some (a7 e n,[e],Z1,G1):=by
 subst hn
 refine pA (av h rfl) ?_
 unfold aT tL
 dsimp only
 rw [if_pos hl,hs]
 rfl
def ye9{ns:List Int}{b:Nat}{G:List M}(h:ns.length≤63)(hb:b≤1000):∃(a:Int) (so le:List Int),yS [.im (.fro (ns.map I.int)),.im (.int b)] G=some (.ow (.dic (eh a 0 (G.length+1))),G++[.lst (so.map I.int),.lst (le.map I.int)])/\0≤a/\a<2147483647/\∀m∈le,0≤m:=by
 obtain⟨ms,hc,lm⟩:=yd8 ns (some (b:Int)) (some 63)
 obtain⟨so,e1,l1,p1⟩:=yeb (ms:=ms) (Z:=[↑(.fro (ns.map I.int)),↑(.int b),none,none,none]) (G:=G)
 have hk:(G++[M.lst (so.map I.int)])[G.length]?=some (.lst (so.map I.int)):=by simp
 obtain⟨a,v,e2,a0,a1⟩:=ye4 (s1:=↑(.fro (ns.map I.int))) (s2:=↑(.int b)) (s3:=↑(.ref G.length)) (v:=none) (a:=7919+(b:Int)) hk (by lia) (by lia)
 obtain⟨le,e3,p3⟩:=ye6 (Z:=[↑(.fro (ns.map I.int)),↑(.int b),↑(.ref G.length),↑(.int a),v]) hk p1
 refine⟨a,so,le.reverse,?_,a0,a1,λm hm=>p3 m (List.mem_reverse.mp hm)⟩
 refine aL rfl ?_
 refine aj (bD (kH (Z0:=[↑(.fro (ns.map I.int)),↑(.int b),none,none,none]) (by rfl) (eA (e:=.v (.ow (.lst (ms.map I.int)))) (n:=ms.length) (Z1:=[↑(.fro (ns.map I.int)),↑(.int b),none,none,none]) (G1:=G) ?_ rfl rfl (by simp)) (by show ms.length≤100000;lia) e1) rfl) ?_
 ·simp! [a8,aX,l6,gY,fF,hc]
 refine aj (bD (x:=.im (.int (7919+(b:Int)))) (Z1:=[↑(.fro (ns.map I.int)),↑(.int b),↥(so.map I.int),none,none]) (G1:=G) (by simp! []) rfl) ?_
 refine aj (b8 (eA (e:=⇑(.ref G.length)) (n:=so.length) (Z1:=[↑(.fro (ns.map I.int)),↑(.int b),↑(.ref G.length),↑(.int (7919+(b:Int))),none]) (G1:=G++[M.lst (so.map I.int)]) (xs:=so.map I.int) (by simp! []) rfl (by simp [sq,pk]) (by simp)) e2) ?_
 refine cG (Z1:=[↑(.fro (ns.map I.int)),↑(.int b),↑(.ref G.length),↑(.int a),v]) ?_
 have e4:dJ (bG (one (aZ (aa 2))) aT) [] c1 (ao (ah oM (aa 0) (ah gT (ag (.int 10)) (ag (.int 18))))) (aa 0) [↑(.fro (ns.map I.int)),↑(.int b),↑(.ref G.length),↑(.int a),v] (G++[M.lst (so.map I.int)])=some (.v (.ow (.lst (le.map I.int))),[↑(.fro (ns.map I.int)),↑(.int b),↑(.ref G.length),↑(.int a),v],G++[M.lst (so.map I.int)]):=by
  refine kH (by rfl) (eA (e:=⇑(.ref G.length)) (n:=so.length) (Z1:=[↑(.fro (ns.map I.int)),↑(.int b),↑(.ref G.length),↑(.int a),v]) (G1:=G++[M.lst (so.map I.int)]) (xs:=so.map I.int) (by simp! []) rfl (by simp [sq,pk]) (by simp)) (by show so.length≤100000;lia) e3
 have e5:aZ (cZ iP (dJ (bG (one (aZ (aa 2))) aT) [] c1 (ao (ah oM (aa 0) (ah gT (ag (.int 10)) (ag (.int 18))))) (aa 0))) [↑(.fro (ns.map I.int)),↑(.int b),↑(.ref G.length),↑(.int a),v] (G++[M.lst (so.map I.int)])=some (⇑(.ref (G.length+1)),[↑(.fro (ns.map I.int)),↑(.int b),↑(.ref G.length),↑(.int a),v],G++[M.lst (so.map I.int),M.lst (le.reverse.map I.int)]):=by
  refine av (pz e4 (r:=some (.v (.ow (.lst (le.reverse.map I.int))),[↑(.fro (ns.map I.int)),↑(.int b),↑(.ref G.length),↑(.int a),v],G++[M.lst (so.map I.int)])) (by simp [iP,fF,sq,pk])) ?_
  simp [og]
 refine av (a:=[⇑(.str "seed"),⇑(.int a),⇑(.str "number"),⇑(.int 0),⇑(.str "left"),⇑(.ref (G.length+1))]) (Z1:=[↑(.fro (ns.map I.int)),↑(.int b),↑(.ref G.length),↑(.int a),v]) (G1:=G++[M.lst (so.map I.int),M.lst (le.reverse.map I.int)]) ?_ ?_
 ·refine av rfl (av rfl (av (a:=[⇑(.str "number"),⇑(.int 0),⇑(.str "left"),⇑(.ref (G.length+1))]) (av rfl (av rfl (av (a:=[⇑(.str "left"),⇑(.ref (G.length+1))]) (av rfl (av e5 (av rfl rfl))) rfl))) rfl))
 ·simp [gZ,dw,g6,cU,gj,wd,FG,we,eh]
end
section
def dj{α:Type}(x:α)(r:List α):dh (x::r) 0=some x:=kY (j:=0) rfl
def eB{α:Type}(x y:α)(r:List α):dh (x::y::r) 1=some y:=kY (j:=1) rfl
def mi{α:Type}(x y z:α)(r:List α):dh (x::y::z::r) 2=some z:=kY (j:=2) rfl
def wq{α:Type}(x y z u:α)(r:List α):dh (x::y::z::u::r) 3=some u:=kY (j:=3) rfl
def wt{G:List M}{d l:Nat}(D:DG G d l):∃w G',j4 [.im (.ref d)] G=some (.im (.int w),G')/\0≤w/\w<4294967296/\DG G' d l/\Oth d l G G':=by
 obtain⟨r1,G1,e1,p0,p1,D1,o1⟩:=bU (many:=6) D (by decide) (by decide)
 by_cases h:r1<4
 ·obtain⟨k,hk,k0,k1⟩:∃k,dh [I.int 2,I.int 5,I.int 5,I.int 10] r1=some (.int k)/\0<k/\k≤10:=by
   rcases (show r1=0∨r1=1∨r1=2∨r1=3 by lia) with z|z|z|z<;>subst z
   ·exact⟨2,dj _ _,by decide,by decide⟩
   ·exact⟨5,eB _ _ _,by decide,by decide⟩
   ·exact⟨5,mi _ _ _ _,by decide,by decide⟩
   ·exact⟨10,wq _ _ _ _ _,by decide,by decide⟩
  obtain⟨r2,G2,e2,q0,q1,D2,o2⟩:=bU (many:=k) D1 k0 (Int.lt_of_le_of_lt k1 (by decide))
  refine⟨r2,G2,?_,q0,by lia,D2,o1.trans o2⟩
  simp! [j4,e1,h,hk,e2]
 ·obtain⟨r2,G2,e2,q0,q1,D2,o2⟩:=bU (many:=4294967296) D1 (by decide) (by decide)
  obtain⟨r3,G3,e3,s0,s1,D3,o3⟩:=bU (many:=3) D2 (by decide) (by decide)
  have o:=(o1.trans o2).trans o3
  rcases (show r1=4∨r1=5 by lia) with z|z<;>subst z
  ·exact⟨r2,G3,by simp! [j4,e1,e2,e3,dj],q0,q1,D3,o⟩
  ·exact⟨4294967295-r3,G3,by simp! [j4,e1,e2,e3,eB],by lia,by lia,D3,o⟩
inductive Tm where
 | num (w:Int)|cell (x:Str)|at_ (r:Str) (t:Tm)|op (s:Str) (a b:Tm)
abbrev Tm.i:Tm->I
 | .num w=>.tup [.str "num",.int w]
 | .cell x=>.tup [.str "cell",.str x]
 | .at_ r t=>.tup [.str "at",.str r,t.i]
 | .op s a b=>.tup [.str "op",.str s,a.i,b.i]
abbrev Tm.size:Tm->Nat
 | .num _=>1
 | .cell _=>1
 | .at_ _ t=>t.size+1
 | .op _ a b=>a.size+b.size+1
abbrev Tm.hi:Tm->Nat
 | .num _=>1
 | .cell _=>1
 | .at_ _ t=>t.hi
 | .op _ a b=>max a.hi (b.hi+1)
abbrev Tm.fit(t:Tm):Prop:=t.size≤20/\t.hi≤4
abbrev Sg(s:Str):Prop:=s="+"∨s="-"∨s="*"∨s="<"∨s="="
abbrev Tm.ok(cs rs:List Str):Tm->Prop
 | .num w=>0≤w/\w<4294967296
 | .cell x=>x∈cs
 | .at_ r t=>r∈rs/\t.ok cs rs
 | .op s a b=>Sg s/\a.ok cs rs/\b.ok cs rs
abbrev jd(c r f:Nat):List (aK×I):=[(.inr "cells",.ref c),(.inr "rows",.ref r),(.inr "defs",.ref f)]
def pC(c r f:Nat):cc (jd c r f) (Sum.inr ("cells" : Str))=some (.ref c):=by kernel_rfl
def j8(c r f:Nat):cc (jd c r f) (Sum.inr ("rows" : Str))=some (.ref r):=by kernel_rfl
def wu(c r f:Nat):cc (jd c r f) (Sum.inr ("defs" : Str))=some (.ref f):=by kernel_rfl
structure Scn where
 c:Nat
 r:Nat
 f:Nat
 cs:List Str
 rs:List Str
 ds:List Str
structure Sc(G:List M)(d l k:Nat)(S:Scn):Prop where
 D:DG G d l
 s:G[k]?=some (.dic (jd S.c S.r S.f))
 c:G[S.c]?=some (.lst (S.cs.map I.str))
 r:G[S.r]?=some (.lst (S.rs.map I.str))
 f:G[S.f]?=some (.lst (S.ds.map I.str))
 nd:d≠k/\d≠S.c/\d≠S.r/\d≠S.f
 nl:l≠k/\l≠S.c/\l≠S.r/\l≠S.f
 c0:0<S.cs.length
 c1:S.cs.length≤1000/\S.rs.length≤1000/\S.ds.length≤1000
def Sc.oth{G G':List M}{d l k:Nat}{S:Scn}(s:Sc G d l k S)(D:DG G' d l)(o:Oth d l G G'):Sc G' d l k S :=
 ⟨D,(o.at_ _ s.nd.1.symm s.nl.1.symm).trans s.s,(o.at_ _ s.nd.2.1.symm s.nl.2.1.symm).trans s.c,(o.at_ _ s.nd.2.2.1.symm s.nl.2.2.1.symm).trans s.r,(o.at_ _ s.nd.2.2.2.symm s.nl.2.2.2.symm).trans s.f,s.nd,s.nl,s.c0,s.c1⟩
def Sc.draw{G:List M}{d l k:Nat}{S:Scn}{many:Int}(s:Sc G d l k S)(h0:0<many)(h1:many<2 ^ 100):∃r G',aU [.im (.ref d),.im (.int many)] G=some (.im (.int r),G')/\0≤r/\r<many/\Sc G' d l k S/\Oth d l G G':=by
 obtain⟨r,G',e,p0,p1,D,o⟩:=bU s.D h0 h1
 exact⟨r,G',e,p0,p1,s.oth D o,o⟩
def j9{xs:List Str}{r:Int}(h0:0≤r)(h1:r<xs.length):∃x,dh (xs.map I.str) r=some (.str x)/\x∈xs:=by
 obtain⟨j,rfl⟩:=Int.eq_ofNat_of_zero_le h0
 have hj:j<xs.length:=by lia
 exact⟨xs[j],kY (by simp [hj]),z32 hj⟩
def Sc.cell{G:List M}{d l k:Nat}{S:Scn}(s:Sc G d l k S):∃r G' x,aU [.im (.ref d),.im (.int S.cs.length)] G=some (.im (.int r),G')/\dh (S.cs.map I.str) r=some (.str x)/\x∈S.cs/\Sc G' d l k S/\Oth d l G G':=by
 obtain⟨r,G',e,p0,p1,s',o⟩:=s.draw (many:=S.cs.length) (by have:=s.c0;lia) (by have:=s.c1.1;lia)
 obtain⟨x,e2,hx⟩:=j9 p0 p1
 exact⟨r,G',x,e,e2,hx,s',o⟩
def Sc.row{G:List M}{d l k:Nat}{S:Scn}(s:Sc G d l k S)(h:0<S.rs.length):∃r G' x,aU [.im (.ref d),.im (.int S.rs.length)] G=some (.im (.int r),G')/\dh (S.rs.map I.str) r=some (.str x)/\x∈S.rs/\Sc G' d l k S/\Oth d l G G':=by
 obtain⟨r,G',e,p0,p1,s',o⟩:=s.draw (many:=S.rs.length) (by lia) (by have:=s.c1.2.1;lia)
 obtain⟨x,e2,hx⟩:=j9 p0 p1
 exact⟨r,G',x,e,e2,hx,s',o⟩
def Sc.dfn{G:List M}{d l k:Nat}{S:Scn}(s:Sc G d l k S)(h:0<S.ds.length):∃r G' x,aU [.im (.ref d),.im (.int S.ds.length)] G=some (.im (.int r),G')/\dh (S.ds.map I.str) r=some (.str x)/\x∈S.ds/\Sc G' d l k S/\Oth d l G G':=by
 obtain⟨r,G',e,p0,p1,s',o⟩:=s.draw (many:=S.ds.length) (by lia) (by have:=s.c1.2.2;lia)
 obtain⟨x,e2,hx⟩:=j9 p0 p1
 exact⟨r,G',x,e,e2,hx,s',o⟩
end
section
def wx{α:Type}{xs:List α}{r:Int}(h0:0≤r)(h1:r<xs.length):∃x,dh xs r=some x/\x∈xs:=by
 obtain⟨j,rfl⟩:=Int.eq_ofNat_of_zero_le h0
 have hj:j<xs.length:=by lia
 exact⟨xs[j],kY (by simp [hj]),z32 hj⟩
def FR{r:Int}{Z:De}{G:List M}(h0:0≤r)(h1:r<5):∃s:Str,ak [⇑(.str "+-*<="),⇑(.int r)] Z G=some (⇑(.str s),Z,G)/\Sg s:=by
 have hl:("+-*<=" : Str).length≤1000000:=by rw [show ("+-*<=" : Str).length=5 by decide +kernel];lia
 obtain⟨c,hc,hm⟩:=wx (xs:=("+-*<=" : Str).cps.toList) h0 (by rw [show ("+-*<=" : Str).cps.toList.length=5 by decide +kernel];exact h1)
 refine⟨⟨#[c]⟩,by simp [ak,bX,dY,sq,pk,hc,hl],?_⟩
 rw [show ("+-*<=" : Str).cps.toList=[43,45,42,60,61] by decide +kernel] at hm
 simp only [z1d,List.not_mem_nil,or_false] at hm
 rcases hm with e|e|e|e|e<;>subst e
 ·exact .inl (by decide +kernel)
 ·exact .inr (.inl (by decide +kernel))
 ·exact .inr (.inr (.inl (by decide +kernel)))
 ·exact .inr (.inr (.inr (.inl (by decide +kernel))))
 ·exact .inr (.inr (.inr (.inr (by decide +kernel))))
abbrev hB(r:Nat):Nat:=if r<3 then 1 else if r<7 then 2 else if r<15 then 3 else 4
def wy{r:Nat}:1≤hB r/\hB (r / 2)≤hB r/\hB r≤4:=by
 unfold hB
 repeat' split
 all_goals lia
def wz{r:Nat}(h:3≤r)(h2:r<31):hB ((r-1) / 2)+1≤hB r:=by
 unfold hB
 repeat' split
 all_goals lia
variable {d l k:Nat}{S:Scn}
theorem mj:∀(n r:Nat) {G:List M},r<2*n->r<24->Sc G d l k S->∃(t:Tm) (G':List M),eQ n [.im (.ref d),.im (.ref k),.im (.int r)] G=some (.im t.i,G')/\t.ok S.cs S.rs/\t.size≤max 1 r/\t.hi≤hB r/\Sc G' d l k S/\Oth d l G G'
 | 0,r,G,h,_,_=>by lia
 | n+1,r,G,h,h24,s=>by
  have hh:=wy (r:=r)
  obtain⟨fm,G1,e1,p0,p1,s1,o1⟩:=s.draw (many:=8) (by decide) (by decide)
  have st:aI (bd (af (aa 0) (af (ag (.int 8)) ae)) (ax 2 aU)) (aB 3) [↑(.ref d),↑(.ref k),↑(.int r),none,none,none,none] G=some (.nx [↑(.ref d),↑(.ref k),↑(.int r),↑(.int fm),none,none,none] G1):=by
   simp! [e1]
  by_cases hs:(r:Int)<3∨fm<3
  ·
   have hc:kA (ao (ah eI (aa 2) (ag (.int 3)))) (ao (ah eI (aa 3) (ag (.int 3)))) [↑(.ref d),↑(.ref k),↑(.int r),↑(.int fm),none,none,none] G1=some (true,[↑(.ref d),↑(.ref k),↑(.int r),↑(.int fm),none,none,none],G1):=by
    by_cases h3:(r:Int)<3
    ·simp! [h3]
    ·simp! [h3,hs.resolve_left h3]
   obtain⟨y,G2,e2,_,_,s2,o2⟩:=s1.draw (many:=3) (by decide) (by decide)
   by_cases hy:y=0
   ·subst hy
    obtain⟨w,G3,e3,w0,w1,D3,o3⟩:=wt s2.D
    refine⟨.num w,G3,?_,⟨w0,w1⟩,by show 1≤_;lia,hh.1,s2.oth D3 o3,(o1.trans o2).trans o3⟩
    refine aL rfl (aj st (b7 (bT hc (b7 (bT (Z1:=[↑(.ref d),↑(.ref k),↑(.int r),↑(.int fm),none,none,none]) (G1:=G2) (by simp! [e2]) (cG (Z1:=[↑(.ref d),↑(.ref k),↑(.int r),↑(.int fm),none,none,none]) ?_))))))
    simp! [e3,Tm.i]
   ·have yb:(y == 0)=false:=beq_eq_false_iff_ne.mpr hy
    obtain⟨q,G3,x,e3,ex,hx,s3,o3⟩:=s2.cell
    refine⟨.cell x,G3,?_,hx,by show 1≤_;lia,hh.1,s3,(o1.trans o2).trans o3⟩
    refine aL rfl (aj st (b7 (bT hc (aj (Z1:=[↑(.ref d),↑(.ref k),↑(.int r),↑(.int fm),none,none,none]) (G1:=G2) (aN (Z1:=[↑(.ref d),↑(.ref k),↑(.int r),↑(.int fm),none,none,none]) (G1:=G2) (by simp! [e2,yb]) rfl) (cG (Z1:=[↑(.ref d),↑(.ref k),↑(.int r),↑(.int fm),none,none,none]) ?_)))))
    simp! [s2.s,s2.c,s3.s,s3.c,pC,e3,ex,Tm.i]
  ·have h3:¬ (r:Int)<3:=λz=>hs (.inl z)
   have h4:¬ fm<3:=λz=>hs (.inr z)
   have hc:kA (ao (ah eI (aa 2) (ag (.int 3)))) (ao (ah eI (aa 3) (ag (.int 3)))) [↑(.ref d),↑(.ref k),↑(.int r),↑(.int fm),none,none,none] G1=some (false,[↑(.ref d),↑(.ref k),↑(.int r),↑(.int fm),none,none,none],G1):=by
    simp! [h3,h4]
   by_cases ha:fm=3/\0<S.rs.length
   ·obtain⟨hf,hr⟩:=ha
    subst hf
    obtain⟨q,G2,x,e2,ex,hx,s2,o2⟩:=s1.row hr
    obtain⟨t,G3,e3,t1,t2,t3,s3,o3⟩:=mj n (r / 2) (by lia) (by lia) s2
    have er:((r / 2:Nat):Int)=(r:Int) / 2:=by lia
    rw [er] at e3
    refine⟨.at_ x t,G3,?_,⟨hx,t1⟩,by show t.size+1≤_;lia,z19 t3 hh.2.1,s3,(o1.trans o2).trans o3⟩
    refine aL rfl (aj st (aj (aN hc rfl) (b7 (bT (Z1:=[↑(.ref d),↑(.ref k),↑(.int r),↑(.int 3),none,none,none]) (G1:=G1) (by simp! [s1.s,s1.r,j8,hr]) (aj (bD (x:=.im (.str x)) (Z1:=[↑(.ref d),↑(.ref k),↑(.int r),↑(.int 3),none,none,none]) (G1:=G2) ?_ rfl) (cG (Z1:=[↑(.ref d),↑(.ref k),↑(.int r),↑(.int 3),↑(.str x),none,none]) ?_))))))
    ·simp! [s1.s,s1.r,s2.s,s2.r,j8,e2,ex]
    ·simp! [e3,Tm.i]
   ·have hc2:eG (ao (ah bQ (aa 3) (ag (.int 3)))) (ao (ah gU (bd (af (ah ak (aa 1) (ag (.str "rows"))) ae) aQ) (ag (.int 0)))) [↑(.ref d),↑(.ref k),↑(.int r),↑(.int fm),none,none,none] G1=some (false,[↑(.ref d),↑(.ref k),↑(.int r),↑(.int fm),none,none,none],G1):=by
     by_cases hf:fm=3
     ·have hr:¬ 0<S.rs.length:=λz=>ha ⟨hf,z⟩
      simp! [hf,s1.s,s1.r,j8,hr]
     ·have fb:(fm == 3)=false:=beq_eq_false_iff_ne.mpr hf
      simp! [fb]
    obtain⟨ta,G2,e2,a1,a2,a3,s2,o2⟩:=mj n ((r-1) / 2) (by lia) (by lia) s1
    have er:(((r-1) / 2:Nat):Int)=((r:Int)-1) / 2:=by lia
    rw [er] at e2
    obtain⟨y,G3,e3,y0,y1,s3,o3⟩:=s2.draw (many:=5) (by decide) (by decide)
    obtain⟨tb,G4,e4,b1,b2,b3,s4,o4⟩:=mj n ((r-1) / 2) (by lia) (by lia) s3
    have ho:=wz (r:=r) (by lia) (by lia)
    rw [er] at e4
    obtain⟨sg,es,ls⟩:=FR (Z:=[↑(.ref d),↑(.ref k),↑(.int r),↑(.int fm),none,↑(.int (((r:Int)-1) / 2)),↑ta.i]) (G:=G3) y0 y1
    refine⟨.op sg ta tb,G4,?_,⟨ls,a1,b1⟩,by show ta.size+tb.size+1≤_;lia,by show max ta.hi (tb.hi+1)≤_;lia,s4,((o1.trans o2).trans o3).trans o4⟩
    refine aL rfl (aj st (aj (aN hc rfl) (aj (aN hc2 rfl) (aj (bD (x:=.im (.int (((r:Int)-1) / 2))) (Z1:=[↑(.ref d),↑(.ref k),↑(.int r),↑(.int fm),none,none,none]) (G1:=G1) (by simp! []) rfl) (aj (bD (x:=.im ta.i) (Z1:=[↑(.ref d),↑(.ref k),↑(.int r),↑(.int fm),none,↑(.int (((r:Int)-1) / 2)),none]) (G1:=G2) (by simp! [e2]) rfl) (cG (Z1:=[↑(.ref d),↑(.ref k),↑(.int r),↑(.int fm),none,↑(.int (((r:Int)-1) / 2)),↑ta.i]) ?_))))))
    refine av (av rfl (av (av (aH rfl (av (a:=[⇑(.ref d),⇑(.int 5)]) rfl (cC (xs:=[.im (.ref d),.im (.int 5)]) rfl rfl e3)) es) (av (av rfl (av (av (av (a:=[⇑(.ref d),⇑(.ref k),⇑(.int (((r:Int)-1) / 2))]) rfl (cC (xs:=[.im (.ref d),.im (.ref k),.im (.int (((r:Int)-1) / 2))]) rfl rfl e4)) rfl) rfl)) rfl)) rfl)) ?_
    simp! [Tm.i]
end
section
inductive Sm where
 | set (x:Str) (t:Tm)|put (r:Str) (a b:Tm)|call (f:Str)|wh (t:Tm) (b:List Sm)|ite (t:Tm) (b c:List Sm)
mutual
noncomputable def Sm.i:Sm->I
 | .set x t=>.tup [.str "set",.str x,t.i]
 | .put r a b=>.tup [.str "put",.str r,a.i,b.i]
 | .call f=>.tup [.str "call",.str f]
 | .wh t b=>.tup [.str "while",t.i,.tup (aq b)]
 | .ite t b c=>.tup [.str "if",t.i,.tup (aq b),.tup (aq c)]
noncomputable def aq:List Sm->List I
 | []=>[]
 | s::b=>s.i::aq b
end
mutual
noncomputable def Sm.ok(S:Scn):Sm->Prop
 | .set x t=>x∈S.cs/\t.ok S.cs S.rs/\t.fit
 | .put r a b=>r∈S.rs/\a.ok S.cs S.rs/\b.ok S.cs S.rs/\a.fit/\b.fit
 | .call f=>f∈S.ds
 | .wh t b=>t.ok S.cs S.rs/\t.fit/\aY S b
 | .ite t b c=>t.ok S.cs S.rs/\t.fit/\aY S b/\aY S c
noncomputable def aY(S:Scn):List Sm->Prop
 | []=>True
 | s::b=>s.ok S/\aY S b
end
mutual
noncomputable def Sm.n:Sm->Nat
 | .set _ t=>t.size+1
 | .put _ a b=>a.size+b.size+1
 | .call _=>1
 | .wh t b=>t.size+2+aR b
 | .ite t b c=>t.size+2+aR b+aR c
noncomputable def aR:List Sm->Nat
 | []=>0
 | s::b=>s.n+aR b
end
mutual
noncomputable def Sm.deep:Sm->Nat
 | .wh _ b=>cy b+1
 | .ite _ b c=>max (cy b) (cy c)+1
 | _=>1
noncomputable def cy:List Sm->Nat
 | []=>0
 | s::b=>max s.deep (cy b)
end
theorem iT:∀(a b:List Sm),aq (a++b)=aq a++aq b
 | [],b=>by rw [aq];rfl
 | s::a,b=>by rw [z2a,aq,aq,iT a b];rfl
theorem eD:∀(a b:List Sm),aR (a++b)=aR a+aR b
 | [],b=>by rw [aR];simp
 | s::a,b=>by rw [z2a,aR,aR,eD a b];lia
theorem pD:∀(a b:List Sm),cy (a++b)=max (cy a) (cy b)
 | [],b=>by rw [cy];simp
 | s::a,b=>by rw [z2a,cy,cy,pD a b,Nat.max_assoc]
theorem pE{S:Scn}:∀(a b:List Sm),aY S (a++b)↔aY S a/\aY S b
 | [],b=>by rw [aY];simp
 | s::a,b=>by rw [z2a,aY,aY,pE a b,and_assoc]
theorem dP:∀a:List Sm,(aq a).length=a.length
 | []=>by rw [aq];rfl
 | s::a=>by rw [aq,z10,z10,dP a]
structure Bs(G:List M)(d l k q:Nat)(S:Scn)(x:Nat):Prop where
 s:Sc G d l k S
 qa:G[q]?=some (.lst [.int x])
 n1:q≠d/\q≠l
 n2:q≠k/\q≠S.c/\q≠S.r/\q≠S.f
structure Ot3(d l q:Nat)(G G':List M):Prop where
 len:G.length≤G'.length
 at_:∀k,k<G.length->k≠d->k≠l->k≠q->G'[k]?=G[k]?
def Ot3.refl(d l q:Nat)(G:List M):Ot3 d l q G G:=⟨zf _,λ_ _ _ _ _=>rfl⟩
theorem Ot3.trans{d l q:Nat}{G G1 G2:List M}(x:Ot3 d l q G G1)(y:Ot3 d l q G1 G2):Ot3 d l q G G2:=⟨z19 x.len y.len,λk h h1 h2 h3=>(y.at_ k (z1b h x.len) h1 h2 h3).trans (x.at_ k h h1 h2 h3)⟩
def Oth.o3{d l:Nat}{G G':List M}(o:Oth d l G G')(q:Nat):Ot3 d l q G G':=⟨Nat.le_of_eq o.len.symm,λk _ h1 h2 _=>o.at_ k h1 h2⟩
def Bs.oth{G G':List M}{d l k q x:Nat}{S:Scn}(b:Bs G d l k q S x)(s:Sc G' d l k S)(o:Oth d l G G'):Bs G' d l k q S x:=⟨s,(o.at_ _ b.n1.1 b.n1.2).trans b.qa,b.n1,b.n2⟩
theorem Bs.draw{G:List M}{d l k q x:Nat}{S:Scn}{many:Int}(b:Bs G d l k q S x)(h0:0<many)(h1:many<2 ^ 100):∃r G',aU [.im (.ref d),.im (.int many)] G=some (.im (.int r),G')/\0≤r/\r<many/\Bs G' d l k q S x/\Ot3 d l q G G':=by
 obtain⟨r,G',e,p0,p1,s,o⟩:=b.s.draw h0 h1
 exact⟨r,G',e,p0,p1,b.oth s o,o.o3 q⟩
def Bs.term{G:List M}{d l k q x:Nat}{S:Scn}(b:Bs G d l k q S x)(r:Nat)(h:r<24):∃(t:Tm) (G':List M),eQ 12 [.im (.ref d),.im (.ref k),.im (.int r)] G=some (.im t.i,G')/\t.ok S.cs S.rs/\t.size≤max 1 r/\t.hi≤4/\Bs G' d l k q S x/\Ot3 d l q G G':=by
 obtain⟨t,G',e,t1,t2,t3,s,o⟩:=mj 12 r (by lia) h b.s
 exact⟨t,G',e,t1,t2,z19 t3 wy.2.2,b.oth s o,o.o3 q⟩
theorem Bs.set{G:List M}{d l k q x:Nat}{S:Scn}(b:Bs G d l k q S x)(y:Nat):Bs (G.set q (.lst [.int y])) d l k q S y/\Ot3 d l q G (G.set q (.lst [.int y])):=by
 have ne:∀{j:Nat},j≠q->(G.set q (M.lst [.int y]))[j]?=G[j]?:=λh=>z28 h.symm
 refine⟨⟨⟨?_,(ne b.n2.1.symm).trans b.s.s,(ne b.n2.2.1.symm).trans b.s.c,(ne b.n2.2.2.1.symm).trans b.s.r,(ne b.n2.2.2.2.symm).trans b.s.f,b.s.nd,b.s.nl,b.s.c0,b.s.c1⟩,j7 b.qa,b.n1,b.n2⟩,⟨Nat.le_of_eq z2c.symm,λj _ _ _ h=>ne h⟩⟩
 obtain⟨a,n,ms,D⟩:=b.s.D
 exact⟨a,n,ms,(ne b.n1.1.symm).trans D.dc,(ne b.n1.2.symm).trans D.lc,D.ne,D.a0,D.a1,D.n0,D.m0⟩
def eE{G:List M}{k:Nat}{m:M}(h:G[k]?=some m):k<G.length:=(z14.mp h).1
theorem Sc.app{G:List M}{d l k:Nat}{S:Scn}(s:Sc G d l k S)(A:List M):Sc (G++A) d l k S :=
 have ap:∀{k:Nat} {m:M},G[k]?=some m->(G++A)[k]?=some m:=λh=>by rw [z1a (eE h)];exact h
 ⟨s.D.app _,ap s.s,ap s.c,ap s.r,ap s.f,s.nd,s.nl,s.c0,s.c1⟩
theorem Bs.lt{G:List M}{d l k q x:Nat}{S:Scn}(b:Bs G d l k q S x):d<G.length/\l<G.length/\k<G.length/\q<G.length:=⟨b.s.D.lt.1,b.s.D.lt.2,eE b.s.s,eE b.qa⟩
theorem Bs.app{G:List M}{d l k q x:Nat}{S:Scn}(b:Bs G d l k q S x)(A:List M):Bs (G++A) d l k q S x/\Ot3 d l q G (G++A) :=
 ⟨⟨b.s.app A,by rw [z1a (eE b.qa)];exact b.qa,b.n1,b.n2⟩,⟨by rw [za];lia,λj h _ _ _=>z1a h⟩⟩
abbrev pF(d l k q:Nat)(S:Scn)(dd x:Nat)(G:List M)(fn:FF):Prop :=
 ∃(s:Sm) (G':List M) (x':Nat),fn [.im (.ref d),.im (.ref k),.im (.ref q),.im (.int dd)] G=some (.im s.i,G')/\s.ok S/\x'≤x/\s.n≤21+21*(x-x')/\s.deep≤4-dd/\Bs G' d l k q S x'/\Ot3 d l q G G'
abbrev zt(d l k q:Nat)(S:Scn)(dd x:Nat)(G:List M)(fn:FF):Prop :=
 ∃(b:List Sm) (G':List M) (x':Nat),fn [.im (.ref d),.im (.ref k),.im (.ref q),.im (.int dd)] G=some (.im (.tup (aq b)),G')/\aY S b/\x'≤x/\aR b≤21*(x-x')/\cy b≤4-dd/\b.length≤1000/\(b.length=0->x'=x)/\Bs G' d l k q S x'/\Ot3 d l q G G'
end
section
variable {d l k q:Nat}{S:Scn}
def hU(t:Tm)(b:List Sm):(Sm.wh t b).i=.tup [.str "while",t.i,.tup (aq b)]:=by rw [Sm.i]
def FT{n dd x:Nat}{G:List M}(hd:dd<3)(hx1:1≤x)(b:Bs G d l k q S x)(hb:∀{x:Nat} {G:List M},Bs G d l k q S x->zt d l k q S (dd+1) x G (eY n)):pF d l k q S dd x G (kF (n+1)):=by
 obtain⟨r1,G1,y,e1,ey,hy,s1,o1⟩:=b.s.cell
 have b1:=b.oth s1 o1
 obtain⟨b1',o1'⟩:=b1.set (x-1)
 have ex:((x-1:Nat):Int)=(x:Int)-1:=by lia
 obtain⟨bo,G2,x2,e2,k2,l2,n2,d2,bP,_,b2,o2⟩:=hb b1'
 obtain⟨r3,G3,e3,_,_,b3,o3⟩:=b2.draw (many:=4) (by decide) (by decide)
 have ed:((dd+1:Nat):Int)=(dd:Int)+1:=by lia
 rw [ed] at e2
 have s1':aI (ah ak (ah ak (aa 1) (ag (.str "cells"))) (bd (af (aa 0) (af (bd (af (ah ak (aa 1) (ag (.str "cells"))) ae) aQ) ae)) (ax 2 aU))) (aB 4) [↑(.ref d),↑(.ref k),↑(.ref q),↑(.int dd),none,none,none,none,none] G=some (.nx [↑(.ref d),↑(.ref k),↑(.ref q),↑(.int dd),↑(.str y),none,none,none,none] G1):=by
  simp! [b.s.s,b.s.c,s1.s,s1.c,pC,e1,ey]
 have s0':cO (aa 2) (ag (.int 0)) (ah cM (ah ak (aa 2) (ag (.int 0))) (ag (.int 1))) [↑(.ref d),↑(.ref k),↑(.ref q),↑(.int dd),↑(.str y),none,none,none,none] G1=some (.nx [↑(.ref d),↑(.ref k),↑(.ref q),↑(.int dd),↑(.str y),none,none,none,none] (G1.set q (.lst [.int (x-1:Nat)]))):=by
  rw [ex];simp! [b1.qa,dj,gD]
 have s2':aI (bd (af (aa 0) (af (aa 1) (af (aa 2) (af (ah bx (aa 3) (ag (.int 1))) ae)))) (ax 4 (eY n))) (aB 5) [↑(.ref d),↑(.ref k),↑(.ref q),↑(.int dd),↑(.str y),none,none,none,none] (G1.set q (.lst [.int (x-1:Nat)]))=some (.nx [↑(.ref d),↑(.ref k),↑(.ref q),↑(.int dd),↑(.str y),↑(.tup (aq bo)),none,none,none] G2):=by
  simp! [e2]
 by_cases h0:r3=0
 ·subst h0
  obtain⟨t,G4,e4,t1,t2,t3,b4,o4⟩:=b3.term 5 (by lia)
  refine⟨.wh t bo,G4,x2,?_,by rw [Sm.ok];exact⟨t1,⟨by lia,t3⟩,k2⟩,by lia,by rw [Sm.n];lia,by rw [Sm.deep];lia,b4,((((o1.o3 q).trans o1').trans o2).trans o3).trans o4⟩
  refine aL rfl (aj s1' (aj s0' (aj s2' (b7 (bT (Z1:=[↑(.ref d),↑(.ref k),↑(.ref q),↑(.int dd),↑(.str y),↑(.tup (aq bo)),none,none,none]) (G1:=G3) (by simp! [e3]) (cG (Z1:=[↑(.ref d),↑(.ref k),↑(.ref q),↑(.int dd),↑(.str y),↑(.tup (aq bo)),none,none,none]) ?_))))))
  have e4':eQ 12 [.im (.ref d),.im (.ref k),.im (.int 5)] G3=some (.im t.i,G4):=e4
  simp! [e4',Sm.i]
 ·have hb0:(r3 == 0)=false:=beq_eq_false_iff_ne.mpr h0
  obtain⟨r4,G4,e4,v0,v1,b4,o4⟩:=b3.draw (many:=9) (by decide) (by decide)
  obtain⟨r5,G5,e5,u0,u1,b5,o5⟩:=b4.draw (many:=2) (by decide) (by decide)
  have oo:=(((((o1.o3 q).trans o1').trans o2).trans o3).trans o4).trans o5
  have hl:(aq bo).length+1≤1000000:=by rw [dP];lia
  have tail:∀{z:Vl} {G':List M},aD (ah ak (bd (af (bd (af (ag (.str "while")) (af (bd (af (ag (.str "cell")) (af (aa 4) ae)) ay) (af (ah bx (aa 5) (bd (af (aa 6) ae) ay)) ae))) ay) (af (bd (af (ag (.str "while")) (af (aa 7) (af (ah bx (aa 5) (bd (af (aa 8) ae) ay)) ae))) ay) ae)) aP) (bd (af (aa 0) (af (ag (.int 2)) ae)) (ax 2 aU)))
    [↑(.ref d),↑(.ref k),↑(.ref q),↑(.int dd),↑(.str y),↑(.tup (aq bo)),↑(Sm.set y (.op "-" (.cell y) (.num 1))).i,↑(Tm.op "<" (.cell y) (.num (1+r4))).i,↑(Sm.set y (.op "+" (.cell y) (.num 1))).i] G4=some (.rt z G')->kF (n+1) [.im (.ref d),.im (.ref k),.im (.ref q),.im (.int dd)] G=some (z,G'):=by
   intro z G' hr
   refine aL rfl (aj s1' (aj s0' (aj s2' (aj (aN (Z1:=[↑(.ref d),↑(.ref k),↑(.ref q),↑(.int dd),↑(.str y),↑(.tup (aq bo)),none,none,none]) (G1:=G3) (by simp! [e3,hb0]) rfl) ?_))))
   refine aj (bD (x:=.im (Sm.set y (.op "-" (.cell y) (.num 1))).i) (Z1:=[↑(.ref d),↑(.ref k),↑(.ref q),↑(.int dd),↑(.str y),↑(.tup (aq bo)),none,none,none]) (G1:=G3) (by simp! [Sm.i,Tm.i]) rfl) ?_
   refine aj (bD (x:=.im (Tm.op "<" (.cell y) (.num (1+r4))).i) (Z1:=[↑(.ref d),↑(.ref k),↑(.ref q),↑(.int dd),↑(.str y),↑(.tup (aq bo)),↑(Sm.set y (.op "-" (.cell y) (.num 1))).i,none,none]) (G1:=G4) (by simp! [e4,Tm.i]) rfl) ?_
   refine aj (bD (x:=.im (Sm.set y (.op "+" (.cell y) (.num 1))).i) (Z1:=[↑(.ref d),↑(.ref k),↑(.ref q),↑(.int dd),↑(.str y),↑(.tup (aq bo)),↑(Sm.set y (.op "-" (.cell y) (.num 1))).i,↑(Tm.op "<" (.cell y) (.num (1+r4))).i,none]) (G1:=G4) (by simp! [Sm.i,Tm.i]) rfl) ?_
   exact hr
  have one:∀(sg:Str),Sg sg->(Sm.set y (.op sg (.cell y) (.num 1))).ok S:=λsg h=>by rw [Sm.ok];exact⟨hy,⟨h,hy,by decide,by decide⟩,show 3≤20/\2≤4 by decide⟩
  have oneN:∀(sg:Str),(Sm.set y (.op sg (.cell y) (.num 1))).n=4:=λsg=>by rw [Sm.n];rfl
  have oneD:∀(sg:Str),(Sm.set y (.op sg (.cell y) (.num 1))).deep=1:=λsg=>by rw [Sm.deep]<;>(intros;contradiction)
  have snI:∀(s:Sm),aq (bo++[s])=aq bo++[s.i]:=λs=>by rw [iT,aq,aq]
  have snN:∀(sg:Str),aR (bo++[Sm.set y (.op sg (.cell y) (.num 1))])=aR bo+4:=λsg=>by rw [eD,aR,aR,oneN]
  have snD:∀(sg:Str),cy (bo++[Sm.set y (.op sg (.cell y) (.num 1))])≤max (cy bo) 1:=λsg=>by rw [pD,cy,cy,oneD];lia
  have snK:∀(sg:Str),Sg sg->aY S (bo++[Sm.set y (.op sg (.cell y) (.num 1))]):=λsg h=>(pE _ _).mpr ⟨k2,by rw [aY,aY];exact⟨one sg h,trivial⟩⟩
  rcases (show r5=0∨r5=1 by lia) with z|z<;>subst z
  ·have:=snD "-"
   refine⟨.wh (.cell y) (bo++[Sm.set y (.op "-" (.cell y) (.num 1))]),G5,x2,tail (cG (Z1:=[↑(.ref d),↑(.ref k),↑(.ref q),↑(.int dd),↑(.str y),↑(.tup (aq bo)),↑(Sm.set y (.op "-" (.cell y) (.num 1))).i,↑(Tm.op "<" (.cell y) (.num (1+r4))).i,↑(Sm.set y (.op "+" (.cell y) (.num 1))).i]) ?_),by rw [Sm.ok];exact⟨hy,show 1≤20/\1≤4 by decide,snK "-" (.inr (.inl rfl))⟩,by lia,by rw [Sm.n,snN];show 1+2+_≤_;lia,by rw [Sm.deep];lia,b5,oo⟩
   rw [hU,snI]
   generalize (Sm.set y (.op "-" (.cell y) (.num 1))).i=z1
   generalize (Sm.set y (.op "+" (.cell y) (.num 1))).i=z2
   simp! [e5,jF,mW,oH,hl,dj,Tm.i]
  ·have:=snD "+"
   refine⟨.wh (.op "<" (.cell y) (.num (1+r4))) (bo++[Sm.set y (.op "+" (.cell y) (.num 1))]),G5,x2,tail (cG (Z1:=[↑(.ref d),↑(.ref k),↑(.ref q),↑(.int dd),↑(.str y),↑(.tup (aq bo)),↑(Sm.set y (.op "-" (.cell y) (.num 1))).i,↑(Tm.op "<" (.cell y) (.num (1+r4))).i,↑(Sm.set y (.op "+" (.cell y) (.num 1))).i]) ?_),by rw [Sm.ok];exact⟨⟨.inr (.inr (.inr (.inl rfl))),hy,by lia,by lia⟩,show 3≤20/\2≤4 by decide,snK "+" (.inl rfl)⟩,by lia,by rw [Sm.n,snN];show 3+2+_≤_;lia,by rw [Sm.deep];lia,b5,oo⟩
   rw [hU,snI]
   generalize (Sm.set y (.op "-" (.cell y) (.num 1))).i=z1
   generalize (Sm.set y (.op "+" (.cell y) (.num 1))).i=z2
   generalize (Tm.op "<" (.cell y) (.num (1+r4))).i=z3
   simp! [e5,jF,mW,oH,hl,eB]
end
section
variable {d l k q:Nat}{S:Scn}
def wA(x:Str)(t:Tm):(Sm.set x t).n=t.size+1:=by rw [Sm.n]
def mm(x:Str)(t:Tm):(Sm.set x t).deep=1:=by rw [Sm.deep]<;>(intros;contradiction)
def mn(x:Str)(a b:Tm):(Sm.put x a b).deep=1:=by rw [Sm.deep]<;>(intros;contradiction)
def zu(x:Str):(Sm.call x).deep=1:=by rw [Sm.deep]<;>(intros;contradiction)
def FU{n dd x:Nat}{G:List M}(hdd:dd≤3)(hx1:1≤x)(b:Bs G d l k q S x)(hb:dd<3->∀{x:Nat} {G:List M},Bs G d l k q S x->zt d l k q S (dd+1) x G (eY n))(hr:dd<3->∀{x:Nat} {G:List M},1≤x->Bs G d l k q S x->pF d l k q S dd x G (kF n)):pF d l k q S dd x G (iu (n+1)):=by
 obtain⟨fm,G1,e1,p0,p1,b1,o1⟩:=b.draw (many:=10) (by decide) (by decide)
 obtain⟨Z,hδ⟩:∃Z:De,Z=[↑(.ref d),↑(.ref k),↑(.ref q),↑(.int dd),↑(.int fm),none,none,none]:=⟨_,rfl⟩
 have st:aI (bd (af (aa 0) (af (ag (.int 10)) ae)) (ax 2 aU)) (aB 4) [↑(.ref d),↑(.ref k),↑(.ref q),↑(.int dd),none,none,none,none] G=some (.nx Z G1):=by
  subst hδ;simp! [e1]
 have ed:((dd+1:Nat):Int)=(dd:Int)+1:=by lia
 have hi:((dd:Int)<3)=(dd<3):=propext ⟨λz=>by lia,λz=>by lia⟩
 have c1:eG (ao (ah bQ (aa 4) (ag (.int 0)))) (ao (ah eI (aa 3) (ag (.int 3)))) Z G1=some (decide (fm=0/\dd<3),Z,G1):=by
  subst hδ
  by_cases h:fm=0
  ·simp! [h,hi]
  ·have hb:(fm == 0)=false:=beq_eq_false_iff_ne.mpr h
   simp! [hb,h]
 have c2:eG (ao (ah eI (aa 4) (ag (.int 3)))) (ao (ah eI (aa 3) (ag (.int 3)))) Z G1=some (decide (fm<3/\dd<3),Z,G1):=by
  subst hδ
  by_cases h:fm<3
  ·simp! [h,hi]
  ·simp! [h]
 have c3:eG (ao (ah eI (aa 4) (ag (.int 6)))) (ao (ah gU (bd (af (ah ak (aa 1) (ag (.str "defs"))) ae) aQ) (ag (.int 0)))) Z G1=some (decide (fm<6/\0<S.ds.length),Z,G1):=by
  subst hδ
  by_cases h:fm<6
  ·simp! [h,b1.s.s,b1.s.f,wu]
  ·simp! [h]
 have c4:eG (ao (ah bQ (aa 4) (ag (.int 6)))) (ao (ah gU (bd (af (ah ak (aa 1) (ag (.str "rows"))) ae) aQ) (ag (.int 0)))) Z G1=some (decide (fm=6/\0<S.rs.length),Z,G1):=by
  subst hδ
  by_cases h:fm=6
  ·simp! [h,b1.s.s,b1.s.r,j8]
  ·have hb:(fm == 6)=false:=beq_eq_false_iff_ne.mpr h
   simp! [hb,h]
 by_cases h1:fm=0/\dd<3
 ·rw [decide_eq_true h1] at c1
  obtain⟨bo,G2,x2,e2,k2,l2,n2,d2,bP,_,b2,o2⟩:=hb h1.2 b1
  obtain⟨t,G3,e3,t1,t2,t3,b3,o3⟩:=b2.term 5 (by lia)
  obtain⟨bc,G4,x4,e4,k4,l4,n4,d4,len4,_,b4,o4⟩:=hb h1.2 b3
  rw [ed] at e2 e4
  have e3':eQ 12 [.im (.ref d),.im (.ref k),.im (.int 5)] G2=some (.im t.i,G3):=e3
  refine⟨.ite t bo bc,G4,x4,?_,by rw [Sm.ok];exact⟨t1,⟨by lia,t3⟩,k2,k4⟩,by lia,by rw [Sm.n];lia,by rw [Sm.deep];lia,b4,((o1.trans o2).trans o3).trans o4⟩
  refine aL rfl (aj st (b7 (bT c1 (aj (bD (x:=.im (.tup (aq bo))) (Z1:=Z) (G1:=G2) (by subst hδ;simp! [e2]) rfl) ?_))))
  subst hδ
  simp! [e3',e4,Sm.i]
 rw [decide_eq_false h1] at c1
 by_cases h2:fm<3/\dd<3
 ·rw [decide_eq_true h2] at c2
  obtain⟨s,G2,x2,e2,k2,l2,n2,d2,b2,o2⟩:=hr h2.2 hx1 b1
  refine⟨s,G2,x2,?_,k2,l2,n2,d2,b2,o1.trans o2⟩
  refine aL rfl (aj st (aj (aN c1 rfl) (b7 (bT c2 ?_))))
  subst hδ
  simp! [e2]
 rw [decide_eq_false h2] at c2
 by_cases h3:fm<6/\0<S.ds.length
 ·rw [decide_eq_true h3] at c3
  obtain⟨r,G2,y,e2,ey,hy,s2,o2⟩:=b1.s.dfn h3.2
  refine⟨.call y,G2,x,?_,by rw [Sm.ok];exact hy,zf _,by rw [Sm.n];lia,by rw [zu];lia,b1.oth s2 o2,o1.trans (o2.o3 q)⟩
  refine aL rfl (aj st (aj (aN c1 rfl) (aj (aN c2 rfl) (b7 (bT c3 ?_)))))
  subst hδ
  simp! [b1.s.s,b1.s.f,s2.s,s2.f,wu,e2,ey,Sm.i]
 rw [decide_eq_false h3] at c3
 by_cases h4:fm=6/\0<S.rs.length
 ·rw [decide_eq_true h4] at c4
  obtain⟨r,G2,y,e2,ey,hy,s2,o2⟩:=b1.s.row h4.2
  obtain⟨ta,G3,e3,a1,a2,a3,b3,o3⟩:=(b1.oth s2 o2).term 3 (by lia)
  obtain⟨tb,G4,e4,t1,t2,t3,b4,o4⟩:=b3.term 7 (by lia)
  have e3':eQ 12 [.im (.ref d),.im (.ref k),.im (.int 3)] G2=some (.im ta.i,G3):=e3
  have e4':eQ 12 [.im (.ref d),.im (.ref k),.im (.int 7)] G3=some (.im tb.i,G4):=e4
  refine⟨.put y ta tb,G4,x,?_,by rw [Sm.ok];exact⟨hy,a1,t1,⟨by lia,a3⟩,⟨by lia,t3⟩⟩,zf _,by rw [Sm.n];lia,by rw [mn];lia,b4,((o1.trans (o2.o3 q)).trans o3).trans o4⟩
  refine aL rfl (aj st (aj (aN c1 rfl) (aj (aN c2 rfl) (aj (aN c3 rfl) (b7 (bT c4 (aj (bD (x:=.im (.str y)) (Z1:=Z) (G1:=G2) ?_ rfl) ?_)))))))
  ·subst hδ
   simp! [b1.s.s,b1.s.r,s2.s,s2.r,j8,e2,ey]
  ·subst hδ
   simp! [e3',e4',Sm.i]
 rw [decide_eq_false h4] at c4
 obtain⟨r,G2,y,e2,ey,hy,s2,o2⟩:=b1.s.cell
 have b2:=b1.oth s2 o2
 have sx:aI (ah ak (ah ak (aa 1) (ag (.str "cells"))) (bd (af (aa 0) (af (bd (af (ah ak (aa 1) (ag (.str "cells"))) ae) aQ) ae)) (ax 2 aU))) (aB 7) Z G1=some (.nx [↑(.ref d),↑(.ref k),↑(.ref q),↑(.int dd),↑(.int fm),none,none,↑(.str y)] G2):=by
  subst hδ
  simp! [b1.s.s,b1.s.c,s2.s,s2.c,pC,e2,ey]
 obtain⟨v,G4,e4,v0,v1,b4,o4⟩:=b2.draw (many:=3) (by decide) (by decide)
 obtain⟨rm,em,hm⟩:∃rm:Nat,dh [I.int 3,I.int 9,I.int 20] v=some (.int rm)/\rm≤20:=by
  rcases (show v=0∨v=1∨v=2 by lia) with z|z|z<;>subst z
  ·exact⟨3,dj _ _,by decide⟩
  ·exact⟨9,eB _ _ _,by decide⟩
  ·exact⟨20,mi _ _ _ _,by decide⟩
 obtain⟨t,G5,e5,t1,t2,t3,b5,o5⟩:=b4.term rm (by lia)
 refine⟨.set y t,G5,x,?_,by rw [Sm.ok];exact⟨hy,t1,by lia,t3⟩,zf _,by rw [wA];lia,by rw [mm];lia,b5,((o1.trans (o2.o3 q)).trans o4).trans o5⟩
 refine aL rfl (aj st (aj (aN c1 rfl) (aj (aN c2 rfl) (aj (aN c3 rfl) (aj (aN c4 rfl) (aj sx ?_))))))
 simp! [e4,em,e5,Sm.i]
end
section
variable {d l k q:Nat}{S:Scn}
abbrev y95(n:Nat):SF:=aF (ao (ah gU (ah ak (aa 2) (ag (.int 0))) (ag (.int 1))))
 (ai (cO (aa 2) (ag (.int 0)) (ah cM (ah ak (aa 2) (ag (.int 0))) (ag (.int 1))))
 (cL (gn ip (aa 4) (af (bd (af (aa 0) (af (aa 1) (af (aa 2) (af (aa 3) ae)))) (ax 4 (iu n))) ae))))
 aO
def y97{n dd x:Nat}{G:List M}{bs:List Sm}{v:Option Vl}(b:Bs G d l k q S x)(hl:bs.length≤2000)(hs:∀{x:Nat} {G:List M},1≤x->Bs G d l k q S x->pF d l k q S dd x G (iu n)) :
  ∃bs' G' x',y95 n [↑(.ref d),↑(.ref k),↑(.ref q),↑(.int dd),↥(aq bs),v] G=some (.nx [↑(.ref d),↑(.ref k),↑(.ref q),↑(.int dd),↥(aq (bs++bs')),v] G')/\aY S bs'/\x'≤x/\aR bs'≤21*(x-x')/\cy bs'≤4-dd/\bs'.length≤1/\(bs'.length=0->x'=x)/\Bs G' d l k q S x'/\Ot3 d l q G G':=by
 by_cases h:1<x
 ·obtain⟨b1,o1⟩:=b.set (x-1)
  have ex:((x-1:Nat):Int)=(x:Int)-1:=by lia
  obtain⟨s,G2,x2,e2,k2,l2,n2,d2,b2,o2⟩:=hs (by lia) b1
  refine⟨[s],G2,x2,?_,by rw [aY,aY];exact⟨k2,trivial⟩,by lia,by rw [aR,aR];lia,by rw [cy,cy];lia,zf _,λh=>by simp at h,b2,o1.trans o2⟩
  have hx:(1:Int)<x:=by lia
  have hn:(aq bs).length<1000000:=by rw [dP];lia
  refine bT (Z1:=[↑(.ref d),↑(.ref k),↑(.ref q),↑(.int dd),↥(aq bs),v]) (G1:=G) (by simp! [b.qa,dj,hx]) ?_
  refine aj (Z1:=[↑(.ref d),↑(.ref k),↑(.ref q),↑(.int dd),↥(aq bs),v]) (G1:=G.set q (.lst [.int (x-1:Nat)])) (by rw [ex];simp! [b.qa,dj,gD]) ?_
  rw [iT,aq,aq]
  simp! [e2,hn]
 ·refine⟨[],G,x,?_,by rw [aY];trivial,zf _,by rw [aR];lia,by rw [cy];lia,Nat.zero_le _,λ_=>rfl,b,Ot3.refl _ _ _ _⟩
  have hx:¬ (1:Int)<x:=by lia
  rw [z11]
  refine aN (Z1:=[↑(.ref d),↑(.ref k),↑(.ref q),↑(.int dd),↥(aq bs),v]) (G1:=G) (by simp! [b.qa,dj,hx]) rfl
def y96{n dd x:Nat}{G:List M}(hd:dd≤3)(b:Bs G d l k q S x)(hs:∀{x:Nat} {G:List M},1≤x->Bs G d l k q S x->pF d l k q S dd x G (iu n)):zt d l k q S dd x G (eY (n+1)):=by
 obtain⟨A,hA⟩:∃A:List M,A=[M.lst [.int 5,.int 13],M.lst [.int 4,.int 8],M.lst [.int 3,.int 6],M.lst [.int 3,.int 3]]:=⟨_,rfl⟩
 obtain⟨b0,oA⟩:=b.app A
 obtain⟨r0,G0,e0,u0,u1,b0',o0⟩:=b0.draw (many:=2) (by decide) (by decide)
 obtain⟨mo,em,m0,m1⟩:∃mo:Int,ah ak (ah ak (bd (af (aZ (bd (af (ag (.int 5)) (af (ag (.int 13)) ae)) aP)) (af (aZ (bd (af (ag (.int 4)) (af (ag (.int 8)) ae)) aP)) (af (aZ (bd (af (ag (.int 3)) (af (ag (.int 6)) ae)) aP)) (af (aZ (bd (af (ag (.int 3)) (af (ag (.int 3)) ae)) aP)) ae)))) aP) (aa 3)) (bd (af (aa 0) (af (ag (.int 2)) ae)) (ax 2 aU)) [↑(.ref d),↑(.ref k),↑(.ref q),↑(.int dd),↥(aq []),none] G=some (⇑(.int mo),[↑(.ref d),↑(.ref k),↑(.ref q),↑(.int dd),↥(aq []),none],G0)/\0<mo/\mo≤1000:=by
  have at_:∀(j:Nat) (m:M),A[j]?=some m->G0[G.length+j]?=some m:=λj m h=>by
   have hj:=(z14.mp h).1
   have:=b.lt
   rw [o0.at_ _ (by rw [za];lia) (by lia) (by lia) (by lia),z18 (by lia),Nat.add_sub_cancel_left];exact h
  have ev:ah ak (bd (af (aZ (bd (af (ag (.int 5)) (af (ag (.int 13)) ae)) aP)) (af (aZ (bd (af (ag (.int 4)) (af (ag (.int 8)) ae)) aP)) (af (aZ (bd (af (ag (.int 3)) (af (ag (.int 6)) ae)) aP)) (af (aZ (bd (af (ag (.int 3)) (af (ag (.int 3)) ae)) aP)) ae)))) aP) (aa 3) [↑(.ref d),↑(.ref k),↑(.ref q),↑(.int dd),↥(aq []),none] G=some (⇑(.ref (G.length+dd)),[↑(.ref d),↑(.ref k),↑(.ref q),↑(.int dd),↥(aq []),none],G++A):=by
   rw [hA]
   rcases (show dd=0∨dd=1∨dd=2∨dd=3 by lia) with z|z|z|z<;>subst z<;>simp! [dj,eB,mi,wq]
  obtain⟨a,c,hac,ha,hc⟩:∃a c:Int,A[dd]?=some (M.lst [.int a,.int c])/\(0<a/\a≤1000)/\(0<c/\c≤1000):=by
   rw [hA]
   rcases (show dd=0∨dd=1∨dd=2∨dd=3 by lia) with z|z|z|z<;>subst z<;>exact⟨_,_,rfl,by decide,by decide⟩
  have g1:=at_ dd _ hac
  rcases (show r0=0∨r0=1 by lia) with z|z<;>subst z
  ·exact⟨a,aH ev (av (a:=[⇑(.ref d),⇑(.int 2)]) rfl (cC (xs:=[.im (.ref d),.im (.int 2)]) rfl rfl e0)) (by simp! [g1,dj]),ha⟩
  ·exact⟨c,aH ev (av (a:=[⇑(.ref d),⇑(.int 2)]) rfl (cC (xs:=[.im (.ref d),.im (.int 2)]) rfl rfl e0)) (by simp! [g1,eB]),hc⟩
 obtain⟨r,G1,e1,p0,p1,b1,o1'⟩:=b0'.draw (many:=mo) m0 (Int.lt_of_le_of_lt m1 (by decide))
 have o1:=(oA.trans o0).trans o1'
 obtain⟨N,hN⟩:=Int.eq_ofNat_of_zero_le p0
 obtain⟨Z',G',ef,bs,v,x',ed,kk,ll,nn,dp,len,em0,bb,oo⟩:=hR (w:=jc N) (g:=aB 5) (b:=y95 n) (λi Z G'=>∃(bs:List Sm) (v:Option Vl) (x':Nat),Z=[↑(.ref d),↑(.ref k),↑(.ref q),↑(.int dd),↥(aq bs),v]/\aY S bs/\x'≤x/\aR bs≤21*(x-x')/\cy bs≤4-dd/\bs.length≤i/\(bs.length=0->x'=x)/\Bs G' d l k q S x'/\Ot3 d l q G1 G')
  (λi Z g hi p=>by
   obtain⟨bs,v,x',rfl,kk,ll,nn,dp,len,em0,bb,oo⟩:=p
   have hi':i<N:=hi
   obtain⟨bs',g',x2,e2,k2,l2,n2,d2,bP,em2,b2,o2⟩:=y97 (n:=n) (dd:=dd) (bs:=bs) (v:=↑(.int i)) bb (by lia) hs
   refine⟨.int i,_,g,_,g',rfl,rfl,e2,bs++bs',_,x2,rfl,(pE _ _).mpr ⟨kk,k2⟩,by lia,by rw [eD];lia,by rw [pD];lia,by rw [za];lia,λh=>by rw [za] at h;have:=em0 (by lia);have:=em2 (by lia);lia,b2,oo.trans o2⟩)
  (λZ g p=>rfl) N 0 [↑(.ref d),↑(.ref k),↑(.ref q),↑(.int dd),↥(aq []),none] G1 (by rw [j6];lia) ⟨[],none,x,rfl,by rw [aY];trivial,zf _,by rw [aR];lia,by rw [cy];lia,Nat.zero_le _,λ_=>rfl,b1,Ot3.refl _ _ _ _⟩
 subst ed
 have len':bs.length≤N:=len
 refine⟨bs,G',x',?_,kk,ll,nn,dp,by lia,em0,bb,o1.trans oo⟩
 refine aL rfl (aj (bD (x:=.ow (.lst (aq []))) (Z1:=[↑(.ref d),↑(.ref k),↑(.ref q),↑(.int dd),none,none]) (G1:=G) (by rw [aq];simp! []) rfl) (aj (b8 (hJ (n:=N) (j:=r) (Z1:=[↑(.ref d),↑(.ref k),↑(.ref q),↑(.int dd),↥(aq []),none]) (G1:=G1) ?_ hN (by lia)) ef) ?_))
 ·exact av (a:=⇑(.int r)) (av (a:=[⇑(.ref d),⇑(.int mo)]) (av rfl (av (av em rfl) rfl)) (cC (xs:=[.im (.ref d),.im (.int mo)]) rfl rfl e1)) rfl
 ·simp! [cA]
theorem zv:∀n:Nat,(∀(dd:Nat) {x:Nat} {G:List M},dd<3->3*(3-dd)≤n->1≤x->Bs G d l k q S x->pF d l k q S dd x G (kF n)) /\
  (∀(dd:Nat) {x:Nat} {G:List M},dd≤3->1+3*(3-dd)≤n->1≤x->Bs G d l k q S x->pF d l k q S dd x G (iu n)) /\
  (∀(dd:Nat) {x:Nat} {G:List M},dd≤3->2+3*(3-dd)≤n->Bs G d l k q S x->zt d l k q S dd x G (eY n))
 | 0=>⟨λdd _ _ h1 h2 _ _=>by lia,λdd _ _ h1 h2 _ _=>by lia,λdd _ _ h1 h2 _=>by lia⟩
 | n+1=>by
  obtain⟨i1,i2,i3⟩:=zv n
  exact⟨λdd _ _ h1 h2 hx b=>FT h1 hx b (λb'=>i3 (dd+1) (by lia) (by lia) b'),λdd _ _ h1 h2 hx b=>FU h1 hx b (λh {x} {G} b'=>i3 (dd+1) (by lia) (by lia) b') (λh {x} {G} hx b'=>i1 dd h (by lia) hx b'),λdd _ _ h1 h2 b=>y96 h1 b (λhx b'=>i2 dd h1 (by lia) hx b')⟩
end
section
variable {d l:Nat}
def pG{m:Nat}{zs:List Str}(h:∀z∈zs,z.length≤m):(Txt.join "" zs).length≤zs.length*m:=by
 unfold Txt.join
 rw [StrLaws.glued_eq_join]
 have h1:=StrLaws.join_length_le "" zs
 have h2:(zs.map (·.length)).sum≤zs.length*m:=by
  clear h1
  induction zs with
  | nil=>simp
  | cons z zs ih =>
   rw [z16,List.sum_cons,z10,Nat.add_mul]
   have:=h z List.mem_cons_self
   have:=ih λy hy=>h y (z23 _ hy)
   lia
 have h3:("" : Str).length=0:=by decide +kernel
 rw [h3,Nat.mul_zero] at h1
 lia
def FV{m:Nat}{zs:List Str}(h:∀z∈zs,z.length≤m):(zs.map (·.length)).sum≤zs.length*m:=by
 induction zs with
 | nil=>simp
 | cons z zs ih =>
  rw [z16,List.sum_cons,z10,Nat.add_mul]
  have:=h z List.mem_cons_self
  have:=ih λy hy=>h y (z23 _ hy)
  lia
def FW{k:Nat}(h:k<26):("abcdefghijklmnopqrstuvwxyz" : Str).cps.toList[k]?=some (97+k):=by
 have e:("abcdefghijklmnopqrstuvwxyz" : Str).cps.toList=(List.range 26).map (97 + ·):=by decide +kernel
 rw [e,List.getElem?_map,List.getElem?_range h];rfl
def wC{r:Int}{Z:De}{G:List M}(h0:0≤r)(h1:r<26):ak [⇑(.str "abcdefghijklmnopqrstuvwxyz"),⇑(.int r)] Z G=some (⇑(.str ⟨#[97+r.toNat]⟩),Z,G):=by
 have hc:dh ("abcdefghijklmnopqrstuvwxyz" : Str).cps.toList r=some (97+r.toNat):=by
  obtain⟨j,rfl⟩:=Int.eq_ofNat_of_zero_le h0
  exact kY (FW (by lia))
 have hl:("abcdefghijklmnopqrstuvwxyz" : Str).length≤1000000:=by rw [show ("abcdefghijklmnopqrstuvwxyz" : Str).length=26 by decide +kernel];lia
 generalize ("abcdefghijklmnopqrstuvwxyz" : Str)=z at hc hl
 simp [ak,bX,dY,sq,pk,hc,hl]
def FX{r:Int}{Z:De}{G:List M}(h0:0≤r)(h1:r<26):∃s:Str,ak [⇑(.str "abcdefghijklmnopqrstuvwxyz"),⇑(.int r)] Z G=some (⇑(.str s),Z,G)/\s.length≤1:=⟨_,wC h0 h1,zf _⟩
def FY{x:Str}{j:Int}(h0:0≤j)(h1:j≤x.length):(Txt.slice x none (some j)).length=j.toNat:=by
 have e:=PyProof.Rows.slice_closes_to (x:=x) (j:=j) ⟨h0,by rw [Array.length_toList];exact h1⟩
 rw [eq_of_beq e]
 show (List.toArray _).size=_
 rw [zc,z2d,z2f,Array.length_toList]
 have:x.cps.size=x.length:=rfl
 have z:(0:Int).toNat=0:=rfl
 rw [z]
 lia
def FZ(x y:Str):(x++y).cps.toList=x.cps.toList++y.cps.toList:=by
 show (x.cps++y.cps).toList=_
 exact Array.toList_append
def y7e{x z:Str}{c:Nat}{n:Nat}(h:x.length=n):(x++(⟨#[c]⟩++z)).cps.toList[n]?=some c:=by
 rw [FZ,FZ,z18 (by rw [Array.length_toList];show x.length≤n;lia),Array.length_toList]
 have:n-x.cps.size=0:=by show n-x.length=0;lia
 rw [this]
 rfl
def y7d{x y:Str}{c n:Nat}(h:x.cps.toList[n]?=some c):(x++y).cps.toList[n]?=some c:=by
 rw [FZ,z1a (z14.mp h).1]
 exact h
abbrev eF(n:Nat)(t:Int)(ws:List Str):Prop:=∀(j:Nat) (u:Str),ws[j]?=some u->u.cps.toList[n]?=some (97+((t+7*(j:Int)) % 26).toNat)
def eF.nodup{n:Nat}{t:Int}{ws:List Str}(hl:ws.length≤26)(h:eF n t ws):ws.Nodup:=by
 rw [List.Nodup,List.pairwise_iff_getElem]
 intro i j hi hj hij e
 have h1:=h i _ (z1c hi)
 have h2:=h j _ (z1c hj)
 rw [e,h2] at h1
 have h3:=z1e h1
 have a1:=Int.emod_nonneg (t+7*(i:Int)) (by decide:(26:Int)≠0)
 have a2:=Int.emod_nonneg (t+7*(j:Int)) (by decide:(26:Int)≠0)
 lia
def F0{ws:List Str}{y:Str}{r:Nat}(h:ws.Nodup)(hy:y∉ws):(ws.set r y).Nodup:=by
 rw [List.Nodup,List.pairwise_iff_getElem] at h ⊢
 intro i j hi hj hij
 rw [z2c] at hi hj
 rw [List.getElem_set,List.getElem_set]
 by_cases h1:r=i
 ·rw [if_pos h1]
  by_cases h2:r=j
  ·lia
  ·rw [if_neg h2]
   intro e
   exact hy (e ▸ z32 hj)
 ·rw [if_neg h1]
  by_cases h2:r=j
  ·rw [if_pos h2]
   intro e
   exact hy (e ▸ z32 hi)
  ·rw [if_neg h2]
   exact h i j hi hj hij
def yd0{G:List M}{N:Nat}{Z:De}(D:DG G d l):∃(zs:List Str) (G':List M),dI (jc N) c1 bf (ah ak (aa 1) (bd (af (aa 2) (af (ag (.int 26)) ae)) (ax 2 aU))) [↑(.str "abcdefghijklmnopqrstuvwxyz"),↑(.ref d)] 0 N [] Z G=some (zs.map I.str,G')/\zs.length=N/\(∀z∈zs,z.length≤1)/\DG G' d l/\Oth d l G G':=by
 obtain⟨ds,G',e,zs,ed,lz,hz,D',o⟩:=p8 (w:=jc N) (c:=c1) (tt:=bf) (te:=ah ak (aa 1) (bd (af (aa 2) (af (ag (.int 26)) ae)) (ax 2 aU))) (di:=[↑(.str "abcdefghijklmnopqrstuvwxyz"),↑(.ref d)]) (Z:=Z)
  (λi acc G'=>∃zs:List Str,acc=zs.map I.str/\zs.length=i/\(∀z∈zs,z.length≤1)/\DG G' d l/\Oth d l G G')
  (λi acc g hi zz=>by
   obtain⟨zs,ea,lz,hz,D,o⟩:=zz
   obtain⟨r,g1,e1,p0,p1,D1,o1⟩:=bU (many:=26) D (by decide) (by decide)
   obtain⟨s,es,ls⟩:=FX (Z:=[↑(.int i),↑(.str "abcdefghijklmnopqrstuvwxyz"),↑(.ref d)]) (G:=g1) p0 p1
   refine⟨.int i,[.int i],_,_,.str s,[↑(.int i),↑(.str "abcdefghijklmnopqrstuvwxyz"),↑(.ref d)],g1,rfl,rfl,rfl,?_,zs++[s],by rw [ea,z25];rfl,by rw [za,lz];rfl,λz hm=>?_,D1,o.trans o1⟩
   ·exact aH rfl (av (a:=[⇑(.ref d),⇑(.int 26)]) rfl (cC (xs:=[.im (.ref d),.im (.int 26)]) rfl rfl e1)) es
   ·rcases z13.mp hm with q|q
    ·exact hz z q
    ·have:z=s:=by simpa using q
     subst this;exact ls)
  (λ_ _ _=>rfl) N 0 [] G (by rw [j6];lia) ⟨[],rfl,rfl,λ_ h=>(by cases h),D,Oth.refl _ _ _⟩
 exact⟨zs,G',by rw [ed] at e;exact e,lz,hz,D',o⟩
def wF:("" : Str).length=0:=by decide +kernel
def wG:("z" : Str).length=1:=by decide +kernel
def F1{G:List M}{core:Str}{a t:Int}{ys:List Str}{v1 v8 v9 v10 v11:Option Vl}{v0:Option Vl}{i:Nat}(hc:core.length≤100)(a0:0≤a)(a1:a≤core.length)(h0:0≤t)(hl:ys.length≤1000) :
  ∃(y:Str) (v8':Option Vl),yT [v0,v1,↑(.str "abcdefghijklmnopqrstuvwxyz"),↑(.str core),↑(.int a),↑(.int t),↥(ys.map I.str),↑(.int i),v8,v9,v10,v11] G=some (.nx [v0,v1,↑(.str "abcdefghijklmnopqrstuvwxyz"),↑(.str core),↑(.int a),↑(.int t),↥((ys++[y]).map I.str),↑(.int i),v8',v9,v10,v11] G)/\y.length≤202/\y.cps.toList[a.toNat]?=some (97+((t+7*(i:Int)) % 26).toNat):=by
 have r0:0≤(t+7*(i:Int)) % 26:=Int.emod_nonneg _ (by decide)
 have r1:(t+7*(i:Int)) % 26<26:=Int.emod_lt_of_pos _ (by decide)
 have es:=wC (Z:=[v0,v1,↑(.str "abcdefghijklmnopqrstuvwxyz"),↑(.str core),↑(.int a),↑(.int t),↥(ys.map I.str),↑(.int i),v8,v9,v10,v11]) (G:=G) r0 r1
 have mid:=y7e (z:=Txt.slice core (some a) none) (c:=97+((t+7*(i:Int)) % 26).toNat) (FY a0 a1)
 obtain⟨s,hs⟩:∃s:Str,s=⟨#[97+((t+7*(i:Int)) % 26).toNat]⟩:=⟨_,rfl⟩
 have ls:s.length≤1:=by rw [hs];exact zf _
 rw [<- hs] at es mid
 obtain⟨e,ee,le⟩:∃e:Str,dh [I.str "",I.str "z"] ((i:Int) % 5 / 4)=some (.str e)/\e.length≤1:=by
  rcases (show (i:Int) % 5 / 4=0∨(i:Int) % 5 / 4=1 by lia) with z|z<;>rw [z]
  ·exact⟨_,dj _ _,by rw [wF];lia⟩
  ·exact⟨_,eB _ _ _,by rw [wG];lia⟩
 have l1:=Txt.slice_le core none (some a)
 have l2:=Txt.slice_le core (some a) none
 have ap:∀x y:Str,(x++y).length=x.length+y.length:=λx y=>strLen_append x y
 have hc':core.length≤1000000:=by lia
 have c0:s.length+(Txt.slice core (some a) none).length≤1000000:=by lia
 refine⟨Txt.slice core none (some a)++(s++Txt.slice core (some a) none)++e,↑(.str (s++Txt.slice core (some a) none)),?_,by rw [ap,ap,ap];lia,y7d mid⟩
 refine aj (bD (x:=.im (.str (s++Txt.slice core (some a) none))) (Z1:=[v0,v1,↑(.str "abcdefghijklmnopqrstuvwxyz"),↑(.str core),↑(.int a),↑(.int t),↥(ys.map I.str),↑(.int i),v8,v9,v10,v11]) (G1:=G) (aH (aH rfl (r:=some (⇑(.str s),_,G)) (y:=⇑(.int ((t+7*(i:Int)) % 26))) (by simp! []) es) (y:=⇑(.str (Txt.slice core (some a) none))) (Z2:=[v0,v1,↑(.str "abcdefghijklmnopqrstuvwxyz"),↑(.str core),↑(.int a),↑(.int t),↥(ys.map I.str),↑(.int i),v8,v9,v10,v11]) (G2:=G) (by simp! [a8,aX,a6,l6,gY,hc']) (by simp [bx,bX,oI,bK,jF,c0])) rfl) ?_
 have c1:(Txt.slice core none (some a)).length+(s++Txt.slice core (some a) none).length≤1000000:=by rw [ap];lia
 have c3:(Txt.slice core none (some a)++(s++Txt.slice core (some a) none)).length+e.length≤1000000:=by rw [ap,ap];lia
 have hn:ys.length<1000000:=by lia
 generalize s++Txt.slice core (some a) none=ow at c1 c3
 simp! [a8,aX,a6,l6,gY,jF,hc',c1,c3,ee,hn]
end
section
variable {d l:Nat}
abbrev bO:List I:=[.str "cell",.str "row",.str "def",.str "main",.str "set",.str "put",.str "while",.str "if",.str "else",.str "call",.str "end",.str "at"]
abbrev da:List I:=[.str "cells",.str "de",.str "mains",.str "setx",.str "ends",.str "atx",.str "i",.str "calls"]
def F3:bO.all cT=true:=rfl
def wH:("q" : Str).length≤1000:=by decide +kernel
def F4:(Txt.mul "q" 0).length≤1:=by decide +kernel
def F5:(Txt.mul "q" 1).length≤1:=by decide +kernel
def wI{y:Str}{G:List M}(hy:y.length≤1000):∃z:Str,ah bx (aa 0) (ah c8 (ag (.str "q")) (bd (af (ah fR (aa 0) (aa 1)) ae) dO)) [↑(.str y),↑(.tup bO)] G=some (⇑(.str z),[↑(.str y),↑(.tup bO)],G)/\z.length≤y.length+1/\∃w,z=y++w:=by
 obtain⟨b,eb⟩:∃b,ah fR (aa 0) (aa 1) [↑(.str y),↑(.tup bO)] G=some (⇑(.bl b),[↑(.str y),↑(.tup bO)],G):=by
  refine⟨bO.any λz=>b6 z (.str y),aH rfl rfl ?_⟩
  have h:(cT (.str y)&&bO.all cT)=true:=by rw [F3];rfl
  simp [fR,bX,il,sq,h]
 have e1:bd (af (ah fR (aa 0) (aa 1)) ae) dO [↑(.str y),↑(.tup bO)] G=some (⇑(.int (if b then 1 else 0)),[↑(.str y),↑(.tup bO)],G):=av (av eb rfl) rfl
 have ap:∀x y:Str,(x++y).length=x.length+y.length:=λx y=>strLen_append x y
 obtain⟨j,hj,hl⟩:∃j:Int,(if b then (1:Int) else 0)=j/\(0≤j/\j≤1000)/\(Txt.mul "q" j).length≤1:=by
  cases b
  ·exact⟨0,rfl,⟨by decide,by decide⟩,F4⟩
  ·exact⟨1,rfl,⟨by decide,by decide⟩,F5⟩
 rw [hj] at e1
 have e2:ah c8 (ag (.str "q")) (bd (af (ah fR (aa 0) (aa 1)) ae) dO) [↑(.str y),↑(.tup bO)] G=some (⇑(.str (Txt.mul "q" j)),[↑(.str y),↑(.tup bO)],G):=by
  refine aH rfl e1 ?_
  have q:=wH
  generalize ("q" : Str)=qs at q ⊢
  simp [c8,bX,oJ,bK,lS,lU,pk,hl.1.1,hl.1.2,q]
 refine⟨y++Txt.mul "q" j,aH rfl e2 ?_,by rw [ap];lia,_,rfl⟩
 have hs:y.length+(Txt.mul "q" j).length≤1000000:=by lia
 generalize Txt.mul "q" j=zz at hs
 simp [bx,bX,oI,bK,jF,hs]
def F6{G:List M}{core:Str}{a t:Int}{v0 v1 v7 v8 v9 v10 v11:Option Vl}{N:Nat}(hc:core.length≤100)(a0:0≤a)(a1:a≤core.length)(h0:0≤t)(hN:N≤1000) :
  ∃(ys:List Str) (v7' v8':Option Vl),aW (jc N) (aB 7) yT 0 N [v0,v1,↑(.str "abcdefghijklmnopqrstuvwxyz"),↑(.str core),↑(.int a),↑(.int t),↥[],v7,v8,v9,v10,v11] G=some (.nx [v0,v1,↑(.str "abcdefghijklmnopqrstuvwxyz"),↑(.str core),↑(.int a),↑(.int t),↥(ys.map I.str),v7',v8',v9,v10,v11] G)/\ys.length=N/\(∀y∈ys,y.length≤202)/\eF a.toNat t ys:=by
 obtain⟨Z',G',e,ys,v7',v8',ed,ly,hy,ha,eg⟩:=hR (w:=jc N) (g:=aB 7) (b:=yT) (λi Z G'=>∃(ys:List Str) (v7 v8:Option Vl),Z=[v0,v1,↑(.str "abcdefghijklmnopqrstuvwxyz"),↑(.str core),↑(.int a),↑(.int t),↥(ys.map I.str),v7,v8,v9,v10,v11]/\ys.length=i/\(∀y∈ys,y.length≤202)/\eF a.toNat t ys/\G'=G)
  (λi Z g hi p=>by
   obtain⟨ys,v7,v8,rfl,ly,hy,ha,rfl⟩:=p
   have hi:i<N:=hi
   obtain⟨y,v8',e,h,hm⟩:=F1 (G:=g) (core:=core) (a:=a) (t:=t) (ys:=ys) (v0:=v0) (v1:=v1) (v8:=v8) (v9:=v9) (v10:=v10) (v11:=v11) (i:=i) hc a0 a1 h0 (by lia)
   refine⟨.int i,_,g,_,g,rfl,rfl,e,ys++[y],_,_,rfl,by rw [za,ly];rfl,λz hz=>?_,λj u hu=>?_,rfl⟩
   rcases z13.mp hz with q|q
   ·exact hy z q
   ·have:z=y:=by simpa using q
    subst this;exact h
   ·by_cases hj:j<ys.length
    ·rw [z1a hj] at hu;exact ha j u hu
    ·rw [z18 (by lia)] at hu
     have hz:j-ys.length=0:=by
      have:=(z14.mp hu).1
      rw [List.length_singleton] at this;lia
     rw [hz] at hu
     cases hu
     rw [show j=i by lia];exact hm)
  (λZ g p=>rfl) N 0 [v0,v1,↑(.str "abcdefghijklmnopqrstuvwxyz"),↑(.str core),↑(.int a),↑(.int t),↥[],v7,v8,v9,v10,v11] G (by rw [j6];lia) ⟨[],_,_,rfl,rfl,λ_ h=>(by cases h),λj u h=>(by simp at h),rfl⟩
 exact⟨ys,v7',v8',by rw [ed,eg] at e;exact e,ly,hy,ha⟩
def F7{G:List M}{ys:List Str}{Z:De}{k n:Nat}{t:Int}(ha:eF n t ys)(hk:G[k]?=some (.lst (ys.map I.str)))(hy:∀y∈ys,y.length≤202) :
  ∃zs:List Str,dI (a7 ⇑(.ref k) ys.length) c1 bf (ah bx (aa 0) (ah c8 (ag (.str "q")) (bd (af (ah fR (aa 0) (aa 1)) ae) dO))) [↑(.tup bO)] 0 ys.length [] Z G=some (zs.map I.str,G)/\zs.length=ys.length/\eF n t zs:=by
 obtain⟨ds,G',e,zs,ed,lz,az,eg⟩:=p8 (w:=a7 ⇑(.ref k) ys.length) (c:=c1) (tt:=bf) (te:=ah bx (aa 0) (ah c8 (ag (.str "q")) (bd (af (ah fR (aa 0) (aa 1)) ae) dO))) (di:=[↑(.tup bO)]) (Z:=Z)
  (λi acc G'=>∃zs:List Str,acc=zs.map I.str/\zs.length=i/\eF n t zs/\G'=G)
  (λi acc g hi zz=>by
   obtain⟨zs,ea,lz,az,eg⟩:=zz
   have hi:i<ys.length:=hi
   subst eg
   obtain⟨z,ez,_,w,hw⟩:=wI (G:=g) (y:=ys[i]) (by have:=hy ys[i] (z32 hi);lia)
   refine⟨.str ys[i],[.str ys[i]],_,_,.str z,_,g,?_,rfl,rfl,ez,zs++[z],by rw [ea,z25];rfl,by rw [za,lz];rfl,λj u hu=>?_,rfl⟩
   ·simp [a7,sq,pk,hk,hi]
   ·by_cases hj:j<zs.length
    ·rw [z1a hj] at hu;exact az j u hu
    ·rw [z18 (by lia)] at hu
     have hz:j-zs.length=0:=by
      have:=(z14.mp hu).1
      rw [List.length_singleton] at this;lia
     rw [hz] at hu
     cases hu
     rw [hw]
     refine y7d (ha j _ ?_)
     rw [show j=i by lia];exact z1c hi)
  (λ_ _ p=>by obtain⟨_,_,_,_,rfl⟩:=p;simp [a7,sq,pk,hk]) ys.length 0 [] G (by simp [a7]) ⟨[],rfl,rfl,λj u h=>(by simp at h),rfl⟩
 exact⟨zs,by rw [ed,eg] at e;exact e,lz,az⟩
end
section
variable {d l:Nat}
def wJ{p:List Ev->Mo Ev}{fo:Mo Ev}{fa:Mo (List Ev)}{Z Z1 Z2:De}{G G1 G2:List M}{e:Ev}{es:List Ev}{r:Option (Ev×De×List M)}(h:fo Z G=some (e,Z1,G1))(hs:El e=true)(ha:fa Z1 G1=some (es,Z2,G2))(k:p (e::es) Z2 G2=r):vq p fo fa Z G=r:=by
 unfold vq bd;rw [h];dsimp only;rw [if_pos hs,ha];exact k
def F8{n j:Nat}(h:j<n):gD n (j:Int)=some j:=by
 unfold gD
 rw [if_pos (by lia)]
 first|(rw [if_pos (by lia)];simp)|simp [h]
noncomputable abbrev eJ:Str:="abcdefghijklmnopqrstuvwxyz"
def pH(zs:List Str):(zs.map I.str).all cT=true:=by
 induction zs with
 | nil=>rfl
 | cons z zs ih=>rw [z16,List.all_cons,ih];rfl
def wK{ws:List Str}{nm:Str}(h:true=!((ws.map I.str).any λy=>b6 y (.str nm))):nm∉ws:=λhm=>by
 have:((ws.map I.str).any λy=>b6 y (.str nm))=true:=by
  rw [List.any_eq_true]
  exact⟨.str nm,z39.mpr ⟨nm,hm,rfl⟩,by simp [b6]⟩
 rw [this] at h
 cases h
def F9{G:List M}(D:DG G d l):∃(ys:List Str) (G':List M),vV [.im (.ref d),.im (.int 24)] G=some (.ow (.lst (ys.map I.str)),G')/\ys.length=24/\ys.Nodup/\DG G' d l/\Mor d l G G':=by
 obtain⟨r1,G1,e1,p0,p1,D1,o1⟩:=bU (many:=5) D (by decide) (by decide)
 obtain⟨N,hN⟩:=Int.eq_ofNat_of_zero_le p0
 obtain⟨zs,G2,e2,lz,hz,D2,o2⟩:=yd0 (N:=N) (Z:=[↑(.ref d),↑(.int 24),↑(.str eJ),none,none,none,none,none,none,none,none,none]) D1
 have jl:=pG hz
 have sl:=FV hz
 obtain⟨core,y18b⟩:∃core,core=Txt.join "" zs:=⟨_,rfl⟩
 rw [<- y18b] at jl
 have hc:core.length≤100:=by lia
 obtain⟨r3,G3,e3,b0,b1,D3,o3⟩:=bU (many:=(core.length:Int)+1) D2 (by lia) (by lia)
 obtain⟨r4,G4,e4,q0,q1,D4,o4⟩:=bU (many:=26) D3 (by decide) (by decide)
 obtain⟨ys,v7,v8,e5,ly,hy,ap⟩:=F6 (G:=G4) (core:=core) (a:=r3) (t:=r4) (v0:=↑(.ref d)) (v1:=↑(.int 24)) (v7:=none) (v8:=none) (v9:=none) (v10:=none) (v11:=none) (N:=24) hc b0 (by lia) q0 (by decide)
 have hk:(G4++[M.lst (ys.map I.str)])[G4.length]?=some (.lst (ys.map I.str)):=by simp
 have D5:=D4.app [M.lst (ys.map I.str)]
 obtain⟨ws,e6,lw,aw⟩:=F7 (Z:=[↑(.ref d),↑(.int 24),↑(.str eJ),↑(.str core),↑(.int r3),↑(.int r4),↑(.ref G4.length),v7,v8,↥da,↑(.tup bO),none]) ap hk hy
 have wnd:=aw.nodup (by lia)
 obtain⟨r7,G7,e7,u0,u1,D7,o7⟩:=bU (many:=8) D5 (by decide) (by decide)
 obtain⟨nm,en⟩:∃nm:Str,dh da r7=some (.str nm):=by
  have:da=[("cells" : Str),"de","mains","setx","ends","atx","i","calls"].map I.str:=rfl
  rw [this]
  obtain⟨x,hx,_⟩:=j9 (xs:=[("cells" : Str),"de","mains","setx","ends","atx","i","calls"]) u0 u1
  exact⟨x,hx⟩
 obtain⟨r8,G8,e8,_,_,D8,o8⟩:=bU (many:=3) D7 (by decide) (by decide)
 have mo:Mor d l G G8:=((((((o1.trans o2).trans o3).trans o4).mor).trans (Mor.app _)).trans (o7.trans o8).mor)
 have head:∀{z:Vl} {G':List M},ai (aF (eG (ao (ah bQ (bd (af (aa 0) (af (ag (.int 3)) ae)) (ax 2 aU)) (ag (.int 1)))) (ao (ah dy (aa 11) (aa 6))))
   (cO (aa 6) (bd (af (aa 0) (af (aa 1) ae)) (ax 2 aU)) (aa 11)) aO) (aD (aa 6))
   [↑(.ref d),↑(.int 24),↑(.str eJ),↑(.str core),↑(.int r3),↑(.int r4),↥(ws.map I.str),v7,v8,↥da,↑(.tup bO),↑(.str nm)] G7=some (.rt z G')->vV [.im (.ref d),.im (.int 24)] G=some (z,G'):=by
  intro z G' hq
  refine aL rfl ?_
  refine aj (bD (x:=.im (.str eJ)) (Z1:=[↑(.ref d),↑(.int 24),none,none,none,none,none,none,none,none,none,none]) (G1:=G) rfl rfl) ?_
  refine aj (bD (x:=.im (.str core)) (Z1:=[↑(.ref d),↑(.int 24),↑(.str eJ),none,none,none,none,none,none,none,none,none]) (G1:=G2) ?_ rfl) ?_
  ·refine wJ (e:=⇑(.str "")) (Z1:=[↑(.ref d),↑(.int 24),↑(.str eJ),none,none,none,none,none,none,none,none,none]) (G1:=G) rfl rfl (av (kH (by rfl) (hJ (n:=N) (j:=r1) (Z1:=[↑(.ref d),↑(.int 24),↑(.str eJ),none,none,none,none,none,none,none,none,none]) (G1:=G1) (by simp! [e1]) hN (by lia)) (by rw [j6];lia) e2) rfl) ?_
   have h1:(zs.map (·.length)).sum+zs.length*("" : Str).length≤1000000:=by rw [wF];lia
   rw [y18b]
   simp [jO,pk,vn,h1]
  refine aj (bD (x:=.im (.int r3)) (Z1:=[↑(.ref d),↑(.int 24),↑(.str eJ),↑(.str core),none,none,none,none,none,none,none,none]) (G1:=G3) ?_ rfl) ?_
  ·have h1:core.length≤1000000:=by lia
   simp! [h1,e3]
  refine aj (bD (x:=.im (.int r4)) (Z1:=[↑(.ref d),↑(.int 24),↑(.str eJ),↑(.str core),↑(.int r3),none,none,none,none,none,none,none]) (G1:=G4) (by simp! [e4]) rfl) ?_
  refine aj (bD (x:=.ow (.lst [])) (Z1:=[↑(.ref d),↑(.int 24),↑(.str eJ),↑(.str core),↑(.int r3),↑(.int r4),none,none,none,none,none,none]) (G1:=G4) (by simp! []) rfl) ?_
  refine aj (b8 (hJ (n:=24) (j:=24) (Z1:=[↑(.ref d),↑(.int 24),↑(.str eJ),↑(.str core),↑(.int r3),↑(.int r4),↥[],none,none,none,none,none]) (G1:=G4) rfl rfl (by decide)) e5) ?_
  refine aj (bD (x:=.ow (.lst da)) (Z1:=[↑(.ref d),↑(.int 24),↑(.str eJ),↑(.str core),↑(.int r3),↑(.int r4),↥(ys.map I.str),v7,v8,none,none,none]) (G1:=G4) rfl rfl) ?_
  refine aj (bD (x:=.im (.tup bO)) (Z1:=[↑(.ref d),↑(.int 24),↑(.str eJ),↑(.str core),↑(.int r3),↑(.int r4),↥(ys.map I.str),v7,v8,↥da,none,none]) (G1:=G4) rfl rfl) ?_
  refine aj (bD (x:=.ow (.lst (ws.map I.str))) (Z1:=[↑(.ref d),↑(.int 24),↑(.str eJ),↑(.str core),↑(.int r3),↑(.int r4),↑(.ref G4.length),v7,v8,↥da,↑(.tup bO),none]) (G1:=G4++[M.lst (ys.map I.str)]) ?_ rfl) ?_
  ·exact kH (by rfl) (eA (e:=⇑(.ref G4.length)) (n:=ys.length) (Z1:=[↑(.ref d),↑(.int 24),↑(.str eJ),↑(.str core),↑(.int r3),↑(.int r4),↑(.ref G4.length),v7,v8,↥da,↑(.tup bO),none]) (G1:=G4++[M.lst (ys.map I.str)]) (xs:=ys.map I.str) (by simp! []) rfl (by simp [sq,pk]) (by simp)) (by show ys.length≤100000;lia) e6
  refine aj (bD (x:=.im (.str nm)) (Z1:=[↑(.ref d),↑(.int 24),↑(.str eJ),↑(.str core),↑(.int r3),↑(.int r4),↥(ws.map I.str),v7,v8,↥da,↑(.tup bO),none]) (G1:=G7) ?_ rfl) hq
  simp! [e7,en]
 by_cases h8:r8=1
 ·subst h8
  obtain⟨b,hb⟩:∃b,b=!((ws.map I.str).any λy=>b6 y (.str nm)):=⟨_,rfl⟩
  have et:eG (ao (ah bQ (bd (af (aa 0) (af (ag (.int 3)) ae)) (ax 2 aU)) (ag (.int 1)))) (ao (ah dy (aa 11) (aa 6))) [↑(.ref d),↑(.int 24),↑(.str eJ),↑(.str core),↑(.int r3),↑(.int r4),↥(ws.map I.str),v7,v8,↥da,↑(.tup bO),↑(.str nm)] G7=some (b,[↑(.ref d),↑(.int 24),↑(.str eJ),↑(.str core),↑(.int r3),↑(.int r4),↥(ws.map I.str),v7,v8,↥da,↑(.tup bO),↑(.str nm)],G8):=by
   refine FD (Z1:=[↑(.ref d),↑(.int 24),↑(.str eJ),↑(.str core),↑(.int r3),↑(.int r4),↥(ws.map I.str),v7,v8,↥da,↑(.tup bO),↑(.str nm)]) (G1:=G8) (by simp! [e8]) (dB (aH rfl rfl ?_))
   have h:(cT (.str nm)&&(ws.map I.str).all cT)=true:=by rw [pH];rfl
   rw [hb]
   unfold dy bX il
   dsimp only
   rw [show sq [↑(.ref d),↑(.int 24),↑(.str eJ),↑(.str core),↑(.int r3),↑(.int r4),↥(ws.map I.str),v7,v8,↥da,↑(.tup bO),↑(.str nm)] G8 (.s 6)=some (ws.map I.str) from rfl]
   dsimp only
   rw [if_pos h]
   rfl
  cases b with
  | false=>exact⟨ws,G8,head (aj (aN et rfl) rfl),by lia,wnd,D8,mo⟩
  | true =>
   obtain⟨r9,G9,e9,w0,w1,D9,o9⟩:=bU (many:=24) D8 (by decide) (by decide)
   obtain⟨j,rfl⟩:=Int.eq_ofNat_of_zero_le w0
   have hj:gD ws.length (j:Int)=some j:=F8 (by lia)
   refine⟨ws.set j nm,G9,head (aj (Z1:=[↑(.ref d),↑(.int 24),↑(.str eJ),↑(.str core),↑(.int r3),↑(.int r4),↥((ws.set j nm).map I.str),v7,v8,↥da,↑(.tup bO),↑(.str nm)]) (G1:=G9) (bT et ?_) rfl),by rw [z2c];lia,F0 wnd (wK hb),D9,mo.trans o9.mor⟩
   simp! [e9,hj,List.map_set]
 ·have h8b:(r8 == 1)=false:=beq_eq_false_iff_ne.mpr h8
  refine⟨ws,G8,head (aj (aN (Z1:=[↑(.ref d),↑(.int 24),↑(.str eJ),↑(.str core),↑(.int r3),↑(.int r4),↥(ws.map I.str),v7,v8,↥da,↑(.tup bO),↑(.str nm)]) (G1:=G8) (y6f (by simp! [e8,h8b])) rfl) rfl),by lia,wnd,D8,mo⟩
end
section
variable {d l:Nat}{sh:Option Vl}
def yd9(ys:List Str)(lo hi:Option Int):∃zs:List Str,dz (ys.map I.str) lo hi=zs.map I.str/\zs.length≤ys.length/\List.Sublist zs ys:=by
 unfold dz
 refine⟨(ys.drop _).take _,by rw [List.map_take,List.map_drop],?_,(List.take_sublist _ _).trans (List.drop_sublist _ _)⟩
 rw [z2d,z2f];lia
def Gf:¬ (("cells" : Str)="rows"):=by decide +kernel
def Gg:¬ (("cells" : Str)="defs"):=by decide +kernel
def Gh:¬ (("rows" : Str)="defs"):=by decide +kernel
noncomputable abbrev bH(sh:Option Vl)(d:Nat)(v1 v2 v3 v4 v5 v6 v7 v8 v9 v10:Option Vl):De:=[↑(.ref d),v1,sh,v2,v3,v4,v5,v6,v7,v8,v9,v10]
def Gi{G:List M}{v1 v6 v7 v8 v9 v10:Option Vl}{cs rs ds:List Str}:m4 (cF (ag (.str "cells")) (aZ (aa 3)) (cF (ag (.str "rows")) (aZ (aa 4)) (cF (ag (.str "defs")) (aZ (aa 5)) gu))) (bH sh d v1 ↥(cs.map I.str) ↥(rs.map I.str) ↥(ds.map I.str) none v6 v7 v8 v9 v10) G =
  some (.v (.ow (.dic (jd G.length (G.length+1) (G.length+2)))),bH sh d v1 ↑(.ref G.length) ↑(.ref (G.length+1)) ↑(.ref (G.length+2)) none v6 v7 v8 v9 v10,G++[M.lst (cs.map I.str),.lst (rs.map I.str),.lst (ds.map I.str)]):=by
 simp! [m4,cF,gu,gZ,g6,cU,gj,Gf,Gg,Gh,jd]
end
section
variable {d l:Nat}{S:Scn}{sh:Option Vl}
structure Sc0(G:List M)(d l:Nat)(S:Scn):Prop where
 D:DG G d l
 c:G[S.c]?=some (.lst (S.cs.map I.str))
 r:G[S.r]?=some (.lst (S.rs.map I.str))
 f:G[S.f]?=some (.lst (S.ds.map I.str))
 nd:d≠S.c/\d≠S.r/\d≠S.f
 nl:l≠S.c/\l≠S.r/\l≠S.f
 c0:0<S.cs.length
 c1:S.cs.length≤1000/\S.rs.length≤1000/\S.ds.length≤1000
def Sc0.push{G:List M}(s:Sc0 G d l S):Sc (G++[M.dic (jd S.c S.r S.f)]) d l G.length S:=by
 have dl:=s.D.lt
 have ap:∀{k:Nat} {m:M},G[k]?=some m->(G++[M.dic (jd S.c S.r S.f)])[k]?=some m:=λh=>by rw [z1a (eE h)];exact h
 exact⟨s.D.app _,by simp,ap s.c,ap s.r,ap s.f,⟨by lia,s.nd⟩,⟨by lia,s.nl⟩,s.c0,s.c1⟩
def Sc.bs{G:List M}{k:Nat}(s:Sc G d l k S)(x:Nat):Bs (G++[M.lst [.int x]]) d l k G.length S x:=by
 have dl:=s.D.lt
 have h1:=eE s.s
 have h2:=eE s.c
 have h3:=eE s.r
 have h4:=eE s.f
 have ap:∀{k:Nat} {m:M},G[k]?=some m->(G++[M.lst [.int x]])[k]?=some m:=λh=>by rw [z1a (eE h)];exact h
 exact⟨⟨s.D.app _,ap s.s,ap s.c,ap s.r,ap s.f,s.nd,s.nl,s.c0,s.c1⟩,by simp,⟨by lia,by lia⟩,⟨by lia,by lia,by lia,by lia⟩⟩
abbrev zw(g0:Nat)(G:List M)(d l:Nat)(S:Scn)(v5:Option Vl):Prop :=
 (v5=some (.ow (.dic (jd S.c S.r S.f)))/\Sc0 G d l S/\g0≤G.length)∨(∃k,v5=↑(.ref k)/\Sc G d l k S/\g0≤k)
def zw.box{g0:Nat}{G:List M}{v1 v2 v3 v4 v5 v6 v7 v8 v9 v10:Option Vl}(h:zw g0 G d l S v5):∃(k:Nat) (G':List M),aZ (aa 6) (bH sh d v1 v2 v3 v4 v5 v6 v7 v8 v9 v10) G=some (⇑(.ref k),bH sh d v1 v2 v3 v4 ↑(.ref k) v6 v7 v8 v9 v10,G')/\Sc G' d l k S/\g0≤k/\Mor d l G G'/\(∀j,j<G.length->G'[j]?=G[j]?)/\g0≤G'.length:=by
 rcases h with⟨rfl,s,hg⟩| ⟨k,rfl,s,hg⟩
 ·exact⟨G.length,_,by simp! [],s.push,hg,Mor.app _,λj hj=>z1a hj,by rw [za];lia⟩
 ·have:=eE s.s
  exact⟨k,G,by simp! [],s,hg,Mor.refl _ _ _,λ_ _=>rfl,by lia⟩
abbrev bg(p:Str×List Sm):I:=.tup [.str p.1,.tup (aq p.2)]
abbrev m7(g0:Nat)(G:List M)(d l:Nat)(S:Scn)(v5 v6:Option Vl)(x:Nat):Prop :=
 (v6=↥[.int x]/\zw g0 G d l S v5)∨(∃k q,v5=↑(.ref k)/\v6=↑(.ref q)/\Bs G d l k q S x/\g0≤k/\g0≤q)
def Ot3.mor{q g0:Nat}{G0 G G':List M}(o:Ot3 d l q G G')(m:Mor d l G0 G)(h:G0.length≤q):Mor d l G0 G':=⟨z19 m.len o.len,λk hk h1 h2=>(o.at_ k (z1b hk m.len) h1 h2 (by lia)).trans (m.at_ k hk h1 h2)⟩
def yf3{G0 G:List M}{v1 v2 v3 v4 v5 v6 v9 v10:Option Vl}{x:Nat}{nm:Str}{told:List (Str×List Sm)}(h:m7 G0.length G d l S v5 v6 x)(mo0:Mor d l G0 G)(hl:told.length≤1000) :
  ∃(b:List Sm) (G':List M) (k q x':Nat),yU (bH sh d v1 v2 v3 v4 v5 v6 ↥(told.map bg) ↑(.str nm) v9 v10) G=some (.nx (bH sh d v1 v2 v3 v4 ↑(.ref k) ↑(.ref q) ↥((told++[(nm,b)]).map bg) ↑(.str nm) v9 v10) G') /\
   aY S b/\x'≤x/\aR b≤21*(x-x')/\cy b≤4/\b.length≤1000/\Bs G' d l k q S x'/\G0.length≤k/\G0.length≤q/\Mor d l G0 G':=by
 obtain⟨k,q,Ga,G1,e5,e6,b1,hk,hq,m1⟩:∃(k q:Nat) (Ga G1:List M),aZ (aa 6) (bH sh d v1 v2 v3 v4 v5 v6 ↥(told.map bg) ↑(.str nm) v9 v10) G=some (⇑(.ref k),bH sh d v1 v2 v3 v4 ↑(.ref k) v6 ↥(told.map bg) ↑(.str nm) v9 v10,Ga) /\
   aZ (aa 7) (bH sh d v1 v2 v3 v4 ↑(.ref k) v6 ↥(told.map bg) ↑(.str nm) v9 v10) Ga=some (⇑(.ref q),bH sh d v1 v2 v3 v4 ↑(.ref k) ↑(.ref q) ↥(told.map bg) ↑(.str nm) v9 v10,G1)/\Bs G1 d l k q S x/\G0.length≤k/\G0.length≤q/\Mor d l G0 G1:=by
  rcases h with⟨rfl,hs⟩| ⟨k,q,rfl,rfl,hb,hk,hq⟩
  ·obtain⟨k,Ga,e1,s1,hk,m1,_,hg⟩:=hs.box (v1:=v1) (v2:=v2) (v3:=v3) (v4:=v4) (v6:=↥[.int x]) (v7:=↥(told.map bg)) (v8:=↑(.str nm)) (v9:=v9) (v10:=v10)
   exact⟨k,Ga.length,Ga,_,e1,by simp! [],s1.bs x,hk,hg,(mo0.trans m1).trans (Mor.app _)⟩
  ·exact⟨k,q,G,G,by simp! [],by simp! [],hb,hk,hq,mo0⟩
 obtain⟨b,G3,x3,e8,k3,l3,n3,d3,sX,_,b3,o3⟩:=(zv 12).2.2 1 (by lia) (by lia) b1
 refine⟨b,G3,k,q,x3,?_,k3,l3,n3,by lia,sX,b3,hk,hq,(o3.mor (g0:=0) m1 hq)⟩
 have ec:bd (af (aa 0) (af (aZ (aa 6)) (af (aZ (aa 7)) (af (ag (.int 1)) ae)))) (ax 4 (eY 12)) (bH sh d v1 v2 v3 v4 v5 v6 ↥(told.map bg) ↑(.str nm) v9 v10) G=some (⇑(.tup (aq b)),bH sh d v1 v2 v3 v4 ↑(.ref k) ↑(.ref q) ↥(told.map bg) ↑(.str nm) v9 v10,G3) :=
  av (av rfl (av (av e5 (av (av e6 rfl) rfl)) rfl)) (cC (xs:=[.im (.ref d),.im (.ref k),.im (.ref q),.im (.int 1)]) rfl rfl e8)
 have et:bd (af (aa 9) (af (bd (af (aa 0) (af (aZ (aa 6)) (af (aZ (aa 7)) (af (ag (.int 1)) ae)))) (ax 4 (eY 12))) ae)) ay (bH sh d v1 v2 v3 v4 v5 v6 ↥(told.map bg) ↑(.str nm) v9 v10) G=some (⇑(bg (nm,b)),bH sh d v1 v2 v3 v4 ↑(.ref k) ↑(.ref q) ↥(told.map bg) ↑(.str nm) v9 v10,G3):=by
  refine av (av rfl (av (av ec rfl) rfl)) ?_
  simp! [bg]
 refine wb (e:=⇑.non) (y90 (e:=.s 8) (Z1:=bH sh d v1 v2 v3 v4 v5 v6 ↥(told.map bg) ↑(.str nm) v9 v10) (G1:=G) rfl rfl (av et rfl) ?_)
 have hn:(told.map bg).length<1000000:=by rw [z12];lia
 rw [z25]
 generalize told.map bg=tt at hn
 simp! [hn]
end
section
variable {d l:Nat}{S:Scn}{sh:Option Vl}
theorem m7.f{g0 x:Nat}{G:List M}{v5 v6:Option Vl}(h:m7 g0 G d l S v5 v6 x):G[S.f]?=some (.lst (S.ds.map I.str)):=by
 rcases h with⟨_,hs⟩| ⟨k,q,_,_,hb,_⟩
 ·rcases hs with⟨_,s,_⟩| ⟨k,_,s,_⟩
  ·exact s.f
  ·exact s.f
 ·exact hb.s.f
theorem m7.s{g0 x:Nat}{G:List M}{v5 v6:Option Vl}(h:m7 g0 G d l S v5 v6 x):zw g0 G d l S v5:=by
 rcases h with⟨_,hs⟩| ⟨k,q,e,_,hb,hk,_⟩
 ·exact hs
 ·exact .inr ⟨k,e,hb.s,hk⟩
def yf4{G0 G:List M}{v1 v2 v3 v4 v5 v6 v8 v9 v10:Option Vl}(h:m7 G0.length G d l S v5 v6 14)(m0:Mor d l G0 G)(hd:S.ds.length≤100) :
  ∃(told:List (Str×List Sm)) (G':List M) (v5' v6' v8':Option Vl) (x':Nat),aW (a7 ⇑(.ref S.f) S.ds.length) (aB 9) yU 0 S.ds.length (bH sh d v1 v2 v3 v4 v5 v6 ↥[] v8 v9 v10) G=some (.nx (bH sh d v1 v2 v3 v4 v5' v6' ↥(told.map bg) v8' v9 v10) G') /\
   m7 G0.length G' d l S v5' v6' x'/\told.map (·.1)=S.ds/\(∀p∈told,aY S p.2/\cy p.2≤4/\p.2.length≤1000)/\(told.map λp=>aR p.2).sum≤294/\Mor d l G0 G':=by
 obtain⟨Z',G',e,told,v5',v6',v8',x',ed,hq,hx,ef,hp,hs,m⟩:=hR (w:=a7 ⇑(.ref S.f) S.ds.length) (g:=aB 9) (b:=yU) (λi Z G'=>∃(told:List (Str×List Sm)) (v5 v6 v8:Option Vl) (x':Nat),Z=bH sh d v1 v2 v3 v4 v5 v6 ↥(told.map bg) v8 v9 v10/\m7 G0.length G' d l S v5 v6 x'/\x'≤14/\told.map (·.1)=S.ds.take i/\(∀p∈told,aY S p.2/\cy p.2≤4/\p.2.length≤1000)/\(told.map λp=>aR p.2).sum≤21*(14-x')/\Mor d l G0 G')
  (λi Z g hi p=>by
   obtain⟨told,v5,v6,v8,x',rfl,hq,hx,ef,hp,hs,m⟩:=p
   have hi:i<S.ds.length:=hi
   have lt:told.length≤i:=by have:=congrArg List.length ef;rw [z12,z2d] at this;lia
   obtain⟨b,g2,k,q,x2,e2,k2,l2,n2,d2,bP,b2,hk,hqq,m2⟩:=yf3 (v1:=v1) (v2:=v2) (v3:=v3) (v4:=v4) (v9:=v9) (v10:=v10) (nm:=S.ds[i]) (told:=told) hq m (by lia)
   refine⟨.str S.ds[i],_,g,_,g2,?_,rfl,e2,told++[(S.ds[i],b)],_,_,_,x2,rfl,.inr ⟨k,q,rfl,rfl,b2,hk,hqq⟩,by lia,?_,λp hm=>?_,?_,m2⟩
   ·have:=hq.f
    simp [a7,sq,pk,this,hi]
   ·rw [z25,ef,List.take_succ,z1c hi];rfl
   ·rcases z13.mp hm with z|z
    ·exact hp p z
    ·have:p=(S.ds[i],b):=by simpa using z
     subst this
     exact⟨k2,d2,bP⟩
   ·rw [z25,List.sum_append]
    simp
    lia)
  (λZ g p=>by
   obtain⟨told,v5,v6,v8,x',rfl,hq,_⟩:=p
   have:=hq.f
   simp [a7,sq,pk,this]) S.ds.length 0 (bH sh d v1 v2 v3 v4 v5 v6 ↥[] v8 v9 v10) G (by simp [a7]) ⟨[],v5,v6,v8,14,rfl,h,zf _,by simp,λ_ h=>(by cases h),by simp,m0⟩
 refine⟨told,G',v5',v6',v8',x',by rw [ed] at e;exact e,hq,?_,hp,by lia,m⟩
 rw [ef]
 exact z2e (zf _)
structure Pg where
 cells:List (Str×Int)
 rows:List (Str×Int)
 defs:List (Str×List Sm)
 body:List Sm
abbrev cV(p:Str×Int):I:=.tup [.str p.1,.int p.2]
abbrev Pg.i(p:Pg):I:=.tup [.tup (p.cells.map cV),.tup (p.rows.map cV),.tup (p.defs.map bg),.tup (aq p.body)]
abbrev Pg.sc(p:Pg):Scn:=⟨0,0,0,p.cells.map (·.1),p.rows.map (·.1),p.defs.map (·.1)⟩
mutual
theorem Sm.y258{S T:Scn}(h1:S.cs=T.cs)(h2:S.rs=T.rs)(h3:S.ds=T.ds):∀s:Sm,s.ok S->s.ok T
 | .set x t,h=>by rw [Sm.ok] at h ⊢;rw [<- h1,<- h2];exact h
 | .put r a b,h=>by rw [Sm.ok] at h ⊢;rw [<- h1,<- h2];exact h
 | .call f,h=>by rw [Sm.ok] at h ⊢;rw [<- h3];exact h
 | .wh t b,h=>by rw [Sm.ok] at h ⊢;rw [<- h1,<- h2];exact⟨h.1,h.2.1,iU h1 h2 h3 b h.2.2⟩
 | .ite t b c,h=>by rw [Sm.ok] at h ⊢;rw [<- h1,<- h2];exact⟨h.1,h.2.1,iU h1 h2 h3 b h.2.2.1,iU h1 h2 h3 c h.2.2.2⟩
theorem iU{S T:Scn}(h1:S.cs=T.cs)(h2:S.rs=T.rs)(h3:S.ds=T.ds):∀b:List Sm,aY S b->aY T b
 | [],h=>by rw [aY];trivial
 | s::b,h=>by rw [aY] at h ⊢;exact⟨Sm.y258 h1 h2 h3 s h.1,iU h1 h2 h3 b h.2⟩
end
structure Pg.Ok(p:Pg):Prop where
 c0:0<p.cells.length
 nd:(p.cells.map (·.1)).Nodup
 rn:(p.rows.map (·.1)).Nodup
 dn:(p.defs.map (·.1)).Nodup
 c1:p.cells.length≤24/\p.rows.length≤24/\p.defs.length≤24
 cw:∀q∈p.cells,0≤q.2/\q.2<4294967296
 rw_:∀q∈p.rows,0<q.2/\q.2≤8
 ds:∀q∈p.defs,aY p.sc q.2/\cy q.2≤4/\q.2.length≤1000
 bo:aY p.sc p.body/\cy p.body≤4/\p.body.length≤1001
 n1:(p.defs.map λq=>aR q.2).sum≤294
 n2:aR p.body≤484
def y8a{G:List M}{k:Nat}{cs:List Str}{Z:De}(D:DG G d l)(hk:G[k]?=some (.lst (cs.map I.str)))(n1:k≠d)(n2:k≠l):∃(xs:List (Str×Int)) (G':List M),dI (a7 ⇑(.ref k) cs.length) c1 bf (bd (af (aa 0) (af (bd (af (aa 1) ae) (ax 1 j4)) ae)) ay) [↑(.ref d)] 0 cs.length [] Z G=some (xs.map cV,G')/\xs.map (·.1)=cs/\(∀q∈xs,0≤q.2/\q.2<4294967296)/\DG G' d l/\Oth d l G G':=by
 obtain⟨ds,G',e,xs,ed,ef,hx,D',o⟩:=p8 (w:=a7 ⇑(.ref k) cs.length) (c:=c1) (tt:=bf) (te:=bd (af (aa 0) (af (bd (af (aa 1) ae) (ax 1 j4)) ae)) ay) (di:=[↑(.ref d)]) (Z:=Z)
  (λi acc G'=>∃xs:List (Str×Int),acc=xs.map cV/\xs.map (·.1)=cs.take i/\(∀q∈xs,0≤q.2/\q.2<4294967296)/\DG G' d l/\Oth d l G G')
  (λi acc g hi zz=>by
   obtain⟨xs,ea,ef,hx,D,o⟩:=zz
   have hi:i<cs.length:=hi
   have hk':g[k]?=some (.lst (cs.map I.str)):=(o.at_ k n1 n2).trans hk
   obtain⟨w,g1,e1,w0,w1,D1,o1⟩:=wt D
   refine⟨.str cs[i],[.str cs[i]],_,_,cV (cs[i],w),[↑(.str cs[i]),↑(.ref d)],g1,by simp [a7,sq,pk,hk',hi],rfl,rfl,by simp! [e1,cV],xs++[(cs[i],w)],by rw [ea,z25];rfl,by rw [z25,ef,List.take_succ,z1c hi];rfl,λq hm=>?_,D1,o.trans o1⟩
   rcases z13.mp hm with z|z
   ·exact hx q z
   ·have:q=(cs[i],w):=by simpa using z
    subst this;exact⟨w0,w1⟩)
  (λ_ g p=>by
   obtain⟨_,_,_,_,_,o⟩:=p
   have hk':g[k]?=some (.lst (cs.map I.str)):=(o.at_ k n1 n2).trans hk
   simp [a7,sq,pk,hk']) cs.length 0 [] G (by simp [a7]) ⟨[],rfl,by simp,λ_ h=>(by cases h),D,Oth.refl _ _ _⟩
 exact⟨xs,G',by rw [ed] at e;exact e,by rw [ef];exact z2e (zf _),hx,D',o⟩
def Gj{G:List M}{k:Nat}{cs:List Str}{Z:De}(D:DG G d l)(hk:G[k]?=some (.lst (cs.map I.str)))(n1:k≠d)(n2:k≠l):∃(xs:List (Str×Int)) (G':List M),dI (a7 ⇑(.ref k) cs.length) c1 bf (bd (af (aa 0) (af (ah bx (ag (.int 1)) (bd (af (aa 1) (af (ag (.int 8)) ae)) (ax 2 aU))) ae)) ay) [↑(.ref d)] 0 cs.length [] Z G=some (xs.map cV,G')/\xs.map (·.1)=cs/\(∀q∈xs,0<q.2/\q.2≤8)/\DG G' d l/\Oth d l G G':=by
 obtain⟨ds,G',e,xs,ed,ef,hx,D',o⟩:=p8 (w:=a7 ⇑(.ref k) cs.length) (c:=c1) (tt:=bf) (te:=bd (af (aa 0) (af (ah bx (ag (.int 1)) (bd (af (aa 1) (af (ag (.int 8)) ae)) (ax 2 aU))) ae)) ay) (di:=[↑(.ref d)]) (Z:=Z)
  (λi acc G'=>∃xs:List (Str×Int),acc=xs.map cV/\xs.map (·.1)=cs.take i/\(∀q∈xs,0<q.2/\q.2≤8)/\DG G' d l/\Oth d l G G')
  (λi acc g hi zz=>by
   obtain⟨xs,ea,ef,hx,D,o⟩:=zz
   have hi:i<cs.length:=hi
   have hk':g[k]?=some (.lst (cs.map I.str)):=(o.at_ k n1 n2).trans hk
   obtain⟨w,g1,e1,w0,w1,D1,o1⟩:=bU (many:=8) D (by decide) (by decide)
   refine⟨.str cs[i],[.str cs[i]],_,_,cV (cs[i],1+w),[↑(.str cs[i]),↑(.ref d)],g1,by simp [a7,sq,pk,hk',hi],rfl,rfl,by simp! [e1,cV],xs++[(cs[i],1+w)],by rw [ea,z25];rfl,by rw [z25,ef,List.take_succ,z1c hi];rfl,λq hm=>?_,D1,o.trans o1⟩
   rcases z13.mp hm with z|z
   ·exact hx q z
   ·have:q=(cs[i],1+w):=by simpa using z
    subst this;exact⟨by show 0<1+w;lia,by show 1+w≤8;lia⟩)
  (λ_ g p=>by
   obtain⟨_,_,_,_,_,o⟩:=p
   have hk':g[k]?=some (.lst (cs.map I.str)):=(o.at_ k n1 n2).trans hk
   simp [a7,sq,pk,hk']) cs.length 0 [] G (by simp [a7]) ⟨[],rfl,by simp,λ_ h=>(by cases h),D,Oth.refl _ _ _⟩
 exact⟨xs,G',by rw [ed] at e;exact e,by rw [ef];exact z2e (zf _),hx,D',o⟩
end
section
set_option maxHeartbeats 1000000
variable {d l:Nat}{sh:Option Vl}
def wL{G:List M}{ys:List Str}{v2 v3 v4 v5 v6 v7 v8 v9 v10:Option Vl}{f:Mo Ev}{G1 G2:List M}{z r:Int}(e1:f (bH sh d ↥(ys.map I.str) v2 v3 v4 v5 v6 v7 v8 v9 v10) G=some (⇑(.int z),bH sh d ↥(ys.map I.str) v2 v3 v4 v5 v6 v7 v8 v9 v10,G1))(e2:aU [.im (.ref d),.im (.int 4)] G1=some (.im (.int r),G2)) :
  ∃rs:List Str,a8 (a8 (aa 1) (aX f) a6) a6 (aX (bd (af (aa 0) (af (ag (.int 4)) ae)) (ax 2 aU))) (bH sh d ↥(ys.map I.str) v2 v3 v4 v5 v6 v7 v8 v9 v10) G=some (.v (.ow (.lst (rs.map I.str))),bH sh d ↥(ys.map I.str) v2 v3 v4 v5 v6 v7 v8 v9 v10,G2)/\rs.length≤ys.length/\List.Sublist rs ys:=by
 obtain⟨zs,h1,l1,s1⟩:=yd9 ys (some z) none
 obtain⟨rs,h2,l2,s2⟩:=yd9 zs none (some r)
 refine⟨rs,?_,by lia,s2.trans s1⟩
 simp! [a8,aX,a6,l6,gY,fF,e1,h1,h2,e2]
def Gk{G:List M}(D:DG G d l):∃(p:Pg) (G':List M),yV [.im (.ref d)] G=some (.im p.i,G')/\p.Ok/\DG G' d l/\Mor d l G G':=by
 obtain⟨ys,G1,e1,ly,ynd,D1,m1⟩:=F9 D
 obtain⟨r3,G3,e3,q0,q1,D3,o3⟩:=bU (many:=2) D1 (by decide) (by decide)
 obtain⟨z3,ez3,_⟩:=wx (xs:=[(0:Int),6]) q0 q1
 obtain⟨r2,G2,e2,p0,p1,D2,o2⟩:=bU (many:=6) D3 (by decide) (by decide)
 obtain⟨N,hN⟩:=Int.eq_ofNat_of_zero_le p0
 obtain⟨cs,hcs⟩:∃cs,cs=ys.take (1+N):=⟨_,rfl⟩
 have lc:0<cs.length/\cs.length≤24:=by rw [hcs,z2d];lia
 obtain⟨r4,G4,e4,_,_,D4,o4⟩:=bU (many:=4) D2 (by decide) (by decide)
 obtain⟨r6,G6,e6,_,_,D6,o6⟩:=bU (many:=4) D4 (by decide) (by decide)
 have f3:ah ak (bd (af (ag (.int 0)) (af (ag (.int 6)) ae)) aP) (bd (af (aa 0) (af (ag (.int 2)) ae)) (ax 2 aU)) (bH none d ↥(ys.map I.str) none none none none none none none none none) G1=some (⇑(.int z3),bH none d ↥(ys.map I.str) none none none none none none none none none,G3):=by
  rcases (show r3=0∨r3=1 by lia) with z|z<;>subst z
  ·rw [dj] at ez3;cases ez3;simp! [e3,dj]
  ·rw [eB] at ez3;cases ez3;simp! [e3,eB]
 obtain⟨sh,hsh⟩:∃sh:Option Vl,sh=↑(.int z3):=⟨_,rfl⟩
 obtain⟨rs,g3,lr,sr⟩:=wL (sh:=sh) (d:=d) (ys:=ys) (v2:=↥(cs.map I.str)) (v3:=none) (v4:=none) (v5:=none) (v6:=none) (v7:=none) (v8:=none) (v9:=none) (v10:=none) (f:=ah cM (ag (.int 6)) (aa 2)) (z:=6-z3) (by rw [hsh];rfl) e4
 obtain⟨ds,g5,ld,sd⟩:=wL (sh:=sh) (d:=d) (ys:=ys) (v2:=↥(cs.map I.str)) (v3:=↥(rs.map I.str)) (v4:=none) (v5:=none) (v6:=none) (v7:=none) (v8:=none) (v9:=none) (v10:=none) (f:=ah cM (ag (.int 12)) (aa 2)) (z:=12-z3) (by rw [hsh];rfl) e6
 have oh:Oth d l G1 G6:=((o3.trans o2).trans o4).trans o6
 have m6:Mor d l G G6:=m1.trans oh.mor
 have dl:=D.lt
 have dl6:=D6.lt
 have gl:G.length≤G6.length:=m6.len
 obtain⟨G7,hG7⟩:∃G7,G7=G6++[M.lst (cs.map I.str),M.lst (rs.map I.str),M.lst (ds.map I.str)]:=⟨_,rfl⟩
 obtain⟨S,hS⟩:∃S:Scn,S=⟨G6.length,G6.length+1,G6.length+2,cs,rs,ds⟩:=⟨_,rfl⟩
 have sc0:Sc0 G7 d l S:=by
  subst hG7 hS
  refine⟨D6.app _,by simp,by simp,by simp,⟨by show d≠G6.length;lia,by show d≠G6.length+1;lia,by show d≠G6.length+2;lia⟩,⟨by show l≠G6.length;lia,by show l≠G6.length+1;lia,by show l≠G6.length+2;lia⟩,lc.1,⟨by show cs.length≤1000;lia,by show rs.length≤1000;lia,by show ds.length≤1000;lia⟩⟩
 have m7':Mor d l G G7:=by rw [hG7];exact m6.trans (Mor.app _)
 have gl7:G.length≤G7.length:=m7'.len
 obtain⟨told,G8,v5,v6,v8,x8,e8,h8,ef,hp,hs,m8⟩:=yf4 (G0:=G) (S:=S) (v1:=↥(ys.map I.str)) (v2:=↑(.ref G6.length)) (v3:=↑(.ref (G6.length+1))) (v4:=↑(.ref (G6.length+2))) (v8:=none) (v9:=none) (v10:=none) (.inl ⟨rfl,.inl ⟨rfl,sc0,gl7⟩⟩) m7' (by rw [hS];show ds.length≤100;lia)
 obtain⟨k,Ga,e9,sa,hk,ma,_,hga⟩:=h8.s.box (v1:=↥(ys.map I.str)) (v2:=↑(.ref G6.length)) (v3:=↑(.ref (G6.length+1))) (v4:=↑(.ref (G6.length+2))) (v6:=↥[.int 22]) (v7:=↥(told.map bg)) (v8:=v8) (v9:=none) (v10:=none)
 have ba:=sa.bs 22
 obtain⟨bo,Gb,xb,eb,kb,lb,nb,db,lenb,emb,bb,ob⟩:=(zv 12).2.2 0 (by lia) (by lia) ba
 have mb:Mor d l G Gb:=ob.mor (g0:=0) (((m8.trans ma).trans (Mor.app _))) hga
 have a1:bd (af (aa 0) (af (aZ (aa 6)) (af (aZ (aa 7)) (af (ag (.int 0)) ae)))) (ax 4 (eY 12)) (bH sh d ↥(ys.map I.str) ↑(.ref G6.length) ↑(.ref (G6.length+1)) ↑(.ref (G6.length+2)) v5 ↥[.int 22] ↥(told.map bg) v8 none none) G8=some (⇑(.tup (aq bo)),bH sh d ↥(ys.map I.str) ↑(.ref G6.length) ↑(.ref (G6.length+1)) ↑(.ref (G6.length+2)) ↑(.ref k) ↑(.ref Ga.length) ↥(told.map bg) v8 none none,Gb) :=
  av (a:=[⇑(.ref d),⇑(.ref k),⇑(.ref Ga.length),⇑(.int 0)]) (av rfl (av (av e9 (av (av (show aZ (aa 7) _ Ga=some (⇑(.ref Ga.length),bH sh d ↥(ys.map I.str) ↑(.ref G6.length) ↑(.ref (G6.length+1)) ↑(.ref (G6.length+2)) ↑(.ref k) ↑(.ref Ga.length) ↥(told.map bg) v8 none none,Ga++[M.lst [.int 22]]) by simp! []) rfl) rfl)) rfl)) (cC (xs:=[.im (.ref d),.im (.ref k),.im (.ref Ga.length),.im (.int 0)]) rfl rfl eb)
 obtain⟨bd',Gc,ec,kc,nc,dc,lenc,sC,mc⟩:∃(bd':List Sm) (Gc:List M),aF (ao (ah bQ (bd (af (aa 10) ae) aQ) (ag (.int 0))))
   (aI (bd (af (bd (af (aa 0) (af (aZ (aa 6)) (af (aZ (aa 7)) (af (ag (.int 0)) ae)))) (ax 4 (iu 12))) ae) ay) (aB 10)) aO (bH sh d ↥(ys.map I.str) ↑(.ref G6.length) ↑(.ref (G6.length+1)) ↑(.ref (G6.length+2)) ↑(.ref k) ↑(.ref Ga.length) ↥(told.map bg) v8 ↑(.tup (aq bo)) none) Gb=some (.nx (bH sh d ↥(ys.map I.str) ↑(.ref G6.length) ↑(.ref (G6.length+1)) ↑(.ref (G6.length+2)) ↑(.ref k) ↑(.ref Ga.length) ↥(told.map bg) v8 ↑(.tup (aq bd')) none) Gc)/\aY S bd'/\aR bd'≤484/\cy bd'≤4/\bd'.length≤1001/\Sc Gc d l k S/\Mor d l G Gc:=by
  have hl:((aq bo).length≤1000000):=by rw [dP];lia
  by_cases h0:bo.length=0
  ·have xe:=emb h0
   subst xe
   obtain rfl:=List.eq_nil_of_length_eq_zero h0
   have et:ao (ah bQ (bd (af (aa 10) ae) aQ) (ag (.int 0))) (bH sh d ↥(ys.map I.str) ↑(.ref G6.length) ↑(.ref (G6.length+1)) ↑(.ref (G6.length+2)) ↑(.ref k) ↑(.ref Ga.length) ↥(told.map bg) v8 ↑(.tup (aq [])) none) Gb=some (true,(bH sh d ↥(ys.map I.str) ↑(.ref G6.length) ↑(.ref (G6.length+1)) ↑(.ref (G6.length+2)) ↑(.ref k) ↑(.ref Ga.length) ↥(told.map bg) v8 ↑(.tup (aq [])) none),Gb):=by simp! [aq]
   obtain⟨st,Ge,xe,ee,ke,le,ne,de,be,oe⟩:=(zv 12).2.1 0 (by lia) (by lia) (by lia) bb
   refine⟨[st],Ge,bT et (bD (x:=.im (.tup (aq [st]))) (Z1:=bH sh d ↥(ys.map I.str) ↑(.ref G6.length) ↑(.ref (G6.length+1)) ↑(.ref (G6.length+2)) ↑(.ref k) ↑(.ref Ga.length) ↥(told.map bg) v8 ↑(.tup (aq [])) none) (G1:=Ge) ?_ rfl),by rw [aY,aY];exact⟨ke,trivial⟩,by rw [aR,aR];lia,by rw [cy,cy];lia,by simp,be.s,oe.mor (g0:=0) mb hga⟩
   refine av (av (av (a:=[⇑(.ref d),⇑(.ref k),⇑(.ref Ga.length),⇑(.int 0)]) (Z1:=bH sh d ↥(ys.map I.str) ↑(.ref G6.length) ↑(.ref (G6.length+1)) ↑(.ref (G6.length+2)) ↑(.ref k) ↑(.ref Ga.length) ↥(told.map bg) v8 ↑(.tup (aq [])) none) (G1:=Gb) (by simp! []) (cC (xs:=[.im (.ref d),.im (.ref k),.im (.ref Ga.length),.im (.int 0)]) rfl rfl ee)) rfl) ?_
   simp! [aq]
  ·have hb:(((aq bo).length:Int) == 0)=false:=by rw [dP];exact beq_eq_false_iff_ne.mpr (by lia)
   refine⟨bo,Gb,aN (Z1:=bH sh d ↥(ys.map I.str) ↑(.ref G6.length) ↑(.ref (G6.length+1)) ↑(.ref (G6.length+2)) ↑(.ref k) ↑(.ref Ga.length) ↥(told.map bg) v8 ↑(.tup (aq bo)) none) (G1:=Gb) ?_ rfl,kb,by lia,by lia,by lia,bb.s,mb⟩
   simp! [hl,hb]
 have sCc:Gc[G6.length]?=some (.lst (cs.map I.str)):=by have:=sC.c;rw [hS] at this;exact this
 have sCr:Gc[(G6.length+1)]?=some (.lst (rs.map I.str)):=by have:=sC.r;rw [hS] at this;exact this
 obtain⟨xs,Gd,ed,fx,hx,Dd,od⟩:=y8a (Z:=bH sh d ↥(ys.map I.str) ↑(.ref G6.length) ↑(.ref (G6.length+1)) ↑(.ref (G6.length+2)) ↑(.ref k) ↑(.ref Ga.length) ↥(told.map bg) v8 ↑(.tup (aq bd')) none) sC.D sCc (by lia) (by lia)
 have rD:=(od.at_ (G6.length+1) (by lia) (by lia)).trans sCr
 obtain⟨zs,Ge,ee,fz,hz,De,oe⟩:=Gj (Z:=bH sh d ↥(ys.map I.str) ↑(.ref G6.length) ↑(.ref (G6.length+1)) ↑(.ref (G6.length+2)) ↑(.ref k) ↑(.ref Ga.length) ↥(told.map bg) v8 ↑(.tup (aq bd')) ↑(.tup (xs.map cV))) Dd rD (by lia) (by lia)
 refine⟨⟨xs,zs,told,bd'⟩,Ge,?_,?_,De,mc.trans (od.trans oe).mor⟩
 ·refine aL rfl ?_
  refine aj (bD (x:=.ow (.lst (ys.map I.str))) (Z1:=bH none d none none none none none none none none none none) (G1:=G1) (av (a:=[⇑(.ref d),⇑(.int 24)]) rfl (cC (xs:=[.im (.ref d),.im (.int 24)]) rfl rfl e1)) rfl) ?_
  refine aj (bD f3 rfl) ?_
  rw [show some (Vl.im (I.int z3))=sh from hsh.symm]
  refine aj (bD (x:=.ow (.lst (cs.map I.str))) (Z1:=bH sh d ↥(ys.map I.str) none none none none none none none none none) (G1:=G2) ?_ rfl) ?_
  ·have hc:dz (ys.map I.str) none (some (1+r2))=cs.map I.str:=by
    rw [show (1:Int)+r2=((1+N:Nat):Int) by lia,p9,hcs,List.map_take]
   simp! [a8,aX,a6,l6,gY,fF,e2,hc]
  refine aj (bD g3 rfl) ?_
  refine aj (bD g5 rfl) ?_
  refine aj (bD (Gi (v1:=↥(ys.map I.str)) (cs:=cs) (rs:=rs) (ds:=ds)) rfl) ?_
  rw [<- hG7]
  refine aj (bD (x:=.ow (.lst [.int 14])) (Z1:=bH sh d ↥(ys.map I.str) ↑(.ref G6.length) ↑(.ref (G6.length+1)) ↑(.ref (G6.length+2)) (some (.ow (.dic (jd G6.length (G6.length+1) (G6.length+2))))) none none none none none) (G1:=G7) (by simp! []) rfl) ?_
  refine aj (bD (x:=.ow (.lst [])) (Z1:=bH sh d ↥(ys.map I.str) ↑(.ref G6.length) ↑(.ref (G6.length+1)) ↑(.ref (G6.length+2)) (some (.ow (.dic (jd G6.length (G6.length+1) (G6.length+2))))) ↥[.int 14] none none none none) (G1:=G7) (by simp! []) rfl) ?_
  have fz7:G7[G6.length+2]?=some (.lst (ds.map I.str)):=by have:=sc0.f;rw [hS] at this;exact this
  rw [hS] at e8
  refine aj (b8 (eA (e:=⇑(.ref (G6.length+2))) (n:=ds.length) (Z1:=bH sh d ↥(ys.map I.str) ↑(.ref G6.length) ↑(.ref (G6.length+1)) ↑(.ref (G6.length+2)) (some (.ow (.dic (jd G6.length (G6.length+1) (G6.length+2))))) ↥[.int 14] ↥[] none none none) (G1:=G7) (xs:=ds.map I.str) (by simp! []) rfl (by simp [sq,pk,fz7]) (by simp)) e8) ?_
  refine aj (bD (x:=.ow (.lst [.int 22])) (Z1:=bH sh d ↥(ys.map I.str) ↑(.ref G6.length) ↑(.ref (G6.length+1)) ↑(.ref (G6.length+2)) v5 v6 ↥(told.map bg) v8 none none) (G1:=G8) (by simp! []) rfl) ?_
  refine aj (bD a1 rfl) ?_
  refine aj ec ?_
  refine aj (bD (x:=.im (.tup (xs.map cV))) (Z1:=bH sh d ↥(ys.map I.str) ↑(.ref G6.length) ↑(.ref (G6.length+1)) ↑(.ref (G6.length+2)) ↑(.ref k) ↑(.ref Ga.length) ↥(told.map bg) v8 ↑(.tup (aq bd')) none) (G1:=Gd) ?_ rfl) ?_
  ·refine av (av (kH (by rfl) (eA (e:=⇑(.ref G6.length)) (n:=cs.length) (Z1:=bH sh d ↥(ys.map I.str) ↑(.ref G6.length) ↑(.ref (G6.length+1)) ↑(.ref (G6.length+2)) ↑(.ref k) ↑(.ref Ga.length) ↥(told.map bg) v8 ↑(.tup (aq bd')) none) (G1:=Gc) (xs:=cs.map I.str) (by simp! []) rfl (by have h:=sCc;simp [sq,pk,h]) (by simp)) (by show cs.length≤100000;lia) ed) rfl) ?_
   simp [cA,sq,pk]
  refine cG (Z1:=bH sh d ↥(ys.map I.str) ↑(.ref G6.length) ↑(.ref (G6.length+1)) ↑(.ref (G6.length+2)) ↑(.ref k) ↑(.ref Ga.length) ↥(told.map bg) v8 ↑(.tup (aq bd')) ↑(.tup (xs.map cV))) ?_
  have a3:bd (af (dJ (bG (one (aZ (aa 4))) aT) [0] c1 bf (bd (af (aa 0) (af (ah bx (ag (.int 1)) (bd (af (aa 1) (af (ag (.int 8)) ae)) (ax 2 aU))) ae)) ay)) ae) cA (bH sh d ↥(ys.map I.str) ↑(.ref G6.length) ↑(.ref (G6.length+1)) ↑(.ref (G6.length+2)) ↑(.ref k) ↑(.ref Ga.length) ↥(told.map bg) v8 ↑(.tup (aq bd')) ↑(.tup (xs.map cV))) Gd=some (⇑(.tup (zs.map cV)),bH sh d ↥(ys.map I.str) ↑(.ref G6.length) ↑(.ref (G6.length+1)) ↑(.ref (G6.length+2)) ↑(.ref k) ↑(.ref Ga.length) ↥(told.map bg) v8 ↑(.tup (aq bd')) ↑(.tup (xs.map cV)),Ge):=by
   refine av (av (kH (by rfl) (eA (e:=⇑(.ref (G6.length+1))) (n:=rs.length) (Z1:=bH sh d ↥(ys.map I.str) ↑(.ref G6.length) ↑(.ref (G6.length+1)) ↑(.ref (G6.length+2)) ↑(.ref k) ↑(.ref Ga.length) ↥(told.map bg) v8 ↑(.tup (aq bd')) ↑(.tup (xs.map cV))) (G1:=Gd) (xs:=rs.map I.str) (by simp! []) rfl (by have h:Gd[G6.length+1]?=some (M.lst (rs.map I.str)):=rD;simp [sq,pk,h]) (by simp)) (by show rs.length≤100000;lia) ee) rfl) ?_
   simp [cA,sq,pk]
  have a4:bd (af (aa 8) ae) cA (bH sh d ↥(ys.map I.str) ↑(.ref G6.length) ↑(.ref (G6.length+1)) ↑(.ref (G6.length+2)) ↑(.ref k) ↑(.ref Ga.length) ↥(told.map bg) v8 ↑(.tup (aq bd')) ↑(.tup (xs.map cV))) Ge=some (⇑(.tup (told.map bg)),(bH sh d ↥(ys.map I.str) ↑(.ref G6.length) ↑(.ref (G6.length+1)) ↑(.ref (G6.length+2)) ↑(.ref k) ↑(.ref Ga.length) ↥(told.map bg) v8 ↑(.tup (aq bd')) ↑(.tup (xs.map cV))),Ge):=by simp! [cA]
  have a5:af (aa 10) ae (bH sh d ↥(ys.map I.str) ↑(.ref G6.length) ↑(.ref (G6.length+1)) ↑(.ref (G6.length+2)) ↑(.ref k) ↑(.ref Ga.length) ↥(told.map bg) v8 ↑(.tup (aq bd')) ↑(.tup (xs.map cV))) Ge=some ([⇑(.tup (aq bd'))],(bH sh d ↥(ys.map I.str) ↑(.ref G6.length) ↑(.ref (G6.length+1)) ↑(.ref (G6.length+2)) ↑(.ref k) ↑(.ref Ga.length) ↥(told.map bg) v8 ↑(.tup (aq bd')) ↑(.tup (xs.map cV))),Ge):=by simp! []
  refine av (a:=[⇑(.tup (xs.map cV)),⇑(.tup (zs.map cV)),⇑(.tup (told.map bg)),⇑(.tup (aq bd'))]) (Z1:=(bH sh d ↥(ys.map I.str) ↑(.ref G6.length) ↑(.ref (G6.length+1)) ↑(.ref (G6.length+2)) ↑(.ref k) ↑(.ref Ga.length) ↥(told.map bg) v8 ↑(.tup (aq bd')) ↑(.tup (xs.map cV)))) (G1:=Ge) (av (show aa 11 (bH sh d ↥(ys.map I.str) ↑(.ref G6.length) ↑(.ref (G6.length+1)) ↑(.ref (G6.length+2)) ↑(.ref k) ↑(.ref Ga.length) ↥(told.map bg) v8 ↑(.tup (aq bd')) ↑(.tup (xs.map cV))) Gd=some (⇑(.tup (xs.map cV)),(bH sh d ↥(ys.map I.str) ↑(.ref G6.length) ↑(.ref (G6.length+1)) ↑(.ref (G6.length+2)) ↑(.ref k) ↑(.ref Ga.length) ↥(told.map bg) v8 ↑(.tup (aq bd')) ↑(.tup (xs.map cV))),Gd) from rfl) (av (av a3 (av (av a4 (av a5 rfl)) rfl)) rfl)) ?_
  simp! [Pg.i]
 ·have e1:S.cs=xs.map (·.1):=by rw [hS];exact fx.symm
  have e2:S.rs=zs.map (·.1):=by rw [hS];exact fz.symm
  have e3:S.ds=told.map (·.1):=ef.symm
  have l1:xs.length=cs.length:=by have:=congrArg List.length fx;rw [z12] at this;exact this
  have l2:zs.length=rs.length:=by have:=congrArg List.length fz;rw [z12] at this;exact this
  have l3:told.length=ds.length:=by have:=congrArg List.length ef;rw [z12,hS] at this;exact this
  exact⟨by show 0<xs.length;lia,by show (xs.map (·.1)).Nodup;rw [<- e1,hS];show cs.Nodup;rw [hcs];exact (List.take_sublist _ _).nodup ynd,by show (zs.map (·.1)).Nodup;rw [<- e2,hS];exact sr.nodup ynd,by show (told.map (·.1)).Nodup;rw [<- e3,hS];exact sd.nodup ynd,⟨by show xs.length≤24;lia,by show zs.length≤24;lia,by show told.length≤24;lia⟩,hx,hz,λq hq=>⟨iU e1 e2 e3 _ (hp q hq).1,(hp q hq).2⟩,⟨iU e1 e2 e3 _ kc,dc,lenc⟩,hs,nc⟩
end
section
set_option maxHeartbeats 400000
abbrev Tm.us:Tm->List (Str×Str)
 | .num _=>[]
 | .cell x=>[("cell",x)]
 | .at_ r t=>("at",r)::t.us
 | .op _ a b=>a.us++b.us
mutual
noncomputable def Sm.us:Sm->List (Str×Str)
 | .set x t=>("cell",x)::t.us
 | .put r a b=>("at",r)::(a.us++b.us)
 | .call f=>[("call",f)]
 | .wh t b=>t.us++bh b
 | .ite t b c=>t.us++(bh b++bh c)
noncomputable def bh:List Sm->List (Str×Str)
 | []=>[]
 | s::b=>s.us++bh b
end
abbrev eR(nm x:Str)(l:Int):Str:=if l-1=-1 then nm else x
abbrev wT(nm:Str):Tm->Int->Tm
 | .num w,_=>.num w
 | .cell x,l=>.cell (eR nm x l)
 | .at_ r t,l=>.at_ (eR nm r l) (wT nm t (l-1))
 | .op s a b,l=>.op s (wT nm a l) (wT nm b (l-a.us.length))
mutual
noncomputable def wS(nm:Str):Sm->Int->Sm
 | .set x t,l=>.set (eR nm x l) (wT nm t (l-1))
 | .put r a b,l=>.put (eR nm r l) (wT nm a (l-1)) (wT nm b (l-1-a.us.length))
 | .call f,l=>.call (eR nm f l)
 | .wh t b,l=>.wh (wT nm t l) (wB nm b (l-t.us.length))
 | .ite t b c,l=>.ite (wT nm t l) (wB nm b (l-t.us.length)) (wB nm c (l-t.us.length-(bh b).length))
noncomputable def wB(nm:Str):List Sm->Int->List Sm
 | [],_=>[]
 | s::b,l=>wS nm s l::wB nm b (l-s.us.length)
end
theorem dC(nm:Str):∀(t:Tm) (l:Int),(wT nm t l).us.length=t.us.length
 | .num _,_=>rfl
 | .cell _,_=>rfl
 | .at_ _ t,l=>by rw [wT,Tm.us,Tm.us,z10,z10,dC nm t]
 | .op _ a b,l=>by rw [wT,Tm.us,Tm.us,za,za,dC nm a,dC nm b]
theorem dE(nm:Str):∀(t:Tm) (l:Int),(wT nm t l).size=t.size
 | .num _,_=>rfl
 | .cell _,_=>rfl
 | .at_ _ t,l=>by rw [wT,Tm.size,Tm.size,dE nm t]
 | .op _ a b,l=>by rw [wT,Tm.size,Tm.size,dE nm a,dE nm b]
mutual
theorem Gm(nm:Str):∀(s:Sm) (l:Int),(wS nm s l).us.length=s.us.length
 | .set _ t,l=>by rw [wS,Sm.us,Sm.us,z10,z10,dC nm t]
 | .put _ a b,l=>by rw [wS,Sm.us,Sm.us,z10,z10,za,za,dC nm a,dC nm b]
 | .call _,l=>by rw [wS,Sm.us,Sm.us];rfl
 | .wh t b,l=>by rw [wS,Sm.us,Sm.us,za,za,dC nm t,hV nm b]
 | .ite t b c,l=>by rw [wS,Sm.us,Sm.us,za,za,za,za,dC nm t,hV nm b,hV nm c]
theorem hV(nm:Str):∀(b:List Sm) (l:Int),(bh (wB nm b l)).length=(bh b).length
 | [],_=>by rw [wB]
 | s::b,l=>by rw [wB,bh,bh,za,za,Gm nm s,hV nm b]
end
def kd{nm x:Str}{l:Int}(h:l<0):eR nm x l=x:=if_neg (by lia)
theorem gx(nm:Str):∀(t:Tm) (l:Int),l<0->wT nm t l=t
 | .num _,_,_=>rfl
 | .cell _,_,h=>by rw [wT,kd h]
 | .at_ _ t,l,h=>by rw [wT,kd h,gx nm t _ (by lia)]
 | .op _ a b,l,h=>by rw [wT,gx nm a _ h,gx nm b _ (by lia)]
mutual
theorem wM(nm:Str):∀(s:Sm) (l:Int),l<0->wS nm s l=s
 | .set _ t,l,h=>by rw [wS,kd h,gx nm t _ (by lia)]
 | .put _ a b,l,h=>by rw [wS,kd h,gx nm a _ (by lia),gx nm b _ (by lia)]
 | .call _,l,h=>by rw [wS,kd h]
 | .wh t b,l,h=>by rw [wS,gx nm t _ h,iV nm b _ (by lia)]
 | .ite t b c,l,h=>by rw [wS,gx nm t _ h,iV nm b _ (by lia),iV nm c _ (by lia)]
theorem iV(nm:Str):∀(b:List Sm) (l:Int),l<0->wB nm b l=b
 | [],_,_=>by rw [wB]
 | s::b,l,h=>by rw [wB,wM nm s _ h,iV nm b _ (by lia)]
end
mutual
noncomputable def Sm.sh:Sm->Prop
 | .set _ t=>t.size≤20
 | .put _ a b=>a.size≤20/\b.size≤20
 | .call _=>True
 | .wh t b=>t.size≤20/\bV b
 | .ite t b c=>t.size≤20/\bV b/\bV c
noncomputable def bV:List Sm->Prop
 | []=>True
 | s::b=>s.sh/\bV b
end
mutual
theorem wN{S:Scn}:∀(s:Sm),s.ok S->s.sh
 | .set _ t,h=>by rw [Sm.ok] at h;rw [Sm.sh];exact h.2.2.1
 | .put _ a b,h=>by rw [Sm.ok] at h;rw [Sm.sh];exact⟨h.2.2.2.1.1,h.2.2.2.2.1⟩
 | .call _,_=>by rw [Sm.sh];trivial
 | .wh t b,h=>by rw [Sm.ok] at h;rw [Sm.sh];exact⟨h.2.1.1,iW b h.2.2⟩
 | .ite t b c,h=>by rw [Sm.ok] at h;rw [Sm.sh];exact⟨h.2.1.1,iW b h.2.2.1,iW c h.2.2.2⟩
theorem iW{S:Scn}:∀(b:List Sm),aY S b->bV b
 | [],_=>by rw [bV];trivial
 | s::b,h=>by rw [aY] at h;rw [bV];exact⟨wN s h.1,iW b h.2⟩
end
mutual
theorem wO(nm:Str):∀(s:Sm) (l:Int),s.sh->(wS nm s l).sh
 | .set _ t,l,h=>by rw [Sm.sh] at h;rw [wS,Sm.sh,dE];exact h
 | .put _ a b,l,h=>by rw [Sm.sh] at h;rw [wS,Sm.sh,dE,dE];exact h
 | .call _,l,h=>by rw [wS,Sm.sh];trivial
 | .wh t b,l,h=>by rw [Sm.sh] at h;rw [wS,Sm.sh,dE];exact⟨h.1,iX nm b _ h.2⟩
 | .ite t b c,l,h=>by rw [Sm.sh] at h;rw [wS,Sm.sh,dE];exact⟨h.1,iX nm b _ h.2.1,iX nm c _ h.2.2⟩
theorem iX(nm:Str):∀(b:List Sm) (l:Int),bV b->bV (wB nm b l)
 | [],_,_=>by rw [wB,bV];trivial
 | s::b,l,h=>by rw [bV] at h;rw [wB,bV];exact⟨wO nm s _ h.1,iX nm b _ h.2⟩
end
mutual
theorem Gn(nm:Str):∀(s:Sm) (l:Int),(wS nm s l).n=s.n
 | .set _ t,l=>by rw [wS,Sm.n,Sm.n,dE]
 | .put _ a b,l=>by rw [wS,Sm.n,Sm.n,dE,dE]
 | .call _,l=>by rw [wS,Sm.n,Sm.n]
 | .wh t b,l=>by rw [wS,Sm.n,Sm.n,dE,iY nm b]
 | .ite t b c,l=>by rw [wS,Sm.n,Sm.n,dE,iY nm b,iY nm c]
theorem iY(nm:Str):∀(b:List Sm) (l:Int),aR (wB nm b l)=aR b
 | [],_=>by rw [wB]
 | s::b,l=>by rw [wB,aR,aR,Gn nm s,iY nm b]
end
mutual
theorem Gp(nm:Str):∀(s:Sm) (l:Int),(wS nm s l).deep=s.deep
 | .set _ t,l=>by rw [wS,mm,mm]
 | .put _ a b,l=>by rw [wS,mn,mn]
 | .call _,l=>by rw [wS,zu,zu]
 | .wh t b,l=>by rw [wS,Sm.deep,Sm.deep,iZ nm b]
 | .ite t b c,l=>by rw [wS,Sm.deep,Sm.deep,iZ nm b,iZ nm c]
theorem iZ(nm:Str):∀(b:List Sm) (l:Int),cy (wB nm b l)=cy b
 | [],_=>by rw [wB]
 | s::b,l=>by rw [wB,cy,cy,Gp nm s,iZ nm b]
end
theorem mq(nm:Str):∀(b:List Sm) (l:Int),(wB nm b l).length=b.length
 | [],_=>by rw [wB]
 | s::b,l=>by rw [wB,z10,z10,mq nm b]
abbrev ck:List (Str×List Sm)->List (Str×Str)
 | []=>[]
 | q::r=>bh q.2++ck r
abbrev wD(nm:Str):List (Str×List Sm)->Int->List (Str×List Sm)
 | [],_=>[]
 | q::r,l=>(q.1,wB nm q.2 l)::wD nm r (l-(bh q.2).length)
abbrev Pg.us(p:Pg):List (Str×Str):=ck p.defs++bh p.body
abbrev wP(nm:Str)(p:Pg)(l:Int):Pg:=⟨p.cells,p.rows,wD nm p.defs l,wB nm p.body (l-(ck p.defs).length)⟩
theorem wQ(nm:Str):∀(q:List (Str×List Sm)) (l:Int),l<0->wD nm q l=q
 | [],_,_=>rfl
 | q::r,l,h=>by rw [wD,iV nm _ _ h,wQ nm r _ (by lia)]
def wR{nm:Str}{p:Pg}{l:Int}(h:l<0):wP nm p l=p:=by
 unfold wP
 rw [wQ nm _ _ h,iV nm _ _ (by lia)]
structure Pg.Sh(p:Pg):Prop where
 c1:p.cells.length≤24/\p.rows.length≤24/\p.defs.length≤24
 ds:∀q∈p.defs,bV q.2/\cy q.2≤4/\q.2.length≤1001
 bo:bV p.body/\cy p.body≤4/\p.body.length≤1001
 n1:(p.defs.map λq=>aR q.2).sum≤294
 n2:aR p.body≤484
def Pg.Ok.sh{p:Pg}(h:p.Ok):p.Sh:=⟨h.c1,λq hq=>⟨iW _ (h.ds q hq).1,(h.ds q hq).2.1,by have:=(h.ds q hq).2.2;lia⟩,⟨iW _ h.bo.1,h.bo.2⟩,h.n1,h.n2⟩
theorem wU(nm:Str):∀(q:List (Str×List Sm)) (l:Int),(wD nm q l).length=q.length
 | [],_=>rfl
 | q::r,l=>by rw [wD,z10,z10,wU nm r]
theorem wV(nm:Str):∀(q:List (Str×List Sm)) (l:Int),((wD nm q l).map λq=>aR q.2)=q.map λq=>aR q.2
 | [],_=>rfl
 | q::r,l=>by rw [wD,z16,z16,wV nm r,iY]
theorem wW(nm:Str):∀(q:List (Str×List Sm)) (l:Int),∀x∈wD nm q l,∃y∈q,∃k,x=(y.1,wB nm y.2 k)
 | [],_,x,h=>by cases h
 | q::r,l,x,h=>by
  rw [wD] at h
  rcases z1d.mp h with rfl|h
  ·exact⟨q,List.mem_cons_self,_,rfl⟩
  ·obtain⟨y,hy,k,e⟩:=wW nm r _ x h
   exact⟨y,z23 _ hy,k,e⟩
def Pg.Sh.w{p:Pg}(h:p.Sh)(nm:Str)(l:Int):(wP nm p l).Sh:=by
 refine⟨⟨h.c1.1,h.c1.2.1,by show (wD nm p.defs l).length≤24;rw [wU];exact h.c1.2.2⟩,λq hq=>?_,⟨iX nm _ _ h.bo.1,by show cy (wB nm _ _)≤4;rw [iZ];exact h.bo.2.1,by show (wB nm _ _).length≤1001;rw [mq];exact h.bo.2.2⟩,by show ((wD nm p.defs l).map λq=>aR q.2).sum≤294;rw [wV];exact h.n1,by show aR (wB nm _ _)≤484;rw [iY];exact h.n2⟩
 obtain⟨y,hy,k,rfl⟩:=wW nm p.defs l q hq
 have:=h.ds y hy
 exact⟨iX nm _ _ this.1,by rw [iZ];exact this.2.1,by rw [mq];exact this.2.2⟩
theorem gy:∀t:Tm,t.us.length≤t.size
 | .num _=>by rw [Tm.us,Tm.size];simp
 | .cell _=>by rw [Tm.us,Tm.size];simp
 | .at_ _ t=>by rw [Tm.us,Tm.size,z10];have:=gy t;lia
 | .op _ a b=>by rw [Tm.us,Tm.size,za];have:=gy a;have:=gy b;lia
mutual
theorem wX:∀s:Sm,s.us.length≤s.n
 | .set _ t=>by rw [Sm.us,Sm.n,z10];have:=gy t;lia
 | .put _ a b=>by rw [Sm.us,Sm.n,z10,za];have:=gy a;have:=gy b;lia
 | .call _=>by rw [Sm.us,Sm.n];simp
 | .wh t b=>by rw [Sm.us,Sm.n,za];have:=gy t;have:=i0 b;lia
 | .ite t b c=>by rw [Sm.us,Sm.n,za,za];have:=gy t;have:=i0 b;have:=i0 c;lia
theorem i0:∀b:List Sm,(bh b).length≤aR b
 | []=>by rw [bh,aR];simp
 | s::b=>by rw [bh,aR,za];have:=wX s;have:=i0 b;lia
end
theorem yf7:∀q:List (Str×List Sm),(ck q).length≤(q.map λq=>aR q.2).sum
 | []=>by rw [ck];simp
 | q::r=>by rw [ck,za,z16,List.sum_cons];have:=i0 q.2;have:=yf7 r;lia
theorem Pg.Sh.us{p:Pg}(h:p.Sh):p.us.length≤778:=by
 unfold Pg.us
 rw [za]
 have:=yf7 p.defs;have:=i0 p.body;have:=h.n1;have:=h.n2
 lia
end
section
abbrev uI(u:Str×Str):I:=.tup [.str u.1,.str u.2]
abbrev bA(G:List M)(q f:Nat)(l:Int)(us:List (Str×Str)):List M:=(G.set q (.lst [.int l])).set f (.lst (us.map uI))
structure Qf(G:List M)(q f:Nat):Prop where
 ne:q≠f
 hq:q<G.length
 hf:f<G.length
variable {G:List M}{q f:Nat}{l:Int}{us:List (Str×Str)}{nm:Str}
def wY(h:Qf G q f):(bA G q f l us)[q]?=some (.lst [.int l]):=by
 unfold bA;rw [z28 h.ne.symm,List.getElem?_set_self h.hq]
def Gq(h:Qf G q f):(bA G q f l us)[f]?=some (.lst (us.map uI)):=by
 unfold bA;rw [List.getElem?_set_self (by rw [z2c];exact h.hf)]
def wZ(h:Qf G q f)(l':Int):(bA G q f l us).set q (.lst [.int l'])=bA G q f l' us:=by
 unfold bA;rw [List.set_comm _ _ h.ne.symm,List.set_set]
def w8(us':List (Str×Str)):(bA G q f l us).set f (.lst (us'.map uI))=bA G q f l us':=by
 unfold bA;rw [List.set_set]
def kf{s own:Str}(h:Qf G q f)(hl:us.length<1000):m5 [.im (.str s),.im (.str own),.im (.ref q),.im (.str nm),.im (.ref f)] (bA G q f l us)=some (.im (.str (eR nm own l)),bA G q f (l-1) (us++[(s,eR nm own l)])):=by
 obtain⟨t,ht⟩:∃t:Str,t=eR nm own l:=⟨_,rfl⟩
 have hq:=wY (l:=l) (us:=us) h
 have hq1:=wY (l:=l-1) (us:=us) h
 have hf1:=Gq (l:=l-1) (us:=us) h
 refine aL rfl ?_
 refine aj (Z1:=[↑(.str s),↑(.str own),↑(.ref q),↑(.str nm),↑(.ref f),none]) (G1:=bA G q f (l-1) us) ?_ ?_
 ·rw [<- wZ (l:=l) h (l-1)]
  simp! [hq,dj,gD]
 rw [<- ht]
 refine aj (Z1:=[↑(.str s),↑(.str own),↑(.ref q),↑(.str nm),↑(.ref f),↑(.str t)]) (G1:=bA G q f (l-1) us) (bD (x:=.im (.str t)) (Z1:=[↑(.str s),↑(.str own),↑(.ref q),↑(.str nm),↑(.ref f),none]) (G1:=bA G q f (l-1) us) ?_ rfl) ?_
 ·rw [ht]
  unfold eR
  by_cases hz:l-1=-1
  ·rw [if_pos hz,hz]
   rw [hz] at hq1
   simp! [hq1,dj,eB,dO]
  ·rw [if_neg hz]
   have hz':¬ (l=0):=by lia
   simp! [hq1,dj,eB,dO,hz,hz']
 refine aj (Z1:=[↑(.str s),↑(.str own),↑(.ref q),↑(.str nm),↑(.ref f),↑(.str t)]) (G1:=bA G q f (l-1) (us++[(s,t)])) ?_ rfl
 have hl':us.length<1000000:=by lia
 rw [<- w8 (us:=us) (us++[(s,t)])]
 simp! [hf1,uI,hl']
def Gr:((("cell" : Str)) == "op")=false:=by decide +kernel
def Gu:((("cell" : Str)) == "num")=false:=by decide +kernel
def Gv:((("at" : Str)) == "num")=false:=by decide +kernel
def Gw:((("at" : Str)) == "op")=false:=by decide +kernel
def Gx:((("at" : Str)) == "cell")=false:=by decide +kernel
def Gy:((("op" : Str)) == "num")=false:=by decide +kernel
def mv(h:Qf G q f):∀(n:Nat) (t:Tm) (l:Int) (us:List (Str×Str)),t.size≤n->us.length+t.us.length≤900->hG n [.im t.i,.im (.ref q),.im (.str nm),.im (.ref f)] (bA G q f l us)=some (.im (wT nm t l).i,bA G q f (l-t.us.length) (us++(wT nm t l).us)):=by
 intro n
 induction n with
 | zero=>intro t l us hn;cases t<;>simp [Tm.size] at hn
 | succ n ih =>
  intro t l us hn hl
  rw [hG]
  cases t with
  | num w =>
   refine aL rfl ?_
   have e:bA G q f (l-(Tm.num w).us.length) (us++(wT nm (.num w) l).us)=bA G q f l us:=by simp [Tm.us,wT]
   rw [e]
   simp! [Tm.i,wT,dj]
  | cell x =>
   have u:=kf (s:="cell") (own:=x) (nm:=nm) (l:=l) h (us:=us) (by lia)
   refine aL rfl ?_
   have e:bA G q f (l-(Tm.cell x).us.length) (us++(wT nm (.cell x) l).us)=bA G q f (l-1) (us++[(("cell" : Str),eR nm x l)]):=by simp [Tm.us,wT]
   rw [e]
   simp! [Tm.i,wT,dj,eB,Gr,Gu,u]
  | at_ r t =>
   rw [Tm.size] at hn
   rw [Tm.us,z10] at hl
   have u:=kf (s:="at") (own:=r) (nm:=nm) (l:=l) h (us:=us) (by lia)
   have e1:=ih t (l-1) (us++[(("at" : Str),eR nm r l)]) (by lia) (by simp;lia)
   refine aL rfl ?_
   have e:bA G q f (l-(Tm.at_ r t).us.length) (us++(wT nm (.at_ r t) l).us)=bA G q f (l-1-t.us.length) (us++[(("at" : Str),eR nm r l)]++(wT nm t (l-1)).us):=by
    rw [wT,Tm.us,Tm.us,z10,z20,z34];congr 1;lia
   rw [e]
   simp! [Tm.i,wT,dj,eB,mi,Gv,Gw,Gx,u,e1]
  | op s a b =>
   rw [Tm.size] at hn
   rw [Tm.us,za] at hl
   have e1:=ih a l us (by lia) (by lia)
   have e2:=ih b (l-a.us.length) (us++(wT nm a l).us) (by lia) (by rw [za,dC];lia)
   refine aL rfl ?_
   have e:bA G q f (l-(Tm.op s a b).us.length) (us++(wT nm (.op s a b) l).us)=bA G q f (l-a.us.length-b.us.length) (us++(wT nm a l).us++(wT nm b (l-a.us.length)).us):=by
    rw [wT,Tm.us,Tm.us,za,z20];congr 1;lia
   rw [e]
   simp! [Tm.i,wT,dj,eB,mi,wq,Gy,e1,e2]
end
section
theorem xc{α:Type}{f:α->I}{xs:List α}{e:Ev}{g:GF}{b:SF}(P:List α->De->List M->Prop)(hs:∀pre Z G,P pre Z G->sq Z G e=some (xs.map f))
  (step:∀pre x post Z G,xs=pre++x::post->P pre Z G->∃Z1 G1 Z2 G2,g (.im (f x)) Z G=some (Z1,G1)/\(b Z1 G1=some (.nx Z2 G2)∨b Z1 G1=some (.ct Z2 G2))/\P (pre++[x]) Z2 G2) :
  ∀(post pre:List α) {Z:De} {G:List M},xs=pre++post->P pre Z G->∃Z' G',aW (a7 e xs.length) g b pre.length post.length Z G=some (.nx Z' G')/\P xs Z' G'
 | [],pre,Z,G,hx,h=>by
  refine⟨Z,G,?_,by rw [hx,z11];exact h⟩
  show aW _ g b pre.length 0 Z G=_
  unfold aW a7
  simp [hs pre Z G h]
 | x::post,pre,Z,G,hx,h=>by
  obtain⟨Z1,G1,Z2,G2,h1,h2,h3⟩:=step pre x post Z G hx h
  obtain⟨Z',G',e1,h4⟩:=xc P hs step post (pre++[x]) (by rw [hx];simp) h3
  refine⟨Z',G',?_,h4⟩
  show aW _ g b pre.length (post.length+1) Z G=_
  have ha:(a7 e xs.length).at_ pre.length Z G=some (f x):=by
   show (sq Z G e).bind (·[pre.length]?)=_
   rw [hs pre Z G h]
   show (xs.map f)[pre.length]?=_
   rw [hx];simp
  unfold aW
  rw [ha];dsimp only;rw [h1];dsimp only
  rw [za] at e1
  rcases h2 with h2|h2<;>(rw [h2];exact e1)
theorem xf{α:Type}{f:α->I}{xs:List α}{e:Ev}{c:I->Option (List I)}{te:Mo Ev}{di Z:De}(P:List α->List I->List M->Prop)(hs:∀pre acc G,P pre acc G->sq Z G e=some (xs.map f))
  (step:∀pre x post acc G,xs=pre++x::post->P pre acc G->∃ds y Zb Gb,c (f x)=some ds/\te ((ds.map λd=>some (Vl.im d))++di) G=some (⇑y,Zb,Gb)/\P (pre++[x]) (acc++[y]) Gb) :
  ∀(post pre:List α) {acc:List I} {G:List M},xs=pre++post->P pre acc G->∃ds G',dI (a7 e xs.length) c bf te di pre.length post.length acc Z G=some (ds,G')/\P xs ds G'
 | [],pre,acc,G,hx,h=>by
  refine⟨acc,G,?_,by rw [hx,z11];exact h⟩
  show dI _ c bf te di pre.length 0 acc Z G=_
  unfold dI a7
  simp [hs pre acc G h]
 | x::post,pre,acc,G,hx,h=>by
  obtain⟨ds,y,Zb,Gb,h1,h2,h3⟩:=step pre x post acc G hx h
  obtain⟨ds',G',e1,h4⟩:=xf P hs step post (pre++[x]) (by rw [hx];simp) h3
  refine⟨ds',G',?_,h4⟩
  show dI _ c bf te di pre.length (post.length+1) acc Z G=_
  have ha:(a7 e xs.length).at_ pre.length Z G=some (f x):=by
   show (sq Z G e).bind (·[pre.length]?)=_
   rw [hs pre acc G h]
   show (xs.map f)[pre.length]?=_
   rw [hx];simp
  unfold dI
  rw [ha];dsimp only;rw [h1];dsimp only [bf,rt];rw [h2]
  rw [za] at e1
  exact e1
def fN{fe:Mo Ev}{xs:List I}{n:Nat}{Z Z1:De}{G G1:List M}(h:fe Z G=some (⇑(.tup xs),Z1,G1))(hn:xs.length=n):bG (one fe) aT Z G=some (a7 ⇑(.tup xs) n,[⇑(.tup xs)],Z1,G1):=by
 subst hn
 exact pA (av h rfl) rfl
abbrev bY(G G':List M):Prop:=∃T,G'=G++T
def bY.refl(G:List M):bY G G:=⟨[],by simp⟩
def bY.trans{G G1 G2:List M}(a:bY G G1)(b:bY G1 G2):bY G G2:=by obtain⟨s,rfl⟩:=a;obtain⟨t,rfl⟩:=b;exact⟨s++t,by simp⟩
def bY.app(G T:List M):bY G (G++T):=⟨T,rfl⟩
def bY.at_{G G':List M}{k:Nat}{m:M}(e:bY G G')(h:G[k]?=some m):G'[k]?=some m:=by
 obtain⟨t,rfl⟩:=e
 rw [z1a (z14.mp h).1];exact h
def bY.mor{G G':List M}{g s:Nat}(e:bY G G'):Mor g s G G':=by obtain⟨t,rfl⟩:=e;exact Mor.app t
def cW{w:Wk}{g:GF}{b:SF}{i r:Nat}{Z Z1 Z2:De}{G G1 G2:List M}{d:I}{R:Option Fl}(h1:w.at_ i Z G=some d)(h2:g (.im d) Z G=some (Z1,G1))(h3:b Z1 G1=some (.nx Z2 G2))(h4:aW w g b (i+1) r Z2 G2=R):aW w g b i (r+1) Z G=R:=by
 unfold aW
 rw [h1];dsimp only;rw [h2];dsimp only;rw [h3];exact h4
def eS{w:Wk}{g:GF}{b:SF}{i:Nat}{Z:De}{G:List M}(h:w.fin Z G=true):aW w g b i 0 Z G=some (.nx Z G):=by
 unfold aW;rw [h];rfl
theorem mw:∀(a b:List Sm),bh (a++b)=bh a++bh b
 | [],_=>by rw [z29,bh,z29]
 | s::a,b=>by rw [z2a,bh,bh,mw a b,z20]
theorem pI(nm:Str):∀(a b:List Sm) (l:Int),wB nm (a++b) l=wB nm a l++wB nm b (l-(bh a).length)
 | [],_,l=>by rw [z29,wB,z29,bh];simp
 | s::a,b,l=>by
  rw [z2a,wB,wB,pI nm a b,z2a,bh,za]
  congr 3;lia
def Gz:∀s:Sm,1≤s.n
 | .set _ t=>by rw [Sm.n];lia
 | .put _ a b=>by rw [Sm.n];lia
 | .call _=>by rw [Sm.n];lia
 | .wh t b=>by rw [Sm.n];lia
 | .ite t b c=>by rw [Sm.n];lia
theorem mx:∀b:List Sm,b.length≤aR b
 | []=>by rw [aR];simp
 | s::b=>by rw [aR,z10];have:=mx b;have:=Gz s;lia
theorem kg:∀b:List Sm,aq b=b.map Sm.i
 | []=>by rw [aq];rfl
 | s::b=>by rw [aq,z16,kg b]
def GA:((("put" : Str)) == "set")=false:=by decide +kernel
def GB:((("call" : Str)) == "set")=false:=by decide +kernel
def GC:((("call" : Str)) == "put")=false:=by decide +kernel
variable {G:List M}{q f:Nat}{nm:Str}
abbrev pJ(G:List M)(q f:Nat)(nm:Str)(fn:FF)(s:Sm):Prop:=∀(l:Int) (us:List (Str×Str)),us.length+s.us.length≤900->fn [.im s.i,.im (.ref q),.im (.str nm),.im (.ref f)] (bA G q f l us)=some (.im (wS nm s l).i,bA G q f (l-s.us.length) (us++(wS nm s l).us))
abbrev pK(G:List M)(q f:Nat)(nm:Str)(fn:FF)(b:List Sm):Prop:=∀(l:Int) (us:List (Str×Str)),us.length+(bh b).length≤900->fn [.im (.tup (aq b)),.im (.ref q),.im (.str nm),.im (.ref f)] (bA G q f l us)=some (.im (.tup (aq (wB nm b l))),bA G q f (l-(bh b).length) (us++bh (wB nm b l)))
def xg{n:Nat}{b:List Sm}(hb:b.length≤1000)(hs:∀s∈b,pJ G q f nm (fL n) s):pK G q f nm (fM (n+1)) b:=by
 intro l us hl
 rw [fM]
 obtain⟨ds,G',e,ed,eg⟩:=xf (f:=Sm.i) (xs:=b) (e:=⇑(.tup (aq b))) (c:=c1) (te:=bd (af (aa 0) (af (aa 1) (af (aa 2) (af (aa 3) ae)))) (ax 4 (fL n))) (di:=[↑(.ref q),↑(.str nm),↑(.ref f)]) (Z:=[↑(.tup (aq b)),↑(.ref q),↑(.str nm),↑(.ref f)])
  (λpre acc G'=>acc=aq (wB nm pre l)/\G'=bA G q f (l-(bh pre).length) (us++bh (wB nm pre l)))
  (λpre acc g _=>by simp [sq,kg])
  (λpre s post acc g hx zz=>by
   obtain⟨ea,eg⟩:=zz
   have hm:s∈b:=by rw [hx];simp
   have e1:=hs s hm (l-(bh pre).length) (us++bh (wB nm pre l)) (by rw [hx,mw,bh] at hl;simp only [za] at hl ⊢;rw [hV];lia)
   rw [<- eg] at e1
   refine⟨[s.i],(wS nm s (l-(bh pre).length)).i,[↑s.i,↑(.ref q),↑(.str nm),↑(.ref f)],_,rfl,av (a:=[⇑s.i,⇑(.ref q),⇑(.str nm),⇑(.ref f)]) rfl (cC (xs:=[.im s.i,.im (.ref q),.im (.str nm),.im (.ref f)]) rfl rfl e1),?_,?_⟩
   ·rw [ea,pI,iT,wB,wB,aq,aq]
   ·rw [pI,wB,wB,mw,mw,bh,bh,bh,bh,z11,z11,z20,za]
    congr 1;lia)
  b [] (acc:=[]) (G:=bA G q f l us) rfl ⟨by rw [wB,aq],by rw [bh,wB,bh];simp⟩
 refine aL rfl (cG (Z1:=[↑(.tup (aq b)),↑(.ref q),↑(.str nm),↑(.ref f)]) (av (a:=[.v (.ow (.lst (aq (wB nm b l))))]) (av (kH (by rfl) (fN (n:=b.length) rfl (dP b)) (by show b.length≤100000;lia) (by rw [ed] at e;exact e)) rfl) ?_))
 rw [eg]
 have:(aq (wB nm b l)).length≤1000000:=by rw [dP,mq];lia
 simp [cA,sq,pk]
end
section
variable {G:List M}{q f:Nat}{nm:Str}
abbrev s8(x:I)(q f:Nat)(nm:Str)(v4 v5 v6 v7:Option Vl):De:=[↑x,↑(.ref q),↑(.str nm),↑(.ref f),v4,v5,v6,v7]
def my(x:Str)(t:Tm):(Sm.set x t).i=.tup [.str "set",.str x,t.i]:=by rw [Sm.i]
def mz(x:Str)(a b:Tm):(Sm.put x a b).i=.tup [.str "put",.str x,a.i,b.i]:=by rw [Sm.i]
def zx(x:Str):(Sm.call x).i=.tup [.str "call",.str x]:=by rw [Sm.i]
def kh(t:Tm)(b c:List Sm):(Sm.ite t b c).i=.tup [.str "if",t.i,.tup (aq b),.tup (aq c)]:=by rw [Sm.i]
def GD(h:Qf G q f){n:Nat}{x:Str}{t:Tm}(ht:t.size≤20):pJ G q f nm (fL (n+1)) (.set x t):=by
 intro l us hl
 rw [Sm.us,z10] at hl
 have u:=kf (s:="cell") (own:=x) (nm:=nm) (l:=l) h (us:=us) (by lia)
 have e1:=mv (nm:=nm) h 20 t (l-1) (us++[(("cell" : Str),eR nm x l)]) ht (by simp;lia)
 have e:bA G q f (l-(Sm.set x t).us.length) (us++(wS nm (.set x t) l).us)=bA G q f (l-1-t.us.length) (us++[(("cell" : Str),eR nm x l)]++(wT nm t (l-1)).us):=by
  rw [wS,Sm.us,Sm.us,z10,z20,z34];congr 1;lia
 rw [e,fL]
 refine aL rfl ?_
 simp! [my,wS,dj,eB,mi,u,e1]
def GG(h:Qf G q f){n:Nat}{x:Str}{a b:Tm}(ha:a.size≤20)(hb:b.size≤20):pJ G q f nm (fL (n+1)) (.put x a b):=by
 intro l us hl
 rw [Sm.us,z10,za] at hl
 have u:=kf (s:="at") (own:=x) (nm:=nm) (l:=l) h (us:=us) (by lia)
 have e1:=mv (nm:=nm) h 20 a (l-1) (us++[(("at" : Str),eR nm x l)]) ha (by simp;lia)
 have e2:=mv (nm:=nm) h 20 b (l-1-a.us.length) (us++[(("at" : Str),eR nm x l)]++(wT nm a (l-1)).us) hb (by rw [za,dC];simp;lia)
 have e:bA G q f (l-(Sm.put x a b).us.length) (us++(wS nm (.put x a b) l).us)=bA G q f (l-1-a.us.length-b.us.length) (us++[(("at" : Str),eR nm x l)]++(wT nm a (l-1)).us++(wT nm b (l-1-a.us.length)).us):=by
  rw [wS,Sm.us,Sm.us,z10,za,z20,z20,z34];congr 1;lia
 rw [e,fL]
 obtain⟨G1,hG1⟩:∃G1,G1=bA G q f (l-1) (us++[(("at" : Str),eR nm x l)]):=⟨_,rfl⟩
 obtain⟨G2,hG2⟩:∃G2,G2=bA G q f (l-1-a.us.length) (us++[(("at" : Str),eR nm x l)]++(wT nm a (l-1)).us):=⟨_,rfl⟩
 rw [<- hG1] at u e1
 rw [<- hG2] at e1 e2
 refine aL rfl ?_
 simp! [mz,wS,dj,eB,mi,wq,GA,u,e1,e2]
def GH(h:Qf G q f){n:Nat}{x:Str}:pJ G q f nm (fL (n+1)) (.call x):=by
 intro l us hl
 rw [Sm.us] at hl
 have u:=kf (s:="call") (own:=x) (nm:=nm) (l:=l) h (us:=us) (by simp at hl;lia)
 have e:bA G q f (l-(Sm.call x).us.length) (us++(wS nm (.call x) l).us)=bA G q f (l-1) (us++[(("call" : Str),eR nm x l)]):=by
  rw [wS,Sm.us,Sm.us];rfl
 rw [e,fL]
 refine aL rfl ?_
 simp! [zx,wS,dj,eB,GB,GC,u]
def GI{x y:I}{r:List I}:dz (x::y::r) (some 2) none=r:=by
 unfold dz
 rw [show (2:Int)=((2:Nat):Int) from rfl,HT.y363,HT.y364]
 simp
def xh{x y:I}{r:List I}{Z:De}{G:List M}(h:aa 0 Z G=some (⇑(.tup (x::y::r)),Z,G)):a8 (aa 0) (aX (ag (.int 2))) a6 Z G=some (⇑(.tup r),Z,G):=by
 refine av h (av (m:=aX (ag (.int 2))) (a:=[⇑(.int 2)]) rfl (av (m:=a6) (a:=[]) rfl ?_))
 show some (Ev.v (Vl.im (I.tup (dz (x::y::r) (some 2) none))),Z,G)=_
 rw [GI]
abbrev xj(n:Nat):SF:=cL (gn ip (aa 5) (af (bd (af (aa 7) (af (aa 1) (af (aa 2) (af (aa 3) ae)))) (ax 4 (fM n))) ae))
def pL{n:Nat}{x:I}{b:List Sm}{xs:List I}{v4 v6:Option Vl}{l:Int}{us:List (Str×Str)}(hb:pK G q f nm (fM n) b)(hl:us.length+(bh b).length≤900)(hx:xs.length≤10) :
  xj n (s8 x q f nm v4 ↥xs v6 ↑(.tup (aq b))) (bA G q f l us)=some (.nx (s8 x q f nm v4 ↥(xs++[.tup (aq (wB nm b l))]) v6 ↑(.tup (aq b))) (bA G q f (l-(bh b).length) (us++bh (wB nm b l)))):=by
 have e:=hb l us hl
 have h1:xs.length<1000000:=by lia
 refine wb (e:=⇑.non) (y90 (e:=.s 5) (Z1:=s8 x q f nm v4 ↥xs v6 ↑(.tup (aq b))) (G1:=bA G q f l us) rfl rfl (av (a:=⇑(.tup (aq (wB nm b l)))) (Z1:=s8 x q f nm v4 ↥xs v6 ↑(.tup (aq b))) (av (a:=[⇑(.tup (aq b)),⇑(.ref q),⇑(.str nm),⇑(.ref f)]) rfl (cC (xs:=[.im (.tup (aq b)),.im (.ref q),.im (.str nm),.im (.ref f)]) rfl rfl e)) rfl) ?_)
 simp [ip,pk,ik,s8,h1]
def xk(h:Qf G q f){n:Nat}{w:Str}{t:Tm}{r:List I}(ht:t.size≤20)(h1:(w == ("set" : Str))=false)(h2:(w == ("put" : Str))=false)(h3:(w == ("call" : Str))=false){l:Int}{us:List (Str×Str)}(hl:us.length+t.us.length≤900){v5 v7:List I}{vz:Option Vl}{G':List M}
  (hf:bC (bG (one (a8 (aa 0) (aX (ag (.int 2))) a6)) aT) (aB 7) (xj n) (s8 (.tup (.str w::t.i::r)) q f nm ↑(.str w) ↥[.str w,(wT nm t l).i] none none) (bA G q f (l-t.us.length) (us++(wT nm t l).us))=some (.nx (s8 (.tup (.str w::t.i::r)) q f nm ↑(.str w) ↥(.str w::(wT nm t l).i::v7) none vz) G')) :
  fL (n+1) [.im (.tup (.str w::t.i::r)),.im (.ref q),.im (.str nm),.im (.ref f)] (bA G q f l us)=some (.im (.tup (.str w::(wT nm t l).i::v7)),G'):=by
 have e1:=mv (nm:=nm) h 20 t l us ht hl
 obtain⟨D,hD⟩:∃D,D=s8 (.tup (.str w::t.i::r)) q f nm ↑(.str w) none none none:=⟨_,rfl⟩
 have hw:ah ak (aa 0) (ag (.int 0)) (s8 (.tup (.str w::t.i::r)) q f nm none none none none) (bA G q f l us)=some (⇑(.str w),s8 (.tup (.str w::t.i::r)) q f nm none none none none,bA G q f l us):=by
  refine aH (x:=⇑(.tup (.str w::t.i::r))) (y:=⇑(.int 0)) rfl rfl ?_
  simp [ak,bX,dY,sq,pk,dj]
 have ne:∀{z:Str},(w == z)=false->ao (ah bQ (aa 4) (ag (.str z))) D (bA G q f l us)=some (false,D,bA G q f l us):=λ{z} hz=>by
  rw [hD]
  refine dB (aH (x:=⇑(.str w)) (y:=⇑(.str z)) rfl rfl ?_)
  simp [bQ,mZ,oi,gW,ja,cT,b6,hz]
 rw [fL]
 refine aL rfl (aj (Z1:=D) (G1:=bA G q f l us) (bD hw (by rw [hD];rfl)) (aj (aN (ne h1) rfl) (aj (aN (ne h2) rfl) (aj (aN (ne h3) rfl) (aj (Z1:=s8 (.tup (.str w::t.i::r)) q f nm ↑(.str w) ↥[.str w,(wT nm t l).i] none none) (G1:=bA G q f (l-t.us.length) (us++(wT nm t l).us)) (bD (x:=.ow (.lst [.str w,(wT nm t l).i])) (Z1:=D) ?_ (by rw [hD];rfl)) (aj hf (cG (Z1:=s8 (.tup (.str w::t.i::r)) q f nm ↑(.str w) ↥(.str w::(wT nm t l).i::v7) none vz) ?_)))))))
 ·rw [hD]
  have a1:ah ak (aa 0) (ag (.int 1)) (s8 (.tup (.str w::t.i::r)) q f nm ↑(.str w) none none none) (bA G q f l us)=some (⇑t.i,s8 (.tup (.str w::t.i::r)) q f nm ↑(.str w) none none none,bA G q f l us):=by
   refine aH (x:=⇑(.tup (.str w::t.i::r))) (y:=⇑(.int 1)) rfl rfl ?_
   simp [ak,bX,dY,sq,pk,eB]
  exact av (av (a:=⇑(.str w)) rfl (av (av (av (av a1 (av (a:=[⇑(.ref q),⇑(.str nm),⇑(.ref f)]) rfl rfl)) (cC (xs:=[.im t.i,.im (.ref q),.im (.str nm),.im (.ref f)]) rfl rfl e1)) rfl) rfl)) rfl
 ·simp! [s8,cA]
def GJ:((("while" : Str)) == "set")=false:=by decide +kernel
def GK:((("while" : Str)) == "put")=false:=by decide +kernel
def GL:((("while" : Str)) == "call")=false:=by decide +kernel
def GN:((("if" : Str)) == "set")=false:=by decide +kernel
def GO:((("if" : Str)) == "put")=false:=by decide +kernel
def GP:((("if" : Str)) == "call")=false:=by decide +kernel
def xl(h:Qf G q f){n:Nat}{t:Tm}{b:List Sm}(ht:t.size≤20)(hb:pK G q f nm (fM n) b):pJ G q f nm (fL (n+1)) (.wh t b):=by
 intro l us hl
 rw [Sm.us,za] at hl
 have e:bA G q f (l-(Sm.wh t b).us.length) (us++(wS nm (.wh t b) l).us)=bA G q f (l-t.us.length-(bh b).length) (us++(wT nm t l).us++bh (wB nm b (l-t.us.length))):=by
  rw [wS,Sm.us,Sm.us,za,z20];congr 1;lia
 rw [e,hU,wS,hU]
 refine xk (v7:=[.tup (aq (wB nm b (l-t.us.length)))]) (v5:=[]) h ht GJ GK GL (by lia) (b8 (fN (n:=1) (xh rfl) rfl) (cW (d:=.tup (aq b)) rfl rfl (pL hb (by rw [za,dC];lia) (by simp)) (eS rfl)))
def GQ(h:Qf G q f){n:Nat}{t:Tm}{b c:List Sm}(ht:t.size≤20)(hb:pK G q f nm (fM n) b)(hc:pK G q f nm (fM n) c):pJ G q f nm (fL (n+1)) (.ite t b c):=by
 intro l us hl
 rw [Sm.us,za,za] at hl
 have e:bA G q f (l-(Sm.ite t b c).us.length) (us++(wS nm (.ite t b c) l).us)=bA G q f (l-t.us.length-(bh b).length-(bh c).length) (us++(wT nm t l).us++bh (wB nm b (l-t.us.length))++bh (wB nm c (l-t.us.length-(bh b).length))):=by
  rw [wS,Sm.us,Sm.us,za,za,z20,z20];congr 1;lia
 rw [e,kh,wS,kh]
 refine xk (v7:=[.tup (aq (wB nm b (l-t.us.length))),.tup (aq (wB nm c (l-t.us.length-(bh b).length)))]) (v5:=[]) h ht GN GO GP (by lia) (b8 (fN (n:=2) (xh rfl) rfl) (cW (d:=.tup (aq b)) rfl rfl (pL hb (by rw [za,dC];lia) (by simp)) (cW (d:=.tup (aq c)) rfl rfl (pL hc (by rw [za,za,dC,hV];lia) (by simp)) (eS rfl))))
def GR(h:Qf G q f):∀n:Nat,(∀s:Sm,s.sh->s.n≤1000->2*s.deep≤n->pJ G q f nm (fL n) s)/\(∀b:List Sm,bV b->aR b≤1000->2*cy b+1≤n->pK G q f nm (fM n) b):=by
 intro n
 induction n with
 | zero =>
  refine⟨λs _ _ hd=>?_,λb _ _ hd=>by lia⟩
  cases s with
  | set x t=>rw [mm] at hd;lia
  | put x a b=>rw [mn] at hd;lia
  | call x=>rw [zu] at hd;lia
  | wh t b=>rw [Sm.deep] at hd;lia
  | ite t b c=>rw [Sm.deep] at hd;lia
 | succ n ih =>
  refine⟨λs hs hn hd=>?_,λb hb hn hd=>xg (by have:=mx b;lia) λs hm=>?_⟩
  ·cases s with
   | set x t=>rw [Sm.sh] at hs;exact GD h hs
   | put x a b=>rw [Sm.sh] at hs;exact GG h hs.1 hs.2
   | call x=>exact GH h
   | wh t b=>rw [Sm.sh] at hs;rw [Sm.deep] at hd;rw [Sm.n] at hn;exact xl h hs.1 (ih.2 b hs.2 (by lia) (by lia))
   | ite t b c=>rw [Sm.sh] at hs;rw [Sm.deep] at hd;rw [Sm.n] at hn;exact GQ h hs.1 (ih.2 b hs.2.1 (by lia) (by lia)) (ih.2 c hs.2.2 (by lia) (by lia))
  ·have key:∀(b:List Sm),bV b->s∈b->s.sh/\s.n≤aR b/\s.deep≤cy b:=by
    intro b
    induction b with
    | nil=>intro _ hm;cases hm
    | cons x b ihb =>
     intro hb hm
     rw [bV] at hb
     rw [aR,cy]
     rcases z1d.mp hm with rfl|hm
     ·exact⟨hb.1,by lia,by lia⟩
     ·obtain⟨a1,a2,a3⟩:=ihb hb.2 hm
      exact⟨a1,by lia,by lia⟩
   obtain⟨a1,a2,a3⟩:=key b hb hm
   exact ih.1 s a1 (by lia) (by lia)
end
section
variable {G:List M}{nm:Str}
theorem pM:∀{l:List Nat} {x:Nat},x∈l->x≤l.sum
 | a::l,x,h=>by
  rw [List.sum_cons]
  rcases z1d.mp h with rfl|h
  ·lia
  ·have:=pM h;lia
def xm(l:Int)(us:List (Str×Str))(x y:M):bA (G++[x,y]) G.length (G.length+1) l us=G++[.lst [.int l],.lst (us.map uI)]:=by
 unfold bA
 rw [List.set_append_right _ _ (zf _),Nat.sub_self,List.set_append_right _ _ (by lia)]
 simp
def GS(x y:M):Qf (G++[x,y]) G.length (G.length+1):=⟨by lia,by simp,by simp⟩
theorem pN(nm:Str):∀(a b:List (Str×List Sm)) (l:Int),wD nm (a++b) l=wD nm a l++wD nm b (l-(ck a).length)
 | [],_,l=>by rw [z29,wD,z29,ck];simp
 | s::a,b,l=>by
  rw [z2a,wD,wD,pN nm a b,z2a,ck,za]
  congr 3;lia
theorem zy:∀(a b:List (Str×List Sm)),ck (a++b)=ck a++ck b
 | [],_=>by rw [z29,ck,z29]
 | s::a,b=>by rw [z2a,ck,ck,zy a b,z20]
theorem GU(nm:Str):∀(q:List (Str×List Sm)) (l:Int),(ck (wD nm q l)).length=(ck q).length
 | [],_=>rfl
 | q::r,l=>by rw [wD,ck,ck,za,za,hV,GU nm r]
abbrev ki(p:Pg)(k:Int)(nm:Str)(v7 v8 v9:Option Vl):De:=[↑p.i,↑(.int k),↑(.str nm),↑(.tup (p.cells.map cV)),↑(.tup (p.rows.map cV)),↑(.tup (p.defs.map bg)),↑(.tup (aq p.body)),v7,v8,v9]
def pO{p:Pg}{k:Int}(hp:p.Sh):kG [.im p.i,.im (.int k),.im (.str nm)] G=some (.im (.tup [(wP nm p k).i,.ref (G.length+1)]),G++[.lst [.int (k-p.us.length)],.lst ((wP nm p k).us.map uI)]):=by
 have hu:=hp.us
 have hn1:=hp.n1
 unfold Pg.us at hu
 rw [za] at hu
 have Q:=GS (G:=G) (.lst [.int k]) (.lst [])
 obtain⟨B0,hB⟩:∃B0:List M,B0=G++[.lst [.int k],.lst []]:=⟨_,rfl⟩
 rw [<- hB] at Q
 have bw:∀b:List Sm,bV b->aR b≤1000->cy b≤4->pK B0 G.length (G.length+1) nm (fM 12) b:=λb h1 h2 h3=>(GR Q 12).2 b h1 h2 (by lia)
 have hsum:∀q∈p.defs,aR q.2≤1000:=λq hq=>by
  have:aR q.2≤(p.defs.map λq=>aR q.2).sum:=pM (z39.mpr ⟨q,hq,rfl⟩)
  lia
 obtain⟨ds,G',e,ed,eg⟩:=xf (f:=bg) (xs:=p.defs) (e:=⇑(.tup (p.defs.map bg))) (c:=cN 2) (te:=bd (af (aa 0) (af (bd (af (aa 1) (af (aZ (aa 2)) (af (aa 3) (af (aZ (aa 4)) ae)))) (ax 4 (fM 12))) ae)) ay) (di:=[↑(.ref G.length),↑(.str nm),↑(.ref (G.length+1))]) (Z:=ki p k nm ↑(.ref G.length) ↑(.ref (G.length+1)) none)
  (λpre acc g=>acc=(wD nm pre k).map bg/\g=bA B0 G.length (G.length+1) (k-(ck pre).length) (ck (wD nm pre k)))
  (λpre acc g _=>rfl)
  (λpre d post acc g hx zz=>by
   obtain⟨ea,eg⟩:=zz
   have hm:d∈p.defs:=by rw [hx];simp
   have e1:=bw d.2 (hp.ds d hm).1 (hsum d hm) (hp.ds d hm).2.1 (k-(ck pre).length) (ck (wD nm pre k)) (by rw [hx,zy,ck] at hu;simp only [za] at hu;rw [GU];lia)
   rw [<- eg] at e1
   refine⟨[.str d.1,.tup (aq d.2)],bg (d.1,wB nm d.2 (k-(ck pre).length)),[↑(.str d.1),↑(.tup (aq d.2)),↑(.ref G.length),↑(.str nm),↑(.ref (G.length+1))],_,rfl,av (av (a:=⇑(.str d.1)) rfl (av (av (av (a:=[⇑(.tup (aq d.2)),⇑(.ref G.length),⇑(.str nm),⇑(.ref (G.length+1))]) rfl (cC (xs:=[.im (.tup (aq d.2)),.im (.ref G.length),.im (.str nm),.im (.ref (G.length+1))]) rfl rfl e1)) rfl) rfl)) rfl,?_,?_⟩
   ·rw [ea,pN,z25,wD,wD];rfl
   ·rw [pN,wD,wD,zy,zy,ck,ck,ck,ck,z11,z11,za]
    congr 1;lia)
  p.defs [] (acc:=[]) (G:=B0) rfl ⟨rfl,by rw [hB,xm];simp [ck,wD]⟩
 have eb:=bw p.body hp.bo.1 (by have:=hp.n2;lia) hp.bo.2.1 (k-(ck p.defs).length) (ck (wD nm p.defs k)) (by rw [GU];lia)
 rw [<- eg] at eb
 rw [hB,xm] at eb
 have fin:G++[M.lst [.int (k-(ck p.defs).length-(bh p.body).length)],M.lst ((ck (wD nm p.defs k)++bh (wB nm p.body (k-(ck p.defs).length))).map uI)]=G++[.lst [.int (k-p.us.length)],.lst ((wP nm p k).us.map uI)]:=by
  unfold Pg.us
  rw [za]
  congr 3
  ·congr 2;lia
 rw [fin] at eb
 refine aL rfl (aj (Z1:=ki p k nm none none none) (G1:=G) (bD (x:=.im p.i) rfl rfl) (aj (Z1:=ki p k nm ↥[.int k] none none) (G1:=G) (bD (x:=.ow (.lst [.int k])) rfl rfl) (aj (Z1:=ki p k nm ↥[.int k] ↥[] none) (G1:=G) (bD (x:=.ow (.lst [])) rfl rfl)
  (aj (Z1:=ki p k nm ↑(.ref G.length) ↑(.ref (G.length+1)) ↑(.tup ((wD nm p.defs k).map bg))) (G1:=G') (bD (x:=.im (.tup ((wD nm p.defs k).map bg))) (Z1:=ki p k nm ↑(.ref G.length) ↑(.ref (G.length+1)) none) (G1:=G') (av (av (kH (Z0:=ki p k nm ↑(.ref G.length) ↑(.ref (G.length+1)) none) (G0:=B0) ?_ (fN (n:=p.defs.length) rfl (by rw [z12])) (by show p.defs.length≤100000;have:=hp.c1;lia) (by rw [ed] at e;exact e)) rfl) ?_) rfl)
  (cG (Z1:=ki p k nm ↑(.ref G.length) ↑(.ref (G.length+1)) ↑(.tup ((wD nm p.defs k).map bg))) (av (av (av (av (a:=⇑(.tup (p.cells.map cV))) rfl (av (av (a:=⇑(.tup (p.rows.map cV))) rfl (av (av (a:=⇑(.tup ((wD nm p.defs k).map bg))) rfl (av (av (av (a:=[⇑(.tup (aq p.body)),⇑(.ref G.length),⇑(.str nm),⇑(.ref (G.length+1))]) rfl (cC (xs:=[.im (.tup (aq p.body)),.im (.ref G.length),.im (.str nm),.im (.ref (G.length+1))]) rfl rfl eb)) rfl) rfl)) rfl)) rfl)) rfl) (av (a:=[⇑(.ref (G.length+1))]) rfl rfl)) rfl))))))
 ·rw [hB]
  show iJ [7,2,8] _ G=_
  unfold iJ
  show iJ [2,8] (ki p k nm ↑(.ref G.length) ↥[] none) (G++[M.lst [.int k]])=_
  unfold iJ
  show iJ [8] (ki p k nm ↑(.ref G.length) ↥[] none) (G++[M.lst [.int k]])=_
  unfold iJ
  show iJ [] (ki p k nm ↑(.ref G.length) ↑(.ref (G++[M.lst [.int k]]).length) none) (G++[M.lst [.int k]]++[M.lst []])=_
  rw [za,z20];rfl
 ·simp [cA,sq,pk]
end
section
abbrev cJ:List Str->List Str->Option Str
 | _,[]=>none
 | seen,x::r=>if x∈seen then some x else cJ (seen++[x]) r
def xn(xs:List Str)(x:Str):((xs.map I.str).any λy=>b6 y (.str x))=decide (x∈xs):=by
 induction xs with
 | nil=>rfl
 | cons y ys ih =>
  rw [z16,List.any_cons,ih]
  show ((y == x)||decide (x∈ys))=decide (x∈y::ys)
  by_cases h:y=x
  ·subst h;simp
  ·have:(y == x)=false:=beq_eq_false_iff_ne.mpr h
   rw [this]
   simp [Ne.symm h]
def GV{xs:List Str}{x:Str}{e:Ev}{Z:De}{G:List M}(h:sq Z G e=some (xs.map I.str)):fR [⇑(.str x),e] Z G=some (⇑(.bl (decide (x∈xs))),Z,G):=by
 have hf:(cT (.str x)&&(xs.map I.str).all cT)=true:=by rw [pH];rfl
 unfold fR bX il
 dsimp only
 rw [h]
 dsimp only
 rw [if_pos hf]
 show some (Ev.v (Vl.im (I.bl ((xs.map I.str).any λy=>b6 y (.str x)))),Z,G)=_
 rw [xn]
def GW{xs:List Str}{x:Str}{e:Ev}{Z:De}{G:List M}(h:sq Z G e=some (xs.map I.str)):dy [⇑(.str x),e] Z G=some (⇑(.bl (!decide (x∈xs))),Z,G):=by
 have hf:(cT (.str x)&&(xs.map I.str).all cT)=true:=by rw [pH];rfl
 unfold dy bX il
 dsimp only
 rw [h]
 dsimp only
 rw [if_pos hf]
 show some (Ev.v (Vl.im (I.bl (!((xs.map I.str).any λy=>b6 y (.str x))))),Z,G)=_
 rw [xn]
def eT{w:Wk}{g:GF}{b:SF}{i r:Nat}{Z Z1:De}{G G1 G2:List M}{d:I}{x:Vl}(h1:w.at_ i Z G=some d)(h2:g (.im d) Z G=some (Z1,G1))(h3:b Z1 G1=some (.rt x G2)):aW w g b i (r+1) Z G=some (.rt x G2):=by
 unfold aW
 rw [h1];dsimp only;rw [h2];dsimp only;rw [h3]
abbrev bE(x:Str×I):I:=.tup [.str x.1,x.2]
abbrev Pg.pt(p:Pg):Nat->List (Str×I)
 | 0=>p.cells.map λq=>(q.1,.int q.2)
 | 1=>p.rows.map λq=>(q.1,.int q.2)
 | _=>p.defs.map λq=>(q.1,.tup (aq q.2))
def pt0(p:Pg):p.cells.map cV=(p.pt 0).map bE:=by rw [Pg.pt,z38];rfl
def pt1(p:Pg):p.rows.map cV=(p.pt 1).map bE:=by rw [Pg.pt,z38];rfl
def pt2(p:Pg):p.defs.map bg=(p.pt 2).map bE:=by
 show _=(p.defs.map λq=>(q.1,I.tup (aq q.2))).map bE
 rw [z38];rfl
def Pg.i_pt(p:Pg):p.i=.tup [.tup ((p.pt 0).map bE),.tup ((p.pt 1).map bE),.tup ((p.pt 2).map bE),.tup (aq p.body)]:=by
 rw [Pg.i,pt0,pt1,pt2]
abbrev Pg.nm(p:Pg)(k:Nat):List Str:=(p.pt k).map (·.1)
theorem Pg.Sh.pt{p:Pg}(h:p.Sh):∀k,(p.pt k).length≤24
 | 0=>by rw [Pg.pt,z12];exact h.c1.1
 | 1=>by rw [Pg.pt,z12];exact h.c1.2.1
 | n+2=>by
  show (p.defs.map λq=>(q.1,I.tup (aq q.2))).length≤24
  rw [z12];exact h.c1.2.2
def GX{p:Pg}{k:Nat}(hk:k<3):∃b,dh [I.tup ((p.pt 0).map bE),.tup ((p.pt 1).map bE),.tup ((p.pt 2).map bE),b] (k:Int)=some (.tup ((p.pt k).map bE))/\b=.tup (aq p.body):=by
 refine⟨_,?_,rfl⟩
 match k,hk with
 | 0,_=>exact dj _ _
 | 1,_=>exact eB _ _ _
 | 2,_=>exact mi _ _ _ _
def i4{p:Pg}{k:Nat}{Z:De}{G:List M}(hk:k<3):ak [⇑p.i,⇑(.int k)] Z G=some (⇑(.tup ((p.pt k).map bE)),Z,G):=by
 obtain⟨b,h,hb⟩:=GX (p:=p) hk
 rw [Pg.i_pt,<- hb]
 simp [ak,bX,dY,sq,pk,h]
def pP{xs:List (Str×I)}{Z Z1:De}{G G1:List M}{fe:Mo Ev}(he:fe Z G=some (⇑(.tup (xs.map bE)),Z1,G1))(hx:xs.length≤1000):dJ (bG (one fe) aT) [] c1 bf (ah ak (aa 0) (ag (.int 0))) Z G=some (.v (.ow (.lst ((xs.map (·.1)).map I.str))),Z1,G1):=by
 obtain⟨ds,G',e,ed,eg⟩:=xf (f:=bE) (xs:=xs) (e:=⇑(.tup (xs.map bE))) (c:=c1) (te:=ah ak (aa 0) (ag (.int 0))) (di:=[]) (Z:=Z1)
  (λpre acc g=>acc=(pre.map (·.1)).map I.str/\g=G1)
  (λpre acc g _=>rfl)
  (λpre x post acc g hx zz=>by
   obtain⟨ea,eg⟩:=zz
   refine⟨[bE x],.str x.1,[↑(bE x)],g,rfl,aH (x:=⇑(bE x)) (y:=⇑(.int 0)) rfl rfl (by simp [bE,ak,bX,dY,sq,pk,dj]),by rw [ea];simp,eg⟩)
  xs [] (acc:=[]) (G:=G1) rfl ⟨rfl,rfl⟩
 rw [ed,eg] at e
 exact kH (by rfl) (fN (n:=xs.length) he (by rw [z12])) (by show xs.length≤100000;lia) e
abbrev dD(p:Pg)(v1 v2 v3 v4 v5 v6:Option Vl):De:=[↑p.i,v1,v2,v3,v4,v5,v6]
abbrev twI(n:Str):Vl:=.im (.tup [.str "twice",.str n])
theorem xp{p:Pg}{names:List Str}{G:List M}{v1 v4 v5 v6:Option Vl}(hn:names.length≤1000):∀(post pre:List Str) (v3:Option Vl),names=pre++post->∃v3',aW (jc names.length) (aB 3) y1e pre.length post.length (dD p v1 ↥(names.map I.str) v3 v4 v5 v6) G=match cJ pre post with
   | none=>some (.nx (dD p v1 ↥(names.map I.str) v3' v4 v5 v6) G)
   | some n=>some (.rt (twI n) G)
 | [],pre,v3,_=>⟨v3,eS rfl⟩
 | x::post,pre,v3,hx=>by
  obtain⟨D,hD⟩:∃D,D=dD p v1 ↥(names.map I.str) ↑(.int pre.length) v4 v5 v6:=⟨_,rfl⟩
  have ex:ah ak (aa 2) (aa 3) D G=some (⇑(.str x),D,G):=by
   rw [hD]
   refine aH (x:=.s 2) (y:=⇑(.int pre.length)) rfl rfl ?_
   have h0:dh (names.map I.str) (pre.length:Int)=some (.str x):=kY (by rw [hx];simp)
   have hl:(names.map I.str).length≤1000000:=by rw [z12];lia
   simp [dD,ak,bX,dY,sq,pk,h0]
  have es:a8 (aa 2) a6 (aX (aa 3)) D G=some (.v (.ow (.lst (pre.map I.str))),D,G):=by
   rw [hD]
   refine av (m:=aa 2) (a:=.s 2) rfl (av (m:=a6) (a:=[]) rfl (av (m:=aX (aa 3)) (a:=[⇑(.int pre.length)]) rfl ?_))
   show some (Ev.v (Vl.ow (M.lst (dz (names.map I.str) none (some (pre.length:Int))))),_,G)=_
   rw [p9,hx]
   simp
  have et:ao (ah fR (ah ak (aa 2) (aa 3)) (a8 (aa 2) a6 (aX (aa 3)))) D G=some (decide (x∈pre),D,G):=dB (aH ex es (GV rfl))
  by_cases hm:x∈pre
  ·refine⟨v3,?_⟩
   have:cJ pre (x::post)=some x:=by unfold cJ;rw [if_pos hm]
   rw [this]
   refine eT (d:=.int pre.length) (Z1:=D) rfl (by rw [hD];rfl) (bT (Z1:=D) (G1:=G) (by rw [et,decide_eq_true hm]) (cG (Z1:=D) (av (av (a:=⇑(.str "twice")) rfl (av (av ex rfl) rfl)) rfl)))
  ·obtain⟨v3',e⟩:=xp hn post (pre++[x]) ↑(.int pre.length) (by rw [hx];simp)
   refine⟨v3',?_⟩
   have:cJ pre (x::post)=cJ (pre++[x]) post:=by rw [cJ,if_neg hm]
   rw [this,<- e,za,List.length_singleton]
   refine cW (d:=.int pre.length) (Z1:=D) (Z2:=D) rfl (by rw [hD];rfl) (aN (Z1:=D) (G1:=G) (by rw [et,decide_eq_false hm]) rfl) (by rw [hD])
def pQ{p:Pg}{k:Nat}{G:List M}{v2 v3 v4 v5 v6:Option Vl}(hp:p.Sh)(hk:k<3):∃v2' v3',Fv (dD p ↑(.int k) v2 v3 v4 v5 v6) G=match cJ [] (p.nm k) with
   | none=>some (.nx (dD p ↑(.int k) v2' v3' v4 v5 v6) G)
   | some n=>some (.rt (twI n) G):=by
 have hl:=hp.pt k
 have ln:(p.nm k).length≤24:=by unfold Pg.nm;rw [z12];exact hl
 obtain⟨v3',e⟩:=xp (p:=p) (G:=G) (v1:=↑(.int k)) (v4:=v4) (v5:=v5) (v6:=v6) (names:=p.nm k) (by lia) (p.nm k) [] v3 rfl
 refine⟨↥((p.nm k).map I.str),v3',?_⟩
 rw [<- e]
 refine aj (Z1:=dD p ↑(.int k) ↥((p.nm k).map I.str) v3 v4 v5 v6) (G1:=G) (bD (pP (Z1:=dD p ↑(.int k) v2 v3 v4 v5 v6) (G1:=G) (xs:=p.pt k) (aH (x:=⇑p.i) (y:=⇑(.int k)) rfl rfl (i4 hk)) (by lia)) rfl) (b8 (hJ (n:=(p.nm k).length) (j:=((p.nm k).length:Int)) (Z1:=dD p ↑(.int k) ↥((p.nm k).map I.str) v3 v4 v5 v6) (G1:=G) ?_ rfl (by lia)) rfl)
 have h1:(p.nm k).length≤1000000:=by lia
 refine av (av (av (a:=.s 2) rfl rfl) ?_) rfl
 simp [aQ,dD,sq,pk]
end
section
abbrev sIx(s:Str):Nat:=if s="cell" then 0 else if s="at" then 1 else 2
def GY(s:Str):sIx s<3:=by unfold sIx;split<;>(try split)<;>lia
abbrev Pg.bad(p:Pg)(u:Str×Str):Bool:=!decide (u.2∈p.nm (sIx u.1))
abbrev Pg.due(p:Pg):Option (Str×Str):=match cJ [] (p.nm 0) with
 | some n=>some ("twice",n)
 | none=>match cJ [] (p.nm 1) with
  | some n=>some ("twice",n)
  | none=>match cJ [] (p.nm 2) with
   | some n=>some ("twice",n)
   | none=>(p.us.find? p.bad).map λu=>("unknown",u.2)
abbrev eU:Option (Str×Str)->I
 | none=>.non
 | some u=>.tup [.str u.1,.str u.2]
abbrev pR(s:Str):Prop:=s="cell"∨s="at"∨s="call"
theorem gz:∀(t:Tm),∀u∈t.us,pR u.1
 | .num _,u,h=>by rw [Tm.us] at h;cases h
 | .cell x,u,h=>by rw [Tm.us] at h;rw [z22.mp h];exact .inl rfl
 | .at_ r t,u,h=>by
  rw [Tm.us] at h
  rcases z1d.mp h with rfl|h
  ·exact .inr (.inl rfl)
  ·exact gz t u h
 | .op _ a b,u,h=>by
  rw [Tm.us] at h
  rcases z13.mp h with h|h
  ·exact gz a u h
  ·exact gz b u h
mutual
theorem GZ:∀(s:Sm),∀u∈s.us,pR u.1
 | .set x t,u,h=>by
  rw [Sm.us] at h
  rcases z1d.mp h with rfl|h
  ·exact .inl rfl
  ·exact gz t u h
 | .put x a b,u,h=>by
  rw [Sm.us] at h
  rcases z1d.mp h with rfl|h
  ·exact .inr (.inl rfl)
  ·rcases z13.mp h with h|h
   ·exact gz a u h
   ·exact gz b u h
 | .call x,u,h=>by rw [Sm.us] at h;rw [z22.mp h];exact .inr (.inr rfl)
 | .wh t b,u,h=>by
  rw [Sm.us] at h
  rcases z13.mp h with h|h
  ·exact gz t u h
  ·exact i5 b u h
 | .ite t b c,u,h=>by
  rw [Sm.us] at h
  rcases z13.mp h with h|h
  ·exact gz t u h
  ·rcases z13.mp h with h|h
   ·exact i5 b u h
   ·exact i5 c u h
theorem i5:∀(b:List Sm),∀u∈bh b,pR u.1
 | [],u,h=>by rw [bh] at h;cases h
 | s::b,u,h=>by
  rw [bh] at h
  rcases z13.mp h with h|h
  ·exact GZ s u h
  ·exact i5 b u h
end
theorem yf8:∀(b:List (Str×List Sm)),∀u∈ck b,pR u.1
 | [],u,h=>by rw [ck] at h;cases h
 | s::b,u,h=>by
  rw [ck] at h
  rcases z13.mp h with h|h
  ·exact i5 s.2 u h
  ·exact yf8 b u h
def Pg.srt(p:Pg):∀u∈p.us,pR u.1:=λu h=>by
 unfold Pg.us at h
 rcases z13.mp h with h|h
 ·exact yf8 _ u h
 ·exact i5 _ u h
abbrev cY:List (aK×I):=[(.inr "cell",.int 0),(.inr "at",.int 1),(.inr "call",.int 2)]
def Ha{s:Str}(h:pR s):cc cY (.inr s)=some (.int (sIx s)):=by
 rcases h with h|h|h<;>subst h<;>kernel_rfl
theorem xq{p:Pg}{us:List (Str×Str)}{e:Ev}{G:List M}{v1 v2 v3:Option Vl}(hp:p.Sh)(hs:∀Z,sq Z G e=some (us.map uI))(hu:∀u∈us,pR u.1):∀(post pre:List (Str×Str)) (v5 v6:Option Vl),us=pre++post->∃v5' v6',aW (a7 e us.length) (gQ [5,6]) y1d pre.length post.length (dD p v1 v2 v3 (some (.ow (.dic cY))) v5 v6) G=match post.find? p.bad with
   | none=>some (.nx (dD p v1 v2 v3 (some (.ow (.dic cY))) v5' v6') G)
   | some u=>some (.rt (.im (.tup [.str "unknown",.str u.2])) G)
 | [],pre,v5,v6,_=>⟨v5,v6,eS (by simp [a7,hs])⟩
 | u::post,pre,v5,v6,hx=>by
  obtain⟨D,hD⟩:∃D,D=dD p v1 v2 v3 (some (.ow (.dic cY))) ↑(.str u.1) ↑(.str u.2):=⟨_,rfl⟩
  have ha:(a7 e us.length).at_ pre.length (dD p v1 v2 v3 (some (.ow (.dic cY))) v5 v6) G=some (uI u):=by
   show (sq _ G e).bind (·[pre.length]?)=_
   rw [hs]
   show (us.map uI)[pre.length]?=_
   rw [hx];simp
  have hv:=Ha (hu u (by rw [hx];simp))
  have ec:dJ (bG (one (ah ak (aa 0) (ah ak (aa 4) (aa 5)))) aT) [] c1 bf (ah ak (aa 0) (ag (.int 0))) D G=some (.v (.ow (.lst ((p.nm (sIx u.1)).map I.str))),D,G):=by
   rw [hD]
   refine pP (xs:=p.pt (sIx u.1)) (aH (x:=⇑p.i) (y:=⇑(.int (sIx u.1))) rfl (aH (x:=.s 4) (y:=⇑(.str u.1)) rfl rfl ?_) (i4 (GY _))) (by have:=hp.pt (sIx u.1);lia)
   simp [ak,bX,dY,p5,sq,pk,dD,eN,dw,hv]
  have et:ao (ah dy (aa 6) (dJ (bG (one (ah ak (aa 0) (ah ak (aa 4) (aa 5)))) aT) [] c1 bf (ah ak (aa 0) (ag (.int 0))))) D G=some (p.bad u,D,G):=dB (aH (x:=⇑(.str u.2)) (Z1:=D) (G1:=G) (by rw [hD];rfl) ec (GW rfl))
  have hg:gQ [5,6] (.im (uI u)) (dD p v1 v2 v3 (some (.ow (.dic cY))) v5 v6) G=some (D,G):=by rw [hD];rfl
  rw [List.find?_cons]
  cases hb:p.bad u with
  | true =>
   refine⟨v5,v6,?_⟩
   rw [hb] at et
   refine eT (d:=uI u) (Z1:=D) (G1:=G) ha hg (bT (Z1:=D) (G1:=G) et (cG (Z1:=D) (av (av (a:=⇑(.str "unknown")) rfl (av (av (a:=⇑(.str u.2)) (by rw [hD];rfl) rfl) rfl)) rfl)))
  | false =>
   obtain⟨v5',v6',e'⟩:=xq hp hs hu post (pre++[u]) ↑(.str u.1) ↑(.str u.2) (by rw [hx];simp)
   refine⟨v5',v6',?_⟩
   rw [hb] at et
   dsimp only
   rw [<- e',za,List.length_singleton]
   refine cW (d:=uI u) (Z1:=D) (Z2:=D) (G1:=G) (G2:=G) ha hg (aN (Z1:=D) (G1:=G) et rfl) (by rw [hD])
def Hb{p:Pg}{G:List M}(hp:p.Sh):∃G',zo [.im p.i] G=some (.im (eU p.due),G')/\bY G G':=by
 obtain⟨a2,a3,e0⟩:=pQ (k:=0) (G:=G) (v2:=none) (v3:=none) (v4:=none) (v5:=none) (v6:=none) hp (by decide)
 obtain⟨b2,b3,e1⟩:=pQ (k:=1) (G:=G) (v2:=a2) (v3:=a3) (v4:=none) (v5:=none) (v6:=none) hp (by decide)
 obtain⟨c2,c3,e2⟩:=pQ (k:=2) (G:=G) (v2:=b2) (v3:=b3) (v4:=none) (v5:=none) (v6:=none) hp (by decide)
 have ri:bG (af (ag (.int 3)) ae) c6 (dD p none none none none none none) G=some (jc 3,[⇑(.int 3)],dD p none none none none none none,G):=hJ (n:=3) rfl rfl (by decide)
 unfold Pg.due
 cases h0:cJ [] (p.nm 0) with
 | some n =>
  rw [h0] at e0
  exact⟨G,aL rfl (b7 (b8 ri (eT (d:=.int 0) rfl rfl e0))),bY.refl _⟩
 | none =>
  rw [h0] at e0
  cases h1:cJ [] (p.nm 1) with
  | some n =>
   rw [h1] at e1
   exact⟨G,aL rfl (b7 (b8 ri (cW (d:=.int 0) rfl rfl e0 (eT (d:=.int 1) rfl rfl e1)))),bY.refl _⟩
  | none =>
   rw [h1] at e1
   cases h2:cJ [] (p.nm 2) with
   | some n =>
    rw [h2] at e2
    exact⟨G,aL rfl (b7 (b8 ri (cW (d:=.int 0) rfl rfl e0 (cW (d:=.int 1) rfl rfl e1 (eT (d:=.int 2) rfl rfl e2))))),bY.refl _⟩
   | none =>
    rw [h2] at e2
    have ew:=pO (G:=G) (nm:="") (k:=-1) hp
    rw [wR (by decide)] at ew
    obtain⟨G',hG'⟩:∃G':List M,G'=G++[.lst [.int (-1-p.us.length)],.lst (p.us.map uI)]:=⟨_,rfl⟩
    rw [<- hG'] at ew
    have hk:G'[G.length+1]?=some (.lst (p.us.map uI)):=by rw [hG',z18 (by lia)];simp
    have lu:=hp.us
    obtain⟨v5',v6',el⟩:=xq (p:=p) (us:=p.us) (e:=⇑(.ref (G.length+1))) (G:=G') (v1:=↑(.int 2)) (v2:=c2) (v3:=c3) hp (λZ=>by simp [sq,pk,hk]) p.srt p.us [] none none rfl
    have it:bG (one (ah ak (bd (af (aa 0) (af (cZ fD (ag (.int 1))) (af (ag (.str "")) ae))) (ax 3 kG)) (ag (.int 1)))) aT (dD p ↑(.int 2) c2 c3 (some (.ow (.dic cY))) none none) G=some (a7 ⇑(.ref (G.length+1)) p.us.length,[⇑(.ref (G.length+1))],dD p ↑(.int 2) c2 c3 (some (.ow (.dic cY))) none none,G'):=by
     refine eA (e:=⇑(.ref (G.length+1))) (xs:=p.us.map uI) (aH (x:=⇑(.tup [p.i,.ref (G.length+1)])) (y:=⇑(.int 1)) (Z1:=dD p ↑(.int 2) c2 c3 (some (.ow (.dic cY))) none none) (G1:=G') (av (a:=[⇑p.i,⇑(.int (-1)),⇑(.str "")]) rfl (cC (xs:=[.im p.i,.im (.int (-1)),.im (.str "")]) rfl rfl ew)) rfl ?_) rfl (by simp [sq,pk,hk]) (by simp)
     simp [ak,bX,dY,sq,pk,eB]
    have f3:bC (bG (af (ag (.int 3)) ae) c6) (aB 1) Fv (dD p none none none none none none) G=some (.nx (dD p ↑(.int 2) c2 c3 none none none) G):=b8 ri (cW (d:=.int 0) rfl rfl e0 (cW (d:=.int 1) rfl rfl e1 (cW (d:=.int 2) rfl rfl e2 (eS rfl))))
    have ds:aI (m4 (cF (ag (.str "cell")) (ag (.int 0)) (cF (ag (.str "at")) (ag (.int 1)) (cF (ag (.str "call")) (ag (.int 2)) gu)))) (aB 4) (dD p ↑(.int 2) c2 c3 none none none) G=some (.nx (dD p ↑(.int 2) c2 c3 (some (.ow (.dic cY))) none none) G):=by kernel_rfl
    refine⟨G',aL rfl (aj f3 (aj ds ?_)),by rw [hG'];exact bY.app _ _⟩
    cases hf:p.us.find? p.bad with
    | some u =>
     rw [hf] at el
     exact b7 (b8 it el)
    | none =>
     rw [hf] at el
     exact aj (b8 it el) rfl
end
section
variable {G:List M}
abbrev Tm.kids:Tm->List Tm
 | .at_ _ t=>[t]
 | .op _ a b=>[a,b]
 | _=>[]
abbrev Tm.all:Tm->List Tm
 | .num w=>[.num w]
 | .cell x=>[.cell x]
 | .at_ r t=>.at_ r t::t.all
 | .op s a b=>.op s a b::(a.all++b.all)
def y6c(t:Tm):t.all=t::t.kids.flatMap Tm.all:=by
 cases t<;>simp [Tm.all,Tm.kids]
abbrev eV:Tm->Option (Str×Str)
 | .cell x=>some ("cell",x)
 | .at_ r _=>some ("at",r)
 | _=>none
theorem mB:∀t:Tm,t.us=t.all.filterMap eV
 | .num _=>rfl
 | .cell _=>rfl
 | .at_ r t=>by
  rw [Tm.us,Tm.all,mB t]
  rfl
 | .op s a b=>by rw [Tm.us,Tm.all,List.filterMap_cons_none rfl,List.filterMap_append,mB a,mB b]
abbrev cH(ts:List Tm):Nat:=(ts.map Tm.size).sum
def pS(a b:List Tm):cH (a++b)=cH a+cH b:=by simp [cH]
def xr(t:Tm):cH t.kids+1=t.size:=by cases t<;>simp [Tm.kids,cH,Tm.size]
def xt(a:List Tm):cH a.reverse=cH a:=by simp [cH,List.sum_reverse]
def Hc(t:Tm):yZ [.im t.i] G=some (.im (.tup (t.kids.map Tm.i)),G):=by
 cases t<;>kernel_rfl
def Hd(t:Tm):t.kids.length≤2:=by cases t<;>simp [Tm.kids]
def He{a v:Option Vl}{fs ls:List I}{t:Tm}(h1:fs.length<1000)(h2:ls.length<1000) :
  Fs [a,↥fs,↥(ls++[t.i]),v] G=some (.nx [a,↥(fs++[t.i]),↥(ls++(t.kids.map Tm.i).reverse),↑t.i] G):=by
 have hk:=Hd t
 have c1:fs.length<1000000:=by lia
 have c2:ls.length+t.kids.length≤1000000:=by lia
 refine aj (bD (x:=.im t.i) (Z1:=[a,↥fs,↥ls,v]) (G1:=G) ?_ rfl) ?_
 ·simp! []
 ·simp! [Hc,dN,fG,fG.notC,c1,c2]
def xu{α:Type}(l:List α):l=[]∨∃i x,l=i++[x]:=by
 rcases List.eq_nil_or_concat l with h|⟨i,x,h⟩
 ·exact .inl h
 ·exact .inr ⟨i,x,by rw [h,List.concat_eq_append]⟩
theorem xw:∀ts:List Tm,ts.length≤cH ts
 | []=>by simp [cH]
 | t::ts=>by have:=xw ts;have:=xr t;simp [cH] at *;lia
def Hf{a:Option Vl}:∀(n:Nat) (fs ls:List Tm) (v:Option Vl),cH ls=n->fs.length+n≤500 ->
  ∃(v':Option Vl),fQ zg Fs [a,↥(fs.map Tm.i),↥(ls.map Tm.i),v] G=some (.nx [a,↥((fs++ls.reverse.flatMap Tm.all).map Tm.i),↥[],v'] G):=by
 intro n
 induction n using Nat.strongRecOn with
 | _ n ih =>
  intro fs ls v hn hb
  rcases xu ls with rfl|⟨ls,t,rfl⟩
  ·refine⟨v,?_⟩
   rw [List.reverse_nil,List.flatMap_nil,z11]
   refine lN ?_
   simp! [zg]
  ·have hk:=xr t
   rw [pS] at hn
   have h1:cH [t]=t.size:=by simp [cH]
   have hl:=xw ls
   obtain⟨v',e⟩:=ih (cH (ls++t.kids.reverse)) (by rw [pS,xt];lia) (fs++[t]) (ls++t.kids.reverse) ↑t.i rfl (by rw [pS,xt];simp;lia)
   refine⟨v',?_⟩
   have hr:fs++(ls++[t]).reverse.flatMap Tm.all=fs++[t]++(ls++t.kids.reverse).reverse.flatMap Tm.all:=by
    rw [z37,z37,List.reverse_reverse,List.flatMap_append,List.flatMap_append,List.reverse_singleton,List.flatMap_singleton,y6c t,z20];rfl
   rw [hr]
   have ei:(ls++[t]).map Tm.i=ls.map Tm.i++[t.i]:=by simp
   rw [ei]
   rw [oz (Z1:=[a,↥(fs.map Tm.i),↥(ls.map Tm.i++[t.i]),v]) (G1:=G) (by simp! [zg]) (He (by simp;lia) (by simp;lia))]
   rw [<- e]
   simp
def Hg{t:Tm}(h:t.size≤100):zh [.im t.i] G=some (.ow (.lst (t.all.map Tm.i)),G):=by
 obtain⟨v,e⟩:=Hf (G:=G) (a:=↑t.i) (cH [t]) [] [t] none rfl (by simp [cH];lia)
 have ea:([]++[t].reverse.flatMap Tm.all)=t.all:=by simp
 rw [ea] at e
 refine aL rfl ?_
 refine aj (bD (x:=.ow (.lst [])) (Z1:=[↑t.i,none,none,none]) (G1:=G) (by simp! []) rfl) ?_
 refine aj (bD (x:=.ow (.lst [t.i])) (Z1:=[↑t.i,↥[],none,none]) (G1:=G) (by simp! []) rfl) ?_
 refine aj e ?_
 simp! []
theorem zA:∀t:Tm,t.all.length=t.size
 | .num _=>rfl
 | .cell _=>rfl
 | .at_ _ t=>by rw [Tm.all,Tm.size,z10,zA t]
 | .op _ a b=>by rw [Tm.all,Tm.size,z10,za,zA a,zA b]
abbrev kD(ns:List Str):List (aK×I):=ns.map λn=>(.inr n,.bl true)
def xx(ns:List Str)(x:Str):cc (kD ns) (.inr x)=if x∈ns then some (.bl true) else none:=by
 induction ns with
 | nil=>rfl
 | cons n ns ih =>
  show cc ((.inr n,.bl true)::kD ns) (.inr x)=_
  unfold cc
  by_cases h:n=x
  ·subst h;simp
  ·have h1:¬ ((Sum.inr n:aK)=Sum.inr x):=λz=>h (Sum.inr.inj z)
   rw [if_neg h1,ih]
   simp [Ne.symm h]
abbrev je(w n:Str):Vl:=.ow (.obj "NoProgram" [("word",.str w),("name",.str n)])
def Hh{x:Str}{k:Nat}{ns:List Str}(h:G[k]?=some (.dic (kD ns))):iS [.im (.str x),.im (.ref k)] G=some (if x∈ns then .im .non else je "unknown" x,G):=by
 have et:ao (ah dy (aa 0) (aa 1)) [↑(.str x),↑(.ref k)] G=some (!decide (x∈ns),[↑(.str x),↑(.ref k)],G):=by
  refine dB (aH (x:=⇑(.str x)) (y:=⇑(.ref k)) rfl rfl ?_)
  have hv:=xx ns x
  by_cases hm:x∈ns
  ·rw [if_pos hm] at hv
   simp [dy,bX,il,eO,sq,pk,h,eN,dw,hv,hm]
  ·rw [if_neg hm] at hv
   simp [dy,bX,il,eO,sq,pk,h,eN,dw,hv,hm]
 by_cases hm:x∈ns
 ·rw [if_pos hm]
  rw [decide_eq_true hm] at et
  exact wa rfl (aN et rfl)
 ·rw [if_neg hm]
  rw [decide_eq_false hm] at et
  exact aL rfl (bT et rfl)
abbrev mC:Option (Str×Str)->Vl
 | none=>.im .non
 | some u=>je "unknown" u.2
structure Dk(G:List M)(p:Pg)(a b c:Nat):Prop where
 a:G[a]?=some (.dic (kD (p.nm 0)))
 b:G[b]?=some (.dic (kD (p.nm 1)))
 c:G[c]?=some (.dic (kD (p.nm 2)))
def Dk.ext{G G':List M}{p:Pg}{a b c:Nat}(d:Dk G p a b c)(e:bY G G'):Dk G' p a b c:=⟨e.at_ d.a,e.at_ d.b,e.at_ d.c⟩
def xy{f:Mo Ev}{Z Z1:De}{G G1:List M}(h:f Z G=some (⇑.non,Z1,G1)):cB f Z G=some (.nx Z1 G1):=by unfold cB;rw [h]
def xA{f:Mo Ev}{Z Z1:De}{G G1:List M}{w n:Str}(h:f Z G=some (.v (je w n),Z1,G1)):cB f Z G=some (.rt (je w n) G1):=by unfold cB;rw [h];rfl
abbrev qb(b:Bool)(Z:De)(G:List M)(n:Str):Option Fl:=if b=true then some (.rt (je "unknown" n) G) else some (.nx Z G)
def kj{p:Pg}{Z:De}{fx:Mo Ev}{i k:Nat}{x s:Str}(hk:G[k]?=some (.dic (kD (p.nm (sIx s)))))(hx:fx Z G=some (⇑(.str x),Z,G))(hi:aa i Z G=some (⇑(.ref k),Z,G)):cB (bd (af fx (af (aa i) ae)) (ax 2 iS)) Z G=qb (p.bad (s,x)) Z G x:=by
 have e:=Hh (x:=x) hk
 unfold qb Pg.bad
 dsimp only
 by_cases hm:x∈p.nm (sIx s)
 ·rw [if_pos hm] at e
  rw [decide_eq_true hm]
  exact xy (av (av hx (av (av hi rfl) rfl)) (cC (xs:=[.im (.str x),.im (.ref k)]) rfl rfl e))
 ·rw [if_neg hm] at e
  rw [decide_eq_false hm]
  exact xA (av (av hx (av (av hi rfl) rfl)) (cC (xs:=[.im (.str x),.im (.ref k)]) rfl rfl e))
end
section
variable {G:List M}
abbrev i6(x:I)(a b:Nat)(v:Option Vl):De:=[↑x,↑(.ref a),↑(.ref b),v]
abbrev gA(o:Option (Str×Str))(Z:De)(G:List M):Option Fl:=match o with
 | none=>some (.nx Z G)
 | some u=>some (.rt (je "unknown" u.2) G)
def Hi{p:Pg}{x:I}{a b c:Nat}(d:Dk G p a b c)(t:Tm):Ft (i6 x a b ↑t.i) G=gA ((eV t).toList.find? p.bad) (i6 x a b ↑t.i) G:=by
 cases t with
 | num w=>exact aN (Z1:=i6 x a b ↑(Tm.num w).i) (G1:=G) (by kernel_rfl) (aN (Z1:=i6 x a b ↑(Tm.num w).i) (G1:=G) (by kernel_rfl) rfl)
 | op s m n=>exact aN (Z1:=i6 x a b ↑(Tm.op s m n).i) (G1:=G) (by kernel_rfl) (aN (Z1:=i6 x a b ↑(Tm.op s m n).i) (G1:=G) (by kernel_rfl) rfl)
 | cell y =>
  refine bT (Z1:=i6 x a b ↑(Tm.cell y).i) (G1:=G) (by kernel_rfl) ?_
  rw [kj (p:=p) (s:="cell") (k:=a) (x:=y) d.a (by kernel_rfl) (by rfl)]
  unfold qb eV
  cases h:p.bad ("cell",y)<;>simp [h,gA]
 | at_ r t =>
  refine aN (Z1:=i6 x a b ↑(Tm.at_ r t).i) (G1:=G) (by kernel_rfl) (bT (Z1:=i6 x a b ↑(Tm.at_ r t).i) (G1:=G) (by kernel_rfl) ?_)
  rw [kj (p:=p) (s:="at") (k:=b) (x:=r) d.b (by kernel_rfl) (by rfl)]
  unfold qb eV
  cases h:p.bad ("at",r)<;>simp [h,gA]
theorem xB{p:Pg}{x:I}{a b c:Nat}{e:Ev}{ts:List Tm}(d:Dk G p a b c)(hs:∀Z,sq Z G e=some (ts.map Tm.i)):∀(post pre:List Tm) (v:Option Vl),ts=pre++post->∃v',aW (a7 e ts.length) (aB 3) Ft pre.length post.length (i6 x a b v) G=gA ((post.filterMap eV).find? p.bad) (i6 x a b v') G
 | [],pre,v,_=>⟨v,eS (by simp [a7,hs])⟩
 | t::post,pre,v,hx=>by
  have ha:(a7 e ts.length).at_ pre.length (i6 x a b v) G=some t.i:=by
   show (sq _ G e).bind (·[pre.length]?)=_
   rw [hs]
   show (ts.map Tm.i)[pre.length]?=_
   rw [hx];simp
  have ht:=Hi (x:=x) d t
  have hf:(List.filterMap eV (t::post)).find? p.bad=((eV t).toList.find? p.bad).or ((post.filterMap eV).find? p.bad):=by
   cases hu:eV t with
   | none=>rw [List.filterMap_cons_none hu];rfl
   | some u=>rw [List.filterMap_cons_some hu];show _=Option.or ([u].find? p.bad) _;rw [<- List.find?_append];rfl
  rw [hf]
  cases hb:(eV t).toList.find? p.bad with
  | some u =>
   rw [hb] at ht
   exact⟨v,eT (d:=t.i) ha rfl ht⟩
  | none =>
   rw [hb] at ht
   obtain⟨v',e'⟩:=xB d hs post (pre++[t]) ↑t.i (by rw [hx];simp)
   refine⟨v',?_⟩
   rw [Option.none_or,<- e',za,List.length_singleton]
   exact cW (d:=t.i) ha rfl ht rfl
def pT{n r:Nat}{body:SF}{xs:List Vl}{o:Option (Str×Str)}{Z':De}{G':List M}(hl:xs.length=n)(h:body (xs.map some++List.replicate r none) G=gA o Z' G'):aS n r body xs G=some (mC o,G'):=by
 cases o with
 | none=>exact wa hl h
 | some u=>exact aL hl h
def Hj{p:Pg}{t:Tm}{a b c:Nat}(d:Dk G p a b c)(ht:t.size≤100):∃G',zi [.im t.i,.im (.ref a),.im (.ref b)] G=some (mC (t.us.find? p.bad),G')/\bY G G':=by
 obtain⟨G',hG'⟩:∃G':List M,G'=G++[.lst (t.all.map Tm.i)]:=⟨_,rfl⟩
 have hk:G'[G.length]?=some (.lst (t.all.map Tm.i)):=by rw [hG'];simp
 have ex:bY G G':=by rw [hG'];exact bY.app _ _
 have hl:=zA t
 obtain⟨v',e⟩:=xB (x:=t.i) (e:=⇑(.ref G.length)) (ts:=t.all) (d.ext ex) (λZ=>by simp [sq,pk,hk]) t.all [] none rfl
 rw [<- mB] at e
 refine⟨G',pT rfl (b8 (eA (e:=⇑(.ref G.length)) (n:=t.all.length) (Z1:=i6 t.i a b none) (G1:=G') (xs:=t.all.map Tm.i) (av (av (a:=[⇑t.i]) rfl (cC (xs:=[.im t.i]) rfl rfl (Hg ht))) ?_) rfl (by simp [sq,pk,hk]) (by simp)) e),ex⟩
 rw [hG'];rfl
abbrev Sm.own:Sm->List Tm
 | .set _ t=>[t]
 | .put _ a b=>[a,b]
 | .call _=>[]
 | .wh t _=>[t]
 | .ite t _ _=>[t]
abbrev Sm.nu:Sm->Option (Str×Str)
 | .set x _=>some ("cell",x)
 | .put r _ _=>some ("at",r)
 | .call f=>some ("call",f)
 | _=>none
abbrev Sm.ou(s:Sm):List (Str×Str):=s.nu.toList++s.own.flatMap Tm.us
def Hk(s:Sm):vY [.im s.i] G=some (.im (.tup (s.own.map Tm.i)),G):=by
 cases s with
 | set x t=>rw [my];kernel_rfl
 | put x a b=>rw [mz];kernel_rfl
 | call x=>rw [zx];kernel_rfl
 | wh t b=>rw [hU];kernel_rfl
 | ite t b c=>rw [kh];kernel_rfl
abbrev eK(x:I)(a b c:Nat)(v:Option Vl):De:=[↑x,↑(.ref a),↑(.ref b),↑(.ref c),v]
abbrev xC:SF:=(aF (ao (ah bQ (ah ak (aa 0) (ag (.int 0))) (ag (.str "set"))))
 (cB (bd (af (ah ak (aa 0) (ag (.int 1))) (af (aa 1) ae)) (ax 2 iS)))
 (aF (ao (ah bQ (ah ak (aa 0) (ag (.int 0))) (ag (.str "put"))))
 (cB (bd (af (ah ak (aa 0) (ag (.int 1))) (af (aa 2) ae)) (ax 2 iS)))
 (aF (ao (ah bQ (ah ak (aa 0) (ag (.int 0))) (ag (.str "call"))))
 (cB (bd (af (ah ak (aa 0) (ag (.int 1))) (af (aa 3) ae)) (ax 2 iS)))
 (c9 aO))))
def Hl{p:Pg}{u:Str×Str}{Z:De}:qb (p.bad u) Z G u.2=gA ([u].find? p.bad) Z G:=by
 unfold qb
 cases h:p.bad u<;>simp [h,gA]
def Hm{p:Pg}{a b c:Nat}(d:Dk G p a b c)(s:Sm):xC (eK s.i a b c none) G=gA (s.nu.toList.find? p.bad) (eK s.i a b c none) G:=by
 cases s with
 | set x t =>
  rw [my]
  refine bT (Z1:=eK (.tup [.str "set",.str x,t.i]) a b c none) (G1:=G) (by kernel_rfl) ?_
  rw [kj (p:=p) (s:="cell") (k:=a) (x:=x) d.a (by kernel_rfl) (by rfl)]
  exact Hl (u:=("cell",x))
 | put x m n =>
  rw [mz]
  refine aN (Z1:=eK (.tup [.str "put",.str x,m.i,n.i]) a b c none) (G1:=G) (by kernel_rfl) (bT (Z1:=eK (.tup [.str "put",.str x,m.i,n.i]) a b c none) (G1:=G) (by kernel_rfl) ?_)
  rw [kj (p:=p) (s:="at") (k:=b) (x:=x) d.b (by kernel_rfl) (by rfl)]
  exact Hl (u:=("at",x))
 | call x =>
  rw [zx]
  refine aN (Z1:=eK (.tup [.str "call",.str x]) a b c none) (G1:=G) (by kernel_rfl) (aN (Z1:=eK (.tup [.str "call",.str x]) a b c none) (G1:=G) (by kernel_rfl) (bT (Z1:=eK (.tup [.str "call",.str x]) a b c none) (G1:=G) (by kernel_rfl) ?_))
  rw [kj (p:=p) (s:="call") (k:=c) (x:=x) d.c (by kernel_rfl) (by rfl)]
  exact Hl (u:=("call",x))
 | wh t m =>
  rw [hU]
  exact aN (Z1:=eK (.tup [.str "while",t.i,.tup (aq m)]) a b c none) (G1:=G) (by kernel_rfl) (aN (Z1:=eK (.tup [.str "while",t.i,.tup (aq m)]) a b c none) (G1:=G) (by kernel_rfl) (aN (Z1:=eK (.tup [.str "while",t.i,.tup (aq m)]) a b c none) (G1:=G) (by kernel_rfl) rfl))
 | ite t m n =>
  rw [kh]
  exact aN (Z1:=eK (.tup [.str "if",t.i,.tup (aq m),.tup (aq n)]) a b c none) (G1:=G) (by kernel_rfl) (aN (Z1:=eK (.tup [.str "if",t.i,.tup (aq m),.tup (aq n)]) a b c none) (G1:=G) (by kernel_rfl) (aN (Z1:=eK (.tup [.str "if",t.i,.tup (aq m),.tup (aq n)]) a b c none) (G1:=G) (by kernel_rfl) rfl))
def xD{f:Mo Ev}{Z Z1:De}{G G1:List M}{o:Option (Str×Str)}(h:f Z G=some (.v (mC o),Z1,G1)):cB f Z G=gA o Z1 G1:=by
 cases o with
 | none=>exact xy h
 | some u=>exact xA h
theorem xE{p:Pg}{x:I}{a b c:Nat}{ts:List Tm}(ht:∀t∈ts,t.size≤100):∀(post pre:List Tm) (v:Option Vl) {G:List M},Dk G p a b c->ts=pre++post->∃v' G',aW (a7 ⇑(.tup (ts.map Tm.i)) ts.length) (aB 4) zj pre.length post.length (eK x a b c v) G=gA ((post.flatMap Tm.us).find? p.bad) (eK x a b c v') G'/\bY G G'
 | [],pre,v,G,d,_=>⟨v,G,eS (by simp [a7,sq]),bY.refl _⟩
 | t::post,pre,v,G,d,hx=>by
  have ha:(a7 ⇑(.tup (ts.map Tm.i)) ts.length).at_ pre.length (eK x a b c v) G=some t.i:=by
   show (ts.map Tm.i)[pre.length]?=_
   rw [hx];simp
  obtain⟨G1,e1,x1⟩:=Hj (t:=t) d (ht t (by rw [hx];simp))
  have hd:zj (eK x a b c ↑t.i) G=gA (t.us.find? p.bad) (eK x a b c ↑t.i) G1:=xD (av (a:=[⇑t.i,⇑(.ref a),⇑(.ref b)]) rfl (cC (xs:=[.im t.i,.im (.ref a),.im (.ref b)]) rfl rfl e1))
  rw [List.flatMap_cons,List.find?_append]
  cases hb:t.us.find? p.bad with
  | some u =>
   rw [hb] at hd
   exact⟨v,G1,eT (d:=t.i) ha rfl hd,x1⟩
  | none =>
   rw [hb] at hd
   obtain⟨v',G',e',x'⟩:=xE ht post (pre++[t]) ↑t.i (d.ext x1) (by rw [hx];simp)
   refine⟨v',G',?_,x1.trans x'⟩
   rw [Option.none_or,<- e',za,List.length_singleton]
   exact cW (d:=t.i) ha rfl hd rfl
def Hn{s:Sm}(h:s.sh):∀t∈s.own,t.size≤100:=by
 intro t ht
 cases s with
 | set x t'=>rw [Sm.sh] at h;rw [z22.mp ht];lia
 | put x a b =>
  rw [Sm.sh] at h
  rcases z1d.mp ht with rfl|ht
  ·lia
  ·rw [z22.mp ht];lia
 | call x=>cases ht
 | wh t' b=>rw [Sm.sh] at h;rw [z22.mp ht];lia
 | ite t' b c=>rw [Sm.sh] at h;rw [z22.mp ht];lia
def Ho{p:Pg}{s:Sm}{a b c:Nat}(d:Dk G p a b c)(hs:s.sh):∃G',zk [.im s.i,.im (.ref a),.im (.ref b),.im (.ref c)] G=some (mC (s.ou.find? p.bad),G')/\bY G G':=by
 have hh:=Hm d s
 obtain⟨v',G',e,x⟩:=xE (x:=s.i) (Hn hs) s.own [] none d rfl
 have ef:bC (bG (one (bd (af (aa 0) ae) (ax 1 vY))) aT) (aB 4) zj (eK s.i a b c none) G=gA ((s.own.flatMap Tm.us).find? p.bad) (eK s.i a b c v') G':=b8 (fN (n:=s.own.length) (av (a:=[⇑s.i]) rfl (cC (xs:=[.im s.i]) rfl rfl (Hk s))) (by rw [z12])) e
 unfold Sm.ou
 rw [List.find?_append]
 cases hn:s.nu.toList.find? p.bad with
 | some u =>
  rw [hn] at hh
  exact⟨G,pT (o:=some u) (Z':=eK s.i a b c none) rfl (b7 hh),bY.refl _⟩
 | none =>
  rw [hn] at hh
  rw [Option.none_or]
  exact⟨G',pT rfl (aj hh ef),x⟩
end
section
variable {G:List M}
mutual
noncomputable def Sm.al:Sm->List Sm
 | .set x t=>[.set x t]
 | .put x a b=>[.put x a b]
 | .call x=>[.call x]
 | .wh t b=>.wh t b::cQ b
 | .ite t b c=>.ite t b c::(cQ b++cQ c)
noncomputable def cQ:List Sm->List Sm
 | []=>[]
 | s::b=>s.al++cQ b
end
theorem pU:∀a b:List Sm,cQ (a++b)=cQ a++cQ b
 | [],b=>by rw [z29,cQ,z29]
 | s::a,b=>by rw [z2a,cQ,cQ,pU a b,z20]
abbrev Sm.y92:Sm->List (List Sm)
 | .wh _ b=>[b]
 | .ite _ b c=>[b,c]
 | _=>[]
def y69(s:Sm):s.al=s::cQ s.y92.flatten:=by
 cases s with
 | set x t=>rw [Sm.al];simp [Sm.y92,cQ]
 | put x a b=>rw [Sm.al];simp [Sm.y92,cQ]
 | call x=>rw [Sm.al];simp [Sm.y92,cQ]
 | wh t b=>rw [Sm.al];simp [Sm.y92]
 | ite t b c=>rw [Sm.al];simp [Sm.y92,pU]
def y94(s:Sm):vX [.im s.i] G=some (.im (.tup (s.y92.map λb=>.tup (aq b))),G):=by
 cases s with
 | set x t=>rw [my];kernel_rfl
 | put x a b=>rw [mz];kernel_rfl
 | call x=>rw [zx];kernel_rfl
 | wh t b=>rw [hU];kernel_rfl
 | ite t b c=>rw [kh];kernel_rfl
def km(b:List Sm):aR b.reverse=aR b:=by
 induction b with
 | nil=>rfl
 | cons s b ih=>rw [List.reverse_cons,eD,ih,aR,aR,aR];lia
def y93(s:Sm):aR s.y92.flatten+1≤s.n:=by
 cases s with
 | set x t=>rw [Sm.n];simp [Sm.y92,aR]
 | put x a b=>rw [Sm.n];simp [Sm.y92,aR]
 | call x=>rw [Sm.n];simp [Sm.y92,aR]
 | wh t b=>rw [Sm.n];simp [Sm.y92];lia
 | ite t b c=>rw [Sm.n];simp [Sm.y92,eD];lia
def Hq{a w:Option Vl}{fs:List I}{ls:List Sm}{s:Sm}(hb:aR ls+s.n≤1000):∃w':Option Vl,bC (bG (one (cZ dN (bd (af (aa 3) ae) (ax 1 vX)))) aT) (aB 4) yW [a,↥fs,↥(aq ls),↑s.i,w] G=some (.nx [a,↥fs,↥(aq (ls++s.y92.flatten.reverse)),↑s.i,w'] G):=by
 have hn:=y93 s
 obtain⟨Z',G',e,eg,w',ed⟩:=xc (f:=λb:List Sm=>I.tup (aq b)) (xs:=s.y92.reverse) (e:=⇑(.tup (s.y92.reverse.map λb=>I.tup (aq b)))) (g:=aB 4) (b:=yW)
  (λpre Z G'=>G'=G/\∃(w':Option Vl),Z=[a,↥fs,↥(aq (ls++(pre.map List.reverse).flatten)),↑s.i,w']) (λ_ _ _ _=>rfl)
  (λpre x post Z G1 hx zz=>by
   obtain⟨e1,w',e2⟩:=zz
   subst e1;subst e2
   have hx':s.y92.flatten.reverse=(pre.map List.reverse).flatten++x.reverse++(post.map List.reverse).flatten:=by rw [List.reverse_flatten,<- List.map_reverse,hx];simp
   have hz:aR s.y92.flatten=aR (pre.map List.reverse).flatten+aR x+aR (post.map List.reverse).flatten:=by rw [<- km,hx',eD,eD,km x]
   have l1:=mx (ls++(pre.map List.reverse).flatten)
   have l2:=mx x
   rw [eD] at l1
   have c:(aq (ls++(pre.map List.reverse).flatten)).length+(aq x).length≤1000000:=by rw [dP,dP];lia
   refine⟨[a,↥fs,↥(aq (ls++(pre.map List.reverse).flatten)),↑s.i,↑(.tup (aq x))],G1,[a,↥fs,↥(aq (ls++((pre++[x]).map List.reverse).flatten)),↑s.i,↑(.tup (aq x))],G1,rfl,.inl ?_,rfl,_,rfl⟩
   have er:aq (ls++((pre++[x]).map List.reverse).flatten)=aq (ls++(pre.map List.reverse).flatten)++(aq x).reverse:=by simp [kg]
   rw [er]
   generalize aq (ls++(pre.map List.reverse).flatten)=z at c
   simp! [yW,dN,fG,fG.notC,c]) s.y92.reverse [] (Z:=[a,↥fs,↥(aq ls),↑s.i,w]) (G:=G) (by simp) ⟨rfl,w,by simp⟩
 have er:(s.y92.reverse.map List.reverse).flatten=s.y92.flatten.reverse:=by rw [List.reverse_flatten,List.map_reverse]
 rw [er] at ed
 subst ed;subst eg
 refine⟨w',b8 (fN (xs:=s.y92.reverse.map λb=>I.tup (aq b)) (n:=s.y92.reverse.length) (Z1:=[a,↥fs,↥(aq ls),↑s.i,w]) (G1:=G') ?_ (by simp)) e⟩
 simp! [y94,dN]
def Hr{a:Option Vl}:∀(n:Nat) (fs ls:List Sm) (v w:Option Vl),aR ls=n->fs.length+n≤1000 ->
  ∃(v' w':Option Vl),fQ yX y40 [a,↥(aq fs),↥(aq ls),v,w] G=some (.nx [a,↥(aq (fs++cQ ls.reverse)),↥[],v',w'] G):=by
 intro n
 induction n using Nat.strongRecOn with
 | _ n ih =>
  intro fs ls v w hn hb
  rcases xu ls with rfl|⟨ls,s,rfl⟩
  ·refine⟨v,w,?_⟩
   rw [List.reverse_nil,cQ,z11]
   refine lN ?_
   simp! [yX,aq]
  ·have sp:=y93 s
   rw [eD,aR,aR] at hn
   obtain⟨w',e1⟩:=Hq (G:=G) (a:=a) (w:=w) (fs:=aq (fs++[s])) (ls:=ls) (s:=s) (by lia)
   obtain⟨v2,w2,e2⟩:=ih (aR (ls++s.y92.flatten.reverse)) (by rw [eD,km];lia) (fs++[s]) (ls++s.y92.flatten.reverse) ↑s.i w' rfl (by rw [eD,km];simp;lia)
   refine⟨v2,w2,?_⟩
   have hr:fs++cQ (ls++[s]).reverse=fs++[s]++cQ (ls++s.y92.flatten.reverse).reverse:=by
    rw [z37,z37,List.reverse_reverse,List.reverse_singleton,z34,cQ,pU,y69 s];simp
   rw [hr]
   have c1:(aq fs).length<1000000:=by rw [dP];lia
   have ei:aq (ls++[s])=aq ls++[s.i]:=by rw [iT,aq,aq]
   have ej:aq (fs++[s])=aq fs++[s.i]:=by rw [iT,aq,aq]
   rw [ei]
   rw [oz (Z1:=[a,↥(aq fs),↥(aq ls++[s.i]),v,w]) (G1:=G) (Z2:=[a,↥(aq (fs++[s])),↥(aq (ls++s.y92.flatten.reverse)),↑s.i,w']) (G2:=G) (by simp! [yX]) ?_]
   ·exact e2
   ·refine aj (bD (x:=.im s.i) (Z1:=[a,↥(aq fs),↥(aq ls),v,w]) (G1:=G) (by simp! []) rfl) ?_
    refine aj (Z1:=[a,↥(aq (fs++[s])),↥(aq ls),↑s.i,w]) (G1:=G) (by rw [ej];simp! [c1]) e1
def Hs{b:List Sm}(hb:aR b≤1000):yY [.im (.tup (aq b))] G=some (.ow (.lst (aq (cQ b))),G):=by
 obtain⟨v,w,e⟩:=Hr (G:=G) (a:=↑(.tup (aq b))) (aR b.reverse) [] b.reverse none none rfl (by rw [km];simpa using hb)
 have er:aq b.reverse=(aq b).reverse:=by simp [kg]
 have e0:aq []=[]:=by rw [aq]
 rw [er,e0,List.reverse_reverse,z29] at e
 refine aL rfl ?_
 refine aj (bD (x:=.ow (.lst [])) (Z1:=[↑(.tup (aq b)),none,none,none,none]) (G1:=G) (by simp! []) rfl) ?_
 refine aj (bD (x:=.ow (.lst (aq b).reverse)) (Z1:=[↑(.tup (aq b)),↥[],none,none,none]) (G1:=G) (by simp! [dN,jL]) rfl) ?_
 refine aj e ?_
 simp! []
mutual
theorem xF:∀s:Sm,s.us=s.al.flatMap Sm.ou
 | .set x t=>by rw [Sm.us,Sm.al];simp [Sm.ou,Sm.nu,Sm.own]
 | .put x a b=>by rw [Sm.us,Sm.al];simp [Sm.ou,Sm.nu,Sm.own]
 | .call x=>by rw [Sm.us,Sm.al];simp [Sm.ou,Sm.nu,Sm.own]
 | .wh t b=>by rw [Sm.us,Sm.al,List.flatMap_cons,<- ko b];simp [Sm.ou,Sm.nu,Sm.own]
 | .ite t b c=>by rw [Sm.us,Sm.al,List.flatMap_cons,List.flatMap_append,<- ko b,<- ko c];simp [Sm.ou,Sm.nu,Sm.own]
theorem ko:∀b:List Sm,bh b=(cQ b).flatMap Sm.ou
 | []=>by rw [bh,cQ];rfl
 | s::b=>by rw [bh,cQ,List.flatMap_append,<- xF s,<- ko b]
end
mutual
theorem xG:∀s:Sm,s.sh->∀x∈s.al,x.sh
 | .set y t,h,x,hx=>by rw [Sm.al] at hx;rw [z22.mp hx];exact h
 | .put y a b,h,x,hx=>by rw [Sm.al] at hx;rw [z22.mp hx];exact h
 | .call y,h,x,hx=>by rw [Sm.al] at hx;rw [z22.mp hx];exact h
 | .wh t b,h,x,hx=>by
  rw [Sm.al] at hx
  rcases z1d.mp hx with rfl|hx
  ·exact h
  ·rw [Sm.sh] at h;exact kq b h.2 x hx
 | .ite t b c,h,x,hx=>by
  rw [Sm.al] at hx
  rcases z1d.mp hx with rfl|hx
  ·exact h
  ·rw [Sm.sh] at h
   rcases z13.mp hx with hx|hx
   ·exact kq b h.2.1 x hx
   ·exact kq c h.2.2 x hx
theorem kq:∀b:List Sm,bV b->∀x∈cQ b,x.sh
 | [],_,x,hx=>by rw [cQ] at hx;cases hx
 | s::b,h,x,hx=>by
  rw [cQ] at hx;rw [bV] at h
  rcases z13.mp hx with hx|hx
  ·exact xG s h.1 x hx
  ·exact kq b h.2 x hx
end
mutual
theorem y6a:∀s:Sm,s.al.length≤s.n
 | .set y t=>by rw [Sm.al,Sm.n];simp
 | .put y a b=>by rw [Sm.al,Sm.n];simp
 | .call y=>by rw [Sm.al,Sm.n];simp
 | .wh t b=>by rw [Sm.al,Sm.n,z10];have:=kr b;lia
 | .ite t b c=>by rw [Sm.al,Sm.n,z10,za];have:=kr b;have:=kr c;lia
theorem kr:∀b:List Sm,(cQ b).length≤aR b
 | []=>by rw [cQ,aR];simp
 | s::b=>by rw [cQ,aR,za];have:=y6a s;have:=kr b;lia
end
end
section
variable {G:List M}
def Ht(ns:List Str)(x:Str)(h:x∉ns):gj (kD ns) (.inr x)=false:=by
 induction ns with
 | nil=>rfl
 | cons n ns ih =>
  have h1:n≠x:=λz=>h (by rw [z];simp)
  have h2:x∉ns:=λz=>h (z23 _ z)
  have:=ih h2
  unfold gj kD at *
  simp only [z16,List.any_cons]
  rw [this]
  simp [h1]
def Hu{ns:List Str}{x:Str}(h:x∉ns):cU (kD ns) (.inr x) (.bl true)=kD (ns++[x]):=by
 unfold cU
 rw [Ht ns x h]
 simp [kD]
abbrev i7(xs:List (Str×I))(v1 v2:Option Vl):De:=[↑(.tup (xs.map bE)),v1,v2]
theorem xH{xs:List (Str×I)}(hl:xs.length≤1000):∀(post pre:List (Str×I)) (v:Option Vl),xs=pre++post->∃v',aW (a7 ⇑(.tup (xs.map bE)) xs.length) (aB 2) y3c pre.length post.length (i7 xs (some (.ow (.dic (kD (pre.map (·.1)))))) v) G=match cJ (pre.map (·.1)) (post.map (·.1)) with
   | none=>some (.nx (i7 xs (some (.ow (.dic (kD (xs.map (·.1)))))) v') G)
   | some n=>some (.rt (je "twice" n) G)
 | [],pre,v,hx=>by
  refine⟨v,?_⟩
  rw [hx,z11]
  exact eS (by simp [a7,sq])
 | x::post,pre,v,hx=>by
  obtain⟨D,hD⟩:∃D,D=i7 xs (some (.ow (.dic (kD (pre.map (·.1)))))) ↑(bE x):=⟨_,rfl⟩
  have ha:(a7 ⇑(.tup (xs.map bE)) xs.length).at_ pre.length (i7 xs (some (.ow (.dic (kD (pre.map (·.1)))))) v) G=some (bE x):=by
   show (xs.map bE)[pre.length]?=_
   rw [hx];simp
  have hg:aB 2 (.im (bE x)) (i7 xs (some (.ow (.dic (kD (pre.map (·.1)))))) v) G=some (D,G):=by rw [hD];rfl
  have e0:ah ak (aa 2) (ag (.int 0)) D G=some (⇑(.str x.1),D,G):=by
   rw [hD]
   exact aH (x:=⇑(bE x)) (y:=⇑(.int 0)) rfl rfl (by simp [bE,ak,bX,dY,sq,pk,dj])
  have et:ao (ah fR (ah ak (aa 2) (ag (.int 0))) (aa 1)) D G=some (decide (x.1∈pre.map (·.1)),D,G):=by
   refine dB (aH e0 (y:=.s 1) (Z2:=D) (G2:=G) (by rw [hD];rfl) ?_)
   rw [hD]
   have hv:=xx (pre.map (·.1)) x.1
   by_cases hm:x.1∈pre.map (·.1)
   ·rw [if_pos hm] at hv
    rw [decide_eq_true hm]
    simp only [i7,fR,bX,il,eO,sq,pk,eN,dw,hv];simp [hv]
   ·rw [if_neg hm] at hv
    rw [decide_eq_false hm]
    simp only [i7,fR,bX,il,eO,sq,pk,eN,dw,hv];simp [hv]
  rw [z16]
  by_cases hm:x.1∈pre.map (·.1)
  ·refine⟨v,?_⟩
   have:cJ (pre.map (·.1)) (x.1::post.map (·.1))=some x.1:=by unfold cJ;rw [if_pos hm]
   rw [this]
   rw [decide_eq_true hm] at et
   refine eT (d:=bE x) ha hg (b7 (bT et ?_))
   have ea:af (ag (.str "twice")) (af (ah ak (aa 2) (ag (.int 0))) ae) D G=some ([⇑(.str "twice"),⇑(.str x.1)],D,G):=av (a:=⇑(.str "twice")) rfl (av (av e0 rfl) rfl)
   unfold iR
   rw [ea]
   rfl
  ·rw [decide_eq_false hm] at et
   obtain⟨v',e'⟩:=xH hl post (pre++[x]) ↑(bE x) (by rw [hx];simp)
   refine⟨v',?_⟩
   have hd:cJ (pre.map (·.1)) (x.1::post.map (·.1))=cJ ((pre++[x]).map (·.1)) (post.map (·.1)):=by rw [cJ,if_neg hm];simp
   rw [hd,<- e',za,List.length_singleton]
   refine cW (d:=bE x) ha hg (aj (aN et rfl) ?_) rfl
   have hp:cO (aa 1) (ah ak (aa 2) (ag (.int 0))) (ag (.bl true)) D G=some (.nx (i7 xs (some (.ow (.dic (kD ((pre++[x]).map (·.1)))))) ↑(bE x)) G):=by
    have hk:=Hu hm
    have hln:(kD (pre.map (·.1))).length<1000000:=by
     have:pre.length≤xs.length:=by rw [hx];simp
     simp [kD];lia
    rw [hD] at e0 ⊢
    have er:(pre++[x]).map (·.1)=pre.map (·.1)++[x.1]:=by simp
    rw [er,<- hk]
    generalize kD (pre.map (·.1))=z at hln e0
    simp only [bE] at e0 ⊢
    simp! [cO,i7,dj,hln]
   unfold c9
   rw [hp]
   rfl
def pV{xs:List (Str×I)}(hl:xs.length≤1000):j5 [.im (.tup (xs.map bE))] G=some (match cJ [] (xs.map (·.1)) with|none=>.ow (.dic (kD (xs.map (·.1))))|some n=>je "twice" n,G):=by
 obtain⟨v',e⟩:=xH (G:=G) hl xs [] none rfl
 have it:bG (one (aa 0)) aT (i7 xs (some (.ow (.dic (kD [])))) none) G=some (a7 ⇑(.tup (xs.map bE)) xs.length,[⇑(.tup (xs.map bE))],i7 xs (some (.ow (.dic (kD [])))) none,G):=fN (n:=xs.length) rfl (by rw [z12])
 have s0:c9 (aI jM (aB 1)) (i7 xs none none) G=some (.nx (i7 xs (some (.ow (.dic (kD [])))) none) G):=rfl
 cases h:cJ [] (xs.map (·.1)) with
 | some n =>
  rw [show ([]:List (Str×I)).map (·.1)=[] from rfl,h] at e
  exact aL rfl (aj s0 (b7 (b8 it e)))
 | none =>
  rw [show ([]:List (Str×I)).map (·.1)=[] from rfl,h] at e
  exact aL rfl (aj s0 (aj (b8 it e) rfl))
abbrev Pg.bds(p:Pg):List (List Sm):=p.defs.map (·.2)++[p.body]
abbrev bI(b:List Sm):I:=.tup (aq b)
def y91{p:Pg}(hp:p.Sh):vW [.im p.i] G=some (.ow (.lst (p.bds.map bI)),G):=by
 have hc:=hp.c1
 obtain⟨ds,G',e,ed,eg⟩:=xf (f:=bg) (xs:=p.defs) (e:=⇑(.tup (p.defs.map bg))) (c:=c1) (te:=ah ak (aa 0) (ag (.int 1))) (di:=[]) (Z:=[↑p.i])
  (λpre acc g=>acc=(pre.map (·.2)).map bI/\g=G)
  (λpre acc g _=>rfl)
  (λpre x post acc g hx zz=>by
   obtain⟨ea,eg⟩:=zz
   refine⟨[bg x],bI x.2,[↑(bg x)],g,rfl,aH (x:=⇑(bg x)) (y:=⇑(.int 1)) rfl rfl (by simp [bg,bI,ak,bX,dY,sq,pk,eB]),by rw [ea];simp,eg⟩)
  p.defs [] (acc:=[]) (G:=G) rfl ⟨rfl,rfl⟩
 rw [ed,eg] at e
 have a2:ah ak (aa 0) (ag (.int 2)) [↑p.i] G=some (⇑(.tup (p.defs.map bg)),[↑p.i],G):=aH (x:=⇑p.i) (y:=⇑(.int 2)) rfl rfl (by simp [Pg.i,ak,bX,dY,sq,pk,mi])
 have a3:ah ak (aa 0) (ag (.int 3)) [↑p.i] G=some (⇑(.tup (aq p.body)),[↑p.i],G):=aH (x:=⇑p.i) (y:=⇑(.int 3)) rfl rfl (by simp [Pg.i,ak,bX,dY,sq,pk,wq])
 refine aL rfl (cG (Z1:=[↑p.i]) (aH (x:=.v (.ow (.lst ((p.defs.map λq:Str×List Sm=>q.2).map bI)))) (y:=.v (.ow (.lst [bI p.body]))) (kH (by rfl) (fN (n:=p.defs.length) a2 (by rw [z12])) (by show p.defs.length≤100000;lia) e) (av (av a3 rfl) rfl) ?_))
 have hl:((p.defs.map (·.2)).map bI).length + [bI p.body].length≤1000000:=by simp;lia
 have er:p.bds.map bI=(p.defs.map (·.2)).map bI++[bI p.body]:=by simp [Pg.bds]
 rw [er]
 generalize (p.defs.map (·.2)).map bI=z at hl
 generalize [bI p.body]=z2 at hl
 simp [bx,bX,oI,bK,jF,mW,oH,pk,hl]
end
section
abbrev eL(p:Pg)(v1 v2 v3 v4 v5:Option Vl):De:=[↑p.i,v1,v2,v3,v4,v5]
abbrev kJ(p:Pg)(G:List M)(v1 v2 v3:Option Vl):Prop:=(v1=some (.ow (.dic (kD (p.nm 0))))/\v2=some (.ow (.dic (kD (p.nm 1))))/\v3=some (.ow (.dic (kD (p.nm 2)))))∨∃a b c,v1=↑(.ref a)/\v2=↑(.ref b)/\v3=↑(.ref c)/\Dk G p a b c
theorem kJ.ext{p:Pg}{G G':List M}{v1 v2 v3:Option Vl}(h:kJ p G v1 v2 v3)(e:bY G G'):kJ p G' v1 v2 v3:=by
 rcases h with h|⟨a,b,c,h1,h2,h3,h4⟩
 ·exact .inl h
 ·exact .inr ⟨a,b,c,h1,h2,h3,h4.ext e⟩
def y74{p:Pg}{G:List M}{v1 v2 v3 v4:Option Vl}{s:Sm}(h:kJ p G v1 v2 v3):∃a b c G1,af (aa 5) (af (aZ (aa 1)) (af (aZ (aa 2)) (af (aZ (aa 3)) ae))) (eL p v1 v2 v3 v4 ↑s.i) G=some ([⇑s.i,⇑(.ref a),⇑(.ref b),⇑(.ref c)],eL p ↑(.ref a) ↑(.ref b) ↑(.ref c) v4 ↑s.i,G1)/\bY G G1/\Dk G1 p a b c:=by
 rcases h with⟨rfl,rfl,rfl⟩| ⟨a,b,c,rfl,rfl,rfl,d⟩
 ·refine⟨G.length,(G++[M.dic (kD (p.nm 0))]).length,(G++[M.dic (kD (p.nm 0))]++[M.dic (kD (p.nm 1))]).length,G++[M.dic (kD (p.nm 0))]++[M.dic (kD (p.nm 1))]++[M.dic (kD (p.nm 2))],rfl,⟨_,by rw [z20,z20]⟩,?_,?_,?_⟩
  ·simp
  ·simp
  ·simp
 ·exact⟨a,b,c,G,rfl,bY.refl _,d⟩
theorem xI{p:Pg}{k:Nat}{ss:List Sm}{v4:Option Vl}(hs:∀s∈ss,s.sh):∀(post pre:List Sm) (v1 v2 v3 v5:Option Vl) {G:List M},G[k]?=some (.lst (aq ss))->kJ p G v1 v2 v3->ss=pre++post->∃v1' v2' v3' v5' G',aW (a7 ⇑(.ref k) ss.length) (aB 5) Fu pre.length post.length (eL p v1 v2 v3 v4 v5) G=gA ((post.flatMap Sm.ou).find? p.bad) (eL p v1' v2' v3' v4 v5') G'/\bY G G'/\kJ p G' v1' v2' v3'
 | [],pre,v1,v2,v3,v5,G,hk,d,_=>⟨v1,v2,v3,v5,G,eS (by simp [a7,sq,pk,hk,dP]),bY.refl _,d⟩
 | s::post,pre,v1,v2,v3,v5,G,hk,d,hx=>by
  have ha:(a7 ⇑(.ref k) ss.length).at_ pre.length (eL p v1 v2 v3 v4 v5) G=some s.i:=by
   have:sq (eL p v1 v2 v3 v4 v5) G ⇑(.ref k)=some (aq ss):=by simp [sq,pk,hk]
   show (sq _ G _).bind (·[pre.length]?)=_
   rw [this]
   show (aq ss)[pre.length]?=_
   rw [kg,hx];simp
  obtain⟨a,b,c,G1,ea,x1,d1⟩:=y74 (v4:=v4) (s:=s) d
  obtain⟨G2,e2,x2⟩:=Ho d1 (hs s (by rw [hx];simp))
  have hd:Fu (eL p v1 v2 v3 v4 ↑s.i) G=gA (s.ou.find? p.bad) (eL p ↑(.ref a) ↑(.ref b) ↑(.ref c) v4 ↑s.i) G2:=xD (av ea (cC (xs:=[.im s.i,.im (.ref a),.im (.ref b),.im (.ref c)]) rfl rfl e2))
  have D2:kJ p G2 ↑(.ref a) ↑(.ref b) ↑(.ref c):=.inr ⟨a,b,c,rfl,rfl,rfl,d1.ext x2⟩
  rw [List.flatMap_cons,List.find?_append]
  cases hb:s.ou.find? p.bad with
  | some u =>
   rw [hb] at hd
   exact⟨_,_,_,v5,G2,eT (d:=s.i) ha rfl hd,x1.trans x2,D2⟩
  | none =>
   rw [hb] at hd
   obtain⟨w1,w2,w3,w5,G',e',x',d'⟩:=xI hs post (pre++[s]) _ _ _ ↑s.i ((x1.trans x2).at_ hk) D2 (by rw [hx];simp)
   refine⟨w1,w2,w3,w5,G',?_,(x1.trans x2).trans x',d'⟩
   rw [Option.none_or,<- e',za,List.length_singleton]
   exact cW (d:=s.i) ha rfl hd rfl
def y98{p:Pg}{b:List Sm}{v1 v2 v3 v5:Option Vl}{G:List M}(hb:bV b)(hn:aR b≤1000)(d:kJ p G v1 v2 v3):∃v1' v2' v3' v5' G',zl (eL p v1 v2 v3 ↑(bI b) v5) G=gA ((bh b).find? p.bad) (eL p v1' v2' v3' ↑(bI b) v5') G'/\bY G G'/\kJ p G' v1' v2' v3':=by
 obtain⟨G1,hG1⟩:∃G1:List M,G1=G++[.lst (aq (cQ b))]:=⟨_,rfl⟩
 have hk:G1[G.length]?=some (.lst (aq (cQ b))):=by rw [hG1];simp
 have x1:bY G G1:=by rw [hG1];exact bY.app _ _
 have hl:=kr b
 obtain⟨w1,w2,w3,w5,G',e,x',d'⟩:=xI (p:=p) (v4:=↑(bI b)) (kq b hb) (cQ b) [] v1 v2 v3 v5 hk (d.ext x1) rfl
 rw [<- ko] at e
 refine⟨w1,w2,w3,w5,G',b8 (eA (e:=⇑(.ref G.length)) (n:=(cQ b).length) (Z1:=eL p v1 v2 v3 ↑(bI b) v5) (G1:=G1) (xs:=aq (cQ b)) (av (av (a:=[⇑(bI b)]) rfl (cC (xs:=[.im (bI b)]) rfl rfl (Hs hn))) (by rw [hG1];rfl)) rfl (by simp [sq,pk,hk]) (dP _)) e,x1.trans x',d'⟩
theorem y87{p:Pg}{bs:List (List Sm)}(hs:∀b∈bs,bV b/\aR b≤1000):∀(post pre:List (List Sm)) (v1 v2 v3 v4 v5:Option Vl) {G:List M},kJ p G v1 v2 v3->bs=pre++post->∃v1' v2' v3' v4' v5' G',aW (a7 (.v (.ow (.lst (bs.map bI)))) bs.length) (aB 4) zl pre.length post.length (eL p v1 v2 v3 v4 v5) G=gA ((post.flatMap bh).find? p.bad) (eL p v1' v2' v3' v4' v5') G'/\bY G G'
 | [],pre,v1,v2,v3,v4,v5,G,d,_=>⟨v1,v2,v3,v4,v5,G,eS (by simp [a7,sq,pk]),bY.refl _⟩
 | b::post,pre,v1,v2,v3,v4,v5,G,d,hx=>by
  have ha:(a7 (.v (.ow (.lst (bs.map bI)))) bs.length).at_ pre.length (eL p v1 v2 v3 v4 v5) G=some (bI b):=by
   show (bs.map bI)[pre.length]?=_
   rw [hx];simp
  have hb:=hs b (by rw [hx];simp)
  obtain⟨w1,w2,w3,w5,G1,e1,x1,d1⟩:=y98 (v5:=v5) hb.1 hb.2 d
  rw [List.flatMap_cons,List.find?_append]
  cases hf:(bh b).find? p.bad with
  | some u =>
   rw [hf] at e1
   exact⟨w1,w2,w3,v4,w5,G1,eT (d:=bI b) ha rfl e1,x1⟩
  | none =>
   rw [hf] at e1
   obtain⟨z1,z2,z3,z4,z5,G',e',x'⟩:=y87 hs post (pre++[b]) w1 w2 w3 ↑(bI b) w5 d1 (by rw [hx];simp)
   refine⟨z1,z2,z3,z4,z5,G',?_,x1.trans x'⟩
   rw [Option.none_or,<- e',za,List.length_singleton]
   exact cW (d:=bI b) ha rfl e1 rfl
def y89(p:Pg):p.bds.flatMap bh=p.us:=by
 unfold Pg.bds Pg.us
 rw [List.flatMap_append,List.flatMap_singleton]
 congr 1
 induction p.defs with
 | nil=>rfl
 | cons q r ih=>rw [z16,List.flatMap_cons,ih,ck]
def Hv{f:Mo Ev}{g:GF}{Z Z1:De}{G G1:List M}{w n:Str}(h:f Z G=some (.v (je w n),Z1,G1)):iQ f g Z G=some (.rt (je w n) G1):=by unfold iQ;rw [h];rfl
def Hw{f:Mo Ev}{g:GF}{Z Z1 Z2:De}{G G1 G2:List M}{kvs:List (aK×I)}(h:f Z G=some (.v (.ow (.dic kvs)),Z1,G1))(k:g (.ow (.dic kvs)) Z1 G1=some (Z2,G2)):iQ f g Z G=some (.nx Z2 G2):=by unfold iQ;rw [h];dsimp only;rw [k]
abbrev xJ:Option (Str×Str)->Vl
 | none=>.im (.bl true)
 | some u=>je u.1 u.2
def Hx{p:Pg}{G:List M}(hp:p.Sh):∃G',zm [.im p.i] G=some (xJ p.due,G')/\bY G G':=by
 have o0:=pV (G:=G) (xs:=p.pt 0) (by have:=hp.pt 0;lia)
 have o1:=pV (G:=G) (xs:=p.pt 1) (by have:=hp.pt 1;lia)
 have o2:=pV (G:=G) (xs:=p.pt 2) (by have:=hp.pt 2;lia)
 have ya2:∀{Z:De} {k:Nat},aa 0 Z G=some (⇑p.i,Z,G)->k<3->∀{v:Vl},j5 [.im (.tup ((p.pt k).map bE))] G=some (v,G)->bd (af (ah ak (aa 0) (ag (.int k))) ae) (ax 1 j5) Z G=some (.v v,Z,G):=λ{Z k} h hk {v} e =>
  av (av (aH h rfl (i4 hk)) rfl) (cC (xs:=[.im (.tup ((p.pt k).map bE))]) rfl rfl e)
 unfold Pg.due
 cases h0:cJ [] (p.nm 0) with
 | some n =>
  have h0':cJ [] ((p.pt 0).map (·.1))=some n:=h0
  rw [h0'] at o0
  exact⟨G,aL rfl (b7 (Hv (ya2 (k:=0) rfl (by decide) o0))),bY.refl _⟩
 | none =>
  have h0':cJ [] ((p.pt 0).map (·.1))=none:=h0
  rw [h0'] at o0
  have s0:iQ (bd (af (ah ak (aa 0) (ag (.int 0))) ae) (ax 1 j5)) (aB 1) (eL p none none none none none) G=some (.nx (eL p (some (.ow (.dic (kD (p.nm 0))))) none none none none) G):=Hw (ya2 (k:=0) rfl (by decide) o0) rfl
  cases h1:cJ [] (p.nm 1) with
  | some n =>
   have h1':cJ [] ((p.pt 1).map (·.1))=some n:=h1
   rw [h1'] at o1
   exact⟨G,aL rfl (aj s0 (b7 (Hv (ya2 (k:=1) rfl (by decide) o1)))),bY.refl _⟩
  | none =>
   have h1':cJ [] ((p.pt 1).map (·.1))=none:=h1
   rw [h1'] at o1
   have s1:iQ (bd (af (ah ak (aa 0) (ag (.int 1))) ae) (ax 1 j5)) (aB 2) (eL p (some (.ow (.dic (kD (p.nm 0))))) none none none none) G=some (.nx (eL p (some (.ow (.dic (kD (p.nm 0))))) (some (.ow (.dic (kD (p.nm 1))))) none none none) G):=Hw (ya2 (k:=1) rfl (by decide) o1) rfl
   cases h2:cJ [] (p.nm 2) with
   | some n =>
    have h2':cJ [] ((p.pt 2).map (·.1))=some n:=h2
    rw [h2'] at o2
    exact⟨G,aL rfl (aj s0 (aj s1 (b7 (Hv (ya2 (k:=2) rfl (by decide) o2))))),bY.refl _⟩
   | none =>
    have h2':cJ [] ((p.pt 2).map (·.1))=none:=h2
    rw [h2'] at o2
    have s2:iQ (bd (af (ah ak (aa 0) (ag (.int 2))) ae) (ax 1 j5)) (aB 3) (eL p (some (.ow (.dic (kD (p.nm 0))))) (some (.ow (.dic (kD (p.nm 1))))) none none none) G=some (.nx (eL p (some (.ow (.dic (kD (p.nm 0))))) (some (.ow (.dic (kD (p.nm 1))))) (some (.ow (.dic (kD (p.nm 2))))) none none) G):=Hw (ya2 (k:=2) rfl (by decide) o2) rfl
    have hb:∀b∈p.bds,bV b/\aR b≤1000:=λb hm=>by
     unfold Pg.bds at hm
     rcases z13.mp hm with hm|hm
     ·obtain⟨q,hq,rfl⟩:=z39.mp hm
      have:aR q.2≤(p.defs.map λq=>aR q.2).sum:=pM (z39.mpr ⟨q,hq,rfl⟩)
      exact⟨(hp.ds q hq).1,by have:=hp.n1;lia⟩
     ·rw [z22.mp hm];exact⟨hp.bo.1,by have:=hp.n2;lia⟩
    obtain⟨w1,w2,w3,w4,w5,G',e,x⟩:=y87 hb p.bds [] (some (.ow (.dic (kD (p.nm 0))))) (some (.ow (.dic (kD (p.nm 1))))) (some (.ow (.dic (kD (p.nm 2))))) none none (G:=G) (.inl ⟨rfl,rfl,rfl⟩) rfl
    rw [y89] at e
    have ef:bC (bG (one (bd (af (aa 0) ae) (ax 1 vW))) aT) (aB 4) zl (eL p (some (.ow (.dic (kD (p.nm 0))))) (some (.ow (.dic (kD (p.nm 1))))) (some (.ow (.dic (kD (p.nm 2))))) none none) G=gA (p.us.find? p.bad) (eL p w1 w2 w3 w4 w5) G':=b8 (eA (e:=.v (.ow (.lst (p.bds.map bI)))) (n:=p.bds.length) (xs:=p.bds.map bI) (av (a:=[⇑p.i]) rfl (cC (xs:=[.im p.i]) rfl rfl (y91 hp))) rfl rfl (by simp)) e
    refine⟨G',?_,x⟩
    cases hf:p.us.find? p.bad with
    | some u =>
     rw [hf] at ef
     exact aL rfl (aj s0 (aj s1 (aj s2 (b7 ef))))
    | none =>
     rw [hf] at ef
     exact aL rfl (aj s0 (aj s1 (aj s2 (aj ef rfl))))
def mD{p:Pg}{G:List M}(hp:p.Sh):∃G',jb [.im p.i] G=some (.im (eU p.due),G')/\bY G G':=by
 obtain⟨G',e,x⟩:=Hx (G:=G) hp
 refine⟨G',?_,x⟩
 unfold jb
 rw [e]
 cases p.due with
 | none=>rfl
 | some u=>simp [xJ,je,eU]
end
section
abbrev dQ{α:Type}:List (Str×α)->Nat->Str->List (Str×α)
 | [],_,_=>[]
 | x::r,0,nm=>(nm,x.2)::r
 | x::r,j+1,nm=>x::dQ r j nm
theorem mE{α:Type}(nm:Str):∀(xs:List (Str×α)) (j:Nat),(dQ xs j nm).map (·.2)=xs.map (·.2)
 | [],_=>rfl
 | _::_,0=>rfl
 | x::r,j+1=>by rw [dQ,z16,z16,mE nm r j]
def pW{α:Type}(nm:Str)(xs:List (Str×α))(j:Nat):(dQ xs j nm).length=xs.length:=by
 have:=congrArg List.length (mE nm xs j)
 simpa using this
theorem mF{α β:Type}(g:α->β)(nm:Str):∀(xs:List (Str×α)) (j:Nat),(dQ xs j nm).map (λq=>(q.1,g q.2))=dQ (xs.map λq=>(q.1,g q.2)) j nm
 | [],_=>rfl
 | _::_,0=>rfl
 | x::r,j+1=>by rw [dQ,z16,z16,dQ,mF g nm r j]
theorem xK{α:Type}(nm:Str):∀(xs:List (Str×α)) (j:Nat) (x:Str×α),xs[j]?=some x->dQ xs j nm=xs.take j++(nm,x.2)::xs.drop (j+1)
 | [],_,_,h=>by simp at h
 | y::r,0,x,h=>by simp at h;subst h;rfl
 | y::r,j+1,x,h=>by
  rw [dQ,xK nm r j x (by simpa using h)];rfl
abbrev Pg.y399(p:Pg)(j:Nat)(nm:Str):Nat->Pg
 | 0=>⟨dQ p.cells j nm,p.rows,p.defs,p.body⟩
 | 1=>⟨p.cells,dQ p.rows j nm,p.defs,p.body⟩
 | _=>⟨p.cells,p.rows,dQ p.defs j nm,p.body⟩
theorem Pg.Sh.y399{p:Pg}(h:p.Sh)(j:Nat)(nm:Str):∀k,(p.y399 j nm k).Sh
 | 0=>⟨⟨by show (dQ p.cells j nm).length≤24;rw [pW];exact h.c1.1,h.c1.2⟩,h.ds,h.bo,h.n1,h.n2⟩
 | 1=>⟨⟨h.c1.1,by show (dQ p.rows j nm).length≤24;rw [pW];exact h.c1.2.1,h.c1.2.2⟩,h.ds,h.bo,h.n1,h.n2⟩
 | k+2=>by
  refine⟨⟨h.c1.1,h.c1.2.1,by show (dQ p.defs j nm).length≤24;rw [pW];exact h.c1.2.2⟩,λq hq=>?_,h.bo,?_,h.n2⟩
  ·have hm:q.2∈(dQ p.defs j nm).map (·.2):=z39.mpr ⟨q,hq,rfl⟩
   rw [mE] at hm
   obtain⟨q',hq',e⟩:=z39.mp hm
   have:=h.ds q' hq'
   rw [e] at this
   exact this
  ·show ((dQ p.defs j nm).map λq=>aR q.2).sum≤294
   have e:((dQ p.defs j nm).map λq=>aR q.2)=p.defs.map λq=>aR q.2:=by
    have:=congrArg (List.map aR) (mE nm p.defs j)
    rw [z38,z38] at this
    exact this
   rw [e];exact h.n1
def Hy{p:Pg}{j:Nat}{nm:Str}{k:Nat}(hk:k<3):(p.y399 j nm k).pt k=dQ (p.pt k) j nm:=by
 match k,hk with
 | 0,_=>exact mF (λz=>I.int z) nm p.cells j
 | 1,_=>exact mF (λz=>I.int z) nm p.rows j
 | 2,_=>exact mF (λz=>I.tup (aq z)) nm p.defs j
def Hz{xs:List (Str×I)}{j:Nat}{x:Str×I}{nm:Str}(h:xs[j]?=some x):dz (xs.map bE) none (some (j:Int))++[bE (nm,x.2)]++dz (xs.map bE) (some ((j+1:Nat):Int)) none=(dQ xs j nm).map bE:=by
 have hj:j<xs.length:=(z14.mp h).1
 rw [p9,zr (by rw [z12];lia),xK nm xs j x h]
 simp
def HA{p:Pg}{k j:Nat}{nm:Str}(hk:k<3){ps:List I}(hp:p.i=.tup ps):I.tup (dz ps none (some (k:Int))++[.tup ((dQ (p.pt k) j nm).map bE)]++dz ps (some ((k+1:Nat):Int)) none)=(p.y399 j nm k).i:=by
 rw [Pg.i_pt] at hp
 cases hp
 rw [p9,zr (by show k+1≤4;lia),Pg.i_pt,<- Hy hk]
 match k,hk with
 | 0,_=>rfl
 | 1,_=>rfl
 | 2,_=>rfl
end
section
variable {d l:Nat}
def DG.ext{G G':List M}(D:DG G d l)(e:bY G G'):DG G' d l:=by
 obtain⟨a,n,ms,D⟩:=D
 exact⟨a,n,ms,e.at_ D.dc,e.at_ D.lc,D.ne,D.a0,D.a1,D.n0,D.m0⟩
abbrev hZ(d:Nat)(p:Pg)(k:Nat)(v3 v4 v5 v6 v7 v8:Option Vl):De:=[↑(.ref d),↑p.i,↑(.ref k),v3,v4,v5,v6,v7,v8]
def xM{xs:List I}{Z Z1:De}{G G1:List M}{fe:Mo Ev}(h:fe Z G=some (⇑(.tup xs),Z1,G1)):bd (af fe ae) aQ Z G=some (⇑(.int xs.length),Z1,G1):=av (av h rfl) rfl
def yb6{xs ys:List I}{Z:De}{G:List M}(h:xs.length+ys.length≤1000):bx [⇑(.tup xs),⇑(.tup ys)] Z G=some (⇑(.tup (xs++ys)),Z,G):=by
 have:xs.length+ys.length≤1000000:=by lia
 simp [bx,bX,oI,bK,jF,mW,this]
def xN{xs:List I}{j:Int}{Z:De}{G:List M}{fe fj:Mo Ev}(h:fe Z G=some (⇑(.tup xs),Z,G))(hj:fj Z G=some (⇑(.int j),Z,G)):a8 fe a6 (aX fj) Z G=some (⇑(.tup (dz xs none (some j))),Z,G) :=
 av h (av (m:=a6) (a:=[]) rfl (av (m:=aX fj) (a:=[⇑(.int j)]) (av hj rfl) rfl))
def xO{xs:List I}{j:Int}{Z:De}{G:List M}{fe fj:Mo Ev}(h:fe Z G=some (⇑(.tup xs),Z,G))(hj:fj Z G=some (⇑(.int j),Z,G)):a8 fe (aX fj) a6 Z G=some (⇑(.tup (dz xs (some j) none)),Z,G) :=
 av h (av (m:=aX fj) (a:=[⇑(.int j)]) (av hj rfl) (av (m:=a6) (a:=[]) rfl rfl))
def yb9{p:Pg}{k:Nat}{ns:List Str}{G:List M}(D:DG G d l)(hp:p.Sh)(hk:G[k]?=some (.lst (ns.map I.str)))(h0:0<ns.length)(h1:ns.length≤100):∃(p':Pg) (G':List M),zp [.im (.ref d),.im p.i,.im (.ref k)] G=some (.im p'.i,G')/\p'.Sh/\DG G' d l/\Mor d l G G':=by
 obtain⟨r1,G1,e1,a0,a1,D1,o1⟩:=bU (many:=(ns.length:Int)) D (by lia) (by lia)
 have hk0:k≠d/\k≠l/\True:=by
  obtain⟨a,n,ms,D⟩:=D
  refine⟨λz=>?_,λz=>?_,trivial⟩
  ·rw [z,D.dc] at hk;cases hk
  ·rw [z,D.lc] at hk
   cases ns with
   | nil=>simp at h0
   | cons y ys=>cases ms<;>simp at hk
 have hk1:G1[k]?=some (.lst (ns.map I.str)):=(o1.at_ k hk0.1 hk0.2.1).trans hk
 obtain⟨nm,en,_⟩:=j9 a0 a1
 have w2:=pO (G:=G1) (nm:=nm) (k:=-1) hp
 rw [wR (by decide)] at w2
 obtain⟨G2,hG2⟩:∃G2:List M,G2=G1++[.lst [.int (-1-p.us.length)],.lst (p.us.map uI)]:=⟨_,rfl⟩
 rw [<- hG2] at w2
 have x2:bY G1 G2:=by rw [hG2];exact bY.app _ _
 have hf:G2[G1.length+1]?=some (.lst (p.us.map uI)):=by rw [hG2,z18 (by lia)];simp
 have D2:=D1.ext x2
 obtain⟨r3,G3,e3,b0,b1,D3,o3⟩:=bU (many:=6) D2 (by decide) (by decide)
 have m13:Mor d l G G3:=(o1.mor.trans x2.mor).trans o3.mor
 have hfd:G1.length+1≠d/\G1.length+1≠l:=by
  obtain⟨a,n,ms,D⟩:=D1
  have z1:=(z14.mp D.dc).1
  have z2:=(z14.mp D.lc).1
  lia
 have hf3:G3[G1.length+1]?=some (.lst (p.us.map uI)):=(o3.at_ _ hfd.1 hfd.2).trans hf
 obtain⟨f,hfe⟩:∃f,f=G1.length+1:=⟨_,rfl⟩
 rw [<- hfe] at w2 hf hf3 hfd
 have s1:aI (ah ak (aa 2) (bd (af (aa 0) (af (bd (af (aa 2) ae) aQ) ae)) (ax 2 aU))) (aB 3) (hZ d p k none none none none none none) G=some (.nx (hZ d p k ↑(.str nm) none none none none none) G1):=by
  refine bD (x:=.im (.str nm)) (Z1:=hZ d p k none none none none none none) (G1:=G1) (aH (x:=⇑(.ref k)) (y:=⇑(.int r1)) (Z1:=hZ d p k none none none none none none) (G1:=G) rfl (av (a:=[⇑(.ref d),⇑(.int ns.length)]) (Z1:=hZ d p k none none none none none none) (G1:=G) (av (a:=⇑(.ref d)) rfl (av (av (a:=⇑(.int ns.length)) (av (av (a:=⇑(.ref k)) rfl rfl) ?_) rfl) rfl)) (cC (xs:=[.im (.ref d),.im (.int ns.length)]) rfl rfl e1)) ?_) rfl
  ·simp [aQ,sq,pk,hk]
  ·have hl:(ns.map I.str).length≤1000000:=by simp;lia
   generalize ns.map I.str=z at hk1 en hl
   simp [ak,bX,dY,sq,pk,hk1,en]
 have s2:aI (ah ak (bd (af (aa 1) (af (cZ fD (ag (.int 1))) (af (aa 3) ae))) (ax 3 kG)) (ag (.int 1))) (aB 4) (hZ d p k ↑(.str nm) none none none none none) G1=some (.nx (hZ d p k ↑(.str nm) ↑(.ref f) none none none none) G2):=by
  refine bD (x:=.im (.ref f)) (Z1:=hZ d p k ↑(.str nm) none none none none none) (G1:=G2) (aH (x:=⇑(.tup [p.i,.ref f])) (y:=⇑(.int 1)) (Z1:=hZ d p k ↑(.str nm) none none none none none) (G1:=G2) (av (a:=[⇑p.i,⇑(.int (-1)),⇑(.str nm)]) rfl (cC (xs:=[.im p.i,.im (.int (-1)),.im (.str nm)]) rfl rfl w2)) rfl ?_) rfl
  simp [ak,bX,dY,sq,pk,eB]
 have s3:aI (bd (af (aa 0) (af (ag (.int 6)) ae)) (ax 2 aU)) (aB 5) (hZ d p k ↑(.str nm) ↑(.ref f) none none none none) G2=some (.nx (hZ d p k ↑(.str nm) ↑(.ref f) ↑(.int r3) none none none) G3) :=
  bD (x:=.im (.int r3)) (av (a:=[⇑(.ref d),⇑(.int 6)]) rfl (cC (xs:=[.im (.ref d),.im (.int 6)]) rfl rfl e3)) rfl
 obtain⟨C,hC⟩:∃C,C=hZ d p k ↑(.str nm) ↑(.ref f) ↑(.int r3) none none none:=⟨_,rfl⟩
 rw [<- hC] at s3
 have c5:aa 5 C G3=some (⇑(.int r3),C,G3):=by rw [hC];rfl
 have c1:aa 1 C G3=some (⇑p.i,C,G3):=by rw [hC];rfl
 have aG:∃(p':Pg) (G':List M),ai (aF (ao (ah bQ (bd (af (aa 4) ae) aQ) (ag (.int 0)))) (aD (aa 1)) aO)
   (ai (aI (bd (af (bd (af (aa 0) (af (bd (af (aa 4) ae) aQ) ae)) (ax 2 aU)) (af (bd (af (aa 0) (af (bd (af (aa 4) ae) aQ) ae)) (ax 2 aU)) ae)) gX) (aB 8))
   (aD (ah ak (bd (af (aa 1) (af (aa 8) (af (aa 3) ae))) (ax 3 kG)) (ag (.int 0))))) C G3=some (.rt (.im p'.i) G')/\p'.Sh/\DG G' d l/\Mor d l G G':=by
  have lu:=hp.us
  have c4:∀{H:List M},aa 4 C H=some (⇑(.ref f),C,H):=by intro H;rw [hC];rfl
  have c0:∀{H:List M},aa 0 C H=some (⇑(.ref d),C,H):=by intro H;rw [hC];rfl
  have ln:∀{H:List M},H[f]?=some (.lst (p.us.map uI))->bd (af (aa 4) ae) aQ C H=some (⇑(.int p.us.length),C,H):=λ{H} h=>by
   refine av (av c4 rfl) ?_
   simp [aQ,sq,pk,h]
  have te:ao (ah bQ (bd (af (aa 4) ae) aQ) (ag (.int 0))) C G3=some (decide (p.us.length=0),C,G3):=by
   refine dB (aH (ln hf3) (y:=⇑(.int 0)) rfl ?_)
   by_cases hz:p.us.length=0
   ·rw [hz];rfl
   ·rw [decide_eq_false hz]
    have hz':¬ ((p.us.length:Int)=0):=by lia
    have hz2:((p.us.length:Int) == 0)=false:=beq_eq_false_iff_ne.mpr hz'
    simp [bQ,mZ,oi,gW,ja,cT,b6,hz2]
  by_cases hz:p.us.length=0
  ·rw [decide_eq_true hz] at te
   exact⟨p,G3,b7 (bT te (cG c1)),hp,D3,m13⟩
  ·rw [decide_eq_false hz] at te
   obtain⟨r4,G4,e4,q0,q1,D4,o4⟩:=bU (many:=(p.us.length:Int)) D3 (by lia) (by lia)
   have hf4:G4[f]?=some (.lst (p.us.map uI)):=(o4.at_ _ hfd.1 hfd.2).trans hf3
   obtain⟨r5,G5,e5,q2,q3,D5,o5⟩:=bU (many:=(p.us.length:Int)) D4 (by lia) (by lia)
   obtain⟨K,hK⟩:∃K:Int,K=if r5>r4 then r5 else r4:=⟨_,rfl⟩
   have w6:=pO (G:=G5) (nm:=nm) (k:=K) hp
   obtain⟨G6,hG6⟩:∃G6:List M,G6=G5++[.lst [.int (K-p.us.length)],.lst ((wP nm p K).us.map uI)]:=⟨_,rfl⟩
   rw [<- hG6] at w6
   have x6:bY G5 G6:=by rw [hG6];exact bY.app _ _
   obtain⟨C8,hC8⟩:∃C8,C8=hZ d p k ↑(.str nm) ↑(.ref f) ↑(.int r3) none none ↑(.int K):=⟨_,rfl⟩
   have dr:∀{H H':List M} {r:Int},H[f]?=some (.lst (p.us.map uI))->aU [.im (.ref d),.im (.int p.us.length)] H=some (.im (.int r),H')->bd (af (aa 0) (af (bd (af (aa 4) ae) aQ) ae)) (ax 2 aU) C H=some (⇑(.int r),C,H'):=λ{H H' r} h e =>
    av (av c0 (av (av (ln h) rfl) rfl)) (cC (xs:=[.im (.ref d),.im (.int p.us.length)]) rfl rfl e)
   refine⟨wP nm p K,G6,aj (aN te rfl) (aj (Z1:=C8) (G1:=G5) (bD (x:=.im (.int K)) (Z1:=C) (G1:=G5) (av (av (dr hf3 e4) (av (av (dr hf4 e5) rfl) rfl)) (by rw [hK];rfl)) (by rw [hC,hC8];rfl)) (cG (Z1:=C8) (aH (x:=⇑(.tup [(wP nm p K).i,.ref (G5.length+1)])) (y:=⇑(.int 0)) (Z1:=C8) (G1:=G6) (av (a:=[⇑p.i,⇑(.int K),⇑(.str nm)]) (by rw [hC8];rfl) (cC (xs:=[.im p.i,.im (.int K),.im (.str nm)]) rfl rfl w6)) rfl ?_))),hp.w nm K,D5.ext x6,((m13.trans o4.mor).trans o5.mor).trans x6.mor⟩
   simp [ak,bX,dY,sq,pk,dj]
 by_cases hr:r3<3
 ·obtain⟨m,hm⟩:=Int.eq_ofNat_of_zero_le b0
  have m3:m<3:=by lia
  have ep:ah ak (aa 1) (aa 5) C G3=some (⇑(.tup ((p.pt m).map bE)),C,G3):=aH c1 c5 (by rw [hm];exact i4 m3)
  have hl:=hp.pt m
  have t1:ao (ah eI (aa 5) (ag (.int 3))) C G3=some (true,C,G3):=dB (aH c5 (y:=⇑(.int 3)) rfl (by simp [eI,bK,hr]))
  have t2:ao (ah gU (bd (af (ah ak (aa 1) (aa 5)) ae) aQ) (ag (.int 0))) C G3=some (decide (0<(p.pt m).length),C,G3):=by
   refine dB (aH (xM ep) (y:=⇑(.int 0)) rfl ?_)
   rw [z12]
   simp [gU,bK]
  by_cases hz:0<(p.pt m).length
  ·rw [decide_eq_true hz] at t2
   obtain⟨r4,G4,e4,q0,q1,D4,o4⟩:=bU (many:=((p.pt m).length:Int)) D3 (by lia) (by lia)
   obtain⟨j,hj⟩:=Int.eq_ofNat_of_zero_le q0
   have hj3:j<(p.pt m).length:=by lia
   obtain⟨x,hx⟩:∃x,(p.pt m)[j]?=some x:=⟨_,z1c hj3⟩
   obtain⟨C2,hC2⟩:∃C2,C2=hZ d p k ↑(.str nm) ↑(.ref f) ↑(.int r3) ↑(.int r4) none none:=⟨_,rfl⟩
   have s4:aI (bd (af (aa 0) (af (bd (af (ah ak (aa 1) (aa 5)) ae) aQ) ae)) (ax 2 aU)) (aB 6) C G3=some (.nx C2 G4):=by
    have la:=xM ep
    rw [z12] at la
    exact bD (x:=.im (.int r4)) (Z1:=C) (G1:=G4) (av (av (a:=⇑(.ref d)) (by rw [hC];rfl) (av (av la rfl) rfl)) (cC (xs:=[.im (.ref d),.im (.int (p.pt m).length)]) rfl rfl e4)) (by rw [hC,hC2];rfl)
   have f6:aa 6 C2 G4=some (⇑(.int j),C2,G4):=by rw [hC2,hj];rfl
   have f5:aa 5 C2 G4=some (⇑(.int m),C2,G4):=by rw [hC2,hm];rfl
   have f1:aa 1 C2 G4=some (⇑p.i,C2,G4):=by rw [hC2];rfl
   have f3:aa 3 C2 G4=some (⇑(.str nm),C2,G4):=by rw [hC2];rfl
   have fp:ah ak (aa 1) (aa 5) C2 G4=some (⇑(.tup ((p.pt m).map bE)),C2,G4):=aH f1 f5 (i4 m3)
   have fx:ah ak (ah ak (aa 1) (aa 5)) (aa 6) C2 G4=some (⇑(bE x),C2,G4):=by
    refine aH fp f6 ?_
    have h0:dh ((p.pt m).map bE) (j:Int)=some (bE x):=kY (by rw [List.getElem?_map,hx];rfl)
    generalize (p.pt m).map bE=z at h0
    simp [ak,bX,dY,sq,pk,h0]
   have fx1:ah ak (ah ak (ah ak (aa 1) (aa 5)) (aa 6)) (ag (.int 1)) C2 G4=some (⇑x.2,C2,G4):=aH fx (y:=⇑(.int 1)) rfl (by simp [bE,ak,bX,dY,sq,pk,eB])
   have fone:bd (af (bd (af (aa 3) (af (ah ak (ah ak (ah ak (aa 1) (aa 5)) (aa 6)) (ag (.int 1))) ae)) ay) ae) ay C2 G4=some (⇑(.tup [bE (nm,x.2)]),C2,G4):=av (av (av (av f3 (av (av fx1 rfl) rfl)) rfl) rfl) rfl
   have f6s:ah bx (aa 6) (ag (.int 1)) C2 G4=some (⇑(.int ((j+1:Nat):Int)),C2,G4):=aH f6 (y:=⇑(.int 1)) rfl rfl
   have f5s:ah bx (aa 5) (ag (.int 1)) C2 G4=some (⇑(.int ((m+1:Nat):Int)),C2,G4):=aH f5 (y:=⇑(.int 1)) rfl rfl
   have lmap:((p.pt m).map bE).length≤24:=by rw [z12];exact hl
   have lc1:(dz ((p.pt m).map bE) none (some (j:Int))).length≤24:=by rw [p9,z2d];lia
   have lc2:(dz ((p.pt m).map bE) (some ((j+1:Nat):Int)) none).length≤24:=by rw [zr (by rw [z12];lia),z2f];lia
   have fown:ah bx (ah bx (a8 (ah ak (aa 1) (aa 5)) a6 (aX (aa 6))) (bd (af (bd (af (aa 3) (af (ah ak (ah ak (ah ak (aa 1) (aa 5)) (aa 6)) (ag (.int 1))) ae)) ay) ae) ay)) (a8 (ah ak (aa 1) (aa 5)) (aX (ah bx (aa 6) (ag (.int 1)))) a6) C2 G4=some (⇑(.tup ((dQ (p.pt m) j nm).map bE)),C2,G4):=by
    rw [<- Hz (nm:=nm) hx]
    exact aH (aH (xN fp f6) fone (yb6 (by rw [List.length_singleton];lia))) (xO fp f6s) (yb6 (by rw [za,List.length_singleton];lia))
   obtain⟨C3,hC3⟩:∃C3,C3=hZ d p k ↑(.str nm) ↑(.ref f) ↑(.int r3) ↑(.int r4) ↑(.tup ((dQ (p.pt m) j nm).map bE)) none:=⟨_,rfl⟩
   have g5:aa 5 C3 G4=some (⇑(.int m),C3,G4):=by rw [hC3,hm];rfl
   have g5s:ah bx (aa 5) (ag (.int 1)) C3 G4=some (⇑(.int ((m+1:Nat):Int)),C3,G4):=aH g5 (y:=⇑(.int 1)) rfl rfl
   have g7:bd (af (aa 7) ae) ay C3 G4=some (⇑(.tup [.tup ((dQ (p.pt m) j nm).map bE)]),C3,G4):=by rw [hC3];rfl
   obtain⟨ps,hps⟩:∃ps,p.i=.tup ps/\ps.length=4:=⟨_,rfl,rfl⟩
   have g1:aa 1 C3 G4=some (⇑(.tup ps),C3,G4):=by rw [hC3,<- hps.1];rfl
   have lp1:(dz ps none (some (m:Int))).length≤4:=by rw [p9,z2d];lia
   have lp2:(dz ps (some ((m+1:Nat):Int)) none).length≤4:=by rw [zr (by lia),z2f];lia
   have fret:ah bx (ah bx (a8 (aa 1) a6 (aX (aa 5))) (bd (af (aa 7) ae) ay)) (a8 (aa 1) (aX (ah bx (aa 5) (ag (.int 1)))) a6) C3 G4=some (⇑(p.y399 j nm m).i,C3,G4):=by
    rw [<- HA (j:=j) (nm:=nm) m3 hps.1]
    exact aH (aH (xN g1 g5) g7 (yb6 (by rw [List.length_singleton];lia))) (xO g1 g5s) (yb6 (by rw [za,List.length_singleton];lia))
   refine⟨p.y399 j nm m,G4,aL rfl (aj s1 (aj s2 (aj s3 (b7 (bT (FD t1 t2) (aj s4 (aj (Z1:=C3) (G1:=G4) (bD fown (by rw [hC2,hC3];rfl)) (cG fret)))))))),hp.y399 j nm m,D4,m13.trans o4.mor⟩
  ·rw [decide_eq_false hz] at t2
   obtain⟨p',G',e,h1,h2,h3⟩:=aG
   exact⟨p',G',aL rfl (aj s1 (aj s2 (aj s3 (aj (aN (FD t1 t2) rfl) e)))),h1,h2,h3⟩
 ·have t1:ao (ah eI (aa 5) (ag (.int 3))) C G3=some (false,C,G3):=dB (aH c5 (y:=⇑(.int 3)) rfl (by simp [eI,bK,hr]))
  obtain⟨p',G',e,h1,h2,h3⟩:=aG
  exact⟨p',G',aL rfl (aj s1 (aj s2 (aj s3 (aj (aN (y6f t1) rfl) e)))),h1,h2,h3⟩
end
section
theorem mG:∀(xs seen:List Str),(∀x∈xs,x∉seen)->xs.Nodup->cJ seen xs=none
 | [],_,_,_=>rfl
 | x::xs,seen,h,hn=>by
  rw [cJ,if_neg (h x List.mem_cons_self)]
  rw [List.nodup_cons] at hn
  refine mG xs (seen++[x]) (λy hy hm=>?_) hn.2
  rcases z13.mp hm with hm|hm
  ·exact h y (z23 _ hy) hm
  ·rw [z22.mp hm] at hy;exact hn.1 hy
def nm0(p:Pg):p.nm 0=p.cells.map (·.1):=by simp [Pg.nm,Pg.pt]
def nm1(p:Pg):p.nm 1=p.rows.map (·.1):=by simp [Pg.nm,Pg.pt]
def nm2(p:Pg):p.nm 2=p.defs.map (·.1):=by simp [Pg.nm,Pg.pt]
def y82{p:Pg}{x:Str}(h0:x∈p.sc.cs):p.bad ("cell",x)=false:=by
 show (!decide (x∈p.nm 0))=false
 have h:x∈p.cells.map (·.1):=h0
 rw [nm0,decide_eq_true h];rfl
def y83{p:Pg}{x:Str}(h0:x∈p.sc.rs):p.bad ("at",x)=false:=by
 show (!decide (x∈p.nm 1))=false
 have h:x∈p.rows.map (·.1):=h0
 rw [nm1,decide_eq_true h];rfl
def xP{p:Pg}{x:Str}(h0:x∈p.sc.ds):p.bad ("call",x)=false:=by
 show (!decide (x∈p.nm 2))=false
 have h:x∈p.defs.map (·.1):=h0
 rw [nm2,decide_eq_true h];rfl
theorem gB{p:Pg}:∀t:Tm,t.ok p.sc.cs p.sc.rs->∀u∈t.us,p.bad u=false
 | .num _,_,u,h=>by rw [Tm.us] at h;cases h
 | .cell x,ho,u,h=>by rw [Tm.us] at h;rw [Tm.ok] at ho;rw [z22.mp h];exact y82 ho
 | .at_ r t,ho,u,h=>by
  rw [Tm.us] at h;rw [Tm.ok] at ho
  rcases z1d.mp h with rfl|h
  ·exact y83 ho.1
  ·exact gB t ho.2 u h
 | .op _ a b,ho,u,h=>by
  rw [Tm.us] at h;rw [Tm.ok] at ho
  rcases z13.mp h with h|h
  ·exact gB a ho.2.1 u h
  ·exact gB b ho.2.2 u h
mutual
theorem HB{p:Pg}:∀s:Sm,s.ok p.sc->∀u∈s.us,p.bad u=false
 | .set x t,ho,u,h=>by
  rw [Sm.us] at h;rw [Sm.ok] at ho
  rcases z1d.mp h with rfl|h
  ·exact y82 ho.1
  ·exact gB t ho.2.1 u h
 | .put x a b,ho,u,h=>by
  rw [Sm.us] at h;rw [Sm.ok] at ho
  rcases z1d.mp h with rfl|h
  ·exact y83 ho.1
  ·rcases z13.mp h with h|h
   ·exact gB a ho.2.1 u h
   ·exact gB b ho.2.2.1 u h
 | .call x,ho,u,h=>by rw [Sm.us] at h;rw [Sm.ok] at ho;rw [z22.mp h];exact xP ho
 | .wh t b,ho,u,h=>by
  rw [Sm.us] at h;rw [Sm.ok] at ho
  rcases z13.mp h with h|h
  ·exact gB t ho.1 u h
  ·exact i8 b ho.2.2 u h
 | .ite t b c,ho,u,h=>by
  rw [Sm.us] at h;rw [Sm.ok] at ho
  rcases z13.mp h with h|h
  ·exact gB t ho.1 u h
  ·rcases z13.mp h with h|h
   ·exact i8 b ho.2.2.1 u h
   ·exact i8 c ho.2.2.2 u h
theorem i8{p:Pg}:∀b:List Sm,aY p.sc b->∀u∈bh b,p.bad u=false
 | [],_,u,h=>by rw [bh] at h;cases h
 | s::b,ho,u,h=>by
  rw [bh] at h;rw [aY] at ho
  rcases z13.mp h with h|h
  ·exact HB s ho.1 u h
  ·exact i8 b ho.2 u h
end
theorem yf6{p:Pg}:∀q:List (Str×List Sm),(∀x∈q,aY p.sc x.2)->∀u∈ck q,p.bad u=false
 | [],_,u,h=>by rw [ck] at h;cases h
 | s::b,ho,u,h=>by
  rw [ck] at h
  rcases z13.mp h with h|h
  ·exact i8 s.2 (ho s List.mem_cons_self) u h
  ·exact yf6 b (λx hx=>ho x (z23 _ hx)) u h
theorem Pg.Ok.due{p:Pg}(h:p.Ok):p.due=none:=by
 have d0:cJ [] (p.nm 0)=none:=mG _ _ (by simp) (by rw [nm0];exact h.nd)
 have d1:cJ [] (p.nm 1)=none:=mG _ _ (by simp) (by rw [nm1];exact h.rn)
 have d2:cJ [] (p.nm 2)=none:=mG _ _ (by simp) (by rw [nm2];exact h.dn)
 have hf:p.us.find? p.bad=none:=by
  rw [List.find?_eq_none]
  intro u hu hb
  unfold Pg.us at hu
  rcases z13.mp hu with hu|hu
  ·rw [yf6 p.defs (λx hx=>(h.ds x hx).1) u hu] at hb;cases hb
  ·rw [i8 p.body h.bo.1 u hu] at hb;cases hb
 unfold Pg.due
 rw [d0,d1,d2,hf];rfl
def mH{o:Option (Str×Str)}{Z:De}{G:List M}:lY [⇑(eU o),⇑(eU o)] Z G=some (⇑(.bl false),Z,G):=by
 cases o with
 | none=>rfl
 | some u=>simp [lY,mZ,oi,eU,gW,ja,cT,jI,mY,b6]
abbrev fO(sc:I)(p:Pg)(v3 v4 v5 v6 v7:Option Vl):De:=[↑sc,↑(.ref 2),↑p.i,v3,v4,v5,v6,v7]
abbrev mI(ns:List Str)(G:List M)(v:Option Vl):Prop:=v=↥(ns.map I.str)∨∃k,v=↑(.ref k)/\G[k]?=some (.lst (ns.map I.str))/\k≠2/\k≠1
def mI.mor{ns:List Str}{G G':List M}{v:Option Vl}(h:mI ns G v)(m:Mor 2 1 G G'):mI ns G' v:=by
 rcases h with h|⟨k,h1,h2,h3,h4⟩
 ·exact .inl h
 ·exact .inr ⟨k,h1,(m.at_ k (z14.mp h2).1 h3 h4).trans h2,h3,h4⟩
def yb8{sc:I}{p o:Pg}{ns:List Str}{G:List M}{v3 v4 v6 v7:Option Vl}(D:DG G 2 1)(hn:mI ns G v3)(h0:0<ns.length)(h1:ns.length≤100)(ho:o.Sh):∃(o':Pg) (v3':Option Vl) (G':List M),Fw (fO sc p v3 v4 ↑o.i v6 v7) G=some (.nx (fO sc p v3' v4 ↑o'.i v6 v7) G')/\o'.Sh/\DG G' 2 1/\mI ns G' v3':=by
 obtain⟨k,G1,ea,D1,hk,k2,k1⟩:∃(k:Nat) (G1:List M),af (aZ (aa 1)) (af (aa 5) (af (aZ (aa 3)) ae)) (fO sc p v3 v4 ↑o.i v6 v7) G=some ([⇑(.ref 2),⇑o.i,⇑(.ref k)],fO sc p ↑(.ref k) v4 ↑o.i v6 v7,G1)/\DG G1 2 1/\G1[k]?=some (.lst (ns.map I.str))/\k≠2/\k≠1:=by
  rcases hn with rfl|⟨k,rfl,h2,h3,h4⟩
  ·have lt:=D.lt
   exact⟨G.length,G++[M.lst (ns.map I.str)],rfl,D.app _,by simp,by lia,by lia⟩
  ·exact⟨k,G,rfl,D,h2,h3,h4⟩
 obtain⟨o',G',e,h2,D',m⟩:=yb9 D1 ho hk h0 h1
 refine⟨o',↑(.ref k),G',bD (x:=.im o'.i) (av ea (cC (xs:=[.im (.ref 2),.im o.i,.im (.ref k)]) rfl rfl e)) rfl,h2,D',.inr ⟨k,rfl,(m.at_ k (z14.mp hk).1 k2 k1).trans hk,k2,k1⟩⟩
def HC{sc:I}{p:Pg}{ns:List Str}{G:List M}{v3 v4 v5 v6 v7:Option Vl}(D:DG G 2 1)(hn:mI ns G v3)(h0:0<ns.length)(h1:ns.length≤100)(hp:p.Ok):∃(v3' v5' v6' v7':Option Vl) (G':List M),Fx (fO sc p v3 v4 v5 v6 v7) G=some (.nx (fO sc p v3' v4 v5' v6' v7') G')/\DG G' 2 1/\mI ns G' v3':=by
 obtain⟨r1,G1,e1,p0,p1,D1,o1⟩:=bU (many:=3) D (by decide) (by decide)
 obtain⟨N,hN⟩:=Int.eq_ofNat_of_zero_le p0
 obtain⟨Z',G2,e2,o,w3,w6,ed,ho,D2,hn2⟩:=hR (w:=jc (N+1)) (g:=aB 6) (b:=Fw)
  (λi Z H=>∃(o:Pg) (w3 w6:Option Vl),Z=fO sc p w3 v4 ↑o.i w6 v7/\o.Sh/\DG H 2 1/\mI ns H w3)
  (λi Z H hi zz=>by
   obtain⟨o,w3,w6,ed,ho,D,hn⟩:=zz
   subst ed
   obtain⟨o',w3',H2,e,ho',D',hn'⟩:=yb8 (sc:=sc) (p:=p) (v4:=v4) (v6:=↑(.int i)) (v7:=v7) D hn h0 h1 ho
   exact⟨.int i,fO sc p w3 v4 ↑o.i ↑(.int i) v7,H,_,H2,rfl,rfl,e,o',w3',_,rfl,ho',D',hn'⟩)
  (λ_ _ _=>rfl) (N+1) 0 (fO sc p v3 v4 ↑p.i v6 v7) G1 (by rw [j6];lia) ⟨p,v3,v6,rfl,hp.sh,D1,hn.mor o1.mor⟩
 subst ed
 obtain⟨G3,e3,x3⟩:=Hb (G:=G2) ho
 obtain⟨G4,e4,x4⟩:=mD (G:=G3) ho
 obtain⟨G5,e5,x5⟩:=mD (G:=G4) ho
 obtain⟨G6,e6,x6⟩:=mD (G:=G5) hp.sh
 rw [hp.due] at e6
 have x:bY G2 G6:=((x3.trans x4).trans x5).trans x6
 obtain⟨W,hW⟩:∃W,W=fO sc p w3 v4 ↑o.i w6 ↑(eU o.due):=⟨_,rfl⟩
 have t1:∀{H H':List M},jb [.im o.i] H=some (.im (eU o.due),H')->ao (ah lY (bd (af (aa 5) ae) (ax 1 jb)) (aa 7)) W H=some (false,W,H'):=λ{H H'} e=>by
  rw [hW]
  exact dB (aH (av (a:=[⇑o.i]) rfl (cC (xs:=[.im o.i]) rfl rfl e)) (y:=⇑(eU o.due)) rfl mH)
 have t3:ao (cZ (kB false) (bd (af (aa 2) ae) (ax 1 jb))) W G5=some (false,W,G6):=by
  rw [hW]
  exact dB (pz (av (a:=[⇑p.i]) rfl (cC (xs:=[.im p.i]) rfl rfl e6)) rfl)
 refine⟨w3,_,_,_,G6,aj (Z1:=fO sc p v3 v4 ↑p.i v6 v7) (G1:=G) (bD (x:=.im p.i) rfl rfl) (aj (b8 (hJ (n:=N+1) (j:=1+r1) (Z1:=fO sc p v3 v4 ↑p.i v6 v7) (G1:=G1) ?_ (by lia) (by lia)) e2) (aj (Z1:=W) (G1:=G3) (bD (x:=.im (eU o.due)) (av (a:=[⇑o.i]) rfl (cC (xs:=[.im o.i]) rfl rfl e3)) (by rw [hW];rfl)) (aN (wc (t1 e4) (wc (t1 e5) t3)) (by rw [hW];rfl)))),D2.ext x,hn2.mor x.mor⟩
 refine av (aH (x:=⇑(.int 1)) (y:=⇑(.int r1)) rfl (av (a:=[⇑(.ref 2),⇑(.int 3)]) rfl (cC (xs:=[.im (.ref 2),.im (.int 3)]) rfl rfl e1)) rfl) rfl
def HD(ns:List Int)(h:ns.length≤63):∃G,Fy [.im (.fro (ns.map I.int))] []=some (.im (.bl true),G):=by
 obtain⟨a,so,le,e0,a0,a1,hm⟩:=ye9 (ns:=ns) (b:=0) (G:=[]) h (by decide)
 obtain⟨sc,hsc⟩:∃sc:I,sc=.fro (ns.map I.int):=⟨_,rfl⟩
 rw [<- hsc] at e0
 obtain⟨G0,hG0⟩:∃G0:List M,G0=[M.lst (so.map I.int),M.lst (le.map I.int),M.dic (eh a 0 1)]:=⟨_,rfl⟩
 have D0:DG G0 2 1:=by
  rw [hG0]
  exact⟨a,0,le,rfl,rfl,by decide,a0,a1,by decide,hm⟩
 obtain⟨p,G1,e1,hp,D1,_⟩:=Gk D0
 have hs:=hp.sh
 obtain⟨nms,hnm⟩:∃nms:List Str,nms=(p.pt 0++p.pt 1++p.pt 2).map (·.1)++[("zzzzzz" : Str),"yy"]:=⟨_,rfl⟩
 have l0:=hs.pt 0
 have l1:=hs.pt 1
 have l2:=hs.pt 2
 have ln:0<nms.length/\nms.length≤100:=by rw [hnm];simp only [za,z12,z10,List.length_nil];lia
 obtain⟨L2',hL2⟩:∃D,D=fO sc p none none none none none:=⟨_,rfl⟩
 have pi:∀{k:Nat},k<3->ah ak (aa 2) (ag (.int k)) L2' G1=some (⇑(.tup ((p.pt k).map bE)),L2',G1):=λ{k} hk=>aH (x:=⇑p.i) (y:=⇑(.int k)) (by rw [hL2];rfl) rfl (i4 hk)
 have cat:ah bx (ah bx (ah ak (aa 2) (ag (.int 0))) (ah ak (aa 2) (ag (.int 1)))) (ah ak (aa 2) (ag (.int 2))) L2' G1=some (⇑(.tup ((p.pt 0++p.pt 1++p.pt 2).map bE)),L2',G1):=by
  rw [z25,z25]
  exact aH (aH (pi (k:=0) (by decide)) (pi (k:=1) (by decide)) (yb6 (by rw [z12,z12];lia))) (pi (k:=2) (by decide)) (yb6 (by rw [za,z12,z12,z12];lia))
 have s3:aI (ah bx (dJ (bG (one (ah bx (ah bx (ah ak (aa 2) (ag (.int 0))) (ah ak (aa 2) (ag (.int 1)))) (ah ak (aa 2) (ag (.int 2))))) aT) [] c1 bf (ah ak (aa 0) (ag (.int 0)))) (bd (af (ag (.str "zzzzzz")) (af (ag (.str "yy")) ae)) aP)) (aB 3) L2' G1=some (.nx (fO sc p ↥(nms.map I.str) none none none none) G1):=by
  refine bD (x:=.ow (.lst (nms.map I.str))) (Z1:=L2') (G1:=G1) (aH (y:=.v (.ow (.lst [.str "zzzzzz",.str "yy"]))) (pP cat (by simp only [za];lia)) rfl ?_) (by rw [hL2];rfl)
  have hl:(((p.pt 0++p.pt 1++p.pt 2).map (·.1)).map I.str).length+2≤1000000:=by simp only [za,z12];lia
  have er:nms.map I.str=((p.pt 0++p.pt 1++p.pt 2).map (·.1)).map I.str++[.str "zzzzzz",.str "yy"]:=by rw [hnm,z25];rfl
  rw [er]
  generalize ((p.pt 0++p.pt 1++p.pt 2).map (·.1)).map I.str=z at hl
  simp [bx,bX,oI,bK,jF,mW,oH,pk,hl]
 obtain⟨G2,e2,x2⟩:=mD (G:=G1) hs
 rw [hp.due] at e2
 obtain⟨Z',G3,e3,w3,w4,w5,w6,w7,ed,D3,hn3⟩:=hR (w:=jc 3) (g:=aB 4) (b:=Fx)
  (λi Z H=>∃(w3 w4 w5 w6 w7:Option Vl),Z=fO sc p w3 w4 w5 w6 w7/\DG H 2 1/\mI nms H w3)
  (λi Z H hi zz=>by
   obtain⟨w3,w4,w5,w6,w7,ed,D,hn⟩:=zz
   subst ed
   obtain⟨z3,z5,z6,z7,H2,e,D',hn'⟩:=HC (sc:=sc) (p:=p) (v4:=↑(.int i)) (v5:=w5) (v6:=w6) (v7:=w7) D hn ln.1 ln.2 hp
   exact⟨.int i,fO sc p w3 ↑(.int i) w5 w6 w7,H,_,H2,rfl,rfl,e,z3,_,z5,z6,z7,rfl,D',hn'⟩)
  (λ_ _ _=>rfl) 3 0 (fO sc p ↥(nms.map I.str) none none none none) G2 rfl ⟨_,_,_,_,_,rfl,D1.ext x2,.inl rfl⟩
 refine⟨G3,aL rfl ?_⟩
 show ai _ _ [↑(.fro (ns.map I.int)),none,none,none,none,none,none,none] []=_
 rw [<- hsc]
 refine aj (Z1:=[↑sc,↑(.ref 2),none,none,none,none,none,none]) (G1:=G0) (bD (x:=.im (.ref 2)) (Z1:=[↑sc,none,none,none,none,none,none,none]) (G1:=G0) (av (av (a:=[⇑sc,⇑(.int 0)]) rfl (cC (xs:=[.im sc,.im (.int 0)]) rfl rfl e0)) (by rw [hG0];rfl)) rfl) ?_
 refine aj (Z1:=L2') (G1:=G1) (bD (x:=.im p.i) (Z1:=[↑sc,↑(.ref 2),none,none,none,none,none,none]) (G1:=G1) (av (a:=[⇑(.ref 2)]) rfl (cC (xs:=[.im (.ref 2)]) rfl rfl e1)) (by rw [hL2];rfl)) ?_
 refine aj s3 (aj (aN (Z1:=fO sc p ↥(nms.map I.str) none none none none) (G1:=G2) (dB (pz (av (a:=[⇑p.i]) rfl (cC (xs:=[.im p.i]) rfl rfl e2)) rfl)) rfl) (aj (b8 (hJ (n:=3) (j:=3) (Z1:=fO sc p ↥(nms.map I.str) none none none none) (G1:=G2) rfl rfl (by decide)) e3) (by rw [ed];rfl)))
end
end Q
set_option maxHeartbeats 4000000
namespace Q
open PySem PySem.Spec PyProof.Rows L2 B
noncomputable abbrev h9:List Str:=["_law_deal_here","_law_scene","_law_left","_law_deep"]
noncomputable abbrev iw:List Str:=["_law_deal_here","_law_many"]
noncomputable abbrev qe:List Str:=["_law_body_here","_law_left","_law_name","_law_found"]
noncomputable abbrev xQ:List Str:=["_law_term_here","_law_left","_law_name","_law_found"]
noncomputable abbrev qf:List Str:=["_law_deal_here","_law_scene","_law_room"]
noncomputable abbrev zB:List Str:=["_law_sort","_law_own","_law_left","_law_name","_law_found"]
noncomputable abbrev zC:List Str:=["_law_one","_law_left","_law_name","_law_found"]
noncomputable abbrev zD:List Str:=["_law_program_here","_law_k","_law_name"]
noncomputable abbrev HE:List Str:=["_law_deal_here","_law_program_here","_law_names_here"]
noncomputable abbrev ia:List Str:=["_law_deal_here"]
noncomputable abbrev pX:List Str:=["statement","cells","rows","defs"]
structure Tx(K:W.Frag)(mg:Str->Option Value)(κ:Str->Addr):Prop where
 b_int:mg "int" = none
 b_len:mg "len" = none
 b_list:mg "list" = none
 b_max:mg "max" = none
 b_range:mg "range" = none
 y81:mg "reversed" = none
 b_tuple:mg "tuple" = none
local macro_rules | `(tactic| solve_by_elim [$s:term,$h:term,$e:term])=>do
 let f(w:String):Lean.MacroM (Lean.TSyntax `tactic):=let q:=w.splitOn ",";let i(n:Nat):=Lean.mkIdent q[n]!.toName;match q[0]! with
 |"a"=>`(tactic|refine $(i 1) ?_ ?_)
 |"b"=>`(tactic|exact t6 _)
 |"c"=>`(tactic|exact $(i 1))
 |"d"=>`(tactic|refine $(i 1) $h ?_ ?_)
 |"e"=>`(tactic|refine Ec $e (rm $h) ?_)
 |"f"=>`(tactic|refine $(i 1) ?_)
 |"g"=>`(tactic|refine $(i 1) ($s).nd ?_)
 |"h"=>`(tactic|refine $(i 1) ?_ ?_ ?_)
 |"i"=>`(tactic|refine iL ($(i 1) $h) $(i 2) ?_ ?_)
 |"j"=>`(tactic|refine $(i 1) $h $e ?_)
 |"k"=>`(tactic|exact CL ($s).nd)
 |"l"=>`(tactic|refine $(i 1) (Ep (osc:=oW $s) (N:=Er $s) rfl rfl (by decide +kernel)) ?_ (λ_=>?_) (λ_=>?_))
 |"m"=>`(tactic|refine t_w ($(i 1) ?_ ?_))
 |"n"=>`(tactic|refine u3 $h ?_ ?_ ?_)
 |"o"=>`(tactic|refine Ef $e ?_)
 |"p"=>`(tactic|refine Eh (Ep (osc:=oW $s) (N:=Er $s) rfl rfl (by decide +kernel)) ?_ (λ_=>?_) (λ_=>?_) ($s).nd)
 |"q"=>`(tactic|refine u9 $h ?_)
 |_=>`(tactic|refine DF $e $e ?_)
 let mut t←`(tactic|fail)
 for w in ("a,y60 b c,ub c,t7 a,CH d,Ds c,t9 e f,CG g,vc f,uo f,uc h,CJ c,CF i,ur,uu d,Di f,ud f,vf j,uU h,uq f,CI f,DI k h,uW c,DH c,vh i,uz,uA i,uv,uw h,yde i,ux,uy l,Eg f,Cz m,uf n d,Dl d,Dm o d,DS j,DB g,g_r c,Cu i,CU,CV f,uX p c,u7 q f,DU a,CK d,uS c,t8 f,uD j,DE j,En f,ue m,ug d,Dv d,DT c,CM f,vg f,um d,Dj i,uB,uC d,Dn f,vi r d,Eo d,Du c,Ea j,DD d,Dh a,vd l,Ej a,ug f,ua f,uh".splitOn " ").reverse do
  let u←f w
  t←`(tactic|first|$u:tactic|$t:tactic)
 `(tactic|repeat' $t:tactic)
section
variable {P:Program}{w:World}{K:W.Frag}{mg:Str->Option Value}{base:Heap}{κ:Str->Addr}
def xR:y47 ["_law_script","_law_base","_law_some","_law_number","_law_one"] ["_law_script","_law_base"] (bL (top 20)):=bz
def HF{f:Addr}{fd:FuncData}(F:Fun K "_law_deal" "_law_deal" (top 20) f fd)(E:Tx K mg κ):y46 P w K mg base bW 1 f fd ["_law_script","_law_base"] (aV K κ 2 yS) :=
 bS F xR rfl rfl λcdv A outer s H _ hr=>by cases E;solve_by_elim [xR,hr,by assumption]
def xS:y47 ["_law_deal_here","_law_many","_law_number","_law_one","_law_other"] iw (bL (top 21)):=bz
def HG{f:Addr}{fd:FuncData}(F:Fun K "_law_draw" "_law_draw" (top 21) f fd)(E:Tx K mg κ):y46 P w K mg base bW 1 f fd iw (aV K κ 2 aU) :=
 bS F xS rfl rfl λcdv A outer s H _ hr=>by cases E;solve_by_elim [xS,hr,by assumption]
def xT:y47 ["_law_deal_here","_law_many","_law_letters","_law_core","_law_at","_law_turn","_law_found","_law_k","_law_own","_law_spare","_law_kept","_law_name"] iw (bL (top 22)):=bz
def HH{f:Addr}{fd:FuncData}(F:Fun K "_law_names" "_law_names" (top 22) f fd)(E:Tx K mg κ)(y167:b9 P w K mg base "_law_draw" 1 iw (aV K κ 2 aU)):y46 P w K mg base bW 2 f fd iw (aV K κ 2 vV) :=
 bS F xT rfl rfl λcdv A outer s H _ hr=>by cases E;solve_by_elim [xT,hr,by assumption]
def xU:y47 ["_law_deal_here","_law_form"] ia (bL (top 23)):=bz
def HI{f:Addr}{fd:FuncData}(F:Fun K "_law_word" "_law_word" (top 23) f fd)(E:Tx K mg κ)(y167:b9 P w K mg base "_law_draw" 1 iw (aV K κ 2 aU)):y46 P w K mg base bW 2 f fd ia (aV K κ 1 j4) :=
 bS F xU rfl rfl λcdv A outer s H _ hr=>by cases E;solve_by_elim [xU,hr,by assumption]
def xV:y47 ["_law_deal_here","_law_scene","_law_room","_law_form","_law_r","_law_half","_law_one"] qf (bL (top 24)):=bz
def HJ{f:Addr}{fd:FuncData}{n:Nat}(F:Fun K "_law_term" "_law_term" (top 24) f fd)(E:Tx K mg κ)(y16e:b9 P w K mg base "_law_term" (3+n) qf (aV K κ 3 (eQ n)))(y167:b9 P w K mg base "_law_draw" 1 iw (aV K κ 2 aU))(y173:b9 P w K mg base "_law_word" 2 ia (aV K κ 1 j4)):y46 P w K mg base bW (3+n+1) f fd qf (aV K κ 3 (eQ (n+1))):=by
 unfold eQ
 exact bS F xV rfl rfl λcdv A outer s H _ hr=>by cases E;solve_by_elim [xV,hr,by assumption]
def xW:y47 ["_law_deal_here","_law_scene","_law_left","_law_deep","_law_x","_law_body_here","_law_down","_law_more","_law_up"] h9 (bL (top 25)):=bz
def HK{f:Addr}{fd:FuncData}{n:Nat}(F:Fun K "_law_round" "_law_round" (top 25) f fd)(E:Tx K mg κ)(y167:b9 P w K mg base "_law_draw" 1 iw (aV K κ 2 aU))(y16e:b9 P w K mg base "_law_term" 15 qf (aV K κ 3 (eQ 12)))(y163:b9 P w K mg base "_law_body" (16+n) h9 (aV K κ 4 (eY n))):y46 P w K mg base bW (16+n+1) f fd h9 (aV K κ 4 (kF (n+1))):=by
 unfold kF
 exact bS F xW rfl rfl λcdv A outer s H _ hr=>by cases E;solve_by_elim [xW,hr,by assumption]
def xX:y47 ["_law_deal_here","_law_scene","_law_left","_law_deep","_law_form","_law_one","_law_r","_law_x"] h9 (bL (top 26)):=bz
def HL{f:Addr}{fd:FuncData}{n:Nat}(F:Fun K "_law_statement" "_law_statement" (top 26) f fd)(E:Tx K mg κ)(y167:b9 P w K mg base "_law_draw" 1 iw (aV K κ 2 aU))(y16e:b9 P w K mg base "_law_term" 15 qf (aV K κ 3 (eQ 12)))(y16b:b9 P w K mg base "_law_round" (16+n) h9 (aV K κ 4 (kF n)))(y163:b9 P w K mg base "_law_body" (16+n) h9 (aV K κ 4 (eY n))):y46 P w K mg base bW (16+n+1) f fd h9 (aV K κ 4 (iu (n+1))):=by
 unfold iu
 exact bS F xX rfl rfl λcdv A outer s H _ hr=>by cases E;solve_by_elim [xX,hr,by assumption]
def xY:y47 ["_law_deal_here","_law_scene","_law_left","_law_deep","_law_found","_law_k"] h9 (bL (top 27)):=bz
def HM{f:Addr}{fd:FuncData}{n:Nat}(F:Fun K "_law_body" "_law_body" (top 27) f fd)(E:Tx K mg κ)(y167:b9 P w K mg base "_law_draw" 1 iw (aV K κ 2 aU))(y16c:b9 P w K mg base "_law_statement" (16+n) h9 (aV K κ 4 (iu n))):y46 P w K mg base bW (16+n+1) f fd h9 (aV K κ 4 (eY (n+1))):=by
 unfold eY
 exact bS F xY rfl rfl λcdv A outer s H _ hr=>by cases E;solve_by_elim [xY,hr,by assumption]
def xZ:y47 ["_law_deal_here","_law_names_here","_law_shift","_law_cells","_law_rows","_law_defs","_law_scene","_law_left","_law_told_here","_law_f","_law_body_here","_law_begins"] ia (bL (top 28)):=bz
def HN{f:Addr}{fd:FuncData}(F:Fun K "_law_program" "_law_program" (top 28) f fd)(E:Tx K mg κ)(y167:b9 P w K mg base "_law_draw" 1 iw (aV K κ 2 aU))(y173:b9 P w K mg base "_law_word" 2 ia (aV K κ 1 j4))(y16c:b9 P w K mg base "_law_statement" 28 h9 (aV K κ 4 (iu 12)))(y163:b9 P w K mg base "_law_body" 28 h9 (aV K κ 4 (eY 12)))(y169:b9 P w K mg base "_law_names" 2 iw (aV K κ 2 vV)):y46 P w K mg base bW 29 f fd ia (aV K κ 1 yV) :=
 bS F xZ rfl rfl λcdv A outer s H _ hr=>by cases E;solve_by_elim [xZ,hr,by assumption]
def x9:y47 ["part","names","named"] ["part"] (bL (top 14)):=bz
def HP{f:Addr}{fd:FuncData}(F:Fun K "names_once" "names_once" (top 14) f fd)(E:Tx K mg κ)(y162:ClN P w K mg base "NoProgram" (κ "NoProgram") ["word","name"]):y46 P w K mg base (df P w base) 3 f fd ["part"] (eX K κ 1 j5) :=
 j0 (k:=2) F x9 rfl rfl λcdv A outer s H _ hr hp hx hq=>by cases E;(repeat' first|refine jU ?_ ?_|refine jT ?_|refine jV ?_|refine jS ?_|refine jW ?_ ?_ ?_|refine jX hp ?_ ?_ ?_|refine dZ (by assumption) hx (rm hr) ?_|refine jY (by assumption) hx (rm hr) ?_ ?_|refine jZ (by assumption) hq (rm hr) ?_);all_goals solve_by_elim [x9,hr,by assumption]
def yg:y47 ["program"] ["program"] (bL (top 12)):=bz
def HQ{f:Addr}{fd:FuncData}(F:Fun K "bodies_in" "bodies_in" (top 12) f fd)(E:Tx K mg κ):y46 P w K mg base bW 1 f fd ["program"] (aV K κ 1 vW) :=
 bS F yg rfl rfl λcdv A outer s H _ hr=>by cases E;solve_by_elim [yg,hr,by assumption]
def yh:y47 ["statement"] ["statement"] (bL (top 10)):=bz
def HR{f:Addr}{fd:FuncData}(F:Fun K "inner_bodies" "inner_bodies" (top 10) f fd)(E:Tx K mg κ):y46 P w K mg base bW 1 f fd ["statement"] (aV K κ 1 vX) :=
 bS F yh rfl rfl λcdv A outer s H _ hr=>by cases E;solve_by_elim [yh,hr,by assumption]
def yi:y47 ["body","told","left","first","inner"] ["body"] (bL (top 11)):=bz
def HS{f:Addr}{fd:FuncData}(F:Fun K "statements_in" "statements_in" (top 11) f fd)(E:Tx K mg κ)(y175:b9 P w K mg base "inner_bodies" 1 ["statement"] (aV K κ 1 vX)):y46 P w K mg base bW 2 f fd ["body"] (aV K κ 1 yY) :=
 bS F yi rfl rfl λcdv A outer s H _ hr=>by cases E;solve_by_elim [yi,hr,by assumption]
def yj:y47 ["statement"] ["statement"] (bL (top 9)):=bz
def HU{f:Addr}{fd:FuncData}(F:Fun K "own_terms" "own_terms" (top 9) f fd)(E:Tx K mg κ):y46 P w K mg base bW 1 f fd ["statement"] (aV K κ 1 vY) :=
 bS F yj rfl rfl λcdv A outer s H _ hr=>by cases E;solve_by_elim [yj,hr,by assumption]
def yk:y47 ["name","names"] ["name","names"] (bL (top 15)):=bz
def HV{f:Addr}{fd:FuncData}(F:Fun K "look_up" "look_up" (top 15) f fd)(E:Tx K mg κ)(y162:ClN P w K mg base "NoProgram" (κ "NoProgram") ["word","name"]):y46 P w K mg base (df P w base) 3 f fd ["name","names"] (eX K κ 2 iS) :=
 j0 (k:=2) F yk rfl rfl λcdv A outer s H _ hr hp hx hq=>by cases E;(repeat' first|refine jU ?_ ?_|refine jT ?_|refine jV ?_|refine jS ?_|refine jW ?_ ?_ ?_|refine jX hp ?_ ?_ ?_|refine dZ (by assumption) hx (rm hr) ?_|refine jY (by assumption) hx (rm hr) ?_ ?_|refine jZ (by assumption) hq (rm hr) ?_);all_goals solve_by_elim [yk,hr,by assumption]
def ym:y47 ["term"] ["term"] (bL (top 7)):=bz
def HW{f:Addr}{fd:FuncData}(F:Fun K "inner_terms" "inner_terms" (top 7) f fd)(E:Tx K mg κ):y46 P w K mg base bW 1 f fd ["term"] (aV K κ 1 yZ) :=
 bS F ym rfl rfl λcdv A outer s H _ hr=>by cases E;solve_by_elim [ym,hr,by assumption]
def yn:y47 ["term","told","left","first"] ["term"] (bL (top 8)):=bz
def HX{f:Addr}{fd:FuncData}(F:Fun K "terms_in" "terms_in" (top 8) f fd)(E:Tx K mg κ)(y176:b9 P w K mg base "inner_terms" 1 ["term"] (aV K κ 1 yZ)):y46 P w K mg base bW 2 f fd ["term"] (aV K κ 1 zh) :=
 bS F yn rfl rfl λcdv A outer s H _ hr=>by cases E;solve_by_elim [yn,hr,by assumption]
def yo:y47 ["term","cells","rows","part"] ["term","cells","rows"] (bL (top 16)):=bz
def HY{f:Addr}{fd:FuncData}(F:Fun K "look_at_term" "look_at_term" (top 16) f fd)(E:Tx K mg κ)(y17e:b9 P w K mg base "terms_in" 2 ["term"] (aV K κ 1 zh))(y17a:kE P w K mg base "look_up" 3 ["name","names"] (eX K κ 2 iS)):y46 P w K mg base (df P w base) 4 f fd ["term","cells","rows"] (eX K κ 3 zi) :=
 j0 (k:=3) F yo rfl rfl λcdv A outer s H _ hr hp hx hq=>by cases E;(repeat' first|refine jU ?_ ?_|refine jT ?_|refine jV ?_|refine jS ?_|refine jW ?_ ?_ ?_|refine jX hp ?_ ?_ ?_|refine dZ (by assumption) hx (rm hr) ?_|refine jY (by assumption) hx (rm hr) ?_ ?_|refine jZ (by assumption) hq (rm hr) ?_);all_goals solve_by_elim [yo,hr,by assumption]
def yp:y47 ["statement","cells","rows","defs","term"] pX (bL (top 17)):=bz
def HZ{f:Addr}{fd:FuncData}(F:Fun K "look_at_statement" "look_at_statement" (top 17) f fd)(E:Tx K mg κ)(y17c:b9 P w K mg base "own_terms" 1 ["statement"] (aV K κ 1 vY))(y179:kE P w K mg base "look_at_term" 4 ["term","cells","rows"] (eX K κ 3 zi))(y17a:kE P w K mg base "look_up" 3 ["name","names"] (eX K κ 2 iS)):y46 P w K mg base (df P w base) 5 f fd pX (eX K κ 4 zk) :=
 j0 (k:=4) F yp rfl rfl λcdv A outer s H _ hr hp hx hq=>by cases E;(repeat' first|refine jU ?_ ?_|refine jT ?_|refine jV ?_|refine jS ?_|refine jW ?_ ?_ ?_|refine jX hp ?_ ?_ ?_|refine dZ (by assumption) hx (rm hr) ?_|refine jY (by assumption) hx (rm hr) ?_ ?_|refine jZ (by assumption) hq (rm hr) ?_);all_goals solve_by_elim [yp,hr,by assumption]
def yq:y47 ["program","cells","rows","defs","body","statement"] ["program"] (bL (top 18)):=bz
def Ia{f:Addr}{fd:FuncData}(F:Fun K "look" "look" (top 18) f fd)(E:Tx K mg κ)(y174:b9 P w K mg base "bodies_in" 1 ["program"] (aV K κ 1 vW))(y17d:b9 P w K mg base "statements_in" 2 ["body"] (aV K κ 1 yY))(y178:kE P w K mg base "look_at_statement" 5 pX (eX K κ 4 zk))(y17b:kE P w K mg base "names_once" 3 ["part"] (eX K κ 1 j5)):y46 P w K mg base (df P w base) 6 f fd ["program"] (eX K κ 1 zm) :=
 j0 (k:=5) F yq rfl rfl λcdv A outer s H _ hr hp hx hq=>by cases E;(repeat' first|refine jU ?_ ?_|refine jT ?_|refine jV ?_|refine jS ?_|refine jW ?_ ?_ ?_|refine jX hp ?_ ?_ ?_|refine dZ (by assumption) hx (rm hr) ?_|refine jY (by assumption) hx (rm hr) ?_ ?_|refine jZ (by assumption) hq (rm hr) ?_);all_goals solve_by_elim [yq,hr,by assumption]
def yr:y47 ["_law_sort","_law_own","_law_left","_law_name","_law_found","_law_told_here"] zB (bL (top 30)):=bz
def Ib{f:Addr}{fd:FuncData}(F:Fun K "_law_use" "_law_use" (top 30) f fd)(E:Tx K mg κ):y46 P w K mg base bW 1 f fd zB (aV K κ 5 m5) :=
 bS F yr rfl rfl λcdv A outer s H _ hr=>by cases E;solve_by_elim [yr,hr,by assumption]
def yt:y47 ["_law_term_here","_law_left","_law_name","_law_found","_law_one","_law_told_here"] xQ (bL (top 29)):=bz
def Ic{f:Addr}{fd:FuncData}{n:Nat}(F:Fun K "_law_term_with" "_law_term_with" (top 29) f fd)(E:Tx K mg κ)(y16f:b9 P w K mg base "_law_term_with" (2+n) xQ (aV K κ 4 (hG n)))(y171:b9 P w K mg base "_law_use" 1 zB (aV K κ 5 m5)):y46 P w K mg base bW (2+n+1) f fd xQ (aV K κ 4 (hG (n+1))):=by
 unfold hG
 exact bS F yt rfl rfl λcdv A outer s H _ hr=>by cases E;solve_by_elim [yt,hr,by assumption]
def yu:y47 ["_law_one","_law_left","_law_name","_law_found","_law_word_here","_law_told_here","_law_place","_law_body_here"] zC (bL (top 31)):=bz
def Ie{f:Addr}{fd:FuncData}{n:Nat}(F:Fun K "_law_statement_with" "_law_statement_with" (top 31) f fd)(E:Tx K mg κ)(y164:b9 P w K mg base "_law_body_with" (23+n) qe (aV K κ 4 (fM n)))(y16f:b9 P w K mg base "_law_term_with" 22 xQ (aV K κ 4 (hG 20)))(y171:b9 P w K mg base "_law_use" 1 zB (aV K κ 5 m5)):y46 P w K mg base bW (23+n+1) f fd zC (aV K κ 4 (fL (n+1))):=by
 unfold fL
 exact bS F yu rfl rfl λcdv A outer s H _ hr=>by cases E;solve_by_elim [yu,hr,by assumption]
def yw:y47 qe qe (bL (top 32)):=bz
def Ig{f:Addr}{fd:FuncData}{n:Nat}(F:Fun K "_law_body_with" "_law_body_with" (top 32) f fd)(E:Tx K mg κ)(y16d:b9 P w K mg base "_law_statement_with" (23+n) zC (aV K κ 4 (fL n))):y46 P w K mg base bW (23+n+1) f fd qe (aV K κ 4 (fM (n+1))):=by
 unfold fM
 exact bS F yw rfl rfl λcdv A outer s H _ hr=>by cases E;solve_by_elim [yw,hr,by assumption]
def yx:y47 ["_law_program_here","_law_k","_law_name","_law_cells","_law_rows","_law_defs","_law_body_here","_law_left","_law_found","_law_told_here"] zD (bL (top 33)):=bz
def Ih{f:Addr}{fd:FuncData}(F:Fun K "_law_with" "_law_with" (top 33) f fd)(E:Tx K mg κ)(y164:b9 P w K mg base "_law_body_with" 35 qe (aV K κ 4 (fM 12))):y46 P w K mg base bW 36 f fd zD (aV K κ 3 kG) :=
 bS F yx rfl rfl λcdv A outer s H _ hr=>by cases E;solve_by_elim [yx,hr,by assumption]
def yy:y47 ["_law_program_here","_law_part","_law_names_here","_law_at","_law_sorts","_law_sort","_law_name"] ["_law_program_here"] (bL (top 35)):=bz
def Ii{f:Addr}{fd:FuncData}(F:Fun K "_law_due" "_law_due" (top 35) f fd)(E:Tx K mg κ)(y172:b9 P w K mg base "_law_with" 36 zD (aV K κ 3 kG)):y46 P w K mg base bW 37 f fd ["_law_program_here"] (aV K κ 1 zo) :=
 bS F yy rfl rfl λcdv A outer s H _ hr=>by cases E;solve_by_elim [yy,hr,by assumption]
def yz:y47 ["_law_deal_here","_law_program_here","_law_names_here","_law_name","_law_uses","_law_part","_law_at","_law_own","_law_k"] HE (bL (top 34)):=bz
def Ij{f:Addr}{fd:FuncData}(F:Fun K "_law_changed" "_law_changed" (top 34) f fd)(E:Tx K mg κ)(y172:b9 P w K mg base "_law_with" 36 zD (aV K κ 3 kG))(y167:b9 P w K mg base "_law_draw" 1 iw (aV K κ 2 aU)):y46 P w K mg base bW 37 f fd HE (aV K κ 3 zp) :=
 bS F yz rfl rfl λcdv A outer s H _ hr=>by cases E;solve_by_elim [yz,hr,by assumption]
def yA:y47 ["_law_script","_law_deal_here","_law_program_here","_law_names_here","_law_turn","_law_other","_law_change","_law_due_here"] ["_law_script"] (bL (top 37)):=bz
def Ik{f:Addr}{fd:FuncData}(F:Fun K "law" "law" (top 37) f fd)(E:Tx K mg κ)(y170:b9 P w K mg base "_law_told" 7 ["_law_program_here"] (aV K κ 1 jb))(y168:b9 P w K mg base "_law_due" 37 ["_law_program_here"] (aV K κ 1 zo))(y167:b9 P w K mg base "_law_draw" 1 iw (aV K κ 2 aU))(y165:b9 P w K mg base "_law_changed" 37 HE (aV K κ 3 zp))(y16a:b9 P w K mg base "_law_program" 29 ia (aV K κ 1 yV))(y166:b9 P w K mg base "_law_deal" 1 ["_law_script","_law_base"] (aV K κ 2 yS)):y46 P w K mg base bW 38 f fd ["_law_script"] (aV K κ 1 Fy) :=
 bS F yA rfl rfl λcdv A outer s H _ hr=>by cases E;solve_by_elim [yA,hr,by assumption]
end
end Q
namespace Q
open PySem PySem.Spec PyProof.Rows L2 B
abbrev mJ(K:W.Frag):Sp:=λvs H Q _=>∃(a:Addr) (ns:List Int),vs=[.ref a]/\lg H/\bM K H a (ns.map V.int)/\ns.length≤63/\∀H',Q (.bl true) H'
theorem yB{K:W.Frag}{ι:List Addr}{H:Hp}:∀ns:List Int,y57 K ι H (ns.map V.int) (ns.map I.int)
 | []=>.nil
 | n::ns=>.cons (.int n) (yB ns)
def Il{P:Program}{w:World}{K:W.Frag}{mg:Str->Option Value}{base:Heap}{κ:Str->Addr}{f:Addr}{fd:FuncData}(h:y46 P w K mg base bW 38 f fd ["_law_script"] (aV K κ 1 Fy)):y46 P w K mg base bW 38 f fd ["_law_script"] (mJ K):=by
 refine h.imp λvs H Q E q=>?_
 obtain⟨a,ns,rfl,ho,hs,hl,k⟩:=q
 have fr:nW K H a (ns.map V.int):=by
  rcases hs with (z|⟨o,z⟩)|z
  ·rcases ho a with e|⟨o,xs,e⟩<;>(rw [z] at e;cases e)
  ·exact .inl ⟨o,z⟩
  ·exact .inr (.inr z)
 obtain⟨G,e⟩:=HD ns hl
 refine⟨[],[.im (.fro (ns.map I.int))],[],_,G,rfl,⟨.cons (.im (.fro fr (yB ns))) .nil,.nil,λx=>?_⟩,e,λv ι' H' s st=>?_⟩
 ·have:own (List.map some [V.ref a]) (List.map some [Vl.im (.fro (ns.map I.int))])=[]:=by show bB _ _++[]=[];rw [fZ];rfl
  rw [this];simp
 ·have:=s.sl
  cases this with
  | cons q _=>cases q with
   | im r=>cases r;exact k _
def us1:∀(us:List Value),us.length=1->∃x0,us=[x0]
 | [x0],_=>⟨x0,rfl⟩
def Im:∀(us:List Value),us.length=2->∃x0 x1,us=[x0,x1]
 | [x0,x1],_=>⟨x0,x1,rfl⟩
def Io:∀(us:List Value),us.length=3->∃x0 x1 x2,us=[x0,x1,x2]
 | [x0,x1,x2],_=>⟨x0,x1,x2,rfl⟩
def us4:∀(us:List Value),us.length=4->∃x0 x1 x2 x3,us=[x0,x1,x2,x3]
 | [x0,x1,x2,x3],_=>⟨x0,x1,x2,x3,rfl⟩
def us5:∀(us:List Value),us.length=5->∃x0 x1 x2 x3 x4,us=[x0,x1,x2,x3,x4]
 | [x0,x1,x2,x3,x4],_=>⟨x0,x1,x2,x3,x4,rfl⟩
abbrev y3(x q:Str)(st:Stmt)(ps:List Str):Prop:=∀(kV doc pm:Value) (an:Option Addr) (cdv ct:Value) (us:List Value),us.length=ps.length->bindArgs (W.fnOf x q (pZ st) (kz st) (bL st) .none kV doc pm an cdv ct) ⟨us,[]⟩=pure (ps.zip us)
noncomputable abbrev NF(K:W.Frag)(x q:Str)(st:Stmt)(f:Addr)(d:FuncData):Prop:=W.nsIn K mainGlobals x=some (some (.ref f))/\Fun K x q st f d
section
variable {K:W.Frag}{mg:Str->Option Value}{h:Heap}{k:Nat}{ps:List Str}{sp:Sp}{f:Addr}{fd:FuncData}{C:Addr}{x q m:Str}{st:Stmt}(P:Program)(w:World)(base:Heap)
def bq(X:K.In h)(G:h.Ns mainGlobals mg)(A:NF K x q st f fd)(o:y46 P w K mg base bW k f fd ps sp)(hb:y3 x q st ps:=by intro _ _ _ _ _ _ us hl;first|(obtain⟨_,rfl⟩:=us1 us hl;rfl)|(obtain⟨_,_,rfl⟩:=Im us hl;rfl)|(obtain⟨_,_,_,rfl⟩:=Io us hl;rfl)|(obtain⟨_,_,_,_,rfl⟩:=us4 us hl;rfl)|(obtain⟨_,_,_,_,_,rfl⟩:=us5 us hl;rfl)):b9 P w K mg base x k ps sp:=⟨f,fd,W.mg_of X G A.1,A.2.kp,A.2.binds hb,o⟩
def ku(X:K.In h)(G:h.Ns mainGlobals mg)(A:NF K x q st f fd)(o:y46 P w K mg base (df P w base) k f fd ps sp)(hb:y3 x q st ps:=by intro _ _ _ _ _ _ us hl;first|(obtain⟨_,rfl⟩:=us1 us hl;rfl)|(obtain⟨_,_,rfl⟩:=Im us hl;rfl)|(obtain⟨_,_,_,rfl⟩:=Io us hl;rfl)|(obtain⟨_,_,_,_,rfl⟩:=us4 us hl;rfl)|(obtain⟨_,_,_,_,_,rfl⟩:=us5 us hl;rfl)):kE P w K mg base x k ps sp:=⟨f,fd,W.mg_of X G A.1,A.2.kp,A.2.binds hb,o⟩
end
noncomputable abbrev NM(K:W.Frag)(C:Addr)(x q:Str)(st:Stmt)(f:Addr)(d:FuncData):Prop:=W.findIn K (.ref C) x=some (some (.ref f))/\W.isFn K (.ref f)=true/\Fun K x q st f d
def pY{K:W.Frag}{C:Addr}(h:jR K C=true):eP K C=true:=by
 unfold jR at h
 simp only [z24] at h
 exact h.1.1.1.1
def all_mk{l:W.OpenLaw}{w:World}{K:W.Frag}{h:Heap}{mg:Str->Option Value}{fa  f1 f2 f3 f4 f5 f6 f7 f8 f9 f10 f11 f12 f13 f14 f15 f16 f17 f18 f19 f20 f21 f22 f23 f24 f25 f26 f27 f28 f29 g2 C0 C1 C2 C3 C4:Addr}(X:K.In h)(G:h.Ns mainGlobals mg)(hfa:mg "law" = some (.ref fa))
  {d1 d2 d3 d4 d5 d6 d7 d8 d9 d10 d11 d12 d13 d14 d15 d16 d17 d18 d19 d20 d21 d22 d23 d24 d25 d26 d27 d28 d29 e2:FuncData}
  (A1:NF K "_law_deal" "_law_deal" (top 20) f1 d1)
  (A2:NF K "_law_draw" "_law_draw" (top 21) f2 d2)
  (A3:NF K "_law_names" "_law_names" (top 22) f3 d3)
  (A4:NF K "_law_word" "_law_word" (top 23) f4 d4)
  (A5:NF K "_law_term" "_law_term" (top 24) f5 d5)
  (A6:NF K "_law_round" "_law_round" (top 25) f6 d6)
  (A7:NF K "_law_statement" "_law_statement" (top 26) f7 d7)
  (A8:NF K "_law_body" "_law_body" (top 27) f8 d8)
  (A9:NF K "_law_program" "_law_program" (top 28) f9 d9)
  (A10:NF K "names_once" "names_once" (top 14) f10 d10)
  (A11:NF K "bodies_in" "bodies_in" (top 12) f11 d11)
  (A12:NF K "inner_bodies" "inner_bodies" (top 10) f12 d12)
  (A13:NF K "statements_in" "statements_in" (top 11) f13 d13)
  (A14:NF K "own_terms" "own_terms" (top 9) f14 d14)
  (A15:NF K "look_up" "look_up" (top 15) f15 d15)
  (A16:NF K "inner_terms" "inner_terms" (top 7) f16 d16)
  (A17:NF K "terms_in" "terms_in" (top 8) f17 d17)
  (A18:NF K "look_at_term" "look_at_term" (top 16) f18 d18)
  (A19:NF K "look_at_statement" "look_at_statement" (top 17) f19 d19)
  (A20:NF K "look" "look" (top 18) f20 d20)
  (A21:NF K "_law_told" "_law_told" (top 36) f21 d21)
  (A22:NF K "_law_use" "_law_use" (top 30) f22 d22)
  (A23:NF K "_law_term_with" "_law_term_with" (top 29) f23 d23)
  (A24:NF K "_law_statement_with" "_law_statement_with" (top 31) f24 d24)
  (A25:NF K "_law_body_with" "_law_body_with" (top 32) f25 d25)
  (A26:NF K "_law_with" "_law_with" (top 33) f26 d26)
  (A27:NF K "_law_due" "_law_due" (top 35) f27 d27)
  (A28:NF K "_law_changed" "_law_changed" (top 34) f28 d28)
  (A29:NF K "law" "law" (top 37) f29 d29)
  (z0:W.nsIn K mainGlobals "int" = some none)
  (z1:W.nsIn K mainGlobals "len" = some none)
  (z2:W.nsIn K mainGlobals "list" = some none)
  (z3:W.nsIn K mainGlobals "max" = some none)
  (z4:W.nsIn K mainGlobals "range" = some none)
  (z5:W.nsIn K mainGlobals "reversed" = some none)
  (z6:W.nsIn K mainGlobals "tuple" = some none)
  (z8:W.nsIn K mainGlobals "isinstance" = some none)
  (z9:W.nsIn K mainGlobals "ValueError" = some none)
  (a0:W.nsIn K mainGlobals "CourtError" = some (some (.ref C0)))
  (a1:W.nsIn K mainGlobals "NoText" = some (some (.ref C1)))
  (a2:W.nsIn K mainGlobals "NoProgram" = some (some (.ref C2)))
  (a3:W.nsIn K mainGlobals "TooLong" = some (some (.ref C3)))
  (a4:W.nsIn K mainGlobals "NoRecord" = some (some (.ref C4)))
  (M2:NM K C2 "__init__" "NoProgram.__init__" (fw (top 3) 0) g2 e2)
  (x0:eP K C0=true) (x2:jR K C2=true) (i2:vJ K C2 g2=true) (k2:W.keepIn K (.ref C2)=true)
  (n2:W.findIn K (.ref C2) "word" = some none) (n2':W.findIn K (.ref C2) "name" = some none)
  (r0:W.readsIn K C0 (.type "type")=true) (r1:W.findCls K (.ref C0) (.type "type") "__init__" = some (.val (.builtin "ValueError.__init__"))) (r2:W.specialIn K (.ref C0) "__getattribute__" = some (some (.builtin "type.__getattribute__")))
  (s2:(W.clsIn K C2).map (λcd=>cd.mro.contains (.ref C0))=some true)
  (t2:W.kitOne K (.ref C2) (.ref C2)=some true) (tv:W.kitOne K (.ref C2) (.type "ValueError")=some true) (ta:W.kitAny K (.ref C2) [.ref C1,.ref C3,.ref C4]=some false)
  (c2:W.findIn K (.ref C2) "__class__" = some (some (.builtin "object.__class__"))) (o2:W.mroIn K C2 (.type "object")=some true)
  (p1:W.specialIn K (.builtin "object.__class__") "__get__" = some (some (.builtin "getset_descriptor.__get__"))) (p2:W.takesIn K (.builtin "object.__class__")=some true)
  : ∃fd:FuncData,(∀(s:Shared) (v:Value),BindsTo s fd ⟨[v],[]⟩ [("_law_script",v)])/\∀base:Heap,K.In base->base.Ns mainGlobals mg->y46 l.prog w K mg base bW 38 fa fd ["_law_script"] (mJ K):=by
 have e:=hfa.symm.trans (W.mg_of X G A29.1)
 cases e
 obtain⟨κ,hκ⟩:∃κ:Str->Addr,κ "NoProgram" = C2:=⟨λc:Str=>C2,rfl⟩
 have E:Tx K mg κ:=⟨W.mg_none_of X G z0,W.mg_none_of X G z1,W.mg_none_of X G z2,W.mg_none_of X G z3,W.mg_none_of X G z4,W.mg_none_of X G z5,W.mg_none_of X G z6⟩
 obtain⟨_,_,kV,dc,pm,an,cd,ct,_,rfl,_,_⟩:=A29.2.ex
 refine⟨W.fnOf "law" "law" (pZ (top 37)) (kz (top 37)) (bL (top 37)) .none kV dc pm an cd ct,λs v=>.of_eq rfl,λbase _ _=>?_⟩
 have y166:=bq l.prog w base X G A1 (HF A1.2 E )
 have y167:=bq l.prog w base X G A2 (HG A2.2 E )
 have y169:=bq l.prog w base X G A3 (HH A3.2 E y167)
 have y173:=bq l.prog w base X G A4 (HI A4.2 E y167)
 have y33a:∀n:Nat,y46 l.prog w K mg base bW (3+n) f5 _ qf (aV K κ 3 (eQ n)):=λn=>by
  induction n with
  | zero=>exact (by unfold eQ;exact g8)
  | succ n ih=>exact HJ A5.2 E (bq l.prog w base X G A5 (ih)) y167 y173
 have y16e:=(bq l.prog w base X G A5 ((y33a 12)))
 have y338:∀n:Nat,y46 l.prog w K mg base bW (16+n) f6 _ h9 (aV K κ 4 (kF n))/\y46 l.prog w K mg base bW (16+n) f7 _ h9 (aV K κ 4 (iu n))/\y46 l.prog w K mg base bW (16+n) f8 _ h9 (aV K κ 4 (eY n)):=λn=>by
  induction n with
  | zero=>exact⟨by unfold kF;exact g8,by unfold iu;exact g8,by unfold eY;exact g8⟩
  | succ n ih=>exact⟨HK A6.2 E y167 y16e (bq l.prog w base X G A8 (ih.2.2)),HL A7.2 E y167 y16e (bq l.prog w base X G A6 (ih.1)) (bq l.prog w base X G A8 (ih.2.2)),HM A8.2 E y167 (bq l.prog w base X G A7 (ih.2.1))⟩
 have y16b:=(bq l.prog w base X G A6 ((y338 12).1))
 have y16c:=(bq l.prog w base X G A7 ((y338 12).2.1))
 have y163:=(bq l.prog w base X G A8 ((y338 12).2.2))
 have y16a:=bq l.prog w base X G A9 (HN A9.2 E y167 y173 y16c y163 y169)
 have y0:=W.mg_of X G a0
 have xi:y13 K C0 "ValueError.__init__":=⟨r0,r1,r2,by decide⟩
 have hCl:ClN l.prog w K mg base "NoProgram" (κ "NoProgram") ["word","name"]:=by
  rw [hκ]
  exact⟨⟨g2,e2,vK (pY x2) i2,Fq M2.2.2 (vK (pY x2) i2) (vN x2) n2 n2' xi y0,M2.2.2.binds (λ_ _ _ _ _ _ us hl=>by obtain⟨_,_,_,rfl⟩:=Io us hl;rfl),W.mg_of X G a2,k2⟩,by decide⟩
 have hKt:Kt K mg C0 C1 (κ "NoProgram") C3 C4:=by
  rw [hκ]
  exact⟨E4 x0,y0,W.mg_of X G a1,W.mg_of X G a2,W.mg_of X G a3,W.mg_of X G a4,W.mg_none_of X G z8,W.mg_none_of X G z9,E5 (pY x2) s2,vN x2,⟨c2,p1,p2,o2⟩,t2,tv,ta,n2,n2'⟩
 have y17b:=ku l.prog w base X G A10 (HP A10.2 E hCl)
 have y174:=bq l.prog w base X G A11 (HQ A11.2 E )
 have y175:=bq l.prog w base X G A12 (HR A12.2 E )
 have y17d:=bq l.prog w base X G A13 (HS A13.2 E y175)
 have y17c:=bq l.prog w base X G A14 (HU A14.2 E )
 have y17a:=ku l.prog w base X G A15 (HV A15.2 E hCl)
 have y176:=bq l.prog w base X G A16 (HW A16.2 E )
 have y17e:=bq l.prog w base X G A17 (HX A17.2 E y176)
 have y179:=ku l.prog w base X G A18 (HY A18.2 E y17e y17a)
 have y178:=ku l.prog w base X G A19 (HZ A19.2 E y17c y179 y17a)
 have y177:=ku l.prog w base X G A20 (Ia A20.2 E y174 y17d y178 y17b)
 have y170:=bq l.prog w base X G A21 (FC A21.2 y177 hKt)
 have y171:=bq l.prog w base X G A22 (Ib A22.2 E )
 have y33b:∀n:Nat,y46 l.prog w K mg base bW (2+n) f23 _ xQ (aV K κ 4 (hG n)):=λn=>by
  induction n with
  | zero=>exact (by unfold hG;exact g8)
  | succ n ih=>exact Ic A23.2 E (bq l.prog w base X G A23 (ih)) y171
 have y16f:=(bq l.prog w base X G A23 ((y33b 20)))
 have y339:∀n:Nat,y46 l.prog w K mg base bW (23+n) f24 _ zC (aV K κ 4 (fL n))/\y46 l.prog w K mg base bW (23+n) f25 _ qe (aV K κ 4 (fM n)):=λn=>by
  induction n with
  | zero=>exact⟨by unfold fL;exact g8,by unfold fM;exact g8⟩
  | succ n ih=>exact⟨Ie A24.2 E (bq l.prog w base X G A25 (ih.2)) y16f y171,Ig A25.2 E (bq l.prog w base X G A24 (ih.1))⟩
 have y16d:=(bq l.prog w base X G A24 ((y339 12).1))
 have y164:=(bq l.prog w base X G A25 ((y339 12).2))
 have y172:=bq l.prog w base X G A26 (Ih A26.2 E y164)
 have y168:=bq l.prog w base X G A27 (Ii A27.2 E y172)
 have y165:=bq l.prog w base X G A28 (Ij A28.2 E y172 y167)
 exact Il (κ:=κ) (Ik A29.2 E y170 y168 y167 y165 y16a y166)
def walk{l:W.OpenLaw}{q:Program}{loose:List Str}{XP:(Str->Option Value)->Heap->Prop}{YP:World->Heap->Prop}{d:DefRec}{K:Params->W.Frag}(hn:l.most=some 63)(hdf:d.params.defaults=[])
  (hY:∀(w:World) (h:Heap),YP w h->(K w.params).In h)
  (F:∀(w:World) (mg:Str->Option Value) (fa:Addr) (h:Heap),(K w.params).In h->h.Ns mainGlobals mg->mg d.name=some (.ref fa) ->
   ∃fd:FuncData,(∀(s:Shared) (u:Value),BindsTo s fd ⟨[u],[]⟩ [("_law_script",u)])/\∀base:Heap,(K w.params).In base->base.Ns mainGlobals mg->y46 l.prog w (K w.params) mg base bW 38 fa fd ["_law_script"] (mJ (K w.params))) :
  W.WalkO q loose XP YP l.row.toRowW d [] (λf vs=>PySem.call f vs) :=
 L2.y486 (n:=63) (k:=38) (x:="_law_script") (CX:=λ_=>bW) (sp:=λw=>mJ (K w.params)) hn (by decide) hdf ⟨rfl,by decide,by decide,rfl⟩ hY F (λ_ _ a ns hl ho hS=>⟨a,ns,rfl,ho,hS,hl,λ_=>rfl⟩) λ_ _ _ _ _ z=>z
end Q
open PySem PySem.W PyProof.Rows
set_option maxRecDepth 100000 in
set_option maxHeartbeats 0 in
theorem PySem.Challenge.cw_stepcourt_k08_the_first_thing_amiss_holds : PySem.Challenge.rw_stepcourt_k08_the_first_thing_amiss.Holds := by
 refine zTop ?_
 k_fill
 refine Q.walk (l:=PySem.Challenge.rw_stepcourt_k08_the_first_thing_amiss) rfl rfl (λw h Y=>W.kIn_of Y) ?F
 case F =>
  intro w mg fa h KX G hmg
  refine' Q.all_mk KX G hmg ..
  all_goals first|k_is|(refine' ⟨?a,L2.y151 ?l ?c ?k⟩;case a|l|c|k=>k_is)|(refine' ⟨?a,?i,L2.y151 ?l ?c ?k⟩;case a|i|l|c|k=>k_is)|kernel_rfl|(repeat (first|exact .nil|refine .cons ⟨_,rfl⟩ ?_))
