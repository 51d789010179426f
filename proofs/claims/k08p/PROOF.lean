import PyProof.Rows.All
import Wide.All
import OpenK.AllK
import Wide.FinOn
import Lean
import PyProof.EqAt
import PyProof.EqKinds
import PyProof.TupleCall
import PyProof.CompFree
import PyProof.NeKinds
import PyProof.Rows.RegReprOcc
import PyProof.Rows.StrCase
import PyProof.ZipIter
import PyProof.EnumMake
import PyProof.Draws
import PyProof.Rows.Range3
import KE.BitLaws
import KE.KDictOf
import PyProof.AttrMissSeq
import PyProof.DictUpdate
import PyProof.Rows.Tup
import PyProof.ReprRoads
import PyProof.DictRoadsH
import PyProof.DictItemsLoops
import PyProof.DictWalks
import PyProof.Rows.SetFrom
import PyProof.ListRange
import KE.KDictSum
import PyProof.StrCalls6
import PyProof.JoinWalk
import PyProof.FString
import PyProof.ToksMono
import PyProof.StrLawsReplace
import PyProof.StrLawsIdx
import KE.KIntText
import PyProof.Rows.StrClose
import PySem.Challenge.RW_stepcourt_k08_the_first_thing_amiss
import Open.Row
import PyProof.ReprLen
import PyProof.Rows.ReprShort
import PyProof.TupleOfGen
import PyProof.ExcArgsOwn
import OpenK.KWalk
import OpenK.KMake
import PyProof.StationsW
import PyProof.RulesTry
import PyProof.RulesAs
import PyProof.NsDelKeeps
import PyProof.InstStoreFacts
import PyProof.InstSpecial
import PyProof.ExcClsAt
import PyProof.ExcClass3
import PyProof.ExcBaseAll.ValueError
import PyProof.Commute
import KE.KIsAll
set_option Elab.async false
set_option bootstrap.genMatcherCode false
set_option genSizeOf false
set_option compiler.extract_closed false
set_option genSizeOfSpec false
set_option linter.all false
set_option maxRecDepth 100000
section
open PySem PySem.W PyProof.Rows
set_option maxRecDepth 100000
set_option maxHeartbeats 0
namespace PySem.W.Fast
theorem tw13177264999580132443:True:=⟨⟩
theorem tw895538476482711749:True:=⟨⟩
theorem tw4913874936065851510:True:=⟨⟩
theorem tw4519450879807538878:True:=⟨⟩
theorem tw15187169452722266847:True:=⟨⟩
theorem tw15544239321857458025:True:=⟨⟩
theorem tw13218746136861130678:True:=⟨⟩
theorem tw11229071132917530449:True:=⟨⟩
theorem tw17027818914372267458:True:=⟨⟩
theorem tw852478499754853246:True:=⟨⟩
theorem tw9777197614727144175:True:=⟨⟩
theorem tw7516292785299593844:True:=⟨⟩
theorem tw6551363156116692338:True:=⟨⟩
theorem tw395463464014435128:True:=⟨⟩
theorem tw1956548250747423899:True:=⟨⟩
theorem tw8460669310240601629:True:=⟨⟩
theorem tw3902621705068835048:True:=⟨⟩
theorem tw3045374356822331967:True:=⟨⟩
theorem tw8822291404628921983:True:=⟨⟩
theorem tw15881245120926960385:True:=⟨⟩
theorem tw8150494483434907230:True:=⟨⟩
theorem tw7994059539151220853:True:=⟨⟩
theorem tw15891456575636753283:True:=⟨⟩
theorem tw2649044472549066648:True:=⟨⟩
theorem tw6798638055086111401:True:=⟨⟩
theorem tw8528361429512264859:True:=⟨⟩
theorem tw12383037539652737636:True:=⟨⟩
theorem tw9639980338403056850:True:=⟨⟩
theorem tw5916890518424925820:True:=⟨⟩
theorem tw15530991955049172217:True:=⟨⟩
theorem tw6482800158057863147:True:=⟨⟩
theorem tw2459149278501700511:True:=⟨⟩
theorem tw6572183223852449591:True:=⟨⟩
theorem tw9212744562938848036:True:=⟨⟩
theorem tw15269304584810771261:True:=⟨⟩
theorem tw14787167811812044494:True:=⟨⟩
theorem tw17957213987017164864:True:=⟨⟩
theorem tw13851172441453474682:True:=⟨⟩
theorem tw7554348544075112114:True:=⟨⟩
theorem tw18147634735016505190:True:=⟨⟩
theorem tw4487168863061647788:True:=⟨⟩
theorem tw9103119445637474416:True:=⟨⟩
theorem tw4083259587868711730:True:=⟨⟩
theorem tw2698669867553343545:True:=⟨⟩
theorem tw16865912158236578429:True:=⟨⟩
theorem tw7683413027814144735:True:=⟨⟩
theorem tw5930245222610895174:True:=⟨⟩
theorem tw13469112012805276001:True:=⟨⟩
theorem tw15038055886059324390:True:=⟨⟩
theorem tw12453948998007411332:True:=⟨⟩
theorem tw3935902670650191560:True:=⟨⟩
theorem tw16652376392405926066:True:=⟨⟩
theorem tw9747514990888706239:True:=⟨⟩
theorem tw13258880383493924464:True:=⟨⟩
theorem tw11418382477747728562:True:=⟨⟩
theorem tw17584295557712985996:True:=⟨⟩
theorem tw1249609262983394801:True:=⟨⟩
theorem tw2132911524444663084:True:=⟨⟩
theorem tw17332023533657689576:True:=⟨⟩
theorem tw2056797189884044599:True:=⟨⟩
theorem tw1743902035226782177:True:=⟨⟩
theorem tw17759830326070839462:True:=⟨⟩
theorem tw2345989680370554778:True:=⟨⟩
theorem tw2254231063549161415:True:=⟨⟩
theorem tw5564154564620580589:True:=⟨⟩
theorem tw18173385211141234565:True:=⟨⟩
theorem tw16825475289437841240:True:=⟨⟩
theorem tw1815439330302545554:True:=⟨⟩
theorem tw6045546531790125783:True:=⟨⟩
theorem tw7838914647235854133:True:=⟨⟩
theorem tw7458513109189904703:True:=⟨⟩
theorem tw4397684161973488112:True:=⟨⟩
theorem tw15755600195435188709:True:=⟨⟩
theorem tw17407049565445360953:True:=⟨⟩
theorem tw908880305357758839:True:=⟨⟩
theorem tw2455218816632103904:True:=⟨⟩
theorem tw782719872413053650:True:=⟨⟩
theorem tw15923931946982703250:True:=⟨⟩
theorem tw7958174498357925821:True:=⟨⟩
theorem tw3686326400322533805:True:=⟨⟩
theorem tw17236398780377943071:True:=⟨⟩
theorem tw3892227632994185491:True:=⟨⟩
theorem tw7684820258534166126:True:=⟨⟩
theorem tw6746078713729573149:True:=⟨⟩
theorem tw11804292509008479115:True:=⟨⟩
theorem tw13587052777431275356:True:=⟨⟩
theorem tw17362094401345318013:True:=⟨⟩
theorem tw4459180487298125006:True:=⟨⟩
theorem tw9246042815031778251:True:=⟨⟩
theorem tw8709042462198708382:True:=⟨⟩
theorem tw9798698045082436836:True:=⟨⟩
theorem tw6309199330136857025:True:=⟨⟩
theorem tw8083423483217949915:True:=⟨⟩
theorem tw15010142700156670087:True:=⟨⟩
theorem tw11954902030139364750:True:=⟨⟩
theorem tw2615588686933544735:True:=⟨⟩
theorem tw5585903270148390919:True:=⟨⟩
theorem tw3123432008305972677:True:=⟨⟩
theorem tw15040804366717906955:True:=⟨⟩
theorem tw4078788042237280789:True:=⟨⟩
theorem tw13369165591201428539:True:=⟨⟩
theorem tw3583079532035691742:True:=⟨⟩
theorem tw11161512577181806471:True:=⟨⟩
theorem tw13584122695382047704:True:=⟨⟩
theorem tw2790703193821817401:True:=⟨⟩
theorem tw12892738712274723240:True:=⟨⟩
theorem tw15752887362515140783:True:=⟨⟩
theorem tw5628314597858573862:True:=⟨⟩
theorem tw11795361339884293948:True:=⟨⟩
theorem tw17796075267231131897:True:=⟨⟩
theorem tw11501091500179542797:True:=⟨⟩
theorem tw2768536379164225707:True:=⟨⟩
theorem tw4268020307254116079:True:=⟨⟩
theorem tw769526284009388806:True:=⟨⟩
theorem tw5288445787047881752:True:=⟨⟩
theorem tw4926728083454191043:True:=⟨⟩
theorem tw1919947383599481878:True:=⟨⟩
theorem tw13588013580689071181:True:=⟨⟩
theorem tw14298222390208911655:True:=⟨⟩
theorem tw1205011893391287390:True:=⟨⟩
theorem tw17534516426610419080:True:=⟨⟩
theorem tw14287529356680542429:True:=⟨⟩
theorem tw13960732369908283787:True:=⟨⟩
theorem tw15369637706217280882:True:=⟨⟩
theorem tw2276500545618996696:True:=⟨⟩
theorem tw6147404680042301813:True:=⟨⟩
theorem tw15005101350805175016:True:=⟨⟩
theorem tw7938352015378969248:True:=⟨⟩
theorem tw790762417007475954:True:=⟨⟩
theorem tw9040897349740716175:True:=⟨⟩
theorem tw597950867924285991:True:=⟨⟩
theorem tw408116314839106180:True:=⟨⟩
theorem tw3323801378846934992:True:=⟨⟩
end PySem.W.Fast
open_top zTop for PySem.Challenge.rw_stepcourt_k08_the_first_thing_amiss
end
local macro_rules
|`(command|abbrev $i:declId $s:optDeclSig:=$v)=>`(command|noncomputable def $i:declId $s:optDeclSig:=$v)
|`(command|abbrev $i:declId $s:optDeclSig $a:matchAlts)=>`(command|noncomputable def $i:declId $s:optDeclSig $a:matchAlts)
noncomputable abbrev za:=@List.length_append
noncomputable abbrev zb:=@PySem.wpAny_bind
noncomputable abbrev zc:=@List.size_toArray
noncomputable abbrev zd:=@PySem.wpAny_pure
noncomputable abbrev ze:=@Nat.le_refl
noncomputable abbrev zf:=@PySem.Heap.get?_push_of_some
noncomputable abbrev z10:=@List.append_nil
noncomputable abbrev z11:=@List.length_cons
noncomputable abbrev z12:=@List.length_map
noncomputable abbrev z13:=@List.mem_append
noncomputable abbrev z14:=@List.getElem?_eq_some_iff
noncomputable abbrev z15:=@Bool.false_ne_true
noncomputable abbrev z16:=@List.map_cons
noncomputable abbrev z17:=@List.mem_singleton
noncomputable abbrev z18:=@List.getElem?_append_right
noncomputable abbrev z19:=@PySem.Heap.lt_size
noncomputable abbrev z1a:=@List.getElem?_append_left
noncomputable abbrev z1b:=@Nat.le_trans
noncomputable abbrev z1c:=@Nat.lt_of_lt_of_le
noncomputable abbrev z1d:=@List.getElem?_eq_getElem
noncomputable abbrev z1e:=@List.mem_cons
noncomputable abbrev z1f:=@Option.some.inj
noncomputable abbrev z20:=@List.count_append
noncomputable abbrev z21:=@List.append_assoc
noncomputable abbrev z22:=@List.mem_append_right
noncomputable abbrev z23:=@List.mem_cons_of_mem
noncomputable abbrev z24:=@Bool.and_eq_true
noncomputable abbrev z25:=@List.map_append
noncomputable abbrev z26:=@List.getElem?_set_ne
noncomputable abbrev z27:=@Nat.ne_of_lt
noncomputable abbrev z28:=@PySem.Heap.get?_push_size
noncomputable abbrev z29:=@List.nil_append
noncomputable abbrev z2a:=@List.cons_append
noncomputable abbrev z2b:=@List.length_set
noncomputable abbrev z2c:=@PySem.wpAny_newObj_type
noncomputable abbrev z2d:=@List.length_take
noncomputable abbrev z2e:=@List.take_of_length_le
noncomputable abbrev z2f:=@List.length_drop
noncomputable abbrev z30:=@List.length_reverse
noncomputable abbrev z31:=@Nat.lt_irrefl
noncomputable abbrev z32:=@List.mem_of_getElem?
noncomputable abbrev z33:=@List.getElem_mem
noncomputable abbrev z34:=@List.singleton_append
noncomputable abbrev z35:=@Nat.lt_succ_self
noncomputable abbrev z36:=@Bool.and_eq_true_iff
noncomputable abbrev z37:=@List.reverse_append
noncomputable abbrev z38:=@List.map_map
noncomputable abbrev z39:=@List.mem_map
theorem zzA(h:True:=by rfl):True:=h
local macro_rules|`(‹$x›)=>`(autoParam $x zzA._auto_1)
namespace L2
open PySem PySem.Spec PyProof.Rows
section
noncomputable abbrev aI:=Sum Int Str
abbrev iu:aI->Value->Bool
 | .inl k,v=>Value.isInt k v
 | .inr x,v=>Value.isStrOf x v
abbrev qi(w:World):aI->Int
 | .inl k=>hashInt k
 | .inr x=>hashStr w x
def eY:∀{k:aI} {v:Value},iu k v=true->(∃i t,k=Sum.inl i/\v=Value.int i t)∨(∃x t,k=Sum.inr x/\v=Value.str x t)
 | .inl i,v,h=>by
  obtain⟨t,e⟩:=Value.isInt_shape (k:=i) (v:=v) h
  exact .inl ⟨i,t,rfl,e⟩
 | .inr x,v,h=>by
  obtain⟨t,e⟩:=Value.isStrOf_shape (x:=x) (v:=v) h
  exact .inr ⟨x,t,rfl,e⟩
def zL(i:Int)(t:Tok):iu (.inl i) (.int i t)=true:=by simp [iu,Value.isInt]
def zM(x:Str)(t:Tok):iu (.inr x) (.str x t)=true:=by simp [iu,Value.isStrOf]
def zN(a b:Int):decide ((Sum.inl a:aI)=Sum.inl b)=(a == b):=by
 by_cases e:a=b
 ·subst e;simp
 ·have h:¬ (Sum.inl a:aI)=Sum.inl b:=λq=>e (Sum.inl.inj q)
  rw [decide_eq_false h]
  exact (beq_eq_false_iff_ne.mpr e).symm
def zO(a b:Str):decide ((Sum.inr a:aI)=Sum.inr b)=decide (a=b):=by
 by_cases e:a=b
 ·subst e;simp
 ·have h:¬ (Sum.inr a:aI)=Sum.inr b:=λq=>e (Sum.inr.inj q)
  rw [decide_eq_false h,decide_eq_false e]
def zP(a:Int)(b:Str):decide ((Sum.inl a:aI)=Sum.inr b)=false:=decide_eq_false (λq=>nomatch q)
def zQ(a:Str)(b:Int):decide ((Sum.inr a:aI)=Sum.inl b)=false:=decide_eq_false (λq=>nomatch q)
noncomputable def cQ(prog:Program)(w:World):PySem.KeyKind prog w aI where
 is:=iu
 hash:=qi w
 inj:=λv a b ha hb=>by
  rcases eY ha with⟨i,t,rfl,rfl⟩| ⟨x,t,rfl,rfl⟩
  ·rcases eY hb with⟨j,u,rfl,e⟩| ⟨y,u,rfl,e⟩
   ·injection e with e1 _;rw [e1]
   ·exact nomatch e
  ·rcases eY hb with⟨j,u,rfl,e⟩| ⟨y,u,rfl,e⟩
   ·exact nomatch e
   ·injection e with e1 _;rw [e1]
 byValue:=λk v h=>by
  rcases eY h with⟨i,t,rfl,rfl⟩| ⟨x,t,rfl,rfl⟩<;>rfl
 pyHash:=λhv h=>by
  rcases eY hv with⟨i,t,rfl,rfl⟩| ⟨x,t,rfl,rfl⟩
  ·exact wpAny_pyHash_int h
  ·exact wpAny_pyHash_str h
 eqBool:=λhu hv h=>by
  rcases eY hu with⟨i,t,rfl,rfl⟩| ⟨x,t,rfl,rfl⟩
  ·rcases eY hv with⟨j,u,rfl,rfl⟩| ⟨y,u,rfl,rfl⟩
   ·rw [zN] at h;exact wpAny_eqBool_int h
   ·rw [zP] at h;exact SeqAt.EqAt.int_str i t y u _ _ _ _ h
  ·rcases eY hv with⟨j,u,rfl,rfl⟩| ⟨y,u,rfl,rfl⟩
   ·rw [zQ] at h;exact SeqAt.EqAt.str_int x t j u _ _ _ _ h
   ·rw [zO] at h;exact wpAny_eqBool_str h
 «strs»:=λk x t v h=>by
  rcases eY h with⟨i,u,rfl,e⟩| ⟨y,u,rfl,e⟩
  ·exact nomatch e
  ·injection e with e1 _
   subst e1
   cases v<;>rfl
def zR(prog:Program)(w:World)(i:Int)(t:Tok):(cQ prog w).is (.inl i) (.int i t)=true:=zL i t
def zS(prog:Program)(w:World)(x:Str)(t:Tok):(cQ prog w).is (.inr x) (.str x t)=true:=zM x t
end
section
inductive V where
 | non|bl (b:Bool)|int (i:Int)|str (x:Str)|byt (b:Array UInt8)|flt (b:UInt64)|ref (a:Addr)|ty (n:String)
 deriving DecidableEq
abbrev aA:V->Value->Prop
 | .non,u=>u=Value.none
 | .bl b,u=>u=Value.bool b
 | .int i,u=>∃t,u=Value.int i t
 | .str x,u=>∃t,u=Value.str x t
 | .byt b,u=>∃t,u=Value.bytes b t
 | .flt b,u=>∃t,u=Value.float b t
 | .ref a,u=>u=Value.ref a
 | .ty n,u=>u=Value.type n
noncomputable abbrev au:List V->List Value->Prop:=Paired aA
theorem au.length{xs:List V}{us:List Value}(r:au xs us):xs.length=us.length:=Paired.length r
theorem au.get:∀{xs:List V} {us:List Value} {i:Nat} {x:V},au xs us->xs[i]?=some x->∃u,us[i]?=some u/\aA x u
 | _,_,_,_,.nil,e=>by simp at e
 | _,_,0,_,.cons r _,e=>by simp at e;subst e;exact⟨_,rfl,r⟩
 | _,_,i+1,x,.cons _ t,e=>by
  obtain⟨u,h1,h2⟩:=au.get (i:=i) (x:=x) t (by simpa using e)
  exact⟨u,by simpa using h1,h2⟩
theorem au.set{x:V}{u:Value}(r:aA x u):∀{xs:List V} {us:List Value} (i:Nat),au xs us->au (xs.set i x) (us.set i u)
 | _,_,_,.nil=>.nil
 | _,_,0,.cons _ t=>.cons r t
 | _,_,i+1,.cons q t=>.cons q (au.set r i t)
theorem au.append:∀{xs ys:List V} {us ws:List Value},au xs us->au ys ws->au (xs++ys) (us++ws)
 | _,_,_,_,.nil,s=>s
 | _,_,_,_,.cons r t,s=>.cons r (au.append t s)
theorem au.take:∀{xs:List V} {us:List Value} (n:Nat),au xs us->au (xs.take n) (us.take n)
 | _,_,0,_=>.nil
 | _,_,_+1,.nil=>.nil
 | _,_,n+1,.cons r t=>.cons r (au.take n t)
theorem au.drop:∀{xs:List V} {us:List Value} (n:Nat),au xs us->au (xs.drop n) (us.drop n)
 | _,_,0,r=>r
 | _,_,_+1,.nil=>.nil
 | _,_,n+1,.cons _ t=>au.drop n t
abbrev h9:Option V->Option Value->Prop
 | some v,some u=>aA v u
 | none,none=>True
 | _,_=>False
abbrev KV{κ:Type}:List (κ×V)->List (κ×Value)->Prop:=Paired λ(p:κ×V) (q:κ×Value)=>p.1=q.1/\aA p.2 q.2
abbrev kV:aI->V
 | .inl i=>.int i
 | .inr x=>.str x
inductive HO where
 | lst (xs:List V)
 | tup (xs:List V)
 | dK (kvs:List (aI×V))|dT (kvs:List (List aI×V))
 | set (S:Int->Bool) (n:Nat)
 | ins (C dx:Addr) (fs:List (Str×V))
 | own (x:Addr)
 | xd (fs:List (Str×V))
 | met (f x:Addr)
 | rng (lo hi:Int)
 | frz (o:Obj) (u:HO)
 | tbl (ps:Array Value)
 | ext (φ:Heap->Prop)
noncomputable abbrev Hp:=Addr->Option HO
abbrev upd(H:Hp)(a:Addr)(o:HO):Hp:=λb=>if b=a then some o else H b
def a8{H:Hp}{a:Addr}{o:HO}:upd H a o a=some o:=by unfold upd;rw [if_pos rfl]
def aK{H:Hp}{a b:Addr}{o:HO}(h:b≠a):upd H a o b=H b:=by unfold upd;rw [if_neg h]
def zT{H:Hp}{a:Addr}{o u:HO}:upd (upd H a o) a u=upd H a u:=by
 funext b;unfold upd;split<;>rfl
def nh{H:Hp}{a b:Addr}{o u:HO}(h:H a=some o)(h':H b=some u)(d:o≠u):a≠b:=by
 intro e;subst e;rw [h] at h';exact d (z1f h')
def gE{H:Hp}{a b:Addr}{o:HO}(h:H a=some o)(h':H b=none):a≠b:=by
 intro e;subst e;rw [h] at h';cases h'
abbrev ku(h:Heap)(a:Addr)(items:Array Value):Prop:=∃o,h.get? a=some o/\o.cls=.type "tuple"/\o.dict=none/\∃n,o.data=.seq items n
def ku.tup{h:Heap}{a:Addr}{items:Array Value}(x:ku h a items):IsTup h a items:=let ⟨o,e,c,_,n,d⟩:=x;⟨o,e,c,n,d⟩
def ku.mk'(h:Heap)(items:Array Value):ku (h.push { cls:=.type "tuple",data:=.seq items }) h.objs.size items:=⟨_,z28 _ rfl,rfl,rfl,_,rfl⟩
section
variable (P:Program)(w:World)
abbrev dQ(H:Hp)(h:Heap)(a:Addr):HO->Prop
 | .lst xs=>xs.length≤sizeLine/\∃(its:List Value) (n:Nat),au xs its/\h.get? a=some { cls:=.type "list",data:=.seq its.toArray n }
 | .tup xs=>xs.length≤sizeLine/\∃its:List Value,au xs its/\ku h a its.toArray
 | .dK kvs=>kvs.length≤sizeLine/\(a == sysModules)=false/\∃vs,KV kvs vs/\h.DictOf (cQ P w) a vs
 | .dT kvs=>kvs.length≤sizeLine/\(a == sysModules)=false/\∃xs:List (List aI×Addr×Value),
   Paired (λ(p:List aI×V) (q:List aI×Addr×Value)=>p.1=q.1/\H q.2.1=some (.tup (p.1.map kV))/\aA p.2 q.2.2) kvs xs /\
   ∃o es ep,h.get? a=some o/\o.ExactDict/\o.data=.dict es ep/\es.toList=xs.map (entryOfKey (tupleKind (cQ P w)))/\(xs.map (·.1)).Nodup
 | .set S n=>h.SetOf (intKind P w) a S n
 | .ins C dx fs=>H dx=some (.own a)/\fs.length≤1000/\dx≠a/\h.get? a=some (W.instObj C dx) /\
   ∃mA,h.Ns1 dx mA/\(∀f,h9 (fs.lookup f) (mA f))/\PySem.Within mA (fs.map (·.1))
 | .own _=>∃o,h.get? a=some o
 | .xd fs=>∃mA,h.Ns1 a mA/\∀f,h9 (fs.lookup f) (mA f)
 | .rng lo hi=>∃t u v,h.get? a=some { cls:=.type "range",data:=.fields #[.int lo t,.int hi u,.int 1 v] }
 | .frz o u=>h.get? a=some o/\dQ H h a u
 | .tbl ps=>h.get? a=some { cls:=.none,data:=.fields ps }
 | .met f x=>h.get? a=some (W.methodObj (.ref f) (.ref x))
 | .ext φ=>φ h/\(∃o,h.get? a=some o)/\∀h1 h2:Heap,φ h1->(∀o,h1.get? a=some o->h2.get? a=some o)->φ h2
abbrev cO(H:Hp)(h:Heap):Prop:=∀a o,H a=some o->dQ P w H h a o
end
section
variable {P:Program}{w:World}{H H':Hp}{h h':Heap}{a:Addr}{o:HO}
theorem dQ.lt(x:dQ P w H h a o):a<h.objs.size:=by
 cases o with
 | lst xs=>obtain⟨_,_,_,_,e⟩:=x;exact z19 e
 | tup xs=>obtain⟨_,_,_,p⟩:=x;exact p.tup.lt
 | dK kvs=>obtain⟨_,_,_,_,o,_,_,e,_⟩:=x;exact z19 e
 | dT kvs=>obtain⟨_,_,_,_,o,_,_,e,_⟩:=x;exact z19 e
 | set S n=>obtain⟨o,_,_,_,e,_⟩:=x;exact z19 e
 | ins C dx fs=>obtain⟨_,_,_,e,_⟩:=x;exact z19 e
 | own y=>obtain⟨_,e⟩:=x;exact z19 e
 | xd fs=>obtain⟨_,⟨_,_,_,e,_⟩,_⟩:=x;exact z19 e
 | rng lo hi=>obtain⟨_,_,_,e⟩:=x;exact z19 e
 | frz ob u=>obtain⟨e,_⟩:=x;exact z19 e
 | tbl ps=>exact z19 (show h.get? a=some _ from x)
 | met f y=>exact z19 (show h.get? a=some _ from x)
 | ext φ=>obtain⟨_,⟨_,e⟩,_⟩:=x;exact z19 e
theorem Paired.mapP{α β:Type}{F G:α->β->Prop}:∀{l₁:List α} {l₂:List β},Paired F l₁ l₂->(∀a b,F a b->G a b)->Paired G l₁ l₂
 | _,_,.nil,_=>.nil
 | _,_,.cons r t,f=>.cons (f _ _ r) (Paired.mapP t f)
def dQ.y3d9(x:dQ P w H h a o)(k:∀b u,(b=a∨H b=some (.own a))->h.get? b=some u->h'.get? b=some u)
  (ho:∀b,H b=some (.own a)->H' b=some (.own a)) (ht:∀b xs,H b=some (.tup xs)->H' b=some (.tup xs)):dQ P w H' h' a o:=by
 induction o with
 | lst xs=>obtain⟨z,its,n,r,e⟩:=x;exact⟨z,its,n,r,k _ _ (.inl rfl) e⟩
 | tup xs=>obtain⟨z,its,r,ob,e,c⟩:=x;exact⟨z,its,r,ob,k _ _ (.inl rfl) e,c⟩
 | dK kvs=>obtain⟨z,y,vs,r,ob,es,ep,e,c⟩:=x;exact⟨z,y,vs,r,ob,es,ep,k _ _ (.inl rfl) e,c⟩
 | dT kvs =>
  obtain⟨z,y,xs,r,ob,es,ep,e,c⟩:=x
  exact⟨z,y,xs,Paired.mapP r λp q z=>⟨z.1,ht _ _ z.2.1,z.2.2⟩,ob,es,ep,k _ _ (.inl rfl) e,c⟩
 | set S n=>obtain⟨ob,es,ep,t,e,c⟩:=x;exact⟨ob,es,ep,t,k _ _ (.inl rfl) e,c⟩
 | ins C dx fs =>
  obtain⟨d,z,ne,e,mA,⟨od,es,ep,e2,c⟩,r⟩:=x
  exact⟨ho _ d,z,ne,k _ _ (.inl rfl) e,mA,⟨od,es,ep,k _ _ (.inr d) e2,c⟩,r⟩
 | own y=>obtain⟨ob,e⟩:=x;exact⟨ob,k _ _ (.inl rfl) e⟩
 | xd fs=>obtain⟨mA,⟨od,es,ep,e,c⟩,r⟩:=x;exact⟨mA,⟨od,es,ep,k _ _ (.inl rfl) e,c⟩,r⟩
 | rng lo hi=>obtain⟨t,u,v,e⟩:=x;exact⟨t,u,v,k _ _ (.inl rfl) e⟩
 | frz ob u ih=>obtain⟨e,q⟩:=x;exact⟨k _ _ (.inl rfl) e,ih q⟩
 | tbl ps =>
  have e:h.get? a=some { cls:=.none,data:=.fields ps }:=x
  show h'.get? a=some { cls:=.none,data:=.fields ps }
  exact k a _ (.inl rfl) e
 | met f y =>
  have e:h.get? a=some (W.methodObj (.ref f) (.ref y)):=x
  show h'.get? a=some (W.methodObj (.ref f) (.ref y))
  exact k a _ (.inl rfl) e
 | ext φ=>obtain⟨p,⟨o,e⟩,st⟩:=x;exact⟨st _ _ p λo q=>k _ _ (.inl rfl) q,⟨o,k _ _ (.inl rfl) e⟩,st⟩
theorem cO.lt(x:cO P w H h)(e:H a=some o):a<h.objs.size:=(x a o e).lt
def cO.fresh(x:cO P w H h)(e:h.objs.size≤a):H a=none:=by
 cases q:H a with
 | none=>rfl
 | some u=>exact absurd (z1c (x.lt q) e) (z31 _)
def cO.kept(x:cO P w H h)(k:∀b u,h.get? b=some u->h'.get? b=some u):cO P w H h':=λa o e =>
 (x a o e).y3d9 (λb u _ q=>k b u q) (λ_ q=>q) λ_ _ q=>q
def cO.laid(x:cO P w H h)(k:∀b u,h.get? b=some u->h'.get? b=some u)(hp:h.objs.size≤a)(new:dQ P w (upd H a o) h' a o):cO P w (upd H a o) h':=λb u e=>by
 have hn:=x.fresh hp
 by_cases hb:b=a
 ·subst hb;rw [a8] at e;cases e;exact new
 ·rw [aK hb] at e
  exact (x b u e).y3d9 (λc v _ q=>k c v q) (λc q=>by rw [aK (gE q hn)];exact q) λc xs q=>by rw [aK (gE q hn)];exact q
end
abbrev Rd(H:Hp)(a:Addr)(u:HO):Prop:=H a=some u∨∃o,H a=some (.frz o u)
def Rd.ok{P:Program}{w:World}{H:Hp}{h:Heap}{a:Addr}{u:HO}(r:Rd H a u)(x:cO P w H h):dQ P w H h a u:=by
 rcases r with r|⟨o,r⟩
 ·exact x a u r
 ·obtain⟨_,q⟩:=x a _ r
  exact q
abbrev qj:Option HO->Prop
 | some (.lst _)=>True
 | some (.dK _)=>True
 | some (.dT _)=>True
 | some (.set _ _)=>True
 | some (.ins _ _ _)=>True
 | some (.ext _)=>True
 | _=>False
section
variable {P:Program}{w:World}{H:Hp}{h h':Heap}{x e:Addr}{o':HO}
def cO.write(ok:cO P w H h)(mu:qj (H x))(he:e=x∨H e=some (.own x))(k:∀b u,b≠e->h.get? b=some u->h'.get? b=some u)(heo:∃u,h'.get? e=some u)
  (new:dQ P w (upd H x o') h' x o'):cO P w (upd H x o') h':=λb u q=>by
 have nown:∀c y,H c=some (.own y)->c≠x:=λc y r z=>by subst z;rw [r] at mu;exact mu
 have ntup:∀c xs,H c=some (.tup xs)->c≠x:=λc xs r z=>by subst z;rw [r] at mu;exact mu
 by_cases hb:b=x
 ·subst hb;rw [a8] at q;cases q;exact new
 ·rw [aK hb] at q
  by_cases hbe:b=e
  ·have q':H b=some (.own x):=by
    rcases he with z|z
    ·exact absurd (hbe.trans z) hb
    ·rw [hbe];exact z
   rw [q] at q';cases q'
   obtain⟨v,hv⟩:=heo
   exact⟨v,by rw [hbe];exact hv⟩
  ·refine (ok b u q).y3d9 (λc v hc r=>k c v ?_ r) (λc r=>by rw [aK (nown c b r)];exact r) λc xs r=>by rw [aK (ntup c xs r)];exact r
   rcases hc with rfl|hc
   ·exact hbe
   ·rintro rfl
    rcases he with z|z
    ·exact nown c b hc z
    ·rw [hc] at z;cases z;exact hb rfl
end
structure Un(fs ex:List Addr)(H H':Hp)(h h':Heap):Prop where
 keep:∀b o,h.get? b=some o->H b=none->b∉fs->b∉ex->h'.get? b=some o
 slot:∀b o,h.get? b=some o->H b=none->b∈fs->b∉ex->∃sl,h'.get? b=some { o with slots:=sl }
 free:∀b o,h.get? b=some o->H b=none->b∉ex->H' b=none
 there:∀b o,h.get? b=some o->b∉ex->∃o',h'.get? b=some o'
 y42a:∀b xs,H b=some (.tup xs)->H' b=some (.tup xs)
 y150:∀b o u,H b=some (.frz o u)->H' b=some (.frz o u)
 y410:∀b ps,H b=some (.tbl ps)->∃more,H' b=some (.tbl (ps++more))
section
variable {fs fs' ex ex':List Addr}{H H1 H2:Hp}{h h1 h2 h':Heap}{a x e:Addr}{o:HO}
def Un.any(u:Un fs ex H H1 h h1){b:Addr}{ob:Obj}(q:h.get? b=some ob)(n:H b=none)(hx:b∉ex):∃sl,h1.get? b=some { ob with slots:=sl }:=by
 by_cases hb:b∈fs
 ·exact u.slot b ob q n hb hx
 ·exact⟨ob.slots,u.keep b ob q n hb hx⟩
def Un.kept(k:∀b u,h.get? b=some u->h'.get? b=some u):Un fs ex H H h h' :=
 ⟨λb ob q _ _ _=>k b ob q,λb ob q _ _ _=>⟨ob.slots,k b ob q⟩,λ_ _ _ n _=>n,λb ob q _=>⟨ob,k b ob q⟩,λ_ _ q=>q,λ_ _ _ q=>q,λ_ ps q=>⟨#[],by rw [q];simp⟩⟩
def Un.refl:Un fs ex H H h h:=Un.kept λ_ _ q=>q
def Un.laid(k:∀b u,h.get? b=some u->h'.get? b=some u)(hp:h.objs.size≤a)(hn:H a=none):Un fs ex H (upd H a o) h h' where
 keep:=λb u q _ _ _=>k b u q
 slot:=λb u q _ _ _=>⟨u.slots,k b u q⟩
 free:=λb u q n _=>by rw [aK (z27 (z1c (z19 q) hp))];exact n
 there:=λb u q _=>⟨u,k b u q⟩
 y42a:=λb xs q=>by rw [aK (gE q hn)];exact q
 y150:=λb u xs q=>by rw [aK (gE q hn)];exact q
 y410:=λb ps q=>⟨#[],by rw [aK (gE q hn),q];simp⟩
def Un.write(mu:qj (H x))(he:e=x∨H e=some (.own x))(k:∀b u,b≠e->h.get? b=some u->h'.get? b=some u)(heo:∃u,h'.get? e=some u):Un fs ex H (upd H x o) h h':=by
 have hx:∀b,H b=none->b≠x:=λb n z=>by subst z;rw [n] at mu;exact mu
 have hb:∀b,H b=none->b≠e:=λb n z=>by
  subst z
  rcases he with r|r
  ·exact hx b n r
  ·rw [n] at r;cases r
 have hm:∀b u,H b=some u->¬ qj (some u)->b≠x:=λb u q nm z=>by subst z;rw [q] at mu;exact nm mu
 refine⟨λb u q n _ _=>k b u (hb b n) q,λb u q n _ _=>⟨u.slots,k b u (hb b n) q⟩,λb u q n _=>by rw [aK (hx b n)];exact n,λb u q _=>?_,
  λb xs q=>by rw [aK (hm b _ q λz=>z)];exact q,λb u xs q=>by rw [aK (hm b _ q λz=>z)];exact q,λb ps q=>⟨#[],by rw [aK (hm b _ q λz=>z),q];simp⟩⟩
 by_cases hbe:b=e
 ·subst hbe;exact heo
 ·exact⟨u,k b u hbe q⟩
end
abbrev yJ(h:Heap)(H:Hp):List Addr:=(List.range h.objs.size).filter λa=>(H a).isSome
abbrev eZ(h:Heap)(H:Hp):Heap:=W.hideAll h (yJ h H)
def zU(h:Heap)(H:Hp):(eZ h H).objs.size=h.objs.size:=W.hideAll_size _ _
def zV{h:Heap}{H:Hp}{b:Addr}{o:Obj}(e:h.get? b=some o)(n:H b=none):(eZ h H).get? b=some o :=
 W.hideAll_get _ e λhm=>by
  have q:(H b).isSome=true:=(List.mem_filter.mp hm).2
  rw [n] at q;simp at q
def zW{h:Heap}{H:Hp}{b:Addr}{o:Obj}(e:(eZ h H).get? b=some o):h.get? b=some o/\H b=none:=by
 have e':h.get? b=some o:=W.of_hideAll (yJ h H) e
 refine⟨e',?_⟩
 cases q:H b with
 | none=>rfl
 | some x =>
  have hm:b∈yJ h H:=List.mem_filter.mpr ⟨List.mem_range.mpr (z19 e'),by simp [q]⟩
  have z:(eZ h H).get? b=none:=W.hideAll_none (yJ h H) hm
  rw [z] at e;cases e
abbrev y68(g h:Heap)(L:Addr):List (Addr×Obj):=(List.range h.objs.size).filterMap λa=>if a=L∨(g.get? a).isSome=true then none else (h.get? a).map λo=>(a,o)
abbrev aU(g h:Heap)(L d:Addr):List (Addr×Obj):=(y68 g h L).filter λp=>decide (p.1≠d)
end
section
structure Mod(K:W.Frag)(mg:Str->Option Value)(base:Heap):Prop where
 kin:K.In base
 glob:base.Ns mainGlobals mg
 blt:∃mb,base.Ns builtinsNs mb/\∀x:Str,x≠"__name__"->mb x=bootBuiltins x
 nolimit:base.NoLimit
structure Cx where
 prog:Program
 w:World
 K:W.Frag
 mg:Str->Option Value
 base:Heap
 A:Around
 N:List Str
 s₀:Shared
 H₀:Hp
 env:Env
 outer:List Env
 stack:List Env
 ex:List Addr
 fn:Str->Bool
 calm:Bool
 pn:List (Addr×Obj)
 xe:Value->Shared->Prop
abbrev fP(l:List Env):List Addr:=l.filterMap (·.frame)
noncomputable abbrev Cx.fs(X:Cx):List Addr:=fP X.outer
abbrev yK(sc:Scope)(x:Str):Prop:=sc.names.lookup x=some .local∨sc.names.lookup x=some .cell∨sc.names.lookup x=some .free
abbrev nj(sc:Scope)(x:Str):Prop:=sc.names.lookup x=some .local∨sc.names.lookup x=some .cell
abbrev zX(env:Env)(h:Heap)(m:Str->Option Value)(x:Str)(u:Value):Prop :=
 (env.kindOf x=some .local/\m x=some u)∨((env.kindOf x=some .cell∨env.kindOf x=some .free)/\∃c,env.cells.lookup x=some c/\h.IsCell c (some u))
structure Cx.Ok(X:Cx):Prop where
 mod:Mod X.K X.mg X.base
 kind:X.env.scope.kind=.function
 glob:X.env.globals=mainGlobals
 blt:X.env.builtins=builtinsNs
 above:X.s₀.heap.objs.size≤X.env.locals
 inj:∀x y c,X.env.cells.lookup x=some c->X.env.cells.lookup y=some c->x=y
 has:∀x,(X.env.kindOf x=some .cell∨X.env.kindOf x=some .free)->∃c,X.env.cells.lookup x=some c
 cab:∀x c,X.fn x=true->X.env.cells.lookup x=some c->X.s₀.heap.objs.size≤c
 hd:X.calm=true->X.A.handled=none
 frames:X.A.frames=some X.stack
 stk:X.stack=X.outer∨(X.stack=X.env::X.outer/\X.env.frame=some X.env.locals)
 exf:∀b∈X.ex,b≠X.env.locals/\∀x c,X.env.cells.lookup x=some c->c≠b
 bs:∀b o,X.base.get? b=some o->X.s₀.heap.get? b=some o/\X.H₀ b=none
 bsz:X.base.objs.size≤X.s₀.heap.objs.size
 y238:∀b o,X.base.get? b=some o->b∉X.ex
 y131:∀b∈X.ex,b∉X.fs
 y152:X.s₀.heap.FunFrames X.base X.outer
 frf:∀b∈X.fs,X.H₀ b=none
structure Inv(X:Cx)(pins:List (Addr×Obj))(σ:List (Option V))(H:Hp)(s:Shared):Prop where
 ok:X.Ok
 os:s.os=X.s₀.os
 bare:AllBare s.gens
 base:Un X.fs X.ex X.H₀ H X.s₀.heap s.heap
 loc:∃m,s.heap.Ns X.env.locals m/\∀(i:Nat) (x:Str) (v:V),X.N[i]?=some x->σ[i]?=some (some v)->yK X.env.scope x->∃u,aA v u/\zX X.env s.heap m x u
 cell:∀x c,X.env.cells.lookup x=some c->∃v,s.heap.IsCell c v
 free:H X.env.locals=none
 y14e:∀x c,X.env.cells.lookup x=some c->H c=none
 pin:∀p∈X.pn++pins,s.heap.get? p.1=some p.2/\H p.1=none/\p.1≠X.env.locals/\p.1∉X.fs/\∀v,p.2.data≠.cell v
 hok:cO X.prog X.w H s.heap
 len:σ.length=X.N.length
section
variable {X:Cx}{pins:List (Addr×Obj)}{σ:List (Option V)}{H H':Hp}{s:Shared}{h':Heap}
def Cx.Ok.nofr(ok:X.Ok){b:Addr}{o:Obj}(e:X.base.get? b=some o):b∉X.fs:=λhb=>by
 have:=(ok.y152.mem hb).1
 rw [e] at this;cases this
theorem Inv.bs(I:Inv X pins σ H s):∀b o,X.base.get? b=some o->s.heap.get? b=some o/\H b=none:=λb o e =>
 ⟨I.base.keep b o (I.ok.bs b o e).1 (I.ok.bs b o e).2 (I.ok.nofr e) (I.ok.y238 b o e),I.base.free b o (I.ok.bs b o e).1 (I.ok.bs b o e).2 (I.ok.y238 b o e)⟩
def Inv.bk(I:Inv X pins σ H s):∀b o,X.base.get? b=some o->s.heap.get? b=some o:=λb o e=>(I.bs b o e).1
theorem Inv.mod(I:Inv X pins σ H s):Mod X.K X.mg X.base:=I.ok.mod
def Inv.kIn(I:Inv X pins σ H s):X.K.In s.heap:=I.ok.mod.kin.keeps I.bk
def Inv.fr(I:Inv X pins σ H s):∃m,Fr X.base X.env.locals s.heap m :=
 let ⟨m,hn,_⟩:=I.loc
 ⟨m,hn,I.bk,z1b I.ok.bsz I.ok.above⟩
theorem Inv.lt(I:Inv X pins σ H s):X.env.locals<s.heap.objs.size:=let ⟨_,hn,_⟩:=I.loc;hn.lt
def Inv.sz(I:Inv X pins σ H s):X.s₀.heap.objs.size≤s.heap.objs.size:=z1b I.ok.above (Nat.le_of_lt I.lt)
def Inv.nofs(I:Inv X pins σ H s){a:Addr}(h:s.heap.objs.size≤a):a∉X.fs:=λhb=>by
 obtain⟨_,o,ho,_⟩:=I.ok.y152.mem hb
 exact absurd (z1c (z19 ho) (z1b I.sz h)) (z31 _)
def Inv.cne(I:Inv X pins σ H s):∀x c,X.env.cells.lookup x=some c->c≠X.env.locals:=λx c e z=>by
 obtain⟨v,o,ho,hd⟩:=I.cell x c e
 obtain⟨m,⟨o',es,ep,ho',hd',_⟩,_⟩:=I.loc
 rw [z,ho'] at ho;cases ho;rw [hd'] at hd;cases hd
theorem Inv.y152(I:Inv X pins σ H s):s.heap.FunFrames X.base X.outer:=by
 have all:∀(l:List Env),(∀b∈fP l,b∈X.fs)->X.s₀.heap.FunFrames X.base l->s.heap.FunFrames X.base l:=by
  intro l
  induction l with
  | nil=>intro _ _;trivial
  | cons env r ih =>
   intro hs hl
   obtain⟨hk,⟨L,o,hf,hn,ho,hd⟩,hr⟩:=hl
   have hL:L∈X.fs:=hs L (by unfold fP;rw [List.filterMap_cons,hf];exact List.mem_cons_self)
   obtain⟨sl,e⟩:=I.base.slot L o ho (I.ok.frf L hL) hL λz=>I.ok.y131 L z hL
   exact⟨hk,⟨L,_,hf,hn,e,hd⟩,ih (λb hb=>hs b (by unfold fP;rw [List.filterMap_cons,hf];exact z23 _ hb)) hr⟩
 exact all X.outer (λ_ hb=>hb) I.ok.y152
theorem Inv.stack(I:Inv X pins σ H s):s.heap.FunFrames X.base X.stack:=by
 rcases I.ok.stk with e|⟨e,hf⟩
 ·rw [e];exact I.y152
 ·rw [e]
  obtain⟨m,hn,_⟩:=I.loc
  refine .cons (by rw [I.ok.kind];decide) hf hn ?_ I.y152
  exact Heap.get?_none_of_le (z1b I.ok.bsz I.ok.above)
def Inv.y3db(I:Inv X pins σ H s):∀b∈fP X.stack,b∈X.env.locals::X.fs:=λb hb=>by
 rcases I.ok.stk with e|⟨e,hf⟩
 ·rw [e] at hb;exact z23 _ hb
 ·rw [e] at hb
  unfold fP at hb
  rw [List.filterMap_cons,hf] at hb
  exact hb
def Inv.y3da(I:Inv X pins σ H s):∀b∈fP X.stack,H b=none:=λb hb=>by
 rcases z1e.mp (I.y3db b hb) with e|hb
 ·rw [e];exact I.free
 ·obtain⟨_,o,ho,_⟩:=I.ok.y152.mem hb
  exact I.base.free b o ho (I.ok.frf b hb) λz=>I.ok.y131 b z hb
def Inv.step{g':Array GenState}{t':Nat}{d':Drawn}{ch:List Addr}(I:Inv X pins σ H s)
  (hch:∀b∈ch,(b∈X.ex∨X.s₀.heap.objs.size≤b)/\b≠X.env.locals/\(∀x c,X.env.cells.lookup x=some c->c≠b)/\∀p∈X.pn++pins,p.1≠b)
  (keep:∀b o,b≠X.env.locals->b∉X.fs->b∉ch->s.heap.get? b=some o->H b=none->h'.get? b=some o)
  (slot:∀b o,b≠X.env.locals->b∈X.fs->b∉ch->s.heap.get? b=some o->H b=none->∃sl,h'.get? b=some { o with slots:=sl }) (free:∀b o,b∉ch->s.heap.get? b=some o->H b=none->H' b=none)
  (there:∀b o,b∉ch->s.heap.get? b=some o->∃o',h'.get? b=some o')
  (y42a:∀b xs,H b=some (.tup xs)->H' b=some (.tup xs)) (y150:∀b o u,H b=some (.frz o u)->H' b=some (.frz o u)) (y410:∀b ps,H b=some (.tbl ps)->∃more,H' b=some (.tbl (ps++more)))
  (ns:∀m,s.heap.Ns X.env.locals m->h'.Ns X.env.locals m) (hok:cO X.prog X.w H' h') (hg:AllBare g') :
  Inv X pins σ H' { s with heap:=h',gens:=g',drawn:=d',toks:=t' }:=by
 have neL:∀b o,X.s₀.heap.get? b=some o->b≠X.env.locals:=λb o e=>z27 (z1c (z19 e) I.ok.above)
 have neC:∀b o,X.s₀.heap.get? b=some o->b∉X.ex->b∉ch:=λb o e hx hb=>by
  rcases (hch b hb).1 with z|z
  ·exact hx z
  ·exact absurd (z1c (z19 e) z) (z31 _)
 have cellK:∀x c,X.env.cells.lookup x=some c->∀v,s.heap.IsCell c v->h'.IsCell c v:=λx c e v zz=>by
  obtain⟨o,ho,hd⟩:=zz
  have nch:c∉ch:=λz=>(hch c z).2.2.1 x c e rfl
  by_cases hc:c∈X.fs
  ·obtain⟨sl,q⟩:=slot c o (I.cne x c e) hc nch ho (I.y14e x c e)
   exact⟨_,q,hd⟩
  ·exact⟨o,keep c o (I.cne x c e) hc nch ho (I.y14e x c e),hd⟩
 refine⟨I.ok,I.os,hg,⟨λb o e n hb hx=>?_,λb o e n hb hx=>?_,λb o e n hx=>?_,λb o e hx=>?_,λb xs e=>y42a b xs (I.base.y42a b xs e),λb o xs e=>y150 b o xs (I.base.y150 b o xs e),λb ps e=>?_⟩,?_,λx c e=>?_,?_,λx c e=>?_,λp hp=>?_,hok,I.len⟩
 ·exact keep b o (neL b o e) hb (neC b o e hx) (I.base.keep b o e n hb hx) (I.base.free b o e n hx)
 ·obtain⟨sl,e1⟩:=I.base.slot b o e n hb hx
  obtain⟨sl',e2⟩:=slot b _ (neL b o e) hb (neC b o e hx) e1 (I.base.free b o e n hx)
  exact⟨sl',e2⟩
 ·obtain⟨o',e1⟩:=I.base.there b o e hx
  exact free b o' (neC b o e hx) e1 (I.base.free b o e n hx)
 ·obtain⟨o',e1⟩:=I.base.there b o e hx
  exact there b o' (neC b o e hx) e1
 ·obtain⟨m1,e1⟩:=I.base.y410 b ps e
  obtain⟨m2,e2⟩:=y410 b _ e1
  exact⟨m1++m2,by rw [e2,Array.append_assoc]⟩
 ·obtain⟨m,hn,hl⟩:=I.loc
  refine⟨m,ns m hn,λi x v e1 e2 e3=>?_⟩
  obtain⟨u,r,l⟩:=hl i x v e1 e2 e3
  refine⟨u,r,?_⟩
  rcases l with l|⟨k,c,e,z⟩
  ·exact .inl l
  ·exact .inr ⟨k,c,e,cellK x c e _ z⟩
 ·obtain⟨v,z⟩:=I.cell x c e
  exact⟨v,cellK x c e v z⟩
 ·obtain⟨m,⟨o,_,_,ho,_⟩,_⟩:=I.loc
  exact free _ o (λz=>(hch _ z).2.1 rfl) ho I.free
 ·obtain⟨v,o,ho,hd⟩:=I.cell x c e
  exact free c o (λz=>(hch c z).2.2.1 x c e rfl) ho (I.y14e x c e)
 ·obtain⟨e,n,ne,nf,d⟩:=I.pin p hp
  have nch:p.1∉ch:=λz=>(hch p.1 z).2.2.2 p hp rfl
  exact⟨keep p.1 p.2 ne nf nch e n,free p.1 p.2 nch e n,ne,nf,d⟩
def Inv.un{t':Nat}(I:Inv X pins σ H s)(u:Un X.fs [] H H' s.heap h')(hok:cO X.prog X.w H' h'):Inv X pins σ H' { s with heap:=h',toks:=t' }:=by
 obtain⟨m,⟨o,es,ep,ho,r⟩,_⟩:=id I.loc
 obtain⟨sl,hL⟩:=u.any ho I.free (by simp)
 exact I.step (g':=s.gens) (d':=s.drawn) (ch:=[]) (λ_ z=>nomatch z) (λb o _ hb _ e n=>u.keep b o e n hb (by simp)) (λb o _ hb _ e n=>u.slot b o e n hb (by simp)) (λb o _ e n=>u.free b o e n (by simp)) (λb o _ e=>u.there b o e (by simp)) u.y42a u.y150 u.y410 (λm' hm=>by
  obtain⟨o',es',ep',ho',r'⟩:=hm
  rw [ho] at ho';cases ho'
  exact⟨_,es',ep',hL,r'⟩) hok I.bare
def Inv.call{g':Array GenState}{t':Nat}{d':Drawn}{ch:List Addr}(I:Inv X pins σ H s)(u:Un (fP X.stack) ch H H' s.heap h')(hok:cO X.prog X.w H' h')(hg:AllBare g')
  (hch:∀b∈ch,(b∈X.ex∨X.s₀.heap.objs.size≤b)/\b≠X.env.locals/\(∀x c,X.env.cells.lookup x=some c->c≠b)/\∀p∈X.pn++pins,p.1≠b) :
  Inv X pins σ H' { s with heap:=h',gens:=g',drawn:=d',toks:=t' }:=by
 obtain⟨m,⟨o,es,ep,ho,r⟩,_⟩:=id I.loc
 obtain⟨sl,hL⟩:=u.any ho I.free λz=>(hch _ z).2.1 rfl
 exact I.step (ch:=ch) hch (λb o hL hb hc e n=>u.keep b o e n (λz=>(z1e.mp (I.y3db b z)).elim hL hb) hc) (λb o _ _ hc e n=>u.any e n hc) (λb o hc e n=>u.free b o e n hc) (λb o hc e=>u.there b o e hc) u.y42a u.y150 u.y410 (λm' hm=>by
  obtain⟨o',es',ep',ho',r'⟩:=hm
  rw [ho] at ho';cases ho'
  exact⟨_,es',ep',hL,r'⟩) hok hg
def Inv.turned{t':Nat}{it:Addr}(I:Inv X pins σ H s)(k:∀b o,b≠it->s.heap.get? b=some o->h'.get? b=some o)(hn:H it=none)(hL:it≠X.env.locals)
  (h1:it∈X.ex∨X.s₀.heap.objs.size≤it) (h2:∀x c,X.env.cells.lookup x=some c->c≠it) (h3:∀p∈X.pn++pins,p.1≠it):Inv X pins σ H { s with heap:=h',toks:=t' }:=by
 have nit:∀b u,H b=some u->b≠it:=λb u e z=>by rw [z,hn] at e;cases e
 refine I.step (g':=s.gens) (d':=s.drawn) (ch:=[it]) (λb hb=>?_) (λb o _ _ hc e _=>k b o (λz=>hc (by simp [z])) e) (λb o _ _ hc e _=>⟨o.slots,k b o (λz=>hc (by simp [z])) e⟩) (λ_ _ _ _ n=>n)
  (λb o hc e=>⟨o,k b o (λz=>hc (by simp [z])) e⟩) (λ_ _ e=>e) (λ_ _ _ e=>e) (λb ps e=>⟨#[],by rw [e];simp⟩) (λm hm=>?_) (λb u e=>?_) I.bare
 ·have e:b=it:=by simpa using hb
  subst e
  exact⟨h1,hL,h2,h3⟩
 ·obtain⟨o,es,ep,ho,r⟩:=hm
  exact⟨o,es,ep,k _ o (Ne.symm hL) ho,r⟩
 ·refine (I.hok b u e).y3d9 (λc v hc q=>k c v ?_ q) (λ_ q=>q) λ_ _ q=>q
  rcases hc with z|z
  ·rw [z];exact nit b u e
  ·exact nit c _ z
def Inv.tok(I:Inv X pins σ H s)(t:Nat):Inv X pins σ H { s with toks:=t }:=I.un (h':=s.heap) (t':=t) Un.refl I.hok
theorem Inv.kept{t':Nat}(I:Inv X pins σ H s)(k:∀b u,s.heap.get? b=some u->h'.get? b=some u):Inv X pins σ H { s with heap:=h',toks:=t' }:=I.un (Un.kept k) (I.hok.kept k)
theorem Inv.laid{a:Addr}{o:HO}{t':Nat}(I:Inv X pins σ H s)(k:∀b u,s.heap.get? b=some u->h'.get? b=some u)(hp:s.heap.objs.size≤a)(new:dQ X.prog X.w (upd H a o) h' a o) :
  Inv X pins σ (upd H a o) { s with heap:=h',toks:=t' }:=I.un (Un.laid k hp (I.hok.fresh hp)) (I.hok.laid k hp new)
theorem Inv.write{x e:Addr}{o:HO}{t':Nat}(I:Inv X pins σ H s)(mu:qj (H x))(he:e=x∨H e=some (.own x))(k:∀b u,b≠e->s.heap.get? b=some u->h'.get? b=some u)(heo:∃u,h'.get? e=some u)
  (new:dQ X.prog X.w (upd H x o) h' x o):Inv X pins σ (upd H x o) { s with heap:=h',toks:=t' }:=I.un (Un.write mu he k heo) (I.hok.write mu he k heo new)
def Inv.weak{σ':List (Option V)}(I:Inv X pins σ H s)(hl:σ'.length=σ.length)(w:∀(i:Nat) v,σ'[i]?=some (some v)->σ[i]?=some (some v)):Inv X pins σ' H s :=
 ⟨I.ok,I.os,I.bare,I.base,let ⟨m,hn,hl'⟩:=I.loc;⟨m,hn,λi x v e1 e2 e3=>hl' i x v e1 (w i v e2) e3⟩,I.cell,I.free,I.y14e,I.pin,I.hok,hl.trans I.len⟩
def Inv.y2db{y2d9:List (Addr×Obj)}(I:Inv X pins σ H s)(h:∀p∈y2d9,s.heap.get? p.1=some p.2/\H p.1=none/\p.1≠X.env.locals/\p.1∉X.fs/\∀v,p.2.data≠.cell v):Inv X y2d9 σ H s :=
 ⟨I.ok,I.os,I.bare,I.base,I.loc,I.cell,I.free,I.y14e,λp hp=>(z13.mp hp).elim (λz=>I.pin p (List.mem_append_left _ z)) (h p),I.hok,I.len⟩
def nk{N:List Str}(hN:N.Nodup){i j:Nat}{x:Str}(a:N[i]?=some x)(b:N[j]?=some x):i=j:=by
 obtain⟨h1,e1⟩:=z14.mp a
 obtain⟨h2,e2⟩:=z14.mp b
 exact (List.getElem_inj hN).mp (e1.trans e2.symm)
def qk{M:Model}{A:Around}{E:Value->Shared->Prop}{i:Nat}{x:Str}{v:V}{u:Value}{Q:Unit->Shared->Prop}(I:Inv X pins σ H s)(hN:X.N.Nodup)(hi:X.N[i]?=some x)(hx:nj X.env.scope x)(r:aA v u)
  (h:∀s',Inv X pins (σ.set i (some v)) H s'->(∃a,Heap.SameBut a s.heap s'.heap/\(a=X.env.locals∨X.env.cells.lookup x=some a))->Q () s') (hf:X.fn x=true∨X.env.scope.names.lookup x=some .local:=by first|exact .inl rfl|exact .inr rfl|assumption):wpAny M A (storeName X.env x u) Q E s:=by
 obtain⟨m,hn,hl⟩:=id I.loc
 have y189:(X.env.scope.kind == .class||(X.env.scope.kind == .module&&X.env.locals != X.env.globals))=false:=by rw [I.ok.kind];rfl
 have hiσ:i<σ.length:=by rw [I.len];exact (z14.mp hi).1
 have cne:=I.cne
 have tracked:∀{a:Addr} {h':Heap},(∃o,s.heap.get? a=some o/\H a=none)->Heap.SameBut a s.heap h'->cO X.prog X.w H h':=λ{a h'} ha hs b ob e=>by
  obtain⟨_,_,y18e⟩:=ha
  refine (I.hok b ob e).y3d9 (λc w' hc q=>(hs.2 c ?_).trans q) (λ_ q=>q) λ_ _ q=>q
  rintro rfl
  rcases hc with rfl|hc
  ·rw [y18e] at e;cases e
  ·rw [y18e] at hc;cases hc
 rcases hx with hk|hk
 ·refine wpAny_storeName_local hk hn (λh' hn' hs=>?_) y189
  obtain⟨oL,_,_,hoL,_⟩:=id hn
  refine h _ ⟨I.ok,I.os,I.bare,⟨λb o e n hb hx=>?_,λb o e n hb hx=>?_,I.base.free,λb o e hx=>?_,I.base.y42a,I.base.y150,I.base.y410⟩,⟨_,hn',λj y v' e1 e2 e3=>?_⟩,λy c e=>?_,I.free,I.y14e,λp hp=>?_,tracked ⟨oL,hoL,I.free⟩ hs,by simpa using I.len⟩ ⟨_,hs,.inl rfl⟩
  ·exact (hs.2 b (z27 (z1c (z19 e) I.ok.above))).trans (I.base.keep b o e n hb hx)
  ·obtain⟨sl,e1⟩:=I.base.slot b o e n hb hx
   exact⟨sl,(hs.2 b (z27 (z1c (z19 e) I.ok.above))).trans e1⟩
  ·obtain⟨o',e1⟩:=I.base.there b o e hx
   exact⟨o',(hs.2 b (z27 (z1c (z19 e) I.ok.above))).trans e1⟩
  ·by_cases hj:j=i
   ·subst hj
    rw [hi] at e1;cases e1
    rw [List.getElem?_set_self hiσ] at e2
    cases e2
    exact⟨u,r,.inl ⟨hk,by simp⟩⟩
   ·rw [z26 (Ne.symm hj)] at e2
    obtain⟨u',r',q⟩:=hl j y v' e1 e2 e3
    refine⟨u',r',?_⟩
    rcases q with⟨k,e⟩| ⟨k,c,e,z⟩
    ·refine .inl ⟨k,?_⟩
     have:y≠x:=λe=>hj (nk hN e1 (e ▸ hi))
     simp [this,e]
    ·exact .inr ⟨k,c,e,z.sameBut hs (cne y c e)⟩
  ·obtain⟨w',z⟩:=I.cell y c e
   exact⟨w',z.sameBut hs (cne y c e)⟩
  ·obtain⟨e,n,ne,nf,d⟩:=I.pin p hp
   exact⟨(hs.2 p.1 ne).trans e,n,ne,nf,d⟩
 ·have hfn:X.fn x=true:=by
   rcases hf with z|z
   ·exact z
   ·rw [z] at hk;cases hk
  obtain⟨c,hc⟩:=I.ok.has x (.inl hk)
  obtain⟨w',z⟩:=I.cell x c hc
  refine wpAny_storeName_cell I.ok.kind hk hc z (λh' hc' hs=>?_)
  obtain⟨oc,hoc,hocd⟩:=id z
  refine h { s with heap:=h' } ⟨I.ok,I.os,I.bare,⟨λb o e n hb hx=>?_,λb o e n hb hx=>?_,I.base.free,λb o e hx=>?_,I.base.y42a,I.base.y150,I.base.y410⟩,⟨m,hn.sameBut hs (Ne.symm (cne x c hc)),λj y v' e1 e2 e3=>?_⟩,λy c' e=>?_,I.free,I.y14e,λp hp=>?_,tracked ⟨oc,hoc,I.y14e x c hc⟩ hs,by simpa using I.len⟩ ⟨c,hs,.inr hc⟩
  ·exact (hs.2 b (z27 (z1c (z19 e) (I.ok.cab x c hfn hc)))).trans (I.base.keep b o e n hb hx)
  ·obtain⟨sl,e1⟩:=I.base.slot b o e n hb hx
   exact⟨sl,(hs.2 b (z27 (z1c (z19 e) (I.ok.cab x c hfn hc)))).trans e1⟩
  ·obtain⟨o',e1⟩:=I.base.there b o e hx
   exact⟨o',(hs.2 b (z27 (z1c (z19 e) (I.ok.cab x c hfn hc)))).trans e1⟩
  ·by_cases hj:j=i
   ·subst hj
    rw [hi] at e1;cases e1
    rw [List.getElem?_set_self hiσ] at e2
    cases e2
    exact⟨u,r,.inr ⟨.inl hk,c,hc,hc'⟩⟩
   ·rw [z26 (Ne.symm hj)] at e2
    obtain⟨u',r',q⟩:=hl j y v' e1 e2 e3
    refine⟨u',r',?_⟩
    rcases q with q|⟨k,c',e,z'⟩
    ·exact .inl q
    ·refine .inr ⟨k,c',e,z'.sameBut hs ?_⟩
     rintro rfl
     exact hj (nk hN e1 (I.ok.inj _ _ _ e hc ▸ hi))
  ·by_cases hcc:c'=c
   ·subst hcc;exact⟨_,hc'⟩
   ·obtain⟨w2,z2⟩:=I.cell y c' e
    exact⟨w2,z2.sameBut hs hcc⟩
  ·obtain⟨e,n,ne,nf,d⟩:=I.pin p hp
   refine⟨(hs.2 p.1 ?_).trans e,n,ne,nf,d⟩
   intro q
   rw [q,hoc] at e
   have q':oc=p.2:=z1f e
   exact d w' (by rw [<- q'];exact hocd)
def nq{M:Model}{A:Around}{E:Value->Shared->Prop}{i:Nat}{x:Str}{v:V}{u:Value}{Q:Unit->Shared->Prop}(I:Inv X pins σ H s)(hN:X.N.Nodup)(hi:X.N[i]?=some x)(hx:nj X.env.scope x)(r:aA v u)
  (h:∀s',Inv X pins (σ.set i (some v)) H s'->Q () s') (hf:X.fn x=true∨X.env.scope.names.lookup x=some .local:=by first|exact .inl rfl|exact .inr rfl|assumption):wpAny M A (storeName X.env x u) Q E s :=
 qk I hN hi hx r (λs' I' _=>h s' I') hf
def Inv.y9e{s':Shared}{ch:List Addr}(I:Inv X pins σ H s)(ho:s'.os=s.os)(u:Un (fP X.stack) ch H H' s.heap s'.heap)(hok:cO X.prog X.w H' s'.heap)(hg:AllBare s'.gens)
  (hch:∀b∈ch,(b∈X.ex∨X.s₀.heap.objs.size≤b)/\b≠X.env.locals/\(∀x c,X.env.cells.lookup x=some c->c≠b)/\∀p∈X.pn++pins,p.1≠b):Inv X pins σ H' s':=by
 obtain⟨h',g',d',t',o'⟩:=s'
 have e:o'=s.os:=ho
 subst e
 exact I.call (g':=g') (t':=t') (d':=d') u hok hg hch
end
noncomputable abbrev XK:=Value->Option Addr->Hp->Prop
noncomputable abbrev St:=List (Option V)
noncomputable abbrev VK:=V->Hp->Prop
noncomputable abbrev TE:=St->Hp->VK->Prop
noncomputable abbrev TT:=St->Hp->(Bool->Hp->Prop)->Prop
noncomputable abbrev TA:=St->Hp->(List V->Hp->Prop)->Prop
structure Ends where
 nx:St->Hp->Prop
 rt:VK
 bk:St->Hp->Prop:=λ_ _=>False
 ct:St->Hp->Prop:=λ_ _=>False
noncomputable abbrev TS:=Ends->St->Hp->Prop
abbrev EP(X:Cx)(pins:List (Addr×Obj))(σ:St)(Q:VK)(u:Value)(s':Shared):Prop:=∃v H',Inv X pins σ H' s'/\aA v u/\Q v H'
abbrev TP(X:Cx)(pins:List (Addr×Obj))(σ:St)(Q:Bool->Hp->Prop)(b:Bool)(s':Shared):Prop:=∃H',Inv X pins σ H' s'/\Q b H'
abbrev AP(X:Cx)(pins:List (Addr×Obj))(σ:St)(Q:List V->Hp->Prop)(us:List Value)(s':Shared):Prop:=∃vs H',Inv X pins σ H' s'/\au vs us/\Q vs H'
abbrev SP(X:Cx)(pins:List (Addr×Obj))(D:Ends)(f:Flow)(s':Shared):Prop :=
 match f with
 | .next=>∃σ' H',Inv X pins σ' H' s'/\D.nx σ' H'
 | .brk=>∃σ' H',Inv X pins σ' H' s'/\D.bk σ' H'
 | .cont=>∃σ' H',Inv X pins σ' H' s'/\D.ct σ' H'
 | .ret u=>∃v σ' H',Inv X pins σ' H' s'/\aA v u/\D.rt v H'
abbrev PE(X:Cx)(e:Expr)(t:TE):Prop :=
 ∀(pins:List (Addr×Obj)) (s:Shared) (σ:St) (H:Hp) (Q:VK),Inv X pins σ H s->t σ H Q->wpAny (model X.prog X.w) X.A (eval e X.env) (EP X pins σ Q) X.xe s
abbrev PT(X:Cx)(e:Expr)(t:TT):Prop :=
 ∀(pins:List (Addr×Obj)) (s:Shared) (σ:St) (H:Hp) (Q:Bool->Hp->Prop),Inv X pins σ H s->t σ H Q->wpAny (model X.prog X.w) X.A (isTrue e X.env (eval e X.env)) (TP X pins σ Q) X.xe s
abbrev PW(X:Cx)(e:Expr)(t:TT):Prop :=
 ∀(whole:Sem Value) (pins:List (Addr×Obj)) (s:Shared) (σ:St) (H:Hp) (Q:Bool->Hp->Prop),Inv X pins σ H s->t σ H Q->wpAny (model X.prog X.w) X.A (isTrue e X.env whole) (TP X pins σ Q) X.xe s
def PW.pt{X:Cx}{e:Expr}{t:TT}(h:PW X e t):PT X e t:=h _
abbrev PA(X:Cx)(es:List Expr)(t:TA):Prop :=
 ∀(pos:Pos) (pins:List (Addr×Obj)) (s:Shared) (σ:St) (H:Hp) (Q:List V->Hp->Prop),Inv X pins σ H s->t σ H Q->wpAny (model X.prog X.w) X.A (spliced (backTo pos (starEach es X.env))) (AP X pins σ Q) X.xe s
abbrev PS(X:Cx)(st:Stmt)(t:TS):Prop :=
 ∀(pins:List (Addr×Obj)) (s:Shared) (σ:St) (H:Hp) (D:Ends),Inv X pins σ H s->t D σ H->wpAny (model X.prog X.w) X.A (exec st X.env) (SP X pins D) X.xe s
abbrev dR(X:Cx)(st:List Stmt)(t:TS):Prop :=
 ∀(pins:List (Addr×Obj)) (s:Shared) (σ:St) (H:Hp) (D:Ends),Inv X pins σ H s->t D σ H->wpAny (model X.prog X.w) X.A (execs st X.env) (SP X pins D) X.xe s
def aH{α:Type}{t:Sem α}{Q Q':α->Shared->Prop}{M:Model}{A:Around}{E:Value->Shared->Prop}{s:Shared}(h:wpAny M A t Q E s)(hQ:∀a s,Q a s->Q' a s):wpAny M A t Q' E s:=wpAny_mono h hQ λ_ _ x=>x
end
section
section
variable {X:Cx}
def bin{a b:Expr}{ta tb:TE}(ha:PE X a ta)(hb:PE X b tb){pins:List (Addr×Obj)}{s:Shared}{σ:St}{H:Hp}{R:V->V->Hp->Prop}(I:Inv X pins σ H s)(h:ta σ H λx H1=>tb σ H1 λy H2=>R x y H2)
  {α:Type} {Q:α->Shared->Prop} {f:Value->Value->Sem α}
  (hf:∀v u s2 x y H2,Inv X pins σ H2 s2->aA x v->aA y u->R x y H2->wpAny (model X.prog X.w) X.A (f v u) Q X.xe s2) :
  wpAny (model X.prog X.w) X.A (eval a X.env) (λv s₁=>wpAny (model X.prog X.w) X.A (eval b X.env) (λu s₂=>wpAny (model X.prog X.w) X.A (f v u) Q X.xe s₂) X.xe s₁) X.xe s:=by
 refine aH (ha pins s σ H _ I h) λv s1 zz=>?_
 obtain⟨x,H1,I1,r1,q1⟩:=zz
 refine aH (hb pins s1 σ H1 _ I1 q1) λu s2 zz=>?_
 obtain⟨y,H2,I2,r2,q2⟩:=zz
 exact hf v u s2 x y H2 I2 r1 r2 q2
abbrev gF(i:Nat):TE:=λσ H Q=>∃v,σ[i]?=some (some v)/\Q v H
abbrev tC(v:V):TE:=λ_ H Q=>Q v H
def ql{i:Nat}{x:Str}{pos:Pos}(hN:X.N[i]?=some x)(hv:yK X.env.scope x)(hd:(x == ("__debug__" : Str))=false:=by decide)(hcd:(x == ("__classdict__" : Str))=false:=by decide):PE X (.Name x pos) (gF i):=by
 intro pins s σ H Q I h
 obtain⟨v,e,h⟩:=h
 obtain⟨m,hn,hl⟩:=I.loc
 obtain⟨u,r,l⟩:=hl i x v hN e hv
 have fin:EP X pins σ Q u s:=⟨v,H,I,r,h⟩
 rcases l with⟨hk,hm⟩| ⟨hk,c,hc,y188⟩
 ·exact wpAny_Name (wpAny_loadName_local I.ok.kind hk hn hm fin) hd
 ·rcases hk with hk|hk
  ·exact wpAny_Name (wpAny_loadName_cell I.ok.kind hk hc y188 fin) hd
  ·exact wpAny_Name (wpAny_loadName_free I.ok.kind hk hc y188 fin hcd) hd
def nr{i j pos}:PE X (.Constant (.int i) j pos) (tC (.int i)):=λ_ _ _ H _ I h=>wpAny_Constant_int ⟨.int i,H,I.tok _,⟨_,rfl⟩,h⟩
def qm{b j pos}:PE X (.Constant (.bool b) j pos) (tC (.bl b)):=λ_ _ _ H _ I h=>Constant_bool ⟨.bl b,H,I,rfl,h⟩
def qo{j pos}:PE X (.Constant .none j pos) (tC .non):=λ_ _ _ H _ I h=>Constant_none ⟨.non,H,I,rfl,h⟩
def je{x j pos}:PE X (.Constant (.str x) j pos) (tC (.str x)):=λ_ _ _ H _ I h=>Calls.Constant_str ⟨.str x,H,I.tok _,⟨_,rfl⟩,h⟩
abbrev Gl(X:Cx)(x:Str):Prop:=X.env.kindOf x=some .globalImplicit
def jf{E:Value->Shared->Prop}{pins:List (Addr×Obj)}{s:Shared}{σ:St}{H:Hp}{x:Str}{u:Value}{pos:Pos}{Q:Value->Shared->Prop}(I:Inv X pins σ H s)(hg:Gl X x)(hm:X.mg x=some u)(h:Q u s)
  (hd:(x == ("__debug__" : Str))=false:=by decide):wpAny (model X.prog X.w) X.A (eval (.Name x pos) X.env) Q E s :=
 Calls.Name_function_global I.ok.kind hg (Calls.loadGlobal_global (by rw [I.ok.glob];exact I.mod.glob.keeps I.bk) hm h) hd
def iw{E:Value->Shared->Prop}{pins:List (Addr×Obj)}{s:Shared}{σ:St}{H:Hp}{x:Str}{u:Value}{pos:Pos}{Q:Value->Shared->Prop}(I:Inv X pins σ H s)(hg:Gl X x)(hm:X.mg x=none)(hv:bootBuiltins x=some u)(h:Q u s)
  (hn:x≠"__name__":=by decide) (hd:(x == ("__debug__" : Str))=false:=by decide):wpAny (model X.prog X.w) X.A (eval (.Name x pos) X.env) Q E s:=by
 obtain⟨mb,h1,h2⟩:=I.mod.blt
 exact Calls.Name_function_global I.ok.kind hg (Calls.loadGlobal_builtin (by rw [I.ok.glob];exact I.mod.glob.keeps I.bk) hm (by rw [I.ok.blt];exact h1.keeps I.bk) ((h2 x hn).trans hv) h) hd
def kJ{x:Str}{v:V}{u:Value}{pos:Pos}(hg:Gl X x)(hm:X.mg x=some u)(r:aA v u)(hd:(x == ("__debug__" : Str))=false:=by decide):PE X (.Name x pos) (tC v) :=
 λ_ _ _ H _ I h=>jf I hg hm ⟨v,H,I,r,h⟩ hd
def zY{x:Str}{v:V}{u:Value}{pos:Pos}(hg:Gl X x)(hm:X.mg x=none)(hv:bootBuiltins x=some u)(r:aA v u)(hn:x≠"__name__":=by decide)(hd:(x == ("__debug__" : Str))=false:=by decide):PE X (.Name x pos) (tC v) :=
 λ_ _ _ H _ I h=>iw I hg hm hv ⟨v,H,I,r,h⟩ hn hd
variable {a b:Expr}{ta tb:TE}{pos:Pos}
abbrev PC(X:Cx)(op:CmpOp)(a b:Expr)(t:TE):Prop :=
 ∀(pins:List (Addr×Obj)) (s:Shared) (σ:St) (H:Hp) (Q:VK),Inv X pins σ H s->t σ H Q ->
  wpAny (model X.prog X.w) X.A (eval a X.env) (λv s₁=>wpAny (model X.prog X.w) X.A (eval b X.env) (λu s₂=>wpAny (model X.prog X.w) X.A (compareOp op v u) (EP X pins σ Q) X.xe s₂) X.xe s₁) X.xe s
def qp(b:Expr){op:CmpOp}(h:op≠.In)(h2:op≠.NotIn):behindInMarks op b=false:=by
 have e1:(op == CmpOp.In)=false:=by cases op<;>first|rfl|exact absurd rfl h
 have e2:(op == CmpOp.NotIn)=false:=by cases op<;>first|rfl|exact absurd rfl h2
 cases b<;>simp [behindInMarks,e1,e2]
abbrev zZ(ta:TE):TE:=λσ H Q=>ta σ H λx H1=>Q (.bl (decide (x=.non))) H1
abbrev qq(ta:TE):TE:=λσ H Q=>ta σ H λx H1=>Q (.bl (!decide (x=.non))) H1
def aA.y23c{x:V}{v:Value}(r:aA x v):(v == Value.none)=decide (x=.non):=by
 cases x with
 | non=>cases r;rfl
 | bl _=>cases r;rfl
 | int _=>obtain⟨t,rfl⟩:=r;rfl
 | str _=>obtain⟨t,rfl⟩:=r;rfl
 | byt _=>obtain⟨t,rfl⟩:=r;rfl
 | flt _=>obtain⟨t,rfl⟩:=r;rfl
 | ref _=>cases r;rfl
 | ty _=>cases r;rfl
def Aa{j pos'}(ha:PE X a ta):PC X .Is a (.Constant .none j pos') (zZ ta):=by
 intro pins s σ H Q I h
 refine aH (ha pins s σ H _ I h) λv s1 zz=>?_
 obtain⟨x,H1,I1,r1,q1⟩:=zz
 exact Constant_none (is_none_gen ⟨.bl _,H1,I1,by rw [r1.y23c];rfl,q1⟩)
def Ab{j pos'}(ha:PE X a ta):PC X .IsNot a (.Constant .none j pos') (qq ta):=by
 intro pins s σ H Q I h
 refine aH (ha pins s σ H _ I h) λv s1 zz=>?_
 obtain⟨x,H1,I1,r1,q1⟩:=zz
 exact Constant_none (isnot_none_gen ⟨.bl _,H1,I1,by rw [r1.y23c];rfl,q1⟩)
abbrev tB(t:TE):TT:=λσ H Q=>t σ H λx H1=>∃c,x=.bl c/\Q c H1
def Ac{op:CmpOp}{t:TE}(h:PC X op a b t)(h1:behindInMarks op b=false:=by first|exact qp _ (by decide) (by decide)|rfl):PE X (.Compare a [op] [b] pos) t:=λpins s σ H Q I hw=>wpAny_Compare1 (h pins s σ H Q I hw) h1
def kK{op:CmpOp}{t:TE}(h:PC X op a b t)(h1:behindInMarks op b=false:=by first|exact qp _ (by decide) (by decide)|rfl):PT X (.Compare a [op] [b] pos) (tB t):=by
 intro pins s σ H Q I hw
 refine wpAny_isTrue_Compare1 (aH (h pins s σ H _ I hw) λv s1 h1=>aH h1 λu s2 h2=>aH h2 λc s3 ⟨x,H1,I1,r1,q1⟩=>?_) h1
 obtain⟨d,rfl,q⟩:=q1
 cases r1
 exact wpAny_truthy_bool ⟨H1,I1,q⟩
def qr{e:Expr}{t:TE}(h:PE X e t)(he:∀whole,isTrue e X.env whole=(do let v <- whole;standAt e.pos;holding [v] (truthy v)):=by intro _;rfl):PT X e (tB t):=by
 intro pins s σ H Q I hw
 refine isTrue_plain (aH (h pins s σ H _ I hw) λv s1 ⟨x,H1,I1,r1,q1⟩=>?_) (he _)
 obtain⟨d,rfl,q⟩:=q1
 cases r1
 exact wpAny_truthy_bool ⟨H1,I1,q⟩
variable {tA tB':TT}{aU:List Expr}
abbrev nt(t u:TT):TT:=λσ H Q=>t σ H λc H1=>if c=true then u σ H1 Q else Q false H1
abbrev tOr(t u:TT):TT:=λσ H Q=>t σ H λc H1=>if c=true then Q true H1 else u σ H1 Q
abbrev qt(t:TT):TT:=λσ H Q=>t σ H λc H1=>Q (!c) H1
def ia(ha:PT X a tA):PW X (.BoolOp .And [a] pos) tA:=by
 intro wh pins s σ H Q I h
 refine isTrue_and (aH (ha pins s σ H Q I h) λc s1 e=>?_)
 cases c with
 | true=>exact isTrue_and_nil e
 | false=>exact e
def nv(ha:PT X a tA):PW X (.BoolOp .Or [a] pos) tA:=by
 intro wh pins s σ H Q I h
 refine isTrue_or (aH (ha pins s σ H Q I h) λc s1 e=>?_)
 cases c with
 | false=>exact isTrue_or_nil e
 | true=>exact e
def jg(ha:PT X a tA)(hb:PW X (.BoolOp .And (b::aU) pos) tB'):PW X (.BoolOp .And (a::b::aU) pos) (nt tA tB'):=by
 intro wh pins s σ H Q I h
 refine isTrue_and (aH (ha pins s σ H _ I h) λc s1 zz=>?_)
 obtain⟨H1,I1,q1⟩:=zz
 cases c with
 | true=>exact hb wh pins s1 σ H1 Q I1 q1
 | false=>exact⟨H1,I1,q1⟩
def qu(ha:PT X a tA)(hb:PW X (.BoolOp .Or (b::aU) pos) tB'):PW X (.BoolOp .Or (a::b::aU) pos) (tOr tA tB'):=by
 intro wh pins s σ H Q I h
 refine isTrue_or (aH (ha pins s σ H _ I h) λc s1 zz=>?_)
 obtain⟨H1,I1,q1⟩:=zz
 cases c with
 | true=>exact⟨H1,I1,q1⟩
 | false=>exact hb wh pins s1 σ H1 Q I1 q1
def Ad(ha:PT X a tA):PT X (.UnaryOp .Not a pos) (qt tA):=by
 intro pins s σ H Q I h
 exact isTrue_not (ha pins s σ H (λc H1=>Q (!c) H1) I h)
abbrev qv(ta tb:TE):TE:=λσ H Q=>ta σ H λx H1=>∃c,x=.bl c/\if c=true then Q (.bl true) H1 else tb σ H1 Q
abbrev qw(ta:TE):TE:=λσ H Q=>ta σ H λx H1=>∃c,x=.bl c/\Q (.bl (!c)) H1
def Ae{op}{t:TE}(h:PE X a t):PE X (.BoolOp op [a] pos) t:=λpins s σ H Q I hw=>BoolOp_one (h pins s σ H Q I hw)
def jh(ha:PE X a ta)(hb:PE X (.BoolOp .Or (b::aU) pos) tb):PE X (.BoolOp .Or (a::b::aU) pos) (qv ta tb):=by
 intro pins s σ H Q I h
 refine BoolOp_or (aH (ha pins s σ H _ I h) λv s1 zz=>?_)
 obtain⟨x,H1,I1,r1,q1⟩:=zz
 obtain⟨c,rfl,q1⟩:=q1
 cases r1
 refine wpAny_truthy_bool ?_
 cases c with
 | false=>exact hb pins s1 σ H1 Q I1 q1
 | true=>exact⟨.bl true,H1,I1,rfl,q1⟩
def Af(ha:PE X a ta):PE X (.UnaryOp .Not a pos) (qw ta):=by
 intro pins s σ H Q I h
 refine UnaryOp_ (aH (ha pins s σ H _ I h) λv s1 zz=>?_)
 obtain⟨x,H1,I1,r1,q1⟩:=zz
 obtain⟨c,rfl,q1⟩:=q1
 cases r1
 exact not_of (wpAny_truthy_bool ⟨.bl (!c),H1,I1,rfl,q1⟩)
end
end
section
abbrev bL(K:W.Frag)(H:Hp)(a:Addr)(xs:List V):Prop :=
 Rd H a (.lst xs) ∨
  ∃(o:Obj) (its:Array Value) (n:Nat),K.lookup a=some o/\o.cls=.type "list"/\o.dict=none/\o.data=.seq its n/\its.size≤sizeLine/\au xs its.toList
abbrev bq(K:W.Frag)(H:Hp)(a:Addr)(xs:List V):Prop :=
 Rd H a (.tup xs) ∨
  ∃(o:Obj) (its:Array Value) (n:Nat),K.lookup a=some o/\o.cls=.type "tuple"/\o.data=.seq its n/\its.size≤sizeLine/\au xs its.toList
abbrev Ag:Value->Option V
 | .none=>some .non
 | .bool b=>some (.bl b)
 | .int i _=>some (.int i)
 | .str x _=>some (.str x)
 | .bytes b _=>some (.byt b)
 | .float b _=>some (.flt b)
 | .ref a=>some (.ref a)
 | .type n=>some (.ty n)
 | _=>none
def aA.abs{x:V}{u:Value}(r:aA x u):Ag u=some x:=by
 cases x with
 | non=>cases r;rfl
 | bl _=>cases r;rfl
 | int _=>obtain⟨t,rfl⟩:=r;rfl
 | str _=>obtain⟨t,rfl⟩:=r;rfl
 | byt _=>obtain⟨t,rfl⟩:=r;rfl
 | flt _=>obtain⟨t,rfl⟩:=r;rfl
 | ref _=>cases r;rfl
 | ty _=>cases r;rfl
def aA.inj{x y:V}{u:Value}(r:aA x u)(q:aA y u):x=y:=z1f (r.abs.symm.trans q.abs)
theorem au.inj:∀{xs ys:List V} {us:List Value},au xs us->au ys us->xs=ys
 | _,_,_,.nil,.nil=>rfl
 | _,_,_,.cons r t,.cons r' t'=>by rw [r.inj r',au.inj t t']
section
variable {X:Cx}{pins:List (Addr×Obj)}{σ:St}{H:Hp}{s:Shared}{a:Addr}{xs ys:List V}
def bL.of{K:W.Frag}(h:H a=some (.lst xs)):bL K H a xs:=.inl (.inl h)
def bq.of{K:W.Frag}(h:H a=some (.tup xs)):bq K H a xs:=.inl (.inl h)
def Inv.list(I:Inv X pins σ H s)(h:bL X.K H a xs):∃its:List Value,au xs its/\PlainL s.heap a its.toArray/\xs.length≤sizeLine:=by
 rcases h with h|⟨o,its,n,hk,hc,hd,hs,hz,r⟩
 ·obtain⟨z,its,n,r,e⟩:=h.ok I.hok
  exact⟨its,r,⟨_,n,e,rfl,rfl,rfl⟩,z⟩
 ·refine⟨its.toList,r,⟨o,n,I.kIn a o hk,hc,hd,by simpa using hs⟩,?_⟩
  have e:=r.length
  simp only [Array.length_toList] at e
  lia
def Inv.tuple(I:Inv X pins σ H s)(h:bq X.K H a xs):∃its:List Value,au xs its/\IsTup s.heap a its.toArray/\xs.length≤sizeLine:=by
 rcases h with h|⟨o,its,n,hk,hc,hs,hz,r⟩
 ·obtain⟨z,its,r,p⟩:=h.ok I.hok
  exact⟨its,r,p.tup,z⟩
 ·refine⟨its.toList,r,⟨o,I.kIn a o hk,hc,n,by simpa using hs⟩,?_⟩
  have e:=r.length
  simp only [Array.length_toList] at e
  lia
def Inv.y1f0(I:Inv X pins σ H s)(h:bL X.K H a xs)(h':bL X.K H a ys):xs=ys:=by
 obtain⟨its,r,⟨o,n,e,_,_,d⟩,_⟩:=I.list h
 obtain⟨its',r',⟨o',n',e',_,_,d'⟩,_⟩:=I.list h'
 rw [e] at e';cases e'
 rw [d] at d'
 injection d' with d1 _
 have:its=its':=by simpa using congrArg Array.toList d1
 subst this
 exact r.inj r'
def Inv.y429(I:Inv X pins σ H s)(h:bq X.K H a xs)(h':bq X.K H a ys):xs=ys:=by
 obtain⟨its,r,⟨o,e,_,n,d⟩,_⟩:=I.tuple h
 obtain⟨its',r',⟨o',e',_,n',d'⟩,_⟩:=I.tuple h'
 rw [e] at e';cases e'
 rw [d] at d'
 injection d' with d1 _
 have:its=its':=by simpa using congrArg Array.toList d1
 subst this
 exact r.inj r'
end
noncomputable abbrev Cx.y492(X:Cx)(E:Value->Shared->Prop):Cx:={ X with xe:=E }
noncomputable abbrev Cx.nox(X:Cx):Cx:=X.y492 λ_ _=>False
theorem Cx.Ok.y492{X:Cx}(ok:X.Ok)(E:Value->Shared->Prop):(X.y492 E).Ok :=
 ⟨ok.mod,ok.kind,ok.glob,ok.blt,ok.above,ok.inj,ok.has,ok.cab,ok.hd,ok.frames,ok.stk,ok.exf,ok.bs,ok.bsz,ok.y238,ok.y131,ok.y152,ok.frf⟩
def Cx.Ok.y434{X:Cx}{E:Value->Shared->Prop}(ok:(X.y492 E).Ok):X.Ok :=
 ⟨ok.mod,ok.kind,ok.glob,ok.blt,ok.above,ok.inj,ok.has,ok.cab,ok.hd,ok.frames,ok.stk,ok.exf,ok.bs,ok.bsz,ok.y238,ok.y131,ok.y152,ok.frf⟩
section
variable {X:Cx}{pins:List (Addr×Obj)}{σ:St}{H:Hp}{s:Shared}{E:Value->Shared->Prop}
theorem Inv.y492(I:Inv X pins σ H s)(E:Value->Shared->Prop):Inv (X.y492 E) pins σ H s:=⟨I.ok.y492 E,I.os,I.bare,I.base,I.loc,I.cell,I.free,I.y14e,I.pin,I.hok,I.len⟩
theorem Inv.y434(I:Inv (X.y492 E) pins σ H s):Inv X pins σ H s:=⟨I.ok.y434,I.os,I.bare,I.base,I.loc,I.cell,I.free,I.y14e,I.pin,I.hok,I.len⟩
theorem SP.y434{D:Ends}{f:Flow}{s':Shared}(h:SP (X.y492 E) pins D f s'):SP X pins D f s':=by
 cases f with
 | next=>obtain⟨σ',H',I,q⟩:=h;exact⟨σ',H',I.y434,q⟩
 | brk=>obtain⟨σ',H',I,q⟩:=h;exact⟨σ',H',I.y434,q⟩
 | cont=>obtain⟨σ',H',I,q⟩:=h;exact⟨σ',H',I.y434,q⟩
 | ret u=>obtain⟨v,σ',H',I,r,q⟩:=h;exact⟨v,σ',H',I.y434,r,q⟩
theorem dR.nox{st:List Stmt}{t:TS}(h:dR X.nox st t):dR X st t:=λpins s σ H D I hw =>
 wpAny_mono (h pins s σ H D (I.y492 _) hw) (λ_ _ q=>q.y434) λ_ _ z=>False.elim z
end
section
variable {X:Cx}{st:Stmt}{aU:List Stmt}{t u:TS}{e:Expr}{te:TE}{pos:Pos}
abbrev ny:TS:=λD σ H=>D.nx σ H
abbrev ji(t u:TS):TS:=λD σ H=>t { D with nx:=u D } σ H
def nz:dR X [] ny:=λ_ _ σ H _ I h=>wpAny_execs_nil ⟨σ,H,I,h⟩
def fS(h1:PS X st t)(h2:dR X aU u):dR X (st::aU) (ji t u):=by
 intro pins s σ H D I h
 refine wpAny_execs_cons (aH (h1 pins s σ H { D with nx:=u D } I h) λf s1 q=>?_)
 cases f with
 | next =>
  obtain⟨σ',H',I',q⟩:=q
  exact h2 pins s1 σ' H' D I' q
 | ret v=>exact q
 | brk=>exact q
 | cont=>exact q
def fT(h1:PS X st t):dR X [st] t:=by
 intro pins s σ H D I h
 refine wpAny_execs_cons (aH (h1 pins s σ H D I h) λf s1 q=>?_)
 cases f with
 | next=>exact wpAny_execs_nil q
 | ret v=>exact q
 | brk=>exact q
 | cont=>exact q
def Inv.quiet{pins:List (Addr×Obj)}{σ:St}{H:Hp}{s:Shared}(I:Inv X pins σ H s):interactive X.env=false:=by simp [interactive,I.ok.kind]
abbrev nA(te:TE):TS:=λD σ H=>te σ H λ_ H1=>D.nx σ H1
def nB(he:PE X e te)(hs:‹swapsWith e none pos.line X.env=pure false›):PS X (.Expr e pos) (nA te):=by
 intro pins s σ H D I h
 exact wpAny_Expr_any (aH (he pins s σ H _ I h) λv s1 ⟨x,H1,I1,r1,q1⟩=>⟨σ,H1,I1,q1⟩) I.quiet hs
abbrev qx(te:TE):TS:=λD σ H=>te σ H D.rt
def qy(he:PE X e te):PS X (.Return (some e) pos) (qx te):=by
 intro pins s σ H D I h
 exact wpAny_Return_some (aH (he pins s σ H _ I h) λv s1 ⟨x,H1,I1,r1,q1⟩=>⟨x,σ,H1,I1,r1,q1⟩)
abbrev kL(c:TT)(t u:TS):TS:=λD σ H=>c σ H λb H1=>if b=true then t D σ H1 else u D σ H1
def kM{c:Expr}{a b:List Stmt}{tc:TT}(hc:PT X c tc)(ha:dR X a t)(hb:dR X b u):PS X (.If c a b pos) (kL tc t u):=by
 intro pins s σ H D I h
 refine wpAny_If (aH (hc pins s σ H _ I h) λd s1 zz=>?_)
 obtain⟨H1,I1,q1⟩:=zz
 cases d with
 | true=>exact ha pins s1 σ H1 D I1 q1
 | false=>exact hb pins s1 σ H1 D I1 q1
end
noncomputable abbrev TG:=V->St->Hp->(St->Hp->Prop)->Prop
noncomputable abbrev mL:=List V->St->Hp->(St->Hp->Prop)->Prop
abbrev PG(X:Cx)(target:Expr)(t:TG):Prop :=
 ∀(pins:List (Addr×Obj)) (s:Shared) (σ:St) (H:Hp) (v:V) (u:Value) (Q:St->Hp->Prop),Inv X pins σ H s->aA v u->t v σ H Q ->
  wpAny (model X.prog X.w) X.A (assign target X.env u) (λ_ s'=>∃σ' H',Inv X pins σ' H' s'/\Q σ' H') X.xe s
abbrev qz(X:Cx)(ts:List Expr)(t:mL):Prop :=
 ∀(pins:List (Addr×Obj)) (s:Shared) (σ:St) (H:Hp) (vs:List V) (us:List Value) (Q:St->Hp->Prop),Inv X pins σ H s->au vs us->t vs σ H Q ->
  wpAny (model X.prog X.w) X.A (assignInOrder ((assignEach ts X.env).map (·.2)) us) (λ_ s'=>∃σ' H',Inv X pins σ' H' s'/\Q σ' H') X.xe s
noncomputable abbrev nC:=V->V->V->Hp->(Hp->Prop)->Prop
abbrev qA(X:Cx)(t:nC):Prop :=
 ∀(pins:List (Addr×Obj)) (s:Shared) (σ:St) (H:Hp) (o i v:V) (ov iv u:Value) (Q:Hp->Prop),Inv X pins σ H s->aA o ov->aA i iv->aA v u->t o i v H Q ->
  wpAny (model X.prog X.w) X.A (setItem ov iv u) (λ_ s'=>∃H',Inv X pins σ H' s'/\Q H') X.xe s
section
variable {X:Cx}{pos:Pos}
abbrev ff(i:Nat):TG:=λv σ H Q=>Q (σ.set i (some v)) H
def fU{i:Nat}{x:Str}(hN:X.N.Nodup)(hi:X.N[i]?=some x)(hx:nj X.env.scope x)(hf:X.fn x=true∨X.env.scope.names.lookup x=some .local:=by first|exact .inl rfl|exact .inr rfl|assumption):PG X (.Name x pos) (ff i):=by
 intro pins s σ H v u Q I r h
 exact wpAny_assign_Name (nq I hN hi hx r (λs' I'=>⟨_,H,I',h⟩) hf)
abbrev qB:mL:=λvs σ H Q=>vs=[]/\Q σ H
abbrev qC(t:TG)(u:mL):mL:=λvs σ H Q=>∃v r,vs=v::r/\t v σ H λσ' H'=>u r σ' H' Q
def qD:qz X [] qB:=by
 intro pins s σ H vs us Q I r h
 obtain⟨e,h⟩:=h
 subst e
 cases r
 exact assignInOrder_nil ⟨σ,H,I,h⟩
def nD{e:Expr}{es:List Expr}{t:TG}{u:mL}(h1:PG X e t)(h2:qz X es u)
  (hs:‹(assignEach (e::es) X.env).map (·.2)=assign e X.env::(assignEach es X.env).map (·.2)›):qz X (e::es) (qC t u):=by
 intro pins s σ H vs us Q I r h
 obtain⟨v,vr,e1,h⟩:=h
 subst e1
 cases r with
 | cons r rr =>
  rw [hs]
  refine assignInOrder_cons (aH (h1 pins s σ H _ _ _ I r h) λ_ s1 zz=>?_)
  obtain⟨σ1,H1,I1,q1⟩:=zz
  exact h2 pins s1 σ1 H1 _ _ Q I1 rr q1
abbrev kN(K:W.Frag)(n:Nat)(t:mL):TG:=λv σ H Q=>∃a xs,v=.ref a/\bq K H a xs/\xs.length=n/\t xs σ H Q
def qE{es:List Expr}{k:Nat}{t:mL}{n:Nat}(hc:X.calm=true)(h:qz X es t)
  (hn:‹(assignEach es X.env).length=n›) (hst:‹(assignEach es X.env).findIdx? (·.1)=none›):PG X (.Tuple es k pos) (kN X.K n t):=by
 intro pins s σ H v u Q I r hw
 obtain⟨a,xs,e1,hq,hl,hw⟩:=hw
 subst e1
 cases r
 obtain⟨its,rv,ht,hz⟩:=I.tuple hq
 refine assign_Tuple_tuple (I.ok.hd hc) ht (by simp [hn,<- hl,rv.length]) hst λh' hx=>?_
 have I1:Inv X pins σ H { s with heap:=h' }:=I.kept (t':=s.toks) λb o e=>hx b o (z27 (z19 e)) e
 exact h pins _ σ H xs _ Q I1 (by simpa using rv) hw
abbrev qF(to ti:TE)(t:nC):TG:=λv σ H Q=>to σ H λo H1=>ti σ H1 λi H2=>t o i v H2 λH3=>Q σ H3
def Ah{o i:Expr}{to ti:TE}{t:nC}(ho:PE X o to)(hi:PE X i ti)(hs:qA X t)
  (ha:∀v,assign (.Subscript o i pos) X.env v=(do
   let ov <- holding [v] (eval o X.env)
   let iv <- holding [v,ov] (eval i X.env)
   standAt pos
   holding [v,ov,iv] (setItem ov iv v)
   release [v,ov,iv] []):=by intro _;rfl):PG X (.Subscript o i pos) (qF to ti t):=by
 intro pins s σ H v u Q I r h
 rw [ha]
 refine zb (wpAny_holding (aH (ho pins s σ H _ I h) λov s1 zz=>?_))
 obtain⟨x,H1,I1,r1,q1⟩:=zz
 refine zb (wpAny_holding (aH (hi pins s1 σ H1 _ I1 q1) λiv s2 zz=>?_))
 obtain⟨y,H2,I2,r2,q2⟩:=zz
 refine zb (wpAny_standAt (zb (wpAny_holding (aH (hs pins s2 σ H2 x y v ov iv u _ I2 r1 r2 r q2) λ_ s3 zz=>?_))))
 obtain⟨H3,I3,q3⟩:=zz
 exact wpAny_release ⟨σ,H3,I3,q3⟩
abbrev fV(te:TE)(g:TG):TS:=λD σ H=>te σ H λx H1=>g x σ H1 D.nx
def fW{tg e:Expr}{te:TE}{g:TG}(he:PE X e te)(hg:PG X tg g)(hs:‹swapsWithSole [tg] e pos.line X.env=pure false›)(hw:‹swappedStores [tg] e X.env=pure none›)
  (h1:‹(assignEach [tg] X.env).map (·.2)=[assign tg X.env]›):PS X (.Assign [tg] e pos) (fV te g):=by
 intro pins s σ H D I h
 refine wpAny_Assign_stores (aH (he pins s σ H _ I h) λv s1 ⟨x,H1,I1,r1,q1⟩=>?_) hs hw
 rw [h1]
 exact aH (hg pins s1 σ H1 x v _ I1 r1 q1) λ_ s2 q=>q
def Ai{i:Nat}{x:Str}{e:Expr}{te:TE}{pos':Pos}(hN:X.N.Nodup)(hi:X.N[i]?=some x)(hx:nj X.env.scope x)(he:PE X e te)(hs:‹swapsWith e (some (.Name x pos')) pos.line X.env=pure false›)(hf:X.fn x=true∨X.env.scope.names.lookup x=some .local:=by first|exact .inl rfl|exact .inr rfl|assumption) :
  PS X (.Assign [.Name x pos'] e pos) (fV te (ff i)):=by
 intro pins s σ H D I h
 refine wpAny_Assign_Name (aH (he pins s σ H _ I h) λv s1 ⟨y,H1,I1,r1,q1⟩=>?_) hs
 exact nq I1 hN hi hx r1 (λs2 I2=>⟨_,H1,I2,q1⟩) hf
end
section
variable {X:Cx}{pos:Pos}
abbrev qG(c:TT)(tb:TS):TS:=λD σ H=>∃W:Nat->St->Hp->Prop,(∃m,W m σ H)/\∀m σ H,W m σ H ->
 c σ H λb H1=>if b=true then ∃N:St->Hp->Prop,(∀σ' H',N σ' H'->∃m',m'<m/\W m' σ' H')/\tb { D with nx:=N,ct:=N,bk:=D.nx } σ H1 else D.nx σ H1
def Aj{c:Expr}{body:List Stmt}{tc:TT}{tb:TS}(hp:PassesOwn (model X.prog X.w) X.A X.env X.xe)(hc:PT X c tc)(hb:dR X body tb):PS X (.While c body [] pos) (qG tc tb):=by
 intro pins s σ H D I h
 obtain⟨W,⟨m0,w0⟩,turn⟩:=h
 refine wpAny_While (codeAny_whileLoop (λn s'=>∃σ' H',Inv X pins σ' H' s'/\W n σ' H') ?_ m0 ⟨σ,H,I,w0⟩)
 rintro n s1 ⟨σ1,H1,I1,w1⟩
 refine wpAny_passesOwn hp (aH (hc pins s1 σ1 H1 _ I1 (turn n σ1 H1 w1)) λb s2 zz=>?_)
 obtain⟨H2,I2,q2⟩:=zz
 cases b with
 | true =>
  obtain⟨N,hN,q2⟩:=q2
  rw [if_pos rfl]
  refine wpAny_passesOwn hp (aH (hb pins s2 σ1 H2 _ I2 q2) λf s3 q3=>?_)
  cases f with
  | next =>
   obtain⟨σ3,H3,I3,n3⟩:=q3
   obtain⟨m',hm,w3⟩:=hN σ3 H3 n3
   exact⟨m',hm,σ3,H3,I3,w3⟩
  | cont =>
   obtain⟨σ3,H3,I3,n3⟩:=q3
   obtain⟨m',hm,w3⟩:=hN σ3 H3 n3
   exact⟨m',hm,σ3,H3,I3,w3⟩
  | brk=>exact q3
  | ret v=>exact q3
 | false =>
  rw [if_neg z15]
  exact wpAny_execs_nil ⟨σ1,H2,I2,q2⟩
end
structure It where
 go:Nat->Hp->Prop
 yld:Nat->Hp->V->Hp->Prop
 stop:Nat->Hp->Prop
abbrev iy(X:Cx)(pins:List (Addr×Obj))(H:Hp)(b:Addr):Prop :=
 H b=none/\b≠X.env.locals/\b∉X.fs/\(b∈X.ex∨X.s₀.heap.objs.size≤b)/\(∀x c,X.env.cells.lookup x=some c->c≠b)/\∀p∈X.pn++pins,p.1≠b
def Inv.fpOk{X:Cx}{pins:List (Addr×Obj)}{σ:St}{H H':Hp}{s:Shared}{b:Addr}(I:Inv X pins σ H s)(hb:s.heap.objs.size≤b)(hn:H' b=none):iy X pins H' b:=by
 refine⟨hn,Nat.ne_of_gt (z1c I.lt hb),I.nofs hb,.inr (z1b I.sz hb),λx c e z=>?_,λp hp z=>?_⟩
 ·obtain⟨v,q⟩:=I.cell x c e
  exact absurd (z1c q.lt (by rw [z];exact hb)) (z31 _)
 ·exact absurd (z1c (z19 (I.pin p hp).1) (by rw [z];exact hb)) (z31 _)
structure Turn(P:Program)(w:World)(K:W.Frag)(tg:Expr)(J:It)(fp:List Addr)(it:Addr)(tn:Nat->Heap->Prop):Prop where
 mem:it∈fp
 obj:∀i h,tn i h->∀b∈fp,∃o,h.get? b=some o/\∀v,o.data≠.cell v
 keep:∀i h h',tn i h->(∀b∈fp,∀o,h.get? b=some o->h'.get? b=some o)->tn i h'
 item:∀(X:Cx),X.prog=P->X.w=w->X.K=K->X.calm=true->∀(i:Nat) (pins:List (Addr×Obj)) (s:Shared) (σ:St) (H:Hp) (E:Value->Shared->Prop),Inv X pins σ H s->(∀b∈fp,iy X pins H b)->tn i s.heap->J.go i H ->
  wpAny (model P w) X.A (pyNext (.ref it)) (λr s1=>∃u,r=some u /\
   wpAny (model P w) X.A (letOwnedTupleGo tg (.ref it) u) (λ_ s2=>∃x H',Inv X pins σ H' s2/\aA x u/\J.yld i H x H'/\tn (i+1) s2.heap/\∀b∈fp,H' b=none) E s1) E s
 done:∀(X:Cx),X.prog=P->X.w=w->X.K=K->X.calm=true->∀(i:Nat) (pins:List (Addr×Obj)) (s:Shared) (σ:St) (H:Hp) (E:Value->Shared->Prop),Inv X pins σ H s->(∀b∈fp,iy X pins H b)->tn i s.heap->J.stop i H ->
  wpAny (model P w) X.A (pyNext (.ref it)) (λr s1=>r=none/\Inv X pins σ H s1) E s
 self:∀(A:Around) (i:Nat) (s:Shared) (Q:Value->Shared->Prop) (E:Value->Shared->Prop),tn i s.heap->Q (.ref it) s->wpAny (model P w) A (pyIter (.ref it)) Q E s
noncomputable abbrev TI:=St->Hp->(It->Hp->Prop)->Prop
abbrev PIE(X:Cx)(pins:List (Addr×Obj))(σ:St)(tg:Expr)(R:It->Hp->Prop)(itv:Value)(s2:Shared):Prop :=
 ∃(it:Addr) (fp:List Addr) (tn:Nat->Heap->Prop) (J:It) (H':Hp),itv=.ref it/\Inv X pins σ H' s2/\Turn X.prog X.w X.K tg J fp it tn/\tn 0 s2.heap/\(∀b∈fp,iy X pins H' b)/\R J H'
abbrev PI(X:Cx)(tg iter:Expr)(wi:TI):Prop :=
 ∀(pins:List (Addr×Obj)) (s:Shared) (σ:St) (H:Hp) (R:It->Hp->Prop),Inv X pins σ H s->wi σ H R ->
  wpAny (model X.prog X.w) X.A (eval iter X.env) (λv s1=>wpAny (model X.prog X.w) X.A (pyIter v) (PIE X pins σ tg R) X.xe s1) X.xe s
def nE{M:Model}{A:Around}{E:Value->Shared->Prop}{s:Shared}{tg:Expr}{it:Addr}{u:Value}{o:Obj}{n:String}{vs:Array Value}{Q:Unit->Shared->Prop}(ho:s.heap.get? it=some o)(hc:o.cls=.type n)(hd:o.data=.fields vs)
  (hn:["enumerate","zip","dict_itemiterator","dict_reverseitemiterator","odict_iterator","itertools.zip_longest","itertools.pairwise"].contains n=false) (hQ:Q () s):wpAny M A (letOwnedTupleGo tg (.ref it) u) Q E s:=by
 unfold letOwnedTupleGo
 cases tg<;>first
  | exact zd hQ
  | (cases u<;>first
    | exact zd hQ
    | (refine zb (wpAny_load ho ?_);rw [hc,hd];show wpAny M A (if (["enumerate","zip","dict_itemiterator","dict_reverseitemiterator","odict_iterator","itertools.zip_longest","itertools.pairwise"].contains n&&vs[0]? == some (rawInt _))=true then _ else _) Q E s;rw [if_neg (by intro h;rw [hn,Bool.false_and] at h;cases h)];exact zd hQ))
abbrev yL(K:W.Frag)(a:Addr):It :=
 ⟨λi H=>∃xs x,bL K H a xs/\xs[i]?=some x,λi H x H'=>H'=H/\∀xs,bL K H a xs->xs[i]?=some x,λi H=>∃xs,bL K H a xs/\xs.length≤i⟩
abbrev yM(K:W.Frag)(a:Addr):It :=
 ⟨λi H=>∃xs x,bq K H a xs/\xs[i]?=some x,λi H x H'=>H'=H/\∀xs,bq K H a xs->xs[i]?=some x,λi H=>∃xs,bq K H a xs/\xs.length≤i⟩
abbrev qH(lo:Int)(n:Nat):It:=⟨λi _=>i<n,λi H x H'=>H'=H/\x=.int (lo+i),λi _=>n≤i⟩
def Ak{P:Program}{w:World}{K:W.Frag}{tg:Expr}(a it:Addr):Turn P w K tg (yL K a) [it] it (λi h=>h.IsListIter it a i) where
 mem:=by simp
 obj:=λi h st b hb=>by
  have e:b=it:=by simpa using hb
  subst e
  obtain⟨o,e,c,d⟩:=st
  exact⟨o,e,λv z=>by rw [d] at z;cases z⟩
 keep:=λi h h' st k=>st.at λo e=>k it (by simp) o e
 item:=by
  intro X hP hw hK hc i pins s σ H E I hf st hg
  subst hP hw hK
  obtain⟨xs,x,hq,hx⟩:=hg
  obtain⟨its,rv,p,hz⟩:=I.list hq
  obtain⟨u,hu,ru⟩:=rv.get hx
  obtain⟨f0,f1,f2,f3,f4,f5⟩:=hf it (by simp)
  refine wpAny_pyNext_list_item st p.isList (x:=u) (by simpa using hu) λh' st' sb=>?_
  have I1:Inv X pins σ H { s with heap:=h' }:=I.turned (t':=s.toks) (λb o hb e=>(sb.2 b hb).trans e) f0 f1 f3 f4 f5
  obtain⟨o,e,c,d⟩:=id st'
  exact⟨u,rfl,nE (s:={ s with heap:=h' }) e c d (by decide) ⟨x,H,I1,ru,⟨rfl,λys hy=>by rw [I.y1f0 hy hq];exact hx⟩,st',λb hb=>(hf b hb).1⟩⟩
 done:=by
  intro X hP hw hK hc i pins s σ H E I hf st hg
  subst hP hw hK
  obtain⟨xs,hq,hx⟩:=hg
  obtain⟨its,rv,p,hz⟩:=I.list hq
  obtain⟨f0,f1,f2,f3,f4,f5⟩:=hf it (by simp)
  have hl:=rv.length
  exact wpAny_pyNext_list_end (I.ok.hd hc) st p.isList (by simp;lia) λh' eb=>⟨rfl,I.turned (t':=s.toks) (λb o hb e=>eb b o hb e) f0 f1 f3 f4 f5⟩
 self:=λ_ _ _ _ _ st h=>wpAny_pyIter_listiter st h
def Al{P:Program}{w:World}{K:W.Frag}{tg:Expr}(a it:Addr):Turn P w K tg (yM K a) [it] it (λi h=>h.IsTupleIter it a i) where
 mem:=by simp
 obj:=λi h st b hb=>by
  have e:b=it:=by simpa using hb
  subst e
  obtain⟨o,e,c,d⟩:=st
  exact⟨o,e,λv z=>by rw [d] at z;cases z⟩
 keep:=λi h h' st k=>st.at λo e=>k it (by simp) o e
 item:=by
  intro X hP hw hK hc i pins s σ H E I hf st hg
  subst hP hw hK
  obtain⟨xs,x,hq,hx⟩:=hg
  obtain⟨its,rv,p,hz⟩:=I.tuple hq
  obtain⟨u,hu,ru⟩:=rv.get hx
  obtain⟨f0,f1,f2,f3,f4,f5⟩:=hf it (by simp)
  refine wpAny_pyNext_tuple_item st (show s.heap.IsTuple a its.toArray from p) (x:=u) (by simpa using hu) λh' st' sb=>?_
  have I1:Inv X pins σ H { s with heap:=h' }:=I.turned (t':=s.toks) (λb o hb e=>(sb.2 b hb).trans e) f0 f1 f3 f4 f5
  obtain⟨o,e,c,d⟩:=id st'
  exact⟨u,rfl,nE (s:={ s with heap:=h' }) e c d (by decide) ⟨x,H,I1,ru,⟨rfl,λys hy=>by rw [I.y429 hy hq];exact hx⟩,st',λb hb=>(hf b hb).1⟩⟩
 done:=by
  intro X hP hw hK hc i pins s σ H E I hf st hg
  subst hP hw hK
  obtain⟨xs,hq,hx⟩:=hg
  obtain⟨its,rv,p,hz⟩:=I.tuple hq
  obtain⟨f0,f1,f2,f3,f4,f5⟩:=hf it (by simp)
  have hl:=rv.length
  exact wpAny_pyNext_tuple_end (I.ok.hd hc) st (show s.heap.IsTuple a its.toArray from p) (by simp;lia) λh' eb=>⟨rfl,I.turned (t':=s.toks) (λb o hb e=>eb b o hb e) f0 f1 f3 f4 f5⟩
 self:=λ_ _ _ _ _ st h=>wpAny_pyIter_tupleiter st h
def Am{P:Program}{w:World}{K:W.Frag}{tg:Expr}(it:Addr)(lo:Int)(n:Nat):Turn P w K tg (qH lo n) [it] it (λi h=>IsRangeIter h it (lo+(i:Nat)*1) ((n:Int)-(i:Nat)) 1) where
 mem:=by simp
 obj:=λi h st b hb=>by
  have e:b=it:=by simpa using hb
  subst e
  exact⟨_,st,λv z=>by
   have z':Data.fields _=Data.cell v:=z
   cases z'⟩
 keep:=λi h h' st k=>k it (by simp) _ st
 item:=by
  intro X hP hw hK hc i pins s σ H E I hf st hg
  subst hP hw hK
  obtain⟨f0,f1,f2,f3,f4,f5⟩:=hf it (by simp)
  have W:=Walks.range (prog:=X.prog) (w:=X.w) (I.ok.hd hc) it lo 1 n
  refine W.item i s _ _ hg st λv h' tk hv st' kk=>?_
  obtain⟨t,rfl⟩:=hv
  have I1:Inv X pins σ H { s with heap:=h',toks:=tk }:=I.turned (λb o hb e=>kk b o (by simpa using hb) e) f0 f1 f3 f4 f5
  refine⟨_,rfl,nE (s:={ s with heap:=h',toks:=tk }) (n:="range_iterator") st' rfl rfl (by decide) ⟨.int (lo+i),H,I1,⟨t,?_⟩,⟨rfl,rfl⟩,st',λb hb=>(hf b hb).1⟩⟩
  rw [Int.mul_one]
 done:=by
  intro X hP hw hK hc i pins s σ H E I hf st hg
  subst hP hw hK
  obtain⟨f0,f1,f2,f3,f4,f5⟩:=hf it (by simp)
  exact wpAny_pyNext_range_end (I.ok.hd hc) st (by have:n≤i:=hg;lia) λh' eb=>⟨rfl,I.turned (t':=s.toks) (λb o hb e=>eb b o hb e) f0 f1 f3 f4 f5⟩
 self:=λ_ _ _ _ _ st h=>wpAny_pyIter_rangeiter st h
end
section
section
variable {X:Cx}{tg:Expr}
abbrev qI(K:W.Frag)(tl:TE):TI:=λσ H R=>tl σ H λx H1=>∃a,x=.ref a/\(∃xs,bL K H1 a xs)/\R (yL K a) H1
abbrev qJ(K:W.Frag)(tl:TE):TI:=λσ H R=>tl σ H λx H1=>∃a,x=.ref a/\(∃xs,bq K H1 a xs)/\R (yM K a) H1
def An{l:Expr}{tl:TE}(hl:PE X l tl):PI X tg l (qI X.K tl):=by
 intro pins s σ H R I h
 refine aH (hl pins s σ H _ I h) λv s1 zz=>?_
 obtain⟨x,H1,I1,r1,q1⟩:=zz
 obtain⟨a,e,⟨xs,hq⟩,q⟩:=q1
 subst e
 cases r1
 obtain⟨its,rv,p,hz⟩:=I1.list hq
 refine wpAny_pyIter_list p.isList ?_
 refine⟨s1.heap.objs.size,[s1.heap.objs.size],_,_,H1,rfl,I1.kept (t':=s1.toks) λb o e=>zf _ e,Ak a _,⟨_,z28 _ rfl,rfl,rfl⟩,λb hb=>?_,q⟩
 have e:b=s1.heap.objs.size:=by simpa using hb
 subst e
 exact I1.fpOk (ze _) (I1.hok.fresh (ze _))
def Ao{l:Expr}{tl:TE}(hl:PE X l tl):PI X tg l (qJ X.K tl):=by
 intro pins s σ H R I h
 refine aH (hl pins s σ H _ I h) λv s1 zz=>?_
 obtain⟨x,H1,I1,r1,q1⟩:=zz
 obtain⟨a,e,⟨xs,hq⟩,q⟩:=q1
 subst e
 cases r1
 obtain⟨its,rv,p,hz⟩:=I1.tuple hq
 refine wpAny_pyIter_tuple (show s1.heap.IsTuple a its.toArray from p) ?_
 refine⟨s1.heap.objs.size,[s1.heap.objs.size],_,_,H1,rfl,I1.kept (t':=s1.toks) λb o e=>zf _ e,Al a _,⟨_,z28 _ rfl,rfl,rfl⟩,λb hb=>?_,q⟩
 have e:b=s1.heap.objs.size:=by simpa using hb
 subst e
 exact I1.fpOk (ze _) (I1.hok.fresh (ze _))
def Ap{pins:List (Addr×Obj)}{σ:St}{H:Hp}{s:Shared}{R:It->Hp->Prop}{E:Value->Shared->Prop}{lo hi:Int}{t u v:Tok}{tk:Nat}(I:Inv X pins σ H s)(h1:-(2 ^ 62)≤lo)(h2:lo<2 ^ 62)(h3:-(2 ^ 62)≤hi)(h4:hi<2 ^ 62)
  (q:R (qH lo (hi-lo).toNat) H):wpAny (model X.prog X.w) X.A (pyIter (.ref s.heap.objs.size)) (PIE X pins σ tg R) E { s with heap:=s.heap.push { cls:=.type "range",data:=.fields #[.int lo t,.int hi u,.int 1 v] },toks:=tk }:=by
 refine wpAny_pyIter_range (IsRange.new ..) (small_one h1 h2 h3 h4) ?_
 have I1:Inv X pins σ H { s with heap:=s.heap.push { cls:=.type "range",data:=.fields #[.int lo t,.int hi u,.int 1 v] },toks:=tk }:=I.kept λb o e=>zf _ e
 refine⟨(s.heap.push { cls:=.type "range",data:=.fields #[.int lo t,.int hi u,.int 1 v] }).objs.size,[(s.heap.push { cls:=.type "range",data:=.fields #[.int lo t,.int hi u,.int 1 v] }).objs.size],_,_,H,rfl,
  I1.kept (t':=tk) λb o e=>zf _ e,Am _ lo (hi-lo).toNat,?_,λb hb=>?_,q⟩
 ·have e1:lo+((0:Nat):Int)*1=lo:=by simp
  have e2:(((hi-lo).toNat:Nat):Int)-((0:Nat):Int)=Builtin.Range.rangeSize lo hi 1:=by rw [rangeSize_one];split<;>lia
  show IsRangeIter _ _ (lo+((0:Nat):Int)*1) ((((hi-lo).toNat:Nat):Int)-((0:Nat):Int)) 1
  rw [e1,e2]
  exact z28 _ rfl
 ·have e:b=(s.heap.push { cls:=.type "range",data:=.fields #[.int lo t,.int hi u,.int 1 v] }).objs.size:=by simpa using hb
  subst e
  exact I1.fpOk (ze _) (I1.hok.fresh (ze _))
abbrev qK(ta:TA):TI:=λσ H R=>ta σ H λvs H1=>∃j:Int,vs=[.int j]/\-(2 ^ 62)≤j/\j<2 ^ 62/\R (qH 0 j.toNat) H1
def Aq{a:Expr}{ta:TA}{p pos:Pos}(hg:Gl X "range")(hm:X.mg "range" = none)(ha:PA X [a] ta)(hs:‹starEach [a] X.env=[(false,eval a X.env)]›):PI X tg (.Call (.Name "range" p) [a] [] pos) (qK ta):=by
 intro pins s σ H R I h
 refine Call_ (iw I hg hm boot_range (PyProof.Rows.callWith_type1 (aH (ha pos pins s σ H _ I h) λus s1 ⟨vs,H1,I1,r1,q1⟩=>?_) hs rfl))
 obtain⟨j,e,q1,q2,q⟩:=q1
 subst e
 cases r1 with
 | cons r rr =>
  cases rr
  obtain⟨t,rfl⟩:=r
  exact call_range_1 (Ap I1 (by lia) (by lia) q1 q2 (by simpa using q))
abbrev nF(wi:TI)(g:TG)(tb:TS):TS:=λD σ H=>wi σ H λJ H1=>∃W:Nat->Nat->St->Hp->Prop,(∃m,W 0 m σ H1)/\∀i m σ H,W i m σ H ->
 (J.stop i H/\D.nx σ H)∨(J.go i H/\∃N:St->Hp->Prop,(∀σ' H',N σ' H'->∃m',m'<m/\W (i+1) m' σ' H')/\∀x H',J.yld i H x H'->g x σ H' λσ2 H2=>tb { D with nx:=N,ct:=N,bk:=D.nx } σ2 H2)
abbrev jj(fp:List Addr)(h:Heap):List (Addr×Obj):=fp.filterMap λb=>(h.get? b).map λo=>(b,o)
def kO{fp:List Addr}{h:Heap}{b:Addr}{o:Obj}(hb:b∈fp)(e:h.get? b=some o):(b,o)∈jj fp h:=List.mem_filterMap.mpr ⟨b,hb,by rw [e];rfl⟩
def Ar{fp:List Addr}{h:Heap}{p:Addr×Obj}(hp:p∈jj fp h):p.1∈fp/\h.get? p.1=some p.2:=by
 obtain⟨b,hb,e⟩:=List.mem_filterMap.mp hp
 cases q:h.get? b with
 | none=>rw [q] at e;cases e
 | some o =>
  rw [q] at e
  have e':(b,o)=p:=z1f e
  subst e'
  exact⟨hb,q⟩
def Inv.pinned{pins:List (Addr×Obj)}{σ:St}{H:Hp}{s:Shared}{fp:List Addr}(I:Inv X pins σ H s)(hf:∀b∈fp,iy X pins H b)(ho:∀b∈fp,∃o,s.heap.get? b=some o/\∀v,o.data≠.cell v):Inv X (pins++jj fp s.heap) σ H s :=
 I.y2db λp hp=>(z13.mp hp).elim (λz=>I.pin p (z22 _ z)) λz=>by
  obtain⟨hb,e⟩:=Ar z
  obtain⟨f0,f1,f2,_⟩:=hf p.1 hb
  obtain⟨o,e',d⟩:=ho p.1 hb
  rw [e] at e';cases e'
  exact⟨e,f0,f1,f2,d⟩
def Inv.y432{pins pl:List (Addr×Obj)}{σ:St}{H:Hp}{s:Shared}(I:Inv X (pins++pl) σ H s):Inv X pins σ H s:=I.y2db λp hp=>I.pin p (z22 _ (List.mem_append_left _ hp))
def qL{iter:Expr}{body:List Stmt}{wi:TI}{g:TG}{tb:TS}{pos:Pos}(hp:PassesOwn (model X.prog X.w) X.A X.env X.xe)(hc:X.calm=true)(hi:PI X tg iter wi)(hg:PG X tg g)(hb:dR X body tb)
  (hs:∀x,foldedSetIterable iter X.env x=pure x:=by intro _;rfl):PS X (.For tg iter body [] pos) (nF wi g tb):=by
 intro pins s σ H D I h
 refine wpAny_For (aH (hi pins s σ H _ I h) λv s1 h1=>aH h1 λitv s2 h2=>?_) hs
 obtain⟨it,fp,tn,J,H2,e,I2,T,st2,f2,W,⟨m0,w0⟩,turn⟩:=h2
 subst e
 have stat:∀{H':Hp},(∀b∈fp,H' b=none)->∀b∈fp,iy X pins H' b:=λhn b hb=>⟨hn b hb,(f2 b hb).2⟩
 refine codeAny_forLoop_any (λn s'=>∃i σ' H',Inv X pins σ' H' s'/\tn i s'.heap/\(∀b∈fp,H' b=none)/\W i n σ' H') ?_ m0 ⟨0,σ,H2,I2,st2,λb hb=>(f2 b hb).1,w0⟩
 rintro n s3 ⟨i,σ3,H3,I3,st3,fr3,w3⟩
 rcases turn i n σ3 H3 w3 with⟨stop,qn⟩| ⟨go,N,hN,step⟩
 ·refine wpAny_passesOwn hp (aH (T.done X rfl rfl rfl hc i pins s3 σ3 H3 X.xe I3 (stat fr3) st3 stop) λr s4 zz=>?_)
  obtain⟨hr,I4⟩:=zz
  subst hr
  exact wpAny_execs_nil ⟨σ3,H3,I4,qn⟩
 ·refine wpAny_passesOwn hp (aH (T.item X rfl rfl rfl hc i pins s3 σ3 H3 X.xe I3 (stat fr3) st3 go) λr s4 zz=>?_)
  obtain⟨u,hr,h4⟩:=zz
  subst hr
  refine wpAny_passesOwn hp (aH h4 λ_ s5 zz=>?_)
  obtain⟨x,H5,I5,r5,y5,st5,fr5⟩:=zz
  have I5':=I5.pinned (stat fr5) (T.obj _ _ st5)
  refine wpAny_passesOwn hp (aH (hg _ s5 σ3 H5 x u _ I5' r5 (step x H5 y5)) λ_ s6 zz=>?_)
  obtain⟨σ6,H6,I6,q6⟩:=zz
  refine wpAny_passesOwn hp (aH (hb _ s6 σ6 H6 _ I6 q6) λf s7 q7=>?_)
  have again:∀{σ7:St} {H7:Hp},Inv X (pins++jj fp s5.heap) σ7 H7 s7->N σ7 H7->∃m,m<n/\∃i σ' H',Inv X pins σ' H' s7/\tn i s7.heap/\(∀b∈fp,H' b=none)/\W i m σ' H':=λ{σ7 H7} I7 n7=>by
   obtain⟨m',hm,w7⟩:=hN σ7 H7 n7
   refine⟨m',hm,i+1,σ7,H7,I7.y432,T.keep _ _ _ st5 λb hb o e=>(I7.pin (b,o) (z22 _ (z22 _ (kO hb e)))).1,λb hb=>?_,w7⟩
   obtain⟨o,e,d⟩:=T.obj _ _ st5 b hb
   exact (I7.pin (b,o) (z22 _ (z22 _ (kO hb e)))).2.1
  cases f with
  | next=>obtain⟨σ7,H7,I7,n7⟩:=q7;exact again I7 n7
  | cont=>obtain⟨σ7,H7,I7,n7⟩:=q7;exact again I7 n7
  | brk=>obtain⟨σ7,H7,I7,q7⟩:=q7;exact⟨σ7,H7,I7.y432,q7⟩
  | ret v=>obtain⟨x7,σ7,H7,I7,r7,q7⟩:=q7;exact⟨x7,σ7,H7,I7.y432,r7,q7⟩
end
end
section
noncomputable abbrev R2:=V->V->Hp->VK->Prop
abbrev cf(X:Cx)(f:Value->Value->Sem Value)(r:R2):Prop :=
 ∀(pins:List (Addr×Obj)) (s:Shared) (σ:St) (H:Hp) (x y:V) (v u:Value) (Q:VK),Inv X pins σ H s->aA x v->aA y u->r x y H Q ->
  wpAny (model X.prog X.w) X.A (f v u) (EP X pins σ Q) X.xe s
abbrev yN(X:Cx)(f:Value->Sem Value)(r:V->Hp->VK->Prop):Prop :=
 ∀(pins:List (Addr×Obj)) (s:Shared) (σ:St) (H:Hp) (x:V) (v:Value) (Q:VK),Inv X pins σ H s->aA x v->r x H Q ->
  wpAny (model X.prog X.w) X.A (f v) (EP X pins σ Q) X.xe s
abbrev y6(X:Cx)(f:Value)(r:List V->Hp->VK->Prop):Prop :=
 ∀(pins:List (Addr×Obj)) (s:Shared) (σ:St) (H:Hp) (xs:List V) (us:List Value) (Q:VK),Inv X pins σ H s->au xs us->r xs H Q ->
  wpAny (model X.prog X.w) X.A (call f us) (EP X pins σ Q) X.xe s
abbrev As(X:Cx)(r:V->Hp->(Bool->Hp->Prop)->Prop):Prop :=
 ∀(pins:List (Addr×Obj)) (s:Shared) (σ:St) (H:Hp) (x:V) (v:Value) (Q:Bool->Hp->Prop),Inv X pins σ H s->aA x v->r x H Q ->
  wpAny (model X.prog X.w) X.A (truthy v) (TP X pins σ Q) X.xe s
abbrev mM(r:R2)(ta tb:TE):TE:=λσ H Q=>ta σ H λx H1=>tb σ H1 λy H2=>r x y H2 Q
abbrev tUn(r:V->Hp->VK->Prop)(ta:TE):TE:=λσ H Q=>ta σ H λx H1=>r x H1 Q
abbrev rI(C:Int->Int->Prop)(g:Int->Int->V):R2:=λx y H Q=>∃i j,x=.int i/\y=.int j/\C i j/\Q (g i j) H
abbrev i8(g:Int->Int->V):R2:=λx y H Q=>∃i j,x=.int i/\y=.int j/\Q (g i j) H
abbrev rU(g:Int->V):V->Hp->VK->Prop:=λx H Q=>∃i,x=.int i/\Q (g i) H
section
variable {X:Cx}{a b c:Expr}{ta tb tc:TE}{pos:Pos}
def nG(ha:PE X a ta)(hb:PE X b tb){pins:List (Addr×Obj)}{s:Shared}{σ:St}{H:Hp}{R:V->V->Hp->Prop}(I:Inv X pins σ H s)
  (h:ta σ H λx H1=>tb σ H1 λy H2=>R x y H2) {Q:Value->Shared->Prop} {f:Value->Value->Sem Value}
  (hf:∀v u s2 x y H2,Inv X pins σ H2 s2->aA x v->aA y u->R x y H2->wpAny (model X.prog X.w) X.A (f v u) Q X.xe s2) :
  wpAny (model X.prog X.w) X.A (eval a X.env) (λv s₁=>wpAny (model X.prog X.w) X.A (eval b X.env) (λu s₂=>wpAny (model X.prog X.w) X.A (f v u) Q X.xe s₂) X.xe s₁) X.xe s:=by
 refine aH (ha pins s σ H _ I h) λv s1 zz=>?_
 obtain⟨x,H1,I1,r1,q1⟩:=zz
 refine aH (hb pins s1 σ H1 _ I1 q1) λu s2 zz=>?_
 obtain⟨y,H2,I2,r2,q2⟩:=zz
 exact hf v u s2 x y H2 I2 r1 r2 q2
def qM{op:Operator}{r:R2}(ho:cf X (binaryOp op) r)(ha:PE X a ta)(hb:PE X b tb):PE X (.BinOp a op b pos) (mM r ta tb):=by
 intro pins s σ H Q I h
 exact wpAny_BinOp (nG ha hb I h λv u s2 x y H2 I2 rx ry q=>ho pins s2 σ H2 x y v u Q I2 rx ry q)
def nH{op:UnaryOp}{r:V->Hp->VK->Prop}(ho:yN X (unaryOp op) r)(ha:PE X a ta):PE X (.UnaryOp op a pos) (tUn r ta):=by
 intro pins s σ H Q I h
 exact UnaryOp_ (aH (ha pins s σ H _ I h) λv s1 ⟨x,H1,I1,r1,q1⟩=>ho pins s1 σ H1 x v Q I1 r1 q1)
def qN{f:Value->Value->Sem Value}{C:Int->Int->Prop}{g:Int->Int->Int}
  (rule:∀(i j:Int) (t u:Tok) (s:Shared) (Q:Value->Shared->Prop) (E:Value->Shared->Prop),C i j->Q (.int (g i j) s.toks) { s with toks:=s.toks+1 }->wpAny (model X.prog X.w) X.A (f (.int i t) (.int j u)) Q E s) :
  cf X f (rI C λi j=>.int (g i j)):=by
 intro pins s σ H x y v u Q I rx ry h
 obtain⟨i,j,rfl,rfl,hc,q⟩:=h
 obtain⟨t,rfl⟩:=rx
 obtain⟨t',rfl⟩:=ry
 exact rule i j t t' s _ _ hc ⟨.int (g i j),H,I.tok _,⟨_,rfl⟩,q⟩
def qO{f:Value->Value->Sem Value}{g:Int->Int->Int}
  (rule:∀(i j:Int) (t u:Tok) (s:Shared) (Q:Value->Shared->Prop) (E:Value->Shared->Prop),Q (.int (g i j) s.toks) { s with toks:=s.toks+1 }->wpAny (model X.prog X.w) X.A (f (.int i t) (.int j u)) Q E s) :
  cf X f (i8 λi j=>.int (g i j)):=by
 intro pins s σ H x y v u Q I rx ry h
 obtain⟨i,j,rfl,rfl,q⟩:=h
 obtain⟨t,rfl⟩:=rx
 obtain⟨t',rfl⟩:=ry
 exact rule i j t t' s _ _ ⟨.int (g i j),H,I.tok _,⟨_,rfl⟩,q⟩
def nI{f:Value->Value->Sem Value}{g:Int->Int->Bool}
  (rule:∀(i j:Int) (t u:Tok) (s:Shared) (Q:Value->Shared->Prop) (E:Value->Shared->Prop),Q (.bool (g i j)) s->wpAny (model X.prog X.w) X.A (f (.int i t) (.int j u)) Q E s) :
  cf X f (i8 λi j=>.bl (g i j)):=by
 intro pins s σ H x y v u Q I rx ry h
 obtain⟨i,j,rfl,rfl,q⟩:=h
 obtain⟨t,rfl⟩:=rx
 obtain⟨t',rfl⟩:=ry
 exact rule i j t t' s _ _ ⟨.bl (g i j),H,I,rfl,q⟩
abbrev Au(i j:Int):Prop:=0<j/\j<1073741824
abbrev nJ(i j:Int):Prop:=0≤j/\j≤1000000/\i.natAbs<2 ^ 64
abbrev y4(i j:Int):Prop:=(-(2 ^ 64)<i/\i<2 ^ 64)∨(-(2 ^ 64)<j/\j<2 ^ 64)
def y4.ok{i j:Int}(h:y4 i j):IntMulOk i j:=by
 rcases h with⟨h1,h2⟩| ⟨h1,h2⟩
 ·exact .of_left (intBits_le_64 h1 h2)
 ·exact .of_right (intBits_le_64 h1 h2)
def Av:cf X (binaryOp .Add) (i8 λi j=>.int (i+j)):=qO λ_ _ _ _ _ _ _ q=>add_int q
def Aw:cf X (binaryOp .Sub) (i8 λi j=>.int (i-j)):=qO λ_ _ _ _ _ _ _ q=>sub_int q
def Ax:cf X (binaryOp .Mult) (rI y4 λi j=>.int (i*j)):=qN λ_ _ _ _ _ _ _ hc q=>mul_int q hc.ok
def yO:cf X (binaryOp .FloorDiv) (rI Au λi j=>.int (i / j)):=qN λi j _ _ _ _ _ hc q=>by
 have h1:(0:Int)<j:=hc.1
 have h2:j<1073741824:=hc.2
 exact floordiv_int (by lia) (by rw [Int.fdiv_eq_ediv_of_nonneg i (by lia)];exact q) (.inl (PyProof.noPylong_small (by lia)))
def Ay:cf X (binaryOp .Mod) (rI (λ_ j=>0<j) λi j=>.int (i % j)):=qN λi j _ _ _ _ _ hc q=>by
 have h1:(0:Int)<j:=hc
 exact mod_int' (by lia) (by rw [Int.fmod_eq_emod_of_nonneg i (by lia)];exact q)
def Az:cf X (binaryOp .Pow) (rI nJ λi j=>.int (i ^ j.toNat)):=qN λ_ _ _ _ _ _ _ hc q=>pow_int_small hc.1 hc.2.1 hc.2.2 q
def unI{f:Value->Sem Value}{g:Int->Int}
  (rule:∀(i:Int) (t:Tok) (s:Shared) (Q:Value->Shared->Prop) (E:Value->Shared->Prop),Q (.int (g i) s.toks) { s with toks:=s.toks+1 }->wpAny (model X.prog X.w) X.A (f (.int i t)) Q E s) :
  yN X f (rU λi=>.int (g i)):=by
 intro pins s σ H x v Q I rx h
 obtain⟨i,rfl,q⟩:=h
 obtain⟨t,rfl⟩:=rx
 exact rule i t s _ _ ⟨.int (g i),H,I.tok _,⟨_,rfl⟩,q⟩
def nK:yN X (unaryOp .USub) (rU λi=>.int (-i)):=unI λ_ _ _ _ _ q=>neg_int q
end
abbrev iz:V->V->Bool
 | .non,.non=>true | .non,.int _=>true | .int _,.non=>true | .non,.bl _=>true | .bl _,.non=>true | .non,.str _=>true | .str _,.non=>true
 | .int _,.int _=>true | .bl _,.bl _=>true | .str _,.str _=>true | .byt _,.byt _=>true
 | .int _,.str _=>true | .str _,.int _=>true | .bl _,.str _=>true | .str _,.bl _=>true
 | _,_=>false
abbrev rEq:R2:=λx y H Q=>iz x y=true/\Q (.bl (decide (x=y))) H
abbrev rNe:R2:=λx y H Q=>iz x y=true/\Q (.bl (!decide (x=y))) H
def yeb{i j:Int}:decide (V.int i=V.int j)=(i == j):=by
 rw [Bool.eq_iff_iff]
 simp
def ye9{i j:Bool}:decide (V.bl i=V.bl j)=(i == j):=by
 rw [Bool.eq_iff_iff]
 simp
def yec{i j:Str}:decide (V.str i=V.str j)=(i == j):=by
 rw [Bool.eq_iff_iff]
 simp
def yea{i j:Array UInt8}:decide (V.byt i=V.byt j)=(i.toList == j.toList):=by
 rw [Bool.eq_iff_iff]
 cases i
 cases j
 simp
section
variable {X:Cx}{a b c:Expr}{ta tb tc:TE}{pos:Pos}
def bj{pins:List (Addr×Obj)}{σ:St}{H:Hp}{s:Shared}{Q:VK}{k k':Bool}(I:Inv X pins σ H s)(q:Q (.bl k) H)(e:k=k'):EP X pins σ Q (.bool k') s:=by
 subst e
 exact⟨.bl k,H,I,rfl,q⟩
def qP:cf X (compareOp .Eq) rEq:=by
 intro pins s σ H x y v u Q I rx ry h
 obtain⟨hs,q⟩:=h
 cases x with
 | non =>
  cases rx
  cases y with
  | non=>cases ry;exact PySem.EqNone.eq_none_none (bj I q (by simp))
  | bl j=>cases ry;exact PySem.EqNone.eq_none_bool (bj I q (by simp))
  | int j=>obtain⟨t',rfl⟩:=ry;exact PySem.EqNone.eq_none_int (bj I q (by simp))
  | str j=>obtain⟨t',rfl⟩:=ry;exact PySem.EqNone.eq_none_str (bj I q (by simp))
  | _=>exact absurd (show false=true from hs) z15
 | bl i =>
  cases rx
  cases y with
  | non=>cases ry;exact PySem.EqNone.eq_bool_none (bj I q (by simp))
  | bl j=>cases ry;exact eq_bool (bj I q ye9)
  | str j=>obtain⟨t',rfl⟩:=ry;exact PySem.EqMixed.eq_bool_str (bj I q (by simp))
  | _=>exact absurd (show false=true from hs) z15
 | int i =>
  obtain⟨t,rfl⟩:=rx
  cases y with
  | non=>cases ry;exact PySem.EqNone.eq_int_none (bj I q (by simp))
  | int j=>obtain⟨t',rfl⟩:=ry;exact eq_int (bj I q yeb)
  | str j=>obtain⟨t',rfl⟩:=ry;exact PySem.EqMixed.eq_int_str (bj I q (by simp))
  | _=>exact absurd (show false=true from hs) z15
 | str i =>
  obtain⟨t,rfl⟩:=rx
  cases y with
  | non=>cases ry;exact PySem.EqNone.eq_str_none (bj I q (by simp))
  | bl j=>cases ry;exact PySem.EqMixed.eq_str_bool (bj I q (by simp))
  | int j=>obtain⟨t',rfl⟩:=ry;exact PySem.EqMixed.eq_str_int (bj I q (by simp))
  | str j=>obtain⟨t',rfl⟩:=ry;exact eq_str (bj I q yec)
  | _=>exact absurd (show false=true from hs) z15
 | byt i =>
  obtain⟨t,rfl⟩:=rx
  cases y with
  | byt j=>obtain⟨t',rfl⟩:=ry;exact W.eq_bytes (bj I q yea)
  | _=>exact absurd (show false=true from hs) z15
 | _=>cases y<;>exact absurd (show false=true from hs) z15
def qQ:cf X (compareOp .NotEq) rNe:=by
 intro pins s σ H x y v u Q I rx ry h
 obtain⟨hs,q⟩:=h
 cases x with
 | non =>
  cases rx
  cases y with
  | non=>cases ry;exact PySem.EqNone.ne_none_none (bj I q (by simp))
  | bl j=>cases ry;exact PySem.EqNone.ne_none_bool (bj I q (by simp))
  | int j=>obtain⟨t',rfl⟩:=ry;exact PySem.EqNone.ne_none_int (bj I q (by simp))
  | str j=>obtain⟨t',rfl⟩:=ry;exact PySem.EqNone.ne_none_str (bj I q (by simp))
  | _=>exact absurd (show false=true from hs) z15
 | bl i =>
  cases rx
  cases y with
  | non=>cases ry;exact PySem.EqNone.ne_bool_none (bj I q (by simp))
  | bl j=>cases ry;exact ne_bool (bj I q (congrArg not ye9))
  | str j=>obtain⟨t',rfl⟩:=ry;exact PySem.EqMixed.ne_bool_str (bj I q (by simp))
  | _=>exact absurd (show false=true from hs) z15
 | int i =>
  obtain⟨t,rfl⟩:=rx
  cases y with
  | non=>cases ry;exact PySem.EqNone.ne_int_none (bj I q (by simp))
  | int j=>obtain⟨t',rfl⟩:=ry;exact ne_int (bj I q (congrArg not yeb))
  | str j=>obtain⟨t',rfl⟩:=ry;exact PySem.EqMixed.ne_int_str (bj I q (by simp))
  | _=>exact absurd (show false=true from hs) z15
 | str i =>
  obtain⟨t,rfl⟩:=rx
  cases y with
  | non=>cases ry;exact PySem.EqNone.ne_str_none (bj I q (by simp))
  | bl j=>cases ry;exact PySem.EqMixed.ne_str_bool (bj I q (by simp))
  | int j=>obtain⟨t',rfl⟩:=ry;exact PySem.EqMixed.ne_str_int (bj I q (by simp))
  | str j=>obtain⟨t',rfl⟩:=ry;exact ne_str (bj I q (congrArg not yec))
  | _=>exact absurd (show false=true from hs) z15
 | byt i =>
  obtain⟨t,rfl⟩:=rx
  cases y with
  | byt j=>obtain⟨t',rfl⟩:=ry;exact W.ne_bytes (bj I q (congrArg not yea))
  | _=>exact absurd (show false=true from hs) z15
 | _=>cases y<;>exact absurd (show false=true from hs) z15
def qR:cf X (compareOp .Lt) (i8 λi j=>.bl (decide (i<j))):=nI λ_ _ _ _ _ _ _ q=>lt_int q
def qS:cf X (compareOp .Gt) (i8 λi j=>.bl (decide (j<i))):=nI λ_ _ _ _ _ _ _ q=>gt_int q
def qT:cf X (compareOp .GtE) (i8 λi j=>.bl (decide (j≤i))):=nI λ_ _ _ _ _ _ _ q=>ge_int q
def cf.or{f:Value->Value->Sem Value}{r r':R2}(h:cf X f r)(h':cf X f r'):cf X f (λx y H Q=>r x y H Q∨r' x y H Q):=by
 intro pins s σ H x y v u Q I rx ry q
 rcases q with q|q
 ·exact h pins s σ H x y v u Q I rx ry q
 ·exact h' pins s σ H x y v u Q I rx ry q
def iA(b:Expr){op:CmpOp}(h:op≠.In:=by decide)(h2:op≠.NotIn:=by decide):behindInMarks op b=false:=by
 have e1:(op == CmpOp.In)=false:=by cases op<;>first|rfl|exact absurd rfl h
 have e2:(op == CmpOp.NotIn)=false:=by cases op<;>first|rfl|exact absurd rfl h2
 cases b<;>simp [behindInMarks,e1,e2]
def qU{op:CmpOp}{r:R2}(ho:cf X (compareOp op) r)(ha:PE X a ta)(hb:PE X b tb)(hm:behindInMarks op b=false):PE X (.Compare a [op] [b] pos) (mM r ta tb):=by
 intro pins s σ H Q I h
 exact wpAny_Compare1 (nG ha hb I h λv u s2 x y H2 I2 rx ry q=>ho pins s2 σ H2 x y v u Q I2 rx ry q) hm
abbrev qV(t:TE):TT:=λσ H Q=>t σ H λx H'=>∃k,x=.bl k/\Q k H'
def kP{op:CmpOp}{r:R2}(ho:cf X (compareOp op) r)(ha:PE X a ta)(hb:PE X b tb)(hm:behindInMarks op b=false):PT X (.Compare a [op] [b] pos) (qV (mM r ta tb)):=by
 intro pins s σ H Q I h
 refine wpAny_isTrue_Compare1 (aH (ha pins s σ H _ I h) λv s1 ⟨x,H1,I1,r1,q1⟩=>aH (hb pins s1 σ H1 _ I1 q1) λu s2 ⟨y,H2,I2,r2,q2⟩ =>
  aH (ho pins s2 σ H2 x y v u _ I2 r1 r2 q2) λc s3 ⟨z,H3,I3,r3,k,e,q3⟩=>?_) hm
 subst e
 cases r3
 exact wpAny_truthy_bool ⟨H3,I3,q3⟩
abbrev qW(K:W.Frag)(x:V)(H:Hp)(k:Bool):Prop :=
 match x with
 | .non=>k=false
 | .bl b=>k=b
 | .int i=>k=(i != 0)
 | .str y=>y.length≤sizeLine/\k=((y.length:Int) != 0)
 | .byt y=>y.size≤sizeLine/\k=((y.size:Int) != 0)
 | .ref p=>(∃xs,bL K H p xs/\k=!xs.isEmpty)∨(∃xs,bq K H p xs/\k=!xs.isEmpty)∨∃kvs,H p=some (.dK kvs)/\k=!kvs.isEmpty
 | _=>False
def AA{κ:Type}{kvs:List (κ×V)}{vs:List (κ×Value)}(r:KV kvs vs):(!vs.isEmpty)=!kvs.isEmpty:=by
 cases r<;>rfl
def qX{xs:List V}{its:List Value}(r:au xs its):(!its.toArray.isEmpty)=!xs.isEmpty:=by
 cases r<;>simp
def gG:(sizeLine:Nat)<2 ^ 63:=by rw [sizeLine_eq];decide
def AB:As X (λx H Q=>∃k,qW X.K x H k/\Q k H):=by
 intro pins s σ H x v Q I rx h
 obtain⟨k,e,q⟩:=h
 have hl:=gG
 have hs:sizeLine=16777216:=sizeLine_eq
 cases x with
 | non =>
  cases rx
  have e':k=false:=e
  subst e'
  exact truthy_none ⟨H,I,q⟩
 | bl b =>
  cases rx
  have e':k=b:=e
  subst e'
  exact wpAny_truthy_bool ⟨H,I,q⟩
 | int i =>
  obtain⟨t,rfl⟩:=rx
  have e':k=(i != 0):=e
  subst e'
  exact PySem.P.truthy_int ⟨H,I,q⟩
 | str y =>
  obtain⟨t,rfl⟩:=rx
  obtain⟨hy,e'⟩:y.length≤sizeLine/\k=((y.length:Int) != 0):=e
  subst e'
  exact PySem.P.truthy_str (by lia) ⟨H,I.tok _,q⟩
 | byt y =>
  obtain⟨t,rfl⟩:=rx
  obtain⟨hy,e'⟩:y.size≤sizeLine/\k=((y.size:Int) != 0):=e
  subst e'
  exact W.truthy_bytes (by lia) ⟨H,I.tok _,q⟩
 | ref p =>
  cases rx
  have e':(∃xs,bL X.K H p xs/\k=!xs.isEmpty)∨(∃xs,bq X.K H p xs/\k=!xs.isEmpty)∨∃kvs,H p=some (.dK kvs)/\k=!kvs.isEmpty:=e
  rcases e' with⟨xs,hx,e'⟩| ⟨xs,hx,e'⟩| ⟨kvs,hx,e'⟩
  ·subst e'
   obtain⟨its,r,pl,hz⟩:=I.list hx
   have hlen:=r.length
   exact wpAny_truthy_list pl.isList (by simp only [zc];lia) ⟨H,I.tok _,by rw [qX r];exact q⟩
  ·subst e'
   obtain⟨its,r,pl,hz⟩:=I.tuple hx
   have hlen:=r.length
   exact truthy_tuple pl (by simp only [zc];lia) ⟨H,I.tok _,by rw [qX r];exact q⟩
  ·subst e'
   obtain⟨hz,hS,vs,r,m⟩:kvs.length≤sizeLine/\(p == sysModules)=false/\∃vs,KV kvs vs/\s.heap.DictOf (cQ X.prog X.w) p vs:=I.hok p _ hx
   have hlen:kvs.length=vs.length:=Paired.length r
   exact wpAny_truthy_dict hS m (by lia) ⟨H,I.tok _,by rw [AA r];exact q⟩
 | _=>exact (show False from e).elim
def AD(ha:PE X a ta)(he:∀whole,isTrue a X.env whole=(do let v <- whole;standAt a.pos;holding [v] (truthy v))) :
  PT X a (λσ H Q=>ta σ H λx H'=>∃k,qW X.K x H' k/\Q k H'):=by
 intro pins s σ H Q I h
 exact isTrue_plain (aH (ha pins s σ H _ I h) λv s1 ⟨x,H1,I1,r1,q1⟩=>AB pins s1 σ H1 x v Q I1 r1 q1) (he _)
def AE:cf X (binaryOp .Add) (λx y H Q=>∃i j,x=.str i/\y=.str j/\i.length+j.length≤sizeLine/\Q (.str (i++j)) H):=by
 intro pins s σ H x y v u Q I rx ry h
 obtain⟨i,j,rfl,rfl,hz,q⟩:=h
 obtain⟨t,rfl⟩:=rx
 obtain⟨t',rfl⟩:=ry
 exact add_str (λt' tk=>⟨.str (i++j),H,I.tok _,⟨_,rfl⟩,q⟩) hz
def dE{x:V}{us:List Value}(r:au [x] us):∃u,us=[u]/\aA x u:=by
 cases r with
 | cons r1 r2=>cases r2;exact⟨_,rfl,r1⟩
def qY{x y:V}{us:List Value}(r:au [x,y] us):∃u w',us=[u,w']/\aA x u/\aA y w':=by
 cases r with
 | cons r1 r2 =>
  cases r2 with
  | cons r3 r4=>cases r4;exact⟨_,_,rfl,r1,r3⟩
def yac(hc:X.calm=true):y6 X (.builtin "max") (λxs H Q=>∃i j,xs=[.int i,.int j]/\Q (.int (if j>i then j else i)) H):=by
 intro pins s σ H xs us Q I r h
 obtain⟨i,j,rfl,q⟩:=h
 obtain⟨u,w',rfl,⟨t,rfl⟩,⟨t',rfl⟩⟩:=qY r
 refine max_two_ints (I.ok.hd hc) λh' tk k=>⟨_,H,I.kept k,?_,q⟩
 by_cases hj:j>i
 ·rw [if_pos hj,if_pos hj];exact⟨_,rfl⟩
 ·rw [if_neg hj,if_neg hj];exact⟨_,rfl⟩
def ya5:y6 X (.type "int") (λxs H Q=>(∃i,xs=[.int i]/\Q (.int i) H)∨∃k,xs=[.bl k]/\Q (.int (if k then 1 else 0)) H):=by
 intro pins s σ H xs us Q I r h
 rcases h with⟨i,rfl,q⟩| ⟨k,rfl,q⟩
 ·obtain⟨u,rfl,t,rfl⟩:=dE r
  exact call_int_int ⟨.int i,H,I,⟨_,rfl⟩,q⟩
 ·obtain⟨u,rfl,r1⟩:=dE r
  cases r1
  exact call_int_bool ⟨.int (if k then 1 else 0),H,I.tok _,⟨_,rfl⟩,q⟩
end
end
section
structure ObjM(h:Heap)(x dx C:Addr)(mA:Str->Option Value):Prop where
 obj:h.get? x=some (W.instObj C dx)
 ns:h.Ns1 dx mA
 ne:dx≠x
def kQ{h:Heap}{dx:Addr}{mA:Str->Option Value}(n:h.Ns1 dx mA):∃od,h.get? dx=some od/\∀name,W.lookIn name od=some (mA name):=by
 obtain⟨o,es,ep,ho,hd,hk,_,hm⟩:=n
 refine⟨o,ho,λname=>?_⟩
 have e:=hm name
 unfold nsFind findBy at e
 rw [<- Array.find?_toList] at e
 unfold W.lookIn
 rw [hd]
 dsimp only
 split
 ·rename_i y q
  rw [q] at e
  exact congrArg some e
 ·rename_i q
  rw [q] at e
  have a:es.toList.any (·.refKey)=false:=by
   rw [List.any_eq_false]
   intro y hy
   obtain⟨z,t,hkey⟩:=hk y (Array.mem_toList_iff.mp hy)
   simp [DictEntry.refKey,hkey]
  have a':¬ es.toList.any (·.refKey)=true:=by rw [a];exact z15
  rw [if_neg a']
  exact congrArg some e
section
variable {prog:Program}{w:World}{A:Around}{E:Value->Shared->Prop}{s:Shared}{K:W.Frag}{x dx C f:Addr}{mA:Str->Option Value}{name:Str}{v:Value}
end
abbrev cR(f:Str)(v:V):List (Str×V)->List (Str×V)
 | []=>[(f,v)]
 | (g,x)::r=>if g=f then (g,v)::r else (g,x)::cR f v r
theorem qZ(f g:Str)(v:V):∀fs:List (Str×V),(cR f v fs).lookup g=if g=f then some v else fs.lookup g
 | []=>by
  show List.lookup g [(f,v)]=_
  by_cases h:g=f
  ·have hb:(g == f)=true:=beq_iff_eq.mpr h
   simp only [List.lookup,hb,if_pos h]
  ·have hb:(g == f)=false:=beq_eq_false_iff_ne.mpr h
   simp only [List.lookup,hb,if_neg h]
 | (k,x)::r=>by
  have ih:=qZ f g v r
  rw [show cR f v ((k,x)::r)=(if k=f then (k,v)::r else (k,x)::cR f v r) from rfl]
  by_cases hk:k=f
  ·rw [if_pos hk]
   by_cases h:g=k
   ·have hb:(g == k)=true:=beq_iff_eq.mpr h
    simp only [List.lookup,hb,if_pos (h.trans hk)]
   ·have hb:(g == k)=false:=beq_eq_false_iff_ne.mpr h
    simp only [List.lookup,hb,if_neg (λe:g=f=>h (e.trans hk.symm))]
  ·rw [if_neg hk]
   by_cases h:g=k
   ·have hb:(g == k)=true:=beq_iff_eq.mpr h
    simp only [List.lookup,hb,if_neg (λe:g=f=>hk (h.symm.trans e))]
   ·have hb:(g == k)=false:=beq_eq_false_iff_ne.mpr h
    simp only [List.lookup,hb]
    exact ih
theorem nL(f:Str)(v:V):∀fs:List (Str×V),f∈(cR f v fs).map (·.1)/\∀g,g∈fs.map (·.1)->g∈(cR f v fs).map (·.1)
 | []=>⟨by simp [cR],λg h=>by simp at h⟩
 | (k,x)::r=>by
  obtain⟨i1,i2⟩:=nL f v r
  rw [show cR f v ((k,x)::r)=(if k=f then (k,v)::r else (k,x)::cR f v r) from rfl]
  by_cases hk:k=f
  ·rw [if_pos hk]
   subst hk
   exact⟨by simp,λg h=>by simpa using h⟩
  ·rw [if_neg hk]
   refine⟨?_,λg h=>?_⟩
   ·rw [z16]
    exact z23 _ i1
   ·rw [z16] at h ⊢
    rcases z1e.mp h with e|e
    ·exact z1e.mpr (.inl e)
    ·exact z23 _ (i2 g e)
theorem q5(f:Str)(v:V):∀fs:List (Str×V),(cR f v fs).length≤fs.length+1
 | []=>by simp [cR]
 | (k,x)::r=>by
  have ih:=q5 f v r
  rw [show cR f v ((k,x)::r)=(if k=f then (k,v)::r else (k,x)::cR f v r) from rfl]
  by_cases hk:k=f
  ·rw [if_pos hk,z11,z11];lia
  ·rw [if_neg hk,z11,z11];lia
def h9.some_of{v:V}{o:Option Value}(r:h9 (some v) o):∃u,o=some u/\aA v u:=by
 cases o with
 | none=>exact (show False from r).elim
 | some u=>exact⟨u,rfl,r⟩
def AF{v:V}{u:Value}(r:aA v u):W.handedIn u=true:=by
 cases v with
 | non=>cases (show u=Value.none from r);rfl
 | bl b=>cases (show u=Value.bool b from r);rfl
 | int i=>obtain⟨t,e⟩:=(show ∃t,u=Value.int i t from r);cases e;rfl
 | str x=>obtain⟨t,e⟩:=(show ∃t,u=Value.str x t from r);cases e;rfl
 | byt b=>obtain⟨t,e⟩:=(show ∃t,u=Value.bytes b t from r);cases e;rfl
 | flt b=>obtain⟨t,e⟩:=(show ∃t,u=Value.float b t from r);cases e;rfl
 | ref a=>cases (show u=Value.ref a from r);rfl
 | ty n=>cases (show u=Value.type n from r);rfl
section
variable {P:Program}{w:World}{H H':Hp}{h h':Heap}{a C dx:Addr}{fs fs':List (Str×V)}
end
structure Cls(K:W.Frag)(C:Addr):Prop where
 pg:W.plainGet K C Str.empty=true
 hd:W.hasDictIn K C=true
 po:W.plainOver K C=true
 sa:W.findIn K (.ref C) "__setattr__" = some (some (.builtin "object.__setattr__"))
abbrev ib(K:W.Frag)(C:Addr)(f:Str):Prop:=W.findIn K (.ref C) f=some none
structure Con(K:W.Frag)(C:Addr)(f:Str)(v:V)(u:Value):Prop where
 at_:W.findIn K (.ref C) f=some (some u)
 rel:aA v u
 get:W.specialIn K u "__get__" = some none
 cp:W.copiedNames.contains f=false
structure Meth(K:W.Frag)(C:Addr)(m:Str)(f:Addr):Prop where
 at_:W.findIn K (.ref C) m=some (some (.ref f))
 fn:W.isFn K (.ref f)=true
 kp:W.keepIn K (.ref f)=true
section
variable {X:Cx}{pins:List (Addr×Obj)}{σ:St}{H:Hp}{s:Shared}{a C dx:Addr}{fs:List (Str×V)}{f:Str}{v:V}{A:Around}{E:Value->Shared->Prop}
def y7d{prog:Program}{w:World}{env:Env}{e:Expr}{f:Str}{pos:Pos}{s:Shared}{Q:Value->Shared->Prop}(hb:attributeBase e f env (eval e env)=eval e env)
  (h:wpAny (model prog w) A (eval e env) (λo s₁=>wpAny (model prog w) A (getAttr o f true) Q E s₁) E s):wpAny (model prog w) A (eval (.Attribute e f pos) env) Q E s :=
 Attribute_any_ h (by rw [arm_eval_Attribute,hb])
end
section
variable {X:Cx}{o e value:Expr}{f:Str}{pos pos' tpos:Pos}{ta tv:TE}
end
section
variable {X:Cx}{pins:List (Addr×Obj)}{σ:St}{H:Hp}{s:Shared}{A:Around}{E:Value->Shared->Prop}{Q:Value->Shared->Prop}{c:Value}{b:Bool}
inductive y5a(K:W.Frag)(H:Hp):V->Value->Prop where
 | non:y5a K H .non (.type "NoneType")
 | bl (x:Bool):y5a K H (.bl x) (.type "bool")
 | int (i:Int):y5a K H (.int i) (.type "int")
 | str (x:Str):y5a K H (.str x) (.type "str")
 | flt (x:UInt64):y5a K H (.flt x) (.type "float")
 | lst {a:Addr} {xs:List V} (e:H a=some (.lst xs)):y5a K H (.ref a) (.type "list")
 | frz {a:Addr} {o:Obj} {xs:List V} (e:H a=some (.frz o (.lst xs))):y5a K H (.ref a) (.type "list")
 | tup {a:Addr} {xs:List V} (e:H a=some (.tup xs)):y5a K H (.ref a) (.type "tuple")
 | dK {a:Addr} {kvs:List (aI×V)} (e:H a=some (.dK kvs)):y5a K H (.ref a) (.type "dict")
 | dT {a:Addr} {kvs:List (List aI×V)} (e:H a=some (.dT kvs)):y5a K H (.ref a) (.type "dict")
 | ins {a C dx:Addr} {fs:List (Str×V)} (e:H a=some (.ins C dx fs)) (cl:Cls K C) (ha:W.findIn K (.ref C) "__class__" = some (some (.builtin "object.__class__")))
   (hn:W.specialIn K (.builtin "object.__class__") "__get__" = some (some (.builtin "getset_descriptor.__get__"))) (htk:W.takesIn K (.builtin "object.__class__")=some true)
   (hm:W.mroIn K C (.type "object")=some true):y5a K H (.ref a) (.ref C)
end
end
section
structure y54(k:Nat)(A:Around):Prop where
 hd:A.handled=none
 dp:A.depth+3*k+5<recursionLimit
 un:A.units+16*k+200<cLine
 gd:A.guards=some []
def y54.mono{j k:Nat}{A:Around}(r:y54 k A)(h:j≤k):y54 j A:=⟨r.hd,by have:=r.dp;lia,by have:=r.un;lia,r.gd⟩
theorem y54.deeper{k:Nat}{A:Around}(r:y54 (k+1) A)(env:Env):y54 k (A.deeper env) :=
 ⟨r.hd,by have:=r.dp;show A.depth+1+3*k+5<_;lia,by have:=r.un;show A.units+3+16*k+200<_;lia,r.gd⟩
def AG{A:Around}{C:Addr}{us:List Value}{kw:List (Str×Value)}:(A.under (.builtin "type.__call__" ⟨.ref C::us,kw⟩)).depth=A.depth+1:=by
 first|rfl|simp [Around.under,Code.weight,Code.isCreation,Code.isGuard,Code.isCaller,Code.frames,Code.isFrame,guardIds]
def AH{A:Around}{C:Addr}{us:List Value}{kw:List (Str×Value)}:(A.under (.builtin "type.__call__" ⟨.ref C::us,kw⟩)).units=A.units+1:=by
 first|rfl|simp [Around.under,Code.cUnits,Code.frames,Code.isFrame]
def y54.make{k:Nat}{A:Around}(r:y54 (k+1) A)(C:Addr)(us:List Value)(kw:List (Str×Value)):y54 k (A.under (.builtin "type.__call__" ⟨.ref C::us,kw⟩)) :=
 ⟨r.hd,by have:=r.dp;rw [AG];lia,by have:=r.un;rw [AH];lia,by have:=r.gd;first|exact this|simpa [Around.under,Code.guards,Code.isGuard,guardIds,pushGuards] using this⟩
theorem y54.depth{k:Nat}{A:Around}(r:y54 k A):A.depth<recursionLimit:=by have:=r.dp;lia
theorem y54.units{k:Nat}{A:Around}(r:y54 k A):A.units+64<cLine:=by have:=r.un;lia
abbrev iB:TA:=λ_ H Q=>Q [] H
abbrev dS(ta:TE)(tr:TA):TA:=λσ H Q=>ta σ H λx H1=>tr σ H1 λxs H2=>Q (x::xs) H2
section
variable {X:Cx}{e:Expr}{es:List Expr}{te:TE}{t:TA}{pos:Pos}
def eL:PA X [] iB:=λ_ _ _ _ H Q I h=>Calls.spliced_nil ⟨[],H,I,.nil,h⟩
def ck(ha:PE X e te)(hr:PA X es t)(hs:‹starEach (e::es) X.env=(false,eval e X.env)::starEach es X.env›):PA X (e::es) (dS te t):=by
 intro pos pins s σ H Q I h
 rw [hs]
 show wpAny _ _ (spliced ((false,eval e X.env)::backTo pos (starEach es X.env))) _ _ s
 refine Calls.spliced_cons (aH (ha pins s σ H _ I h) λu s1 zz=>?_)
 obtain⟨x,H1,I1,r1,q1⟩:=zz
 exact aH (hr pos pins s1 σ H1 _ I1 q1) λus s2 ⟨xs,H2,I2,r2,q2⟩=>⟨x::xs,H2,I2,.cons r1 r2,q2⟩
abbrev kR(t:TA):TE:=λσ H Q=>t σ H λxs H1=>xs.length≤sizeLine/\∀p,H1 p=none->Q (.ref p) (upd H1 p (.tup xs))
abbrev AI(t:TA):TE:=λσ H Q=>t σ H λxs H1=>xs.length≤sizeLine/\∀p,H1 p=none->Q (.ref p) (upd H1 p (.lst xs))
def jk{x1}(h:PA X es t):PE X (.Tuple es x1 pos) (kR t):=by
 intro pins s σ H Q I hq
 refine wpAny_Tuple_spliced (aH (h pos pins s σ H _ I hq) λus s1 ⟨xs,H1,I1,r,z,q⟩=>⟨by rw [<- r.length];exact z,?_⟩)
 have hf:H1 s1.heap.objs.size=none:=I1.hok.fresh (ze _)
 refine⟨.ref s1.heap.objs.size,upd H1 s1.heap.objs.size (.tup xs),I1.laid (t':=s1.toks) (λb u e=>zf _ e) (ze _) ?_,rfl,q _ hf⟩
 exact⟨z,us,r,ku.mk' _ _⟩
def AJ(h:PA X es t):PE X (.List es pos) (AI t):=by
 intro pins s σ H Q I hq
 refine wpAny_List_spliced (aH (h pos pins s σ H _ I hq) λus s1 ⟨xs,H1,I1,r,z,q⟩=>⟨by rw [<- r.length];exact z,?_⟩)
 have hf:H1 s1.heap.objs.size=none:=I1.hok.fresh (ze _)
 refine⟨.ref s1.heap.objs.size,upd H1 s1.heap.objs.size (.lst xs),I1.laid (t':=s1.toks) (λb u e=>zf _ e) (ze _) ?_,rfl,q _ hf⟩
 exact⟨z,us,0,r,z28 _ rfl⟩
end
noncomputable abbrev Sp:=List V->Hp->VK->XK->Prop
noncomputable abbrev gH:=List Env->Hp->Shared->XK->Value->Shared->Prop
structure y12(P:Program)(w:World)(K:W.Frag)(mg:Str->Option Value)(base:Heap)(A:Around)(outer:List Env)(s:Shared)(H:Hp):Prop where
 frames:A.frames=some outer
 mod:Mod K mg base
 bs:∀b o,base.get? b=some o->s.heap.get? b=some o/\H b=none
 bsz:base.objs.size≤s.heap.objs.size
 y152:s.heap.FunFrames base outer
 frf:∀b∈fP outer,H b=none
 hok:cO P w H s.heap
 bare:AllBare s.gens
abbrev CE(outer:List Env)(P:Program)(w:World)(H:Hp)(s:Shared)(Q:VK)(u:Value)(s':Shared):Prop :=
 ∃v H',s'.os=s.os/\AllBare s'.gens/\Un (fP outer) [] H H' s.heap s'.heap/\cO P w H' s'.heap/\aA v u/\Q v H'
abbrev CR(CX:gH)(outer:List Env)(P:Program)(w:World)(H:Hp)(s:Shared)(Q:VK)(E:XK)(r:Result)(s':Shared):Prop :=
 match r with
 | .ok (.ret u)=>CE outer P w H s Q u s'
 | .ok _=>False
 | .error e=>CX outer H s E e s'
structure y46(P:Program)(w:World)(K:W.Frag)(mg:Str->Option Value)(base:Heap)(CX:gH)(k:Nat)(f:Addr)(fd:FuncData)(ps:List Str)(sp:Sp):Prop where
 len:∀vs H Q E,sp vs H Q E->vs.length=ps.length
 run:∀(A:Around) (outer:List Env) (s:Shared) (H:Hp) (args:Args) (us:List Value) (vs:List V) (Q:VK) (E:XK),y54 k A->y12 P w K mg base A outer s H->BindsTo s fd args (ps.zip us)->au vs us->sp vs H Q E ->
  codeAny (model P w) A (.call (.ref f) args) (CR CX outer P w H s Q E) s
def y46.imp{P:Program}{w:World}{K:W.Frag}{mg:Str->Option Value}{base:Heap}{CX:gH}{k:Nat}{f:Addr}{fd:FuncData}{ps:List Str}{sp sp':Sp}(F:y46 P w K mg base CX k f fd ps sp)
  (h:∀vs H Q E,sp' vs H Q E->sp vs H Q E):y46 P w K mg base CX k f fd ps sp' :=
 ⟨λvs H Q E q=>F.len vs H Q E (h _ _ _ _ q),λA outer s H args us vs Q E hr he hb hv hs=>F.run A outer s H args us vs Q E hr he hb hv (h _ _ _ _ hs)⟩
def y12.make{P:Program}{w:World}{K:W.Frag}{mg:Str->Option Value}{base:Heap}{A:Around}{outer:List Env}{s:Shared}{H:Hp}(e:y12 P w K mg base A outer s H)(C:Addr)(us:List Value)(kw:List (Str×Value)) :
  y12 P w K mg base (A.under (.builtin "type.__call__" ⟨.ref C::us,kw⟩)) outer s H:=⟨by first|exact e.frames|(simpa [Around.under,Code.envs,Code.isFrame,pushEnvs] using e.frames),e.mod,e.bs,e.bsz,e.y152,e.frf,e.hok,e.bare⟩
section
variable {X:Cx}{pins:List (Addr×Obj)}{σ:St}{H:Hp}{s s':Shared}
def Inv.env0(I:Inv X pins σ H s):y12 X.prog X.w X.K X.mg X.base X.A X.stack s H :=
 ⟨I.ok.frames,I.ok.mod,I.bs,z1b I.ok.bsz I.sz,I.stack,I.y3da,I.hok,I.bare⟩
def Inv.after{Q:VK}{u:Value}(I:Inv X pins σ H s)(h:CE X.stack X.prog X.w H s Q u s'):EP X pins σ Q u s':=by
 obtain⟨v,H',os,bare,un,hok,r,q⟩:=h
 obtain⟨hh,g,d,t,os'⟩:=s'
 obtain rfl:os'=s.os:=os
 exact⟨v,H',I.call (h':=hh) (g':=g) (d':=d) (t':=t) (ch:=[]) un hok bare (λb z=>absurd z (by simp)),r,q⟩
end
abbrev fg(sp:Sp)(dvs:List V)(E:XK)(t:TA):TE:=λσ H Q=>t σ H λvs H1=>sp (vs++dvs) H1 Q E
abbrev cW(K:W.Frag)(fd:FuncData)(ps:List Str)(ds:List Value):Prop :=
 ∀(s:Shared) (us:List Value),K.In s.heap->(us++ds).length=ps.length->BindsTo s fd ⟨us,[]⟩ (ps.zip (us++ds))
def cW.all{K:W.Frag}{fd:FuncData}{ps:List Str}(h:∀us:List Value,us.length=ps.length->bindArgs fd ⟨us,[]⟩=pure (ps.zip us)):cW K fd ps []:=λs us _ hl=>by
 rw [z10] at hl ⊢
 exact .of_eq (h us hl)
abbrev bM(CX:gH)(X:Cx)(E:XK):Prop:=∀(pins:List (Addr×Obj)) (σ:St) (H:Hp) (s:Shared) (e:Value) (s':Shared),Inv X pins σ H s->CX X.stack H s E e s'->X.xe e s'
section
variable {X:Cx}{CX:gH}{k:Nat}{f C:Addr}{fd:FuncData}{ps:List Str}{sp:Sp}{dvs:List V}{ds:List Value}{E:XK}{x m:Str}{p pos apos:Pos}{e o:Expr}{es:List Expr}{ta:TE}{t:TA}
def AK{pins:List (Addr×Obj)}{σ:St}{H:Hp}{s:Shared}{Q:VK}{us:List Value}{vs:List V}(F:y46 X.prog X.w X.K X.mg X.base CX k f fd ps sp)(hr:y54 k X.A)(hb:cW X.K fd ps ds)(hd:au dvs ds)(hx:bM CX X E)
  (I:Inv X pins σ H s) (r:au vs us) (h:sp (vs++dvs) H Q E):wpAny (model X.prog X.w) X.A (call (.ref f) us) (EP X pins σ Q) X.xe s:=by
 have r2:au (vs++dvs) (us++ds):=r.append hd
 have hl:(us++ds).length=ps.length:=by rw [<- r2.length];exact F.len _ _ _ _ h
 refine wpAny_call (codeAny_mono (F.run X.A X.stack s H ⟨us,[]⟩ (us++ds) (vs++dvs) Q E hr I.env0 (hb s us I.kIn hl) r2 h) λr s' hq=>?_)
 cases r with
 | error e=>exact hx pins σ H s e s' I hq
 | ok fl =>
  cases fl with
  | ret u=>exact I.after hq
  | next=>exact False.elim hq
  | brk=>exact False.elim hq
  | cont=>exact False.elim hq
noncomputable abbrev gI(X:Cx)(e:Expr)(es:List Expr):Prop:=starEach (e::es) X.env=(false,eval e X.env)::starEach es X.env
noncomputable abbrev gB(X:Cx)(pos:Pos)(es:List Expr):Prop:=(backTo pos (starEach es X.env)).any (·.1)=false
def nM(F:y46 X.prog X.w X.K X.mg X.base CX k f fd ps sp)(hr:y54 k X.A)(hg:Gl X x)(hm:X.mg x=some (.ref f))(hk:W.keepIn X.K (.ref f)=true)(hb:cW X.K fd ps ds)(hd:au dvs ds)(hx:bM CX X E)
  (ha:PA X (e::es) t) (hdb:(x == ("__debug__" : Str))=false:=by decide) (he:‹gI X e es›) (hpl:‹gB X pos es›) :
  PE X (.Call (.Name x p) (e::es) [] pos) (fg sp dvs E t):=by
 intro pins s σ H Q I h
 refine wpAny_Call_Name_kw (jf I hg hm ?_ hdb)
 refine W.callWith_K (h₀:=X.base) I.ok.mod.kin hk (aH (ha pos pins s σ H _ I h) λus s1 ⟨vs,H1,I1,r,q⟩=>⟨I1.kIn,?_⟩) he hpl
 exact AK F hr hb hd hx I1 r q
structure Mk(K:W.Frag)(C f:Addr):Prop where
 makes:W.makesIn K C=true
 init:W.findIn K (.ref C) "__init__" = some (some (.ref f))
 fn:W.isFn K (.ref f)=true
 kp:W.keepIn K (.ref C)=true
end
section
variable {X:Cx}{CX:gH}{k:Nat}{f C:Addr}{fd:FuncData}{ps ks:List Str}{sp:Sp}{E:XK}{x m:Str}{p pos apos kpos:Pos}{e o:Expr}{es:List Expr}{kws:List Keyword}{te ta:TE}{t tk:TA}{nm:Option Str}
structure KBinds(K:W.Frag)(fd:FuncData)(ps ks:List Str)(g:List Value->List Value->List Value)(gV:List V->List V->List V):Prop where
 to:∀(s:Shared) (us ws:List Value),K.In s.heap->(g us ws).length=ps.length->BindsTo s fd ⟨us,ks.zip ws⟩ (ps.zip (g us ws))
 rel:∀{vs:List V} {us:List Value} {zs:List V} {ws:List Value},au vs us->au zs ws->au (gV vs zs) (g us ws)
variable {g:List Value->List Value->List Value}{gV:List V->List V->List V}
end
structure y47(N P:List Str)(sc:Scope):Prop where
 kind:sc.kind=.function
 co:sc.isCoroutine=false
 gen:sc.isGenerator=false
 nd:N.Nodup
 pre:N.take P.length=P
 par:∀x∈P,sc.names.lookup x=some .local∨sc.names.lookup x=some .cell
 y239:∀y∈sc.names,y.2≠.free
theorem y8c{kindOf:Str->Option NameKind}{x:Str}:∀{binds:List (Str×Value)} {m:Str->Option Value},(∀v,(x,v)∉binds)->bindL kindOf binds m x=m x
 | [],_,_=>rfl
 | (n,v)::r,m,h=>by
  unfold bindL
  rw [y8c λw hw=>h w (z23 _ hw)]
  split
  ·have:x≠n:=by rintro rfl;exact h v List.mem_cons_self
   simp [this]
  ·rfl
theorem y8a{kindOf:Str->Option NameKind}{x:Str}:∀{binds:List (Str×Value)} {m:Str->Option Value},(∀v,(x,v)∉binds)->bindC kindOf binds m x=m x
 | [],_,_=>rfl
 | (n,v)::r,m,h=>by
  unfold bindC
  rw [y8a λw hw=>h w (z23 _ hw)]
  split
  ·rfl
  ·have:x≠n:=by rintro rfl;exact h v List.mem_cons_self
   simp [this]
theorem y8b{kindOf:Str->Option NameKind}{x:Str}{v:Value}:∀{P:List Str} {vs:List Value} {i:Nat} {m:Str->Option Value},P.Nodup->P[i]?=some x->vs[i]?=some v->kindOf x=some .local ->
  bindL kindOf (P.zip vs) m x=some v
 | [],_,_,_,_,h,_,_=>by simp at h
 | _::_,[],_,_,_,_,h,_=>by simp at h
 | p::P,w::vs,0,m,nd,h1,h2,hk=>by
  simp at h1 h2;subst h1;subst h2
  show bindL kindOf ((p,w)::P.zip vs) m p=_
  unfold bindL
  rw [y8c λv hv=>(List.nodup_cons.mp nd).1 (List.of_mem_zip hv).1,if_pos hk]
  simp
 | p::P,w::vs,i+1,m,nd,h1,h2,hk=>by
  show bindL kindOf ((p,w)::P.zip vs) m x=_
  unfold bindL
  exact y8b (i:=i) (List.nodup_cons.mp nd).2 (by simpa using h1) (by simpa using h2) hk
theorem y89{kindOf:Str->Option NameKind}{x:Str}{v:Value}:∀{P:List Str} {vs:List Value} {i:Nat} {m:Str->Option Value},P.Nodup->P[i]?=some x->vs[i]?=some v->kindOf x≠some .local ->
  bindC kindOf (P.zip vs) m x=some v
 | [],_,_,_,_,h,_,_=>by simp at h
 | _::_,[],_,_,_,_,h,_=>by simp at h
 | p::P,w::vs,0,m,nd,h1,h2,hk=>by
  simp at h1 h2;subst h1;subst h2
  show bindC kindOf ((p,w)::P.zip vs) m p=_
  unfold bindC
  rw [y8a λv hv=>(List.nodup_cons.mp nd).1 (List.of_mem_zip hv).1,if_neg hk]
  simp
 | p::P,w::vs,i+1,m,nd,h1,h2,hk=>by
  show bindC kindOf ((p,w)::P.zip vs) m x=_
  unfold bindC
  exact y89 (i:=i) (List.nodup_cons.mp nd).2 (by simpa using h1) (by simpa using h2) hk
abbrev start(N:List Str)(vs:List V):St:=vs.map some++List.replicate (N.length-vs.length) none
noncomputable def ft(CX:gH)(P:Program)(w:World)(K:W.Frag)(mg:Str->Option Value)(base:Heap)(N:List Str)(qual:Str)(scope:Scope)(f:Addr)(cd:Value)(A:Around)(outer:List Env)(s:Shared)(H:Hp)(E:XK):Cx where
 prog:=P
 w:=w
 K:=K
 mg:=mg
 base:=base
 A:=A.deeper (envOfC qual scope s.heap.objs.size f cd)
 N:=N
 s₀:=s
 H₀:=H
 env:=envOfC qual scope s.heap.objs.size f cd
 outer:=outer
 stack:=envOfC qual scope s.heap.objs.size f cd::outer
 ex:=[]
 calm:=true
 fn:=λ_=>true
 pn:=[]
 xe:=λe s'=>wpAny (model P w) (A.deeper (envOfC qual scope s.heap.objs.size f cd)) (leaving (envOfC qual scope s.heap.objs.size f cd) e) (λ_ s''=>CX outer H s E e s'') (λe' s''=>CX outer H s E e' s'') s'
def yb3{sc:Scope}{n:Nat}{x:Str}(h:sc.names.lookup x=some .cell):∃c,(cellsFrom n sc.names []).lookup x=some c:=by
 have q:=W.cellsFrom_some sc.names n [] (.inl h)
 exact Option.isSome_iff_exists.mp q
def AL{CX:gH}{P:Program}{w:World}{K:W.Frag}{mg:Str->Option Value}{base:Heap}{N ps:List Str}{qual:Str}{scope:Scope}{f:Addr}{cd:Value}{A:Around}{outer:List Env}{s s1:Shared}{H:Hp}{E:XK}{us:List Value}{vs:List V}
  (S:y47 N ps scope) (hd:A.handled=none) (e0:y12 P w K mg base A outer s H) (hl:vs.length=ps.length) (r:au vs us)
  (x:InCallC s s.heap.objs.size (bindL (envOfC qual scope s.heap.objs.size f cd).kindOf (ps.zip us) λ_=>none) (cellsFrom (s.heap.objs.size+1) scope.names []) (bindC (envOfC qual scope s.heap.objs.size f cd).kindOf (ps.zip us) λ_=>none) s1) :
  Inv (ft CX P w K mg base N qual scope f cd A outer s H E) [] (start N vs) H s1:=by
 have hpl:ps.length≤N.length:=by have:=congrArg List.length S.pre;rw [z2d] at this;lia
 obtain⟨h1,tk,rfl,hk⟩:=x.done
 have noA:∀b:Addr,b∉(ft CX P w K mg base N qual scope f cd A outer s H E).ex:=λb z=>absurd (show b∈([]:List Addr) from z) (by simp)
 refine⟨⟨e0.mod,S.kind,rfl,rfl,ze _,λy z c h1 h2=>?_,λy hy=>?_,λy c _ h=>?_,λ_=>hd,Around.frames_deeper e0.frames,.inr ⟨rfl,rfl⟩,λb z=>absurd z (noA b),e0.bs,e0.bsz,λb _ _=>noA b,λb z=>absurd z (noA b),e0.y152,e0.frf⟩,
  rfl,e0.bare,Un.kept hk,⟨_,x.toInCall.ns,λi y v h1 h2 h3=>?_⟩,λy c h=>⟨_,x.cell y c h⟩,e0.hok.fresh (ze _),λy c h=>?_,λp hp=>absurd (show p∈([]:List (Addr×Obj)) from hp) (by simp),e0.hok.kept hk,?_⟩
 ·exact name_of_addr x.apart (PySem.mem_of_lookup h1) (PySem.mem_of_lookup h2)
 ·have hy:scope.names.lookup y=some .cell∨scope.names.lookup y=some .free:=hy
  rcases hy with hy|hy
  ·exact yb3 hy
  ·exact absurd rfl (S.y239 _ (PySem.mem_of_lookup hy))
 ·exact Nat.le_of_lt (x.above y c (PySem.mem_of_lookup h))
 ·have hi:i<vs.length:=by
   unfold start at h2
   by_cases hi:i<vs.length
   ·exact hi
   ·rw [z18 (by simpa using hi)] at h2
    rw [List.getElem?_replicate] at h2
    split at h2<;>cases h2
  have ha:vs[i]?=some v:=by
   unfold start at h2
   rw [z1a (by simpa using hi),List.getElem?_map] at h2
   cases e:vs[i]? with
   | none=>rw [e] at h2;cases h2
   | some a=>rw [e] at h2;cases h2;rfl
  obtain⟨u,hu,rv⟩:=r.get ha
  have hp:ps[i]?=some y:=by
   rw [<- S.pre,List.getElem?_take_of_lt (by lia)];exact h1
  have ndP:ps.Nodup:=by rw [<- S.pre];exact S.nd.sublist (List.take_sublist _ _)
  refine⟨u,rv,?_⟩
  rcases S.par y (z32 hp) with k|k
  ·exact .inl ⟨k,y8b ndP hp hu k⟩
  ·obtain⟨c,e⟩:=yb3 (n:=s.heap.objs.size+1) k
   refine .inr ⟨.inl k,c,e,?_⟩
   have q:=x.cell y c e
   rw [y89 ndP hp hu (by show scope.names.lookup y≠_;rw [k];decide)] at q
   exact q
 ·exact e0.hok.fresh (Nat.le_of_lt (x.above y c (PySem.mem_of_lookup h)))
 ·unfold start
  show _=N.length
  rw [za,z12,List.length_replicate]
  lia
def rf{CX:gH}{P:Program}{w:World}{K:W.Frag}{mg:Str->Option Value}{base:Heap}{k:Nat}{f:Addr}{name qual:Str}{params:Arguments}{body:List Stmt}{scope:Scope}{dV kV doc pm cdv ct oc:Value}{an od:Option Addr}
  {osl:Array (Option Value)} {N ps:List Str} {sp:Sp} (lk:K.lookup f=some ⟨oc,od,.func (W.fnOf name qual params body scope dV kV doc pm an cdv ct),osl⟩) (hcd:W.codeIn K cdv qual=true) (S:y47 N ps scope)
  (len:∀vs H Q E,sp vs H Q E->vs.length=ps.length)
  (y187:∀(A:Around) (outer:List Env) (s:Shared) (H:Hp) (vs:List V) (Q:VK) (E:XK),y54 k (A.deeper (envOfC qual scope s.heap.objs.size f cdv))->sp vs H Q E ->
   ∃t,dR (ft CX P w K mg base N qual scope f cdv A outer s H E) body t/\t { nx:=λ_ H'=>Q .non H',rt:=Q } (start N vs) H) :
  y46 P w K mg base CX (k+1) f (W.fnOf name qual params body scope dV kV doc pm an cdv ct) ps sp:=by
 refine⟨len,λA outer s H args us vs Q E hr e0 hb r hsp=>?_⟩
 have hl:=len _ _ _ _ hsp
 have KX:K.In s.heap:=e0.mod.kin.keeps λb o e=>(e0.bs b o e).1
 have lim:s.heap.NoLimit:=e0.mod.nolimit.keeps λb o e=>(e0.bs b o e).1
 have hkind:∀y∈ps.zip us,scope.names.lookup y.1=some .local∨(scope.names.lookup y.1=some .cell/\((cellsFrom (s.heap.objs.size+1) scope.names []).lookup y.1).isSome=true):=λzz hy=>by
  obtain⟨n,v⟩:=zz
  rcases S.par n (List.of_mem_zip hy).1 with q|q
  ·exact .inl q
  ·exact .inr ⟨q,W.cellsFrom_some _ _ _ (.inl q)⟩
 refine codeAny_call_function hr.depth (KX _ _ lk) rfl S.co S.gen rfl (W.codeRec_of KX hcd) (hb _ _ _ _ ?_)
 refine wpAny_newFunctionEnv_cells S.kind hkind λenv he s1 x=>?_
 subst he
 refine⟨lim.keeps x.toInCall.keep,codeAny_func ?_⟩
 obtain⟨t,ht,hq⟩:=y187 A outer s H vs Q E (hr.deeper _) hsp
 have I:Inv (ft CX P w K mg base N qual scope f cdv A outer s H E) [] (start N vs) H s1:=AL S hr.hd e0 hl r x
 refine wpAny_mono (ht [] s1 (start N vs) H _ I hq) (λfl s' hs=>?_) λe s' hs=>hs
 have fin:∀{σ':St} {H':Hp} {v:V} {u:Value},Inv (ft CX P w K mg base N qual scope f cdv A outer s H E) [] σ' H' s'->aA v u->Q v H'->CE outer P w H s Q u s' :=
  λ{σ' H' v u} J rv q=>⟨v,H',J.os,J.bare,J.base,J.hok,rv,q⟩
 cases fl with
 | ret u =>
  obtain⟨v,σ',H',J,rv,q⟩:=hs
  exact fin J rv q
 | next =>
  obtain⟨σ',H',J,q⟩:=hs
  exact fin (v:=V.non) (u:=Value.none) J rfl q
 | brk =>
  obtain⟨_,_,_,q⟩:=hs
  exact False.elim q
 | cont =>
  obtain⟨_,_,_,q⟩:=hs
  exact False.elim q
end
section
section
variable {X:Cx}{x:Str}{p pos:Pos}{e:Expr}{es:List Expr}{t:TA}{id T:String}{r:List V->Hp->VK->Prop}
abbrev AM(r:List V->Hp->VK->Prop)(t:TA):TE:=λσ H Q=>t σ H λvs H1=>r vs H1 Q
def jm(hc:y6 X (.builtin id) r)(hg:Gl X x)(hm:X.mg x=none)(hv:bootBuiltins x=some (.builtin id))(ha:PA X (e::es) t)(hn:x≠"__name__":=by decide)(hdb:(x == ("__debug__" : Str))=false:=by decide)
  (he:‹gI X e es›) (hpl:‹gB X pos es›):PE X (.Call (.Name x p) (e::es) [] pos) (AM r t):=by
 intro pins s σ H Q I h
 refine wpAny_Call_Name_kw (iw I hg hm hv ?_ hn hdb)
 exact PyProof.Rows.callWith_builtin1 (aH (ha pos pins s σ H _ I h) λus s1 ⟨vs,H1,I1,r1,q1⟩=>hc pins s1 σ H1 vs us Q I1 r1 q1) he hpl
def nN(hc:y6 X (.type T) r)(hg:Gl X x)(hm:X.mg x=none)(hv:bootBuiltins x=some (.type T))(ha:PA X (e::es) t)(hn:x≠"__name__":=by decide)(hdb:(x == ("__debug__" : Str))=false:=by decide)
  (he:‹gI X e es›) (hpl:‹gB X pos es›):PE X (.Call (.Name x p) (e::es) [] pos) (AM r t):=by
 intro pins s σ H Q I h
 refine wpAny_Call_Name_kw (iw I hg hm hv ?_ hn hdb)
 exact PyProof.Rows.callWith_type1 (aH (ha pos pins s σ H _ I h) λus s1 ⟨vs,H1,I1,r1,q1⟩=>hc pins s1 σ H1 vs us Q I1 r1 q1) he hpl
end
end
section
section
variable {κ:Type}[DecidableEq κ]
abbrev df(kvs:List (κ×V))(k:κ):Option V:=(kvs.find? λkv=>decide (kv.1=k)).map (·.2)
abbrev cm(kvs:List (κ×V))(k:κ)(v:V):List (κ×V) :=
 if (kvs.any λkv=>decide (kv.1=k))=true then kvs.map (λkv=>if kv.1=k then (kv.1,v) else kv) else kvs++[(k,v)]
def kS{p:κ×V}{r:List (κ×V)}{k:κ}(e:p.1=k):df (p::r) k=some p.2:=by simp [df,List.find?_cons,e]
def kT{p:κ×V}{r:List (κ×V)}{k:κ}(e:¬ p.1=k):df (p::r) k=df r k:=by simp [df,List.find?_cons,e]
theorem rg(k:κ):∀kvs:List (κ×V),(kvs.any λkv=>decide (kv.1=k))=(df kvs k).isSome
 | []=>rfl
 | p::r=>by
  rw [List.any_cons]
  by_cases e:p.1=k
  ·simp only [kS e,decide_eq_true e,Bool.true_or,Option.isSome_some]
  ·rw [kT e,decide_eq_false e,Bool.false_or];exact rg k r
def nO(kvs:List (κ×V))(k:κ)(v:V):(cm kvs k v).length≤kvs.length+1:=by
 unfold cm
 split
 ·rw [z12];lia
 ·rw [za,z11,List.length_nil];lia
def h9.y1af{o:Option V}{u:Option Value}(r:h9 o u):o.isSome=u.isSome:=by
 cases o with
 | none=>cases u with
  | none=>rfl
  | some _=>exact (show False from r).elim
 | some _=>cases u with
  | none=>exact (show False from r).elim
  | some _=>rfl
def KV.val{kvs:List (κ×V)}{vs:List (κ×Value)}(r:KV kvs vs)(k:κ):h9 (df kvs k) (valueAt vs k):=by
 unfold KV at r
 induction r with
 | nil=>exact True.intro
 | @cons p q ps qs h t ih =>
  obtain⟨h1,h2⟩:=h
  by_cases e:p.1=k
  ·have e':q.1=k:=h1.symm.trans e
   have b:valueAt (q::qs) k=some q.2:=by simp [valueAt,List.find?_cons,e']
   rw [kS e,b];exact h2
  ·have e':¬ q.1=k:=λz=>e (h1.trans z)
   have b:valueAt (q::qs) k=valueAt qs k:=by simp [valueAt,List.find?_cons,e']
   rw [kT e,b];exact ih
theorem KV.any{kvs:List (κ×V)}{vs:List (κ×Value)}(r:KV kvs vs)(k:κ):(kvs.any λkv=>decide (kv.1=k))=vs.any λkv=>decide (kv.1=k):=by
 unfold KV at r
 induction r with
 | nil=>rfl
 | cons h t ih=>rw [List.any_cons,List.any_cons,ih,h.1]
def KV.repl{kvs:List (κ×V)}{vs:List (κ×Value)}(r:KV kvs vs)(k:κ){y:V}{u:Value}(ry:aA y u) :
  KV (kvs.map λkv=>if kv.1=k then (kv.1,y) else kv) (vs.map λkv=>if kv.1=k then (kv.1,u) else kv):=by
 unfold KV at r ⊢
 induction r with
 | nil=>exact .nil
 | @cons p q ps qs h t ih =>
  rw [z16,z16]
  refine .cons ?_ ih
  obtain⟨h1,h2⟩:=h
  by_cases e:p.1=k
  ·rw [if_pos e,if_pos (h1.symm.trans e)];exact⟨h1,ry⟩
  ·rw [if_neg e,if_neg (λz=>e (h1.trans z))];exact⟨h1,h2⟩
def KV.put{kvs:List (κ×V)}{vs:List (κ×Value)}(r:KV kvs vs)(k:κ){y:V}{u:Value}(ry:aA y u):KV (cm kvs k y) (stored vs k u):=by
 unfold cm stored
 rw [r.any k]
 by_cases e:(vs.any λkv=>decide (kv.1=k))=true
 ·rw [if_pos e,if_pos e];exact r.repl k ry
 ·rw [if_neg e,if_neg e];exact Paired.snoc r ⟨rfl,ry⟩
theorem KV.length{kvs:List (κ×V)}{vs:List (κ×Value)}(r:KV kvs vs):kvs.length=vs.length:=Paired.length r
end
def iC{P:Program}{w:World}{k:aI}{u:Value}(r:aA (kV k) u):(cQ P w).is k u=true:=by
 cases k with
 | inl i=>obtain⟨t,e⟩:=(show ∃t,u=Value.int i t from r);subst e;exact zR P w i t
 | inr x=>obtain⟨t,e⟩:=(show ∃t,u=Value.str x t from r);subst e;exact zS P w x t
theorem rh{P:Program}{w:World}:∀{ks:List aI} {us:List Value},au (ks.map kV) us->ItemsAre (cQ P w) ks us
 | [],_,r=>by rw [List.map_nil] at r;cases r;exact .nil
 | k::ks,_,r=>by
  rw [z16] at r
  cases r with
  | cons h t=>exact .cons (iC h) (rh t)
noncomputable abbrev KT(H:Hp):List (List aI×V)->List (List aI×Addr×Value)->Prop:=Paired λp q=>p.1=q.1/\H q.2.1=some (.tup (p.1.map kV))/\aA p.2 q.2.2
def KT.val{H:Hp}{kvs:List (List aI×V)}{xs:List (List aI×Addr×Value)}(r:KT H kvs xs)(k:List aI):h9 (df kvs k) ((atKey xs k).map (·.2)):=by
 induction r with
 | nil=>exact True.intro
 | @cons p q ps qs h t ih =>
  obtain⟨h1,_,h2⟩:=h
  by_cases e:p.1=k
  ·have e':q.1=k:=h1.symm.trans e
   have b:atKey (q::qs) k=some q.2:=by simp [atKey,List.find?_cons,e']
   rw [kS e,b];exact h2
  ·have e':¬ q.1=k:=λz=>e (h1.trans z)
   have b:atKey (q::qs) k=atKey qs k:=by simp [atKey,List.find?_cons,e']
   rw [kT e,b];exact ih
def KT.repl{H:Hp}{kvs:List (List aI×V)}{xs:List (List aI×Addr×Value)}(r:KT H kvs xs)(k:List aI){y:V}{u:Value}(ry:aA y u) :
  KT H (kvs.map λkv=>if kv.1=k then (kv.1,y) else kv) (xs.map (putAt k u)):=by
 induction r with
 | nil=>exact .nil
 | @cons p q ps qs h t ih =>
  rw [z16,z16]
  refine .cons ?_ ih
  obtain⟨h1,h2,h3⟩:=h
  unfold putAt
  by_cases e:p.1=k
  ·rw [if_pos e,if_pos (h1.symm.trans e)];exact⟨h1,h2,ry⟩
  ·rw [if_neg e,if_neg (λz=>e (h1.trans z))];exact⟨h1,h2,h3⟩
def KT.put{H:Hp}{kvs:List (List aI×V)}{xs:List (List aI×Addr×Value)}(r:KT H kvs xs)(k:List aI){b:Addr}{y:V}{u:Value}(hb:H b=some (.tup (k.map kV)))(ry:aA y u) :
  KT H (cm kvs k y) (storedH xs k b u):=by
 have e:(kvs.any λkv=>decide (kv.1=k))=(atKey xs k).isSome:=by
  rw [rg,(r.val k).y1af,Option.isSome_map]
 unfold cm storedH
 rw [e]
 by_cases q:(atKey xs k).isSome=true
 ·rw [if_pos q,if_pos q];exact r.repl k ry
 ·rw [if_neg q,if_neg q];exact Paired.snoc r ⟨rfl,hb,ry⟩
def KT.keeps{H H':Hp}{kvs:List (List aI×V)}{xs:List (List aI×Addr×Value)}(r:KT H kvs xs)(ht:∀b ys,H b=some (.tup ys)->H' b=some (.tup ys)):KT H' kvs xs :=
 Paired.mapP r λ_ _ z=>⟨z.1,ht _ _ z.2.1,z.2.2⟩
section
variable {P:Program}{w:World}{H:Hp}{h:Heap}{a:Addr}
def rj{u:HO}(ok:cO P w H h)(e:Rd H a u):dQ P w H h a u:=e.ok ok
def p4{kvs:List (aI×V)}(ok:cO P w H h)(e:Rd H a (.dK kvs)):kvs.length≤sizeLine/\(a == sysModules)=false/\∃vs,KV kvs vs/\h.DictOf (cQ P w) a vs :=
 show dQ P w H h a (.dK kvs) from rj ok e
def yfc{kvs:List (aI×V)}(ok:cO P w H h)(e:H a=some (.dK kvs)):kvs.length≤sizeLine/\(a == sysModules)=false/\∃vs,KV kvs vs/\h.DictOf (cQ P w) a vs:=p4 ok (.inl e)
def jo{ks:List aI}(ok:cO P w H h)(e:H a=some (.tup (ks.map kV))):(tupleKind (cQ P w)).is h ks a:=by
 obtain⟨_,its,r,o,h1,h2,_,n,h3⟩:=(show dQ P w H h a (.tup (ks.map kV)) from ok a _ e)
 exact⟨o,its.toArray,n,h1,h2,h3,by simpa using rh r⟩
def jq{kvs:List (List aI×V)}(ok:cO P w H h)(e:Rd H a (.dT kvs)):kvs.length≤sizeLine/\(a == sysModules)=false /\
  ∃xs,KT H kvs xs/\h.DictOfH (tupleKind (cQ P w)) a xs:=by
 obtain⟨z,y,xs,r,o,es,ep,h1,h2,h3,h4,h5⟩:=(show dQ P w H h a (.dT kvs) from rj ok e)
 refine⟨z,y,xs,r,o,es,ep,h1,h2,h3,h4,λx hx=>?_,h5⟩
 have all:∀{l:List (List aI×V)} {m:List (List aI×Addr×Value)},KT H l m->∀x∈m,(tupleKind (cQ P w)).is h x.1 x.2.1:=by
  intro l m q
  induction q with
  | nil=>intro x hx;exact nomatch hx
  | @cons p q ps qs hq t ih =>
   intro x hx
   rcases z1e.mp hx with e|hx
   ·subst e
    exact jo ok (by rw [<- hq.1];exact hq.2.1)
   ·exact ih x hx
 exact all r x hx
def rl{kvs:List (List aI×V)}(ok:cO P w H h)(e:H a=some (.dT kvs)):kvs.length≤sizeLine/\(a == sysModules)=false /\
  ∃xs,KT H kvs xs/\h.DictOfH (tupleKind (cQ P w)) a xs:=jq ok (.inl e)
end
abbrev ye(H:Hp)(a:Addr)(y:V)(r:Option V):Prop :=
 (∃kvs k,Rd H a (.dK kvs)/\y=kV k/\r=df kvs k)∨∃kvs k b,Rd H a (.dT kvs)/\y=.ref b/\H b=some (.tup (k.map kV))/\r=df kvs k
abbrev yf(H:Hp)(a:Addr)(y v:V)(H':Hp):Prop :=
 (∃kvs k,H a=some (.dK kvs)/\y=kV k/\kvs.length<sizeLine/\H'=upd H a (.dK (cm kvs k v))) ∨
 ∃kvs k b,H a=some (.dT kvs)/\y=.ref b/\H b=some (.tup (k.map kV))/\kvs.length<sizeLine/\H'=upd H a (.dT (cm kvs k v))
theorem ye.k{H:Hp}{a:Addr}{kvs:List (aI×V)}{k:aI}(e:H a=some (.dK kvs)):ye H a (kV k) (df kvs k):=.inl ⟨kvs,k,.inl e,rfl,rfl⟩
def ye.t{H:Hp}{a b:Addr}{kvs:List (List aI×V)}{k:List aI}(e:H a=some (.dT kvs))(eb:H b=some (.tup (k.map kV))):ye H a (.ref b) (df kvs k):=.inr ⟨kvs,k,b,.inl e,rfl,eb,rfl⟩
theorem yf.k{H:Hp}{a:Addr}{kvs:List (aI×V)}{k:aI}{v:V}(e:H a=some (.dK kvs))(hl:kvs.length<sizeLine):yf H a (kV k) v (upd H a (.dK (cm kvs k v))):=.inl ⟨kvs,k,e,rfl,hl,rfl⟩
def yf.t{H:Hp}{a b:Addr}{kvs:List (List aI×V)}{k:List aI}{v:V}(e:H a=some (.dT kvs))(eb:H b=some (.tup (k.map kV)))(hl:kvs.length<sizeLine) :
  yf H a (.ref b) v (upd H a (.dT (cm kvs k v))):=.inr ⟨kvs,k,b,e,rfl,eb,hl,rfl⟩
section
variable {X:Cx}{pins:List (Addr×Obj)}{σ:St}{H:Hp}{s:Shared}{a:Addr}{y v:V}{u r:Value}{o:Option V}{A:Around}{E:Value->Shared->Prop}
def Inv.big(I:Inv X pins σ H s):sysModules<s.heap.objs.size:=by
 have h:mainGlobals<s.heap.objs.size:=(I.mod.glob.keeps I.bk).lt
 exact Nat.lt_trans (by decide) h
def ydc{Q:Value->Shared->Prop}(hu:A.units+1<cLine)(I:Inv X pins σ H s)(g:ye H a y (some v))(ry:aA y u)(h:∀w' s',Inv X pins σ H s'->aA v w'->Q w' s') :
  wpAny (model X.prog X.w) A (getItem (.ref a) u) Q E s:=by
 rcases g with⟨kvs,k,e,ey,l⟩| ⟨kvs,k,b,e,ey,eb,l⟩
 ·subst ey
  obtain⟨z,hd,vs,rel,dd⟩:=p4 I.hok e
  obtain⟨w',hw,rw'⟩:=h9.some_of (v:=v) (o:=valueAt vs k) (by rw [l];exact rel.val k)
  exact wpAny_getItem_of (iC ry) dd.mapOf hw (h w' _ (I.tok _) rw')
 ·subst ey
  cases (show u=Value.ref b from ry)
  obtain⟨z,hd,xs,rel,dd⟩:=jq I.hok e
  obtain⟨w',hw,rw'⟩:=h9.some_of (v:=v) (o:=(atKey xs k).map (·.2)) (by rw [l];exact rel.val k)
  obtain⟨p,hp,hp2⟩:=Option.map_eq_some_iff.mp hw
  refine wpAny_getItem_heap (tupleKind_room_in1 hu) (jo I.hok eb) dd hp ?_
  rw [hp2]
  exact h w' _ (I.tok _) rw'
def AN{Q:Value->Shared->Prop}(hu:A.units+1<cLine)(I:Inv X pins σ H s)(g:ye H a y o)(ry:aA y u)(h:∀s',Inv X pins σ H s'->Q (.bool o.isSome) s') :
  wpAny (model X.prog X.w) A (compareOp .In u (.ref a)) Q E s:=by
 rcases g with⟨kvs,k,e,ey,l⟩| ⟨kvs,k,b,e,ey,eb,l⟩
 ·subst ey
  obtain⟨z,hd,vs,rel,dd⟩:=p4 I.hok e
  refine wpAny_in_of (iC ry) hd dd.mapOf ?_
  rw [<- (rel.val k).y1af,<- l]
  exact h _ (I.tok _)
 ·subst ey
  cases (show u=Value.ref b from ry)
  obtain⟨z,hd,xs,rel,dd⟩:=jq I.hok e
  refine wpAny_in_heap (tupleKind_room_in1 hu) (jo I.hok eb) hd dd ?_
  have q:=(rel.val k).y1af
  rw [Option.isSome_map] at q
  rw [<- q,<- l]
  exact h _ (I.tok _)
def ydd{Q:Value->Shared->Prop}(hu:A.units+1<cLine)(I:Inv X pins σ H s)(g:ye H a y o)(ry:aA y u)(h:∀s',Inv X pins σ H s'->Q (.bool (!o.isSome)) s') :
  wpAny (model X.prog X.w) A (compareOp .NotIn u (.ref a)) Q E s:=by
 rcases g with⟨kvs,k,e,ey,l⟩| ⟨kvs,k,b,e,ey,eb,l⟩
 ·subst ey
  obtain⟨z,hd,vs,rel,dd⟩:=p4 I.hok e
  refine wpAny_notIn_of (iC ry) hd dd.mapOf ?_
  rw [<- (rel.val k).y1af,<- l]
  exact h _ (I.tok _)
 ·subst ey
  cases (show u=Value.ref b from ry)
  obtain⟨z,hd,xs,rel,dd⟩:=jq I.hok e
  refine wpAny_notIn_heap (tupleKind_room_in1 hu) (jo I.hok eb) hd dd ?_
  have q:=(rel.val k).y1af
  rw [Option.isSome_map] at q
  rw [<- q,<- l]
  exact h _ (I.tok _)
def AO{h':Heap}{t':Nat}{ob:HO}(I:Inv X pins σ H s)(mu:qj (H a))(hs:Heap.SameBut a s.heap h')(he:∃q,h'.get? a=some q)(new:dQ X.prog X.w (upd H a ob) h' a ob) :
  Inv X pins σ (upd H a ob) { s with heap:=h',toks:=t' } :=
 I.write (x:=a) (e:=a) mu (.inl rfl) (λb q hb z=>(hs.2 b hb).trans z) he new
def yfb{P:Program}{w:World}{H':Hp}{h':Heap}{kvs:List (aI×V)}{vs:List (aI×Value)}(z:kvs.length≤sizeLine)(hd:(a == sysModules)=false)(rel:KV kvs vs)(dd:h'.DictOf (cQ P w) a vs) :
  dQ P w H' h' a (.dK kvs):=⟨z,hd,vs,rel,dd⟩
def yde{H':Hp}{Q:Unit->Shared->Prop}(hu:A.units+1<cLine)(I:Inv X pins σ H s)(g:yf H a y v H')(ry:aA y u)(rv:aA v r)(h:∀s',Inv X pins σ H' s'->Q () s') :
  wpAny (model X.prog X.w) A (setItem (.ref a) u r) Q E s:=by
 rcases g with⟨kvs,k,e,ey,l,eH⟩| ⟨kvs,k,b,e,ey,eb,l,eH⟩
 ·subst ey eH
  obtain⟨z,hd,vs,rel,dd⟩:=yfc I.hok e
  have hz:vs.length≤sizeLine:=by rw [<- rel.length];exact z
  have hl:(cm kvs k v).length≤sizeLine:=by have:=nO kvs k v;lia
  refine wpAny_setItem_pairs (hsz:=hz) (iC ry) dd λh' dd' hs=>h _ ?_
  have he:∃q,h'.get? a=some q:=let ⟨q,_,_,hq,_⟩:=dd';⟨q,hq⟩
  exact AO I (by rw [e];exact True.intro) hs he (yfb hl hd (rel.put k rv) dd')
 ·subst ey eH
  cases (show u=Value.ref b from ry)
  obtain⟨z,hd,xs,rel,dd⟩:=rl I.hok e
  have hz:xs.length≤sizeLine:=by rw [<- Paired.length rel];exact z
  have hl:(cm kvs k v).length≤sizeLine:=by have:=nO kvs k v;lia
  refine wpAny_setItem_heap (hsz:=hz) (tupleKind_room_in1 hu) (jo I.hok eb) dd λh' dd' hs=>h _ ?_
  obtain⟨q,es,ep,hq,h2,h3,h4,_,h5⟩:=dd'
  refine AO I (by rw [e];exact True.intro) hs ⟨q,hq⟩ ⟨hl,hd,_,(rel.put k eb rv).keeps λc ys ec=>?_,q,es,ep,hq,h2,h3,h4,h5⟩
  rw [aK (nh ec e (λz=>nomatch z))]
  exact ec
end
section
variable {X:Cx}{pins:List (Addr×Obj)}{σ:St}{H:Hp}{s:Shared}{a:Addr}{kvs:List (aI×V)}{k:aI}{u:Value}{A:Around}{E:Value->Shared->Prop}
def rq{Q:Value->Shared->Prop}(I:Inv X pins σ H s)(e:Rd H a (.dK kvs))(h:∀t s',Inv X pins σ H s'->Q (.int kvs.length t) s'):wpAny (model X.prog X.w) A (call (.builtin "len") [.ref a]) Q E s:=by
 obtain⟨z,hd,vs,rel,dd⟩:=p4 I.hok e
 refine call_len_dict hd dd (by rw [<- rel.length];rw [sizeLine_eq] at z;lia) ?_
 rw [<- rel.length]
 exact h _ _ (I.tok _)
end
abbrev rz(i:Expr):Prop:=∀ov iv,subscripted i false ov iv=operate [ov,iv] (getItem ov iv)
def AQ{prog:Program}{w:World}{A:Around}{E:Value->Shared->Prop}{s:Shared}{env:Env}{value slice:Expr}{pos:Pos}{T id:String}{Q:Value->Shared->Prop}
  (hl:typeLookup (.type T) "__getitem__" = pure (some (.builtin id))) (hs:rz slice)
  (h:wpAny (model prog w) A (eval value env) (λo s₁=>wpAny (model prog w) A (eval slice env) (λi s₂=>s₂.TypeIs o T/\wpAny (model prog w) A (getItem o i) Q E s₂) E s₁) E s) :
  wpAny (model prog w) A (eval (.Subscript value slice pos) env) Q E s:=by
 refine Subscript_ (wpAny_mono h (λo s₁ h₁=>wpAny_mono h₁ (λi s₂ h₂=>?_) λ_ _ x=>x) λ_ _ x=>x)
 obtain⟨hT,h₂⟩:=h₂
 unfold subscriptTail
 refine zb ?_
 rw [getitemInPython_of_ne hT.not_modules]
 refine zb (wpAny_specialOf hT hl ?_)
 have fin:wpAny (model prog w) A (subscripted slice false o i) (λr s₃=>wpAny (model prog w) A (letTemporaryGo value o r >>= λ_=>pure r) Q E s₃) E s₂:=by
  rw [hs o i]
  exact wpAny_operating (wpAny_mono h₂ (λr s₃ h₃=>zb (wpAny_letTemporaryGo (zd h₃))) λ_ _ x=>x)
 first
  | exact zd (zb fin)
  | exact zb (zd (zb fin))
  | exact zb fin
def yf9{X:Cx}{pins:List (Addr×Obj)}{σ:St}{H:Hp}{s:Shared}{a:Addr}{y:V}{o:Option V}(I:Inv X pins σ H s)(g:ye H a y o):s.TypeIs (.ref a) "dict":=by
 rcases g with⟨kvs,k,e,_,_⟩| ⟨kvs,k,b,e,_,_,_⟩
 ·obtain⟨_,_,vs,_,dd⟩:=p4 I.hok e
  exact dd.typeIs
 ·obtain⟨_,_,xs,_,dd⟩:=jq I.hok e
  exact dd.typeIs
abbrev rA(td ty:TE):TE:=λσ H Q=>td σ H λx H1=>ty σ H1 λy H2=>∃a v,x=.ref a/\ye H2 a y (some v)/\Q v H2
abbrev AR(ty td:TE):TE:=λσ H Q=>ty σ H λy H1=>td σ H1 λx H2=>∃a o,x=.ref a/\ye H2 a y o/\Q (.bl o.isSome) H2
abbrev AS(ty td:TE):TE:=λσ H Q=>ty σ H λy H1=>td σ H1 λx H2=>∃a o,x=.ref a/\ye H2 a y o/\Q (.bl (!o.isSome)) H2
abbrev rB(td ty tv:TE):TS:=λD σ H=>tv σ H λv H1=>td σ H1 λx H2=>ty σ H2 λy H3=>∃a H4,x=.ref a/\yf H3 a y v H4/\D.nx σ H4
section
variable {X:Cx}{o i e value:Expr}{pos pos' tpos:Pos}{td ty tv:TE}
def AU(hu:X.A.units+1<cLine)(ho:PE X o td)(hi:PE X i ty)(hs:rz i):PE X (.Subscript o i pos) (rA td ty):=by
 intro pins s σ H Q I h
 refine AQ PySem.F.slot_dict_getitem.lookup hs (aH (ho pins s σ H _ I h) λu s1 ⟨x,H1,I1,rx,q1⟩=>aH (hi pins s1 σ H1 _ I1 q1) λiv s2 zz=>?_)
 obtain⟨y,H2,I2,ry,a,v,ex,g,q2⟩:=zz
 subst ex
 obtain rfl:u=Value.ref a:=rx
 exact⟨yf9 I2 g,ydc hu I2 g ry λw' s3 I3 rw'=>⟨v,H2,I3,rw',q2⟩⟩
def rC(hu:X.A.units+1<cLine)(hi:PE X i ty)(ho:PE X o td):PC X .In i o (AR ty td):=by
 intro pins s σ H Q I h
 refine aH (hi pins s σ H _ I h) λiv s1 ⟨y,H1,I1,ry,q1⟩=>aH (ho pins s1 σ H1 _ I1 q1) λu s2 zz=>?_
 obtain⟨x,H2,I2,rx,a,ov,ex,g,q2⟩:=zz
 subst ex
 obtain rfl:u=Value.ref a:=rx
 exact AN hu I2 g ry λs3 I3=>⟨.bl ov.isSome,H2,I3,rfl,q2⟩
def AV(hu:X.A.units+1<cLine)(hi:PE X i ty)(ho:PE X o td):PC X .NotIn i o (AS ty td):=by
 intro pins s σ H Q I h
 refine aH (hi pins s σ H _ I h) λiv s1 ⟨y,H1,I1,ry,q1⟩=>aH (ho pins s1 σ H1 _ I1 q1) λu s2 zz=>?_
 obtain⟨x,H2,I2,rx,a,ov,ex,g,q2⟩:=zz
 subst ex
 obtain rfl:u=Value.ref a:=rx
 exact ydd hu I2 g ry λs3 I3=>⟨.bl (!ov.isSome),H2,I3,rfl,q2⟩
def AW(hu:X.A.units+1<cLine)(ho:PE X o td)(hi:PE X i ty)(hv:PE X value tv)(hs:swapsWith value (some (.Subscript o i pos')) pos.line X.env=pure false) :
  PS X (.Assign [.Subscript o i pos'] value pos) (rB td ty tv):=by
 intro pins s σ H D I h
 refine wpAny_Assign_Subscript (aH (hv pins s σ H _ I h) λr s1 ⟨v,H1,I1,rv,q1⟩=>aH (ho pins s1 σ H1 _ I1 q1) λu s2 ⟨x,H2,I2,rx,q2⟩=>aH (hi pins s2 σ H2 _ I2 q2) λiv s3 ⟨y,H3,I3,ry,a,H4,ex,g,q3⟩=>?_) hs
 subst ex
 obtain rfl:u=Value.ref a:=rx
 exact yde hu I3 g ry rv λs4 I4=>⟨σ,H4,I4,q3⟩
end
def yfa{P:Program}{w:World}{H:Hp}(h:Heap)(hb:sysModules<h.objs.size):dQ P w H (h.push { cls:=.type "dict",data:=.dict #[] }) h.objs.size (.dK []) :=
 ⟨Nat.zero_le _,beq_eq_false_iff_ne.mpr (Ne.symm (z27 hb)),[],.nil,Heap.DictOf.new h⟩
abbrev rE:TE:=λ_ H Q=>∀p,H p=none->Q (.ref p) (upd H p (.dK []))
section
variable {X:Cx}{pos:Pos}
def AX:PE X (.Dict [] [] pos) rE:=λpins s σ H Q I h =>
 wpAny_Dict_empty ⟨.ref s.heap.objs.size,_,I.laid (a:=s.heap.objs.size) (o:=.dK []) (t':=s.toks) (λ_ _ q=>zf _ q) (ze _) (yfa s.heap I.big),rfl,h _ (I.hok.fresh (ze _))⟩
end
abbrev kU:List (TE×TE)->St->Hp->(List (V×V)->Hp->Prop)->Prop
 | [],_,H,Q=>Q [] H
 | (tk,tv)::r,σ,H,Q=>tk σ H λx H1=>tv σ H1 λy H2=>kU r σ H2 λps H3=>Q ((x,y)::ps) H3
noncomputable abbrev VV:List (V×V)->List (Value×Value)->Prop:=Paired λp q=>aA p.1 q.1/\aA p.2 q.2
abbrev rF(X:Cx)(pos:Pos)(keys:List (Option Expr))(values:List Expr)(trs:List (TE×TE)):Prop :=
 ∀(pins:List (Addr×Obj)) (s:Shared) (σ:St) (H:Hp) (Q:List (V×V)->Hp->Prop),Inv X pins σ H s->kU trs σ H Q ->
  wpAny (model X.prog X.w) X.A (evalPairs (pairTrees keys values X.env pos)) (λvs s'=>∃ps H',Inv X pins σ H' s'/\VV ps vs/\Q ps H') X.xe s
def AY{X:Cx}{pos:Pos}:rF X pos [] [] []:=λpins s σ H Q I h=>pairTrees_nil_walk ⟨[],H,I,.nil,h⟩
def AZ{X:Cx}{pos:Pos}{k v:Expr}{ks:List (Option Expr)}{vs:List Expr}{tk tv:TE}{trs:List (TE×TE)}(hk:PE X k tk)(hv:PE X v tv)(hr:rF X pos ks vs trs) :
  rF X pos (some k::ks) (v::vs) ((tk,tv)::trs):=λpins s σ H Q I h =>
 pairTrees_cons_walk (aH (hk pins s σ H _ I h) λu s1 ⟨x,H1,I1,rx,q1⟩=>aH (hv pins s1 σ H1 _ I1 q1) λw2 s2 ⟨y,H2,I2,ry,q2⟩ =>
  aH (hr pins s2 σ H2 _ I2 q2) λws s3 ⟨ps,H3,I3,rel,q3⟩=>⟨(x,y)::ps,H3,I3,.cons ⟨rx,ry⟩ rel,q3⟩)
abbrev gJ(kvs more:List (aI×V)):List (aI×V):=more.foldl (λacc kv=>cm acc kv.1 kv.2) kvs
def KV.merge:∀{more:List (aI×V)} {rs:List (aI×Value)} {kvs:List (aI×V)} {vs:List (aI×Value)},KV more rs->KV kvs vs->KV (gJ kvs more) (merged vs rs):=by
 intro more rs kvs vs r
 unfold KV at r
 induction r generalizing kvs vs with
 | nil=>intro q;exact q
 | @cons p q ps qs h t ih =>
  intro r0
  have e:KV (cm kvs p.1 p.2) (stored vs q.1 q.2):=by
   have:=r0.put p.1 h.2
   rw [<- h.1];exact this
  exact ih e
theorem rG:∀(more kvs:List (aI×V)),(gJ kvs more).length≤kvs.length+more.length
 | [],kvs=>by show kvs.length≤kvs.length+0;lia
 | p::r,kvs=>by
  have h1:=rG r (cm kvs p.1 p.2)
  have h2:=nO kvs p.1 p.2
  show (gJ (cm kvs p.1 p.2) r).length≤_
  rw [z11];lia
theorem yae{P:Program}{w:World}:∀{kvs:List (aI×V)} {ws:List (Value×Value)},VV (kvs.map λkv=>(kV kv.1,kv.2)) ws->∃rs,Carries (cQ P w) ws rs/\KV kvs rs
 | [],_,r=>by rw [List.map_nil] at r;cases r;exact⟨[],True.intro,.nil⟩
 | p::kvs,_,r=>by
  rw [z16] at r
  cases r with
  | @cons a b as bs h t =>
   obtain⟨rs,c,q⟩:=yae (P:=P) (w:=w) t
   obtain⟨b1,b2⟩:=b
   exact⟨(p.1,b2)::rs,⟨iC h.1,rfl,c⟩,.cons ⟨rfl,h.2⟩ q⟩
abbrev rH(trs:List (TE×TE)):TE:=λσ H Q=>∀p,H p=none->kU trs σ (upd H p (.dK [])) λps H2=>H2 p=some (.dK [])/\∃kvs:List (aI×V),ps=kvs.map (λkv=>(kV kv.1,kv.2))/\kvs.length≤15/\Q (.ref p) (upd H2 p (.dK (gJ [] kvs)))
def A0{X:Cx}{pos:Pos}{keys:List (Option Expr)}{values:List Expr}{trs:List (TE×TE)}(h:rF X pos keys values trs)(y180:keys.all (·.isSome)=true)(hl:keys.length=values.length)(h0:keys≠[])
  (h15:keys.length≤15):PE X (.Dict keys values pos) (rH trs):=by
 intro pins s σ H Q I q
 have hn:=I.hok.fresh (ze s.heap.objs.size)
 have I1:=I.laid (a:=s.heap.objs.size) (o:=.dK []) (h':=s.heap.push { cls:=.type "dict",data:=.dict #[] }) (t':=s.toks) (λ_ _ q=>zf _ q) (ze _) (yfa s.heap I.big)
 refine wpAny_Dict_walk (knd:=cQ X.prog X.w) y180 hl h0 h15 (aH (h pins _ σ _ _ I1 (q _ hn)) λws s2 zz=>?_)
 obtain⟨ps,H2,I2,rel,e,kvs,ep,lk,q2⟩:=zz
 subst ep
 obtain⟨rs,c,rk⟩:=yae (P:=X.prog) (w:=X.w) rel
 obtain⟨z,hd,vs0,r0,dd⟩:=yfc I2.hok e
 cases r0
 refine⟨rs,c,dd,λh' dd' hs=>⟨.ref s.heap.objs.size,_,?_,rfl,q2⟩⟩
 have hz:(gJ [] kvs).length≤sizeLine:=by
  have h1:=rG kvs []
  rw [List.length_nil] at h1
  rw [sizeLine_eq];lia
 have he:∃q,h'.get? s.heap.objs.size=some q:=let ⟨q,_,_,hq,_⟩:=dd';⟨q,hq⟩
 exact AO I2 (by rw [e];exact True.intro) hs he (yfb hz hd (rk.merge .nil) dd')
structure M1(X:Cx)(o:Expr)(m:Str)(apos:Pos)(e:Expr)(yce:Pos):Prop where
 base:attributeBase o m X.env (eval o X.env)=eval o X.env
 few:((backTo yce (starEach [e] X.env)).all (λx=>!x.1)&&(backToKw yce (keywordEach [] X.env)).all (λx=>x.1.isSome)
  && decide (([e]:List Expr).length+([]:List Keyword).length+(if ([]:List Keyword).isEmpty then 0 else 1)<30))=true
 line:(apos.endLine == yce.line)=true
 trees:backTo yce (starEach [e] X.env)=[(false,eval e X.env)]
structure M2(X:Cx)(o:Expr)(m:Str)(apos:Pos)(e f:Expr)(yce:Pos):Prop where
 base:attributeBase o m X.env (eval o X.env)=eval o X.env
 few:((backTo yce (starEach [e,f] X.env)).all (λx=>!x.1)&&(backToKw yce (keywordEach [] X.env)).all (λx=>x.1.isSome)
  && decide (([e,f]:List Expr).length+([]:List Keyword).length+(if ([]:List Keyword).isEmpty then 0 else 1)<30))=true
 line:(apos.endLine == yce.line)=true
 trees:backTo yce (starEach [e,f] X.env)=[(false,eval e X.env),(false,eval f X.env)]
section
variable {X:Cx}{pins:List (Addr×Obj)}{σ:St}{H:Hp}{s:Shared}{a:Addr}{y d:V}{u r:Value}{o:Option V}{A:Around}{E:Value->Shared->Prop}
end
section
variable {X:Cx}{o e f:Expr}{apos yce:Pos}{td ty tx:TE}
end
section
variable {X:Cx}{pins:List (Addr×Obj)}{σ:St}{H:Hp}{s:Shared}{a:Addr}{kvs:List (aI×V)}{A:Around}{E:Value->Shared->Prop}
end
section
variable {X:Cx}{pins:List (Addr×Obj)}{σ:St}{H:Hp}{s:Shared}{a:Addr}{y:V}{u:Value}{A:Around}{E:Value->Shared->Prop}
end
end
end L2
namespace HT
open PySem PyProof.Rows
section
open PySem.SeqAt
open PySem.AutoSeq1 (wpAny_loadPart')
open PySem.MeetsSeq PySem.MeetsSeq2 PySem.MeetsSeq3
end
section
variable {prog:Program}{w:World}{A:Around}{E:Value->Shared->Prop}{s:Shared}
def yb2{t b:Addr}{vs ws:List Value}{Q:Value->Shared->Prop}(ht:IsTup s.heap t vs.toArray)(hb:IsTup s.heap b ws.toArray)(hv:vs≠[])
  (h1:ws=[]->Q (.ref t) s) (h2:ws≠[]->Q (.ref s.heap.objs.size) { s with heap:=s.heap.push { cls:=.type "tuple",data:=.seq (vs++ws).toArray } })
  (hsz:vs.length+ws.length≤sizeLine):wpAny (model prog w) A (binaryOp .Add (.ref t) (.ref b)) Q E s:=by
 obtain⟨⟨cls,dd,data,sl⟩,ho,hc,n,hd⟩:=id ht
 obtain⟨⟨cls2,dd2,data2,sl2⟩,ho2,hc2,n2,hd2⟩:=id hb
 simp only at hc hd hc2 hd2
 subst hc hd hc2 hd2
 have e:vs.toArray++ws.toArray=(vs++ws).toArray:=by simp
 by_cases hw:ws=[]
 ·exact concat_meets ⟨_,ho,rfl⟩ ⟨_,ho2,rfl⟩ noFill_tuple_add seq_tuple_add PySem.F.slot_tuple_add PySem.F.entry_tuple_add (PySem.F.args_tuple_add_2 _ _)
   (tuple_addW1 t b vs.toArray ws.toArray n n2 dd dd2 sl sl2 (by simpa using hv) (by simp [hw])) ⟨ho,ho2,h1 hw⟩
 ·refine concat_meets ⟨_,ho,rfl⟩ ⟨_,ho2,rfl⟩ noFill_tuple_add seq_tuple_add PySem.F.slot_tuple_add PySem.F.entry_tuple_add (PySem.F.args_tuple_add_2 _ _)
   (tuple_addW2 t b vs.toArray ws.toArray n n2 dd dd2 sl sl2 (by simpa using hv) (by simpa using hw) (by rw [zc,zc];exact hsz)) ⟨ho,ho2,?_⟩
  rw [e]
  exact h2 hw
abbrev sIx(n d:Nat):Option Int->Nat
 | none=>d
 | some v=>if v<0 then (v+(n:Int)).toNat else min v.toNat n
def y369(n d:Nat):sIx n d none=d:=rfl
def y368(n d k:Nat):sIx n d (some (k:Int))=min k n:=by
 show (if (k:Int)<0 then ((k:Int)+(n:Int)).toNat else min (k:Int).toNat n)=min k n
 rw [if_neg (by lia),Int.toNat_natCast]
def Ba(n d:Nat)(hd:d≤n)(o:Option Int):sIx n d o≤n:=by
 cases o with
 | none=>exact hd
 | some v =>
  show (if v<0 then (v+(n:Int)).toNat else min v.toNat n)≤n
  by_cases hv:v<0
  ·rw [if_pos hv];lia
  ·rw [if_neg hv];exact Nat.min_le_right _ _
def yb9(v:Int)(n d:Nat):(if v<0 then max (v+(n:Int)) 0 else min v (n:Int))=((sIx n d (some v):Nat):Int):=by
 show (if v<0 then max (v+(n:Int)) 0 else min v (n:Int))=(((if v<0 then (v+(n:Int)).toNat else min v.toNat n):Nat):Int)
 by_cases hv:v<0
 ·simp only [if_pos hv];lia
 ·simp only [if_neg hv];lia
def y61(lo hi:Option Int)(n:Nat):Builtin.Slice.sliceAdjust lo hi 1 (n:Int)=(((sIx n 0 lo:Nat):Int),((sIx n n hi:Nat):Int)):=by
 have h1:¬ ((1:Int)<0):=by lia
 unfold Builtin.Slice.sliceAdjust
 simp only [h1,if_false]
 refine Prod.ext ?_ ?_
 ·cases lo with
  | none=>rfl
  | some v=>exact yb9 v n 0
 ·cases hi with
  | none=>rfl
  | some v=>exact yb9 v n n
def Bb(i j:Nat):Builtin.Slice.slicePlaces (i:Int) (j:Int) 1=j-i:=by
 unfold Builtin.Slice.slicePlaces
 have h1:(1:Int)>0:=by lia
 simp only [h1,if_true,Int.ediv_one]
 split<;>lia
def rJ{v:Value}{o:Option Int}{Q:Option Int->Shared->Prop}(p:IsPart v o)(h:Q o s):wpAny (model prog w) A (Builtin.Slice.slicePartIndex v) Q E s:=by
 cases p with
 | none=>exact slicePart_none h
 | int i t=>exact slicePart_int h
def rK{sl:Addr}{vl vu:Value}{lo hi:Option Int}{n:Nat}{Q:Int×Int×Nat->Shared->Prop}(hs:s.heap.IsSliceOf sl vl vu .none)(pl:IsPart vl lo)(pu:IsPart vu hi)
  (h:Q (((sIx n 0 lo:Nat):Int),1,sIx n n hi-sIx n 0 lo) s):wpAny (model prog w) A (Builtin.Slice.sliceApplied (.ref sl) (pure (n:Int))) Q E s:=by
 obtain⟨os,hos,hcs,hds⟩:=id hs
 unfold Builtin.Slice.sliceApplied Builtin.Slice.sliceFields
 refine zb (zb (wpAny_field hos hds (x:=vl) rfl (zb (wpAny_field hos hds (x:=vu) rfl (zb (wpAny_field hos hds (x:=.none) rfl (zd ?_)))))))
 refine zb (slicePart_none ?_)
 show wpAny _ _ (if ((1:Int) == 0)=true then _ else _) _ _ s
 rw [if_neg (by decide)]
 refine zb (rJ pl (zb (rJ pu (zb (zd ?_)))))
 show wpAny _ _ (match Builtin.Slice.sliceAdjust lo hi 1 (n:Int) with|(lo,hi)=>pure (lo,(1:Int),Builtin.Slice.slicePlaces lo hi 1)) _ _ s
 rw [y61 lo hi n]
 show wpAny _ _ (pure (((sIx n 0 lo:Nat):Int),(1:Int),Builtin.Slice.slicePlaces ((sIx n 0 lo:Nat):Int) ((sIx n n hi:Nat):Int) 1)) _ _ s
 rw [Bb]
 exact zd h
def Bc(xs:Array Value)(i k:Nat):((List.range k).filterMap λ(m:Nat)=>xs[((i:Int)+(m:Int)*1).toNat]?).toArray=((xs.toList.drop i).take k).toArray:=by
 have e:(λ(m:Nat)=>xs[((i:Int)+(m:Int)*1).toNat]?)=λm=>xs[i+m]?:=by
  funext m
  have:((i:Int)+(m:Int)*1).toNat=i+m:=by lia
  rw [this]
 rw [e]
 have:=pick_run xs i k
 rw [List.filterMap_map] at this
 have e2:((λx=>xs[x]?) ∘ λx=>i+x)=λm=>xs[i+m]?:=rfl
 rw [e2] at this
 rw [this]
def y159{t sl:Addr}{items:Array Value}{vl vu:Value}{lo hi:Option Int}{Q:Value->Shared->Prop}(ht:IsTup s.heap t items)(hs:s.heap.IsSliceOf sl vl vu .none)(pl:IsPart vl lo)(pu:IsPart vu hi)
  (hw:¬ (sIx items.size 0 lo=0/\sIx items.size items.size hi=items.size))
  (h:Q (.ref s.heap.objs.size) { s with heap:=s.heap.push { cls:=.type "tuple",data:=.seq ((items.toList.drop (sIx items.size 0 lo)).take (sIx items.size items.size hi-sIx items.size 0 lo)).toArray } })
  (hsz:items.size≤sizeLine):wpAny (model prog w) A (getItem (.ref t) (.ref sl)) Q E s:=by
 have y196:sizeOk (.seq ((items.toList.drop (sIx items.size 0 lo)).take (sIx items.size items.size hi-sIx items.size 0 lo)).toArray):=by
  show ((items.toList.drop (sIx items.size 0 lo)).take (sIx items.size items.size hi-sIx items.size 0 lo)).toArray.size≤sizeLine
  rw [zc,z2d,z2f,Array.length_toList]
  lia
 have hj:sIx items.size items.size hi≤items.size:=Ba _ _ (ze _) hi
 obtain⟨os,hos,hcs,hds⟩:=id hs
 have hTs:s.TypeIs (.ref sl) "slice":=⟨os,hos,hcs⟩
 unfold getItem
 try with_reducible refine wpAny_holding ?_
 first|refine zb (zd ?_)|skip
 refine zb (wpAny_sequenceKey ht.typeIs (by decide) ?_)
 refine zb (wpAny_callSpecial?_slot (name:=Str.ofString "__getitem__") ht.typeIs PyProof.Rows.slot_tuple_getitem
  (wpAny_call_entry PyProof.Rows.slot_tuple_getitem ht.typeIs entry_tuple_getitem ?_ (args_tuple_getitem _ _)))
 show wpAny _ _ (Builtin.Tuple.tupleItemsOf (.ref t) >>= _) _ _ s
 refine zb (tupleItemsOf_ ht ?_)
 refine zb (wpAny_typeOf hTs ?_)
 rw [if_pos (by decide)]
 refine zb (rK hs pl pu ?_)
 have hno:¬ ((((sIx items.size 0 lo:Nat):Int) == 0&&(1:Int) == 1&&(sIx items.size items.size hi-sIx items.size 0 lo) == items.size)=true):=by
  intro q
  rw [z24,z24] at q
  have q1:((sIx items.size 0 lo:Nat):Int)=0:=eq_of_beq q.1.1
  have q2:sIx items.size items.size hi-sIx items.size 0 lo=items.size:=eq_of_beq q.2
  exact hw ⟨by lia,by lia⟩
 show wpAny _ _ (if (((sIx items.size 0 lo:Nat):Int) == 0&&(1:Int) == 1&&(sIx items.size items.size hi-sIx items.size 0 lo) == items.size)=true then _ else _) _ _ s
 rw [if_neg hno,Bc]
 first
  | exact zb (m:=Builtin.Tuple.tupleExact _) (z2c (zd ⟨_,rfl,zd h⟩) y196)
  | exact zb (m:=Builtin.Tuple.tupleExact _) (z2c (zb (zd (zd ⟨_,rfl,zd h⟩))) y196)
  | exact zb (zb (m:=Builtin.Tuple.tupleExact _) (z2c (zd (zd ⟨_,rfl,zd h⟩)) y196))
  | exact zb (zb (m:=Builtin.Tuple.tupleExact _) (z2c (zd ⟨_,rfl,zd h⟩) y196))
end
end HT
namespace L2
open PySem PySem.Spec PyProof.Rows
section
noncomputable abbrev TO:=St->Hp->(Option Int->Hp->Prop)->Prop
abbrev PO(X:Cx)(e:Option Expr)(t:TO):Prop :=
 ∀(pins:List (Addr×Obj)) (s:Shared) (σ:St) (H:Hp) (Q:Option Int->Hp->Prop),Inv X pins σ H s->t σ H Q ->
  wpAny (model X.prog X.w) X.A (evalPart e X.env) (λu s'=>∃o H',Inv X pins σ H' s'/\IsPart u o/\Q o H') X.xe s
abbrev nP:TO:=λ_ H Q=>Q none H
abbrev rL(t:TE):TO:=λσ H Q=>t σ H λx H1=>∃i,x=.int i/\Q (some i) H1
section
variable {X:Cx}{e:Expr}{te:TE}{lo hi:Option Expr}{tl th:TO}{pos p2:Pos}
def nQ:PO X none nP:=by
 intro pins s σ H Q I h
 rw [evalPart_none]
 exact zd ⟨none,H,I,.none,h⟩
def rN(h:PE X e te):PO X (some e) (rL te):=by
 intro pins s σ H Q I hw
 rw [evalPart_some]
 refine aH (h pins s σ H _ I hw) λu s1 zz=>?_
 obtain⟨x,H1,I1,r1,q1⟩:=zz
 obtain⟨i,rfl,q⟩:=q1
 obtain⟨t,rfl⟩:=r1
 exact⟨some i,H1,I1,.int i t,q⟩
abbrev kW(X:Cx)(r:V->Option Int->Option Int->Hp->VK->Prop):Prop :=
 ∀(pins:List (Addr×Obj)) (s:Shared) (σ:St) (H:Hp) (x:V) (v vl vu:Value) (lo hi:Option Int) (sl:Addr) (Q:VK),Inv X pins σ H s->aA x v->s.heap.IsSliceOf sl vl vu .none->IsPart vl lo->IsPart vu hi->r x lo hi H Q ->
  ∃T id,typeLookup (.type T) "__getitem__" = pure (some (.builtin id))/\s.TypeIs v T/\wpAny (model X.prog X.w) X.A (getItem v (.ref sl)) (EP X pins σ Q) X.xe s
def kW.or{r r':V->Option Int->Option Int->Hp->VK->Prop}(h:kW X r)(h':kW X r'):kW X (λx lo hi H Q=>r x lo hi H Q∨r' x lo hi H Q):=by
 intro pins s σ H x v vl vu lo hi sl Q I rx hs pl pu q
 rcases q with q|q
 ·exact h pins s σ H x v vl vu lo hi sl Q I rx hs pl pu q
 ·exact h' pins s σ H x v vl vu lo hi sl Q I rx hs pl pu q
abbrev tSl(r:V->Option Int->Option Int->Hp->VK->Prop)(te:TE)(tl th:TO):TE:=λσ H Q=>te σ H λx H1=>tl σ H1 λl H2=>th σ H2 λu H3=>r x l u H3 Q
def Bd{r:V->Option Int->Option Int->Hp->VK->Prop}(hr:kW X r)(he:PE X e te)(hl:PO X lo tl)(hu:PO X hi th):PE X (.Subscript e (.Slice lo hi none p2) pos) (tSl r te tl th):=by
 intro pins s σ H Q I h
 refine Subscript_ (aH (he pins s σ H _ I h) λv s1 zz=>?_)
 obtain⟨x,H1,I1,r1,q1⟩:=zz
 refine wpAny_Slice (aH (hl pins s1 σ H1 _ I1 q1) λvl s2 ⟨l,H2,I2,pl,q2⟩=>aH (hu pins s2 σ H2 _ I2 q2) λvu s3 zz=>?_)
 obtain⟨u,H3,I3,pu,q3⟩:=zz
 rw [evalPart_none]
 refine zd ?_
 have I4:Inv X pins σ H3 { s3 with heap:=s3.heap.push { cls:=.type "slice",data:=.fields #[vl,vu,.none] } }:=I3.kept (t':=s3.toks) λb ob q=>zf _ q
 obtain⟨T,id,hT,ht,hg⟩:=hr pins { s3 with heap:=s3.heap.push { cls:=.type "slice",data:=.fields #[vl,vu,.none] } } σ H3 x v vl vu l u s3.heap.objs.size Q I4 r1 (Heap.IsSliceOf.new ..) pl pu q3
 show wpAny (model X.prog X.w) X.A (subscriptTail e (.Slice lo hi none p2) v (.ref s3.heap.objs.size)) (EP X pins σ Q) X.xe { s3 with heap:=s3.heap.push { cls:=.type "slice",data:=.fields #[vl,vu,.none] } }
 exact tail_any (ops:=[.ref s3.heap.objs.size,v]) ht hT hg (by with_unfolding_all rfl)
abbrev jr(xs:List V)(lo hi:Option Int):List V:=(xs.drop (HT.sIx xs.length 0 lo)).take (HT.sIx xs.length xs.length hi-HT.sIx xs.length 0 lo)
def yd2(xs:List V)(lo hi:Option Int):(jr xs lo hi).length≤xs.length:=by
 unfold jr
 rw [z2d,z2f]
 lia
abbrev Be(K:W.Frag):V->Option Int->Option Int->Hp->VK->Prop:=λx lo hi H Q=>∃a xs,x=.ref a/\bq K H a xs /\
 ¬ (HT.sIx xs.length 0 lo=0/\HT.sIx xs.length xs.length hi=xs.length)/\∀p,H p=none->Q (.ref p) (upd H p (.tup (jr xs lo hi)))
def Bf:kW X (Be X.K):=by
 intro pins s σ H x v vl vu lo hi sl Q I rx hs pl pu h
 obtain⟨a,xs,rfl,hx,hw,q⟩:=h
 cases rx
 obtain⟨its,r,ht,hz⟩:=I.tuple hx
 have hlen:its.toArray.size=xs.length:=by rw [zc];exact r.length.symm
 refine⟨"tuple",_,PyProof.Rows.slot_tuple_getitem.lookup,ht.typeIs,?_⟩
 refine HT.y159 ht hs pl pu (by rw [hlen];exact hw) ?_ (by rw [hlen];exact hz)
 rw [hlen]
 refine⟨.ref s.heap.objs.size,_,I.laid (t':=s.toks) (o:=.tup (jr xs lo hi)) (λb ob q=>zf _ q) (ze _) ?_,rfl,q _ (I.hok.fresh (ze _))⟩
 exact⟨z1b (yd2 xs lo hi) hz,_,(r.drop (HT.sIx xs.length 0 lo)).take (HT.sIx xs.length xs.length hi-HT.sIx xs.length 0 lo),ku.mk' _ _⟩
abbrev rO(K:W.Frag):R2:=λx y H Q=>∃a b xs ys,x=.ref a/\y=.ref b/\bq K H a xs/\bq K H b ys/\xs≠[]/\xs.length+ys.length≤sizeLine /\
 (ys=[]->Q (.ref a) H)/\(ys≠[]->∀p,H p=none->Q (.ref p) (upd H p (.tup (xs++ys))))
def au.y230{xs:List V}{us:List Value}(r:au xs us):us=[]↔xs=[]:=by
 cases r with
 | nil=>simp
 | cons _ _=>simp
def Bg:cf X (binaryOp .Add) (rO X.K):=by
 intro pins s σ H x y v u Q I rx ry h
 obtain⟨a,b,xs,ys,rfl,rfl,ha,hb,hx,hz,q1,q2⟩:=h
 cases rx
 cases ry
 obtain⟨its,r1,p1,_⟩:=I.tuple ha
 obtain⟨y1b8,r2,p2,_⟩:=I.tuple hb
 refine HT.yb2 p1 p2 (λz=>hx (r1.y230.mp z)) (λz=>⟨.ref a,H,I,rfl,q1 (r2.y230.mp z)⟩) (λz=>?_) (by rw [<- r1.length,<- r2.length];exact hz)
 refine⟨.ref s.heap.objs.size,_,I.laid (t':=s.toks) (o:=.tup (xs++ys)) (λb ob q=>zf _ q) (ze _) ?_,rfl,q2 (λw=>z (r2.y230.mpr w)) _ (I.hok.fresh (ze _))⟩
 exact⟨by rw [za];exact hz,_,r1.append r2,ku.mk' _ _⟩
end
end
section
abbrev gC(n:Nat)(i:Int):Option Nat:=if 0≤i then (if i<n then some i.toNat else none) else if -(n:Int)≤i then some (i+n).toNat else none
abbrev dg{α:Type}(xs:List α)(i:Int):Option α:=(gC xs.length i).bind λj=>xs[j]?
def rP{n:Nat}{i:Int}{j:Nat}(h:gC n i=some j):seqIndex? i n=some j/\j<n/\-(n:Int)≤i/\i<n:=by
 unfold gC at h
 by_cases h0:0≤i
 ·rw [if_pos h0] at h
  by_cases h1:i<n
  ·rw [if_pos h1] at h
   have e:i.toNat=j:=z1f h
   exact⟨by rw [seqIndex_of h0 h1,e],by lia,by lia,h1⟩
  ·rw [if_neg h1] at h;cases h
 ·rw [if_neg h0] at h
  by_cases h1:-(n:Int)≤i
  ·rw [if_pos h1] at h
   have e:(i+n).toNat=j:=z1f h
   exact⟨by rw [seqIndex_neg (by lia) h1,e],by lia,h1,by lia⟩
  ·rw [if_neg h1] at h;cases h
def Bh{α:Type}{xs:List α}{i:Int}{v:α}(h:dg xs i=some v):∃j,seqIndex? i xs.length=some j/\xs[j]?=some v/\j<xs.length/\-(xs.length:Int)≤i/\i<xs.length:=by
 unfold dg at h
 cases e:gC xs.length i with
 | none=>rw [e] at h;cases h
 | some j =>
  rw [e] at h
  obtain⟨h1,h2,h3,h4⟩:=rP e
  exact⟨j,h1,h,h2,h3,h4⟩
def kX{α:Type}{xs:List α}{j:Nat}{v:α}(h:xs[j]?=some v):dg xs (j:Int)=some v:=by
 have hj:j<xs.length:=(z14.mp h).1
 have e:gC xs.length (j:Int)=some j:=by
  unfold gC
  rw [if_pos (by lia),if_pos (by lia)];simp
 unfold dg;rw [e];exact h
abbrev ie(b:Expr):Prop:=∀o i,subscripted b false o i=operate [o,i] (getItem o i)
abbrev kY(X:Cx)(r:R2):Prop :=
 ∀(value slice:Expr) (pins:List (Addr×Obj)) (s:Shared) (σ:St) (H:Hp) (x y:V) (v u:Value) (Q:VK),Inv X pins σ H s->aA x v->aA y u->r x y H Q ->
  subscripted slice false v u=operate [v,u] (getItem v u)->wpAny (model X.prog X.w) X.A (subscriptTail value slice v u) (EP X pins σ Q) X.xe s
abbrev mO(X:Cx)(id:String)(r:V->List V->Hp->VK->Prop):Prop :=
 ∀(pins:List (Addr×Obj)) (s:Shared) (σ:St) (H:Hp) (x:V) (xs:List V) (v:Value) (us:List Value) (Q:VK),Inv X pins σ H s->aA x v->au xs us->r x xs H Q ->
  wpAny (model X.prog X.w) X.A (call (.builtin id) (v::us)) (EP X pins σ Q) X.xe s
section
variable {X:Cx}{a b:Expr}{ta tb:TE}{pos:Pos}
def kY.or{r r':R2}(h:kY X r)(h':kY X r'):kY X (λx y H Q=>r x y H Q∨r' x y H Q):=by
 intro value slice pins s σ H x y v u Q I rx ry q hs
 rcases q with q|q
 ·exact h value slice pins s σ H x y v u Q I rx ry q hs
 ·exact h' value slice pins s σ H x y v u Q I rx ry q hs
def mO.or{id:String}{r r':V->List V->Hp->VK->Prop}(h:mO X id r)(h':mO X id r'):mO X id (λx xs H Q=>r x xs H Q∨r' x xs H Q):=by
 intro pins s σ H x xs v us Q I rx rs q
 rcases q with q|q
 ·exact h pins s σ H x xs v us Q I rx rs q
 ·exact h' pins s σ H x xs v us Q I rx rs q
def rQ{r:R2}(hr:kY X r)(ha:PE X a ta)(hb:PE X b tb)(hs:ie b):PE X (.Subscript a b pos) (mM r ta tb):=by
 intro pins s σ H Q I h
 exact Subscript_ (nG ha hb I h λv u s2 x y H2 I2 rx ry q=>hr a b pins s2 σ H2 x y v u Q I2 rx ry q (hs _ _))
abbrev rR(K:W.Frag):R2:=λx y H Q=>∃p xs i v,x=.ref p/\y=.int i/\bL K H p xs/\dg xs i=some v/\Q v H
abbrev rS(K:W.Frag):R2:=λx y H Q=>∃p xs i v,x=.ref p/\y=.int i/\bq K H p xs/\dg xs i=some v/\Q v H
abbrev rT:R2:=λx y H Q=>∃z i c,x=.str z/\y=.int i/\z.length≤sizeLine/\dg z.cps.toList i=some c/\Q (.str ⟨#[c]⟩) H
def Bi:kY X (rR X.K):=by
 intro value slice pins s σ H x y v u Q I rx ry h hs
 obtain⟨p,xs,i,z,rfl,rfl,hq,he,q⟩:=h
 cases rx
 obtain⟨t,rfl⟩:=ry
 obtain⟨its,r,pl,hz⟩:=I.list hq
 obtain⟨j,h1,h2,h3,h4,h5⟩:=Bh he
 obtain⟨w,ew,rw'⟩:=r.get h2
 have hl:=r.length
 have hn:=gG
 have fin:EP X pins σ Q w s:=⟨z,H,I,rw',q⟩
 by_cases h0:0≤i
 ·have hj:i.toNat=j:=by
   rw [seqIndex_of h0 h5] at h1
   exact z1f h1
  exact item_listR pl.isList h0 (by lia) (by rw [hj];simpa using ew) fin hs
 ·have hj:(i+(its.toArray.size:Int)).toNat=j:=by
   rw [seqIndex_neg (by lia) h4] at h1
   rw [zc,<- hl]
   exact z1f h1
  exact subscriptTail_builtinR (x:=w) pl.isList.typeIs slot_list_getitem.lookup
   (wpAny_getItem_list_neg (Q:=λr s'=>r=w/\EP X pins σ Q r s') pl.isList (by lia) (by rw [zc]<;>lia) (by lia) (by rw [hj];simpa using ew) ⟨rfl,fin⟩) hs
def Bj:kY X (rS X.K):=by
 intro value slice pins s σ H x y v u Q I rx ry h hs
 obtain⟨p,xs,i,z,rfl,rfl,hq,he,q⟩:=h
 cases rx
 obtain⟨t,rfl⟩:=ry
 obtain⟨its,r,pl,hz⟩:=I.tuple hq
 obtain⟨j,h1,h2,h3,h4,h5⟩:=Bh he
 obtain⟨w,ew,rw'⟩:=r.get h2
 have hl:=r.length
 have hn:=gG
 have fin:EP X pins σ Q w s:=⟨z,H,I,rw',q⟩
 exact subscriptTail_builtinR (x:=w) pl.typeIs slot_tuple_getitem.lookup
  (getItem_tuple (j:=j) (Q:=λr s'=>r=w/\EP X pins σ Q r s') pl (by lia) (by lia) (by rw [zc,<- hl];exact h1) (by simpa using ew) ⟨rfl,fin⟩) hs
def Bk:kY X rT:=by
 intro value slice pins s σ H x y v u Q I rx ry h hs
 obtain⟨z,i,c,rfl,rfl,hz,he,q⟩:=h
 obtain⟨t,rfl⟩:=rx
 obtain⟨t',rfl⟩:=ry
 obtain⟨j,h1,h2,h3,h4,h5⟩:=Bh he
 have hl:z.cps.toList.length=z.length:=by simp [Str.length]
 rw [hl] at h1 h4 h5
 have hn:=gG
 exact tail_any (typeIs_str s z t) slot_str_getitem.lookup (getItem_str (c:=c) (by
  have e1:decide (i < -(2 ^ 63:Int))=false:=decide_eq_false (by lia)
  have e2:decide (i ≥ 2 ^ 63)=false:=decide_eq_false (by lia)
  rw [e1,e2,Bool.or_false]) (by rw [h1];simpa using h2) ⟨.str ⟨#[c]⟩,H,I.tok _,⟨_,rfl⟩,q⟩) hs
abbrev Bl(K:W.Frag):R2:=λx y H Q=>rR K x y H Q∨rS K x y H Q∨rT x y H Q
def Bm:kY X (Bl X.K):=Bi.or (Bj.or Bk)
def Bo(its:List Value)(n j:Nat)(u:Value):Obj.mapSeq (·.setIfInBounds j u) { cls:=.type "list",data:=.seq its.toArray n }={ cls:=.type "list",data:=.seq (its.set j u).toArray n }:=by
 simp [Obj.mapSeq]
theorem Inv.lst{pins:List (Addr×Obj)}{σ:St}{H:Hp}{s:Shared}{p:Addr}{xs:List V}(I:Inv X pins σ H s)(h:H p=some (.lst xs)) :
  ∃(its:List Value) (n:Nat),au xs its/\s.heap.get? p=some { cls:=.type "list",data:=.seq its.toArray n }/\xs.length≤sizeLine:=by
 obtain⟨z,its,n,r,e⟩:=I.hok p _ h
 exact⟨its,n,r,e,z⟩
def Inv.y200{pins:List (Addr×Obj)}{σ:St}{H:Hp}{s:Shared}{p:Addr}{xs ys:List V}{its its':List Value}{n n':Nat}{f:Obj->Obj}(I:Inv X pins σ H s)(h:H p=some (.lst xs))
  (ho:s.heap.get? p=some { cls:=.type "list",data:=.seq its.toArray n }) (hf:f { cls:=.type "list",data:=.seq its.toArray n }={ cls:=.type "list",data:=.seq its'.toArray n' }) (r:au ys its') (hz:ys.length≤sizeLine) (t:Nat) :
  Inv X pins σ (upd H p (.lst ys)) { s with heap:=s.heap.update p f,toks:=t }:=by
 have e:(s.heap.update p f).get? p=some { cls:=.type "list",data:=.seq its'.toArray n' }:=by
  rw [Heap.get?_update_self f ho (by rw [hf]<;>rfl),hf]
 refine I.write (x:=p) (e:=p) (by rw [h];trivial) (.inl rfl) (λb u hb q=>(Heap.get?_update_other _ _ (Ne.symm hb)).trans q) ⟨_,e⟩ ?_
 exact⟨hz,its',n',r,e⟩
abbrev rV:V->V->V->Hp->(Hp->Prop)->Prop:=λo i v H Q=>∃p xs k j,o=.ref p/\i=.int k/\H p=some (.lst xs)/\gC xs.length k=some j/\Q (upd H p (.lst (xs.set j v)))
def jt:qA X rV:=by
 intro pins s σ H o i v ov iv u Q I ro ri rv h
 obtain⟨p,xs,k,j,rfl,rfl,hp,hj,q⟩:=h
 cases ro
 obtain⟨t,rfl⟩:=ri
 obtain⟨its,n,r,ho,hz⟩:=I.lst hp
 obtain⟨h1,h2,h3,h4⟩:=rP hj
 have hl:=r.length
 have hn:=gG
 have I':Inv X pins σ (upd H p (.lst (xs.set j v))) { s with heap:=s.heap.update p (Obj.mapSeq (·.setIfInBounds j u)) } :=
  I.y200 hp ho (Bo its n j u) (r.set rv j) (by rw [z2b];exact hz) s.toks
 by_cases h0:0≤k
 ·have hk:k.toNat=j:=by
   rw [seqIndex_of h0 h4] at h1
   exact z1f h1
  exact W.ki_setAt ho h0 (by lia) (by rw [zc,<- hl];exact h4) (by rw [hk];exact⟨_,I',q⟩)
 ·have hk:(k+(its.toArray.size:Int)).toNat=j:=by
   rw [seqIndex_neg (by lia) h3] at h1
   rw [zc,<- hl]
   exact z1f h1
  exact W.ki_setBack ho (by lia) (by rw [zc,<- hl];exact h3) (by lia) (by rw [hk];exact⟨_,I',q⟩)
def Bp(lo hi:Option Int)(n:Nat):(sliceBounds lo hi none n).1=((HT.sIx n 0 lo:Nat):Int)/\(sliceBounds lo hi none n).2.1=((HT.sIx n n hi:Nat):Int)/\(sliceBounds lo hi none n).2.2=1:=by
 refine⟨?_,?_,rfl⟩
 ·cases lo with
  | none=>simp [sliceBounds,HT.sIx]
  | some i =>
   simp only [sliceBounds,HT.sIx,Option.getD_none,show (1:Int)>0 by decide,if_true]
   by_cases h:i<0
   ·simp only [h,if_true]<;>lia
   ·simp only [h,if_false]<;>lia
 ·cases hi with
  | none=>simp [sliceBounds,HT.sIx]
  | some i =>
   simp only [sliceBounds,HT.sIx,Option.getD_none,show (1:Int)>0 by decide,if_true]
   by_cases h:i<0
   ·simp only [h,if_true]<;>lia
   ·simp only [h,if_false]<;>lia
def Bq(its:List Value)(lo hi:Option Int):slicePick its.toArray lo hi none=((its.drop (HT.sIx its.length 0 lo)).take (HT.sIx its.length its.length hi-HT.sIx its.length 0 lo)).toArray:=by
 obtain⟨h1,h2,h3⟩:=Bp lo hi its.toArray.size
 unfold slicePick
 rw [h1,h2,h3]
 simp only [sliceRange_one,pick_run,zc]<;>rfl
abbrev rW(K:W.Frag):V->Option Int->Option Int->Hp->VK->Prop:=λx lo hi H Q=>∃a xs,x=.ref a/\bL K H a xs/\∀p,H p=none->Q (.ref p) (upd H p (.lst (jr xs lo hi)))
def Br:kW X (rW X.K):=by
 intro pins s σ H x v vl vu lo hi sl Q I rx hs pl pu h
 obtain⟨a,xs,rfl,hx,q⟩:=h
 cases rx
 obtain⟨its,r,ht,hz⟩:=I.list hx
 have hlen:=r.length
 refine⟨"list",_,slot_list_getitem.lookup,ht.isList.typeIs,?_⟩
 refine wpAny_getItem_list_slice ht.isList hs pl pu .none (by simp) ?_ (by rw [zc]<;>lia)
 rw [Bq,<- hlen]
 refine⟨.ref s.heap.objs.size,_,I.laid (t':=s.toks) (o:=.lst (jr xs lo hi)) (λb ob q=>zf _ q) (ze _) ?_,rfl,q _ (I.hok.fresh (ze _))⟩
 exact⟨z1b (yd2 xs lo hi) hz,_,0,(r.drop (HT.sIx xs.length 0 lo)).take (HT.sIx xs.length xs.length hi-HT.sIx xs.length 0 lo),z28 _ rfl⟩
abbrev bH:V->Bool
 | .non=>true
 | .bl _=>true
 | .int _=>true
 | .str _=>true
 | _=>false
abbrev gK:V->V->Bool
 | .non,.non=>true
 | .bl a,.bl b=>a == b
 | .bl a,.int b=>(if a then 1 else 0) == b
 | .int a,.bl b=>a == (if b then 1 else 0)
 | .int a,.int b=>a == b
 | .str a,.str b=>a == b
 | _,_=>false
def rX{A:Around}{s:Shared}{y x:V}{u v:Value}(ry:aA y u)(rx:aA x v)(fy:bH y=true)(fx:bH x=true):SeqAt.EqAt A s u v (gK y x):=by
 cases y with
 | non =>
  cases ry
  cases x with
  | non=>cases rx;exact SeqAt.EqAt.same _
  | bl b=>cases rx;exact SeqAt.EqAt.none_bool b
  | int b=>obtain⟨t,rfl⟩:=rx;exact SeqAt.EqAt.none_int b t
  | str b=>obtain⟨t,rfl⟩:=rx;exact SeqAt.EqAt.none_str b t
  | _=>exact absurd (show false=true from fx) z15
 | bl a =>
  cases ry
  cases x with
  | non=>cases rx;exact SeqAt.EqAt.bool_none a
  | bl b=>cases rx;exact SeqAt.EqAt.bool_bool a b
  | int b=>obtain⟨t,rfl⟩:=rx;exact SeqAt.EqAt.bool_int a b t
  | str b=>obtain⟨t,rfl⟩:=rx;exact SeqAt.EqAt.bool_str a b t
  | _=>exact absurd (show false=true from fx) z15
 | int a =>
  obtain⟨t',rfl⟩:=ry
  cases x with
  | non=>cases rx;exact SeqAt.EqAt.int_none a t'
  | bl b=>cases rx;exact SeqAt.EqAt.int_bool a t' b
  | int b=>obtain⟨t,rfl⟩:=rx;exact SeqAt.EqAt.int_int a t' b t
  | str b=>obtain⟨t,rfl⟩:=rx;exact SeqAt.EqAt.int_str a t' b t
  | _=>exact absurd (show false=true from fx) z15
 | str a =>
  obtain⟨t',rfl⟩:=ry
  cases x with
  | non=>cases rx;exact SeqAt.EqAt.str_none a t'
  | bl b=>cases rx;exact SeqAt.EqAt.str_bool a t' b
  | int b=>obtain⟨t,rfl⟩:=rx;exact SeqAt.EqAt.str_int a t' b t
  | str b=>obtain⟨t,rfl⟩:=rx;exact SeqAt.EqAt.str_str a t' b t
  | _=>exact absurd (show false=true from fx) z15
 | _=>exact absurd (show false=true from fy) z15
abbrev gL(x:V)(u:Value):Bool:=match u with
 | .none=>gK .non x
 | .bool b=>gK (.bl b) x
 | .int i _=>gK (.int i) x
 | .str z _=>gK (.str z) x
 | _=>false
def rY{x y:V}{u:Value}(r:aA y u)(f:bH y=true):gL x u=gK y x:=by
 cases y with
 | non=>cases r;rfl
 | bl b=>cases r;rfl
 | int i=>obtain⟨t,rfl⟩:=r;rfl
 | str z=>obtain⟨t,rfl⟩:=r;rfl
 | _=>exact absurd (show false=true from f) z15
theorem rZ{x:V}:∀{xs:List V} {us:List Value},au xs us->xs.all bH=true->us.any (gL x)=xs.any λy=>gK y x
 | _,_,.nil,_=>rfl
 | y::xs,u::us,.cons r t,f=>by
  rw [List.all_cons,z24] at f
  rw [List.any_cons,List.any_cons,rY r f.1,rZ t f.2]
theorem ju{A:Around}{s:Shared}{x:V}{v:Value}(rx:aA x v)(fx:bH x=true):∀{xs:List V} {us:List Value},au xs us->xs.all bH=true->∀u∈us,SeqAt.EqAt A s u v (gL x u)
 | _,_,.nil,_=>λu hu=>by cases hu
 | y::xs,u::us,.cons r t,f=>λu' hu=>by
  rw [List.all_cons,z24] at f
  rcases z1e.mp hu with rfl|hu
  ·rw [rY r f.1];exact rX r rx f.1 fx
  ·exact ju rx fx t f.2 u' hu
abbrev inV(x:V)(xs:List V):Bool:=xs.any λy=>gK y x
abbrev yP(K:W.Frag)(neg:Bool):R2:=λx y H Q=>∃p xs,y=.ref p/\(bL K H p xs∨bq K H p xs)/\bH x=true/\xs.all bH=true/\Q (.bl (if neg then !inV x xs else inV x xs)) H
def se:cf X (compareOp .In) (yP X.K false):=by
 intro pins s σ H x y v u Q I rx ry h
 obtain⟨p,xs,rfl,hq,fx,fs,q⟩:=h
 cases ry
 rcases hq with hq|hq
 ·obtain⟨its,r,pl,hz⟩:=I.list hq
  refine SeqAt.in_listAt (gL x) pl.isList (λw hw=>ju rx fx r fs w (by simpa using hw)) ⟨.bl _,H,I,rfl,?_⟩
  rw [show its.toArray.any (gL x)=its.any (gL x) by simp,rZ r fs]
  exact q
 ·obtain⟨its,r,pl,hz⟩:=I.tuple hq
  refine SeqAt.in_tupleAt (gL x) pl (λw hw=>ju rx fx r fs w (by simpa using hw)) ⟨.bl _,H,I,rfl,?_⟩
  rw [show its.toArray.any (gL x)=its.any (gL x) by simp,rZ r fs]
  exact q
def Bt:cf X (compareOp .NotIn) (yP X.K true):=by
 intro pins s σ H x y v u Q I rx ry h
 obtain⟨p,xs,rfl,hq,fx,fs,q⟩:=h
 cases ry
 rcases hq with hq|hq
 ·obtain⟨its,r,pl,hz⟩:=I.list hq
  refine SeqAt.notIn_listAt (gL x) pl.isList (λw hw=>ju rx fx r fs w (by simpa using hw)) ⟨.bl _,H,I,rfl,?_⟩
  rw [show its.toArray.any (gL x)=its.any (gL x) by simp,rZ r fs]
  exact q
 ·obtain⟨its,r,pl,hz⟩:=I.tuple hq
  refine SeqAt.notIn_tupleAt (gL x) pl (λw hw=>ju rx fx r fs w (by simpa using hw)) ⟨.bl _,H,I,rfl,?_⟩
  rw [show its.toArray.any (gL x)=its.any (gL x) by simp,rZ r fs]
  exact q
def ya8:y6 X (.builtin "len") (λxs H Q=>∃p ys,xs=[.ref p]/\(bL X.K H p ys∨bq X.K H p ys)/\Q (.int ys.length) H):=by
 intro pins s σ H xs us Q I r h
 obtain⟨p,ys,rfl,hq,q⟩:=h
 obtain⟨u,rfl,rx⟩:=dE r
 cases rx
 have hn:=gG
 rcases hq with hq|hq
 ·obtain⟨its,r',pl,hz⟩:=I.list hq
  have hlen:=r'.length
  exact Calls.call_len_list pl.isList (by simp only [zc]<;>lia) ⟨.int ys.length,H,I.tok _,⟨s.toks+1,by rw [zc,hlen]⟩,q⟩
 ·obtain⟨its,r',pl,hz⟩:=I.tuple hq
  have hlen:=r'.length
  exact len_tuple pl (by simp only [zc]<;>lia) ⟨.int ys.length,H,I.tok _,⟨s.toks+1,by rw [zc,hlen]⟩,q⟩
def ya9:y6 X (.builtin "len") (λxs H Q=>∃z,xs=[.str z]/\z.length≤sizeLine/\Q (.int z.length) H):=by
 intro pins s σ H xs us Q I r h
 obtain⟨z,rfl,hz,q⟩:=h
 obtain⟨u,rfl,t,rfl⟩:=dE r
 have hn:=gG
 exact len_str (by lia) ⟨.int z.length,H,I.tok _,⟨_,rfl⟩,q⟩
def y6.or{f:Value}{r r':List V->Hp->VK->Prop}(h:y6 X f r)(h':y6 X f r'):y6 X f (λxs H Q=>r xs H Q∨r' xs H Q):=by
 intro pins s σ H xs us Q I rs q
 rcases q with q|q
 ·exact h pins s σ H xs us Q I rs q
 ·exact h' pins s σ H xs us Q I rs q
def yaa:y6 X (.type "list") (λxs H Q=>∃p ys,xs=[.ref p]/\(bL X.K H p ys∨bq X.K H p ys)/\∀l,H l=none->Q (.ref l) (upd H l (.lst ys))):=by
 intro pins s σ H xs us Q I r h
 obtain⟨p,ys,rfl,hq,q⟩:=h
 obtain⟨u,rfl,rx⟩:=dE r
 cases rx
 have fin:∀(its:List Value),au ys its->ys.length≤sizeLine->∀(h':Heap) (c':Nat),(∀b o',s.heap.get? b=some o'->h'.get? b=some o') ->
   h'.get? s.heap.objs.size=some { cls:=.type "list",dict:=none,data:=.seq its.toArray c',slots:=#[] }->EP X pins σ Q (.ref s.heap.objs.size) { s with heap:=h' }:=λits r' hz h' c' kp e =>
  ⟨.ref s.heap.objs.size,_,I.laid (t':=s.toks) kp (ze _) (show dQ X.prog X.w _ h' _ (.lst ys) from ⟨hz,its,c',r',e⟩),rfl,q _ (I.hok.fresh (ze _))⟩
 rcases hq with hq|hq
 ·obtain⟨its,r',pl,hz⟩:=I.list hq
  have hlen:=r'.length
  obtain⟨o,ho,hc,n,hd⟩:=pl.isList
  exact call_list_seq p (.inl rfl) ho hc hd (λh' c' kp e=>fin its r' hz h' c' kp e) (by simp only [zc]<;>lia)
 ·obtain⟨its,r',pl,hz⟩:=I.tuple hq
  have hlen:=r'.length
  obtain⟨o,ho,hc,n,hd⟩:=pl
  exact call_list_seq p (.inr rfl) ho hc hd (λh' c' kp e=>fin its r' hz h' c' kp e) (by simp only [zc]<;>lia)
def yad:y6 X (.type "tuple") (λxs H Q=>∃p ys,xs=[.ref p]/\((bL X.K H p ys/\∀l,H l=none->Q (.ref l) (upd H l (.tup ys)))∨(bq X.K H p ys/\Q (.ref p) H))):=by
 intro pins s σ H xs us Q I r h
 obtain⟨p,ys,rfl,h⟩:=h
 obtain⟨u,rfl,rx⟩:=dE r
 cases rx
 rcases h with⟨hq,q⟩| ⟨hq,q⟩
 ·obtain⟨its,r',pl,hz⟩:=I.list hq
  have hlen:=r'.length
  refine call_tuple_list pl.isList (λh' kp=>?_) (by simp only [zc]<;>lia)
  have I1:Inv X pins σ H { s with heap:=h' }:=I.kept (t':=s.toks) kp
  have I2:Inv X pins σ (upd H h'.objs.size (.tup ys)) { s with heap:=h'.push { cls:=.type "tuple",data:=.seq its.toArray } } :=
   I1.laid (t':=s.toks) (λb o e=>zf _ e) (ze _) (show dQ X.prog X.w _ _ _ (.tup ys) from ⟨hz,its,r',ku.mk' _ _⟩)
  exact⟨.ref h'.objs.size,_,I2,rfl,q _ (I1.hok.fresh (ze _))⟩
 ·obtain⟨its,r',pl,hz⟩:=I.tuple hq
  exact call_tuple_same pl ⟨.ref p,H,I,rfl,q⟩
abbrev yQ(K:W.Frag)(T:String)(x:V)(H:Hp):Prop:=match x with
 | .str _=>T="str"
 | .int _=>T="int"
 | .ref p=>(T="list"/\∃xs,bL K H p xs)∨(T="tuple"/\∃o,K.lookup p=some o/\o.cls=.type "tuple"/\o.dict=none) ∨
   (T="dict"/\((∃kvs,H p=some (.dK kvs))∨∃kvs,H p=some (.dT kvs)))∨(T="set"/\∃S n,H p=some (.set S n))
 | _=>False
def sf{pins:List (Addr×Obj)}{σ:St}{H:Hp}{s:Shared}{T:String}{x:V}{v:Value}(I:Inv X pins σ H s)(r:aA x v)(ty:yQ X.K T x H) :
  s.TypeIs v T/\∀a,v=.ref a->∃ob,s.heap.get? a=some ob/\ob.dict=none:=by
 cases x with
 | str z =>
  obtain⟨t,rfl⟩:=r
  cases (show T="str" from ty)
  exact⟨typeIs_str s z t,λ_ e=>nomatch e⟩
 | int i =>
  obtain⟨t,rfl⟩:=r
  cases (show T="int" from ty)
  exact⟨typeIs_int s i t,λ_ e=>nomatch e⟩
 | ref p =>
  cases r
  rcases ty with⟨rfl,xs,hq⟩| ⟨rfl,o,hk,hc,hd⟩| ⟨rfl,hk⟩| ⟨rfl,S,n,hk⟩
  ·obtain⟨its,_,pl,_⟩:=I.list hq
   refine⟨pl.isList.typeIs,λa e=>?_⟩
   cases e
   obtain⟨o,n,e,c,hd,_⟩:=pl
   exact⟨o,e,hd⟩
  ·refine⟨⟨o,I.kIn p o hk,hc⟩,λa e=>?_⟩
   cases e
   exact⟨o,I.kIn _ o hk,hd⟩
  ·have z:∃o,s.heap.get? p=some o/\o.ExactDict:=by
    rcases hk with⟨kvs,hk⟩| ⟨kvs,hk⟩
    ·obtain⟨_,_,_,_,o,_,_,e,ex,_⟩:=I.hok p _ hk
     exact⟨o,e,ex⟩
    ·obtain⟨_,_,_,_,o,_,_,e,ex,_⟩:=I.hok p _ hk
     exact⟨o,e,ex⟩
   obtain⟨o,e,ex⟩:=z
   refine⟨⟨o,e,ex.1⟩,λa e2=>?_⟩
   cases e2
   exact⟨o,e,ex.2.1⟩
  ·obtain⟨o,_,_,_,e,ex,_⟩:=I.hok p _ hk
   refine⟨⟨o,e,ex.1⟩,λa e2=>?_⟩
   cases e2
   exact⟨o,e,ex.2.1⟩
 | _=>exact False.elim ty
abbrev si(K:W.Frag)(T:String)(r:V->List V->Hp->VK->Prop)(to:TE):TE:=λσ H Q=>to σ H λx H1=>yQ K T x H1/\r x [] H1 Q
abbrev Bu(K:W.Frag)(T:String)(r:V->List V->Hp->VK->Prop)(to:TE)(t:TA):TE:=λσ H Q=>to σ H λx H1=>yQ K T x H1/\t σ H1 λxs H2=>r x xs H2 Q
variable {o e:Expr}{es:List Expr}{to:TE}{t:TA}{name:Str}{apos yce:Pos}{T id:String}{r:V->List V->Hp->VK->Prop}
def Bv(pa:PlainAttrs T)(slot:Slot T name id)(hty:typeOf (.builtin id)=pure (.type "method_descriptor"))(hm:mO X id r)(ho:PE X o to)
  (y186:‹attributeBase o name X.env (eval o X.env)=eval o X.env›) (y192:‹(apos.endLine == yce.line)=true›):PE X (.Call (.Attribute o name apos) [] [] yce) (si X.K T r to):=by
 intro pins s σ H Q I h
 refine wpAny_Call_method0_late y186 y192 (aH (ho pins s σ H _ I h) λv s1 zz=>?_)
 obtain⟨x,H1,I1,r1,ty,q1⟩:=zz
 obtain⟨h1,h2⟩:=sf I1 r1 ty
 exact⟨T,id,pa,slot,hty,h1,h2,Calls.callWith_builtin rfl (PySem.evalArgs_none (hm pins s1 σ H1 x [] v [] Q I1 r1 .nil q1))⟩
def nR(pa:PlainAttrs T)(slot:Slot T name id)(hty:typeOf (.builtin id)=pure (.type "method_descriptor"))(hm:mO X id r)(ho:PE X o to)(ha:PA X (e::es) t)
  (y186:‹attributeBase o name X.env (eval o X.env)=eval o X.env›)
  (y18d:‹((backTo yce (starEach (e::es) X.env)).all (λx=>!x.1)&&(backToKw yce (keywordEach [] X.env)).all (λx=>x.1.isSome)
   && decide ((e::es).length+([]:List Keyword).length+(if ([]:List Keyword).isEmpty then 0 else 1)<30))=true›)
  (y192:‹(apos.endLine == yce.line)=true›) (hs:‹starEach (e::es) X.env=(false,eval e X.env)::starEach es X.env›) (y194:‹(backTo yce (starEach es X.env)).any (·.1)=false›) :
  PE X (.Call (.Attribute o name apos) (e::es) [] yce) (Bu X.K T r to t):=by
 intro pins s σ H Q I h
 refine wpAny_Call_method_late y186 y18d y192 rfl (aH (ho pins s σ H _ I h) λv s1 zz=>?_)
 obtain⟨x,H1,I1,r1,ty,q1⟩:=zz
 obtain⟨h1,h2⟩:=sf I1 r1 ty
 refine⟨T,id,pa,slot,hty,h1,h2,?_⟩
 have hA:=ha yce pins s1 σ H1 _ I1 q1
 rw [hs] at hA ⊢
 refine Calls.callWith_builtin (by show (false||(backTo yce (starEach es X.env)).any (·.1))=false;rw [y194]<;>rfl) (Calls.evalArgs_plain ?_)
 exact aH hA λus s2 ⟨vs,H2,I2,r2,q2⟩=>hm pins s2 σ H2 x vs v us Q I2 r1 r2 q2
end
end
section
abbrev yR(X:Cx)(id:String)(r:V->List V->Hp->VK->Prop):Prop :=
 ∀(pins:List (Addr×Obj)) (s:Shared) (σ:St) (H:Hp) (x:V) (xs:List V) (v:Value) (us:List Value) (Q:VK),Inv X pins σ H s->aA x v->au xs us->r x xs H Q ->
  wpAny (model X.prog X.w) X.A (call (.builtin id) (v::us)) (EP X pins σ Q) X.xe s
def au.one:∀{x:V} {us:List Value},au [x] us->∃u,us=[u]/\aA x u:=by
 intro x us h
 rcases h with _|⟨r,_|_⟩
 exact⟨_,rfl,r⟩
def au.zero:∀{us:List Value},au [] us->us=[]
 | _,.nil=>rfl
theorem au.dropLast{xs:List V}{us:List Value}(h:au xs us):au xs.dropLast us.dropLast:=by
 induction h with
 | nil=>exact .nil
 | cons r t ih =>
  cases t with
  | nil=>exact .nil
  | cons q t'=>exact .cons r ih
theorem au.reverse{xs:List V}{us:List Value}(h:au xs us):au xs.reverse us.reverse:=by
 induction h with
 | nil=>exact .nil
 | cons r t ih=>rw [List.reverse_cons,List.reverse_cons];exact au.append ih (.cons r .nil)
theorem au.rep{xs:List V}{us:List Value}(h:au xs us):∀k:Nat,au (List.replicate k xs).flatten (List.replicate k us).flatten
 | 0=>.nil
 | k+1=>by
  rw [List.replicate_succ,List.replicate_succ,List.flatten_cons,List.flatten_cons]
  exact au.append h (au.rep h k)
def Bw{α:Type}(l:List α):l.eraseIdx (l.length-1)=l.dropLast:=by
 induction l with
 | nil=>rfl
 | cons a r ih =>
  cases r with
  | nil=>rfl
  | cons b r =>
   have e:(a::b::r).length-1=((b::r).length-1)+1:=by
    have h1:(a::b::r).length=r.length+2:=rfl
    have h2:(b::r).length=r.length+1:=rfl
    lia
   rw [e,List.eraseIdx_cons_succ,ih]
   all_goals rfl
theorem eV(its:List Value):∀(k:Nat) (acc:List Value),
  List.foldl (λx1 x2=>x1++x2) acc.toArray (List.replicate k its.toArray)=(acc++(List.replicate k its).flatten).toArray
 | 0,acc=>by simp
 | k+1,acc=>by
  have e:acc.toArray++its.toArray=(acc++its).toArray:=by simp
  have e2:(acc++its)++(List.replicate k its).flatten=acc++(List.replicate (k+1) its).flatten:=by
   rw [List.replicate_succ,List.flatten_cons,z21]
  rw [<- e2,<- eV its k (acc++its),<- e,List.replicate_succ,List.foldl_cons]
section
variable {X:Cx}{pins:List (Addr×Obj)}{σ:St}{H:Hp}{s:Shared}{l b:Addr}{xs ys zs:List V}
def Inv.lset{its its':List Value}{n:Nat}{f:Array Value->Array Value}{t':Nat}(I:Inv X pins σ H s)(hH:H l=some (.lst xs))
  (e:s.heap.get? l=some { cls:=.type "list",data:=.seq its.toArray n }) (hf:f its.toArray=its'.toArray) (hv:au ys its') (hz:ys.length≤sizeLine) :
  Inv X pins σ (upd H l (.lst ys)) { s with heap:=s.heap.update l (Obj.mapSeq f),toks:=t' }:=by
 have q:=PySem.IsL.update e f
 rw [hf] at q
 refine I.write (x:=l) (e:=l) (by rw [hH];exact trivial) (.inl rfl) (λb' u hb hu=>(Heap.get?_update_other s.heap (Obj.mapSeq f) (Ne.symm hb)).trans hu) ⟨_,q⟩ ?_
 exact⟨hz,its',_,hv,q⟩
def Inv.lnew{its:List Value}{t':Nat}(I:Inv X pins σ H s)(hv:au ys its)(hz:ys.length≤sizeLine) :
  Inv X pins σ (upd H s.heap.objs.size (.lst ys)) { s with heap:=s.heap.push { cls:=.type "list",data:=.seq its.toArray },toks:=t' } :=
 I.laid (λ_ _ q=>zf _ q) (ze _) ⟨hz,its,0,hv,z28 _ rfl⟩
theorem Inv.fresh(I:Inv X pins σ H s):H s.heap.objs.size=none:=I.hok.fresh (ze _)
def Inv.y1ff(I:Inv X pins σ H s)(hH:H l=some (.lst xs)):xs.length≤sizeLine/\∃(its:List Value) (n:Nat),au xs its/\xs.length=its.length/\s.heap.get? l=some { cls:=.type "list",data:=.seq its.toArray n }:=by
 obtain⟨z,its,n,r,e⟩:=I.hok l _ hH
 exact⟨z,its,n,r,r.length,e⟩
def nS{n:Nat}(h:n≤sizeLine):Builtin.List.listTooLong n=false:=by
 unfold Builtin.List.listTooLong
 exact decide_eq_false (by lia)
end
section
variable {X:Cx}
abbrev sj:V->List V->Hp->VK->Prop:=λx vs H Q=>∃l xs y,x=.ref l/\vs=[y]/\H l=some (.lst xs)/\xs.length<sizeLine/\Q .non (upd H l (.lst (xs++[y])))
def sk:yR X "list.append" sj:=by
 intro pins s σ H x vs v us Q I rx rv h
 obtain⟨l,xs,y,rfl,rfl,hH,hz,q⟩:=h
 cases rx
 obtain⟨u,rfl,ru⟩:=rv.one
 obtain⟨z,its,n,r,hl,e⟩:=I.y1ff hH
 refine call_meets F.slot_list_append ⟨_,e,rfl⟩ F.entry_list_append (F.args_list_append_2 _ _) (PySem.list_append l its.toArray n u (by rw [zc];lia)) ⟨e,?_⟩
 refine⟨.non,_,I.lset (its':=its++[u]) hH e (by simp) (r.append (.cons ru .nil)) ?_,rfl,q⟩
 rw [za,List.length_singleton]
 lia
abbrev su:V->List V->Hp->VK->Prop:=λx vs H Q=>∃l b xs zs,x=.ref l/\vs=[.ref b]/\H l=some (.lst xs)/\H b=some (.lst zs)/\xs.length+zs.length≤sizeLine/\Q .non (upd H l (.lst (xs++zs)))
def Bx:yR X "list.extend" su:=by
 intro pins s σ H x vs v us Q I rx rv h
 obtain⟨l,b,xs,zs,rfl,rfl,hH,hB,hz,q⟩:=h
 cases rx
 obtain⟨u,rfl,ru⟩:=rv.one
 cases ru
 obtain⟨z,its,n,r,hl,e⟩:=I.y1ff hH
 obtain⟨z2,y1b8,n2,r2,hl2,e2⟩:=I.y1ff hB
 have hsz:its.toArray.size+y1b8.toArray.size≤sizeLine:=by rw [zc,zc];lia
 have y193:¬ (!its.toArray.isEmpty&&Builtin.List.listTooLong (its.toArray.size+y1b8.toArray.size))=true:=by
  rw [nS hsz,Bool.and_false]
  exact z15
 refine call_meets F.slot_list_extend ⟨_,e,rfl⟩ F.entry_list_extend (F.args_list_extend_2 _ _)
  (AutoSeq1.list_extend_list_list_0 l its.toArray n b y1b8.toArray n2 y193 (by rw [zc];lia) (by lia)) ⟨e,e2,?_⟩
 refine⟨.non,_,I.lset (its':=its++y1b8) hH e (by simp) (r.append r2) ?_,rfl,q⟩
 rw [za]
 lia
abbrev sv:V->List V->Hp->VK->Prop:=λx vs H Q=>∃l xs y,x=.ref l/\vs=[]/\H l=some (.lst xs)/\xs[xs.length-1]?=some y/\Q y (upd H l (.lst xs.dropLast))
def By:yR X "list.pop" sv:=by
 intro pins s σ H x vs v us Q I rx rv h
 obtain⟨l,xs,y,rfl,rfl,hH,hy,q⟩:=h
 cases rx
 have hus:=rv.zero
 subst hus
 obtain⟨z,its,n,r,hl,e⟩:=I.y1ff hH
 obtain⟨u,hu,ru⟩:=r.get hy
 have hy':its.toArray[its.toArray.size-1]?=some u:=by
  show its.toArray[its.length-1]?=some u
  rw [<- Array.getElem?_toList,<- hl]
  exact hu
 refine call_meets F.slot_list_pop ⟨_,e,rfl⟩ F.entry_list_pop (F.args_list_pop_1 _) (MeetsSeq.list_pop_last l its.toArray n u hy' (by rw [zc];lia)) ⟨e,?_⟩
 refine⟨y,_,I.lset (its':=its.dropLast) hH e ?_ r.dropLast ?_,ru,q⟩
 ·show its.toArray.eraseIdxIfInBounds (its.toArray.size-1)=its.dropLast.toArray
  rw [zc,List.eraseIdxIfInBounds_toArray,Bw]
 ·rw [List.length_dropLast]
  lia
abbrev kZ:R2:=λx y H Q=>∃l b xs zs,x=.ref l/\y=.ref b/\H l=some (.lst xs)/\H b=some (.lst zs)/\xs.length+zs.length≤sizeLine/\∀p,H p=none->Q (.ref p) (upd H p (.lst (xs++zs)))
def Bz:cf X (binaryOp .Add) kZ:=by
 intro pins s σ H x y v u Q I rx ry h
 obtain⟨l,b,xs,zs,rfl,rfl,hH,hB,hz,q⟩:=h
 cases rx
 cases ry
 obtain⟨z,its,n,r,hl,e⟩:=I.y1ff hH
 obtain⟨z2,y1b8,n2,r2,hl2,e2⟩:=I.y1ff hB
 refine PySem.P.add_list e e2 ?_ (by rw [zc,zc];lia)
 have ea:its.toArray++y1b8.toArray=(its++y1b8).toArray:=by simp
 rw [ea]
 exact⟨.ref _,_,I.lnew (t':=s.toks) (r.append r2) (by rw [za];lia),rfl,q _ I.fresh⟩
abbrev k6:R2:=λx y H Q=>∃l k xs,x=.ref l/\y=.int k/\H l=some (.lst xs)/\-(2 ^ 63)≤k/\k<2 ^ 63/\xs.length*k.toNat≤sizeLine /\
 ∀p,H p=none->Q (.ref p) (upd H p (.lst (List.replicate k.toNat xs).flatten))
def k7{α:Type}(xs:List α)(k:Nat):(List.replicate k xs).flatten.length=k*xs.length:=by
 induction k with
 | zero=>simp
 | succ k ih=>rw [List.replicate_succ,List.flatten_cons,za,ih,Nat.succ_mul,Nat.add_comm]
def BA:cf X (binaryOp .Mult) k6:=by
 intro pins s σ H x y v u Q I rx ry h
 obtain⟨l,k,xs,rfl,rfl,hH,h1,h2,hz,q⟩:=h
 cases rx
 obtain⟨t,rfl⟩:=ry
 obtain⟨z,its,n,r,hl,e⟩:=I.y1ff hH
 have hlen:its.toArray.size*k.toNat≤sizeLine:=by rw [zc,<- hl];exact hz
 have hcap:¬ its.toArray.size*k.toNat>(2 ^ 63-1) / 8:=by
  have:(sizeLine:Nat)≤(2 ^ 63-1) / 8:=by decide
  lia
 have hfit:¬ (!Builtin.List.listFitsIndex k)=true:=by
  rw [fitsIndex_both h1 h2]
  exact z15
 have y193:¬ Builtin.List.listTooLong (its.toArray.size*k.toNat)=true:=by
  rw [nS hlen]
  exact z15
 have hnew:List.foldl (λx1 x2=>x1++x2) #[] (List.replicate (if its.toArray.isEmpty=true then 0 else k.toNat) its.toArray)=(List.replicate k.toNat its).flatten.toArray:=by
  have f0:∀m:Nat,List.foldl (λx1 x2=>x1++x2) #[] (List.replicate m its.toArray)=(List.replicate m its).flatten.toArray:=λm=>by
   have:=eV its m []
   rw [z29] at this
   exact this
  rw [f0]
  cases its with
  | nil=>simp
  | cons a r'=>rw [if_neg (by simp)]
 refine wpAny_binaryOp_repeat_ref (T:="list") (U:="int") (by decide) ⟨_,e,rfl⟩ (λs'=>typeIs_int s' k t) noFill_list_mul F.fills_int_mul F.slot_int_rmul repeat_list F.slot_int_index.lookup
  (call_meets F.slot_int_rmul (typeIs_int s k t) F.entry_int_rmul (F.args_int_rmul_2 _ _) (int___rmul___int_list k t l its.toArray n)
   ⟨e,rfl,⟨_,e,rfl⟩,call_meets F.slot_list_mul ⟨_,e,rfl⟩ F.entry_list_mul (F.args_list_mul_2 _ _) (AutoListH.list___mul___list_int_3 l its.toArray n k t hfit hcap y193) ⟨e,?_⟩⟩)
 rw [hnew]
 exact⟨.ref _,_,I.lnew (t':=s.toks) (r.rep k.toNat) (by rw [k7,Nat.mul_comm];exact hz),rfl,q _ I.fresh⟩
end
section
variable {prog:Program}{w:World}{A:Around}{E:Value->Shared->Prop}{s:Shared}
end
section
variable {X:Cx}
end
end
end L2
namespace Att
open PySem PySem.W PySem.Calls PyProof.Rows
def BB{P:Params}{h:Heap}:∀(ns:List Int) (vs:List Value),WellAll P h vs (ns.map WData.int)->IntsAre vs ns:=by
 intro ns
 induction ns with
 | nil =>
  intro vs w
  rw [List.map_nil] at w
  cases w
  exact .nil
 | cons n ns ih =>
  intro vs w
  rw [z16] at w
  cases w with
  | cons a b =>
   cases a
   exact .cons _ _ (ih _ b)
def BC{l:OpenLaw}{n:Nat}(hn:l.most=some n){P:Params}{h:Heap}{args:List WData}{vals:List Value}
  (hpre:l.row.toRowW.claim.pre args=true) (hwl:WellAll P h vals args) :
  ∃a vs ns,vals=[Value.ref a]/\args=[WData.list (ns.map WData.int)]/\h.get? a=some { cls:=.type "list",data:=.seq vs.toArray }/\IntsAre vs ns/\ns.length≤n:=by
 have hsh:WShape.hasAll [] args [.list .int]=true:=(pre_splitW hpre).1
 have hc:l.pre.holds [] { args:=args }=true:=(pre_splitW hpre).2
 obtain⟨d,r,rfl,h1,h2⟩:=hasAllW_cons hsh
 obtain rfl:=hasAllW_nil h2
 obtain⟨xs,rfl,h3⟩:=hasW_list h1
 obtain⟨ns,rfl⟩:=items_int h3
 have hlen:ns.length≤n:=by
  unfold OpenLaw.pre at hc
  have h4:(WTm.not (.lt (.lit (.int (n:Int))) (.len (.arg 0)))).holds [] { args:=[.list (ns.map .int)] }=true:=by
   have h4:=(holds_andW hc).1
   rw [hn] at h4
   exact h4
  have h5:=condW_of h4 (w_not (w_lt w_lit (w_len_list (w_arg rfl))))
  rw [z12] at h5
  refine Nat.le_of_not_lt λq=>?_
  have q':(n:Int)<((ns.length:Nat):Int):=by lia
  first
   | (rw [decide_eq_true q'] at h5;exact absurd h5 (by decide))
   | (simp at h5;lia)
 cases hwl with
 | cons w1 w2 =>
  cases w2
  cases w1 with
  | list ho y180=>exact⟨_,_,ns,rfl,rfl,ho,BB ns _ y180,hlen⟩
def BD(l:OpenLaw)(args:List WData):l.row.toRowW.claim.post args (.bool true) args=true :=
 postW_of (r:=l.row.toRowW) (X:=(true == true))
  (show WShape.has [] (.bool true) .bool=true by first|rfl|decide|simp [WShape.has,WShape.arms,WShape.armsAll])
  (show (WTm.eq .res (.lit (.bool true))).value [] { args:=args,res:=some (.bool true),after:=args }=some (.bool (true == true)) from w_eq_bool (w_res rfl) w_lit) rfl
def y7c{l:OpenLaw}{n:Nat}{q:Program}{loose:List Str}{XP:(Str->Option Value)->Heap->Prop}{YP:World->Heap->Prop}{d:DefRec}
  (hn:l.most=some n) (hdf:d.params.defaults=[])
  (call:∀(w:World) (s₀ s₁:Shared) (mg mb:Str->Option Value) (fa:Addr) (o:Obj) (pm cd doc:Value) (a:Addr) (vs:List Value) (ns:List Int),
   Ground q loose [] XP w s₀ mg mb s₁.heap->YP w s₁.heap ->
   s₁.heap.get? fa=some o->o.data=.func (docDef d.name d.params d.body d.scope pm cd doc)->s₁.heap.CodeRec cd d.name->mg d.name=some (.ref fa) ->
   s₁.heap.get? a=some { cls:=.type "list",data:=.seq vs.toArray }->IntsAre vs ns->ns.length≤n->s₁.gens=#[] ->
   codeAny (model l.prog w) callerA (.call (.ref fa) ⟨[.ref a],[]⟩) (λr s'=>r=.ok (.ret (.bool true))/\OldK s₁.heap s'.heap/\s'.os=s₁.os/\AllBare s'.gens) s₁) :
  WalkO q loose XP YP l.row.toRowW d [] (λf vs=>PySem.call f vs):=by
 intro w s₀ s₁ mg mb G Y fa o pm cd doc dV kV ho hd hcd hD hmg hg args vals as hpre hlay hrd hwl hlo
 obtain rfl:dV=.none:=Dflts.none hD hdf
 obtain rfl:kV=.none:=Dflts.noKw hD
 obtain⟨a,vs,ns,rfl,rfl,hobj,hints,hlen⟩:=BC hn hpre hwl
 refine enter_call (codeAny_mono (call w s₀ s₁ mg mb fa o pm cd doc a vs ns G Y ho (fd_plain hd) hcd hmg hobj hints hlen hg) λr s' hq=>?_)
 obtain⟨rfl,h2,h3,h4⟩:=hq
 exact⟨.inl ⟨.bool true,.bool true,[],rfl,λ_=>rfl,.bool true,BD l _,λ_=>⟨List.Pairwise.nil,λ_ hm=>(nomatch hm)⟩⟩,h2,h3,h4⟩
section
variable {prog:Program}{w:World}{A:Around}{E:Value->Shared->Prop}{s:Shared}{K:Frag}
end
end Att
namespace L2
open PySem PySem.Spec PyProof.Rows
section
theorem sy:∀{vs:List Value} {ns:List Int},IntsAre vs ns->au (ns.map V.int) vs
 | _,_,.nil=>.nil
 | _,_,.cons n t h=>.cons ⟨t,rfl⟩ (sy h)
abbrev k9(H:Hp):Prop:=∀b,H b=none∨∃o xs,H b=some (.frz o (.lst xs))
def BE{P:Program}{w:World}{K:W.Frag}{mg mb:Str->Option Value}{CX:gH}{k:Nat}{fa a:Addr}{fd:FuncData}{x:Str}{sp:Sp}{s₁:Shared}{vs:List Value}{ns:List Int}
  (KX:K.In s₁.heap) (hns:s₁.heap.Ns mainGlobals mg) (hb:s₁.heap.Ns builtinsNs mb) (hbb:∀x:Str,x≠"__name__"->mb x=bootBuiltins x) (hlim:s₁.heap.NoLimit) (hg:s₁.gens=#[])
  (ha:s₁.heap.get? a=some { cls:=.type "list",data:=.seq vs.toArray }) (hi:IntsAre vs ns) (hl:ns.length≤sizeLine) (hr:y54 k callerA)
  (F:∀base:Heap,K.In base->base.Ns mainGlobals mg->y46 P w K mg base CX k fa fd [x] sp) (hbind:∀(s:Shared) (u:Value),BindsTo s fd ⟨[u],[]⟩ [(x,u)])
  (hsp:∀H:Hp,k9 H->bL K H a (ns.map V.int)->sp [.ref a] H (λv _=>v=.bl true) λ_ _ _=>False)
  (hCX:∀H e s',CX [] H s₁ (λ_ _ _=>False) e s'->False) :
  codeAny (model P w) callerA (.call (.ref fa) ⟨[.ref a],[]⟩) (λr s'=>r=.ok (.ret (.bool true))/\OldK s₁.heap s'.heap/\s'.os=s₁.os/\AllBare s'.gens) s₁:=by
 have rv:=sy hi
 have lenV:=hi.length
 have core:∀H:Hp,k9 H->bL K H a (ns.map V.int)->cO P w H s₁.heap->(∀b,H b≠none->b=a)->(H a≠none->K.lookup a=none) ->
   codeAny (model P w) callerA (.call (.ref fa) ⟨[.ref a],[]⟩) (λr s'=>r=.ok (.ret (.bool true))/\OldK s₁.heap s'.heap/\s'.os=s₁.os/\AllBare s'.gens) s₁:=by
  intro H hO hS hok hA hK
  have y81:∀{b:Addr} {o:Obj},s₁.heap.get? b=some o->H b=none->(eZ s₁.heap H).get? b=some o:=λe n=>zV e n
  have noA:∀{b:Addr} {o:Obj} {es:Array DictEntry} {ep:Nat},s₁.heap.get? b=some o->o.data=.dict es ep->H b=none:=λ{b o es ep} e d=>by
   cases q:H b with
   | none=>rfl
   | some u =>
    have e':b=a:=hA b (by rw [q];simp)
    subst e'
    rw [ha] at e;cases e
    have d':Data.seq vs.toArray _=Data.dict es ep:=d
    cases d'
  have nsK:∀{b:Addr} {m:Str->Option Value},s₁.heap.Ns b m->(eZ s₁.heap H).Ns b m:=λ{b m} ⟨o,es,ep,e,d,r⟩=>⟨o,es,ep,y81 e (noA e d),d,r⟩
  have hKb:K.In (eZ s₁.heap H):=λb o e=>y81 (KX b o e) (by
   cases q:H b with
   | none=>rfl
   | some u =>
    have e':b=a:=hA b (by rw [q];simp)
    subst e'
    rw [hK (by rw [q];simp)] at e;cases e)
  have hM:Mod K mg (eZ s₁.heap H):=⟨hKb,nsK hns,⟨mb,nsK hb,hbb⟩,let ⟨mc,h1,h2⟩:=hlim;⟨mc,nsK h1,h2⟩⟩
  have e0:y12 P w K mg (eZ s₁.heap H) callerA [] s₁ H:=⟨rfl,hM,λb o e=>zW e,Nat.le_of_eq (zU _ _),trivial,λb hb=>absurd (show b∈([]:List Addr) from hb) (by simp),hok,.of_eq hg⟩
  refine codeAny_mono ((F _ hKb (nsK hns)).run callerA [] s₁ H ⟨[.ref a],[]⟩ [.ref a] [.ref a] _ _ hr e0 (hbind s₁ (.ref a)) (.cons rfl .nil) (hsp H hO hS)) λr s' h=>?_
  cases r with
  | error e=>exact (hCX H e s' h).elim
  | ok fl =>
   cases fl with
   | next=>exact False.elim h
   | brk=>exact False.elim h
   | cont=>exact False.elim h
   | ret u =>
    obtain⟨v,H',os,bare,un,hok',r',q⟩:=h
    have q':v=.bl true:=q
    subst q'
    obtain rfl:u=Value.bool true:=r'
    refine⟨rfl,OldK.of_keep λb o e=>?_,os,bare⟩
    cases q:H b with
    | none=>exact un.keep b o e q (by intro z;exact absurd (show b∈([]:List Addr) from z) (by simp)) (by simp)
    | some u =>
     rcases hO b with z|⟨ob,xs,z⟩
     ·rw [q] at z;cases z
     ·have z2:=un.y150 b ob _ z
      obtain⟨e1,_⟩:=hok b _ z
      obtain⟨e2,_⟩:=hok' b _ z2
      rw [e] at e1;cases e1
      exact e2
 cases hk:K.lookup a with
 | some o =>
  have e:=KX a o hk
  rw [ha] at e
  cases e
  refine core (λ_=>none) (λ_=>.inl rfl) (.inr ⟨_,vs.toArray,_,hk,rfl,rfl,rfl,by rw [zc,lenV];exact hl,by simpa using rv⟩) (λb u z=>by have z':(none:Option HO)=some u:=z;cases z') (λb z=>absurd rfl z) λz=>absurd rfl z
 | none =>
  refine core (λb=>if b=a then some (.frz { cls:=.type "list",data:=.seq vs.toArray } (.lst (ns.map V.int))) else none) (λb=>?_) (.inl (.inr ⟨{ cls:=.type "list",data:=.seq vs.toArray },if_pos rfl⟩)) (λb u z=>?_) (λb z=>?_) λ_=>hk
  ·by_cases hb:b=a
   ·exact .inr ⟨_,_,if_pos hb⟩
   ·exact .inl (if_neg hb)
  ·by_cases hb:b=a
   ·have z':=(if_pos hb).symm.trans z
    cases z'
    subst hb
    exact⟨ha,by rw [z12];exact hl,vs,_,rv,ha⟩
   ·have z':=(if_neg hb).symm.trans z
    cases z'
  ·by_cases hb:b=a
   ·exact hb
   ·exact absurd (if_neg hb) z
end
section
def y488{l:W.OpenLaw}{n k:Nat}{q:Program}{loose:List Str}{XP:(Str->Option Value)->Heap->Prop}{YP:World->Heap->Prop}{d:DefRec}{K:Params->W.Frag}{CX:World->gH}{sp:World->Sp}{x:Str}
  (hn:l.most=some n) (hn2:n≤sizeLine) (hdf:d.params.defaults=[]) (hr:y54 k callerA)
  (hY:∀(w:World) (h:Heap),YP w h->(K w.params).In h)
  (F:∀(w:World) (mg:Str->Option Value) (fa:Addr) (h:Heap),(K w.params).In h->h.Ns mainGlobals mg->mg d.name=some (.ref fa) ->
   ∃fd:FuncData,(∀(s:Shared) (u:Value),BindsTo s fd ⟨[u],[]⟩ [(x,u)]) /\
    ∀base:Heap,(K w.params).In base->base.Ns mainGlobals mg->y46 l.prog w (K w.params) mg base (CX w) k fa fd [x] (sp w))
  (hsp:∀(w:World) (H:Hp) (a:Addr) (ns:List Int),ns.length≤n->k9 H->bL (K w.params) H a (ns.map V.int)->sp w [.ref a] H (λv _=>v=.bl true) λ_ _ _=>False)
  (hCX:∀(w:World) (H:Hp) (s:Shared) (e:Value) (s':Shared),CX w [] H s (λ_ _ _=>False) e s'->False) :
  W.WalkO q loose XP YP l.row.toRowW d [] (λf vs=>PySem.call f vs):=by
 refine Att.y7c hn hdf λw s₀ s₁ mg mb fa o pm cd doc a vs ns G Y ho hd hcd hmg hobj hints hlen hg=>?_
 have KX:=hY w _ Y
 obtain⟨fd,hb,hF⟩:=F w mg fa _ KX G.T.g hmg
 exact BE KX G.T.g G.T.b G.T.builtins G.T.nolimit hg hobj hints (z1b hlen hn2) hr hF hb (λH hO hS=>hsp w H a ns hlen hO hS) λH e s'=>hCX w H s₁ e s'
end
section
abbrev fu(s:Stmt)(j:Nat):Stmt:=match s with
 | .ClassDef _ _ _ body _ _ _ _ _ _ _=>body.getD j (.Pass ⟨0,0,0,0⟩)
 | _=>.Pass ⟨0,0,0,0⟩
abbrev p5(s:Stmt):Arguments:=match s with
 | .FunctionDef _ a _ _ _ _ _ _ _ _=>a
 | _=>{ posonlyargs:=[],args:=[],vararg:=none,kwonlyargs:=[],kw_defaults:=[],kwarg:=none,defaults:=[] }
abbrev ky(s:Stmt):List Stmt:=match s with
 | .FunctionDef _ _ b _ _ _ _ _ _ _=>b
 | _=>[]
abbrev bK(s:Stmt):Scope:=match s with
 | .FunctionDef _ _ _ _ _ _ sc _ _ _=>sc
 | _=>{ kind:=.function,names:=[],isGenerator:=false,isCoroutine:=false }
noncomputable abbrev bV:gH:=λ_ _ _ _ _ _=>False
noncomputable abbrev E0:XK:=λ_ _ _=>False
def sA{X:Cx}:bM bV X E0:=λ_ _ _ _ _ _ _ h=>h.elim
structure Fun(K:W.Frag)(x qual:Str)(st:Stmt)(f:Addr)(fd:FuncData):Prop where
 ex:∃(oc:Value) (od:Option Addr) (kV doc pm:Value) (an:Option Addr) (cdv ct:Value) (osl:Array (Option Value)),
  fd=W.fnOf x qual (p5 st) (ky st) (bK st) .none kV doc pm an cdv ct/\K.lookup f=some ⟨oc,od,.func fd,osl⟩/\W.codeIn K cdv qual=true
 kp:W.keepIn K (.ref f)=true
section
variable {P:Program}{w:World}{K:W.Frag}{mg:Str->Option Value}{base:Heap}
def Fun.ok{x qual:Str}{st:Stmt}{f:Addr}{fd:FuncData}{N ps:List Str}{k:Nat}{sp:Sp}(F:Fun K x qual st f fd)(S:y47 N ps (bK st))(len:∀vs H Q E,sp vs H Q E->vs.length=ps.length)
  (y187:∀(cdv:Value) (A:Around) (outer:List Env) (s:Shared) (H:Hp) (vs:List V) (Q:VK) (E:XK),y54 k (A.deeper (envOfC qual (bK st) s.heap.objs.size f cdv))->sp vs H Q E ->
   ∃t,dR (ft bV P w K mg base N qual (bK st) f cdv A outer s H E).nox (ky st) t/\t { nx:=λ_ H'=>Q .non H',rt:=Q } (start N vs) H):y46 P w K mg base bV (k+1) f fd ps sp:=by
 obtain⟨oc,od,kV,doc,pm,an,cdv,ct,osl,rfl,lk,hcd⟩:=F.ex
 refine rf lk hcd S len λA outer s H vs Q E hr hsp=>?_
 obtain⟨t,h,q⟩:=y187 cdv A outer s H vs Q E hr hsp
 exact⟨t,h.nox,q⟩
def Fun.binds{x qual:Str}{st:Stmt}{f:Addr}{fd:FuncData}{ps:List Str}(F:Fun K x qual st f fd)
  (h:∀(kV doc pm:Value) (an:Option Addr) (cdv ct:Value) (us:List Value),us.length=ps.length->bindArgs (W.fnOf x qual (p5 st) (ky st) (bK st) .none kV doc pm an cdv ct) ⟨us,[]⟩=pure (ps.zip us)):cW K fd ps []:=by
 obtain⟨oc,od,kV,doc,pm,an,cdv,ct,osl,rfl,lk,hcd⟩:=F.ex
 exact .all (h kV doc pm an cdv ct)
def y151{x qual:Str}{st:Stmt}{f:Addr}{oc:Value}{od an:Option Addr}{osl:Array (Option Value)}{kV doc pm cdv ct:Value}(l:K.lookup f=some ⟨oc,od,.func (W.fnOf x qual (p5 st) (ky st) (bK st) .none kV doc pm an cdv ct),osl⟩)
  (c:W.codeIn K cdv qual=true) (k:W.keepIn K (.ref f)=true):Fun K x qual st f (W.fnOf x qual (p5 st) (ky st) (bK st) .none kV doc pm an cdv ct):=⟨⟨oc,od,kV,doc,pm,an,cdv,ct,osl,rfl,l,c⟩,k⟩
end
def jv{A:Around}{k:Nat}(hr:y54 k A):A.units+1<cLine:=Nat.lt_of_le_of_lt (Nat.add_le_add_left (by decide:1≤64) _) hr.units
section
variable {X:Cx}
def pv(i:Nat){x:Str}{pos:Pos}(hN:‹X.N[i]?=some x›)(hv:yK X.env.scope x:=by first|exact Or.inl rfl|exact Or.inr (Or.inl rfl)|exact Or.inr (Or.inr rfl))(hd:(x == ("__debug__" : Str))=false:=by decide)
  (hcd:(x == ("__classdict__" : Str))=false:=by decide):PE X (.Name x pos) (gF i):=ql hN hv hd hcd
def ya7:y6 X (.builtin "len") (λxs H Q=>∃a kvs,xs=[V.ref a]/\H a=some (.dK kvs)/\Q (.int kvs.length) H):=by
 intro pins s σ H xs us Q I r h
 obtain⟨a,kvs,rfl,ha,q⟩:=h
 obtain⟨u,rfl,ru⟩:=dE r
 cases ru
 exact rq I (.inl ha) λt s' I'=>⟨.int kvs.length,H,I',⟨t,rfl⟩,q⟩
end
def sD{A B:Prop}(h:B):if false=true then A else B:=by
 rw [if_neg z15]
 exact h
def nT{A B:Prop}(h:A):if true=true then A else B:=by
 rw [if_pos rfl]
 exact h
abbrev dU(H H':Hp):Prop:=∀b o,H b=some o->H' b=some o
def dU.free{H H':Hp}(e:dU H H'){l:Addr}(h:H' l=Option.none):H l=Option.none:=by
 cases q:H l with
 | none=>rfl
 | some o =>
  rw [e l o q] at h
  cases h
section
variable {κ:Type}[DecidableEq κ]
end
end
end L2
set_option maxHeartbeats 4000000
namespace PySem
abbrev nU(names:List (Str×NameKind))(env:Env):List (Str×Addr) :=
 names.foldl (λcs p=>if p.2 == NameKind.free then (p.1,(env.cells.lookup p.1).getD 0)::cs else cs) []
theorem ybb:∀(l:List (Str×NameKind)) (acc:List (Str×Addr)),(∀p∈l,p.2=.free->∃c,env.cells.lookup p.1=some c) ->
  (forIn l acc (λ(x:Str×NameKind) (cs:List (Str×Addr))=>match x with
   | (name,kind)=>if (kind == NameKind.free)=true then (do let a <- cellOf env name;pure (ForInStep.yield ((name,a)::cs)):Sem _) else pure (ForInStep.yield cs))) =
  (pure (l.foldl (λcs p=>if p.2 == NameKind.free then (p.1,(env.cells.lookup p.1).getD 0)::cs else cs) acc):Sem _)
 | [],acc,_=>by simp
 | (n,k)::r,acc,h=>by
  have ih:=λa=>ybb r a λp hp=>h p (z23 _ hp)
  rw [List.forIn_cons]
  by_cases hk:k=.free
  ·subst hk
   obtain⟨c,e⟩:=h (n,.free) List.mem_cons_self rfl
   have e':cellOf env n=pure c:=by unfold cellOf;rw [e]
   show (if (NameKind.free == NameKind.free)=true then (do let a <- cellOf env n;pure (ForInStep.yield ((n,a)::acc)):Sem _) else pure (ForInStep.yield acc)) >>= _=_
   rw [if_pos (by rfl),e',pure_bind,pure_bind]
   rw [List.foldl_cons]
   have e2:(if ((n,NameKind.free).2 == NameKind.free)=true then ((n,NameKind.free).1,(env.cells.lookup (n,NameKind.free).1).getD 0)::acc else acc)=(n,c)::acc:=by
    rw [if_pos (by rfl),e];rfl
   rw [e2]
   exact ih _
  ·have hb:(k == NameKind.free)=false:=by simpa using hk
   simp only [hb,Bool.false_eq_true,if_false,pure_bind,ih,List.foldl_cons]
def yba (h:∀p∈scope.names,p.2=.free->∃c,env.cells.lookup p.1=some c):closureFor scope env=pure (nU scope.names env):=by
 unfold closureFor nU
 have:=ybb scope.names [] h
 simp only [bind_pure]
 exact this
theorem lg{env:Env}:∀{l:List (Str×NameKind)} {acc:List (Str×Addr)} {y:Str} {c:Addr},
  (y,c)∈l.foldl (λcs p=>if p.2 == NameKind.free then (p.1,(env.cells.lookup p.1).getD 0)::cs else cs) acc↔(y,c)∈acc∨((y,NameKind.free)∈l/\c=(env.cells.lookup y).getD 0)
 | [],acc,y,c=>by simp
 | (n,k)::r,acc,y,c=>by
  rw [List.foldl_cons,lg]
  by_cases hk:k=.free
  ·subst hk
   simp only [beq_self_eq_true,if_true,z1e,Prod.mk.injEq]
   constructor
   ·rintro ((⟨rfl,rfl⟩| h)|⟨h1,h2⟩)
    ·exact .inr ⟨.inl ⟨rfl,trivial⟩,rfl⟩
    ·exact .inl h
    ·exact .inr ⟨.inr h1,h2⟩
   ·rintro (h|⟨⟨rfl,_⟩| h1,h2⟩)
    ·exact .inl (.inr h)
    ·exact .inl (.inl ⟨rfl,h2⟩)
    ·exact .inr ⟨h1,h2⟩
  ·have hb:(k == NameKind.free)=false:=by simpa using hk
   simp only [hb,Bool.false_eq_true,if_false,z1e,Prod.mk.injEq]
   constructor
   ·rintro (h|⟨h1,h2⟩)
    ·exact .inl h
    ·exact .inr ⟨.inr h1,h2⟩
   ·rintro (h|⟨⟨_,h⟩| h1,h2⟩)
    ·exact .inl h
    ·exact absurd h.symm hk
    ·exact .inr ⟨h1,h2⟩
theorem fX{β:Type}:∀{l:List (Str×β)} {a:Str} {b:β},l.lookup a=some b->(a,b)∈l
 | [],_,_,h=>by simp at h
 | (k,v)::l,a,b,h=>by
  rw [List.lookup_cons] at h
  split at h
  ·rename_i e
   cases h
   have:a=k:=by simpa using e
   subst this
   exact List.mem_cons_self
  ·exact z23 _ (fX h)
theorem sE{β:Type}:∀{l:List (Str×β)} {a:Str} {b:β},(a,b)∈l->∃b',l.lookup a=some b'
 | [],_,_,h=>by simp at h
 | (k,v)::l,a,b,h=>by
  rw [List.lookup_cons]
  split
  ·exact⟨v,rfl⟩
  ·rename_i e
   rcases z1e.mp h with q|q
   ·cases q
    simp at e
   ·exact sE q
theorem lh{env:Env}:∀{names:List (Str×NameKind)} {y:Str} {k:NameKind},
  (names.map λ(n,k)=>if (k == NameKind.free&&env.scope.kind == .function&&env.kindOf n == some .cell) then (n,NameKind.cell) else (n,k)).lookup y=some k ->
  names.lookup y=some k∨(names.lookup y=some .free/\k=.cell)
 | [],_,_,h=>by simp at h
 | (n,k0)::r,y,k,h=>by
  rw [z16] at h
  by_cases hc:(k0 == NameKind.free&&env.scope.kind == .function&&env.kindOf n == some .cell)=true
  ·simp only [hc,if_true] at h
   rw [List.lookup_cons] at h ⊢
   cases hy:y == n with
   | true =>
    rw [hy] at h
    cases h
    have:k0=.free:=by
     rw [z24,z24] at hc
     simpa using hc.1.1
    subst this
    exact .inr ⟨rfl,rfl⟩
   | false =>
    rw [hy] at h
    exact lh h
  ·rw [Bool.not_eq_true] at hc
   simp only [hc,Bool.false_eq_true,if_false] at h
   rw [List.lookup_cons] at h ⊢
   cases hy:y == n with
   | true =>
    rw [hy] at h
    exact .inl h
   | false =>
    rw [hy] at h
    exact lh h
theorem sF{env:Env}:∀{names:List (Str×NameKind)} {y:Str},names.lookup y=some .free ->
  (names.map λ(n,k)=>if (k == NameKind.free&&env.scope.kind == .function&&env.kindOf n == some .cell) then (n,NameKind.cell) else (n,k)).lookup y=some .cell ∨
  (names.map λ(n,k)=>if (k == NameKind.free&&env.scope.kind == .function&&env.kindOf n == some .cell) then (n,NameKind.cell) else (n,k)).lookup y=some .free
 | [],_,h=>by simp at h
 | (n,k0)::r,y,h=>by
  rw [z16]
  rw [List.lookup_cons] at h
  cases hy:y == n with
  | true =>
   rw [hy] at h
   cases h
   by_cases hc:(NameKind.free == NameKind.free&&env.scope.kind == .function&&env.kindOf n == some .cell)=true
   ·left;simp only [hc,if_true,List.lookup_cons,hy]
   ·rw [Bool.not_eq_true] at hc
    right;simp only [hc,Bool.false_eq_true,if_false,List.lookup_cons,hy]
  | false =>
   rw [hy] at h
   have ih:=sF (env:=env) h
   by_cases hc:(k0 == NameKind.free&&env.scope.kind == .function&&env.kindOf n == some .cell)=true
   ·simp only [hc,if_true,List.lookup_cons,hy];exact ih
   ·rw [Bool.not_eq_true] at hc
    simp only [hc,Bool.false_eq_true,if_false,List.lookup_cons,hy];exact ih
section
abbrev y9(prog:Program)(w:World)(A:Around)(elt target:Expr)(ifs:List Expr)(env:Env)(it acc:Value)(last:Shared->Prop)(on:Shared->Prop):Shared->Prop :=
 let no:Value->Shared->Prop:=λ_ _=>False
 wpAny (model prog w) A (pyNext it) (λr s1=>match r with
  | none=>last s1
  | some v=>wpAny (model prog w) A (letOwnedTupleGo target it v) (λ_=>wpAny (model prog w) A (assign target env v) (λ_=>wpAny (model prog w) A
    (forIn ifs true λc r=>if r=true then do let ok <- isTrue c env (eval c env);pure (ForInStep.yield ok) else pure (ForInStep.yield r))
    (λok s4=>if ok=true then wpAny (model prog w) A (eval elt env) (λx=>wpAny (model prog w) A (call (.builtin "list.append") [acc,x]) (λ_=>on) no) no s4 else on s4) no) no) no s1) no
def yc9{last on:Shared->Prop}{s:Shared}(h:y9 prog w A elt target ifs env it acc last on s) :
  wpAny (model prog w) A (compTurn (.ListComp elt [⟨target,iter,ifs,0⟩] scope pos) 0 it acc env) (λr t=>r=.done .next/\last t∨r=.again (.compLoop (.ListComp elt [⟨target,iter,ifs,0⟩] scope pos) 0 it acc env)/\on t) (λ_ _=>False) s:=by
 have off:∀{R:Value->Shared->Prop} (e:Value) (t:Shared),False->R e t:=λ_ _ f=>f.elim
 rw [compTurn_list]
 refine zb (wpAny_standAt (zb (wpAny_mono h (λr s1 k=>?_) off)))
 match r,k with
 | none,k=>exact zd (.inl ⟨rfl,k⟩)
 | some v,k =>
  refine zb (wpAny_mono k (λ_ _ k=>zb (wpAny_mono k (λ_ _ k=>zb (wpAny_mono k (λok s4 k=>?_) off)) off)) off)
  match ok,k with
  | false,k=>exact zd (.inr ⟨rfl,k⟩)
  | true,k=>exact zb (zb (wpAny_mono k (λ_ _ k=>zb (wpAny_mono k (λ_ _ k=>zd (zd (.inr ⟨rfl,k⟩))) off)) off))
def ybf(I:Nat->Shared->Prop)(turn:∀n s,I n s->y9 prog w A elt target ifs env it acc (R (.ok .next)) (λt=>∃m,m<n/\I m t) s)(n:Nat)(h:I n s) :
  codeAny (model prog w) A (.compLoop (.ListComp elt [⟨target,iter,ifs,0⟩] scope pos) 0 it acc env) R s:=by
 refine codeAny_loop rfl I (λn s k=>wpAny_noted ?_) n h
 refine wpAny_mono (yc9 (turn n s k)) (λr t k=>?_) λ_ _ f=>f.elim
 rcases k with⟨rfl,k⟩| ⟨rfl,k⟩
 ·exact k
 ·exact⟨rfl,k⟩
end
end PySem
namespace L2
open PySem PySem.Spec PyProof.Rows
section
structure ya where
 fp:List Addr
 s:Shared
 H:Hp
 C:Addr
 pins:List (Addr×Obj)
abbrev dF(X:Cx)(scope:Scope)(N:List Str)(z:ya):Cx :=
 { X with N:=N,s₀:=z.s,H₀:=z.H,env:=compEnvC scope (nU scope.names X.env) z.C X.env,outer:=X.stack,ex:=z.fp,fn:=λ_=>false,pn:=X.pn++z.pins,xe:=λ_ _=>False }
structure CompOk(X:Cx)(scope:Scope)(x:Str)(ys:List Str)(ix:List Nat):Prop where
 kind:scope.kind=.function
 hx:scope.names.lookup x=some .local
 y235:∀p∈scope.names,p.2≠.cell
 names:∀p∈scope.names,p.2=.local->scope.names.lookup p.1=some .local
 fr:∀p∈scope.names,p.2=.free->X.env.kindOf p.1=some .cell∨X.env.kindOf p.1=some .free
 len:ys.length=ix.length
 here:∀(j:Nat) (y:Str) (i:Nat),ys[j]?=some y->ix[j]?=some i->scope.names.lookup y=some .free/\X.N[i]?=some y
 nd:(x::ys).Nodup
abbrev mP(X:Cx)(ifs:List Expr)(t:TT):Prop :=
 ∀(pins:List (Addr×Obj)) (s:Shared) (σ:St) (H:Hp) (Q:Bool->Hp->Prop),Inv X pins σ H s->t σ H Q ->
  wpAny (model X.prog X.w) X.A (forIn ifs true λc r=>if r=true then do let ok <- isTrue c X.env (eval c X.env);pure (ForInStep.yield ok) else pure (ForInStep.yield r)) (TP X pins σ Q) X.xe s
abbrev sG:TT:=λ_ H Q=>Q true H
def BF:mP X [] sG:=λpins s σ H Q I h=>wpAny_tests_nil ⟨H,I,h⟩
def BG (h:PT X c t):mP X [c] t:=λpins s σ H Q I q=>wpAny_tests_one (h pins s σ H Q I q)
section
def yca   (I:Inv X pins σ H s)(f:iy X pins H C)(hs:Heap.SameBut C s.heap h'):Inv X pins σ H { s with heap:=h' } :=
 I.turned (λb o hb e=>(hs.2 b hb).trans e) f.1 f.2.1 f.2.2.2.1 f.2.2.2.2.1 f.2.2.2.2.2
end
section
end
section
end
section
end
end
end L2
namespace PySem
open PyProof.Rows
def BH:typeLookup (.type "list_reverseiterator") "__len__" = pure none:=by rw [typeLookup_type,builtinLookup_eq_fast];kernel_rfl
def BI:typeLookup (.type "list_reverseiterator") "__length_hint__" = pure (some (.builtin "list_reverseiterator.__length_hint__")):=by rw [typeLookup_type,builtinLookup_eq_fast];kernel_rfl
section
def BJ(hT:s.TypeIs (.ref r) "list_reverseiterator")(h:Q false s):wpAny (model prog w) A (Builtin.List.listLengthHint (.ref r)) Q E s:=by
 have isa:isSubtype (.type "list_reverseiterator") (.type "list_reverseiterator")=pure true:=by rw [isSubtype_type];kernel_rfl
 have cut:splitId "list_reverseiterator.__length_hint__" = some ("list_reverseiterator","__length_hint__"):=by decide +kernel
 unfold Builtin.List.listLengthHint
 refine zb (wpAny_specialOf hT BH (zb (wpAny_specialOf hT BI ?_)))
 dsimp only
 rw [cut]
 refine zb (wpAny_isInstance hT isa ?_)
 rw [if_neg (by decide),if_pos (by decide +kernel),if_neg (by decide +kernel)]
 exact zd h
abbrev y4d(s:Shared):Value->Shared->Prop:=λv t=>v=.ref s.heap.objs.size/\t={ s with heap:=s.heap.push { cls:=.type "list",data:=.seq #[] } }
def yab (hh:A.handled=none)(hl:s.heap.IsList l items)(hne:l≠it)(hi:s.heap.IsRevIter it l ((items.size:Int)-1))(hn:items.size≤sizeLine)
  (hQ:∀h' tk acc c,(∀b o,b≠it->s.heap.get? b=some o->h'.get? b=some o)->h'.get? s.heap.objs.size=some { cls:=.type "list",dict:=none,data:=.seq acc c,slots:=#[] } ->
   ItemsOf (λi v=>items[items.size-1-i]?=some v) acc items.size->Q (.ref s.heap.objs.size) { s with heap:=h',toks:=tk }) :
  wpAny (model prog w) A (call (.type "list") [.ref it]) Q E s:=by
 refine callType_codes (Q₁:=y4d s) PySem.F.called_list (PySem.F.typeCall_list_1 _) PySem.F.entry_list_init (code_list_new _ ⟨rfl,rfl⟩) ?_
 rintro _ _ ⟨rfl,rfl⟩
 have hS:=z28 s.heap (o:={ cls:=.type "list",data:=.seq #[] }) rfl
 have below:∀{b o},s.heap.get? b=some o->b<s.heap.objs.size:=z19
 have hlt:l<s.heap.objs.size:=hl.elim λ_ q=>below q.1
 have hit:it<s.heap.objs.size:=hi.elim λ_ q=>below q.1
 refine⟨⟨_,hS,rfl⟩,PySem.F.args_list_init_2 _ _,?_⟩
 show wpAny _ _ (do let old <- Builtin.List.listItems (.ref s.heap.objs.size);Builtin.List.listUpdate (.ref s.heap.objs.size) (λ_=>#[]);letGo old.toList.reverse;Builtin.List.listExtendWith (.ref s.heap.objs.size) (.ref it) .none) _ _ _
 refine zb ?_
 unfold Builtin.List.listItems
 refine zb (wpAny_seqItems hS rfl (zd ?_))
 show wpAny _ _ (updateSeq s.heap.objs.size (λ_=>#[]) >>= λ_=>letGo (#[]:Array Value).toList.reverse >>= λ_=>Builtin.List.listExtendWith (.ref s.heap.objs.size) (.ref it) .none) _ _ _
 refine zb (wpAny_updateSeq hS rfl ?_)
 have hS₂:=Heap.get?_update_self (Obj.mapSeq (λ_=>(#[]:Array Value))) hS rfl
 generalize hh2:(s.heap.push { cls:=.type "list",data:=.seq #[] }).update s.heap.objs.size (Obj.mapSeq (λ_=>(#[]:Array Value)))=h2 at hS₂ ⊢
 have oth:∀b o,s.heap.get? b=some o->h2.get? b=some o:=λb o e=>by
  rw [<- hh2]
  exact (Heap.get?_update_other _ _ (Nat.ne_of_gt (z19 e))).trans (zf _ e)
 refine zb (wpAny_letGo ?_)
 have hl2:h2.IsList l items:=hl.at λo e=>oth l o e
 have hi2:h2.IsRevIter it l ((items.size:Int)-1):=hi.at λo e=>oth it o e
 have hSI:s.heap.objs.size≠it:=Nat.ne_of_gt hit
 have W:=Walks.listRev (prog:=prog) (w:=w) (A:=A.in1.in1) hh it l hne items
 have st:(λi (h:Heap)=>i≤items.size/\h.IsRevIter it l ((items.size:Int)-1-(i:Int))/\h.IsList l items) 0 h2:=⟨Nat.zero_le _,by simpa using hi2,hl2⟩
 unfold Builtin.List.listExtendWith
 have hT:({ s with heap:=h2 }:Shared).TypeIs (.ref it) "list_reverseiterator":=hi2.typeIs
 refine zb (wpAny_typeOf hT ?_)
 have h1:Builtin.List.listSameRef (.ref s.heap.objs.size) (.ref it)=false:=by simp [Builtin.List.listSameRef,hSI]
 have h2':(Value.type "list_reverseiterator" == Value.type "list")=false:=by decide
 have h3:(Value.type "list_reverseiterator" == Value.type "tuple")=false:=by decide
 simp only [h1,h2',h3,Bool.or_false,Bool.false_eq_true,if_false]
 refine zb (wpAny_pyIter_revIter hi2 ?_)
 refine zb (wpAny_holding (BJ hT ?_))
 have hSf:s.heap.objs.size∉[it,l]:=by simp only [z1e,List.not_mem_nil,or_false,not_or];exact⟨hSI,Nat.ne_of_gt hlt⟩
 have key:∀(h:Heap) (c₁:Nat),(λi (h:Heap)=>i≤items.size/\h.IsRevIter it l ((items.size:Int)-1-(i:Int))/\h.IsList l items) 0 h->(∀b o,s.heap.get? b=some o->h.get? b=some o) ->
   h.get? s.heap.objs.size=some { cls:=.type "list",data:=.seq #[] c₁ }->codeAny (model prog w) A.in1 (.builtin "list.extend.loop" ⟨[.ref s.heap.objs.size,.ref it,.none],[]⟩) (wants (λr s₂=>r=.none/\Q (.ref s.heap.objs.size) s₂) E) { s with heap:=h }:=by
  intro h c₁ hst hk hS₁
  refine codeAny_extend_loopS W.toS hn s.heap.objs.size hSf .none items.size 0 _ #[] c₁ rfl (Nat.zero_le _) hst hS₁ (ItemsOf.nil _) λs' acc' c' hm hS' y17f=>?_
  rw [Moved.eq_with hm]
  refine⟨rfl,hQ s'.heap s'.toks acc' c' (λb o hb e=>hm.heap b o (λhmem=>?_) (hk b o e)) hS' y17f⟩
  rcases z1e.mp hmem with e'|hmem
  ·exact absurd (z19 e) (by rw [e'];exact z31 _)
  ·exact hb (z17.mp hmem)
 refine wpAny_ite_split (λ_=>?_) (λ_=>zd ⟨plainId_quiet PySem.F.plain_extend_loop _,key _ _ st oth hS₂⟩)
 refine zb (wpAny_rule ?_)
 refine zb ?_
 show wpAny _ _ (updateSeq s.heap.objs.size (·.push .none) >>= λ_=>updateSeq s.heap.objs.size (·.pop)) _ _ _
 refine zb (wpAny_updateSeq hS₂ rfl ?_)
 have hS₃:=Heap.get?_update_self (Obj.mapSeq (·.push Value.none)) hS₂ rfl
 refine wpAny_updateSeq hS₃ rfl ?_
 have hS₄:=Heap.get?_update_self (Obj.mapSeq (·.pop)) hS₃ rfl
 have oth2:=((Heap.SameBut.update h2 s.heap.objs.size (Obj.mapSeq (·.push Value.none))).trans (Heap.SameBut.update _ _ (Obj.mapSeq (·.pop)))).extBut
 refine zd ⟨plainId_quiet PySem.F.plain_extend_loop _,key _ _ ?_ (λb o e=>oth2 b o (z27 (z19 e)) (oth b o e)) hS₄⟩
 exact W.frame 0 _ _ st λb hb o e=>oth2 b o (λz=>hSf (z ▸ hb)) e
end
end PySem
namespace L2
open PySem PySem.Spec PyProof.Rows
section
section
def BK(hc:X.calm=true)(gl:Gl X "list")(ml:X.mg "list" = none)(gr:Gl X "reversed")(mr:X.mg "reversed" = none)(he:PE X e te)
  (hs1:‹starEach [e] X.env=[(false,eval e X.env)]›)
  (hs2:‹starEach [.Call (.Name "reversed" p2) [e] [] q2] X.env=[(false,eval (.Call (.Name "reversed" p2) [e] [] q2) X.env)]›) :
  PE X (.Call (.Name "list" p1) [.Call (.Name "reversed" p2) [e] [] q2] [] q1) (λσ H Q=>te σ H λx H1=>∃l ys,x=.ref l/\bL X.K H1 l ys/\∀p,H1 p=none->Q (.ref p) (upd H1 p (.lst ys.reverse))):=by
 intro pins s σ H Q I h
 refine Call_ (iw I gl ml PyProof.Rows.boot_list (PyProof.Rows.callWith_type1 ?_ (by rw [hs2];rfl) rfl))
 rw [hs2]
 show wpAny _ _ (spliced ((false,eval (.Call (.Name "reversed" p2) [e] [] q2) X.env)::backTo q1 [])) _ _ s
 refine Calls.spliced_cons ?_
 refine Call_ (iw I gr mr PyProof.Rows.boot_reversed (PyProof.Rows.callWith_type1 ?_ (by rw [hs1];rfl) rfl))
 rw [hs1]
 show wpAny _ _ (spliced ((false,eval e X.env)::backTo q2 [])) _ _ s
 refine Calls.spliced_cons (aH (he pins s σ H _ I h) λu s1 ⟨x,H1,I1,r1,q1⟩=>Calls.spliced_nil ?_)
 obtain⟨l,ys,e1,hq,q⟩:=q1
 subst e1
 cases r1
 obtain⟨its,rv,p,hz⟩:=I1.list hq
 have hlen:=rv.length
 refine call_reversed_list p.isList (Calls.spliced_nil ?_)
 have hl1:(s1.heap.push (revObj l ((its.toArray.size:Int)-1))).IsList l its.toArray:=p.isList.push _
 have hlt:l<s1.heap.objs.size:=by obtain⟨_,e,_⟩:=p.isList;exact z19 e
 refine yab (I1.ok.hd hc) hl1 (z27 hlt) ⟨_,z28 _ rfl,rfl,rfl⟩ (by rw [zc,<- hlen];exact hz) λh' tk acc c hk hD y17f=>?_
 have hk':∀b o,s1.heap.get? b=some o->h'.get? b=some o:=λb o e=>hk b o (z27 (z19 e)) (zf _ e)
 have hsz:s1.heap.objs.size≤(s1.heap.push (revObj l ((its.toArray.size:Int)-1))).objs.size:=by rw [Heap.size_push];exact Nat.le_succ _
 have hv:acc.toList=its.reverse:=by
  refine List.ext_getElem? λi=>?_
  by_cases hi:i<its.length
  ·have hi2:i<acc.size:=by rw [y17f.1,zc];exact hi
   have e:=y17f.2 i acc[i] (Array.getElem?_eq_getElem hi2)
   rw [List.getElem?_reverse hi,Array.getElem?_toList,Array.getElem?_eq_getElem hi2]
   simpa using e.symm
  ·rw [List.getElem?_eq_none (by rw [Array.length_toList,y17f.1,zc];lia),List.getElem?_eq_none (by rw [z30];lia)]
 refine⟨.ref _,_,I1.laid hk' hsz ?_,rfl,q _ (I1.hok.fresh hsz)⟩
 exact⟨by rw [z30];exact hz,acc.toList,c,by rw [hv];exact rv.reverse,by rw [Array.toArray_toList];exact hD⟩
def BL:cf X (binaryOp .FloorDiv) (rI (λ_ j=>0<j/\j<2 ^ 200) λi j=>.int (i / j)):=qN λi j _ _ _ _ _ hc q=>by
 have h0:j≠0:=by lia
 refine floordiv_int h0 ?_ (.inl (PyProof.noPylong_of_log2 ?_))
 ·rw [Int.fdiv_eq_ediv_of_nonneg _ (by lia)];exact q
 ·have:j.natAbs<2 ^ 200:=by lia
  have h1:j.natAbs≠0:=by lia
  exact Nat.lt_trans ((Nat.log2_lt h1).mpr this) (by decide)
theorem sH:∀{ys:List Str} {us:List Value},au (ys.map V.str) us->StrsAre us ys
 | [],_,r=>by rw [List.map_nil] at r;cases r;exact .nil
 | y::ys,_,r=>by
  rw [z16] at r
  cases r with
  | cons r1 r2 =>
   obtain⟨t,rfl⟩:=r1
   exact .cons y t (sH r2)
abbrev mQ(K:W.Frag):V->List V->Hp->VK->Prop:=λx vs H Q=>∃(z:Str) (p:Addr) (ys:List Str),x=.str z/\vs=[.ref p]/\bL K H p (ys.map V.str)/\(ys.map (·.length)).sum+ys.length*z.length≤16777216/\Q (.str (Txt.join z ys)) H
def BM:mO X "str.join" (mQ X.K):=by
 intro pins s σ H x xs v us Q I rx r h
 obtain⟨z,p,ys,rfl,rfl,hq,hz,q⟩:=h
 obtain⟨t,rfl⟩:=rx
 obtain⟨u,rfl,ru⟩:=dE r
 cases ru
 obtain⟨its,rv,pl,_⟩:=I.list hq
 exact join_list pl.isList (sH (by simpa using rv)) hz λt' k=>⟨.str (Txt.join z ys),H,I.tok _,⟨_,rfl⟩,q⟩
end
end
end L2
namespace L2
open PySem PySem.Spec PyProof.Rows Builtin.Str
section
section
abbrev sI:V->Option Int->Option Int->Hp->VK->Prop:=λx lo hi H Q=>∃z,x=.str z/\z.length≤sizeLine/\Q (.str (Txt.slice z lo hi)) H
def BN:kW X sI:=by
 intro pins s σ H x v vl vu lo hi sl Q I rx hs pl pu h
 obtain⟨z,rfl,hz,q⟩:=h
 obtain⟨t,rfl⟩:=rx
 refine⟨"str",_,PySem.F.slot_str_getitem.lookup,typeIs_str _ _ _,?_⟩
 cases pl with
 | none =>
  cases pu with
  | none=>exact wpAny_getItem_str_slice (l:=none) (u:=none) (st:=none) hs rfl (post_val_or_str ⟨z1b (Txt.slice_le z _ _) hz,λt' k=>⟨.str (Txt.slice z none none),H,I.tok _,⟨_,rfl⟩,q⟩⟩)
  | int j uj=>exact wpAny_getItem_str_slice (l:=none) (u:=some (j,uj)) (st:=none) hs rfl (post_val_or_str ⟨z1b (Txt.slice_le z _ _) hz,λt' k=>⟨.str (Txt.slice z none (some j)),H,I.tok _,⟨_,rfl⟩,q⟩⟩)
 | int i ui =>
  cases pu with
  | none=>exact wpAny_getItem_str_slice (l:=some (i,ui)) (u:=none) (st:=none) hs rfl (post_val_or_str ⟨z1b (Txt.slice_le z _ _) hz,λt' k=>⟨.str (Txt.slice z (some i) none),H,I.tok _,⟨_,rfl⟩,q⟩⟩)
  | int j uj=>exact wpAny_getItem_str_slice (l:=some (i,ui)) (u:=some (j,uj)) (st:=none) hs rfl (post_val_or_str ⟨z1b (Txt.slice_le z _ _) hz,λt' k=>⟨.str (Txt.slice z (some i) (some j)),H,I.tok _,⟨_,rfl⟩,q⟩⟩)
def BO:cf X (binaryOp .Mult) (λx y H Q=>∃z n,x=.str z/\y=.int n/\MulOk z n/\Q (.str (Txt.mul z n)) H):=by
 intro pins s σ H x y v u Q I rx ry h
 obtain⟨z,n,rfl,rfl,hm,q⟩:=h
 obtain⟨t,rfl⟩:=rx
 obtain⟨t',rfl⟩:=ry
 exact SB.mul hm λt' k=>⟨.str (Txt.mul z n),H,I.tok _,⟨_,rfl⟩,q⟩
abbrev nV:List V->List V->Bool
 | [],[]=>true
 | x::xs,y::ys=>gK x y&&nV xs ys
 | _,_=>false
def BP(n:Nat)(f:Nat->Bool):(List.range (n+1)).all f=(f 0&&(List.range n).all λj=>f (j+1)):=by
 rw [List.range_succ_eq_map,List.all_cons,List.all_map];rfl
abbrev Ir(K:W.Frag)(neg:Bool):R2:=λx y H Q=>∃a b xs ys,x=.ref a/\y=.ref b/\bL K H a xs/\bL K H b ys/\xs.all bH=true/\ys.all bH=true/\Q (.bl (if neg then !nV xs ys else nV xs ys)) H
end
abbrev b8(P:Program)(w:World)(K:W.Frag)(mg:Str->Option Value)(base:Heap)(x:Str)(k:Nat)(ps:List Str)(sp:Sp):Prop :=
 ∃(f:Addr) (fd:FuncData),mg x=some (.ref f)/\W.keepIn K (.ref f)=true/\cW K fd ps []/\y46 P w K mg base bV k f fd ps sp
def BQ    (h:b8 X.prog X.w X.K X.mg X.base x k ps sp)(hr:y54 k X.A)(hg:Gl X x)(ha:PA X (e::es) t)
  (hdb:(x == ("__debug__" : Str))=false:=by decide) (he:‹gI X e es›) (hpl:‹gB X pos es›) :
  PE X (.Call (.Name x p) (e::es) [] pos) (fg sp [] E0 t):=by
 obtain⟨f,fd,hm,hk,hb,G⟩:=h
 exact nM G hr hg hm hk hb .nil sA ha hdb he hpl
end
end L2
namespace L2
open PySem PySem.Spec PyProof.Rows
section
abbrev dk(n:Nat)(ix:List Nat)(σ:St):St:=List.replicate n none++ix.map λi=>(σ[i]?).getD none
structure yc(X:Cx)(scope:Scope)(xs ys:List Str)(ix:List Nat):Prop where
 kind:scope.kind=.function
 hx:∀x∈xs,scope.names.lookup x=some .local
 y235:∀p∈scope.names,p.2≠.cell
 names:∀p∈scope.names,p.2=.local->scope.names.lookup p.1=some .local
 fr:∀p∈scope.names,p.2=.free->X.env.kindOf p.1=some .cell∨X.env.kindOf p.1=some .free
 len:ys.length=ix.length
 here:∀(j:Nat) (y:Str) (i:Nat),ys[j]?=some y->ix[j]?=some i->scope.names.lookup y=some .free/\X.N[i]?=some y
 nd:(xs++ys).Nodup
abbrev BR(osc:Scope)(N:List Str)(scope:Scope)(xs ys:List Str)(ix:List Nat):Bool :=
 decide (scope.kind=.function)&&xs.all (λx=>decide (scope.names.lookup x=some .local))&&scope.names.all (λp=>decide (p.2≠.cell)) &&
 scope.names.all (λp=>decide (p.2=.local->scope.names.lookup p.1=some .local)) &&
 scope.names.all (λp=>decide (p.2=.free->osc.names.lookup p.1=some .cell∨osc.names.lookup p.1=some .free)) &&
 decide (ys.length=ix.length)&&(ys.zip ix).all (λp=>decide (scope.names.lookup p.1=some .free/\N[p.2]?=some p.1))&&decide ((xs++ys).Nodup)
def yc5  (hsc:X.env.scope=osc)(hN:X.N=N)(h:BR osc N scope xs ys ix=true):yc X scope xs ys ix:=by
 unfold BR at h
 simp only [z24,List.all_eq_true,decide_eq_true_eq] at h
 obtain⟨⟨⟨⟨⟨⟨⟨h1,h2⟩,h3⟩,h4⟩,h5⟩,h6⟩,h7⟩,h8⟩:=h
 refine⟨h1,h2,h3,h4,λp hp hf=>?_,h6,λj y i e1 e2=>?_,h8⟩
 ·have:=h5 p hp hf
  unfold Env.kindOf
  rw [hsc]
  exact this
 ·rw [hN]
  refine h7 (y,i) ?_
  have:(ys.zip ix)[j]?=some (y,i):=by rw [List.getElem?_zip_eq_some];exact⟨e1,e2⟩
  exact z32 this
abbrev y4c(n:Nat)(ix:List Nat)(σ σ':St):Prop:=σ'.length=n+ix.length/\∀(j:Nat) v,(dk n ix σ)[j]?=some (some v)->σ'[j]?=some (some v)
def sJ(n:Nat)(ix:List Nat)(σ:St):(dk n ix σ).length=n+ix.length:=by
 unfold dk
 rw [za,List.length_replicate,z12]
def BS  (h:j<n)(v:V):(dk n ix σ)[j]?≠some (some v):=by
 unfold dk
 rw [z1a (by rw [List.length_replicate];exact h),List.getElem?_replicate,if_pos h]
 intro e
 have:(none:Option V)=some v:=z1f e
 cases this
def yc8  (O:yc X scope xs ys ix)
  (I:Inv X pins σ H s) (hf:∀b∈fp,iy X pins H b) (hfl:∀b∈fp,b<s.heap.objs.size) (m:Str->Option Value)
  (hns:h'.Ns s.heap.objs.size m) (hk:∀b o,s.heap.get? b=some o->h'.get? b=some o) :
  Inv (dF X scope (xs++ys) ⟨fp,s,H,s.heap.objs.size,pins⟩) [] (dk xs.length ix σ) H { s with heap:=h',toks:=t' }:=by
 have hC:H s.heap.objs.size=none:=I.hok.fresh (ze _)
 have cl:∀y c,(nU scope.names X.env).lookup y=some c->X.env.cells.lookup y=some c:=λy c e=>by
  rcases (lg).mp (fX e) with z|⟨z,rfl⟩
  ·simp at z
  ·obtain⟨c',e'⟩:=I.ok.has y (O.fr _ z rfl)
   rw [e'];rfl
 have clh:∀y,(y,NameKind.free)∈scope.names->∃c,(nU scope.names X.env).lookup y=some c:=λy z=>sE ((lg).mpr (.inr ⟨z,rfl⟩))
 refine⟨⟨I.ok.mod,O.kind,I.ok.glob,I.ok.blt,ze _,λy z c h1 h2=>I.ok.inj y z c (cl y c h1) (cl z c h2),λy hy=>?_,λy c h _=>?_,I.ok.hd,I.ok.frames,.inl rfl,
  λb hb=>⟨z27 (hfl b hb),λy c e=>(hf b hb).2.2.2.2.1 y c (cl y c e)⟩,I.bs,z1b I.ok.bsz I.sz,λb o e hb=>?_,λb hb hb2=>?_,I.stack,I.y3da⟩,
  rfl,I.bare,Un.kept hk,⟨m,hns,λi y v e1 e2 vis=>?_⟩,λy c e=>?_,hC,λy c e=>I.y14e y c (cl y c e),λp hp=>?_,I.hok.kept hk,?_⟩
 ·rcases hy with h|h
  ·rcases lh h with q|⟨q,_⟩
   ·exact absurd rfl (O.y235 _ (fX q))
   ·exact clh y (fX q)
  ·rcases lh h with q|⟨q,e⟩
   ·exact clh y (fX q)
   ·cases e
 ·exact Bool.noConfusion (show false=true from h)
 ·rcases (hf b hb).2.2.2.1 with z|z
  ·exact I.ok.y238 b o e z
  ·exact absurd (z1c (z1c (z19 e) I.ok.bsz) z) (z31 _)
 ·exact (z1e.mp (I.y3db b hb2)).elim (λe=>(hf b hb).2.1 e) λz=>(hf b hb).2.2.1 z
 ·have hil:xs.length≤i:=Nat.le_of_not_lt λq=>BS q v e2
  obtain⟨j,rfl⟩:=Nat.exists_eq_add_of_le hil
  have ey:ys[j]?=some y:=by
   have e1':(xs++ys)[xs.length+j]?=some y:=e1
   rw [z18 (Nat.le_add_right _ _),Nat.add_sub_cancel_left] at e1'
   exact e1'
  have e2':(ix.map λi=>(σ[i]?).getD none)[j]?=some (some v):=by
   have e2'':(dk xs.length ix σ)[xs.length+j]?=some (some v):=e2
   unfold dk at e2''
   rw [z18 (by rw [List.length_replicate];exact Nat.le_add_right _ _),List.length_replicate,Nat.add_sub_cancel_left] at e2''
   exact e2''
  rw [List.getElem?_map] at e2'
  cases hi:ix[j]? with
  | none=>rw [hi] at e2';cases e2'
  | some i =>
   rw [hi] at e2'
   have e3:(σ[i]?).getD none=some v:=z1f e2'
   obtain⟨y18e,hN⟩:=O.here j y i ey hi
   have ev:σ[i]?=some (some v):=by
    cases h:σ[i]? with
    | none=>rw [h] at e3;cases e3
    | some q=>rw [h] at e3;exact congrArg some e3
   obtain⟨m',_,hl⟩:=I.loc
   have hkx:=O.fr (y,.free) (fX y18e) rfl
   obtain⟨u,r,l⟩:=hl i y v hN ev (hkx.elim (λz=>.inr (.inl z)) λz=>.inr (.inr z))
   refine⟨u,r,.inr ⟨sF y18e,?_⟩⟩
   obtain⟨c,ec⟩:=clh y (fX y18e)
   rcases l with⟨k,_⟩| ⟨_,c',ec',z⟩
   ·rcases hkx with q|q
    ·rw [q] at k;cases k
    ·rw [q] at k;cases k
   ·have:c=c':=z1f ((cl y c ec).symm.trans ec')
    subst this
    exact⟨c,ec,z.keeps hk⟩
 ·obtain⟨v,z⟩:=I.cell y c (cl y c e)
  exact⟨v,z.keeps hk⟩
 ·have hp':p∈(X.pn++pins)++([]:List (Addr×Obj)):=hp
  rw [z10] at hp'
  obtain⟨e,n,ne,nf,d⟩:=I.pin p hp'
  exact⟨hk _ _ e,n,z27 (z19 e),λz=>(z1e.mp (I.y3db _ z)).elim ne nf,d⟩
 ·show (dk xs.length ix σ).length=(xs++ys).length
  rw [sJ,za,O.len]
abbrev yd(n:Nat)(ix:List Nat)(J:It)(g:ya->TG)(tt:ya->TT)(te:ya->TE)(σ:St)(Q:VK)(H1:Hp):Prop :=
 ∀D,H1 D=none->∃W:Nat->Nat->List V->Hp->Prop,(∃m,W 0 m [] (upd H1 D (.lst [])))/\∀i m ys H2,W i m ys H2->H2 D=some (.lst ys) /\
  ((J.stop i H2/\Q (.ref D) H2)∨(J.go i H2/\ys.length<sizeLine/\∃N:List V->Hp->Prop,(∀ys' H',N ys' H'->∃m',m'<m/\W (i+1) m' ys' H') /\
   ∀x H3,J.yld i H2 x H3->∀z,g z x (dk n ix σ) H3 λσ' H3'=>y4c n ix σ σ'/\tt z σ' H3' λb H4 =>
    if b=true then te z σ' H4 λy H5=>H5 D=some (.lst ys)/\N (ys++[y]) (upd H5 D (.lst (ys++[y]))) else N ys H4))
def yc6  (O:yc X scope xs ys ix)(hc:X.calm=true)  {g:ya->TG}{tt:ya->TT}{te:ya->TE}
  (hg:∀z,PG (dF X scope (xs++ys) z) tg (g z)) (hi:∀z,mP (dF X scope (xs++ys) z) ifs (tt z)) (he:∀z,PE (dF X scope (xs++ys) z) elt (te z))
  {σ:St} {H:Hp}   {tn:Nat->Heap->Prop} (I2:Inv X pins σ H s2) (T:Turn X.prog X.w X.K tg J fp it tn) (st:tn 0 s2.heap)
  (hf:∀b∈fp,iy X pins H b) {Q:VK} (hw:yd xs.length ix J g tt te σ Q H) {RR:Value->Addr->Result->Shared->Prop} {E:Value->Shared->Prop}
  (hRR:∀D C m' H' s',Inv X pins σ H' s'->s'.heap.Ns C m'->iy X pins H' C->Q (.ref D) H'->RR (.ref D) C (.ok .next) s') :
  wpAny (model X.prog X.w) X.A (newList []) (λacc s₃=>wpAny (model X.prog X.w) X.A (newFunctionEnv scope X.env.globals (nU scope.names X.env) [] X.env.qual none .none (some X.env)) (λcenv s₄ =>
   codeAny (model X.prog X.w) X.A (.compStart (.ListComp elt [⟨tg,iter,ifs,0⟩] scope pos) 0 (.ref it) acc { cenv with scope:=relabel scope X.env }) (RR acc cenv.locals) s₄) E s₃) E s2:=by
 refine z2c (wpAny_newFunctionEnv O.y235 (by intro y hy;simp at hy) (λh₁ hns₁ hsb₁=>?_) O.kind)
 dsimp only at hns₁ hsb₁ ⊢
 have hDn:H s2.heap.objs.size=none:=I2.hok.fresh (ze _)
 obtain⟨W,⟨m0,w0⟩,turn⟩:=hw s2.heap.objs.size hDn
 have flt:∀b∈fp,b<s2.heap.objs.size:=λb hb=>by
  obtain⟨o,e,_⟩:=T.obj 0 _ st b hb
  exact z19 e
 obtain⟨s3,hs3⟩:∃s3:Shared,s3={ s2 with heap:=s2.heap.push { cls:=.type "list",data:=.seq ([]:List Value).toArray } }:=⟨_,rfl⟩
 have hh3:s3.heap=s2.heap.push { cls:=.type "list",data:=.seq ([]:List Value).toArray }:=by rw [hs3]
 have I3:Inv X pins σ (upd H s2.heap.objs.size (.lst [])) s3:=by
  rw [hs3]
  exact I2.laid (λb u e=>zf _ e) (ze _) (show dQ X.prog X.w _ _ _ (.lst []) from ⟨Nat.zero_le _,[],0,.nil,z28 _ rfl⟩)
 have hns₂:h₁.Ns s3.heap.objs.size λx=>([]:List (Str×Value)).reverse.lookup x:=by rw [hh3];exact hns₁
 have hsb₂:Heap.SameBut s3.heap.objs.size (s3.heap.push { cls:=.type (if (some X.env).isSome then "dict" else "frame"),data:=.dict #[] }) h₁:=by rw [hh3];exact hsb₁
 have hf3:∀b∈fp,iy X pins (upd H s2.heap.objs.size (.lst [])) b:=λb hb=>⟨by rw [aK (z27 (flt b hb))];exact (hf b hb).1,(hf b hb).2⟩
 have hsz:s3.heap.objs.size=s2.heap.objs.size+1:=by rw [hh3,Heap.size_push]
 have flt3:∀b∈fp,b<s3.heap.objs.size:=λb hb=>by rw [hsz];exact Nat.lt_succ_of_lt (flt b hb)
 have hk:∀b o,s3.heap.get? b=some o->h₁.get? b=some o:=λb o e=>hsb₂.extBut b o (z27 (z19 e)) (zf _ e)
 have hk2:∀b o,s2.heap.get? b=some o->h₁.get? b=some o:=λb o e=>hk b o (by rw [hh3];exact zf _ e)
 have st1:tn 0 h₁:=T.keep _ _ _ st λb hb o e=>hk2 b o e
 let z:ya:=⟨fp,s3,upd H s2.heap.objs.size (.lst []),s3.heap.objs.size,pins⟩
 have cl:∀y c,(nU scope.names X.env).lookup y=some c->X.env.cells.lookup y=some c:=λy c e=>by
  rcases (lg).mp (fX e) with q|⟨q,rfl⟩
  ·simp at q
  ·obtain⟨c',e'⟩:=I2.ok.has y (O.fr _ q rfl)
   rw [e'];rfl
 have fpy:∀{H':Hp},(∀b∈fp,H' b=none)->∀b∈fp,iy (dF X scope (xs++ys) z) [] H' b:=λhn b hb=>by
  refine⟨hn b hb,z27 (flt3 b hb),λhb2=>?_,.inl hb,λy c e=>(hf b hb).2.2.2.2.1 y c (cl y c e),λp hp=>?_⟩
  ·exact (z1e.mp (I3.y3db b hb2)).elim (λe=>(hf b hb).2.1 e) λq=>(hf b hb).2.2.1 q
  ·have hp':p∈(X.pn++pins)++([]:List (Addr×Obj)):=hp
   rw [z10] at hp'
   exact (hf b hb).2.2.2.2.2 p hp'
 have back:∀{pl:List (Addr×Obj)} {σ':St} {H':Hp} {s':Shared},Inv (dF X scope (xs++ys) z) pl σ' H' s'->Inv X pins σ H' s'/\iy X pins H' s3.heap.objs.size:=λ{pl σ' H' s'} IY=>by
  have I':Inv X pins σ H' s':=I3.y9e IY.os IY.base IY.hok IY.bare λb hb=>⟨(hf b hb).2.2.2.1,(hf b hb).2.1,(hf b hb).2.2.2.2.1,(hf b hb).2.2.2.2.2⟩
  exact⟨I',I3.fpOk (ze _) IY.free⟩
 have loop:∀t':Nat,codeAny (model X.prog X.w) X.A (.compLoop (.ListComp elt [⟨tg,iter,ifs,0⟩] scope pos) 0 (.ref it) (.ref s2.heap.objs.size) (dF X scope (xs++ys) z).env) (RR (.ref s2.heap.objs.size) s3.heap.objs.size) { s3 with heap:=h₁,toks:=t' }:=by
  intro t'
  have IY:=yc8 (t':=t') O I3 hf3 flt3 _ hns₂ hk
  refine ybf (λn s'=>∃i vs H',Inv (dF X scope (xs++ys) z) [] (dk xs.length ix σ) H' s'/\tn i s'.heap/\(∀b∈fp,H' b=none)/\W i n vs H') ?_ m0 ⟨0,[],_,IY,st1,λb hb=>(hf3 b hb).1,w0⟩
  rintro n s5 ⟨i,vs,H5,I5,st5,fr5,w5⟩
  obtain⟨hD,stop|go⟩:=turn i n vs H5 w5
  ·refine aH (T.done (dF X scope (xs++ys) z) rfl rfl rfl hc i [] s5 _ H5 _ I5 (fpy fr5) st5 stop.1) λr s6 zz=>?_
   obtain⟨hr,I6⟩:=zz
   subst hr
   obtain⟨m6,n6,_⟩:=I6.loc
   exact hRR _ _ m6 H5 s6 (back I6).1 n6 (back I6).2 stop.2
  ·obtain⟨hgo,hl,N,hN,step⟩:=go
   refine aH (T.item (dF X scope (xs++ys) z) rfl rfl rfl hc i [] s5 _ H5 _ I5 (fpy fr5) st5 hgo) λr s6 zz=>?_
   obtain⟨u,hr,h6⟩:=zz
   subst hr
   refine aH h6 λ_ s7 zz=>?_
   obtain⟨xv,H7,I7,r7,y7,st7,fr7⟩:=zz
   have I7':=I7.pinned (fpy fr7) (T.obj _ _ st7)
   have q7:=step xv H7 y7 z
   refine aH (hg z _ s7 _ H7 xv u _ I7' r7 q7) λ_ s8 q8=>?_
   obtain⟨σ8,H8,I8,k8,q8⟩:=q8
   have wk:∀{H':Hp} {s':Shared},Inv (dF X scope (xs++ys) z) ([]++jj fp s7.heap) σ8 H' s'->Inv (dF X scope (xs++ys) z) [] (dk xs.length ix σ) H' s'/\tn (i+1) s'.heap/\∀b∈fp,H' b=none:=λ{H' s'} IW=>by
    refine⟨(IW.y432).weak (by rw [sJ];exact k8.1.symm) k8.2,T.keep _ _ _ st7 λb hb o e=>(IW.pin (b,o) (z22 _ (z22 _ (kO hb e)))).1,λb hb=>?_⟩
    obtain⟨o,e,d⟩:=T.obj _ _ st7 b hb
    exact (IW.pin (b,o) (z22 _ (z22 _ (kO hb e)))).2.1
   refine aH (hi z _ s8 _ H8 _ I8 q8) λok s9 zz=>?_
   obtain⟨H9,I9,q9⟩:=zz
   cases ok with
   | false =>
    rw [if_neg z15] at q9
    rw [if_neg z15]
    obtain⟨m',hm,w9⟩:=hN _ _ q9
    exact⟨m',hm,i+1,vs,H9,(wk I9).1,(wk I9).2.1,(wk I9).2.2,w9⟩
   | true =>
    rw [if_pos rfl] at q9
    rw [if_pos rfl]
    refine aH (he z _ s9 _ H9 _ I9 q9) λyv s10 zz=>?_
    obtain⟨y,H10,I10,r10,hD10,n10⟩:=zz
    obtain⟨m',hm,w10⟩:=hN _ _ n10
    have ap:=sk _ s10 _ H10 (.ref s2.heap.objs.size) [y] (.ref s2.heap.objs.size) [yv] (λv H'=>H'=upd H10 s2.heap.objs.size (.lst (vs++[y]))) I10 rfl (.cons r10 .nil) ⟨s2.heap.objs.size,vs,y,rfl,rfl,hD10,hl,rfl⟩
    refine aH ap λ_ s11 zz=>?_
    obtain⟨_,H11,I11,_,e11⟩:=zz
    subst e11
    exact⟨m',hm,i+1,vs++[y],_,(wk I11).1,(wk I11).2.1,(wk I11).2.2,w10⟩
 subst hs3
 exact codeAny_compStart_list (loop _) (T.self X.A 0 _ _ _ st1 (loop _))
abbrev nW(n:Nat)(ix:List Nat)(wi:TI)(g:ya->TG)(tt:ya->TT)(te:ya->TE):TE:=λσ H Q=>wi σ H λJ H1=>yd n ix J g tt te σ Q H1
section
variable {X:Cx}{scope:Scope}{xs ys:List Str}{ix:List Nat}{elt iter tg:Expr}{ifs:List Expr}{pos:Pos}{wi:TI}{g:ya->TG}{tt:ya->TT}{te:ya->TE}
def sL(O:yc X scope xs ys ix)(hc:X.calm=true)(hit:PI X tg iter wi)(hg:∀z,PG (dF X scope (xs++ys) z) tg (g z))
  (hi:∀z,mP (dF X scope (xs++ys) z) ifs (tt z)) (he:∀z,PE (dF X scope (xs++ys) z) elt (te z)) (hs:∀v,foldedSetIterable iter X.env v=pure v:=by intro _;rfl) :
  PE X (.ListComp elt [⟨tg,iter,ifs,0⟩] scope pos) (nW xs.length ix wi g tt te):=by
 intro pins s σ H Q I h
 rw [eval_ListComp]
 refine wpAny_comprehension_free rfl hs (yba λp hp hf=>I.ok.has p.1 (O.fr p hp hf)) O.kind O.names (aH (hit pins s σ H _ I h) λv s1 h1=>aH h1 λitv s2 h2=>?_)
 obtain⟨it,fp,tn,J,H2,e,I2,T,st2,f2,hw⟩:=h2
 subst e
 refine yc6 O hc hg hi he I2 T st2 f2 hw ?_
 intro D C m' H' s' I' n' fC q
 exact⟨m',n',λh' hs'=>⟨.ref D,H',yca I' fC hs',rfl,q⟩⟩
def lq  (O:yc X scope xs ys ix)(hi:xs[i]?=some x):PG (dF X scope (xs++ys) z) (.Name x p) (ff i):=by
 have hm:x∈xs:=z32 hi
 have hl:i<xs.length:=(z14.mp hi).1
 exact fU O.nd (by show (xs++ys)[i]?=some x;rw [z1a hl];exact hi) (.inl (lookup_relabel_local (O.hx x hm))) (.inr (lookup_relabel_local (O.hx x hm)))
end
end
end L2
namespace PySem
open Sem
open PySem.AutoSeq1 in
def y135(p:Addr)(xs:Array Value)(m:Nat)(q:Addr)(ys:Array Value)(m2:Nat)(qd:Option Addr)(qs:Array (Option Value))
  (short:¬(!xs.isEmpty&&Builtin.List.listTooLong (xs.size+ys.size))=true) (hx:xs.size≤sizeLine) (hxy:xs.size+ys.size≤sizeLine+1) :
  Meets (Builtin.«list.extend» ⟨[.ref p,.ref q],[]⟩) (λ_ R st =>
   st.heap.get? p=some { cls:=.type "list",dict:=none,data:=.seq xs m,slots:=#[] } /\
   st.heap.get? q=some { cls:=.type "tuple",dict:=qd,data:=.seq ys m2,slots:=qs } /\
   R (.ok (.ret Value.none)) { st with heap:=st.heap.update p (Obj.mapSeq λzs=>zs++ys),toks:=st.toks }):=by
 refine .of_wp λprog w A R st g=>?_
 obtain⟨heap0,gens0,drawn0,toks0,os0⟩:=st
 obtain⟨gp,gq,gR⟩:=g
 have a1:=idx_int
 have a2:=sub_tuple_tuple
 have a3:=sub_list_list
 have a4:=sub_tuple_list
 have a5:=sub_list_tuple
 have both:(xs++ys).size≤sizeLine+1:=by
  rw [Array.size_append]
  exact hxy
 wp_walk using (wpAny_updateSeq gp rfl),wpAny_loadPart' gp,wpAny_loadPart' gq
 exact⟨_,rfl,gR⟩
end PySem
namespace HT
open PySem PySem.Spec PyProof.Rows
section
variable {prog:Program}{w:World}{A:Around}{E:Value->Shared->Prop}{s:Shared}
def y62(n:Nat):Builtin.Slice.sliceAdjust none none (-1) (n:Int)=((n:Int)-1,-1):=rfl
def BU(n:Nat):Builtin.Slice.slicePlaces ((n:Int)-1) (-1) (-1)=n:=by
 unfold Builtin.Slice.slicePlaces
 rw [if_neg (by decide)]
 by_cases h:n=0
 ·subst h;decide
 ·rw [if_pos (by lia)]
  have:((n:Int)-1 - -1-1) / (- -1)=(n:Int)-1:=by
   have e:(- -1:Int)=1:=by decide
   rw [e,Int.ediv_one];lia
  rw [this];lia
def BV{sl:Addr}{n:Nat}{t:Tok}{Q:Int×Int×Nat->Shared->Prop}(hs:s.heap.IsSliceOf sl .none .none (.int (-1) t))
  (h:Q ((n:Int)-1,-1,n) s):wpAny (model prog w) A (Builtin.Slice.sliceApplied (.ref sl) (pure (n:Int))) Q E s:=by
 obtain⟨os,hos,hcs,hds⟩:=id hs
 unfold Builtin.Slice.sliceApplied Builtin.Slice.sliceFields
 refine zb (zb (wpAny_field hos hds rfl (zb (wpAny_field hos hds rfl (zb (wpAny_field hos hds rfl (zd ?_)))))))
 refine zb (slicePart_int ?_)
 show wpAny _ _ (if ((-1:Int) == 0)=true then _ else _) _ _ s
 rw [if_neg (by decide)]
 refine zb (slicePart_none (zb (slicePart_none (zb (zd ?_)))))
 show wpAny _ _ (match Builtin.Slice.sliceAdjust none none (-1) (n:Int) with|(lo,hi)=>pure (lo,(-1:Int),Builtin.Slice.slicePlaces lo hi (-1))) _ _ s
 rw [y62 n]
 show wpAny _ _ (pure ((n:Int)-1,(-1:Int),Builtin.Slice.slicePlaces ((n:Int)-1) (-1) (-1))) _ _ s
 rw [BU]
 exact zd h
theorem sM{α β:Type}{f g:α->Option β}:∀{l:List α},(∀a∈l,f a=g a)->l.filterMap f=l.filterMap g
 | [],_=>rfl
 | a::r,h=>by
  rw [List.filterMap_cons,List.filterMap_cons,h a List.mem_cons_self,sM λb hb=>h b (z23 _ hb)]
def nX(xs:Array Value):((List.range xs.size).filterMap λ(m:Nat)=>xs[((xs.size:Int)-1+(m:Int) * -1).toNat]?).toArray=xs.toList.reverse.toArray:=by
 congr 1
 have e:∀m∈List.range xs.size,xs[((xs.size:Int)-1+(m:Int) * -1).toNat]?=xs.toList.reverse[m]?:=by
  intro m hm
  have hm':=List.mem_range.mp hm
  have:((xs.size:Int)-1+(m:Int) * -1).toNat=xs.size-1-m:=by lia
  rw [this,List.getElem?_reverse (by rw [Array.length_toList];exact hm'),Array.length_toList,Array.getElem?_toList]
 rw [sM e]
 have hl:xs.size=xs.toList.reverse.length:=by rw [z30,Array.length_toList]
 rw [hl]
 generalize xs.toList.reverse=zs
 induction zs with
 | nil=>rfl
 | cons z r ih =>
  rw [z11,List.range_succ_eq_map,List.filterMap_cons]
  show z::_=_
  rw [List.filterMap_map]
  show z::List.filterMap (λm=>(z::r)[m+1]?) (List.range r.length)=_
  have:(λm=>(z::r)[m+1]?)=λm=>r[m]?:=by funext m;rfl
  rw [this,ih]
def y15a  (ht:IsTup s.heap t items)(hs:s.heap.IsSliceOf sl .none .none (.int (-1) tk))
  (h:Q (.ref s.heap.objs.size) { s with heap:=s.heap.push { cls:=.type "tuple",data:=.seq items.toList.reverse.toArray } })
  (hsz:items.size≤sizeLine):wpAny (model prog w) A (getItem (.ref t) (.ref sl)) Q E s:=by
 have y196:sizeOk (.seq items.toList.reverse.toArray):=by
  show items.toList.reverse.toArray.size≤sizeLine
  rw [zc,z30,Array.length_toList]
  exact hsz
 obtain⟨os,hos,hcs,hds⟩:=id hs
 have hTs:s.TypeIs (.ref sl) "slice":=⟨os,hos,hcs⟩
 unfold getItem
 try with_reducible refine wpAny_holding ?_
 first|refine zb (zd ?_)|skip
 refine zb (wpAny_sequenceKey ht.typeIs (by decide) ?_)
 refine zb (wpAny_callSpecial?_slot ht.typeIs PyProof.Rows.slot_tuple_getitem
  (wpAny_call_entry PyProof.Rows.slot_tuple_getitem ht.typeIs entry_tuple_getitem ?_ (args_tuple_getitem _ _)))
 show wpAny _ _ (Builtin.Tuple.tupleItemsOf (.ref t) >>= _) _ _ s
 refine zb (tupleItemsOf_ ht ?_)
 refine zb (wpAny_typeOf hTs ?_)
 rw [if_pos (by decide)]
 refine zb (BV hs ?_)
 have hno:¬ ((((items.size:Int)-1) == 0&&(-1:Int) == 1&&items.size == items.size)=true):=by
  intro q
  rw [z24,z24] at q
  exact absurd q.1.2 (by decide)
 show wpAny _ _ (if (((items.size:Int)-1) == 0&&(-1:Int) == 1&&items.size == items.size)=true then _ else _) _ _ s
 rw [if_neg hno,nX]
 first
  | exact zb (z2c (zd ⟨_,rfl,zd h⟩) y196)
  | exact zb (z2c (zb (zd (zd ⟨_,rfl,zd h⟩))) y196)
  | exact zb (zb (z2c (zd (zd ⟨_,rfl,zd h⟩)) y196))
  | exact zb (zb (z2c (zd ⟨_,rfl,zd h⟩) y196))
end
end HT
namespace L2
open PySem PySem.Spec PyProof.Rows
section
section
variable {X:Cx}{e st:Expr}{te:TE}{p2 pos:Pos}
abbrev sN(K:W.Frag)(te:TE):TE:=λσ H Q=>te σ H λx H1=>∃a xs,x=.ref a/\bq K H1 a xs/\∀p,H1 p=none->Q (.ref p) (upd H1 p (.tup xs.reverse))
def BW{ts:TE}(he:PE X e te)(hst:PE X st ts)(hv:∀σ H Q,Q (.int (-1)) H->ts σ H Q):PE X (.Subscript e (.Slice none none (some st) p2) pos) (sN X.K te):=by
 intro pins s σ H Q I h
 refine Subscript_ (aH (he pins s σ H _ I h) λv s1 zz=>?_)
 obtain⟨x,H1,I1,r1,q1⟩:=zz
 obtain⟨a,xs,rfl,hq,q⟩:=q1
 cases r1
 refine wpAny_Slice ?_
 rw [evalPart_none]
 refine zd (zd ?_)
 rw [evalPart_some]
 refine aH (hst pins s1 σ H1 (λv H'=>v=.int (-1)/\H'=H1) I1 (hv _ _ _ ⟨rfl,rfl⟩)) λvs s2 zz=>?_
 obtain⟨y,H2,I2,r2,e2,e3⟩:=zz
 subst e2 e3
 obtain⟨tk,rfl⟩:=r2
 have I4:Inv X pins σ _ { s2 with heap:=s2.heap.push { cls:=.type "slice",data:=.fields #[.none,.none,.int (-1) tk] } }:=I2.kept λb ob q=>zf _ q
 obtain⟨its,r,ht,hz⟩:=I4.tuple hq
 have hlen:its.toArray.size=xs.length:=by rw [zc];exact r.length.symm
 show wpAny (model X.prog X.w) X.A (subscriptTail e (.Slice none none (some st) p2) (.ref a) (.ref s2.heap.objs.size)) (EP X pins σ Q) X.xe { s2 with heap:=s2.heap.push { cls:=.type "slice",data:=.fields #[.none,.none,.int (-1) tk] } }
 refine tail_any ht.typeIs PyProof.Rows.slot_tuple_getitem.lookup ?_ (by with_unfolding_all rfl)
 refine HT.y15a ht (Heap.IsSliceOf.new ..) ?_ (by rw [hlen];exact hz)
 refine⟨.ref _,_,I4.laid (λb ob q=>zf _ q) (ze _) ?_,rfl,q _ (I4.hok.fresh (ze _))⟩
 exact⟨by rw [z30];exact hz,_,r.reverse,ku.mk' _ _⟩
abbrev sO(K:W.Frag):V->List V->Hp->VK->Prop:=λx vs H Q=>∃l b xs zs,x=.ref l/\vs=[.ref b]/\H l=some (.lst xs)/\bq K H b zs/\xs.length+zs.length≤sizeLine/\Q .non (upd H l (.lst (xs++zs)))
def BX:yR X "list.extend" (sO X.K):=by
 intro pins s σ H x vs v us Q I rx rv h
 obtain⟨l,b,xs,zs,rfl,rfl,hH,hB,hz,q⟩:=h
 cases rx
 obtain⟨u,rfl,ru⟩:=rv.one
 cases ru
 obtain⟨z,its,n,r,hl,e⟩:=I.y1ff hH
 obtain⟨y1b8,r2,ht,hl2⟩:=I.tuple hB
 obtain⟨⟨oc,od,oda,os⟩,e2,rfl,n2,rfl⟩:=id ht
 have hsz:its.toArray.size+y1b8.toArray.size≤sizeLine:=by rw [zc,zc,<- r.length,<- r2.length];lia
 have y193:¬ (!its.toArray.isEmpty&&Builtin.List.listTooLong (its.toArray.size+y1b8.toArray.size))=true:=by
  rw [nS hsz,Bool.and_false]
  exact z15
 refine call_meets F.slot_list_extend ⟨_,e,rfl⟩ F.entry_list_extend (F.args_list_extend_2 _ _)
  (PySem.y135 l its.toArray n b y1b8.toArray n2 od os y193 (by rw [zc];lia) (by lia)) ⟨e,e2,?_⟩
 refine⟨.non,_,I.lset hH e (by simp) (r.append r2) ?_,rfl,q⟩
 rw [za]
 lia
end
end
section
def BY:cf X (compareOp .IsNot) (λx y H Q=>∃b c,x=.bl b/\y=.bl c/\Q (.bl (b != c)) H):=by
 intro pins s σ H x y v u Q I rx ry h
 obtain⟨b,c,rfl,rfl,q⟩:=h
 cases rx
 cases ry
 exact PyProof.Rows.isnot_bool (bj I q rfl)
end
end L2
namespace My
inductive F2{α β:Type}(R:α->β->Prop):List α->List β->Prop
 | nil:F2 R [] []
 | cons {a:α} {b:β} {as:List α} {bs:List β}:R a b->F2 R as bs->F2 R (a::as) (b::bs)
end My
namespace L2
open PySem PySem.Spec PyProof.Rows
section
section
end
end
end L2
namespace HT
open PySem PySem.Spec PyProof.Rows
section
def y15b{t sl:Addr}{items:Array Value}{vl vu:Value}{lo hi:Option Int}{Q:Value->Shared->Prop}(ht:IsTup s.heap t items)(hs:s.heap.IsSliceOf sl vl vu .none)(pl:IsPart vl lo)(pu:IsPart vu hi)
  (hw:sIx items.size 0 lo=0/\sIx items.size items.size hi=items.size) (h:Q (.ref t) s):wpAny (model prog w) A (getItem (.ref t) (.ref sl)) Q E s:=by
 obtain⟨os,hos,hcs,hds⟩:=id hs
 have hTs:s.TypeIs (.ref sl) "slice":=⟨os,hos,hcs⟩
 unfold getItem
 try with_reducible refine wpAny_holding ?_
 first|refine zb (zd ?_)|skip
 refine zb (wpAny_sequenceKey ht.typeIs (by decide) ?_)
 refine zb (wpAny_callSpecial?_slot ht.typeIs PyProof.Rows.slot_tuple_getitem
  (wpAny_call_entry PyProof.Rows.slot_tuple_getitem ht.typeIs entry_tuple_getitem ?_ (args_tuple_getitem _ _)))
 show wpAny _ _ (Builtin.Tuple.tupleItemsOf (.ref t) >>= _) _ _ s
 refine zb (tupleItemsOf_ ht ?_)
 refine zb (wpAny_typeOf hTs ?_)
 rw [if_pos (by decide)]
 refine zb (rK hs pl pu ?_)
 have hyes:(((sIx items.size 0 lo:Nat):Int) == 0&&(1:Int) == 1&&(sIx items.size items.size hi-sIx items.size 0 lo) == items.size)=true:=by
  rw [hw.1,hw.2];simp
 show wpAny _ _ (if (((sIx items.size 0 lo:Nat):Int) == 0&&(1:Int) == 1&&(sIx items.size items.size hi-sIx items.size 0 lo) == items.size)=true then _ else _) _ _ s
 rw [if_pos hyes]
 unfold Builtin.Tuple.tupleIsExact
 refine zb (zb (wpAny_typeOf ht.typeIs (zd ?_)))
 rw [if_pos (by decide)]
 refine zb (wpAny_rule ?_)
 exact zd ⟨_,rfl,zd h⟩
end
end HT
namespace L2
open PySem PySem.Spec PyProof.Rows
section
section
abbrev sP:V->Option Int->Option Int->Hp->VK->Prop:=λx lo hi H Q=>∃a xs,x=.ref a/\H a=some (.tup xs)/\∀(b:Addr) (H':Hp),H' b=some (.tup (jr xs lo hi))->(∀c o,H c=some o->H' c=some o)->Q (.ref b) H'
def BZ:kW X sP:=by
 intro pins s σ H x v vl vu lo hi sl Q I rx hs pl pu h
 obtain⟨a,xs,rfl,hx,q⟩:=h
 by_cases hw:HT.sIx xs.length 0 lo=0/\HT.sIx xs.length xs.length hi=xs.length
 ·cases rx
  obtain⟨its,r,ht,hz⟩:=I.tuple (bq.of hx)
  have hlen:its.toArray.size=xs.length:=by rw [zc];exact r.length.symm
  refine⟨"tuple",_,PyProof.Rows.slot_tuple_getitem.lookup,ht.typeIs,?_⟩
  refine HT.y15b ht hs pl pu (by rw [hlen];exact hw) ⟨.ref a,H,I,rfl,q a H ?_ λ_ _ e=>e⟩
  have e:jr xs lo hi=xs:=by
   unfold jr
   rw [hw.1,hw.2];simp
  rw [e];exact hx
 ·exact Bf pins s σ H (.ref a) v vl vu lo hi sl Q I rx hs pl pu ⟨a,xs,rfl,bq.of hx,hw,λp hp=>q p _ a8 λc o e=>by rw [aK (gE e hp)];exact e⟩
end
end
section
section
end
section
end
end
section
abbrev fY(xs:List V)(lo hi st:Option Int):List V:=(sliceRange (sliceBounds lo hi st xs.length).1 (sliceBounds lo hi st xs.length).2.1 (sliceBounds lo hi st xs.length).2.2).filterMap (xs[·]?)
def au.y23b{xs:List V}{us:List Value}(h:au xs us){j:Nat}(e:xs[j]?=none):us[j]?=none:=by
 rw [List.getElem?_eq_none_iff] at e ⊢
 rw [<- h.length];exact e
def au.some_of{xs:List V}{us:List Value}(h:au xs us):∀js:List Nat,au (js.filterMap (xs[·]?)) (js.filterMap (us[·]?)):=by
 intro js
 induction js with
 | nil=>exact .nil
 | cons j js ih =>
  cases e:xs[j]? with
  | none=>simp only [List.filterMap_cons,e,h.y23b e];exact ih
  | some x =>
   obtain⟨u,eu,r⟩:=h.get e
   simp only [List.filterMap_cons,e,eu]
   exact .cons r ih
section
variable {X:Cx}{e st:Expr}{te ts:TE}{lo hi:Option Expr}{tl th:TO}{p2 pos:Pos}
abbrev sQ(K:W.Frag)(te:TE)(tl th tk:TO):TE:=λσ H Q=>te σ H λx H1=>tl σ H1 λl H2=>th σ H2 λu H3=>tk σ H3 λc H4 =>
 ∃a xs,x=.ref a/\bL K H4 a xs/\c≠some 0/\∀p,H4 p=none->Q (.ref p) (upd H4 p (.lst (fY xs l u c)))
def B1(he:PE X e te)(hl:PO X lo tl)(hu:PO X hi th)(hst:PE X st ts):PE X (.Subscript e (.Slice lo hi (some st) p2) pos) (sQ X.K te tl th (rL ts)):=by
 intro pins s σ H Q I h
 refine Subscript_ (aH (he pins s σ H _ I h) λv s1 zz=>?_)
 obtain⟨x,H1,I1,r1,q1⟩:=zz
 refine wpAny_Slice (aH (hl pins s1 σ H1 _ I1 q1) λvl s2 ⟨l,H2,I2,pl,q2⟩=>aH (hu pins s2 σ H2 _ I2 q2) λvu s3 ⟨u,H3,I3,pu,q3⟩=>aH (rN hst pins s3 σ H3 _ I3 q3) λvs s4 zz=>?_)
 obtain⟨c,H4,I4,ps,q4⟩:=zz
 obtain⟨a,xs,rfl,hq,hc0,q⟩:=q4
 cases r1
 have I5:Inv X pins σ H4 { s4 with heap:=s4.heap.push { cls:=.type "slice",data:=.fields #[vl,vu,vs] } }:=I4.kept λb ob q=>zf _ q
 obtain⟨its,r,pls,hz⟩:=I5.list hq
 show wpAny (model X.prog X.w) X.A (subscriptTail e (.Slice lo hi (some st) p2) (.ref a) (.ref s4.heap.objs.size)) (EP X pins σ Q) X.xe { s4 with heap:=s4.heap.push { cls:=.type "slice",data:=.fields #[vl,vu,vs] } }
 refine tail_any pls.isList.typeIs list_getitem_lookup ?_ (by with_unfolding_all rfl)
 have hn:=r.length
 refine wpAny_getItem_list_slice pls.isList (Heap.IsSliceOf.new ..) pl pu ps hc0 ?_ (by rw [zc,<- hn];exact hz)
 have le:=slicePick_size_le its.toArray l u c
 have ep:slicePick its.toArray l u c=((sliceRange (sliceBounds l u c xs.length).1 (sliceBounds l u c xs.length).2.1 (sliceBounds l u c xs.length).2.2).filterMap (its[·]?)).toArray:=by
  unfold slicePick
  rw [zc,hn]
  simp
 have rp:=au.some_of r (sliceRange (sliceBounds l u c xs.length).1 (sliceBounds l u c xs.length).2.1 (sliceBounds l u c xs.length).2.2)
 have lp:=rp.length
 rw [ep] at le ⊢
 refine⟨.ref _,_,I5.laid (λb ob q=>zf _ q) (ze _) ?_,rfl,q _ (I5.hok.fresh (ze _))⟩
 refine⟨?_,_,0,rp,z28 _ rfl⟩
 rw [zc,zc] at le
 show (fY xs l u c).length≤sizeLine
 unfold fY
 rw [lp]
 lia
end
section
variable {X:Cx}{tg:Expr}
end
end
end L2
namespace PySem
open Sem (wp)
open AutoSeq1 (wpAny_loadPart')
section
end
section
end
end PySem
namespace L2
open PySem PySem.Spec PyProof.Rows
section
section
end
end
section
section
variable   {elt iter tg:Expr}
abbrev B2(n:Nat)(ix:List Nat)(i:Nat)(wi:TI)(g:ya->TG)(tt:ya->TT)(te:ya->TE):TS:=λD σ H=>nW n ix wi g tt te σ H λv H1=>D.nx (σ.set i (some v)) H1
def B3 (O:yc X scope xs ys ix)(hc:X.calm=true)(hN:X.N.Nodup)(hy:X.N[i]?=some y)(hl:X.env.scope.names.lookup y=some .local)(hit:PI X tg iter wi)
  (hg:∀z,PG (dF X scope (xs++ys) z) tg (g z)) (hi:∀z,mP (dF X scope (xs++ys) z) ifs (tt z)) (he:∀z,PE (dF X scope (xs++ys) z) elt (te z))
  (hsw:‹swapsWith (.ListComp elt [⟨tg,iter,ifs,0⟩] scope pos) (some (.Name y py)) spos.line X.env=pure true›) (hs:∀v,foldedSetIterable iter X.env v=pure v:=by intro _;rfl) :
  PS X (.Assign [.Name y py] (.ListComp elt [⟨tg,iter,ifs,0⟩] scope pos) spos) (B2 xs.length ix i wi g tt te):=by
 intro pins s σ H D I h
 rw [exec_Assign_Name_used _ _ _ _ hsw]
 refine zb (wpAny_standAt (zb ?_))
 show wpAny _ _ (do let _ <- comprehension (.ListComp elt [⟨tg,iter,ifs,0⟩] scope pos) scope X.env _ (newList []) false (eval iter X.env) (some (assign (.Name y py) X.env))) _ _ s
 refine zb (wpAny_mono (wpAny_comprehension_free rfl hs (yba λp hp hf=>I.ok.has p.1 (O.fr p hp hf)) O.kind O.names (aH (hit pins s σ H _ I h) λv s1 h1=>aH h1 λitv s2 h2=>?_))
  (λ_ s' hq=>zd (zd hq)) λ_ _ e=>e)
 obtain⟨it,fp,tn,J,H2,e,I2,T,st2,f2,hw⟩:=h2
 subst e
 refine yc6 O hc hg hi he I2 T st2 f2 hw ?_
 intro E C m' H' s' I' n' fC q
 show wpAny _ _ (assign (.Name y py) X.env (.ref E)) _ _ s'
 refine wpAny_assign_Name (qk (v:=.ref E) I' hN hy (.inl hl) rfl (λs'' I'' ⟨a,sb,ha⟩=>?_) (.inr hl))
 have hCa:C≠a:=by
  rcases ha with rfl|ha
  ·exact fC.2.1
  ·exact λz=>fC.2.2.2.2.1 _ _ ha z.symm
 exact⟨m',n'.sameBut sb hCa,λh' hs'=>⟨_,H',yca I'' fC hs',q⟩⟩
end
theorem sR{α:Type}{xs:List α}{f:Nat->Nat}:∀{c:Nat},(∀k,k<c->f k<xs.length)->(((List.range c).map f).filterMap (xs[·]?)).length=c/\∀k,k<c->(((List.range c).map f).filterMap (xs[·]?))[k]?=xs[f k]?
 | 0,_=>⟨rfl,λk h=>absurd h (Nat.not_lt_zero _)⟩
 | c+1,h=>by
  obtain⟨h1,h2⟩:=sR λk hk=>h k (Nat.lt_succ_of_lt hk)
  have hc:=h c (z35 c)
  have e:((List.range (c+1)).map f).filterMap (xs[·]?)=((List.range c).map f).filterMap (xs[·]?)++[xs[f c]]:=by
   rw [List.range_succ,z25,List.filterMap_append]
   congr 1
   simp [hc]
  rw [e]
  refine⟨by rw [za,h1];rfl,λk hk=>?_⟩
  by_cases q:k<c
  ·rw [z1a (by rw [h1];exact q)]
   exact h2 k q
  ·have q':k=c:=by lia
   subst q'
   rw [z18 (by rw [h1];exact ze _),h1,Nat.sub_self,z1d hc]
   rfl
def B4(xs:List V):(fY xs none none (some (-1))).length=xs.length/\∀k,k<xs.length->(fY xs none none (some (-1)))[k]?=xs[xs.length-1-k]?:=by
 have e:fY xs none none (some (-1))=((List.range xs.length).map λk=>xs.length-1-k).filterMap (xs[·]?):=by
  unfold fY sliceRange
  have c:(if (-1:Int)>0 then (if (xs.length:Int)-1 < -1 then (-1-((xs.length:Int)-1) + -1-1) / -1 else 0) else (if (xs.length:Int)-1 > -1 then ((xs.length:Int)-1 - -1 - -1-1) / (- -1) else 0)).toNat=xs.length:=by
   rw [if_neg (by decide)]
   split
   ·rw [show (- -1:Int)=1 from rfl,Int.ediv_one];lia
   ·lia
  show ((List.range (if (-1:Int)>0 then (if (xs.length:Int)-1 < -1 then (-1-((xs.length:Int)-1) + -1-1) / -1 else 0) else (if (xs.length:Int)-1 > -1 then ((xs.length:Int)-1 - -1 - -1-1) / (- -1) else 0)).toNat).map λ(k:Nat)=>((xs.length:Int)-1 + -1*(k:Int)).toNat).filterMap (xs[·]?)=_
  rw [c]
  congr 2
  funext k
  lia
 rw [e]
 exact sR λk hk=>by lia
end
end L2
namespace B
open PySem L2
section
inductive I where
 | non|bl (b:Bool)|int (i:Int)|str (x:Str)|ty (n:String)|tup (xs:List I)|ref (k:Nat)|fro (xs:List I)|con (xs:List I)
inductive M where
 | lst (xs:List I)|dic (kvs:List (aI×I))|dit (kvs:List (List aI×I))|fdi (kvs:List (aI×I))|obj (c:Str) (fs:List (Str×I))
inductive Vl where
 | im (d:I)|ow (m:M)
abbrev nY(K:W.Frag)(H:Hp)(a:Addr)(vs:List V):Prop:=(∃o,H a=some (.frz o (.lst vs)))∨bL K (λ_=>none) a vs
mutual
inductive RpI(K:W.Frag)(ι:List Addr)(H:Hp):V->I->Prop
 | non:RpI K ι H .non .non
 | bl (b:Bool):RpI K ι H (.bl b) (.bl b)
 | int (i:Int):RpI K ι H (.int i) (.int i)
 | str (x:Str):RpI K ι H (.str x) (.str x)
 | ty (n:String):RpI K ι H (.ty n) (.ty n)
 | ref {a:Addr} {k:Nat}:ι[k]?=some a->RpI K ι H (.ref a) (.ref k)
 | tup {a:Addr} {vs:List V} {xs:List I}:H a=some (.tup vs)->y56 K ι H vs xs->RpI K ι H (.ref a) (.tup xs)
 | con {a:Addr} {vs:List V} {xs:List I}:bq K (λ_=>none) a vs->y56 K ι H vs xs->RpI K ι H (.ref a) (.con xs)
 | fro {a:Addr} {vs:List V} {xs:List I}:nY K H a vs->y56 K ι H vs xs->RpI K ι H (.ref a) (.fro xs)
inductive y56(K:W.Frag)(ι:List Addr)(H:Hp):List V->List I->Prop
 | nil:y56 K ι H [] []
 | cons {v:V} {d:I} {vs:List V} {ds:List I}:RpI K ι H v d->y56 K ι H vs ds->y56 K ι H (v::vs) (d::ds)
end
def dW(r:RpI K ι H v (.int i)):v=.int i:=by cases r;rfl
def fw(r:RpI K ι H v (.str i)):v=.str i:=by cases r;rfl
def lA(r:RpI K ι H v (.bl i)):v=.bl i:=by cases r;rfl
def nZ(r:RpI K ι H v .non):v=.non:=by cases r;rfl
def jw(r:RpI K ι H v (.tup xs)):∃a vs,v=.ref a/\H a=some (.tup vs)/\y56 K ι H vs xs:=by cases r with|tup h q=>exact⟨_,_,rfl,h,q⟩
def sS(r:RpI K ι H v (.con xs)):∃a vs,v=.ref a/\bq K (λ_=>none) a vs/\y56 K ι H vs xs:=by cases r with|con h q=>exact⟨_,_,rfl,h,q⟩
def sT(r:RpI K ι H v (.fro xs)):∃a vs,v=.ref a/\nY K H a vs/\y56 K ι H vs xs:=by cases r with|fro h q=>exact⟨_,_,rfl,h,q⟩
abbrev cb(ι ι':List Addr):Prop:=∀(k:Nat) (a:Addr),ι[k]?=some a->ι'[k]?=some a
structure Kp(H H':Hp):Prop where
 tup:∀a xs,H a=some (.tup xs)->H' a=some (.tup xs)
 frz:∀a o u,H a=some (.frz o u)->H' a=some (.frz o u)
def Kp.refl(H:Hp):Kp H H:=⟨λ_ _ h=>h,λ_ _ _ h=>h⟩
def Kp.trans(x:Kp H H1)(y:Kp H1 H2):Kp H H2:=⟨λa xs h=>y.tup a xs (x.tup a xs h),λa o u h=>y.frz a o u (x.frz a o u h)⟩
def Kp.same(h:dU H H'):Kp H H':=⟨λa xs e=>h _ _ e,λa o u e=>h _ _ e⟩
def cb.refl(ι:List Addr):cb ι ι:=λ_ _ h=>h
def cb.trans(x:cb ι ι1)(y:cb ι1 ι2):cb ι ι2:=λk a h=>y k a (x k a h)
def cb.snoc(ι:List Addr)(b:List Addr):cb ι (ι++b):=λk a h=>by
 have:k<ι.length:=(z14.mp h).1
 rw [z1a this];exact h
def Kp.frL  (k:Kp H H')(h:nY K H a vs):nY K H' a vs:=by
 rcases h with⟨o,h⟩| h
 ·exact .inl ⟨o,k.frz _ _ _ h⟩
 ·exact .inr h
def bq.kon  (h:bq K (λ_=>none) a vs):bq K H a vs:=by
 rcases h with (h|⟨o,h⟩)|h
 ·cases h
 ·cases h
 ·exact .inr h
def nY.sq  (h:nY K H a vs):bL K H a vs:=by
 rcases h with⟨o,h⟩| h
 ·exact .inl (.inr ⟨o,h⟩)
 ·rcases h with (h|⟨o,h⟩)|h
  ·cases h
  ·cases h
  ·exact .inr h
section
mutual
theorem RpI.mono (p:cb ι ι')(k:Kp H H'):RpI K ι H v d->RpI K ι' H' v d
 | .non=>.non
 | .bl b=>.bl b
 | .int i=>.int i
 | .str x=>.str x
 | .ty n=>.ty n
 | .ref h=>.ref (p _ _ h)
 | .tup h r=>.tup (k.tup _ _ h) (y56.mono p k r)
 | .con h r=>.con h (y56.mono p k r)
 | .fro h r=>.fro (k.frL h) (y56.mono p k r)
theorem y56.mono (p:cb ι ι')(k:Kp H H'):y56 K ι H vs ds->y56 K ι' H' vs ds
 | .nil=>.nil
 | .cons h r=>.cons (RpI.mono p k h) (y56.mono p k r)
end
theorem y56.len:∀{vs:List V} {ds:List I},y56 K ι H vs ds->vs.length=ds.length
 | _,_,.nil=>rfl
 | _,_,.cons _ r=>by rw [z11,z11,r.len]
theorem y56.get:∀{vs:List V} {ds:List I} {i:Nat} {d:I},y56 K ι H vs ds->ds[i]?=some d->∃v,vs[i]?=some v/\RpI K ι H v d
 | _,_,_,_,.nil,e=>by simp at e
 | _,_,0,_,.cons h _,e=>by simp at e;subst e;exact⟨_,rfl,h⟩
 | _,_,i+1,d,.cons _ r,e=>by
  obtain⟨v,h1,h2⟩:=y56.get r (by simpa using e)
  exact⟨v,by simpa using h1,h2⟩
theorem y56.app:∀{vs ws:List V} {ds es:List I},y56 K ι H vs ds->y56 K ι H ws es->y56 K ι H (vs++ws) (ds++es)
 | _,_,_,_,.nil,s=>s
 | _,_,_,_,.cons h r,s=>.cons h (y56.app r s)
theorem y56.take:∀{vs:List V} {ds:List I} (n:Nat),y56 K ι H vs ds->y56 K ι H (vs.take n) (ds.take n)
 | _,_,0,_=>.nil
 | _,_,_+1,.nil=>.nil
 | _,_,n+1,.cons h r=>.cons h (y56.take n r)
theorem y56.drop:∀{vs:List V} {ds:List I} (n:Nat),y56 K ι H vs ds->y56 K ι H (vs.drop n) (ds.drop n)
 | _,_,0,r=>r
 | _,_,_+1,.nil=>.nil
 | _,_,n+1,.cons _ r=>y56.drop n r
theorem y56.set:∀{vs:List V} {ds:List I} {v:V} {d:I} (i:Nat),y56 K ι H vs ds->RpI K ι H v d->y56 K ι H (vs.set i v) (ds.set i d)
 | _,_,_,_,_,.nil,_=>.nil
 | _,_,_,_,0,.cons _ r,h=>.cons h r
 | _,_,_,_,i+1,.cons g r,h=>.cons g (y56.set i r h)
theorem y56.rev:∀{vs:List V} {ds:List I},y56 K ι H vs ds->y56 K ι H vs.reverse ds.reverse
 | _,_,.nil=>.nil
 | _,_,.cons h r=>by rw [List.reverse_cons,List.reverse_cons];exact r.rev.app (.cons h .nil)
abbrev dm(K:W.Frag)(κ:Str->Addr)(ι:List Addr)(H:Hp)(a:Addr):M->Prop
 | .lst xs=>∃vs,H a=some (.lst vs)/\y56 K ι H vs xs
 | .dic kvs=>∃ws,H a=some (.dK ws)/\ws.map (·.1)=kvs.map (·.1)/\y56 K ι H (ws.map (·.2)) (kvs.map (·.2))
 | .dit kvs=>∃ws,H a=some (.dT ws)/\ws.map (·.1)=kvs.map (·.1)/\y56 K ι H (ws.map (·.2)) (kvs.map (·.2))
 | .fdi kvs=>∃o ws,H a=some (.frz o (.dK ws))/\ws.map (·.1)=kvs.map (·.1)/\y56 K ι H (ws.map (·.2)) (kvs.map (·.2))
 | .obj c fs=>∃dx ws,H a=some (.ins (κ c) dx ws)/\ws.map (·.1)=fs.map (·.1)/\y56 K ι H (ws.map (·.2)) (fs.map (·.2))
theorem dm.mono (p:cb ι ι')(k:Kp H H')(e:H' a=H a)(h:dm K κ ι H a m):dm K κ ι' H' a m:=by
 cases m with
 | lst xs=>obtain⟨vs,h1,h2⟩:=h;exact⟨vs,by rw [e];exact h1,h2.mono p k⟩
 | dic xs=>obtain⟨vs,h1,h2,h3⟩:=h;exact⟨vs,by rw [e];exact h1,h2,h3.mono p k⟩
 | dit xs=>obtain⟨vs,h1,h2,h3⟩:=h;exact⟨vs,by rw [e];exact h1,h2,h3.mono p k⟩
 | obj c xs=>obtain⟨dx,vs,h1,h2,h3⟩:=h;exact⟨dx,vs,by rw [e];exact h1,h2,h3.mono p k⟩
 | fdi xs=>obtain⟨o,vs,h1,h2,h3⟩:=h;exact⟨o,vs,by rw [e];exact h1,h2,h3.mono p k⟩
abbrev lB:HO->Bool
 | .lst _ | .dK _ | .dT _ | .ins _ _ _=>true
 | .frz _ (.dK _)=>true
 | _=>false
abbrev sU:M->Bool
 | .fdi _=>true
 | _=>false
def dm.nf (h:dm K κ ι H a m)(hf:sU m=false):∀o u,H a≠some (.frz o u):=λo u e=>by
 cases m with
 | lst xs=>obtain⟨vs,h1,h2⟩:=h;rw [h1] at e;cases e
 | dic xs=>obtain⟨vs,h1,h2,h3⟩:=h;rw [h1] at e;cases e
 | dit xs=>obtain⟨vs,h1,h2,h3⟩:=h;rw [h1] at e;cases e
 | obj c xs=>obtain⟨dx,vs,h1,h2,h3⟩:=h;rw [h1] at e;cases e
 | fdi xs=>cases hf
def dm.mu (h:dm K κ ι H a m):∃o,H a=some o/\lB o=true:=by
 cases m with
 | lst xs=>obtain⟨vs,h1,h2⟩:=h;exact⟨_,h1,rfl⟩
 | dic xs=>obtain⟨vs,h1,h2,h3⟩:=h;exact⟨_,h1,rfl⟩
 | dit xs=>obtain⟨vs,h1,h2,h3⟩:=h;exact⟨_,h1,rfl⟩
 | obj c xs=>obtain⟨dx,vs,h1,h2,h3⟩:=h;exact⟨_,h1,rfl⟩
 | fdi xs=>obtain⟨o,vs,h1,h2,h3⟩:=h;exact⟨_,h1,rfl⟩
inductive RpE(K:W.Frag)(κ:Str->Addr)(ι:List Addr)(H:Hp):Option V->Option Vl->Prop
 | no (x:Option V):RpE K κ ι H x none
 | im {v:V} {d:I}:RpI K ι H v d->RpE K κ ι H (some v) (some (.im d))
 | ow {a:Addr} {m:M}:dm K κ ι H a m->RpE K κ ι H (some (.ref a)) (some (.ow m))
abbrev bA:Option V->Option Vl->List Addr
 | some (.ref a),some (.ow _)=>[a]
 | _,_=>[]
abbrev own:List (Option V)->List (Option Vl)->List Addr
 | v::σ,x::Z=>bA v x++own σ Z
 | _,_=>[]
theorem bQ:∀{σ:List (Option V)} {Z:List (Option Vl)} (τ:List (Option V)) (θ:List (Option Vl)),σ.length=Z.length->own (σ++τ) (Z++θ)=own σ Z++own τ θ
 | [],[],_,_,_=>rfl
 | [],_::_,_,_,h=>by cases h
 | _::_,[],_,_,h=>by cases h
 | v::σ,x::Z,τ,θ,h=>by
  show bA v x++own (σ++τ) (Z++θ)=bA v x++own σ Z++own τ θ
  rw [bQ τ θ (by simpa using h),z21]
noncomputable abbrev bh(a:Addr)(l:List Addr):Nat:=List.count a l
structure SR(K:W.Frag)(κ:Str->Addr)(ι:List Addr)(H:Hp)(σ:St)(Z:List (Option Vl))(G:List M):Prop where
 sl:Paired (RpE K κ ι H) σ Z
 gs:Paired (dm K κ ι H) ι G
 nd:∀a,bh a (own σ Z)+bh a ι≤1
structure Step(ι fp:List Addr)(H:Hp)(ι' fp':List Addr)(H':Hp):Prop where
 pre:cb ι ι'
 src:∀a,a∈fp'->a∈fp∨H a=none
 keep:∀a o,H a=some o->a∉fp->H' a=some o
 dom:∀a,H' a=none->H a=none
 kp:Kp H H'
theorem Step.refl(ι fp:List Addr)(H:Hp):Step ι fp H ι fp H:=⟨cb.refl _,λ_ h=>.inl h,λ_ _ h _=>h,λ_ h=>h,Kp.refl _⟩
theorem Step.trans (x:Step ι fp H ι1 fp1 H1)(y:Step ι1 fp1 H1 ι2 fp2 H2):Step ι fp H ι2 fp2 H2 where
 pre:=x.pre.trans y.pre
 src:=λa h=>by
  rcases y.src a h with q|q
  ·exact x.src a q
  ·exact .inr (x.dom a q)
 keep:=λa o h n=>y.keep a o (x.keep a o h n) λq=>by
  rcases x.src a q with z|z
  ·exact n z
  ·rw [z] at h;cases h
 dom:=λa h=>x.dom a (y.dom a h)
 kp:=x.kp.trans y.kp
def Step.sub (x:Step ι fp H ι1 fp1 H1)(h:∀a,a∈fp2->a∈fp1):Step ι fp H ι1 fp2 H1:=⟨x.pre,λa q=>x.src a (h a q),x.keep,x.dom,x.kp⟩
def Step.wide (x:Step ι fp H ι1 fp1 H1)(h:∀a,a∈fp->a∈fq):Step ι fq H ι1 fp1 H1:=⟨x.pre,λa q=>(x.src a q).imp (h a) id,λa o q n=>x.keep a o q λz=>n (h a z),x.dom,x.kp⟩
def Step.y88 (x:Step ι fp H ι1 fp1 H1):Step ι (t++fp) H ι1 (t++fp1) H1 where
 pre:=x.pre
 src:=λa h=>by
  rcases z13.mp h with q|q
  ·exact .inl (List.mem_append_left _ q)
  ·exact (x.src a q).imp (z22 _) id
 keep:=λa o h n=>x.keep a o h λq=>n (z22 _ q)
 dom:=x.dom
 kp:=x.kp
def gM  : a∈l↔0<bh a l:=List.count_pos_iff.symm
theorem RpE.mono (p:cb ι ι')(k:Kp H H')(e:∀a,a∈bA v x->H' a=H a)(h:RpE K κ ι H v x):RpE K κ ι' H' v x:=by
 cases h with
 | no=>exact .no _
 | im h=>exact .im (h.mono p k)
 | ow h=>exact .ow (h.mono p k (e _ (by unfold bA;exact z17.mpr rfl)))
theorem iD(p:cb ι ι')(k:Kp H H'):∀{σ:St} {Z:List (Option Vl)},(∀a,a∈own σ Z->H' a=H a)->Paired (RpE K κ ι H) σ Z->Paired (RpE K κ ι' H') σ Z
 | _,_,_,.nil=>.nil
 | _,_,e,.cons h r=>.cons (h.mono p k λa q=>e a (List.mem_append_left _ q)) (iD p k (λa q=>e a (z22 _ q)) r)
theorem lC(p:cb ι ι')(k:Kp H H'):∀{as:List Addr} {G:List M},(∀a,a∈as->H' a=H a)->Paired (dm K κ ι H) as G->Paired (dm K κ ι' H') as G
 | _,_,_,.nil=>.nil
 | _,_,e,.cons h r=>.cons (h.mono p k (e _ List.mem_cons_self)) (lC p k (λa q=>e a (z23 _ q)) r)
def jx(v:Option V):bA v none=[]:=by
 cases v with
 | none=>rfl
 | some v=>cases v<;>rfl
def fZ(v:Option V)(d:I):bA v (some (.im d))=[]:=by
 cases v with
 | none=>rfl
 | some v=>cases v<;>rfl
theorem lD:∀{σ:St} {Z:List (Option Vl)} {a:Addr},Paired (RpE K κ ι H) σ Z->a∈own σ Z->∃o,H a=some o/\lB o=true
 | _,_,_,.nil,h=>by cases h
 | _,_,a,.cons h r,q=>by
  rcases z13.mp q with z|z
  ·cases h with
   | no=>rw [jx] at z;cases z
   | im h=>rw [fZ] at z;cases z
   | ow h=>obtain rfl:=z17.mp z;exact h.mu
  ·exact lD r z
theorem n5:∀{as:List Addr} {G:List M} {a:Addr},Paired (dm K κ ι H) as G->a∈as->∃o,H a=some o/\lB o=true
 | _,_,_,.nil,h=>by cases h
 | _,_,a,.cons h r,q=>by
  rcases z1e.mp q with rfl|z
  ·exact h.mu
  ·exact n5 r z
def SR.len (h:SR K κ ι H σ Z G):σ.length=Z.length:=Paired.length h.sl
def SR.mu  (h:SR K κ ι H σ Z G)(q:a∈own σ Z++ι):∃o,H a=some o/\lB o=true:=by
 rcases z13.mp q with z|z
 ·exact lD h.sl z
 ·exact n5 h.gs z
theorem dq{α β:Type}{F:α->β->Prop}:∀{a:List α} {b:List β} {c:List α} {d:List β},Paired F a b->Paired F c d->Paired F (a++c) (b++d)
 | _,_,_,_,.nil,h=>h
 | _,_,_,_,.cons h r,q=>.cons h (dq r q)
theorem cy{α β:Type}{F:α->β->Prop}:∀{a:List α} {b:List β} {c:List α} {d:List β},a.length=b.length->Paired F (a++c) (b++d)->Paired F a b/\Paired F c d
 | [],[],_,_,_,h=>⟨.nil,h⟩
 | [],_::_,_,_,l,_=>by cases l
 | _::_,[],_,_,l,_=>by cases l
 | x::a,y::b,c,d,l,h=>by
  cases h with
  | cons h r =>
   obtain⟨p,q⟩:=cy (by simpa using l) r
   exact⟨.cons h p,q⟩
def SR.join  (h1:SR K κ ι1 H1 (σ0++τ) (Z1++θ) G1)(l1:σ0.length=Z1.length)(h2:SR K κ ι2 H2 (σ++τ2) (Z2++θ2) G2)(l2:σ.length=Z2.length)
  (st:Step ι1 (own σ0 Z1++ι1) H1 ι2 (own (σ++τ2) (Z2++θ2)++ι2) H2):SR K κ ι2 H2 (σ++(τ++τ2)) (Z2++(θ++θ2)) G2/\Step ι1 (own (σ0++τ) (Z1++θ)++ι1) H1 ι2 (own (σ++(τ++τ2)) (Z2++(θ++θ2))++ι2) H2:=by
 obtain⟨a1,b1⟩:=cy l1 h1.sl
 obtain⟨a2,b2⟩:=cy l2 h2.sl
 have lt:=Paired.length b1
 have n1:=h1.nd
 have n2:=h2.nd
 rw [bQ _ _ l1] at n1
 rw [bQ _ _ l2] at n2
 have st':=st
 rw [bQ _ _ l2] at st'
 have apart:∀a,a∈own τ θ->a∉own σ0 Z1++ι1:=λa q z=>by
  have:=n1 a
  rw [bh,z20] at this
  have p1:0<bh a (own τ θ):=gM.mp q
  rcases z13.mp z with z|z
  ·have:=gM.mp z;unfold bh at *;lia
  ·have:=gM.mp z;unfold bh at *;lia
 have y3cc:∀a,a∈own τ θ->∃o,H1 a=some o:=λa q=>let ⟨o,e,_⟩:=lD b1 q;⟨o,e⟩
 have e2:own (σ++(τ++τ2)) (Z2++(θ++θ2))=own σ Z2++(own τ θ++own τ2 θ2):=by rw [bQ _ _ l2,bQ _ _ lt]
 refine⟨⟨dq a2 (dq (iD st.pre st.kp (λa q=>?_) b1) b2),h2.gs,λa=>?_⟩,?_⟩
 ·obtain⟨o,e⟩:=y3cc a q
  rw [e,st.keep a o e (apart a q)]
 ·rw [e2]
  have m2:=n2 a
  have m1:=n1 a
  simp only [bh,z20] at m1 m2 ⊢
  by_cases q:a∈own τ θ
  ·obtain⟨o,e⟩:=y3cc a q
   have z:a∉own σ Z2++own τ2 θ2++ι2:=λz=>by
    rcases st'.src a z with y|y
    ·exact apart a q y
    ·rw [e] at y;cases y
   have:bh a (own σ Z2++own τ2 θ2++ι2)=0:=List.count_eq_zero.mpr z
   simp only [bh,z20] at this
   lia
  ·have:bh a (own τ θ)=0:=List.count_eq_zero.mpr q
   unfold bh at this
   lia
 ·rw [e2,bQ _ _ l1]
  have s:=(Step.y88 (t:=own τ θ) st')
  refine (s.sub λa h=>?_).wide λa h=>?_
  ·simp only [z13] at h ⊢
   rcases h with (h|h|h)|h
   ·exact .inr (.inl (.inl h))
   ·exact .inl h
   ·exact .inr (.inl (.inr h))
   ·exact .inr (.inr h)
  ·simp only [z13] at h ⊢
   rcases h with h|h|h
   ·exact .inl (.inr h)
   ·exact .inl (.inl h)
   ·exact .inr h
end
end
section
section
def lE(a:Addr)(m:M):bA (some (.ref a)) (some (.ow m))=[a]:=rfl
theorem yS:∀{σ:St} {Z:List (Option Vl)} {i:Nat} {v w:Option V} {x y:Option Vl} (a:Addr),σ[i]?=some v->Z[i]?=some x ->
  bh a (own (σ.set i w) (Z.set i y))+bh a (bA v x)=bh a (own σ Z)+bh a (bA w y)
 | [],_,_,_,_,_,_,_,h,_=>by simp at h
 | _::_,[],_,_,_,_,_,_,_,h=>by simp at h
 | v0::σ,x0::Z,0,v,w,x,y,a,h1,h2=>by
  simp at h1 h2
  subst h1;subst h2
  show bh a (bA w y++own σ Z)+bh a (bA v0 x0)=bh a (bA v0 x0++own σ Z)+bh a (bA w y)
  simp only [bh,z20]
  lia
 | v0::σ,x0::Z,i+1,v,w,x,y,a,h1,h2=>by
  have:=yS (w:=w) (y:=y) a (by simpa using h1) (by simpa using h2)
  show bh a (bA v0 x0++own (σ.set i w) (Z.set i y))+bh a (bA v x)=bh a (bA v0 x0++own σ Z)+bh a (bA w y)
  simp only [bh,z20] at this ⊢
  lia
def sV{α:Type}{l:List α}{i:Nat}{v:α}(h:l[i]?=some v):l.set i v=l:=by
 refine List.ext_getElem? λj=>?_
 by_cases e:i=j
 ·subst e
  rw [List.getElem?_set_self (z14.mp h).1,h]
 ·rw [z26 e]
def sW (a:Addr)(h1:σ[i]?=some v)(h2:Z[i]?=some x) :
  bh a (own σ (Z.set i y))+bh a (bA v x)=bh a (own σ Z)+bh a (bA v y):=by
 have:=yS (w:=v) (y:=y) a h1 h2
 rw [sV h1] at this
 exact this
theorem lF{α β:Type}{F:α->β->Prop}:∀{l:List α} {r:List β} {i:Nat} {y:β},Paired F l r->r[i]?=some y->∃x,l[i]?=some x/\F x y
 | _,_,_,_,.nil,h=>by simp at h
 | _,_,0,_,.cons h _,e=>by simp at e;subst e;exact⟨_,rfl,h⟩
 | _,_,i+1,y,.cons _ r,e=>by
  obtain⟨x,h1,h2⟩:=lF r (by simpa using e)
  exact⟨x,by simpa using h1,h2⟩
theorem n8{α β:Type}{F:α->β->Prop}{x:α}{y:β}:∀{l:List α} {r:List β} (i:Nat),Paired F l r->F x y->Paired F (l.set i x) (r.set i y)
 | _,_,_,.nil,_=>.nil
 | _,_,0,.cons _ r,q=>.cons q r
 | _,_,i+1,.cons h r,q=>.cons h (n8 i r q)
def lG{α β:Type}{F:α->β->Prop}{x:α}{y:β}{l:List α}{r:List β}{i:Nat}(h:Paired F l r)(e:l[i]?=some x)(q:F x y):Paired F l (r.set i y):=by
 have:=n8 i h q
 rw [sV e] at this
 exact this
def SR.y15d(h:SR K κ ι H σ Z G){i:Nat}{d:I}(e:Z[i]?=some (some (.im d))):∃v,σ[i]?=some (some v)/\RpI K ι H v d:=by
 obtain⟨x,e1,q⟩:=lF h.sl e
 cases q with
 | im q=>exact⟨_,e1,q⟩
def SR.y15e(h:SR K κ ι H σ Z G){i:Nat}{m:M}(e:Z[i]?=some (some (.ow m))):∃a,σ[i]?=some (some (.ref a))/\dm K κ ι H a m:=by
 obtain⟨x,e1,q⟩:=lF h.sl e
 cases q with
 | ow q=>exact⟨_,e1,q⟩
def SR.y15c(h:SR K κ ι H σ Z G){k:Nat}{m:M}(e:G[k]?=some m):∃a,ι[k]?=some a/\dm K κ ι H a m:=lF h.gs e
theorem sX:∀{σ:St} {Z:List (Option Vl)} {i:Nat} {a:Addr} {m:M},σ[i]?=some (some (.ref a))->Z[i]?=some (some (.ow m))->a∈own σ Z
 | [],_,_,_,_,h,_=>by simp at h
 | _::_,[],_,_,_,_,h=>by simp at h
 | v0::σ,x0::Z,0,a,m,h1,h2=>by
  simp at h1 h2
  subst h1;subst h2
  exact List.mem_append_left _ (z17.mpr rfl)
 | v0::σ,x0::Z,i+1,a,m,h1,h2=>z22 _ (sX (by simpa using h1) (by simpa using h2))
theorem SR.same(h:SR K κ ι H σ Z G)(s:dU H H'):SR K κ ι H' σ Z G where
 sl:=iD (cb.refl _) (Kp.same s) (λa q=>by obtain⟨o,e,_⟩:=lD h.sl q;rw [e,s _ _ e]) h.sl
 gs:=lC (cb.refl _) (Kp.same s) (λa q=>by obtain⟨o,e,_⟩:=n5 h.gs q;rw [e,s _ _ e]) h.gs
 nd:=h.nd
theorem Step.same(s:dU H H'):Step ι fp H ι fp H':=⟨cb.refl _,λ_ h=>.inl h,λa o e _=>s _ _ e,λa e=>s.free e,Kp.same s⟩
def dU.lay (hp:H p=none):dU H (upd H p o):=λb u e=>by rw [aK (gE e hp)];exact e
def SR.pop(h:SR K κ ι H (σ++τ) (Z++θ) G)(l:σ.length=Z.length):SR K κ ι H σ Z G:=by
 obtain⟨a,b⟩:=cy l h.sl
 refine⟨a,h.gs,λx=>?_⟩
 have:=h.nd x
 rw [bQ _ _ l] at this
 simp only [bh,z20] at this ⊢
 lia
def cD(l:σ.length=Z.length)(h:a∈own σ Z++ι):a∈own (σ++τ) (Z++θ)++ι:=by
 rw [bQ _ _ l]
 simp only [z13] at h ⊢
 rcases h with h|h
 ·exact .inl (.inl h)
 ·exact .inr h
def SR.push_im (h:SR K κ ι H σ Z G)(r:RpI K ι H v d):SR K κ ι H (σ++[some v]) (Z++[some (.im d)]) G:=by
 refine⟨dq h.sl (.cons (.im r) .nil),h.gs,λx=>?_⟩
 have e:own [some v] [some (.im d)]=[]:=by show bA _ _++[]=[];rw [fZ];rfl
 rw [bQ _ _ h.len,e,z10]
 exact h.nd x
def du (l:σ.length=Z.length):own (σ++[some v]) (Z++[some (.im d)])=own σ Z:=by
 rw [bQ _ _ l]
 show own σ Z++(bA _ _++[])=_
 rw [fZ];simp
def fA (l:σ.length=Z.length):own (σ++[some (.ref a)]) (Z++[some (.ow m)])=own σ Z++[a]:=by
 rw [bQ _ _ l];rfl
def SR.y328 (h:SR K κ ι H σ Z G)(hp:H p=none)(r:dm K κ ι (upd H p o) p m):SR K κ ι (upd H p o) (σ++[some (.ref p)]) (Z++[some (.ow m)]) G:=by
 have h':=h.same (dU.lay (o:=o) hp)
 refine⟨dq h'.sl (.cons (.ow r) .nil),h'.gs,λx=>?_⟩
 rw [fA h.len]
 have:=h.nd x
 simp only [bh,z20] at this ⊢
 by_cases e:p=x
 ·subst e
  have n:p∉own σ Z++ι:=λq=>by obtain⟨o,e,_⟩:=h.mu q;rw [hp] at e;cases e
  have:bh p (own σ Z++ι)=0:=List.count_eq_zero.mpr n
  simp only [bh,z20] at this
  simp
  lia
 ·have:List.count x [p]=0:=List.count_eq_zero.mpr (by simp;exact λz=>e z.symm)
  lia
def Step.y1dd (l:σ.length=Z.length)(hp:H p=none):Step ι (own σ Z++ι) H ι (own (σ++[some (.ref p)]) (Z++[some (.ow m)])++ι) (upd H p o) where
 pre:=cb.refl _
 src:=λa h=>by
  rw [fA l] at h
  simp only [z13,z17] at h ⊢
  rcases h with (h|h)|h
  ·exact .inl (.inl h)
  ·subst h;exact .inr hp
  ·exact .inl (.inr h)
 keep:=λa u e _=>dU.lay hp _ _ e
 dom:=λa e=>(dU.lay hp).free e
 kp:=Kp.same (dU.lay hp)
def SR.store (h:SR K κ ι H (σ++[some v]) (Z++[some x]) G)(l:σ.length=Z.length):SR K κ ι H (σ.set i (some v)) (Z.set i (some x)) G:=by
 obtain⟨a,b⟩:=cy l h.sl
 cases b with
 | cons b _ =>
  refine⟨n8 i a b,h.gs,λy=>?_⟩
  have n:=h.nd y
  rw [bQ _ _ l] at n
  have e1:own [some v] [some x]=bA (some v) (some x):=z10 _
  rw [e1] at n
  by_cases hi:i<σ.length
  ·have:=yS (Z:=Z) (w:=some v) (y:=some x) y (z1d hi) (z1d (by lia))
   simp only [bh,z20] at this n ⊢
   lia
  ·rw [List.set_eq_of_length_le (by lia),List.set_eq_of_length_le (by lia)]
   simp only [bh,z20] at n ⊢
   lia
def sY  (l:σ.length=Z.length)(h:a∈own (σ.set i (some v)) (Z.set i (some x))++ι):a∈own (σ++[some v]) (Z++[some x])++ι:=by
 rw [bQ _ _ l]
 have e1:own [some v] [some x]=bA (some v) (some x):=z10 _
 rw [e1]
 rw [gM] at h ⊢
 by_cases hi:i<σ.length
 ·have:=yS (Z:=Z) (w:=some v) (y:=some x) a (z1d hi) (z1d (by lia))
  simp only [bh,z20] at this h ⊢
  lia
 ·rw [List.set_eq_of_length_le (by lia),List.set_eq_of_length_le (by lia)] at h
  simp only [bh,z20] at h ⊢
  lia
def SR.take{i:Nat}{a:Addr}{m:M}(h:SR K κ ι H σ Z G)(e1:σ[i]?=some (some (.ref a)))(e2:Z[i]?=some (some (.ow m))) :
  SR K κ ι H (σ++[some (.ref a)]) (Z.set i none++[some (.ow m)]) G/\Step ι (own σ Z++ι) H ι (own (σ++[some (.ref a)]) (Z.set i none++[some (.ow m)])++ι) H:=by
 have l:σ.length=(Z.set i none).length:=by rw [z2b];exact h.len
 obtain⟨a',e1',r⟩:=h.y15e e2
 rw [e1] at e1';cases e1'
 have q:∀x,bh x (own σ (Z.set i none))+bh x [a]=bh x (own σ Z):=λx=>by
  have:=sW (y:=none) x e1 e2
  rw [lE,jx] at this
  exact this
 refine⟨⟨dq (lG h.sl e1 (.no _)) (.cons (.ow r) .nil),h.gs,λx=>?_⟩,(Step.refl _ _ _).sub λx hx=>?_⟩
 ·rw [fA l]
  have:=h.nd x
  have:=q x
  simp only [bh,z20] at *
  lia
 ·rw [fA l,gM] at hx
  rw [gM]
  have:=q x
  simp only [bh,z20] at *
  lia
def SR.gl(h:SR K κ ι H σ Z G):ι.length=G.length:=Paired.length h.gs
def SR.box (h:SR K κ ι H (σ++[some (.ref a)]) (Z++[some (.ow m)]) G)(l:σ.length=Z.length) :
  SR K κ (ι++[a]) H σ Z (G++[m])/\RpI K (ι++[a]) H (.ref a) (.ref G.length)/\Step ι (own (σ++[some (.ref a)]) (Z++[some (.ow m)])++ι) H (ι++[a]) (own σ Z++(ι++[a])) H:=by
 obtain⟨p,q⟩:=cy l h.sl
 have pr:=cb.snoc ι [a]
 cases q with
 | cons q _ =>
  cases q with
  | ow q =>
   refine⟨⟨iD pr (Kp.refl _) (λ_ _=>rfl) p,dq (lC pr (Kp.refl _) (λ_ _=>rfl) h.gs) (.cons (q.mono pr (Kp.refl _) rfl) .nil),λx=>?_⟩,?_,⟨pr,λx hx=>.inl ?_,λ_ _ e _=>e,λ_ e=>e,Kp.refl _⟩⟩
   ·have:=h.nd x
    rw [fA l] at this
    simp only [bh,z20] at this ⊢
    lia
   ·refine .ref ?_
    have e:=h.gl
    rw [<- e,z18 (ze _),Nat.sub_self];rfl
   ·rw [fA l]
    simp only [z13] at hx ⊢
    rcases hx with hx|hx|hx
    ·exact .inl (.inl hx)
    ·exact .inr hx
    ·exact .inl (.inr hx)
def SR.poke{i:Nat}{a:Addr}{m m':M}{o:HO}(h:SR K κ ι H σ Z G)(e1:σ[i]?=some (some (.ref a)))(e2:Z[i]?=some (some (.ow m)))(r:∀(ρ:dm K κ ι H a m),Kp H (upd H a o)->dm K κ ι (upd H a o) a m')(hf:‹sU m=false›) :
  SR K κ ι (upd H a o) σ (Z.set i (some (.ow m'))) G/\Step ι (own σ Z++ι) H ι (own σ (Z.set i (some (.ow m')))++ι) (upd H a o):=by
 obtain⟨a',e1',rm⟩:=h.y15e e2
 rw [e1] at e1';cases e1'
 obtain⟨u,hu,mu⟩:=rm.mu
 have kp:Kp H (upd H a o):=⟨λb xs e=>by rw [aK (nh e hu (by rintro rfl;cases mu))];exact e,λb o' u' e=>by rw [aK (λz=>by subst z;exact rm.nf hf _ _ e)];exact e⟩
 have q:∀x,bh x (own σ (Z.set i (some (.ow m'))))=bh x (own σ Z):=λx=>by
  have:=sW (y:=some (.ow m')) x e1 e2
  rw [lE,lE] at this
  lia
 have mem:=sX e1 e2
 have na:∀x,x∈own σ (Z.set i none)->x≠a:=λx hx z=>by
  subst z
  have:=sW (y:=none) x e1 e2
  rw [lE,jx] at this
  have n:=h.nd x
  have:=gM.mp hx
  have z1:bh x [x]=1:=by simp [bh]
  have z0:bh x []=0:=rfl
  lia
 have ni:∀x,x∈ι->x≠a:=λx hx z=>by
  subst z
  have n:=h.nd x
  have:=gM.mp hx
  have:=gM.mp mem
  lia
 have p1:=iD (cb.refl ι) kp (λx hx=>aK (na x hx)) (lG h.sl e1 (.no _))
 refine⟨⟨?_,lC (cb.refl ι) kp (λx hx=>aK (ni x hx)) h.gs,λx=>by rw [q];exact h.nd x⟩,⟨cb.refl _,λx hx=>.inl ?_,λx u e n=>?_,λx e=>?_,kp⟩⟩
 ·have:=lG p1 e1 (.ow (r rm kp))
  rw [List.set_set] at this
  exact this
 ·rw [gM] at hx ⊢
  have:=q x
  simp only [bh,z20] at *
  lia
 ·rw [aK (λz=>n (by rw [z];exact List.mem_append_left _ mem))];exact e
 ·by_cases z:x=a
  ·subst z;rw [a8] at e;cases e
  ·rw [aK z] at e;exact e
def SR.pokeG{k:Nat}{a:Addr}{m m':M}{o:HO}(h:SR K κ ι H σ Z G)(e1:ι[k]?=some a)(e2:G[k]?=some m)(r:∀(ρ:dm K κ ι H a m),Kp H (upd H a o)->dm K κ ι (upd H a o) a m')(hf:‹sU m=false›) :
  SR K κ ι (upd H a o) σ Z (G.set k m')/\Step ι (own σ Z++ι) H ι (own σ Z++ι) (upd H a o):=by
 obtain⟨a',e1',rm⟩:=h.y15c e2
 rw [e1] at e1';cases e1'
 obtain⟨u,hu,mu⟩:=rm.mu
 have kp:Kp H (upd H a o):=⟨λb xs e=>by rw [aK (nh e hu (by rintro rfl;cases mu))];exact e,λb o' u' e=>by rw [aK (λz=>by subst z;exact rm.nf hf _ _ e)];exact e⟩
 have mem:a∈ι:=z32 e1
 have na:∀x,x∈own σ Z->x≠a:=λx hx z=>by
  subst z
  have n:=h.nd x
  have:=gM.mp hx
  have:=gM.mp mem
  lia
 have inj:∀j,ι[j]?=some a->j=k:=λj ej=>by
  have n:=h.nd a
  have c1:bh a ι≤1:=by lia
  by_cases z:j=k
  ·exact z
  ·exfalso
   have:2≤bh a ι:=by
    have hj:=(z14.mp ej)
    have hk:=(z14.mp e1)
    obtain⟨hj,vj⟩:=hj
    obtain⟨hk,vk⟩:=hk
    have two:∀(l:List Addr) (i j:Nat) (hi:i<l.length) (hj:j<l.length),i<j->l[i]=a->l[j]=a->2≤List.count a l:=by
     intro l i j hi hj hij e1 e2
     have e:l=l.take j++l.drop j:=(List.take_append_drop j l).symm
     rw [e,z20]
     have p1:0<List.count a (l.take j):=List.count_pos_iff.mpr (by rw [List.mem_take_iff_getElem];exact⟨i,by lia,e1⟩)
     have p2:0<List.count a (l.drop j):=List.count_pos_iff.mpr (by rw [List.mem_drop_iff_getElem];exact⟨0,by lia,by simpa using e2⟩)
     lia
    rcases Nat.lt_or_gt_of_ne z with z|z
    ·exact two ι j k hj hk z vj vk
    ·exact two ι k j hk hj z vk vj
   lia
 have objs:∀(as:List Addr) (Gs:List M) (b:Nat),(∀j x,as[j]?=some x->x=a->b+j=k)->Paired (dm K κ ι H) as Gs->(∀j,b+j=k->j<as.length->as[j]?=some a)->Paired (dm K κ ι (upd H a o)) as (if b≤k then Gs.set (k-b) m' else Gs):=by
  intro as Gs b hj p hk
  induction p generalizing b with
  | nil=>by_cases z:b≤k<;>simp [z]<;>exact .nil
  | @cons x y l r hx hr ih =>
   have ih':=ih (b+1) (λj x e z=>by have:=hj (j+1) x (by simpa using e) z;lia) (λj e l=>by have:=hk (j+1) (by lia) (by simp;lia);simpa using this)
   by_cases z:b=k
   ·subst z
    have xa:x=a:=by have:=hk 0 rfl (by simp);simpa using this
    subst xa
    rw [if_neg (by lia)] at ih'
    rw [if_pos (ze _),Nat.sub_self]
    exact .cons (r rm kp) ih'
   ·have xa:x≠a:=λe=>z (by have:=hj 0 x rfl e;lia)
    by_cases w:b≤k
    ·rw [if_pos (by lia)] at ih'
     rw [if_pos w]
     obtain⟨n,hn⟩:∃n,k-b=n+1:=⟨k-b-1,by lia⟩
     have hn':k-(b+1)=n:=by lia
     rw [hn];rw [hn'] at ih'
     exact .cons (hx.mono (cb.refl _) kp (aK xa)) ih'
    ·rw [if_neg (by lia)] at ih'
     rw [if_neg w]
     exact .cons (hx.mono (cb.refl _) kp (aK xa)) ih'
 have p2:=objs ι G 0 (λj x e z=>by subst z;have:=inj j e;lia) h.gs (λj e _=>(show j=k by lia) ▸ e1)
 rw [if_pos (Nat.zero_le _),Nat.sub_zero] at p2
 refine⟨⟨iD (cb.refl ι) kp (λx hx=>aK (na x hx)) h.sl,p2,h.nd⟩,⟨cb.refl _,λx hx=>.inl hx,λx u e n=>?_,λx e=>?_,kp⟩⟩
 ·rw [aK (λz=>n (by rw [z];exact z22 _ mem))];exact e
 ·by_cases z:x=a
  ·subst z;rw [a8] at e;cases e
  ·rw [aK z] at e;exact e
end
end
section
inductive Ev where
 | v (x:Vl)|s (i:Nat)
noncomputable abbrev De:=List (Option Vl)
noncomputable abbrev Mo(α:Type):=De->List M->Option (α×De×List M)
abbrev bd{α β:Type}(m:Mo α)(f:α->Mo β):Mo β:=λZ G=>match m Z G with
 | some (a,Z1,G1)=>f a Z1 G1
 | none=>none
abbrev rt{α:Type}(a:α):Mo α:=λZ G=>some (a,Z,G)
def cC{α β:Type}{m:Mo α}{f:α->Mo β}{Z:De}{G:List M}{r:β×De×List M}(h:bd m f Z G=some r):∃a Z1 G1,m Z G=some (a,Z1,G1)/\f a Z1 G1=some r:=by
 unfold bd at h
 split at h
 ·exact⟨_,_,_,by assumption,h⟩
 ·cases h
def mR{α β:Type}{m:Mo α}{f:α->Mo β}{Z Z1:De}{G G1:List M}{a:α}(h:m Z G=some (a,Z1,G1)):bd m f Z G=f a Z1 G1:=by
 unfold bd;rw [h]
abbrev tS:List Ev->List V->St
 | .v _::es,v::vs=>some v::tS es vs
 | .s _::es,_::vs=>tS es vs
 | _,_=>[]
abbrev tD:List Ev->De
 | .v x::es=>some x::tD es
 | .s _::es=>tD es
 | []=>[]
theorem n9:∀{es:List Ev} {vs:List V} (fs:List Ev) (ws:List V),es.length=vs.length->tS (es++fs) (vs++ws)=tS es vs++tS fs ws
 | [],[],_,_,_=>rfl
 | [],_::_,_,_,h=>by cases h
 | _::_,[],_,_,h=>by cases h
 | .v x::es,v::vs,fs,ws,h=>by
  show some v::tS (es++fs) (vs++ws)=some v::(tS es vs++tS fs ws)
  rw [n9 fs ws (by simpa using h)]
 | .s i::es,v::vs,fs,ws,h=>by
  show tS (es++fs) (vs++ws)=tS es vs++tS fs ws
  rw [n9 fs ws (by simpa using h)]
theorem oa:∀(es fs:List Ev),tD (es++fs)=tD es++tD fs
 | [],_=>rfl
 | .v x::es,fs=>by
  show some x::tD (es++fs)=some x::(tD es++tD fs)
  rw [oa]
 | .s i::es,fs=>by
  show tD (es++fs)=tD es++tD fs
  rw [oa]
structure Args(K:W.Frag)(κ:Str->Addr)(ι:List Addr)(H:Hp)(σ:St)(Z:De)(G:List M)(es:List Ev)(vs:List V):Prop where
 l:σ.length=Z.length
 sr:SR K κ ι H (σ++tS es vs) (Z++tD es) G
 al:Paired (λ(e:Ev) (v:V)=>∀i,e=.s i->σ[i]?=some (some v)) es vs
structure After(K:W.Frag)(κ:Str->Addr)(σ:St)(ι fp:List Addr)(H:Hp)(es:List Ev)(Z':De)(G':List M)(vs:List V)(ι':List Addr)(H':Hp):Prop where
 ar:Args K κ ι' H' σ Z' G' es vs
 st:Step ι fp H ι' (own (σ++tS es vs) (Z'++tD es)++ι') H'
def bY(h:some (x,Z,G)=some (e,Z',G'))(a:After K κ σ ι fp H [x] Z G vs ι' H'):After K κ σ ι fp H [e] Z' G' vs ι' H':=by cases h;exact a
abbrev bE(K:W.Frag)(κ:Str->Addr)(f:Mo Ev):TE:=λσ H Q=>∃ι Z G e Z' G',SR K κ ι H σ Z G/\f Z G=some (e,Z',G')/\∀v ι' H',After K κ σ ι (own σ Z++ι) H [e] Z' G' [v] ι' H'->Q v H'
abbrev gb(K:W.Frag)(κ:Str->Addr)(f:Mo (List Ev)):TA:=λσ H Q=>∃ι Z G es Z' G',SR K κ ι H σ Z G/\f Z G=some (es,Z',G')/\∀vs ι' H',After K κ σ ι (own σ Z++ι) H es Z' G' vs ι' H'->Q vs H'
section
variable {κ:Str->Addr}{H H1 H2:Hp}{σ:St}{Z Z1 Z2:De}
def Args.base(h:Args K κ ι H σ Z G es vs):SR K κ ι H σ Z G:=h.sr.pop h.l
def B5 (h:n=vs.length)(e:‹n=0›):vs=[]:=by subst e;cases vs with|nil=>rfl|cons _ _=>cases h
def cq (h:n=vs.length)(e:‹n=1›):∃a,vs=[a]:=by
 subst e
 cases vs with
 | nil=>cases h
 | cons a r=>exact⟨a,by rw [B5 (Nat.succ.inj h)]⟩
def bO (h:n=vs.length)(e:‹n=2›):∃a b,vs=[a,b]:=by
 subst e
 cases vs with
 | nil=>cases h
 | cons a r=>obtain⟨b,e⟩:=cq (Nat.succ.inj h);exact⟨a,b,by rw [e]⟩
def sZ (h:n=vs.length)(e:‹n=3›):∃a b c,vs=[a,b,c]:=by
 subst e
 cases vs with
 | nil=>cases h
 | cons a r=>obtain⟨b,c,e⟩:=bO (Nat.succ.inj h);exact⟨a,b,c,by rw [e]⟩
def Args.len(h:Args K κ ι H σ Z G es vs):es.length=vs.length:=Paired.length h.al
def After.app(a:After K κ σ ι fp H es Z1 G1 vs ι1 H1)(b:After K κ σ ι1 (own σ Z1++ι1) H1 fs Z2 G2 ws ι2 H2):After K κ σ ι fp H (es++fs) Z2 G2 (vs++ws) ι2 H2:=by
 obtain⟨s,t⟩:=SR.join a.ar.sr a.ar.l b.ar.sr b.ar.l b.st
 have e1:=n9 fs ws a.ar.len
 have e2:=oa es fs
 refine⟨⟨b.ar.l,by rw [e1,e2];exact s,dq a.ar.al b.ar.al⟩,?_⟩
 rw [e1,e2]
 exact a.st.trans t
theorem After.nil(h:SR K κ ι H σ Z G):After K κ σ ι (own σ Z++ι) H [] Z G [] ι H:=by
 refine⟨⟨h.len,?_,.nil⟩,?_⟩
 ·show SR K κ ι H (σ++[]) (Z++[]) G
  rw [z10,z10];exact h
 ·show Step ι _ H ι (own (σ++[]) (Z++[])++ι) H
  rw [z10,z10];exact Step.refl _ _ _
abbrev ae:Mo (List Ev):=rt []
abbrev af(fa:Mo Ev)(fr:Mo (List Ev)):Mo (List Ev):=bd fa λe=>bd fr λes=>rt (e::es)
def B6(h:gb K κ ae σ H Q):iB σ H Q:=by
 obtain⟨ι,Z,G,es,Z',G',s,e,k⟩:=h
 cases e
 exact k _ _ _ (After.nil s)
def B7 (h:gb K κ (af fa fr) σ H Q):dS (bE K κ fa) (gb K κ fr) σ H Q:=by
 obtain⟨ι,Z,G,es,Z',G',s,e,k⟩:=h
 obtain⟨x,Z1,G1,e1,e⟩:=cC e
 obtain⟨xs,Z2,G2,e2,e⟩:=cC e
 cases e
 refine⟨ι,Z,G,x,Z1,G1,s,e1,λv ι1 H1 a=>?_⟩
 refine⟨ι1,Z1,G1,xs,_,_,a.ar.base,e2,λvs ι2 H2 b=>?_⟩
 exact k _ _ _ (a.app b)
abbrev aD(K:W.Frag)(κ:Str->Addr)(r:List V->Hp->VK->Prop)(p:List Ev->Mo Ev):Prop :=
 ∀(ι:List Addr) (H:Hp) (σ:St) (Z:De) (G:List M) (es:List Ev) (vs:List V) (e:Ev) (Z':De) (G':List M) (Q:VK),Args K κ ι H σ Z G es vs->p es Z G=some (e,Z',G') ->
  (∀v ι' H',After K κ σ ι (own (σ++tS es vs) (Z++tD es)++ι) H [e] Z' G' [v] ι' H'->Q v H')->r vs H Q
def After.then (a:After K κ σ ι fp H es Z1 G1 vs ι1 H1)(b:After K κ σ ι1 (own (σ++tS es vs) (Z1++tD es)++ι1) H1 es' Z2 G2 vs' ι2 H2):After K κ σ ι fp H es' Z2 G2 vs' ι2 H2:=⟨b.ar,a.st.trans b.st⟩
def gc  (hp:aD K κ r p)(h:bE K κ (bd fa p) σ H Q):gb K κ fa σ H λvs H1=>r vs H1 Q:=by
 obtain⟨ι,Z,G,e,Z',G',s,eq,k⟩:=h
 obtain⟨xs,Z1,G1,e1,e2⟩:=cC eq
 refine⟨ι,Z,G,xs,Z1,G1,s,e1,λvs ι1 H1 a=>?_⟩
 exact hp _ _ _ _ _ _ _ _ _ _ _ a.ar e2 λv ι2 H2 b=>k _ _ _ (a.then b)
abbrev r2(r:R2):List V->Hp->VK->Prop:=λvs H Q=>∃x y,vs=[x,y]/\r x y H Q
abbrev r1(r:V->Hp->VK->Prop):List V->Hp->VK->Prop:=λvs H Q=>∃x,vs=[x]/\r x H Q
abbrev ah(p:List Ev->Mo Ev)(fa fb:Mo Ev):Mo Ev:=bd fa λx=>bd fb λy=>p [x,y]
abbrev cY(p:List Ev->Mo Ev)(fa:Mo Ev):Mo Ev:=bd fa λx=>p [x]
def gN  (hp:aD K κ (r2 r) p)(h:bE K κ (ah p fa fb) σ H Q):mM r (bE K κ fa) (bE K κ fb) σ H Q:=by
 obtain⟨ι,Z,G,e,Z',G',s,eq,k⟩:=h
 obtain⟨x,Z1,G1,e1,eq⟩:=cC eq
 obtain⟨y,Z2,G2,e2,eq⟩:=cC eq
 refine⟨ι,Z,G,x,Z1,G1,s,e1,λv ι1 H1 a=>?_⟩
 refine⟨ι1,Z1,G1,y,Z2,G2,a.ar.base,e2,λw ι2 H2 b=>?_⟩
 have c:=a.app b
 obtain⟨x',y',e',q⟩:=hp _ _ _ _ _ _ _ _ _ _ Q c.ar eq λv ι3 H3 d=>k _ _ _ (c.then d)
 cases e'
 exact q
def lH  (hp:aD K κ (r1 r) p)(h:bE K κ (cY p fa) σ H Q):tUn r (bE K κ fa) σ H Q:=by
 obtain⟨ι,Z,G,e,Z',G',s,eq,k⟩:=h
 obtain⟨x,Z1,G1,e1,eq⟩:=cC eq
 refine⟨ι,Z,G,x,Z1,G1,s,e1,λv ι1 H1 a=>?_⟩
 obtain⟨x',e',q⟩:=hp _ _ _ _ _ _ _ _ _ _ Q a.ar eq λv ι3 H3 d=>k _ _ _ (a.then d)
 cases e'
 exact q
theorem og:∀{es:List Ev} {vs:List V} {j:Nat} {x:Vl} {v:V},Paired (RpE K κ ι H) (tS es vs) (tD es)->es[j]?=some (.v x)->vs[j]?=some v->RpE K κ ι H (some v) (some x)
 | [],_,_,_,_,_,h,_=>by simp at h
 | _::_,[],_,_,_,_,_,h=>by simp at h
 | .v y::es,w::vs,0,x,v,p,h1,h2=>by
  simp at h1 h2
  subst h1;subst h2
  cases p with
  | cons q _=>exact q
 | .s i::es,w::vs,0,x,v,p,h1,h2=>by simp at h1
 | .v y::es,w::vs,j+1,x,v,p,h1,h2=>by
  cases p with
  | cons _ p=>exact og p (by simpa using h1) (by simpa using h2)
 | .s i::es,w::vs,j+1,x,v,p,h1,h2=>og (vs:=vs) p (by simpa using h1) (by simpa using h2)
theorem Args.im{j:Nat}{d:I}{v:V}(a:Args K κ ι H σ Z G es vs)(h1:es[j]?=some (.v (.im d)))(h2:vs[j]?=some v):RpI K ι H v d:=by
 have:=og (cy a.l a.sr.sl).2 h1 h2
 cases this with
 | im r=>exact r
abbrev pk(Z:De)(G:List M):Ev->Option M
 | .v (.ow m)=>some m
 | .v (.im (.ref k))=>G[k]?
 | .v (.im _)=>none
 | .s i=>match Z[i]? with
  | some (some (.ow m))=>some m
  | _=>none
theorem Args.pk{j:Nat}{e:Ev}{m:M}{v:V}(a:Args K κ ι H σ Z G es vs)(h1:es[j]?=some e)(h2:vs[j]?=some v)(h:B.pk Z G e=some m):∃b,v=.ref b/\dm K κ ι H b m:=by
 cases e with
 | v x =>
  have q:=og (cy a.l a.sr.sl).2 h1 h2
  cases x with
  | ow m'=>cases h;cases q with
   | ow r=>exact⟨_,rfl,r⟩
  | im d =>
   cases q with
   | im r =>
    cases r with
    | ref e =>
     obtain⟨b,e',r⟩:=a.base.y15c h
     rw [e] at e';cases e'
     exact⟨_,rfl,r⟩
    | _=>cases h
 | s i =>
  have h:(match Z[i]? with|some (some (.ow m))=>some m|_=>none)=some m:=h
  obtain⟨v',e1,al⟩:∃v',vs[j]?=some v'/\σ[i]?=some (some v'):=by
   have:∀{es:List Ev} {vs:List V} {j:Nat},Paired (λ(e:Ev) (v:V)=>∀i,e=.s i->σ[i]?=some (some v)) es vs->es[j]?=some (.s i)->∃v',vs[j]?=some v'/\σ[i]?=some (some v'):=by
    intro es vs j p
    induction p generalizing j with
    | nil=>intro h;simp at h
    | cons q _ ih =>
     intro h
     cases j with
     | zero=>simp at h;exact⟨_,rfl,q i h⟩
     | succ j=>obtain⟨v',e,z⟩:=ih (by simpa using h);exact⟨v',by simpa using e,z⟩
   exact this a.al h1
  rw [h2] at e1;cases e1
  split at h
  ·rename_i m' e
   cases h
   obtain⟨b,e',r⟩:=a.base.y15e e
   rw [al] at e';cases e'
   exact⟨_,rfl,r⟩
  ·cases h
abbrev sq(Z:De)(G:List M):Ev->Option (List I)
 | .v (.im (.tup xs))=>some xs
 | .v (.im (.fro xs))=>some xs
 | .v (.im (.con xs))=>some xs
 | e=>match pk Z G e with
  | some (.lst xs)=>some xs
  | _=>none
theorem Args.sq{j:Nat}{e:Ev}{xs:List I}{v:V}(a:Args K κ ι H σ Z G es vs)(h1:es[j]?=some e)(h2:vs[j]?=some v)(h:B.sq Z G e=some xs):∃b ys,v=.ref b/\(bL K H b ys∨bq K H b ys)/\y56 K ι H ys xs:=by
 have y14f:(match B.pk Z G e with|some (.lst xs)=>some xs|_=>none)=some xs->∃b ys,v=.ref b/\(bL K H b ys∨bq K H b ys)/\y56 K ι H ys xs:=λq=>by
  split at q
  ·rename_i xs' e'
   cases q
   obtain⟨b,e1,ys,h3,r⟩:=a.pk h1 h2 e'
   exact⟨b,ys,e1,.inl (bL.of h3),r⟩
  ·cases q
 cases e with
 | s i=>exact y14f h
 | v x =>
  cases x with
  | ow m=>exact y14f h
  | im d =>
   have r:=a.im h1 h2
   cases r with
   | tup q r=>cases h;exact⟨_,_,rfl,.inr (bq.of q),r⟩
   | con q r=>cases h;exact⟨_,_,rfl,.inr (bq.kon q),r⟩
   | fro q r=>cases h;exact⟨_,_,rfl,.inl q.sq,r⟩
   | ref q=>exact y14f h
   | non=>exact y14f h
   | bl=>exact y14f h
   | int=>exact y14f h
   | str=>exact y14f h
   | ty=>exact y14f h
def br (a:Args K κ ι H σ Z G es vs)(r:RpI K ι H v d):After K κ σ ι (own (σ++tS es vs) (Z++tD es)++ι) H [.v (.im d)] Z G [v] ι H:=by
 refine⟨⟨a.l,a.base.push_im r,.cons (λ_ h=>by cases h) .nil⟩,(Step.refl _ _ _).sub λx h=>?_⟩
 have h:x∈own (σ++[some v]) (Z++[some (.im d)])++ι:=h
 rw [du a.l] at h
 exact cD a.l h
def tf (a:Args K κ ι H σ Z G es vs)(s:dU H H')(r:RpI K ι H' v d):After K κ σ ι (own (σ++tS es vs) (Z++tD es)++ι) H [.v (.im d)] Z G [v] ι H':=by
 refine⟨⟨a.l,(a.base.same s).push_im r,.cons (λ_ h=>by cases h) .nil⟩,(Step.same s).sub λx h=>?_⟩
 have h:x∈own (σ++[some v]) (Z++[some (.im d)])++ι:=h
 rw [du a.l] at h
 exact cD a.l h
def lI (a:Args K κ ι H σ Z G es vs)(hp:H p=none)(r:y56 K ι H ys xs):After K κ σ ι (own (σ++tS es vs) (Z++tD es)++ι) H [.v (.im (.tup xs))] Z G [.ref p] ι (upd H p (.tup ys)) :=
 tf a (dU.lay hp) (.tup a8 (r.mono (cb.refl _) (Kp.same (dU.lay hp))))
def tj (a:Args K κ ι H σ Z G es vs)(hp:H p=none)(r:dm K κ ι (upd H p o) p m):After K κ σ ι (own (σ++tS es vs) (Z++tD es)++ι) H [.v (.ow m)] Z G [.ref p] ι (upd H p o) :=
 ⟨⟨a.l,a.base.y328 hp r,.cons (λ_ h=>by cases h) .nil⟩,(Step.y1dd a.l hp).wide λx h=>cD a.l h⟩
def gO (a:Args K κ ι H σ Z G es vs)(hp:H p=none)(r:y56 K ι H ys xs):After K κ σ ι (own (σ++tS es vs) (Z++tD es)++ι) H [.v (.ow (.lst xs))] Z G [.ref p] ι (upd H p (.lst ys)) :=
 tj a hp ⟨ys,a8,r.mono (cb.refl _) (Kp.same (dU.lay hp))⟩
abbrev ig(Z:De)(G:List M)(m':M):Ev->De×List M
 | .v (.im (.ref k))=>(Z,G.set k m')
 | .v _=>(Z,G)
 | .s i=>(Z.set i (some (.ow m')),G)
theorem oi:∀{es:List Ev} {vs:List V} {j:Nat} {x:Vl} {v:V},es[j]?=some (.v x)->vs[j]?=some v->es.length=vs.length->∃n:Nat,(tS es vs)[n]?=some (some v)/\(tD es)[n]?=some (some x)
 | [],_,_,_,_,h,_,_=>by simp at h
 | _::_,[],_,_,_,_,h,_=>by simp at h
 | .v y::es,w::vs,0,x,v,h1,h2,_=>by
  simp at h1 h2
  subst h1;subst h2
  exact⟨0,rfl,rfl⟩
 | .s i::es,w::vs,0,x,v,h1,h2,_=>by simp at h1
 | .v y::es,w::vs,j+1,x,v,h1,h2,l=>by
  obtain⟨n,p,q⟩:=oi (by simpa using h1) (by simpa using h2) (by simpa using l)
  exact⟨n+1,by simpa [tS] using p,by simpa [tD] using q⟩
 | .s i::es,w::vs,j+1,x,v,h1,h2,l=>by
  obtain⟨n,p,q⟩:=oi (by simpa using h1) (by simpa using h2) (by simpa using l)
  exact⟨n,p,q⟩
def yT{i:Nat}:∀{es:List Ev} {vs:List V} {j:Nat} {v:V},Paired (λ(e:Ev) (v:V)=>∀i,e=.s i->σ[i]?=some (some v)) es vs->es[j]?=some (.s i)->vs[j]?=some v->σ[i]?=some (some v):=by
 intro es vs j v p
 induction p generalizing j with
 | nil=>intro h;simp at h
 | cons q _ ih =>
  intro h h2
  cases j with
  | zero=>simp at h h2;subst h2;exact q i h
  | succ j=>exact ih (by simpa using h) (by simpa using h2)
def lJ{j:Nat}{e:Ev}{m m':M}{b:Addr}{o:HO}{v:V}{d:I}(a:Args K κ ι H σ Z G es vs)(h1:es[j]?=some e)(h2:vs[j]?=some (.ref b))(h:pk Z G e=some m)
  (r:dm K κ ι H b m->Kp H (upd H b o)->dm K κ ι (upd H b o) b m') (rv:RpI K ι H v d) (hf:‹sU m=false›) :
  After K κ σ ι (own (σ++tS es vs) (Z++tD es)++ι) H [.v (.im d)] (ig Z G m' e).1 (ig Z G m' e).2 [v] ι (upd H b o):=by
 have fin:∀{Z':De} {G':List M},SR K κ ι (upd H b o) σ Z' G'->Step ι (own (σ++tS es vs) (Z++tD es)++ι) H ι (own σ Z'++ι) (upd H b o)->After K κ σ ι (own (σ++tS es vs) (Z++tD es)++ι) H [.v (.im d)] Z' G' [v] ι (upd H b o):=λs st=>by
  refine⟨⟨s.len,s.push_im (rv.mono (cb.refl _) st.kp),.cons (λ_ h=>by cases h) .nil⟩,st.sub λx h=>?_⟩
  have h:x∈own (σ++[some v]) (_++[some (.im d)])++ι:=h
  rw [du s.len] at h
  exact h
 cases e with
 | s i =>
  have al:=yT a.al h1 h2
  have h:(match Z[i]? with|some (some (.ow m))=>some m|_=>none)=some m:=h
  split at h
  ·rename_i m0 e
   cases h
   obtain⟨p,q⟩:=a.base.poke al e r hf
   exact fin p (q.wide λx h=>cD a.l h)
  ·cases h
 | v x =>
  cases x with
  | im d =>
   cases d with
   | ref k =>
    have rr:=a.im h1 h2
    cases rr with
    | ref e =>
     obtain⟨p,q⟩:=a.base.pokeG e h r hf
     exact fin p (q.wide λx h=>cD a.l h)
   | _=>cases h
  | ow m0 =>
   cases h
   obtain⟨n,p1,p2⟩:=oi h1 h2 a.len
   have e1:(σ++tS es vs)[σ.length+n]?=some (some (.ref b)):=by rw [z18 (by lia)];simpa using p1
   have e2:(Z++tD es)[σ.length+n]?=some (some (.ow m)):=by rw [a.l,z18 (by lia)];simpa using p2
   obtain⟨p,q⟩:=a.sr.poke e1 e2 r hf
   have e3:(Z++tD es).set (σ.length+n) (some (.ow m'))=Z++(tD es).set n (some (.ow m')):=by rw [a.l,List.set_append_right _ _ (by lia)];simp
   rw [e3] at p q
   exact fin (p.pop a.l) (q.sub λx h=>cD a.l h)
end
end
section
section
abbrev aa(i:Nat):Mo Ev:=λZ G=>match Z[i]? with
 | some (some (.im d))=>some (.v (.im d),Z,G)
 | some (some (.ow _))=>some (.s i,Z,G)
 | _=>none
def B8 (h:bE K κ (aa i) σ H Q):gF i σ H Q:=by
 obtain⟨ι,Z,G,e,Z',G',s,eq,k⟩:=h
 unfold aa at eq
 split at eq
 ·rename_i d hd
  cases eq
  obtain⟨v,e1,r⟩:=s.y15d hd
  refine⟨v,e1,k v ι H ⟨⟨s.len,s.push_im r,.cons (λ_ h=>by cases h) .nil⟩,(Step.refl _ _ _).sub λx h=>?_⟩⟩
  have h:x∈own (σ++[some v]) (Z++[some (.im d)])++ι:=h
  rw [du s.len] at h
  exact h
 ·rename_i m hd
  cases eq
  obtain⟨a,e1,r⟩:=s.y15e hd
  have n:=After.nil s
  exact⟨_,e1,k _ ι H ⟨⟨s.len,n.ar.sr,.cons (λj h=>by cases h;exact e1) .nil⟩,n.st⟩⟩
 ·cases eq
abbrev ag(d:I):Mo Ev:=rt (.v (.im d))
def lK (r:∀ι H,RpI K ι H v d)(h:bE K κ (ag d) σ H Q):tC v σ H Q:=by
 obtain⟨ι,Z,G,e,Z',G',s,eq,k⟩:=h
 cases eq
 have a:=br (After.nil s).ar (r ι H)
 exact k _ _ _ ⟨a.ar,(After.nil s).st.trans a.st⟩
abbrev oj:Ev->Mo Ev
 | .v (.im d)=>rt (.v (.im d))
 | .v (.ow m)=>λZ G=>some (.v (.im (.ref G.length)),Z,G++[m])
 | .s i=>λZ G=>match Z[i]? with
  | some (some (.ow m))=>some (.v (.im (.ref G.length)),Z.set i (some (.im (.ref G.length))),G++[m])
  | _=>none
abbrev mS:Ev->Mo Ev
 | .v x=>rt (.v x)
 | .s i=>λZ G=>match Z[i]? with
  | some (some (.ow m))=>some (.v (.ow m),Z.set i none,G)
  | _=>none
abbrev aY(f:Mo Ev):Mo Ev:=bd f oj
abbrev iE(f:Mo Ev):Mo Ev:=bd f mS
def y64  (a:After K κ σ ι fp H [e] Z1 G1 [v] ι1 H1)(h:mS e Z1 G1=some (e',Z',G')):After K κ σ ι fp H [e'] Z' G' [v] ι1 H1/\∃x,e'=.v x:=by
 cases e with
 | v x=>cases h;exact⟨a,_,rfl⟩
 | s i =>
  unfold mS at h
  dsimp only at h
  split at h
  ·rename_i m hm
   cases h
   have al:=yT (j:=0) a.ar.al rfl rfl
   obtain⟨b,e1,r⟩:=a.ar.base.y15e hm
   rw [al] at e1;cases e1
   obtain⟨p,q⟩:=a.ar.base.take al hm
   refine⟨⟨⟨by rw [z2b];exact a.ar.l,p,.cons (λ_ h=>by cases h) .nil⟩,?_⟩,_,rfl⟩
   have st:=a.st
   have e0:own (σ++tS [.s i] [.ref b]) (Z1++tD [.s i])=own σ Z1:=by
    show own (σ++[]) (Z1++[])=_
    rw [z10,z10]
   rw [e0] at st
   exact st.trans q
  ·cases h
def y63  (a:After K κ σ ι fp H [e] Z1 G1 [v] ι1 H1)(h:oj e Z1 G1=some (e',Z',G')):∃ι2,After K κ σ ι fp H [e'] Z' G' [v] ι2 H1:=by
 have go:∀{Z3:De} {b:Addr} {m:M},σ.length=Z3.length->After K κ σ ι fp H [.v (.ow m)] Z3 G1 [.ref b] ι1 H1->After K κ σ ι fp H [.v (.im (.ref G1.length))] Z3 (G1++[m]) [.ref b] (ι1++[b]) H1:=λ{Z3 b m} l a=>by
  obtain⟨p,r,q⟩:=SR.box a.ar.sr l
  refine⟨⟨l,p.push_im r,.cons (λ_ h=>by cases h) .nil⟩,a.st.trans (q.sub λx h=>?_)⟩
  have h:x∈own (σ++[some (.ref b)]) (Z3++[some (.im (.ref G1.length))])++(ι1++[b]):=h
  rw [du l] at h
  exact h
 cases e with
 | v x =>
  cases x with
  | im d=>cases h;exact⟨_,a⟩
  | ow m =>
   cases h
   have r:=og (cy a.ar.l a.ar.sr.sl).2 (j:=0) rfl rfl
   cases r
   exact⟨_,go a.ar.l a⟩
 | s i =>
  unfold oj at h
  dsimp only at h
  split at h
  ·rename_i m hm
   cases h
   have al:=yT (j:=0) a.ar.al rfl rfl
   have hm':mS (.s i) Z1 G1=some (.v (.ow m),Z1.set i none,G1):=by unfold mS;dsimp only;rw [hm]
   obtain⟨a',_⟩:=y64 a hm'
   obtain⟨b,e1,r⟩:=a.ar.base.y15e hm
   rw [al] at e1;cases e1
   have c:=go (by rw [z2b];exact a.ar.l) a'
   have hr:RpI K (ι1++[b]) H1 (.ref b) (.ref G1.length):=c.ar.im (j:=0) rfl rfl
   have s0:=c.ar.base
   have l:σ.length=(Z1.set i (some (.im (.ref G1.length)))).length:=by rw [z2b];exact a.ar.l
   have eo:∀x,bh x (own σ (Z1.set i (some (.im (.ref G1.length)))))=bh x (own σ (Z1.set i none)):=λx=>by
    have h1:=sW (y:=some (.im (.ref G1.length))) x al hm
    have h2:=sW (y:=none) x al hm
    rw [fZ] at h1;rw [jx] at h2
    lia
   have sr:SR K κ (ι1++[b]) H1 σ (Z1.set i (some (.im (.ref G1.length)))) (G1++[m]):=by
    refine⟨?_,s0.gs,λx=>by rw [eo];exact s0.nd x⟩
    have:=lG s0.sl al (.im hr)
    rw [List.set_set] at this
    exact this
   refine⟨_,⟨l,sr.push_im hr,.cons (λ_ h=>by cases h) .nil⟩,c.st.sub λx h=>?_⟩
   have h:x∈own (σ++[some (.ref b)]) (Z1.set i (some (.im (.ref G1.length)))++[some (.im (.ref G1.length))])++(ι1++[b]):=h
   rw [du l] at h
   show x∈own (σ++[some (.ref b)]) (Z1.set i none++[some (.im (.ref G1.length))])++(ι1++[b])
   rw [du (by rw [z2b];exact a.ar.l)]
   simp only [z13] at h ⊢
   rcases h with h|h
   ·left;rw [gM] at h ⊢;rw [<- eo];exact h
   ·exact .inr h
  ·cases h
def B9 (h:bE K κ (aY f) σ H Q):bE K κ f σ H Q:=by
 obtain⟨ι,Z,G,e,Z',G',s,eq,k⟩:=h
 obtain⟨x,Z1,G1,e1,eq⟩:=cC eq
 refine⟨ι,Z,G,x,Z1,G1,s,e1,λv ι1 H1 a=>?_⟩
 obtain⟨ι2,b⟩:=y63 a eq
 exact k _ _ _ b
def tm (h:bE K κ (iE f) σ H Q):bE K κ f σ H Q:=by
 obtain⟨ι,Z,G,e,Z',G',s,eq,k⟩:=h
 obtain⟨x,Z1,G1,e1,eq⟩:=cC eq
 refine⟨ι,Z,G,x,Z1,G1,s,e1,λv ι1 H1 a=>?_⟩
 obtain⟨b,_⟩:=y64 a eq
 exact k _ _ _ b
abbrev om:Ev->Option I
 | .v (.im d)=>some d
 | _=>none
abbrev mU:List Ev->Option (List I)
 | []=>some []
 | e::es=>match om e,mU es with
  | some d,some ds=>some (d::ds)
  | _,_=>none
theorem y70:∀{es:List Ev} {vs:List V} {ds:List I},Paired (RpE K κ ι H) (tS es vs) (tD es)->es.length=vs.length->mU es=some ds->y56 K ι H vs ds
 | [],[],_,_,_,h=>by cases h;exact .nil
 | [],_::_,_,_,l,_=>by cases l
 | _::_,[],_,_,l,_=>by cases l
 | e::es,v::vs,ds,p,l,h=>by
  unfold mU at h
  split at h
  ·rename_i d ds' h1 h2
   cases h
   cases e with
   | s i=>cases h1
   | v x =>
    cases x with
    | ow m=>cases h1
    | im d' =>
     cases h1
     cases p with
     | cons q p =>
      cases q with
      | im r=>exact .cons r (y70 p (by simpa using l) h2)
  ·cases h
def Args.ims(a:Args K κ ι H σ Z G es vs)(h:mU es=some ds):y56 K ι H vs ds:=y70 (cy a.l a.sr.sl).2 a.len h
abbrev ay:List Ev->Mo Ev:=λes Z G=>match mU es with
 | some ds=>if ds.length≤1000 then some (.v (.im (.tup ds)),Z,G) else none
 | none=>none
abbrev aN:List Ev->Mo Ev:=λes Z G=>match mU es with
 | some ds=>if ds.length≤1000 then some (.v (.ow (.lst ds)),Z,G) else none
 | none=>none
def tq:1000≤sizeLine:=by decide
def Ca:aD K κ (λvs H Q=>vs.length≤sizeLine/\∀p,H p=none->Q (.ref p) (upd H p (.tup vs))) ay:=by
 intro ι H σ Z G es vs e Z' G' Q a h k
 unfold ay at h
 split at h
 ·rename_i ds hd
  split at h
  ·have r:=a.ims hd
   exact⟨by rw [r.len];exact z1b (by assumption) tq,λp hp=>k _ _ _ (bY h (lI a hp r))⟩
  ·cases h
 ·cases h
def Cb:aD K κ (λvs H Q=>vs.length≤sizeLine/\∀p,H p=none->Q (.ref p) (upd H p (.lst vs))) aN:=by
 intro ι H σ Z G es vs e Z' G' Q a h k
 unfold aN at h
 split at h
 ·rename_i ds hd
  split at h
  ·have r:=a.ims hd
   exact⟨by rw [r.len];exact z1b (by assumption) tq,λp hp=>k _ _ _ (bY h (gO a hp r))⟩
  ·cases h
 ·cases h
abbrev dG(K:W.Frag)(κ:Str->Addr)(f:Mo Bool):TT:=λσ H Q=>∃ι Z G b Z' G',SR K κ ι H σ Z G/\f Z G=some (b,Z',G')/\∀ι' H',SR K κ ι' H' σ Z' G'->Step ι (own σ Z++ι) H ι' (own σ Z'++ι') H'->Q b H'
abbrev Cc:Ev->Mo Bool
 | .v (.im (.bl b))=>rt b
 | _=>λ_ _=>none
abbrev ao(f:Mo Ev):Mo Bool:=bd f Cc
def After.drop (a:After K κ σ ι fp H [e] Z1 G1 [v] ι1 H1):SR K κ ι1 H1 σ Z1 G1/\Step ι fp H ι1 (own σ Z1++ι1) H1:=⟨a.ar.base,a.st.sub λx h=>cD a.ar.l h⟩
def jy (h:dG K κ (ao f) σ H Q):qV (bE K κ f) σ H Q:=by
 obtain⟨ι,Z,G,b,Z',G',s,eq,k⟩:=h
 obtain⟨x,Z1,G1,e1,eq⟩:=cC eq
 refine⟨ι,Z,G,x,Z1,G1,s,e1,λv ι1 H1 a=>?_⟩
 unfold Cc at eq
 split at eq
 ·rename_i b'
  cases eq
  have r:=a.ar.im (j:=0) rfl rfl
  cases lA (r)
  obtain⟨p,q⟩:=a.drop
  exact⟨_,rfl,k _ _ p q⟩
 ·cases eq
abbrev eF(c d:Mo Bool):Mo Bool:=bd c λb=>if b then d else rt false
abbrev kz(c d:Mo Bool):Mo Bool:=bd c λb=>if b then rt true else d
abbrev Cd(c:Mo Bool):Mo Bool:=bd c λb=>rt (!b)
def dG.go{Q Q':Bool->Hp->Prop} (s:SR K κ ι1 H1 σ Z1 G1)(st:Step ι fp H ι1 (own σ Z1++ι1) H1)(e:f Z1 G1=some (b,Z2,G2))
  (k:∀ι' H',SR K κ ι' H' σ Z2 G2->Step ι fp H ι' (own σ Z2++ι') H'->Q b H'):dG K κ f σ H1 Q:=⟨ι1,Z1,G1,b,Z2,G2,s,e,λι' H' s' st'=>k ι' H' s' (st.trans st')⟩
def Ce (h:dG K κ (eF c d) σ H Q):nt (dG K κ c) (dG K κ d) σ H Q:=by
 obtain⟨ι,Z,G,b,Z',G',s,eq,k⟩:=h
 obtain⟨x,Z1,G1,e1,eq⟩:=cC eq
 refine⟨ι,Z,G,x,Z1,G1,s,e1,λι1 H1 s1 st=>?_⟩
 cases x with
 | true=>rw [if_pos rfl] at eq ⊢;exact dG.go (Q':=Q) s1 st eq k
 | false=>rw [if_neg z15] at eq ⊢;cases eq;exact k _ _ s1 st
def tu (h:dG K κ (kz c d) σ H Q):tOr (dG K κ c) (dG K κ d) σ H Q:=by
 obtain⟨ι,Z,G,b,Z',G',s,eq,k⟩:=h
 obtain⟨x,Z1,G1,e1,eq⟩:=cC eq
 refine⟨ι,Z,G,x,Z1,G1,s,e1,λι1 H1 s1 st=>?_⟩
 cases x with
 | true=>rw [if_pos rfl] at eq ⊢;cases eq;exact k _ _ s1 st
 | false=>rw [if_neg z15] at eq ⊢;exact dG.go (Q':=Q) s1 st eq k
abbrev ifE(c:Mo Bool)(fa fb:Mo Ev):Mo Ev:=bd c λb=>if b then fa else fb
inductive Fl where
 | nx (Z:De) (G:List M)|rt (x:Vl) (G:List M)|bk (Z:De) (G:List M)|ct (Z:De) (G:List M)
noncomputable abbrev SF:=De->List M->Option Fl
abbrev oq(K:W.Frag)(κ:Str->Addr)(ι fp:List Addr)(H:Hp)(D:Ends):Fl->Prop
 | .nx Z' G'=>∀σ' ι' H',SR K κ ι' H' σ' Z' G'->Step ι fp H ι' (own σ' Z'++ι') H'->D.nx σ' H'
 | .bk Z' G'=>∀σ' ι' H',SR K κ ι' H' σ' Z' G'->Step ι fp H ι' (own σ' Z'++ι') H'->D.bk σ' H'
 | .ct Z' G'=>∀σ' ι' H',SR K κ ι' H' σ' Z' G'->Step ι fp H ι' (own σ' Z'++ι') H'->D.ct σ' H'
 | .rt x G'=>∀v ι' H',SR K κ ι' H' [some v] [some x] G'->Step ι fp H ι' (own [some v] [some x]++ι') H'->D.rt v H'
abbrev dj(K:W.Frag)(κ:Str->Addr)(f:SF):TS:=λD σ H=>∃ι Z G fl,SR K κ ι H σ Z G/\f Z G=some fl/\oq K κ ι (own σ Z++ι) H D fl
def oq.step (st:Step ι fp H ι1 fq H1)(h:oq K κ ι fp H D fl):oq K κ ι1 fq H1 D fl:=by
 cases fl with
 | nx Z' G'=>exact λσ' ι' H' s t=>h σ' ι' H' s (st.trans t)
 | bk Z' G'=>exact λσ' ι' H' s t=>h σ' ι' H' s (st.trans t)
 | ct Z' G'=>exact λσ' ι' H' s t=>h σ' ι' H' s (st.trans t)
 | rt x G'=>exact λv ι' H' s t=>h v ι' H' s (st.trans t)
def dj.of (s:SR K κ ι1 H1 σ Z1 G1)(st:Step ι fp H ι1 (own σ Z1++ι1) H1)(eq:f Z1 G1=some fl)(k:oq K κ ι fp H D fl):dj K κ f D σ H1:=⟨ι1,Z1,G1,fl,s,eq,k.step st⟩
abbrev aM:SF:=λZ G=>some (.nx Z G)
abbrev ai(a b:SF):SF:=λZ G=>match a Z G with
 | some (.nx Z1 G1)=>b Z1 G1
 | r=>r
def Cf(h:dj K κ aM D σ H):ny D σ H:=by
 obtain⟨ι,Z,G,fl,s,eq,k⟩:=h
 cases eq
 exact k _ _ _ s (Step.refl _ _ _)
def Cg (h:dj K κ (ai a b) D σ H):ji (dj K κ a) (dj K κ b) D σ H:=by
 obtain⟨ι,Z,G,fl,s,eq,k⟩:=h
 unfold ai at eq
 split at eq
 ·rename_i Z1 G1 e1
  exact⟨ι,Z,G,_,s,e1,λσ' ι' H' s' t=>dj.of s' t eq k⟩
 ·rename_i r hn
  cases fl with
  | nx Z' G'=>exact absurd eq (hn Z' G')
  | bk Z' G'=>exact⟨ι,Z,G,_,s,eq,k⟩
  | ct Z' G'=>exact⟨ι,Z,G,_,s,eq,k⟩
  | rt x G'=>exact⟨ι,Z,G,_,s,eq,k⟩
abbrev aE(c:Mo Bool)(a b:SF):SF:=λZ G=>match c Z G with
 | some (true,Z1,G1)=>a Z1 G1
 | some (false,Z1,G1)=>b Z1 G1
 | none=>none
def tw (h:dj K κ (aE c a b) D σ H):kL (dG K κ c) (dj K κ a) (dj K κ b) D σ H:=by
 obtain⟨ι,Z,G,fl,s,eq,k⟩:=h
 unfold aE at eq
 split at eq
 ·rename_i Z1 G1 e1
  exact⟨ι,Z,G,true,Z1,G1,s,e1,λι' H' s' t=>by dsimp only;rw [if_pos rfl];exact dj.of s' t eq k⟩
 ·rename_i Z1 G1 e1
  exact⟨ι,Z,G,false,Z1,G1,s,e1,λι' H' s' t=>by dsimp only;rw [if_neg z15];exact dj.of s' t eq k⟩
 ·cases eq
abbrev cJ(f:Mo Ev):SF:=λZ G=>match f Z G with
 | some (_,Z1,G1)=>some (.nx Z1 G1)
 | none=>none
def Ci (h:dj K κ (cJ f) D σ H):nA (bE K κ f) D σ H:=by
 obtain⟨ι,Z,G,fl,s,eq,k⟩:=h
 unfold cJ at eq
 split at eq
 ·rename_i e Z1 G1 e1
  cases eq
  refine⟨ι,Z,G,e,Z1,G1,s,e1,λv ι' H' a=>?_⟩
  obtain⟨p,q⟩:=a.drop
  exact k _ _ _ p q
 ·cases eq
def SR.last (h:SR K κ ι H (σ++[some v]) (Z++[some x]) G)(l:σ.length=Z.length):SR K κ ι H [some v] [some x] G/\∀a,a∈own [some v] [some x]++ι->a∈own (σ++[some v]) (Z++[some x])++ι:=by
 obtain⟨p,q⟩:=cy l h.sl
 refine⟨⟨q,h.gs,λa=>?_⟩,λa ha=>?_⟩
 ·have:=h.nd a
  rw [bQ _ _ l] at this
  simp only [bh,z20] at this ⊢
  lia
 ·rw [bQ _ _ l]
  simp only [z13] at ha ⊢
  rcases ha with ha|ha
  ·exact .inl (.inr ha)
  ·exact .inr ha
abbrev aC(f:Mo Ev):SF:=λZ G=>match iE f Z G with
 | some (.v x,_,G1)=>some (.rt x G1)
 | _=>none
def Cj (h:dj K κ (aC f) D σ H):qx (bE K κ f) D σ H:=by
 obtain⟨ι,Z,G,fl,s,eq,k⟩:=h
 unfold aC at eq
 split at eq
 ·rename_i x Z1 G1 e1
  cases eq
  refine tm ⟨ι,Z,G,_,Z1,G1,s,e1,λv ι' H' a=>?_⟩
  obtain⟨p,q⟩:=SR.last a.ar.sr a.ar.l
  exact k _ _ _ p (a.st.sub q)
 ·cases eq
abbrev Ck:SF:=λ_ G=>some (.rt (.im .non) G)
noncomputable abbrev GF:=Vl->De->List M->Option (De×List M)
abbrev lL(K:W.Frag)(κ:Str->Addr)(g:GF):TG:=λv σ H Q=>∃ι Z G x Z' G',σ.length=Z.length/\SR K κ ι H (σ++[some v]) (Z++[some x]) G/\g x Z G=some (Z',G') /\
 ∀σ' ι' H',SR K κ ι' H' σ' Z' G'->Step ι (own (σ++[some v]) (Z++[some x])++ι) H ι' (own σ' Z'++ι') H'->Q σ' H'
abbrev aB(i:Nat):GF:=λx Z G=>some (Z.set i (some x),G)
def ot (h:lL K κ (aB i) v σ H Q):ff i v σ H Q:=by
 obtain⟨ι,Z,G,x,Z',G',l,s,eq,k⟩:=h
 cases eq
 exact k _ _ _ (s.store l) ((Step.refl _ _ _).sub λa ha=>sY l ha)
abbrev jz:List Nat->List I->De->Option De
 | [],[],Z=>some Z
 | i::is,d::ds,Z=>jz is ds (Z.set i (some (.im d)))
 | _,_,_=>none
abbrev gP(is:List Nat):GF:=λx Z G=>match x with
 | .im (.tup ds)=>(jz is ds Z).map λZ'=>(Z',G)
 | _=>none
abbrev gQ(is:List Nat):mL:=is.foldr (λi t=>qC (ff i) t) qB
theorem tE:∀{is:List Nat} {ds:List I} {vs:List V} {σ:St} {Z Z':De} {Q:St->Hp->Prop},y56 K ι H vs ds->jz is ds Z=some Z'->SR K κ ι H σ Z G ->
  (∀σ',SR K κ ι H σ' Z' G->(∀a,a∈own σ' Z'->a∈own σ Z)->Q σ' H)->gQ is vs σ H Q
 | [],[],_,_,_,_,_,r,e,s,k=>by
  cases r;cases e
  exact⟨rfl,k _ s λ_ h=>h⟩
 | i::is,d::ds,_,σ,Z,Z',Q,.cons r rs,e,s,k=>by
  refine⟨_,_,rfl,?_⟩
  have s1:=(s.push_im r).store (i:=i) s.len
  refine tE rs e s1 λσ' s' sub=>k σ' s' λa ha=>?_
  have h1:=sub a ha
  have:a∈own (σ++[some _]) (Z++[some (.im d)])++[]:=sY s.len (List.mem_append_left _ h1)
  rw [du s.len,z10] at this
  exact this
 | [],_::_,_,_,_,_,_,_,e,_,_=>by cases e
 | _::_,[],_,_,_,_,_,_,e,_,_=>by cases e
theorem tF:∀{is:List Nat} {ds:List I} {Z Z':De},jz is ds Z=some Z'->ds.length=is.length
 | [],[],_,_,_=>rfl
 | i::is,d::ds,Z,_,e=>by rw [z11,z11,tF (ds:=ds) e]
 | [],_::_,_,_,e=>by cases e
 | _::_,[],_,_,e=>by cases e
def Cm (h:lL K κ (gP is) v σ H Q):kN K is.length (gQ is) v σ H Q:=by
 obtain⟨ι,Z,G,x,Z',G',l,s,eq,k⟩:=h
 unfold gP at eq
 split at eq
 ·rename_i ds
  cases q:jz is ds Z with
  | none=>rw [q] at eq;cases eq
  | some Z2 =>
   rw [q] at eq
   cases eq
   have r:=og (es:=[.v (.im (.tup ds))]) (vs:=[v]) (cy l s.sl).2 (j:=0) rfl rfl
   cases r with
   | im r =>
    obtain⟨_,_,rfl,h1,h2⟩:=jw r
    refine⟨_,_,rfl,bq.of h1,by rw [h2.len];exact tF q,tE h2 q (s.pop l) λσ' s' sub=>k _ _ _ s' ((Step.refl _ _ _).sub λa ha=>?_)⟩
    rw [du l]
    simp only [z13] at ha ⊢
    rcases ha with ha|ha
    ·exact .inl (sub a ha)
    ·exact .inr ha
 ·cases eq
abbrev aG(f:Mo Ev)(g:GF):SF:=λZ G=>match iE f Z G with
 | some (.v x,Z1,G1)=>match g x Z1 G1 with
  | some (Z2,G2)=>some (.nx Z2 G2)
  | none=>none
 | _=>none
def oy (h:dj K κ (aG f g) D σ H):fV (bE K κ f) (lL K κ g) D σ H:=by
 obtain⟨ι,Z,G,fl,s,eq,k⟩:=h
 unfold aG at eq
 split at eq
 ·rename_i x Z1 G1 e1
  split at eq
  ·rename_i Z2 G2 e2
   cases eq
   refine tm ⟨ι,Z,G,_,Z1,G1,s,e1,λv ι' H' a=>?_⟩
   exact⟨ι',Z1,G1,x,Z2,G2,a.ar.l,a.ar.sr,e2,λσ' ι2 H2 s2 st=>k _ _ _ s2 (a.st.trans st)⟩
  ·cases eq
 ·cases eq
end
end
section
section
abbrev gg(c:Mo Bool)(b:SF):Nat->SF
 | 0,_,_=>none
 | n+1,Z,G=>match c Z G with
  | some (true,Z1,G1)=>match b Z1 G1 with
   | some (.nx Z2 G2)=>gg c b n Z2 G2
   | some (.ct Z2 G2)=>gg c b n Z2 G2
   | some (.bk Z2 G2)=>some (.nx Z2 G2)
   | some (.rt x G2)=>some (.rt x G2)
   | none=>none
  | some (false,Z1,G1)=>some (.nx Z1 G1)
  | none=>none
theorem oz  : ∀{n:Nat} {Z:De} {G:List M} {fl:Fl},gg c b n Z G=some fl->gg c b (n+1) Z G=some fl
 | 0,_,_,_,h=>by cases h
 | n+1,Z,G,fl,h=>by
  unfold gg at h ⊢
  cases e:c Z G with
  | none=>rw [e] at h;cases h
  | some r =>
   obtain⟨t,Z1,G1⟩:=r
   rw [e] at h
   cases t with
   | false=>exact h
   | true =>
    cases e2:b Z1 G1 with
    | none=>dsimp only at h;rw [e2] at h;cases h
    | some fl2 =>
     dsimp only at h
     rw [e2] at h
     dsimp only
     rw [e2]
     cases fl2 with
     | nx Z2 G2=>exact oz h
     | ct Z2 G2=>exact oz h
     | bk Z2 G2=>exact h
     | rt x G2=>exact h
def tG   (h:gg c b n Z G=some fl)(l:n≤m):gg c b m Z G=some fl:=by
 induction l with
 | refl=>exact h
 | step _ ih=>exact oz ih
open Classical in
abbrev fQ(c:Mo Bool)(b:SF):SF:=λZ G=>if h:∃n fl,gg c b n Z G=some fl then some (choose (choose_spec h)) else none
def oB   (h:gg c b n Z G=some fl):fQ c b Z G=some fl:=by
 have ex:∃n fl,gg c b n Z G=some fl:=⟨n,fl,h⟩
 unfold fQ
 rw [dif_pos ex]
 have q:=Classical.choose_spec (Classical.choose_spec ex)
 have h1:=tG h (Nat.le_max_left n (Classical.choose ex))
 have h2:=tG q (Nat.le_max_right n (Classical.choose ex))
 rw [h1] at h2
 exact h2.symm
def oC  (h:fQ c b Z G=some fl):∃n,gg c b n Z G=some fl:=by
 unfold fQ at h
 split at h
 ·rename_i ex
  have q:=Classical.choose_spec (Classical.choose_spec ex)
  cases h
  exact⟨_,q⟩
 ·cases h
def oE  (h1:c Z G=some (true,Z1,G1))(h2:b Z1 G1=some (.nx Z2 G2)):fQ c b Z G=fQ c b Z2 G2:=by
 cases e:fQ c b Z2 G2 with
 | some fl =>
  obtain⟨n,hn⟩:=oC e
  refine oB (n:=n+1) ?_
  unfold gg
  rw [h1];dsimp only;rw [h2];exact hn
 | none =>
  cases e':fQ c b Z G with
  | none=>rfl
  | some fl =>
   obtain⟨n,hn⟩:=oC e'
   cases n with
   | zero=>cases hn
   | succ n =>
    unfold gg at hn
    rw [h1] at hn;dsimp only at hn;rw [h2] at hn
    have:=oB hn
    rw [e] at this;cases this
def lM  (h1:c Z G=some (false,Z1,G1)):fQ c b Z G=some (.nx Z1 G1):=by
 refine oB (n:=1) ?_
 unfold gg
 rw [h1]
def Cn (h:dj K κ (fQ c b) D σ H):qG (dG K κ c) (dj K κ b) D σ H:=by
 obtain⟨ι,Z,G,fl,s,eq,k⟩:=h
 obtain⟨n,hn⟩:=oC eq
 refine⟨λm σ' H'=>∃ι' Z' G',SR K κ ι' H' σ' Z' G'/\Step ι (own σ Z++ι) H ι' (own σ' Z'++ι') H'/\gg c b m Z' G'=some fl,⟨n,ι,Z,G,s,Step.refl _ _ _,hn⟩,?_⟩
 rintro m σ' H' ⟨ι',Z',G',s',st,e⟩
 cases m with
 | zero=>cases e
 | succ m =>
  unfold gg at e
  split at e
  ·rename_i Z1 G1 e1
   refine⟨ι',Z',G',true,Z1,G1,s',e1,λι1 H1 s1 st1=>?_⟩
   dsimp only
   rw [if_pos rfl]
   refine⟨λσ2 H2=>∃ι2 Z2 G2,SR K κ ι2 H2 σ2 Z2 G2/\Step ι (own σ Z++ι) H ι2 (own σ2 Z2++ι2) H2/\gg c b m Z2 G2=some fl,λσ2 H2 q=>⟨m,z35 _,q⟩,?_⟩
   split at e
   ·rename_i Z2 G2 e2
    exact⟨ι1,Z1,G1,_,s1,e2,λσ2 ι2 H2 s2 st2=>⟨ι2,Z2,G2,s2,(st.trans st1).trans st2,e⟩⟩
   ·rename_i Z2 G2 e2
    exact⟨ι1,Z1,G1,_,s1,e2,λσ2 ι2 H2 s2 st2=>⟨ι2,Z2,G2,s2,(st.trans st1).trans st2,e⟩⟩
   ·rename_i Z2 G2 e2
    cases e
    exact⟨ι1,Z1,G1,_,s1,e2,λσ2 ι2 H2 s2 st2=>k _ _ _ s2 ((st.trans st1).trans st2)⟩
   ·rename_i x G2 e2
    cases e
    exact⟨ι1,Z1,G1,_,s1,e2,λv ι2 H2 s2 st2=>k _ _ _ s2 ((st.trans st1).trans st2)⟩
   ·cases e
  ·rename_i Z1 G1 e1
   cases e
   refine⟨ι',Z',G',false,Z1,G1,s',e1,λι1 H1 s1 st1=>?_⟩
   dsimp only
   rw [if_neg z15]
   exact k _ _ _ s1 (st.trans st1)
  ·cases e
structure Wk where
 n:Nat
 at_:Nat->De->List M->Option I
 fin:De->List M->Bool
structure Walks(K:W.Frag)(κ:Str->Addr)(J:It)(τ:St)(θ:De)(w:Wk):Prop where
 go:∀{i:Nat} {d:I} {ι:List Addr} {H:Hp} {σ:St} {Z:De} {G:List M},i<w.n->w.at_ i Z G=some d->σ.length=Z.length->SR K κ ι H (σ++τ) (Z++θ) G->J.go i H/\∀x H',J.yld i H x H'->dU H H'/\RpI K ι H' x d
 stop:∀{ι:List Addr} {H:Hp} {σ:St} {Z:De} {G:List M},w.fin Z G=true->σ.length=Z.length->SR K κ ι H (σ++τ) (Z++θ) G->J.stop w.n H
abbrev aV(w:Wk)(g:GF)(b:SF):Nat->Nat->SF
 | i,0,Z,G=>if w.fin Z G then some (.nx Z G) else none
 | i,r+1,Z,G=>match w.at_ i Z G with
  | some d=>match g (.im d) Z G with
   | some (Z1,G1)=>match b Z1 G1 with
    | some (.nx Z2 G2)=>aV w g b (i+1) r Z2 G2
    | some (.ct Z2 G2)=>aV w g b (i+1) r Z2 G2
    | some (.bk Z2 G2)=>some (.nx Z2 G2)
    | some (.rt x G2)=>some (.rt x G2)
    | none=>none
   | none=>none
  | none=>none
noncomputable abbrev IF:=De->List M->Option (Wk×List Ev×De×List M)
abbrev mV(K:W.Frag)(κ:Str->Addr)(f:IF):TI:=λσ H R=>∃ι Z G w es Z' G',SR K κ ι H σ Z G/\f Z G=some (w,es,Z',G') /\
 ∀J vs ι' H',After K κ σ ι (own σ Z++ι) H es Z' G' vs ι' H'->Walks K κ J (tS es vs) (tD es) w->R J H'
abbrev bB(f:IF)(g:GF)(b:SF):SF:=λZ G=>match f Z G with
 | some (w,_,Z1,G1)=>aV w g b 0 w.n Z1 G1
 | none=>none
def Co  (h:dj K κ (bB f g b) D σ H):nF (mV K κ f) (lL K κ g) (dj K κ b) D σ H:=by
 obtain⟨ι,Z,G,fl,s,eq,k⟩:=h
 unfold bB at eq
 split at eq
 ·rename_i w es Z1 G1 e1
  refine⟨ι,Z,G,w,es,Z1,G1,s,e1,λJ vs ι1 H1 a wk=>?_⟩
  refine⟨λi m σ' H'=>i+m=w.n/\∃ι' Z' G',σ'.length=Z'.length/\SR K κ ι' H' (σ'++tS es vs) (Z'++tD es) G'/\Step ι (own σ Z++ι) H ι' (own (σ'++tS es vs) (Z'++tD es)++ι') H'/\aV w g b i m Z' G'=some fl,
   ⟨w.n,by lia,ι1,Z1,G1,a.ar.l,a.ar.sr,a.st,eq⟩,?_⟩
  rintro i m σ' H' ⟨him,ι',Z',G',l,s',st,e⟩
  have sub:∀a,a∈own σ' Z'++ι'->a∈own (σ'++tS es vs) (Z'++tD es)++ι':=λa ha=>cD l ha
  cases m with
  | zero =>
   have hi:i=w.n:=by lia
   subst hi
   unfold aV at e
   split at e
   ·rename_i hf
    cases e
    exact .inl ⟨wk.stop hf l s',k _ _ _ (s'.pop l) (st.sub sub)⟩
   ·cases e
  | succ m =>
   unfold aV at e
   split at e
   ·rename_i d hd
    obtain⟨go,yl⟩:=wk.go (by lia) hd l s'
    refine .inr ⟨go,λσ2 H2=>∃ι2 Z2 G2,σ2.length=Z2.length/\SR K κ ι2 H2 (σ2++tS es vs) (Z2++tD es) G2/\Step ι (own σ Z++ι) H ι2 (own (σ2++tS es vs) (Z2++tD es)++ι2) H2/\aV w g b (i+1) m Z2 G2=some fl,
     λσ2 H2 q=>⟨m,z35 _,by lia,q⟩,λx H3 hy=>?_⟩
    obtain⟨sm,rx⟩:=yl x H3 hy
    have s3:=s'.same sm
    have st3:=st.trans (Step.same sm)
    split at e
    ·rename_i Z4 G4 e4
     have p:=(s3.pop l).push_im rx
     refine⟨ι',Z',G',.im d,Z4,G4,l,p,e4,λσ4 ι4 H4 s4 st4=>?_⟩
     rw [du l] at st4
     have jn:∀{σ5:St} {Z5:De} {G5:List M} {ι5:List Addr} {H5:Hp},SR K κ ι5 H5 σ5 Z5 G5->Step ι4 (own σ4 Z4++ι4) H4 ι5 (own σ5 Z5++ι5) H5 ->
       SR K κ ι5 H5 (σ5++tS es vs) (Z5++tD es) G5/\Step ι (own σ Z++ι) H ι5 (own (σ5++tS es vs) (Z5++tD es)++ι5) H5:=λ{σ5 Z5 G5 ι5 H5} s5 st5=>by
      have j:=SR.join s3 l (by rw [z10,z10];exact s5) s5.len (by rw [z10,z10];exact st4.trans st5)
      rw [z10,z10] at j
      exact⟨j.1,st3.trans j.2⟩
     split at e
     ·rename_i Z5 G5 e5
      exact⟨ι4,Z4,G4,_,s4,e5,λσ5 ι5 H5 s5 st5=>⟨ι5,Z5,G5,s5.len,(jn s5 st5).1,(jn s5 st5).2,e⟩⟩
     ·rename_i Z5 G5 e5
      exact⟨ι4,Z4,G4,_,s4,e5,λσ5 ι5 H5 s5 st5=>⟨ι5,Z5,G5,s5.len,(jn s5 st5).1,(jn s5 st5).2,e⟩⟩
     ·rename_i Z5 G5 e5
      cases e
      exact⟨ι4,Z4,G4,_,s4,e5,λσ5 ι5 H5 s5 st5=>k _ _ _ s5 ((jn s5 st5).2.sub λa ha=>cD s5.len ha)⟩
     ·rename_i x5 G5 e5
      cases e
      refine⟨ι4,Z4,G4,_,s4,e5,λv ι5 H5 s5 st5=>k _ _ _ s5 ((jn s5 st5).2.sub λa ha=>cD s5.len ha)⟩
     ·cases e
    ·cases e
   ·cases e
 ·cases eq
end
end
section
section
def tH(l:σ.length=Z.length)(l2:τ.length=θ.length):bh a (own (τ++σ) (θ++Z))=bh a (own (σ++τ) (Z++θ)):=by
 rw [bQ _ _ l,bQ _ _ l2]
 simp only [bh,z20]
 lia
def SR.swap(h:SR K κ ι H (σ++τ) (Z++θ) G)(l:σ.length=Z.length):SR K κ ι H (τ++σ) (θ++Z) G:=by
 obtain⟨p,q⟩:=cy l h.sl
 exact⟨dq q p,h.gs,λa=>by rw [tH l (Paired.length q)];exact h.nd a⟩
def iF (l:σ.length=Z.length)(l2:τ.length=θ.length)(h:a∈own (τ++σ) (θ++Z)++l1):a∈own (σ++τ) (Z++θ)++l1:=by
 simp only [z13] at h ⊢
 rcases h with h|h
 ·left;rw [gM] at h ⊢;rw [<- tH l l2];exact h
 ·exact .inr h
noncomputable abbrev FF:=List Vl->List M->Option (Vl×List M)
abbrev aT(K:W.Frag)(κ:Str->Addr)(n:Nat)(fn:FF):Sp:=λvs H Q _=>∃ι xs G x G',xs.length=n/\SR K κ ι H (vs.map some) (xs.map some) G/\fn xs G=some (x,G') /\
 ∀v ι' H',SR K κ ι' H' [some v] [some x] G'->Step ι (own (vs.map some) (xs.map some)++ι) H ι' (own [some v] [some x]++ι') H'->Q v H'
abbrev mW:List Ev->Option (List Vl)
 | []=>some []
 | .v x::es=>(mW es).map (x::·)
 | .s _::_=>none
abbrev ax(n:Nat)(fn:FF):List Ev->Mo Ev:=λes Z G=>match mW es with
 | some xs=>if xs.length=n then match fn xs G with
  | some (x,G')=>some (.v x,Z,G')
  | none=>none
  else none
 | none=>none
theorem oF:∀{es:List Ev} {vs:List V} {xs:List Vl},mW es=some xs->es.length=vs.length->tS es vs=vs.map some/\tD es=xs.map some
 | [],[],_,h,_=>by cases h;exact⟨rfl,rfl⟩
 | [],_::_,_,_,l=>by cases l
 | _::_,[],_,_,l=>by cases l
 | .s i::_,_::_,_,h,_=>by cases h
 | .v x::es,v::vs,xs,h,l=>by
  have h:(mW es).map (x::·)=some xs:=h
  cases e:mW es with
  | none=>rw [e] at h;cases h
  | some ys =>
   rw [e] at h;cases h
   obtain⟨p,q⟩:=oF e (by simpa using l)
   exact⟨by show some v::tS es vs=_;rw [p];rfl,by show some x::tD es=_;rw [q];rfl⟩
def Cp  : aD K κ (λvs H Q=>aT K κ n fn vs H Q E) (ax n fn):=by
 intro ι H σ Z G es vs e Z' G' Q a h k
 unfold ax at h
 split at h
 ·rename_i xs hx
  split at h
  ·rename_i hl
   split at h
   ·rename_i x G1 e1
    cases h
    obtain⟨t1,t2⟩:=oF hx a.len
    have sr:=a.sr
    rw [t1,t2] at sr k
    have sw:=sr.swap a.l
    have lt:(vs.map some).length=(xs.map some).length:=Paired.length (cy a.l sr.sl).2
    refine⟨ι,xs,G,x,_,hl,sw.pop lt,e1,λv ι' H' s st=>?_⟩
    have s':SR K κ ι' H' ([some v]++[]) ([some x]++[]) _:=s
    obtain⟨j1,j2⟩:=SR.join sw lt s' rfl st
    rw [z10,z10] at j1 j2
    refine k v ι' H' ⟨⟨a.l,j1.swap rfl,.cons (λ_ h=>by cases h) .nil⟩,(j2.wide λy hy=>iF a.l lt hy).sub λy hy=>?_⟩
    exact iF rfl a.l hy
   ·cases h
  ·cases h
 ·cases h
abbrev aQ(n r:Nat)(body:SF):FF:=λxs G=>if xs.length=n then match body (xs.map some++List.replicate r none) G with
 | some (.rt x G')=>some (x,G')
 | some (.nx _ G')=>some (.im .non,G')
 | _=>none
 else none
theorem tJ:∀(r:Nat),Paired (RpE K κ ι H) (List.replicate r none) (List.replicate r none)
 | 0=>.nil
 | r+1=>.cons (.no _) (tJ r)
theorem tK:∀(r:Nat),own (List.replicate r none) (List.replicate r none)=[]
 | 0=>rfl
 | r+1=>tK r
def SR.y23e(h:SR K κ ι H σ Z G)(r:Nat):SR K κ ι H (σ++List.replicate r none) (Z++List.replicate r none) G/\own (σ++List.replicate r none) (Z++List.replicate r none)=own σ Z:=by
 have e:own (σ++List.replicate r none) (Z++List.replicate r none)=own σ Z:=by rw [bQ _ _ h.len,tK,z10]
 exact⟨⟨dq h.sl (tJ r),h.gs,λa=>by rw [e];exact h.nd a⟩,e⟩
def tL  (h:aT K κ n (aQ n r body) vs H Q E):vs.length=n/\dj K κ body { nx:=λ_ H'=>Q .non H',rt:=Q } (vs.map some++List.replicate r none) H:=by
 obtain⟨ι,xs,G,x,G',hl,s,eq,k⟩:=h
 have lv:vs.length=n:=by have:=s.len;rw [z12,z12] at this;lia
 refine⟨lv,?_⟩
 unfold aQ at eq
 rw [if_pos hl] at eq
 obtain⟨s0,e0⟩:=s.y23e r
 split at eq
 ·rename_i x' G1 e1
  cases eq
  refine⟨ι,_,G,_,s0,e1,?_⟩
  rw [e0]
  exact λv ι' H' s' st=>k v ι' H' s' st
 ·rename_i Z1 G1 e1
  cases eq
  refine⟨ι,_,G,_,s0,e1,?_⟩
  rw [e0]
  intro σ' ι' H' s' st
  obtain⟨p,q⟩:=SR.last (s'.push_im .non) s'.len
  refine k _ _ _ p (st.sub λa ha=>?_)
  have:=q a ha
  rw [du s'.len] at this
  exact this
 ·cases eq
abbrev yU(K:W.Frag)(κ:Str->Addr)(r:List V->Hp->(It->Hp->Prop)->Prop)(p:List Ev->De->List M->Option Wk):Prop :=
 ∀(ι:List Addr) (H:Hp) (σ:St) (Z:De) (G:List M) (es:List Ev) (vs:List V) (w:Wk) (R:It->Hp->Prop),Args K κ ι H σ Z G es vs->p es Z G=some w ->
  (∀J,Walks K κ J (tS es vs) (tD es) w->R J H)->r vs H R
abbrev bF(fa:Mo (List Ev))(p:List Ev->De->List M->Option Wk):IF:=λZ G=>match fa Z G with
 | some (es,Z1,G1)=>(p es Z1 G1).map λw=>(w,es,Z1,G1)
 | none=>none
def oG  (hp:yU K κ r p)(h:mV K κ (bF fa p) σ H R):gb K κ fa σ H λvs H1=>r vs H1 R:=by
 obtain⟨ι,Z,G,w,es,Z',G',s,eq,k⟩:=h
 unfold bF at eq
 split at eq
 ·rename_i es1 Z1 G1 e1
  cases q:p es1 Z1 G1 with
  | none=>rw [q] at eq;cases eq
  | some w' =>
   rw [q] at eq
   cases eq
   exact⟨ι,Z,G,_,_,_,s,e1,λvs ι1 H1 a=>hp _ _ _ _ _ _ _ _ _ a.ar q λJ wk=>k J vs ι1 H1 a wk⟩
 ·cases eq
abbrev one(f:Mo Ev):Mo (List Ev):=bd f λe=>rt [e]
def tM (h:gb K κ (one f) σ H λvs H1=>∃v,vs=[v]/\Q v H1):bE K κ f σ H Q:=by
 obtain⟨ι,Z,G,es,Z',G',s,eq,k⟩:=h
 obtain⟨x,Z1,G1,e1,eq⟩:=cC eq
 cases eq
 refine⟨ι,Z,G,x,_,_,s,e1,λv ι1 H1 a=>?_⟩
 obtain⟨v',e',q⟩:=k _ _ _ a
 cases e'
 exact q
abbrev cZ:List Ev->De->List M->Option Wk:=λes _ _=>match es with
 | [.v (.im (.int j))]=>if j<2 ^ 62/\-(2 ^ 62)≤j then some ⟨j.toNat,λi _ _=>some (.int i),λ_ _=>true⟩ else none
 | _=>none
def Cq   : Walks K κ (qH lo n) τ θ ⟨n,λi _ _=>some (.int (lo+i)),λ_ _=>true⟩ where
 go:=λhi hd _ _=>by
  cases hd
  refine⟨hi,λx H' y=>?_⟩
  obtain⟨e1,e2⟩:=y
  subst e1;subst e2
  exact⟨(λ_ _ h=>h),.int _⟩
 stop:=λ_ _ _=>ze _
def Cr:yU K κ (λvs H R=>∃j:Int,vs=[.int j]/\-(2 ^ 62)≤j/\j<2 ^ 62/\R (qH 0 j.toNat) H) cZ:=by
 intro ι H σ Z G es vs w R a h k
 unfold cZ at h
 split at h
 ·rename_i j
  split at h
  ·rename_i hj
   cases h
   obtain⟨v,rfl⟩:=cq a.len
   have r:=a.im (j:=0) rfl rfl
   cases dW (r)
   refine⟨j,rfl,hj.2,hj.1,k _ ?_⟩
   have:=Cq (K:=K) (κ:=κ) (lo:=0) (n:=j.toNat) (τ:=tS [.v (.im (.int j))] [.int j]) (θ:=tD [.v (.im (.int j))])
   simpa using this
  ·cases h
 ·cases h
abbrev a6(e:Ev)(n:Nat):Wk:=⟨n,λi Z G=>(sq Z G e).bind (·[i]?),λZ G=>match sq Z G e with|some xs=>decide (xs.length≤n)|none=>false⟩
abbrev oH(Z:De)(G:List M):Ev->Bool
 | .v (.im (.fro _))=>true
 | .v (.im (.ref _))=>true
 | .v (.ow (.lst _))=>true
 | _=>false
abbrev tN:List Ev->De->List M->Option Wk:=λes Z G=>match es with
 | [e]=>if oH Z G e then (sq Z G e).map λxs=>a6 e xs.length else none
 | _=>none
abbrev Cs:List Ev->De->List M->Option Wk:=λes Z G=>match es with
 | [.v (.im (.tup xs))]=>some (a6 (.v (.im (.tup xs))) xs.length)
 | [.v (.im (.con xs))]=>some (a6 (.v (.im (.con xs))) xs.length)
 | _=>none
def yV (he:e=.v x)(l:σ.length=Z.length)(h:SR K κ ι H (σ++tS [e] [v]) (Z++tD [e]) G):Args K κ ι H σ Z G [e] [v]:=⟨l,h,.cons (λi q=>by rw [he] at q;cases q) .nil⟩
def oI (a:Args K κ ι H σ Z G [e] [v])(hl:oH Z G e=true)(h:sq Z G e=some xs):∃b ys,v=.ref b/\bL K H b ys/\y56 K ι H ys xs:=by
 cases e with
 | s i=>cases hl
 | v x =>
  cases x with
  | ow m =>
   cases m with
   | lst ys =>
    cases h
    obtain⟨b,e1,zs,h3,r⟩:=a.pk (j:=0) rfl rfl rfl
    exact⟨b,zs,e1,bL.of h3,r⟩
   | _=>cases hl
  | im d =>
   cases d with
   | fro ys =>
    cases h
    have r:=a.im (j:=0) rfl rfl
    obtain⟨_,_,rfl,q,r9⟩:=sT r
    exact⟨_,_,rfl,q.sq,r9⟩
   | ref k =>
    have h:(match pk Z G (.v (.im (.ref k))) with|some (.lst xs)=>some xs|_=>none)=some xs:=h
    split at h
    ·rename_i ys e1
     cases h
     obtain⟨b,e1,zs,h3,r⟩:=a.pk (j:=0) rfl rfl e1
     exact⟨b,zs,e1,bL.of h3,r⟩
    ·cases h
   | _=>cases hl
def tO(h:oH Z G e=true):∃x,e=.v x:=by
 cases e with
 | v x=>exact⟨x,rfl⟩
 | s i=>cases h
def tP(h:oH Z G e=true):oH Z1 G1 e=true:=by
 cases e with
 | s i=>cases h
 | v x =>
  cases x with
  | ow m=>cases m<;>first|rfl|cases h
  | im d=>cases d<;>first|rfl|cases h
def Ct (hl:oH Z G e=true):Walks K κ (yL K b) (tS [e] [.ref b]) (tD [e]) (a6 e n) where
 go:=λ{i d ι H σ Z' G'} hi hd l s=>by
  obtain⟨x,hx⟩:=tO hl
  have hd:(sq Z' G' e).bind (·[i]?)=some d:=hd
  cases q:sq Z' G' e with
  | none=>rw [q] at hd;cases hd
  | some xs =>
   rw [q] at hd
   obtain⟨b',ys,e1,h1,r⟩:=oI (yV hx l s) (tP hl) q
   cases e1
   obtain⟨v,hv,rv⟩:=r.get hd
   refine⟨⟨ys,v,h1,hv⟩,λx H' y=>?_⟩
   obtain⟨e2,e3⟩:=y
   subst e2
   have:=e3 ys h1
   rw [hv] at this;cases this
   exact⟨(λ_ _ h=>h),rv⟩
 stop:=λ{ι H σ Z' G'} hf l s=>by
  obtain⟨x,hx⟩:=tO hl
  have hf:(match sq Z' G' e with|some xs=>decide (xs.length≤n)|none=>false)=true:=hf
  cases q:sq Z' G' e with
  | none=>rw [q] at hf;cases hf
  | some xs =>
   rw [q] at hf
   obtain⟨b',ys,e1,h1,r⟩:=oI (yV hx l s) (tP hl) q
   cases e1
   exact⟨ys,h1,by rw [r.len];exact of_decide_eq_true hf⟩
def Cu:yU K κ (λvs H R=>∃v,vs=[v]/\∃a,v=.ref a/\(∃xs,bL K H a xs)/\R (yL K a) H) tN:=by
 intro ι H σ Z G es vs w R a h k
 unfold tN at h
 split at h
 ·rename_i e
  split at h
  ·rename_i hl
   cases q:sq Z G e with
   | none=>rw [q] at h;cases h
   | some xs =>
    rw [q] at h
    cases h
    obtain⟨v,rfl⟩:=cq a.len
    obtain⟨b,ys,e1,h1,r⟩:=oI a hl q
    subst e1
    exact⟨_,rfl,b,rfl,⟨ys,h1⟩,k _ (Ct hl)⟩
  ·cases h
 ·cases h
def Cw:yU K κ (λvs H R=>∃v,vs=[v]/\∃a,v=.ref a/\(∃xs,bq K H a xs)/\R (yM K a) H) Cs:=by
 intro ι H σ Z G es vs w R a h k
 unfold Cs at h
 have go:∀{x:I} {xs:List I},(x=.tup xs∨x=.con xs)->Args K κ ι H σ Z G [.v (.im x)] vs->sq Z G (.v (.im x))=some xs->(∀J,Walks K κ J (tS [.v (.im x)] vs) (tD [.v (.im x)]) (a6 (.v (.im x)) xs.length)->R J H) ->
   ∃v,vs=[v]/\∃a,v=.ref a/\(∃xs,bq K H a xs)/\R (yM K a) H:=λ{x xs} hx a hq k=>by
  have tv:∀{ι:List Addr} {H:Hp} {v:V},RpI K ι H v x->∃b ys,v=.ref b/\bq K H b ys/\y56 K ι H ys xs:=λr=>by
   rcases hx with rfl|rfl
   ·obtain⟨_,_,rfl,h,r9⟩:=jw r
    exact⟨_,_,rfl,bq.of h,r9⟩
   ·obtain⟨_,_,rfl,h,r9⟩:=sS r
    exact⟨_,_,rfl,bq.kon h,r9⟩
  have sx:∀(Z:De) (G:List M),sq Z G (.v (.im x))=some xs:=λZ G=>by rcases hx with rfl|rfl<;>rfl
  obtain⟨v,rfl⟩:=cq a.len
  obtain⟨b,ys,e1,h1,r⟩:=tv (a.im (j:=0) rfl rfl)
  subst e1
  refine⟨_,rfl,b,rfl,⟨ys,h1⟩,k _ ⟨λ{i d ι' H' σ' Z' G'} hi hd l s=>?_,λ{ι' H' σ' Z' G'} hf l s=>?_⟩⟩
  ·obtain⟨b',zs,e2,h2,r2⟩:=tv ((yV rfl l s).im (j:=0) rfl rfl)
   cases e2
   have hd:(sq Z' G' (.v (.im x))).bind (·[i]?)=some d:=hd
   rw [sx] at hd
   have hd:xs[i]?=some d:=hd
   obtain⟨v,hv,rv⟩:=r2.get hd
   refine⟨⟨zs,v,h2,hv⟩,λx H' y=>?_⟩
   obtain⟨e2,e3⟩:=y
   subst e2
   have:=e3 zs h2
   rw [hv] at this;cases this
   exact⟨(λ_ _ h=>h),rv⟩
  ·obtain⟨b',zs,e2,h2,r2⟩:=tv ((yV rfl l s).im (j:=0) rfl rfl)
   cases e2
   exact⟨zs,h2,by rw [r2.len];exact ze _⟩
 split at h
 ·cases h
  exact go (.inl rfl) a rfl k
 ·cases h
  exact go (.inr rfl) a rfl k
 ·cases h
end
end
section
section
abbrev iG:List Nat->Mo Unit
 | []=>rt ()
 | i::is=>λZ G=>match Z[i]? with
  | some (some (.ow m))=>iG is (Z.set i (some (.im (.ref G.length)))) (G++[m])
  | _=>iG is Z G
theorem Cy:∀{ix:List Nat} {Z Z':De} {G G':List M} {ι:List Addr} {u:Unit},iG ix Z G=some (u,Z',G')->SR K κ ι H σ Z G->∃ι',SR K κ ι' H σ Z' G'/\Step ι (own σ Z++ι) H ι' (own σ Z'++ι') H
 | [],_,_,_,_,ι,_,h,s=>by cases h;exact⟨ι,s,Step.refl _ _ _⟩
 | i::is,Z,Z',G,G',ι,u,h,s=>by
  unfold iG at h
  split at h
  ·rename_i m hm
   obtain⟨a,e1,r⟩:=s.y15e hm
   have n:=After.nil s
   have a1:After K κ σ ι (own σ Z++ι) H [.s i] Z G [.ref a] ι H:=⟨⟨s.len,n.ar.sr,.cons (λj h=>by cases h;exact e1) .nil⟩,n.st⟩
   have hb:oj (.s i) Z G=some (.v (.im (.ref G.length)),Z.set i (some (.im (.ref G.length))),G++[m]):=by unfold oj;dsimp only;rw [hm]
   obtain⟨ι2,a2⟩:=y63 a1 hb
   obtain⟨s2,st2⟩:=a2.drop
   obtain⟨ι3,s3,st3⟩:=Cy h s2
   exact⟨ι3,s3,st2.trans st3⟩
  ·exact Cy h s
abbrev lN(Z:De)(i:Nat):Option Vl:=match Z[i]? with
 | some (some (.im d))=>some (.im d)
 | _=>none
abbrev jA(ix:List Nat)(Z:De):De:=ix.map (lN Z)
abbrev inV(ix:List Nat)(σ:St):St:=ix.map λi=>(σ[i]?).getD none
theorem mX(h:SR K κ ι H σ Z G):∀(ix:List Nat),Paired (RpE K κ ι H) (inV ix σ) (jA ix Z)/\own (inV ix σ) (jA ix Z)=[]
 | []=>⟨.nil,rfl⟩
 | i::ix=>by
  obtain⟨p,q⟩:=mX h ix
  have one:RpE K κ ι H ((σ[i]?).getD none) (lN Z i)/\bA ((σ[i]?).getD none) (lN Z i)=[]:=by
   unfold lN
   split
   ·rename_i d hd
    obtain⟨v,e,r⟩:=h.y15d hd
    rw [e]
    exact⟨.im r,fZ _ _⟩
   ·exact⟨.no _,jx _⟩
  refine⟨.cons one.1 p,?_⟩
  show bA _ _++own (inV ix σ) (jA ix Z)=[]
  rw [one.2,q];rfl
theorem tQ:∀{xs:List V} {ds:List I},y56 K ι H xs ds->Paired (RpE K κ ι H) (xs.map some) (ds.map λd=>some (Vl.im d))/\own (xs.map some) (ds.map λd=>some (Vl.im d))=[]
 | _,_,.nil=>⟨.nil,rfl⟩
 | _,_,.cons r rs=>by
  obtain⟨p,q⟩:=tQ rs
  refine⟨.cons (.im r) p,?_⟩
  show bA _ _++own _ _=[]
  rw [fZ,q];rfl
abbrev dH(w:Wk)(c:I->Option (List I))(tt:Mo Bool)(te:Mo Ev)(di:De):Nat->Nat->List I->De->List M->Option (List I×List M)
 | i,0,acc,Z,G=>if w.fin Z G then some (acc,G) else none
 | i,r+1,acc,Z,G=>match w.at_ i Z G with
  | some d=>match c d with
   | some ds=>match tt ((ds.map λd=>some (Vl.im d))++di) G with
    | some (true,Za,Ga)=>match te Za Ga with
     | some (.v (.im y),_,Gb)=>dH w c tt te di (i+1) r (acc++[y]) Z Gb
     | _=>none
    | some (false,_,Ga)=>dH w c tt te di (i+1) r acc Z Ga
    | none=>none
   | none=>none
  | none=>none
abbrev Cz(K:W.Frag)(g:TG)(n:Nat)(c:I->Option (List I)):Prop:=∀(ι:List Addr) (H:Hp) (x:V) (d:I) (ds:List I) (σ':St) (Q:St->Hp->Prop),RpI K ι H x d->c d=some ds ->
 ds.length=n/\((∀xs,y56 K ι H xs ds->Q (xs.map some++σ') H)->g x (List.replicate n none++σ') H Q)
abbrev c1:I->Option (List I):=λd=>some [d]
abbrev cN(n:Nat):I->Option (List I):=λd=>match d with
 | .tup ds=>if ds.length=n then some ds else none
 | _=>none
def tR:Cz K (ff 0) 1 c1:=by
 intro ι H x d ds σ' Q r h
 cases h
 exact⟨rfl,λk=>k [x] (.cons r .nil)⟩
theorem tT:∀(vs:List V) (pre:St) (σ':St) (Q:St->Hp->Prop),Q (pre++(vs.map some++σ')) H->gQ ((List.range vs.length).map (pre.length + ·)) vs (pre++(List.replicate vs.length none++σ')) H Q
 | [],pre,σ',Q,h=>⟨rfl,h⟩
 | v::vs,pre,σ',Q,h=>by
  have e:(List.range (v::vs).length).map (pre.length + ·)=pre.length::(List.range vs.length).map ((pre++[some v]).length + ·):=by
   rw [z11,List.range_succ_eq_map,z16,z38]
   congr 1
   refine List.map_congr_left λj _=>?_
   simp
   lia
  rw [e]
  refine⟨v,vs,rfl,?_⟩
  show gQ _ vs ((pre++(List.replicate (vs.length+1) none++σ')).set pre.length (some v)) H Q
  have e2:(pre++(List.replicate (vs.length+1) none++σ')).set pre.length (some v)=(pre++[some v])++(List.replicate vs.length none++σ'):=by
   rw [List.set_append_right _ _ (ze _),Nat.sub_self,List.replicate_succ]
   simp
  rw [e2]
  refine tT vs (pre++[some v]) σ' Q ?_
  have e3:pre++[some v]++(vs.map some++σ')=pre++((v::vs).map some++σ'):=by simp
  rw [e3]
  exact h
def tU(n:Nat):Cz K (kN K n (gQ (List.range n))) n (cN n):=by
 intro ι H x d ds σ' Q r h
 unfold cN at h
 split at h
 ·rename_i xs
  split at h
  ·rename_i hl
   cases h
   refine⟨hl,λk=>?_⟩
   cases r with
   | @tup a ys _ h1 r =>
    have e:=r.len
    refine⟨a,ys,rfl,bq.of h1,by lia,?_⟩
    have q:=tT (H:=H) ys [] σ' Q (k ys r)
    have e1:(List.range ys.length).map (([]:St).length + ·)=List.range n:=by
     rw [e,hl];simp
    rw [e1] at q
    have e2:n=ys.length:=by lia
    rw [e2]
    rw [<- e2] at q ⊢
    exact q
  ·cases h
 ·cases h
abbrev dI(fi:IF)(ix:List Nat)(c:I->Option (List I))(tt:Mo Bool)(te:Mo Ev):Mo Ev:=λZ G=>match iG ix Z G with
 | some (_,Z0,G0)=>match fi Z0 G0 with
  | some (w,_,Z1,G1)=>if w.n≤100000 then match dH w c tt te (jA ix Z1) 0 w.n [] Z1 G1 with
   | some (ds,G2)=>some (.v (.ow (.lst ds)),Z1,G2)
   | none=>none
   else none
  | none=>none
 | none=>none
def CA:100000<sizeLine:=by decide
def oJ    (hg:∀z,Cz K (g z) n c)(h:bE K κ (dI fi ix c tt te) σ H Q) :
  nW n ix (mV K κ fi) g (λ_=>dG K κ tt) (λ_=>bE K κ te) σ H Q:=by
 obtain⟨ι,Z,G,e,Z',G',s,eq,k⟩:=h
 unfold dI at eq
 split at eq
 ·rename_i u Z0 G0 e0
  split at eq
  ·rename_i w es Z1 G1 e1
   split at eq
   ·rename_i hn
    split at eq
    ·rename_i ds G2 e2
     obtain⟨ι0,s0,st0⟩:=Cy e0 s
     refine⟨ι0,Z0,G0,w,es,Z1,G1,s0,e1,λJ vs ι1 H1 a wk=>?_⟩
     intro D hD
     have lo:(σ++tS es vs).length=(Z1++tD es).length:=by
      have:=a.ar.sr.len;exact this
     refine⟨λi m ys H'=>i+m=w.n/\H' D=some (.lst ys)/\∃ι' G' acc,SR K κ ι' H' ((σ++tS es vs)++[some (.ref D)]) ((Z1++tD es)++[some (.ow (.lst acc))]) G' /\
      Step ι (own σ Z++ι) H ι' (own ((σ++tS es vs)++[some (.ref D)]) ((Z1++tD es)++[some (.ow (.lst acc))])++ι') H'/\acc.length≤i/\acc.length=ys.length/\dH w c tt te (jA ix Z1) i m acc Z1 G'=some (ds,G2),⟨w.n,by lia,a8,ι1,G1,[],?_,?_,ze _,rfl,e2⟩,?_⟩
     ·exact a.ar.sr.y328 hD ⟨[],a8,.nil⟩
     ·exact (st0.trans a.st).trans (Step.y1dd lo hD)
     ·rintro i m ys H' ⟨him,hys,ι',G',acc,s',st,hac,hay,et⟩
      refine⟨hys,?_⟩
      have sb:=s'.pop lo
      cases m with
      | zero =>
       unfold dH at et
       split at et
       ·rename_i hf
        cases et
        have hi:i=w.n:=by lia
        subst hi
        refine .inl ⟨wk.stop hf a.ar.l sb,?_⟩
        have l1:=a.ar.l
        obtain⟨pa,pc⟩:=cy lo s'.sl
        obtain⟨pa,pb⟩:=cy l1 pa
        have lt:=Paired.length pb
        have e3:own ((σ++tS es vs)++[some (.ref D)]) ((Z1++tD es)++[some (.ow (.lst ds))])=own σ Z1++own (tS es vs) (tD es)++[D]:=by rw [fA lo,bQ _ _ l1]
        have e4:own (σ++[some (.ref D)]) (Z1++[some (.ow (.lst ds))])=own σ Z1++[D]:=fA l1
        refine k _ ι' H' (bY eq ⟨⟨l1,⟨dq pa pc,s'.gs,λx=>?_⟩,.cons (λ_ h=>by cases h) .nil⟩,st.sub λx hx=>?_⟩)
        ·have n':=s'.nd x
         rw [e3] at n'
         show bh x (own (σ++[some (.ref D)]) (Z1++[some (.ow (.lst ds))]))+bh x ι'≤1
         rw [e4]
         simp only [bh,z20] at n' ⊢
         lia
        ·have hx:x∈own (σ++[some (.ref D)]) (Z1++[some (.ow (.lst ds))])++ι':=hx
         rw [e4] at hx
         rw [e3]
         simp only [z13] at hx ⊢
         rcases hx with (hx|hx)|hx
         ·exact .inl (.inl (.inl hx))
         ·exact .inl (.inr hx)
         ·exact .inr hx
       ·cases et
      | succ m =>
       unfold dH at et
       split at et
       ·rename_i d hd
        obtain⟨go,yl⟩:=wk.go (by lia) hd a.ar.l sb
        refine .inr ⟨go,by have:=CA;lia,λys' H5=>i+1+m=w.n/\H5 D=some (.lst ys')/\∃ι5 G5 y5e,SR K κ ι5 H5 ((σ++tS es vs)++[some (.ref D)]) ((Z1++tD es)++[some (.ow (.lst y5e))]) G5 /\
         Step ι (own σ Z++ι) H ι5 (own ((σ++tS es vs)++[some (.ref D)]) ((Z1++tD es)++[some (.ow (.lst y5e))])++ι5) H5/\y5e.length≤i+1/\y5e.length=ys'.length/\dH w c tt te (jA ix Z1) (i+1) m y5e Z1 G5=some (ds,G2),λys' H5 q=>⟨m,z35 _,q⟩,λx H3 hy z=>?_⟩
        obtain⟨sm,rx⟩:=yl x H3 hy
        split at et
        ·rename_i dd hc
         obtain⟨hl,tg⟩:=hg z ι' H3 x d dd (inV ix σ) _ rx hc
         refine tg λxs rs=>?_
         have s3:=s'.same sm
         have st3:=st.trans (Step.same (ι:=ι') (fp:=own ((σ++tS es vs)++[some (.ref D)]) ((Z1++tD es)++[some (.ow (.lst acc))])++ι') sm)
         obtain⟨p1,o1⟩:=tQ (κ:=κ) rs
         obtain⟨p2,o2⟩:=mX ((s3.pop lo).pop a.ar.l) ix
         have lx:=Paired.length p1
         have oin:own (xs.map some++inV ix σ) (dd.map (λd=>some (Vl.im d))++jA ix Z1)=[]:=by rw [bQ _ _ lx,o1,o2];rfl
         have sin:SR K κ ι' H3 (xs.map some++inV ix σ) (dd.map (λd=>some (Vl.im d))++jA ix Z1) G':=⟨dq p1 p2,s3.gs,λy=>by
          rw [oin];have:=s3.nd y;simp only [bh,List.count_nil] at *;lia⟩
         have lin:=sin.len
         have both:SR K κ ι' H3 ((xs.map some++inV ix σ)++((σ++tS es vs)++[some (.ref D)])) ((dd.map (λd=>some (Vl.im d))++jA ix Z1)++((Z1++tD es)++[some (.ow (.lst acc))])) G':=⟨dq sin.sl s3.sl,s3.gs,λy=>by
          rw [bQ _ _ lin,oin];have:=s3.nd y;simpa using this⟩
         have kn:y4c n ix σ (xs.map some++inV ix σ):=by
          have lxs:xs.length=n:=by rw [z12,z12] at lx;lia
          refine⟨by rw [za,z12];unfold inV;rw [z12,lxs],λj v hj=>?_⟩
          unfold dk at hj
          by_cases hjn:j<n
          ·rw [z1a (by simpa using hjn),List.getElem?_replicate,if_pos hjn] at hj
           cases hj
          ·rw [z18 (by simp;lia)] at hj
           rw [z18 (by simp;lia)]
           simp only [List.length_replicate,z12,lxs] at hj ⊢
           exact hj
         refine⟨kn,?_⟩
         have jn:∀{σ5:St} {Z5:De} {θ5:De} {τ5:St} {G5:List M} {ι5:List Addr} {H5:Hp},σ5.length=Z5.length->SR K κ ι5 H5 (σ5++τ5) (Z5++θ5) G5->Step ι' (own (xs.map some++inV ix σ) (dd.map (λd=>some (Vl.im d))++jA ix Z1)++ι') H3 ι5 (own (σ5++τ5) (Z5++θ5)++ι5) H5 ->
           SR K κ ι5 H5 (((σ++tS es vs)++[some (.ref D)])++τ5) (((Z1++tD es)++[some (.ow (.lst acc))])++θ5) G5/\Step ι (own σ Z++ι) H ι5 (own (((σ++tS es vs)++[some (.ref D)])++τ5) (((Z1++tD es)++[some (.ow (.lst acc))])++θ5)++ι5) H5/\H5 D=some (.lst ys):=λ{σ5 Z5 θ5 τ5 G5 ι5 H5} l5 s5 st5=>by
          obtain⟨j1,j2⟩:=SR.join both lin s5 l5 st5
          have lT:((σ++tS es vs)++[some (V.ref D)]).length=((Z1++tD es)++[some (Vl.ow (.lst acc))]).length:=s3.len
          have lj:(((σ++tS es vs)++[some (V.ref D)])++τ5).length=(((Z1++tD es)++[some (Vl.ow (.lst acc))])++θ5).length:=by
           have:=j1.len;rw [za,za (as:=Z5)] at this;lia
          refine⟨(j1.swap l5).pop lj,?_,?_⟩
          ·refine (st3.trans (j2.wide λy hy=>?_)).sub λy hy=>?_
           ·rw [bQ _ _ lin,oin] at hy;exact hy
           ·exact iF (σ:=σ5) (Z:=Z5) l5 lj (cD lj hy)
          ·have q:=sm _ _ hys
           refine st5.keep D _ q λhm=>?_
           rw [oin] at hm
           have n':=s3.nd D
           rw [fA lo] at n'
           have:=gM.mp (show D∈ι' from hm)
           have c1:List.count D [D]=1:=by simp
           simp only [bh,z20] at *
           lia
         split at et
         ·rename_i Za Ga ea
          refine⟨ι',_,G',true,Za,Ga,sin,ea,λι4 H4 s4 st4=>?_⟩
          dsimp only
          rw [if_pos rfl]
          split at et
          ·rename_i y Zb Gb eb
           refine⟨ι4,Za,Ga,_,Zb,Gb,s4,eb,λyv ι5 H5 a5=>?_⟩
           obtain⟨j1,j2,j3⟩:=jn a5.ar.l a5.ar.sr (st4.trans a5.st)
           refine⟨j3,by lia,a8,ι5,Gb,acc++[y],?_⟩
           have ry:RpI K ι5 H5 yv y:=a5.ar.im (j:=0) rfl rfl
           have lT:((σ++tS es vs)++[some (V.ref D)]).length=((Z1++tD es)++[some (Vl.ow (.lst acc))]).length:=s3.len
           have s6:=j1.pop lT
           have i1:((σ++tS es vs)++[some (V.ref D)])[(σ++tS es vs).length]?=some (some (.ref D)):=by rw [z18 (ze _),Nat.sub_self];rfl
           have i2:((Z1++tD es)++[some (Vl.ow (.lst acc))])[(σ++tS es vs).length]?=some (some (.ow (.lst acc))):=by rw [lo,z18 (ze _),Nat.sub_self];rfl
           obtain⟨q1,q2⟩:=s6.poke i1 i2 (m':=.lst (acc++[y])) (o:=.lst (ys++[yv])) (λρ kp=>by
            obtain⟨zs,h1,h2⟩:=ρ
            rw [j3] at h1;cases h1
            exact⟨_,a8,(h2.app (.cons ry .nil)).mono (cb.refl _) kp⟩)
           have e5:((Z1++tD es)++[some (Vl.ow (.lst acc))]).set (σ++tS es vs).length (some (.ow (.lst (acc++[y]))))=(Z1++tD es)++[some (.ow (.lst (acc++[y])))]:=by rw [lo,List.set_append_right _ _ (ze _),Nat.sub_self];rfl
           rw [e5] at q1 q2
           refine⟨q1,(j2.sub λw hw=>cD lT hw).trans q2,by rw [za];simp;lia,by rw [za,za];simp;lia,et⟩
          ·cases et
         ·rename_i Za Ga ea
          refine⟨ι',_,G',false,Za,Ga,sin,ea,λι4 H4 s4 st4=>?_⟩
          dsimp only
          rw [if_neg z15]
          have s4':SR K κ ι4 H4 ((xs.map some++inV ix σ)++[]) (Za++[]) Ga:=by rw [z10,z10];exact s4
          obtain⟨j1,j2,j3⟩:=jn (τ5:=[]) (θ5:=[]) s4.len s4' (by rw [z10,z10];exact st4)
          rw [z10,z10] at j1 j2
          exact⟨by lia,j3,ι4,Ga,acc,j1,j2,by lia,hay,et⟩
         ·cases et
        ·cases et
       ·cases et
    ·cases eq
   ·cases eq
  ·cases eq
 ·cases eq
end
end
section
section
variable {κ:Str->Addr}
abbrev tV(f:Str)(d:I):List (Str×I)->List (Str×I)
 | []=>[(f,d)]
 | (g,x)::r=>if g=f then (g,d)::r else (g,x)::tV f d r
abbrev CB(c f:Str):List Ev->Mo Ev:=λes Z G=>match es with
 | [.v (.im (.ref k))]=>match G[k]? with
  | some (.obj c' fs)=>if c'=c then match fs.lookup f with
   | some d=>some (.v (.im d),Z,G)
   | none=>none
   else none
  | _=>none
 | _=>none
abbrev CC(c f:Str)(fo fv:Mo Ev):SF:=λZ G=>match fv Z G with
 | some (.v (.im d),Z1,G1)=>match fo Z1 G1 with
  | some (.v (.im (.ref k)),Z2,G2)=>match G2[k]? with
   | some (.obj c' fs)=>if c'=c/\fs.length<1000 then some (.nx Z2 (G2.set k (.obj c (tV f d fs)))) else none
   | _=>none
  | _=>none
 | _=>none
abbrev tW(c m:Str)(n:Nat)(fn:FF)(fo:Mo Ev)(fa:Mo (List Ev)):Mo Ev:=bd fo λe=>λZ G=>match e with
 | .v (.im (.ref k))=>match G[k]? with
  | some (.obj c' fs)=>if c'=c/\(fs.lookup m).isNone then bd fa (λes=>ax n fn (.v (.im (.ref k))::es)) Z G else none
  | _=>none
 | _=>none
abbrev tX(c:Str)(n:Nat)(fn:FF):List Ev->Mo Ev:=λes Z G=>match mW es with
 | some xs=>if xs.length+1=n then match fn (.im (.ref G.length)::xs) (G++[.obj c []]) with
  | some (.im .non,G')=>some (.v (.im (.ref G.length)),Z,G')
  | _=>none
  else none
 | none=>none
end
end
end B
namespace B
open PySem PySem.Spec PyProof.Rows L2
section
section
variable {X:Cx}{e:Expr}{es:List Expr}{st:Stmt}{sts:List Stmt}
def bt(h:PE X e t)(k:∀σ H Q,t' σ H Q->t σ H Q):PE X e t':=λpins s σ H Q I q=>h pins s σ H Q I (k σ H Q q)
def iH(h:PT X e t)(k:∀σ H Q,t' σ H Q->t σ H Q):PT X e t':=λpins s σ H Q I q=>h pins s σ H Q I (k σ H Q q)
def jB(h:PW X e t)(k:∀σ H Q,t' σ H Q->t σ H Q):PW X e t':=λw pins s σ H Q I q=>h w pins s σ H Q I (k σ H Q q)
def tY(h:PA X es t)(k:∀σ H Q,t' σ H Q->t σ H Q):PA X es t':=λpos pins s σ H Q I q=>h pos pins s σ H Q I (k σ H Q q)
def c6{t t':TS}(h:PS X st t)(k:∀D σ H,t' D σ H->t D σ H):PS X st t':=λpins s σ H D I q=>h pins s σ H D I (k D σ H q)
def lO(h:dR X sts t)(k:∀D σ H,t' D σ H->t D σ H):dR X sts t':=λpins s σ H D I q=>h pins s σ H D I (k D σ H q)
def tZ (h:PI X tg iter t)(k:∀σ H R,t' σ H R->t σ H R):PI X tg iter t':=λpins s σ H R I q=>h pins s σ H R I (k σ H R q)
def t4 (h:PG X tg t)(k:∀v σ H Q,t' v σ H Q->t v σ H Q):PG X tg t':=λpins s σ H v u Q I r q=>h pins s σ H v u Q I r (k v σ H Q q)
def jh(h:PE X e t)(h':PE X e t'):PE X e (λσ H Q=>t σ H Q∨t' σ H Q):=λpins s σ H Q I q=>q.elim (h pins s σ H Q I) (h' pins s σ H Q I)
def t5(h:PT X e t)(h':PT X e t'):PT X e (λσ H Q=>t σ H Q∨t' σ H Q):=λpins s σ H Q I q=>q.elim (h pins s σ H Q I) (h' pins s σ H Q I)
def t6{t t':TS}(h:PS X st t)(h':PS X st t'):PS X st (λD σ H=>t D σ H∨t' D σ H):=λpins s σ H D I q=>q.elim (h pins s σ H D I) (h' pins s σ H D I)
def t7 (h:PI X tg iter t)(h':PI X tg iter t'):PI X tg iter (λσ H R=>t σ H R∨t' σ H R):=λpins s σ H R I q=>q.elim (h pins s σ H R I) (h' pins s σ H R I)
end
section
variable {X:Cx}{κ:Str->Addr}{a b c:Expr}{fa fb fv:Mo Ev}{fc fd:Mo Bool}{fs:Mo (List Ev)}{es:List Expr}{pos:Pos}
@[irreducible] noncomputable def LE(X:Cx)(κ:Str->Addr)(e:Expr)(f:Mo Ev):Prop:=PE X e (bE X.K κ f)
def LE.mk  (h:PE X e (bE X.K κ f)):LE X κ e f:=by unfold LE;exact h
def LE.pe  (h:LE X κ e f):PE X e (bE X.K κ f):=by unfold LE at h;exact h
@[irreducible] noncomputable def LT(X:Cx)(κ:Str->Addr)(e:Expr)(f:Mo Bool):Prop:=PT X e (dG X.K κ f)
def LT.mk  (h:PT X e (dG X.K κ f)):LT X κ e f:=by unfold LT;exact h
def LT.pe  (h:LT X κ e f):PT X e (dG X.K κ f):=by unfold LT at h;exact h
@[irreducible] noncomputable def LW(X:Cx)(κ:Str->Addr)(e:Expr)(f:Mo Bool):Prop:=PW X e (dG X.K κ f)
def LW.mk  (h:PW X e (dG X.K κ f)):LW X κ e f:=by unfold LW;exact h
def LW.pe  (h:LW X κ e f):PW X e (dG X.K κ f):=by unfold LW at h;exact h
@[irreducible] noncomputable def LA(X:Cx)(κ:Str->Addr)(es:List Expr)(f:Mo (List Ev)):Prop:=PA X es (gb X.K κ f)
def LA.mk  (h:PA X es (gb X.K κ f)):LA X κ es f:=by unfold LA;exact h
def LA.pe  (h:LA X κ es f):PA X es (gb X.K κ f):=by unfold LA at h;exact h
@[irreducible] noncomputable def LS(X:Cx)(κ:Str->Addr)(s:Stmt)(f:SF):Prop:=PS X s (dj X.K κ f)
def LS.mk  (h:PS X s (dj X.K κ f)):LS X κ s f:=by unfold LS;exact h
def LS.pe  (h:LS X κ s f):PS X s (dj X.K κ f):=by unfold LS at h;exact h
@[irreducible] noncomputable def gD(X:Cx)(κ:Str->Addr)(s:List Stmt)(f:SF):Prop:=dR X s (dj X.K κ f)
def gD.mk  (h:dR X s (dj X.K κ f)):gD X κ s f:=by unfold gD;exact h
def gD.pe  (h:gD X κ s f):dR X s (dj X.K κ f):=by unfold gD at h;exact h
@[irreducible] noncomputable def LI(X:Cx)(κ:Str->Addr)(tg e:Expr)(f:IF):Prop:=PI X tg e (mV X.K κ f)
def LI.mk  (h:PI X tg e (mV X.K κ f)):LI X κ tg e f:=by unfold LI;exact h
def LI.pe  (h:LI X κ tg e f):PI X tg e (mV X.K κ f):=by unfold LI at h;exact h
@[irreducible] noncomputable def LG(X:Cx)(κ:Str->Addr)(tg:Expr)(f:GF):Prop:=PG X tg (lL X.K κ f)
def LG.mk  (h:PG X tg (lL X.K κ f)):LG X κ tg f:=by unfold LG;exact h
def LG.pe  (h:LG X κ tg f):PG X tg (lL X.K κ f):=by unfold LG at h;exact h
def t8(i:Nat)(hN:‹X.N[i]?=some x›)(hv:yK X.env.scope x:=by first|exact Or.inl rfl|exact Or.inr (Or.inl rfl)|exact Or.inr (Or.inr rfl))(hd:(x == ("__debug__" : Str))=false:=by decide)
  (hcd:(x == ("__classdict__" : Str))=false:=by decide):LE X κ (.Name x pos) (aa i):=.mk (bt (ql hN hv hd hcd) λ_ _ _=>B8)
def t9{j pos}:LE X κ (.Constant (.int i) j pos) (ag (.int i)):=.mk (bt nr λ_ _ _=>lK λ_ _=>.int _)
def CD{j pos}:LE X κ (.Constant (.bool i) j pos) (ag (.bl i)):=.mk (bt qm λ_ _ _=>lK λ_ _=>.bl _)
def ua{j pos}:LE X κ (.Constant .none j pos) (ag .non):=.mk (bt qo λ_ _ _=>lK λ_ _=>.non)
def ub{j pos}:LE X κ (.Constant (.str x) j pos) (ag (.str x)):=.mk (bt je λ_ _ _=>lK λ_ _=>.str _)
def uc(h:LE X κ a fa):LE X κ a (aY fa):=.mk (bt h.pe λ_ _ _=>B9)
def ud:LA X κ [] ae:=.mk (tY eL λ_ _ _=>B6)
def y5d(h:LE X κ a fa)(r:LA X κ es fs)(hs:‹starEach (a::es) X.env=(false,eval a X.env)::starEach es X.env›):LA X κ (a::es) (af fa fs):=.mk (tY (ck h.pe r.pe hs) λ_ _ _=>B7)
def iI (ho:cf X (binaryOp op) r)(hp:aD X.K κ (r2 r) p)(ha:LE X κ a fa)(hb:LE X κ b fb):LE X κ (.BinOp a op b pos) (ah p fa fb):=.mk (bt (qM ho ha.pe hb.pe) λ_ _ _=>gN hp)
def CF (ho:yN X (unaryOp op) r)(hp:aD X.K κ (r1 r) p)(ha:LE X κ a fa):LE X κ (.UnaryOp op a pos) (cY p fa):=.mk (bt (nH ho ha.pe) λ_ _ _=>lH hp)
def CG (ho:cf X (compareOp op) r)(hp:aD X.K κ (r2 r) p)(ha:LE X κ a fa)(hb:LE X κ b fb)(hm:behindInMarks op b=false):LE X κ (.Compare a [op] [b] pos) (ah p fa fb):=.mk (bt (qU ho ha.pe hb.pe hm) λ_ _ _=>gN hp)
def jC (ho:cf X (compareOp op) r)(hp:aD X.K κ (r2 r) p)(ha:LE X κ a fa)(hb:LE X κ b fb)(hm:behindInMarks op b=false):LT X κ (.Compare a [op] [b] pos) (ao (ah p fa fb)):=.mk (iH (kP ho ha.pe hb.pe hm) λσ H Q h=>gN hp (jy h))
def ue{x1}(h:LA X κ es fs):LE X κ (.Tuple es x1 pos) (bd fs ay):=.mk (bt (jk h.pe) λ_ _ _ q=>gc Ca q)
def uf(h:LA X κ es fs):LE X κ (.List es pos) (bd fs aN):=.mk (bt (AJ h.pe) λ_ _ _ q=>gc Cb q)
def t_w(h:LW X κ a fc):LT X κ a fc:=.mk (h.pe.pt)
def CH(h:LT X κ a fc):LW X κ (.BoolOp .And [a] pos) fc:=.mk (ia h.pe)
def ug(h:LT X κ a fc):LW X κ (.BoolOp .Or [a] pos) fc:=.mk (nv h.pe)
def uh{aU:List Expr}(h:LT X κ a fc)(k:LW X κ (.BoolOp .And (b::aU) pos) fd):LW X κ (.BoolOp .And (a::b::aU) pos) (eF fc fd):=.mk (jB (jg h.pe k.pe) λ_ _ _=>Ce)
def uk{aU:List Expr}(h:LT X κ a fc)(k:LW X κ (.BoolOp .Or (b::aU) pos) fd):LW X κ (.BoolOp .Or (a::b::aU) pos) (kz fc fd):=.mk (jB (qu h.pe k.pe) λ_ _ _=>tu)
abbrev gh:Ev->Mo Bool:=λe Z G=>match e with
 | .v (.im .non)=>some (false,Z,G)
 | .v (.im (.bl b))=>some (b,Z,G)
 | .v (.im (.int i))=>some (i != 0,Z,G)
 | .v (.im (.str y))=>if y.length≤1000000 then some ((y.length:Int) != 0,Z,G) else none
 | e=>match pk Z G e with
  | some (.dic kvs)=>some (!kvs.isEmpty,Z,G)
  | _=>match sq Z G e with
   | some xs=>some (!xs.isEmpty,Z,G)
   | none=>none
def isE{K:W.Frag}{ι:List Addr}{H:Hp}{vs:List V}{xs:List I}(r:y56 K ι H vs xs):(!xs.isEmpty)=!vs.isEmpty:=by cases r<;>rfl
def CI{K:W.Frag}{e:Ev}{c:Bool}(a:Args K κ ι H σ Z G [e] [v])(h:gh e Z G=some (c,Z',G')):qW K v H c/\Z'=Z/\G'=G:=by
 have seqs:∀{xs:List I},sq Z G e=some xs->qW K v H (!xs.isEmpty):=λhx=>by
  obtain⟨b,ys,e2,h2,r⟩:=a.sq (j:=0) rfl rfl hx
  subst e2
  rw [isE r]
  rcases h2 with h2|h2
  ·exact .inl ⟨ys,h2,rfl⟩
  ·exact .inr (.inl ⟨ys,h2,rfl⟩)
 unfold gh at h
 split at h
 ·cases h;cases nZ (a.im (j:=0) rfl rfl);exact⟨rfl,rfl,rfl⟩
 ·cases h;cases lA (a.im (j:=0) rfl rfl);exact⟨rfl,rfl,rfl⟩
 ·cases h;cases dW (a.im (j:=0) rfl rfl);exact⟨rfl,rfl,rfl⟩
 ·split at h
  ·rename_i y hy
   cases h;cases fw (a.im (j:=0) rfl rfl)
   exact⟨⟨z1b hy (by decide),rfl⟩,rfl,rfl⟩
  ·cases h
 ·split at h
  ·rename_i kvs hp
   cases h
   obtain⟨b,e2,ws,h1,h2,h3⟩:=a.pk (j:=0) rfl rfl hp
   subst e2
   refine⟨.inr (.inr ⟨ws,h1,?_⟩),rfl,rfl⟩
   have:=congrArg List.length h2
   simp at this
   cases kvs<;>cases ws<;>simp_all
  ·split at h
   ·rename_i xs hx
    cases h
    exact⟨seqs hx,rfl,rfl⟩
   ·cases h
def CJ{K:W.Frag}{f:Mo Ev}{σ:L2.St}{H:Hp}{Q:Bool->Hp->Prop}(h:dG K κ (bd f gh) σ H Q):bE K κ f σ H λx H'=>∃k,qW K x H' k/\Q k H':=by
 obtain⟨ι,Z,G,t,Z',G',s,eq,k⟩:=h
 obtain⟨x,Z1,G1,e1,eq⟩:=cC eq
 refine⟨ι,Z,G,x,Z1,G1,s,e1,λv ι1 H1 a=>?_⟩
 obtain⟨p,q⟩:=a.drop
 obtain⟨h1,rfl,rfl⟩:=CI a.ar eq
 exact⟨_,h1,k _ _ p q⟩
def um(h:LE X κ a fa)(he:∀whole,isTrue a X.env whole=(do let v <- whole;standAt a.pos;holding [v] (truthy v)):=by intro _;rfl):LT X κ a (bd fa gh):=.mk (iH (AD h.pe he) λ_ _ _ q=>CJ q)
abbrev isP:List Ev->Mo Ev:=λes Z G=>match es with
 | [.v (.im .non)]=>some (.v (.im (.bl true)),Z,G)
 | [_]=>some (.v (.im (.bl false)),Z,G)
 | _=>none
def Args.nn{K:W.Frag}{ι:List Addr}{H:Hp}{σ:L2.St}{Z:De}{G:List M}{e:Ev}{v:V}(a:Args K κ ι H σ Z G [e] [v])(h:e≠.v (.im .non))(hs:∀i,e=.s i->∃m,Z[i]?=some (some (.ow m))):v≠.non:=by
 cases e with
 | s i =>
  obtain⟨m,hm⟩:=hs i rfl
  obtain⟨b,e1,r⟩:=a.base.y15e hm
  have al:=yT (j:=0) a.al rfl rfl
  rw [al] at e1;cases e1
  intro z;cases z
 | v x =>
  cases x with
  | ow m =>
   have r:=og (cy a.l a.sr.sl).2 (j:=0) rfl rfl
   cases r
   intro z;cases z
  | im d =>
   have r:=a.im (j:=0) rfl rfl
   cases r<;>first|exact absurd rfl h|(intro z;cases z)
abbrev lP(Z:De):Ev->Bool
 | .s i=>match Z[i]? with
  | some (some (.ow _))=>true
  | _=>false
 | _=>true
def uo (h:lP Z e=true):∀i,e=.s i->∃m,Z[i]?=some (some (.ow m)):=by
 intro i hi
 subst hi
 unfold lP at h
 dsimp only at h
 split at h
 ·rename_i m hm;exact⟨m,hm⟩
 ·cases h
abbrev kA(pos:Bool):List Ev->Mo Ev:=λes Z G=>match es with
 | [.v (.im .non)]=>some (.v (.im (.bl pos)),Z,G)
 | [e]=>if lP Z e then some (.v (.im (.bl (!pos))),Z,G) else none
 | _=>none
def CK{K:W.Frag}:aD K κ (r1 λx H1 Q=>Q (.bl (decide (x=.non))) H1) (kA true):=by
 intro ι H σ Z G es vs e Z' G' Q a h k
 unfold kA at h
 split at h
 ·obtain⟨v,rfl⟩:=cq a.len
  cases nZ (a.im (j:=0) rfl rfl)
  exact⟨_,rfl,k _ _ _ (bY h (br a (.bl _)))⟩
 ·rename_i e0 hne
  split at h
  ·rename_i hs
   obtain⟨v,rfl⟩:=cq a.len
   have n:=a.nn (λz=>hne (by rw [z])) (uo hs)
   refine⟨_,rfl,?_⟩
   dsimp only
   rw [decide_eq_false n]
   exact k _ _ _ (bY h (br a (.bl _)))
  ·cases h
 ·cases h
def CL{K:W.Frag}:aD K κ (r1 λx H1 Q=>Q (.bl (!decide (x=.non))) H1) (kA false):=by
 intro ι H σ Z G es vs e Z' G' Q a h k
 unfold kA at h
 split at h
 ·obtain⟨v,rfl⟩:=cq a.len
  cases nZ (a.im (j:=0) rfl rfl)
  exact⟨_,rfl,k _ _ _ (bY h (br a (.bl _)))⟩
 ·rename_i e0 hne
  split at h
  ·rename_i hs
   obtain⟨v,rfl⟩:=cq a.len
   have n:=a.nn (λz=>hne (by rw [z])) (uo hs)
   refine⟨_,rfl,?_⟩
   dsimp only
   rw [decide_eq_false n]
   exact k _ _ _ (bY h (br a (.bl _)))
  ·cases h
 ·cases h
def Iu{j pos'}(h:LE X κ a fa):LT X κ (.Compare a [.Is] [.Constant .none j pos'] pos) (ao (cY (kA true) fa)):=.mk (iH (kK (Aa h.pe)) λ_ _ _ q=>lH CK (jy q))
def uq{j pos'}(h:LE X κ a fa):LT X κ (.Compare a [.IsNot] [.Constant .none j pos'] pos) (ao (cY (kA false) fa)):=.mk (iH (kK (Ab h.pe)) λ_ _ _ q=>lH CL (jy q))
variable {s:Stmt}{ss ss2:List Stmt}{f g:SF}
def CM:gD X κ [] aM:=.mk (lO nz λ_ _ _=>Cf)
def CN(h:LS X κ s f):gD X κ [s] f:=.mk (fT h.pe)
def CO(h:LS X κ s f)(r:gD X κ ss g):gD X κ (s::ss) (ai f g):=.mk (lO (fS h.pe r.pe) λ_ _ _=>Cg)
def ur(h:LE X κ a fa):LS X κ (.Return (some a) pos) (aC fa):=.mk (c6 (qy h.pe) λ_ _ _=>Cj)
def CP(h:LE X κ a fa)(hs:‹swapsWith a none pos.line X.env=pure false›):LS X κ (.Expr a pos) (cJ fa):=.mk (c6 (nB h.pe hs) λ_ _ _=>Ci)
def CQ(hc:LT X κ c fc)(ha:gD X κ ss f)(hb:gD X κ ss2 g):LS X κ (.If c ss ss2 pos) (aE fc f g):=.mk (c6 (kM hc.pe ha.pe hb.pe) λ_ _ _=>tw)
def CS(hc:LT X κ c fc)(hb:gD X κ ss f)(hp:PassesOwn (model X.prog X.w) X.A X.env X.xe:=by exact PassesOwn.never):LS X κ (.While c ss [] pos) (fQ fc f):=.mk (c6 (Aj hp hc.pe hb.pe) λ_ _ _=>Cn)
def uu (hi:LI X κ tg it fi)(hg:LG X κ tg gf)(hb:gD X κ ss f)(hc:‹X.calm=true›)(hp:PassesOwn (model X.prog X.w) X.A X.env X.xe:=by exact PassesOwn.never)(hs:∀x,foldedSetIterable it X.env x=pure x:=by intro _;rfl):LS X κ (.For tg it ss [] pos) (bB fi gf f):=.mk (c6 (qL hp hc hi.pe hg.pe hb.pe hs) λ_ _ _=>Co)
def CT (hN:X.N.Nodup)(hi:‹X.N[i]?=some x›)(hx:nj X.env.scope x:=by first|exact Or.inl rfl|exact Or.inr rfl)(hf:X.fn x=true∨X.env.scope.names.lookup x=some .local:=by first|exact .inl rfl|exact .inr rfl|assumption):LG X κ (.Name x p) (aB i):=.mk (t4 (fU hN hi hx hf) λ_ _ _ _=>ot)
abbrev yW(X:Cx)(es:List Expr)(is:List Nat):Prop:=qz X es (gQ is)
def CU:yW X [] []:=qD
def g_r  (hN:X.N.Nodup)(r:yW X es is)(hi:‹X.N[i]?=some x›)(hx:nj X.env.scope x:=by first|exact Or.inl rfl|exact Or.inr rfl)(hf:X.fn x=true∨X.env.scope.names.lookup x=some .local:=by first|exact .inl rfl|exact .inr rfl|assumption)
  : yW X (.Name x p::es) (i::is):=nD (fU hN hi hx hf) r
end
end
section
section
variable {X:Cx}{K:W.Frag}{κ:Str->Addr}
abbrev bJ(f:Int->Int->Option I):List Ev->Mo Ev:=λes Z G=>match es with
 | [.v (.im (.int i)),.v (.im (.int j))]=>match f i j with
  | some d=>some (.v (.im d),Z,G)
  | none=>none
 | _=>none
def jD{C:Int->Int->Prop}{g:Int->Int->V}{f:Int->Int->Option I}(hf:∀i j d,f i j=some d->C i j/\∀ι H,RpI K ι H (g i j) d):aD K κ (r2 (rI C g)) (bJ f):=by
 intro ι H σ Z G es vs e Z' G' Q a h k
 unfold bJ at h
 split at h
 ·rename_i i j
  split at h
  ·rename_i d hd
   obtain⟨v,u,rfl⟩:=bO a.len
   cases dW (a.im (j:=0) rfl rfl)
   cases dW (a.im (j:=1) rfl rfl)
   obtain⟨c,r⟩:=hf i j d hd
   exact⟨_,_,rfl,i,j,rfl,rfl,c,k _ _ _ (bY h (br a (r ι H)))⟩
  ·cases h
 ·cases h
def iJ{g:Int->Int->V}{f:Int->Int->Option I}(hf:∀i j d,f i j=some d->∀ι H,RpI K ι H (g i j) d):aD K κ (r2 (i8 g)) (bJ f):=by
 intro ι H σ Z G es vs e Z' G' Q a h k
 obtain⟨x,y,e1,i,j,e2,e3,_,q⟩:=jD (λi j d hd=>⟨trivial,hf i j d hd⟩) ι H σ Z G es vs e Z' G' Q a h k
 exact⟨x,y,e1,i,j,e2,e3,q⟩
def aD.or{r r':R2}{p p':List Ev->Mo Ev}(h:aD K κ (r2 r) p)(h':aD K κ (r2 r') p'):aD K κ (r2 λx y H Q=>r x y H Q∨r' x y H Q) (λes Z G=>match p es Z G with|some z=>some z|none=>p' es Z G):=by
 intro ι H σ Z G es vs e Z' G' Q a hp k
 dsimp only at hp
 split at hp
 ·rename_i z hz
  cases hp
  obtain⟨x,y,e1,q⟩:=h ι H σ Z G es vs _ _ _ Q a hz k
  exact⟨x,y,e1,.inl q⟩
 ·obtain⟨x,y,e1,q⟩:=h' ι H σ Z G es vs _ _ _ Q a hp k
  exact⟨x,y,e1,.inr q⟩
abbrev bW(p p':List Ev->Mo Ev):List Ev->Mo Ev:=λes Z G=>match p es Z G with|some z=>some z|none=>p' es Z G
abbrev jE:List Ev->Mo Ev:=λes Z G=>match es with
 | [.v (.im (.str x)),.v (.im (.str y))]=>if x.length+y.length≤1000000 then some (.v (.im (.str (x++y))),Z,G) else none
 | _=>none
def CV:aD K κ (r2 λx y H Q=>∃i j,x=.str i/\y=.str j/\i.length+j.length≤sizeLine/\Q (.str (i++j)) H) jE:=by
 intro ι H σ Z G es vs e Z' G' Q a h k
 unfold jE at h
 split at h
 ·rename_i i j
  split at h
  ·rename_i hl
   obtain⟨v,u,rfl⟩:=bO a.len
   cases fw (a.im (j:=0) rfl rfl)
   cases fw (a.im (j:=1) rfl rfl)
   exact⟨_,_,rfl,i,j,rfl,rfl,z1b hl (by decide),k _ _ _ (bY h (br a (.str _)))⟩
  ·cases h
 ·cases h
abbrev lQ(K:W.Frag):R2:=λx y H Q=>∃a b xs ys,x=.ref a/\y=.ref b/\bq K H a xs/\bq K H b ys/\xs.length+ys.length≤sizeLine /\
 (xs=[]->Q (.ref b) H)/\(xs≠[]->ys=[]->Q (.ref a) H)/\(xs≠[]->ys≠[]->∀p,H p=none->Q (.ref p) (upd H p (.tup (xs++ys))))
def CW:cf X (binaryOp .Add) (lQ X.K):=by
 intro pins s σ H x y v u Q I rx ry h
 obtain⟨a,b,xs,ys,rfl,rfl,ha,hb,hz,q0,q1,q2⟩:=h
 by_cases hx:xs=[]
 ·cases rx
  cases ry
  obtain⟨its,r1,p1,_⟩:=I.tuple ha
  obtain⟨y1b8,r2,p2,_⟩:=I.tuple hb
  have hi:its=[]:=r1.y230.mpr hx
  obtain⟨⟨cls,dd,data,sl⟩,ho,hc,n,hd⟩:=id p1
  obtain⟨⟨cls2,dd2,data2,sl2⟩,ho2,hc2,n2,hd2⟩:=id p2
  simp only at hc hd hc2 hd2
  subst hc hd hc2 hd2
  exact concat_meets ⟨_,ho,rfl⟩ ⟨_,ho2,rfl⟩ noFill_tuple_add seq_tuple_add PySem.F.slot_tuple_add PySem.F.entry_tuple_add (PySem.F.args_tuple_add_2 _ _)
   (tuple_addW0 a b its.toArray y1b8.toArray n n2 dd dd2 sl sl2 (by simp [hi])) ⟨ho,ho2,⟨.ref b,H,I,rfl,q0 hx⟩⟩
 ·exact Bg pins s σ H _ _ v u Q I rx ry ⟨a,b,xs,ys,rfl,rfl,ha,hb,hx,hz,q1 hx,q2 hx⟩
abbrev mY:List Ev->Mo Ev:=λes Z G=>match es with
 | [.v (.im (.tup xs)),.v (.im (.tup ys))]=>if xs.length+ys.length≤1000000 then some (.v (.im (.tup (xs++ys))),Z,G) else none
 | _=>none
def CY:aD K κ (r2 (lQ K)) mY:=by
 intro ι H σ Z G es vs e Z' G' Q a h k
 unfold mY at h
 split at h
 ·rename_i xs ys
  split at h
  ·rename_i hl
   obtain⟨v,u,rfl⟩:=bO a.len
   have ra:=a.im (j:=0) rfl rfl
   have rb:=a.im (j:=1) rfl rfl
   cases ra with
   | @tup p vs1 _ h1 r1 =>
    cases rb with
    | @tup q vs2 _ h2 r2 =>
     have l1:=r1.len
     have l2:=r2.len
     refine⟨_,_,rfl,p,q,vs1,vs2,rfl,rfl,bq.of h1,bq.of h2,z1b (by lia) (show 1000000≤sizeLine by decide),λe=>?_,λ_ e=>?_,λ_ _ p' hp=>?_⟩
     ·subst e
      cases r1
      exact k _ _ _ (bY h (br a (.tup h2 r2)))
     ·subst e
      cases r2
      exact k _ _ _ (bY h (br a (by rw [z10];exact .tup h1 r1)))
     ·exact k _ _ _ (bY h (lI a hp (r1.app r2)))
  ·cases h
 ·cases h
abbrev oK:List Ev->Mo Ev:=λes Z G=>match es with
 | [a,b]=>match pk Z G a,pk Z G b with
  | some (.lst xs),some (.lst ys)=>if xs.length+ys.length≤1000000 then some (.v (.ow (.lst (xs++ys))),Z,G) else none
  | _,_=>none
 | _=>none
def CZ:aD K κ (r2 kZ) oK:=by
 intro ι H σ Z G es vs e Z' G' Q a h k
 unfold oK at h
 split at h
 ·rename_i x y
  split at h
  ·rename_i xs ys hx hy
   split at h
   ·rename_i hl
    obtain⟨v,u,rfl⟩:=bO a.len
    obtain⟨p,e1,vs1,h1,r1⟩:=a.pk (j:=0) rfl rfl hx
    obtain⟨q,e2,vs2,h2,r2⟩:=a.pk (j:=1) rfl rfl hy
    subst e1;subst e2
    have l1:=r1.len
    have l2:=r2.len
    exact⟨_,_,rfl,p,q,vs1,vs2,rfl,rfl,h1,h2,z1b (by lia) (show 1000000≤sizeLine by decide),λp' hp=>k _ _ _ (bY h (gO a hp (r1.app r2)))⟩
   ·cases h
  ·cases h
 ·cases h
abbrev oM:List Ev->Mo Ev:=bJ λi j=>some (.int (i+j))
abbrev bu:List Ev->Mo Ev:=bW oM (bW jE (bW mY oK))
def uv (hr:y54 k A):cf X (binaryOp .Add) (λx y H Q=>i8 (λi j=>.int (i+j)) x y H Q∨((∃i j,x=.str i/\y=.str j/\i.length+j.length≤sizeLine/\Q (.str (i++j)) H)∨(lQ X.K x y H Q∨kZ x y H Q))) :=
 Av.or (AE.or (CW.or Bz))
def uw:aD K κ (r2 λx y H Q=>i8 (λi j=>.int (i+j)) x y H Q∨((∃i j,x=.str i/\y=.str j/\i.length+j.length≤sizeLine/\Q (.str (i++j)) H)∨(lQ K x y H Q∨kZ x y H Q))) bu :=
 aD.or (iJ λi j d h ι H=>by cases h;exact .int _) (aD.or CV (aD.or CY CZ))
abbrev cL:List Ev->Mo Ev:=bJ λi j=>some (.int (i-j))
def ux (hr:y54 k A):cf X (binaryOp .Sub) (i8 λi j=>.int (i-j)):=Aw
def uy:aD K κ (r2 (i8 λi j=>.int (i-j))) cL:=iJ λi j d h ι H=>by cases h;exact .int _
abbrev oN:List Ev->Mo Ev:=bJ λi j=>if (-(2 ^ 64)<i/\i<2 ^ 64)∨(-(2 ^ 64)<j/\j<2 ^ 64) then some (.int (i*j)) else none
abbrev lR:List Ev->Mo Ev:=λes Z G=>match es with
 | [a,.v (.im (.int j))]=>match pk Z G a with
  | some (.lst xs)=>if 0≤j/\j≤1000/\xs.length≤1000 then some (.v (.ow (.lst (List.replicate j.toNat xs).flatten)),Z,G) else none
  | _=>none
 | _=>none
theorem y56.rep{ι:List Addr}{H:Hp}{vs:List V}{xs:List I}(r:y56 K ι H vs xs):∀n:Nat,y56 K ι H (List.replicate n vs).flatten (List.replicate n xs).flatten
 | 0=>.nil
 | n+1=>by rw [List.replicate_succ,List.replicate_succ,List.flatten_cons,List.flatten_cons];exact r.app (y56.rep r n)
def C5:aD K κ (r2 k6) lR:=by
 intro ι H σ Z G es vs e Z' G' Q a h k
 unfold lR at h
 split at h
 ·rename_i x j
  split at h
  ·rename_i xs hx
   split at h
   ·rename_i hl
    obtain⟨v,u,rfl⟩:=bO a.len
    obtain⟨p,e1,vs1,h1,r1⟩:=a.pk (j:=0) rfl rfl hx
    cases dW (a.im (j:=1) rfl rfl)
    subst e1
    have l1:=r1.len
    refine⟨_,_,rfl,p,j,vs1,rfl,rfl,h1,by lia,by lia,z1b (Nat.mul_le_mul (show vs1.length≤1000 by lia) (show j.toNat≤1000 by lia)) (show 1000*1000≤sizeLine by decide),λp' hp=>k _ _ _ (bY h (gO a hp (r1.rep _)))⟩
   ·cases h
  ·cases h
 ·cases h
abbrev lS:List Ev->Mo Ev:=λes Z G=>match es with
 | [.v (.im (.str z)),.v (.im (.int j))]=>if 0≤j/\j≤1000/\z.length≤1000 then some (.v (.im (.str (PySem.Txt.mul z j))),Z,G) else none
 | _=>none
abbrev oO:R2:=λx y H Q=>∃z n,x=.str z/\y=.int n/\MulOk z n/\Q (.str (PySem.Txt.mul z n)) H
def jF (h:0≤j/\j≤1000/\z.length≤1000):MulOk z j:=by
  obtain⟨h0,h1,h2⟩:=h
  have hb:(z.length:Int)*j≤1000*1000:=Int.mul_le_mul (by lia) h1 h0 (by lia)
  have hn:z.length*j.toNat≤1000*1000:=Nat.mul_le_mul h2 (by lia)
  refine⟨by simp only [Bool.or_eq_false_iff,decide_eq_false_iff_not];lia,λh3 _ h4=>?_,λ_ _=>?_⟩
  · have:=(Int.le_ediv_iff_mul_le (c:=j) (a:=(z.length:Int)) (b:=2 ^ 63-1) (by lia)).mpr (by lia)
    lia
  · exact decide_eq_false (by have:(1000*1000:Nat)≤sizeLine:=by decide
                              lia)
def C6:aD K κ (r2 oO) lS:=by
 intro ι H σ Z G es vs e Z' G' Q a h k
 unfold lS at h
 split at h
 ·rename_i z j
  split at h
  ·rename_i hl
   obtain⟨v,u,rfl⟩:=bO a.len
   cases fw (a.im (j:=0) rfl rfl)
   cases dW (a.im (j:=1) rfl rfl)
   exact⟨_,_,rfl,z,j,rfl,rfl,jF hl,k _ _ _ (bY h (br a (.str _)))⟩
  ·cases h
 ·cases h
abbrev c7:List Ev->Mo Ev:=bW oN (bW lR lS)
def uz (hr:y54 k A):cf X (binaryOp .Mult) (λx y H Q=>rI y4 (λi j=>.int (i*j)) x y H Q∨(k6 x y H Q∨oO x y H Q)):=Ax.or (BA.or BO)
def uA:aD K κ (r2 λx y H Q=>rI y4 (λi j=>.int (i*j)) x y H Q∨(k6 x y H Q∨oO x y H Q)) c7:=aD.or (jD λi j d h=>by
 split at h
 ·rename_i c;cases h;exact⟨c,λι H=>.int _⟩
 ·cases h) (aD.or C5 C6)
abbrev iK:List Ev->Mo Ev:=bJ λi j=>if 0<j/\j<2 ^ 200 then some (.int (i / j)) else none
def C7 (hr:y54 k A):cf X (binaryOp .FloorDiv) (rI (λ_ j=>0<j/\j<2 ^ 200) λi j=>.int (i / j)):=BL
def C9:aD K κ (r2 (rI (λ_ j=>0<j/\j<2 ^ 200) λi j=>.int (i / j))) iK:=jD λi j d h=>by
 split at h
 ·rename_i c;cases h;exact⟨c,λι H=>.int _⟩
 ·cases h
abbrev dJ:List Ev->Mo Ev:=bJ λi j=>if 0<j then some (.int (i % j)) else none
def uB (hr:y54 k A):cf X (binaryOp .Mod) (rI (λ_ j=>0<j) λi j=>.int (i % j)):=Ay
def uC:aD K κ (r2 (rI (λ_ j=>0<j) λi j=>.int (i % j))) dJ:=jD λi j d h=>by
 split at h
 ·rename_i c;cases h;exact⟨c,λι H=>.int _⟩
 ·cases h
abbrev gS:List Ev->Mo Ev:=bJ λi j=>if 0≤j/\j≤1000000/\i.natAbs<2 ^ 64 then some (.int (i ^ j.toNat)) else none
def uD (hr:y54 k A):cf X (binaryOp .Pow) (rI nJ λi j=>.int (i ^ j.toNat)):=Az
def uE:aD K κ (r2 (rI nJ λi j=>.int (i ^ j.toNat))) gS:=jD λi j d h=>by
 split at h
 ·rename_i c;cases h;exact⟨c,λι H=>.int _⟩
 ·cases h
abbrev Dc:List Ev->Mo Ev:=bJ λi j=>if 0≤j/\j≤1000000/\i.natAbs<2 ^ 64 then some (.int (i*2 ^ j.toNat)) else none
abbrev Df:List Ev->Mo Ev:=bJ λi j=>if 0≤j then some (.int (i / 2 ^ j.toNat)) else none
abbrev fB:List Ev->Mo Ev:=λes Z G=>match es with
 | [.v (.im (.int i))]=>some (.v (.im (.int (-i))),Z,G)
 | _=>none
def Dg:aD K κ (r1 (rU λi=>.int (-i))) fB:=by
 intro ι H σ Z G es vs e Z' G' Q a h k
 unfold fB at h
 split at h
 ·rename_i i
  obtain⟨v,rfl⟩:=cq a.len
  cases dW (a.im (j:=0) rfl rfl)
  exact⟨_,rfl,i,rfl,k _ _ _ (bY h (br a (.int _)))⟩
 ·cases h
def uF (h:LE X κ a fa):LE X κ (.UnaryOp .USub a pos) (cY fB fa):=CF nK Dg h
abbrev eG:List Ev->Mo Ev:=bJ λi j=>some (.bl (decide (i<j)))
abbrev leP:List Ev->Mo Ev:=bJ λi j=>some (.bl (decide (i≤j)))
abbrev gT:List Ev->Mo Ev:=bJ λi j=>some (.bl (decide (j<i)))
abbrev oP:List Ev->Mo Ev:=bJ λi j=>some (.bl (decide (j≤i)))
end
end
set_option maxHeartbeats 400000
section
section
abbrev lU(K:W.Frag)(H:Hp)(x:V):Prop:=∃a xs,x=.ref a/\bq K H a xs
abbrev mZ(K:W.Frag)(H:Hp)(x y:V)(b:Bool):Prop:=(bH x=true/\bH y=true/\b=gK x y)∨(lU K H x/\bH y=true/\b=false)∨(bH x=true/\lU K H y/\b=false)
abbrev jG(K:W.Frag)(H:Hp):Nat->V->V->Bool->Prop
 | 0,x,y,b=>mZ K H x y b
 | n+1,x,y,b=>mZ K H x y b∨∃a c xs ys e,x=.ref a/\y=.ref c/\bq K H a xs/\bq K H c ys/\(∀(j:Nat) u w,xs[j]?=some u->ys[j]?=some w->jG K H n u w (e j))/\b=((List.range (min xs.length ys.length)).all e&&xs.length == ys.length)
def Dh(h:bH x=true):gK x x=true:=by
 cases x with
 | non=>rfl
 | bl b=>exact beq_self_eq_true b
 | int i=>exact beq_self_eq_true i
 | str z=>exact beq_self_eq_true z
 | _=>cases h
def mZ.refl  (I:Inv X pins σ H s)(h:mZ X.K H x x b):b=true:=by
 rcases h with⟨h1,_,rfl⟩| ⟨⟨a,xs,rfl,_⟩,h2,_⟩| ⟨h2,⟨a,xs,rfl,_⟩,_⟩
 ·exact Dh h1
 ·cases h2
 ·cases h2
theorem jG.refl (I:Inv X pins σ H s):∀{n:Nat} {x:V} {b:Bool},jG X.K H n x x b->b=true
 | 0,_,_,h=>mZ.refl I h
 | n+1,x,b,h=>by
  rcases h with h|⟨a,c,xs,ys,e,e1,e2,h1,h2,he,rfl⟩
  ·exact mZ.refl I h
  ·subst e1;cases e2
   have:=I.y429 h1 h2
   subst this
   rw [Nat.min_self]
   have:(List.range xs.length).all e=true:=by
    rw [List.all_eq_true]
    intro j hj
    have hj:j<xs.length:=by simpa using hj
    exact jG.refl I (he j _ _ (z1d hj) (z1d hj))
   rw [this];simp
def iL (r:au xs us)(h:j<us.toArray.size):∃x,xs[j]?=some x/\aA x us.toArray[j]:=by
 have l:=r.length
 have h':j<xs.length:=by rw [l];simpa using h
 obtain⟨u,eu,ru⟩:=r.get (z1d h')
 refine⟨_,z1d h',?_⟩
 have:us.toArray[j]?=some u:=by simpa using eu
 rw [Array.getElem?_eq_getElem h] at this
 rw [z1f this]
 exact ru
def uG   (I:Inv X pins σ H s)(h:mZ X.K H x y b)(ru:aA x u)(rw':aA y w)(hu:A.units<cLine):SeqAt.EqAt A s u w b:=by
 rcases h with⟨h1,h2,rfl⟩| ⟨⟨a,xs,rfl,ht⟩,h2,rfl⟩| ⟨h2,⟨a,xs,rfl,ht⟩,rfl⟩
 ·exact rX ru rw' h1 h2
 ·cases ru
  obtain⟨its,r1,p1,_⟩:=I.tuple ht
  have p1:s.heap.IsTuple a its.toArray:=p1
  cases y with
  | non=>cases rw';exact SeqAt.EqAt.tuple_none p1 hu
  | bl c=>cases rw';exact SeqAt.EqAt.tuple_bool _ p1 hu
  | int i=>obtain⟨t,rfl⟩:=rw';exact SeqAt.EqAt.tuple_int _ _ p1 hu
  | str z=>obtain⟨t,rfl⟩:=rw';exact SeqAt.EqAt.tuple_str _ _ p1 hu
  | _=>cases h2
 ·cases rw'
  obtain⟨its,r1,p1,_⟩:=I.tuple ht
  have p1:s.heap.IsTuple a its.toArray:=p1
  cases x with
  | non=>cases ru;exact SeqAt.EqAt.none_tuple p1 hu
  | bl c=>cases ru;exact SeqAt.EqAt.bool_tuple _ p1 hu
  | int i=>obtain⟨t,rfl⟩:=ru;exact SeqAt.EqAt.int_tuple _ _ p1 hu
  | str z=>obtain⟨t,rfl⟩:=ru;exact SeqAt.EqAt.str_tuple _ _ p1 hu
  | _=>cases h2
theorem oQ:∀{n:Nat} {A:Around} {pins:List (Addr×Obj)} {σ:L2.St} {s:Shared} {x y:V} {u w:Value} {b:Bool},Inv X pins σ H s->jG X.K H n x y b->aA x u->aA y w->A.units+n<cLine->SeqAt.EqAt A s u w b
 | 0,_,_,_,_,_,_,_,_,_,I,h,ru,rw',hu=>uG I h ru rw' hu
 | n+1,A,_,_,s,_,_,_,_,_,I,h,ru,rw',hu=>by
  rcases h with h|⟨a,c,xs,ys,e,e1,e2,h1,h2,he,rfl⟩
  ·exact uG I h ru rw' (by lia)
  ·subst e1;subst e2
   cases ru;cases rw'
   by_cases hac:a=c
   ·subst hac
    have:=jG.refl (n:=n+1) I (.inr ⟨a,a,xs,ys,e,rfl,rfl,h1,h2,he,rfl⟩)
    rw [this]
    exact SeqAt.EqAt.same _
   ·obtain⟨its,r1,p1,_⟩:=I.tuple h1
    obtain⟨y1b8,r2,p2,_⟩:=I.tuple h2
    have q:=SeqAt.RcAt.tuples (A:=A) (show s.heap.IsTuple a its.toArray from p1) (show s.heap.IsTuple c y1b8.toArray from p2) (by lia) (λj z1 z2=>by
     obtain⟨x,ex,rx⟩:=iL r1 z1
     obtain⟨y,ey,ry⟩:=iL r2 z2
     exact oQ I (he j x y ex ey) rx ry (by show A.units+1+n<cLine;lia))
    rw [zc,zc,<- r1.length,<- r2.length] at q
    exact SeqAt.EqAt.of_refs hac q
end
end
section
section
abbrev EqL(K:W.Frag)(H:Hp)(n:Nat)(x y:V)(b:Bool):Prop:=∃a c xs ys,x=.ref a/\y=.ref c/\bL K H a xs/\bL K H c ys/\((xs.length≠ys.length/\b=false)∨(xs.length=ys.length/\∃e,(∀(j:Nat) u w,xs[j]?=some u->ys[j]?=some w->jG K H n u w (e j))/\b=(List.range xs.length).all e))
abbrev p6(K:W.Frag)(H:Hp)(x y:V)(b:Bool):Prop:=(iz x y=true/\b=decide (x=y))∨(lU K H x/\bH y=true/\b=false)∨(bH x=true/\lU K H y/\b=false) ∨
 (∃a c xs ys e,x=.ref a/\y=.ref c/\bq K H a xs/\bq K H c ys/\(∀(j:Nat) u w,xs[j]?=some u->ys[j]?=some w->jG K H 40 u w (e j))/\b=((List.range (min xs.length ys.length)).all e&&xs.length == ys.length))∨EqL K H 40 x y b
def uH(hu:X.A.units+50<cLine):cf X (compareOp .Eq) (λx y H Q=>∃b,p6 X.K H x y b/\Q (.bl b) H):=by
 intro pins s σ H x y v u Q I rx ry h
 obtain⟨b,h,q⟩:=h
 have hu0:X.A.units<cLine:=by lia
 have hel:∀{xs ys:List V} {us ws:List Value} {e:Nat->Bool},au xs us->au ys ws->(∀(j:Nat) u w,xs[j]?=some u->ys[j]?=some w->jG X.K H 40 u w (e j))->∀j (z1:j<us.toArray.size) (z2:j<ws.toArray.size),SeqAt.EqAt X.A.in1 s us.toArray[j] ws.toArray[j] (e j):=λr1 r2 he j z1 z2=>by
  obtain⟨x,ex,rx⟩:=iL r1 z1
  obtain⟨y,ey,ry⟩:=iL r2 z2
  exact oQ I (he j x y ex ey) rx ry (by show X.A.units+1+40<cLine;lia)
 rcases h with⟨hs,rfl⟩| ⟨⟨a,xs,rfl,ht⟩,h2,rfl⟩| ⟨h2,⟨a,xs,rfl,ht⟩,rfl⟩| ⟨a,c,xs,ys,e,rfl,rfl,h1,h2,he,rfl⟩| ⟨a,c,xs,ys,rfl,rfl,h1,h2,h3⟩
 ·exact qP pins s σ H x y v u Q I rx ry ⟨hs,q⟩
 ·cases rx
  obtain⟨its,r1,p1,_⟩:=I.tuple ht
  have p1:s.heap.IsTuple a its.toArray:=p1
  have fin:EP X pins σ Q (.bool false) s:=⟨.bl false,H,I,rfl,q⟩
  cases y with
  | non=>cases ry;exact SeqAt.RcAt.tuple_none p1 hu0 _ _ _ _ fin
  | bl c=>cases ry;exact SeqAt.RcAt.tuple_bool _ p1 hu0 _ _ _ _ fin
  | int i=>obtain⟨t,rfl⟩:=ry;exact SeqAt.RcAt.tuple_int _ _ p1 hu0 _ _ _ _ fin
  | str z=>obtain⟨t,rfl⟩:=ry;exact SeqAt.RcAt.tuple_str _ _ p1 hu0 _ _ _ _ fin
  | _=>cases h2
 ·cases ry
  obtain⟨its,r1,p1,_⟩:=I.tuple ht
  have p1:s.heap.IsTuple a its.toArray:=p1
  have fin:EP X pins σ Q (.bool false) s:=⟨.bl false,H,I,rfl,q⟩
  cases x with
  | non=>cases rx;exact SeqAt.RcAt.none_tuple p1 hu0 _ _ _ _ fin
  | bl c=>cases rx;exact SeqAt.RcAt.bool_tuple _ p1 hu0 _ _ _ _ fin
  | int i=>obtain⟨t,rfl⟩:=rx;exact SeqAt.RcAt.int_tuple _ _ p1 hu0 _ _ _ _ fin
  | str z=>obtain⟨t,rfl⟩:=rx;exact SeqAt.RcAt.str_tuple _ _ p1 hu0 _ _ _ _ fin
  | _=>cases h2
 ·cases rx;cases ry
  obtain⟨its,r1,p1,_⟩:=I.tuple h1
  obtain⟨y1b8,r2,p2,_⟩:=I.tuple h2
  refine SeqAt.RcAt.tuples (show s.heap.IsTuple a its.toArray from p1) (show s.heap.IsTuple c y1b8.toArray from p2) hu0 (hel r1 r2 he) _ _ _ _ ?_
  rw [zc,zc,<- r1.length,<- r2.length]
  exact⟨.bl _,H,I,rfl,q⟩
 ·cases rx;cases ry
  obtain⟨its,r1,p1,_⟩:=I.list h1
  obtain⟨y1b8,r2,p2,_⟩:=I.list h2
  have l1:=r1.length
  have l2:=r2.length
  rcases h3 with⟨hn,rfl⟩| ⟨hn,e,he,rfl⟩
  ·exact SeqAt.RcAt.lists_lengths p1.isList p2.isList (by simp;lia) hu0 X.prog X.w X.xe _ ⟨.bl _,H,I,rfl,q⟩
  ·refine SeqAt.eq_listAt p1.isList p2.isList (by simp;lia) hu0 (hel r1 r2 he) ?_
   rw [zc,<- l1]
   exact⟨.bl _,H,I,rfl,q⟩
end
end
section
section
def Di(hu:X.A.units+50<cLine):cf X (compareOp .NotEq) (λx y H Q=>∃b,p6 X.K H x y b/\Q (.bl (!b)) H):=by
 intro pins s σ H x y v u Q I rx ry h
 obtain⟨b,h,q⟩:=h
 have hu0:X.A.units<cLine:=by lia
 have hel:∀{xs ys:List V} {us ws:List Value} {e:Nat->Bool},au xs us->au ys ws->(∀(j:Nat) u w,xs[j]?=some u->ys[j]?=some w->jG X.K H 40 u w (e j))->∀j (z1:j<us.toArray.size) (z2:j<ws.toArray.size),SeqAt.EqAt X.A.in1 s us.toArray[j] ws.toArray[j] (e j):=λr1 r2 he j z1 z2=>by
  obtain⟨x,ex,rx⟩:=iL r1 z1
  obtain⟨y,ey,ry⟩:=iL r2 z2
  exact oQ I (he j x y ex ey) rx ry (by show X.A.units+1+40<cLine;lia)
 rcases h with⟨hs,rfl⟩| ⟨⟨a,xs,rfl,ht⟩,h2,rfl⟩| ⟨h2,⟨a,xs,rfl,ht⟩,rfl⟩| ⟨a,c,xs,ys,e,rfl,rfl,h1,h2,he,rfl⟩| ⟨a,c,xs,ys,rfl,rfl,h1,h2,h3⟩
 ·exact qQ pins s σ H x y v u Q I rx ry ⟨hs,q⟩
 ·cases rx
  obtain⟨its,r1,p1,_⟩:=I.tuple ht
  have p1:s.heap.IsTuple a its.toArray:=p1
  have fin:EP X pins σ Q (.bool true) s:=⟨.bl true,H,I,rfl,q⟩
  cases y with
  | non=>cases ry;exact SeqAt.RcNeAt.tuple_none p1 hu0 _ _ _ _ fin
  | bl c=>cases ry;exact SeqAt.RcNeAt.tuple_bool _ p1 hu0 _ _ _ _ fin
  | int i=>obtain⟨t,rfl⟩:=ry;exact SeqAt.RcNeAt.tuple_int _ _ p1 hu0 _ _ _ _ fin
  | str z=>obtain⟨t,rfl⟩:=ry;exact SeqAt.RcNeAt.tuple_str _ _ p1 hu0 _ _ _ _ fin
  | _=>cases h2
 ·cases ry
  obtain⟨its,r1,p1,_⟩:=I.tuple ht
  have p1:s.heap.IsTuple a its.toArray:=p1
  have fin:EP X pins σ Q (.bool true) s:=⟨.bl true,H,I,rfl,q⟩
  cases x with
  | non=>cases rx;exact SeqAt.RcNeAt.none_tuple p1 hu0 _ _ _ _ fin
  | bl c=>cases rx;exact SeqAt.RcNeAt.bool_tuple _ p1 hu0 _ _ _ _ fin
  | int i=>obtain⟨t,rfl⟩:=rx;exact SeqAt.RcNeAt.int_tuple _ _ p1 hu0 _ _ _ _ fin
  | str z=>obtain⟨t,rfl⟩:=rx;exact SeqAt.RcNeAt.str_tuple _ _ p1 hu0 _ _ _ _ fin
  | _=>cases h2
 ·cases rx;cases ry
  obtain⟨its,r1,p1,_⟩:=I.tuple h1
  obtain⟨y1b8,r2,p2,_⟩:=I.tuple h2
  refine SeqAt.RcNeAt.tuples (show s.heap.IsTuple a its.toArray from p1) (show s.heap.IsTuple c y1b8.toArray from p2) hu0 (hel r1 r2 he) _ _ _ _ ?_
  rw [zc,zc,<- r1.length,<- r2.length]
  exact⟨.bl _,H,I,rfl,q⟩
 ·cases rx;cases ry
  obtain⟨its,r1,p1,_⟩:=I.list h1
  obtain⟨y1b8,r2,p2,_⟩:=I.list h2
  have l1:=r1.length
  have l2:=r2.length
  rcases h3 with⟨hn,rfl⟩| ⟨hn,e,he,rfl⟩
  ·exact SeqAt.RcNeAt.lists_lengths p1.isList p2.isList (by simp;lia) hu0 X.prog X.w X.xe _ ⟨.bl _,H,I,rfl,q⟩
  ·refine SeqAt.RcNeAt.lists p1.isList p2.isList (by simp;lia) hu0 (hel r1 r2 he) X.prog X.w X.xe _ ?_
   rw [zc,<- l1]
   exact⟨.bl _,H,I,rfl,q⟩
end
end
section
section
variable {X:Cx}{K:W.Frag}{κ:Str->Addr}{H:Hp}
abbrev m4(f:I->I->Option Bool):List I->List I->Option Bool
 | [],[]=>some true
 | x::xs,y::ys=>match f x y,m4 f xs ys with
  | some b,some c=>some (b&&c)
  | _,_=>none
 | [],_::_=>some false
 | _::_,[]=>some false
abbrev jH:I->Option (List I)
 | .tup xs=>some xs
 | .con xs=>some xs
 | _=>none
abbrev cS:I->Bool
 | .non=>true
 | .bl _=>true
 | .int _=>true
 | .str _=>true
 | _=>false
abbrev bZ:I->I->Bool
 | .non,.non=>true
 | .bl a,.bl b=>a == b
 | .bl a,.int b=>(if a then 1 else 0) == b
 | .int a,.bl b=>a == (if b then 1 else 0)
 | .int a,.int b=>a == b
 | .str a,.str b=>a == b
 | _,_=>false
abbrev i9:Nat->I->I->Option Bool
 | 0,x,y=>if cS x&&cS y then some (bZ x y) else if ((jH x).isSome&&cS y)||(cS x&&(jH y).isSome) then some false else none
 | n+1,x,y=>if cS x&&cS y then some (bZ x y) else if ((jH x).isSome&&cS y)||(cS x&&(jH y).isSome) then some false else match jH x,jH y with
  | some xs,some ys=>m4 (i9 n) xs ys
  | _,_=>none
variable {ι:List Addr}
def fD{v:V}{x:I}(r:RpI K ι H v x)(h:cS x=true):bH v=true:=by cases r<;>first|rfl|cases h
abbrev uJ:V->I
 | .bl b=>.bl b
 | .int i=>.int i
 | .str x=>.str x
 | _=>.non
def lV(r:RpI K ι H v x)(h:bH v=true):x=uJ v:=by
 cases r<;>first|rfl|cases h
def Dj(h:bH v=true)(h':bH w=true):bZ (uJ v) (uJ w)=gK v w:=by
 cases v<;>first|cases h;done|(cases w<;>first|rfl|cases h')
def uK(r:RpI K ι H v x)(r':RpI K ι H w y)(h:cS x=true)(h':cS y=true):bZ x y=gK v w:=by
 have h:=fD r h
 have h':=fD r' h'
 rw [lV r h,lV r' h',Dj h h']
def lW{v:V}{x:I}{xs:List I}(r:RpI K ι H v x)(h:jH x=some xs):∃a vs,v=.ref a/\bq K H a vs/\y56 K ι H vs xs:=by
 cases r with
 | tup h1 h2=>cases h;exact⟨_,_,rfl,bq.of h1,h2⟩
 | con h1 h2=>cases h;exact⟨_,_,rfl,bq.kon h1,h2⟩
 | _=>cases h
theorem oR{f:I->I->Option Bool}{E:V->V->Bool->Prop}(hf:∀{v w x y b},RpI K ι H v x->RpI K ι H w y->f x y=some b->E v w b):∀{vs ws:List V} {xs ys:List I} {b:Bool},y56 K ι H vs xs->y56 K ι H ws ys->m4 f xs ys=some b ->
  ∃e:Nat->Bool,(∀(j:Nat) u w,vs[j]?=some u->ws[j]?=some w->E u w (e j))/\b=((List.range (min vs.length ws.length)).all e&&vs.length == ws.length)
 | [],[],_,_,b,.nil,.nil,h=>by cases h;exact⟨λ_=>true,λj u w e=>by simp at e,rfl⟩
 | [],_::_,_,_,b,.nil,.cons _ _,h=>by cases h;exact⟨λ_=>true,λj u w e=>by simp at e,by simp⟩
 | _::_,[],_,_,b,.cons _ _,.nil,h=>by cases h;exact⟨λ_=>true,λj u w _ e=>by simp at e,by simp⟩
 | v::vs,w::ws,_,_,b,.cons r rs,.cons r' rs',h=>by
  unfold m4 at h
  split at h
  ·rename_i b0 c h0 h1
   cases h
   obtain⟨e',he,rfl⟩:=oR hf rs rs' h1
   refine⟨λj=>match j with|0=>b0|j+1=>e' j,λj u w' e1 e2=>?_,?_⟩
   ·cases j with
    | zero=>simp at e1 e2;subst e1;subst e2;exact hf r r' h0
    | succ j=>exact he j u w' (by simpa using e1) (by simpa using e2)
   ·have e3:min (v::vs).length (w::ws).length=min vs.length ws.length+1:=by simp only [z11];lia
    rw [e3,BP]
    have e4:((v::vs).length == (w::ws).length)=(vs.length == ws.length):=by simp
    rw [e4,Bool.and_assoc]
  ·cases h
def uL:∀{n:Nat} {v w:V} {x y:I} {b:Bool},RpI K ι H v x->RpI K ι H w y->i9 n x y=some b->jG K H n v w b:=by
 have base:∀{v w:V} {x y:I} {b:Bool} {o:Option Bool},RpI K ι H v x->RpI K ι H w y->(if cS x&&cS y then some (bZ x y) else if ((jH x).isSome&&cS y)||(cS x&&(jH y).isSome) then some false else o)=some b->mZ K H v w b∨o=some b:=λ{v w x y b o} r r' h=>by
  split at h
  ·rename_i hf
   rw [z24] at hf
   cases h
   exact .inl (.inl ⟨fD r hf.1,fD r' hf.2,uK r r' hf.1 hf.2⟩)
  ·split at h
   ·rename_i hf
    cases h
    rw [Bool.or_eq_true,z24,z24] at hf
    rcases hf with⟨h1,h2⟩| ⟨h1,h2⟩
    ·obtain⟨xs,hx⟩:=Option.isSome_iff_exists.mp h1
     obtain⟨a,vs,e1,h3,_⟩:=lW r hx
     exact .inl (.inr (.inl ⟨⟨a,vs,e1,h3⟩,fD r' h2,rfl⟩))
    ·obtain⟨xs,hx⟩:=Option.isSome_iff_exists.mp h2
     obtain⟨a,vs,e1,h3,_⟩:=lW r' hx
     exact .inl (.inr (.inr ⟨fD r h1,⟨a,vs,e1,h3⟩,rfl⟩))
   ·exact .inr h
 intro n
 induction n with
 | zero =>
  intro v w x y b r r' h
  unfold i9 at h
  rcases base r r' h with q|q
  ·exact q
  ·cases q
 | succ n ih =>
  intro v w x y b r r' h
  unfold i9 at h
  rcases base r r' h with q|q
  ·exact .inl q
  ·split at q
   ·rename_i xs ys hx hy
    obtain⟨a,vs,e1,h1,r1⟩:=lW r hx
    obtain⟨c,ws,e2,h2,r2⟩:=lW r' hy
    obtain⟨e,he,hb⟩:=oR (λr r' h=>ih r r' h) r1 r2 q
    exact .inr ⟨a,c,vs,ws,e,e1,e2,h1,h2,he,hb⟩
   ·cases q
def Dl(h:iz x y=true)(hf:bH x=true):gK x y=decide (x=y):=by
 cases x<;>first|exact Bool.noConfusion hf|(cases y<;>first|rfl|exact Bool.noConfusion h|skip)
 ·rename_i a b
  show (a == b)=_
  by_cases e:a=b
  ·subst e;simp
  ·rw [beq_eq_false_iff_ne.mpr e,decide_eq_false (λz=>e (by injection z))]
 ·rename_i a b
  show (a == b)=_
  by_cases e:a=b
  ·subst e;simp
  ·rw [beq_eq_false_iff_ne.mpr e,decide_eq_false (λz=>e (by injection z))]
 ·rename_i a b
  show (a == b)=_
  by_cases e:a=b
  ·subst e;simp
  ·rw [beq_eq_false_iff_ne.mpr e,decide_eq_false (λz=>e (by injection z))]
abbrev gU:I->I->Bool
 | .bl _,.int _=>true
 | .int _,.bl _=>true
 | _,_=>false
abbrev m5(Z:De)(G:List M)(a b:Ev):Option Bool :=
 match om a,om b with
 | some x,some y=>if gU x y then none else match i9 41 x y with
  | some r=>some r
  | none=>match pk Z G a,pk Z G b with
   | some (.lst xs),some (.lst ys)=>m4 (i9 40) xs ys
   | _,_=>none
 | _,_=>match pk Z G a,pk Z G b with
  | some (.lst xs),some (.lst ys)=>m4 (i9 40) xs ys
  | _,_=>none
abbrev bP:List Ev->Mo Ev:=λes Z G=>match es with
 | [a,b]=>match m5 Z G a b with
  | some r=>some (.v (.im (.bl r)),Z,G)
  | none=>none
 | _=>none
abbrev lX:List Ev->Mo Ev:=λes Z G=>match es with
 | [a,b]=>match m5 Z G a b with
  | some r=>some (.v (.im (.bl (!r))),Z,G)
  | none=>none
 | _=>none
def Dm(h:bH v=true)(h':bH u=true)(hm:¬ gU (uJ v) (uJ u)=true):iz v u=true:=by
 cases v<;>first|cases h;done|(cases u<;>first|rfl|cases h';done|exact absurd rfl hm)
def Dn(r:RpI K ι H v x)(r':RpI K ι H u y)(h:bH v=true)(h':bH u=true)(hm:¬ gU x y=true):iz v u=true:=by
 rw [lV r h,lV r' h'] at hm
 exact Dm h h' hm
def uM{σ:L2.St}{Z:De}{G:List M}{a b:Ev}{v u:V}{r:Bool}(A:Args K κ ι H σ Z G [a,b] [v,u])(h:m5 Z G a b=some r):p6 K H v u r:=by
 have lists:(match pk Z G a,pk Z G b with|some (.lst xs),some (.lst ys)=>m4 (i9 40) xs ys|_,_=>none)=some r->p6 K H v u r:=λh=>by
  split at h
  ·rename_i xs ys hx hy
   obtain⟨p,e1,vs,h1,r1⟩:=A.pk (j:=0) rfl rfl hx
   obtain⟨q,e2,ws,h2,r2⟩:=A.pk (j:=1) rfl rfl hy
   obtain⟨e,he,hb⟩:=oR (λr r' h=>uL r r' h) r1 r2 h
   refine .inr (.inr (.inr (.inr ⟨p,q,vs,ws,e1,e2,bL.of h1,bL.of h2,?_⟩)))
   by_cases hl:vs.length=ws.length
   ·refine .inr ⟨hl,e,he,?_⟩
    rw [hb,<- hl,Nat.min_self];simp
   ·refine .inl ⟨hl,?_⟩
    rw [hb]
    have:(vs.length == ws.length)=false:=by simpa using hl
    rw [this,Bool.and_false]
  ·cases h
 unfold m5 at h
 split at h
 ·rename_i x y hx hy
  split at h
  ·cases h
  ·rename_i hm
   split at h
   ·rename_i r' hr
    cases h
    have ra:RpI K ι H v x:=by
     cases a with
     | s i=>cases hx
     | v z=>cases z with
      | ow m=>cases hx
      | im d=>cases hx;exact A.im (j:=0) rfl rfl
    have rb:RpI K ι H u y:=by
     cases b with
     | s i=>cases hy
     | v z=>cases z with
      | ow m=>cases hy
      | im d=>cases hy;exact A.im (j:=1) rfl rfl
    rcases uL ra rb hr with q|⟨a',c,xs,ys,e,e1,e2,h1,h2,he,hb⟩
    ·rcases q with⟨h1,h2,rfl⟩| ⟨h1,h2,rfl⟩| ⟨h1,h2,rfl⟩
     ·have sc:=Dn ra rb h1 h2 hm
      exact .inl ⟨sc,Dl sc h1⟩
     ·exact .inr (.inl ⟨h1,h2,rfl⟩)
     ·exact .inr (.inr (.inl ⟨h1,h2,rfl⟩))
    ·exact .inr (.inr (.inr (.inl ⟨a',c,xs,ys,e,e1,e2,h1,h2,he,hb⟩)))
   ·exact lists h
 ·exact lists h
def uN:aD K κ (r2 λx y H Q=>∃b,p6 K H x y b/\Q (.bl b) H) bP:=by
 intro ι H σ Z G es vs e Z' G' Q a h k
 unfold bP at h
 split at h
 ·split at h
  ·rename_i r hr
   obtain⟨v,u,rfl⟩:=bO a.len
   exact⟨_,_,rfl,r,uM a hr,k _ _ _ (bY h (br a (.bl _)))⟩
  ·cases h
 ·cases h
def Dp:aD K κ (r2 λx y H Q=>∃b,p6 K H x y b/\Q (.bl (!b)) H) lX:=by
 intro ι H σ Z G es vs e Z' G' Q a h k
 unfold lX at h
 split at h
 ·split at h
  ·rename_i r hr
   obtain⟨v,u,rfl⟩:=bO a.len
   exact⟨_,_,rfl,r,uM a hr,k _ _ _ (bY h (br a (.bl _)))⟩
  ·cases h
 ·cases h
end
section
variable {X:Cx}{κ:Str->Addr}{a b:Expr}{fa fb:Mo Ev}{pos:Pos}{k:Nat}
def oS(hr:y54 k X.A):X.A.units+50<cLine:=by have:=hr.units;lia
def Dq(hr:y54 k X.A)(ha:LE X κ a fa)(hb:LE X κ b fb):LE X κ (.Compare a [.Eq] [b] pos) (ah bP fa fb):=CG (uH (oS hr)) uN ha hb (iA _)
def Dr(hr:y54 k X.A)(ha:LE X κ a fa)(hb:LE X κ b fb):LT X κ (.Compare a [.Eq] [b] pos) (ao (ah bP fa fb)):=jC (uH (oS hr)) uN ha hb (iA _)
def Ds(hr:y54 k X.A)(ha:LE X κ a fa)(hb:LE X κ b fb):LT X κ (.Compare a [.NotEq] [b] pos) (ao (ah lX fa fb)):=jC (Di (oS hr)) Dp ha hb (iA _)
def Dt(hr:y54 k X.A)(ha:LE X κ a fa)(hb:LE X κ b fb):LT X κ (.Compare a [.Lt] [b] pos) (ao (ah eG fa fb)):=jC qR (iJ λi j d h ι H=>by cases h;exact .bl _) ha hb (iA _)
def Du(hr:y54 k X.A)(ha:LE X κ a fa)(hb:LE X κ b fb):LT X κ (.Compare a [.Gt] [b] pos) (ao (ah gT fa fb)):=jC qS (iJ λi j d h ι H=>by cases h;exact .bl _) ha hb (iA _)
def Dv(hr:y54 k X.A)(ha:LE X κ a fa)(hb:LE X κ b fb):LT X κ (.Compare a [.GtE] [b] pos) (ao (ah oP fa fb)):=jC qT (iJ λi j d h ι H=>by cases h;exact .bl _) ha hb (iA _)
end
end
section
section
variable {X:Cx}{K:W.Frag}{κ:Str->Addr}{ι:List Addr}{H:Hp}
theorem y56.at{vs:List V}{xs:List I}{i:Int}{d:I}(r:y56 K ι H vs xs)(h:dg xs i=some d):∃v,dg vs i=some v/\RpI K ι H v d:=by
 unfold dg at h ⊢
 rw [r.len]
 cases q:gC xs.length i with
 | none=>rw [q] at h;cases h
 | some j =>
  rw [q] at h
  obtain⟨v,hv,rv⟩:=r.get h
  exact⟨v,hv,rv⟩
abbrev dX:List Ev->Mo Ev:=λes Z G=>match es with
 | [a,.v (.im (.int i))]=>match sq Z G a with
  | some xs=>match dg xs i with
   | some d=>some (.v (.im d),Z,G)
   | none=>none
  | none=>match a with
   | .v (.im (.str z))=>match dg z.cps.toList i with
    | some c=>if z.length≤1000000 then some (.v (.im (.str ⟨#[c]⟩)),Z,G) else none
    | none=>none
   | _=>none
 | _=>none
def Dw:aD K κ (r2 (Bl K)) dX:=by
 intro ι H σ Z G es vs e Z' G' Q a h k
 unfold dX at h
 split at h
 ·rename_i x i
  split at h
  ·rename_i xs hx
   split at h
   ·rename_i d hd
    obtain⟨v,u,rfl⟩:=bO a.len
    obtain⟨p,ys,e1,h1,r⟩:=a.sq (j:=0) rfl rfl hx
    cases dW (a.im (j:=1) rfl rfl)
    subst e1
    obtain⟨w,hw,rw'⟩:=r.at hd
    rcases h1 with h1|h1
    ·exact⟨_,_,rfl,.inl ⟨p,ys,i,w,rfl,rfl,h1,hw,k _ _ _ (bY h (br a rw'))⟩⟩
    ·exact⟨_,_,rfl,.inr (.inl ⟨p,ys,i,w,rfl,rfl,h1,hw,k _ _ _ (bY h (br a rw'))⟩)⟩
   ·cases h
  ·split at h
   ·rename_i z _
    split at h
    ·rename_i c hc
     split at h
     ·rename_i hz
      obtain⟨v,u,rfl⟩:=bO a.len
      cases fw (a.im (j:=0) rfl rfl)
      cases dW (a.im (j:=1) rfl rfl)
      exact⟨_,_,rfl,.inr (.inr ⟨z,i,c,rfl,rfl,z1b hz (by decide),hc,k _ _ _ (bY h (br a (.str _)))⟩)⟩
     ·cases h
    ·cases h
   ·cases h
 ·cases h
abbrev dv:I->Option aI
 | .int i=>some (.inl i)
 | .str x=>some (.inr x)
 | _=>none
abbrev jI:List I->Option (List aI)
 | []=>some []
 | x::xs=>match dv x,jI xs with
  | some k,some ks=>some (k::ks)
  | _,_=>none
abbrev jJ:I->Option (List aI)
 | .tup xs=>jI xs
 | _=>none
def lY{v:V}{x:I}{k:aI}(r:RpI K ι H v x)(h:dv x=some k):v=kV k:=by
 cases r<;>first|(cases h;rfl)|cases h
theorem uO:∀{vs:List V} {xs:List I} {ks:List aI},y56 K ι H vs xs->jI xs=some ks->vs=ks.map kV
 | [],[],_,.nil,h=>by cases h;rfl
 | v::vs,x::xs,ks,.cons r rs,h=>by
  unfold jI at h
  split at h
  ·rename_i k ks' h1 h2
   cases h
   rw [z16,lY r h1,uO rs h2]
  ·cases h
def uP{v:V}{x:I}{ks:List aI}(r:RpI K ι H v x)(h:jJ x=some ks):∃b,v=.ref b/\H b=some (.tup (ks.map kV)):=by
 cases r with
 | tup h1 h2=>exact⟨_,rfl,by rw [h1,uO h2 h]⟩
 | _=>cases h
abbrev cc{κ':Type}[DecidableEq κ']:List (κ'×I)->κ'->Option I
 | [],_=>none
 | (g,x)::r,k=>if g=k then some x else cc r k
abbrev gj{κ':Type}[DecidableEq κ'](kvs:List (κ'×I))(k:κ'):Bool:=kvs.any λkv=>decide (kv.1=k)
abbrev cT{κ':Type}[DecidableEq κ'](kvs:List (κ'×I))(k:κ')(d:I):List (κ'×I):=if gj kvs k then kvs.map (λkv=>if kv.1=k then (kv.1,d) else kv) else kvs++[(k,d)]
theorem oT{κ':Type}[DecidableEq κ']{k:κ'}:∀{ws:List (κ'×V)} {kvs:List (κ'×I)},ws.map (·.1)=kvs.map (·.1)->y56 K ι H (ws.map (·.2)) (kvs.map (·.2)) ->
  (∀d,cc kvs k=some d->∃v,df ws k=some v/\RpI K ι H v d)/\(cc kvs k=none->df ws k=none)
 | [],[],_,_=>⟨λd h=>(by cases h),λ_=>rfl⟩
 | [],_::_,e,_=>by cases e
 | _::_,[],e,_=>by cases e
 | (g,v)::ws,(g',x)::kvs,e,r=>by
  simp only [z16,List.cons.injEq] at e
  obtain⟨e1,e2⟩:=e
  subst e1
  cases r with
  | cons r rs =>
   obtain⟨p,q⟩:=oT e2 rs
   by_cases hg:g=k
   ·rw [kS hg]
    unfold cc
    rw [if_pos hg]
    exact⟨λd h=>(by cases h;exact⟨v,rfl,r⟩),λh=>(by cases h)⟩
   ·rw [kT hg]
    unfold cc
    rw [if_neg hg]
    exact⟨p,q⟩
theorem gk{κ' α β:Type}[DecidableEq κ']{k:κ'}:∀{ws:List (κ'×α)} {kvs:List (κ'×β)},ws.map (·.1)=kvs.map (·.1)->(ws.any λkv=>decide (kv.1=k))=(kvs.any λkv=>decide (kv.1=k))
 | [],[],_=>rfl
 | [],_::_,e=>by cases e
 | _::_,[],e=>by cases e
 | (g,v)::ws,(g',x)::kvs,e=>by
  simp only [z16,List.cons.injEq] at e
  obtain⟨e1,e2⟩:=e
  subst e1
  rw [List.any_cons,List.any_cons,gk e2]
theorem uQ{κ':Type}[DecidableEq κ']{k:κ'}{v:V}{d:I}(rv:RpI K ι H v d):∀{ws:List (κ'×V)} {kvs:List (κ'×I)},ws.map (·.1)=kvs.map (·.1)->y56 K ι H (ws.map (·.2)) (kvs.map (·.2)) ->
  (ws.map λkv=>if kv.1=k then (kv.1,v) else kv).map (·.1)=(kvs.map λkv=>if kv.1=k then (kv.1,d) else kv).map (·.1)/\y56 K ι H ((ws.map λkv=>if kv.1=k then (kv.1,v) else kv).map (·.2)) ((kvs.map λkv=>if kv.1=k then (kv.1,d) else kv).map (·.2))
 | [],[],_,_=>⟨rfl,.nil⟩
 | [],_::_,e,_=>by cases e
 | _::_,[],e,_=>by cases e
 | (g,w)::ws,(g',x)::kvs,e,r=>by
  simp only [z16,List.cons.injEq] at e
  obtain⟨e1,e2⟩:=e
  subst e1
  cases r with
  | cons r rs =>
   obtain⟨p,q⟩:=uQ rv e2 rs
   by_cases hg:g=k
   ·simp only [z16,if_pos hg]
    exact⟨by rw [p],.cons rv q⟩
   ·simp only [z16,if_neg hg]
    exact⟨by rw [p],.cons r q⟩
def oU{κ':Type}[DecidableEq κ']{k:κ'}{v:V}{d:I}{ws:List (κ'×V)}{kvs:List (κ'×I)}(rv:RpI K ι H v d)(e:ws.map (·.1)=kvs.map (·.1))(r:y56 K ι H (ws.map (·.2)) (kvs.map (·.2))) :
  (cm ws k v).map (·.1)=(cT kvs k d).map (·.1)/\y56 K ι H ((cm ws k v).map (·.2)) ((cT kvs k d).map (·.2)):=by
 unfold cm cT gj
 rw [gk e]
 split
 ·exact uQ rv e r
 ·rw [z25,z25,z25,z25,e]
  exact⟨rfl,r.app (.cons rv .nil)⟩
abbrev eM(Z:De)(G:List M)(a:Ev)(x:I):Option (Option I):=match pk Z G a with
 | some (.dic kvs)=>(dv x).map λk=>cc kvs k
 | some (.dit kvs)=>(jJ x).map λk=>cc kvs k
 | _=>none
def oV{σ:L2.St}{Z:De}{G:List M}{es:List Ev}{vs:List V}{j j':Nat}{a:Ev}{x:I}{v u:V}{o:Option I}(A:Args K κ ι H σ Z G es vs)(h1:es[j]?=some a)(h2:vs[j]?=some v)(h3:es[j']?=some (.v (.im x)))(h4:vs[j']?=some u)
  (h:eM Z G a x=some o):∃b ov,v=.ref b/\ye H b u ov/\(∀d,o=some d->∃w,ov=some w/\RpI K ι H w d)/\(o=none->ov=none):=by
 have ru:=A.im h3 h4
 unfold eM at h
 split at h
 ·rename_i kvs hp
  obtain⟨b,e1,ws,hw,e2,r⟩:=A.pk h1 h2 hp
  cases hk:dv x with
  | none=>rw [hk] at h;cases h
  | some k =>
   rw [hk] at h
   cases h
   have eu:=lY ru hk
   subst eu
   obtain⟨p,q⟩:=oT e2 r
   exact⟨b,_,e1,ye.k hw,p,q⟩
 ·rename_i kvs hp
  obtain⟨b,e1,ws,hw,e2,r⟩:=A.pk h1 h2 hp
  cases hk:jJ x with
  | none=>rw [hk] at h;cases h
  | some k =>
   rw [hk] at h
   cases h
   obtain⟨c,eu,hc⟩:=uP ru hk
   subst eu
   obtain⟨p,q⟩:=oT e2 r
   exact⟨b,_,e1,ye.t hw hc,p,q⟩
 ·cases h
abbrev p7:List Ev->Mo Ev:=λes Z G=>match es with
 | [a,.v (.im x)]=>match eM Z G a x with
  | some (some d)=>some (.v (.im d),Z,G)
  | _=>none
 | _=>none
def Dx:aD K κ (r2 λx y H2 Q=>∃a v,x=.ref a/\ye H2 a y (some v)/\Q v H2) p7:=by
 intro ι H σ Z G es vs e Z' G' Q a h k
 unfold p7 at h
 split at h
 ·split at h
  ·rename_i d hd
   obtain⟨v,u,rfl⟩:=bO a.len
   obtain⟨b,ov,e1,g,p,_⟩:=oV a (j:=0) (j':=1) rfl rfl rfl rfl hd
   obtain⟨w,rfl,rw'⟩:=p d rfl
   exact⟨_,_,rfl,b,w,e1,g,k _ _ _ (bY h (br a rw'))⟩
  ·cases h
 ·cases h
abbrev ak:List Ev->Mo Ev:=bW dX p7
def uR{fo fi:Mo Ev}{σ:L2.St}{Q:VK}(h:bE K κ (ah ak fo fi) σ H Q):mM (Bl K) (bE K κ fo) (bE K κ fi) σ H Q∨rA (bE K κ fo) (bE K κ fi) σ H Q:=by
 obtain⟨ι,Z,G,e,Z',G',s,eq,k⟩:=h
 obtain⟨x,Z1,G1,e1,eq1⟩:=cC eq
 obtain⟨y,Z2,G2,e2,eq2⟩:=cC eq1
 have eq2:bW dX p7 [x,y] Z2 G2=some (e,Z',G'):=eq2
 unfold bW at eq2
 split at eq2
 ·rename_i z hz
  cases eq2
  refine .inl (gN Dw ⟨ι,Z,G,_,_,_,s,?_,k⟩)
  unfold ah
  rw [mR e1,mR e2];exact hz
 ·refine .inr (gN Dx ⟨ι,Z,G,_,_,_,s,?_,k⟩)
  unfold ah
  rw [mR e1,mR e2];exact eq2
abbrev ij(neg:Bool):List Ev->Mo Ev:=λes Z G=>match es with
 | [.v (.im x),b]=>match sq Z G b with
  | some xs=>if cS x&&xs.all cS then some (.v (.im (.bl (if neg then !(xs.any λy=>bZ y x) else xs.any λy=>bZ y x))),Z,G) else none
  | none=>none
 | _=>none
abbrev eN(neg:Bool):List Ev->Mo Ev:=λes Z G=>match es with
 | [.v (.im x),b]=>match eM Z G b x with
  | some o=>some (.v (.im (.bl (if neg then !o.isSome else o.isSome))),Z,G)
  | none=>none
 | _=>none
def uS:aD K κ (r2 λy x H2 Q=>∃a o,x=.ref a/\ye H2 a y o/\Q (.bl o.isSome) H2) (eN false):=by
 intro ι H σ Z G es vs e Z' G' Q a h k
 unfold eN at h
 split at h
 ·split at h
  ·rename_i o ho
   obtain⟨v,u,rfl⟩:=bO a.len
   obtain⟨b,ov,e1,g,p,q⟩:=oV a (j:=1) (j':=0) rfl rfl rfl rfl ho
   have:ov.isSome=o.isSome:=by
    cases o with
    | none=>rw [q rfl];rfl
    | some d=>obtain⟨w,rfl,_⟩:=p d rfl;rfl
   refine⟨_,_,rfl,b,ov,e1,g,?_⟩
   rw [this]
   exact k _ _ _ (bY h (br a (.bl _)))
  ·cases h
 ·cases h
def Dy:aD K κ (r2 λy x H2 Q=>∃a o,x=.ref a/\ye H2 a y o/\Q (.bl (!o.isSome)) H2) (eN true):=by
 intro ι H σ Z G es vs e Z' G' Q a h k
 unfold eN at h
 split at h
 ·split at h
  ·rename_i o ho
   obtain⟨v,u,rfl⟩:=bO a.len
   obtain⟨b,ov,e1,g,p,q⟩:=oV a (j:=1) (j':=0) rfl rfl rfl rfl ho
   have:ov.isSome=o.isSome:=by
    cases o with
    | none=>rw [q rfl];rfl
    | some d=>obtain⟨w,rfl,_⟩:=p d rfl;rfl
   refine⟨_,_,rfl,b,ov,e1,g,?_⟩
   rw [this]
   exact k _ _ _ (bY h (br a (.bl _)))
  ·cases h
 ·cases h
end
section
variable {X:Cx}{κ:Str->Addr}{a b:Expr}{fa fb:Mo Ev}{pos:Pos}{k:Nat}
def Dz(hr:y54 k X.A)(ha:LE X κ a fa)(hb:LE X κ b fb)(hs:ie b:=by exact (λ_ _=>rfl)):LE X κ (.Subscript a b pos) (ah ak fa fb):=.mk (bt (jh (rQ Bm ha.pe hb.pe hs) (AU (jv hr) ha.pe hb.pe hs)) λ_ _ _=>uR)
end
end
section
section
variable {X:Cx}{K:W.Frag}{κ:Str->Addr}{ι:List Addr}{H:Hp}
theorem oW{v:V}{x:I}(r:RpI K ι H v x)(hx:cS x=true):∀{vs:List V} {xs:List I},y56 K ι H vs xs->xs.all cS=true->vs.all bH=true/\(xs.any λy=>bZ y x)=vs.any λy=>gK y v
 | [],[],.nil,_=>⟨rfl,rfl⟩
 | w::vs,y::xs,.cons r' rs,h=>by
  rw [List.all_cons,z24] at h
  obtain⟨p,q⟩:=oW r hx rs h.2
  rw [List.all_cons,List.any_cons,List.any_cons,p,q,uK r' r h.1 hx,fD r' h.1]
  exact⟨rfl,rfl⟩
def uT:aD K κ (r2 (yP K false)) (ij false):=by
 intro ι H σ Z G es vs e Z' G' Q a h k
 unfold ij at h
 split at h
 ·rename_i x b
  split at h
  ·rename_i xs hx
   split at h
   ·rename_i hf
    rw [z24] at hf
    obtain⟨v,u,rfl⟩:=bO a.len
    obtain⟨p,ys,e1,h1,r⟩:=a.sq (j:=1) rfl rfl hx
    have rx:=a.im (j:=0) rfl rfl
    obtain⟨p1,p2⟩:=oW rx hf.1 r hf.2
    refine⟨_,_,rfl,p,ys,e1,h1,fD rx hf.1,p1,?_⟩
    have:L2.inV v ys=xs.any λy=>bZ y x:=p2.symm
    rw [this]
    exact k _ _ _ (bY h (br a (.bl _)))
   ·cases h
  ·cases h
 ·cases h
def DA:aD K κ (r2 (yP K true)) (ij true):=by
 intro ι H σ Z G es vs e Z' G' Q a h k
 unfold ij at h
 split at h
 ·rename_i x b
  split at h
  ·rename_i xs hx
   split at h
   ·rename_i hf
    rw [z24] at hf
    obtain⟨v,u,rfl⟩:=bO a.len
    obtain⟨p,ys,e1,h1,r⟩:=a.sq (j:=1) rfl rfl hx
    have rx:=a.im (j:=0) rfl rfl
    obtain⟨p1,p2⟩:=oW rx hf.1 r hf.2
    refine⟨_,_,rfl,p,ys,e1,h1,fD rx hf.1,p1,?_⟩
    have:L2.inV v ys=xs.any λy=>bZ y x:=p2.symm
    rw [this]
    exact k _ _ _ (bY h (br a (.bl _)))
   ·cases h
  ·cases h
 ·cases h
abbrev fR:List Ev->Mo Ev:=bW (ij false) (eN false)
abbrev dw:List Ev->Mo Ev:=bW (ij true) (eN true)
def oX{p p':List Ev->Mo Ev}{r r':R2}{fo fi:Mo Ev}{σ:L2.St}{Q:VK}(h1:aD K κ (r2 r) p)(h2:aD K κ (r2 r') p')(h:bE K κ (ah (bW p p') fo fi) σ H Q):mM r (bE K κ fo) (bE K κ fi) σ H Q∨mM r' (bE K κ fo) (bE K κ fi) σ H Q:=by
 obtain⟨ι,Z,G,e,Z',G',s,eq,k⟩:=h
 obtain⟨x,Z1,G1,e1,eq1⟩:=cC eq
 obtain⟨y,Z2,G2,e2,eq2⟩:=cC eq1
 have eq2:bW p p' [x,y] Z2 G2=some (e,Z',G'):=eq2
 unfold bW at eq2
 split at eq2
 ·rename_i z hz
  cases eq2
  refine .inl (gN h1 ⟨ι,Z,G,_,_,_,s,?_,k⟩)
  unfold ah
  rw [mR e1,mR e2];exact hz
 ·refine .inr (gN h2 ⟨ι,Z,G,_,_,_,s,?_,k⟩)
  unfold ah
  rw [mR e1,mR e2];exact eq2
end
section
variable {X:Cx}{κ:Str->Addr}{a b:Expr}{fa fb:Mo Ev}{pos:Pos}{k:Nat}
def DB(hr:y54 k X.A)(ha:LE X κ a fa)(hb:LE X κ b fb)(hm:‹behindInMarks .In b=false›):LE X κ (.Compare a [.In] [b] pos) (ah fR fa fb):=.mk (bt (jh (qU se ha.pe hb.pe hm) (Ac (rC (jv hr) ha.pe hb.pe) hm)) λ_ _ _=>oX uT uS)
def DD(hr:y54 k X.A)(ha:LE X κ a fa)(hb:LE X κ b fb)(hm:‹behindInMarks .In b=false›):LT X κ (.Compare a [.In] [b] pos) (ao (ah fR fa fb)):=.mk (iH (t5 (kP se ha.pe hb.pe hm) (kK (rC (jv hr) ha.pe hb.pe) hm)) λ_ _ _ h=>oX uT uS (jy h))
def uU(hr:y54 k X.A)(ha:LE X κ a fa)(hb:LE X κ b fb)(hm:‹behindInMarks .NotIn b=false›):LT X κ (.Compare a [.NotIn] [b] pos) (ao (ah dw fa fb)):=.mk (iH (t5 (kP Bt ha.pe hb.pe hm) (kK (AV (jv hr) ha.pe hb.pe) hm)) λ_ _ _ h=>oX DA Dy (jy h))
end
section
variable {K:W.Frag}{κ:Str->Addr}
abbrev aO:List Ev->Mo Ev:=λes Z G=>match es with
 | [a]=>match sq Z G a with
  | some xs=>some (.v (.im (.int xs.length)),Z,G)
  | none=>match a with
   | .v (.im (.str z))=>if z.length≤1000000 then some (.v (.im (.int z.length)),Z,G) else none
   | a=>match pk Z G a with
    | some (.dic kvs)=>some (.v (.im (.int kvs.length)),Z,G)
    | _=>none
 | _=>none
def DE:aD K κ (λxs H Q=>(∃p ys,xs=[.ref p]/\(bL K H p ys∨bq K H p ys)/\Q (.int ys.length) H)∨((∃z,xs=[.str z]/\z.length≤sizeLine/\Q (.int z.length) H)∨(∃a kvs,xs=[V.ref a]/\H a=some (.dK kvs)/\Q (.int kvs.length) H))) aO:=by
 intro ι H σ Z G es vs e Z' G' Q a h k
 unfold aO at h
 split at h
 ·rename_i x
  split at h
  ·rename_i xs hx
   obtain⟨v,rfl⟩:=cq a.len
   obtain⟨p,ys,e1,h1,r⟩:=a.sq (j:=0) rfl rfl hx
   subst e1
   exact .inl ⟨p,ys,rfl,h1,by rw [r.len];exact k _ _ _ (bY h (br a (.int _)))⟩
  ·split at h
   ·split at h
    ·rename_i hz
     obtain⟨v,rfl⟩:=cq a.len
     cases fw (a.im (j:=0) rfl rfl)
     exact .inr (.inl ⟨_,rfl,z1b hz (by decide),k _ _ _ (bY h (br a (.int _)))⟩)
    ·cases h
   ·split at h
    ·rename_i kvs hp
     obtain⟨v,rfl⟩:=cq a.len
     obtain⟨b,e1,ws,hw,e2,r⟩:=a.pk (j:=0) rfl rfl hp
     subst e1
     have e3:kvs.length=ws.length:=by have:=congrArg List.length e2;simpa using this.symm
     exact .inr (.inr ⟨b,ws,rfl,hw,by rw [<- e3];exact k _ _ _ (bY h (br a (.int _)))⟩)
    ·cases h
 ·cases h
abbrev cz:List Ev->Mo Ev:=λes Z G=>match es with
 | [.v (.im (.tup xs))]=>some (.v (.im (.tup xs)),Z,G)
 | [.v (.im (.con xs))]=>some (.v (.im (.con xs)),Z,G)
 | [a]=>match sq Z G a with
  | some xs=>some (.v (.im (.tup xs)),Z,G)
  | none=>none
 | _=>none
def uV{ι:List Addr}{H:Hp}{σ:L2.St}{Z:De}{G:List M}{e:Ev}{v:V}{xs:List I}(a:Args K κ ι H σ Z G [e] [v])(h:sq Z G e=some xs)(n1:∀ys,e≠.v (.im (.tup ys)))(n2:∀ys,e≠.v (.im (.con ys))):∃b ys,v=.ref b/\bL K H b ys/\y56 K ι H ys xs:=by
 have y14f:(match B.pk Z G e with|some (.lst xs)=>some xs|_=>none)=some xs->∃b ys,v=.ref b/\bL K H b ys/\y56 K ι H ys xs:=λq=>by
  split at q
  ·rename_i xs' e'
   cases q
   obtain⟨b,e1,ys,h3,r⟩:=a.pk (j:=0) rfl rfl e'
   exact⟨b,ys,e1,bL.of h3,r⟩
  ·cases q
 cases e with
 | s i=>exact y14f h
 | v x =>
  cases x with
  | ow m=>exact y14f h
  | im d =>
   have r:=a.im (j:=0) rfl rfl
   cases r with
   | tup q r=>exact absurd rfl (n1 _)
   | con q r=>exact absurd rfl (n2 _)
   | fro q r=>cases h;exact⟨_,_,rfl,q.sq,r⟩
   | ref q=>exact y14f h
   | non=>exact y14f h
   | bl=>exact y14f h
   | int=>exact y14f h
   | str=>exact y14f h
   | ty=>exact y14f h
def DF:aD K κ (λxs H Q=>∃p ys,xs=[.ref p]/\((bL K H p ys/\∀l,H l=none->Q (.ref l) (upd H l (.tup ys)))∨(bq K H p ys/\Q (.ref p) H))) cz:=by
 intro ι H σ Z G es vs e Z' G' Q a h k
 unfold cz at h
 split at h
 ·obtain⟨v,rfl⟩:=cq a.len
  have r:=a.im (j:=0) rfl rfl
  obtain⟨_,_,rfl,h1,h2⟩:=jw r
  exact⟨_,_,rfl,.inr ⟨bq.of h1,k _ _ _ (bY h (br a (.tup h1 h2)))⟩⟩
 ·obtain⟨v,rfl⟩:=cq a.len
  have r:=a.im (j:=0) rfl rfl
  obtain⟨_,_,rfl,h1,h2⟩:=sS r
  exact⟨_,_,rfl,.inr ⟨bq.kon h1,k _ _ _ (bY h (br a (.con h1 h2)))⟩⟩
 ·rename_i x n1 n2
  split at h
  ·rename_i xs hx
   obtain⟨v,rfl⟩:=cq a.len
   obtain⟨p,ys,e1,h1,r⟩:=uV a hx (λys z=>n1 ys (by rw [z])) (λys z=>n2 ys (by rw [z]))
   subst e1
   exact⟨p,ys,rfl,.inl ⟨h1,λl hl=>k _ _ _ (bY h (lI a hl r))⟩⟩
  ·cases h
 ·cases h
abbrev jK:List Ev->Mo Ev:=λes Z G=>match es with
 | [a]=>match sq Z G a with
  | some xs=>some (.v (.ow (.lst xs)),Z,G)
  | none=>none
 | _=>none
def DH:aD K κ (λxs H Q=>∃p ys,xs=[.ref p]/\(bL K H p ys∨bq K H p ys)/\∀l,H l=none->Q (.ref l) (upd H l (.lst ys))) jK:=by
 intro ι H σ Z G es vs e Z' G' Q a h k
 unfold jK at h
 split at h
 ·split at h
  ·rename_i xs hx
   obtain⟨v,rfl⟩:=cq a.len
   obtain⟨p,ys,e1,h1,r⟩:=a.sq (j:=0) rfl rfl hx
   subst e1
   exact⟨p,ys,rfl,h1,λl hl=>k _ _ _ (bY h (gO a hl r))⟩
  ·cases h
 ·cases h
abbrev gW:List Ev->Mo Ev:=bJ λi j=>some (.int (if j>i then j else i))
def DI{g:Int->Int->Int}:aD K κ (λxs H Q=>∃i j,xs=[.int i,.int j]/\Q (.int (g i j)) H) (bJ λi j=>some (.int (g i j))):=by
 intro ι H σ Z G es vs e Z' G' Q a h k
 obtain⟨x,y,e1,i,j,e2,e3,q⟩:=iJ (λi j d h ι H=>by cases h;exact .int _) ι H σ Z G es vs e Z' G' Q a h k
 exact⟨i,j,by rw [e1,e2,e3],q⟩
abbrev fE:Ev->Bool
 | .v (.im (.tup _))=>false
 | .v (.im (.con _))=>false
 | _=>true
abbrev iM:List Ev->Mo Ev:=λes Z G=>match es with
 | [a]=>if fE a then match sq Z G a with
  | some xs=>some (.v (.ow (.lst xs.reverse)),Z,G)
  | none=>none
  else none
 | _=>none
def DJ:aD K κ (r1 λx H1 Q=>∃l ys,x=.ref l/\bL K H1 l ys/\∀p,H1 p=none->Q (.ref p) (upd H1 p (.lst ys.reverse))) iM:=by
 intro ι H σ Z G es vs e Z' G' Q a h k
 unfold iM at h
 split at h
 ·rename_i x
  split at h
  ·rename_i hl
   split at h
   ·rename_i xs hx
    obtain⟨v,rfl⟩:=cq a.len
    obtain⟨p,ys,e1,h1,r⟩:=uV a hx (λys z=>by subst z;cases hl) (λys z=>by subst z;cases hl)
    subst e1
    exact⟨_,rfl,p,ys,rfl,h1,λl hl=>k _ _ _ (bY h (gO a hl r.rev))⟩
   ·cases h
  ·cases h
 ·cases h
end
section
variable {X:Cx}{κ:Str->Addr}{a b e:Expr}{es:List Expr}{fa fb:Mo Ev}{fs:Mo (List Ev)}{p pos:Pos}{k:Nat}
def uW(hr:y54 k X.A)(hm:X.mg "len" = none)(ha:LA X κ (e::es) fs)(hg:‹Gl X "len"›)(he:‹gI X e es›)(hpl:‹gB X pos es›):LE X κ (.Call (.Name "len" p) (e::es) [] pos) (bd fs aO):=.mk (bt (jm (ya8.or (ya9.or ya7)) hg hm PySem.boot_len ha.pe (by decide) (by decide) he hpl) λ_ _ _ q=>gc DE q)
def DK(hr:y54 k X.A)(hm:X.mg "tuple" = none)(ha:LA X κ (e::es) fs)(hg:‹Gl X "tuple"›)(he:‹gI X e es›)(hpl:‹gB X pos es›):LE X κ (.Call (.Name "tuple" p) (e::es) [] pos) (bd fs cz):=.mk (bt (nN yad hg hm PyProof.Rows.boot_tuple ha.pe (by decide) (by decide) he hpl) λ_ _ _ q=>gc DF q)
def DL(hr:y54 k X.A)(hm:X.mg "list" = none)(ha:LA X κ (e::es) fs)(hg:‹Gl X "list"›)(he:‹gI X e es›)(hpl:‹gB X pos es›):LE X κ (.Call (.Name "list" p) (e::es) [] pos) (bd fs jK):=.mk (bt (nN yaa hg hm PyProof.Rows.boot_list ha.pe (by decide) (by decide) he hpl) λ_ _ _ q=>gc DH q)
def DM(hr:y54 k X.A)(hm:X.mg "max" = none)(ha:LA X κ (e::es) fs)(hg:‹Gl X "max"›)(hc:‹X.calm=true›)(he:‹gI X e es›)(hpl:‹gB X pos es›):LE X κ (.Call (.Name "max" p) (e::es) [] pos) (bd fs gW):=.mk (bt (jm (yac hc) hg hm PyProof.Rows.boot_max ha.pe (by decide) (by decide) he hpl) λ_ _ _ q=>gc DI q)
def DN(hl:X.mg "list" = none)(hv:X.mg "reversed" = none)(h:LE X κ e fa)(hc:‹X.calm=true›)(gl:‹Gl X "list"›)(gr:‹Gl X "reversed"›)(hs1:‹starEach [e] X.env=[(false,eval e X.env)]›)
  (hs2:‹starEach [.Call (.Name "reversed" p2) [e] [] q2] X.env=[(false,eval (.Call (.Name "reversed" p2) [e] [] q2) X.env)]›):LE X κ (.Call (.Name "list" p1) [.Call (.Name "reversed" p2) [e] [] q2] [] q1) (cY iM fa):=.mk (bt (BK hc gl hl gr hv h.pe hs1 hs2) λ_ _ _ q=>lH DJ q)
end
end
section
section
variable {X:Cx}{K:W.Frag}{κ:Str->Addr}{ι:List Addr}{H:Hp}{σ:L2.St}
abbrev aZ:Mo (List Ev):=rt []
abbrev aW(f:Mo Ev):Mo (List Ev):=one f
abbrev lZ:List Ev->Option (Option Int)
 | []=>some none
 | [.v (.im (.int i))]=>some (some i)
 | _=>none
abbrev p8(K:W.Frag)(κ:Str->Addr)(f:Mo (List Ev)):TO:=λσ H Q=>∃ι Z G es o Z' G',SR K κ ι H σ Z G/\f Z G=some (es,Z',G')/\lZ es=some o/\∀vs ι' H',After K κ σ ι (own σ Z++ι) H es Z' G' vs ι' H'->Q o H'
def DO:PO X none (p8 X.K κ aZ):=λpins s σ H Q I h=>nQ pins s σ H Q I (by
 obtain⟨ι,Z,G,es,o,Z',G',s,e,p,k⟩:=h
 cases e;cases p
 exact k _ _ _ (After.nil s))
def DP (h:LE X κ e f):PO X (some e) (p8 X.K κ (aW f)):=λpins s σ H Q I q=>rN h.pe pins s σ H Q I (by
 obtain⟨ι,Z,G,es,o,Z',G',s,e,p,k⟩:=q
 obtain⟨x,Z1,G1,e1,e2⟩:=cC e
 cases e2
 refine⟨ι,Z,G,x,_,_,s,e1,λv ι1 H1 a=>?_⟩
 unfold lZ at p
 split at p
 ·rename_i hq;cases hq
 ·rename_i i hq
  cases p
  cases hq
  have r:=a.ar.im (j:=0) rfl rfl
  cases dW (r)
  exact⟨i,rfl,k _ _ _ a⟩
 ·cases p)
abbrev dy(xs:List I)(lo hi:Option Int):List I:=(xs.drop (HT.sIx xs.length 0 lo)).take (HT.sIx xs.length xs.length hi-HT.sIx xs.length 0 lo)
def y56.cut{vs:List V}{xs:List I}(r:y56 K ι H vs xs)(lo hi:Option Int):y56 K ι H (jr vs lo hi) (dy xs lo hi):=by
 unfold jr dy
 rw [r.len]
 exact (r.drop _).take _
abbrev gX(lo hi:Option Int):List Ev->Mo Ev:=λes Z G=>match es with
 | .v (.im (.tup xs))::_=>some (.v (.im (.tup (dy xs lo hi))),Z,G)
 | .v (.im (.str z))::_=>if z.length≤1000000 then some (.v (.im (.str (Txt.slice z lo hi))),Z,G) else none
 | a::_=>if fE a then match sq Z G a with
  | some xs=>some (.v (.ow (.lst (dy xs lo hi))),Z,G)
  | none=>none
  else none
 | _=>none
abbrev a7(fe:Mo Ev)(fl fh:Mo (List Ev)):Mo Ev:=bd fe λx=>bd fl λls=>bd fh λhs=>λZ G=>match lZ ls,lZ hs with
 | some lo,some hi=>gX lo hi (x::(ls++hs)) Z G
 | _,_=>none
def uX{Z:De}{G:List M}{e:Ev}{es:List Ev}{v:V}{vs:List V}{xs:List I}(a:Args K κ ι H σ Z G (e::es) (v::vs))(h:sq Z G e=some xs)(n:fE e=true):∃b ys,v=.ref b/\bL K H b ys/\y56 K ι H ys xs:=by
 have y14f:(match B.pk Z G e with|some (.lst xs)=>some xs|_=>none)=some xs->∃b ys,v=.ref b/\bL K H b ys/\y56 K ι H ys xs:=λq=>by
  split at q
  ·rename_i xs' e'
   cases q
   obtain⟨b,e1,ys,h3,r⟩:=a.pk (j:=0) rfl rfl e'
   exact⟨b,ys,e1,bL.of h3,r⟩
  ·cases q
 cases e with
 | s i=>exact y14f h
 | v x =>
  cases x with
  | ow m=>exact y14f h
  | im d =>
   have r:=a.im (j:=0) rfl rfl
   cases r with
   | tup q r=>cases n
   | con q r=>cases n
   | fro q r=>cases h;exact⟨_,_,rfl,q.sq,r⟩
   | ref q=>exact y14f h
   | non=>exact y14f h
   | bl=>exact y14f h
   | int=>exact y14f h
   | str=>exact y14f h
   | ty=>exact y14f h
abbrev DQ(K:W.Frag):V->Option Int->Option Int->Hp->VK->Prop:=λx lo hi H Q=>rW K x lo hi H Q∨(sP x lo hi H Q∨sI x lo hi H Q)
def DR{fe:Mo Ev}{fl fh:Mo (List Ev)}{Q:VK}(h:bE K κ (a7 fe fl fh) σ H Q):tSl (DQ K) (bE K κ fe) (p8 K κ fl) (p8 K κ fh) σ H Q:=by
 obtain⟨ι,Z,G,e,Z',G',s,eq,k⟩:=h
 obtain⟨x,Z1,G1,e1,eq1⟩:=cC eq
 obtain⟨ls,Z2,G2,e2,eq2⟩:=cC eq1
 obtain⟨hs,Z3,G3,e3,eq3⟩:=cC eq2
 split at eq3
 ·rename_i lo hi hlo hhi
  refine⟨ι,Z,G,x,Z1,G1,s,e1,λv ι1 H1 a1=>?_⟩
  refine⟨ι1,Z1,G1,ls,lo,Z2,G2,a1.ar.base,e2,hlo,λvs ι2 H2 a2=>?_⟩
  refine⟨ι2,Z2,G2,hs,hi,Z3,G3,a2.ar.base,e3,hhi,λws ι3 H3 a3=>?_⟩
  have a23:=a2.app a3
  have a:=a1.app a23
  have fin:∀{v':V} {ι':List Addr} {H':Hp},After K κ σ ι3 (own (σ++tS ([x]++(ls++hs)) ([v]++(vs++ws))) (Z3++tD ([x]++(ls++hs)))++ι3) H3 [e] Z' G' [v'] ι' H'->Q v' H':=λb=>k _ _ _ (a.then b)
  have ar:Args K κ ι3 H3 σ Z3 G3 (x::(ls++hs)) (v::(vs++ws)):=a.ar
  unfold gX at eq3
  split at eq3
  ·rename_i xs aU hq
   cases hq
   have r:=ar.im (j:=0) rfl rfl
   obtain⟨_,_,rfl,h1,h2⟩:=jw r
   refine .inr (.inl ⟨_,_,rfl,h1,λb H' hb kp=>?_⟩)
   exact fin (bY eq3 (tf a.ar kp (.tup hb ((h2.cut lo hi).mono (cb.refl _) (Kp.same kp)))))
  ·rename_i z aU hq
   cases hq
   split at eq3
   ·rename_i hz
    cases fw (ar.im (j:=0) rfl rfl)
    exact .inr (.inr ⟨z,rfl,z1b hz (by decide),fin (bY eq3 (br a.ar (.str _)))⟩)
   ·cases eq3
  ·rename_i a0 aU _ _ hq
   cases hq
   split at eq3
   ·rename_i hn
    split at eq3
    ·rename_i xs hx
     obtain⟨b,ys,e4,h1,r⟩:=uX ar hx hn
     exact .inl ⟨b,ys,e4,h1,λp hp=>fin (bY eq3 (gO a.ar hp (r.cut lo hi)))⟩
    ·cases eq3
   ·cases eq3
  ·cases eq3
 ·cases eq3
abbrev dM:List Ev->Mo Ev:=λes Z G=>match es with
 | [.v (.im (.tup xs))]=>some (.v (.im (.tup xs.reverse)),Z,G)
 | [a]=>if fE a then match sq Z G a with
  | some xs=>some (.v (.ow (.lst xs.reverse)),Z,G)
  | none=>none
  else none
 | _=>none
def nX(xs:List V):fY xs none none (some (-1))=xs.reverse:=by
 obtain⟨h1,h2⟩:=B4 xs
 refine List.ext_getElem? λj=>?_
 by_cases hj:j<xs.length
 ·rw [h2 j hj,List.getElem?_reverse hj]
 ·rw [List.getElem?_eq_none_iff.mpr (by lia),List.getElem?_eq_none_iff.mpr (by rw [z30];lia)]
def DS{fe:Mo Ev}{tk:TO}{Q:VK}(htk:∀σ H Q,Q (some (-1)) H->tk σ H Q)(h:bE K κ (cY dM fe) σ H Q):sN K (bE K κ fe) σ H Q∨sQ K (bE K κ fe) nP nP tk σ H Q:=by
 obtain⟨ι,Z,G,e,Z',G',s,eq,k⟩:=h
 obtain⟨x,Z1,G1,e1,eq1⟩:=cC eq
 unfold dM at eq1
 split at eq1
 ·rename_i xs hq
  cases hq
  refine .inl ⟨ι,Z,G,_,_,_,s,e1,λv ι1 H1 a=>?_⟩
  have r:=a.ar.im (j:=0) rfl rfl
  obtain⟨_,_,rfl,h1,h2⟩:=jw r
  exact⟨_,_,rfl,bq.of h1,λp hp=>k _ _ _ (bY eq1 (a.then (lI a.ar hp h2.rev)))⟩
 ·rename_i a0 _ hq
  cases hq
  split at eq1
  ·rename_i hn
   split at eq1
   ·rename_i xs hx
    refine .inr ⟨ι,Z,G,_,_,_,s,e1,λv ι1 H1 a=>?_⟩
    refine htk _ _ _ ?_
    obtain⟨b,ys,e6,h1,r⟩:=uX a.ar hx hn
    refine⟨b,ys,e6,h1,(by decide),λp hp=>?_⟩
    rw [nX]
    exact k _ _ _ (bY eq1 (a.then (gO a.ar hp r.rev)))
   ·cases eq1
  ·cases eq1
 ·cases eq1
end
section
variable {X:Cx}{κ:Str->Addr}{a b e st:Expr}{fa fb:Mo Ev}{fl fh:Mo (List Ev)}{lo hi:Option Expr}{pos p2:Pos}{k:Nat}
def uY(h:LE X κ e fa)(hl:PO X lo (p8 X.K κ fl))(hh:PO X hi (p8 X.K κ fh)):LE X κ (.Subscript e (.Slice lo hi none p2) pos) (a7 fa fl fh):=.mk (bt (Bd (Br.or (BZ.or BN)) h.pe hl hh) λ_ _ _=>DR)
def uZ{pu pc:Pos}{j}(h:LE X κ e fa):LE X κ (.Subscript e (.Slice none none (some (.UnaryOp .USub (.Constant (.int 1) j pc) pu)) p2) pos) (cY dM fa):=.mk (bt (jh (BW h.pe (nH nK nr) λ_ _ _ q=>⟨1,rfl,q⟩) (B1 h.pe nQ nQ (nH nK nr))) λ_ _ _ q=>DS (λ_ _ _ q=>⟨1,rfl,⟨_,rfl,q⟩⟩) q)
end
end
section
section
variable {X:Cx}{K:W.Frag}{κ:Str->Addr}{ι:List Addr}{H:Hp}{σ:L2.St}
abbrev gm(Z:De)(G:List M)(e:Ev):Bool:=match pk Z G e with
 | some (.lst _)=>true
 | _=>false
abbrev gn(p:List Ev->Mo Ev)(fo:Mo Ev)(fa:Mo (List Ev)):Mo Ev:=bd fo λe=>λZ G=>if gm Z G e then bd fa (λes=>p (e::es)) Z G else none
abbrev rM(r:V->List V->Hp->VK->Prop):List V->Hp->VK->Prop:=λvs H Q=>∃x xs,vs=x::xs/\r x xs H Q
def u3{Z:De}{G:List M}{e:Ev}{v:V}{fp:List Addr}{H0:Hp}{ι0:List Addr}(a:After K κ σ ι0 fp H0 [e] Z G [v] ι H)(h:gm Z G e=true):yQ K "list" v H:=by
 unfold gm at h
 split at h
 ·rename_i xs hp
  obtain⟨b,e1,ys,h1,r⟩:=a.ar.pk (j:=0) rfl rfl hp
  subst e1
  exact .inl ⟨rfl,ys,bL.of h1⟩
 ·cases h
def u4{p:List Ev->Mo Ev}{fo:Mo Ev}{fa:Mo (List Ev)}{r:V->List V->Hp->VK->Prop}{Q:VK}(hp:aD K κ (rM r) p)(h:bE K κ (gn p fo fa) σ H Q):Bu K "list" r (bE K κ fo) (gb K κ fa) σ H Q:=by
 obtain⟨ι,Z,G,e,Z',G',s,eq,k⟩:=h
 obtain⟨x,Z1,G1,e1,eq1⟩:=cC eq
 split at eq1
 ·rename_i hl
  obtain⟨es,Z2,G2,e2,eq2⟩:=cC eq1
  refine⟨ι,Z,G,x,Z1,G1,s,e1,λv ι1 H1 a1=>⟨u3 a1 hl,?_⟩⟩
  refine⟨ι1,Z1,G1,es,Z2,G2,a1.ar.base,e2,λvs ι2 H2 a2=>?_⟩
  have a:=a1.app a2
  obtain⟨y,ys,ey,q⟩:=hp _ _ _ _ _ _ _ _ _ _ Q a.ar eq2 λv ι3 H3 d=>k _ _ _ (a.then d)
  cases ey
  exact q
 ·cases eq1
def DT{p:List Ev->Mo Ev}{fo:Mo Ev}{r:V->List V->Hp->VK->Prop}{Q:VK}(hp:aD K κ (rM r) p)(hl:∀e Z G z,p [e] Z G=some z->gm Z G e=true)(h:bE K κ (cY p fo) σ H Q):si K "list" r (bE K κ fo) σ H Q:=by
 obtain⟨ι,Z,G,e,Z',G',s,eq,k⟩:=h
 obtain⟨x,Z1,G1,e1,eq1⟩:=cC eq
 refine⟨ι,Z,G,x,Z1,G1,s,e1,λv ι1 H1 a1=>⟨u3 a1 (hl _ _ _ _ eq1),?_⟩⟩
 obtain⟨y,ys,ey,q⟩:=hp _ _ _ _ _ _ _ _ _ _ Q a1.ar eq1 λv ι3 H3 d=>k _ _ _ (a1.then d)
 cases ey
 exact q
abbrev ik:List Ev->Mo Ev:=λes Z G=>match es with
 | [a,.v (.im d)]=>match pk Z G a with
  | some (.lst xs)=>if xs.length<1000000 then some (.v (.im .non),(ig Z G (.lst (xs++[d])) a).1,(ig Z G (.lst (xs++[d])) a).2) else none
  | _=>none
 | _=>none
def DU:aD K κ (rM sj) ik:=by
 intro ι H σ Z G es vs e Z' G' Q a h k
 unfold ik at h
 split at h
 ·rename_i x d
  split at h
  ·rename_i xs hx
   split at h
   ·rename_i hl
    obtain⟨v,u,rfl⟩:=bO a.len
    obtain⟨b,e1,ys,h1,r⟩:=a.pk (j:=0) rfl rfl hx
    subst e1
    have ru:=a.im (j:=1) rfl rfl
    have l1:=r.len
    refine⟨_,_,rfl,b,ys,u,rfl,rfl,h1,z1c (by lia) (show 1000000≤sizeLine by decide),k _ _ _ (bY h (lJ a (j:=0) rfl rfl hx (λ_ kp=>⟨_,a8,(r.app (.cons ru .nil)).mono (cb.refl _) kp⟩) .non))⟩
   ·cases h
  ·cases h
 ·cases h
noncomputable def fF:List Ev->Mo Ev:=λes Z G=>match es with
 | [a,b]=>match pk Z G a,sq Z G b with
  | some (.lst xs),some ys=>if xs.length+ys.length≤1000000/\notC b then some (.v (.im .non),(ig Z G (.lst (xs++ys)) a).1,(ig Z G (.lst (xs++ys)) a).2) else none
  | _,_=>none
 | _=>none
where notC:Ev->Bool
 | .v (.im (.fro _))=>false
 | _=>true
def DV:aD K κ (rM λx xs H Q=>su x xs H Q∨sO K x xs H Q) fF:=by
 intro ι H σ Z G es vs e Z' G' Q a h k
 unfold fF at h
 split at h
 ·rename_i x y
  split at h
  ·rename_i xs ys hx hy
   split at h
   ·rename_i hl
    obtain⟨v,u,rfl⟩:=bO a.len
    obtain⟨b,e1,zs,h1,r⟩:=a.pk (j:=0) rfl rfl hx
    subst e1
    have l1:=r.len
    have ty:(∃c ws,u=.ref c/\H c=some (.lst ws)/\y56 K ι H ws ys)∨(∃c ws,u=.ref c/\bq K H c ws/\y56 K ι H ws ys):=by
     have y14f:(match B.pk Z G y with|some (.lst xs)=>some xs|_=>none)=some ys->∃c ws,u=.ref c/\H c=some (.lst ws)/\y56 K ι H ws ys:=λq=>by
      split at q
      ·rename_i xs' e'
       cases q
       obtain⟨b,e1,ws,h3,r⟩:=a.pk (j:=1) rfl rfl e'
       exact⟨b,ws,e1,h3,r⟩
      ·cases q
     cases y with
     | s i=>exact .inl (y14f hy)
     | v z =>
      cases z with
      | ow m=>exact .inl (y14f hy)
      | im d =>
       have r:=a.im (j:=1) rfl rfl
       cases r with
       | tup q r=>cases hy;exact .inr ⟨_,_,rfl,bq.of q,r⟩
       | con q r=>cases hy;exact .inr ⟨_,_,rfl,bq.kon q,r⟩
       | fro q r=>cases hl.2
       | ref q=>exact .inl (y14f hy)
       | non=>exact .inl (y14f hy)
       | bl=>exact .inl (y14f hy)
       | int=>exact .inl (y14f hy)
       | str=>exact .inl (y14f hy)
       | ty=>exact .inl (y14f hy)
    have fin:∀{ws:List V},y56 K ι H ws ys->Q .non (upd H b (.lst (zs++ws))):=λrw'=>k _ _ _ (bY h (lJ a (j:=0) rfl rfl hx (λ_ kp=>⟨_,a8,(r.app rw').mono (cb.refl _) kp⟩) .non))
    rcases ty with⟨c,ws,rfl,hc,r2⟩| ⟨c,ws,rfl,hc,r2⟩
    ·have l2:=r2.len
     exact⟨_,_,rfl,.inl ⟨b,c,zs,ws,rfl,rfl,h1,hc,z1b (by lia) (show 1000000≤sizeLine by decide),fin r2⟩⟩
    ·have l2:=r2.len
     exact⟨_,_,rfl,.inr ⟨b,c,zs,ws,rfl,rfl,h1,hc,z1b (by lia) (show 1000000≤sizeLine by decide),fin r2⟩⟩
   ·cases h
  ·cases h
 ·cases h
abbrev fG:List Ev->Mo Ev:=λes Z G=>match es with
 | [a]=>match pk Z G a with
  | some (.lst xs)=>match xs[xs.length-1]? with
   | some d=>some (.v (.im d),(ig Z G (.lst xs.dropLast) a).1,(ig Z G (.lst xs.dropLast) a).2)
   | none=>none
  | _=>none
 | _=>none
theorem y56.dropLast{vs:List V}{xs:List I}(r:y56 K ι H vs xs):y56 K ι H vs.dropLast xs.dropLast:=by
 rw [List.dropLast_eq_take,List.dropLast_eq_take,r.len]
 exact r.take _
def DW:aD K κ (rM sv) fG:=by
 intro ι H σ Z G es vs e Z' G' Q a h k
 unfold fG at h
 split at h
 ·rename_i x
  split at h
  ·rename_i xs hx
   split at h
   ·rename_i d hd
    obtain⟨v,rfl⟩:=cq a.len
    obtain⟨b,e1,ys,h1,r⟩:=a.pk (j:=0) rfl rfl hx
    subst e1
    obtain⟨w,hw,rw'⟩:=r.get hd
    refine⟨_,_,rfl,b,ys,w,rfl,rfl,h1,by rw [r.len];exact hw,k _ _ _ (bY h (lJ a (j:=0) rfl rfl hx (λ_ kp=>⟨_,a8,r.dropLast.mono (cb.refl _) kp⟩) rw'))⟩
   ·cases h
  ·cases h
 ·cases h
def DX(e:Ev)(Z:De)(G:List M)(z:Ev×De×List M)(h:fG [e] Z G=some z):gm Z G e=true:=by
 unfold fG at h
 dsimp only at h
 unfold gm
 split at h
 ·rfl
 ·cases h
abbrev l6:List Ev->De->List M->Option (De×List M):=λes Z G=>match es with
 | [.v (.im d),a,.v (.im x)]=>match pk Z G a with
  | some (.lst xs)=>match x with
   | .int i=>match gC xs.length i with
    | some j=>some (ig Z G (.lst (xs.set j d)) a)
    | none=>none
   | _=>none
  | some (.dic kvs)=>match dv x with
   | some k=>if kvs.length<1000000 then some (ig Z G (.dic (cT kvs k d)) a) else none
   | none=>none
  | some (.dit kvs)=>match jJ x with
   | some k=>if kvs.length<1000000 then some (ig Z G (.dit (cT kvs k d)) a) else none
   | none=>none
  | _=>none
 | _=>none
abbrev cM(fo fi fv:Mo Ev):SF:=λZ G=>match bd fv (λv=>bd fo λo=>bd fi λi=>rt [v,o,i]) Z G with
 | some (es,Z1,G1)=>match l6 es Z1 G1 with
  | some (Z2,G2)=>some (.nx Z2 G2)
  | none=>none
 | none=>none
def DY{fo fi fv:Mo Ev}{D:Ends}(h:dj K κ (cM fo fi fv) D σ H):fV (bE K κ fv) (qF (bE K κ fo) (bE K κ fi) rV) D σ H∨rB (bE K κ fo) (bE K κ fi) (bE K κ fv) D σ H:=by
 obtain⟨ι,Z,G,fl,s,eq,k⟩:=h
 unfold cM at eq
 split at eq
 ·rename_i es Ze Ge ee
  obtain⟨v,Z1,G1,e1,ee⟩:=cC ee
  obtain⟨o,Z2,G2,e2,ee⟩:=cC ee
  obtain⟨i,Z3,G3,e3,ee⟩:=cC ee
  cases ee
  split at eq
  ·rename_i Z4 G4 e4
   cases eq
   have go:∀{vv ov iv:V} {ι3:List Addr} {H3:Hp},After K κ σ ι (own σ Z++ι) H [v,o,i] Ze Ge [vv,ov,iv] ι3 H3 ->
     (∃p xs kk j,ov=.ref p/\iv=.int kk/\H3 p=some (.lst xs)/\gC xs.length kk=some j/\D.nx σ (upd H3 p (.lst (xs.set j vv))))∨(∃a H4,ov=.ref a/\yf H3 a iv vv H4/\D.nx σ H4):=λ{vv ov iv ι3 H3} a=>by
    unfold l6 at e4
    split at e4
    ·rename_i d a0 x hq
     cases hq
     have rv:=a.ar.im (j:=0) rfl rfl
     have rx:=a.ar.im (j:=2) rfl rfl
     have nxt:∀{m m':M} {b:Addr} {ob:HO},sU m=false->pk Ze Ge o=some m->ov=.ref b->(dm K κ ι3 H3 b m->Kp H3 (upd H3 b ob)->dm K κ ι3 (upd H3 b ob) b m')->(ig Ze Ge m' o=(Z4,G4))->D.nx σ (upd H3 b ob):=λhf hp eo hr he=>by
      subst eo
      have f:=lJ a.ar (j:=1) rfl rfl hp hr (RpI.non) hf
      obtain⟨p,q⟩:=(a.then f).drop
      rw [he] at p q
      exact k _ _ _ p q
     split at e4
     ·rename_i xs hp
      cases rx with
      | int kk =>
       dsimp only at e4
       split at e4
       ·rename_i j hj
        obtain⟨b,eb,ys,h1,r⟩:=a.ar.pk (j:=1) rfl rfl hp
        have l:=r.len
        exact .inl ⟨b,ys,kk,j,eb,rfl,h1,by rw [l];exact hj,nxt (m':=.lst (xs.set j d)) rfl hp eb (λ_ kp=>⟨_,a8,(r.set j rv).mono (cb.refl _) kp⟩) (z1f e4)⟩
       ·cases e4
      | _=>cases e4
     ·rename_i kvs hp
      split at e4
      ·rename_i kk hk
       split at e4
       ·rename_i hl
        obtain⟨b,eb,ws,h1,h2,r⟩:=a.ar.pk (j:=1) rfl rfl hp
        have ek:=lY rx hk
        subst ek
        have l:ws.length=kvs.length:=by have:=congrArg List.length h2;simpa using this
        refine .inr ⟨b,_,eb,yf.k h1 (z1c (by lia) (show 1000000≤sizeLine by decide)),nxt rfl hp eb (λ_ kp=>?_) (z1f e4)⟩
        obtain⟨p,q⟩:=oU rv h2 r
        exact⟨_,a8,p,q.mono (cb.refl _) kp⟩
       ·cases e4
      ·cases e4
     ·rename_i kvs hp
      split at e4
      ·rename_i kk hk
       split at e4
       ·rename_i hl
        obtain⟨b,eb,ws,h1,h2,r⟩:=a.ar.pk (j:=1) rfl rfl hp
        obtain⟨c,ek,hc⟩:=uP rx hk
        subst ek
        have l:ws.length=kvs.length:=by have:=congrArg List.length h2;simpa using this
        refine .inr ⟨b,_,eb,yf.t h1 hc (z1c (by lia) (show 1000000≤sizeLine by decide)),nxt rfl hp eb (λ_ kp=>?_) (z1f e4)⟩
        obtain⟨p,q⟩:=oU (k:=kk) rv h2 r
        exact⟨_,a8,p,q.mono (cb.refl _) kp⟩
       ·cases e4
      ·cases e4
     ·cases e4
    ·cases e4
   by_cases hl:∃xs,pk Ze Ge o=some (.lst xs)
   ·left
    refine⟨ι,Z,G,v,Z1,G1,s,e1,λvv ι1 H1 a1=>?_⟩
    refine⟨ι1,Z1,G1,o,Z2,G2,a1.ar.base,e2,λov ι2 H2 a2=>?_⟩
    refine⟨ι2,Z2,G2,i,_,_,a2.ar.base,e3,λiv ι3 H3 a3=>?_⟩
    have a:=a1.app (a2.app a3)
    rcases go a with q|⟨a',H4,ea,dp,q⟩
    ·exact q
    ·exfalso
     obtain⟨xs,hx⟩:=hl
     obtain⟨b,eb,ys,h1,r⟩:=a.ar.pk (j:=1) rfl rfl hx
     rw [ea] at eb;cases eb
     rcases dp with⟨_,_,h2,_⟩| ⟨_,_,_,h2,_⟩<;>(rw [h1] at h2;cases h2)
   ·right
    refine⟨ι,Z,G,v,Z1,G1,s,e1,λvv ι1 H1 a1=>?_⟩
    refine⟨ι1,Z1,G1,o,Z2,G2,a1.ar.base,e2,λov ι2 H2 a2=>?_⟩
    refine⟨ι2,Z2,G2,i,_,_,a2.ar.base,e3,λiv ι3 H3 a3=>?_⟩
    have a:=a1.app (a2.app a3)
    rcases go a with⟨p,xs,kk,j,eo,_,h1,_,_⟩| q
    ·exfalso
     unfold l6 at e4
     split at e4
     ·rename_i d a0 x hq
      cases hq
      split at e4
      ·rename_i ys hp;exact hl ⟨ys,hp⟩
      ·rename_i kvs hp
       obtain⟨b,eb,ws,h2,_⟩:=a.ar.pk (j:=1) rfl rfl hp
       rw [eo] at eb;cases eb
       rw [h1] at h2;cases h2
      ·rename_i kvs hp
       obtain⟨b,eb,ws,h2,_⟩:=a.ar.pk (j:=1) rfl rfl hp
       rw [eo] at eb;cases eb
       rw [h1] at h2;cases h2
      ·cases e4
     ·cases e4
    ·exact q
  ·cases eq
 ·cases eq
end
section
variable {X:Cx}{κ:Str->Addr}{a b e o:Expr}{es:List Expr}{fa fb fv:Mo Ev}{fs:Mo (List Ev)}{pos apos yce pos':Pos}{k:Nat}
def DZ(hr:y54 k X.A)(ho:LE X κ o fa)(ha:LA X κ (e::es) fs)(y186:‹attributeBase o "append" X.env (eval o X.env)=eval o X.env›)
  (y18d:‹((backTo yce (starEach (e::es) X.env)).all (λx=>!x.1)&&(backToKw yce (keywordEach [] X.env)).all (λx=>x.1.isSome)&&decide ((e::es).length+([]:List Keyword).length+(if ([]:List Keyword).isEmpty then 0 else 1)<30))=true›)
  (y192:‹(apos.endLine == yce.line)=true›) (hs:‹starEach (e::es) X.env=(false,eval e X.env)::starEach es X.env›) (y194:‹(backTo yce (starEach es X.env)).any (·.1)=false›):LE X κ (.Call (.Attribute o "append" apos) (e::es) [] yce) (gn ik fa fs):=.mk (bt (nR PySem.F.plainAttrs_list PySem.F.slot_list_append PySem.F.type_list_append sk ho.pe ha.pe y186 y18d y192 hs y194) λ_ _ _=>u4 DU)
def Ea(hr:y54 k X.A)(ho:LE X κ o fa)(ha:LA X κ (e::es) fs)(y186:‹attributeBase o "extend" X.env (eval o X.env)=eval o X.env›)
  (y18d:‹((backTo yce (starEach (e::es) X.env)).all (λx=>!x.1)&&(backToKw yce (keywordEach [] X.env)).all (λx=>x.1.isSome)&&decide ((e::es).length+([]:List Keyword).length+(if ([]:List Keyword).isEmpty then 0 else 1)<30))=true›)
  (y192:‹(apos.endLine == yce.line)=true›) (hs:‹starEach (e::es) X.env=(false,eval e X.env)::starEach es X.env›) (y194:‹(backTo yce (starEach es X.env)).any (·.1)=false›):LE X κ (.Call (.Attribute o "extend" apos) (e::es) [] yce) (gn fF fa fs):=.mk (bt (nR PySem.F.plainAttrs_list PySem.F.slot_list_extend PySem.F.type_list_extend (mO.or Bx BX) ho.pe ha.pe y186 y18d y192 hs y194) λ_ _ _=>u4 DV)
def Eb(ho:LE X κ o fa)(y186:‹attributeBase o "pop" X.env (eval o X.env)=eval o X.env›)(y192:‹(apos.endLine == yce.line)=true›):LE X κ (.Call (.Attribute o "pop" apos) [] [] yce) (cY fG fa):=.mk (bt (Bv PySem.F.plainAttrs_list PySem.F.slot_list_pop PySem.F.type_list_pop By ho.pe y186 y192) λ_ _ _=>DT DW DX)
def u5(hr:y54 k X.A)(ho:LE X κ o fa)(hi:LE X κ e fb)(hv:LE X κ a fv)(hs:‹swapsWith a (some (.Subscript o e pos')) pos.line X.env=pure false›)(hs1:‹swapsWithSole [.Subscript o e pos'] a pos.line X.env=pure false›)
  (hw:‹swappedStores [.Subscript o e pos'] a X.env=pure none›) (h1:‹(assignEach [.Subscript o e pos'] X.env).map (·.2)=[assign (.Subscript o e pos') X.env]›)
  (ha:∀v,assign (.Subscript o e pos') X.env v=(do
   let ov <- holding [v] (eval o X.env)
   let iv <- holding [v,ov] (eval e X.env)
   standAt pos'
   holding [v,ov,iv] (setItem ov iv v)
   release [v,ov,iv] []):=by intro _;rfl):LS X κ (.Assign [.Subscript o e pos'] a pos) (cM fa fb fv):=.mk (c6 (t6 (fW hv.pe (Ah ho.pe hi.pe jt ha) hs1 hw h1) (AW (jv hr) ho.pe hi.pe hv.pe hs)) λ_ _ _=>DY)
end
end
section
section
variable {X:Cx}{K:W.Frag}{κ:Str->Addr}{ι:List Addr}{H:Hp}{σ:L2.St}
abbrev jL:Mo Ev:=rt (.v (.ow (.dic [])))
abbrev Ec:Mo Ev:=rt (.v (.ow (.dit [])))
def Ed{Q:VK}(h:bE K κ jL σ H Q):rE σ H Q:=by
 obtain⟨ι,Z,G,e,Z',G',s,eq,k⟩:=h
 cases eq
 intro p hp
 have a:=tj (After.nil s).ar hp (m:=.dic []) ⟨[],a8,rfl,.nil⟩
 exact k _ _ _ ⟨a.ar,(After.nil s).st.trans a.st⟩
abbrev u6(K:W.Frag)(κ:Str->Addr)(trs:List (TE×TE))(f:Mo (List Ev)):Prop:=∀σ H Q,gb K κ f σ H (λvs H1=>∀ps:List (V×V),vs=ps.flatMap (λp=>[p.1,p.2])->Q ps H1)->kU trs σ H Q
abbrev gu:Mo (List Ev):=rt []
abbrev cE(fk fv:Mo Ev)(r:Mo (List Ev)):Mo (List Ev):=bd fk λa=>bd fv λb=>bd r λes=>rt (a::b::es)
def Ee:u6 K κ [] gu:=λσ H Q h=>by
 obtain⟨ι,Z,G,es,Z',G',s,e,k⟩:=h
 cases e
 exact k _ _ _ (After.nil s) [] rfl
def Ef{fk fv:Mo Ev}{r:Mo (List Ev)}{trs:List (TE×TE)}(hr:u6 K κ trs r):u6 K κ ((bE K κ fk,bE K κ fv)::trs) (cE fk fv r):=λσ H Q h=>by
 obtain⟨ι,Z,G,es,Z',G',s,e,k⟩:=h
 obtain⟨x,Z1,G1,e1,e⟩:=cC e
 obtain⟨y,Z2,G2,e2,e⟩:=cC e
 obtain⟨zs,Z3,G3,e3,e⟩:=cC e
 cases e
 refine⟨ι,Z,G,x,Z1,G1,s,e1,λv ι1 H1 a1=>?_⟩
 refine⟨ι1,Z1,G1,y,Z2,G2,a1.ar.base,e2,λw ι2 H2 a2=>?_⟩
 refine hr _ _ _ ⟨ι2,Z2,G2,zs,_,_,a2.ar.base,e3,λvs ι3 H3 a3 ps hps=>?_⟩
 exact k _ _ _ (a1.app (a2.app a3)) ((v,w)::ps) (by rw [hps];rfl)
abbrev gY:List Ev->Option (List (aI×I))
 | []=>some []
 | .v (.im x)::.v (.im d)::r=>match dv x,gY r with
  | some k,some ps=>some ((k,d)::ps)
  | _,_=>none
 | _=>none
abbrev gZ(ps:List (aI×I)):List (aI×I):=ps.foldl (λacc kv=>cT acc kv.1 kv.2) []
abbrev m7(f:Mo (List Ev)):Mo Ev:=bd f λes Z G=>match gY es with
 | some ps=>if ps.length≤15 then some (.v (.ow (.dic (gZ ps))),Z,G) else none
 | none=>none
theorem u7:∀{es:List Ev} {vs:List V} {ps:List (aI×I)},Paired (RpE K κ ι H) (tS es vs) (tD es)->es.length=vs.length->gY es=some ps ->
  ∃kvs:List (aI×V),vs=(kvs.map λkv=>(kV kv.1,kv.2)).flatMap (λp=>[p.1,p.2])/\kvs.map (·.1)=ps.map (·.1)/\y56 K ι H (kvs.map (·.2)) (ps.map (·.2))
 | [],[],_,_,_,h=>by cases h;exact⟨[],rfl,rfl,.nil⟩
 | [],_::_,_,_,l,_=>by cases l
 | _::_,[],_,_,l,_=>by cases l
 | [_],[_],_,_,_,h=>by
  unfold gY at h
  split at h
  ·rename_i hq;cases hq
  ·rename_i hq;cases hq
  ·cases h
 | [_],_::_::_,_,_,l,_=>by cases l
 | _::_::_,[_],_,_,l,_=>by cases l
 | a::b::es,v::w::vs,ps,p,l,h=>by
  unfold gY at h
  split at h
  ·rename_i hq;cases hq
  ·rename_i x d r hq
   cases hq
   split at h
   ·rename_i kk ps' hk hps
    cases h
    cases p with
    | cons p1 p =>
     cases p with
     | cons p2 p =>
      cases p1 with
      | im r1 =>
       cases p2 with
       | im r2 =>
        obtain⟨kvs,e1,e2,e3⟩:=u7 p (by simpa using l) hps
        refine⟨(kk,w)::kvs,?_,?_,.cons r2 e3⟩
        ·rw [lY r1 hk,e1];rfl
        ·rw [z16,z16,e2]
   ·cases h
  ·cases h
theorem u9:∀{kvs:List (aI×V)} {ps:List (aI×I)} {acc:List (aI×V)} {ac:List (aI×I)},kvs.map (·.1)=ps.map (·.1)->y56 K ι H (kvs.map (·.2)) (ps.map (·.2))->acc.map (·.1)=ac.map (·.1)->y56 K ι H (acc.map (·.2)) (ac.map (·.2)) ->
  (gJ acc kvs).map (·.1)=(ps.foldl (λacc kv=>cT acc kv.1 kv.2) ac).map (·.1)/\y56 K ι H ((gJ acc kvs).map (·.2)) ((ps.foldl (λacc kv=>cT acc kv.1 kv.2) ac).map (·.2))
 | [],[],_,_,_,_,e,r=>⟨e,r⟩
 | [],_::_,_,_,e,_,_,_=>by cases e
 | _::_,[],_,_,e,_,_,_=>by cases e
 | (k,v)::kvs,(k',d)::ps,acc,ac,e,r,e',r'=>by
  simp only [z16,List.cons.injEq] at e
  obtain⟨e1,e2⟩:=e
  subst e1
  cases r with
  | cons r rs =>
   obtain⟨p,q⟩:=oU r e' r'
   have:=u9 e2 rs p q
   exact this
def Eg{trs:List (TE×TE)}{f:Mo (List Ev)}{Q:VK}(hf:u6 K κ trs f)(h:bE K κ (m7 f) σ H Q):rH trs σ H Q:=by
 obtain⟨ι,Z,G,e,Z',G',s,eq,k⟩:=h
 obtain⟨es,Z1,G1,e1,eq1⟩:=cC eq
 intro p hp
 split at eq1
 ·rename_i ps hps
  split at eq1
  ·rename_i hl
   cases eq1
   have sp:=s.y328 (m:=.dic []) hp ⟨[],a8,rfl,.nil⟩
   have st0:=Step.y1dd (ι:=ι) (Z:=Z) (o:=.dK []) (m:=.dic []) s.len hp
   refine hf _ _ _ ⟨ι,Z,G,es,_,_,sp.pop s.len,e1,λvs ι1 H1 a qs hqs=>?_⟩
   obtain⟨j1,j2⟩:=SR.join (Z1:=Z) sp s.len a.ar.sr a.ar.l a.st
   have hp1:H1 p=some (.dK []):=by
    refine a.st.keep p _ a8 λhm=>?_
    obtain⟨o,ho,_⟩:=s.mu hm
    rw [hp] at ho;cases ho
   obtain⟨kvs,ev,ek,rk⟩:=u7 (cy a.ar.l a.ar.sr.sl).2 a.ar.len hps
   have hq:qs=kvs.map λkv=>(kV kv.1,kv.2):=by
    rw [ev] at hqs
    have inj:∀{l1 l2:List (V×V)},l1.flatMap (λp=>[p.1,p.2])=l2.flatMap (λp=>[p.1,p.2])->l1=l2:=by
     intro l1
     induction l1 with
     | nil=>intro l2 h;cases l2 with
      | nil=>rfl
      | cons x l2=>simp at h
     | cons x l1 ih=>intro l2 h;cases l2 with
      | nil=>simp at h
      | cons y l2 =>
       simp only [List.flatMap_cons,z2a,z29,List.cons.injEq] at h
       obtain⟨h1,h2,h3⟩:=h
       rw [ih h3,Prod.ext h1 h2]
    exact (inj hqs).symm
   have hkl:kvs.length≤15:=by have:=congrArg List.length ek;simp at this;lia
   refine⟨hp1,kvs,hq,hkl,?_⟩
   have l1:=a.ar.l
   have i1:(σ++([some (V.ref p)]++tS es vs))[σ.length]?=some (some (.ref p)):=by rw [z18 (ze _),Nat.sub_self];rfl
   have i2:(Z'++([some (Vl.ow (.dic []))]++tD es))[σ.length]?=some (some (.ow (.dic []))):=by rw [l1,z18 (ze _),Nat.sub_self];rfl
   obtain⟨q1,q2⟩:=j1.poke i1 i2 (m':=.dic (gZ ps)) (λ_ kp=>by
    obtain⟨z1,z2⟩:=u9 (acc:=[]) (ac:=[]) ek rk rfl .nil
    exact⟨_,a8,z1,z2.mono (cb.refl _) kp⟩)
   have e5:∀(Zx:De),σ.length=Zx.length->(Zx++([some (Vl.ow (.dic []))]++tD es)).set σ.length (some (.ow (.dic (gZ ps))))=(Zx++[some (.ow (.dic (gZ ps)))])++tD es:=λZx l=>by
    rw [l,List.set_append_right _ _ (ze _),Nat.sub_self];simp
   rw [e5 _ l1,<- z21 σ] at q1
   rw [e5 _ l1,<- z21 σ] at q2
   rw [<- z21 σ] at j2
   have l2:(σ++[some (V.ref p)]).length=(Z'++[some (Vl.ow (.dic (gZ ps)))]).length:=by rw [za,za,l1];rfl
   refine k _ _ _ ⟨⟨l1,q1.pop l2,.cons (λ_ h=>by cases h) .nil⟩,?_⟩
   exact ((st0.trans j2).trans q2).sub λx hx=>cD l2 hx
  ·cases eq1
 ·cases eq1
abbrev orV(fa fb:Mo Ev):Mo Ev:=bd fa λe=>λZ G=>match gh e Z G with
 | some (true,_,_)=>some (e,Z,G)
 | some (false,_,_)=>fb Z G
 | none=>none
end
section
variable {X:Cx}{κ:Str->Addr}{a b e o:Expr}{es:List Expr}{fa fb fv:Mo Ev}{fs:Mo (List Ev)}{p pos apos:Pos}{k n:Nat}
def Eh:LE X κ (.Dict [] [] pos) jL:=.mk (bt AX λ_ _ _=>Ed)
abbrev LP(X:Cx)(κ:Str->Addr)(pos:Pos)(keys:List (Option Expr))(vals:List Expr)(f:Mo (List Ev)):Prop:=∃trs,rF X pos keys vals trs/\u6 X.K κ trs f
def vc:LP X κ pos [] [] gu:=⟨[],AY,Ee⟩
def ydb (hk:LE X κ a fa)(hv:LE X κ b fb)(hr:LP X κ pos ks vs fs):LP X κ pos (some a::ks) (b::vs) (cE fa fb fs):=let ⟨trs,h1,h2⟩:=hr;⟨_,AZ hk.pe hv.pe h1,Ef h2⟩
def vd (hr:y54 k X.A)(h:LP X κ pos ks vs fs)(y180:‹ks.all (·.isSome)=true›)(hl:‹ks.length=vs.length›)(h0:ks≠[]:=by exact (λz=>nomatch z))(h15:ks.length≤15:=by decide):LE X κ (.Dict ks vs pos) (m7 fs):=.mk (by
 obtain⟨trs,h1,h2⟩:=h
 exact bt (A0 h1 y180 hl h0 h15) λ_ _ _=>Eg h2)
def Ei{K:W.Frag}{σ:L2.St}{H:Hp}{fn:FF}{Q:VK}(h:bE K κ (bd fs (ax n fn)) σ H Q):fg (aT K κ n fn) [] E0 (gb K κ fs) σ H Q:=by
 have:=gc (Cp (E:=E0)) h
 unfold fg
 simpa only [z10] using this
def Ej (h:b8 X.prog X.w X.K X.mg X.base x k ps (aT X.K κ n fn))(hr:y54 k X.A)(ha:LA X κ (e::es) fs)(hg:‹Gl X x›)
  (hdb:(x == ("__debug__" : Str))=false:=by decide) (he:‹gI X e es›) (hpl:‹gB X pos es›):LE X κ (.Call (.Name x p) (e::es) [] pos) (bd fs (ax n fn)):=.mk (bt (BQ h hr hg ha.pe hdb he hpl) λ_ _ _=>Ei)
def ve (hN:X.N.Nodup)(h:LE X κ a fa)(hi:‹X.N[i]?=some x›)(hx:nj X.env.scope x:=by first|exact Or.inl rfl|exact Or.inr rfl)(hs:‹swapsWith a (some (.Name x pos')) pos.line X.env=pure false›)(hf:X.fn x=true∨X.env.scope.names.lookup x=some .local:=by first|exact .inl rfl|exact .inr rfl|assumption):LS X κ (.Assign [.Name x pos'] a pos) (aG fa (aB i)):=.mk (c6 (Ai hN hi hx h.pe hs hf) λD σ H q=>by
 obtain⟨ι,Z,G,e,Z',G',s,eq,kk⟩:=oy q
 exact⟨ι,Z,G,e,Z',G',s,eq,λv ι' H' a=>ot (kk v ι' H' a)⟩)
def vf (h:LE X κ a fa)(hg:LG X κ tg g)(hs:‹swapsWithSole [tg] a pos.line X.env=pure false›)(hw:‹swappedStores [tg] a X.env=pure none›)(h1:‹(assignEach [tg] X.env).map (·.2)=[assign tg X.env]›):LS X κ (.Assign [tg] a pos) (aG fa g):=.mk (c6 (fW h.pe hg.pe hs hw h1) λ_ _ _=>oy)
end
end
section
section
variable {X:Cx}{K:W.Frag}{κ:Str->Addr}{ι:List Addr}{H:Hp}{σ:L2.St}
abbrev aR:List Ev->De->List M->Option Wk:=λes Z G=>match tN es Z G with
 | some w=>some w
 | none=>Cs es Z G
def vg    (h:bF fa p Z G=some (w,es,Z1,G1))(hpq:p es Z1 G1=some w->q es Z1 G1=some w):bF fa q Z G=some (w,es,Z1,G1):=by
 unfold bF at h ⊢
 split at h
 ·rename_i es' Z' G' e
  cases hp:p es' Z' G' with
  | none=>rw [hp] at h;cases h
  | some w' =>
   rw [hp] at h
   cases h
   rw [hpq hp];rfl
 ·cases h
def Ek{f:Mo Ev}{R:It->Hp->Prop}(h:mV K κ (bF (one f) aR) σ H R):qI K (bE K κ f) σ H R∨qJ K (bE K κ f) σ H R:=by
 obtain⟨ι,Z,G,w,es,Z',G',s,eq,k⟩:=h
 by_cases hq:tN es Z' G'=some w
 ·left
  refine tM (oG Cu ⟨ι,Z,G,w,es,Z',G',s,vg eq λ_=>hq,k⟩)
 ·right
  refine tM (oG Cw ⟨ι,Z,G,w,es,Z',G',s,vg eq λhs=>?_,k⟩)
  unfold aR at hs
  split at hs
  ·rename_i w' hw
   exact absurd (hw.trans hs) hq
  ·exact hs
abbrev a9:Mo Bool:=rt true
def El{Q:Bool->Hp->Prop}(h:dG K κ a9 σ H Q):sG σ H Q:=by
 obtain⟨ι,Z,G,b,Z',G',s,eq,k⟩:=h
 cases eq
 exact k _ _ s (Step.refl _ _ _)
end
section
variable {X:Cx}{κ:Str->Addr}{a b c e tg:Expr}{es:List Expr}{fa fb:Mo Ev}{fs:Mo (List Ev)}{fc:Mo Bool}{p pos p0:Pos}{k k0:Nat}{elts:List Expr}
def vh(h:LE X κ a fa):LI X κ tg a (bF (one fa) aR):=.mk (tZ (t7 (An h.pe) (Ao h.pe)) λ_ _ _=>Ek)
def Em(hm:X.mg "range" = none)(ha:LA X κ [a] fs)(hg:‹Gl X "range"›)(hs:‹starEach [a] X.env=[(false,eval a X.env)]›):LI X κ tg (.Call (.Name "range" p) [a] [] pos) (bF fs cZ):=.mk (tZ (Aq hg hm ha.pe hs) λ_ _ _ q=>oG Cr q)
def vi(h:yW X es is)(hc:‹X.calm=true›)(hl:‹(assignEach es X.env).length=is.length›)(hst:‹(assignEach es X.env).findIdx? (·.1)=none›):LG X κ (.Tuple es k0 p) (gP is):=.mk (by
 refine t4 (qE hc h hl hst) λ_ _ _ _=>Cm)
@[irreducible] noncomputable def jM(X:Cx)(κ:Str->Addr)(ifs:List Expr)(f:Mo Bool):Prop:=mP X ifs (dG X.K κ f)
def jM.mk  (h:mP X ifs (dG X.K κ f)):jM X κ ifs f:=by unfold jM;exact h
def jM.pe  (h:jM X κ ifs f):mP X ifs (dG X.K κ f):=by unfold jM at h;exact h
def vm:jM X κ [] a9:=.mk (λpins s σ H Q I h=>BF pins s σ H Q I (El h))
def vn(h:LT X κ c fc):jM X κ [c] fc:=.mk (BG h.pe)
variable {scope:Scope}{x y:Str}{ys:List Str}{ix:List Nat}{ifs:List Expr}{fi:IF}{px py:Pos}
def Eo(O:yc X scope [x] ys ix)(hi:LI X κ (.Name x px) a fi)(hf:∀z,jM (dF X scope ([x]++ys) z) κ ifs fc)(he:∀z,LE (dF X scope ([x]++ys) z) κ e fb)(hc:‹X.calm=true›)(hs:∀v,foldedSetIterable a X.env v=pure v:=by intro _;rfl):LE X κ (.ListComp e [⟨.Name x px,a,ifs,0⟩] scope pos) (dI fi ix c1 fc fb):=.mk (bt (sL O hc hi.pe (λz=>lq O rfl) (λz=>(hf z).pe) (λz=>(he z).pe) hs) λ_ _ _=>oJ (λ_=>tR))
def Ep (O:yc X scope [x] ys ix)(hi:LI X κ (.Name x px) a fi)(hf:∀z,jM (dF X scope ([x]++ys) z) κ ifs fc)(he:∀z,LE (dF X scope ([x]++ys) z) κ e fb)(hN:X.N.Nodup)(hy:‹X.N[i]?=some y›)(hl:‹X.env.scope.names.lookup y=some .local›)(hc:‹X.calm=true›)
  (hsw:‹swapsWith (.ListComp e [⟨.Name x px,a,ifs,0⟩] scope pos) (some (.Name y py)) spos.line X.env=pure true›) (hs:∀v,foldedSetIterable a X.env v=pure v:=by intro _;rfl):LS X κ (.Assign [.Name y py] (.ListComp e [⟨.Name x px,a,ifs,0⟩] scope pos) spos) (aG (dI fi ix c1 fc fb) (aB i)):=.mk (c6 (B3 O hc hN hy hl hi.pe (λz=>lq O rfl) (λz=>(hf z).pe) (λz=>(he z).pe) hsw hs) λD σ H q=>by
  obtain⟨ι,Z,G,e,Z',G',s,eq,kk⟩:=oy q
  exact oJ (λ_=>tR) ⟨ι,Z,G,e,Z',G',s,eq,λv ι' H' a=>ot (kk v ι' H' a)⟩)
def Er (O:yc X scope [x1,x2] ys ix)(hc:X.calm=true)(z:ya):PG (dF X scope ([x1,x2]++ys) z) (.Tuple [.Name x1 q1,.Name x2 q2] kk q0) (kN X.K 2 (gQ (List.range 2))) :=
 qE hc (nD (lq O rfl) (nD (lq O rfl) qD))
def Es (O:yc X scope [x1,x2] ys ix)(hi:LI X κ (.Tuple [.Name x1 q1,.Name x2 q2] kk q0) a fi)(hf:∀z,jM (dF X scope ([x1,x2]++ys) z) κ ifs fc)(he:∀z,LE (dF X scope ([x1,x2]++ys) z) κ e fb)(hc:‹X.calm=true›)(hs:∀v,foldedSetIterable a X.env v=pure v:=by intro _;rfl):LE X κ (.ListComp e [⟨.Tuple [.Name x1 q1,.Name x2 q2] kk q0,a,ifs,0⟩] scope pos) (dI fi ix (cN 2) fc fb):=.mk (bt (sL O hc hi.pe (Er O hc) (λz=>(hf z).pe) (λz=>(he z).pe) hs) λ_ _ _=>oJ (λ_=>tU 2))
end
section
variable {P:Program}{w:World}{K:W.Frag}{mg:Str->Option Value}{base:Heap}{κ:Str->Addr}
def bR{x qual:Str}{st:Stmt}{f:Addr}{fd:FuncData}{N ps:List Str}{k n r:Nat}{body:SF}(F:Fun K x qual st f fd)(S:y47 N ps (bK st))(hn:ps.length=n)(hN:N.length=n+r)
  (hb:∀(cdv:Value) (A:Around) (outer:List Env) (s:Shared) (H:Hp) (E:XK),y54 k (A.deeper (envOfC qual (bK st) s.heap.objs.size f cdv))->gD (ft bV P w K mg base N qual (bK st) f cdv A outer s H E).nox κ (ky st) body) :
  y46 P w K mg base bV (k+1) f fd ps (aT K κ n (aQ n r body)):=by
 refine F.ok S (λvs H Q E h=>by rw [(tL h).1,hn]) (λcdv A outer s H vs Q E hr h=>⟨_,(hb cdv A outer s H E hr).pe,?_⟩)
 obtain⟨l,q⟩:=tL h
 unfold L2.start
 have e:N.length-vs.length=r:=by lia
 rw [e]
 exact q
def g6{f:Addr}{fd:FuncData}{ps:List Str}{k n:Nat}:y46 P w K mg base bV k f fd ps (aT K κ n λ_ _=>none) :=
 ⟨λvs H Q E h=>(by obtain⟨_,_,_,_,_,_,_,e,_⟩:=h;cases e),λ_ _ _ _ _ _ _ _ _ _ _ _ _ h=>(by obtain⟨_,_,_,_,_,_,_,e,_⟩:=h;cases e)⟩
end
end
section
section
variable {K:W.Frag}{κ:Str->Addr}{ι:List Addr}{H:Hp}
abbrev vo:List I->Option (List Int)
 | []=>some []
 | .int i::r=>(vo r).map (i::·)
 | _=>none
abbrev g8:List I->Option (List Str)
 | []=>some []
 | .str i::r=>(g8 r).map (i::·)
 | _=>none
theorem vp:∀ns:List Str,g8 (ns.map I.str)=some ns
 | []=>rfl
 | n::ns=>by rw [z16,g8,vp ns];rfl
theorem vq:∀{xs:List I} {vs:List V} {ns:List Str},y56 K ι H vs xs->g8 xs=some ns->vs=ns.map V.str
 | [],_,_,r,h=>by cases r;cases h;rfl
 | x::xs,_,_,r,h=>by
  cases r with
  | cons r1 r2 =>
   cases r1 with
   | str i =>
    rw [g8] at h
    cases e:g8 xs with
    | none=>rw [e] at h;cases h
    | some ms=>rw [e] at h;cases h;rw [z16,<- vq r2 e]
   | _=>cases h
abbrev Iv:List Ev->Mo Ev:=λes Z G=>match es with
 | [a]=>if fE a then match sq Z G a with
  | some xs=>match vo xs with
   | some ns=>some (.v (.im (.int ns.sum)),Z,G)
   | none=>none
  | none=>none
  else none
 | _=>none
abbrev dN:List Ev->Mo Ev:=λes Z G=>match es with
 | [.v (.im (.bl b))]=>some (.v (.im (.int (if b then 1 else 0))),Z,G)
 | [.v (.im (.int i))]=>some (.v (.im (.int i)),Z,G)
 | _=>none
def Et:aD K κ (λxs H Q=>(∃i,xs=[.int i]/\Q (.int i) H)∨∃k,xs=[.bl k]/\Q (.int (if k then 1 else 0)) H) dN:=by
 intro ι H σ Z G es vs e Z' G' Q a h k
 unfold dN at h
 split at h
 ·obtain⟨v,rfl⟩:=cq a.len
  cases lA (a.im (j:=0) rfl rfl)
  exact .inr ⟨_,rfl,k _ _ _ (bY h (br a (.int _)))⟩
 ·obtain⟨v,rfl⟩:=cq a.len
  cases dW (a.im (j:=0) rfl rfl)
  exact .inl ⟨_,rfl,k _ _ _ (bY h (br a (.int _)))⟩
 ·cases h
abbrev vt:List I->Option (List Bool)
 | []=>some []
 | .bl i::r=>(vt r).map (i::·)
 | _=>none
abbrev Iw:List Ev->Mo Ev:=λes Z G=>match es with
 | [a]=>match pk Z G a with
  | some (.lst xs)=>match vt xs with
   | some bs=>some (.v (.im (.bl (bs.all id))),Z,G)
   | none=>none
  | _=>none
 | _=>none
abbrev Eu:Ev->Bool
 | .v (.im (.str _))=>true
 | _=>false
abbrev vw(p:List Ev->Mo Ev)(fo:Mo Ev)(fa:Mo (List Ev)):Mo Ev:=bd fo λe=>λZ G=>if Eu e then bd fa (λes=>p (e::es)) Z G else none
def vx{σ:L2.St}{p:List Ev->Mo Ev}{fo:Mo Ev}{fa:Mo (List Ev)}{r:V->List V->Hp->VK->Prop}{Q:VK}(hp:aD K κ (rM r) p)(h:bE K κ (vw p fo fa) σ H Q):Bu K "str" r (bE K κ fo) (gb K κ fa) σ H Q:=by
 obtain⟨ι,Z,G,e,Z',G',s,eq,k⟩:=h
 obtain⟨x,Z1,G1,e1,eq1⟩:=cC eq
 split at eq1
 ·rename_i hl
  obtain⟨es,Z2,G2,e2,eq2⟩:=cC eq1
  refine⟨ι,Z,G,x,Z1,G1,s,e1,λv ι1 H1 a1=>⟨?_,?_⟩⟩
  ·unfold Eu at hl
   split at hl
   ·cases fw (a1.ar.im (j:=0) rfl rfl);rfl
   ·cases hl
  refine⟨ι1,Z1,G1,es,Z2,G2,a1.ar.base,e2,λvs ι2 H2 a2=>?_⟩
  have a:=a1.app a2
  obtain⟨y,ys,ey,q⟩:=hp _ _ _ _ _ _ _ _ _ _ Q a.ar eq2 λv ι3 H3 d=>k _ _ _ (a.then d)
  cases ey
  exact q
 ·cases eq1
abbrev jN:List Ev->Mo Ev:=λes Z G=>match es with
 | [.v (.im (.str z)),a]=>match pk Z G a with
  | some (.lst xs)=>match g8 xs with
   | some ys=>if (ys.map (·.length)).sum+ys.length*z.length≤1000000 then some (.v (.im (.str (PySem.Txt.join z ys))),Z,G) else none
   | none=>none
  | _=>none
 | _=>none
def Ew:aD K κ (rM (mQ K)) jN:=by
 intro ι H σ Z G es vs e Z' G' Q a h k
 unfold jN at h
 split at h
 ·rename_i z x
  split at h
  ·rename_i xs hx
   split at h
   ·rename_i ys hn
    split at h
    ·rename_i hz
     obtain⟨v,u,rfl⟩:=bO a.len
     cases fw (a.im (j:=0) rfl rfl)
     obtain⟨p,e1,us,h1,r⟩:=a.pk (j:=1) rfl rfl hx
     subst e1
     exact⟨_,_,rfl,z,p,ys,rfl,rfl,by rw [<- vq r hn];exact bL.of h1,z1b hz (by decide),k _ _ _ (bY h (br a (.str _)))⟩
    ·cases h
   ·cases h
  ·cases h
 ·cases h
end
section
variable {X:Cx}{K:W.Frag}{κ:Str->Addr}{ι:List Addr}{H:Hp}{pins:List (Addr×Obj)}{σ:L2.St}{s:Shared}
end
section
variable {X:Cx}{κ:Str->Addr}{a b e o:Expr}{es:List Expr}{fa fb:Mo Ev}{fs:Mo (List Ev)}{p pos apos yce:Pos}{k:Nat}
def Ey(hr:y54 k X.A)(hm:X.mg "int" = none)(ha:LA X κ (e::es) fs)(hg:‹Gl X "int"›)(he:‹gI X e es›)(hpl:‹gB X pos es›):LE X κ (.Call (.Name "int" p) (e::es) [] pos) (bd fs dN):=.mk (bt (nN ya5 hg hm PyProof.Rows.boot_int ha.pe (by decide) (by decide) he hpl) λ_ _ _ q=>gc Et q)
def Ez(hr:y54 k X.A)(ho:LE X κ o fa)(ha:LA X κ (e::es) fs)(y186:‹attributeBase o "join" X.env (eval o X.env)=eval o X.env›)
  (y18d:‹((backTo yce (starEach (e::es) X.env)).all (λx=>!x.1)&&(backToKw yce (keywordEach [] X.env)).all (λx=>x.1.isSome)&&decide ((e::es).length+([]:List Keyword).length+(if ([]:List Keyword).isEmpty then 0 else 1)<30))=true›)
  (y192:‹(apos.endLine == yce.line)=true›) (hs:‹starEach (e::es) X.env=(false,eval e X.env)::starEach es X.env›) (y194:‹(backTo yce (starEach es X.env)).any (·.1)=false›):LE X κ (.Call (.Attribute o "join" apos) (e::es) [] yce) (vw jN fa fs):=.mk (bt (nR PySem.F.plainAttrs_str PySem.F.slot_str_join PySem.F.type_str_join BM ho.pe ha.pe y186 y18d y192 hs y194) λ_ _ _=>vx Ew)
end
end
end B
set_option maxHeartbeats 4000000
namespace PySem
open PySem.Spec PyProof.Rows
section
variable {prog:Program}{w:World}{K:Type}[DecidableEq K]{knd:KeyKind prog w K}{A:Around}{E:Value->Shared->Prop}{R:Result->Shared->Prop}
end
end PySem
set_option maxHeartbeats 400000
namespace L2
open PySem PySem.Spec PyProof.Rows
section
section
variable {X:Cx}{pins:List (Addr×Obj)}{σ:L2.St}{H:Hp}{s:Shared}
end
end
end L2
namespace B
open PySem PySem.Spec PyProof.Rows L2
section
section
variable {K:W.Frag}{κ:Str->Addr}{ι:List Addr}{H:Hp}
end
section
variable {X:Cx}{κ:Str->Addr}{e:Expr}{es:List Expr}{fs:Mo (List Ev)}{p pos:Pos}{k:Nat}
end
def rm (r:y54 k A)(h:j≤k:=by first|decide|lia):y54 j A:=r.mono h
end
end B
set_option maxHeartbeats 4000000
namespace PySem
open PySem.Spec PyProof.Rows
section
variable {prog:Program}{w:World}{K:Type}[DecidableEq K]{knd:KeyKind prog w K}{A:Around}{E:Value->Shared->Prop}{R:Result->Shared->Prop}
end
end PySem
set_option maxHeartbeats 400000
namespace L2
open PySem PySem.Spec PyProof.Rows
section
section
variable {X:Cx}{pins:List (Addr×Obj)}{σ:L2.St}{H:Hp}{s:Shared}
end
end
end L2
namespace B
open PySem PySem.Spec PyProof.Rows L2
section
section
variable {K:W.Frag}{κ:Str->Addr}{ι:List Addr}{H:Hp}
end
section
variable {X:Cx}{κ:Str->Addr}{a b e o:Expr}{es:List Expr}{fa fb:Mo Ev}{fs:Mo (List Ev)}{p pos apos yce:Pos}{k:Nat}
end
def bx (h1:‹sc.kind=.function›)(h2:‹sc.isCoroutine=false›)(h3:‹sc.isGenerator=false›)(h4:N.Nodup:=by decide +kernel)(h5:‹N.take P.length=P›)(h6:∀x∈P,sc.names.lookup x=some .local∨sc.names.lookup x=some .cell:=by decide +kernel)(h7:∀y∈sc.names,y.2≠.free:=by decide +kernel):y47 N P sc:=⟨h1,h2,h3,h4,h5,h6,h7⟩
section
variable {P:Program}{w:World}{K:W.Frag}{mg:Str->Option Value}{base:Heap}{k:Nat}{ps:List Str}{sp:Sp}{f:Addr}{fd:FuncData}{C:Addr}{x q m:Str}{st:Stmt}
end
def EA  (hsc:X.env.scope=osc)(hN:X.N=N)(h:BR osc N scope xs (ix.map λi=>N.getD i "") ix=true):yc X scope xs (ix.map λi=>N.getD i "") ix:=yc5 hsc hN h
end
section
section
end
noncomputable abbrev EB{N P:List Str}{sc:Scope}(_:y47 N P sc):List Str:=N
noncomputable abbrev oY{N P:List Str}{sc:Scope}(_:y47 N P sc):Scope:=sc
end
end B
set_option maxHeartbeats 4000000
namespace PySem
open PySem.Spec PyProof.Rows
section
variable {prog:Program}{w:World}{K:Type}[DecidableEq K]{knd:HeapKind prog w K}{A:Around}{E:Value->Shared->Prop}{s:Shared}
end
section
variable {K:Type}[DecidableEq K]
end
section
variable {prog:Program}{w:World}{K:Type}[DecidableEq K]{knd:HeapKind prog w K}{A:Around}{E:Value->Shared->Prop}{R:Result->Shared->Prop}
end
section
variable {prog:Program}{w:World}{K:Type}[DecidableEq K]{knd:HeapKind prog w K}{A:Around}{E:Value->Shared->Prop}{s:Shared}
end
section
variable {prog:Program}{w:World}{K:Type}[DecidableEq K]{knd:HeapKind prog w K}{A:Around}{E:Value->Shared->Prop}{s:Shared}
end
section
variable {prog:Program}{w:World}{K:Type}[DecidableEq K]{knd:KeyKind prog w K}{A:Around}{E:Value->Shared->Prop}{s:Shared}
end
end PySem
set_option maxHeartbeats 400000
namespace L2
open PySem PySem.Spec PyProof.Rows
section
section
abbrev EC(kvs more:List (List aI×V)):List (List aI×V):=more.foldl (λacc kv=>cm acc kv.1 kv.2) kvs
abbrev ED(w:World)(k:List aI):Int:=reduceHash (Builtin.Tuple.tupleHashOf (k.map (qi w)))
abbrev Iy(w:World):V->List V->Hp->VK->Prop:=λx vs H Q=>∃(a b:Addr) (kvs more:List (List aI×V)),x=.ref a/\vs=[.ref b]/\a≠b/\H a=some (.dT kvs)/\H b=some (.dT more)/\(kvs=[]->(more.map λp=>ED w p.1).Nodup)/\kvs.length+more.length≤1000000/\Q .non (upd H a (.dT (EC kvs more)))
end
end
end L2
namespace PySem
end PySem
namespace L2
open PySem PySem.Spec PyProof.Rows
section
section
variable {X:Cx}{pins:List (Addr×Obj)}{σ:L2.St}{H:Hp}{s:Shared}
end
end
end L2
namespace B
open PySem PySem.Spec PyProof.Rows L2
section
variable {X:Cx}{K:W.Frag}{κ:Str->Addr}{ι:List Addr}{H H':Hp}{σ:L2.St}{Z:De}{G:List M}
structure Kw(H H':Hp):Prop where
 tup:∀a xs,H a=some (.tup xs)->H' a=some (.tup xs)
 frz:∀a o u,(∀ws,u≠HO.dK ws)->H a=some (.frz o u)->H' a=some (.frz o u)
end
end B
namespace L2
open PySem PySem.Spec PyProof.Rows
section
section
end
end
end L2
namespace B
open PySem PySem.Spec PyProof.Rows L2
section
section
variable {X:Cx}{K:W.Frag}{κ:Str->Addr}{ι:List Addr}{H:Hp}{σ:L2.St}
end
section
variable {X:Cx}{κ:Str->Addr}{a b e o:Expr}{es:List Expr}{ss:List Stmt}{fa fb fv:Mo Ev}{f:SF}{gf:GF}{fs:Mo (List Ev)}{p pos pos' apos yce:Pos}{k:Nat}
end
end
end B
namespace PySem.W
open PySem PySem.Calls PyProof.Rows PySem.Spec
end PySem.W
namespace L2
open PySem PySem.Spec PyProof.Rows
section
section
variable {X:Cx}{pins:List (Addr×Obj)}{σ:L2.St}{H:Hp}{s:Shared}
end
end
end L2
namespace B
open PySem PySem.Spec PyProof.Rows L2
section
section
variable {X:Cx}{K:W.Frag}{κ:Str->Addr}{ι:List Addr}{H:Hp}{σ:L2.St}
abbrev srt(ns:List Int):List Int:=ns.mergeSort (λa b=>decide (a≤b))
end
section
variable {X:Cx}{κ:Str->Addr}{a b e o:Expr}{es:List Expr}{fa fb:Mo Ev}{fs:Mo (List Ev)}{p pos apos yce:Pos}{k:Nat}
end
end
end B
namespace PySem
abbrev iN(h:Heap)(C:Addr)(newId:String)(bm:List Value)(mN:Str->Option Value):Prop :=
 ∃nm q N bs y18b sn sub ab col dd k0 k1 k2 k3 k5,h.get? C=some (excClassObj nm q C N bs bm y18b sn sub ab col dd k0 k1 k2 k3 k5 newId)/\h.Ns N mN
abbrev l7(h:Heap)(C:Addr)(bm:List Value):Prop:=∃nm q N bs y18b sn sub ab col dd k0 k1 k2 k3 k5 newId,h.get? C=some (excClassObj nm q C N bs bm y18b sn sub ab col dd k0 k1 k2 k3 k5 newId)
abbrev fH(h:Heap)(C:Addr)(aU:List Value):Heap:=(h.push { cls:=.type "tuple",data:=.seq aU.toArray }).push { cls:=.ref C,data:=.fields #[.ref h.objs.size,.none,.none,.none,.bool false,.none] }
section
variable {P:Program}{w:World}{A:Around}{E:Value->Shared->Prop}{h h':Heap}{g:Array GenState}{d:Drawn}{t:Nat}{os:OsState}
variable {C f x:Addr}{bm bl:List Value}{mN:Str->Option Value}{newId:String}{us:List Value}{of ox:Obj}
def vy{b:Addr}{o:Obj}(q:h.get? b=some o):(fH h C us).get? b=some o:=zf _ (zf _ q)
def vA:(fH h C us).get? (h.objs.size+1)=some { cls:=.ref C,data:=.fields #[.ref h.objs.size,.none,.none,.none,.bool false,.none] }:=by unfold fH;heap_get
def iN.keeps(c:iN h C newId bm mN)(k:∀b o,h.get? b=some o->h'.get? b=some o):iN h' C newId bm mN :=
 let ⟨nm,q,N,bs,y18b,sn,sub,ab,col,dd,k0,k1,k2,k3,k5,hC,on,es,ep,e,r⟩:=c
 ⟨nm,q,N,bs,y18b,sn,sub,ab,col,dd,k0,k1,k2,k3,k5,k _ _ hC,on,es,ep,k _ _ e,r⟩
def iN.finds{n:Str}{v:Value}{Q:Option Value->Shared->Prop}(c:iN h C newId bm mN)(hv:mN n=some v)(k:Q (some v) ⟨h,g,d,t,os⟩):wpAny (model P w) A (typeLookup (.ref C) n) Q E ⟨h,g,d,t,os⟩:=by
 obtain⟨nm,q,N,bs,y18b,sn,sub,ab,col,dd,k0,k1,k2,k3,k5,hC,hn⟩:=c
 rw [typeLookup_eq]
 refine zb (wpAny_mroOf_exc hC ?_)
 rw [lookupAlong_cons]
 exact zb (wpAny_classOwn_exc hC hn (by rw [hv];exact zd k))
def iN.isOne{Q:Bool->Shared->Prop}(c:iN h C newId bm mN)(hx:h.get? x=some ox)(hc:ox.cls=.ref C)(k:Q true ⟨h,g,d,t,os⟩):wpAny (model P w) A (isInstance (.ref x) (.ref C)) Q E ⟨h,g,d,t,os⟩:=by
 obtain⟨nm,q,N,bs,y18b,sn,sub,ab,col,dd,k0,k1,k2,k3,k5,hC,hn⟩:=c
 have own:(Value.ref C::bm).contains (.ref C)=true:=by rw [List.contains_cons];simp
 unfold isInstance
 repeat (first|with_reducible refine wpAny_loadPart_at hx ?_|wp_step)
 rw [hc]
 refine wpAny_isSubtype_exc hC ?_
 rw [own];exact k
def iN.inits{Q:Option Value->Shared->Prop}(c:iN h C newId bm mN)(hi:mN "__init__" = some (.ref f))(hf:h.get? f=some of)(hff:of.cls=.type "function")(hx:h.get? x=some ox)(hc:ox.cls=.ref C)
  (k:codeAny (model P w) A (.call (.ref f) ⟨.ref x::us,[]⟩) (λr s'=>match r with | .ok (.ret v)=>Q (some v) s' | .error e=>E e s'|_=>False) ⟨h,g,d,t,os⟩) :
  wpAny (model P w) A (callSpecial? (.ref x) "__init__" us []) Q E ⟨h,g,d,t,os⟩:=by
 unfold callSpecial?
 repeat (first|with_reducible refine wpAny_loadPart_at hx ?_|wp_step)
 rw [hc]
 refine c.finds hi (wpAny_holding (zb (wpAny_bindSpecial_def (s:=⟨h,g,d,t,os⟩) hf hff (zb (wpAny_call (codeAny_mono k λr s' z=>?_))))))
 match r,z with
 | .error _,z=>exact z
 | .ok (.ret _),z=>exact zd z
def iN.makes{Bn B nid y1a1 inN:String}{bmN:List Value}(Fn:ExcBaseFacts Bn newId inN bmN)(hB:bl.contains (.type Bn)=true)(F:ExcBaseFacts B nid y1a1 bl)(T:OwnTail h bl bm)(c:iN h C newId bm mN)(hi:mN "__init__" = some (.ref f))
  (hf:h.get? f=some of) (hff:of.cls=.type "function") (hz:us.length≤sizeLine) {Q:Value->Shared->Prop}
  (k:codeAny (model P w) (A.under (.builtin "type.__call__" ⟨.ref C::us,[]⟩)) (.call (.ref f) ⟨.ref (h.objs.size+1)::us,[]⟩) (λr s'=>match r with | .ok (.ret v)=>v=.none/\Q (.ref (h.objs.size+1)) s' | .error e=>E e s'|_=>False) ⟨fH h C us,g,d,t,os⟩) :
  wpAny (model P w) A (call (.ref C) us) Q E ⟨h,g,d,t,os⟩:=by
 have c2:iN (fH h C us) C newId bm mN:=c.keeps λb o q=>vy q
 obtain⟨nm,q,N,bs,y18b,sn,sub,ab,col,dd,k0,k1,k2,k3,k5,hC,hn⟩:=c
 have l1:=tc_lookup
 have l2:=tc_bind (.ref C)
 refine wpAny_call (codeAny_of_tree ?_)
 have ty:(⟨h,g,d,t,os⟩:Shared).TypeIs (.ref C) "type":=⟨_,hC,rfl⟩
 show wpAny _ _ (callAny (.ref C) _) _ _ _
 repeat (any_goals (first|assumption|with_reducible refine wpAny_loadPart_at hC ?_|wp_step))
 refine⟨rfl,codeAny_call_builtin_at (Code.quiet_builtin _ (by decide +kernel)) entry_typeCall (wpAny_check_type_call_sub hC ?_)⟩
 repeat (first|with_reducible refine wpAny_loadPart_at hC ?_|with_reducible refine wpAny_madeBy_exc hC ?_|wp_step)
 refine codeAny_call_builtin_code (Code.quiet_builtin _ Fn.quiet) (wpAny_check_new_subU Fn hB T hC (codeAny_exc_new_subU (hrest:=hz) Fn hB F T hC ?_))
 refine zb (c2.isOne vA rfl ?_)
 refine zb (wpAny_holding (c2.inits hi (vy hf) hff vA rfl (codeAny_mono k λr s' z=>?_)))
 match r,z with
 | .error _,z=>exact z
 | .ok (.ret _),⟨rfl,z⟩=>exact zd z
end
end PySem
namespace PySem
def yf8(o:Obj)(f):(o.mapFields f).dict=o.dict:=by obtain⟨c,d,dt,sl⟩:=o;cases dt<;>rfl
abbrev Ch(cs fs:List Addr)(h h':Heap):Prop:=∀b o,h.get? b=some o->b∉cs->∃sl,h'.get? b=some { o with slots:=sl }/\(b∉fs->sl=o.slots)
namespace Ch
variable {cs ds fs:List Addr}{h h1 h2:Heap}
def same(k:∀b o,h.get? b=some o->b∉cs->h1.get? b=some o):Ch cs fs h h1:=λb o q n=>⟨o.slots,k b o q n,λ_=>rfl⟩
theorem slots(k:Heap.SlotsOnly fs h h1):Ch cs fs h h1:=λb o q _=>by
 by_cases m:b∈fs
 ·obtain⟨sl,r⟩:=k.2.2 b o q;exact⟨sl,r,λn=>absurd m n⟩
 ·exact⟨o.slots,(k.2.1 b m).trans q,λ_=>rfl⟩
theorem push(o:Obj):Ch cs fs h (h.push o):=same λ_ _ q _=>zf o q
def upd{a:Addr}(f:Obj->Obj)(m:a∈cs):Ch cs fs h (h.update a f):=same λb _ q n=>(Heap.get?_update_other h f (a:=a) (b:=b) λz=>n (by rw [<- z];exact m)).trans q
theorem trans(x:Ch cs fs h h1)(y:Ch cs fs h1 h2):Ch cs fs h h2:=λb o q n=>by
 obtain⟨s1,r1,k1⟩:=x b o q n
 obtain⟨s2,r2,k2⟩:=y b _ r1 n
 exact⟨s2,r2,λz=>(k2 z).trans (k1 z)⟩
def mono(x:Ch cs fs h h1)(k:∀b∈cs,b∈ds):Ch ds fs h h1:=λb o q n=>x b o q λz=>n (k b z)
end Ch
abbrev Ex(h:Heap)(e:Addr)(c:Value)(dct:Option Addr)(a0 hd:Value):Prop:=∃vs sl,h.get? e=some { cls:=c,dict:=dct,data:=.fields vs,slots:=sl }/\vs[0]?=some a0/\vs[1]?=some hd
abbrev En(h:Heap)(T:Addr)(fl:Value):Prop:=∃o ts,h.get? T=some o/\o.data=.fields ts/\ts[3]?=some fl
section
variable {M:Model}{A:Around}{E:Value->Shared->Prop}{s:Shared}{h h1:Heap}{cs fs:List Addr}{e T:Addr}{c a0 hd v:Value}{dct:Option Addr}
def Ex.ch(x:Ex h e c dct a0 hd)(k:Ch cs fs h h1)(n:e∉cs):Ex h1 e c dct a0 hd:=let ⟨_,_,q,r⟩:=x;let ⟨sl,q1,_⟩:=k e _ q n;⟨_,sl,q1,r⟩
def En.ch(x:En h T v)(k:Ch cs fs h h1)(n:T∉cs):En h1 T v:=let ⟨_,ts,q,r⟩:=x;let ⟨_,q1,_⟩:=k T _ q n;⟨_,ts,q1,r⟩
def Ex.put(x:Ex h e c dct a0 hd)(w:Value):Ex (h.update e (Obj.mapFields λa=>a.setIfInBounds 1 w)) e c dct a0 w:=by
 obtain⟨vs,sl,q,q0,q1⟩:=x
 have l1:1<vs.size:=by rcases Array.getElem?_eq_some_iff.mp q1 with⟨l,_⟩;exact l
 exact⟨vs.setIfInBounds 1 w,sl,Heap.get?_update_self _ q rfl,by rw [Array.getElem?_setIfInBounds];simpa using q0,by rw [Array.getElem?_setIfInBounds];simp [l1]⟩
def En.put(x:En h T v)(w:Value):En (h.update T (Obj.mapFields λa=>a.setIfInBounds 3 w)) T w:=by
 obtain⟨⟨oc,od,_,os⟩,ts,q,rfl,q3⟩:=x
 have l3:3<ts.size:=by rcases Array.getElem?_eq_some_iff.mp q3 with⟨l,_⟩;exact l
 exact⟨_,ts.setIfInBounds 3 w,Heap.get?_update_self _ q rfl,rfl,by rw [Array.getElem?_setIfInBounds];simp [l3]⟩
def Ex.get{Q:Value->Shared->Prop}(x:Ex s.heap e c dct a0 hd)(k:Q hd s):wpAny M A (field (.ref e) 1) Q E s:=let ⟨_,_,q,_,q1⟩:=x;wpAny_field q rfl q1 k
def En.get{Q:Value->Shared->Prop}(x:En s.heap T v)(k:Q v s):wpAny M A (field (.ref T) 3) Q E s:=let ⟨_,_,q,d,q3⟩:=x;wpAny_field q d q3 k
def Ex.set{Q:Unit->Shared->Prop}{w:Value}(x:Ex s.heap e c dct a0 hd)(k:∀h',Ch [e] fs s.heap h'->Ex h' e c dct a0 w->Q () { s with heap:=h' }):wpAny M A (setField (.ref e) 1 w) Q E s:=by
 have k:=k _ (.upd _ (z17.mpr rfl)) (x.put w)
 obtain⟨_,_,q,_,q1⟩:=x
 exact wpAny_setField q rfl (by rcases Array.getElem?_eq_some_iff.mp q1 with⟨l,_⟩;exact l) k
def En.set{Q:Unit->Shared->Prop}{w:Value}(x:En s.heap T v)(k:∀h',Ch [T] fs s.heap h'->h'.objs.size=s.heap.objs.size->En h' T w->Q () { s with heap:=h' }):wpAny M A (setField (.ref T) 3 w) Q E s:=by
 have k:=k _ (.upd _ (z17.mpr rfl)) (Heap.size_update _ _ _) (x.put w)
 obtain⟨_,_,q,d,q3⟩:=x
 exact wpAny_setField q d (by rcases Array.getElem?_eq_some_iff.mp q3 with⟨l,_⟩;exact l) k
variable {base:Heap}{env:Env}{outer:List Env}{L:Addr}
noncomputable abbrev iO(l:List Env):List Addr:=l.filterMap λx=>x.frame
def vB{hn:Bool}{w:Value}{Q:Unit->Shared->Prop}(hfr:A.frames=some (env::outer))(hl:s.heap.FunFrames base (env::outer))(hf:env.frame=some L)(x:Ex s.heap e c dct a0 hd)
  (k:∀h',Ch [e] (iO (env::outer)) s.heap h'->Ex h' e c dct a0 (.ref s.heap.objs.size)->En h' s.heap.objs.size (rawInt L)->s.heap.objs.size≠e->Q () { s with heap:=h' }) :
  wpAny M A (frameOf env >>= λa=>entryPlaceOf L hn >>= λpl=>EntryCells.newEntry w a .none (rawInt L) .none pl >>= λb=>setField (.ref e) 1 b) Q E s:=by
 refine zb (wpAny_frameOf_fun hfr hl hf λg1 so=>zb (wpAny_entryPlaceOf λpl isp=>zb ?_))
 have c1:Ch [e] (iO (env::outer)) s.heap g1:=.slots so
 have x1:=x.ch (cs:=[]) (Ch.slots so) (by simp)
 rw [<- so.1] at k
 have ne:g1.objs.size≠e:=let ⟨_,_,q,_⟩:=x1;Nat.ne_of_gt (z19 q)
 refine z2c ?_ (isp.sizeOk5 _ _ _ _ _)
 generalize hO:({ cls:=.type "traceback",dict:=none,data:=_ }:Obj)=O
 have n2:En (g1.push O) g1.objs.size (rawInt L):=⟨O,_,z28 _ (by rw [<- hO];rfl),by rw [<- hO],by rcases isp with rfl|⟨_,_,_,_,_,_,_,rfl⟩<;>simp⟩
 refine (x1.ch (cs:=[]) (fs:=[]) (Ch.push O) (by simp)).set (fs:=iO (env::outer)) λg3 c3 x3=>k g3 ((c1.trans (.push O)).trans c3) x3 (n2.ch c3 λm=>ne (z17.mp m)) ne
def EE{Q:Unit->Shared->Prop}(hfr:A.frames=some (env::outer))(hl:s.heap.FunFrames base (env::outer))(hf:env.frame=some L)(x:Ex s.heap e c dct a0 hd)(hh:hd=.none∨∃T∈cs,hd=.ref T/\T≠e/\En s.heap T .none)(me:e∈cs)
  (k:∀h',Ch cs (iO (env::outer)) s.heap h'->Ex h' e c dct a0 (.ref s.heap.objs.size)->En h' s.heap.objs.size (rawInt L)->s.heap.objs.size≠e->Q () { s with heap:=h' }) :
  wpAny M A (noteFrame (.ref e) env) Q E s:=by
 have up:∀{a b:Heap},Ch [e] (iO (env::outer)) a b->Ch cs (iO (env::outer)) a b:=λz=>z.mono λb m=>by rw [z17.mp m];exact me
 unfold noteFrame
 simp only [hf]
 refine zb (x.get ?_)
 rcases hh with rfl|⟨T,mT,rfl,ne,n⟩
 ·exact vB hfr hl hf x λh' z=>k h' (up z)
 ·refine zb (n.get ?_)
  refine zb (n.set (fs:=iO (env::outer)) λg1 c1 z1 n1=>?_)
  have off:∀{b o},s.heap.get? b=some o->(∀vs,o.data≠.fields vs)->b∉[T]:=λ{b o} q d m=>by
   obtain⟨_,ts,q',d',_⟩:=n
   cases q.symm.trans ((congrArg _ (z17.mp m)).trans q')
   exact d ts d'
  rw [<- z1] at k
  refine vB (s:={ s with heap:=g1 }) hfr (hl.of_keeps λb o q d=>let ⟨_,r,_⟩:=c1 b o q (off q d);⟨_,r,rfl⟩) hf (x.ch c1 λm=>ne (z17.mp m).symm) λh' z=>k h' (.trans (c1.mono λb m=>by rw [z17.mp m];exact mT) (up z))
def EF{Q:Unit->Shared->Prop}(x:Ex s.heap e c dct a0 (.ref T))(n:En s.heap T v)(ne:T≠e)(k:∀h',Ch [T] fs s.heap h'->Ex h' e c dct a0 (.ref T)->En h' T .none->Q () { s with heap:=h' }):wpAny M A (setFlight (.ref e) none) Q E s:=by
 unfold setFlight
 exact zb (x.get (n.set λh' z _ n'=>k h' z (x.ch z λm=>ne (z17.mp m).symm) n'))
end
abbrev b9(e:Addr)(p:Addr->Prop)(fs:List Addr)(h h':Heap):Prop:=∀b o,h.get? b=some o->(b≠e/\¬ p b)->(∃sl,h'.get? b=some { o with slots:=sl })/\(b∉fs->h'.get? b=some o)
section
variable {e:Addr}{p:Addr->Prop}{cs fs fs':List Addr}{h h1 h2:Heap}
def b9.of(x:Ch cs fs h h1)(k:∀b∈cs,b=e∨p b):b9 e p fs h h1:=λb o q n=>by
 obtain⟨sl,r,z⟩:=x b o q λm=>(k b m).elim n.1 n.2
 exact⟨⟨sl,r⟩,λm=>by rw [r,z m]⟩
def b9.refl(e:Addr)(p:Addr->Prop)(fs:List Addr)(h:Heap):b9 e p fs h h:=λ_ o q _=>⟨⟨o.slots,q⟩,λ_=>q⟩
def b9.trans(x:b9 e p fs h h1)(y:b9 e p fs h1 h2):b9 e p fs h h2:=λb o q n =>
 let ⟨⟨_,q1⟩,r1⟩:=x b o q n
 let ⟨⟨sl,q2⟩,r2⟩:=y b _ q1 n
 ⟨⟨sl,q2⟩,λnf=>(y b o (r1 nf) n).2 nf⟩
def b9.mono(x:b9 e p fs h h1)(k:∀b∈fs,b∈fs'):b9 e p fs' h h1:=λb o q n=>let ⟨a,c⟩:=x b o q n;⟨a,λnf=>c λz=>nf (k b z)⟩
end
structure Fly(base:Heap)(l:List Env)(e:Addr)(c:Value)(dct:Option Addr)(p:Addr->Prop)(v:Value)(h:Heap):Prop where
 stays:base.StaysIn h
 new:base.get? e=none
 frames:h.FunFrames base l
 ex:∃a0 T,Ex h e c dct a0 (.ref T)/\En h T v/\T≠e/\base.get? T=none/\p T
section
variable {M:Model}{A:Around}{E:Value->Shared->Prop}{s:Shared}{h h1 base:Heap}{cs fs:List Addr}{e T L:Addr}{c a0 hd v w:Value}{dct:Option Addr}{p p':Addr->Prop}{l outer:List Env}{env:Env}{Q:Unit->Shared->Prop}
def Fly.imp(f:Fly base l e c dct p v h)(k:∀T,T≠e->p T->p' T):Fly base l e c dct p' v h:=let ⟨a,T,x,n,ne,nb,q⟩:=f.ex;⟨f.stays,f.new,f.frames,a,T,x,n,ne,nb,k T ne q⟩
def kept(st:base.StaysIn h)(hl:h.FunFrames base l)(z:Ch cs (iO l) h h1)(k:∀b∈cs,base.get? b=none/\∃o vs,h.get? b=some o/\o.data=.fields vs):base.StaysIn h1/\h1.FunFrames base l:=by
 refine⟨λb o q=>?_,hl.of_keeps λb o q d=>?_⟩
 ·have nf:∀{fs:List Addr},(∀a∈fs,base.get? a=none)->b∉fs:=λy m=>by rw [y b m] at q;cases q
  obtain⟨sl,r,y⟩:=z b o (st b o q) (nf λa m=>(k a m).1)
  rw [r,y (nf λa m=>(hl.mem m).1)]
 ·obtain⟨sl,r,_⟩:=z b o q λm=>by
   obtain⟨_,o',vs,q',d'⟩:=k b m
   cases q.symm.trans q'
   exact d vs d'
  exact⟨_,r,rfl⟩
def EG(st:base.StaysIn h):base.get? h.objs.size=none:=by
 cases q:base.get? h.objs.size with
 | none=>rfl
 | some o=>exact absurd (z19 (st _ o q)) (z31 _)
def vC(hp:∀T,s.heap.objs.size≤T->p T)(hfr:A.frames=some (env::outer))(hf:env.frame=some L)(st:base.StaysIn s.heap)(hl:s.heap.FunFrames base (env::outer))(new:base.get? e=none)(x:Ex s.heap e c dct a0 hd)
  (hh:hd=.none∨∃T,hd=.ref T/\T≠e/\En s.heap T .none/\base.get? T=none/\p T) (k:∀h',Fly base (env::outer) e c dct p (rawInt L) h'->b9 e p (iO (env::outer)) s.heap h'->Q () { s with heap:=h' }):wpAny M A (noteFrame (.ref e) env) Q E s:=by
 obtain⟨cs,me,hc,ih⟩:∃cs:List Addr,e∈cs/\(∀b∈cs,(b=e∨p b)/\base.get? b=none/\∃o vs,s.heap.get? b=some o/\o.data=.fields vs)/\(hd=.none∨∃T∈cs,hd=.ref T/\T≠e/\En s.heap T .none):=by
  have he:(e=e∨p e)/\base.get? e=none/\∃o vs,s.heap.get? e=some o/\o.data=.fields vs:=let ⟨_,_,q,_⟩:=x;⟨.inl rfl,new,_,_,q,rfl⟩
  rcases hh with hh|⟨T,ht,ne,n,nb,q⟩
  ·exact⟨[e],.head _,λb m=>by rw [z17.mp m];exact he,.inl hh⟩
  ·refine⟨[e,T],.head _,λb m=>?_,.inr ⟨T,.tail _ (.head _),ht,ne,n⟩⟩
   rcases z1e.mp m with rfl|m
   ·exact he
   ·rw [z17.mp m]
    obtain⟨o,ts,a1,a2,_⟩:=n
    exact⟨.inr q,nb,o,ts,a1,a2⟩
 refine EE hfr hl hf x ih me λh' z x' n' ne=>?_
 obtain⟨st',hl'⟩:=kept st hl z λb m=>(hc b m).2
 exact k h' ⟨st',new,hl',a0,_,x',n',ne,EG st,hp _ (ze _)⟩ (.of z λb m=>(hc b m).1)
def Fly.land(f:Fly base l e c dct p v s.heap)(k:∀h',Fly base l e c dct p .none h'->b9 e p [] s.heap h'->Q () { s with heap:=h' }):wpAny M A (setFlight (.ref e) none) Q E s:=by
 obtain⟨a0,T,x,n,ne,nb,q⟩:=f.ex
 refine EF (fs:=[]) x n ne λh' z x' n'=>?_
 have z':Ch [T] (iO l) s.heap h':=λb o g m=>let ⟨sl,r,y⟩:=z b o g m;⟨sl,r,λ_=>y (List.not_mem_nil)⟩
 obtain⟨st,hl⟩:=kept f.stays f.frames z' λb m=>by rw [z17.mp m];obtain⟨o,ts,a1,a2,_⟩:=n;exact⟨nb,o,ts,a1,a2⟩
 exact k h' ⟨st,f.new,hl,a0,T,x',n',ne,nb,q⟩ (.of z λb m=>.inr (by rw [z17.mp m];exact q))
def Fly.look(hp:∀T,s.heap.objs.size≤T->p T)(hfr:A.frames=some (env::outer))(hf:env.frame=some L)(f:Fly base (env::outer) e c dct p .none s.heap)
  (k:∀h',Fly base (env::outer) e c dct p (rawInt L) h'->b9 e p (iO (env::outer)) s.heap h'->Q () { s with heap:=h' }):wpAny M A (noteFrame (.ref e) env) Q E s :=
 let ⟨_,T,x,n,ne,nb,q⟩:=f.ex;vC hp hfr hf f.stays f.frames f.new x (.inr ⟨T,rfl,ne,n,nb,q⟩) k
def Fly.out(f:Fly base (env::outer) e c dct p v h):Fly base outer e c dct p v h:=⟨f.stays,f.new,f.frames.2.2,f.ex⟩
def vD(m:∀{Q:Unit->Shared->Prop},(∀h',Fly base (env::outer) e c dct p (rawInt L) h'->b9 e p (iO (env::outer)) s.heap h'->Q () { s with heap:=h' })->wpAny M A (noteFrame (.ref e) env) Q E s)
  (k:∀h',Fly base outer e c dct p .none h'->b9 e p (iO (env::outer)) s.heap h'->Q () { s with heap:=h' }):wpAny M A (leaving env (.ref e)) Q E s:=by
 unfold leaving
 exact zb (m λ_ f u=>f.land λh' f' u'=>k h' f'.out (u.trans (u'.mono λ_ z=>absurd z List.not_mem_nil)))
end
end PySem
namespace L2
open PySem PySem.Spec PyProof.Rows
section
abbrev il(x C:Addr)(dct:Option Addr)(new:Bool):Heap->Prop:=λh=>∃o vs a0,h.get? x=some o/\o.cls=.ref C/\o.dict=dct/\o.data=.fields vs/\vs[0]?=some a0/\1<vs.size/\(new=true->vs[1]?=some .none)
noncomputable abbrev cH(x C:Addr)(dct:Option Addr)(new:Bool):HO:=.ext (il x C dct new)
def l8{P:Program}{w:World}{H:Hp}{h:Heap}{x C:Addr}{dct:Option Addr}{new:Bool}(e:il x C dct new h):dQ P w H h x (cH x C dct new):=by
 obtain⟨o,vs,a0,h1,h2⟩:=id e
 exact⟨e,⟨o,h1⟩,λa b ⟨o',vs',a0',q1,q2⟩ k=>⟨o',vs',a0',k _ q1,q2⟩⟩
structure y5c(K:W.Frag)(C f:Addr)(B newId nid y1a1 inN:String)(bmB bmN:List Value):Prop where
 fn:ExcBaseFacts B newId inN bmN
 hB:bmB.contains (.type B)=true
 fb:ExcBaseFacts B nid y1a1 bmB
 cls:∀h:Heap,K.In h->∃nm q N bs bm y18b sn sub ab col dd k0 k1 k2 k3 k5 mN,h.get? C=some (excClassObj nm q C N bs bm y18b sn sub ab col dd k0 k1 k2 k3 k5 newId)/\h.Ns N mN/\mN "__init__" = some (.ref f)/\OwnTail h bmB bm
 fun_:∀h:Heap,K.In h->∃o,h.get? f=some o/\o.cls=.type "function"
section
variable {X:Cx}{CX:gH}{k:Nat}{f C:Addr}{fd:FuncData}{ps:List Str}{sp:Sp}{dvs:List V}{ds:List Value}{E:XK}{B newId nid y1a1 inN:String}{bmB bmN:List Value}
def Inv.exNew{pins:List (Addr×Obj)}{σ:St}{H:Hp}{s:Shared}(I:Inv X pins σ H s)(us:List Value):Inv X pins σ (upd H (s.heap.objs.size+1) (cH (s.heap.objs.size+1) C none true)) { s with heap:=fH s.heap C us }:=by
 have:=I.laid (h':=fH s.heap C us) (a:=s.heap.objs.size+1) (o:=cH (s.heap.objs.size+1) C none true) (t':=s.toks) (λb u e=>zf _ (zf _ e)) (Nat.le_succ _)
  (l8 ⟨_,_,_,(by unfold fH;heap_get:(fH s.heap C us).get? (s.heap.objs.size+1)=some { cls:=.ref C,data:=.fields #[.ref s.heap.objs.size,.none,.none,.none,.bool false,.none] }),rfl,rfl,rfl,rfl,by simp,λ_=>rfl⟩)
 exact this
def EH{pins:List (Addr×Obj)}{σ:St}{H:Hp}{s:Shared}{Q:VK}{us:List Value}{vs:List V}(M:y5c X.K C f B newId nid y1a1 inN bmB bmN)(F:y46 X.prog X.w X.K X.mg X.base CX k f fd ps sp)(hr:y54 (k+1) X.A)(hb:cW X.K fd ps ds)(hd:au dvs ds)
  (hx:bM CX X E) (I:Inv X pins σ H s) (r:au vs us) (hz:us.length≤sizeLine)
  (h:∀x,H x=none->sp (.ref x::(vs++dvs)) (upd H x (cH x C none true)) (λv H2=>v=.non/\Q (.ref x) H2) E) :
  wpAny (model X.prog X.w) X.A (call (.ref C) us) (EP X pins σ Q) X.xe s:=by
 have hq:=h (s.heap.objs.size+1) (I.hok.fresh (Nat.le_succ _))
 have I2:=Inv.exNew (C:=C) I us
 have r2:au (V.ref (s.heap.objs.size+1)::(vs++dvs)) (Value.ref (s.heap.objs.size+1)::(us++ds)):=.cons rfl (r.append hd)
 have hl:(Value.ref (s.heap.objs.size+1)::us++ds).length=ps.length:=by
  have e:=r2.length
  rw [F.len _ _ _ _ hq] at e
  exact e.symm
 obtain⟨nm,q,N,bs,bm,y18b,sn,sub,ab,col,dd,k0,k1,k2,k3,k5,mN,hC,hn,hi,T⟩:=M.cls _ I.kIn
 have hc:=F.run _ X.stack _ _ ⟨Value.ref (s.heap.objs.size+1)::us,[]⟩ (Value.ref (s.heap.objs.size+1)::(us++ds)) _ _ E (hr.make C us [])
  (I2.env0.make C us []) (hb _ (Value.ref (s.heap.objs.size+1)::us) I2.kIn hl) r2 hq
 obtain⟨hh,g,d,t,os⟩:=s
 obtain⟨of,hof,hcf⟩:=M.fun_ _ I.kIn
 refine iN.makes M.fn M.hB M.fb T ⟨nm,q,N,bs,y18b,sn,sub,ab,col,dd,k0,k1,k2,k3,k5,hC,hn⟩ hi hof hcf hz (codeAny_mono hc λr s' hq'=>?_)
 cases r with
 | error e=>exact hx pins σ _ _ e s' I2 hq'
 | ok fl =>
  cases fl with
  | ret u =>
   obtain⟨v,H',I3,rv,ev,q3⟩:=I2.after hq'
   subst ev
   exact⟨rv,⟨V.ref (hh.objs.size+1),H',I3,rfl,q3⟩⟩
  | next=>exact False.elim hq'
  | brk=>exact False.elim hq'
  | cont=>exact False.elim hq'
end
end
end L2
namespace PySem
section
variable {prog:Program}{w:World}{A:Around}{E:Value->Shared->Prop}{h:Heap}{g:Array GenState}{d:Drawn}{t:Nat}{os:OsState}
variable {C:Addr}{bm bl:List Value}{B nid y1a1:String}
def EI(F:ExcBaseFacts B nid y1a1 bl)(T:OwnTail h bl bm){x:Addr}{oe:Obj}{vs:Array Value}{aU:List Value}{Q:Value->Shared->Prop}
  (hC:l7 h C bm) (he:h.get? x=some oe) (y189:oe.cls=.ref C) (hd:oe.data=.fields vs) (hz:0<vs.size) (hrest:aU.length≤sizeLine)
  (hq:Q .none ⟨(h.push { cls:=.type "tuple",data:=.seq aU.toArray }).update x (Obj.mapFields (·.setIfInBounds 0 (.ref h.objs.size))),g,d,t,os⟩) :
  wpAny (model prog w) A (call (.builtin y1a1) (.ref x::aU)) Q E ⟨h,g,d,t,os⟩:=by
 obtain⟨nm,q,N,bs,y18b,sn,sub,ab,col,dd,k0,k1,k2,k3,k5,newId,hC⟩:=hC
 refine wpAny_call (codeAny_call_builtin F.init.plain F.initEntry (wpAny_check_init_subU F T hC he y189 ?_))
 wp_walk
 rw [hd]
 refine zd ?_
 obtain⟨y,hy⟩:∃y,vs[0]?=some y:=⟨_,Array.getElem?_eq_getElem hz⟩
 rw [hy]
 refine zd ?_
 have he₁:(h.push { cls:=.type "tuple",data:=.seq aU.toArray }).get? x=some oe:=zf _ he
 refine zb (wpAny_setField he₁ hd hz ?_)
 have key:wpAny (model prog w) A.in1 (match y with | .ref _=>letGo [y]|_=>pure ()) (λ_ s'=>s'=⟨(h.push { cls:=.type "tuple",data:=.seq aU.toArray }).update x (Obj.mapFields (·.setIfInBounds 0 (.ref h.objs.size))),g,d,t,os⟩) E ⟨(h.push { cls:=.type "tuple",data:=.seq aU.toArray }).update x (Obj.mapFields (·.setIfInBounds 0 (.ref h.objs.size))),g,d,t,os⟩:=by
  cases y<;>first|exact zd rfl|exact wpAny_letGo rfl
 refine wpAny_mono key (λ_ s' e=>?_) λ_ _ z=>z
 subst e
 exact zd hq
end
end PySem
namespace L2
open PySem PySem.Spec PyProof.Rows
section
abbrev oZ(dx:Addr)(fs:List (Str×V)):Heap->Prop:=λh=>fs.length≤1000/\∃mA,h.Ns1 dx mA/\(∀f,h9 (fs.lookup f) (mA f))/\PySem.Within mA (fs.map (·.1))
noncomputable abbrev fI(dx:Addr)(fs:List (Str×V)):HO:=.ext (oZ dx fs)
def vE{P:Program}{w:World}{H:Hp}{h:Heap}{dx:Addr}{fs:List (Str×V)}(e:oZ dx fs h):dQ P w H h dx (fI dx fs):=by
 obtain⟨_,_,⟨o,_,_,q,_⟩,_⟩:=id e
 exact⟨e,⟨o,q⟩,λa b ⟨l,mA,⟨o',es,ep,q1,q2⟩,r⟩ k=>⟨l,mA,⟨o',es,ep,k _ q1,q2⟩,r⟩⟩
structure XA(K:W.Frag)(C:Addr):Prop where
 ga:W.findIn K (.ref C) "__getattribute__" = some (some (.builtin "BaseException.__getattribute__"))
 gt:W.findIn K (.ref C) "__getattr__" = some none
 sa:W.findIn K (.ref C) "__setattr__" = some (some (.builtin "object.__setattr__"))
 cd:∃cd,W.clsIn K C=some cd/\cd.hasDict=true/\cd.mro.contains (.type "object")=true/\cd.mro.contains (.type "BaseException")=true/\∀self,refuseLoop self "__setattr__" cd.mro=pure ()
section
variable {prog:Program}{w:World}{A:Around}{E:Value->Shared->Prop}{s:Shared}{K:W.Frag}{x C:Addr}{name:Str}{v:Value}{ox:Obj}{od:Option Obj}
open PySem.W in
def vF{cd:ClassData}{v:Value}(hc:clsIn K C=some cd)(m:cd.mro.contains v=true):mroIn K C v=some true:=by
 unfold mroIn
 rw [hc]
 match q:cd.mro,m with
 | [],m=>cases m
 | a::l,m=>simp only [Option.bind_some,q];rw [m];rfl
open PySem.W in
def XA.isa(c:XA K C)(X:K.In s.heap)(I:InstAt s.heap x ox C od):Looks (model prog w) s.heap (isInstance (.ref x) (.type "object")) true/\Looks (model prog w) s.heap (isInstance (.ref x) (.type "BaseException")) true :=
 let ⟨_,hc,_,m,m',_⟩:=c.cd;⟨I.type.andThen (looks_mroIn X (vF hc m)),I.type.andThen (looks_mroIn X (vF hc m'))⟩
open PySem.W in
def vG{tk:Tok}{R:Result->Shared->Prop}(X:K.In s.heap)(I:InstAt s.heap x ox C od)(c:XA K C)(n:ib K C name)
  (h:wpAny (model prog w) A.in1 (Builtin.ObjectAttr.storeInOwnDict (.ref x) (.ref C) (.str name tk) name v false) (λr s1=>∃f,r=.done f/\R (.ok f) s1) (λe=>R (.error e)) s) :
  codeAny (model prog w) A (.call (.builtin "object.__setattr__") ⟨[.ref x,.str name tk,v],[]⟩) R s:=by
 have F:=PySem.F.store_object
 refine codeAny_call_builtin F.slot.plain F.entry (@check_slot (model prog w) _ _ s "object.__setattr__" "object" "__setattr__" (.ref x) [.str name tk,v] [] _ F.kind F.split (c.isa X I).1 (F.args (.ref x) (.str name tk) v) ?_)
 obtain⟨cd,hc,_,_,_,free⟩:=c.cd
 have line:Looks (model prog w) s.heap (mroOf (.ref C)) cd.mro:=(looks_clsIn X hc).andThen .now
 rw [osa_eq,refuse_eq]
 refine zb (zb (I.type.here (zb (line.here ?_))))
 rw [free (.ref x)]
 refine zd (zb (I.type.here (zb ((looks_findIn X n).here (zb (zd (wpAny_mono h (λr s1 z=>?_) λ_ _ z=>z)))))))
 obtain⟨f,rfl,z⟩:=z
 exact z
def vH{dx:Addr}{tk:Tok}{mA:Str->Option Value}{ns:List Str}{Q:Fin->Shared->Prop}(hm:s.heap.Ns1 dx mA)(hw:PySem.Within mA ns)(hsz:ns.length≤sizeLine)
  (k:∀h',h'.Ns1 dx (λy=>if y=name then some v else mA y)->Heap.SameBut dx s.heap h'->Q (.done (.ret .none)) { s with heap:=h',toks:=s.toks+1 }) :
  wpAny (model prog w) A (Builtin.ObjectAttr.storeInDict dx (.str name tk) name v) Q E s:=by
 unfold Builtin.ObjectAttr.storeInDict Builtin.ObjectAttr.newKeyGuard
 refine zb (zd ?_)
 refine zb (wpAny_nsSet1 hm λg1 n1 s1=>?_)
 obtain⟨o,_,_,q,dt,le⟩:=n1.count (PySem.Within.cons name v hw)
 rw [z11] at le
 exact zb (wpAny_lookBehind q (by rw [dt];exact pastItsLine_dict (by lia)) (zd (k g1 n1 s1)))
open PySem.W in
def vI{vs:Array Value}{Q:Unit->Shared->Prop}(X:K.In s.heap)(hx:s.heap.get? x=some ox)(hc:ox.cls=.ref C)(hd:ox.data=.fields vs)(hn:ox.dict=none)(c:XA K C)(n:ib K C name)
  (h:∀h',h'.Ns1 s.heap.objs.size (λy=>if y=name then some v else none)->h'.get? x=some { ox with dict:=some s.heap.objs.size } ->
   (∀b o,b≠x->s.heap.get? b=some o->h'.get? b=some o)->Q () { s with heap:=h',toks:=s.toks+2 }) :
  wpAny (model prog w) A (setAttr (.ref x) name v) Q E s:=by
 obtain⟨oc,odi,oda,osl⟩:=ox
 dsimp only at hc hd hn
 subst hc hd hn
 have I:InstAt s.heap x ⟨.ref C,none,.fields vs,osl⟩ C none:=⟨hx,rfl,rfl,trivial⟩
 refine set_plain X I c.sa (vG (s:={ s with toks:=s.toks+1 }) X I c n ?_)
 obtain⟨cd,hcl,hd',_⟩:=c.cd
 have far:∀{b o},s.heap.get? b=some o->b≠s.heap.objs.size:=λq=>z27 (z19 q)
 refine zb (zd (zb (zb (wpAny_loadPart hx (zb (Looks.here (s:={ s with toks:=s.toks+1 }) (looks_clsIn X hcl) ?_))))))
 rw [hd']
 refine zb (wpAny_alloc' (zb (wpAny_update' (zf _ hx) (zd ?_))))
 have empty:((s.heap.push { cls:=.type "dict",data:=.dict #[] }).update x λo=>{ o with dict:=some s.heap.objs.size }).Ns1 s.heap.objs.size (λ_=>none) :=
  Heap.Ns1.of_empty ⟨{ cls:=.type "dict",data:=.dict #[] },#[],0,(Heap.get?_update_other _ _ (far hx)).trans (Heap.get?_push_at rfl rfl),rfl,λe he=>by simp at he,λ_=>rfl⟩
 refine vH (s:={ s with heap:=_,toks:=s.toks+1 }) (ns:=[]) empty PySem.Within.nil (Nat.zero_le _) λg1 n1 sb=>⟨_,rfl,h g1 n1 ?_ λb o ne q=>?_⟩
 ·exact (sb.2 x (far hx)).trans (Heap.get?_update_self _ (zf _ hx) rfl)
 ·exact (sb.2 b (far q)).trans ((Heap.get?_update_other _ _ ne.symm).trans (zf _ q))
open PySem.W in
def vJ{vs:Array Value}{dx:Addr}{mA:Str->Option Value}{ns:List Str}{Q:Unit->Shared->Prop}(X:K.In s.heap)(hx:s.heap.get? x=some ox)(hc:ox.cls=.ref C)(hd:ox.data=.fields vs)(hn:ox.dict=some dx)(hm:s.heap.Ns1 dx mA)
  (hw:Within mA ns) (hsz:ns.length≤sizeLine) (c:XA K C) (n:ib K C name)
  (h:∀h',h'.Ns1 dx (λy=>if y=name then some v else mA y)->Heap.SameBut dx s.heap h'->Q () { s with heap:=h',toks:=s.toks+2 }) :
  wpAny (model prog w) A (setAttr (.ref x) name v) Q E s:=by
 obtain⟨oc,odi,oda,osl⟩:=ox
 dsimp only at hc hd hn
 subst hc hd hn
 obtain⟨oo,hoo,_⟩:=kQ hm
 have I:InstAt s.heap x ⟨.ref C,some dx,.fields vs,osl⟩ C (some oo):=⟨hx,rfl,rfl,hoo⟩
 refine set_plain X I c.sa (vG (s:={ s with toks:=s.toks+1 }) X I c n ?_)
 obtain⟨cd,hcl,hd',_⟩:=c.cd
 refine zb (zd (zb (zb (wpAny_loadPart hx (zb (Looks.here (s:={ s with toks:=s.toks+1 }) (looks_clsIn X hcl) ?_))))))
 rw [hd']
 exact zd (a:=some dx) (vH (s:={ s with toks:=s.toks+1 }) hm hw hsz λg1 n1 sb=>⟨_,rfl,h g1 n1 sb⟩)
open PySem.W in
def EJ{vs:Array Value}{dx:Addr}{mA:Str->Option Value}{b:Bool}{Q:Value->Shared->Prop}(X:K.In s.heap)(hx:s.heap.get? x=some ox)(hc:ox.cls=.ref C)(hd:ox.data=.fields vs)(hn:ox.dict=some dx)(hm:s.heap.Ns1 dx mA)
  (c:XA K C) (n:ib K C name) (hv:mA name=some v) (hh:handedIn v=true) (h:Q v { s with toks:=s.toks+1 }) :
  wpAny (model prog w) A (getAttr (.ref x) name b) Q E s:=by
 obtain⟨oc,odi,oda,osl⟩:=ox
 dsimp only at hc hd hn
 subst hc hd hn
 obtain⟨oo,hoo,hl⟩:=kQ hm
 have I:InstAt s.heap x ⟨.ref C,some dx,.fields vs,osl⟩ C (some oo):=⟨hx,rfl,rfl,hoo⟩
 obtain⟨cd,hcl,hd',_⟩:=c.cd
 have hf:findObj K C (some oo) name=some (.value v):=findObj_own (attr:=none) (by unfold hasDictIn;rw [hcl];exact hd') n rfl (by rw [hl,hv])
 have L0:=I.type (M:=model prog w)
 have L1:=looks_findIn (M:=model prog w) X c.ga
 have L2:=looks_findIn (M:=model prog w) X c.gt
 have L3:=looks_find (M:=model prog w) X I hf
 have sub:=(c.isa (prog:=prog) (w:=w) X I).2
 obtain⟨hh',g,d,t,os⟩:=s
 unfold getAttr getAttrBy
 refine zb (wpAny_mkText (wpAny_holding (zb (L0.at (zb (L1.at ?_))))))
 show wpAny _ _ (getAttrByItsOwn _ _ _ _ _ _) _ _ _
 refine zb (L2.at (zb ?_))
 have hx0:(b&&onTheHeap (Value.builtin "BaseException.__getattribute__"))=false:=by cases b<;>rfl
 have hk:builtinKind "BaseException.__getattribute__" = some .slot:=by decide +kernel
 have y195:splitId "BaseException.__getattribute__" = some ("BaseException","__getattribute__"):=by decide +kernel
 have FA:=PySem.F.excAttr_ValueError.ga
 refine wpAny_attempt (wpAny_holding ?_)
 unfold callGetattribute
 rw [if_neg (by rw [hx0];decide)]
 unfold boundAndCalled
 rw [FA.bind]
 refine zb (zd (wpAny_call (codeAny_call_builtin FA.plain F.entry_bexc_ga (@check_slot (model prog w) _ _ _ "BaseException.__getattribute__" "BaseException" "__getattribute__" (.ref x) [.str name t] [] _ hk y195 sub (F.args_bexc_ga _ _) ?_))))
 refine zb (zd (zb (zd (zb (L0.at (zb (L3.at ?_)))))))
 refine zd ?_
 show wpAny _ _ (handedOut v) _ _ _
 rw [handedOut_of hh];exact zd h
end
end
section
section
variable {X:Cx}{pins:List (Addr×Obj)}{σ:St}{H:Hp}{s:Shared}{a C dx:Addr}{fs:List (Str×V)}{f:Str}{v:V}{A:Around}{E:Value->Shared->Prop}{new:Bool}
def fJ{P:Program}{w:World}{h:Heap}{dct:Option Addr}(hok:cO P w H h)(e:H a=some (cH a C dct new)):il a C dct new h:=(hok a _ e).1
def l9{P:Program}{w:World}{h:Heap}(hok:cO P w H h)(e:H dx=some (fI dx fs)):oZ dx fs h:=(hok dx _ e).1
def EK{b:Bool}{Q:Value->Shared->Prop}(I:Inv X pins σ H s)(e:H a=some (cH a C (some dx) new))(ed:H dx=some (fI dx fs))(c:XA X.K C)(n:ib X.K C f)(l:fs.lookup f=some v)
  (h:∀u s',Inv X pins σ H s'->aA v u->Q u s'):wpAny (model X.prog X.w) A (getAttr (.ref a) f b) Q E s:=by
 obtain⟨o,vs,a0,h1,h2,h3,h4,_⟩:=fJ I.hok e
 obtain⟨_,mA,hm,r,_⟩:=l9 I.hok ed
 obtain⟨u,hu,ru⟩:=h9.some_of (v:=v) (o:=mA f) (by rw [<- l];exact r f)
 exact EJ I.kIn h1 h2 h4 h3 hm c n hu (AF ru) (h u _ (I.tok _) ru)
def EL{y:V}{u:Value}{Q:Unit->Shared->Prop}(I:Inv X pins σ H s)(e:H a=some (cH a C (some dx) new))(ed:H dx=some (fI dx fs))(c:XA X.K C)(n:ib X.K C f)(hl:fs.length<1000)(ry:aA y u)
  (h:∀s',Inv X pins σ (upd H dx (fI dx (cR f y fs))) s'->Q () s'):wpAny (model X.prog X.w) A (setAttr (.ref a) f u) Q E s:=by
 obtain⟨o,vs,a0,h1,h2,h3,h4,_⟩:=fJ I.hok e
 obtain⟨_,mA,hm,r,wi⟩:=l9 I.hok ed
 have hz:(fs.map (·.1)).length≤sizeLine:=by rw [z12,sizeLine_eq];lia
 refine vJ I.kIn h1 h2 h4 h3 hm wi hz c n λh' O' sb=>h _ ?_
 have hd:∃o,h'.get? dx=some o:=let ⟨o,_,_,e',_⟩:=O';⟨o,e'⟩
 refine I.write (x:=dx) (e:=dx) (by rw [ed];exact True.intro) (.inl rfl) (λb q hb z=>(sb.2 b hb).trans z) hd (vE ⟨?_,_,O',λg=>?_,λg hg=>?_⟩)
 ·have:=q5 f y fs;lia
 ·show h9 ((cR f y fs).lookup g) (if g=f then some u else mA g)
  rw [qZ]
  by_cases q:g=f
  ·rw [if_pos q,if_pos q];exact ry
  ·rw [if_neg q,if_neg q];exact r g
 ·by_cases q:g=f
  ·rw [q];exact (nL f y fs).1
  ·refine (nL f y fs).2 g (wi g λz=>hg ?_)
   show (if g=f then some u else mA g)=none
   rw [if_neg q];exact z
def EM{y:V}{u:Value}{Q:Unit->Shared->Prop}(I:Inv X pins σ H s)(e:H a=some (cH a C none new))(c:XA X.K C)(n:ib X.K C f)(ry:aA y u)
  (h:∀dx s',H dx=none->Inv X pins σ (upd (upd H dx (fI dx [(f,y)])) a (cH a C (some dx) new)) s'->Q () s'):wpAny (model X.prog X.w) A (setAttr (.ref a) f u) Q E s:=by
 obtain⟨o,vs,a0,h1,h2,h3,h4,h5,h6,h7⟩:=fJ I.hok e
 refine vI I.kIn h1 h2 h4 h3 c n λh' O' hx' sb=>?_
 have fr:=I.hok.fresh (ze s.heap.objs.size)
 have hne:s.heap.objs.size≠a:=λz=>by rw [<- z,fr] at e;cases e
 refine h s.heap.objs.size _ fr ?_
 obtain⟨oD,es,ep,g1,g2⟩:=id O'
 have gf:oD.isFreed=false:=(Heap.get?_some_iff.mp g1).2
 have q1:(s.heap.push oD).get? s.heap.objs.size=some oD:=Heap.get?_push_at rfl gf
 have I1:=I.laid (h':=s.heap.push oD) (a:=s.heap.objs.size) (o:=fI s.heap.objs.size [(f,y)]) (t':=s.toks) (λb u q=>zf _ q) (ze _)
  (vE ⟨by simp,_,⟨oD,es,ep,q1,g2⟩,λg=>(by
   show h9 (List.lookup g [(f,y)]) (if g=f then some u else none)
   by_cases q:g=f
   ·have hb:(g == f)=true:=beq_iff_eq.mpr q
    rw [if_pos q];simp only [List.lookup,hb];exact ry
   ·have hb:(g == f)=false:=beq_eq_false_iff_ne.mpr q
    rw [if_neg q];simp only [List.lookup,hb];trivial),λg hg=>(by
   by_cases q:g=f
   ·rw [q];simp
   ·exact absurd (show (if g=f then some u else none)=none from if_neg q) hg)⟩)
 have e1:upd H s.heap.objs.size (fI s.heap.objs.size [(f,y)]) a=some (cH a C none new):=by rw [aK hne.symm];exact e
 refine I1.write (x:=a) (e:=a) (by rw [e1];exact True.intro) (.inl rfl) (λb q hb z=>?_) ⟨_,hx'⟩ (l8 ⟨_,vs,a0,hx',h2,rfl,h4,h5,h6,h7⟩)
 by_cases q2:b=s.heap.objs.size
 ·subst q2;rw [q1] at z;cases z;exact g1
 ·refine sb b q hb ?_
  have:(s.heap.push oD).get? b=s.heap.get? b:=Heap.get?_push_ne _ _ _ q2
  rw [<- this];exact z
end
abbrev EN(K:W.Frag)(ta:TE)(f:Str):TE:=λσ H Q=>ta σ H λx H1=>∃a C dx fs v new,x=.ref a/\H1 a=some (cH a C (some dx) new)/\H1 dx=some (fI dx fs)/\XA K C/\ib K C f/\fs.lookup f=some v/\Q v H1
abbrev EO(K:W.Frag)(ta tv:TE)(f:Str):TS:=λD σ H=>tv σ H λy H1=>ta σ H1 λx H2=>∃a C new,x=.ref a/\H2 a=some (cH a C none new)/\XA K C/\ib K C f /\
 ∀dx,H2 dx=none->D.nx σ (upd (upd H2 dx (fI dx [(f,y)])) a (cH a C (some dx) new))
abbrev sXF(K:W.Frag)(ta tv:TE)(f:Str):TS:=λD σ H=>tv σ H λy H1=>ta σ H1 λx H2=>∃a C dx fs new,x=.ref a/\H2 a=some (cH a C (some dx) new)/\H2 dx=some (fI dx fs)/\XA K C/\ib K C f/\fs.length<1000 /\
 D.nx σ (upd H2 dx (fI dx (cR f y fs)))
section
variable {X:Cx}{o e value:Expr}{f:Str}{pos pos' tpos:Pos}{ta tv:TE}
def vK(he:PE X e ta)(hb:attributeBase e f X.env (eval e X.env)=eval e X.env):PE X (.Attribute e f pos) (EN X.K ta f):=by
 intro pins s σ H Q I h
 refine y7d hb (aH (he pins s σ H _ I h) λu s1 zz=>?_)
 obtain⟨x,H1,I1,rx,a,C,dx,fs,v,new,ex,ea,ed,c,n,l,q⟩:=zz
 subst ex
 obtain rfl:u=Value.ref a:=rx
 exact EK I1 ea ed c n l λu' s2 I2 ru=>⟨v,H1,I2,ru,q⟩
def ER(ha:PE X o ta)(hv:PE X value tv)(hs:swapsWith value (some (.Attribute o f pos')) pos.line X.env=pure false):PS X (.Assign [.Attribute o f pos'] value pos) (EO X.K ta tv f):=by
 intro pins s σ H D I h
 refine plainObj_wpAny_Assign_Attribute (aH (hv pins s σ H _ I h) λu s1 ⟨y,H1,I1,ry,q⟩=>aH (ha pins s1 σ H1 _ I1 q) λov s2 ⟨x,H2,I2,rx,a,C,new,ex,ea,c,n,q2⟩=>?_) hs
 subst ex
 obtain rfl:ov=Value.ref a:=rx
 exact EM I2 ea c n ry λdx s3 hd I3=>⟨σ,_,I3,q2 dx hd⟩
def ES(ha:PE X o ta)(hv:PE X value tv)(hs:swapsWith value (some (.Attribute o f pos')) pos.line X.env=pure false):PS X (.Assign [.Attribute o f pos'] value pos) (sXF X.K ta tv f):=by
 intro pins s σ H D I h
 refine plainObj_wpAny_Assign_Attribute (aH (hv pins s σ H _ I h) λu s1 ⟨y,H1,I1,ry,q⟩=>aH (ha pins s1 σ H1 _ I1 q) λov s2 ⟨x,H2,I2,rx,a,C,dx,fs,new,ex,ea,ed,c,n,l,q2⟩=>?_) hs
 subst ex
 obtain rfl:ov=Value.ref a:=rx
 exact EL I2 ea ed c n l ry λs3 I3=>⟨σ,_,I3,q2⟩
end
end
section
def pd{H:Hp}{a:Addr}{o:HO}(e:H a=some o):upd H a o=H:=by
 funext b;unfold upd;split
 ·rename_i q;rw [q,e]
 ·rfl
structure y14(K:W.Frag)(B0:Addr)(y1a1:String):Prop where
 rd:W.readsIn K B0 (.type "type")=true
 fd:W.findCls K (.ref B0) (.type "type") "__init__" = some (.val (.builtin y1a1))
 ga:W.specialIn K (.ref B0) "__getattribute__" = some (some (.builtin "type.__getattribute__"))
 hh:W.handedIn (.builtin y1a1)=true
abbrev tXI(C:Addr)(t:TA):TE:=λσ H Q=>t σ H λvs H1=>∃a aU new dct,vs=.ref a::aU/\aU.length≤sizeLine/\H1 a=some (cH a C dct new)/\Q .non H1
section
variable {X:Cx}{f C B0:Addr}{B newId nid y1a1 inN:String}{bmB bmN:List Value}{x:Str}{p pos apos:Pos}{e:Expr}{es:List Expr}{t:TA}
def ET{pins:List (Addr×Obj)}{σ:St}{H:Hp}{s:Shared}{a:Addr}{dct:Option Addr}{new:Bool}{us:List Value}{A:Around}{E:Value->Shared->Prop}{Q:Value->Shared->Prop}(M:y5c X.K C f B newId nid y1a1 inN bmB bmN)
  (I:Inv X pins σ H s) (e:H a=some (cH a C dct new)) (hz:us.length≤sizeLine) (h:∀s',Inv X pins σ H s'->Q .none s'):wpAny (model X.prog X.w) A (call (.builtin y1a1) (.ref a::us)) Q E s:=by
 obtain⟨o,vs,a0,h1,h2,h3,h4,h5,h6,h7⟩:=fJ I.hok e
 obtain⟨nm,q,N,bs,bm,y18b,sn,sub,ab,col,dd,k0,k1,k2,k3,k5,mN,hC,hn,hi,T⟩:=M.cls _ I.kIn
 have I1:=I.kept (h':=s.heap.push { cls:=.type "tuple",data:=.seq us.toArray }) (t':=s.toks) (λb u q=>zf _ q)
 have he₁:(s.heap.push { cls:=.type "tuple",data:=.seq us.toArray }).get? a=some o:=zf _ h1
 have hd₃:=Obj.data_mapFields h4 (·.setIfInBounds 0 (Value.ref s.heap.objs.size))
 have he₃:=Heap.get?_update_self (Obj.mapFields (·.setIfInBounds 0 (Value.ref s.heap.objs.size))) he₁ (Obj.isFreed_of_fields hd₃)
 have I2:=I1.write (x:=a) (e:=a) (o:=cH a C dct new) (t':=s.toks) (by rw [e];exact True.intro) (.inl rfl) (λb u hb q=>(Heap.get?_update_other _ _ (Ne.symm hb)).trans q) ⟨_,he₃⟩
  (l8 ⟨_,_,.ref s.heap.objs.size,he₃,(Obj.cls_mapFields _ _).trans h2,(yf8 _ _).trans h3,hd₃,by rw [Array.getElem?_setIfInBounds_self_of_lt (Nat.lt_trans Nat.zero_lt_one h6)],by rw [Array.size_setIfInBounds];exact h6,λz=>by rw [Array.getElem?_setIfInBounds_ne (by decide)];exact h7 z⟩)
 rw [pd e] at I2
 obtain⟨hh,g,d,tk,os⟩:=s
 exact EI M.fb T ⟨nm,q,N,bs,y18b,sn,sub,ab,col,dd,k0,k1,k2,k3,k5,_,hC⟩ h1 h2 h4 (Nat.lt_trans Nat.zero_lt_one h6) hz (h _ I2)
def EU{pl:Sem Bool}(hg:Gl X x)(hm:X.mg x=some (.ref B0))(hi:y14 X.K B0 y1a1)(M:y5c X.K C f B newId nid y1a1 inN bmB bmN)(ha:PA X (e::es) t)(hdb:(x == ("__debug__" : Str))=false:=by decide)
  (hst:‹starEach (e::es) X.env=(false,eval e X.env)::starEach es X.env›) (hpl:‹gB X pos es›)
  (ht:‹eval (.Call (.Attribute (.Name x p) "__init__" apos) (e::es) [] pos) X.env=(do
   let ov <- eval (.Name x p) X.env
   standAt apos.atName
   let (f,first) <- holding [ov] (getMethod ov "__init__" pl)
   callWith pos f first (backTo pos (starEach (e::es) X.env)) (backToKw pos (keywordEach [] X.env)))›) :
  PE X (.Call (.Attribute (.Name x p) "__init__" apos) (e::es) [] pos) (tXI C t):=by
 intro pins s σ H Q I h
 refine W.methodCall_KW (pl:=pl) (jf I hg hm ?_ hdb) ht
 refine W.method_cls I.kIn hi.ga (W.cls_value I.kIn hi.rd hi.fd hi.hh ?_)
 refine PyProof.Rows.callWith_builtin1 (aH (ha pos pins _ σ H _ (I.tok _) h) λus s1 ⟨vs,H1,I1,r1,a,aU,new,dct,ev,hz,ea,q⟩=>?_) hst hpl
 subst ev
 cases r1 with
 | @cons _ u _ us' ru r2 =>
  obtain rfl:u=Value.ref a:=ru
  exact ET M I1 ea (by rw [<- r2.length];exact hz) λs' I2=>⟨.non,H1,I2,rfl,q⟩
end
end
section
abbrev pf(n:Nat)(H:Hp):Addr->Prop:=λT=>n≤T/\H T=none
section
variable {h':Heap}{x C:Addr}{dct:Option Addr}{nw:Bool}{fl:Value}{p:Addr->Prop}{base:Heap}
def EV{l:List Env}(t:Fly base l x (.ref C) dct p fl h'):il x C dct false h':=by
 obtain⟨a0,T,⟨vs,sl,q,q0,q1⟩,_⟩:=t.ex
 exact⟨_,vs,a0,q,rfl,rfl,rfl,q0,(Array.getElem?_eq_some_iff.mp q1).1,λz=>by cases z⟩
def ph{P:Program}{w:World}{H H':Hp}{h0 h:Heap}{fs fs':List Addr}{l:List Env}(un:Un fs [] H H' h0 h)(hok:cO P w H' h)(ex:H' x=some (cH x C dct nw))(hf:∀b∈fs',H' b=none)(hsub:∀b∈fs',b∈fs∨h0.get? b=none)
  (up:b9 x (pf h0.objs.size H') fs' h h') (tr:Fly base l x (.ref C) dct p fl h') :
  Un fs [] H (upd H' x (cH x C dct false)) h0 h'/\cO P w (upd H' x (cH x C dct false)) h':=by
 have nl:∀b:Addr,b∉([]:List Addr):=λb z=>by simp at z
 have hxe:=EV tr
 have hex:∃o,h'.get? x=some o:=let ⟨o,_,_,q,_⟩:=hxe;⟨o,q⟩
 have kp:∀b o,b≠x->H' b=some o->∀u,h.get? b=some u->h'.get? b=some u:=λb o nb e u q =>
  (up b u q ⟨nb,λz=>by rw [z.2] at e;cases e⟩).2 λz=>by rw [hf b z] at e;cases e
 have ni:∀b o,h0.get? b=some o->H b=none->b≠x:=λb o q e z=>by
  have:=un.free b o q e (nl b);rw [z,ex] at this;cases this
 have old:∀b o,h0.get? b=some o->¬ pf h0.objs.size H' b:=λb o q z=>absurd (z19 q) (Nat.not_lt.mpr z.1)
 refine⟨⟨λb o q e nb _=>?_,λb o q e nb _=>?_,λb o q e _=>?_,λb o q _=>?_,λb xs e=>?_,λb o u e=>?_,λb ps e=>?_⟩,λb o e=>?_⟩
 ·refine (up b o (un.keep b o q e nb (nl b)) ⟨ni b o q e,old b o q⟩).2 λz=>?_
  rcases hsub b z with z|z
  ·exact nb z
  ·rw [q] at z;cases z
 ·obtain⟨sl,q1⟩:=un.slot b o q e nb (nl b)
  obtain⟨sl2,q2⟩:=(up b _ q1 ⟨ni b o q e,old b o q⟩).1
  exact⟨sl2,q2⟩
 ·rw [aK (ni b o q e)];exact un.free b o q e (nl b)
 ·obtain⟨o',q1⟩:=un.there b o q (nl b)
  by_cases hb:b=x
  ·rw [hb];exact hex
  ·obtain⟨sl,q2⟩:=(up b o' q1 ⟨hb,old b o q⟩).1
   exact⟨_,q2⟩
 ·have e1:=un.y42a b xs e
  rw [aK λz=>by rw [z,ex] at e1;cases e1];exact e1
 ·have e1:=un.y150 b o u e
  rw [aK λz=>by rw [z,ex] at e1;cases e1];exact e1
 ·obtain⟨more,e1⟩:=un.y410 b ps e
  exact⟨more,by rw [aK λz=>by rw [z,ex] at e1;cases e1];exact e1⟩
 ·by_cases hb:b=x
  ·subst hb
   rw [a8] at e;cases e
   exact l8 hxe
  ·rw [aK hb] at e
   refine (hok b o e).y3d9 (λc u hc q=>?_) (λc e2=>?_) λc xs e2=>?_
   ·rcases hc with rfl|hc
    ·exact kp c o hb e u q
    ·exact kp c _ (λz=>by rw [z,ex] at hc;cases hc) hc u q
   ·rw [aK λz=>by rw [z,ex] at e2;cases e2];exact e2
   ·rw [aK λz=>by rw [z,ex] at e2;cases e2];exact e2
end
abbrev da(P:Program)(w:World)(base:Heap):gH:=λouter H s E e s'=>∃x C dct H',e=.ref x/\s'.os=s.os/\AllBare s'.gens/\Un (fP outer) [] H H' s.heap s'.heap/\cO P w H' s'.heap /\
 Fly base outer x (.ref C) dct (pf s.heap.objs.size H') .none s'.heap/\H' x=some (cH x C dct false)/\E (.ref C) (some x) H'
abbrev fK(X:Cx)(E:XK):Prop:=∀(pins:List (Addr×Obj)) (σ:St) (H:Hp) (s:Shared) (x C:Addr) (dct:Option Addr),Inv X pins σ H s->H x=some (cH x C dct true) ->
 E (.ref C) (some x) (upd H x (cH x C dct false))->X.xe (.ref x) s
section
variable {P:Program}{w:World}{K:W.Frag}{mg:Str->Option Value}{base:Heap}{N:List Str}{qual:Str}{scope:Scope}{f:Addr}{cd:Value}{A:Around}{outer:List Env}{s:Shared}{H:Hp}{E:XK}
def vL{X:Cx}{pins:List (Addr×Obj)}{σ:St}{H1:Hp}{s1:Shared}(I:Inv X pins σ H1 s1):∀b∈fP X.stack,b∈X.fs∨X.s₀.heap.get? b=none:=λb hb=>by
 rcases z1e.mp (I.y3db b hb) with e|hb
 ·exact .inr (by rw [e];exact Heap.get?_none_of_le I.ok.above)
 ·exact .inl hb
def EW:fK (ft (da P w base) P w K mg base N qual scope f cd A outer s H E) E:=by
 intro pins σ H1 s1 x C dct I ex hE
 obtain⟨o,vs,a0,h1,h2,h3,h4,h5,h6,h7⟩:=fJ I.hok ex
 have hxb:base.get? x=none:=by
  cases q:base.get? x with
  | none=>rfl
  | some o=>have:=(I.bs x o q).2;rw [ex] at this;cases this
 have hn:s.heap.objs.size≤s1.heap.objs.size:=I.sz
 obtain⟨oc,od,oda,osl⟩:=o
 dsimp only at h2 h3 h4
 subst h2 h3 h4
 refine vD (base:=base) (p:=pf s.heap.objs.size H1) (vC (λT z=>⟨z1b hn z,I.hok.fresh z⟩) I.ok.frames rfl I.bk I.stack hxb ⟨vs,osl,h1,h5,h7 rfl⟩ (.inl rfl)) λh' fy up=>?_
 obtain⟨u,k⟩:=ph (fs':=fP (ft (da P w base) P w K mg base N qual scope f cd A outer s H E).stack) I.base I.hok ex I.y3da (vL I) up fy
 exact⟨x,C,od,_,rfl,I.os,I.bare,u,k,fy.imp λT ne z=>⟨z.1,by rw [aK ne];exact z.2⟩,a8,hE⟩
def EX:bM (da P w base) (ft (da P w base) P w K mg base N qual scope f cd A outer s H E) E:=by
 rintro pins σ H1 s1 e s' I ⟨x,C,dct,H',rfl,os,bare,un,hok,fl,ex,q⟩
 obtain⟨hh,g,d,t,os'⟩:=s'
 obtain rfl:os'=s1.os:=os
 have J:=I.call (h':=hh) (g':=g) (d':=d) (t':=t) (ch:=[]) un hok bare (λb z=>absurd z (by simp))
 have hn:s.heap.objs.size≤hh.objs.size:=J.sz
 have hn1:s.heap.objs.size≤s1.heap.objs.size:=I.sz
 refine vD (base:=base) (p:=pf s.heap.objs.size H') (Fly.look (λT z=>⟨z1b hn z,hok.fresh z⟩) J.ok.frames rfl (fl.imp λT _ z=>⟨z1b hn1 z.1,z.2⟩)) λh' f2 up=>?_
 obtain⟨u,k⟩:=ph (fs':=fP (ft (da P w base) P w K mg base N qual scope f cd A outer s H E).stack) J.base J.hok ex J.y3da (vL J) up f2
 rw [pd ex] at u k
 exact⟨x,C,dct,H',rfl,J.os,J.bare,u,k,f2,ex,q⟩
end
end
end L2
namespace PySem
section
variable {M:Model}{A:Around}{E:Value->Shared->Prop}{env:Env}
def EY{s:Shared}{x:Sem Value}{Q:Flow->Shared->Prop}(hh:A.handled=none)
  (h:wpAny M A x (λv s₁=>∃e oe vs C bm,v=.ref e/\bm.contains (.type "BaseException")=true/\l7 s₁.heap C bm /\
   s₁.heap.get? e=some oe/\oe.cls=.ref C/\oe.data=.fields vs/\vs[1]?=some .none/\E (.ref e) s₁) E s) :
  wpAny M A (raiseStmt env (some x) none) Q E s:=by
 unfold raiseStmt
 refine zb (wpAny_mono h (λv s₁ h₁=>?_) λ_ _ x=>x)
 obtain⟨e,oe,vs,C,bm,rfl,y186,⟨nm,q,N,bs,y18b,sn,sub,ab,col,dd,k0,k1,k2,k3,k5,newId,hC⟩,he,hc,hd,h1,hE⟩:=h₁
 have hcB:(Value.ref C::bm).contains (.type "BaseException")=true:=by rw [List.contains_cons,y186,Bool.or_true]
 obtain⟨oc,odi,oda,osl⟩:=oe
 dsimp only at hc hd
 subst hc hd
 obtain⟨hp,g,d,tk,os⟩:=s₁
 repeat (first|with_reducible refine wpAny_field he rfl h1 ?_|with_reducible refine wpAny_loadPart_at he ?_|with_reducible refine wpAny_loadPart_at hC ?_|(with_reducible refine wpAny_isSubtype_exc hC ?_;rw [hcB])|wp_step)
 exact wpAny_raiseNew_none hh hE
end
end PySem
namespace L2
open PySem PySem.Spec PyProof.Rows
section
abbrev p9(K:W.Frag)(C:Addr):Prop:=∀h:Heap,K.In h->∃nm q N bs bm y18b sn sub ab col dd k0 k1 k2 k3 k5 newId,h.get? C=some (excClassObj nm q C N bs bm y18b sn sub ab col dd k0 k1 k2 k3 k5 newId)/\bm.contains (.type "BaseException")=true
def y5c.is{K:W.Frag}{C f:Addr}{B newId nid y1a1 inN:String}{bmB bmN:List Value}(M:y5c K C f B newId nid y1a1 inN bmB bmN):p9 K C:=λh x=>by
 obtain⟨nm,q,N,bs,bm,y18b,sn,sub,ab,col,dd,k0,k1,k2,k3,k5,mN,hC,hn,hi,T⟩:=M.cls h x
 exact⟨nm,q,N,bs,bm,y18b,sn,sub,ab,col,dd,k0,k1,k2,k3,k5,_,hC,T.hasType M.fb.hasBase⟩
abbrev vM(K:W.Frag)(te:TE)(E:XK):TS:=λ_ σ H=>te σ H λv H1=>∃x C dct,v=.ref x/\H1 x=some (cH x C dct true)/\p9 K C/\E (.ref C) (some x) (upd H1 x (cH x C dct false))
abbrev vN(C:Addr)(sp:Sp)(dvs:List V)(E:XK)(t:TA):TE:=λσ H Q=>t σ H λvs H1=>∀x,H1 x=none->sp (.ref x::(vs++dvs)) (upd H1 x (cH x C none true)) (λv H2=>v=.non/\Q (.ref x) H2) E
section
variable {X:Cx}{CX:gH}{k:Nat}{f C:Addr}{fd:FuncData}{ps:List Str}{sp:Sp}{dvs:List V}{ds:List Value}{E:XK}{x:Str}{p pos:Pos}{e:Expr}{es:List Expr}{te:TE}{t:TA}{B newId nid y1a1 inN:String}{bmB bmN:List Value}
def EZ(hc:X.calm=true)(he:PE X e te)(hr:fK X E):PS X (.Raise (some e) none pos) (vM X.K te E):=by
 intro pins s σ H D I h
 rw [arm_exec_Raise]
 refine zb (wpAny_standAt (EY (I.ok.hd hc) (zb (wpAny_mono (he pins s σ H _ I h) (λv s1 ⟨v',H1,I1,rv,x,C,dct,ev,ex,ic,q⟩=>zb (wpAny_standAt (zd ?_))) λ_ _ z=>z))))
 subst ev
 obtain rfl:v=Value.ref x:=rv
 obtain⟨nm,qn,N,bs,bm,y18b,sn,sub,ab,col,dd,k0,k1,k2,k3,k5,newId,hC,hb⟩:=ic _ I1.kIn
 obtain⟨o,vs,a0,h1,h2,h3,h4,h5,h6,h7⟩:=fJ I1.hok ex
 exact⟨x,o,vs,C,bm,rfl,hb,⟨nm,qn,N,bs,y18b,sn,sub,ab,col,dd,k0,k1,k2,k3,k5,newId,hC⟩,h1,h2,h4,h7 rfl,hr pins σ H1 s1 x C dct I1 ex q⟩
def E1(M:y5c X.K C f B newId nid y1a1 inN bmB bmN)(hk:W.keepIn X.K (.ref C)=true)(F:y46 X.prog X.w X.K X.mg X.base CX k f fd ps sp)(hr:y54 (k+1) X.A)(hg:Gl X x)(hm:X.mg x=some (.ref C))(hb:cW X.K fd ps ds)(hd:au dvs ds)(hx:bM CX X E)(hz:ps.length≤1000)
  (ha:PA X (e::es) t) (hdb:(x == ("__debug__" : Str))=false:=by decide) (he:‹gI X e es›) (hpl:‹gB X pos es›) :
  PE X (.Call (.Name x p) (e::es) [] pos) (vN C sp dvs E t):=by
 intro pins s σ H Q I h
 refine wpAny_Call_Name_kw (jf I hg hm ?_ hdb)
 refine W.callWith_K (h₀:=X.base) I.ok.mod.kin hk (aH (ha pos pins s σ H _ I h) λus s1 ⟨vs,H1,I1,r,q⟩=>⟨I1.kIn,?_⟩) he hpl
 refine EH M F hr hb hd hx I1 r ?_ q
 have l:=F.len _ _ _ _ (q _ (I1.hok.fresh (ze _)))
 rw [z11,za] at l
 show us.length≤sizeLine
 rw [<- r.length,sizeLine_eq]
 lia
end
end
end L2
namespace PySem
section
variable {M:Model}{A:Around}{E:Value->Shared->Prop}{h:Heap}{g:Array GenState}{d:Drawn}{t:Nat}{os:OsState}
variable {C T:Addr}{bm bm':List Value}
def E2{e:Addr}{oe:Obj}{b:Bool}{Q:Bool->Shared->Prop}
  (hC:l7 h C bm) (hT:l7 h T bm') (he:h.get? e=some oe) (y189:oe.cls=.ref C)
  (hbT:bm'.contains (.type "BaseException")=true) (hb:(Value.ref C::bm).contains (.ref T)=b) (hq:Q b ⟨h,g,d,t,os⟩):wpAny M A (excMatches (.ref e) (.ref T)) Q E ⟨h,g,d,t,os⟩:=by
 obtain⟨nm,q,N,bs,y18b,sn,sub,ab,col,dd,k0,k1,k2,k3,k5,newId,hC⟩:=hC
 obtain⟨nm',q,N,bs,y18b,sn,sub,ab,col,dd,k0,k1,k2,k3,k5,newId,hT⟩:=hT
 have hcB:(Value.ref T::bm').contains (.type "BaseException")=true:=by rw [List.contains_cons,hbT,Bool.or_true]
 have f:=tc_notTuple
 unfold excMatches
 repeat (first|(with_reducible refine wpAny_loadPart_at he ?_;rw [y189])|with_reducible refine wpAny_loadPart_at hT ?_|(with_reducible refine wpAny_isSubtype_exc hT ?_;rw [hcB])|(with_reducible refine wpAny_isSubtype_exc hC ?_;rw [hb])|wp_step)
 cases b<;>(wp_walk;exact hq)
end
end PySem
namespace L2
open PySem PySem.Spec PyProof.Rows
section
section
variable {X:Cx}{pins:List (Addr×Obj)}{σ:St}{H:Hp}{s:Shared}
def md{M:Model}{A:Around}{E:Value->Shared->Prop}{i:Nat}{n:Str}{pos:Pos}{Q:Unit->Shared->Prop}(I:Inv X pins σ H s)(hN:X.N.Nodup)(hi:X.N[i]?=some n)(hk:X.env.scope.names.lookup n=some .local)
  (h:∀s',Inv X pins (σ.set i none) H s'->Q () s'):wpAny M A (do bindName X.env n .none;unbindBehindTheSuite X.env n pos) Q E s:=by
 obtain⟨m,hn,hl⟩:=id I.loc
 have y189:(X.env.scope.kind == .class||(X.env.scope.kind == .module&&X.env.locals != X.env.globals))=false:=by rw [I.ok.kind];rfl
 have hiσ:i<σ.length:=by rw [I.len];exact (z14.mp hi).1
 refine wpAny_nameGoes_keeps hk hn y189 λh' v hn' hs=>h _ ?_
 have nl:∀b o,X.s₀.heap.get? b=some o->b≠X.env.locals:=λb o e=>z27 (z1c (z19 e) I.ok.above)
 have cK:∀y c w',X.env.cells.lookup y=some c->s.heap.IsCell c w'->h'.IsCell c w':=λy c w' e ⟨o,ho,hd⟩=>⟨o,(hs.2 c (I.cne y c e)).trans ho,hd⟩
 refine⟨I.ok,I.os,I.bare,⟨λb o e n hb hx=>(hs.2 b (nl b o e)).trans (I.base.keep b o e n hb hx),λb o e n hb hx=>?_,I.base.free,λb o e hx=>?_,I.base.y42a,I.base.y150,I.base.y410⟩,⟨_,hn',λj y v' e1 e2 e3=>?_⟩,λy c e=>?_,I.free,I.y14e,λp hp=>?_,λb ob e=>?_,by simpa using I.len⟩
 ·obtain⟨sl,e1⟩:=I.base.slot b o e n hb hx
  exact⟨sl,(hs.2 b (nl b o e)).trans e1⟩
 ·obtain⟨o',e1⟩:=I.base.there b o e hx
  exact⟨o',(hs.2 b (nl b o e)).trans e1⟩
 ·by_cases hj:j=i
  ·subst hj
   rw [List.getElem?_set_self hiσ] at e2
   cases e2
  ·rw [z26 (Ne.symm hj)] at e2
   obtain⟨u',r',q⟩:=hl j y v' e1 e2 e3
   refine⟨u',r',?_⟩
   rcases q with⟨k,e⟩| ⟨k,c,e,z⟩
   ·refine .inl ⟨k,?_⟩
    have hy:y≠n:=λz=>hj (nk hN e1 (z ▸ hi))
    show (if y=n then v else m y)=some u'
    rw [if_neg hy];exact e
   ·exact .inr ⟨k,c,e,cK y c _ e z⟩
 ·obtain⟨w',z⟩:=I.cell y c e
  exact⟨w',cK y c w' e z⟩
 ·obtain⟨e,n1,n2,n3,n4⟩:=I.pin p hp
  exact⟨(hs.2 p.1 n2).trans e,n1,n2,n3,n4⟩
 ·have fr:=I.free
  refine (I.hok b ob e).y3d9 (λc w' hc q=>(hs.2 c ?_).trans q) (λ_ q=>q) λ_ _ q=>q
  rintro rfl
  rcases hc with rfl|hc
  ·rw [fr] at e;cases e
  ·rw [fr] at hc;cases hc
end
end
section
noncomputable abbrev jO(X:Cx):St:=List.replicate X.N.length none
structure y8(X:Cx)(pins:List (Addr×Obj))(x C:Addr)(dct:Option Addr)(H:Hp)(s:Shared):Prop where
 ok:X.Ok
 ex:H x=some (cH x C dct false)
 st:∃p,Fly X.base X.stack x (.ref C) dct p .none s.heap/\∀h',Fly X.base X.stack x (.ref C) dct p .none h'->b9 x p [] s.heap h'->Inv X pins (jO X) H { s with heap:=h' }
abbrev pj(K:W.Frag)(C c:Addr)(b:Bool):Prop:=∀h:Heap,K.In h->∃nm q N bs bm y18b sn sub ab col dd k0 k1 k2 k3 k5 newId,h.get? C=some (excClassObj nm q C N bs bm y18b sn sub ab col dd k0 k1 k2 k3 k5 newId)/\(Value.ref C::bm).contains (.ref c)=b
noncomputable abbrev TH:=Addr->Addr->Ends->Hp->Prop
abbrev PH(X:Cx)(hs:List ExceptHandler)(th:TH):Prop :=
 ∀(pins:List (Addr×Obj)) (s:Shared) (x C:Addr) (dct:Option Addr) (H1:Hp) (D:Ends),y8 X pins x C dct H1 s->th x C D H1 ->
  wpAny (model X.prog X.w) X.A (handleBy (.ref x) X.env hs) (SP X pins D) X.xe s
noncomputable abbrev Cx.inX(X:Cx)(x:Addr):Cx:={ X with A:=X.A.mark (some (.ref x)),calm:=false,xe:=λ_ _=>False }
abbrev Ends.drop(D:Ends)(i:Nat):Ends:=⟨λσ H=>D.nx (σ.set i none) H,D.rt,λσ H=>D.bk (σ.set i none) H,λσ H=>D.ct (σ.set i none) H⟩
abbrev hAs(X:Cx)(c:Addr)(i:Nat)(ts:TS)(th:TH):TH:=λx C D H=>∃b,pj X.K C c b/\if b=true then ts (D.drop i) ((jO X).set i (some (.ref x))) H else th x C D H
section
variable {X:Cx}{pins:List (Addr×Obj)}{σ:St}{H:Hp}{s:Shared}
theorem Cx.Ok.inX{x:Addr}(o:X.Ok):(X.inX x).Ok:=⟨o.mod,o.kind,o.glob,o.blt,o.above,o.inj,o.has,o.cab,(λz=>by cases z),o.frames,o.stk,o.exf,o.bs,o.bsz,o.y238,o.y131,o.y152,o.frf⟩
theorem Inv.inX{x:Addr}(I:Inv X pins σ H s):Inv (X.inX x) pins σ H s:=⟨I.ok.inX,I.os,I.bare,I.base,I.loc,I.cell,I.free,I.y14e,I.pin,I.hok,I.len⟩
def Inv.outX{x:Addr}(o:X.Ok)(I:Inv (X.inX x) pins σ H s):Inv X pins σ H s:=⟨o,I.os,I.bare,I.base,I.loc,I.cell,I.free,I.y14e,I.pin,I.hok,I.len⟩
def y8.now{x C:Addr}{dct:Option Addr}(c:y8 X pins x C dct H s):Inv X pins (jO X) H s:=by
 obtain⟨n,f,k⟩:=c.st
 exact k s.heap f (.refl _ _ _ _)
def vO{c:Addr}{i:Nat}{cn n:Str}{p pos:Pos}{b₀:Stmt}{y3ec:List Stmt}{aU:List ExceptHandler}{ts:TS}{th:TH}(hg:Gl X cn)(hm:X.mg cn=some (.ref c))(hc:p9 X.K c)(hN:X.N.Nodup)(hi:X.N[i]?=some n)
  (hk:X.env.scope.names.lookup n=some .local) (hb:∀x,dR (X.inX x) (b₀::y3ec) ts) (hr:PH X aU th) (hdb:(cn == ("__debug__" : Str))=false:=by decide) :
  PH X (.ExceptHandler (some (.Name cn p)) (some n) (b₀::y3ec) pos::aU) (hAs X c i ts th):=by
 intro pins s x C dct H1 D cg h
 have I:=cg.now
 obtain⟨b,hs,hq⟩:=h
 obtain⟨o,vs,a0,h1,h2,_⟩:=fJ I.hok cg.ex
 obtain⟨nm,q,N,bs,bm,y18b,sn,sub,ab,col,dd,k0,k1,k2,k3,k5,newId,hC,hcon⟩:=hs _ I.kIn
 obtain⟨nm',q',N',bs',bm',hdct',sn',sub',ab',col',dd',k0',k1',k2',k3',k5',y22c,hT,hbT⟩:=hc _ I.kIn
 refine wpAny_handleBy_cons (codeAny_handlers_test ?_) (by intro q;cases q)
 refine jf (X:=X.inX x) I.inX hg hm ?_ hdb
 obtain⟨hh,g,d,t,os⟩:=s
 refine E2 ⟨nm,q,N,bs,y18b,sn,sub,ab,col,dd,k0,k1,k2,k3,k5,newId,hC⟩ ⟨nm',q',N',bs',hdct',sn',sub',ab',col',dd',k0',k1',k2',k3',k5',y22c,hT⟩ h1 h2 hbT hcon ?_
 cases b with
 | false=>exact hr pins _ x C dct H1 D cg hq
 | true =>
  refine codeAny_handlers_suite_as ?_
  obtain⟨n0,fl,k⟩:=cg.st
  refine fl.land λh' fl' up=>?_
  have I3:=k h' fl' up
  refine nq (X:=X.inX x) I3.inX hN hi (.inl hk) (v:=.ref x) rfl (λs4 I4=>?_) (.inr hk)
  refine wpAny_mono (hb x pins s4 _ H1 (D.drop i) I4 hq) (λf s5 hsp=>?_) (λe s5 z=>z.elim)
  cases f with
  | next=>obtain⟨σ',H',J,q⟩:=hsp;exact md (X:=X) (J.outX cg.ok) hN hi hk λs6 J6=>⟨_,_,J6,q⟩
  | brk=>obtain⟨σ',H',J,q⟩:=hsp;exact md (X:=X) (J.outX cg.ok) hN hi hk λs6 J6=>⟨_,_,J6,q⟩
  | cont=>obtain⟨σ',H',J,q⟩:=hsp;exact md (X:=X) (J.outX cg.ok) hN hi hk λs6 J6=>⟨_,_,J6,q⟩
  | ret u=>obtain⟨v,σ',H',J,r,q⟩:=hsp;exact md (X:=X) (J.outX cg.ok) hN hi hk λs6 J6=>⟨v,_,H',J6,r,q⟩
end
end
section
abbrev E3(tb:XK->TS)(th:TH):TS:=λD σ H=>tb (λCv xo H'=>∀x C dct,Cv=.ref C->xo=some x->H' x=some (cH x C dct false)->th x C D H') D σ H
section
variable {X:Cx}{pins:List (Addr×Obj)}{σ:St}{H:Hp}{s:Shared}
noncomputable abbrev Cx.y424(X:Cx)(pn:List (Addr×Obj))(xe:Value->Shared->Prop):Cx:={ X with pn:=pn,xe:=xe }
theorem Cx.Ok.y424{pn:List (Addr×Obj)}{xe:Value->Shared->Prop}(o:X.Ok):(X.y424 pn xe).Ok:=⟨o.mod,o.kind,o.glob,o.blt,o.above,o.inj,o.has,o.cab,o.hd,o.frames,o.stk,o.exf,o.bs,o.bsz,o.y238,o.y131,o.y152,o.frf⟩
theorem Inv.y424{xe:Value->Shared->Prop}(I:Inv X pins σ H s):Inv (X.y424 (X.pn++pins) xe) [] σ H s :=
 ⟨I.ok.y424,I.os,I.bare,I.base,I.loc,I.cell,I.free,I.y14e,λp hp=>I.pin p (by simpa using hp),I.hok,I.len⟩
def Inv.y433{xe:Value->Shared->Prop}{y2d9:List (Addr×Obj)}(o:X.Ok)(I:Inv (X.y424 (X.pn++pins) xe) y2d9 σ H s):Inv X pins σ H s :=
 ⟨o,I.os,I.bare,I.base,I.loc,I.cell,I.free,I.y14e,λp hp=>I.pin p (List.mem_append_left _ hp),I.hok,I.len⟩
def E4{body:List Stmt}{h₀:ExceptHandler}{hs:List ExceptHandler}{pos:Pos}{tb:XK->TS}{th:TH}(hst:X.stack=X.env::X.outer)(hfr:X.env.frame=some X.env.locals)
  (hb:∀E pn xe,bM (da X.prog X.w X.base) (X.y424 pn xe) E->dR (X.y424 pn xe) body (tb E)) (hh:PH X (h₀::hs) th):PS X (.Try body (h₀::hs) [] [] pos) (E3 tb th):=by
 intro pins s σ H D I h
 refine wpAny_Try_except ?_
 have o:=I.ok
 have ps:bM (da X.prog X.w X.base) (X.y424 (X.pn++pins) λe s1=>∃σ H s0,Inv X pins σ H s0/\da X.prog X.w X.base X.stack H s0 (λCv xo H'=>∀x C dct,Cv=.ref C->xo=some x->H' x=some (cH x C dct false)->th x C D H') e s1)
   (λCv xo H'=>∀x C dct,Cv=.ref C->xo=some x->H' x=some (cH x C dct false)->th x C D H') :=
  λy2d9 σ' H' s0 e s' J cx=>⟨σ',H',s0,J.y433 o,cx⟩
 refine wpAny_mono (hb _ _ _ ps [] s σ H D I.y424 h) (λf s1 hsp=>?_) λe s1 hx=>?_
 ·cases f with
  | next=>obtain⟨σ',H',J,q⟩:=hsp;exact zd ⟨σ',H',J.y433 o,q⟩
  | brk=>obtain⟨σ',H',J,q⟩:=hsp;exact⟨σ',H',J.y433 o,q⟩
  | cont=>obtain⟨σ',H',J,q⟩:=hsp;exact⟨σ',H',J.y433 o,q⟩
  | ret u=>obtain⟨v,σ',H',J,r,q⟩:=hsp;exact⟨v,σ',H',J.y433 o,r,q⟩
 ·obtain⟨σ',H',s0,J,x,C,dct,H1,rfl,os,bare,un,hok,fl,ex,q⟩:=hx
  have hn:s0.heap.objs.size≤s1.heap.objs.size:=by
   obtain⟨_,T,_,⟨_,_,hT,_⟩,_,_,hnn⟩:=fl.ex
   exact z1b hnn.1 (Nat.le_of_lt (z19 hT))
  have hf1:∀b∈fP X.stack,H1 b=none:=λb hb=>by
   obtain⟨_,ob,ho,_⟩:=J.stack.mem hb
   exact un.free b ob ho (J.y3da b hb) (by simp)
  refine Fly.look (base:=X.base) (p:=pf s0.heap.objs.size H1) (λT z=>⟨z1b hn z,hok.fresh z⟩) (o.frames.trans (congrArg some hst)) hfr (hst ▸ fl) λh2 hl up2=>?_
  refine hl.land λh3 f3 up3=>?_
  have up23:b9 x (pf s0.heap.objs.size H1) (fP X.stack) s1.heap h3:=(up2.mono λb hb=>by rw [hst];exact hb).trans (up3.mono λb hb=>by simp at hb)
  refine hh pins _ x C dct H1 D ⟨o,ex,_,hst ▸ f3,λh' f' up'=>?_⟩ (q x C dct rfl rfl ex)
  obtain⟨u,k⟩:=ph (fs':=fP X.stack) un hok ex hf1 (λb hb=>.inl hb) (up23.trans (up'.mono λb hb=>by simp at hb)) f'
  rw [pd ex] at u k
  have K1:=J.y9e (s':={ s1 with heap:=h' }) (ch:=[]) os u k bare (λb z=>absurd z (by simp))
  exact K1.weak (by rw [K1.len];simp) λi v z=>by
   rw [List.getElem?_replicate] at z
   split at z<;>cases z
end
end
end L2
namespace L2
open PySem PySem.Spec PyProof.Rows PySem.W
section
abbrev VE:List Value:=[.type "ValueError",.type "Exception",.type "BaseException",.type "object"]
abbrev jP(K:Frag)(N:Addr):Bool:=match K.lookup N with
 | some ⟨_,_,.dict es _,_⟩=>es.toList.all λe=>match e.key with | .str _ _=>true|_=>false
 | _=>false
def vP{K:Frag}{h:Heap}{N:Addr}(x:K.In h)(e:jP K N=true):∃m,h.Ns N m/\∀name r,nsIn K N name=some r->m name=r:=by
 unfold jP at e
 split at e
 ·rename_i c d es ep sl q
  refine⟨nsFind es,⟨_,es,ep,x _ _ q,rfl,λen he=>?_,λ_=>rfl⟩,λname r z=>?_⟩
  ·have:=List.all_eq_true.mp e en (Array.mem_toList_iff.mpr he)
   split at this
   ·rename_i n t hk;exact⟨n,t,hk⟩
   ·cases this
  ·unfold nsIn at z
   rw [q] at z
   dsimp only at z
   unfold nsFind findBy
   rw [<- Array.find?_toList]
   split at z
   ·rename_i en he;rw [he];exact z1f z
   ·rename_i he;rw [he]
    split at z
    ·cases z
    ·exact z1f z
 ·cases e
abbrev dz(K:Frag):List Value->Bool
 | .ref A::r=>(match K.lookup A with|some ⟨_,_,.cls cd,_⟩=>jP K cd.ns&&decide (nsIn K cd.ns "__init__" = some none)|_=>false)&&dz K r
 | l=>decide (l=VE)
def E5{K:Frag}{h:Heap}(x:K.In h):∀{l:List Value},dz K l=true->OwnTail h VE l:=by
 intro l
 induction l with
 | nil=>intro e;exact absurd (of_decide_eq_true (show decide (([]:List Value)=VE)=true from e)) (by intro z;cases z)
 | cons a r ih =>
  intro e
  cases a with
  | ref A =>
   have e:((match K.lookup A with|some ⟨_,_,.cls cd,_⟩=>jP K cd.ns&&decide (nsIn K cd.ns "__init__" = some none)|_=>false)&&dz K r)=true:=e
   obtain⟨e1,e2⟩:=z36.mp e
   split at e1
   ·rename_i c0 dd cd sl q
    obtain⟨e3,e4⟩:=z36.mp e1
    obtain⟨m,hn,hm⟩:=vP x e3
    exact .own (x _ _ q) hn (hm _ _ (of_decide_eq_true e4)) (ih e2)
   ·cases e1
  | _=>rw [of_decide_eq_true e];exact .base
abbrev eO(K:Frag)(C:Addr):Bool:=match K.lookup C with
 | some ⟨t,_,.cls cd,sl⟩=>decide (t=.type "type")&&decide (cd.mro.head?=some (.ref C))&&dz K cd.mro.tail && !cd.hasDel&&decide (sl.size=6)&&decide (sl[4]?=some (some (.builtin "ValueError.__new__")))&&jP K cd.ns
 | _=>false
def pq{K:Frag}{h:Heap}{C:Addr}(x:K.In h)(e:eO K C=true):∃nm q N bs bm y18b sn sub ab col dd k0 k1 k2 k3 k5 mN cd,h.get? C=some (excClassObj nm q C N bs bm y18b sn sub ab col dd k0 k1 k2 k3 k5 "ValueError.__new__")/\h.Ns N mN /\
  OwnTail h VE bm/\clsIn K C=some cd/\cd.ns=N/\cd.mro=.ref C::bm/\∀name r,nsIn K N name=some r->mN name=r:=by
 unfold eO at e
 split at e
 ·rename_i t dd cd sl q
  have qc:clsIn K C=some cd:=by unfold clsIn;rw [q]
  obtain⟨nm,bs,mro,N,qn,y18b,sn,sub,ab,col,hdel⟩:=cd
  simp only [z24,decide_eq_true_eq,Bool.not_eq_true'] at e
  obtain⟨⟨⟨⟨⟨⟨e1,e2⟩,e3⟩,e4⟩,e5⟩,e6⟩,e7⟩:=e
  obtain⟨m,hn,hm⟩:=vP x e7
  cases mro with
  | nil=>cases e2
  | cons m0 mr =>
   obtain rfl:m0=.ref C:=z1f e2
   obtain⟨l⟩:=sl
   obtain⟨k0,k1,k2,k3,k5,rfl⟩:=six_places (l:=l) (by simpa using e5) (by simpa using e6)
   subst e1 e4
   exact⟨nm,qn,N,bs,mr,y18b,sn,sub,ab,col,dd,k0,k1,k2,k3,k5,m,_,x _ _ q,hn,E5 x e3,qc,rfl,rfl,hm⟩
 ·cases e
abbrev vQ(K:Frag)(C f:Addr):Bool:=(clsIn K C).any (λcd=>decide (nsIn K cd.ns "__init__" = some (some (.ref f))))&&decide (typeIn K (.ref f)=some (.type "function"))
def vR{K:Frag}{C f:Addr}(e:eO K C=true)(i:vQ K C f=true):y5c K C f "ValueError" "ValueError.__new__" "ValueError.__new__" "ValueError.__init__" "ValueError.__init__" VE VE:=by
 obtain⟨i1,i2⟩:=z36.mp i
 have F:=PySem.F.excBase_ValueError
 refine⟨F,by decide,F,λh x=>?_,λh x=>?_⟩
 ·obtain⟨nm,q,N,bs,bm,y18b,sn,sub,ab,col,dd,k0,k1,k2,k3,k5,mN,cd,h1,h2,h3,h4,h5,h6,h7⟩:=pq x e
  rw [h4] at i1
  subst h5
  exact⟨nm,q,_,bs,bm,y18b,sn,sub,ab,col,dd,k0,k1,k2,k3,k5,mN,h1,h2,h7 _ _ (of_decide_eq_true i1),h3⟩
 ·have z:=of_decide_eq_true i2
  unfold typeIn at z
  obtain⟨o,q,c⟩:=Option.map_eq_some_iff.mp z
  exact⟨o,x _ _ q,c⟩
def E6{K:Frag}{C:Addr}(e:eO K C=true):p9 K C:=λh x=>by
 obtain⟨nm,q,N,bs,bm,y18b,sn,sub,ab,col,dd,k0,k1,k2,k3,k5,mN,cd,h1,h2,h3,_⟩:=pq x e
 exact⟨nm,q,N,bs,bm,y18b,sn,sub,ab,col,dd,k0,k1,k2,k3,k5,_,h1,h3.hasType (by decide)⟩
def E7{K:Frag}{C c:Addr}{b:Bool}(e:eO K C=true)(s:(clsIn K C).map (λcd=>cd.mro.contains (.ref c))=some b):pj K C c b:=λh x=>by
 obtain⟨nm,q,N,bs,bm,y18b,sn,sub,ab,col,dd,k0,k1,k2,k3,k5,mN,cd,h1,h2,h3,h4,h5,h6,_⟩:=pq x e
 rw [h4] at s
 refine⟨nm,q,N,bs,bm,y18b,sn,sub,ab,col,dd,k0,k1,k2,k3,k5,_,h1,?_⟩
 rw [<- h6]
 exact z1f s
end
section
def vS{K:Frag}{p:List Value->Prop}(b:p VE)(s:∀A r,p r->p (.ref A::r)):∀{l:List Value},dz K l=true->p l:=by
 intro l
 induction l with
 | nil=>intro e;exact absurd (of_decide_eq_true (show decide (([]:List Value)=VE)=true from e)) (by intro z;cases z)
 | cons a r ih =>
  intro e
  cases a with
  | ref A=>exact s A r (ih (z36.mp e).2)
  | _=>rw [of_decide_eq_true e];exact b
def vT{K:Frag}{C:Addr}(e:eO K C=true):∃cd bm,clsIn K C=some cd/\cd.mro=.ref C::bm/\dz K bm=true:=by
 unfold eO at e
 split at e
 ·rename_i t dd cd sl q
  have qc:clsIn K C=some cd:=by unfold clsIn;rw [q]
  simp only [z24,decide_eq_true_eq,Bool.not_eq_true'] at e
  obtain⟨⟨⟨⟨⟨⟨e1,e2⟩,e3⟩,e4⟩,e5⟩,e6⟩,e7⟩:=e
  cases hm:cd.mro with
  | nil=>rw [hm] at e2;cases e2
  | cons m0 mr =>
   rw [hm] at e2 e3
   obtain rfl:m0=.ref C:=z1f e2
   exact⟨cd,mr,qc,hm,e3⟩
 ·cases e
abbrev jQ(K:Frag)(C:Addr):Bool:=eO K C&&hasDictIn K C&&decide (findIn K (.ref C) "__getattribute__" = some (some (.builtin "BaseException.__getattribute__")))&&decide (findIn K (.ref C) "__getattr__" = some none)&&decide (findIn K (.ref C) "__setattr__" = some (some (.builtin "object.__setattr__")))
def vU{K:Frag}{C:Addr}(e:jQ K C=true):XA K C:=by
 unfold jQ at e
 simp only [z24,decide_eq_true_eq] at e
 obtain⟨⟨⟨⟨e1,e2⟩,e3⟩,e4⟩,e5⟩:=e
 obtain⟨cd,bm,h1,h2,h3⟩:=vT e1
 have has:∀t,VE.contains (.type t)=true->cd.mro.contains (.type t)=true:=λt z=>by
  rw [h2,List.contains_cons,vS (p:=λl=>l.contains (.type t)=true) z (λA r q=>by rw [List.contains_cons,q,Bool.or_true]) h3,Bool.or_true]
 refine⟨e3,e4,e5,cd,h1,?_,has "object" (by decide),has "BaseException" (by decide),λself=>?_⟩
 ·unfold hasDictIn at e2;rw [h1] at e2;exact e2
 ·rw [h2,refuseLoop_ref]
  exact vS (p:=λl=>refuseLoop self "__setattr__" l=pure ()) (PySem.F.store_ValueError.passes self) (λA r q=>by rw [refuseLoop_ref];exact q) h3
section
variable {P:Program}{w:World}{K:W.Frag}{mg:Str->Option Value}{base:Heap}
def Fun.okX{x qual:Str}{st:Stmt}{f:Addr}{fd:FuncData}{N ps:List Str}{k:Nat}{sp:Sp}(F:Fun K x qual st f fd)(S:y47 N ps (bK st))(len:∀vs H Q E,sp vs H Q E->vs.length=ps.length)
  (y187:∀(cdv:Value) (A:Around) (outer:List Env) (s:Shared) (H:Hp) (vs:List V) (Q:VK) (E:XK),y54 k (A.deeper (envOfC qual (bK st) s.heap.objs.size f cdv))->sp vs H Q E ->
   ∃t,dR (ft (da P w base) P w K mg base N qual (bK st) f cdv A outer s H E) (ky st) t/\t { nx:=λ_ H'=>Q .non H',rt:=Q } (start N vs) H):y46 P w K mg base (da P w base) (k+1) f fd ps sp:=by
 obtain⟨oc,od,kV,doc,pm,an,cdv,ct,osl,rfl,lk,hcd⟩:=F.ex
 exact rf lk hcd S len λA outer s H vs Q E hr hsp=>y187 cdv A outer s H vs Q E hr hsp
end
end
end L2
namespace L2
open PySem PySem.Spec PyProof.Rows
section
structure XI(K:W.Frag)(D:Addr):Prop where
 ha:W.findIn K (.ref D) "__class__" = some (some (.builtin "object.__class__"))
 hn:W.specialIn K (.builtin "object.__class__") "__get__" = some (some (.builtin "getset_descriptor.__get__"))
 htk:W.takesIn K (.builtin "object.__class__")=some true
 hm:W.mroIn K D (.type "object")=some true
section
variable {K:W.Frag}{x D:Addr}
open PySem.W in
def E8{prog:Program}{w:World}{A:Around}{E:Value->Shared->Prop}{Q:Option Value->Shared->Prop}{s:Shared}{ox od:Obj}(c:XA K D)(i:XI K D)(X:K.In s.heap)(I:InstAt s.heap x ox D (some od))(h:Q (some (.ref D)) { s with toks:=s.toks+1 }) :
  wpAny (model prog w) A (getAttr? (.ref x) "__class__") Q E s:=by
 obtain⟨cd,hcl,_⟩:=c.cd
 have hf:findObj K D (some od) "__class__" = some (.bind (.builtin "getset_descriptor.__get__") (.builtin "object.__class__")):=findObj_data (by rw [hcl];rfl) i.ha i.hn i.htk
 have L0:=I.type (M:=model prog w)
 have L1:=looks_findIn (M:=model prog w) X c.ga
 have L2:=looks_findIn (M:=model prog w) X c.gt
 have L3:=looks_find (M:=model prog w) X I hf
 have sub:=(c.isa (prog:=prog) (w:=w) X I).2
 obtain⟨hh',g,d,t,os⟩:=s
 have hx0:(false&&onTheHeap (Value.builtin "BaseException.__getattribute__"))=false:=rfl
 have hk:builtinKind "BaseException.__getattribute__" = some .slot:=by decide +kernel
 have y195:splitId "BaseException.__getattribute__" = some ("BaseException","__getattribute__"):=by decide +kernel
 have FA:=PySem.F.excAttr_ValueError.ga
 unfold getAttr? getAttrBy? getAttrBy
 refine zb (wpAny_mkText (zb (wpAny_attempt (wpAny_holding (zb (L0.at (zb (L1.at ?_))))))))
 show wpAny _ _ (getAttrByItsOwn _ _ _ _ _ _) _ _ _
 refine zb (L2.at (zb ?_))
 refine wpAny_attempt (wpAny_holding ?_)
 unfold callGetattribute
 rw [if_neg (by rw [hx0];decide)]
 unfold boundAndCalled
 rw [FA.bind]
 refine zb (zd (wpAny_call (codeAny_call_builtin FA.plain F.entry_bexc_ga (@check_slot (model prog w) _ _ _ "BaseException.__getattribute__" "BaseException" "__getattribute__" (.ref x) [.str "__class__" t] [] _ hk y195 sub (F.args_bexc_ga _ _) ?_))))
 refine zb (zd (zb (zd (zb (L0.at (zb (L3.at ?_)))))))
 show wpAny _ _ (holding [.builtin "object.__class__"] (call (.builtin "getset_descriptor.__get__") [.builtin "object.__class__",.ref x,.ref D]) >>= PySem.ret) _ _ _
 refine zb (wpAny_holding (wpAny_call (class_get (s:=⟨hh',g,d,t+1,os⟩) (ox:=ox) (od:=some od) X I i.hm ?_)))
 refine zd ?_
 show wpAny _ _ (handedOut (.ref D)) _ _ _
 rw [handedOut_of (v:=.ref D) rfl]
 exact zd (zd h)
open PySem.W in
theorem XA.lies(c:XA K D):∃t dd cd sl,∀h:Heap,K.In h->h.get? D=some ⟨t,dd,.cls cd,sl⟩:=by
 obtain⟨_,q,_⟩:=c.cd
 unfold clsIn at q
 split at q
 ·rename_i lies
  exact⟨_,_,_,_,λ_ X=>X _ _ lies⟩
 ·cases q
open PySem.W in
def vV{ox od:Obj}(c:XA K D)(i:XI K D):KitX K (.ref x) (.ref D) (λh=>InstAt h x ox D (some od)):=by
 obtain⟨t,dd,cd,sl,lies⟩:=c.lies
 refine⟨λ_ _ _ z=>z.type,λ_ _ X _ _ _ _ _ k z=>?_,λh tp _ _ _ _ X q=>?_,λX z k=>E8 c i X z k⟩
 ·unfold isType loadHead
  exact zb (wpAny_loadPart (k _ _ (lies _ X)) (zd z))
 ·cases z:(Value.ref D == Value.ref tp) with
  | false=>rfl
  | true =>
   cases eq_of_beq z
   cases (lies h X).symm.trans q
def E9{X:Cx}{b new:Bool}{c:Value}{dx:Addr}{fs:List (Str×V)}(xa:XA X.K D)(xi:XI X.K D)(e:W.kitOne X.K (.ref D) c=some b){pins:List (Addr×Obj)}{σ:St}{H:Hp}{s:Shared}{A:Around}{E:Value->Shared->Prop}{Q:Value->Shared->Prop}
  (I:Inv X pins σ H s) (ex:H x=some (cH x D (some dx) new)) (ed:H dx=some (fI dx fs)) (h:∀tk,Q (.bool b) { s with toks:=tk }):wpAny (model X.prog X.w) A (call (.builtin "isinstance") [.ref x,c]) Q E s:=by
 obtain⟨o,vs,a0,h1,h2,h3,h4,_⟩:=fJ I.hok ex
 obtain⟨_,mA,hm,_⟩:=l9 I.hok ed
 obtain⟨od,hod,_⟩:=kQ hm
 obtain⟨oc,odi,oda,osl⟩:=o
 dsimp only at h2 h3 h4
 subst h2 h3 h4
 exact W.kia_one (vV (ox:=⟨.ref D,some dx,.fields vs,osl⟩) (od:=od) xa xi) I.kIn ⟨h1,rfl,rfl,hod⟩ e (λz=>nomatch z) h
end
end
end L2
namespace B
open PySem PySem.Spec PyProof.Rows L2
section
section
variable {K:W.Frag}{κ:Str->Addr}{ι ι1 fp fq:List Addr}{H H1:Hp}{D:Ends}{E:XK}{σ:L2.St}
abbrev XP(K:W.Frag)(κ:Str->Addr)(E:XK)(ι fp:List Addr)(H:Hp)(c:Str)(fs:List (Str×I))(G':List M):Prop :=
 ∀x dx fvs ι' H',H' x=some (cH x (κ c) (some dx) false)->H' dx=some (fI dx fvs)->fvs.map (·.1)=fs.map (·.1)->y56 K ι' H' (fvs.map (·.2)) (fs.map (·.2))->SR K κ ι' H' [] [] G'->Step ι fp H ι' ι' H'->E (.ref (κ c)) (some x) H'
abbrev xo:Fl->Option (Str×List (Str×I)×List M)
 | .rt (.ow (.obj c fs)) G=>some (c,fs,G)
 | _=>none
abbrev kB(K:W.Frag)(κ:Str->Addr)(E:XK)(ι fp:List Addr)(H:Hp)(D:Ends)(fl:Fl):Prop:=match xo fl with
 | some (c,fs,G')=>XP K κ E ι fp H c fs G'
 | none=>oq K κ ι fp H D fl
abbrev b9(K:W.Frag)(κ:Str->Addr)(E:XK)(f:SF):TS:=λD σ H=>∃ι Z G fl,SR K κ ι H σ Z G/\f Z G=some fl/\kB K κ E ι (own σ Z++ι) H D fl
def XP.step{c:Str}{fs:List (Str×I)}{G':List M}(st:Step ι fp H ι1 fq H1)(h:XP K κ E ι fp H c fs G'):XP K κ E ι1 fq H1 c fs G':=λx dx fvs ι' H' a b c d e t=>h x dx fvs ι' H' a b c d e (st.trans t)
theorem kB.step{fl:Fl}(st:Step ι fp H ι1 fq H1)(h:kB K κ E ι fp H D fl):kB K κ E ι1 fq H1 D fl:=by
 unfold kB at h ⊢
 split
 ·rename_i c fs G' e
  rw [e] at h
  exact h.step st
 ·rename_i e
  rw [e] at h
  exact oq.step st h
def b9.of{f:SF}{fl:Fl}{Z1:De}{G1:List M}(s:SR K κ ι1 H1 σ Z1 G1)(st:Step ι fp H ι1 (own σ Z1++ι1) H1)(eq:f Z1 G1=some fl)(k:kB K κ E ι fp H D fl):b9 K κ E f D σ H1:=⟨ι1,Z1,G1,fl,s,eq,k.step st⟩
abbrev c8(f:SF):SF:=λZ G=>match f Z G with
 | some fl=>if (xo fl).isNone then some fl else none
 | none=>none
def vW{f:SF}(h:b9 K κ E (c8 f) D σ H):dj K κ f D σ H:=by
 obtain⟨ι,Z,G,fl,s,eq,k⟩:=h
 unfold c8 at eq
 split at eq
 ·rename_i fl' e1
  split at eq
  ·rename_i hx
   have e:xo fl'=none:=Option.isNone_iff_eq_none.mp hx
   cases eq
   unfold kB at k
   rw [e] at k
   exact⟨ι,Z,G,_,s,e1,k⟩
  ·cases eq
 ·cases eq
def Fb{a b:SF}(h:b9 K κ E (ai a b) D σ H):ji (b9 K κ E a) (b9 K κ E b) D σ H:=by
 obtain⟨ι,Z,G,fl,s,eq,k⟩:=h
 unfold ai at eq
 split at eq
 ·rename_i Z1 G1 e1
  refine⟨ι,Z,G,_,s,e1,?_⟩
  exact λσ' ι' H' s' t=>b9.of s' t eq k
 ·rename_i r hn
  refine⟨ι,Z,G,_,s,eq,?_⟩
  unfold kB at k ⊢
  cases fl with
  | nx Z' G'=>exact absurd eq (hn Z' G')
  | bk Z' G'=>exact k
  | ct Z' G'=>exact k
  | rt x G'=>exact k
def Fc{c:Mo Bool}{a b:SF}(h:b9 K κ E (aE c a b) D σ H):kL (dG K κ c) (b9 K κ E a) (b9 K κ E b) D σ H:=by
 obtain⟨ι,Z,G,fl,s,eq,k⟩:=h
 unfold aE at eq
 split at eq
 ·rename_i Z1 G1 e1
  exact⟨ι,Z,G,true,Z1,G1,s,e1,λι' H' s' t=>by dsimp only;rw [if_pos rfl];exact b9.of s' t eq k⟩
 ·rename_i Z1 G1 e1
  exact⟨ι,Z,G,false,Z1,G1,s,e1,λι' H' s' t=>by dsimp only;rw [if_neg z15];exact b9.of s' t eq k⟩
 ·cases eq
def Fd{f:IF}{g:GF}{b:SF}(h:b9 K κ E (bB f g b) D σ H):nF (mV K κ f) (lL K κ g) (b9 K κ E b) D σ H:=by
 obtain⟨ι,Z,G,fl,s,eq,k⟩:=h
 unfold bB at eq
 split at eq
 ·rename_i w es Z1 G1 e1
  refine⟨ι,Z,G,w,es,Z1,G1,s,e1,λJ vs ι1 H1 a wk=>?_⟩
  refine⟨λi m σ' H'=>i+m=w.n/\∃ι' Z' G',σ'.length=Z'.length/\SR K κ ι' H' (σ'++tS es vs) (Z'++tD es) G'/\Step ι (own σ Z++ι) H ι' (own (σ'++tS es vs) (Z'++tD es)++ι') H'/\aV w g b i m Z' G'=some fl,
   ⟨w.n,by lia,ι1,Z1,G1,a.ar.l,a.ar.sr,a.st,eq⟩,?_⟩
  rintro i m σ' H' ⟨him,ι',Z',G',l,s',st,e⟩
  have sub:∀a,a∈own σ' Z'++ι'->a∈own (σ'++tS es vs) (Z'++tD es)++ι':=λa ha=>cD l ha
  cases m with
  | zero =>
   have hi:i=w.n:=by lia
   subst hi
   unfold aV at e
   split at e
   ·rename_i hf
    cases e
    exact .inl ⟨wk.stop hf l s',k _ _ _ (s'.pop l) (st.sub sub)⟩
   ·cases e
  | succ m =>
   unfold aV at e
   split at e
   ·rename_i d hd
    obtain⟨go,yl⟩:=wk.go (by lia) hd l s'
    refine .inr ⟨go,λσ2 H2=>∃ι2 Z2 G2,σ2.length=Z2.length/\SR K κ ι2 H2 (σ2++tS es vs) (Z2++tD es) G2/\Step ι (own σ Z++ι) H ι2 (own (σ2++tS es vs) (Z2++tD es)++ι2) H2/\aV w g b (i+1) m Z2 G2=some fl,
     λσ2 H2 q=>⟨m,z35 _,by lia,q⟩,λx H3 hy=>?_⟩
    obtain⟨sm,rx⟩:=yl x H3 hy
    have s3:=s'.same sm
    have st3:=st.trans (Step.same sm)
    split at e
    ·rename_i Z4 G4 e4
     have p:=(s3.pop l).push_im rx
     refine⟨ι',Z',G',.im d,Z4,G4,l,p,e4,λσ4 ι4 H4 s4 st4=>?_⟩
     rw [du l] at st4
     have jn:∀{σ5:L2.St} {Z5:De} {G5:List M} {ι5:List Addr} {H5:Hp},SR K κ ι5 H5 σ5 Z5 G5->Step ι4 (own σ4 Z4++ι4) H4 ι5 (own σ5 Z5++ι5) H5 ->
       SR K κ ι5 H5 (σ5++tS es vs) (Z5++tD es) G5/\Step ι (own σ Z++ι) H ι5 (own (σ5++tS es vs) (Z5++tD es)++ι5) H5:=λ{σ5 Z5 G5 ι5 H5} s5 st5=>by
      have j:=SR.join s3 l (by rw [z10,z10];exact s5) s5.len (by rw [z10,z10];exact st4.trans st5)
      rw [z10,z10] at j
      exact⟨j.1,st3.trans j.2⟩
     have wide4:Step ι (own σ Z++ι) H ι4 (own σ4 Z4++ι4) H4:=st3.trans ((st4.wide λy hy=>cD l hy))
     split at e
     ·rename_i Z5 G5 e5
      exact⟨ι4,Z4,G4,_,s4,e5,λσ5 ι5 H5 s5 st5=>⟨ι5,Z5,G5,s5.len,(jn s5 st5).1,(jn s5 st5).2,e⟩⟩
     ·rename_i Z5 G5 e5
      exact⟨ι4,Z4,G4,_,s4,e5,λσ5 ι5 H5 s5 st5=>⟨ι5,Z5,G5,s5.len,(jn s5 st5).1,(jn s5 st5).2,e⟩⟩
     ·rename_i Z5 G5 e5
      cases e
      exact⟨ι4,Z4,G4,_,s4,e5,λσ5 ι5 H5 s5 st5=>k _ _ _ s5 ((jn s5 st5).2.sub λa ha=>cD s5.len ha)⟩
     ·rename_i x5 G5 e5
      cases e
      refine⟨ι4,Z4,G4,_,s4,e5,?_⟩
      unfold kB at k ⊢
      split at k
      ·rename_i c fs G' ex
       exact XP.step wide4 k
      ·rename_i ex
       exact λv ι5 H5 s5 st5=>k _ _ _ s5 ((jn s5 st5).2.sub λa ha=>cD s5.len ha)
     ·cases e
    ·cases e
   ·cases e
 ·cases eq
abbrev mf(K:W.Frag)(κ:Str->Addr)(ι fp:List Addr)(H:Hp)(Q:VK)(E:XK)(x:Vl)(G':List M):Prop:=match x with
 | .ow (.obj c fs)=>XP K κ E ι fp H c fs G'
 | x=>∀v ι' H',SR K κ ι' H' [some v] [some x] G'->Step ι fp H ι' (own [some v] [some x]++ι') H'->Q v H'
abbrev eW(K:W.Frag)(κ:Str->Addr)(n:Nat)(fn:FF):Sp:=λvs H Q E=>∃ι xs G x G',xs.length=n/\SR K κ ι H (vs.map some) (xs.map some) G/\fn xs G=some (x,G')/\mf K κ ι (own (vs.map some) (xs.map some)++ι) H Q E x G'
def Fe{Q:VK}{x:Vl}{G':List M}(h:mf K κ ι fp H Q E x G')(v:V)(ι':List Addr)(H':Hp)(e:xo (.rt x G')=none)(s:SR K κ ι' H' [some v] [some x] G')(t:Step ι fp H ι' (own [some v] [some x]++ι') H'):Q v H':=by
 unfold mf at h
 split at h
 ·cases e
 ·exact h v ι' H' s t
def vX{n r:Nat}{body:SF}{vs:List V}{Q:VK}(h:eW K κ n (aQ n r body) vs H Q E):vs.length=n/\b9 K κ E body { nx:=λ_ H'=>Q .non H',rt:=Q } (vs.map some++List.replicate r none) H:=by
 obtain⟨ι,xs,G,x,G',hl,s,eq,k⟩:=h
 have lv:vs.length=n:=by have:=s.len;rw [z12,z12] at this;lia
 refine⟨lv,?_⟩
 unfold aQ at eq
 rw [if_pos hl] at eq
 obtain⟨s0,e0⟩:=s.y23e r
 split at eq
 ·rename_i x' G1 e1
  cases eq
  refine⟨ι,_,G,_,s0,e1,?_⟩
  rw [e0]
  unfold kB
  split
  ·rename_i c fs G2 ex
   unfold xo at ex
   split at ex
   ·rename_i c2 fs2 G3 ez
    cases ex
    cases ez
    exact k
   ·cases ex
  ·rename_i ex
   exact λv ι' H' s' st=>Fe k v ι' H' ex s' st
 ·rename_i Z1 G1 e1
  cases eq
  refine⟨ι,_,G,_,s0,e1,?_⟩
  rw [e0]
  intro σ' ι' H' s' st
  obtain⟨p,q⟩:=SR.last (s'.push_im .non) s'.len
  refine k _ _ _ p (st.sub λa ha=>?_)
  have:=q a ha
  rw [du s'.len] at this
  exact this
 ·cases eq
end
end
section
abbrev cA(f:Mo Ev):SF:=λZ G=>match f Z G with
 | some (.v (.ow (.obj c fs)),_,G1)=>some (.rt (.ow (.obj c fs)) G1)
 | some (_,Z1,G1)=>some (.nx Z1 G1)
 | none=>none
abbrev iP(f:Mo Ev)(g:GF):SF:=λZ G=>match f Z G with
 | some (.v (.ow (.obj c fs)),_,G1)=>some (.rt (.ow (.obj c fs)) G1)
 | some (.v x,Z1,G1)=>match g x Z1 G1 with
  | some (Z2,G2)=>some (.nx Z2 G2)
  | none=>none
 | _=>none
abbrev iQ(c:Str)(fns:List Str)(fa:Mo (List Ev)):SF:=λZ G=>match fa Z G with
 | some (es,_,G1)=>match mU es with
  | some ds=>if ds.length=fns.length then some (.rt (.ow (.obj c (fns.zip ds))) G1) else none
  | none=>none
 | none=>none
abbrev Ff(C:Addr)(fns:List Str):Sp:=λvs H Q _=>∃x us,vs=.ref x::us/\us.length=fns.length/\H x=some (cH x C none true)/\∀dx,H dx=none->Q .non (upd (upd H dx (fI dx (fns.zip us))) x (cH x C (some dx) true))
structure ClN(P:Program)(w:World)(K:W.Frag)(mg:Str->Option Value)(base:Heap)(x:Str)(C:Addr)(fns:List Str):Prop where
 ex:∃f fd,y5c K C f "ValueError" "ValueError.__new__" "ValueError.__new__" "ValueError.__init__" "ValueError.__init__" VE VE/\y46 P w K mg base bV 1 f fd ("self"::fns) (Ff C fns)/\cW K fd ("self"::fns) []/\mg x=some (.ref C)/\W.keepIn K (.ref C)=true
 ln:fns.length≤100
abbrev kC(P:Program)(w:World)(K:W.Frag)(mg:Str->Option Value)(base:Heap)(x:Str)(k:Nat)(ps:List Str)(sp:Sp):Prop :=
 ∃(f:Addr) (fd:FuncData),mg x=some (.ref f)/\W.keepIn K (.ref f)=true/\cW K fd ps []/\y46 P w K mg base (da P w base) k f fd ps sp
section
variable {K:W.Frag}{κ:Str->Addr}{ι:List Addr}{H:Hp}{D:Ends}{E:XK}{σ:L2.St}{n:Nat}{fn:FF}{es:List Ev}{vs:List V}{Z Z':De}{G G':List M}{Q:VK}{fa:Mo (List Ev)}
def mh{x:Vl}(a:Args K κ ι H σ Z G es vs)(h:ax n fn es Z G=some (.v x,Z',G'))
  (k:(∀c fs,x≠.ow (.obj c fs))->∀v ι' H',After K κ σ ι (own (σ++tS es vs) (Z++tD es)++ι) H [.v x] Z' G' [v] ι' H'->Q v H')
  (kx:∀c fs,x=.ow (.obj c fs)->XP K κ E ι (own (σ++tS es vs) (Z++tD es)++ι) H c fs G'):eW K κ n fn vs H Q E:=by
 unfold ax at h
 split at h
 ·rename_i xs hx
  split at h
  ·rename_i hl
   split at h
   ·rename_i x' G1 e1
    cases h
    obtain⟨t1,t2⟩:=oF hx a.len
    have sr:=a.sr
    rw [t1,t2] at sr k kx
    have sw:=sr.swap a.l
    have lt:(vs.map some).length=(xs.map some).length:=Paired.length (cy a.l sr.sl).2
    refine⟨ι,xs,G,x,_,hl,sw.pop lt,e1,?_⟩
    unfold mf
    split
    ·rename_i c fs
     exact (kx c fs rfl).step ((Step.refl _ _ _).sub λy hy=>iF a.l lt (cD lt hy))
    ·rename_i hne
     intro v ι' H' s st
     have s':SR K κ ι' H' ([some v]++[]) ([some x]++[]) _:=s
     obtain⟨j1,j2⟩:=SR.join sw lt s' rfl st
     rw [z10,z10] at j1 j2
     refine k (λc fs z=>hne c fs z) v ι' H' ⟨⟨a.l,j1.swap rfl,.cons (λ_ h=>by cases h) .nil⟩,(j2.wide λy hy=>iF a.l lt hy).sub λy hy=>?_⟩
     exact iF rfl a.l hy
   ·cases h
  ·cases h
 ·cases h
def ya1{e:Ev}(h:ax n fn es Z G=some (e,Z',G')):∃x,e=.v x:=by
 unfold ax at h
 split at h
 ·split at h
  ·split at h
   ·cases h;exact⟨_,rfl⟩
   ·cases h
  ·cases h
 ·cases h
def vY{sp:Sp}{ta:TA}(h:ta σ H λvs H1=>sp vs H1 Q E):fg sp [] E ta σ H Q:=by
 unfold fg
 simpa only [z10] using h
def Fg(h:b9 K κ E (cA (bd fa (ax n fn))) D σ H):nA (fg (eW K κ n fn) [] E (gb K κ fa)) D σ H:=by
 obtain⟨ι,Z,G,fl,s,eq,k⟩:=h
 refine vY ?_
 unfold cA at eq
 split at eq
 ·rename_i c fs Z1 G1 e0
  cases eq
  obtain⟨es,Z2,G2,e1,e2⟩:=cC e0
  refine⟨ι,Z,G,es,Z2,G2,s,e1,λvs ι1 H1 a=>mh a.ar e2 (λz=>absurd rfl (z c fs)) λc' fs' z=>?_⟩
  cases z
  exact XP.step a.st k
 ·rename_i e Z1 G1 hn e0
  cases eq
  obtain⟨es,Z2,G2,e1,e2⟩:=cC e0
  obtain⟨x,rfl⟩:=ya1 e2
  refine⟨ι,Z,G,es,Z2,G2,s,e1,λvs ι1 H1 a=>mh a.ar e2 (λ_ v ι2 H2 b=>?_) λc' fs' z=>?_⟩
  ·obtain⟨p,q⟩:=(a.then b).drop
   exact k _ _ _ p q
  ·cases z
   exact absurd rfl (hn c' fs')
 ·cases eq
def Fh{g:GF}(h:b9 K κ E (iP (bd fa (ax n fn)) g) D σ H):fV (fg (eW K κ n fn) [] E (gb K κ fa)) (lL K κ g) D σ H:=by
 obtain⟨ι,Z,G,fl,s,eq,k⟩:=h
 refine vY ?_
 unfold iP at eq
 split at eq
 ·rename_i c fs Z1 G1 e0
  cases eq
  obtain⟨es,Z2,G2,e1,e2⟩:=cC e0
  refine⟨ι,Z,G,es,Z2,G2,s,e1,λvs ι1 H1 a=>mh a.ar e2 (λz=>absurd rfl (z c fs)) λc' fs' z=>?_⟩
  cases z
  exact XP.step a.st k
 ·rename_i x Z1 G1 hn e0
  split at eq
  ·rename_i Z2 G2 eg
   cases eq
   obtain⟨es,Z3,G3,e1,e2⟩:=cC e0
   refine⟨ι,Z,G,es,Z3,G3,s,e1,λvs ι1 H1 a=>mh a.ar e2 (λ_ v ι2 H2 b=>?_) λc' fs' z=>?_⟩
   ·have ab:=a.then b
    exact⟨ι2,Z1,G1,x,Z2,G2,ab.ar.l,ab.ar.sr,eg,λσ' ι3 H3 s3 st=>k _ _ _ s3 (ab.st.trans st)⟩
   ·cases z
    exact absurd rfl (hn c' fs')
  ·cases eq
 ·cases eq
def Fi{H:Hp}{a b:Addr}{o o' o2 u:HO}(ne:b≠a):upd (upd (upd (upd H a o) b u) a o') a o2=upd (upd H b u) a o2:=by
 rw [zT]
 funext c;unfold upd
 by_cases h1:c=a
 ·simp [h1]
 ·by_cases h2:c=b<;>simp [h1,h2]
theorem pw{α β:Type}:∀{a:List α} {b:List β},b.length=a.length->(a.zip b).map (·.1)=a/\(a.zip b).map (·.2)=b
 | [],[],_=>⟨rfl,rfl⟩
 | x::a,y::b,h=>by
  obtain⟨p,q⟩:=pw (a:=a) (b:=b) (by simpa using h)
  exact⟨by rw [List.zip_cons_cons,z16,p],by rw [List.zip_cons_cons,z16,q]⟩
def SR.bare{H':Hp}(s:SR K κ ι H σ Z G)(sm:dU H H'):SR K κ ι H' [] [] G/\Step ι (own σ Z++ι) H ι ι H':=by
 have z:=s.same sm
 refine⟨⟨.nil,z.gs,λx=>?_⟩,(Step.same sm).sub λa ha=>z22 _ ha⟩
 have:=z.nd x
 have h0:bh x (own ([]:L2.St) ([]:De))=0:=rfl
 lia
def Fj{c:Str}{fns:List Str}(ic:p9 K (κ c))(h:b9 K κ E (iQ c fns fa) D σ H):vM K (vN (κ c) (Ff (κ c) fns) [] E0 (gb K κ fa)) E D σ H:=by
 obtain⟨ι,Z,G,fl,s,eq,k⟩:=h
 unfold iQ at eq
 split at eq
 ·rename_i es Z1 G1 e1
  split at eq
  ·rename_i ds hd
   split at eq
   ·rename_i hl
    cases eq
    refine⟨ι,Z,G,es,Z1,G1,s,e1,λvs ι1 H1 a x hx=>?_⟩
    have r:=a.ar.ims hd
    have lv:vs.length=fns.length:=by rw [r.len];exact hl
    refine⟨x,vs,by rw [z10],lv,a8,λdx hdx=>⟨rfl,x,κ c,some dx,rfl,a8,ic,?_⟩⟩
    have ne:dx≠x:=λz=>by rw [z,a8] at hdx;cases hdx
    rw [aK ne] at hdx
    rw [Fi ne]
    have s1:dU H1 (upd H1 dx (fI dx (fns.zip vs))):=dU.lay hdx
    have hx2:upd H1 dx (fI dx (fns.zip vs)) x=none:=by rw [aK ne.symm];exact hx
    have s2:dU H1 (upd (upd H1 dx (fI dx (fns.zip vs))) x (cH x (κ c) (some dx) false)):=λb o e=>dU.lay hx2 b o (s1 b o e)
    obtain⟨z1,z2⟩:=a.ar.sr.bare s2
    obtain⟨f1,f2⟩:=pw (a:=fns) (b:=vs) lv
    obtain⟨g1,g2⟩:=pw (a:=fns) (b:=ds) hl
    refine k x dx (fns.zip vs) ι1 _ a8 (by rw [aK ne];exact a8) (by rw [f1,g1]) ?_ z1 (a.st.trans z2)
    rw [f2,g2]
    exact r.mono (cb.refl _) (Kp.same s2)
   ·cases eq
  ·cases eq
 ·cases eq
end
end
section
@[irreducible] noncomputable def LX(X:Cx)(κ:Str->Addr)(E:XK)(s:Stmt)(f:SF):Prop:=PS X s (b9 X.K κ E f)
@[irreducible] noncomputable def ip(X:Cx)(κ:Str->Addr)(E:XK)(s:List Stmt)(f:SF):Prop:=dR X s (b9 X.K κ E f)
section
variable {X:Cx}{κ:Str->Addr}{E:XK}{s:Stmt}{ss ss2:List Stmt}{f g:SF}{pos p y35e:Pos}{x:Str}{k n:Nat}{ps:List Str}{fn:FF}{e c tg it:Expr}{es:List Expr}{fs:Mo (List Ev)}{fc:Mo Bool}{fi:IF}{gf:GF}
def LX.mk(h:PS X s (b9 X.K κ E f)):LX X κ E s f:=by unfold LX;exact h
def LX.pe(h:LX X κ E s f):PS X s (b9 X.K κ E f):=by unfold LX at h;exact h
def ip.mk(h:dR X ss (b9 X.K κ E f)):ip X κ E ss f:=by unfold ip;exact h
def ip.pe(h:ip X κ E ss f):dR X ss (b9 X.K κ E f):=by unfold ip at h;exact h
def jR(h:LS X κ s f):LX X κ E s (c8 f):=.mk (c6 h.pe λ_ _ _=>vW)
def jS(h:gD X κ ss f):ip X κ E ss (c8 f):=.mk (lO h.pe λ_ _ _=>vW)
def jT(h:LX X κ E s f)(r:ip X κ E ss g):ip X κ E (s::ss) (ai f g):=.mk (lO (fS h.pe r.pe) λ_ _ _=>Fb)
def jU(h:LX X κ E s f):ip X κ E [s] f:=.mk (fT h.pe)
def jV(hc:LT X κ c fc)(ha:ip X κ E ss f)(hb:ip X κ E ss2 g):LX X κ E (.If c ss ss2 pos) (aE fc f g):=.mk (c6 (kM hc.pe ha.pe hb.pe) λ_ _ _=>Fc)
def jW(hp:PassesOwn (model X.prog X.w) X.A X.env X.xe)(hi:LI X κ tg it fi)(hg:LG X κ tg gf)(hb:ip X κ E ss f)(hc:‹X.calm=true›)(hs:∀x,foldedSetIterable it X.env x=pure x:=by intro _;rfl):LX X κ E (.For tg it ss [] pos) (bB fi gf f):=.mk (c6 (qL hp hc hi.pe hg.pe hb.pe hs) λ_ _ _=>Fd)
def vZ(h:kC X.prog X.w X.K X.mg X.base x k ps (eW X.K κ n fn))(hx:bM (da X.prog X.w X.base) X E)(hr:y54 k X.A)(ha:LA X κ (e::es) fs)(hg:‹Gl X x›)
  (hdb:(x == ("__debug__" : Str))=false:=by decide) (he:‹gI X e es›) (hpl:‹gB X pos es›):PE X (.Call (.Name x p) (e::es) [] pos) (fg (eW X.K κ n fn) [] E (gb X.K κ fs)):=by
 obtain⟨f,fd,hm,hk,hb,G⟩:=h
 exact nM G hr hg hm hk hb .nil hx ha.pe hdb he hpl
def dY(h:kC X.prog X.w X.K X.mg X.base x k ps (eW X.K κ n fn))(hx:bM (da X.prog X.w X.base) X E)(hr:y54 k X.A)(ha:LA X κ (e::es) fs)(hg:‹Gl X x›)
  (hdb:(x == ("__debug__" : Str))=false:=by decide) (he:‹gI X e es›) (hpl:‹gB X pos es›)
  (hs:‹swapsWith (.Call (.Name x p) (e::es) [] pos) none y35e.line X.env=pure false›):LX X κ E (.Expr (.Call (.Name x p) (e::es) [] pos) y35e) (cA (bd fs (ax n fn))) :=
 .mk (c6 (nB (vZ h hx hr ha hg hdb he hpl) hs) λ_ _ _=>Fg)
def jX(h:kC X.prog X.w X.K X.mg X.base x k ps (eW X.K κ n fn))(hx:bM (da X.prog X.w X.base) X E)(hr:y54 k X.A)(ha:LA X κ (e::es) fs)(htg:LG X κ tg gf)(hg:‹Gl X x›)
  (hdb:(x == ("__debug__" : Str))=false:=by decide) (he:‹gI X e es›) (hpl:‹gB X pos es›)
  (hs:‹swapsWithSole [tg] (.Call (.Name x p) (e::es) [] pos) y35e.line X.env=pure false›) (hw:‹swappedStores [tg] (.Call (.Name x p) (e::es) [] pos) X.env=pure none›)
  (h1:‹(assignEach [tg] X.env).map (·.2)=[assign tg X.env]›):LX X κ E (.Assign [tg] (.Call (.Name x p) (e::es) [] pos) y35e) (iP (bd fs (ax n fn)) gf) :=
 .mk (c6 (fW (vZ h hx hr ha hg hdb he hpl) htg.pe hs hw h1) λ_ _ _=>Fh)
def jY{fns:List Str}(h:ClN X.prog X.w X.K X.mg X.base x (κ x) fns)(hx:fK X E)(hr:y54 (1+1) X.A)(ha:LA X κ (e::es) fs)(hg:‹Gl X x›)(hc:‹X.calm=true›)
  (hdb:(x == ("__debug__" : Str))=false:=by decide) (he:‹gI X e es›) (hpl:‹gB X pos es›) :
  LX X κ E (.Raise (some (.Call (.Name x p) (e::es) [] pos)) none y35e) (iQ x fns fs):=by
 obtain⟨f,fd,c1,c2,c3,c4,c5⟩:=h.ex
 have ln:=h.ln
 exact .mk (c6 (EZ hc (E1 c1 c5 c2 hr hg c4 c3 .nil sA (by rw [z11];lia) ha.pe hdb he hpl) hx) λ_ _ _=>Fj c1.is)
end
section
variable {P:Program}{w:World}{K:W.Frag}{mg:Str->Option Value}{base:Heap}{κ:Str->Addr}
def Fm{N:List Str}{qual:Str}{scope:Scope}{f:Addr}{cd:Value}{A:Around}{outer:List Env}{s:Shared}{H:Hp}{E:XK}{X:Cx}(e:X=ft (da P w base) P w K mg base N qual scope f cd A outer s H E):PassesOwn (model X.prog X.w) X.A X.env X.xe:=by
 subst e
 exact PassesOwn.leaving (Q₁:=λe s''=>da P w base outer H s E e s'')
def jZ{x qual:Str}{st:Stmt}{f:Addr}{fd:FuncData}{N ps:List Str}{k n r:Nat}{body:SF}(F:Fun K x qual st f fd)(S:y47 N ps (bK st))(hn:ps.length=n)(hN:N.length=n+r)
  (hb:∀(cdv:Value) (A:Around) (outer:List Env) (s:Shared) (H:Hp) (E:XK),y54 k (A.deeper (envOfC qual (bK st) s.heap.objs.size f cdv))->PassesOwn (model P w) (ft (da P w base) P w K mg base N qual (bK st) f cdv A outer s H E).A (ft (da P w base) P w K mg base N qual (bK st) f cdv A outer s H E).env (ft (da P w base) P w K mg base N qual (bK st) f cdv A outer s H E).xe->bM (da P w base) (ft (da P w base) P w K mg base N qual (bK st) f cdv A outer s H E) E ->
   fK (ft (da P w base) P w K mg base N qual (bK st) f cdv A outer s H E) E->ip (ft (da P w base) P w K mg base N qual (bK st) f cdv A outer s H E) κ E (ky st) body) :
  y46 P w K mg base (da P w base) (k+1) f fd ps (eW K κ n (aQ n r body)):=by
 refine F.okX S (λvs H Q E h=>by rw [(vX h).1,hn]) (λcdv A outer s H vs Q E hr h=>⟨_,(hb cdv A outer s H E hr (Fm rfl) EX EW).pe,?_⟩)
 obtain⟨l,q⟩:=vX h
 unfold L2.start
 have e:N.length-vs.length=r:=by lia
 rw [e]
 exact q
end
end
end B
namespace L2
open PySem PySem.Spec PyProof.Rows
section
abbrev mi:V->Option Value
 | .ref a=>some (.ref a)
 | .ty n=>some (.type n)
 | _=>none
abbrev yX:List V->Option (List Value)
 | []=>some []
 | v::vs=>match mi v,yX vs with
  | some u,some us=>some (u::us)
  | _,_=>none
def yd7{v:V}{u c:Value}(h:mi v=some c)(r:aA v u):u=c:=by
 cases v<;>simp [mi] at h
 ·subst h;exact r
 ·subst h;exact r
theorem yd9:∀{vs:List V} {us cs:List Value},yX vs=some cs->au vs us->us=cs
 | [],_,_,h,.nil=>by cases h;rfl
 | v::vs,_,cs,h,.cons r rs=>by
  unfold yX at h
  split at h
  ·rename_i u us h1 h2
   cases h
   rw [yd7 h1 r,yd9 h2 rs]
  ·cases h
abbrev wa(K:W.Frag):List V->Hp->VK->Prop:=λvs H Q=>∃x D dx fs new cv b,vs=[.ref x,cv]/\H x=some (cH x D (some dx) new)/\H dx=some (fI dx fs)/\XA K D/\XI K D/\Q (.bl b) H /\
 ((∃c,mi cv=some c/\W.kitOne K (.ref D) c=some b)∨∃tp cvs cs,cv=.ref tp/\H tp=some (.tup cvs)/\yX cvs=some cs/\W.kitAny K (.ref D) cs=some b)
def Fo{X:Cx}:y6 X (.builtin "isinstance") (wa X.K):=by
 intro pins s σ H xs us Q I r ⟨x,D,dx,fs,new,cv,b,e,ex,ed,xa,xi,q,h⟩
 subst e
 cases r with
 | @cons _ u _ us' ru r2 =>
  obtain rfl:u=Value.ref x:=ru
  cases r2 with
  | @cons _ u2 _ Ip ru2 r3 =>
   cases r3
   rcases h with⟨c,ec,k⟩| ⟨tp,cvs,cs,rfl,et,ec,k⟩
   ·obtain rfl:=yd7 ec ru2
    exact E9 xa xi k I ex ed λtk=>⟨.bl b,H,I.tok tk,rfl,q⟩
   ·obtain rfl:u2=Value.ref tp:=ru2
    obtain⟨_,its,rv,o,ho,hc,hdn,n,hdt⟩:=I.hok tp _ et
    obtain rfl:=yd9 ec rv
    obtain⟨oc,odi,oda,osl⟩:=o
    dsimp only at hc hdn hdt
    subst hc hdn hdt
    obtain⟨o,vs,a0,h1,h2,h3,h4,_⟩:=fJ I.hok ex
    obtain⟨_,mA,hm,_⟩:=l9 I.hok ed
    obtain⟨od,hod,_⟩:=kQ hm
    obtain⟨oc,odi,oda,osl2⟩:=o
    dsimp only at h2 h3 h4
    subst h2 h3 h4
    exact W.kia_tup (vV (ox:=⟨.ref D,some dx,.fields vs,osl2⟩) (od:=od) xa xi) I.kIn ⟨h1,rfl,rfl,hod⟩ ho k (λz=>nomatch z) λtk=>⟨.bl b,H,I.tok tk,rfl,q⟩
def Fp{X:Cx}:PH X [] (λ_ _ _ _=>False):=λ_ _ _ _ _ _ _ _ h=>h.elim
end
end L2
set_option maxHeartbeats 4000000
namespace Q
open PySem PySem.Spec PyProof.Rows L2 B
abbrev top(i:Nat):Stmt:=PySem.Challenge.pw_stepcourt_k08_the_first_thing_amiss.main.body.getD i (.Pass ⟨0,0,0,0⟩)
section
variable {P:Program}{w:World}{K:W.Frag}{mg:Str->Option Value}{base:Heap}{C C0 f:Addr}{fd:FuncData}
def Fq{H:Hp}{a b:Addr}{o o' u:HO}(ne:b≠a):upd (upd (upd H b o) a u) b o'=upd (upd H b o') a u:=by
 funext c;unfold upd
 by_cases h1:c=b
 ·rw [if_pos h1,if_neg (by rw [h1];exact ne),if_pos h1]
 ·rw [if_neg h1]
  by_cases h2:c=a
  ·rw [if_pos h2,if_pos h2]
  ·rw [if_neg h2,if_neg h2,if_neg h1,if_neg h1]
def Fs:y47 ["self","word","name"] ["self","word","name"] (bK (fu (top 3) 0)):=bx
def Ft(F:Fun K "__init__" "NoProgram.__init__" (fu (top 3) 0) f fd)(hC:y5c K C f "ValueError" "ValueError.__new__" "ValueError.__new__" "ValueError.__init__" "ValueError.__init__" VE VE)(hA:XA K C)(n:ib K C "word")(n':ib K C "name")(h0:y14 K C0 "ValueError.__init__")(g0:mg "CourtError" = some (.ref C0)):y46 P w K mg base bV 1 f fd ["self","word","name"] (Ff C ["word","name"]):=by
 refine F.ok Fs (λvs H Q E zz=>by obtain⟨x,us,e,l,_⟩:=zz;rw [e,z11,l];rfl) λcdv A outer s H vs Q E hr zz=>?_
 obtain⟨x,us,e,l,ex,k⟩:=zz
 subst e
 match us,l with
 | [v,u],_ =>
 refine⟨_,fS (nB (EU (by rfl) g0 h0 hC (ck (pv 0) (ck (pv 1) (ck (pv 2) eL))))) (fS (ER (pv 0) (pv 1) (by rfl)) (fT (ES (pv 0) (pv 2) (by rfl)))),?_⟩
 refine⟨_,rfl,_,rfl,_,rfl,x,[v,u],true,none,rfl,(show (2:Nat)≤sizeLine by decide),ex,_,rfl,_,rfl,x,C,true,rfl,ex,hA,n,λdx hd=>?_⟩
 have ne:dx≠x:=λz=>by rw [z,ex] at hd;cases hd
 refine⟨_,rfl,_,rfl,x,C,dx,_,true,rfl,a8,(by rw [aK ne];exact a8),hA,n',(by show (1:Nat)<1000;decide),?_⟩
 show Q .non _
 rw [Fq ne]
 exact k dx hd
end
end Q
namespace Q
open PySem L2 B
noncomputable section
abbrev yY:SF :=
 (aG (ah dJ (ah bu (ah c7 (aa 3) (ag (.int 48271))) (ah dJ (aa 4) (ag (.int 2147483629)))) (ag (.int 2147483647))) (aB 3))
abbrev yZ:FF:=aQ 2 3
 (ai (aG (dI (bF (one (a7 (aa 0) (aW (aa 1)) (aW (ag (.int 63))))) aR) [] c1 a9 (bd (af (aa 0) (af (ah cL (ag (.int 0)) (aa 0)) ae)) gW)) (aB 2))
 (ai (aG (ah bu (ag (.int 7919)) (aa 1)) (aB 3))
 (ai (bB (bF (one (aY (aa 2))) aR) (aB 4)
 yY)
 (aC (m7 (cE (ag (.str "seed")) (aa 3) (cE (ag (.str "number")) (ag (.int 0)) (cE (ag (.str "left")) (aY (cY iM (dI (bF (one (aY (aa 2))) aR) [] c1 (ao (ah oP (aa 0) (ah gS (ag (.int 10)) (ag (.int 18))))) (aa 0)))) gu))))))))
abbrev pz:Mo Bool:=(eF (ao (ah bP (ah ak (aa 0) (ag (.str "number"))) (ag (.int 0)))) (ao (ah gT (bd (af (ah ak (aa 0) (ag (.str "left"))) ae) aO) (ag (.int 0)))))
abbrev wb:SF :=
 (cM (aa 0) (ag (.str "number")) (cY fG (ah ak (aa 0) (ag (.str "left")))))
abbrev aS:FF:=aQ 2 3
 (ai (fQ pz
 wb)
 (ai (aG (ah ak (aa 0) (ag (.str "number"))) (aB 2))
 (ai (aE (ao (ah gT (aa 2) (ag (.int 0))))
 (ai (cM (aa 0) (ag (.str "number")) (ah iK (aa 2) (aa 1)))
 (aC (ah dJ (aa 2) (aa 1))))
 aM)
 (ai (aG (ah dJ (ah bu (ah c7 (ah ak (aa 0) (ag (.str "seed"))) (ag (.int 48271))) (ag (.int 7919))) (ag (.int 2147483647))) (aB 3))
 (ai (cM (aa 0) (ag (.str "seed")) (ah dJ (ah bu (ah c7 (aa 3) (ag (.int 40692))) (ag (.int 104729))) (ag (.int 2147483399))))
 (ai (aG (ah dJ (ah c7 (ah ak (aa 0) (ag (.str "seed"))) (ah ak (aa 0) (ag (.str "seed")))) (ag (.int 2147483563))) (aB 4))
 (aC (ah dJ (ah bu (ah c7 (ah dJ (ah c7 (aa 3) (aa 3)) (ag (.int 2147483629))) (ag (.int 2147483563))) (aa 4)) (aa 1)))))))))
abbrev zg:SF :=
 (ai (aG (ah bu (ah ak (aa 2) (ah dJ (ah bu (aa 5) (ah c7 (ag (.int 7)) (aa 7))) (ag (.int 26)))) (a7 (aa 3) (aW (aa 4)) aZ)) (aB 8))
 (cJ (gn ik (aa 6) (af (ah bu (ah bu (a7 (aa 3) aZ (aW (aa 4))) (aa 8)) (ah ak (bd (af (ag (.str "")) (af (ag (.str "z")) ae)) aN) (ah iK (ah dJ (aa 7) (ag (.int 5))) (ag (.int 4))))) ae))))
abbrev wc:FF:=aQ 2 10
 (ai (aG (ag (.str "abcdefghijklmnopqrstuvwxyz")) (aB 2))
 (ai (aG (vw jN (ag (.str "")) (af (dI (bF (af (bd (af (aa 0) (af (ag (.int 5)) ae)) (ax 2 aS)) ae) cZ) [2,0] c1 a9 (ah ak (aa 1) (bd (af (aa 2) (af (ag (.int 26)) ae)) (ax 2 aS)))) ae)) (aB 3))
 (ai (aG (bd (af (aa 0) (af (ah bu (bd (af (aa 3) ae) aO) (ag (.int 1))) ae)) (ax 2 aS)) (aB 4))
 (ai (aG (bd (af (aa 0) (af (ag (.int 26)) ae)) (ax 2 aS)) (aB 5))
 (ai (aG (bd ae aN) (aB 6))
 (ai (bB (bF (af (aa 1) ae) cZ) (aB 7)
 zg)
 (ai (aG (bd (af (ag (.str "cells")) (af (ag (.str "de")) (af (ag (.str "mains")) (af (ag (.str "setx")) (af (ag (.str "ends")) (af (ag (.str "atx")) (af (ag (.str "i")) (af (ag (.str "calls")) ae)))))))) aN) (aB 9))
 (ai (aG (bd (af (ag (.str "cell")) (af (ag (.str "row")) (af (ag (.str "def")) (af (ag (.str "main")) (af (ag (.str "set")) (af (ag (.str "put")) (af (ag (.str "while")) (af (ag (.str "if")) (af (ag (.str "else")) (af (ag (.str "call")) (af (ag (.str "end")) (af (ag (.str "at")) ae)))))))))))) ay) (aB 10))
 (ai (aG (dI (bF (one (aY (aa 6))) aR) [10] c1 a9 (ah bu (aa 0) (ah c7 (ag (.str "q")) (bd (af (ah fR (aa 0) (aa 1)) ae) dN)))) (aB 6))
 (ai (aG (ah ak (aa 9) (bd (af (aa 0) (af (ag (.int 8)) ae)) (ax 2 aS))) (aB 11))
 (ai (aE (eF (ao (ah bP (bd (af (aa 0) (af (ag (.int 3)) ae)) (ax 2 aS)) (ag (.int 1)))) (ao (ah dw (aa 11) (aa 6))))
 (cM (aa 6) (bd (af (aa 0) (af (aa 1) ae)) (ax 2 aS)) (aa 11))
 aM)
 (aC (aa 6)))))))))))))
abbrev j0:FF:=aQ 1 1
 (ai (aG (bd (af (aa 0) (af (ag (.int 6)) ae)) (ax 2 aS)) (aB 1))
 (ai (aE (ao (ah eG (aa 1) (ag (.int 4))))
 (aC (bd (af (aa 0) (af (ah ak (bd (af (ag (.int 2)) (af (ag (.int 5)) (af (ag (.int 5)) (af (ag (.int 10)) ae)))) aN) (aa 1)) ae)) (ax 2 aS)))
 aM)
 (aC (ah ak (bd (af (bd (af (aa 0) (af (ag (.int 4294967296)) ae)) (ax 2 aS)) (af (ah cL (ag (.int 4294967295)) (bd (af (aa 0) (af (ag (.int 3)) ae)) (ax 2 aS))) ae)) aN) (ah cL (aa 1) (ag (.int 4)))))))
abbrev eP:Nat->FF
 | 0=>λ_ _=>none
 | n+1=>aQ 3 4
   (ai (aG (bd (af (aa 0) (af (ag (.int 8)) ae)) (ax 2 aS)) (aB 3))
   (ai (aE (kz (ao (ah eG (aa 2) (ag (.int 3)))) (ao (ah eG (aa 3) (ag (.int 3)))))
   (ai (aE (ao (ah bP (bd (af (aa 0) (af (ag (.int 3)) ae)) (ax 2 aS)) (ag (.int 0))))
   (aC (bd (af (ag (.str "num")) (af (bd (af (aa 0) ae) (ax 1 j0)) ae)) ay))
   aM)
   (aC (bd (af (ag (.str "cell")) (af (ah ak (ah ak (aa 1) (ag (.str "cells"))) (bd (af (aa 0) (af (bd (af (ah ak (aa 1) (ag (.str "cells"))) ae) aO) ae)) (ax 2 aS))) ae)) ay)))
   aM)
   (ai (aE (eF (ao (ah bP (aa 3) (ag (.int 3)))) (ao (ah gT (bd (af (ah ak (aa 1) (ag (.str "rows"))) ae) aO) (ag (.int 0)))))
   (ai (aG (ah ak (ah ak (aa 1) (ag (.str "rows"))) (bd (af (aa 0) (af (bd (af (ah ak (aa 1) (ag (.str "rows"))) ae) aO) ae)) (ax 2 aS))) (aB 4))
   (aC (bd (af (ag (.str "at")) (af (aa 4) (af (bd (af (aa 0) (af (aa 1) (af (ah iK (aa 2) (ag (.int 2))) ae))) (ax 3 (eP n))) ae))) ay)))
   aM)
   (ai (aG (ah iK (ah cL (aa 2) (ag (.int 1))) (ag (.int 2))) (aB 5))
   (ai (aG (bd (af (aa 0) (af (aa 1) (af (aa 5) ae))) (ax 3 (eP n))) (aB 6))
   (aC (bd (af (ag (.str "op")) (af (ah ak (ag (.str "+-*<=")) (bd (af (aa 0) (af (ag (.int 5)) ae)) (ax 2 aS))) (af (aa 6) (af (bd (af (aa 0) (af (aa 1) (af (aa 5) ae))) (ax 3 (eP n))) ae)))) ay)))))))
mutual
noncomputable def kE:Nat->FF
 | 0=>λ_ _=>none
 | n+1=>aQ 4 5
   (ai (aG (ah ak (ah ak (aa 1) (ag (.str "cells"))) (bd (af (aa 0) (af (bd (af (ah ak (aa 1) (ag (.str "cells"))) ae) aO) ae)) (ax 2 aS))) (aB 4))
   (ai (cM (aa 2) (ag (.int 0)) (ah cL (ah ak (aa 2) (ag (.int 0))) (ag (.int 1))))
   (ai (aG (bd (af (aa 0) (af (aa 1) (af (aa 2) (af (ah bu (aa 3) (ag (.int 1))) ae)))) (ax 4 (eX n))) (aB 5))
   (ai (aE (ao (ah bP (bd (af (aa 0) (af (ag (.int 4)) ae)) (ax 2 aS)) (ag (.int 0))))
   (aC (bd (af (ag (.str "while")) (af (bd (af (aa 0) (af (aa 1) (af (ag (.int 5)) ae))) (ax 3 (eP 12))) (af (aa 5) ae))) ay))
   aM)
   (ai (aG (bd (af (ag (.str "set")) (af (aa 4) (af (bd (af (ag (.str "op")) (af (ag (.str "-")) (af (bd (af (ag (.str "cell")) (af (aa 4) ae)) ay) (af (bd (af (ag (.str "num")) (af (ag (.int 1)) ae)) ay) ae)))) ay) ae))) ay) (aB 6))
   (ai (aG (bd (af (ag (.str "op")) (af (ag (.str "<")) (af (bd (af (ag (.str "cell")) (af (aa 4) ae)) ay) (af (bd (af (ag (.str "num")) (af (ah bu (ag (.int 1)) (bd (af (aa 0) (af (ag (.int 9)) ae)) (ax 2 aS))) ae)) ay) ae)))) ay) (aB 7))
   (ai (aG (bd (af (ag (.str "set")) (af (aa 4) (af (bd (af (ag (.str "op")) (af (ag (.str "+")) (af (bd (af (ag (.str "cell")) (af (aa 4) ae)) ay) (af (bd (af (ag (.str "num")) (af (ag (.int 1)) ae)) ay) ae)))) ay) ae))) ay) (aB 8))
   (aC (ah ak (bd (af (bd (af (ag (.str "while")) (af (bd (af (ag (.str "cell")) (af (aa 4) ae)) ay) (af (ah bu (aa 5) (bd (af (aa 6) ae) ay)) ae))) ay) (af (bd (af (ag (.str "while")) (af (aa 7) (af (ah bu (aa 5) (bd (af (aa 8) ae) ay)) ae))) ay) ae)) aN) (bd (af (aa 0) (af (ag (.int 2)) ae)) (ax 2 aS)))))))))))
noncomputable def iq:Nat->FF
 | 0=>λ_ _=>none
 | n+1=>aQ 4 4
   (ai (aG (bd (af (aa 0) (af (ag (.int 10)) ae)) (ax 2 aS)) (aB 4))
   (ai (aE (eF (ao (ah bP (aa 4) (ag (.int 0)))) (ao (ah eG (aa 3) (ag (.int 3)))))
   (ai (aG (bd (af (aa 0) (af (aa 1) (af (aa 2) (af (ah bu (aa 3) (ag (.int 1))) ae)))) (ax 4 (eX n))) (aB 5))
   (aC (bd (af (ag (.str "if")) (af (bd (af (aa 0) (af (aa 1) (af (ag (.int 5)) ae))) (ax 3 (eP 12))) (af (aa 5) (af (bd (af (aa 0) (af (aa 1) (af (aa 2) (af (ah bu (aa 3) (ag (.int 1))) ae)))) (ax 4 (eX n))) ae)))) ay)))
   aM)
   (ai (aE (eF (ao (ah eG (aa 4) (ag (.int 3)))) (ao (ah eG (aa 3) (ag (.int 3)))))
   (aC (bd (af (aa 0) (af (aa 1) (af (aa 2) (af (aa 3) ae)))) (ax 4 (kE n))))
   aM)
   (ai (aE (eF (ao (ah eG (aa 4) (ag (.int 6)))) (ao (ah gT (bd (af (ah ak (aa 1) (ag (.str "defs"))) ae) aO) (ag (.int 0)))))
   (aC (bd (af (ag (.str "call")) (af (ah ak (ah ak (aa 1) (ag (.str "defs"))) (bd (af (aa 0) (af (bd (af (ah ak (aa 1) (ag (.str "defs"))) ae) aO) ae)) (ax 2 aS))) ae)) ay))
   aM)
   (ai (aE (eF (ao (ah bP (aa 4) (ag (.int 6)))) (ao (ah gT (bd (af (ah ak (aa 1) (ag (.str "rows"))) ae) aO) (ag (.int 0)))))
   (ai (aG (ah ak (ah ak (aa 1) (ag (.str "rows"))) (bd (af (aa 0) (af (bd (af (ah ak (aa 1) (ag (.str "rows"))) ae) aO) ae)) (ax 2 aS))) (aB 6))
   (aC (bd (af (ag (.str "put")) (af (aa 6) (af (bd (af (aa 0) (af (aa 1) (af (ag (.int 3)) ae))) (ax 3 (eP 12))) (af (bd (af (aa 0) (af (aa 1) (af (ag (.int 7)) ae))) (ax 3 (eP 12))) ae)))) ay)))
   aM)
   (ai (aG (ah ak (ah ak (aa 1) (ag (.str "cells"))) (bd (af (aa 0) (af (bd (af (ah ak (aa 1) (ag (.str "cells"))) ae) aO) ae)) (ax 2 aS))) (aB 7))
   (aC (bd (af (ag (.str "set")) (af (aa 7) (af (bd (af (aa 0) (af (aa 1) (af (ah ak (bd (af (ag (.int 3)) (af (ag (.int 9)) (af (ag (.int 20)) ae))) aN) (bd (af (aa 0) (af (ag (.int 3)) ae)) (ax 2 aS))) ae))) (ax 3 (eP 12))) ae))) ay))))))))
noncomputable def eX:Nat->FF
 | 0=>λ_ _=>none
 | n+1=>aQ 4 2
   (ai (aG (bd ae aN) (aB 4))
   (ai (bB (bF (af (bd (af (aa 0) (af (ah ak (ah ak (bd (af (aY (bd (af (ag (.int 5)) (af (ag (.int 13)) ae)) aN)) (af (aY (bd (af (ag (.int 4)) (af (ag (.int 8)) ae)) aN)) (af (aY (bd (af (ag (.int 3)) (af (ag (.int 6)) ae)) aN)) (af (aY (bd (af (ag (.int 3)) (af (ag (.int 3)) ae)) aN)) ae)))) aN) (aa 3)) (bd (af (aa 0) (af (ag (.int 2)) ae)) (ax 2 aS))) ae)) (ax 2 aS)) ae) cZ) (aB 5)
   (aE (ao (ah gT (ah ak (aa 2) (ag (.int 0))) (ag (.int 1))))
   (ai (cM (aa 2) (ag (.int 0)) (ah cL (ah ak (aa 2) (ag (.int 0))) (ag (.int 1))))
   (cJ (gn ik (aa 4) (af (bd (af (aa 0) (af (aa 1) (af (aa 2) (af (aa 3) ae)))) (ax 4 (iq n))) ae))))
   aM))
   (aC (bd (af (aa 4) ae) cz))))
end
abbrev zh:SF :=
 (cJ (gn ik (aa 8) (af (bd (af (aa 9) (af (bd (af (aa 0) (af (aY (aa 6)) (af (aY (aa 7)) (af (ag (.int 1)) ae)))) (ax 4 (eX 12))) ae)) ay) ae)))
abbrev zi:FF:=aQ 1 11
 (ai (aG (bd (af (aa 0) (af (ag (.int 24)) ae)) (ax 2 wc)) (aB 1))
 (ai (aG (ah ak (bd (af (ag (.int 0)) (af (ag (.int 6)) ae)) aN) (bd (af (aa 0) (af (ag (.int 2)) ae)) (ax 2 aS))) (aB 2))
 (ai (aG (a7 (aa 1) aZ (aW (ah bu (ag (.int 1)) (bd (af (aa 0) (af (ag (.int 6)) ae)) (ax 2 aS))))) (aB 3))
 (ai (aG (a7 (a7 (aa 1) (aW (ah cL (ag (.int 6)) (aa 2))) aZ) aZ (aW (bd (af (aa 0) (af (ag (.int 4)) ae)) (ax 2 aS)))) (aB 4))
 (ai (aG (a7 (a7 (aa 1) (aW (ah cL (ag (.int 12)) (aa 2))) aZ) aZ (aW (bd (af (aa 0) (af (ag (.int 4)) ae)) (ax 2 aS)))) (aB 5))
 (ai (aG (m7 (cE (ag (.str "cells")) (aY (aa 3)) (cE (ag (.str "rows")) (aY (aa 4)) (cE (ag (.str "defs")) (aY (aa 5)) gu)))) (aB 6))
 (ai (aG (bd (af (ag (.int 14)) ae) aN) (aB 7))
 (ai (aG (bd ae aN) (aB 8))
 (ai (bB (bF (one (aY (aa 5))) aR) (aB 9)
 zh)
 (ai (aG (bd (af (ag (.int 22)) ae) aN) (aB 7))
 (ai (aG (bd (af (aa 0) (af (aY (aa 6)) (af (aY (aa 7)) (af (ag (.int 0)) ae)))) (ax 4 (eX 12))) (aB 10))
 (ai (aE (ao (ah bP (bd (af (aa 10) ae) aO) (ag (.int 0))))
 (aG (bd (af (bd (af (aa 0) (af (aY (aa 6)) (af (aY (aa 7)) (af (ag (.int 0)) ae)))) (ax 4 (iq 12))) ae) ay) (aB 10))
 aM)
 (ai (aG (bd (af (dI (bF (one (aY (aa 3))) aR) [0] c1 a9 (bd (af (aa 0) (af (bd (af (aa 1) ae) (ax 1 j0)) ae)) ay)) ae) cz) (aB 11))
 (aC (bd (af (aa 11) (af (bd (af (dI (bF (one (aY (aa 4))) aR) [0] c1 a9 (bd (af (aa 0) (af (ah bu (ag (.int 1)) (bd (af (aa 1) (af (ag (.int 8)) ae)) (ax 2 aS))) ae)) ay)) ae) cz) (af (bd (af (aa 8) ae) cz) (af (aa 10) ae)))) ay)))))))))))))))
abbrev y3d:SF :=
 (ai (aE (ao (ah fR (ah ak (aa 2) (ag (.int 0))) (aa 1)))
 (iQ "NoProgram" ["word","name"] (af (ag (.str "twice")) (af (ah ak (aa 2) (ag (.int 0))) ae)))
 (c8 aM))
 (c8 (cM (aa 1) (ah ak (aa 2) (ag (.int 0))) (ag (.bl true)))))
abbrev j4:FF:=aQ 1 2
 (ai (c8 (aG jL (aB 1)))
 (ai (bB (bF (one (aa 0)) aR) (aB 2)
 y3d)
 (c8 (aC (aa 1)))))
abbrev wd:FF:=aQ 1 0
 (aC (ah bu (dI (bF (one (ah ak (aa 0) (ag (.int 2)))) aR) [] c1 a9 (ah ak (aa 0) (ag (.int 1)))) (bd (af (ah ak (aa 0) (ag (.int 3))) ae) aN)))
abbrev we:FF:=aQ 1 0
 (ai (aE (ao (ah bP (ah ak (aa 0) (ag (.int 0))) (ag (.str "while"))))
 (aC (bd (af (ah ak (aa 0) (ag (.int 2))) ae) ay))
 aM)
 (ai (aE (ao (ah bP (ah ak (aa 0) (ag (.int 0))) (ag (.str "if"))))
 (aC (bd (af (ah ak (aa 0) (ag (.int 2))) (af (ah ak (aa 0) (ag (.int 3))) ae)) ay))
 aM)
 (aC (bd ae ay))))
abbrev zj:SF :=
 (cJ (gn fF (aa 2) (af (cY dM (aa 4)) ae)))
abbrev zk:Mo Bool:=(bd (aa 2) gh)
abbrev y41:SF :=
 (ai (aG (cY fG (aa 2)) (aB 3))
 (ai (cJ (gn ik (aa 1) (af (aa 3) ae)))
 (bB (bF (one (cY dM (bd (af (aa 3) ae) (ax 1 we)))) aR) (aB 4)
 zj)))
abbrev zl:FF:=aQ 1 4
 (ai (aG (bd ae aN) (aB 1))
 (ai (aG (bd (af (cY dM (aa 0)) ae) jK) (aB 2))
 (ai (fQ zk
 y41)
 (aC (aa 1)))))
abbrev wg:FF:=aQ 1 0
 (ai (aE (ao (ah bP (ah ak (aa 0) (ag (.int 0))) (ag (.str "put"))))
 (aC (bd (af (ah ak (aa 0) (ag (.int 2))) (af (ah ak (aa 0) (ag (.int 3))) ae)) ay))
 aM)
 (ai (aE (ao (ah bP (ah ak (aa 0) (ag (.int 0))) (ag (.str "set"))))
 (aC (bd (af (ah ak (aa 0) (ag (.int 2))) ae) ay))
 aM)
 (ai (aE (ao (ah bP (ah ak (aa 0) (ag (.int 0))) (ag (.str "call"))))
 (aC (bd ae ay))
 aM)
 (aC (bd (af (ah ak (aa 0) (ag (.int 1))) ae) ay)))))
abbrev iR:FF:=aQ 2 0
 (aE (ao (ah dw (aa 0) (aa 1)))
 (iQ "NoProgram" ["word","name"] (af (ag (.str "unknown")) (af (aa 0) ae)))
 (c8 aM))
abbrev zm:FF:=aQ 1 0
 (ai (aE (ao (ah bP (ah ak (aa 0) (ag (.int 0))) (ag (.str "at"))))
 (aC (bd (af (ah ak (aa 0) (ag (.int 2))) ae) ay))
 aM)
 (ai (aE (ao (ah bP (ah ak (aa 0) (ag (.int 0))) (ag (.str "op"))))
 (aC (bd (af (ah ak (aa 0) (ag (.int 2))) (af (ah ak (aa 0) (ag (.int 3))) ae)) ay))
 aM)
 (aC (bd ae ay))))
abbrev zo:Mo Bool:=(bd (aa 2) gh)
abbrev Fu:SF :=
 (ai (aG (cY fG (aa 2)) (aB 3))
 (ai (cJ (gn ik (aa 1) (af (aa 3) ae)))
 (cJ (gn fF (aa 2) (af (cY dM (bd (af (aa 3) ae) (ax 1 zm))) ae)))))
abbrev zp:FF:=aQ 1 3
 (ai (aG (bd ae aN) (aB 1))
 (ai (aG (bd (af (aa 0) ae) aN) (aB 2))
 (ai (fQ zo
 Fu)
 (aC (aa 1)))))
abbrev Fv:SF :=
 (aE (ao (ah bP (ah ak (aa 3) (ag (.int 0))) (ag (.str "cell"))))
 (cA (bd (af (ah ak (aa 3) (ag (.int 1))) (af (aa 1) ae)) (ax 2 iR)))
 (aE (ao (ah bP (ah ak (aa 3) (ag (.int 0))) (ag (.str "at"))))
 (cA (bd (af (ah ak (aa 3) (ag (.int 1))) (af (aa 2) ae)) (ax 2 iR)))
 (c8 aM)))
abbrev zq:FF:=aQ 3 1
 (bB (bF (one (aY (bd (af (aa 0) ae) (ax 1 zp)))) aR) (aB 3)
 Fv)
abbrev zr:SF :=
 (cA (bd (af (aa 4) (af (aa 1) (af (aa 2) ae))) (ax 3 zq)))
abbrev zt:FF:=aQ 4 1
 (ai (aE (ao (ah bP (ah ak (aa 0) (ag (.int 0))) (ag (.str "set"))))
 (cA (bd (af (ah ak (aa 0) (ag (.int 1))) (af (aa 1) ae)) (ax 2 iR)))
 (aE (ao (ah bP (ah ak (aa 0) (ag (.int 0))) (ag (.str "put"))))
 (cA (bd (af (ah ak (aa 0) (ag (.int 1))) (af (aa 2) ae)) (ax 2 iR)))
 (aE (ao (ah bP (ah ak (aa 0) (ag (.int 0))) (ag (.str "call"))))
 (cA (bd (af (ah ak (aa 0) (ag (.int 1))) (af (aa 3) ae)) (ax 2 iR)))
 (c8 aM))))
 (bB (bF (one (bd (af (aa 0) ae) (ax 1 wg))) aR) (aB 4)
 zr))
abbrev Fw:SF :=
 (cA (bd (af (aa 5) (af (aY (aa 1)) (af (aY (aa 2)) (af (aY (aa 3)) ae)))) (ax 4 zt)))
abbrev zu:SF :=
 (bB (bF (one (aY (bd (af (aa 4) ae) (ax 1 zl)))) aR) (aB 5)
 Fw)
abbrev zv:FF:=aQ 1 5
 (ai (iP (bd (af (ah ak (aa 0) (ag (.int 0))) ae) (ax 1 j4)) (aB 1))
 (ai (iP (bd (af (ah ak (aa 0) (ag (.int 1))) ae) (ax 1 j4)) (aB 2))
 (ai (iP (bd (af (ah ak (aa 0) (ag (.int 2))) ae) (ax 1 j4)) (aB 3))
 (ai (bB (bF (one (bd (af (aa 0) ae) (ax 1 wd))) aR) (aB 4)
 zu)
 (c8 (aC (ag (.bl true))))))))
abbrev ja:FF:=λxs G=>match zv xs G with
 | some (.im (.bl true),G')=>some (.im .non,G')
 | some (.ow (.obj c [(n1,a),(n2,b)]),G')=>if c="NoProgram"/\n1="word"/\n2="name" then some (.im (.tup [a,b]),G') else none
 | _=>none
abbrev m9:FF:=aQ 5 1
 (ai (cM (aa 2) (ag (.int 0)) (ah cL (ah ak (aa 2) (ag (.int 0))) (ag (.int 1))))
 (ai (aG (ah ak (bd (af (aa 1) (af (aa 3) ae)) aN) (bd (af (ah bP (ah ak (aa 2) (ag (.int 0))) (cY fB (ag (.int 1)))) ae) dN)) (aB 5))
 (ai (cJ (gn ik (aa 4) (af (bd (af (aa 0) (af (aa 5) ae)) ay) ae)))
 (aC (aa 5)))))
abbrev g9:Nat->FF
 | 0=>λ_ _=>none
 | n+1=>aQ 4 2
   (ai (aE (ao (ah bP (ah ak (aa 0) (ag (.int 0))) (ag (.str "num"))))
   (aC (aa 0))
   aM)
   (ai (aE (ao (ah bP (ah ak (aa 0) (ag (.int 0))) (ag (.str "op"))))
   (ai (aG (bd (af (ah ak (aa 0) (ag (.int 2))) (af (aa 1) (af (aa 2) (af (aa 3) ae)))) (ax 4 (g9 n))) (aB 4))
   (aC (bd (af (ag (.str "op")) (af (ah ak (aa 0) (ag (.int 1))) (af (aa 4) (af (bd (af (ah ak (aa 0) (ag (.int 3))) (af (aa 1) (af (aa 2) (af (aa 3) ae)))) (ax 4 (g9 n))) ae)))) ay)))
   aM)
   (ai (aG (bd (af (ah ak (aa 0) (ag (.int 0))) (af (ah ak (aa 0) (ag (.int 1))) (af (aa 1) (af (aa 2) (af (aa 3) ae))))) (ax 5 m9)) (aB 5))
   (ai (aE (ao (ah bP (ah ak (aa 0) (ag (.int 0))) (ag (.str "cell"))))
   (aC (bd (af (ag (.str "cell")) (af (aa 5) ae)) ay))
   aM)
   (aC (bd (af (ag (.str "at")) (af (aa 5) (af (bd (af (ah ak (aa 0) (ag (.int 2))) (af (aa 1) (af (aa 2) (af (aa 3) ae)))) (ax 4 (g9 n))) ae))) ay))))))
mutual
noncomputable def fL:Nat->FF
 | 0=>λ_ _=>none
 | n+1=>aQ 4 4
   (ai (aG (ah ak (aa 0) (ag (.int 0))) (aB 4))
   (ai (aE (ao (ah bP (aa 4) (ag (.str "set"))))
   (ai (aG (bd (af (ag (.str "cell")) (af (ah ak (aa 0) (ag (.int 1))) (af (aa 1) (af (aa 2) (af (aa 3) ae))))) (ax 5 m9)) (aB 5))
   (aC (bd (af (ag (.str "set")) (af (aY (aa 5)) (af (bd (af (ah ak (aa 0) (ag (.int 2))) (af (aa 1) (af (aa 2) (af (aa 3) ae)))) (ax 4 (g9 20))) ae))) ay)))
   aM)
   (ai (aE (ao (ah bP (aa 4) (ag (.str "put"))))
   (ai (aG (bd (af (ag (.str "at")) (af (ah ak (aa 0) (ag (.int 1))) (af (aa 1) (af (aa 2) (af (aa 3) ae))))) (ax 5 m9)) (aB 5))
   (ai (aG (bd (af (ah ak (aa 0) (ag (.int 2))) (af (aa 1) (af (aa 2) (af (aa 3) ae)))) (ax 4 (g9 20))) (aB 6))
   (aC (bd (af (ag (.str "put")) (af (aY (aa 5)) (af (aa 6) (af (bd (af (ah ak (aa 0) (ag (.int 3))) (af (aa 1) (af (aa 2) (af (aa 3) ae)))) (ax 4 (g9 20))) ae)))) ay))))
   aM)
   (ai (aE (ao (ah bP (aa 4) (ag (.str "call"))))
   (aC (bd (af (ag (.str "call")) (af (bd (af (ag (.str "call")) (af (ah ak (aa 0) (ag (.int 1))) (af (aa 1) (af (aa 2) (af (aa 3) ae))))) (ax 5 m9)) ae)) ay))
   aM)
   (ai (aG (bd (af (aa 4) (af (bd (af (ah ak (aa 0) (ag (.int 1))) (af (aa 1) (af (aa 2) (af (aa 3) ae)))) (ax 4 (g9 20))) ae)) aN) (aB 5))
   (ai (bB (bF (one (a7 (aa 0) (aW (ag (.int 2))) aZ)) aR) (aB 7)
   (cJ (gn ik (aa 5) (af (bd (af (aa 7) (af (aa 1) (af (aa 2) (af (aa 3) ae)))) (ax 4 (fM n))) ae))))
   (aC (bd (af (aa 5) ae) cz))))))))
noncomputable def fM:Nat->FF
 | 0=>λ_ _=>none
 | n+1=>aQ 4 0
   (aC (bd (af (dI (bF (one (aa 0)) aR) [1,2,3] c1 a9 (bd (af (aa 0) (af (aa 1) (af (aa 2) (af (aa 3) ae)))) (ax 4 (fL n)))) ae) cz))
end
abbrev kF:FF:=aQ 3 7
 (ai (aG (aa 0) (gP [3,4,5,6]))
 (ai (aG (bd (af (aa 1) ae) aN) (aB 7))
 (ai (aG (bd ae aN) (aB 8))
 (ai (aG (bd (af (dI (bF (one (aa 5)) aR) [7,2,8] (cN 2) a9 (bd (af (aa 0) (af (bd (af (aa 1) (af (aY (aa 2)) (af (aa 3) (af (aY (aa 4)) ae)))) (ax 4 (fM 12))) ae)) ay)) ae) cz) (aB 9))
 (aC (bd (af (bd (af (aa 3) (af (aa 4) (af (aa 9) (af (bd (af (aa 6) (af (aY (aa 7)) (af (aa 2) (af (aY (aa 8)) ae)))) (ax 4 (fM 12))) ae)))) ay) (af (aY (aa 8)) ae)) ay))))))
abbrev y1e:SF :=
 (aE (ao (ah dw (aa 6) (dI (bF (one (ah ak (aa 0) (ah ak (aa 4) (aa 5)))) aR) [] c1 a9 (ah ak (aa 0) (ag (.int 0))))))
 (aC (bd (af (ag (.str "unknown")) (af (aa 6) ae)) ay))
 aM)
abbrev y1f:SF :=
 (aE (ao (ah fR (ah ak (aa 2) (aa 3)) (a7 (aa 2) aZ (aW (aa 3)))))
 (aC (bd (af (ag (.str "twice")) (af (ah ak (aa 2) (aa 3)) ae)) ay))
 aM)
abbrev Fx:SF :=
 (ai (aG (dI (bF (one (ah ak (aa 0) (aa 1))) aR) [] c1 a9 (ah ak (aa 0) (ag (.int 0)))) (aB 2))
 (bB (bF (af (bd (af (aa 2) ae) aO) ae) cZ) (aB 3)
 y1f))
abbrev zw:FF:=aQ 1 6
 (ai (bB (bF (af (ag (.int 3)) ae) cZ) (aB 1)
 Fx)
 (ai (aG (m7 (cE (ag (.str "cell")) (ag (.int 0)) (cE (ag (.str "at")) (ag (.int 1)) (cE (ag (.str "call")) (ag (.int 2)) gu)))) (aB 4))
 (ai (bB (bF (one (ah ak (bd (af (aa 0) (af (cY fB (ag (.int 1))) (af (ag (.str "")) ae))) (ax 3 kF)) (ag (.int 1)))) aR) (gP [5,6])
 y1e)
 (aC (ag .non)))))
abbrev zx:FF:=aQ 3 6
 (ai (aG (ah ak (aa 2) (bd (af (aa 0) (af (bd (af (aa 2) ae) aO) ae)) (ax 2 aS))) (aB 3))
 (ai (aG (ah ak (bd (af (aa 1) (af (cY fB (ag (.int 1))) (af (aa 3) ae))) (ax 3 kF)) (ag (.int 1))) (aB 4))
 (ai (aG (bd (af (aa 0) (af (ag (.int 6)) ae)) (ax 2 aS)) (aB 5))
 (ai (aE (eF (ao (ah eG (aa 5) (ag (.int 3)))) (ao (ah gT (bd (af (ah ak (aa 1) (aa 5)) ae) aO) (ag (.int 0)))))
 (ai (aG (bd (af (aa 0) (af (bd (af (ah ak (aa 1) (aa 5)) ae) aO) ae)) (ax 2 aS)) (aB 6))
 (ai (aG (ah bu (ah bu (a7 (ah ak (aa 1) (aa 5)) aZ (aW (aa 6))) (bd (af (bd (af (aa 3) (af (ah ak (ah ak (ah ak (aa 1) (aa 5)) (aa 6)) (ag (.int 1))) ae)) ay) ae) ay)) (a7 (ah ak (aa 1) (aa 5)) (aW (ah bu (aa 6) (ag (.int 1)))) aZ)) (aB 7))
 (aC (ah bu (ah bu (a7 (aa 1) aZ (aW (aa 5))) (bd (af (aa 7) ae) ay)) (a7 (aa 1) (aW (ah bu (aa 5) (ag (.int 1)))) aZ)))))
 aM)
 (ai (aE (ao (ah bP (bd (af (aa 4) ae) aO) (ag (.int 0))))
 (aC (aa 1))
 aM)
 (ai (aG (bd (af (bd (af (aa 0) (af (bd (af (aa 4) ae) aO) ae)) (ax 2 aS)) (af (bd (af (aa 0) (af (bd (af (aa 4) ae) aO) ae)) (ax 2 aS)) ae)) gW) (aB 8))
 (aC (ah ak (bd (af (aa 1) (af (aa 8) (af (aa 3) ae))) (ax 3 kF)) (ag (.int 0))))))))))
abbrev Fy:SF :=
 (aG (bd (af (aY (aa 1)) (af (aa 5) (af (aY (aa 3)) ae))) (ax 3 zx)) (aB 5))
abbrev Fz:SF :=
 (ai (aG (aa 2) (aB 5))
 (ai (bB (bF (af (ah bu (ag (.int 1)) (bd (af (aY (aa 1)) (af (ag (.int 3)) ae)) (ax 2 aS))) ae) cZ) (aB 6)
 Fy)
 (ai (aG (bd (af (aa 5) ae) (ax 1 zw)) (aB 7))
 (aE (kz (ao (ah lX (bd (af (aa 5) ae) (ax 1 ja)) (aa 7))) (kz (ao (ah lX (bd (af (aa 5) ae) (ax 1 ja)) (aa 7))) (ao (cY (kA false) (bd (af (aa 2) ae) (ax 1 ja))))))
 (aC (ag (.bl false)))
 aM))))
abbrev FC:FF:=aQ 1 7
 (ai (aG (aY (bd (af (aa 0) (af (ag (.int 0)) ae)) (ax 2 yZ))) (aB 1))
 (ai (aG (bd (af (aY (aa 1)) ae) (ax 1 zi)) (aB 2))
 (ai (aG (ah bu (dI (bF (one (ah bu (ah bu (ah ak (aa 2) (ag (.int 0))) (ah ak (aa 2) (ag (.int 1)))) (ah ak (aa 2) (ag (.int 2))))) aR) [] c1 a9 (ah ak (aa 0) (ag (.int 0)))) (bd (af (ag (.str "zzzzzz")) (af (ag (.str "yy")) ae)) aN)) (aB 3))
 (ai (aE (ao (cY (kA false) (bd (af (aa 2) ae) (ax 1 ja))))
 (aC (ag (.bl false)))
 aM)
 (ai (bB (bF (af (ag (.int 3)) ae) cZ) (aB 4)
 Fz)
 (aC (ag (.bl true))))))))
end
end Q
namespace Q
open PySem PySem.Spec PyProof.Rows L2 B
structure Kt(K:W.Frag)(mg:Str->Option Value)(C0 C1 C2 C3 C4:Addr):Prop where
 i:p9 K C0
 g:mg "CourtError" = some (.ref C0)
 g1:mg "NoText" = some (.ref C1)
 g2:mg "NoProgram" = some (.ref C2)
 g3:mg "TooLong" = some (.ref C3)
 g4:mg "NoRecord" = some (.ref C4)
 gi:mg "isinstance" = none
 gv:mg "ValueError" = none
 sb:pj K C2 C0 true
 xa:XA K C2
 xi:XI K C2
 k2:W.kitOne K (.ref C2) (.ref C2)=some true
 kv:W.kitOne K (.ref C2) (.type "ValueError")=some true
 ka:W.kitAny K (.ref C2) [.ref C1,.ref C3,.ref C4]=some false
 n1:ib K C2 "word"
 n2:ib K C2 "name"
def wj{K:W.Frag}{κ:Str->Addr}{ι ι' fp:List Addr}{H H':Hp}{G':List M}{v:V}{d:I}(s:SR K κ ι' H' [] [] G')(t:Step ι fp H ι' ι' H')(r:RpI K ι' H' v d):SR K κ ι' H' [some v] [some (.im d)] G'/\Step ι fp H ι' (own [some v] [some (.im d)]++ι') H':=by
 have e:own [some v] [some (Vl.im d)]=[]:=by show bA _ _++[]=[];rw [fZ];rfl
 exact⟨s.push_im r,by rw [e];exact t⟩
def pA{H H':Hp}{p:Addr}{o:HO}(s:dU H H')(hp:H' p=none):dU H (upd H' p o)/\H p=none:=by
 have e:=s.free hp
 exact⟨λb q z=>by rw [aK (λy=>by rw [y,e] at z;cases z)];exact s b q z,e⟩
section
variable {P:Program}{w:World}{K:W.Frag}{mg:Str->Option Value}{base:Heap}{κ:Str->Addr}{f C0 C1 C3 C4:Addr}{fd:FuncData}
def FD:y47 ["_law_program_here","_law_told_here","_law_others","e"] ["_law_program_here"] (bK (top 36)):=bx
noncomputable abbrev tI(K:W.Frag)(t:TE):TE:=AM (wa K) (dS (gF 3) (dS t iB))
def FE(F:Fun K "_law_told" "_law_told" (top 36) f fd)(hL:kC P w K mg base "look" 6 ["program"] (eW K κ 1 zv))(C:Kt K mg C0 C1 (κ "NoProgram") C3 C4) :
  y46 P w K mg base bV 7 f fd ["_law_program_here"] (aT K κ 1 ja):=by
 refine F.ok (k:=6) FD (λvs H Q E zz=>by obtain⟨ι,xs,G,x,G',hl,sr,_⟩:=zz;have:=sr.len;rw [z12,z12] at this;rw [this,hl];rfl) λcdv A outer s H vs Q E hr zz=>?_
 obtain⟨ι,xs,G,x,G',hl,sr,eq,k⟩:=zz
 have lv:vs.length=1:=by have:=sr.len;rw [z12,z12] at this;lia
 match vs,lv with
 | [v],_ =>
 obtain⟨fl,fdl,gl,kl,bl,ol⟩:=hL
 have nd:(["_law_program_here","_law_told_here","_law_others","e"]:List Str).Nodup:=by decide +kernel
 refine⟨_,fS (fW qo (fU (i:=1) nd rfl (.inl rfl))) (fS (E4 rfl rfl
   (λE pn xe hp=>fT (kM (kP BY (nM ol hr (by rfl) gl kl bl .nil hp (ck (pv 0) eL)) qm rfl) (fT (fW (jk (ck je (ck je eL))) (fU (i:=1) nd rfl (.inl rfl)))) nz))
   (vO (i:=3) (ts:=ji (fV (kR (dS (tC (.str "other")) (dS (tC (.str "")) iB))) (ff 1)) (ji (fV (qv (tI K (kR (dS (tC (.ref C1)) (dS (tC (.ref C3)) (dS (tC (.ref C4)) iB))))) (qw (tI K (tC (.ty "ValueError"))))) (ff 2))
     (kL (nt (tB (tI K (tC (.ref (κ "NoProgram"))))) (qt (tB (gF 2)))) (fV (kR (dS (EN K (gF 3) "word") (dS (EN K (gF 3) "name") iB))) (ff 1)) ny)))
    (by rfl) C.g C.i nd rfl rfl (λx=>fS (fW (jk (ck je (ck je eL))) (fU nd rfl (.inl rfl)))
     (fS (fW (jh (jm Fo (by rfl) C.gi rfl (ck (pv 3) (ck (jk (ck (kJ (by rfl) C.g1 rfl) (ck (kJ (by rfl) C.g3 rfl) (ck (kJ (by rfl) C.g4 rfl) eL)))) eL)))
       (Ae (Af (jm Fo (by rfl) C.gi rfl (ck (pv 3) (ck (zY (by rfl) C.gv rfl rfl) eL)))))) (fU nd rfl (.inl rfl)))
      (fT (kM (PW.pt (jg (qr (jm Fo (by rfl) C.gi rfl (ck (pv 3) (ck (kJ (by rfl) C.g2 rfl) eL)))) (ia (Ad (qr (pv 2))))))
       (fT (fW (jk (ck (vK (pv 3) (by rfl)) (ck (vK (pv 3) (by rfl)) eL))) (fU nd rfl (.inl rfl)))) nz))))
   Fp)) (fT (qy (pv 1)))),?_⟩
 refine⟨v,rfl,?_⟩
 unfold ja at eq
 split at eq
 ·rename_i G1 e1
  cases eq
  refine⟨ι,xs,G,_,_,hl,sr,e1,?_⟩
  intro v' ι' H' s' st
  have hv:v'=.bl true:=by
   cases s'.sl with
   | cons h _=>cases h with
    | im h=>exact lA h
  subst hv
  refine⟨true,true,rfl,rfl,false,rfl,sD ⟨.non,rfl,?_⟩⟩
  obtain⟨z1,z2⟩:=s'.bare (λ_ _ e=>e)
  obtain⟨y1,y2⟩:=wj z1 (st.trans z2) .non
  exact k _ _ _ y1 y2
 ·rename_i c n1 a n2 b G1 e1
  split at eq
  ·rename_i hc
   obtain⟨rfl,rfl,rfl⟩:=hc
   cases eq
   refine⟨ι,xs,G,_,_,hl,sr,e1,?_⟩
   intro x0 dx fvs ι' H' hX hD hn hr' s' st
   intro x' C' dct' eC ex' e'
   obtain rfl:C'=κ "NoProgram":=(Value.ref.inj eC).symm
   obtain rfl:x'=x0:=(z1f ex').symm
   match fvs,hn,hr' with
   | [(m1,va),(m2,vb)],hn,.cons ra (.cons rb .nil) =>
   simp only [z16,List.map_nil,List.cons.injEq,and_true] at hn
   obtain⟨rfl,rfl⟩:=hn
   refine⟨true,C.sb,nT ⟨(show (2:Nat)≤sizeLine by decide),λp hp=>?_⟩⟩
   have s1:=pA (o:=.tup [.str "other",.str ""]) (λ_ _ e=>e) hp
   refine⟨.ref x',rfl,(show (3:Nat)≤sizeLine by decide),λp2 hp2=>?_⟩
   have s2:=pA (o:=.tup [.ref C1,.ref C3,.ref C4]) s1.1 hp2
   generalize hH2:upd (upd H' p (.tup [.str "other",.str ""])) p2 (.tup [.ref C1,.ref C3,.ref C4])=H2 at s2 ⊢
   have hp2':H2 p2=some (.tup [.ref C1,.ref C3,.ref C4]):=by rw [<- hH2];exact a8
   have X2:=s2.1 _ _ hX
   have D2:=s2.1 _ _ hD
   refine⟨x',κ "NoProgram",dx,_,false,.ref p2,false,rfl,X2,D2,C.xa,C.xi,⟨false,rfl,sD ⟨.ref x',rfl,x',κ "NoProgram",dx,_,false,.ty "ValueError",true,rfl,X2,D2,C.xa,C.xi,⟨true,rfl,?_⟩,.inl ⟨_,rfl,C.kv⟩⟩⟩,.inr ⟨p2,_,_,rfl,hp2',rfl,C.ka⟩⟩
   refine⟨.ref x',rfl,x',κ "NoProgram",dx,_,false,.ref (κ "NoProgram"),true,rfl,X2,D2,C.xa,C.xi,⟨true,rfl,nT ⟨_,rfl,false,rfl,nT ⟨.ref x',rfl,x',κ "NoProgram",dx,_,va,false,rfl,X2,D2,C.xa,C.n1,rfl,.ref x',rfl,x',κ "NoProgram",dx,_,vb,false,rfl,X2,D2,C.xa,C.n2,rfl,(show (2:Nat)≤sizeLine by decide),λp3 hp3=>⟨.ref p3,rfl,?_⟩⟩⟩⟩,.inl ⟨_,rfl,C.k2⟩⟩
   have s3:=pA (o:=.tup [va,vb]) s2.1 hp3
   obtain⟨z1,z2⟩:=s'.bare s3.1
   obtain⟨y1,y2⟩:=wj (v:=.ref p3) (d:=.tup [a,b]) z1 (st.trans z2) (.tup a8 (.cons (ra.mono (cb.refl _) (Kp.same s3.1)) (.cons (rb.mono (cb.refl _) (Kp.same s3.1)) .nil)))
   exact k _ _ _ y1 y2
  ·cases eq
 ·cases eq
end
end Q
set_option maxHeartbeats 400000
namespace Q
open PySem L2 B
def aJ  (hl:xs.length=n)(h:body (xs.map some++List.replicate r none) G=some (.rt x G')):aQ n r body xs G=some (x,G'):=by
 unfold aQ;rw [if_pos hl,h]
def wm  (hl:xs.length=n)(h:body (xs.map some++List.replicate r none) G=some (.nx Z G')):aQ n r body xs G=some (.im .non,G'):=by
 unfold aQ;rw [if_pos hl,h]
def aj  (h:a Z G=some (.nx Z1 G1))(k:b Z1 G1=r):ai a b Z G=r:=by
 unfold ai;rw [h];exact k
def b6  (h:a Z G=some (.rt x G1)):ai a b Z G=some (.rt x G1):=by
 unfold ai;rw [h]
def bS  (h:c Z G=some (true,Z1,G1))(k:a Z1 G1=r):aE c a b Z G=r:=by
 unfold aE;rw [h];exact k
def aL  (h:c Z G=some (false,Z1,G1))(k:b Z1 G1=r):aE c a b Z G=r:=by
 unfold aE;rw [h];exact k
def bC  (h:f Z G=some (.v x,Z1,G1))(k:g x Z1 G1=some (Z2,G2)):aG f g Z G=some (.nx Z2 G2):=by
 unfold aG iE bd;rw [h];show (match mS (.v x) Z1 G1 with|_=>_)=_
 unfold mS rt;dsimp only;rw [k]
def cF  (h:f Z G=some (.v x,Z1,G1)):aC f Z G=some (.rt x G1):=by
 unfold aC iE bd;rw [h];rfl
def wo  (h:f Z G=some (e,Z1,G1)):cJ f Z G=some (.nx Z1 G1):=by
 unfold cJ;rw [h]
def av{α β:Type}{m:Mo α}{f:α->Mo β}{Z Z1:De}{G G1:List M}{a:α}{r:Option (β×De×List M)}(h:m Z G=some (a,Z1,G1))(k:f a Z1 G1=r):bd m f Z G=r:=by
 unfold bd;rw [h];exact k
def wq  (h:c Z G=some (false,Z1,G1))(k:d Z1 G1=r):kz c d Z G=r:=by
 unfold kz bd;rw [h];exact k
def y6c (h:c Z G=some (false,Z1,G1)):eF c d Z G=some (false,Z1,G1):=by
 unfold eF bd;rw [h];rfl
def FG  (h:c Z G=some (true,Z1,G1))(k:d Z1 G1=r):eF c d Z G=r:=by
 unfold eF bd;rw [h];exact k
def dA  (h:f Z G=some (.v (.im (.bl b)),Z1,G1)):ao f Z G=some (b,Z1,G1):=by
 unfold ao bd;rw [h];rfl
def aF   (h:f Z G=some (x,Z1,G1))(h2:g Z1 G1=some (y,Z2,G2))(k:p [x,y] Z2 G2=r):ah p f g Z G=r:=by
 unfold ah bd;rw [h];dsimp only;rw [h2];exact k
def pB   (h:f Z G=some (x,Z1,G1))(k:p [x] Z1 G1=r):cY p f Z G=r:=by
 unfold cY bd;rw [h];exact k
def cB   (h:mW es=some xs)(hl:xs.length=n)(k:fn xs G=some (x,G')):ax n fn es Z G=some (.v x,Z,G'):=by
 unfold ax;rw [h];dsimp only;rw [if_pos hl,k]
def y8d    (h:fo Z G=some (e,Z1,G1))(hl:gm Z1 G1 e=true)(ha:fa Z1 G1=some (es,Z2,G2))(k:p (e::es) Z2 G2=r):gn p fo fa Z G=r:=by
 unfold gn bd;rw [h];dsimp only;rw [if_pos hl,ha];exact k
def kG     (hb:iG ix Z G=some ((),Z0,G0))(hi:fi Z0 G0=some (w,es,Z1,G1))(hn:w.n≤100000)(hc:dH w c tt te (jA ix Z1) 0 w.n [] Z1 G1=some (ds,G2)):dI fi ix c tt te Z G=some (.v (.ow (.lst ds)),Z1,G2):=by
 unfold dI;rw [hb];dsimp only;rw [hi];dsimp only;rw [if_pos hn,hc]
def b7    (hi:f Z G=some (w,es,Z1,G1))(h:aV w g b 0 w.n Z1 G1=r):bB f g b Z G=r:=by
 unfold bB;rw [hi];exact h
def pC   (h:fa Z G=some (es,Z1,G1))(k:p es Z1 G1=some w):bF fa p Z G=some (w,es,Z1,G1):=by
 unfold bF;rw [h];dsimp only;rw [k];rfl
abbrev jb(n:Nat):Wk:=⟨n,λi _ _=>some (.int i),λ_ _=>true⟩
def j5(n:Nat):(jb n).n=n:=rfl
def FH{n:Nat}{j:Int}{Z:De}{G:List M}(h:j=n)(hn:n≤1000000):cZ [.v (.im (.int j))] Z G=some (jb n):=by
 subst h
 unfold cZ
 dsimp only
 rw [if_pos (by lia)]
 rfl
def hG{n:Nat}{fa:Mo (List Ev)}{j:Int}{Z Z1:De}{G G1:List M}(h:fa Z G=some ([.v (.im (.int j))],Z1,G1))(e:j=n)(hn:n≤1000000):bF fa cZ Z G=some (jb n,[.v (.im (.int j))],Z1,G1):=pC h (FH e hn)
end Q
namespace Q
open PySem L2 B
local macro_rules | `(tactic| simp! [$xs,*])=>do
 let a:=("aQ ai aE kz eF Cd ao ah cY bd aa ag rt af ae CB aO sq pk ig Cc eG leP gT oP bJ aC Ck iE aY oj mS aM cJ aG aB ak bW dX p7 eM cL bu oM c7 oN iK dJ gS Dc Df fB ax mW tW tX ay aN mU om gn gm ik fG CC cM l6 dv jJ jI cc ifE kA lP gh bP lX m5 gU i9 cS bZ jH jL Ec one".splitOn " ").toArray.map fun s=>Lean.mkIdent s.toName
 `(tactic|simp [$[$a:ident],*,$xs,*])
local macro_rules | `(↑$x)=>`(some (.im $x))
local macro_rules | `(⇑$x)=>`(.v (.im $x))
local macro_rules | `(↥$x)=>`(some (.ow (.lst $x)))
section
def wt:¬ (("seed" : Str)="number"):=by decide +kernel
def FI:¬ (("seed" : Str)="left"):=by decide +kernel
def wu:¬ (("number" : Str)="left"):=by decide +kernel
def wx:¬ (("number" : Str)="seed"):=by decide +kernel
def FJ:¬ (("left" : Str)="seed"):=by decide +kernel
def FK:¬ (("left" : Str)="number"):=by decide +kernel
def FL:((Sum.inr ("seed" : Str):aI)=Sum.inr ("number" : Str))=False:=by simp;decide +kernel
def FN:((Sum.inr ("seed" : Str):aI)=Sum.inr ("left" : Str))=False:=by simp;decide +kernel
def FO:((Sum.inr ("number" : Str):aI)=Sum.inr ("left" : Str))=False:=by simp;decide +kernel
abbrev dZ(a n:Int)(l:Nat):List (aI×I):=[(.inr "seed",.int a),(.inr "number",.int n),(.inr "left",.ref l)]
def ye7(a n:Int)(l:Nat):cc (dZ a n l) (Sum.inr ("seed" : Str))=some (.int a):=by simp [dZ,cc]
def wy(a n:Int)(l:Nat):cc (dZ a n l) (Sum.inr ("number" : Str))=some (.int n):=by simp only [dZ,cc,FL,if_false,if_true]
def zy(a n:Int)(l:Nat):cc (dZ a n l) (Sum.inr ("left" : Str))=some (.ref l):=by simp only [dZ,cc,FN,FO,if_false,if_true]
def wz(a n m:Int)(l:Nat):cT (dZ a n l) (Sum.inr ("number" : Str)) (.int m)=dZ a m l:=by simp [cT,gj,dZ,wt,FK,wu,wx]
def wA(a n m:Int)(l:Nat):cT (dZ a n l) (Sum.inr ("seed" : Str)) (.int m)=dZ m n l:=by simp [cT,gj,dZ,wx,FJ]
def FP(a n:Int)(l:Nat):(dZ a n l).length<1000000:=by show 3<1000000;decide
structure DC(G:List M)(d l:Nat)(a n:Int)(ms:List Int):Prop where
 dc:G[d]?=some (.dic (dZ a n l))
 lc:G[l]?=some (.lst (ms.map I.int))
 ne:d≠l
 a0:0≤a
 a1:a<2147483647
 n0:0≤n
 m0:∀m∈ms,0≤m
abbrev DG(G:List M)(d l:Nat):Prop:=∃a n ms,DC G d l a n ms
structure Oth(d l:Nat)(G G':List M):Prop where
 len:G'.length=G.length
 at_:∀k,k≠d->k≠l->G'[k]?=G[k]?
def Oth.refl(d l:Nat)(G:List M):Oth d l G G:=⟨rfl,λ_ _ _=>rfl⟩
theorem Oth.trans{d l:Nat}{G G1 G2:List M}(x:Oth d l G G1)(y:Oth d l G1 G2):Oth d l G G2:=⟨y.len.trans x.len,λk h1 h2=>(y.at_ k h1 h2).trans (x.at_ k h1 h2)⟩
def Oth.setD{d l:Nat}{G:List M}{m:M}:Oth d l G (G.set d m):=⟨z2b,λk h1 _=>z26 (Ne.symm h1)⟩
def Oth.setL{d l:Nat}{G:List M}{m:M}:Oth d l G (G.set l m):=⟨z2b,λk _ h1=>z26 (Ne.symm h1)⟩
def j6{G:List M}{k:Nat}{m m':M}(h:G[k]?=some m'):(G.set k m)[k]?=some m:=List.getElem?_set_self (z14.mp h).1
abbrev kH(d:Nat)(many:Int):De:=[↑(.ref d),↑(.int many),none,none,none]
def FQ{G:List M}{d l:Nat}{a n:Int}{ms:List Int}{many:Int}(D:DC G d l a n ms):pz (kH d many) G=some (decide (n=0)&&decide (0<ms.length),kH d many,G):=by
 by_cases h:n=0
 ·by_cases h2:0<ms.length
  ·simp! [pz,kH,D.dc,D.lc,wy,zy,h,h2]
  ·simp! [pz,kH,D.dc,D.lc,wy,zy,h,h2]
 ·simp! [pz,kH,D.dc,D.lc,wy,zy,h]
def yfe{G:List M}{d l:Nat}{a n:Int}{ms:List Int}{many y:Int}(D:DC G d l a n ms)(hy:ms[ms.length-1]?=some y):∃G',wb (kH d many) G=some (.nx (kH d many) G')/\DC G' d l a y ms.dropLast/\Oth d l G G':=by
 have h1:(G.set l (.lst (ms.map I.int).dropLast))[d]?=some (.dic (dZ a n l)):=by rw [z26 D.ne.symm];exact D.dc
 refine⟨(G.set l (.lst (ms.map I.int).dropLast)).set d (.dic (dZ a y l)),?_,⟨j6 h1,?_,D.ne,D.a0,D.a1,D.m0 y (z32 hy),λm hm=>D.m0 m (List.dropLast_subset _ hm)⟩,Oth.setL.trans Oth.setD⟩
 ·simp! [wb,kH,D.dc,D.lc,zy,hy,h1,FP,wz]
 ·rw [z26 D.ne,j6 D.lc,List.map_dropLast]
def FR{d l:Nat}{a:Int}{many:Int}:∀(k:Nat) {G:List M} {n:Int} {ms:List Int},ms.length=k->DC G d l a n ms->∃G' n' ms',fQ pz wb (kH d many) G=some (.nx (kH d many) G')/\DC G' d l a n' ms'/\Oth d l G G':=by
 intro k
 induction k with
 | zero =>
  intro G n ms hk D
  refine⟨G,n,ms,lM ?_,D,Oth.refl _ _ _⟩
  rw [FQ D]
  simp [hk]
 | succ k ih =>
  intro G n ms hk D
  by_cases h:n=0
  ·obtain⟨y,hy⟩:∃y,ms[ms.length-1]?=some y:=⟨_,z1d (by lia)⟩
   obtain⟨G1,e1,D1,o1⟩:=yfe (many:=many) D hy
   obtain⟨G2,n2,ms2,e2,D2,o2⟩:=ih (by rw [List.length_dropLast];lia) D1
   refine⟨G2,n2,ms2,?_,D2,o1.trans o2⟩
   rw [oE (by rw [FQ D];simp [h,hk]) e1]
   exact e2
  ·refine⟨G,n,ms,lM ?_,D,Oth.refl _ _ _⟩
   rw [FQ D]
   simp [h]
def bT{G:List M}{d l:Nat}{many:Int}(D:DG G d l)(h0:0<many)(h1:many<2 ^ 100):∃r G',aS [.im (.ref d),.im (.int many)] G=some (.im (.int r),G')/\0≤r/\r<many/\DG G' d l/\Oth d l G G':=by
 obtain⟨a,n,ms,D⟩:=D
 obtain⟨G1,n1,ms1,e1,D1,o1⟩:=FR (many:=many) _ rfl D
 have e1':fQ pz wb [↑(.ref d),↑(.int many),none,none,none] G=some (.nx [↑(.ref d),↑(.int many),none,none,none] G1):=e1
 by_cases hn:0<n1
 ·refine⟨n1 % many,G1.set d (.dic (dZ a (n1 / many) l)),?_,Int.emod_nonneg _ (by lia),Int.emod_lt_of_pos _ h0,⟨a,n1 / many,ms1,j6 D1.dc,by rw [z26 D1.ne];exact D1.lc,D1.ne,D1.a0,D1.a1,Int.ediv_nonneg D1.n0 (by lia),D1.m0⟩,o1.trans Oth.setD⟩
  have h2:many<2 ^ 200:=Int.lt_trans h1 (by decide)
  have h3:(many<1606938044258990275541962092341162602522202993782792835301376):=h2
  simp! [aS,e1',D1.dc,wy,hn,h0,h3,FP,wz]
 ·have q1:0≤(a*48271+7919) % 2147483647:=Int.emod_nonneg _ (by decide)
  have q2:(a*48271+7919) % 2147483647<2147483647:=Int.emod_lt_of_pos _ (by decide)
  have q3:0≤((a*48271+7919) % 2147483647*40692+104729) % 2147483399:=Int.emod_nonneg _ (by decide)
  have q4:((a*48271+7919) % 2147483647*40692+104729) % 2147483399<2147483399:=Int.emod_lt_of_pos _ (by decide)
  obtain⟨o,ho⟩:∃o,(a*48271+7919) % 2147483647=o:=⟨_,rfl⟩
  rw [ho] at q1 q2 q3 q4
  obtain⟨b,hb⟩:∃b,(o*40692+104729) % 2147483399=b:=⟨_,rfl⟩
  rw [hb] at q3 q4
  have D2:(G1.set d (.dic (dZ b n1 l)))[d]?=some (.dic (dZ b n1 l)):=j6 D1.dc
  have c1:-18446744073709551616<b/\b<18446744073709551616:=⟨by lia,by lia⟩
  have c2:-18446744073709551616<o/\o<18446744073709551616:=⟨by lia,by lia⟩
  refine⟨(o*o % 2147483629*2147483563+b*b % 2147483563) % many,G1.set d (.dic (dZ b n1 l)),?_,Int.emod_nonneg _ (by lia),Int.emod_lt_of_pos _ h0,⟨b,n1,ms1,D2,by rw [z26 D1.ne];exact D1.lc,D1.ne,q3,by lia,D1.n0,D1.m0⟩,o1.trans Oth.setD⟩
  simp! [aS,e1',D1.dc,D2,wy,ye7,hn,h0,FP,wA,ho,hb,c1,c2]
theorem qb{w:Wk}{c:I->Option (List I)}{tt:Mo Bool}{te:Mo Ev}{di Z:De}(P:Nat->List I->List M->Prop)
  (step:∀i acc G,i<w.n->P i acc G->∃d ds Za Ga y Zb Gb,w.at_ i Z G=some d/\c d=some ds/\tt ((ds.map λd=>some (Vl.im d))++di) G=some (true,Za,Ga)/\te Za Ga=some (⇑y,Zb,Gb)/\P (i+1) (acc++[y]) Gb)
  (fin:∀acc G,P w.n acc G->w.fin Z G=true):∀(r i:Nat) (acc:List I) (G:List M),i+r=w.n->P i acc G->∃ds G',dH w c tt te di i r acc Z G=some (ds,G')/\P w.n ds G'
 | 0,i,acc,G,h,p=>by
  have:i=w.n:=by lia
  subst this
  exact⟨acc,G,by unfold dH;rw [fin acc G p];rfl,p⟩
 | r+1,i,acc,G,h,p=>by
  obtain⟨d,ds,Za,Ga,y,Zb,Gb,h1,h2,h3,h4,p'⟩:=step i acc G (by lia) p
  obtain⟨ds',G',e,q⟩:=qb P step fin r (i+1) (acc++[y]) Gb (by lia) p'
  refine⟨ds',G',?_,q⟩
  unfold dH
  rw [h1];dsimp only;rw [h2];dsimp only;rw [h3];dsimp only;rw [h4]
  exact e
theorem hI{w:Wk}{g:GF}{b:SF}(P:Nat->De->List M->Prop)
  (step:∀i Z G,i<w.n->P i Z G->∃d Z1 G1 Z2 G2,w.at_ i Z G=some d/\g (.im d) Z G=some (Z1,G1)/\b Z1 G1=some (.nx Z2 G2)/\P (i+1) Z2 G2)
  (fin:∀Z G,P w.n Z G->w.fin Z G=true):∀(r i:Nat) (Z:De) (G:List M),i+r=w.n->P i Z G->∃Z' G',aV w g b i r Z G=some (.nx Z' G')/\P w.n Z' G'
 | 0,i,Z,G,h,p=>by
  have:i=w.n:=by lia
  subst this
  exact⟨Z,G,by unfold aV;rw [fin Z G p];rfl,p⟩
 | r+1,i,Z,G,h,p=>by
  obtain⟨d,Z1,G1,Z2,G2,h1,h2,h3,p'⟩:=step i Z G (by lia) p
  obtain⟨Z',G',e,q⟩:=hI P step fin r (i+1) Z2 G2 (by lia) p'
  refine⟨Z',G',?_,q⟩
  unfold aV
  rw [h1];dsimp only;rw [h2];dsimp only;rw [h3]
  exact e
structure Mor(g s:Nat)(G G':List M):Prop where
 len:G.length≤G'.length
 at_:∀k,k<G.length->k≠g->k≠s->G'[k]?=G[k]?
def Mor.refl(g s:Nat)(G:List M):Mor g s G G:=⟨ze _,λ_ _ _ _=>rfl⟩
theorem Mor.trans{g s:Nat}{G G1 G2:List M}(x:Mor g s G G1)(y:Mor g s G1 G2):Mor g s G G2:=⟨z1b x.len y.len,λk h h1 h2=>(y.at_ k (z1c h x.len) h1 h2).trans (x.at_ k h h1 h2)⟩
def Oth.mor{g s:Nat}{G G':List M}(o:Oth g s G G'):Mor g s G G':=⟨by rw [o.len];exact ze _,λk _ h1 h2=>o.at_ k h1 h2⟩
def Mor.app{g s:Nat}{G:List M}(T:List M):Mor g s G (G++T):=⟨by rw [za];lia,λk h _ _=>z1a h⟩
def qe{xs:List I}{m:Nat}:dy xs none (some (m:Int))=xs.take m:=by
 unfold dy
 rw [HT.y369,HT.y368,List.drop_zero,Nat.sub_zero]
 by_cases h:m≤xs.length
 ·rw [Nat.min_eq_left h]
 ·rw [Nat.min_eq_right (by lia),z2e (ze _),z2e (by lia)]
def zA{xs:List I}{m:Nat}(h:m≤xs.length):dy xs (some (m:Int)) none=xs.drop m:=by
 unfold dy
 rw [HT.y369,HT.y368,Nat.min_eq_left h]
 rw [z2e (by rw [z2f];lia)]
def DG.lt{d l:Nat}{G:List M}(D:DG G d l):d<G.length/\l<G.length:=by
 obtain⟨a,n,ms,D⟩:=D
 exact⟨(z14.mp D.dc).1,(z14.mp D.lc).1⟩
def DG.app{d l:Nat}{G:List M}(D:DG G d l)(T:List M):DG (G++T) d l:=by
 obtain⟨l1,l2⟩:=D.lt
 obtain⟨a,n,ms,D⟩:=D
 exact⟨a,n,ms,by rw [z1a l1];exact D.dc,by rw [z1a l2];exact D.lc,D.ne,D.a0,D.a1,D.n0,D.m0⟩
theorem FT{w:Wk}{c:I->Option (List I)}{tt:Mo Bool}{te:Mo Ev}{di Z:De}(P:Nat->List I->List M->Prop)
  (step:∀i acc G,i<w.n->P i acc G->∃d ds Za Ga,w.at_ i Z G=some d/\c d=some ds/\((tt ((ds.map λd=>some (Vl.im d))++di) G=some (false,Za,Ga)/\P (i+1) acc Ga)∨∃y Zb Gb,tt ((ds.map λd=>some (Vl.im d))++di) G=some (true,Za,Ga)/\te Za Ga=some (⇑y,Zb,Gb)/\P (i+1) (acc++[y]) Gb))
  (fin:∀acc G,P w.n acc G->w.fin Z G=true):∀(r i:Nat) (acc:List I) (G:List M),i+r=w.n->P i acc G->∃ds G',dH w c tt te di i r acc Z G=some (ds,G')/\P w.n ds G'
 | 0,i,acc,G,h,p=>by
  have:i=w.n:=by lia
  subst this
  exact⟨acc,G,by unfold dH;rw [fin acc G p];rfl,p⟩
 | r+1,i,acc,G,h,p=>by
  obtain⟨d,ds,Za,Ga,h1,h2,z⟩:=step i acc G (by lia) p
  rcases z with⟨h3,p'⟩| ⟨y,Zb,Gb,h3,h4,p'⟩
  ·obtain⟨ds',G',e,q⟩:=FT P step fin r (i+1) acc Ga (by lia) p'
   refine⟨ds',G',?_,q⟩
   unfold dH
   rw [h1];dsimp only;rw [h2];dsimp only;rw [h3]
   exact e
  ·obtain⟨ds',G',e,q⟩:=FT P step fin r (i+1) (acc++[y]) Gb (by lia) p'
   refine⟨ds',G',?_,q⟩
   unfold dH
   rw [h1];dsimp only;rw [h2];dsimp only;rw [h3];dsimp only;rw [h4]
   exact e
def yd5(ns:List Int)(lo hi:Option Int):∃ms:List Int,dy (ns.map I.int) lo hi=ms.map I.int/\ms.length≤ns.length:=by
 refine⟨(ns.drop (HT.sIx ns.length 0 lo)).take (HT.sIx ns.length ns.length hi-HT.sIx ns.length 0 lo),?_,?_⟩
 ·unfold dy;rw [z12,List.map_take,List.map_drop]
 ·rw [z2d,z2f];lia
def ye8{ms:List Int}{Z:De}{G:List M}:∃so:List Int,dH (a6 (.v (.ow (.lst (ms.map I.int)))) ms.length) c1 a9 (bd (af (aa 0) (af (ah cL (ag (.int 0)) (aa 0)) ae)) gW) [] 0 ms.length [] Z G=some (so.map I.int,G)/\so.length=ms.length/\∀m∈so,0≤m:=by
 obtain⟨ds,G',e,so,ed,ls,hp,eg⟩:=qb (w:=a6 (.v (.ow (.lst (ms.map I.int)))) ms.length) (c:=c1) (tt:=a9) (te:=bd (af (aa 0) (af (ah cL (ag (.int 0)) (aa 0)) ae)) gW) (di:=[]) (Z:=Z)
  (λi acc G'=>∃so:List Int,acc=so.map I.int/\so.length=i/\(∀m∈so,0≤m)/\G'=G)
  (λi acc G1 hi zz=>by
   obtain⟨so,ea,ls,hp,o⟩:=zz
   have hi:i<ms.length:=hi
   subst o
   obtain⟨y,hy⟩:∃y,(if 0-ms[i]>ms[i] then 0-ms[i] else ms[i])=y:=⟨_,rfl⟩
   refine⟨.int ms[i],[.int ms[i]],_,_,.int y,[↑(.int ms[i])],G1,?_,rfl,rfl,?_,so++[y],by rw [ea,z25];rfl,by rw [za,ls];rfl,λm hm=>?_,rfl⟩
   ·simp [a6,sq,pk,hi]
   ·subst hy;simp! [gW]
   ·rcases z13.mp hm with z|z
    ·exact hp m z
    ·have:m=y:=by simpa using z
     subst this;subst hy;split<;>lia)
  (λ_ _ _=>by simp [a6,sq,pk]) ms.length 0 [] G (by simp [a6]) ⟨[],rfl,rfl,λ_ h=>(by cases h),rfl⟩
 exact⟨so,by rw [ed,eg] at e;exact e,ls,hp⟩
def ye3{so:List Int}{Z:De}{G:List M}{k:Nat}(hk:G[k]?=some (.lst (so.map I.int)))(hp:∀m∈so,0≤m):∃le:List Int,dH (a6 ⇑(.ref k) so.length) c1 (ao (ah oP (aa 0) (ah gS (ag (.int 10)) (ag (.int 18))))) (aa 0) [] 0 so.length [] Z G=some (le.map I.int,G)/\∀m∈le,0≤m:=by
 obtain⟨ds,G',e,so',ed,hp,eg⟩:=FT (w:=a6 ⇑(.ref k) so.length) (c:=c1) (tt:=ao (ah oP (aa 0) (ah gS (ag (.int 10)) (ag (.int 18))))) (te:=aa 0) (di:=[]) (Z:=Z)
  (λi acc G'=>∃le:List Int,acc=le.map I.int/\(∀m∈le,0≤m)/\G'=G)
  (λi acc G1 hi zz=>by
   obtain⟨le,ea,hp',o⟩:=zz
   have hi:i<so.length:=hi
   subst o
   refine⟨.int so[i],[.int so[i]],[↑(.int so[i])],G1,by simp [a6,sq,pk,hk,hi],rfl,?_⟩
   by_cases z:(1000000000000000000:Int)≤so[i]
   ·refine .inr ⟨.int so[i],[↑(.int so[i])],G1,by simp! [z],by simp! [],le++[so[i]],by rw [ea,z25];rfl,λm hm=>?_,rfl⟩
    rcases z13.mp hm with y|y
    ·exact hp' m y
    ·have:m=so[i]:=by simpa using y
     subst this;exact hp _ (z33 hi)
   ·exact .inl ⟨by simp! [];lia,le,ea,hp',rfl⟩)
  (λ_ G1 zz=>by obtain⟨_,_,_,eg⟩:=zz;subst eg;simp [a6,sq,pk,hk]) so.length 0 [] G (by simp [a6]) ⟨[],rfl,λ_ h=>(by cases h),rfl⟩
 exact⟨so',by rw [ed,eg] at e;exact e,hp⟩
def ye1{so:List Int}{s1 s2 s3 v:Option Vl}{G:List M}{k:Nat}{a:Int}(hk:G[k]?=some (.lst (so.map I.int)))(h0:0≤a)(h1:a<2147483647):∃a' v',aV (a6 ⇑(.ref k) so.length) (aB 4) yY 0 so.length [s1,s2,s3,↑(.int a),v] G=some (.nx [s1,s2,s3,↑(.int a'),v'] G)/\0≤a'/\a'<2147483647:=by
 obtain⟨Z',G',e,a',v',ed,p0,p1,eg⟩:=hI (w:=a6 ⇑(.ref k) so.length) (g:=aB 4) (b:=yY)
  (λi Z G'=>∃(a:Int) (v:Option Vl),Z=[s1,s2,s3,↑(.int a),v]/\0≤a/\a<2147483647/\G'=G)
  (λi Z G1 hi zz=>by
   obtain⟨a,v,ea,p0,p1,o⟩:=zz
   have hi:i<so.length:=hi
   subst o
   subst ea
   refine⟨.int so[i],[s1,s2,s3,↑(.int a),↑(.int so[i])],G1,[s1,s2,s3,↑(.int ((a*48271+so[i] % 2147483629) % 2147483647)),↑(.int so[i])],G1,by simp [a6,sq,pk,hk,hi],rfl,?_,_,_,rfl,Int.emod_nonneg _ (by decide),Int.emod_lt_of_pos _ (by decide),rfl⟩
   simp! [yY])
  (λ_ G1 zz=>by obtain⟨_,_,_,_,_,eg⟩:=zz;subst eg;simp [a6,sq,pk,hk]) so.length 0 [s1,s2,s3,↑(.int a),v] G (by simp [a6]) ⟨a,v,rfl,h0,h1,rfl⟩
 exact⟨a',v',by rw [ed,eg] at e;exact e,p0,p1⟩
def eh{fe:Mo Ev}{e:Ev}{xs:List I}{n:Nat}{Z Z1:De}{G G1:List M}(h:fe Z G=some (e,Z1,G1))(hl:oH Z1 G1 e=true)(hs:sq Z1 G1 e=some xs)(hn:xs.length=n):bF (one fe) aR Z G=some (a6 e n,[e],Z1,G1):=by
 subst hn
 refine pC (av h rfl) ?_
 unfold aR tN
 dsimp only
 rw [if_pos hl,hs]
 rfl
def ye6{ns:List Int}{b:Nat}{G:List M}(h:ns.length≤63)(hb:b≤1000):∃(a:Int) (so le:List Int),yZ [.im (.fro (ns.map I.int)),.im (.int b)] G=some (.ow (.dic (dZ a 0 (G.length+1))),G++[.lst (so.map I.int),.lst (le.map I.int)])/\0≤a/\a<2147483647/\∀m∈le,0≤m:=by
 obtain⟨ms,hc,lm⟩:=yd5 ns (some (b:Int)) (some 63)
 obtain⟨so,e1,l1,p1⟩:=ye8 (ms:=ms) (Z:=[↑(.fro (ns.map I.int)),↑(.int b),none,none,none]) (G:=G)
 have hk:(G++[M.lst (so.map I.int)])[G.length]?=some (.lst (so.map I.int)):=by simp
 obtain⟨a,v,e2,a0,a1⟩:=ye1 (s1:=↑(.fro (ns.map I.int))) (s2:=↑(.int b)) (s3:=↑(.ref G.length)) (v:=none) (a:=7919+(b:Int)) hk (by lia) (by lia)
 obtain⟨le,e3,p3⟩:=ye3 (Z:=[↑(.fro (ns.map I.int)),↑(.int b),↑(.ref G.length),↑(.int a),v]) hk p1
 refine⟨a,so,le.reverse,?_,a0,a1,λm hm=>p3 m (List.mem_reverse.mp hm)⟩
 refine aJ rfl ?_
 refine aj (bC (kG (Z0:=[↑(.fro (ns.map I.int)),↑(.int b),none,none,none]) (by rfl) (eh (e:=.v (.ow (.lst (ms.map I.int)))) (n:=ms.length) (Z1:=[↑(.fro (ns.map I.int)),↑(.int b),none,none,none]) (G1:=G) ?_ rfl rfl (by simp)) (by show ms.length≤100000;lia) e1) rfl) ?_
 ·simp! [a7,aW,lZ,gX,fE,hc]
 refine aj (bC (x:=.im (.int (7919+(b:Int)))) (Z1:=[↑(.fro (ns.map I.int)),↑(.int b),↥(so.map I.int),none,none]) (G1:=G) (by simp! []) rfl) ?_
 refine aj (b7 (eh (e:=⇑(.ref G.length)) (n:=so.length) (Z1:=[↑(.fro (ns.map I.int)),↑(.int b),↑(.ref G.length),↑(.int (7919+(b:Int))),none]) (G1:=G++[M.lst (so.map I.int)]) (xs:=so.map I.int) (by simp! []) rfl (by simp [sq,pk]) (by simp)) e2) ?_
 refine cF (Z1:=[↑(.fro (ns.map I.int)),↑(.int b),↑(.ref G.length),↑(.int a),v]) ?_
 have e4:dI (bF (one (aY (aa 2))) aR) [] c1 (ao (ah oP (aa 0) (ah gS (ag (.int 10)) (ag (.int 18))))) (aa 0) [↑(.fro (ns.map I.int)),↑(.int b),↑(.ref G.length),↑(.int a),v] (G++[M.lst (so.map I.int)])=some (.v (.ow (.lst (le.map I.int))),[↑(.fro (ns.map I.int)),↑(.int b),↑(.ref G.length),↑(.int a),v],G++[M.lst (so.map I.int)]):=by
  refine kG (by rfl) (eh (e:=⇑(.ref G.length)) (n:=so.length) (Z1:=[↑(.fro (ns.map I.int)),↑(.int b),↑(.ref G.length),↑(.int a),v]) (G1:=G++[M.lst (so.map I.int)]) (xs:=so.map I.int) (by simp! []) rfl (by simp [sq,pk]) (by simp)) (by show so.length≤100000;lia) e3
 have e5:aY (cY iM (dI (bF (one (aY (aa 2))) aR) [] c1 (ao (ah oP (aa 0) (ah gS (ag (.int 10)) (ag (.int 18))))) (aa 0))) [↑(.fro (ns.map I.int)),↑(.int b),↑(.ref G.length),↑(.int a),v] (G++[M.lst (so.map I.int)])=some (⇑(.ref (G.length+1)),[↑(.fro (ns.map I.int)),↑(.int b),↑(.ref G.length),↑(.int a),v],G++[M.lst (so.map I.int),M.lst (le.reverse.map I.int)]):=by
  refine av (pB e4 (r:=some (.v (.ow (.lst (le.reverse.map I.int))),[↑(.fro (ns.map I.int)),↑(.int b),↑(.ref G.length),↑(.int a),v],G++[M.lst (so.map I.int)])) (by simp [iM,fE,sq,pk])) ?_
  simp [oj]
 refine av (a:=[⇑(.str "seed"),⇑(.int a),⇑(.str "number"),⇑(.int 0),⇑(.str "left"),⇑(.ref (G.length+1))]) (Z1:=[↑(.fro (ns.map I.int)),↑(.int b),↑(.ref G.length),↑(.int a),v]) (G1:=G++[M.lst (so.map I.int),M.lst (le.reverse.map I.int)]) ?_ ?_
 ·refine av rfl (av rfl (av (a:=[⇑(.str "number"),⇑(.int 0),⇑(.str "left"),⇑(.ref (G.length+1))]) (av rfl (av rfl (av (a:=[⇑(.str "left"),⇑(.ref (G.length+1))]) (av rfl (av e5 (av rfl rfl))) rfl))) rfl))
 ·simp [gY,dv,gZ,cT,gj,wt,FI,wu,dZ]
end
section
def dh{α:Type}(x:α)(r:List α):dg (x::r) 0=some x:=kX (j:=0) rfl
def eA{α:Type}(x y:α)(r:List α):dg (x::y::r) 1=some y:=kX (j:=1) rfl
def mj{α:Type}(x y z:α)(r:List α):dg (x::y::z::r) 2=some z:=kX (j:=2) rfl
def wC{α:Type}(x y z u:α)(r:List α):dg (x::y::z::u::r) 3=some u:=kX (j:=3) rfl
def wF{G:List M}{d l:Nat}(D:DG G d l):∃w G',j0 [.im (.ref d)] G=some (.im (.int w),G')/\0≤w/\w<4294967296/\DG G' d l/\Oth d l G G':=by
 obtain⟨r1,G1,e1,p0,p1,D1,o1⟩:=bT (many:=6) D (by decide) (by decide)
 by_cases h:r1<4
 ·obtain⟨k,hk,k0,k1⟩:∃k,dg [I.int 2,I.int 5,I.int 5,I.int 10] r1=some (.int k)/\0<k/\k≤10:=by
   rcases (show r1=0∨r1=1∨r1=2∨r1=3 by lia) with z|z|z|z<;>subst z
   ·exact⟨2,dh _ _,by decide,by decide⟩
   ·exact⟨5,eA _ _ _,by decide,by decide⟩
   ·exact⟨5,mj _ _ _ _,by decide,by decide⟩
   ·exact⟨10,wC _ _ _ _ _,by decide,by decide⟩
  obtain⟨r2,G2,e2,q0,q1,D2,o2⟩:=bT (many:=k) D1 k0 (Int.lt_of_le_of_lt k1 (by decide))
  refine⟨r2,G2,?_,q0,by lia,D2,o1.trans o2⟩
  simp! [j0,e1,h,hk,e2]
 ·obtain⟨r2,G2,e2,q0,q1,D2,o2⟩:=bT (many:=4294967296) D1 (by decide) (by decide)
  obtain⟨r3,G3,e3,s0,s1,D3,o3⟩:=bT (many:=3) D2 (by decide) (by decide)
  have o:=(o1.trans o2).trans o3
  rcases (show r1=4∨r1=5 by lia) with z|z<;>subst z
  ·exact⟨r2,G3,by simp! [j0,e1,e2,e3,dh],q0,q1,D3,o⟩
  ·exact⟨4294967295-r3,G3,by simp! [j0,e1,e2,e3,eA],by lia,by lia,D3,o⟩
inductive Tm where
 | num (w:Int)|cell (x:Str)|at_ (r:Str) (t:Tm)|op (s:Str) (a b:Tm)
abbrev Tm.i:Tm->I
 | .num w=>.tup [.str "num",.int w]
 | .cell x=>.tup [.str "cell",.str x]
 | .at_ r t=>.tup [.str "at",.str r,t.i]
 | .op s a b=>.tup [.str "op",.str s,a.i,b.i]
abbrev Tm.size:Tm->Nat
 | .num _=>1
 | .cell _=>1
 | .at_ _ t=>t.size+1
 | .op _ a b=>a.size+b.size+1
abbrev Tm.hi:Tm->Nat
 | .num _=>1
 | .cell _=>1
 | .at_ _ t=>t.hi
 | .op _ a b=>max a.hi (b.hi+1)
abbrev Tm.fit(t:Tm):Prop:=t.size≤20/\t.hi≤4
abbrev Sg(s:Str):Prop:=s="+"∨s="-"∨s="*"∨s="<"∨s="="
abbrev Tm.ok(cs rs:List Str):Tm->Prop
 | .num w=>0≤w/\w<4294967296
 | .cell x=>x∈cs
 | .at_ r t=>r∈rs/\t.ok cs rs
 | .op s a b=>Sg s/\a.ok cs rs/\b.ok cs rs
abbrev jc(c r f:Nat):List (aI×I):=[(.inr "cells",.ref c),(.inr "rows",.ref r),(.inr "defs",.ref f)]
def pD(c r f:Nat):cc (jc c r f) (Sum.inr ("cells" : Str))=some (.ref c):=by kernel_rfl
def j7(c r f:Nat):cc (jc c r f) (Sum.inr ("rows" : Str))=some (.ref r):=by kernel_rfl
def wG(c r f:Nat):cc (jc c r f) (Sum.inr ("defs" : Str))=some (.ref f):=by kernel_rfl
structure Scn where
 c:Nat
 r:Nat
 f:Nat
 cs:List Str
 rs:List Str
 ds:List Str
structure Sc(G:List M)(d l k:Nat)(S:Scn):Prop where
 D:DG G d l
 s:G[k]?=some (.dic (jc S.c S.r S.f))
 c:G[S.c]?=some (.lst (S.cs.map I.str))
 r:G[S.r]?=some (.lst (S.rs.map I.str))
 f:G[S.f]?=some (.lst (S.ds.map I.str))
 nd:d≠k/\d≠S.c/\d≠S.r/\d≠S.f
 nl:l≠k/\l≠S.c/\l≠S.r/\l≠S.f
 c0:0<S.cs.length
 c1:S.cs.length≤1000/\S.rs.length≤1000/\S.ds.length≤1000
def Sc.oth{G G':List M}{d l k:Nat}{S:Scn}(s:Sc G d l k S)(D:DG G' d l)(o:Oth d l G G'):Sc G' d l k S :=
 ⟨D,(o.at_ _ s.nd.1.symm s.nl.1.symm).trans s.s,(o.at_ _ s.nd.2.1.symm s.nl.2.1.symm).trans s.c,(o.at_ _ s.nd.2.2.1.symm s.nl.2.2.1.symm).trans s.r,(o.at_ _ s.nd.2.2.2.symm s.nl.2.2.2.symm).trans s.f,s.nd,s.nl,s.c0,s.c1⟩
def Sc.draw{G:List M}{d l k:Nat}{S:Scn}{many:Int}(s:Sc G d l k S)(h0:0<many)(h1:many<2 ^ 100):∃r G',aS [.im (.ref d),.im (.int many)] G=some (.im (.int r),G')/\0≤r/\r<many/\Sc G' d l k S/\Oth d l G G':=by
 obtain⟨r,G',e,p0,p1,D,o⟩:=bT s.D h0 h1
 exact⟨r,G',e,p0,p1,s.oth D o,o⟩
def j8{xs:List Str}{r:Int}(h0:0≤r)(h1:r<xs.length):∃x,dg (xs.map I.str) r=some (.str x)/\x∈xs:=by
 obtain⟨j,rfl⟩:=Int.eq_ofNat_of_zero_le h0
 have hj:j<xs.length:=by lia
 exact⟨xs[j],kX (by simp [hj]),z33 hj⟩
def Sc.cell{G:List M}{d l k:Nat}{S:Scn}(s:Sc G d l k S):∃r G' x,aS [.im (.ref d),.im (.int S.cs.length)] G=some (.im (.int r),G')/\dg (S.cs.map I.str) r=some (.str x)/\x∈S.cs/\Sc G' d l k S/\Oth d l G G':=by
 obtain⟨r,G',e,p0,p1,s',o⟩:=s.draw (many:=S.cs.length) (by have:=s.c0;lia) (by have:=s.c1.1;lia)
 obtain⟨x,e2,hx⟩:=j8 p0 p1
 exact⟨r,G',x,e,e2,hx,s',o⟩
def Sc.row{G:List M}{d l k:Nat}{S:Scn}(s:Sc G d l k S)(h:0<S.rs.length):∃r G' x,aS [.im (.ref d),.im (.int S.rs.length)] G=some (.im (.int r),G')/\dg (S.rs.map I.str) r=some (.str x)/\x∈S.rs/\Sc G' d l k S/\Oth d l G G':=by
 obtain⟨r,G',e,p0,p1,s',o⟩:=s.draw (many:=S.rs.length) (by lia) (by have:=s.c1.2.1;lia)
 obtain⟨x,e2,hx⟩:=j8 p0 p1
 exact⟨r,G',x,e,e2,hx,s',o⟩
def Sc.dfn{G:List M}{d l k:Nat}{S:Scn}(s:Sc G d l k S)(h:0<S.ds.length):∃r G' x,aS [.im (.ref d),.im (.int S.ds.length)] G=some (.im (.int r),G')/\dg (S.ds.map I.str) r=some (.str x)/\x∈S.ds/\Sc G' d l k S/\Oth d l G G':=by
 obtain⟨r,G',e,p0,p1,s',o⟩:=s.draw (many:=S.ds.length) (by lia) (by have:=s.c1.2.2;lia)
 obtain⟨x,e2,hx⟩:=j8 p0 p1
 exact⟨r,G',x,e,e2,hx,s',o⟩
end
section
def wH{α:Type}{xs:List α}{r:Int}(h0:0≤r)(h1:r<xs.length):∃x,dg xs r=some x/\x∈xs:=by
 obtain⟨j,rfl⟩:=Int.eq_ofNat_of_zero_le h0
 have hj:j<xs.length:=by lia
 exact⟨xs[j],kX (by simp [hj]),z33 hj⟩
def FU{r:Int}{Z:De}{G:List M}(h0:0≤r)(h1:r<5):∃s:Str,ak [⇑(.str "+-*<="),⇑(.int r)] Z G=some (⇑(.str s),Z,G)/\Sg s:=by
 have hl:("+-*<=" : Str).length≤1000000:=by rw [show ("+-*<=" : Str).length=5 by decide +kernel];lia
 obtain⟨c,hc,hm⟩:=wH (xs:=("+-*<=" : Str).cps.toList) h0 (by rw [show ("+-*<=" : Str).cps.toList.length=5 by decide +kernel];exact h1)
 refine⟨⟨#[c]⟩,by simp [ak,bW,dX,sq,pk,hc,hl],?_⟩
 rw [show ("+-*<=" : Str).cps.toList=[43,45,42,60,61] by decide +kernel] at hm
 simp only [z1e,List.not_mem_nil,or_false] at hm
 rcases hm with e|e|e|e|e<;>subst e
 ·exact .inl (by decide +kernel)
 ·exact .inr (.inl (by decide +kernel))
 ·exact .inr (.inr (.inl (by decide +kernel)))
 ·exact .inr (.inr (.inr (.inl (by decide +kernel))))
 ·exact .inr (.inr (.inr (.inr (by decide +kernel))))
abbrev hB(r:Nat):Nat:=if r<3 then 1 else if r<7 then 2 else if r<15 then 3 else 4
def wI{r:Nat}:1≤hB r/\hB (r / 2)≤hB r/\hB r≤4:=by
 unfold hB
 repeat' split
 all_goals lia
def wJ{r:Nat}(h:3≤r)(h2:r<31):hB ((r-1) / 2)+1≤hB r:=by
 unfold hB
 repeat' split
 all_goals lia
variable {d l k:Nat}{S:Scn}
theorem mm:∀(n r:Nat) {G:List M},r<2*n->r<24->Sc G d l k S->∃(t:Tm) (G':List M),eP n [.im (.ref d),.im (.ref k),.im (.int r)] G=some (.im t.i,G')/\t.ok S.cs S.rs/\t.size≤max 1 r/\t.hi≤hB r/\Sc G' d l k S/\Oth d l G G'
 | 0,r,G,h,_,_=>by lia
 | n+1,r,G,h,h24,s=>by
  have hh:=wI (r:=r)
  obtain⟨fm,G1,e1,p0,p1,s1,o1⟩:=s.draw (many:=8) (by decide) (by decide)
  have st:aG (bd (af (aa 0) (af (ag (.int 8)) ae)) (ax 2 aS)) (aB 3) [↑(.ref d),↑(.ref k),↑(.int r),none,none,none,none] G=some (.nx [↑(.ref d),↑(.ref k),↑(.int r),↑(.int fm),none,none,none] G1):=by
   simp! [e1]
  by_cases hs:(r:Int)<3∨fm<3
  ·
   have hc:kz (ao (ah eG (aa 2) (ag (.int 3)))) (ao (ah eG (aa 3) (ag (.int 3)))) [↑(.ref d),↑(.ref k),↑(.int r),↑(.int fm),none,none,none] G1=some (true,[↑(.ref d),↑(.ref k),↑(.int r),↑(.int fm),none,none,none],G1):=by
    by_cases h3:(r:Int)<3
    ·simp! [h3]
    ·simp! [h3,hs.resolve_left h3]
   obtain⟨y,G2,e2,_,_,s2,o2⟩:=s1.draw (many:=3) (by decide) (by decide)
   by_cases hy:y=0
   ·subst hy
    obtain⟨w,G3,e3,w0,w1,D3,o3⟩:=wF s2.D
    refine⟨.num w,G3,?_,⟨w0,w1⟩,by show 1≤_;lia,hh.1,s2.oth D3 o3,(o1.trans o2).trans o3⟩
    refine aJ rfl (aj st (b6 (bS hc (b6 (bS (Z1:=[↑(.ref d),↑(.ref k),↑(.int r),↑(.int fm),none,none,none]) (G1:=G2) (by simp! [e2]) (cF (Z1:=[↑(.ref d),↑(.ref k),↑(.int r),↑(.int fm),none,none,none]) ?_))))))
    simp! [e3,Tm.i]
   ·have yb:(y == 0)=false:=beq_eq_false_iff_ne.mpr hy
    obtain⟨q,G3,x,e3,ex,hx,s3,o3⟩:=s2.cell
    refine⟨.cell x,G3,?_,hx,by show 1≤_;lia,hh.1,s3,(o1.trans o2).trans o3⟩
    refine aJ rfl (aj st (b6 (bS hc (aj (Z1:=[↑(.ref d),↑(.ref k),↑(.int r),↑(.int fm),none,none,none]) (G1:=G2) (aL (Z1:=[↑(.ref d),↑(.ref k),↑(.int r),↑(.int fm),none,none,none]) (G1:=G2) (by simp! [e2,yb]) rfl) (cF (Z1:=[↑(.ref d),↑(.ref k),↑(.int r),↑(.int fm),none,none,none]) ?_)))))
    simp! [s2.s,s2.c,s3.s,s3.c,pD,e3,ex,Tm.i]
  ·have h3:¬ (r:Int)<3:=λz=>hs (.inl z)
   have h4:¬ fm<3:=λz=>hs (.inr z)
   have hc:kz (ao (ah eG (aa 2) (ag (.int 3)))) (ao (ah eG (aa 3) (ag (.int 3)))) [↑(.ref d),↑(.ref k),↑(.int r),↑(.int fm),none,none,none] G1=some (false,[↑(.ref d),↑(.ref k),↑(.int r),↑(.int fm),none,none,none],G1):=by
    simp! [h3,h4]
   by_cases ha:fm=3/\0<S.rs.length
   ·obtain⟨hf,hr⟩:=ha
    subst hf
    obtain⟨q,G2,x,e2,ex,hx,s2,o2⟩:=s1.row hr
    obtain⟨t,G3,e3,t1,t2,t3,s3,o3⟩:=mm n (r / 2) (by lia) (by lia) s2
    have er:((r / 2:Nat):Int)=(r:Int) / 2:=by lia
    rw [er] at e3
    refine⟨.at_ x t,G3,?_,⟨hx,t1⟩,by show t.size+1≤_;lia,z1b t3 hh.2.1,s3,(o1.trans o2).trans o3⟩
    refine aJ rfl (aj st (aj (aL hc rfl) (b6 (bS (Z1:=[↑(.ref d),↑(.ref k),↑(.int r),↑(.int 3),none,none,none]) (G1:=G1) (by simp! [s1.s,s1.r,j7,hr]) (aj (bC (x:=.im (.str x)) (Z1:=[↑(.ref d),↑(.ref k),↑(.int r),↑(.int 3),none,none,none]) (G1:=G2) ?_ rfl) (cF (Z1:=[↑(.ref d),↑(.ref k),↑(.int r),↑(.int 3),↑(.str x),none,none]) ?_))))))
    ·simp! [s1.s,s1.r,s2.s,s2.r,j7,e2,ex]
    ·simp! [e3,Tm.i]
   ·have hc2:eF (ao (ah bP (aa 3) (ag (.int 3)))) (ao (ah gT (bd (af (ah ak (aa 1) (ag (.str "rows"))) ae) aO) (ag (.int 0)))) [↑(.ref d),↑(.ref k),↑(.int r),↑(.int fm),none,none,none] G1=some (false,[↑(.ref d),↑(.ref k),↑(.int r),↑(.int fm),none,none,none],G1):=by
     by_cases hf:fm=3
     ·have hr:¬ 0<S.rs.length:=λz=>ha ⟨hf,z⟩
      simp! [hf,s1.s,s1.r,j7,hr]
     ·have fb:(fm == 3)=false:=beq_eq_false_iff_ne.mpr hf
      simp! [fb]
    obtain⟨ta,G2,e2,a1,a2,a3,s2,o2⟩:=mm n ((r-1) / 2) (by lia) (by lia) s1
    have er:(((r-1) / 2:Nat):Int)=((r:Int)-1) / 2:=by lia
    rw [er] at e2
    obtain⟨y,G3,e3,y0,y1,s3,o3⟩:=s2.draw (many:=5) (by decide) (by decide)
    obtain⟨tb,G4,e4,b1,b2,b3,s4,o4⟩:=mm n ((r-1) / 2) (by lia) (by lia) s3
    have ho:=wJ (r:=r) (by lia) (by lia)
    rw [er] at e4
    obtain⟨sg,es,ls⟩:=FU (Z:=[↑(.ref d),↑(.ref k),↑(.int r),↑(.int fm),none,↑(.int (((r:Int)-1) / 2)),↑ta.i]) (G:=G3) y0 y1
    refine⟨.op sg ta tb,G4,?_,⟨ls,a1,b1⟩,by show ta.size+tb.size+1≤_;lia,by show max ta.hi (tb.hi+1)≤_;lia,s4,((o1.trans o2).trans o3).trans o4⟩
    refine aJ rfl (aj st (aj (aL hc rfl) (aj (aL hc2 rfl) (aj (bC (x:=.im (.int (((r:Int)-1) / 2))) (Z1:=[↑(.ref d),↑(.ref k),↑(.int r),↑(.int fm),none,none,none]) (G1:=G1) (by simp! []) rfl) (aj (bC (x:=.im ta.i) (Z1:=[↑(.ref d),↑(.ref k),↑(.int r),↑(.int fm),none,↑(.int (((r:Int)-1) / 2)),none]) (G1:=G2) (by simp! [e2]) rfl) (cF (Z1:=[↑(.ref d),↑(.ref k),↑(.int r),↑(.int fm),none,↑(.int (((r:Int)-1) / 2)),↑ta.i]) ?_))))))
    refine av (av rfl (av (av (aF rfl (av (a:=[⇑(.ref d),⇑(.int 5)]) rfl (cB (xs:=[.im (.ref d),.im (.int 5)]) rfl rfl e3)) es) (av (av rfl (av (av (av (a:=[⇑(.ref d),⇑(.ref k),⇑(.int (((r:Int)-1) / 2))]) rfl (cB (xs:=[.im (.ref d),.im (.ref k),.im (.int (((r:Int)-1) / 2))]) rfl rfl e4)) rfl) rfl)) rfl)) rfl)) ?_
    simp! [Tm.i]
end
section
inductive Sm where
 | set (x:Str) (t:Tm)|put (r:Str) (a b:Tm)|call (f:Str)|wh (t:Tm) (b:List Sm)|ite (t:Tm) (b c:List Sm)
mutual
noncomputable def Sm.i:Sm->I
 | .set x t=>.tup [.str "set",.str x,t.i]
 | .put r a b=>.tup [.str "put",.str r,a.i,b.i]
 | .call f=>.tup [.str "call",.str f]
 | .wh t b=>.tup [.str "while",t.i,.tup (aq b)]
 | .ite t b c=>.tup [.str "if",t.i,.tup (aq b),.tup (aq c)]
noncomputable def aq:List Sm->List I
 | []=>[]
 | s::b=>s.i::aq b
end
mutual
noncomputable def Sm.ok(S:Scn):Sm->Prop
 | .set x t=>x∈S.cs/\t.ok S.cs S.rs/\t.fit
 | .put r a b=>r∈S.rs/\a.ok S.cs S.rs/\b.ok S.cs S.rs/\a.fit/\b.fit
 | .call f=>f∈S.ds
 | .wh t b=>t.ok S.cs S.rs/\t.fit/\aX S b
 | .ite t b c=>t.ok S.cs S.rs/\t.fit/\aX S b/\aX S c
noncomputable def aX(S:Scn):List Sm->Prop
 | []=>True
 | s::b=>s.ok S/\aX S b
end
mutual
noncomputable def Sm.n:Sm->Nat
 | .set _ t=>t.size+1
 | .put _ a b=>a.size+b.size+1
 | .call _=>1
 | .wh t b=>t.size+2+aP b
 | .ite t b c=>t.size+2+aP b+aP c
noncomputable def aP:List Sm->Nat
 | []=>0
 | s::b=>s.n+aP b
end
mutual
noncomputable def Sm.deep:Sm->Nat
 | .wh _ b=>cu b+1
 | .ite _ b c=>max (cu b) (cu c)+1
 | _=>1
noncomputable def cu:List Sm->Nat
 | []=>0
 | s::b=>max s.deep (cu b)
end
theorem iS:∀(a b:List Sm),aq (a++b)=aq a++aq b
 | [],b=>by rw [aq];rfl
 | s::a,b=>by rw [z2a,aq,aq,iS a b];rfl
theorem eB:∀(a b:List Sm),aP (a++b)=aP a+aP b
 | [],b=>by rw [aP];simp
 | s::a,b=>by rw [z2a,aP,aP,eB a b];lia
theorem pE:∀(a b:List Sm),cu (a++b)=max (cu a) (cu b)
 | [],b=>by rw [cu];simp
 | s::a,b=>by rw [z2a,cu,cu,pE a b,Nat.max_assoc]
theorem pF{S:Scn}:∀(a b:List Sm),aX S (a++b)↔aX S a/\aX S b
 | [],b=>by rw [aX];simp
 | s::a,b=>by rw [z2a,aX,aX,pF a b,and_assoc]
theorem dO:∀a:List Sm,(aq a).length=a.length
 | []=>by rw [aq];rfl
 | s::a=>by rw [aq,z11,z11,dO a]
structure Bs(G:List M)(d l k q:Nat)(S:Scn)(x:Nat):Prop where
 s:Sc G d l k S
 qa:G[q]?=some (.lst [.int x])
 n1:q≠d/\q≠l
 n2:q≠k/\q≠S.c/\q≠S.r/\q≠S.f
structure Ot3(d l q:Nat)(G G':List M):Prop where
 len:G.length≤G'.length
 at_:∀k,k<G.length->k≠d->k≠l->k≠q->G'[k]?=G[k]?
def Ot3.refl(d l q:Nat)(G:List M):Ot3 d l q G G:=⟨ze _,λ_ _ _ _ _=>rfl⟩
theorem Ot3.trans{d l q:Nat}{G G1 G2:List M}(x:Ot3 d l q G G1)(y:Ot3 d l q G1 G2):Ot3 d l q G G2:=⟨z1b x.len y.len,λk h h1 h2 h3=>(y.at_ k (z1c h x.len) h1 h2 h3).trans (x.at_ k h h1 h2 h3)⟩
def Oth.o3{d l:Nat}{G G':List M}(o:Oth d l G G')(q:Nat):Ot3 d l q G G':=⟨Nat.le_of_eq o.len.symm,λk _ h1 h2 _=>o.at_ k h1 h2⟩
def Bs.oth{G G':List M}{d l k q x:Nat}{S:Scn}(b:Bs G d l k q S x)(s:Sc G' d l k S)(o:Oth d l G G'):Bs G' d l k q S x:=⟨s,(o.at_ _ b.n1.1 b.n1.2).trans b.qa,b.n1,b.n2⟩
theorem Bs.draw{G:List M}{d l k q x:Nat}{S:Scn}{many:Int}(b:Bs G d l k q S x)(h0:0<many)(h1:many<2 ^ 100):∃r G',aS [.im (.ref d),.im (.int many)] G=some (.im (.int r),G')/\0≤r/\r<many/\Bs G' d l k q S x/\Ot3 d l q G G':=by
 obtain⟨r,G',e,p0,p1,s,o⟩:=b.s.draw h0 h1
 exact⟨r,G',e,p0,p1,b.oth s o,o.o3 q⟩
def Bs.term{G:List M}{d l k q x:Nat}{S:Scn}(b:Bs G d l k q S x)(r:Nat)(h:r<24):∃(t:Tm) (G':List M),eP 12 [.im (.ref d),.im (.ref k),.im (.int r)] G=some (.im t.i,G')/\t.ok S.cs S.rs/\t.size≤max 1 r/\t.hi≤4/\Bs G' d l k q S x/\Ot3 d l q G G':=by
 obtain⟨t,G',e,t1,t2,t3,s,o⟩:=mm 12 r (by lia) h b.s
 exact⟨t,G',e,t1,t2,z1b t3 wI.2.2,b.oth s o,o.o3 q⟩
theorem Bs.set{G:List M}{d l k q x:Nat}{S:Scn}(b:Bs G d l k q S x)(y:Nat):Bs (G.set q (.lst [.int y])) d l k q S y/\Ot3 d l q G (G.set q (.lst [.int y])):=by
 have ne:∀{j:Nat},j≠q->(G.set q (M.lst [.int y]))[j]?=G[j]?:=λh=>z26 h.symm
 refine⟨⟨⟨?_,(ne b.n2.1.symm).trans b.s.s,(ne b.n2.2.1.symm).trans b.s.c,(ne b.n2.2.2.1.symm).trans b.s.r,(ne b.n2.2.2.2.symm).trans b.s.f,b.s.nd,b.s.nl,b.s.c0,b.s.c1⟩,j6 b.qa,b.n1,b.n2⟩,⟨Nat.le_of_eq z2b.symm,λj _ _ _ h=>ne h⟩⟩
 obtain⟨a,n,ms,D⟩:=b.s.D
 exact⟨a,n,ms,(ne b.n1.1.symm).trans D.dc,(ne b.n1.2.symm).trans D.lc,D.ne,D.a0,D.a1,D.n0,D.m0⟩
def eD{G:List M}{k:Nat}{m:M}(h:G[k]?=some m):k<G.length:=(z14.mp h).1
theorem Sc.app{G:List M}{d l k:Nat}{S:Scn}(s:Sc G d l k S)(A:List M):Sc (G++A) d l k S :=
 have ap:∀{k:Nat} {m:M},G[k]?=some m->(G++A)[k]?=some m:=λh=>by rw [z1a (eD h)];exact h
 ⟨s.D.app _,ap s.s,ap s.c,ap s.r,ap s.f,s.nd,s.nl,s.c0,s.c1⟩
theorem Bs.lt{G:List M}{d l k q x:Nat}{S:Scn}(b:Bs G d l k q S x):d<G.length/\l<G.length/\k<G.length/\q<G.length:=⟨b.s.D.lt.1,b.s.D.lt.2,eD b.s.s,eD b.qa⟩
theorem Bs.app{G:List M}{d l k q x:Nat}{S:Scn}(b:Bs G d l k q S x)(A:List M):Bs (G++A) d l k q S x/\Ot3 d l q G (G++A) :=
 ⟨⟨b.s.app A,by rw [z1a (eD b.qa)];exact b.qa,b.n1,b.n2⟩,⟨by rw [za];lia,λj h _ _ _=>z1a h⟩⟩
abbrev pG(d l k q:Nat)(S:Scn)(dd x:Nat)(G:List M)(fn:FF):Prop :=
 ∃(s:Sm) (G':List M) (x':Nat),fn [.im (.ref d),.im (.ref k),.im (.ref q),.im (.int dd)] G=some (.im s.i,G')/\s.ok S/\x'≤x/\s.n≤21+21*(x-x')/\s.deep≤4-dd/\Bs G' d l k q S x'/\Ot3 d l q G G'
abbrev zB(d l k q:Nat)(S:Scn)(dd x:Nat)(G:List M)(fn:FF):Prop :=
 ∃(b:List Sm) (G':List M) (x':Nat),fn [.im (.ref d),.im (.ref k),.im (.ref q),.im (.int dd)] G=some (.im (.tup (aq b)),G')/\aX S b/\x'≤x/\aP b≤21*(x-x')/\cu b≤4-dd/\b.length≤1000/\(b.length=0->x'=x)/\Bs G' d l k q S x'/\Ot3 d l q G G'
end
section
variable {d l k q:Nat}{S:Scn}
def hJ(t:Tm)(b:List Sm):(Sm.wh t b).i=.tup [.str "while",t.i,.tup (aq b)]:=by rw [Sm.i]
def FV{n dd x:Nat}{G:List M}(hd:dd<3)(hx1:1≤x)(b:Bs G d l k q S x)(hb:∀{x:Nat} {G:List M},Bs G d l k q S x->zB d l k q S (dd+1) x G (eX n)):pG d l k q S dd x G (kE (n+1)):=by
 obtain⟨r1,G1,y,e1,ey,hy,s1,o1⟩:=b.s.cell
 have b1:=b.oth s1 o1
 obtain⟨b1',o1'⟩:=b1.set (x-1)
 have ex:((x-1:Nat):Int)=(x:Int)-1:=by lia
 obtain⟨bo,G2,x2,e2,k2,l2,n2,d2,bO,_,b2,o2⟩:=hb b1'
 obtain⟨r3,G3,e3,_,_,b3,o3⟩:=b2.draw (many:=4) (by decide) (by decide)
 have ed:((dd+1:Nat):Int)=(dd:Int)+1:=by lia
 rw [ed] at e2
 have s1':aG (ah ak (ah ak (aa 1) (ag (.str "cells"))) (bd (af (aa 0) (af (bd (af (ah ak (aa 1) (ag (.str "cells"))) ae) aO) ae)) (ax 2 aS))) (aB 4) [↑(.ref d),↑(.ref k),↑(.ref q),↑(.int dd),none,none,none,none,none] G=some (.nx [↑(.ref d),↑(.ref k),↑(.ref q),↑(.int dd),↑(.str y),none,none,none,none] G1):=by
  simp! [b.s.s,b.s.c,s1.s,s1.c,pD,e1,ey]
 have s0':cM (aa 2) (ag (.int 0)) (ah cL (ah ak (aa 2) (ag (.int 0))) (ag (.int 1))) [↑(.ref d),↑(.ref k),↑(.ref q),↑(.int dd),↑(.str y),none,none,none,none] G1=some (.nx [↑(.ref d),↑(.ref k),↑(.ref q),↑(.int dd),↑(.str y),none,none,none,none] (G1.set q (.lst [.int (x-1:Nat)]))):=by
  rw [ex];simp! [b1.qa,dh,gC]
 have s2':aG (bd (af (aa 0) (af (aa 1) (af (aa 2) (af (ah bu (aa 3) (ag (.int 1))) ae)))) (ax 4 (eX n))) (aB 5) [↑(.ref d),↑(.ref k),↑(.ref q),↑(.int dd),↑(.str y),none,none,none,none] (G1.set q (.lst [.int (x-1:Nat)]))=some (.nx [↑(.ref d),↑(.ref k),↑(.ref q),↑(.int dd),↑(.str y),↑(.tup (aq bo)),none,none,none] G2):=by
  simp! [e2]
 by_cases h0:r3=0
 ·subst h0
  obtain⟨t,G4,e4,t1,t2,t3,b4,o4⟩:=b3.term 5 (by lia)
  refine⟨.wh t bo,G4,x2,?_,by rw [Sm.ok];exact⟨t1,⟨by lia,t3⟩,k2⟩,by lia,by rw [Sm.n];lia,by rw [Sm.deep];lia,b4,((((o1.o3 q).trans o1').trans o2).trans o3).trans o4⟩
  refine aJ rfl (aj s1' (aj s0' (aj s2' (b6 (bS (Z1:=[↑(.ref d),↑(.ref k),↑(.ref q),↑(.int dd),↑(.str y),↑(.tup (aq bo)),none,none,none]) (G1:=G3) (by simp! [e3]) (cF (Z1:=[↑(.ref d),↑(.ref k),↑(.ref q),↑(.int dd),↑(.str y),↑(.tup (aq bo)),none,none,none]) ?_))))))
  have e4':eP 12 [.im (.ref d),.im (.ref k),.im (.int 5)] G3=some (.im t.i,G4):=e4
  simp! [e4',Sm.i]
 ·have hb0:(r3 == 0)=false:=beq_eq_false_iff_ne.mpr h0
  obtain⟨r4,G4,e4,v0,v1,b4,o4⟩:=b3.draw (many:=9) (by decide) (by decide)
  obtain⟨r5,G5,e5,u0,u1,b5,o5⟩:=b4.draw (many:=2) (by decide) (by decide)
  have oo:=(((((o1.o3 q).trans o1').trans o2).trans o3).trans o4).trans o5
  have hl:(aq bo).length+1≤1000000:=by rw [dO];lia
  have tail:∀{z:Vl} {G':List M},aC (ah ak (bd (af (bd (af (ag (.str "while")) (af (bd (af (ag (.str "cell")) (af (aa 4) ae)) ay) (af (ah bu (aa 5) (bd (af (aa 6) ae) ay)) ae))) ay) (af (bd (af (ag (.str "while")) (af (aa 7) (af (ah bu (aa 5) (bd (af (aa 8) ae) ay)) ae))) ay) ae)) aN) (bd (af (aa 0) (af (ag (.int 2)) ae)) (ax 2 aS)))
    [↑(.ref d),↑(.ref k),↑(.ref q),↑(.int dd),↑(.str y),↑(.tup (aq bo)),↑(Sm.set y (.op "-" (.cell y) (.num 1))).i,↑(Tm.op "<" (.cell y) (.num (1+r4))).i,↑(Sm.set y (.op "+" (.cell y) (.num 1))).i] G4=some (.rt z G')->kE (n+1) [.im (.ref d),.im (.ref k),.im (.ref q),.im (.int dd)] G=some (z,G'):=by
   intro z G' hr
   refine aJ rfl (aj s1' (aj s0' (aj s2' (aj (aL (Z1:=[↑(.ref d),↑(.ref k),↑(.ref q),↑(.int dd),↑(.str y),↑(.tup (aq bo)),none,none,none]) (G1:=G3) (by simp! [e3,hb0]) rfl) ?_))))
   refine aj (bC (x:=.im (Sm.set y (.op "-" (.cell y) (.num 1))).i) (Z1:=[↑(.ref d),↑(.ref k),↑(.ref q),↑(.int dd),↑(.str y),↑(.tup (aq bo)),none,none,none]) (G1:=G3) (by simp! [Sm.i,Tm.i]) rfl) ?_
   refine aj (bC (x:=.im (Tm.op "<" (.cell y) (.num (1+r4))).i) (Z1:=[↑(.ref d),↑(.ref k),↑(.ref q),↑(.int dd),↑(.str y),↑(.tup (aq bo)),↑(Sm.set y (.op "-" (.cell y) (.num 1))).i,none,none]) (G1:=G4) (by simp! [e4,Tm.i]) rfl) ?_
   refine aj (bC (x:=.im (Sm.set y (.op "+" (.cell y) (.num 1))).i) (Z1:=[↑(.ref d),↑(.ref k),↑(.ref q),↑(.int dd),↑(.str y),↑(.tup (aq bo)),↑(Sm.set y (.op "-" (.cell y) (.num 1))).i,↑(Tm.op "<" (.cell y) (.num (1+r4))).i,none]) (G1:=G4) (by simp! [Sm.i,Tm.i]) rfl) ?_
   exact hr
  have one:∀(sg:Str),Sg sg->(Sm.set y (.op sg (.cell y) (.num 1))).ok S:=λsg h=>by rw [Sm.ok];exact⟨hy,⟨h,hy,by decide,by decide⟩,show 3≤20/\2≤4 by decide⟩
  have oneN:∀(sg:Str),(Sm.set y (.op sg (.cell y) (.num 1))).n=4:=λsg=>by rw [Sm.n];rfl
  have oneD:∀(sg:Str),(Sm.set y (.op sg (.cell y) (.num 1))).deep=1:=λsg=>by rw [Sm.deep]<;>(intros;contradiction)
  have snI:∀(s:Sm),aq (bo++[s])=aq bo++[s.i]:=λs=>by rw [iS,aq,aq]
  have snN:∀(sg:Str),aP (bo++[Sm.set y (.op sg (.cell y) (.num 1))])=aP bo+4:=λsg=>by rw [eB,aP,aP,oneN]
  have snD:∀(sg:Str),cu (bo++[Sm.set y (.op sg (.cell y) (.num 1))])≤max (cu bo) 1:=λsg=>by rw [pE,cu,cu,oneD];lia
  have snK:∀(sg:Str),Sg sg->aX S (bo++[Sm.set y (.op sg (.cell y) (.num 1))]):=λsg h=>(pF _ _).mpr ⟨k2,by rw [aX,aX];exact⟨one sg h,trivial⟩⟩
  rcases (show r5=0∨r5=1 by lia) with z|z<;>subst z
  ·have:=snD "-"
   refine⟨.wh (.cell y) (bo++[Sm.set y (.op "-" (.cell y) (.num 1))]),G5,x2,tail (cF (Z1:=[↑(.ref d),↑(.ref k),↑(.ref q),↑(.int dd),↑(.str y),↑(.tup (aq bo)),↑(Sm.set y (.op "-" (.cell y) (.num 1))).i,↑(Tm.op "<" (.cell y) (.num (1+r4))).i,↑(Sm.set y (.op "+" (.cell y) (.num 1))).i]) ?_),by rw [Sm.ok];exact⟨hy,show 1≤20/\1≤4 by decide,snK "-" (.inr (.inl rfl))⟩,by lia,by rw [Sm.n,snN];show 1+2+_≤_;lia,by rw [Sm.deep];lia,b5,oo⟩
   rw [hJ,snI]
   generalize (Sm.set y (.op "-" (.cell y) (.num 1))).i=z1
   generalize (Sm.set y (.op "+" (.cell y) (.num 1))).i=z2
   simp! [e5,jE,mY,oK,hl,dh,Tm.i]
  ·have:=snD "+"
   refine⟨.wh (.op "<" (.cell y) (.num (1+r4))) (bo++[Sm.set y (.op "+" (.cell y) (.num 1))]),G5,x2,tail (cF (Z1:=[↑(.ref d),↑(.ref k),↑(.ref q),↑(.int dd),↑(.str y),↑(.tup (aq bo)),↑(Sm.set y (.op "-" (.cell y) (.num 1))).i,↑(Tm.op "<" (.cell y) (.num (1+r4))).i,↑(Sm.set y (.op "+" (.cell y) (.num 1))).i]) ?_),by rw [Sm.ok];exact⟨⟨.inr (.inr (.inr (.inl rfl))),hy,by lia,by lia⟩,show 3≤20/\2≤4 by decide,snK "+" (.inl rfl)⟩,by lia,by rw [Sm.n,snN];show 3+2+_≤_;lia,by rw [Sm.deep];lia,b5,oo⟩
   rw [hJ,snI]
   generalize (Sm.set y (.op "-" (.cell y) (.num 1))).i=z1
   generalize (Sm.set y (.op "+" (.cell y) (.num 1))).i=z2
   generalize (Tm.op "<" (.cell y) (.num (1+r4))).i=z3
   simp! [e5,jE,mY,oK,hl,eA]
end
section
variable {d l k q:Nat}{S:Scn}
def wK(x:Str)(t:Tm):(Sm.set x t).n=t.size+1:=by rw [Sm.n]
def mn(x:Str)(t:Tm):(Sm.set x t).deep=1:=by rw [Sm.deep]<;>(intros;contradiction)
def mq(x:Str)(a b:Tm):(Sm.put x a b).deep=1:=by rw [Sm.deep]<;>(intros;contradiction)
def zC(x:Str):(Sm.call x).deep=1:=by rw [Sm.deep]<;>(intros;contradiction)
def FW{n dd x:Nat}{G:List M}(hdd:dd≤3)(hx1:1≤x)(b:Bs G d l k q S x)(hb:dd<3->∀{x:Nat} {G:List M},Bs G d l k q S x->zB d l k q S (dd+1) x G (eX n))(hr:dd<3->∀{x:Nat} {G:List M},1≤x->Bs G d l k q S x->pG d l k q S dd x G (kE n)):pG d l k q S dd x G (iq (n+1)):=by
 obtain⟨fm,G1,e1,p0,p1,b1,o1⟩:=b.draw (many:=10) (by decide) (by decide)
 obtain⟨Z,hδ⟩:∃Z:De,Z=[↑(.ref d),↑(.ref k),↑(.ref q),↑(.int dd),↑(.int fm),none,none,none]:=⟨_,rfl⟩
 have st:aG (bd (af (aa 0) (af (ag (.int 10)) ae)) (ax 2 aS)) (aB 4) [↑(.ref d),↑(.ref k),↑(.ref q),↑(.int dd),none,none,none,none] G=some (.nx Z G1):=by
  subst hδ;simp! [e1]
 have ed:((dd+1:Nat):Int)=(dd:Int)+1:=by lia
 have hi:((dd:Int)<3)=(dd<3):=propext ⟨λz=>by lia,λz=>by lia⟩
 have c1:eF (ao (ah bP (aa 4) (ag (.int 0)))) (ao (ah eG (aa 3) (ag (.int 3)))) Z G1=some (decide (fm=0/\dd<3),Z,G1):=by
  subst hδ
  by_cases h:fm=0
  ·simp! [h,hi]
  ·have hb:(fm == 0)=false:=beq_eq_false_iff_ne.mpr h
   simp! [hb,h]
 have c2:eF (ao (ah eG (aa 4) (ag (.int 3)))) (ao (ah eG (aa 3) (ag (.int 3)))) Z G1=some (decide (fm<3/\dd<3),Z,G1):=by
  subst hδ
  by_cases h:fm<3
  ·simp! [h,hi]
  ·simp! [h]
 have c3:eF (ao (ah eG (aa 4) (ag (.int 6)))) (ao (ah gT (bd (af (ah ak (aa 1) (ag (.str "defs"))) ae) aO) (ag (.int 0)))) Z G1=some (decide (fm<6/\0<S.ds.length),Z,G1):=by
  subst hδ
  by_cases h:fm<6
  ·simp! [h,b1.s.s,b1.s.f,wG]
  ·simp! [h]
 have c4:eF (ao (ah bP (aa 4) (ag (.int 6)))) (ao (ah gT (bd (af (ah ak (aa 1) (ag (.str "rows"))) ae) aO) (ag (.int 0)))) Z G1=some (decide (fm=6/\0<S.rs.length),Z,G1):=by
  subst hδ
  by_cases h:fm=6
  ·simp! [h,b1.s.s,b1.s.r,j7]
  ·have hb:(fm == 6)=false:=beq_eq_false_iff_ne.mpr h
   simp! [hb,h]
 by_cases h1:fm=0/\dd<3
 ·rw [decide_eq_true h1] at c1
  obtain⟨bo,G2,x2,e2,k2,l2,n2,d2,bO,_,b2,o2⟩:=hb h1.2 b1
  obtain⟨t,G3,e3,t1,t2,t3,b3,o3⟩:=b2.term 5 (by lia)
  obtain⟨bc,G4,x4,e4,k4,l4,n4,d4,len4,_,b4,o4⟩:=hb h1.2 b3
  rw [ed] at e2 e4
  have e3':eP 12 [.im (.ref d),.im (.ref k),.im (.int 5)] G2=some (.im t.i,G3):=e3
  refine⟨.ite t bo bc,G4,x4,?_,by rw [Sm.ok];exact⟨t1,⟨by lia,t3⟩,k2,k4⟩,by lia,by rw [Sm.n];lia,by rw [Sm.deep];lia,b4,((o1.trans o2).trans o3).trans o4⟩
  refine aJ rfl (aj st (b6 (bS c1 (aj (bC (x:=.im (.tup (aq bo))) (Z1:=Z) (G1:=G2) (by subst hδ;simp! [e2]) rfl) ?_))))
  subst hδ
  simp! [e3',e4,Sm.i]
 rw [decide_eq_false h1] at c1
 by_cases h2:fm<3/\dd<3
 ·rw [decide_eq_true h2] at c2
  obtain⟨s,G2,x2,e2,k2,l2,n2,d2,b2,o2⟩:=hr h2.2 hx1 b1
  refine⟨s,G2,x2,?_,k2,l2,n2,d2,b2,o1.trans o2⟩
  refine aJ rfl (aj st (aj (aL c1 rfl) (b6 (bS c2 ?_))))
  subst hδ
  simp! [e2]
 rw [decide_eq_false h2] at c2
 by_cases h3:fm<6/\0<S.ds.length
 ·rw [decide_eq_true h3] at c3
  obtain⟨r,G2,y,e2,ey,hy,s2,o2⟩:=b1.s.dfn h3.2
  refine⟨.call y,G2,x,?_,by rw [Sm.ok];exact hy,ze _,by rw [Sm.n];lia,by rw [zC];lia,b1.oth s2 o2,o1.trans (o2.o3 q)⟩
  refine aJ rfl (aj st (aj (aL c1 rfl) (aj (aL c2 rfl) (b6 (bS c3 ?_)))))
  subst hδ
  simp! [b1.s.s,b1.s.f,s2.s,s2.f,wG,e2,ey,Sm.i]
 rw [decide_eq_false h3] at c3
 by_cases h4:fm=6/\0<S.rs.length
 ·rw [decide_eq_true h4] at c4
  obtain⟨r,G2,y,e2,ey,hy,s2,o2⟩:=b1.s.row h4.2
  obtain⟨ta,G3,e3,a1,a2,a3,b3,o3⟩:=(b1.oth s2 o2).term 3 (by lia)
  obtain⟨tb,G4,e4,t1,t2,t3,b4,o4⟩:=b3.term 7 (by lia)
  have e3':eP 12 [.im (.ref d),.im (.ref k),.im (.int 3)] G2=some (.im ta.i,G3):=e3
  have e4':eP 12 [.im (.ref d),.im (.ref k),.im (.int 7)] G3=some (.im tb.i,G4):=e4
  refine⟨.put y ta tb,G4,x,?_,by rw [Sm.ok];exact⟨hy,a1,t1,⟨by lia,a3⟩,⟨by lia,t3⟩⟩,ze _,by rw [Sm.n];lia,by rw [mq];lia,b4,((o1.trans (o2.o3 q)).trans o3).trans o4⟩
  refine aJ rfl (aj st (aj (aL c1 rfl) (aj (aL c2 rfl) (aj (aL c3 rfl) (b6 (bS c4 (aj (bC (x:=.im (.str y)) (Z1:=Z) (G1:=G2) ?_ rfl) ?_)))))))
  ·subst hδ
   simp! [b1.s.s,b1.s.r,s2.s,s2.r,j7,e2,ey]
  ·subst hδ
   simp! [e3',e4',Sm.i]
 rw [decide_eq_false h4] at c4
 obtain⟨r,G2,y,e2,ey,hy,s2,o2⟩:=b1.s.cell
 have b2:=b1.oth s2 o2
 have sx:aG (ah ak (ah ak (aa 1) (ag (.str "cells"))) (bd (af (aa 0) (af (bd (af (ah ak (aa 1) (ag (.str "cells"))) ae) aO) ae)) (ax 2 aS))) (aB 7) Z G1=some (.nx [↑(.ref d),↑(.ref k),↑(.ref q),↑(.int dd),↑(.int fm),none,none,↑(.str y)] G2):=by
  subst hδ
  simp! [b1.s.s,b1.s.c,s2.s,s2.c,pD,e2,ey]
 obtain⟨v,G4,e4,v0,v1,b4,o4⟩:=b2.draw (many:=3) (by decide) (by decide)
 obtain⟨rm,em,hm⟩:∃rm:Nat,dg [I.int 3,I.int 9,I.int 20] v=some (.int rm)/\rm≤20:=by
  rcases (show v=0∨v=1∨v=2 by lia) with z|z|z<;>subst z
  ·exact⟨3,dh _ _,by decide⟩
  ·exact⟨9,eA _ _ _,by decide⟩
  ·exact⟨20,mj _ _ _ _,by decide⟩
 obtain⟨t,G5,e5,t1,t2,t3,b5,o5⟩:=b4.term rm (by lia)
 refine⟨.set y t,G5,x,?_,by rw [Sm.ok];exact⟨hy,t1,by lia,t3⟩,ze _,by rw [wK];lia,by rw [mn];lia,b5,((o1.trans (o2.o3 q)).trans o4).trans o5⟩
 refine aJ rfl (aj st (aj (aL c1 rfl) (aj (aL c2 rfl) (aj (aL c3 rfl) (aj (aL c4 rfl) (aj sx ?_))))))
 simp! [e4,em,e5,Sm.i]
end
section
variable {d l k q:Nat}{S:Scn}
abbrev y92(n:Nat):SF:=aE (ao (ah gT (ah ak (aa 2) (ag (.int 0))) (ag (.int 1))))
 (ai (cM (aa 2) (ag (.int 0)) (ah cL (ah ak (aa 2) (ag (.int 0))) (ag (.int 1))))
 (cJ (gn ik (aa 4) (af (bd (af (aa 0) (af (aa 1) (af (aa 2) (af (aa 3) ae)))) (ax 4 (iq n))) ae))))
 aM
def y94{n dd x:Nat}{G:List M}{bs:List Sm}{v:Option Vl}(b:Bs G d l k q S x)(hl:bs.length≤2000)(hs:∀{x:Nat} {G:List M},1≤x->Bs G d l k q S x->pG d l k q S dd x G (iq n)) :
  ∃bs' G' x',y92 n [↑(.ref d),↑(.ref k),↑(.ref q),↑(.int dd),↥(aq bs),v] G=some (.nx [↑(.ref d),↑(.ref k),↑(.ref q),↑(.int dd),↥(aq (bs++bs')),v] G')/\aX S bs'/\x'≤x/\aP bs'≤21*(x-x')/\cu bs'≤4-dd/\bs'.length≤1/\(bs'.length=0->x'=x)/\Bs G' d l k q S x'/\Ot3 d l q G G':=by
 by_cases h:1<x
 ·obtain⟨b1,o1⟩:=b.set (x-1)
  have ex:((x-1:Nat):Int)=(x:Int)-1:=by lia
  obtain⟨s,G2,x2,e2,k2,l2,n2,d2,b2,o2⟩:=hs (by lia) b1
  refine⟨[s],G2,x2,?_,by rw [aX,aX];exact⟨k2,trivial⟩,by lia,by rw [aP,aP];lia,by rw [cu,cu];lia,ze _,λh=>by simp at h,b2,o1.trans o2⟩
  have hx:(1:Int)<x:=by lia
  have hn:(aq bs).length<1000000:=by rw [dO];lia
  refine bS (Z1:=[↑(.ref d),↑(.ref k),↑(.ref q),↑(.int dd),↥(aq bs),v]) (G1:=G) (by simp! [b.qa,dh,hx]) ?_
  refine aj (Z1:=[↑(.ref d),↑(.ref k),↑(.ref q),↑(.int dd),↥(aq bs),v]) (G1:=G.set q (.lst [.int (x-1:Nat)])) (by rw [ex];simp! [b.qa,dh,gC]) ?_
  rw [iS,aq,aq]
  simp! [e2,hn]
 ·refine⟨[],G,x,?_,by rw [aX];trivial,ze _,by rw [aP];lia,by rw [cu];lia,Nat.zero_le _,λ_=>rfl,b,Ot3.refl _ _ _ _⟩
  have hx:¬ (1:Int)<x:=by lia
  rw [z10]
  refine aL (Z1:=[↑(.ref d),↑(.ref k),↑(.ref q),↑(.int dd),↥(aq bs),v]) (G1:=G) (by simp! [b.qa,dh,hx]) rfl
def y93{n dd x:Nat}{G:List M}(hd:dd≤3)(b:Bs G d l k q S x)(hs:∀{x:Nat} {G:List M},1≤x->Bs G d l k q S x->pG d l k q S dd x G (iq n)):zB d l k q S dd x G (eX (n+1)):=by
 obtain⟨A,hA⟩:∃A:List M,A=[M.lst [.int 5,.int 13],M.lst [.int 4,.int 8],M.lst [.int 3,.int 6],M.lst [.int 3,.int 3]]:=⟨_,rfl⟩
 obtain⟨b0,oA⟩:=b.app A
 obtain⟨r0,G0,e0,u0,u1,b0',o0⟩:=b0.draw (many:=2) (by decide) (by decide)
 obtain⟨mo,em,m0,m1⟩:∃mo:Int,ah ak (ah ak (bd (af (aY (bd (af (ag (.int 5)) (af (ag (.int 13)) ae)) aN)) (af (aY (bd (af (ag (.int 4)) (af (ag (.int 8)) ae)) aN)) (af (aY (bd (af (ag (.int 3)) (af (ag (.int 6)) ae)) aN)) (af (aY (bd (af (ag (.int 3)) (af (ag (.int 3)) ae)) aN)) ae)))) aN) (aa 3)) (bd (af (aa 0) (af (ag (.int 2)) ae)) (ax 2 aS)) [↑(.ref d),↑(.ref k),↑(.ref q),↑(.int dd),↥(aq []),none] G=some (⇑(.int mo),[↑(.ref d),↑(.ref k),↑(.ref q),↑(.int dd),↥(aq []),none],G0)/\0<mo/\mo≤1000:=by
  have at_:∀(j:Nat) (m:M),A[j]?=some m->G0[G.length+j]?=some m:=λj m h=>by
   have hj:=(z14.mp h).1
   have:=b.lt
   rw [o0.at_ _ (by rw [za];lia) (by lia) (by lia) (by lia),z18 (by lia),Nat.add_sub_cancel_left];exact h
  have ev:ah ak (bd (af (aY (bd (af (ag (.int 5)) (af (ag (.int 13)) ae)) aN)) (af (aY (bd (af (ag (.int 4)) (af (ag (.int 8)) ae)) aN)) (af (aY (bd (af (ag (.int 3)) (af (ag (.int 6)) ae)) aN)) (af (aY (bd (af (ag (.int 3)) (af (ag (.int 3)) ae)) aN)) ae)))) aN) (aa 3) [↑(.ref d),↑(.ref k),↑(.ref q),↑(.int dd),↥(aq []),none] G=some (⇑(.ref (G.length+dd)),[↑(.ref d),↑(.ref k),↑(.ref q),↑(.int dd),↥(aq []),none],G++A):=by
   rw [hA]
   rcases (show dd=0∨dd=1∨dd=2∨dd=3 by lia) with z|z|z|z<;>subst z<;>simp! [dh,eA,mj,wC]
  obtain⟨a,c,hac,ha,hc⟩:∃a c:Int,A[dd]?=some (M.lst [.int a,.int c])/\(0<a/\a≤1000)/\(0<c/\c≤1000):=by
   rw [hA]
   rcases (show dd=0∨dd=1∨dd=2∨dd=3 by lia) with z|z|z|z<;>subst z<;>exact⟨_,_,rfl,by decide,by decide⟩
  have g1:=at_ dd _ hac
  rcases (show r0=0∨r0=1 by lia) with z|z<;>subst z
  ·exact⟨a,aF ev (av (a:=[⇑(.ref d),⇑(.int 2)]) rfl (cB (xs:=[.im (.ref d),.im (.int 2)]) rfl rfl e0)) (by simp! [g1,dh]),ha⟩
  ·exact⟨c,aF ev (av (a:=[⇑(.ref d),⇑(.int 2)]) rfl (cB (xs:=[.im (.ref d),.im (.int 2)]) rfl rfl e0)) (by simp! [g1,eA]),hc⟩
 obtain⟨r,G1,e1,p0,p1,b1,o1'⟩:=b0'.draw (many:=mo) m0 (Int.lt_of_le_of_lt m1 (by decide))
 have o1:=(oA.trans o0).trans o1'
 obtain⟨N,hN⟩:=Int.eq_ofNat_of_zero_le p0
 obtain⟨Z',G',ef,bs,v,x',ed,kk,ll,nn,dp,len,em0,bb,oo⟩:=hI (w:=jb N) (g:=aB 5) (b:=y92 n) (λi Z G'=>∃(bs:List Sm) (v:Option Vl) (x':Nat),Z=[↑(.ref d),↑(.ref k),↑(.ref q),↑(.int dd),↥(aq bs),v]/\aX S bs/\x'≤x/\aP bs≤21*(x-x')/\cu bs≤4-dd/\bs.length≤i/\(bs.length=0->x'=x)/\Bs G' d l k q S x'/\Ot3 d l q G1 G')
  (λi Z g hi p=>by
   obtain⟨bs,v,x',rfl,kk,ll,nn,dp,len,em0,bb,oo⟩:=p
   have hi':i<N:=hi
   obtain⟨bs',g',x2,e2,k2,l2,n2,d2,bO,em2,b2,o2⟩:=y94 (n:=n) (dd:=dd) (bs:=bs) (v:=↑(.int i)) bb (by lia) hs
   refine⟨.int i,_,g,_,g',rfl,rfl,e2,bs++bs',_,x2,rfl,(pF _ _).mpr ⟨kk,k2⟩,by lia,by rw [eB];lia,by rw [pE];lia,by rw [za];lia,λh=>by rw [za] at h;have:=em0 (by lia);have:=em2 (by lia);lia,b2,oo.trans o2⟩)
  (λZ g p=>rfl) N 0 [↑(.ref d),↑(.ref k),↑(.ref q),↑(.int dd),↥(aq []),none] G1 (by rw [j5];lia) ⟨[],none,x,rfl,by rw [aX];trivial,ze _,by rw [aP];lia,by rw [cu];lia,Nat.zero_le _,λ_=>rfl,b1,Ot3.refl _ _ _ _⟩
 subst ed
 have len':bs.length≤N:=len
 refine⟨bs,G',x',?_,kk,ll,nn,dp,by lia,em0,bb,o1.trans oo⟩
 refine aJ rfl (aj (bC (x:=.ow (.lst (aq []))) (Z1:=[↑(.ref d),↑(.ref k),↑(.ref q),↑(.int dd),none,none]) (G1:=G) (by rw [aq];simp! []) rfl) (aj (b7 (hG (n:=N) (j:=r) (Z1:=[↑(.ref d),↑(.ref k),↑(.ref q),↑(.int dd),↥(aq []),none]) (G1:=G1) ?_ hN (by lia)) ef) ?_))
 ·exact av (a:=⇑(.int r)) (av (a:=[⇑(.ref d),⇑(.int mo)]) (av rfl (av (av em rfl) rfl)) (cB (xs:=[.im (.ref d),.im (.int mo)]) rfl rfl e1)) rfl
 ·simp! [cz]
theorem zD:∀n:Nat,(∀(dd:Nat) {x:Nat} {G:List M},dd<3->3*(3-dd)≤n->1≤x->Bs G d l k q S x->pG d l k q S dd x G (kE n)) /\
  (∀(dd:Nat) {x:Nat} {G:List M},dd≤3->1+3*(3-dd)≤n->1≤x->Bs G d l k q S x->pG d l k q S dd x G (iq n)) /\
  (∀(dd:Nat) {x:Nat} {G:List M},dd≤3->2+3*(3-dd)≤n->Bs G d l k q S x->zB d l k q S dd x G (eX n))
 | 0=>⟨λdd _ _ h1 h2 _ _=>by lia,λdd _ _ h1 h2 _ _=>by lia,λdd _ _ h1 h2 _=>by lia⟩
 | n+1=>by
  obtain⟨i1,i2,i3⟩:=zD n
  exact⟨λdd _ _ h1 h2 hx b=>FV h1 hx b (λb'=>i3 (dd+1) (by lia) (by lia) b'),λdd _ _ h1 h2 hx b=>FW h1 hx b (λh {x} {G} b'=>i3 (dd+1) (by lia) (by lia) b') (λh {x} {G} hx b'=>i1 dd h (by lia) hx b'),λdd _ _ h1 h2 b=>y93 h1 b (λhx b'=>i2 dd h1 (by lia) hx b')⟩
end
section
variable {d l:Nat}
def pH{m:Nat}{zs:List Str}(h:∀z∈zs,z.length≤m):(Txt.join "" zs).length≤zs.length*m:=by
 unfold Txt.join
 rw [StrLaws.glued_eq_join]
 have h1:=StrLaws.join_length_le "" zs
 have h2:(zs.map (·.length)).sum≤zs.length*m:=by
  clear h1
  induction zs with
  | nil=>simp
  | cons z zs ih =>
   rw [z16,List.sum_cons,z11,Nat.add_mul]
   have:=h z List.mem_cons_self
   have:=ih λy hy=>h y (z23 _ hy)
   lia
 have h3:("" : Str).length=0:=by decide +kernel
 rw [h3,Nat.mul_zero] at h1
 lia
def FX{m:Nat}{zs:List Str}(h:∀z∈zs,z.length≤m):(zs.map (·.length)).sum≤zs.length*m:=by
 induction zs with
 | nil=>simp
 | cons z zs ih =>
  rw [z16,List.sum_cons,z11,Nat.add_mul]
  have:=h z List.mem_cons_self
  have:=ih λy hy=>h y (z23 _ hy)
  lia
def FY{k:Nat}(h:k<26):("abcdefghijklmnopqrstuvwxyz" : Str).cps.toList[k]?=some (97+k):=by
 have e:("abcdefghijklmnopqrstuvwxyz" : Str).cps.toList=(List.range 26).map (97 + ·):=by decide +kernel
 rw [e,List.getElem?_map,List.getElem?_range h];rfl
def wL{r:Int}{Z:De}{G:List M}(h0:0≤r)(h1:r<26):ak [⇑(.str "abcdefghijklmnopqrstuvwxyz"),⇑(.int r)] Z G=some (⇑(.str ⟨#[97+r.toNat]⟩),Z,G):=by
 have hc:dg ("abcdefghijklmnopqrstuvwxyz" : Str).cps.toList r=some (97+r.toNat):=by
  obtain⟨j,rfl⟩:=Int.eq_ofNat_of_zero_le h0
  exact kX (FY (by lia))
 have hl:("abcdefghijklmnopqrstuvwxyz" : Str).length≤1000000:=by rw [show ("abcdefghijklmnopqrstuvwxyz" : Str).length=26 by decide +kernel];lia
 generalize ("abcdefghijklmnopqrstuvwxyz" : Str)=z at hc hl
 simp [ak,bW,dX,sq,pk,hc,hl]
def FZ{r:Int}{Z:De}{G:List M}(h0:0≤r)(h1:r<26):∃s:Str,ak [⇑(.str "abcdefghijklmnopqrstuvwxyz"),⇑(.int r)] Z G=some (⇑(.str s),Z,G)/\s.length≤1:=⟨_,wL h0 h1,ze _⟩
def F0{x:Str}{j:Int}(h0:0≤j)(h1:j≤x.length):(Txt.slice x none (some j)).length=j.toNat:=by
 have e:=PyProof.Rows.slice_closes_to (x:=x) (j:=j) ⟨h0,by rw [Array.length_toList];exact h1⟩
 rw [eq_of_beq e]
 show (List.toArray _).size=_
 rw [zc,z2d,z2f,Array.length_toList]
 have:x.cps.size=x.length:=rfl
 have z:(0:Int).toNat=0:=rfl
 rw [z]
 lia
def F1(x y:Str):(x++y).cps.toList=x.cps.toList++y.cps.toList:=by
 show (x.cps++y.cps).toList=_
 exact Array.toList_append
def y7b{x z:Str}{c:Nat}{n:Nat}(h:x.length=n):(x++(⟨#[c]⟩++z)).cps.toList[n]?=some c:=by
 rw [F1,F1,z18 (by rw [Array.length_toList];show x.length≤n;lia),Array.length_toList]
 have:n-x.cps.size=0:=by show n-x.length=0;lia
 rw [this]
 rfl
def y7a{x y:Str}{c n:Nat}(h:x.cps.toList[n]?=some c):(x++y).cps.toList[n]?=some c:=by
 rw [F1,z1a (z14.mp h).1]
 exact h
abbrev eE(n:Nat)(t:Int)(ws:List Str):Prop:=∀(j:Nat) (u:Str),ws[j]?=some u->u.cps.toList[n]?=some (97+((t+7*(j:Int)) % 26).toNat)
def eE.nodup{n:Nat}{t:Int}{ws:List Str}(hl:ws.length≤26)(h:eE n t ws):ws.Nodup:=by
 rw [List.Nodup,List.pairwise_iff_getElem]
 intro i j hi hj hij e
 have h1:=h i _ (z1d hi)
 have h2:=h j _ (z1d hj)
 rw [e,h2] at h1
 have h3:=z1f h1
 have a1:=Int.emod_nonneg (t+7*(i:Int)) (by decide:(26:Int)≠0)
 have a2:=Int.emod_nonneg (t+7*(j:Int)) (by decide:(26:Int)≠0)
 lia
def F3{ws:List Str}{y:Str}{r:Nat}(h:ws.Nodup)(hy:y∉ws):(ws.set r y).Nodup:=by
 rw [List.Nodup,List.pairwise_iff_getElem] at h ⊢
 intro i j hi hj hij
 rw [z2b] at hi hj
 rw [List.getElem_set,List.getElem_set]
 by_cases h1:r=i
 ·rw [if_pos h1]
  by_cases h2:r=j
  ·lia
  ·rw [if_neg h2]
   intro e
   exact hy (e ▸ z33 hj)
 ·rw [if_neg h1]
  by_cases h2:r=j
  ·rw [if_pos h2]
   intro e
   exact hy (e ▸ z33 hi)
  ·rw [if_neg h2]
   exact h i j hi hj hij
def ycd{G:List M}{N:Nat}{Z:De}(D:DG G d l):∃(zs:List Str) (G':List M),dH (jb N) c1 a9 (ah ak (aa 1) (bd (af (aa 2) (af (ag (.int 26)) ae)) (ax 2 aS))) [↑(.str "abcdefghijklmnopqrstuvwxyz"),↑(.ref d)] 0 N [] Z G=some (zs.map I.str,G')/\zs.length=N/\(∀z∈zs,z.length≤1)/\DG G' d l/\Oth d l G G':=by
 obtain⟨ds,G',e,zs,ed,lz,hz,D',o⟩:=qb (w:=jb N) (c:=c1) (tt:=a9) (te:=ah ak (aa 1) (bd (af (aa 2) (af (ag (.int 26)) ae)) (ax 2 aS))) (di:=[↑(.str "abcdefghijklmnopqrstuvwxyz"),↑(.ref d)]) (Z:=Z)
  (λi acc G'=>∃zs:List Str,acc=zs.map I.str/\zs.length=i/\(∀z∈zs,z.length≤1)/\DG G' d l/\Oth d l G G')
  (λi acc g hi zz=>by
   obtain⟨zs,ea,lz,hz,D,o⟩:=zz
   obtain⟨r,g1,e1,p0,p1,D1,o1⟩:=bT (many:=26) D (by decide) (by decide)
   obtain⟨s,es,ls⟩:=FZ (Z:=[↑(.int i),↑(.str "abcdefghijklmnopqrstuvwxyz"),↑(.ref d)]) (G:=g1) p0 p1
   refine⟨.int i,[.int i],_,_,.str s,[↑(.int i),↑(.str "abcdefghijklmnopqrstuvwxyz"),↑(.ref d)],g1,rfl,rfl,rfl,?_,zs++[s],by rw [ea,z25];rfl,by rw [za,lz];rfl,λz hm=>?_,D1,o.trans o1⟩
   ·exact aF rfl (av (a:=[⇑(.ref d),⇑(.int 26)]) rfl (cB (xs:=[.im (.ref d),.im (.int 26)]) rfl rfl e1)) es
   ·rcases z13.mp hm with q|q
    ·exact hz z q
    ·have:z=s:=by simpa using q
     subst this;exact ls)
  (λ_ _ _=>rfl) N 0 [] G (by rw [j5];lia) ⟨[],rfl,rfl,λ_ h=>(by cases h),D,Oth.refl _ _ _⟩
 exact⟨zs,G',by rw [ed] at e;exact e,lz,hz,D',o⟩
def wM:("" : Str).length=0:=by decide +kernel
def wN:("z" : Str).length=1:=by decide +kernel
def F4{G:List M}{core:Str}{a t:Int}{ys:List Str}{v1 v8 v9 v10 v11:Option Vl}{v0:Option Vl}{i:Nat}(hc:core.length≤100)(a0:0≤a)(a1:a≤core.length)(h0:0≤t)(hl:ys.length≤1000) :
  ∃(y:Str) (v8':Option Vl),zg [v0,v1,↑(.str "abcdefghijklmnopqrstuvwxyz"),↑(.str core),↑(.int a),↑(.int t),↥(ys.map I.str),↑(.int i),v8,v9,v10,v11] G=some (.nx [v0,v1,↑(.str "abcdefghijklmnopqrstuvwxyz"),↑(.str core),↑(.int a),↑(.int t),↥((ys++[y]).map I.str),↑(.int i),v8',v9,v10,v11] G)/\y.length≤202/\y.cps.toList[a.toNat]?=some (97+((t+7*(i:Int)) % 26).toNat):=by
 have r0:0≤(t+7*(i:Int)) % 26:=Int.emod_nonneg _ (by decide)
 have r1:(t+7*(i:Int)) % 26<26:=Int.emod_lt_of_pos _ (by decide)
 have es:=wL (Z:=[v0,v1,↑(.str "abcdefghijklmnopqrstuvwxyz"),↑(.str core),↑(.int a),↑(.int t),↥(ys.map I.str),↑(.int i),v8,v9,v10,v11]) (G:=G) r0 r1
 have mid:=y7b (z:=Txt.slice core (some a) none) (c:=97+((t+7*(i:Int)) % 26).toNat) (F0 a0 a1)
 obtain⟨s,hs⟩:∃s:Str,s=⟨#[97+((t+7*(i:Int)) % 26).toNat]⟩:=⟨_,rfl⟩
 have ls:s.length≤1:=by rw [hs];exact ze _
 rw [<- hs] at es mid
 obtain⟨e,ee,le⟩:∃e:Str,dg [I.str "",I.str "z"] ((i:Int) % 5 / 4)=some (.str e)/\e.length≤1:=by
  rcases (show (i:Int) % 5 / 4=0∨(i:Int) % 5 / 4=1 by lia) with z|z<;>rw [z]
  ·exact⟨_,dh _ _,by rw [wM];lia⟩
  ·exact⟨_,eA _ _ _,by rw [wN];lia⟩
 have l1:=Txt.slice_le core none (some a)
 have l2:=Txt.slice_le core (some a) none
 have ap:∀x y:Str,(x++y).length=x.length+y.length:=λx y=>strLen_append x y
 have hc':core.length≤1000000:=by lia
 have c0:s.length+(Txt.slice core (some a) none).length≤1000000:=by lia
 refine⟨Txt.slice core none (some a)++(s++Txt.slice core (some a) none)++e,↑(.str (s++Txt.slice core (some a) none)),?_,by rw [ap,ap,ap];lia,y7a mid⟩
 refine aj (bC (x:=.im (.str (s++Txt.slice core (some a) none))) (Z1:=[v0,v1,↑(.str "abcdefghijklmnopqrstuvwxyz"),↑(.str core),↑(.int a),↑(.int t),↥(ys.map I.str),↑(.int i),v8,v9,v10,v11]) (G1:=G) (aF (aF rfl (r:=some (⇑(.str s),_,G)) (y:=⇑(.int ((t+7*(i:Int)) % 26))) (by simp! []) es) (y:=⇑(.str (Txt.slice core (some a) none))) (Z2:=[v0,v1,↑(.str "abcdefghijklmnopqrstuvwxyz"),↑(.str core),↑(.int a),↑(.int t),↥(ys.map I.str),↑(.int i),v8,v9,v10,v11]) (G2:=G) (by simp! [a7,aW,aZ,lZ,gX,hc']) (by simp [bu,bW,oM,bJ,jE,c0])) rfl) ?_
 have c1:(Txt.slice core none (some a)).length+(s++Txt.slice core (some a) none).length≤1000000:=by rw [ap];lia
 have c3:(Txt.slice core none (some a)++(s++Txt.slice core (some a) none)).length+e.length≤1000000:=by rw [ap,ap];lia
 have hn:ys.length<1000000:=by lia
 generalize s++Txt.slice core (some a) none=ow at c1 c3
 simp! [a7,aW,aZ,lZ,gX,jE,hc',c1,c3,ee,hn]
end
section
variable {d l:Nat}
abbrev bN:List I:=[.str "cell",.str "row",.str "def",.str "main",.str "set",.str "put",.str "while",.str "if",.str "else",.str "call",.str "end",.str "at"]
abbrev c9:List I:=[.str "cells",.str "de",.str "mains",.str "setx",.str "ends",.str "atx",.str "i",.str "calls"]
def F5:bN.all cS=true:=rfl
def wO:("q" : Str).length≤1000:=by decide +kernel
def F6:(Txt.mul "q" 0).length≤1:=by decide +kernel
def F7:(Txt.mul "q" 1).length≤1:=by decide +kernel
def wQ{y:Str}{G:List M}(hy:y.length≤1000):∃z:Str,ah bu (aa 0) (ah c7 (ag (.str "q")) (bd (af (ah fR (aa 0) (aa 1)) ae) dN)) [↑(.str y),↑(.tup bN)] G=some (⇑(.str z),[↑(.str y),↑(.tup bN)],G)/\z.length≤y.length+1/\∃w,z=y++w:=by
 obtain⟨b,eb⟩:∃b,ah fR (aa 0) (aa 1) [↑(.str y),↑(.tup bN)] G=some (⇑(.bl b),[↑(.str y),↑(.tup bN)],G):=by
  refine⟨bN.any λz=>bZ z (.str y),aF rfl rfl ?_⟩
  have h:(cS (.str y)&&bN.all cS)=true:=by rw [F5];rfl
  simp [fR,bW,ij,sq,h]
 have e1:bd (af (ah fR (aa 0) (aa 1)) ae) dN [↑(.str y),↑(.tup bN)] G=some (⇑(.int (if b then 1 else 0)),[↑(.str y),↑(.tup bN)],G):=av (av eb rfl) rfl
 have ap:∀x y:Str,(x++y).length=x.length+y.length:=λx y=>strLen_append x y
 obtain⟨j,hj,hl⟩:∃j:Int,(if b then (1:Int) else 0)=j/\(0≤j/\j≤1000)/\(Txt.mul "q" j).length≤1:=by
  cases b
  ·exact⟨0,rfl,⟨by decide,by decide⟩,F6⟩
  ·exact⟨1,rfl,⟨by decide,by decide⟩,F7⟩
 rw [hj] at e1
 have e2:ah c7 (ag (.str "q")) (bd (af (ah fR (aa 0) (aa 1)) ae) dN) [↑(.str y),↑(.tup bN)] G=some (⇑(.str (Txt.mul "q" j)),[↑(.str y),↑(.tup bN)],G):=by
  refine aF rfl e1 ?_
  have q:=wO
  generalize ("q" : Str)=qs at q ⊢
  simp [c7,bW,oN,bJ,lR,lS,pk,hl.1.1,hl.1.2,q]
 refine⟨y++Txt.mul "q" j,aF rfl e2 ?_,by rw [ap];lia,_,rfl⟩
 have hs:y.length+(Txt.mul "q" j).length≤1000000:=by lia
 generalize Txt.mul "q" j=zz at hs
 simp [bu,bW,oM,bJ,jE,hs]
def F8{G:List M}{core:Str}{a t:Int}{v0 v1 v7 v8 v9 v10 v11:Option Vl}{N:Nat}(hc:core.length≤100)(a0:0≤a)(a1:a≤core.length)(h0:0≤t)(hN:N≤1000) :
  ∃(ys:List Str) (v7' v8':Option Vl),aV (jb N) (aB 7) zg 0 N [v0,v1,↑(.str "abcdefghijklmnopqrstuvwxyz"),↑(.str core),↑(.int a),↑(.int t),↥[],v7,v8,v9,v10,v11] G=some (.nx [v0,v1,↑(.str "abcdefghijklmnopqrstuvwxyz"),↑(.str core),↑(.int a),↑(.int t),↥(ys.map I.str),v7',v8',v9,v10,v11] G)/\ys.length=N/\(∀y∈ys,y.length≤202)/\eE a.toNat t ys:=by
 obtain⟨Z',G',e,ys,v7',v8',ed,ly,hy,ha,eg⟩:=hI (w:=jb N) (g:=aB 7) (b:=zg) (λi Z G'=>∃(ys:List Str) (v7 v8:Option Vl),Z=[v0,v1,↑(.str "abcdefghijklmnopqrstuvwxyz"),↑(.str core),↑(.int a),↑(.int t),↥(ys.map I.str),v7,v8,v9,v10,v11]/\ys.length=i/\(∀y∈ys,y.length≤202)/\eE a.toNat t ys/\G'=G)
  (λi Z g hi p=>by
   obtain⟨ys,v7,v8,rfl,ly,hy,ha,rfl⟩:=p
   have hi:i<N:=hi
   obtain⟨y,v8',e,h,hm⟩:=F4 (G:=g) (core:=core) (a:=a) (t:=t) (ys:=ys) (v0:=v0) (v1:=v1) (v8:=v8) (v9:=v9) (v10:=v10) (v11:=v11) (i:=i) hc a0 a1 h0 (by lia)
   refine⟨.int i,_,g,_,g,rfl,rfl,e,ys++[y],_,_,rfl,by rw [za,ly];rfl,λz hz=>?_,λj u hu=>?_,rfl⟩
   rcases z13.mp hz with q|q
   ·exact hy z q
   ·have:z=y:=by simpa using q
    subst this;exact h
   ·by_cases hj:j<ys.length
    ·rw [z1a hj] at hu;exact ha j u hu
    ·rw [z18 (by lia)] at hu
     have hz:j-ys.length=0:=by
      have:=(z14.mp hu).1
      rw [List.length_singleton] at this;lia
     rw [hz] at hu
     cases hu
     rw [show j=i by lia];exact hm)
  (λZ g p=>rfl) N 0 [v0,v1,↑(.str "abcdefghijklmnopqrstuvwxyz"),↑(.str core),↑(.int a),↑(.int t),↥[],v7,v8,v9,v10,v11] G (by rw [j5];lia) ⟨[],_,_,rfl,rfl,λ_ h=>(by cases h),λj u h=>(by simp at h),rfl⟩
 exact⟨ys,v7',v8',by rw [ed,eg] at e;exact e,ly,hy,ha⟩
def F9{G:List M}{ys:List Str}{Z:De}{k n:Nat}{t:Int}(ha:eE n t ys)(hk:G[k]?=some (.lst (ys.map I.str)))(hy:∀y∈ys,y.length≤202) :
  ∃zs:List Str,dH (a6 ⇑(.ref k) ys.length) c1 a9 (ah bu (aa 0) (ah c7 (ag (.str "q")) (bd (af (ah fR (aa 0) (aa 1)) ae) dN))) [↑(.tup bN)] 0 ys.length [] Z G=some (zs.map I.str,G)/\zs.length=ys.length/\eE n t zs:=by
 obtain⟨ds,G',e,zs,ed,lz,az,eg⟩:=qb (w:=a6 ⇑(.ref k) ys.length) (c:=c1) (tt:=a9) (te:=ah bu (aa 0) (ah c7 (ag (.str "q")) (bd (af (ah fR (aa 0) (aa 1)) ae) dN))) (di:=[↑(.tup bN)]) (Z:=Z)
  (λi acc G'=>∃zs:List Str,acc=zs.map I.str/\zs.length=i/\eE n t zs/\G'=G)
  (λi acc g hi zz=>by
   obtain⟨zs,ea,lz,az,eg⟩:=zz
   have hi:i<ys.length:=hi
   subst eg
   obtain⟨z,ez,_,w,hw⟩:=wQ (G:=g) (y:=ys[i]) (by have:=hy ys[i] (z33 hi);lia)
   refine⟨.str ys[i],[.str ys[i]],_,_,.str z,_,g,?_,rfl,rfl,ez,zs++[z],by rw [ea,z25];rfl,by rw [za,lz];rfl,λj u hu=>?_,rfl⟩
   ·simp [a6,sq,pk,hk,hi]
   ·by_cases hj:j<zs.length
    ·rw [z1a hj] at hu;exact az j u hu
    ·rw [z18 (by lia)] at hu
     have hz:j-zs.length=0:=by
      have:=(z14.mp hu).1
      rw [List.length_singleton] at this;lia
     rw [hz] at hu
     cases hu
     rw [hw]
     refine y7a (ha j _ ?_)
     rw [show j=i by lia];exact z1d hi)
  (λ_ _ p=>by obtain⟨_,_,_,_,rfl⟩:=p;simp [a6,sq,pk,hk]) ys.length 0 [] G (by simp [a6]) ⟨[],rfl,rfl,λj u h=>(by simp at h),rfl⟩
 exact⟨zs,by rw [ed,eg] at e;exact e,lz,az⟩
end
section
variable {d l:Nat}
def wR{p:List Ev->Mo Ev}{fo:Mo Ev}{fa:Mo (List Ev)}{Z Z1 Z2:De}{G G1 G2:List M}{e:Ev}{es:List Ev}{r:Option (Ev×De×List M)}(h:fo Z G=some (e,Z1,G1))(hs:Eu e=true)(ha:fa Z1 G1=some (es,Z2,G2))(k:p (e::es) Z2 G2=r):vw p fo fa Z G=r:=by
 unfold vw bd;rw [h];dsimp only;rw [if_pos hs,ha];exact k
def Gf{n j:Nat}(h:j<n):gC n (j:Int)=some j:=by
 unfold gC
 rw [if_pos (by lia)]
 first|(rw [if_pos (by lia)];simp)|simp [h]
noncomputable abbrev eI:Str:="abcdefghijklmnopqrstuvwxyz"
def pI(zs:List Str):(zs.map I.str).all cS=true:=by
 induction zs with
 | nil=>rfl
 | cons z zs ih=>rw [z16,List.all_cons,ih];rfl
def wU{ws:List Str}{nm:Str}(h:true=!((ws.map I.str).any λy=>bZ y (.str nm))):nm∉ws:=λhm=>by
 have:((ws.map I.str).any λy=>bZ y (.str nm))=true:=by
  rw [List.any_eq_true]
  exact⟨.str nm,z39.mpr ⟨nm,hm,rfl⟩,by simp [bZ]⟩
 rw [this] at h
 cases h
def Gg{G:List M}(D:DG G d l):∃(ys:List Str) (G':List M),wc [.im (.ref d),.im (.int 24)] G=some (.ow (.lst (ys.map I.str)),G')/\ys.length=24/\ys.Nodup/\DG G' d l/\Mor d l G G':=by
 obtain⟨r1,G1,e1,p0,p1,D1,o1⟩:=bT (many:=5) D (by decide) (by decide)
 obtain⟨N,hN⟩:=Int.eq_ofNat_of_zero_le p0
 obtain⟨zs,G2,e2,lz,hz,D2,o2⟩:=ycd (N:=N) (Z:=[↑(.ref d),↑(.int 24),↑(.str eI),none,none,none,none,none,none,none,none,none]) D1
 have jl:=pH hz
 have sl:=FX hz
 obtain⟨core,y18a⟩:∃core,core=Txt.join "" zs:=⟨_,rfl⟩
 rw [<- y18a] at jl
 have hc:core.length≤100:=by lia
 obtain⟨r3,G3,e3,b0,b1,D3,o3⟩:=bT (many:=(core.length:Int)+1) D2 (by lia) (by lia)
 obtain⟨r4,G4,e4,q0,q1,D4,o4⟩:=bT (many:=26) D3 (by decide) (by decide)
 obtain⟨ys,v7,v8,e5,ly,hy,ap⟩:=F8 (G:=G4) (core:=core) (a:=r3) (t:=r4) (v0:=↑(.ref d)) (v1:=↑(.int 24)) (v7:=none) (v8:=none) (v9:=none) (v10:=none) (v11:=none) (N:=24) hc b0 (by lia) q0 (by decide)
 have hk:(G4++[M.lst (ys.map I.str)])[G4.length]?=some (.lst (ys.map I.str)):=by simp
 have D5:=D4.app [M.lst (ys.map I.str)]
 obtain⟨ws,e6,lw,aw⟩:=F9 (Z:=[↑(.ref d),↑(.int 24),↑(.str eI),↑(.str core),↑(.int r3),↑(.int r4),↑(.ref G4.length),v7,v8,↥c9,↑(.tup bN),none]) ap hk hy
 have wnd:=aw.nodup (by lia)
 obtain⟨r7,G7,e7,u0,u1,D7,o7⟩:=bT (many:=8) D5 (by decide) (by decide)
 obtain⟨nm,en⟩:∃nm:Str,dg c9 r7=some (.str nm):=by
  have:c9=[("cells" : Str),"de","mains","setx","ends","atx","i","calls"].map I.str:=rfl
  rw [this]
  obtain⟨x,hx,_⟩:=j8 (xs:=[("cells" : Str),"de","mains","setx","ends","atx","i","calls"]) u0 u1
  exact⟨x,hx⟩
 obtain⟨r8,G8,e8,_,_,D8,o8⟩:=bT (many:=3) D7 (by decide) (by decide)
 have mo:Mor d l G G8:=((((((o1.trans o2).trans o3).trans o4).mor).trans (Mor.app _)).trans (o7.trans o8).mor)
 have head:∀{z:Vl} {G':List M},ai (aE (eF (ao (ah bP (bd (af (aa 0) (af (ag (.int 3)) ae)) (ax 2 aS)) (ag (.int 1)))) (ao (ah dw (aa 11) (aa 6))))
   (cM (aa 6) (bd (af (aa 0) (af (aa 1) ae)) (ax 2 aS)) (aa 11)) aM) (aC (aa 6))
   [↑(.ref d),↑(.int 24),↑(.str eI),↑(.str core),↑(.int r3),↑(.int r4),↥(ws.map I.str),v7,v8,↥c9,↑(.tup bN),↑(.str nm)] G7=some (.rt z G')->wc [.im (.ref d),.im (.int 24)] G=some (z,G'):=by
  intro z G' hq
  refine aJ rfl ?_
  refine aj (bC (x:=.im (.str eI)) (Z1:=[↑(.ref d),↑(.int 24),none,none,none,none,none,none,none,none,none,none]) (G1:=G) rfl rfl) ?_
  refine aj (bC (x:=.im (.str core)) (Z1:=[↑(.ref d),↑(.int 24),↑(.str eI),none,none,none,none,none,none,none,none,none]) (G1:=G2) ?_ rfl) ?_
  ·refine wR (e:=⇑(.str "")) (Z1:=[↑(.ref d),↑(.int 24),↑(.str eI),none,none,none,none,none,none,none,none,none]) (G1:=G) rfl rfl (av (kG (by rfl) (hG (n:=N) (j:=r1) (Z1:=[↑(.ref d),↑(.int 24),↑(.str eI),none,none,none,none,none,none,none,none,none]) (G1:=G1) (by simp! [e1]) hN (by lia)) (by rw [j5];lia) e2) rfl) ?_
   have h1:(zs.map (·.length)).sum+zs.length*("" : Str).length≤1000000:=by rw [wM];lia
   rw [y18a]
   simp [jN,pk,vp,h1]
  refine aj (bC (x:=.im (.int r3)) (Z1:=[↑(.ref d),↑(.int 24),↑(.str eI),↑(.str core),none,none,none,none,none,none,none,none]) (G1:=G3) ?_ rfl) ?_
  ·have h1:core.length≤1000000:=by lia
   simp! [h1,e3]
  refine aj (bC (x:=.im (.int r4)) (Z1:=[↑(.ref d),↑(.int 24),↑(.str eI),↑(.str core),↑(.int r3),none,none,none,none,none,none,none]) (G1:=G4) (by simp! [e4]) rfl) ?_
  refine aj (bC (x:=.ow (.lst [])) (Z1:=[↑(.ref d),↑(.int 24),↑(.str eI),↑(.str core),↑(.int r3),↑(.int r4),none,none,none,none,none,none]) (G1:=G4) (by simp! []) rfl) ?_
  refine aj (b7 (hG (n:=24) (j:=24) (Z1:=[↑(.ref d),↑(.int 24),↑(.str eI),↑(.str core),↑(.int r3),↑(.int r4),↥[],none,none,none,none,none]) (G1:=G4) rfl rfl (by decide)) e5) ?_
  refine aj (bC (x:=.ow (.lst c9)) (Z1:=[↑(.ref d),↑(.int 24),↑(.str eI),↑(.str core),↑(.int r3),↑(.int r4),↥(ys.map I.str),v7,v8,none,none,none]) (G1:=G4) rfl rfl) ?_
  refine aj (bC (x:=.im (.tup bN)) (Z1:=[↑(.ref d),↑(.int 24),↑(.str eI),↑(.str core),↑(.int r3),↑(.int r4),↥(ys.map I.str),v7,v8,↥c9,none,none]) (G1:=G4) rfl rfl) ?_
  refine aj (bC (x:=.ow (.lst (ws.map I.str))) (Z1:=[↑(.ref d),↑(.int 24),↑(.str eI),↑(.str core),↑(.int r3),↑(.int r4),↑(.ref G4.length),v7,v8,↥c9,↑(.tup bN),none]) (G1:=G4++[M.lst (ys.map I.str)]) ?_ rfl) ?_
  ·exact kG (by rfl) (eh (e:=⇑(.ref G4.length)) (n:=ys.length) (Z1:=[↑(.ref d),↑(.int 24),↑(.str eI),↑(.str core),↑(.int r3),↑(.int r4),↑(.ref G4.length),v7,v8,↥c9,↑(.tup bN),none]) (G1:=G4++[M.lst (ys.map I.str)]) (xs:=ys.map I.str) (by simp! []) rfl (by simp [sq,pk]) (by simp)) (by show ys.length≤100000;lia) e6
  refine aj (bC (x:=.im (.str nm)) (Z1:=[↑(.ref d),↑(.int 24),↑(.str eI),↑(.str core),↑(.int r3),↑(.int r4),↥(ws.map I.str),v7,v8,↥c9,↑(.tup bN),none]) (G1:=G7) ?_ rfl) hq
  simp! [e7,en]
 by_cases h8:r8=1
 ·subst h8
  obtain⟨b,hb⟩:∃b,b=!((ws.map I.str).any λy=>bZ y (.str nm)):=⟨_,rfl⟩
  have et:eF (ao (ah bP (bd (af (aa 0) (af (ag (.int 3)) ae)) (ax 2 aS)) (ag (.int 1)))) (ao (ah dw (aa 11) (aa 6))) [↑(.ref d),↑(.int 24),↑(.str eI),↑(.str core),↑(.int r3),↑(.int r4),↥(ws.map I.str),v7,v8,↥c9,↑(.tup bN),↑(.str nm)] G7=some (b,[↑(.ref d),↑(.int 24),↑(.str eI),↑(.str core),↑(.int r3),↑(.int r4),↥(ws.map I.str),v7,v8,↥c9,↑(.tup bN),↑(.str nm)],G8):=by
   refine FG (Z1:=[↑(.ref d),↑(.int 24),↑(.str eI),↑(.str core),↑(.int r3),↑(.int r4),↥(ws.map I.str),v7,v8,↥c9,↑(.tup bN),↑(.str nm)]) (G1:=G8) (by simp! [e8]) (dA (aF rfl rfl ?_))
   have h:(cS (.str nm)&&(ws.map I.str).all cS)=true:=by rw [pI];rfl
   rw [hb]
   unfold dw bW ij
   dsimp only
   rw [show sq [↑(.ref d),↑(.int 24),↑(.str eI),↑(.str core),↑(.int r3),↑(.int r4),↥(ws.map I.str),v7,v8,↥c9,↑(.tup bN),↑(.str nm)] G8 (.s 6)=some (ws.map I.str) from rfl]
   dsimp only
   rw [if_pos h]
   rfl
  cases b with
  | false=>exact⟨ws,G8,head (aj (aL et rfl) rfl),by lia,wnd,D8,mo⟩
  | true =>
   obtain⟨r9,G9,e9,w0,w1,D9,o9⟩:=bT (many:=24) D8 (by decide) (by decide)
   obtain⟨j,rfl⟩:=Int.eq_ofNat_of_zero_le w0
   have hj:gC ws.length (j:Int)=some j:=Gf (by lia)
   refine⟨ws.set j nm,G9,head (aj (Z1:=[↑(.ref d),↑(.int 24),↑(.str eI),↑(.str core),↑(.int r3),↑(.int r4),↥((ws.set j nm).map I.str),v7,v8,↥c9,↑(.tup bN),↑(.str nm)]) (G1:=G9) (bS et ?_) rfl),by rw [z2b];lia,F3 wnd (wU hb),D9,mo.trans o9.mor⟩
   simp! [e9,hj,List.map_set]
 ·have h8b:(r8 == 1)=false:=beq_eq_false_iff_ne.mpr h8
  refine⟨ws,G8,head (aj (aL (Z1:=[↑(.ref d),↑(.int 24),↑(.str eI),↑(.str core),↑(.int r3),↑(.int r4),↥(ws.map I.str),v7,v8,↥c9,↑(.tup bN),↑(.str nm)]) (G1:=G8) (y6c (by simp! [e8,h8b])) rfl) rfl),by lia,wnd,D8,mo⟩
end
section
variable {d l:Nat}{sh:Option Vl}
def yd6(ys:List Str)(lo hi:Option Int):∃zs:List Str,dy (ys.map I.str) lo hi=zs.map I.str/\zs.length≤ys.length/\List.Sublist zs ys:=by
 unfold dy
 refine⟨(ys.drop _).take _,by rw [List.map_take,List.map_drop],?_,(List.take_sublist _ _).trans (List.drop_sublist _ _)⟩
 rw [z2d,z2f];lia
def Gh:¬ (("cells" : Str)="rows"):=by decide +kernel
def Gi:¬ (("cells" : Str)="defs"):=by decide +kernel
def Gj:¬ (("rows" : Str)="defs"):=by decide +kernel
noncomputable abbrev bG(sh:Option Vl)(d:Nat)(v1 v2 v3 v4 v5 v6 v7 v8 v9 v10:Option Vl):De:=[↑(.ref d),v1,sh,v2,v3,v4,v5,v6,v7,v8,v9,v10]
def Gk{G:List M}{v1 v6 v7 v8 v9 v10:Option Vl}{cs rs ds:List Str}:m7 (cE (ag (.str "cells")) (aY (aa 3)) (cE (ag (.str "rows")) (aY (aa 4)) (cE (ag (.str "defs")) (aY (aa 5)) gu))) (bG sh d v1 ↥(cs.map I.str) ↥(rs.map I.str) ↥(ds.map I.str) none v6 v7 v8 v9 v10) G =
  some (.v (.ow (.dic (jc G.length (G.length+1) (G.length+2)))),bG sh d v1 ↑(.ref G.length) ↑(.ref (G.length+1)) ↑(.ref (G.length+2)) none v6 v7 v8 v9 v10,G++[M.lst (cs.map I.str),.lst (rs.map I.str),.lst (ds.map I.str)]):=by
 simp! [m7,cE,gu,gY,gZ,cT,gj,Gh,Gi,Gj,jc]
end
section
variable {d l:Nat}{S:Scn}{sh:Option Vl}
structure Sc0(G:List M)(d l:Nat)(S:Scn):Prop where
 D:DG G d l
 c:G[S.c]?=some (.lst (S.cs.map I.str))
 r:G[S.r]?=some (.lst (S.rs.map I.str))
 f:G[S.f]?=some (.lst (S.ds.map I.str))
 nd:d≠S.c/\d≠S.r/\d≠S.f
 nl:l≠S.c/\l≠S.r/\l≠S.f
 c0:0<S.cs.length
 c1:S.cs.length≤1000/\S.rs.length≤1000/\S.ds.length≤1000
def Sc0.push{G:List M}(s:Sc0 G d l S):Sc (G++[M.dic (jc S.c S.r S.f)]) d l G.length S:=by
 have dl:=s.D.lt
 have ap:∀{k:Nat} {m:M},G[k]?=some m->(G++[M.dic (jc S.c S.r S.f)])[k]?=some m:=λh=>by rw [z1a (eD h)];exact h
 exact⟨s.D.app _,by simp,ap s.c,ap s.r,ap s.f,⟨by lia,s.nd⟩,⟨by lia,s.nl⟩,s.c0,s.c1⟩
def Sc.bs{G:List M}{k:Nat}(s:Sc G d l k S)(x:Nat):Bs (G++[M.lst [.int x]]) d l k G.length S x:=by
 have dl:=s.D.lt
 have h1:=eD s.s
 have h2:=eD s.c
 have h3:=eD s.r
 have h4:=eD s.f
 have ap:∀{k:Nat} {m:M},G[k]?=some m->(G++[M.lst [.int x]])[k]?=some m:=λh=>by rw [z1a (eD h)];exact h
 exact⟨⟨s.D.app _,ap s.s,ap s.c,ap s.r,ap s.f,s.nd,s.nl,s.c0,s.c1⟩,by simp,⟨by lia,by lia⟩,⟨by lia,by lia,by lia,by lia⟩⟩
abbrev zE(g0:Nat)(G:List M)(d l:Nat)(S:Scn)(v5:Option Vl):Prop :=
 (v5=some (.ow (.dic (jc S.c S.r S.f)))/\Sc0 G d l S/\g0≤G.length)∨(∃k,v5=↑(.ref k)/\Sc G d l k S/\g0≤k)
def zE.box{g0:Nat}{G:List M}{v1 v2 v3 v4 v5 v6 v7 v8 v9 v10:Option Vl}(h:zE g0 G d l S v5):∃(k:Nat) (G':List M),aY (aa 6) (bG sh d v1 v2 v3 v4 v5 v6 v7 v8 v9 v10) G=some (⇑(.ref k),bG sh d v1 v2 v3 v4 ↑(.ref k) v6 v7 v8 v9 v10,G')/\Sc G' d l k S/\g0≤k/\Mor d l G G'/\(∀j,j<G.length->G'[j]?=G[j]?)/\g0≤G'.length:=by
 rcases h with⟨rfl,s,hg⟩| ⟨k,rfl,s,hg⟩
 ·exact⟨G.length,_,by simp! [],s.push,hg,Mor.app _,λj hj=>z1a hj,by rw [za];lia⟩
 ·have:=eD s.s
  exact⟨k,G,by simp! [],s,hg,Mor.refl _ _ _,λ_ _=>rfl,by lia⟩
abbrev bf(p:Str×List Sm):I:=.tup [.str p.1,.tup (aq p.2)]
abbrev ng(g0:Nat)(G:List M)(d l:Nat)(S:Scn)(v5 v6:Option Vl)(x:Nat):Prop :=
 (v6=↥[.int x]/\zE g0 G d l S v5)∨(∃k q,v5=↑(.ref k)/\v6=↑(.ref q)/\Bs G d l k q S x/\g0≤k/\g0≤q)
def Ot3.mor{q g0:Nat}{G0 G G':List M}(o:Ot3 d l q G G')(m:Mor d l G0 G)(h:G0.length≤q):Mor d l G0 G':=⟨z1b m.len o.len,λk hk h1 h2=>(o.at_ k (z1c hk m.len) h1 h2 (by lia)).trans (m.at_ k hk h1 h2)⟩
def yf0{G0 G:List M}{v1 v2 v3 v4 v5 v6 v9 v10:Option Vl}{x:Nat}{nm:Str}{told:List (Str×List Sm)}(h:ng G0.length G d l S v5 v6 x)(mo0:Mor d l G0 G)(hl:told.length≤1000) :
  ∃(b:List Sm) (G':List M) (k q x':Nat),zh (bG sh d v1 v2 v3 v4 v5 v6 ↥(told.map bf) ↑(.str nm) v9 v10) G=some (.nx (bG sh d v1 v2 v3 v4 ↑(.ref k) ↑(.ref q) ↥((told++[(nm,b)]).map bf) ↑(.str nm) v9 v10) G') /\
   aX S b/\x'≤x/\aP b≤21*(x-x')/\cu b≤4/\b.length≤1000/\Bs G' d l k q S x'/\G0.length≤k/\G0.length≤q/\Mor d l G0 G':=by
 obtain⟨k,q,Ga,G1,e5,e6,b1,hk,hq,m1⟩:∃(k q:Nat) (Ga G1:List M),aY (aa 6) (bG sh d v1 v2 v3 v4 v5 v6 ↥(told.map bf) ↑(.str nm) v9 v10) G=some (⇑(.ref k),bG sh d v1 v2 v3 v4 ↑(.ref k) v6 ↥(told.map bf) ↑(.str nm) v9 v10,Ga) /\
   aY (aa 7) (bG sh d v1 v2 v3 v4 ↑(.ref k) v6 ↥(told.map bf) ↑(.str nm) v9 v10) Ga=some (⇑(.ref q),bG sh d v1 v2 v3 v4 ↑(.ref k) ↑(.ref q) ↥(told.map bf) ↑(.str nm) v9 v10,G1)/\Bs G1 d l k q S x/\G0.length≤k/\G0.length≤q/\Mor d l G0 G1:=by
  rcases h with⟨rfl,hs⟩| ⟨k,q,rfl,rfl,hb,hk,hq⟩
  ·obtain⟨k,Ga,e1,s1,hk,m1,_,hg⟩:=hs.box (v1:=v1) (v2:=v2) (v3:=v3) (v4:=v4) (v6:=↥[.int x]) (v7:=↥(told.map bf)) (v8:=↑(.str nm)) (v9:=v9) (v10:=v10)
   exact⟨k,Ga.length,Ga,_,e1,by simp! [],s1.bs x,hk,hg,(mo0.trans m1).trans (Mor.app _)⟩
  ·exact⟨k,q,G,G,by simp! [],by simp! [],hb,hk,hq,mo0⟩
 obtain⟨b,G3,x3,e8,k3,l3,n3,d3,sZ,_,b3,o3⟩:=(zD 12).2.2 1 (by lia) (by lia) b1
 refine⟨b,G3,k,q,x3,?_,k3,l3,n3,by lia,sZ,b3,hk,hq,(o3.mor (g0:=0) m1 hq)⟩
 have ec:bd (af (aa 0) (af (aY (aa 6)) (af (aY (aa 7)) (af (ag (.int 1)) ae)))) (ax 4 (eX 12)) (bG sh d v1 v2 v3 v4 v5 v6 ↥(told.map bf) ↑(.str nm) v9 v10) G=some (⇑(.tup (aq b)),bG sh d v1 v2 v3 v4 ↑(.ref k) ↑(.ref q) ↥(told.map bf) ↑(.str nm) v9 v10,G3) :=
  av (av rfl (av (av e5 (av (av e6 rfl) rfl)) rfl)) (cB (xs:=[.im (.ref d),.im (.ref k),.im (.ref q),.im (.int 1)]) rfl rfl e8)
 have et:bd (af (aa 9) (af (bd (af (aa 0) (af (aY (aa 6)) (af (aY (aa 7)) (af (ag (.int 1)) ae)))) (ax 4 (eX 12))) ae)) ay (bG sh d v1 v2 v3 v4 v5 v6 ↥(told.map bf) ↑(.str nm) v9 v10) G=some (⇑(bf (nm,b)),bG sh d v1 v2 v3 v4 ↑(.ref k) ↑(.ref q) ↥(told.map bf) ↑(.str nm) v9 v10,G3):=by
  refine av (av rfl (av (av ec rfl) rfl)) ?_
  simp! [bf]
 refine wo (e:=⇑.non) (y8d (e:=.s 8) (Z1:=bG sh d v1 v2 v3 v4 v5 v6 ↥(told.map bf) ↑(.str nm) v9 v10) (G1:=G) rfl rfl (av et rfl) ?_)
 have hn:(told.map bf).length<1000000:=by rw [z12];lia
 rw [z25]
 generalize told.map bf=tt at hn
 simp! [hn]
end
section
variable {d l:Nat}{S:Scn}{sh:Option Vl}
theorem ng.f{g0 x:Nat}{G:List M}{v5 v6:Option Vl}(h:ng g0 G d l S v5 v6 x):G[S.f]?=some (.lst (S.ds.map I.str)):=by
 rcases h with⟨_,hs⟩| ⟨k,q,_,_,hb,_⟩
 ·rcases hs with⟨_,s,_⟩| ⟨k,_,s,_⟩
  ·exact s.f
  ·exact s.f
 ·exact hb.s.f
theorem ng.s{g0 x:Nat}{G:List M}{v5 v6:Option Vl}(h:ng g0 G d l S v5 v6 x):zE g0 G d l S v5:=by
 rcases h with⟨_,hs⟩| ⟨k,q,e,_,hb,hk,_⟩
 ·exact hs
 ·exact .inr ⟨k,e,hb.s,hk⟩
def yf1{G0 G:List M}{v1 v2 v3 v4 v5 v6 v8 v9 v10:Option Vl}(h:ng G0.length G d l S v5 v6 14)(m0:Mor d l G0 G)(hd:S.ds.length≤100) :
  ∃(told:List (Str×List Sm)) (G':List M) (v5' v6' v8':Option Vl) (x':Nat),aV (a6 ⇑(.ref S.f) S.ds.length) (aB 9) zh 0 S.ds.length (bG sh d v1 v2 v3 v4 v5 v6 ↥[] v8 v9 v10) G=some (.nx (bG sh d v1 v2 v3 v4 v5' v6' ↥(told.map bf) v8' v9 v10) G') /\
   ng G0.length G' d l S v5' v6' x'/\told.map (·.1)=S.ds/\(∀p∈told,aX S p.2/\cu p.2≤4/\p.2.length≤1000)/\(told.map λp=>aP p.2).sum≤294/\Mor d l G0 G':=by
 obtain⟨Z',G',e,told,v5',v6',v8',x',ed,hq,hx,ef,hp,hs,m⟩:=hI (w:=a6 ⇑(.ref S.f) S.ds.length) (g:=aB 9) (b:=zh) (λi Z G'=>∃(told:List (Str×List Sm)) (v5 v6 v8:Option Vl) (x':Nat),Z=bG sh d v1 v2 v3 v4 v5 v6 ↥(told.map bf) v8 v9 v10/\ng G0.length G' d l S v5 v6 x'/\x'≤14/\told.map (·.1)=S.ds.take i/\(∀p∈told,aX S p.2/\cu p.2≤4/\p.2.length≤1000)/\(told.map λp=>aP p.2).sum≤21*(14-x')/\Mor d l G0 G')
  (λi Z g hi p=>by
   obtain⟨told,v5,v6,v8,x',rfl,hq,hx,ef,hp,hs,m⟩:=p
   have hi:i<S.ds.length:=hi
   have lt:told.length≤i:=by have:=congrArg List.length ef;rw [z12,z2d] at this;lia
   obtain⟨b,g2,k,q,x2,e2,k2,l2,n2,d2,bO,b2,hk,hqq,m2⟩:=yf0 (v1:=v1) (v2:=v2) (v3:=v3) (v4:=v4) (v9:=v9) (v10:=v10) (nm:=S.ds[i]) (told:=told) hq m (by lia)
   refine⟨.str S.ds[i],_,g,_,g2,?_,rfl,e2,told++[(S.ds[i],b)],_,_,_,x2,rfl,.inr ⟨k,q,rfl,rfl,b2,hk,hqq⟩,by lia,?_,λp hm=>?_,?_,m2⟩
   ·have:=hq.f
    simp [a6,sq,pk,this,hi]
   ·rw [z25,ef,List.take_succ,z1d hi];rfl
   ·rcases z13.mp hm with z|z
    ·exact hp p z
    ·have:p=(S.ds[i],b):=by simpa using z
     subst this
     exact⟨k2,d2,bO⟩
   ·rw [z25,List.sum_append]
    simp
    lia)
  (λZ g p=>by
   obtain⟨told,v5,v6,v8,x',rfl,hq,_⟩:=p
   have:=hq.f
   simp [a6,sq,pk,this]) S.ds.length 0 (bG sh d v1 v2 v3 v4 v5 v6 ↥[] v8 v9 v10) G (by simp [a6]) ⟨[],v5,v6,v8,14,rfl,h,ze _,by simp,λ_ h=>(by cases h),by simp,m0⟩
 refine⟨told,G',v5',v6',v8',x',by rw [ed] at e;exact e,hq,?_,hp,by lia,m⟩
 rw [ef]
 exact z2e (ze _)
structure Pg where
 cells:List (Str×Int)
 rows:List (Str×Int)
 defs:List (Str×List Sm)
 body:List Sm
abbrev cU(p:Str×Int):I:=.tup [.str p.1,.int p.2]
abbrev Pg.i(p:Pg):I:=.tup [.tup (p.cells.map cU),.tup (p.rows.map cU),.tup (p.defs.map bf),.tup (aq p.body)]
abbrev Pg.sc(p:Pg):Scn:=⟨0,0,0,p.cells.map (·.1),p.rows.map (·.1),p.defs.map (·.1)⟩
mutual
theorem Sm.y25c{S T:Scn}(h1:S.cs=T.cs)(h2:S.rs=T.rs)(h3:S.ds=T.ds):∀s:Sm,s.ok S->s.ok T
 | .set x t,h=>by rw [Sm.ok] at h ⊢;rw [<- h1,<- h2];exact h
 | .put r a b,h=>by rw [Sm.ok] at h ⊢;rw [<- h1,<- h2];exact h
 | .call f,h=>by rw [Sm.ok] at h ⊢;rw [<- h3];exact h
 | .wh t b,h=>by rw [Sm.ok] at h ⊢;rw [<- h1,<- h2];exact⟨h.1,h.2.1,iT h1 h2 h3 b h.2.2⟩
 | .ite t b c,h=>by rw [Sm.ok] at h ⊢;rw [<- h1,<- h2];exact⟨h.1,h.2.1,iT h1 h2 h3 b h.2.2.1,iT h1 h2 h3 c h.2.2.2⟩
theorem iT{S T:Scn}(h1:S.cs=T.cs)(h2:S.rs=T.rs)(h3:S.ds=T.ds):∀b:List Sm,aX S b->aX T b
 | [],h=>by rw [aX];trivial
 | s::b,h=>by rw [aX] at h ⊢;exact⟨Sm.y25c h1 h2 h3 s h.1,iT h1 h2 h3 b h.2⟩
end
structure Pg.Ok(p:Pg):Prop where
 c0:0<p.cells.length
 nd:(p.cells.map (·.1)).Nodup
 rn:(p.rows.map (·.1)).Nodup
 dn:(p.defs.map (·.1)).Nodup
 c1:p.cells.length≤24/\p.rows.length≤24/\p.defs.length≤24
 cw:∀q∈p.cells,0≤q.2/\q.2<4294967296
 rw_:∀q∈p.rows,0<q.2/\q.2≤8
 ds:∀q∈p.defs,aX p.sc q.2/\cu q.2≤4/\q.2.length≤1000
 bo:aX p.sc p.body/\cu p.body≤4/\p.body.length≤1001
 n1:(p.defs.map λq=>aP q.2).sum≤294
 n2:aP p.body≤484
def y87{G:List M}{k:Nat}{cs:List Str}{Z:De}(D:DG G d l)(hk:G[k]?=some (.lst (cs.map I.str)))(n1:k≠d)(n2:k≠l):∃(xs:List (Str×Int)) (G':List M),dH (a6 ⇑(.ref k) cs.length) c1 a9 (bd (af (aa 0) (af (bd (af (aa 1) ae) (ax 1 j0)) ae)) ay) [↑(.ref d)] 0 cs.length [] Z G=some (xs.map cU,G')/\xs.map (·.1)=cs/\(∀q∈xs,0≤q.2/\q.2<4294967296)/\DG G' d l/\Oth d l G G':=by
 obtain⟨ds,G',e,xs,ed,ef,hx,D',o⟩:=qb (w:=a6 ⇑(.ref k) cs.length) (c:=c1) (tt:=a9) (te:=bd (af (aa 0) (af (bd (af (aa 1) ae) (ax 1 j0)) ae)) ay) (di:=[↑(.ref d)]) (Z:=Z)
  (λi acc G'=>∃xs:List (Str×Int),acc=xs.map cU/\xs.map (·.1)=cs.take i/\(∀q∈xs,0≤q.2/\q.2<4294967296)/\DG G' d l/\Oth d l G G')
  (λi acc g hi zz=>by
   obtain⟨xs,ea,ef,hx,D,o⟩:=zz
   have hi:i<cs.length:=hi
   have hk':g[k]?=some (.lst (cs.map I.str)):=(o.at_ k n1 n2).trans hk
   obtain⟨w,g1,e1,w0,w1,D1,o1⟩:=wF D
   refine⟨.str cs[i],[.str cs[i]],_,_,cU (cs[i],w),[↑(.str cs[i]),↑(.ref d)],g1,by simp [a6,sq,pk,hk',hi],rfl,rfl,by simp! [e1,cU],xs++[(cs[i],w)],by rw [ea,z25];rfl,by rw [z25,ef,List.take_succ,z1d hi];rfl,λq hm=>?_,D1,o.trans o1⟩
   rcases z13.mp hm with z|z
   ·exact hx q z
   ·have:q=(cs[i],w):=by simpa using z
    subst this;exact⟨w0,w1⟩)
  (λ_ g p=>by
   obtain⟨_,_,_,_,_,o⟩:=p
   have hk':g[k]?=some (.lst (cs.map I.str)):=(o.at_ k n1 n2).trans hk
   simp [a6,sq,pk,hk']) cs.length 0 [] G (by simp [a6]) ⟨[],rfl,by simp,λ_ h=>(by cases h),D,Oth.refl _ _ _⟩
 exact⟨xs,G',by rw [ed] at e;exact e,by rw [ef];exact z2e (ze _),hx,D',o⟩
def Gm{G:List M}{k:Nat}{cs:List Str}{Z:De}(D:DG G d l)(hk:G[k]?=some (.lst (cs.map I.str)))(n1:k≠d)(n2:k≠l):∃(xs:List (Str×Int)) (G':List M),dH (a6 ⇑(.ref k) cs.length) c1 a9 (bd (af (aa 0) (af (ah bu (ag (.int 1)) (bd (af (aa 1) (af (ag (.int 8)) ae)) (ax 2 aS))) ae)) ay) [↑(.ref d)] 0 cs.length [] Z G=some (xs.map cU,G')/\xs.map (·.1)=cs/\(∀q∈xs,0<q.2/\q.2≤8)/\DG G' d l/\Oth d l G G':=by
 obtain⟨ds,G',e,xs,ed,ef,hx,D',o⟩:=qb (w:=a6 ⇑(.ref k) cs.length) (c:=c1) (tt:=a9) (te:=bd (af (aa 0) (af (ah bu (ag (.int 1)) (bd (af (aa 1) (af (ag (.int 8)) ae)) (ax 2 aS))) ae)) ay) (di:=[↑(.ref d)]) (Z:=Z)
  (λi acc G'=>∃xs:List (Str×Int),acc=xs.map cU/\xs.map (·.1)=cs.take i/\(∀q∈xs,0<q.2/\q.2≤8)/\DG G' d l/\Oth d l G G')
  (λi acc g hi zz=>by
   obtain⟨xs,ea,ef,hx,D,o⟩:=zz
   have hi:i<cs.length:=hi
   have hk':g[k]?=some (.lst (cs.map I.str)):=(o.at_ k n1 n2).trans hk
   obtain⟨w,g1,e1,w0,w1,D1,o1⟩:=bT (many:=8) D (by decide) (by decide)
   refine⟨.str cs[i],[.str cs[i]],_,_,cU (cs[i],1+w),[↑(.str cs[i]),↑(.ref d)],g1,by simp [a6,sq,pk,hk',hi],rfl,rfl,by simp! [e1,cU],xs++[(cs[i],1+w)],by rw [ea,z25];rfl,by rw [z25,ef,List.take_succ,z1d hi];rfl,λq hm=>?_,D1,o.trans o1⟩
   rcases z13.mp hm with z|z
   ·exact hx q z
   ·have:q=(cs[i],1+w):=by simpa using z
    subst this;exact⟨by show 0<1+w;lia,by show 1+w≤8;lia⟩)
  (λ_ g p=>by
   obtain⟨_,_,_,_,_,o⟩:=p
   have hk':g[k]?=some (.lst (cs.map I.str)):=(o.at_ k n1 n2).trans hk
   simp [a6,sq,pk,hk']) cs.length 0 [] G (by simp [a6]) ⟨[],rfl,by simp,λ_ h=>(by cases h),D,Oth.refl _ _ _⟩
 exact⟨xs,G',by rw [ed] at e;exact e,by rw [ef];exact z2e (ze _),hx,D',o⟩
end
section
set_option maxHeartbeats 1000000
variable {d l:Nat}{sh:Option Vl}
def wV{G:List M}{ys:List Str}{v2 v3 v4 v5 v6 v7 v8 v9 v10:Option Vl}{f:Mo Ev}{G1 G2:List M}{z r:Int}(e1:f (bG sh d ↥(ys.map I.str) v2 v3 v4 v5 v6 v7 v8 v9 v10) G=some (⇑(.int z),bG sh d ↥(ys.map I.str) v2 v3 v4 v5 v6 v7 v8 v9 v10,G1))(e2:aS [.im (.ref d),.im (.int 4)] G1=some (.im (.int r),G2)) :
  ∃rs:List Str,a7 (a7 (aa 1) (aW f) aZ) aZ (aW (bd (af (aa 0) (af (ag (.int 4)) ae)) (ax 2 aS))) (bG sh d ↥(ys.map I.str) v2 v3 v4 v5 v6 v7 v8 v9 v10) G=some (.v (.ow (.lst (rs.map I.str))),bG sh d ↥(ys.map I.str) v2 v3 v4 v5 v6 v7 v8 v9 v10,G2)/\rs.length≤ys.length/\List.Sublist rs ys:=by
 obtain⟨zs,h1,l1,s1⟩:=yd6 ys (some z) none
 obtain⟨rs,h2,l2,s2⟩:=yd6 zs none (some r)
 refine⟨rs,?_,by lia,s2.trans s1⟩
 simp! [a7,aW,aZ,lZ,gX,fE,e1,h1,h2,e2]
def Gn{G:List M}(D:DG G d l):∃(p:Pg) (G':List M),zi [.im (.ref d)] G=some (.im p.i,G')/\p.Ok/\DG G' d l/\Mor d l G G':=by
 obtain⟨ys,G1,e1,ly,ynd,D1,m1⟩:=Gg D
 obtain⟨r3,G3,e3,q0,q1,D3,o3⟩:=bT (many:=2) D1 (by decide) (by decide)
 obtain⟨z3,ez3,_⟩:=wH (xs:=[(0:Int),6]) q0 q1
 obtain⟨r2,G2,e2,p0,p1,D2,o2⟩:=bT (many:=6) D3 (by decide) (by decide)
 obtain⟨N,hN⟩:=Int.eq_ofNat_of_zero_le p0
 obtain⟨cs,hcs⟩:∃cs,cs=ys.take (1+N):=⟨_,rfl⟩
 have lc:0<cs.length/\cs.length≤24:=by rw [hcs,z2d];lia
 obtain⟨r4,G4,e4,_,_,D4,o4⟩:=bT (many:=4) D2 (by decide) (by decide)
 obtain⟨r6,G6,e6,_,_,D6,o6⟩:=bT (many:=4) D4 (by decide) (by decide)
 have f3:ah ak (bd (af (ag (.int 0)) (af (ag (.int 6)) ae)) aN) (bd (af (aa 0) (af (ag (.int 2)) ae)) (ax 2 aS)) (bG none d ↥(ys.map I.str) none none none none none none none none none) G1=some (⇑(.int z3),bG none d ↥(ys.map I.str) none none none none none none none none none,G3):=by
  rcases (show r3=0∨r3=1 by lia) with z|z<;>subst z
  ·rw [dh] at ez3;cases ez3;simp! [e3,dh]
  ·rw [eA] at ez3;cases ez3;simp! [e3,eA]
 obtain⟨sh,hsh⟩:∃sh:Option Vl,sh=↑(.int z3):=⟨_,rfl⟩
 obtain⟨rs,g3,lr,sr⟩:=wV (sh:=sh) (d:=d) (ys:=ys) (v2:=↥(cs.map I.str)) (v3:=none) (v4:=none) (v5:=none) (v6:=none) (v7:=none) (v8:=none) (v9:=none) (v10:=none) (f:=ah cL (ag (.int 6)) (aa 2)) (z:=6-z3) (by rw [hsh];rfl) e4
 obtain⟨ds,g5,ld,sd⟩:=wV (sh:=sh) (d:=d) (ys:=ys) (v2:=↥(cs.map I.str)) (v3:=↥(rs.map I.str)) (v4:=none) (v5:=none) (v6:=none) (v7:=none) (v8:=none) (v9:=none) (v10:=none) (f:=ah cL (ag (.int 12)) (aa 2)) (z:=12-z3) (by rw [hsh];rfl) e6
 have oh:Oth d l G1 G6:=((o3.trans o2).trans o4).trans o6
 have m6:Mor d l G G6:=m1.trans oh.mor
 have dl:=D.lt
 have dl6:=D6.lt
 have gl:G.length≤G6.length:=m6.len
 obtain⟨G7,hG7⟩:∃G7,G7=G6++[M.lst (cs.map I.str),M.lst (rs.map I.str),M.lst (ds.map I.str)]:=⟨_,rfl⟩
 obtain⟨S,hS⟩:∃S:Scn,S=⟨G6.length,G6.length+1,G6.length+2,cs,rs,ds⟩:=⟨_,rfl⟩
 have sc0:Sc0 G7 d l S:=by
  subst hG7 hS
  refine⟨D6.app _,by simp,by simp,by simp,⟨by show d≠G6.length;lia,by show d≠G6.length+1;lia,by show d≠G6.length+2;lia⟩,⟨by show l≠G6.length;lia,by show l≠G6.length+1;lia,by show l≠G6.length+2;lia⟩,lc.1,⟨by show cs.length≤1000;lia,by show rs.length≤1000;lia,by show ds.length≤1000;lia⟩⟩
 have m7':Mor d l G G7:=by rw [hG7];exact m6.trans (Mor.app _)
 have gl7:G.length≤G7.length:=m7'.len
 obtain⟨told,G8,v5,v6,v8,x8,e8,h8,ef,hp,hs,m8⟩:=yf1 (G0:=G) (S:=S) (v1:=↥(ys.map I.str)) (v2:=↑(.ref G6.length)) (v3:=↑(.ref (G6.length+1))) (v4:=↑(.ref (G6.length+2))) (v8:=none) (v9:=none) (v10:=none) (.inl ⟨rfl,.inl ⟨rfl,sc0,gl7⟩⟩) m7' (by rw [hS];show ds.length≤100;lia)
 obtain⟨k,Ga,e9,sa,hk,ma,_,hga⟩:=h8.s.box (v1:=↥(ys.map I.str)) (v2:=↑(.ref G6.length)) (v3:=↑(.ref (G6.length+1))) (v4:=↑(.ref (G6.length+2))) (v6:=↥[.int 22]) (v7:=↥(told.map bf)) (v8:=v8) (v9:=none) (v10:=none)
 have ba:=sa.bs 22
 obtain⟨bo,Gb,xb,eb,kb,lb,nb,db,lenb,emb,bb,ob⟩:=(zD 12).2.2 0 (by lia) (by lia) ba
 have mb:Mor d l G Gb:=ob.mor (g0:=0) (((m8.trans ma).trans (Mor.app _))) hga
 have a1:bd (af (aa 0) (af (aY (aa 6)) (af (aY (aa 7)) (af (ag (.int 0)) ae)))) (ax 4 (eX 12)) (bG sh d ↥(ys.map I.str) ↑(.ref G6.length) ↑(.ref (G6.length+1)) ↑(.ref (G6.length+2)) v5 ↥[.int 22] ↥(told.map bf) v8 none none) G8=some (⇑(.tup (aq bo)),bG sh d ↥(ys.map I.str) ↑(.ref G6.length) ↑(.ref (G6.length+1)) ↑(.ref (G6.length+2)) ↑(.ref k) ↑(.ref Ga.length) ↥(told.map bf) v8 none none,Gb) :=
  av (a:=[⇑(.ref d),⇑(.ref k),⇑(.ref Ga.length),⇑(.int 0)]) (av rfl (av (av e9 (av (av (show aY (aa 7) _ Ga=some (⇑(.ref Ga.length),bG sh d ↥(ys.map I.str) ↑(.ref G6.length) ↑(.ref (G6.length+1)) ↑(.ref (G6.length+2)) ↑(.ref k) ↑(.ref Ga.length) ↥(told.map bf) v8 none none,Ga++[M.lst [.int 22]]) by simp! []) rfl) rfl)) rfl)) (cB (xs:=[.im (.ref d),.im (.ref k),.im (.ref Ga.length),.im (.int 0)]) rfl rfl eb)
 obtain⟨bd',Gc,ec,kc,nc,dc,lenc,sC,mc⟩:∃(bd':List Sm) (Gc:List M),aE (ao (ah bP (bd (af (aa 10) ae) aO) (ag (.int 0))))
   (aG (bd (af (bd (af (aa 0) (af (aY (aa 6)) (af (aY (aa 7)) (af (ag (.int 0)) ae)))) (ax 4 (iq 12))) ae) ay) (aB 10)) aM (bG sh d ↥(ys.map I.str) ↑(.ref G6.length) ↑(.ref (G6.length+1)) ↑(.ref (G6.length+2)) ↑(.ref k) ↑(.ref Ga.length) ↥(told.map bf) v8 ↑(.tup (aq bo)) none) Gb=some (.nx (bG sh d ↥(ys.map I.str) ↑(.ref G6.length) ↑(.ref (G6.length+1)) ↑(.ref (G6.length+2)) ↑(.ref k) ↑(.ref Ga.length) ↥(told.map bf) v8 ↑(.tup (aq bd')) none) Gc)/\aX S bd'/\aP bd'≤484/\cu bd'≤4/\bd'.length≤1001/\Sc Gc d l k S/\Mor d l G Gc:=by
  have hl:((aq bo).length≤1000000):=by rw [dO];lia
  by_cases h0:bo.length=0
  ·have xe:=emb h0
   subst xe
   obtain rfl:=List.eq_nil_of_length_eq_zero h0
   have et:ao (ah bP (bd (af (aa 10) ae) aO) (ag (.int 0))) (bG sh d ↥(ys.map I.str) ↑(.ref G6.length) ↑(.ref (G6.length+1)) ↑(.ref (G6.length+2)) ↑(.ref k) ↑(.ref Ga.length) ↥(told.map bf) v8 ↑(.tup (aq [])) none) Gb=some (true,(bG sh d ↥(ys.map I.str) ↑(.ref G6.length) ↑(.ref (G6.length+1)) ↑(.ref (G6.length+2)) ↑(.ref k) ↑(.ref Ga.length) ↥(told.map bf) v8 ↑(.tup (aq [])) none),Gb):=by simp! [aq]
   obtain⟨st,Ge,xe,ee,ke,le,ne,de,be,oe⟩:=(zD 12).2.1 0 (by lia) (by lia) (by lia) bb
   refine⟨[st],Ge,bS et (bC (x:=.im (.tup (aq [st]))) (Z1:=bG sh d ↥(ys.map I.str) ↑(.ref G6.length) ↑(.ref (G6.length+1)) ↑(.ref (G6.length+2)) ↑(.ref k) ↑(.ref Ga.length) ↥(told.map bf) v8 ↑(.tup (aq [])) none) (G1:=Ge) ?_ rfl),by rw [aX,aX];exact⟨ke,trivial⟩,by rw [aP,aP];lia,by rw [cu,cu];lia,by simp,be.s,oe.mor (g0:=0) mb hga⟩
   refine av (av (av (a:=[⇑(.ref d),⇑(.ref k),⇑(.ref Ga.length),⇑(.int 0)]) (Z1:=bG sh d ↥(ys.map I.str) ↑(.ref G6.length) ↑(.ref (G6.length+1)) ↑(.ref (G6.length+2)) ↑(.ref k) ↑(.ref Ga.length) ↥(told.map bf) v8 ↑(.tup (aq [])) none) (G1:=Gb) (by simp! []) (cB (xs:=[.im (.ref d),.im (.ref k),.im (.ref Ga.length),.im (.int 0)]) rfl rfl ee)) rfl) ?_
   simp! [aq]
  ·have hb:(((aq bo).length:Int) == 0)=false:=by rw [dO];exact beq_eq_false_iff_ne.mpr (by lia)
   refine⟨bo,Gb,aL (Z1:=bG sh d ↥(ys.map I.str) ↑(.ref G6.length) ↑(.ref (G6.length+1)) ↑(.ref (G6.length+2)) ↑(.ref k) ↑(.ref Ga.length) ↥(told.map bf) v8 ↑(.tup (aq bo)) none) (G1:=Gb) ?_ rfl,kb,by lia,by lia,by lia,bb.s,mb⟩
   simp! [hl,hb]
 have sCc:Gc[G6.length]?=some (.lst (cs.map I.str)):=by have:=sC.c;rw [hS] at this;exact this
 have sCr:Gc[(G6.length+1)]?=some (.lst (rs.map I.str)):=by have:=sC.r;rw [hS] at this;exact this
 obtain⟨xs,Gd,ed,fx,hx,Dd,od⟩:=y87 (Z:=bG sh d ↥(ys.map I.str) ↑(.ref G6.length) ↑(.ref (G6.length+1)) ↑(.ref (G6.length+2)) ↑(.ref k) ↑(.ref Ga.length) ↥(told.map bf) v8 ↑(.tup (aq bd')) none) sC.D sCc (by lia) (by lia)
 have rD:=(od.at_ (G6.length+1) (by lia) (by lia)).trans sCr
 obtain⟨zs,Ge,ee,fz,hz,De,oe⟩:=Gm (Z:=bG sh d ↥(ys.map I.str) ↑(.ref G6.length) ↑(.ref (G6.length+1)) ↑(.ref (G6.length+2)) ↑(.ref k) ↑(.ref Ga.length) ↥(told.map bf) v8 ↑(.tup (aq bd')) ↑(.tup (xs.map cU))) Dd rD (by lia) (by lia)
 refine⟨⟨xs,zs,told,bd'⟩,Ge,?_,?_,De,mc.trans (od.trans oe).mor⟩
 ·refine aJ rfl ?_
  refine aj (bC (x:=.ow (.lst (ys.map I.str))) (Z1:=bG none d none none none none none none none none none none) (G1:=G1) (av (a:=[⇑(.ref d),⇑(.int 24)]) rfl (cB (xs:=[.im (.ref d),.im (.int 24)]) rfl rfl e1)) rfl) ?_
  refine aj (bC f3 rfl) ?_
  rw [show some (Vl.im (I.int z3))=sh from hsh.symm]
  refine aj (bC (x:=.ow (.lst (cs.map I.str))) (Z1:=bG sh d ↥(ys.map I.str) none none none none none none none none none) (G1:=G2) ?_ rfl) ?_
  ·have hc:dy (ys.map I.str) none (some (1+r2))=cs.map I.str:=by
    rw [show (1:Int)+r2=((1+N:Nat):Int) by lia,qe,hcs,List.map_take]
   simp! [a7,aW,aZ,lZ,gX,fE,e2,hc]
  refine aj (bC g3 rfl) ?_
  refine aj (bC g5 rfl) ?_
  refine aj (bC (Gk (v1:=↥(ys.map I.str)) (cs:=cs) (rs:=rs) (ds:=ds)) rfl) ?_
  rw [<- hG7]
  refine aj (bC (x:=.ow (.lst [.int 14])) (Z1:=bG sh d ↥(ys.map I.str) ↑(.ref G6.length) ↑(.ref (G6.length+1)) ↑(.ref (G6.length+2)) (some (.ow (.dic (jc G6.length (G6.length+1) (G6.length+2))))) none none none none none) (G1:=G7) (by simp! []) rfl) ?_
  refine aj (bC (x:=.ow (.lst [])) (Z1:=bG sh d ↥(ys.map I.str) ↑(.ref G6.length) ↑(.ref (G6.length+1)) ↑(.ref (G6.length+2)) (some (.ow (.dic (jc G6.length (G6.length+1) (G6.length+2))))) ↥[.int 14] none none none none) (G1:=G7) (by simp! []) rfl) ?_
  have fz7:G7[G6.length+2]?=some (.lst (ds.map I.str)):=by have:=sc0.f;rw [hS] at this;exact this
  rw [hS] at e8
  refine aj (b7 (eh (e:=⇑(.ref (G6.length+2))) (n:=ds.length) (Z1:=bG sh d ↥(ys.map I.str) ↑(.ref G6.length) ↑(.ref (G6.length+1)) ↑(.ref (G6.length+2)) (some (.ow (.dic (jc G6.length (G6.length+1) (G6.length+2))))) ↥[.int 14] ↥[] none none none) (G1:=G7) (xs:=ds.map I.str) (by simp! []) rfl (by simp [sq,pk,fz7]) (by simp)) e8) ?_
  refine aj (bC (x:=.ow (.lst [.int 22])) (Z1:=bG sh d ↥(ys.map I.str) ↑(.ref G6.length) ↑(.ref (G6.length+1)) ↑(.ref (G6.length+2)) v5 v6 ↥(told.map bf) v8 none none) (G1:=G8) (by simp! []) rfl) ?_
  refine aj (bC a1 rfl) ?_
  refine aj ec ?_
  refine aj (bC (x:=.im (.tup (xs.map cU))) (Z1:=bG sh d ↥(ys.map I.str) ↑(.ref G6.length) ↑(.ref (G6.length+1)) ↑(.ref (G6.length+2)) ↑(.ref k) ↑(.ref Ga.length) ↥(told.map bf) v8 ↑(.tup (aq bd')) none) (G1:=Gd) ?_ rfl) ?_
  ·refine av (av (kG (by rfl) (eh (e:=⇑(.ref G6.length)) (n:=cs.length) (Z1:=bG sh d ↥(ys.map I.str) ↑(.ref G6.length) ↑(.ref (G6.length+1)) ↑(.ref (G6.length+2)) ↑(.ref k) ↑(.ref Ga.length) ↥(told.map bf) v8 ↑(.tup (aq bd')) none) (G1:=Gc) (xs:=cs.map I.str) (by simp! []) rfl (by have h:=sCc;simp [sq,pk,h]) (by simp)) (by show cs.length≤100000;lia) ed) rfl) ?_
   simp [cz,sq,pk]
  refine cF (Z1:=bG sh d ↥(ys.map I.str) ↑(.ref G6.length) ↑(.ref (G6.length+1)) ↑(.ref (G6.length+2)) ↑(.ref k) ↑(.ref Ga.length) ↥(told.map bf) v8 ↑(.tup (aq bd')) ↑(.tup (xs.map cU))) ?_
  have a3:bd (af (dI (bF (one (aY (aa 4))) aR) [0] c1 a9 (bd (af (aa 0) (af (ah bu (ag (.int 1)) (bd (af (aa 1) (af (ag (.int 8)) ae)) (ax 2 aS))) ae)) ay)) ae) cz (bG sh d ↥(ys.map I.str) ↑(.ref G6.length) ↑(.ref (G6.length+1)) ↑(.ref (G6.length+2)) ↑(.ref k) ↑(.ref Ga.length) ↥(told.map bf) v8 ↑(.tup (aq bd')) ↑(.tup (xs.map cU))) Gd=some (⇑(.tup (zs.map cU)),bG sh d ↥(ys.map I.str) ↑(.ref G6.length) ↑(.ref (G6.length+1)) ↑(.ref (G6.length+2)) ↑(.ref k) ↑(.ref Ga.length) ↥(told.map bf) v8 ↑(.tup (aq bd')) ↑(.tup (xs.map cU)),Ge):=by
   refine av (av (kG (by rfl) (eh (e:=⇑(.ref (G6.length+1))) (n:=rs.length) (Z1:=bG sh d ↥(ys.map I.str) ↑(.ref G6.length) ↑(.ref (G6.length+1)) ↑(.ref (G6.length+2)) ↑(.ref k) ↑(.ref Ga.length) ↥(told.map bf) v8 ↑(.tup (aq bd')) ↑(.tup (xs.map cU))) (G1:=Gd) (xs:=rs.map I.str) (by simp! []) rfl (by have h:Gd[G6.length+1]?=some (M.lst (rs.map I.str)):=rD;simp [sq,pk,h]) (by simp)) (by show rs.length≤100000;lia) ee) rfl) ?_
   simp [cz,sq,pk]
  have a4:bd (af (aa 8) ae) cz (bG sh d ↥(ys.map I.str) ↑(.ref G6.length) ↑(.ref (G6.length+1)) ↑(.ref (G6.length+2)) ↑(.ref k) ↑(.ref Ga.length) ↥(told.map bf) v8 ↑(.tup (aq bd')) ↑(.tup (xs.map cU))) Ge=some (⇑(.tup (told.map bf)),(bG sh d ↥(ys.map I.str) ↑(.ref G6.length) ↑(.ref (G6.length+1)) ↑(.ref (G6.length+2)) ↑(.ref k) ↑(.ref Ga.length) ↥(told.map bf) v8 ↑(.tup (aq bd')) ↑(.tup (xs.map cU))),Ge):=by simp! [cz]
  have a5:af (aa 10) ae (bG sh d ↥(ys.map I.str) ↑(.ref G6.length) ↑(.ref (G6.length+1)) ↑(.ref (G6.length+2)) ↑(.ref k) ↑(.ref Ga.length) ↥(told.map bf) v8 ↑(.tup (aq bd')) ↑(.tup (xs.map cU))) Ge=some ([⇑(.tup (aq bd'))],(bG sh d ↥(ys.map I.str) ↑(.ref G6.length) ↑(.ref (G6.length+1)) ↑(.ref (G6.length+2)) ↑(.ref k) ↑(.ref Ga.length) ↥(told.map bf) v8 ↑(.tup (aq bd')) ↑(.tup (xs.map cU))),Ge):=by simp! []
  refine av (a:=[⇑(.tup (xs.map cU)),⇑(.tup (zs.map cU)),⇑(.tup (told.map bf)),⇑(.tup (aq bd'))]) (Z1:=(bG sh d ↥(ys.map I.str) ↑(.ref G6.length) ↑(.ref (G6.length+1)) ↑(.ref (G6.length+2)) ↑(.ref k) ↑(.ref Ga.length) ↥(told.map bf) v8 ↑(.tup (aq bd')) ↑(.tup (xs.map cU)))) (G1:=Ge) (av (show aa 11 (bG sh d ↥(ys.map I.str) ↑(.ref G6.length) ↑(.ref (G6.length+1)) ↑(.ref (G6.length+2)) ↑(.ref k) ↑(.ref Ga.length) ↥(told.map bf) v8 ↑(.tup (aq bd')) ↑(.tup (xs.map cU))) Gd=some (⇑(.tup (xs.map cU)),(bG sh d ↥(ys.map I.str) ↑(.ref G6.length) ↑(.ref (G6.length+1)) ↑(.ref (G6.length+2)) ↑(.ref k) ↑(.ref Ga.length) ↥(told.map bf) v8 ↑(.tup (aq bd')) ↑(.tup (xs.map cU))),Gd) from rfl) (av (av a3 (av (av a4 (av a5 rfl)) rfl)) rfl)) ?_
  simp! [Pg.i]
 ·have e1:S.cs=xs.map (·.1):=by rw [hS];exact fx.symm
  have e2:S.rs=zs.map (·.1):=by rw [hS];exact fz.symm
  have e3:S.ds=told.map (·.1):=ef.symm
  have l1:xs.length=cs.length:=by have:=congrArg List.length fx;rw [z12] at this;exact this
  have l2:zs.length=rs.length:=by have:=congrArg List.length fz;rw [z12] at this;exact this
  have l3:told.length=ds.length:=by have:=congrArg List.length ef;rw [z12,hS] at this;exact this
  exact⟨by show 0<xs.length;lia,by show (xs.map (·.1)).Nodup;rw [<- e1,hS];show cs.Nodup;rw [hcs];exact (List.take_sublist _ _).nodup ynd,by show (zs.map (·.1)).Nodup;rw [<- e2,hS];exact sr.nodup ynd,by show (told.map (·.1)).Nodup;rw [<- e3,hS];exact sd.nodup ynd,⟨by show xs.length≤24;lia,by show zs.length≤24;lia,by show told.length≤24;lia⟩,hx,hz,λq hq=>⟨iT e1 e2 e3 _ (hp q hq).1,(hp q hq).2⟩,⟨iT e1 e2 e3 _ kc,dc,lenc⟩,hs,nc⟩
end
section
set_option maxHeartbeats 400000
abbrev Tm.us:Tm->List (Str×Str)
 | .num _=>[]
 | .cell x=>[("cell",x)]
 | .at_ r t=>("at",r)::t.us
 | .op _ a b=>a.us++b.us
mutual
noncomputable def Sm.us:Sm->List (Str×Str)
 | .set x t=>("cell",x)::t.us
 | .put r a b=>("at",r)::(a.us++b.us)
 | .call f=>[("call",f)]
 | .wh t b=>t.us++bg b
 | .ite t b c=>t.us++(bg b++bg c)
noncomputable def bg:List Sm->List (Str×Str)
 | []=>[]
 | s::b=>s.us++bg b
end
abbrev eQ(nm x:Str)(l:Int):Str:=if l-1=-1 then nm else x
abbrev wT(nm:Str):Tm->Int->Tm
 | .num w,_=>.num w
 | .cell x,l=>.cell (eQ nm x l)
 | .at_ r t,l=>.at_ (eQ nm r l) (wT nm t (l-1))
 | .op s a b,l=>.op s (wT nm a l) (wT nm b (l-a.us.length))
mutual
noncomputable def wS(nm:Str):Sm->Int->Sm
 | .set x t,l=>.set (eQ nm x l) (wT nm t (l-1))
 | .put r a b,l=>.put (eQ nm r l) (wT nm a (l-1)) (wT nm b (l-1-a.us.length))
 | .call f,l=>.call (eQ nm f l)
 | .wh t b,l=>.wh (wT nm t l) (wB nm b (l-t.us.length))
 | .ite t b c,l=>.ite (wT nm t l) (wB nm b (l-t.us.length)) (wB nm c (l-t.us.length-(bg b).length))
noncomputable def wB(nm:Str):List Sm->Int->List Sm
 | [],_=>[]
 | s::b,l=>wS nm s l::wB nm b (l-s.us.length)
end
theorem dB(nm:Str):∀(t:Tm) (l:Int),(wT nm t l).us.length=t.us.length
 | .num _,_=>rfl
 | .cell _,_=>rfl
 | .at_ _ t,l=>by rw [wT,Tm.us,Tm.us,z11,z11,dB nm t]
 | .op _ a b,l=>by rw [wT,Tm.us,Tm.us,za,za,dB nm a,dB nm b]
theorem dC(nm:Str):∀(t:Tm) (l:Int),(wT nm t l).size=t.size
 | .num _,_=>rfl
 | .cell _,_=>rfl
 | .at_ _ t,l=>by rw [wT,Tm.size,Tm.size,dC nm t]
 | .op _ a b,l=>by rw [wT,Tm.size,Tm.size,dC nm a,dC nm b]
mutual
theorem Gp(nm:Str):∀(s:Sm) (l:Int),(wS nm s l).us.length=s.us.length
 | .set _ t,l=>by rw [wS,Sm.us,Sm.us,z11,z11,dB nm t]
 | .put _ a b,l=>by rw [wS,Sm.us,Sm.us,z11,z11,za,za,dB nm a,dB nm b]
 | .call _,l=>by rw [wS,Sm.us,Sm.us];rfl
 | .wh t b,l=>by rw [wS,Sm.us,Sm.us,za,za,dB nm t,hR nm b]
 | .ite t b c,l=>by rw [wS,Sm.us,Sm.us,za,za,za,za,dB nm t,hR nm b,hR nm c]
theorem hR(nm:Str):∀(b:List Sm) (l:Int),(bg (wB nm b l)).length=(bg b).length
 | [],_=>by rw [wB]
 | s::b,l=>by rw [wB,bg,bg,za,za,Gp nm s,hR nm b]
end
def j9{nm x:Str}{l:Int}(h:l<0):eQ nm x l=x:=if_neg (by lia)
theorem gw(nm:Str):∀(t:Tm) (l:Int),l<0->wT nm t l=t
 | .num _,_,_=>rfl
 | .cell _,_,h=>by rw [wT,j9 h]
 | .at_ _ t,l,h=>by rw [wT,j9 h,gw nm t _ (by lia)]
 | .op _ a b,l,h=>by rw [wT,gw nm a _ h,gw nm b _ (by lia)]
mutual
theorem wW(nm:Str):∀(s:Sm) (l:Int),l<0->wS nm s l=s
 | .set _ t,l,h=>by rw [wS,j9 h,gw nm t _ (by lia)]
 | .put _ a b,l,h=>by rw [wS,j9 h,gw nm a _ (by lia),gw nm b _ (by lia)]
 | .call _,l,h=>by rw [wS,j9 h]
 | .wh t b,l,h=>by rw [wS,gw nm t _ h,iU nm b _ (by lia)]
 | .ite t b c,l,h=>by rw [wS,gw nm t _ h,iU nm b _ (by lia),iU nm c _ (by lia)]
theorem iU(nm:Str):∀(b:List Sm) (l:Int),l<0->wB nm b l=b
 | [],_,_=>by rw [wB]
 | s::b,l,h=>by rw [wB,wW nm s _ h,iU nm b _ (by lia)]
end
mutual
noncomputable def Sm.sh:Sm->Prop
 | .set _ t=>t.size≤20
 | .put _ a b=>a.size≤20/\b.size≤20
 | .call _=>True
 | .wh t b=>t.size≤20/\bU b
 | .ite t b c=>t.size≤20/\bU b/\bU c
noncomputable def bU:List Sm->Prop
 | []=>True
 | s::b=>s.sh/\bU b
end
mutual
theorem wX{S:Scn}:∀(s:Sm),s.ok S->s.sh
 | .set _ t,h=>by rw [Sm.ok] at h;rw [Sm.sh];exact h.2.2.1
 | .put _ a b,h=>by rw [Sm.ok] at h;rw [Sm.sh];exact⟨h.2.2.2.1.1,h.2.2.2.2.1⟩
 | .call _,_=>by rw [Sm.sh];trivial
 | .wh t b,h=>by rw [Sm.ok] at h;rw [Sm.sh];exact⟨h.2.1.1,iV b h.2.2⟩
 | .ite t b c,h=>by rw [Sm.ok] at h;rw [Sm.sh];exact⟨h.2.1.1,iV b h.2.2.1,iV c h.2.2.2⟩
theorem iV{S:Scn}:∀(b:List Sm),aX S b->bU b
 | [],_=>by rw [bU];trivial
 | s::b,h=>by rw [aX] at h;rw [bU];exact⟨wX s h.1,iV b h.2⟩
end
mutual
theorem wY(nm:Str):∀(s:Sm) (l:Int),s.sh->(wS nm s l).sh
 | .set _ t,l,h=>by rw [Sm.sh] at h;rw [wS,Sm.sh,dC];exact h
 | .put _ a b,l,h=>by rw [Sm.sh] at h;rw [wS,Sm.sh,dC,dC];exact h
 | .call _,l,h=>by rw [wS,Sm.sh];trivial
 | .wh t b,l,h=>by rw [Sm.sh] at h;rw [wS,Sm.sh,dC];exact⟨h.1,iW nm b _ h.2⟩
 | .ite t b c,l,h=>by rw [Sm.sh] at h;rw [wS,Sm.sh,dC];exact⟨h.1,iW nm b _ h.2.1,iW nm c _ h.2.2⟩
theorem iW(nm:Str):∀(b:List Sm) (l:Int),bU b->bU (wB nm b l)
 | [],_,_=>by rw [wB,bU];trivial
 | s::b,l,h=>by rw [bU] at h;rw [wB,bU];exact⟨wY nm s _ h.1,iW nm b _ h.2⟩
end
mutual
theorem Gq(nm:Str):∀(s:Sm) (l:Int),(wS nm s l).n=s.n
 | .set _ t,l=>by rw [wS,Sm.n,Sm.n,dC]
 | .put _ a b,l=>by rw [wS,Sm.n,Sm.n,dC,dC]
 | .call _,l=>by rw [wS,Sm.n,Sm.n]
 | .wh t b,l=>by rw [wS,Sm.n,Sm.n,dC,iX nm b]
 | .ite t b c,l=>by rw [wS,Sm.n,Sm.n,dC,iX nm b,iX nm c]
theorem iX(nm:Str):∀(b:List Sm) (l:Int),aP (wB nm b l)=aP b
 | [],_=>by rw [wB]
 | s::b,l=>by rw [wB,aP,aP,Gq nm s,iX nm b]
end
mutual
theorem Gr(nm:Str):∀(s:Sm) (l:Int),(wS nm s l).deep=s.deep
 | .set _ t,l=>by rw [wS,mn,mn]
 | .put _ a b,l=>by rw [wS,mq,mq]
 | .call _,l=>by rw [wS,zC,zC]
 | .wh t b,l=>by rw [wS,Sm.deep,Sm.deep,iY nm b]
 | .ite t b c,l=>by rw [wS,Sm.deep,Sm.deep,iY nm b,iY nm c]
theorem iY(nm:Str):∀(b:List Sm) (l:Int),cu (wB nm b l)=cu b
 | [],_=>by rw [wB]
 | s::b,l=>by rw [wB,cu,cu,Gr nm s,iY nm b]
end
theorem mv(nm:Str):∀(b:List Sm) (l:Int),(wB nm b l).length=b.length
 | [],_=>by rw [wB]
 | s::b,l=>by rw [wB,z11,z11,mv nm b]
abbrev cj:List (Str×List Sm)->List (Str×Str)
 | []=>[]
 | q::r=>bg q.2++cj r
abbrev wD(nm:Str):List (Str×List Sm)->Int->List (Str×List Sm)
 | [],_=>[]
 | q::r,l=>(q.1,wB nm q.2 l)::wD nm r (l-(bg q.2).length)
abbrev Pg.us(p:Pg):List (Str×Str):=cj p.defs++bg p.body
abbrev wP(nm:Str)(p:Pg)(l:Int):Pg:=⟨p.cells,p.rows,wD nm p.defs l,wB nm p.body (l-(cj p.defs).length)⟩
theorem wZ(nm:Str):∀(q:List (Str×List Sm)) (l:Int),l<0->wD nm q l=q
 | [],_,_=>rfl
 | q::r,l,h=>by rw [wD,iU nm _ _ h,wZ nm r _ (by lia)]
def w8{nm:Str}{p:Pg}{l:Int}(h:l<0):wP nm p l=p:=by
 unfold wP
 rw [wZ nm _ _ h,iU nm _ _ (by lia)]
structure Pg.Sh(p:Pg):Prop where
 c1:p.cells.length≤24/\p.rows.length≤24/\p.defs.length≤24
 ds:∀q∈p.defs,bU q.2/\cu q.2≤4/\q.2.length≤1001
 bo:bU p.body/\cu p.body≤4/\p.body.length≤1001
 n1:(p.defs.map λq=>aP q.2).sum≤294
 n2:aP p.body≤484
def Pg.Ok.sh{p:Pg}(h:p.Ok):p.Sh:=⟨h.c1,λq hq=>⟨iV _ (h.ds q hq).1,(h.ds q hq).2.1,by have:=(h.ds q hq).2.2;lia⟩,⟨iV _ h.bo.1,h.bo.2⟩,h.n1,h.n2⟩
theorem xc(nm:Str):∀(q:List (Str×List Sm)) (l:Int),(wD nm q l).length=q.length
 | [],_=>rfl
 | q::r,l=>by rw [wD,z11,z11,xc nm r]
theorem xf(nm:Str):∀(q:List (Str×List Sm)) (l:Int),((wD nm q l).map λq=>aP q.2)=q.map λq=>aP q.2
 | [],_=>rfl
 | q::r,l=>by rw [wD,z16,z16,xf nm r,iX]
theorem xg(nm:Str):∀(q:List (Str×List Sm)) (l:Int),∀x∈wD nm q l,∃y∈q,∃k,x=(y.1,wB nm y.2 k)
 | [],_,x,h=>by cases h
 | q::r,l,x,h=>by
  rw [wD] at h
  rcases z1e.mp h with rfl|h
  ·exact⟨q,List.mem_cons_self,_,rfl⟩
  ·obtain⟨y,hy,k,e⟩:=xg nm r _ x h
   exact⟨y,z23 _ hy,k,e⟩
def Pg.Sh.w{p:Pg}(h:p.Sh)(nm:Str)(l:Int):(wP nm p l).Sh:=by
 refine⟨⟨h.c1.1,h.c1.2.1,by show (wD nm p.defs l).length≤24;rw [xc];exact h.c1.2.2⟩,λq hq=>?_,⟨iW nm _ _ h.bo.1,by show cu (wB nm _ _)≤4;rw [iY];exact h.bo.2.1,by show (wB nm _ _).length≤1001;rw [mv];exact h.bo.2.2⟩,by show ((wD nm p.defs l).map λq=>aP q.2).sum≤294;rw [xf];exact h.n1,by show aP (wB nm _ _)≤484;rw [iX];exact h.n2⟩
 obtain⟨y,hy,k,rfl⟩:=xg nm p.defs l q hq
 have:=h.ds y hy
 exact⟨iW nm _ _ this.1,by rw [iY];exact this.2.1,by rw [mv];exact this.2.2⟩
theorem gx:∀t:Tm,t.us.length≤t.size
 | .num _=>by rw [Tm.us,Tm.size];simp
 | .cell _=>by rw [Tm.us,Tm.size];simp
 | .at_ _ t=>by rw [Tm.us,Tm.size,z11];have:=gx t;lia
 | .op _ a b=>by rw [Tm.us,Tm.size,za];have:=gx a;have:=gx b;lia
mutual
theorem xh:∀s:Sm,s.us.length≤s.n
 | .set _ t=>by rw [Sm.us,Sm.n,z11];have:=gx t;lia
 | .put _ a b=>by rw [Sm.us,Sm.n,z11,za];have:=gx a;have:=gx b;lia
 | .call _=>by rw [Sm.us,Sm.n];simp
 | .wh t b=>by rw [Sm.us,Sm.n,za];have:=gx t;have:=iZ b;lia
 | .ite t b c=>by rw [Sm.us,Sm.n,za,za];have:=gx t;have:=iZ b;have:=iZ c;lia
theorem iZ:∀b:List Sm,(bg b).length≤aP b
 | []=>by rw [bg,aP];simp
 | s::b=>by rw [bg,aP,za];have:=xh s;have:=iZ b;lia
end
theorem yf4:∀q:List (Str×List Sm),(cj q).length≤(q.map λq=>aP q.2).sum
 | []=>by rw [cj];simp
 | q::r=>by rw [cj,za,z16,List.sum_cons];have:=iZ q.2;have:=yf4 r;lia
theorem Pg.Sh.us{p:Pg}(h:p.Sh):p.us.length≤778:=by
 unfold Pg.us
 rw [za]
 have:=yf4 p.defs;have:=iZ p.body;have:=h.n1;have:=h.n2
 lia
end
section
abbrev uI(u:Str×Str):I:=.tup [.str u.1,.str u.2]
abbrev bz(G:List M)(q f:Nat)(l:Int)(us:List (Str×Str)):List M:=(G.set q (.lst [.int l])).set f (.lst (us.map uI))
structure Qf(G:List M)(q f:Nat):Prop where
 ne:q≠f
 hq:q<G.length
 hf:f<G.length
variable {G:List M}{q f:Nat}{l:Int}{us:List (Str×Str)}{nm:Str}
def xj(h:Qf G q f):(bz G q f l us)[q]?=some (.lst [.int l]):=by
 unfold bz;rw [z26 h.ne.symm,List.getElem?_set_self h.hq]
def Gu(h:Qf G q f):(bz G q f l us)[f]?=some (.lst (us.map uI)):=by
 unfold bz;rw [List.getElem?_set_self (by rw [z2b];exact h.hf)]
def xk(h:Qf G q f)(l':Int):(bz G q f l us).set q (.lst [.int l'])=bz G q f l' us:=by
 unfold bz;rw [List.set_comm _ _ h.ne.symm,List.set_set]
def xl(us':List (Str×Str)):(bz G q f l us).set f (.lst (us'.map uI))=bz G q f l us':=by
 unfold bz;rw [List.set_set]
def kd{s own:Str}(h:Qf G q f)(hl:us.length<1000):m9 [.im (.str s),.im (.str own),.im (.ref q),.im (.str nm),.im (.ref f)] (bz G q f l us)=some (.im (.str (eQ nm own l)),bz G q f (l-1) (us++[(s,eQ nm own l)])):=by
 obtain⟨t,ht⟩:∃t:Str,t=eQ nm own l:=⟨_,rfl⟩
 have hq:=xj (l:=l) (us:=us) h
 have hq1:=xj (l:=l-1) (us:=us) h
 have hf1:=Gu (l:=l-1) (us:=us) h
 refine aJ rfl ?_
 refine aj (Z1:=[↑(.str s),↑(.str own),↑(.ref q),↑(.str nm),↑(.ref f),none]) (G1:=bz G q f (l-1) us) ?_ ?_
 ·rw [<- xk (l:=l) h (l-1)]
  simp! [hq,dh,gC]
 rw [<- ht]
 refine aj (Z1:=[↑(.str s),↑(.str own),↑(.ref q),↑(.str nm),↑(.ref f),↑(.str t)]) (G1:=bz G q f (l-1) us) (bC (x:=.im (.str t)) (Z1:=[↑(.str s),↑(.str own),↑(.ref q),↑(.str nm),↑(.ref f),none]) (G1:=bz G q f (l-1) us) ?_ rfl) ?_
 ·rw [ht]
  unfold eQ
  by_cases hz:l-1=-1
  ·rw [if_pos hz,hz]
   rw [hz] at hq1
   simp! [hq1,dh,eA,dN]
  ·rw [if_neg hz]
   have hz':¬ (l=0):=by lia
   simp! [hq1,dh,eA,dN,hz,hz']
 refine aj (Z1:=[↑(.str s),↑(.str own),↑(.ref q),↑(.str nm),↑(.ref f),↑(.str t)]) (G1:=bz G q f (l-1) (us++[(s,t)])) ?_ rfl
 have hl':us.length<1000000:=by lia
 rw [<- xl (us:=us) (us++[(s,t)])]
 simp! [hf1,uI,hl']
def Gv:((("cell" : Str)) == "op")=false:=by decide +kernel
def Gw:((("cell" : Str)) == "num")=false:=by decide +kernel
def Gx:((("at" : Str)) == "num")=false:=by decide +kernel
def Gy:((("at" : Str)) == "op")=false:=by decide +kernel
def Gz:((("at" : Str)) == "cell")=false:=by decide +kernel
def GA:((("op" : Str)) == "num")=false:=by decide +kernel
def mw(h:Qf G q f):∀(n:Nat) (t:Tm) (l:Int) (us:List (Str×Str)),t.size≤n->us.length+t.us.length≤900->g9 n [.im t.i,.im (.ref q),.im (.str nm),.im (.ref f)] (bz G q f l us)=some (.im (wT nm t l).i,bz G q f (l-t.us.length) (us++(wT nm t l).us)):=by
 intro n
 induction n with
 | zero=>intro t l us hn;cases t<;>simp [Tm.size] at hn
 | succ n ih =>
  intro t l us hn hl
  rw [g9]
  cases t with
  | num w =>
   refine aJ rfl ?_
   have e:bz G q f (l-(Tm.num w).us.length) (us++(wT nm (.num w) l).us)=bz G q f l us:=by simp [Tm.us,wT]
   rw [e]
   simp! [Tm.i,wT,dh]
  | cell x =>
   have u:=kd (s:="cell") (own:=x) (nm:=nm) (l:=l) h (us:=us) (by lia)
   refine aJ rfl ?_
   have e:bz G q f (l-(Tm.cell x).us.length) (us++(wT nm (.cell x) l).us)=bz G q f (l-1) (us++[(("cell" : Str),eQ nm x l)]):=by simp [Tm.us,wT]
   rw [e]
   simp! [Tm.i,wT,dh,eA,Gv,Gw,u]
  | at_ r t =>
   rw [Tm.size] at hn
   rw [Tm.us,z11] at hl
   have u:=kd (s:="at") (own:=r) (nm:=nm) (l:=l) h (us:=us) (by lia)
   have e1:=ih t (l-1) (us++[(("at" : Str),eQ nm r l)]) (by lia) (by simp;lia)
   refine aJ rfl ?_
   have e:bz G q f (l-(Tm.at_ r t).us.length) (us++(wT nm (.at_ r t) l).us)=bz G q f (l-1-t.us.length) (us++[(("at" : Str),eQ nm r l)]++(wT nm t (l-1)).us):=by
    rw [wT,Tm.us,Tm.us,z11,z21,z34];congr 1;lia
   rw [e]
   simp! [Tm.i,wT,dh,eA,mj,Gx,Gy,Gz,u,e1]
  | op s a b =>
   rw [Tm.size] at hn
   rw [Tm.us,za] at hl
   have e1:=ih a l us (by lia) (by lia)
   have e2:=ih b (l-a.us.length) (us++(wT nm a l).us) (by lia) (by rw [za,dB];lia)
   refine aJ rfl ?_
   have e:bz G q f (l-(Tm.op s a b).us.length) (us++(wT nm (.op s a b) l).us)=bz G q f (l-a.us.length-b.us.length) (us++(wT nm a l).us++(wT nm b (l-a.us.length)).us):=by
    rw [wT,Tm.us,Tm.us,za,z21];congr 1;lia
   rw [e]
   simp! [Tm.i,wT,dh,eA,mj,wC,GA,e1,e2]
end
section
theorem xm{α:Type}{f:α->I}{xs:List α}{e:Ev}{g:GF}{b:SF}(P:List α->De->List M->Prop)(hs:∀pre Z G,P pre Z G->sq Z G e=some (xs.map f))
  (step:∀pre x post Z G,xs=pre++x::post->P pre Z G->∃Z1 G1 Z2 G2,g (.im (f x)) Z G=some (Z1,G1)/\(b Z1 G1=some (.nx Z2 G2)∨b Z1 G1=some (.ct Z2 G2))/\P (pre++[x]) Z2 G2) :
  ∀(post pre:List α) {Z:De} {G:List M},xs=pre++post->P pre Z G->∃Z' G',aV (a6 e xs.length) g b pre.length post.length Z G=some (.nx Z' G')/\P xs Z' G'
 | [],pre,Z,G,hx,h=>by
  refine⟨Z,G,?_,by rw [hx,z10];exact h⟩
  show aV _ g b pre.length 0 Z G=_
  unfold aV a6
  simp [hs pre Z G h]
 | x::post,pre,Z,G,hx,h=>by
  obtain⟨Z1,G1,Z2,G2,h1,h2,h3⟩:=step pre x post Z G hx h
  obtain⟨Z',G',e1,h4⟩:=xm P hs step post (pre++[x]) (by rw [hx];simp) h3
  refine⟨Z',G',?_,h4⟩
  show aV _ g b pre.length (post.length+1) Z G=_
  have ha:(a6 e xs.length).at_ pre.length Z G=some (f x):=by
   show (sq Z G e).bind (·[pre.length]?)=_
   rw [hs pre Z G h]
   show (xs.map f)[pre.length]?=_
   rw [hx];simp
  unfold aV
  rw [ha];dsimp only;rw [h1];dsimp only
  rw [za] at e1
  rcases h2 with h2|h2<;>(rw [h2];exact e1)
theorem xn{α:Type}{f:α->I}{xs:List α}{e:Ev}{c:I->Option (List I)}{te:Mo Ev}{di Z:De}(P:List α->List I->List M->Prop)(hs:∀pre acc G,P pre acc G->sq Z G e=some (xs.map f))
  (step:∀pre x post acc G,xs=pre++x::post->P pre acc G->∃ds y Zb Gb,c (f x)=some ds/\te ((ds.map λd=>some (Vl.im d))++di) G=some (⇑y,Zb,Gb)/\P (pre++[x]) (acc++[y]) Gb) :
  ∀(post pre:List α) {acc:List I} {G:List M},xs=pre++post->P pre acc G->∃ds G',dH (a6 e xs.length) c a9 te di pre.length post.length acc Z G=some (ds,G')/\P xs ds G'
 | [],pre,acc,G,hx,h=>by
  refine⟨acc,G,?_,by rw [hx,z10];exact h⟩
  show dH _ c a9 te di pre.length 0 acc Z G=_
  unfold dH a6
  simp [hs pre acc G h]
 | x::post,pre,acc,G,hx,h=>by
  obtain⟨ds,y,Zb,Gb,h1,h2,h3⟩:=step pre x post acc G hx h
  obtain⟨ds',G',e1,h4⟩:=xn P hs step post (pre++[x]) (by rw [hx];simp) h3
  refine⟨ds',G',?_,h4⟩
  show dH _ c a9 te di pre.length (post.length+1) acc Z G=_
  have ha:(a6 e xs.length).at_ pre.length Z G=some (f x):=by
   show (sq Z G e).bind (·[pre.length]?)=_
   rw [hs pre acc G h]
   show (xs.map f)[pre.length]?=_
   rw [hx];simp
  unfold dH
  rw [ha];dsimp only;rw [h1];dsimp only [a9,rt];rw [h2]
  rw [za] at e1
  exact e1
def fN{fe:Mo Ev}{xs:List I}{n:Nat}{Z Z1:De}{G G1:List M}(h:fe Z G=some (⇑(.tup xs),Z1,G1))(hn:xs.length=n):bF (one fe) aR Z G=some (a6 ⇑(.tup xs) n,[⇑(.tup xs)],Z1,G1):=by
 subst hn
 exact pC (av h rfl) rfl
abbrev bX(G G':List M):Prop:=∃T,G'=G++T
def bX.refl(G:List M):bX G G:=⟨[],by simp⟩
def bX.trans{G G1 G2:List M}(a:bX G G1)(b:bX G1 G2):bX G G2:=by obtain⟨s,rfl⟩:=a;obtain⟨t,rfl⟩:=b;exact⟨s++t,by simp⟩
def bX.app(G T:List M):bX G (G++T):=⟨T,rfl⟩
def bX.at_{G G':List M}{k:Nat}{m:M}(e:bX G G')(h:G[k]?=some m):G'[k]?=some m:=by
 obtain⟨t,rfl⟩:=e
 rw [z1a (z14.mp h).1];exact h
def bX.mor{G G':List M}{g s:Nat}(e:bX G G'):Mor g s G G':=by obtain⟨t,rfl⟩:=e;exact Mor.app t
def cV{w:Wk}{g:GF}{b:SF}{i r:Nat}{Z Z1 Z2:De}{G G1 G2:List M}{d:I}{R:Option Fl}(h1:w.at_ i Z G=some d)(h2:g (.im d) Z G=some (Z1,G1))(h3:b Z1 G1=some (.nx Z2 G2))(h4:aV w g b (i+1) r Z2 G2=R):aV w g b i (r+1) Z G=R:=by
 unfold aV
 rw [h1];dsimp only;rw [h2];dsimp only;rw [h3];exact h4
def eR{w:Wk}{g:GF}{b:SF}{i:Nat}{Z:De}{G:List M}(h:w.fin Z G=true):aV w g b i 0 Z G=some (.nx Z G):=by
 unfold aV;rw [h];rfl
theorem mx:∀(a b:List Sm),bg (a++b)=bg a++bg b
 | [],_=>by rw [z29,bg,z29]
 | s::a,b=>by rw [z2a,bg,bg,mx a b,z21]
theorem pJ(nm:Str):∀(a b:List Sm) (l:Int),wB nm (a++b) l=wB nm a l++wB nm b (l-(bg a).length)
 | [],_,l=>by rw [z29,wB,z29,bg];simp
 | s::a,b,l=>by
  rw [z2a,wB,wB,pJ nm a b,z2a,bg,za]
  congr 3;lia
def GB:∀s:Sm,1≤s.n
 | .set _ t=>by rw [Sm.n];lia
 | .put _ a b=>by rw [Sm.n];lia
 | .call _=>by rw [Sm.n];lia
 | .wh t b=>by rw [Sm.n];lia
 | .ite t b c=>by rw [Sm.n];lia
theorem my:∀b:List Sm,b.length≤aP b
 | []=>by rw [aP];simp
 | s::b=>by rw [aP,z11];have:=my b;have:=GB s;lia
theorem kf:∀b:List Sm,aq b=b.map Sm.i
 | []=>by rw [aq];rfl
 | s::b=>by rw [aq,z16,kf b]
def GC:((("put" : Str)) == "set")=false:=by decide +kernel
def GD:((("call" : Str)) == "set")=false:=by decide +kernel
def GG:((("call" : Str)) == "put")=false:=by decide +kernel
variable {G:List M}{q f:Nat}{nm:Str}
abbrev pK(G:List M)(q f:Nat)(nm:Str)(fn:FF)(s:Sm):Prop:=∀(l:Int) (us:List (Str×Str)),us.length+s.us.length≤900->fn [.im s.i,.im (.ref q),.im (.str nm),.im (.ref f)] (bz G q f l us)=some (.im (wS nm s l).i,bz G q f (l-s.us.length) (us++(wS nm s l).us))
abbrev pL(G:List M)(q f:Nat)(nm:Str)(fn:FF)(b:List Sm):Prop:=∀(l:Int) (us:List (Str×Str)),us.length+(bg b).length≤900->fn [.im (.tup (aq b)),.im (.ref q),.im (.str nm),.im (.ref f)] (bz G q f l us)=some (.im (.tup (aq (wB nm b l))),bz G q f (l-(bg b).length) (us++bg (wB nm b l)))
def xp{n:Nat}{b:List Sm}(hb:b.length≤1000)(hs:∀s∈b,pK G q f nm (fL n) s):pL G q f nm (fM (n+1)) b:=by
 intro l us hl
 rw [fM]
 obtain⟨ds,G',e,ed,eg⟩:=xn (f:=Sm.i) (xs:=b) (e:=⇑(.tup (aq b))) (c:=c1) (te:=bd (af (aa 0) (af (aa 1) (af (aa 2) (af (aa 3) ae)))) (ax 4 (fL n))) (di:=[↑(.ref q),↑(.str nm),↑(.ref f)]) (Z:=[↑(.tup (aq b)),↑(.ref q),↑(.str nm),↑(.ref f)])
  (λpre acc G'=>acc=aq (wB nm pre l)/\G'=bz G q f (l-(bg pre).length) (us++bg (wB nm pre l)))
  (λpre acc g _=>by simp [sq,kf])
  (λpre s post acc g hx zz=>by
   obtain⟨ea,eg⟩:=zz
   have hm:s∈b:=by rw [hx];simp
   have e1:=hs s hm (l-(bg pre).length) (us++bg (wB nm pre l)) (by rw [hx,mx,bg] at hl;simp only [za] at hl ⊢;rw [hR];lia)
   rw [<- eg] at e1
   refine⟨[s.i],(wS nm s (l-(bg pre).length)).i,[↑s.i,↑(.ref q),↑(.str nm),↑(.ref f)],_,rfl,av (a:=[⇑s.i,⇑(.ref q),⇑(.str nm),⇑(.ref f)]) rfl (cB (xs:=[.im s.i,.im (.ref q),.im (.str nm),.im (.ref f)]) rfl rfl e1),?_,?_⟩
   ·rw [ea,pJ,iS,wB,wB,aq,aq]
   ·rw [pJ,wB,wB,mx,mx,bg,bg,bg,bg,z10,z10,z21,za]
    congr 1;lia)
  b [] (acc:=[]) (G:=bz G q f l us) rfl ⟨by rw [wB,aq],by rw [bg,wB,bg];simp⟩
 refine aJ rfl (cF (Z1:=[↑(.tup (aq b)),↑(.ref q),↑(.str nm),↑(.ref f)]) (av (a:=[.v (.ow (.lst (aq (wB nm b l))))]) (av (kG (by rfl) (fN (n:=b.length) rfl (dO b)) (by show b.length≤100000;lia) (by rw [ed] at e;exact e)) rfl) ?_))
 rw [eg]
 have:(aq (wB nm b l)).length≤1000000:=by rw [dO,mv];lia
 simp [cz,sq,pk]
end
section
variable {G:List M}{q f:Nat}{nm:Str}
abbrev s8(x:I)(q f:Nat)(nm:Str)(v4 v5 v6 v7:Option Vl):De:=[↑x,↑(.ref q),↑(.str nm),↑(.ref f),v4,v5,v6,v7]
def mz(x:Str)(t:Tm):(Sm.set x t).i=.tup [.str "set",.str x,t.i]:=by rw [Sm.i]
def mB(x:Str)(a b:Tm):(Sm.put x a b).i=.tup [.str "put",.str x,a.i,b.i]:=by rw [Sm.i]
def zF(x:Str):(Sm.call x).i=.tup [.str "call",.str x]:=by rw [Sm.i]
def kg(t:Tm)(b c:List Sm):(Sm.ite t b c).i=.tup [.str "if",t.i,.tup (aq b),.tup (aq c)]:=by rw [Sm.i]
def GH(h:Qf G q f){n:Nat}{x:Str}{t:Tm}(ht:t.size≤20):pK G q f nm (fL (n+1)) (.set x t):=by
 intro l us hl
 rw [Sm.us,z11] at hl
 have u:=kd (s:="cell") (own:=x) (nm:=nm) (l:=l) h (us:=us) (by lia)
 have e1:=mw (nm:=nm) h 20 t (l-1) (us++[(("cell" : Str),eQ nm x l)]) ht (by simp;lia)
 have e:bz G q f (l-(Sm.set x t).us.length) (us++(wS nm (.set x t) l).us)=bz G q f (l-1-t.us.length) (us++[(("cell" : Str),eQ nm x l)]++(wT nm t (l-1)).us):=by
  rw [wS,Sm.us,Sm.us,z11,z21,z34];congr 1;lia
 rw [e,fL]
 refine aJ rfl ?_
 simp! [mz,wS,dh,eA,mj,u,e1]
def GI(h:Qf G q f){n:Nat}{x:Str}{a b:Tm}(ha:a.size≤20)(hb:b.size≤20):pK G q f nm (fL (n+1)) (.put x a b):=by
 intro l us hl
 rw [Sm.us,z11,za] at hl
 have u:=kd (s:="at") (own:=x) (nm:=nm) (l:=l) h (us:=us) (by lia)
 have e1:=mw (nm:=nm) h 20 a (l-1) (us++[(("at" : Str),eQ nm x l)]) ha (by simp;lia)
 have e2:=mw (nm:=nm) h 20 b (l-1-a.us.length) (us++[(("at" : Str),eQ nm x l)]++(wT nm a (l-1)).us) hb (by rw [za,dB];simp;lia)
 have e:bz G q f (l-(Sm.put x a b).us.length) (us++(wS nm (.put x a b) l).us)=bz G q f (l-1-a.us.length-b.us.length) (us++[(("at" : Str),eQ nm x l)]++(wT nm a (l-1)).us++(wT nm b (l-1-a.us.length)).us):=by
  rw [wS,Sm.us,Sm.us,z11,za,z21,z21,z34];congr 1;lia
 rw [e,fL]
 obtain⟨G1,hG1⟩:∃G1,G1=bz G q f (l-1) (us++[(("at" : Str),eQ nm x l)]):=⟨_,rfl⟩
 obtain⟨G2,hG2⟩:∃G2,G2=bz G q f (l-1-a.us.length) (us++[(("at" : Str),eQ nm x l)]++(wT nm a (l-1)).us):=⟨_,rfl⟩
 rw [<- hG1] at u e1
 rw [<- hG2] at e1 e2
 refine aJ rfl ?_
 simp! [mB,wS,dh,eA,mj,wC,GC,u,e1,e2]
def GJ(h:Qf G q f){n:Nat}{x:Str}:pK G q f nm (fL (n+1)) (.call x):=by
 intro l us hl
 rw [Sm.us] at hl
 have u:=kd (s:="call") (own:=x) (nm:=nm) (l:=l) h (us:=us) (by simp at hl;lia)
 have e:bz G q f (l-(Sm.call x).us.length) (us++(wS nm (.call x) l).us)=bz G q f (l-1) (us++[(("call" : Str),eQ nm x l)]):=by
  rw [wS,Sm.us,Sm.us];rfl
 rw [e,fL]
 refine aJ rfl ?_
 simp! [zF,wS,dh,eA,GD,GG,u]
def GK{x y:I}{r:List I}:dy (x::y::r) (some 2) none=r:=by
 unfold dy
 rw [show (2:Int)=((2:Nat):Int) from rfl,HT.y368,HT.y369]
 simp
def xq{x y:I}{r:List I}{Z:De}{G:List M}(h:aa 0 Z G=some (⇑(.tup (x::y::r)),Z,G)):a7 (aa 0) (aW (ag (.int 2))) aZ Z G=some (⇑(.tup r),Z,G):=by
 refine av h (av (m:=aW (ag (.int 2))) (a:=[⇑(.int 2)]) rfl (av (m:=aZ) (a:=[]) rfl ?_))
 show some (Ev.v (Vl.im (I.tup (dy (x::y::r) (some 2) none))),Z,G)=_
 rw [GK]
abbrev xr(n:Nat):SF:=cJ (gn ik (aa 5) (af (bd (af (aa 7) (af (aa 1) (af (aa 2) (af (aa 3) ae)))) (ax 4 (fM n))) ae))
def pM{n:Nat}{x:I}{b:List Sm}{xs:List I}{v4 v6:Option Vl}{l:Int}{us:List (Str×Str)}(hb:pL G q f nm (fM n) b)(hl:us.length+(bg b).length≤900)(hx:xs.length≤10) :
  xr n (s8 x q f nm v4 ↥xs v6 ↑(.tup (aq b))) (bz G q f l us)=some (.nx (s8 x q f nm v4 ↥(xs++[.tup (aq (wB nm b l))]) v6 ↑(.tup (aq b))) (bz G q f (l-(bg b).length) (us++bg (wB nm b l)))):=by
 have e:=hb l us hl
 have h1:xs.length<1000000:=by lia
 refine wo (e:=⇑.non) (y8d (e:=.s 5) (Z1:=s8 x q f nm v4 ↥xs v6 ↑(.tup (aq b))) (G1:=bz G q f l us) rfl rfl (av (a:=⇑(.tup (aq (wB nm b l)))) (Z1:=s8 x q f nm v4 ↥xs v6 ↑(.tup (aq b))) (av (a:=[⇑(.tup (aq b)),⇑(.ref q),⇑(.str nm),⇑(.ref f)]) rfl (cB (xs:=[.im (.tup (aq b)),.im (.ref q),.im (.str nm),.im (.ref f)]) rfl rfl e)) rfl) ?_)
 simp [ik,pk,ig,s8,h1]
def xt(h:Qf G q f){n:Nat}{w:Str}{t:Tm}{r:List I}(ht:t.size≤20)(h1:(w == ("set" : Str))=false)(h2:(w == ("put" : Str))=false)(h3:(w == ("call" : Str))=false){l:Int}{us:List (Str×Str)}(hl:us.length+t.us.length≤900){v5 v7:List I}{vz:Option Vl}{G':List M}
  (hf:bB (bF (one (a7 (aa 0) (aW (ag (.int 2))) aZ)) aR) (aB 7) (xr n) (s8 (.tup (.str w::t.i::r)) q f nm ↑(.str w) ↥[.str w,(wT nm t l).i] none none) (bz G q f (l-t.us.length) (us++(wT nm t l).us))=some (.nx (s8 (.tup (.str w::t.i::r)) q f nm ↑(.str w) ↥(.str w::(wT nm t l).i::v7) none vz) G')) :
  fL (n+1) [.im (.tup (.str w::t.i::r)),.im (.ref q),.im (.str nm),.im (.ref f)] (bz G q f l us)=some (.im (.tup (.str w::(wT nm t l).i::v7)),G'):=by
 have e1:=mw (nm:=nm) h 20 t l us ht hl
 obtain⟨D,hD⟩:∃D,D=s8 (.tup (.str w::t.i::r)) q f nm ↑(.str w) none none none:=⟨_,rfl⟩
 have hw:ah ak (aa 0) (ag (.int 0)) (s8 (.tup (.str w::t.i::r)) q f nm none none none none) (bz G q f l us)=some (⇑(.str w),s8 (.tup (.str w::t.i::r)) q f nm none none none none,bz G q f l us):=by
  refine aF (x:=⇑(.tup (.str w::t.i::r))) (y:=⇑(.int 0)) rfl rfl ?_
  simp [ak,bW,dX,sq,pk,dh]
 have ne:∀{z:Str},(w == z)=false->ao (ah bP (aa 4) (ag (.str z))) D (bz G q f l us)=some (false,D,bz G q f l us):=λ{z} hz=>by
  rw [hD]
  refine dA (aF (x:=⇑(.str w)) (y:=⇑(.str z)) rfl rfl ?_)
  simp [bP,m5,om,gU,i9,cS,bZ,hz]
 rw [fL]
 refine aJ rfl (aj (Z1:=D) (G1:=bz G q f l us) (bC hw (by rw [hD];rfl)) (aj (aL (ne h1) rfl) (aj (aL (ne h2) rfl) (aj (aL (ne h3) rfl) (aj (Z1:=s8 (.tup (.str w::t.i::r)) q f nm ↑(.str w) ↥[.str w,(wT nm t l).i] none none) (G1:=bz G q f (l-t.us.length) (us++(wT nm t l).us)) (bC (x:=.ow (.lst [.str w,(wT nm t l).i])) (Z1:=D) ?_ (by rw [hD];rfl)) (aj hf (cF (Z1:=s8 (.tup (.str w::t.i::r)) q f nm ↑(.str w) ↥(.str w::(wT nm t l).i::v7) none vz) ?_)))))))
 ·rw [hD]
  have a1:ah ak (aa 0) (ag (.int 1)) (s8 (.tup (.str w::t.i::r)) q f nm ↑(.str w) none none none) (bz G q f l us)=some (⇑t.i,s8 (.tup (.str w::t.i::r)) q f nm ↑(.str w) none none none,bz G q f l us):=by
   refine aF (x:=⇑(.tup (.str w::t.i::r))) (y:=⇑(.int 1)) rfl rfl ?_
   simp [ak,bW,dX,sq,pk,eA]
  exact av (av (a:=⇑(.str w)) rfl (av (av (av (av a1 (av (a:=[⇑(.ref q),⇑(.str nm),⇑(.ref f)]) rfl rfl)) (cB (xs:=[.im t.i,.im (.ref q),.im (.str nm),.im (.ref f)]) rfl rfl e1)) rfl) rfl)) rfl
 ·simp! [s8,cz]
def GL:((("while" : Str)) == "set")=false:=by decide +kernel
def GN:((("while" : Str)) == "put")=false:=by decide +kernel
def GO:((("while" : Str)) == "call")=false:=by decide +kernel
def GP:((("if" : Str)) == "set")=false:=by decide +kernel
def GQ:((("if" : Str)) == "put")=false:=by decide +kernel
def GR:((("if" : Str)) == "call")=false:=by decide +kernel
def xu(h:Qf G q f){n:Nat}{t:Tm}{b:List Sm}(ht:t.size≤20)(hb:pL G q f nm (fM n) b):pK G q f nm (fL (n+1)) (.wh t b):=by
 intro l us hl
 rw [Sm.us,za] at hl
 have e:bz G q f (l-(Sm.wh t b).us.length) (us++(wS nm (.wh t b) l).us)=bz G q f (l-t.us.length-(bg b).length) (us++(wT nm t l).us++bg (wB nm b (l-t.us.length))):=by
  rw [wS,Sm.us,Sm.us,za,z21];congr 1;lia
 rw [e,hJ,wS,hJ]
 refine xt (v7:=[.tup (aq (wB nm b (l-t.us.length)))]) (v5:=[]) h ht GL GN GO (by lia) (b7 (fN (n:=1) (xq rfl) rfl) (cV (d:=.tup (aq b)) rfl rfl (pM hb (by rw [za,dB];lia) (by simp)) (eR rfl)))
def GS(h:Qf G q f){n:Nat}{t:Tm}{b c:List Sm}(ht:t.size≤20)(hb:pL G q f nm (fM n) b)(hc:pL G q f nm (fM n) c):pK G q f nm (fL (n+1)) (.ite t b c):=by
 intro l us hl
 rw [Sm.us,za,za] at hl
 have e:bz G q f (l-(Sm.ite t b c).us.length) (us++(wS nm (.ite t b c) l).us)=bz G q f (l-t.us.length-(bg b).length-(bg c).length) (us++(wT nm t l).us++bg (wB nm b (l-t.us.length))++bg (wB nm c (l-t.us.length-(bg b).length))):=by
  rw [wS,Sm.us,Sm.us,za,za,z21,z21];congr 1;lia
 rw [e,kg,wS,kg]
 refine xt (v7:=[.tup (aq (wB nm b (l-t.us.length))),.tup (aq (wB nm c (l-t.us.length-(bg b).length)))]) (v5:=[]) h ht GP GQ GR (by lia) (b7 (fN (n:=2) (xq rfl) rfl) (cV (d:=.tup (aq b)) rfl rfl (pM hb (by rw [za,dB];lia) (by simp)) (cV (d:=.tup (aq c)) rfl rfl (pM hc (by rw [za,za,dB,hR];lia) (by simp)) (eR rfl))))
def GU(h:Qf G q f):∀n:Nat,(∀s:Sm,s.sh->s.n≤1000->2*s.deep≤n->pK G q f nm (fL n) s)/\(∀b:List Sm,bU b->aP b≤1000->2*cu b+1≤n->pL G q f nm (fM n) b):=by
 intro n
 induction n with
 | zero =>
  refine⟨λs _ _ hd=>?_,λb _ _ hd=>by lia⟩
  cases s with
  | set x t=>rw [mn] at hd;lia
  | put x a b=>rw [mq] at hd;lia
  | call x=>rw [zC] at hd;lia
  | wh t b=>rw [Sm.deep] at hd;lia
  | ite t b c=>rw [Sm.deep] at hd;lia
 | succ n ih =>
  refine⟨λs hs hn hd=>?_,λb hb hn hd=>xp (by have:=my b;lia) λs hm=>?_⟩
  ·cases s with
   | set x t=>rw [Sm.sh] at hs;exact GH h hs
   | put x a b=>rw [Sm.sh] at hs;exact GI h hs.1 hs.2
   | call x=>exact GJ h
   | wh t b=>rw [Sm.sh] at hs;rw [Sm.deep] at hd;rw [Sm.n] at hn;exact xu h hs.1 (ih.2 b hs.2 (by lia) (by lia))
   | ite t b c=>rw [Sm.sh] at hs;rw [Sm.deep] at hd;rw [Sm.n] at hn;exact GS h hs.1 (ih.2 b hs.2.1 (by lia) (by lia)) (ih.2 c hs.2.2 (by lia) (by lia))
  ·have key:∀(b:List Sm),bU b->s∈b->s.sh/\s.n≤aP b/\s.deep≤cu b:=by
    intro b
    induction b with
    | nil=>intro _ hm;cases hm
    | cons x b ihb =>
     intro hb hm
     rw [bU] at hb
     rw [aP,cu]
     rcases z1e.mp hm with rfl|hm
     ·exact⟨hb.1,by lia,by lia⟩
     ·obtain⟨a1,a2,a3⟩:=ihb hb.2 hm
      exact⟨a1,by lia,by lia⟩
   obtain⟨a1,a2,a3⟩:=key b hb hm
   exact ih.1 s a1 (by lia) (by lia)
end
section
variable {G:List M}{nm:Str}
theorem pN:∀{l:List Nat} {x:Nat},x∈l->x≤l.sum
 | a::l,x,h=>by
  rw [List.sum_cons]
  rcases z1e.mp h with rfl|h
  ·lia
  ·have:=pN h;lia
def xw(l:Int)(us:List (Str×Str))(x y:M):bz (G++[x,y]) G.length (G.length+1) l us=G++[.lst [.int l],.lst (us.map uI)]:=by
 unfold bz
 rw [List.set_append_right _ _ (ze _),Nat.sub_self,List.set_append_right _ _ (by lia)]
 simp
def GV(x y:M):Qf (G++[x,y]) G.length (G.length+1):=⟨by lia,by simp,by simp⟩
theorem pO(nm:Str):∀(a b:List (Str×List Sm)) (l:Int),wD nm (a++b) l=wD nm a l++wD nm b (l-(cj a).length)
 | [],_,l=>by rw [z29,wD,z29,cj];simp
 | s::a,b,l=>by
  rw [z2a,wD,wD,pO nm a b,z2a,cj,za]
  congr 3;lia
theorem zG:∀(a b:List (Str×List Sm)),cj (a++b)=cj a++cj b
 | [],_=>by rw [z29,cj,z29]
 | s::a,b=>by rw [z2a,cj,cj,zG a b,z21]
theorem GW(nm:Str):∀(q:List (Str×List Sm)) (l:Int),(cj (wD nm q l)).length=(cj q).length
 | [],_=>rfl
 | q::r,l=>by rw [wD,cj,cj,za,za,hR,GW nm r]
abbrev kh(p:Pg)(k:Int)(nm:Str)(v7 v8 v9:Option Vl):De:=[↑p.i,↑(.int k),↑(.str nm),↑(.tup (p.cells.map cU)),↑(.tup (p.rows.map cU)),↑(.tup (p.defs.map bf)),↑(.tup (aq p.body)),v7,v8,v9]
def pP{p:Pg}{k:Int}(hp:p.Sh):kF [.im p.i,.im (.int k),.im (.str nm)] G=some (.im (.tup [(wP nm p k).i,.ref (G.length+1)]),G++[.lst [.int (k-p.us.length)],.lst ((wP nm p k).us.map uI)]):=by
 have hu:=hp.us
 have hn1:=hp.n1
 unfold Pg.us at hu
 rw [za] at hu
 have Q:=GV (G:=G) (.lst [.int k]) (.lst [])
 obtain⟨B0,hB⟩:∃B0:List M,B0=G++[.lst [.int k],.lst []]:=⟨_,rfl⟩
 rw [<- hB] at Q
 have bw:∀b:List Sm,bU b->aP b≤1000->cu b≤4->pL B0 G.length (G.length+1) nm (fM 12) b:=λb h1 h2 h3=>(GU Q 12).2 b h1 h2 (by lia)
 have hsum:∀q∈p.defs,aP q.2≤1000:=λq hq=>by
  have:aP q.2≤(p.defs.map λq=>aP q.2).sum:=pN (z39.mpr ⟨q,hq,rfl⟩)
  lia
 obtain⟨ds,G',e,ed,eg⟩:=xn (f:=bf) (xs:=p.defs) (e:=⇑(.tup (p.defs.map bf))) (c:=cN 2) (te:=bd (af (aa 0) (af (bd (af (aa 1) (af (aY (aa 2)) (af (aa 3) (af (aY (aa 4)) ae)))) (ax 4 (fM 12))) ae)) ay) (di:=[↑(.ref G.length),↑(.str nm),↑(.ref (G.length+1))]) (Z:=kh p k nm ↑(.ref G.length) ↑(.ref (G.length+1)) none)
  (λpre acc g=>acc=(wD nm pre k).map bf/\g=bz B0 G.length (G.length+1) (k-(cj pre).length) (cj (wD nm pre k)))
  (λpre acc g _=>rfl)
  (λpre d post acc g hx zz=>by
   obtain⟨ea,eg⟩:=zz
   have hm:d∈p.defs:=by rw [hx];simp
   have e1:=bw d.2 (hp.ds d hm).1 (hsum d hm) (hp.ds d hm).2.1 (k-(cj pre).length) (cj (wD nm pre k)) (by rw [hx,zG,cj] at hu;simp only [za] at hu;rw [GW];lia)
   rw [<- eg] at e1
   refine⟨[.str d.1,.tup (aq d.2)],bf (d.1,wB nm d.2 (k-(cj pre).length)),[↑(.str d.1),↑(.tup (aq d.2)),↑(.ref G.length),↑(.str nm),↑(.ref (G.length+1))],_,rfl,av (av (a:=⇑(.str d.1)) rfl (av (av (av (a:=[⇑(.tup (aq d.2)),⇑(.ref G.length),⇑(.str nm),⇑(.ref (G.length+1))]) rfl (cB (xs:=[.im (.tup (aq d.2)),.im (.ref G.length),.im (.str nm),.im (.ref (G.length+1))]) rfl rfl e1)) rfl) rfl)) rfl,?_,?_⟩
   ·rw [ea,pO,z25,wD,wD];rfl
   ·rw [pO,wD,wD,zG,zG,cj,cj,cj,cj,z10,z10,za]
    congr 1;lia)
  p.defs [] (acc:=[]) (G:=B0) rfl ⟨rfl,by rw [hB,xw];simp [cj,wD]⟩
 have eb:=bw p.body hp.bo.1 (by have:=hp.n2;lia) hp.bo.2.1 (k-(cj p.defs).length) (cj (wD nm p.defs k)) (by rw [GW];lia)
 rw [<- eg] at eb
 rw [hB,xw] at eb
 have fin:G++[M.lst [.int (k-(cj p.defs).length-(bg p.body).length)],M.lst ((cj (wD nm p.defs k)++bg (wB nm p.body (k-(cj p.defs).length))).map uI)]=G++[.lst [.int (k-p.us.length)],.lst ((wP nm p k).us.map uI)]:=by
  unfold Pg.us
  rw [za]
  congr 3
  ·congr 2;lia
 rw [fin] at eb
 refine aJ rfl (aj (Z1:=kh p k nm none none none) (G1:=G) (bC (x:=.im p.i) rfl rfl) (aj (Z1:=kh p k nm ↥[.int k] none none) (G1:=G) (bC (x:=.ow (.lst [.int k])) rfl rfl) (aj (Z1:=kh p k nm ↥[.int k] ↥[] none) (G1:=G) (bC (x:=.ow (.lst [])) rfl rfl)
  (aj (Z1:=kh p k nm ↑(.ref G.length) ↑(.ref (G.length+1)) ↑(.tup ((wD nm p.defs k).map bf))) (G1:=G') (bC (x:=.im (.tup ((wD nm p.defs k).map bf))) (Z1:=kh p k nm ↑(.ref G.length) ↑(.ref (G.length+1)) none) (G1:=G') (av (av (kG (Z0:=kh p k nm ↑(.ref G.length) ↑(.ref (G.length+1)) none) (G0:=B0) ?_ (fN (n:=p.defs.length) rfl (by rw [z12])) (by show p.defs.length≤100000;have:=hp.c1;lia) (by rw [ed] at e;exact e)) rfl) ?_) rfl)
  (cF (Z1:=kh p k nm ↑(.ref G.length) ↑(.ref (G.length+1)) ↑(.tup ((wD nm p.defs k).map bf))) (av (av (av (av (a:=⇑(.tup (p.cells.map cU))) rfl (av (av (a:=⇑(.tup (p.rows.map cU))) rfl (av (av (a:=⇑(.tup ((wD nm p.defs k).map bf))) rfl (av (av (av (a:=[⇑(.tup (aq p.body)),⇑(.ref G.length),⇑(.str nm),⇑(.ref (G.length+1))]) rfl (cB (xs:=[.im (.tup (aq p.body)),.im (.ref G.length),.im (.str nm),.im (.ref (G.length+1))]) rfl rfl eb)) rfl) rfl)) rfl)) rfl)) rfl) (av (a:=[⇑(.ref (G.length+1))]) rfl rfl)) rfl))))))
 ·rw [hB]
  show iG [7,2,8] _ G=_
  unfold iG
  show iG [2,8] (kh p k nm ↑(.ref G.length) ↥[] none) (G++[M.lst [.int k]])=_
  unfold iG
  show iG [8] (kh p k nm ↑(.ref G.length) ↥[] none) (G++[M.lst [.int k]])=_
  unfold iG
  show iG [] (kh p k nm ↑(.ref G.length) ↑(.ref (G++[M.lst [.int k]]).length) none) (G++[M.lst [.int k]]++[M.lst []])=_
  rw [za,z21];rfl
 ·simp [cz,sq,pk]
end
section
abbrev cI:List Str->List Str->Option Str
 | _,[]=>none
 | seen,x::r=>if x∈seen then some x else cI (seen++[x]) r
def xx(xs:List Str)(x:Str):((xs.map I.str).any λy=>bZ y (.str x))=decide (x∈xs):=by
 induction xs with
 | nil=>rfl
 | cons y ys ih =>
  rw [z16,List.any_cons,ih]
  show ((y == x)||decide (x∈ys))=decide (x∈y::ys)
  by_cases h:y=x
  ·subst h;simp
  ·have:(y == x)=false:=beq_eq_false_iff_ne.mpr h
   rw [this]
   simp [Ne.symm h]
def GX{xs:List Str}{x:Str}{e:Ev}{Z:De}{G:List M}(h:sq Z G e=some (xs.map I.str)):fR [⇑(.str x),e] Z G=some (⇑(.bl (decide (x∈xs))),Z,G):=by
 have hf:(cS (.str x)&&(xs.map I.str).all cS)=true:=by rw [pI];rfl
 unfold fR bW ij
 dsimp only
 rw [h]
 dsimp only
 rw [if_pos hf]
 show some (Ev.v (Vl.im (I.bl ((xs.map I.str).any λy=>bZ y (.str x)))),Z,G)=_
 rw [xx]
def GY{xs:List Str}{x:Str}{e:Ev}{Z:De}{G:List M}(h:sq Z G e=some (xs.map I.str)):dw [⇑(.str x),e] Z G=some (⇑(.bl (!decide (x∈xs))),Z,G):=by
 have hf:(cS (.str x)&&(xs.map I.str).all cS)=true:=by rw [pI];rfl
 unfold dw bW ij
 dsimp only
 rw [h]
 dsimp only
 rw [if_pos hf]
 show some (Ev.v (Vl.im (I.bl (!((xs.map I.str).any λy=>bZ y (.str x))))),Z,G)=_
 rw [xx]
def eS{w:Wk}{g:GF}{b:SF}{i r:Nat}{Z Z1:De}{G G1 G2:List M}{d:I}{x:Vl}(h1:w.at_ i Z G=some d)(h2:g (.im d) Z G=some (Z1,G1))(h3:b Z1 G1=some (.rt x G2)):aV w g b i (r+1) Z G=some (.rt x G2):=by
 unfold aV
 rw [h1];dsimp only;rw [h2];dsimp only;rw [h3]
abbrev bD(x:Str×I):I:=.tup [.str x.1,x.2]
abbrev Pg.pt(p:Pg):Nat->List (Str×I)
 | 0=>p.cells.map λq=>(q.1,.int q.2)
 | 1=>p.rows.map λq=>(q.1,.int q.2)
 | _=>p.defs.map λq=>(q.1,.tup (aq q.2))
def pt0(p:Pg):p.cells.map cU=(p.pt 0).map bD:=by rw [Pg.pt,z38];rfl
def pt1(p:Pg):p.rows.map cU=(p.pt 1).map bD:=by rw [Pg.pt,z38];rfl
def pt2(p:Pg):p.defs.map bf=(p.pt 2).map bD:=by
 show _=(p.defs.map λq=>(q.1,I.tup (aq q.2))).map bD
 rw [z38];rfl
def Pg.i_pt(p:Pg):p.i=.tup [.tup ((p.pt 0).map bD),.tup ((p.pt 1).map bD),.tup ((p.pt 2).map bD),.tup (aq p.body)]:=by
 rw [Pg.i,pt0,pt1,pt2]
abbrev Pg.nm(p:Pg)(k:Nat):List Str:=(p.pt k).map (·.1)
theorem Pg.Sh.pt{p:Pg}(h:p.Sh):∀k,(p.pt k).length≤24
 | 0=>by rw [Pg.pt,z12];exact h.c1.1
 | 1=>by rw [Pg.pt,z12];exact h.c1.2.1
 | n+2=>by
  show (p.defs.map λq=>(q.1,I.tup (aq q.2))).length≤24
  rw [z12];exact h.c1.2.2
def GZ{p:Pg}{k:Nat}(hk:k<3):∃b,dg [I.tup ((p.pt 0).map bD),.tup ((p.pt 1).map bD),.tup ((p.pt 2).map bD),b] (k:Int)=some (.tup ((p.pt k).map bD))/\b=.tup (aq p.body):=by
 refine⟨_,?_,rfl⟩
 match k,hk with
 | 0,_=>exact dh _ _
 | 1,_=>exact eA _ _ _
 | 2,_=>exact mj _ _ _ _
def i0{p:Pg}{k:Nat}{Z:De}{G:List M}(hk:k<3):ak [⇑p.i,⇑(.int k)] Z G=some (⇑(.tup ((p.pt k).map bD)),Z,G):=by
 obtain⟨b,h,hb⟩:=GZ (p:=p) hk
 rw [Pg.i_pt,<- hb]
 simp [ak,bW,dX,sq,pk,h]
def pQ{xs:List (Str×I)}{Z Z1:De}{G G1:List M}{fe:Mo Ev}(he:fe Z G=some (⇑(.tup (xs.map bD)),Z1,G1))(hx:xs.length≤1000):dI (bF (one fe) aR) [] c1 a9 (ah ak (aa 0) (ag (.int 0))) Z G=some (.v (.ow (.lst ((xs.map (·.1)).map I.str))),Z1,G1):=by
 obtain⟨ds,G',e,ed,eg⟩:=xn (f:=bD) (xs:=xs) (e:=⇑(.tup (xs.map bD))) (c:=c1) (te:=ah ak (aa 0) (ag (.int 0))) (di:=[]) (Z:=Z1)
  (λpre acc g=>acc=(pre.map (·.1)).map I.str/\g=G1)
  (λpre acc g _=>rfl)
  (λpre x post acc g hx zz=>by
   obtain⟨ea,eg⟩:=zz
   refine⟨[bD x],.str x.1,[↑(bD x)],g,rfl,aF (x:=⇑(bD x)) (y:=⇑(.int 0)) rfl rfl (by simp [bD,ak,bW,dX,sq,pk,dh]),by rw [ea];simp,eg⟩)
  xs [] (acc:=[]) (G:=G1) rfl ⟨rfl,rfl⟩
 rw [ed,eg] at e
 exact kG (by rfl) (fN (n:=xs.length) he (by rw [z12])) (by show xs.length≤100000;lia) e
abbrev dD(p:Pg)(v1 v2 v3 v4 v5 v6:Option Vl):De:=[↑p.i,v1,v2,v3,v4,v5,v6]
abbrev twI(n:Str):Vl:=.im (.tup [.str "twice",.str n])
theorem xy{p:Pg}{names:List Str}{G:List M}{v1 v4 v5 v6:Option Vl}(hn:names.length≤1000):∀(post pre:List Str) (v3:Option Vl),names=pre++post->∃v3',aV (jb names.length) (aB 3) y1f pre.length post.length (dD p v1 ↥(names.map I.str) v3 v4 v5 v6) G=match cI pre post with
   | none=>some (.nx (dD p v1 ↥(names.map I.str) v3' v4 v5 v6) G)
   | some n=>some (.rt (twI n) G)
 | [],pre,v3,_=>⟨v3,eR rfl⟩
 | x::post,pre,v3,hx=>by
  obtain⟨D,hD⟩:∃D,D=dD p v1 ↥(names.map I.str) ↑(.int pre.length) v4 v5 v6:=⟨_,rfl⟩
  have ex:ah ak (aa 2) (aa 3) D G=some (⇑(.str x),D,G):=by
   rw [hD]
   refine aF (x:=.s 2) (y:=⇑(.int pre.length)) rfl rfl ?_
   have h0:dg (names.map I.str) (pre.length:Int)=some (.str x):=kX (by rw [hx];simp)
   have hl:(names.map I.str).length≤1000000:=by rw [z12];lia
   simp [dD,ak,bW,dX,sq,pk,h0]
  have es:a7 (aa 2) aZ (aW (aa 3)) D G=some (.v (.ow (.lst (pre.map I.str))),D,G):=by
   rw [hD]
   refine av (m:=aa 2) (a:=.s 2) rfl (av (m:=aZ) (a:=[]) rfl (av (m:=aW (aa 3)) (a:=[⇑(.int pre.length)]) rfl ?_))
   show some (Ev.v (Vl.ow (M.lst (dy (names.map I.str) none (some (pre.length:Int))))),_,G)=_
   rw [qe,hx]
   simp
  have et:ao (ah fR (ah ak (aa 2) (aa 3)) (a7 (aa 2) aZ (aW (aa 3)))) D G=some (decide (x∈pre),D,G):=dA (aF ex es (GX rfl))
  by_cases hm:x∈pre
  ·refine⟨v3,?_⟩
   have:cI pre (x::post)=some x:=by unfold cI;rw [if_pos hm]
   rw [this]
   refine eS (d:=.int pre.length) (Z1:=D) rfl (by rw [hD];rfl) (bS (Z1:=D) (G1:=G) (by rw [et,decide_eq_true hm]) (cF (Z1:=D) (av (av (a:=⇑(.str "twice")) rfl (av (av ex rfl) rfl)) rfl)))
  ·obtain⟨v3',e⟩:=xy hn post (pre++[x]) ↑(.int pre.length) (by rw [hx];simp)
   refine⟨v3',?_⟩
   have:cI pre (x::post)=cI (pre++[x]) post:=by rw [cI,if_neg hm]
   rw [this,<- e,za,List.length_singleton]
   refine cV (d:=.int pre.length) (Z1:=D) (Z2:=D) rfl (by rw [hD];rfl) (aL (Z1:=D) (G1:=G) (by rw [et,decide_eq_false hm]) rfl) (by rw [hD])
def pR{p:Pg}{k:Nat}{G:List M}{v2 v3 v4 v5 v6:Option Vl}(hp:p.Sh)(hk:k<3):∃v2' v3',Fx (dD p ↑(.int k) v2 v3 v4 v5 v6) G=match cI [] (p.nm k) with
   | none=>some (.nx (dD p ↑(.int k) v2' v3' v4 v5 v6) G)
   | some n=>some (.rt (twI n) G):=by
 have hl:=hp.pt k
 have ln:(p.nm k).length≤24:=by unfold Pg.nm;rw [z12];exact hl
 obtain⟨v3',e⟩:=xy (p:=p) (G:=G) (v1:=↑(.int k)) (v4:=v4) (v5:=v5) (v6:=v6) (names:=p.nm k) (by lia) (p.nm k) [] v3 rfl
 refine⟨↥((p.nm k).map I.str),v3',?_⟩
 rw [<- e]
 refine aj (Z1:=dD p ↑(.int k) ↥((p.nm k).map I.str) v3 v4 v5 v6) (G1:=G) (bC (pQ (Z1:=dD p ↑(.int k) v2 v3 v4 v5 v6) (G1:=G) (xs:=p.pt k) (aF (x:=⇑p.i) (y:=⇑(.int k)) rfl rfl (i0 hk)) (by lia)) rfl) (b7 (hG (n:=(p.nm k).length) (j:=((p.nm k).length:Int)) (Z1:=dD p ↑(.int k) ↥((p.nm k).map I.str) v3 v4 v5 v6) (G1:=G) ?_ rfl (by lia)) rfl)
 have h1:(p.nm k).length≤1000000:=by lia
 refine av (av (av (a:=.s 2) rfl rfl) ?_) rfl
 simp [aO,dD,sq,pk]
end
section
abbrev sIx(s:Str):Nat:=if s="cell" then 0 else if s="at" then 1 else 2
def Ha(s:Str):sIx s<3:=by unfold sIx;split<;>(try split)<;>lia
abbrev Pg.bad(p:Pg)(u:Str×Str):Bool:=!decide (u.2∈p.nm (sIx u.1))
abbrev Pg.due(p:Pg):Option (Str×Str):=match cI [] (p.nm 0) with
 | some n=>some ("twice",n)
 | none=>match cI [] (p.nm 1) with
  | some n=>some ("twice",n)
  | none=>match cI [] (p.nm 2) with
   | some n=>some ("twice",n)
   | none=>(p.us.find? p.bad).map λu=>("unknown",u.2)
abbrev eT:Option (Str×Str)->I
 | none=>.non
 | some u=>.tup [.str u.1,.str u.2]
abbrev pS(s:Str):Prop:=s="cell"∨s="at"∨s="call"
theorem gy:∀(t:Tm),∀u∈t.us,pS u.1
 | .num _,u,h=>by rw [Tm.us] at h;cases h
 | .cell x,u,h=>by rw [Tm.us] at h;rw [z17.mp h];exact .inl rfl
 | .at_ r t,u,h=>by
  rw [Tm.us] at h
  rcases z1e.mp h with rfl|h
  ·exact .inr (.inl rfl)
  ·exact gy t u h
 | .op _ a b,u,h=>by
  rw [Tm.us] at h
  rcases z13.mp h with h|h
  ·exact gy a u h
  ·exact gy b u h
mutual
theorem Hb:∀(s:Sm),∀u∈s.us,pS u.1
 | .set x t,u,h=>by
  rw [Sm.us] at h
  rcases z1e.mp h with rfl|h
  ·exact .inl rfl
  ·exact gy t u h
 | .put x a b,u,h=>by
  rw [Sm.us] at h
  rcases z1e.mp h with rfl|h
  ·exact .inr (.inl rfl)
  ·rcases z13.mp h with h|h
   ·exact gy a u h
   ·exact gy b u h
 | .call x,u,h=>by rw [Sm.us] at h;rw [z17.mp h];exact .inr (.inr rfl)
 | .wh t b,u,h=>by
  rw [Sm.us] at h
  rcases z13.mp h with h|h
  ·exact gy t u h
  ·exact i4 b u h
 | .ite t b c,u,h=>by
  rw [Sm.us] at h
  rcases z13.mp h with h|h
  ·exact gy t u h
  ·rcases z13.mp h with h|h
   ·exact i4 b u h
   ·exact i4 c u h
theorem i4:∀(b:List Sm),∀u∈bg b,pS u.1
 | [],u,h=>by rw [bg] at h;cases h
 | s::b,u,h=>by
  rw [bg] at h
  rcases z13.mp h with h|h
  ·exact Hb s u h
  ·exact i4 b u h
end
theorem yf5:∀(b:List (Str×List Sm)),∀u∈cj b,pS u.1
 | [],u,h=>by rw [cj] at h;cases h
 | s::b,u,h=>by
  rw [cj] at h
  rcases z13.mp h with h|h
  ·exact i4 s.2 u h
  ·exact yf5 b u h
def Pg.srt(p:Pg):∀u∈p.us,pS u.1:=λu h=>by
 unfold Pg.us at h
 rcases z13.mp h with h|h
 ·exact yf5 _ u h
 ·exact i4 _ u h
abbrev cX:List (aI×I):=[(.inr "cell",.int 0),(.inr "at",.int 1),(.inr "call",.int 2)]
def Hc{s:Str}(h:pS s):cc cX (.inr s)=some (.int (sIx s)):=by
 rcases h with h|h|h<;>subst h<;>kernel_rfl
theorem xA{p:Pg}{us:List (Str×Str)}{e:Ev}{G:List M}{v1 v2 v3:Option Vl}(hp:p.Sh)(hs:∀Z,sq Z G e=some (us.map uI))(hu:∀u∈us,pS u.1):∀(post pre:List (Str×Str)) (v5 v6:Option Vl),us=pre++post->∃v5' v6',aV (a6 e us.length) (gP [5,6]) y1e pre.length post.length (dD p v1 v2 v3 (some (.ow (.dic cX))) v5 v6) G=match post.find? p.bad with
   | none=>some (.nx (dD p v1 v2 v3 (some (.ow (.dic cX))) v5' v6') G)
   | some u=>some (.rt (.im (.tup [.str "unknown",.str u.2])) G)
 | [],pre,v5,v6,_=>⟨v5,v6,eR (by simp [a6,hs])⟩
 | u::post,pre,v5,v6,hx=>by
  obtain⟨D,hD⟩:∃D,D=dD p v1 v2 v3 (some (.ow (.dic cX))) ↑(.str u.1) ↑(.str u.2):=⟨_,rfl⟩
  have ha:(a6 e us.length).at_ pre.length (dD p v1 v2 v3 (some (.ow (.dic cX))) v5 v6) G=some (uI u):=by
   show (sq _ G e).bind (·[pre.length]?)=_
   rw [hs]
   show (us.map uI)[pre.length]?=_
   rw [hx];simp
  have hv:=Hc (hu u (by rw [hx];simp))
  have ec:dI (bF (one (ah ak (aa 0) (ah ak (aa 4) (aa 5)))) aR) [] c1 a9 (ah ak (aa 0) (ag (.int 0))) D G=some (.v (.ow (.lst ((p.nm (sIx u.1)).map I.str))),D,G):=by
   rw [hD]
   refine pQ (xs:=p.pt (sIx u.1)) (aF (x:=⇑p.i) (y:=⇑(.int (sIx u.1))) rfl (aF (x:=.s 4) (y:=⇑(.str u.1)) rfl rfl ?_) (i0 (Ha _))) (by have:=hp.pt (sIx u.1);lia)
   simp [ak,bW,dX,p7,sq,pk,dD,eM,dv,hv]
  have et:ao (ah dw (aa 6) (dI (bF (one (ah ak (aa 0) (ah ak (aa 4) (aa 5)))) aR) [] c1 a9 (ah ak (aa 0) (ag (.int 0))))) D G=some (p.bad u,D,G):=dA (aF (x:=⇑(.str u.2)) (Z1:=D) (G1:=G) (by rw [hD];rfl) ec (GY rfl))
  have hg:gP [5,6] (.im (uI u)) (dD p v1 v2 v3 (some (.ow (.dic cX))) v5 v6) G=some (D,G):=by rw [hD];rfl
  rw [List.find?_cons]
  cases hb:p.bad u with
  | true =>
   refine⟨v5,v6,?_⟩
   rw [hb] at et
   refine eS (d:=uI u) (Z1:=D) (G1:=G) ha hg (bS (Z1:=D) (G1:=G) et (cF (Z1:=D) (av (av (a:=⇑(.str "unknown")) rfl (av (av (a:=⇑(.str u.2)) (by rw [hD];rfl) rfl) rfl)) rfl)))
  | false =>
   obtain⟨v5',v6',e'⟩:=xA hp hs hu post (pre++[u]) ↑(.str u.1) ↑(.str u.2) (by rw [hx];simp)
   refine⟨v5',v6',?_⟩
   rw [hb] at et
   dsimp only
   rw [<- e',za,List.length_singleton]
   refine cV (d:=uI u) (Z1:=D) (Z2:=D) (G1:=G) (G2:=G) ha hg (aL (Z1:=D) (G1:=G) et rfl) (by rw [hD])
def Hd{p:Pg}{G:List M}(hp:p.Sh):∃G',zw [.im p.i] G=some (.im (eT p.due),G')/\bX G G':=by
 obtain⟨a2,a3,e0⟩:=pR (k:=0) (G:=G) (v2:=none) (v3:=none) (v4:=none) (v5:=none) (v6:=none) hp (by decide)
 obtain⟨b2,b3,e1⟩:=pR (k:=1) (G:=G) (v2:=a2) (v3:=a3) (v4:=none) (v5:=none) (v6:=none) hp (by decide)
 obtain⟨c2,c3,e2⟩:=pR (k:=2) (G:=G) (v2:=b2) (v3:=b3) (v4:=none) (v5:=none) (v6:=none) hp (by decide)
 have ri:bF (af (ag (.int 3)) ae) cZ (dD p none none none none none none) G=some (jb 3,[⇑(.int 3)],dD p none none none none none none,G):=hG (n:=3) rfl rfl (by decide)
 unfold Pg.due
 cases h0:cI [] (p.nm 0) with
 | some n =>
  rw [h0] at e0
  exact⟨G,aJ rfl (b6 (b7 ri (eS (d:=.int 0) rfl rfl e0))),bX.refl _⟩
 | none =>
  rw [h0] at e0
  cases h1:cI [] (p.nm 1) with
  | some n =>
   rw [h1] at e1
   exact⟨G,aJ rfl (b6 (b7 ri (cV (d:=.int 0) rfl rfl e0 (eS (d:=.int 1) rfl rfl e1)))),bX.refl _⟩
  | none =>
   rw [h1] at e1
   cases h2:cI [] (p.nm 2) with
   | some n =>
    rw [h2] at e2
    exact⟨G,aJ rfl (b6 (b7 ri (cV (d:=.int 0) rfl rfl e0 (cV (d:=.int 1) rfl rfl e1 (eS (d:=.int 2) rfl rfl e2))))),bX.refl _⟩
   | none =>
    rw [h2] at e2
    have ew:=pP (G:=G) (nm:="") (k:=-1) hp
    rw [w8 (by decide)] at ew
    obtain⟨G',hG'⟩:∃G':List M,G'=G++[.lst [.int (-1-p.us.length)],.lst (p.us.map uI)]:=⟨_,rfl⟩
    rw [<- hG'] at ew
    have hk:G'[G.length+1]?=some (.lst (p.us.map uI)):=by rw [hG',z18 (by lia)];simp
    have lu:=hp.us
    obtain⟨v5',v6',el⟩:=xA (p:=p) (us:=p.us) (e:=⇑(.ref (G.length+1))) (G:=G') (v1:=↑(.int 2)) (v2:=c2) (v3:=c3) hp (λZ=>by simp [sq,pk,hk]) p.srt p.us [] none none rfl
    have it:bF (one (ah ak (bd (af (aa 0) (af (cY fB (ag (.int 1))) (af (ag (.str "")) ae))) (ax 3 kF)) (ag (.int 1)))) aR (dD p ↑(.int 2) c2 c3 (some (.ow (.dic cX))) none none) G=some (a6 ⇑(.ref (G.length+1)) p.us.length,[⇑(.ref (G.length+1))],dD p ↑(.int 2) c2 c3 (some (.ow (.dic cX))) none none,G'):=by
     refine eh (e:=⇑(.ref (G.length+1))) (xs:=p.us.map uI) (aF (x:=⇑(.tup [p.i,.ref (G.length+1)])) (y:=⇑(.int 1)) (Z1:=dD p ↑(.int 2) c2 c3 (some (.ow (.dic cX))) none none) (G1:=G') (av (a:=[⇑p.i,⇑(.int (-1)),⇑(.str "")]) rfl (cB (xs:=[.im p.i,.im (.int (-1)),.im (.str "")]) rfl rfl ew)) rfl ?_) rfl (by simp [sq,pk,hk]) (by simp)
     simp [ak,bW,dX,sq,pk,eA]
    have f3:bB (bF (af (ag (.int 3)) ae) cZ) (aB 1) Fx (dD p none none none none none none) G=some (.nx (dD p ↑(.int 2) c2 c3 none none none) G):=b7 ri (cV (d:=.int 0) rfl rfl e0 (cV (d:=.int 1) rfl rfl e1 (cV (d:=.int 2) rfl rfl e2 (eR rfl))))
    have ds:aG (m7 (cE (ag (.str "cell")) (ag (.int 0)) (cE (ag (.str "at")) (ag (.int 1)) (cE (ag (.str "call")) (ag (.int 2)) gu)))) (aB 4) (dD p ↑(.int 2) c2 c3 none none none) G=some (.nx (dD p ↑(.int 2) c2 c3 (some (.ow (.dic cX))) none none) G):=by kernel_rfl
    refine⟨G',aJ rfl (aj f3 (aj ds ?_)),by rw [hG'];exact bX.app _ _⟩
    cases hf:p.us.find? p.bad with
    | some u =>
     rw [hf] at el
     exact b6 (b7 it el)
    | none =>
     rw [hf] at el
     exact aj (b7 it el) rfl
end
section
variable {G:List M}
abbrev Tm.kids:Tm->List Tm
 | .at_ _ t=>[t]
 | .op _ a b=>[a,b]
 | _=>[]
abbrev Tm.all:Tm->List Tm
 | .num w=>[.num w]
 | .cell x=>[.cell x]
 | .at_ r t=>.at_ r t::t.all
 | .op s a b=>.op s a b::(a.all++b.all)
def y69(t:Tm):t.all=t::t.kids.flatMap Tm.all:=by
 cases t<;>simp [Tm.all,Tm.kids]
abbrev eU:Tm->Option (Str×Str)
 | .cell x=>some ("cell",x)
 | .at_ r _=>some ("at",r)
 | _=>none
theorem mC:∀t:Tm,t.us=t.all.filterMap eU
 | .num _=>rfl
 | .cell _=>rfl
 | .at_ r t=>by
  rw [Tm.us,Tm.all,mC t]
  rfl
 | .op s a b=>by rw [Tm.us,Tm.all,List.filterMap_cons_none rfl,List.filterMap_append,mC a,mC b]
abbrev cG(ts:List Tm):Nat:=(ts.map Tm.size).sum
def pT(a b:List Tm):cG (a++b)=cG a+cG b:=by simp [cG]
def xB(t:Tm):cG t.kids+1=t.size:=by cases t<;>simp [Tm.kids,cG,Tm.size]
def xC(a:List Tm):cG a.reverse=cG a:=by simp [cG,List.sum_reverse]
def He(t:Tm):zm [.im t.i] G=some (.im (.tup (t.kids.map Tm.i)),G):=by
 cases t<;>kernel_rfl
def Hf(t:Tm):t.kids.length≤2:=by cases t<;>simp [Tm.kids]
def Hg{a v:Option Vl}{fs ls:List I}{t:Tm}(h1:fs.length<1000)(h2:ls.length<1000) :
  Fu [a,↥fs,↥(ls++[t.i]),v] G=some (.nx [a,↥(fs++[t.i]),↥(ls++(t.kids.map Tm.i).reverse),↑t.i] G):=by
 have hk:=Hf t
 have c1:fs.length<1000000:=by lia
 have c2:ls.length+t.kids.length≤1000000:=by lia
 refine aj (bC (x:=.im t.i) (Z1:=[a,↥fs,↥ls,v]) (G1:=G) ?_ rfl) ?_
 ·simp! []
 ·simp! [He,dM,fF,fF.notC,c1,c2]
def xD{α:Type}(l:List α):l=[]∨∃i x,l=i++[x]:=by
 rcases List.eq_nil_or_concat l with h|⟨i,x,h⟩
 ·exact .inl h
 ·exact .inr ⟨i,x,by rw [h,List.concat_eq_append]⟩
theorem xE:∀ts:List Tm,ts.length≤cG ts
 | []=>by simp [cG]
 | t::ts=>by have:=xE ts;have:=xB t;simp [cG] at *;lia
def Hh{a:Option Vl}:∀(n:Nat) (fs ls:List Tm) (v:Option Vl),cG ls=n->fs.length+n≤500 ->
  ∃(v':Option Vl),fQ zo Fu [a,↥(fs.map Tm.i),↥(ls.map Tm.i),v] G=some (.nx [a,↥((fs++ls.reverse.flatMap Tm.all).map Tm.i),↥[],v'] G):=by
 intro n
 induction n using Nat.strongRecOn with
 | _ n ih =>
  intro fs ls v hn hb
  rcases xD ls with rfl|⟨ls,t,rfl⟩
  ·refine⟨v,?_⟩
   rw [List.reverse_nil,List.flatMap_nil,z10]
   refine lM ?_
   simp! [zo]
  ·have hk:=xB t
   rw [pT] at hn
   have h1:cG [t]=t.size:=by simp [cG]
   have hl:=xE ls
   obtain⟨v',e⟩:=ih (cG (ls++t.kids.reverse)) (by rw [pT,xC];lia) (fs++[t]) (ls++t.kids.reverse) ↑t.i rfl (by rw [pT,xC];simp;lia)
   refine⟨v',?_⟩
   have hr:fs++(ls++[t]).reverse.flatMap Tm.all=fs++[t]++(ls++t.kids.reverse).reverse.flatMap Tm.all:=by
    rw [z37,z37,List.reverse_reverse,List.flatMap_append,List.flatMap_append,List.reverse_singleton,List.flatMap_singleton,y69 t,z21];rfl
   rw [hr]
   have ei:(ls++[t]).map Tm.i=ls.map Tm.i++[t.i]:=by simp
   rw [ei]
   rw [oE (Z1:=[a,↥(fs.map Tm.i),↥(ls.map Tm.i++[t.i]),v]) (G1:=G) (by simp! [zo]) (Hg (by simp;lia) (by simp;lia))]
   rw [<- e]
   simp
def Hi{t:Tm}(h:t.size≤100):zp [.im t.i] G=some (.ow (.lst (t.all.map Tm.i)),G):=by
 obtain⟨v,e⟩:=Hh (G:=G) (a:=↑t.i) (cG [t]) [] [t] none rfl (by simp [cG];lia)
 have ea:([]++[t].reverse.flatMap Tm.all)=t.all:=by simp
 rw [ea] at e
 refine aJ rfl ?_
 refine aj (bC (x:=.ow (.lst [])) (Z1:=[↑t.i,none,none,none]) (G1:=G) (by simp! []) rfl) ?_
 refine aj (bC (x:=.ow (.lst [t.i])) (Z1:=[↑t.i,↥[],none,none]) (G1:=G) (by simp! []) rfl) ?_
 refine aj e ?_
 simp! []
theorem zH:∀t:Tm,t.all.length=t.size
 | .num _=>rfl
 | .cell _=>rfl
 | .at_ _ t=>by rw [Tm.all,Tm.size,z11,zH t]
 | .op _ a b=>by rw [Tm.all,Tm.size,z11,za,zH a,zH b]
abbrev kD(ns:List Str):List (aI×I):=ns.map λn=>(.inr n,.bl true)
def xF(ns:List Str)(x:Str):cc (kD ns) (.inr x)=if x∈ns then some (.bl true) else none:=by
 induction ns with
 | nil=>rfl
 | cons n ns ih =>
  show cc ((.inr n,.bl true)::kD ns) (.inr x)=_
  unfold cc
  by_cases h:n=x
  ·subst h;simp
  ·have h1:¬ ((Sum.inr n:aI)=Sum.inr x):=λz=>h (Sum.inr.inj z)
   rw [if_neg h1,ih]
   simp [Ne.symm h]
abbrev jd(w n:Str):Vl:=.ow (.obj "NoProgram" [("word",.str w),("name",.str n)])
def Hj{x:Str}{k:Nat}{ns:List Str}(h:G[k]?=some (.dic (kD ns))):iR [.im (.str x),.im (.ref k)] G=some (if x∈ns then .im .non else jd "unknown" x,G):=by
 have et:ao (ah dw (aa 0) (aa 1)) [↑(.str x),↑(.ref k)] G=some (!decide (x∈ns),[↑(.str x),↑(.ref k)],G):=by
  refine dA (aF (x:=⇑(.str x)) (y:=⇑(.ref k)) rfl rfl ?_)
  have hv:=xF ns x
  by_cases hm:x∈ns
  ·rw [if_pos hm] at hv
   simp [dw,bW,ij,eN,sq,pk,h,eM,dv,hv,hm]
  ·rw [if_neg hm] at hv
   simp [dw,bW,ij,eN,sq,pk,h,eM,dv,hv,hm]
 by_cases hm:x∈ns
 ·rw [if_pos hm]
  rw [decide_eq_true hm] at et
  exact wm rfl (aL et rfl)
 ·rw [if_neg hm]
  rw [decide_eq_false hm] at et
  exact aJ rfl (bS et rfl)
abbrev mD:Option (Str×Str)->Vl
 | none=>.im .non
 | some u=>jd "unknown" u.2
structure Dk(G:List M)(p:Pg)(a b c:Nat):Prop where
 a:G[a]?=some (.dic (kD (p.nm 0)))
 b:G[b]?=some (.dic (kD (p.nm 1)))
 c:G[c]?=some (.dic (kD (p.nm 2)))
def Dk.ext{G G':List M}{p:Pg}{a b c:Nat}(d:Dk G p a b c)(e:bX G G'):Dk G' p a b c:=⟨e.at_ d.a,e.at_ d.b,e.at_ d.c⟩
def xG{f:Mo Ev}{Z Z1:De}{G G1:List M}(h:f Z G=some (⇑.non,Z1,G1)):cA f Z G=some (.nx Z1 G1):=by unfold cA;rw [h]
def xH{f:Mo Ev}{Z Z1:De}{G G1:List M}{w n:Str}(h:f Z G=some (.v (jd w n),Z1,G1)):cA f Z G=some (.rt (jd w n) G1):=by unfold cA;rw [h];rfl
abbrev qf(b:Bool)(Z:De)(G:List M)(n:Str):Option Fl:=if b=true then some (.rt (jd "unknown" n) G) else some (.nx Z G)
def ki{p:Pg}{Z:De}{fx:Mo Ev}{i k:Nat}{x s:Str}(hk:G[k]?=some (.dic (kD (p.nm (sIx s)))))(hx:fx Z G=some (⇑(.str x),Z,G))(hi:aa i Z G=some (⇑(.ref k),Z,G)):cA (bd (af fx (af (aa i) ae)) (ax 2 iR)) Z G=qf (p.bad (s,x)) Z G x:=by
 have e:=Hj (x:=x) hk
 unfold qf Pg.bad
 dsimp only
 by_cases hm:x∈p.nm (sIx s)
 ·rw [if_pos hm] at e
  rw [decide_eq_true hm]
  exact xG (av (av hx (av (av hi rfl) rfl)) (cB (xs:=[.im (.str x),.im (.ref k)]) rfl rfl e))
 ·rw [if_neg hm] at e
  rw [decide_eq_false hm]
  exact xH (av (av hx (av (av hi rfl) rfl)) (cB (xs:=[.im (.str x),.im (.ref k)]) rfl rfl e))
end
section
variable {G:List M}
abbrev i5(x:I)(a b:Nat)(v:Option Vl):De:=[↑x,↑(.ref a),↑(.ref b),v]
abbrev gz(o:Option (Str×Str))(Z:De)(G:List M):Option Fl:=match o with
 | none=>some (.nx Z G)
 | some u=>some (.rt (jd "unknown" u.2) G)
def Hk{p:Pg}{x:I}{a b c:Nat}(d:Dk G p a b c)(t:Tm):Fv (i5 x a b ↑t.i) G=gz ((eU t).toList.find? p.bad) (i5 x a b ↑t.i) G:=by
 cases t with
 | num w=>exact aL (Z1:=i5 x a b ↑(Tm.num w).i) (G1:=G) (by kernel_rfl) (aL (Z1:=i5 x a b ↑(Tm.num w).i) (G1:=G) (by kernel_rfl) rfl)
 | op s m n=>exact aL (Z1:=i5 x a b ↑(Tm.op s m n).i) (G1:=G) (by kernel_rfl) (aL (Z1:=i5 x a b ↑(Tm.op s m n).i) (G1:=G) (by kernel_rfl) rfl)
 | cell y =>
  refine bS (Z1:=i5 x a b ↑(Tm.cell y).i) (G1:=G) (by kernel_rfl) ?_
  rw [ki (p:=p) (s:="cell") (k:=a) (x:=y) d.a (by kernel_rfl) (by rfl)]
  unfold qf eU
  cases h:p.bad ("cell",y)<;>simp [h,gz]
 | at_ r t =>
  refine aL (Z1:=i5 x a b ↑(Tm.at_ r t).i) (G1:=G) (by kernel_rfl) (bS (Z1:=i5 x a b ↑(Tm.at_ r t).i) (G1:=G) (by kernel_rfl) ?_)
  rw [ki (p:=p) (s:="at") (k:=b) (x:=r) d.b (by kernel_rfl) (by rfl)]
  unfold qf eU
  cases h:p.bad ("at",r)<;>simp [h,gz]
theorem xI{p:Pg}{x:I}{a b c:Nat}{e:Ev}{ts:List Tm}(d:Dk G p a b c)(hs:∀Z,sq Z G e=some (ts.map Tm.i)):∀(post pre:List Tm) (v:Option Vl),ts=pre++post->∃v',aV (a6 e ts.length) (aB 3) Fv pre.length post.length (i5 x a b v) G=gz ((post.filterMap eU).find? p.bad) (i5 x a b v') G
 | [],pre,v,_=>⟨v,eR (by simp [a6,hs])⟩
 | t::post,pre,v,hx=>by
  have ha:(a6 e ts.length).at_ pre.length (i5 x a b v) G=some t.i:=by
   show (sq _ G e).bind (·[pre.length]?)=_
   rw [hs]
   show (ts.map Tm.i)[pre.length]?=_
   rw [hx];simp
  have ht:=Hk (x:=x) d t
  have hf:(List.filterMap eU (t::post)).find? p.bad=((eU t).toList.find? p.bad).or ((post.filterMap eU).find? p.bad):=by
   cases hu:eU t with
   | none=>rw [List.filterMap_cons_none hu];rfl
   | some u=>rw [List.filterMap_cons_some hu];show _=Option.or ([u].find? p.bad) _;rw [<- List.find?_append];rfl
  rw [hf]
  cases hb:(eU t).toList.find? p.bad with
  | some u =>
   rw [hb] at ht
   exact⟨v,eS (d:=t.i) ha rfl ht⟩
  | none =>
   rw [hb] at ht
   obtain⟨v',e'⟩:=xI d hs post (pre++[t]) ↑t.i (by rw [hx];simp)
   refine⟨v',?_⟩
   rw [Option.none_or,<- e',za,List.length_singleton]
   exact cV (d:=t.i) ha rfl ht rfl
def pU{n r:Nat}{body:SF}{xs:List Vl}{o:Option (Str×Str)}{Z':De}{G':List M}(hl:xs.length=n)(h:body (xs.map some++List.replicate r none) G=gz o Z' G'):aQ n r body xs G=some (mD o,G'):=by
 cases o with
 | none=>exact wm hl h
 | some u=>exact aJ hl h
def Hl{p:Pg}{t:Tm}{a b c:Nat}(d:Dk G p a b c)(ht:t.size≤100):∃G',zq [.im t.i,.im (.ref a),.im (.ref b)] G=some (mD (t.us.find? p.bad),G')/\bX G G':=by
 obtain⟨G',hG'⟩:∃G':List M,G'=G++[.lst (t.all.map Tm.i)]:=⟨_,rfl⟩
 have hk:G'[G.length]?=some (.lst (t.all.map Tm.i)):=by rw [hG'];simp
 have ex:bX G G':=by rw [hG'];exact bX.app _ _
 have hl:=zH t
 obtain⟨v',e⟩:=xI (x:=t.i) (e:=⇑(.ref G.length)) (ts:=t.all) (d.ext ex) (λZ=>by simp [sq,pk,hk]) t.all [] none rfl
 rw [<- mC] at e
 refine⟨G',pU rfl (b7 (eh (e:=⇑(.ref G.length)) (n:=t.all.length) (Z1:=i5 t.i a b none) (G1:=G') (xs:=t.all.map Tm.i) (av (av (a:=[⇑t.i]) rfl (cB (xs:=[.im t.i]) rfl rfl (Hi ht))) ?_) rfl (by simp [sq,pk,hk]) (by simp)) e),ex⟩
 rw [hG'];rfl
abbrev Sm.own:Sm->List Tm
 | .set _ t=>[t]
 | .put _ a b=>[a,b]
 | .call _=>[]
 | .wh t _=>[t]
 | .ite t _ _=>[t]
abbrev Sm.nu:Sm->Option (Str×Str)
 | .set x _=>some ("cell",x)
 | .put r _ _=>some ("at",r)
 | .call f=>some ("call",f)
 | _=>none
abbrev Sm.ou(s:Sm):List (Str×Str):=s.nu.toList++s.own.flatMap Tm.us
def Hm(s:Sm):wg [.im s.i] G=some (.im (.tup (s.own.map Tm.i)),G):=by
 cases s with
 | set x t=>rw [mz];kernel_rfl
 | put x a b=>rw [mB];kernel_rfl
 | call x=>rw [zF];kernel_rfl
 | wh t b=>rw [hJ];kernel_rfl
 | ite t b c=>rw [kg];kernel_rfl
abbrev eJ(x:I)(a b c:Nat)(v:Option Vl):De:=[↑x,↑(.ref a),↑(.ref b),↑(.ref c),v]
abbrev xJ:SF:=(aE (ao (ah bP (ah ak (aa 0) (ag (.int 0))) (ag (.str "set"))))
 (cA (bd (af (ah ak (aa 0) (ag (.int 1))) (af (aa 1) ae)) (ax 2 iR)))
 (aE (ao (ah bP (ah ak (aa 0) (ag (.int 0))) (ag (.str "put"))))
 (cA (bd (af (ah ak (aa 0) (ag (.int 1))) (af (aa 2) ae)) (ax 2 iR)))
 (aE (ao (ah bP (ah ak (aa 0) (ag (.int 0))) (ag (.str "call"))))
 (cA (bd (af (ah ak (aa 0) (ag (.int 1))) (af (aa 3) ae)) (ax 2 iR)))
 (c8 aM))))
def Hn{p:Pg}{u:Str×Str}{Z:De}:qf (p.bad u) Z G u.2=gz ([u].find? p.bad) Z G:=by
 unfold qf
 cases h:p.bad u<;>simp [h,gz]
def Ho{p:Pg}{a b c:Nat}(d:Dk G p a b c)(s:Sm):xJ (eJ s.i a b c none) G=gz (s.nu.toList.find? p.bad) (eJ s.i a b c none) G:=by
 cases s with
 | set x t =>
  rw [mz]
  refine bS (Z1:=eJ (.tup [.str "set",.str x,t.i]) a b c none) (G1:=G) (by kernel_rfl) ?_
  rw [ki (p:=p) (s:="cell") (k:=a) (x:=x) d.a (by kernel_rfl) (by rfl)]
  exact Hn (u:=("cell",x))
 | put x m n =>
  rw [mB]
  refine aL (Z1:=eJ (.tup [.str "put",.str x,m.i,n.i]) a b c none) (G1:=G) (by kernel_rfl) (bS (Z1:=eJ (.tup [.str "put",.str x,m.i,n.i]) a b c none) (G1:=G) (by kernel_rfl) ?_)
  rw [ki (p:=p) (s:="at") (k:=b) (x:=x) d.b (by kernel_rfl) (by rfl)]
  exact Hn (u:=("at",x))
 | call x =>
  rw [zF]
  refine aL (Z1:=eJ (.tup [.str "call",.str x]) a b c none) (G1:=G) (by kernel_rfl) (aL (Z1:=eJ (.tup [.str "call",.str x]) a b c none) (G1:=G) (by kernel_rfl) (bS (Z1:=eJ (.tup [.str "call",.str x]) a b c none) (G1:=G) (by kernel_rfl) ?_))
  rw [ki (p:=p) (s:="call") (k:=c) (x:=x) d.c (by kernel_rfl) (by rfl)]
  exact Hn (u:=("call",x))
 | wh t m =>
  rw [hJ]
  exact aL (Z1:=eJ (.tup [.str "while",t.i,.tup (aq m)]) a b c none) (G1:=G) (by kernel_rfl) (aL (Z1:=eJ (.tup [.str "while",t.i,.tup (aq m)]) a b c none) (G1:=G) (by kernel_rfl) (aL (Z1:=eJ (.tup [.str "while",t.i,.tup (aq m)]) a b c none) (G1:=G) (by kernel_rfl) rfl))
 | ite t m n =>
  rw [kg]
  exact aL (Z1:=eJ (.tup [.str "if",t.i,.tup (aq m),.tup (aq n)]) a b c none) (G1:=G) (by kernel_rfl) (aL (Z1:=eJ (.tup [.str "if",t.i,.tup (aq m),.tup (aq n)]) a b c none) (G1:=G) (by kernel_rfl) (aL (Z1:=eJ (.tup [.str "if",t.i,.tup (aq m),.tup (aq n)]) a b c none) (G1:=G) (by kernel_rfl) rfl))
def xK{f:Mo Ev}{Z Z1:De}{G G1:List M}{o:Option (Str×Str)}(h:f Z G=some (.v (mD o),Z1,G1)):cA f Z G=gz o Z1 G1:=by
 cases o with
 | none=>exact xG h
 | some u=>exact xH h
theorem xM{p:Pg}{x:I}{a b c:Nat}{ts:List Tm}(ht:∀t∈ts,t.size≤100):∀(post pre:List Tm) (v:Option Vl) {G:List M},Dk G p a b c->ts=pre++post->∃v' G',aV (a6 ⇑(.tup (ts.map Tm.i)) ts.length) (aB 4) zr pre.length post.length (eJ x a b c v) G=gz ((post.flatMap Tm.us).find? p.bad) (eJ x a b c v') G'/\bX G G'
 | [],pre,v,G,d,_=>⟨v,G,eR (by simp [a6,sq]),bX.refl _⟩
 | t::post,pre,v,G,d,hx=>by
  have ha:(a6 ⇑(.tup (ts.map Tm.i)) ts.length).at_ pre.length (eJ x a b c v) G=some t.i:=by
   show (ts.map Tm.i)[pre.length]?=_
   rw [hx];simp
  obtain⟨G1,e1,x1⟩:=Hl (t:=t) d (ht t (by rw [hx];simp))
  have hd:zr (eJ x a b c ↑t.i) G=gz (t.us.find? p.bad) (eJ x a b c ↑t.i) G1:=xK (av (a:=[⇑t.i,⇑(.ref a),⇑(.ref b)]) rfl (cB (xs:=[.im t.i,.im (.ref a),.im (.ref b)]) rfl rfl e1))
  rw [List.flatMap_cons,List.find?_append]
  cases hb:t.us.find? p.bad with
  | some u =>
   rw [hb] at hd
   exact⟨v,G1,eS (d:=t.i) ha rfl hd,x1⟩
  | none =>
   rw [hb] at hd
   obtain⟨v',G',e',x'⟩:=xM ht post (pre++[t]) ↑t.i (d.ext x1) (by rw [hx];simp)
   refine⟨v',G',?_,x1.trans x'⟩
   rw [Option.none_or,<- e',za,List.length_singleton]
   exact cV (d:=t.i) ha rfl hd rfl
def Hq{s:Sm}(h:s.sh):∀t∈s.own,t.size≤100:=by
 intro t ht
 cases s with
 | set x t'=>rw [Sm.sh] at h;rw [z17.mp ht];lia
 | put x a b =>
  rw [Sm.sh] at h
  rcases z1e.mp ht with rfl|ht
  ·lia
  ·rw [z17.mp ht];lia
 | call x=>cases ht
 | wh t' b=>rw [Sm.sh] at h;rw [z17.mp ht];lia
 | ite t' b c=>rw [Sm.sh] at h;rw [z17.mp ht];lia
def Hr{p:Pg}{s:Sm}{a b c:Nat}(d:Dk G p a b c)(hs:s.sh):∃G',zt [.im s.i,.im (.ref a),.im (.ref b),.im (.ref c)] G=some (mD (s.ou.find? p.bad),G')/\bX G G':=by
 have hh:=Ho d s
 obtain⟨v',G',e,x⟩:=xM (x:=s.i) (Hq hs) s.own [] none d rfl
 have ef:bB (bF (one (bd (af (aa 0) ae) (ax 1 wg))) aR) (aB 4) zr (eJ s.i a b c none) G=gz ((s.own.flatMap Tm.us).find? p.bad) (eJ s.i a b c v') G':=b7 (fN (n:=s.own.length) (av (a:=[⇑s.i]) rfl (cB (xs:=[.im s.i]) rfl rfl (Hm s))) (by rw [z12])) e
 unfold Sm.ou
 rw [List.find?_append]
 cases hn:s.nu.toList.find? p.bad with
 | some u =>
  rw [hn] at hh
  exact⟨G,pU (o:=some u) (Z':=eJ s.i a b c none) rfl (b6 hh),bX.refl _⟩
 | none =>
  rw [hn] at hh
  rw [Option.none_or]
  exact⟨G',pU rfl (aj hh ef),x⟩
end
section
variable {G:List M}
mutual
noncomputable def Sm.al:Sm->List Sm
 | .set x t=>[.set x t]
 | .put x a b=>[.put x a b]
 | .call x=>[.call x]
 | .wh t b=>.wh t b::cP b
 | .ite t b c=>.ite t b c::(cP b++cP c)
noncomputable def cP:List Sm->List Sm
 | []=>[]
 | s::b=>s.al++cP b
end
theorem pV:∀a b:List Sm,cP (a++b)=cP a++cP b
 | [],b=>by rw [z29,cP,z29]
 | s::a,b=>by rw [z2a,cP,cP,pV a b,z21]
abbrev Sm.y8f:Sm->List (List Sm)
 | .wh _ b=>[b]
 | .ite _ b c=>[b,c]
 | _=>[]
def y66(s:Sm):s.al=s::cP s.y8f.flatten:=by
 cases s with
 | set x t=>rw [Sm.al];simp [Sm.y8f,cP]
 | put x a b=>rw [Sm.al];simp [Sm.y8f,cP]
 | call x=>rw [Sm.al];simp [Sm.y8f,cP]
 | wh t b=>rw [Sm.al];simp [Sm.y8f]
 | ite t b c=>rw [Sm.al];simp [Sm.y8f,pV]
def y91(s:Sm):we [.im s.i] G=some (.im (.tup (s.y8f.map λb=>.tup (aq b))),G):=by
 cases s with
 | set x t=>rw [mz];kernel_rfl
 | put x a b=>rw [mB];kernel_rfl
 | call x=>rw [zF];kernel_rfl
 | wh t b=>rw [hJ];kernel_rfl
 | ite t b c=>rw [kg];kernel_rfl
def kj(b:List Sm):aP b.reverse=aP b:=by
 induction b with
 | nil=>rfl
 | cons s b ih=>rw [List.reverse_cons,eB,ih,aP,aP,aP];lia
def y90(s:Sm):aP s.y8f.flatten+1≤s.n:=by
 cases s with
 | set x t=>rw [Sm.n];simp [Sm.y8f,aP]
 | put x a b=>rw [Sm.n];simp [Sm.y8f,aP]
 | call x=>rw [Sm.n];simp [Sm.y8f,aP]
 | wh t b=>rw [Sm.n];simp [Sm.y8f];lia
 | ite t b c=>rw [Sm.n];simp [Sm.y8f,eB];lia
def Hs{a w:Option Vl}{fs:List I}{ls:List Sm}{s:Sm}(hb:aP ls+s.n≤1000):∃w':Option Vl,bB (bF (one (cY dM (bd (af (aa 3) ae) (ax 1 we)))) aR) (aB 4) zj [a,↥fs,↥(aq ls),↑s.i,w] G=some (.nx [a,↥fs,↥(aq (ls++s.y8f.flatten.reverse)),↑s.i,w'] G):=by
 have hn:=y90 s
 obtain⟨Z',G',e,eg,w',ed⟩:=xm (f:=λb:List Sm=>I.tup (aq b)) (xs:=s.y8f.reverse) (e:=⇑(.tup (s.y8f.reverse.map λb=>I.tup (aq b)))) (g:=aB 4) (b:=zj)
  (λpre Z G'=>G'=G/\∃(w':Option Vl),Z=[a,↥fs,↥(aq (ls++(pre.map List.reverse).flatten)),↑s.i,w']) (λ_ _ _ _=>rfl)
  (λpre x post Z G1 hx zz=>by
   obtain⟨e1,w',e2⟩:=zz
   subst e1;subst e2
   have hx':s.y8f.flatten.reverse=(pre.map List.reverse).flatten++x.reverse++(post.map List.reverse).flatten:=by rw [List.reverse_flatten,<- List.map_reverse,hx];simp
   have hz:aP s.y8f.flatten=aP (pre.map List.reverse).flatten+aP x+aP (post.map List.reverse).flatten:=by rw [<- kj,hx',eB,eB,kj x]
   have l1:=my (ls++(pre.map List.reverse).flatten)
   have l2:=my x
   rw [eB] at l1
   have c:(aq (ls++(pre.map List.reverse).flatten)).length+(aq x).length≤1000000:=by rw [dO,dO];lia
   refine⟨[a,↥fs,↥(aq (ls++(pre.map List.reverse).flatten)),↑s.i,↑(.tup (aq x))],G1,[a,↥fs,↥(aq (ls++((pre++[x]).map List.reverse).flatten)),↑s.i,↑(.tup (aq x))],G1,rfl,.inl ?_,rfl,_,rfl⟩
   have er:aq (ls++((pre++[x]).map List.reverse).flatten)=aq (ls++(pre.map List.reverse).flatten)++(aq x).reverse:=by simp [kf]
   rw [er]
   generalize aq (ls++(pre.map List.reverse).flatten)=z at c
   simp! [zj,dM,fF,fF.notC,c]) s.y8f.reverse [] (Z:=[a,↥fs,↥(aq ls),↑s.i,w]) (G:=G) (by simp) ⟨rfl,w,by simp⟩
 have er:(s.y8f.reverse.map List.reverse).flatten=s.y8f.flatten.reverse:=by rw [List.reverse_flatten,List.map_reverse]
 rw [er] at ed
 subst ed;subst eg
 refine⟨w',b7 (fN (xs:=s.y8f.reverse.map λb=>I.tup (aq b)) (n:=s.y8f.reverse.length) (Z1:=[a,↥fs,↥(aq ls),↑s.i,w]) (G1:=G') ?_ (by simp)) e⟩
 simp! [y91,dM]
def Ht{a:Option Vl}:∀(n:Nat) (fs ls:List Sm) (v w:Option Vl),aP ls=n->fs.length+n≤1000 ->
  ∃(v' w':Option Vl),fQ zk y41 [a,↥(aq fs),↥(aq ls),v,w] G=some (.nx [a,↥(aq (fs++cP ls.reverse)),↥[],v',w'] G):=by
 intro n
 induction n using Nat.strongRecOn with
 | _ n ih =>
  intro fs ls v w hn hb
  rcases xD ls with rfl|⟨ls,s,rfl⟩
  ·refine⟨v,w,?_⟩
   rw [List.reverse_nil,cP,z10]
   refine lM ?_
   simp! [zk,aq]
  ·have sp:=y90 s
   rw [eB,aP,aP] at hn
   obtain⟨w',e1⟩:=Hs (G:=G) (a:=a) (w:=w) (fs:=aq (fs++[s])) (ls:=ls) (s:=s) (by lia)
   obtain⟨v2,w2,e2⟩:=ih (aP (ls++s.y8f.flatten.reverse)) (by rw [eB,kj];lia) (fs++[s]) (ls++s.y8f.flatten.reverse) ↑s.i w' rfl (by rw [eB,kj];simp;lia)
   refine⟨v2,w2,?_⟩
   have hr:fs++cP (ls++[s]).reverse=fs++[s]++cP (ls++s.y8f.flatten.reverse).reverse:=by
    rw [z37,z37,List.reverse_reverse,List.reverse_singleton,z34,cP,pV,y66 s];simp
   rw [hr]
   have c1:(aq fs).length<1000000:=by rw [dO];lia
   have ei:aq (ls++[s])=aq ls++[s.i]:=by rw [iS,aq,aq]
   have ej:aq (fs++[s])=aq fs++[s.i]:=by rw [iS,aq,aq]
   rw [ei]
   rw [oE (Z1:=[a,↥(aq fs),↥(aq ls++[s.i]),v,w]) (G1:=G) (Z2:=[a,↥(aq (fs++[s])),↥(aq (ls++s.y8f.flatten.reverse)),↑s.i,w']) (G2:=G) (by simp! [zk]) ?_]
   ·exact e2
   ·refine aj (bC (x:=.im s.i) (Z1:=[a,↥(aq fs),↥(aq ls),v,w]) (G1:=G) (by simp! []) rfl) ?_
    refine aj (Z1:=[a,↥(aq (fs++[s])),↥(aq ls),↑s.i,w]) (G1:=G) (by rw [ej];simp! [c1]) e1
def Hu{b:List Sm}(hb:aP b≤1000):zl [.im (.tup (aq b))] G=some (.ow (.lst (aq (cP b))),G):=by
 obtain⟨v,w,e⟩:=Ht (G:=G) (a:=↑(.tup (aq b))) (aP b.reverse) [] b.reverse none none rfl (by rw [kj];simpa using hb)
 have er:aq b.reverse=(aq b).reverse:=by simp [kf]
 have e0:aq []=[]:=by rw [aq]
 rw [er,e0,List.reverse_reverse,z29] at e
 refine aJ rfl ?_
 refine aj (bC (x:=.ow (.lst [])) (Z1:=[↑(.tup (aq b)),none,none,none,none]) (G1:=G) (by simp! []) rfl) ?_
 refine aj (bC (x:=.ow (.lst (aq b).reverse)) (Z1:=[↑(.tup (aq b)),↥[],none,none,none]) (G1:=G) (by simp! [dM,jK]) rfl) ?_
 refine aj e ?_
 simp! []
mutual
theorem xN:∀s:Sm,s.us=s.al.flatMap Sm.ou
 | .set x t=>by rw [Sm.us,Sm.al];simp [Sm.ou,Sm.nu,Sm.own]
 | .put x a b=>by rw [Sm.us,Sm.al];simp [Sm.ou,Sm.nu,Sm.own]
 | .call x=>by rw [Sm.us,Sm.al];simp [Sm.ou,Sm.nu,Sm.own]
 | .wh t b=>by rw [Sm.us,Sm.al,List.flatMap_cons,<- km b];simp [Sm.ou,Sm.nu,Sm.own]
 | .ite t b c=>by rw [Sm.us,Sm.al,List.flatMap_cons,List.flatMap_append,<- km b,<- km c];simp [Sm.ou,Sm.nu,Sm.own]
theorem km:∀b:List Sm,bg b=(cP b).flatMap Sm.ou
 | []=>by rw [bg,cP];rfl
 | s::b=>by rw [bg,cP,List.flatMap_append,<- xN s,<- km b]
end
mutual
theorem xO:∀s:Sm,s.sh->∀x∈s.al,x.sh
 | .set y t,h,x,hx=>by rw [Sm.al] at hx;rw [z17.mp hx];exact h
 | .put y a b,h,x,hx=>by rw [Sm.al] at hx;rw [z17.mp hx];exact h
 | .call y,h,x,hx=>by rw [Sm.al] at hx;rw [z17.mp hx];exact h
 | .wh t b,h,x,hx=>by
  rw [Sm.al] at hx
  rcases z1e.mp hx with rfl|hx
  ·exact h
  ·rw [Sm.sh] at h;exact ko b h.2 x hx
 | .ite t b c,h,x,hx=>by
  rw [Sm.al] at hx
  rcases z1e.mp hx with rfl|hx
  ·exact h
  ·rw [Sm.sh] at h
   rcases z13.mp hx with hx|hx
   ·exact ko b h.2.1 x hx
   ·exact ko c h.2.2 x hx
theorem ko:∀b:List Sm,bU b->∀x∈cP b,x.sh
 | [],_,x,hx=>by rw [cP] at hx;cases hx
 | s::b,h,x,hx=>by
  rw [cP] at hx;rw [bU] at h
  rcases z13.mp hx with hx|hx
  ·exact xO s h.1 x hx
  ·exact ko b h.2 x hx
end
mutual
theorem y67:∀s:Sm,s.al.length≤s.n
 | .set y t=>by rw [Sm.al,Sm.n];simp
 | .put y a b=>by rw [Sm.al,Sm.n];simp
 | .call y=>by rw [Sm.al,Sm.n];simp
 | .wh t b=>by rw [Sm.al,Sm.n,z11];have:=kq b;lia
 | .ite t b c=>by rw [Sm.al,Sm.n,z11,za];have:=kq b;have:=kq c;lia
theorem kq:∀b:List Sm,(cP b).length≤aP b
 | []=>by rw [cP,aP];simp
 | s::b=>by rw [cP,aP,za];have:=y67 s;have:=kq b;lia
end
end
section
variable {G:List M}
def Hv(ns:List Str)(x:Str)(h:x∉ns):gj (kD ns) (.inr x)=false:=by
 induction ns with
 | nil=>rfl
 | cons n ns ih =>
  have h1:n≠x:=λz=>h (by rw [z];simp)
  have h2:x∉ns:=λz=>h (z23 _ z)
  have:=ih h2
  unfold gj kD at *
  simp only [z16,List.any_cons]
  rw [this]
  simp [h1]
def Hw{ns:List Str}{x:Str}(h:x∉ns):cT (kD ns) (.inr x) (.bl true)=kD (ns++[x]):=by
 unfold cT
 rw [Hv ns x h]
 simp [kD]
abbrev i6(xs:List (Str×I))(v1 v2:Option Vl):De:=[↑(.tup (xs.map bD)),v1,v2]
theorem xP{xs:List (Str×I)}(hl:xs.length≤1000):∀(post pre:List (Str×I)) (v:Option Vl),xs=pre++post->∃v',aV (a6 ⇑(.tup (xs.map bD)) xs.length) (aB 2) y3d pre.length post.length (i6 xs (some (.ow (.dic (kD (pre.map (·.1)))))) v) G=match cI (pre.map (·.1)) (post.map (·.1)) with
   | none=>some (.nx (i6 xs (some (.ow (.dic (kD (xs.map (·.1)))))) v') G)
   | some n=>some (.rt (jd "twice" n) G)
 | [],pre,v,hx=>by
  refine⟨v,?_⟩
  rw [hx,z10]
  exact eR (by simp [a6,sq])
 | x::post,pre,v,hx=>by
  obtain⟨D,hD⟩:∃D,D=i6 xs (some (.ow (.dic (kD (pre.map (·.1)))))) ↑(bD x):=⟨_,rfl⟩
  have ha:(a6 ⇑(.tup (xs.map bD)) xs.length).at_ pre.length (i6 xs (some (.ow (.dic (kD (pre.map (·.1)))))) v) G=some (bD x):=by
   show (xs.map bD)[pre.length]?=_
   rw [hx];simp
  have hg:aB 2 (.im (bD x)) (i6 xs (some (.ow (.dic (kD (pre.map (·.1)))))) v) G=some (D,G):=by rw [hD];rfl
  have e0:ah ak (aa 2) (ag (.int 0)) D G=some (⇑(.str x.1),D,G):=by
   rw [hD]
   exact aF (x:=⇑(bD x)) (y:=⇑(.int 0)) rfl rfl (by simp [bD,ak,bW,dX,sq,pk,dh])
  have et:ao (ah fR (ah ak (aa 2) (ag (.int 0))) (aa 1)) D G=some (decide (x.1∈pre.map (·.1)),D,G):=by
   refine dA (aF e0 (y:=.s 1) (Z2:=D) (G2:=G) (by rw [hD];rfl) ?_)
   rw [hD]
   have hv:=xF (pre.map (·.1)) x.1
   by_cases hm:x.1∈pre.map (·.1)
   ·rw [if_pos hm] at hv
    rw [decide_eq_true hm]
    simp only [i6,fR,bW,ij,eN,sq,pk,eM,dv,hv];simp [hv]
   ·rw [if_neg hm] at hv
    rw [decide_eq_false hm]
    simp only [i6,fR,bW,ij,eN,sq,pk,eM,dv,hv];simp [hv]
  rw [z16]
  by_cases hm:x.1∈pre.map (·.1)
  ·refine⟨v,?_⟩
   have:cI (pre.map (·.1)) (x.1::post.map (·.1))=some x.1:=by unfold cI;rw [if_pos hm]
   rw [this]
   rw [decide_eq_true hm] at et
   refine eS (d:=bD x) ha hg (b6 (bS et ?_))
   have ea:af (ag (.str "twice")) (af (ah ak (aa 2) (ag (.int 0))) ae) D G=some ([⇑(.str "twice"),⇑(.str x.1)],D,G):=av (a:=⇑(.str "twice")) rfl (av (av e0 rfl) rfl)
   unfold iQ
   rw [ea]
   rfl
  ·rw [decide_eq_false hm] at et
   obtain⟨v',e'⟩:=xP hl post (pre++[x]) ↑(bD x) (by rw [hx];simp)
   refine⟨v',?_⟩
   have hd:cI (pre.map (·.1)) (x.1::post.map (·.1))=cI ((pre++[x]).map (·.1)) (post.map (·.1)):=by rw [cI,if_neg hm];simp
   rw [hd,<- e',za,List.length_singleton]
   refine cV (d:=bD x) ha hg (aj (aL et rfl) ?_) rfl
   have hp:cM (aa 1) (ah ak (aa 2) (ag (.int 0))) (ag (.bl true)) D G=some (.nx (i6 xs (some (.ow (.dic (kD ((pre++[x]).map (·.1)))))) ↑(bD x)) G):=by
    have hk:=Hw hm
    have hln:(kD (pre.map (·.1))).length<1000000:=by
     have:pre.length≤xs.length:=by rw [hx];simp
     simp [kD];lia
    rw [hD] at e0 ⊢
    have er:(pre++[x]).map (·.1)=pre.map (·.1)++[x.1]:=by simp
    rw [er,<- hk]
    generalize kD (pre.map (·.1))=z at hln e0
    simp only [bD] at e0 ⊢
    simp! [cM,i6,dh,hln]
   unfold c8
   rw [hp]
   rfl
def pW{xs:List (Str×I)}(hl:xs.length≤1000):j4 [.im (.tup (xs.map bD))] G=some (match cI [] (xs.map (·.1)) with|none=>.ow (.dic (kD (xs.map (·.1))))|some n=>jd "twice" n,G):=by
 obtain⟨v',e⟩:=xP (G:=G) hl xs [] none rfl
 have it:bF (one (aa 0)) aR (i6 xs (some (.ow (.dic (kD [])))) none) G=some (a6 ⇑(.tup (xs.map bD)) xs.length,[⇑(.tup (xs.map bD))],i6 xs (some (.ow (.dic (kD [])))) none,G):=fN (n:=xs.length) rfl (by rw [z12])
 have s0:c8 (aG jL (aB 1)) (i6 xs none none) G=some (.nx (i6 xs (some (.ow (.dic (kD [])))) none) G):=rfl
 cases h:cI [] (xs.map (·.1)) with
 | some n =>
  rw [show ([]:List (Str×I)).map (·.1)=[] from rfl,h] at e
  exact aJ rfl (aj s0 (b6 (b7 it e)))
 | none =>
  rw [show ([]:List (Str×I)).map (·.1)=[] from rfl,h] at e
  exact aJ rfl (aj s0 (aj (b7 it e) rfl))
abbrev Pg.bds(p:Pg):List (List Sm):=p.defs.map (·.2)++[p.body]
abbrev bI(b:List Sm):I:=.tup (aq b)
def y8e{p:Pg}(hp:p.Sh):wd [.im p.i] G=some (.ow (.lst (p.bds.map bI)),G):=by
 have hc:=hp.c1
 obtain⟨ds,G',e,ed,eg⟩:=xn (f:=bf) (xs:=p.defs) (e:=⇑(.tup (p.defs.map bf))) (c:=c1) (te:=ah ak (aa 0) (ag (.int 1))) (di:=[]) (Z:=[↑p.i])
  (λpre acc g=>acc=(pre.map (·.2)).map bI/\g=G)
  (λpre acc g _=>rfl)
  (λpre x post acc g hx zz=>by
   obtain⟨ea,eg⟩:=zz
   refine⟨[bf x],bI x.2,[↑(bf x)],g,rfl,aF (x:=⇑(bf x)) (y:=⇑(.int 1)) rfl rfl (by simp [bf,bI,ak,bW,dX,sq,pk,eA]),by rw [ea];simp,eg⟩)
  p.defs [] (acc:=[]) (G:=G) rfl ⟨rfl,rfl⟩
 rw [ed,eg] at e
 have a2:ah ak (aa 0) (ag (.int 2)) [↑p.i] G=some (⇑(.tup (p.defs.map bf)),[↑p.i],G):=aF (x:=⇑p.i) (y:=⇑(.int 2)) rfl rfl (by simp [Pg.i,ak,bW,dX,sq,pk,mj])
 have a3:ah ak (aa 0) (ag (.int 3)) [↑p.i] G=some (⇑(.tup (aq p.body)),[↑p.i],G):=aF (x:=⇑p.i) (y:=⇑(.int 3)) rfl rfl (by simp [Pg.i,ak,bW,dX,sq,pk,wC])
 refine aJ rfl (cF (Z1:=[↑p.i]) (aF (x:=.v (.ow (.lst ((p.defs.map λq:Str×List Sm=>q.2).map bI)))) (y:=.v (.ow (.lst [bI p.body]))) (kG (by rfl) (fN (n:=p.defs.length) a2 (by rw [z12])) (by show p.defs.length≤100000;lia) e) (av (av a3 rfl) rfl) ?_))
 have hl:((p.defs.map (·.2)).map bI).length + [bI p.body].length≤1000000:=by simp;lia
 have er:p.bds.map bI=(p.defs.map (·.2)).map bI++[bI p.body]:=by simp [Pg.bds]
 rw [er]
 generalize (p.defs.map (·.2)).map bI=z at hl
 generalize [bI p.body]=z2 at hl
 simp [bu,bW,oM,bJ,jE,mY,oK,pk,hl]
end
section
abbrev eK(p:Pg)(v1 v2 v3 v4 v5:Option Vl):De:=[↑p.i,v1,v2,v3,v4,v5]
abbrev kI(p:Pg)(G:List M)(v1 v2 v3:Option Vl):Prop:=(v1=some (.ow (.dic (kD (p.nm 0))))/\v2=some (.ow (.dic (kD (p.nm 1))))/\v3=some (.ow (.dic (kD (p.nm 2)))))∨∃a b c,v1=↑(.ref a)/\v2=↑(.ref b)/\v3=↑(.ref c)/\Dk G p a b c
theorem kI.ext{p:Pg}{G G':List M}{v1 v2 v3:Option Vl}(h:kI p G v1 v2 v3)(e:bX G G'):kI p G' v1 v2 v3:=by
 rcases h with h|⟨a,b,c,h1,h2,h3,h4⟩
 ·exact .inl h
 ·exact .inr ⟨a,b,c,h1,h2,h3,h4.ext e⟩
def y71{p:Pg}{G:List M}{v1 v2 v3 v4:Option Vl}{s:Sm}(h:kI p G v1 v2 v3):∃a b c G1,af (aa 5) (af (aY (aa 1)) (af (aY (aa 2)) (af (aY (aa 3)) ae))) (eK p v1 v2 v3 v4 ↑s.i) G=some ([⇑s.i,⇑(.ref a),⇑(.ref b),⇑(.ref c)],eK p ↑(.ref a) ↑(.ref b) ↑(.ref c) v4 ↑s.i,G1)/\bX G G1/\Dk G1 p a b c:=by
 rcases h with⟨rfl,rfl,rfl⟩| ⟨a,b,c,rfl,rfl,rfl,d⟩
 ·refine⟨G.length,(G++[M.dic (kD (p.nm 0))]).length,(G++[M.dic (kD (p.nm 0))]++[M.dic (kD (p.nm 1))]).length,G++[M.dic (kD (p.nm 0))]++[M.dic (kD (p.nm 1))]++[M.dic (kD (p.nm 2))],rfl,⟨_,by rw [z21,z21]⟩,?_,?_,?_⟩
  ·simp
  ·simp
  ·simp
 ·exact⟨a,b,c,G,rfl,bX.refl _,d⟩
theorem xQ{p:Pg}{k:Nat}{ss:List Sm}{v4:Option Vl}(hs:∀s∈ss,s.sh):∀(post pre:List Sm) (v1 v2 v3 v5:Option Vl) {G:List M},G[k]?=some (.lst (aq ss))->kI p G v1 v2 v3->ss=pre++post->∃v1' v2' v3' v5' G',aV (a6 ⇑(.ref k) ss.length) (aB 5) Fw pre.length post.length (eK p v1 v2 v3 v4 v5) G=gz ((post.flatMap Sm.ou).find? p.bad) (eK p v1' v2' v3' v4 v5') G'/\bX G G'/\kI p G' v1' v2' v3'
 | [],pre,v1,v2,v3,v5,G,hk,d,_=>⟨v1,v2,v3,v5,G,eR (by simp [a6,sq,pk,hk,dO]),bX.refl _,d⟩
 | s::post,pre,v1,v2,v3,v5,G,hk,d,hx=>by
  have ha:(a6 ⇑(.ref k) ss.length).at_ pre.length (eK p v1 v2 v3 v4 v5) G=some s.i:=by
   have:sq (eK p v1 v2 v3 v4 v5) G ⇑(.ref k)=some (aq ss):=by simp [sq,pk,hk]
   show (sq _ G _).bind (·[pre.length]?)=_
   rw [this]
   show (aq ss)[pre.length]?=_
   rw [kf,hx];simp
  obtain⟨a,b,c,G1,ea,x1,d1⟩:=y71 (v4:=v4) (s:=s) d
  obtain⟨G2,e2,x2⟩:=Hr d1 (hs s (by rw [hx];simp))
  have hd:Fw (eK p v1 v2 v3 v4 ↑s.i) G=gz (s.ou.find? p.bad) (eK p ↑(.ref a) ↑(.ref b) ↑(.ref c) v4 ↑s.i) G2:=xK (av ea (cB (xs:=[.im s.i,.im (.ref a),.im (.ref b),.im (.ref c)]) rfl rfl e2))
  have D2:kI p G2 ↑(.ref a) ↑(.ref b) ↑(.ref c):=.inr ⟨a,b,c,rfl,rfl,rfl,d1.ext x2⟩
  rw [List.flatMap_cons,List.find?_append]
  cases hb:s.ou.find? p.bad with
  | some u =>
   rw [hb] at hd
   exact⟨_,_,_,v5,G2,eS (d:=s.i) ha rfl hd,x1.trans x2,D2⟩
  | none =>
   rw [hb] at hd
   obtain⟨w1,w2,w3,w5,G',e',x',d'⟩:=xQ hs post (pre++[s]) _ _ _ ↑s.i ((x1.trans x2).at_ hk) D2 (by rw [hx];simp)
   refine⟨w1,w2,w3,w5,G',?_,(x1.trans x2).trans x',d'⟩
   rw [Option.none_or,<- e',za,List.length_singleton]
   exact cV (d:=s.i) ha rfl hd rfl
def y95{p:Pg}{b:List Sm}{v1 v2 v3 v5:Option Vl}{G:List M}(hb:bU b)(hn:aP b≤1000)(d:kI p G v1 v2 v3):∃v1' v2' v3' v5' G',zu (eK p v1 v2 v3 ↑(bI b) v5) G=gz ((bg b).find? p.bad) (eK p v1' v2' v3' ↑(bI b) v5') G'/\bX G G'/\kI p G' v1' v2' v3':=by
 obtain⟨G1,hG1⟩:∃G1:List M,G1=G++[.lst (aq (cP b))]:=⟨_,rfl⟩
 have hk:G1[G.length]?=some (.lst (aq (cP b))):=by rw [hG1];simp
 have x1:bX G G1:=by rw [hG1];exact bX.app _ _
 have hl:=kq b
 obtain⟨w1,w2,w3,w5,G',e,x',d'⟩:=xQ (p:=p) (v4:=↑(bI b)) (ko b hb) (cP b) [] v1 v2 v3 v5 hk (d.ext x1) rfl
 rw [<- km] at e
 refine⟨w1,w2,w3,w5,G',b7 (eh (e:=⇑(.ref G.length)) (n:=(cP b).length) (Z1:=eK p v1 v2 v3 ↑(bI b) v5) (G1:=G1) (xs:=aq (cP b)) (av (av (a:=[⇑(bI b)]) rfl (cB (xs:=[.im (bI b)]) rfl rfl (Hu hn))) (by rw [hG1];rfl)) rfl (by simp [sq,pk,hk]) (dO _)) e,x1.trans x',d'⟩
theorem y84{p:Pg}{bs:List (List Sm)}(hs:∀b∈bs,bU b/\aP b≤1000):∀(post pre:List (List Sm)) (v1 v2 v3 v4 v5:Option Vl) {G:List M},kI p G v1 v2 v3->bs=pre++post->∃v1' v2' v3' v4' v5' G',aV (a6 (.v (.ow (.lst (bs.map bI)))) bs.length) (aB 4) zu pre.length post.length (eK p v1 v2 v3 v4 v5) G=gz ((post.flatMap bg).find? p.bad) (eK p v1' v2' v3' v4' v5') G'/\bX G G'
 | [],pre,v1,v2,v3,v4,v5,G,d,_=>⟨v1,v2,v3,v4,v5,G,eR (by simp [a6,sq,pk]),bX.refl _⟩
 | b::post,pre,v1,v2,v3,v4,v5,G,d,hx=>by
  have ha:(a6 (.v (.ow (.lst (bs.map bI)))) bs.length).at_ pre.length (eK p v1 v2 v3 v4 v5) G=some (bI b):=by
   show (bs.map bI)[pre.length]?=_
   rw [hx];simp
  have hb:=hs b (by rw [hx];simp)
  obtain⟨w1,w2,w3,w5,G1,e1,x1,d1⟩:=y95 (v5:=v5) hb.1 hb.2 d
  rw [List.flatMap_cons,List.find?_append]
  cases hf:(bg b).find? p.bad with
  | some u =>
   rw [hf] at e1
   exact⟨w1,w2,w3,v4,w5,G1,eS (d:=bI b) ha rfl e1,x1⟩
  | none =>
   rw [hf] at e1
   obtain⟨z1,z2,z3,z4,z5,G',e',x'⟩:=y84 hs post (pre++[b]) w1 w2 w3 ↑(bI b) w5 d1 (by rw [hx];simp)
   refine⟨z1,z2,z3,z4,z5,G',?_,x1.trans x'⟩
   rw [Option.none_or,<- e',za,List.length_singleton]
   exact cV (d:=bI b) ha rfl e1 rfl
def y86(p:Pg):p.bds.flatMap bg=p.us:=by
 unfold Pg.bds Pg.us
 rw [List.flatMap_append,List.flatMap_singleton]
 congr 1
 induction p.defs with
 | nil=>rfl
 | cons q r ih=>rw [z16,List.flatMap_cons,ih,cj]
def Hx{f:Mo Ev}{g:GF}{Z Z1:De}{G G1:List M}{w n:Str}(h:f Z G=some (.v (jd w n),Z1,G1)):iP f g Z G=some (.rt (jd w n) G1):=by unfold iP;rw [h];rfl
def Hy{f:Mo Ev}{g:GF}{Z Z1 Z2:De}{G G1 G2:List M}{kvs:List (aI×I)}(h:f Z G=some (.v (.ow (.dic kvs)),Z1,G1))(k:g (.ow (.dic kvs)) Z1 G1=some (Z2,G2)):iP f g Z G=some (.nx Z2 G2):=by unfold iP;rw [h];dsimp only;rw [k]
abbrev xR:Option (Str×Str)->Vl
 | none=>.im (.bl true)
 | some u=>jd u.1 u.2
def Hz{p:Pg}{G:List M}(hp:p.Sh):∃G',zv [.im p.i] G=some (xR p.due,G')/\bX G G':=by
 have o0:=pW (G:=G) (xs:=p.pt 0) (by have:=hp.pt 0;lia)
 have o1:=pW (G:=G) (xs:=p.pt 1) (by have:=hp.pt 1;lia)
 have o2:=pW (G:=G) (xs:=p.pt 2) (by have:=hp.pt 2;lia)
 have y9f:∀{Z:De} {k:Nat},aa 0 Z G=some (⇑p.i,Z,G)->k<3->∀{v:Vl},j4 [.im (.tup ((p.pt k).map bD))] G=some (v,G)->bd (af (ah ak (aa 0) (ag (.int k))) ae) (ax 1 j4) Z G=some (.v v,Z,G):=λ{Z k} h hk {v} e =>
  av (av (aF h rfl (i0 hk)) rfl) (cB (xs:=[.im (.tup ((p.pt k).map bD))]) rfl rfl e)
 unfold Pg.due
 cases h0:cI [] (p.nm 0) with
 | some n =>
  have h0':cI [] ((p.pt 0).map (·.1))=some n:=h0
  rw [h0'] at o0
  exact⟨G,aJ rfl (b6 (Hx (y9f (k:=0) rfl (by decide) o0))),bX.refl _⟩
 | none =>
  have h0':cI [] ((p.pt 0).map (·.1))=none:=h0
  rw [h0'] at o0
  have s0:iP (bd (af (ah ak (aa 0) (ag (.int 0))) ae) (ax 1 j4)) (aB 1) (eK p none none none none none) G=some (.nx (eK p (some (.ow (.dic (kD (p.nm 0))))) none none none none) G):=Hy (y9f (k:=0) rfl (by decide) o0) rfl
  cases h1:cI [] (p.nm 1) with
  | some n =>
   have h1':cI [] ((p.pt 1).map (·.1))=some n:=h1
   rw [h1'] at o1
   exact⟨G,aJ rfl (aj s0 (b6 (Hx (y9f (k:=1) rfl (by decide) o1)))),bX.refl _⟩
  | none =>
   have h1':cI [] ((p.pt 1).map (·.1))=none:=h1
   rw [h1'] at o1
   have s1:iP (bd (af (ah ak (aa 0) (ag (.int 1))) ae) (ax 1 j4)) (aB 2) (eK p (some (.ow (.dic (kD (p.nm 0))))) none none none none) G=some (.nx (eK p (some (.ow (.dic (kD (p.nm 0))))) (some (.ow (.dic (kD (p.nm 1))))) none none none) G):=Hy (y9f (k:=1) rfl (by decide) o1) rfl
   cases h2:cI [] (p.nm 2) with
   | some n =>
    have h2':cI [] ((p.pt 2).map (·.1))=some n:=h2
    rw [h2'] at o2
    exact⟨G,aJ rfl (aj s0 (aj s1 (b6 (Hx (y9f (k:=2) rfl (by decide) o2))))),bX.refl _⟩
   | none =>
    have h2':cI [] ((p.pt 2).map (·.1))=none:=h2
    rw [h2'] at o2
    have s2:iP (bd (af (ah ak (aa 0) (ag (.int 2))) ae) (ax 1 j4)) (aB 3) (eK p (some (.ow (.dic (kD (p.nm 0))))) (some (.ow (.dic (kD (p.nm 1))))) none none none) G=some (.nx (eK p (some (.ow (.dic (kD (p.nm 0))))) (some (.ow (.dic (kD (p.nm 1))))) (some (.ow (.dic (kD (p.nm 2))))) none none) G):=Hy (y9f (k:=2) rfl (by decide) o2) rfl
    have hb:∀b∈p.bds,bU b/\aP b≤1000:=λb hm=>by
     unfold Pg.bds at hm
     rcases z13.mp hm with hm|hm
     ·obtain⟨q,hq,rfl⟩:=z39.mp hm
      have:aP q.2≤(p.defs.map λq=>aP q.2).sum:=pN (z39.mpr ⟨q,hq,rfl⟩)
      exact⟨(hp.ds q hq).1,by have:=hp.n1;lia⟩
     ·rw [z17.mp hm];exact⟨hp.bo.1,by have:=hp.n2;lia⟩
    obtain⟨w1,w2,w3,w4,w5,G',e,x⟩:=y84 hb p.bds [] (some (.ow (.dic (kD (p.nm 0))))) (some (.ow (.dic (kD (p.nm 1))))) (some (.ow (.dic (kD (p.nm 2))))) none none (G:=G) (.inl ⟨rfl,rfl,rfl⟩) rfl
    rw [y86] at e
    have ef:bB (bF (one (bd (af (aa 0) ae) (ax 1 wd))) aR) (aB 4) zu (eK p (some (.ow (.dic (kD (p.nm 0))))) (some (.ow (.dic (kD (p.nm 1))))) (some (.ow (.dic (kD (p.nm 2))))) none none) G=gz (p.us.find? p.bad) (eK p w1 w2 w3 w4 w5) G':=b7 (eh (e:=.v (.ow (.lst (p.bds.map bI)))) (n:=p.bds.length) (xs:=p.bds.map bI) (av (a:=[⇑p.i]) rfl (cB (xs:=[.im p.i]) rfl rfl (y8e hp))) rfl rfl (by simp)) e
    refine⟨G',?_,x⟩
    cases hf:p.us.find? p.bad with
    | some u =>
     rw [hf] at ef
     exact aJ rfl (aj s0 (aj s1 (aj s2 (b6 ef))))
    | none =>
     rw [hf] at ef
     exact aJ rfl (aj s0 (aj s1 (aj s2 (aj ef rfl))))
def mE{p:Pg}{G:List M}(hp:p.Sh):∃G',ja [.im p.i] G=some (.im (eT p.due),G')/\bX G G':=by
 obtain⟨G',e,x⟩:=Hz (G:=G) hp
 refine⟨G',?_,x⟩
 unfold ja
 rw [e]
 cases p.due with
 | none=>rfl
 | some u=>simp [xR,jd,eT]
end
section
abbrev dP{α:Type}:List (Str×α)->Nat->Str->List (Str×α)
 | [],_,_=>[]
 | x::r,0,nm=>(nm,x.2)::r
 | x::r,j+1,nm=>x::dP r j nm
theorem mF{α:Type}(nm:Str):∀(xs:List (Str×α)) (j:Nat),(dP xs j nm).map (·.2)=xs.map (·.2)
 | [],_=>rfl
 | _::_,0=>rfl
 | x::r,j+1=>by rw [dP,z16,z16,mF nm r j]
def pX{α:Type}(nm:Str)(xs:List (Str×α))(j:Nat):(dP xs j nm).length=xs.length:=by
 have:=congrArg List.length (mF nm xs j)
 simpa using this
theorem mG{α β:Type}(g:α->β)(nm:Str):∀(xs:List (Str×α)) (j:Nat),(dP xs j nm).map (λq=>(q.1,g q.2))=dP (xs.map λq=>(q.1,g q.2)) j nm
 | [],_=>rfl
 | _::_,0=>rfl
 | x::r,j+1=>by rw [dP,z16,z16,dP,mG g nm r j]
theorem xS{α:Type}(nm:Str):∀(xs:List (Str×α)) (j:Nat) (x:Str×α),xs[j]?=some x->dP xs j nm=xs.take j++(nm,x.2)::xs.drop (j+1)
 | [],_,_,h=>by simp at h
 | y::r,0,x,h=>by simp at h;subst h;rfl
 | y::r,j+1,x,h=>by
  rw [dP,xS nm r j x (by simpa using h)];rfl
abbrev Pg.y39e(p:Pg)(j:Nat)(nm:Str):Nat->Pg
 | 0=>⟨dP p.cells j nm,p.rows,p.defs,p.body⟩
 | 1=>⟨p.cells,dP p.rows j nm,p.defs,p.body⟩
 | _=>⟨p.cells,p.rows,dP p.defs j nm,p.body⟩
theorem Pg.Sh.y39e{p:Pg}(h:p.Sh)(j:Nat)(nm:Str):∀k,(p.y39e j nm k).Sh
 | 0=>⟨⟨by show (dP p.cells j nm).length≤24;rw [pX];exact h.c1.1,h.c1.2⟩,h.ds,h.bo,h.n1,h.n2⟩
 | 1=>⟨⟨h.c1.1,by show (dP p.rows j nm).length≤24;rw [pX];exact h.c1.2.1,h.c1.2.2⟩,h.ds,h.bo,h.n1,h.n2⟩
 | k+2=>by
  refine⟨⟨h.c1.1,h.c1.2.1,by show (dP p.defs j nm).length≤24;rw [pX];exact h.c1.2.2⟩,λq hq=>?_,h.bo,?_,h.n2⟩
  ·have hm:q.2∈(dP p.defs j nm).map (·.2):=z39.mpr ⟨q,hq,rfl⟩
   rw [mF] at hm
   obtain⟨q',hq',e⟩:=z39.mp hm
   have:=h.ds q' hq'
   rw [e] at this
   exact this
  ·show ((dP p.defs j nm).map λq=>aP q.2).sum≤294
   have e:((dP p.defs j nm).map λq=>aP q.2)=p.defs.map λq=>aP q.2:=by
    have:=congrArg (List.map aP) (mF nm p.defs j)
    rw [z38,z38] at this
    exact this
   rw [e];exact h.n1
def HA{p:Pg}{j:Nat}{nm:Str}{k:Nat}(hk:k<3):(p.y39e j nm k).pt k=dP (p.pt k) j nm:=by
 match k,hk with
 | 0,_=>exact mG (λz=>I.int z) nm p.cells j
 | 1,_=>exact mG (λz=>I.int z) nm p.rows j
 | 2,_=>exact mG (λz=>I.tup (aq z)) nm p.defs j
def HB{xs:List (Str×I)}{j:Nat}{x:Str×I}{nm:Str}(h:xs[j]?=some x):dy (xs.map bD) none (some (j:Int))++[bD (nm,x.2)]++dy (xs.map bD) (some ((j+1:Nat):Int)) none=(dP xs j nm).map bD:=by
 have hj:j<xs.length:=(z14.mp h).1
 rw [qe,zA (by rw [z12];lia),xS nm xs j x h]
 simp
def HC{p:Pg}{k j:Nat}{nm:Str}(hk:k<3){ps:List I}(hp:p.i=.tup ps):I.tup (dy ps none (some (k:Int))++[.tup ((dP (p.pt k) j nm).map bD)]++dy ps (some ((k+1:Nat):Int)) none)=(p.y39e j nm k).i:=by
 rw [Pg.i_pt] at hp
 cases hp
 rw [qe,zA (by show k+1≤4;lia),Pg.i_pt,<- HA hk]
 match k,hk with
 | 0,_=>rfl
 | 1,_=>rfl
 | 2,_=>rfl
end
section
variable {d l:Nat}
def DG.ext{G G':List M}(D:DG G d l)(e:bX G G'):DG G' d l:=by
 obtain⟨a,n,ms,D⟩:=D
 exact⟨a,n,ms,e.at_ D.dc,e.at_ D.lc,D.ne,D.a0,D.a1,D.n0,D.m0⟩
abbrev hU(d:Nat)(p:Pg)(k:Nat)(v3 v4 v5 v6 v7 v8:Option Vl):De:=[↑(.ref d),↑p.i,↑(.ref k),v3,v4,v5,v6,v7,v8]
def xT{xs:List I}{Z Z1:De}{G G1:List M}{fe:Mo Ev}(h:fe Z G=some (⇑(.tup xs),Z1,G1)):bd (af fe ae) aO Z G=some (⇑(.int xs.length),Z1,G1):=av (av h rfl) rfl
def yb2{xs ys:List I}{Z:De}{G:List M}(h:xs.length+ys.length≤1000):bu [⇑(.tup xs),⇑(.tup ys)] Z G=some (⇑(.tup (xs++ys)),Z,G):=by
 have:xs.length+ys.length≤1000000:=by lia
 simp [bu,bW,oM,bJ,jE,mY,this]
def xU{xs:List I}{j:Int}{Z:De}{G:List M}{fe fj:Mo Ev}(h:fe Z G=some (⇑(.tup xs),Z,G))(hj:fj Z G=some (⇑(.int j),Z,G)):a7 fe aZ (aW fj) Z G=some (⇑(.tup (dy xs none (some j))),Z,G) :=
 av h (av (m:=aZ) (a:=[]) rfl (av (m:=aW fj) (a:=[⇑(.int j)]) (av hj rfl) rfl))
def xV{xs:List I}{j:Int}{Z:De}{G:List M}{fe fj:Mo Ev}(h:fe Z G=some (⇑(.tup xs),Z,G))(hj:fj Z G=some (⇑(.int j),Z,G)):a7 fe (aW fj) aZ Z G=some (⇑(.tup (dy xs (some j) none)),Z,G) :=
 av h (av (m:=aW fj) (a:=[⇑(.int j)]) (av hj rfl) (av (m:=aZ) (a:=[]) rfl rfl))
def yb5{p:Pg}{k:Nat}{ns:List Str}{G:List M}(D:DG G d l)(hp:p.Sh)(hk:G[k]?=some (.lst (ns.map I.str)))(h0:0<ns.length)(h1:ns.length≤100):∃(p':Pg) (G':List M),zx [.im (.ref d),.im p.i,.im (.ref k)] G=some (.im p'.i,G')/\p'.Sh/\DG G' d l/\Mor d l G G':=by
 obtain⟨r1,G1,e1,a0,a1,D1,o1⟩:=bT (many:=(ns.length:Int)) D (by lia) (by lia)
 have hk0:k≠d/\k≠l/\True:=by
  obtain⟨a,n,ms,D⟩:=D
  refine⟨λz=>?_,λz=>?_,trivial⟩
  ·rw [z,D.dc] at hk;cases hk
  ·rw [z,D.lc] at hk
   cases ns with
   | nil=>simp at h0
   | cons y ys=>cases ms<;>simp at hk
 have hk1:G1[k]?=some (.lst (ns.map I.str)):=(o1.at_ k hk0.1 hk0.2.1).trans hk
 obtain⟨nm,en,_⟩:=j8 a0 a1
 have w2:=pP (G:=G1) (nm:=nm) (k:=-1) hp
 rw [w8 (by decide)] at w2
 obtain⟨G2,hG2⟩:∃G2:List M,G2=G1++[.lst [.int (-1-p.us.length)],.lst (p.us.map uI)]:=⟨_,rfl⟩
 rw [<- hG2] at w2
 have x2:bX G1 G2:=by rw [hG2];exact bX.app _ _
 have hf:G2[G1.length+1]?=some (.lst (p.us.map uI)):=by rw [hG2,z18 (by lia)];simp
 have D2:=D1.ext x2
 obtain⟨r3,G3,e3,b0,b1,D3,o3⟩:=bT (many:=6) D2 (by decide) (by decide)
 have m13:Mor d l G G3:=(o1.mor.trans x2.mor).trans o3.mor
 have hfd:G1.length+1≠d/\G1.length+1≠l:=by
  obtain⟨a,n,ms,D⟩:=D1
  have z1:=(z14.mp D.dc).1
  have z2:=(z14.mp D.lc).1
  lia
 have hf3:G3[G1.length+1]?=some (.lst (p.us.map uI)):=(o3.at_ _ hfd.1 hfd.2).trans hf
 obtain⟨f,hfe⟩:∃f,f=G1.length+1:=⟨_,rfl⟩
 rw [<- hfe] at w2 hf hf3 hfd
 have s1:aG (ah ak (aa 2) (bd (af (aa 0) (af (bd (af (aa 2) ae) aO) ae)) (ax 2 aS))) (aB 3) (hU d p k none none none none none none) G=some (.nx (hU d p k ↑(.str nm) none none none none none) G1):=by
  refine bC (x:=.im (.str nm)) (Z1:=hU d p k none none none none none none) (G1:=G1) (aF (x:=⇑(.ref k)) (y:=⇑(.int r1)) (Z1:=hU d p k none none none none none none) (G1:=G) rfl (av (a:=[⇑(.ref d),⇑(.int ns.length)]) (Z1:=hU d p k none none none none none none) (G1:=G) (av (a:=⇑(.ref d)) rfl (av (av (a:=⇑(.int ns.length)) (av (av (a:=⇑(.ref k)) rfl rfl) ?_) rfl) rfl)) (cB (xs:=[.im (.ref d),.im (.int ns.length)]) rfl rfl e1)) ?_) rfl
  ·simp [aO,sq,pk,hk]
  ·have hl:(ns.map I.str).length≤1000000:=by simp;lia
   generalize ns.map I.str=z at hk1 en hl
   simp [ak,bW,dX,sq,pk,hk1,en]
 have s2:aG (ah ak (bd (af (aa 1) (af (cY fB (ag (.int 1))) (af (aa 3) ae))) (ax 3 kF)) (ag (.int 1))) (aB 4) (hU d p k ↑(.str nm) none none none none none) G1=some (.nx (hU d p k ↑(.str nm) ↑(.ref f) none none none none) G2):=by
  refine bC (x:=.im (.ref f)) (Z1:=hU d p k ↑(.str nm) none none none none none) (G1:=G2) (aF (x:=⇑(.tup [p.i,.ref f])) (y:=⇑(.int 1)) (Z1:=hU d p k ↑(.str nm) none none none none none) (G1:=G2) (av (a:=[⇑p.i,⇑(.int (-1)),⇑(.str nm)]) rfl (cB (xs:=[.im p.i,.im (.int (-1)),.im (.str nm)]) rfl rfl w2)) rfl ?_) rfl
  simp [ak,bW,dX,sq,pk,eA]
 have s3:aG (bd (af (aa 0) (af (ag (.int 6)) ae)) (ax 2 aS)) (aB 5) (hU d p k ↑(.str nm) ↑(.ref f) none none none none) G2=some (.nx (hU d p k ↑(.str nm) ↑(.ref f) ↑(.int r3) none none none) G3) :=
  bC (x:=.im (.int r3)) (av (a:=[⇑(.ref d),⇑(.int 6)]) rfl (cB (xs:=[.im (.ref d),.im (.int 6)]) rfl rfl e3)) rfl
 obtain⟨C,hC⟩:∃C,C=hU d p k ↑(.str nm) ↑(.ref f) ↑(.int r3) none none none:=⟨_,rfl⟩
 rw [<- hC] at s3
 have c5:aa 5 C G3=some (⇑(.int r3),C,G3):=by rw [hC];rfl
 have c1:aa 1 C G3=some (⇑p.i,C,G3):=by rw [hC];rfl
 have aU:∃(p':Pg) (G':List M),ai (aE (ao (ah bP (bd (af (aa 4) ae) aO) (ag (.int 0)))) (aC (aa 1)) aM)
   (ai (aG (bd (af (bd (af (aa 0) (af (bd (af (aa 4) ae) aO) ae)) (ax 2 aS)) (af (bd (af (aa 0) (af (bd (af (aa 4) ae) aO) ae)) (ax 2 aS)) ae)) gW) (aB 8))
   (aC (ah ak (bd (af (aa 1) (af (aa 8) (af (aa 3) ae))) (ax 3 kF)) (ag (.int 0))))) C G3=some (.rt (.im p'.i) G')/\p'.Sh/\DG G' d l/\Mor d l G G':=by
  have lu:=hp.us
  have c4:∀{H:List M},aa 4 C H=some (⇑(.ref f),C,H):=by intro H;rw [hC];rfl
  have c0:∀{H:List M},aa 0 C H=some (⇑(.ref d),C,H):=by intro H;rw [hC];rfl
  have ln:∀{H:List M},H[f]?=some (.lst (p.us.map uI))->bd (af (aa 4) ae) aO C H=some (⇑(.int p.us.length),C,H):=λ{H} h=>by
   refine av (av c4 rfl) ?_
   simp [aO,sq,pk,h]
  have te:ao (ah bP (bd (af (aa 4) ae) aO) (ag (.int 0))) C G3=some (decide (p.us.length=0),C,G3):=by
   refine dA (aF (ln hf3) (y:=⇑(.int 0)) rfl ?_)
   by_cases hz:p.us.length=0
   ·rw [hz];rfl
   ·rw [decide_eq_false hz]
    have hz':¬ ((p.us.length:Int)=0):=by lia
    have hz2:((p.us.length:Int) == 0)=false:=beq_eq_false_iff_ne.mpr hz'
    simp [bP,m5,om,gU,i9,cS,bZ,hz2]
  by_cases hz:p.us.length=0
  ·rw [decide_eq_true hz] at te
   exact⟨p,G3,b6 (bS te (cF c1)),hp,D3,m13⟩
  ·rw [decide_eq_false hz] at te
   obtain⟨r4,G4,e4,q0,q1,D4,o4⟩:=bT (many:=(p.us.length:Int)) D3 (by lia) (by lia)
   have hf4:G4[f]?=some (.lst (p.us.map uI)):=(o4.at_ _ hfd.1 hfd.2).trans hf3
   obtain⟨r5,G5,e5,q2,q3,D5,o5⟩:=bT (many:=(p.us.length:Int)) D4 (by lia) (by lia)
   obtain⟨K,hK⟩:∃K:Int,K=if r5>r4 then r5 else r4:=⟨_,rfl⟩
   have w6:=pP (G:=G5) (nm:=nm) (k:=K) hp
   obtain⟨G6,hG6⟩:∃G6:List M,G6=G5++[.lst [.int (K-p.us.length)],.lst ((wP nm p K).us.map uI)]:=⟨_,rfl⟩
   rw [<- hG6] at w6
   have x6:bX G5 G6:=by rw [hG6];exact bX.app _ _
   obtain⟨C8,hC8⟩:∃C8,C8=hU d p k ↑(.str nm) ↑(.ref f) ↑(.int r3) none none ↑(.int K):=⟨_,rfl⟩
   have dr:∀{H H':List M} {r:Int},H[f]?=some (.lst (p.us.map uI))->aS [.im (.ref d),.im (.int p.us.length)] H=some (.im (.int r),H')->bd (af (aa 0) (af (bd (af (aa 4) ae) aO) ae)) (ax 2 aS) C H=some (⇑(.int r),C,H'):=λ{H H' r} h e =>
    av (av c0 (av (av (ln h) rfl) rfl)) (cB (xs:=[.im (.ref d),.im (.int p.us.length)]) rfl rfl e)
   refine⟨wP nm p K,G6,aj (aL te rfl) (aj (Z1:=C8) (G1:=G5) (bC (x:=.im (.int K)) (Z1:=C) (G1:=G5) (av (av (dr hf3 e4) (av (av (dr hf4 e5) rfl) rfl)) (by rw [hK];rfl)) (by rw [hC,hC8];rfl)) (cF (Z1:=C8) (aF (x:=⇑(.tup [(wP nm p K).i,.ref (G5.length+1)])) (y:=⇑(.int 0)) (Z1:=C8) (G1:=G6) (av (a:=[⇑p.i,⇑(.int K),⇑(.str nm)]) (by rw [hC8];rfl) (cB (xs:=[.im p.i,.im (.int K),.im (.str nm)]) rfl rfl w6)) rfl ?_))),hp.w nm K,D5.ext x6,((m13.trans o4.mor).trans o5.mor).trans x6.mor⟩
   simp [ak,bW,dX,sq,pk,dh]
 by_cases hr:r3<3
 ·obtain⟨m,hm⟩:=Int.eq_ofNat_of_zero_le b0
  have m3:m<3:=by lia
  have ep:ah ak (aa 1) (aa 5) C G3=some (⇑(.tup ((p.pt m).map bD)),C,G3):=aF c1 c5 (by rw [hm];exact i0 m3)
  have hl:=hp.pt m
  have t1:ao (ah eG (aa 5) (ag (.int 3))) C G3=some (true,C,G3):=dA (aF c5 (y:=⇑(.int 3)) rfl (by simp [eG,bJ,hr]))
  have t2:ao (ah gT (bd (af (ah ak (aa 1) (aa 5)) ae) aO) (ag (.int 0))) C G3=some (decide (0<(p.pt m).length),C,G3):=by
   refine dA (aF (xT ep) (y:=⇑(.int 0)) rfl ?_)
   rw [z12]
   simp [gT,bJ]
  by_cases hz:0<(p.pt m).length
  ·rw [decide_eq_true hz] at t2
   obtain⟨r4,G4,e4,q0,q1,D4,o4⟩:=bT (many:=((p.pt m).length:Int)) D3 (by lia) (by lia)
   obtain⟨j,hj⟩:=Int.eq_ofNat_of_zero_le q0
   have hj3:j<(p.pt m).length:=by lia
   obtain⟨x,hx⟩:∃x,(p.pt m)[j]?=some x:=⟨_,z1d hj3⟩
   obtain⟨C2,hC2⟩:∃C2,C2=hU d p k ↑(.str nm) ↑(.ref f) ↑(.int r3) ↑(.int r4) none none:=⟨_,rfl⟩
   have s4:aG (bd (af (aa 0) (af (bd (af (ah ak (aa 1) (aa 5)) ae) aO) ae)) (ax 2 aS)) (aB 6) C G3=some (.nx C2 G4):=by
    have la:=xT ep
    rw [z12] at la
    exact bC (x:=.im (.int r4)) (Z1:=C) (G1:=G4) (av (av (a:=⇑(.ref d)) (by rw [hC];rfl) (av (av la rfl) rfl)) (cB (xs:=[.im (.ref d),.im (.int (p.pt m).length)]) rfl rfl e4)) (by rw [hC,hC2];rfl)
   have f6:aa 6 C2 G4=some (⇑(.int j),C2,G4):=by rw [hC2,hj];rfl
   have f5:aa 5 C2 G4=some (⇑(.int m),C2,G4):=by rw [hC2,hm];rfl
   have f1:aa 1 C2 G4=some (⇑p.i,C2,G4):=by rw [hC2];rfl
   have f3:aa 3 C2 G4=some (⇑(.str nm),C2,G4):=by rw [hC2];rfl
   have fp:ah ak (aa 1) (aa 5) C2 G4=some (⇑(.tup ((p.pt m).map bD)),C2,G4):=aF f1 f5 (i0 m3)
   have fx:ah ak (ah ak (aa 1) (aa 5)) (aa 6) C2 G4=some (⇑(bD x),C2,G4):=by
    refine aF fp f6 ?_
    have h0:dg ((p.pt m).map bD) (j:Int)=some (bD x):=kX (by rw [List.getElem?_map,hx];rfl)
    generalize (p.pt m).map bD=z at h0
    simp [ak,bW,dX,sq,pk,h0]
   have fx1:ah ak (ah ak (ah ak (aa 1) (aa 5)) (aa 6)) (ag (.int 1)) C2 G4=some (⇑x.2,C2,G4):=aF fx (y:=⇑(.int 1)) rfl (by simp [bD,ak,bW,dX,sq,pk,eA])
   have fone:bd (af (bd (af (aa 3) (af (ah ak (ah ak (ah ak (aa 1) (aa 5)) (aa 6)) (ag (.int 1))) ae)) ay) ae) ay C2 G4=some (⇑(.tup [bD (nm,x.2)]),C2,G4):=av (av (av (av f3 (av (av fx1 rfl) rfl)) rfl) rfl) rfl
   have f6s:ah bu (aa 6) (ag (.int 1)) C2 G4=some (⇑(.int ((j+1:Nat):Int)),C2,G4):=aF f6 (y:=⇑(.int 1)) rfl rfl
   have f5s:ah bu (aa 5) (ag (.int 1)) C2 G4=some (⇑(.int ((m+1:Nat):Int)),C2,G4):=aF f5 (y:=⇑(.int 1)) rfl rfl
   have lmap:((p.pt m).map bD).length≤24:=by rw [z12];exact hl
   have lc1:(dy ((p.pt m).map bD) none (some (j:Int))).length≤24:=by rw [qe,z2d];lia
   have lc2:(dy ((p.pt m).map bD) (some ((j+1:Nat):Int)) none).length≤24:=by rw [zA (by rw [z12];lia),z2f];lia
   have fown:ah bu (ah bu (a7 (ah ak (aa 1) (aa 5)) aZ (aW (aa 6))) (bd (af (bd (af (aa 3) (af (ah ak (ah ak (ah ak (aa 1) (aa 5)) (aa 6)) (ag (.int 1))) ae)) ay) ae) ay)) (a7 (ah ak (aa 1) (aa 5)) (aW (ah bu (aa 6) (ag (.int 1)))) aZ) C2 G4=some (⇑(.tup ((dP (p.pt m) j nm).map bD)),C2,G4):=by
    rw [<- HB (nm:=nm) hx]
    exact aF (aF (xU fp f6) fone (yb2 (by rw [List.length_singleton];lia))) (xV fp f6s) (yb2 (by rw [za,List.length_singleton];lia))
   obtain⟨C3,hC3⟩:∃C3,C3=hU d p k ↑(.str nm) ↑(.ref f) ↑(.int r3) ↑(.int r4) ↑(.tup ((dP (p.pt m) j nm).map bD)) none:=⟨_,rfl⟩
   have g5:aa 5 C3 G4=some (⇑(.int m),C3,G4):=by rw [hC3,hm];rfl
   have g5s:ah bu (aa 5) (ag (.int 1)) C3 G4=some (⇑(.int ((m+1:Nat):Int)),C3,G4):=aF g5 (y:=⇑(.int 1)) rfl rfl
   have g7:bd (af (aa 7) ae) ay C3 G4=some (⇑(.tup [.tup ((dP (p.pt m) j nm).map bD)]),C3,G4):=by rw [hC3];rfl
   obtain⟨ps,hps⟩:∃ps,p.i=.tup ps/\ps.length=4:=⟨_,rfl,rfl⟩
   have g1:aa 1 C3 G4=some (⇑(.tup ps),C3,G4):=by rw [hC3,<- hps.1];rfl
   have lp1:(dy ps none (some (m:Int))).length≤4:=by rw [qe,z2d];lia
   have lp2:(dy ps (some ((m+1:Nat):Int)) none).length≤4:=by rw [zA (by lia),z2f];lia
   have fret:ah bu (ah bu (a7 (aa 1) aZ (aW (aa 5))) (bd (af (aa 7) ae) ay)) (a7 (aa 1) (aW (ah bu (aa 5) (ag (.int 1)))) aZ) C3 G4=some (⇑(p.y39e j nm m).i,C3,G4):=by
    rw [<- HC (j:=j) (nm:=nm) m3 hps.1]
    exact aF (aF (xU g1 g5) g7 (yb2 (by rw [List.length_singleton];lia))) (xV g1 g5s) (yb2 (by rw [za,List.length_singleton];lia))
   refine⟨p.y39e j nm m,G4,aJ rfl (aj s1 (aj s2 (aj s3 (b6 (bS (FG t1 t2) (aj s4 (aj (Z1:=C3) (G1:=G4) (bC fown (by rw [hC2,hC3];rfl)) (cF fret)))))))),hp.y39e j nm m,D4,m13.trans o4.mor⟩
  ·rw [decide_eq_false hz] at t2
   obtain⟨p',G',e,h1,h2,h3⟩:=aU
   exact⟨p',G',aJ rfl (aj s1 (aj s2 (aj s3 (aj (aL (FG t1 t2) rfl) e)))),h1,h2,h3⟩
 ·have t1:ao (ah eG (aa 5) (ag (.int 3))) C G3=some (false,C,G3):=dA (aF c5 (y:=⇑(.int 3)) rfl (by simp [eG,bJ,hr]))
  obtain⟨p',G',e,h1,h2,h3⟩:=aU
  exact⟨p',G',aJ rfl (aj s1 (aj s2 (aj s3 (aj (aL (y6c t1) rfl) e)))),h1,h2,h3⟩
end
section
theorem mH:∀(xs seen:List Str),(∀x∈xs,x∉seen)->xs.Nodup->cI seen xs=none
 | [],_,_,_=>rfl
 | x::xs,seen,h,hn=>by
  rw [cI,if_neg (h x List.mem_cons_self)]
  rw [List.nodup_cons] at hn
  refine mH xs (seen++[x]) (λy hy hm=>?_) hn.2
  rcases z13.mp hm with hm|hm
  ·exact h y (z23 _ hy) hm
  ·rw [z17.mp hm] at hy;exact hn.1 hy
def nm0(p:Pg):p.nm 0=p.cells.map (·.1):=by simp [Pg.nm,Pg.pt]
def nm1(p:Pg):p.nm 1=p.rows.map (·.1):=by simp [Pg.nm,Pg.pt]
def nm2(p:Pg):p.nm 2=p.defs.map (·.1):=by simp [Pg.nm,Pg.pt]
def y7f{p:Pg}{x:Str}(h0:x∈p.sc.cs):p.bad ("cell",x)=false:=by
 show (!decide (x∈p.nm 0))=false
 have h:x∈p.cells.map (·.1):=h0
 rw [nm0,decide_eq_true h];rfl
def y80{p:Pg}{x:Str}(h0:x∈p.sc.rs):p.bad ("at",x)=false:=by
 show (!decide (x∈p.nm 1))=false
 have h:x∈p.rows.map (·.1):=h0
 rw [nm1,decide_eq_true h];rfl
def xW{p:Pg}{x:Str}(h0:x∈p.sc.ds):p.bad ("call",x)=false:=by
 show (!decide (x∈p.nm 2))=false
 have h:x∈p.defs.map (·.1):=h0
 rw [nm2,decide_eq_true h];rfl
theorem gA{p:Pg}:∀t:Tm,t.ok p.sc.cs p.sc.rs->∀u∈t.us,p.bad u=false
 | .num _,_,u,h=>by rw [Tm.us] at h;cases h
 | .cell x,ho,u,h=>by rw [Tm.us] at h;rw [Tm.ok] at ho;rw [z17.mp h];exact y7f ho
 | .at_ r t,ho,u,h=>by
  rw [Tm.us] at h;rw [Tm.ok] at ho
  rcases z1e.mp h with rfl|h
  ·exact y80 ho.1
  ·exact gA t ho.2 u h
 | .op _ a b,ho,u,h=>by
  rw [Tm.us] at h;rw [Tm.ok] at ho
  rcases z13.mp h with h|h
  ·exact gA a ho.2.1 u h
  ·exact gA b ho.2.2 u h
mutual
theorem HD{p:Pg}:∀s:Sm,s.ok p.sc->∀u∈s.us,p.bad u=false
 | .set x t,ho,u,h=>by
  rw [Sm.us] at h;rw [Sm.ok] at ho
  rcases z1e.mp h with rfl|h
  ·exact y7f ho.1
  ·exact gA t ho.2.1 u h
 | .put x a b,ho,u,h=>by
  rw [Sm.us] at h;rw [Sm.ok] at ho
  rcases z1e.mp h with rfl|h
  ·exact y80 ho.1
  ·rcases z13.mp h with h|h
   ·exact gA a ho.2.1 u h
   ·exact gA b ho.2.2.1 u h
 | .call x,ho,u,h=>by rw [Sm.us] at h;rw [Sm.ok] at ho;rw [z17.mp h];exact xW ho
 | .wh t b,ho,u,h=>by
  rw [Sm.us] at h;rw [Sm.ok] at ho
  rcases z13.mp h with h|h
  ·exact gA t ho.1 u h
  ·exact i7 b ho.2.2 u h
 | .ite t b c,ho,u,h=>by
  rw [Sm.us] at h;rw [Sm.ok] at ho
  rcases z13.mp h with h|h
  ·exact gA t ho.1 u h
  ·rcases z13.mp h with h|h
   ·exact i7 b ho.2.2.1 u h
   ·exact i7 c ho.2.2.2 u h
theorem i7{p:Pg}:∀b:List Sm,aX p.sc b->∀u∈bg b,p.bad u=false
 | [],_,u,h=>by rw [bg] at h;cases h
 | s::b,ho,u,h=>by
  rw [bg] at h;rw [aX] at ho
  rcases z13.mp h with h|h
  ·exact HD s ho.1 u h
  ·exact i7 b ho.2 u h
end
theorem yf3{p:Pg}:∀q:List (Str×List Sm),(∀x∈q,aX p.sc x.2)->∀u∈cj q,p.bad u=false
 | [],_,u,h=>by rw [cj] at h;cases h
 | s::b,ho,u,h=>by
  rw [cj] at h
  rcases z13.mp h with h|h
  ·exact i7 s.2 (ho s List.mem_cons_self) u h
  ·exact yf3 b (λx hx=>ho x (z23 _ hx)) u h
theorem Pg.Ok.due{p:Pg}(h:p.Ok):p.due=none:=by
 have d0:cI [] (p.nm 0)=none:=mH _ _ (by simp) (by rw [nm0];exact h.nd)
 have d1:cI [] (p.nm 1)=none:=mH _ _ (by simp) (by rw [nm1];exact h.rn)
 have d2:cI [] (p.nm 2)=none:=mH _ _ (by simp) (by rw [nm2];exact h.dn)
 have hf:p.us.find? p.bad=none:=by
  rw [List.find?_eq_none]
  intro u hu hb
  unfold Pg.us at hu
  rcases z13.mp hu with hu|hu
  ·rw [yf3 p.defs (λx hx=>(h.ds x hx).1) u hu] at hb;cases hb
  ·rw [i7 p.body h.bo.1 u hu] at hb;cases hb
 unfold Pg.due
 rw [d0,d1,d2,hf];rfl
def mI{o:Option (Str×Str)}{Z:De}{G:List M}:lX [⇑(eT o),⇑(eT o)] Z G=some (⇑(.bl false),Z,G):=by
 cases o with
 | none=>rfl
 | some u=>simp [lX,m5,om,eT,gU,i9,cS,jH,m4,bZ]
abbrev fO(sc:I)(p:Pg)(v3 v4 v5 v6 v7:Option Vl):De:=[↑sc,↑(.ref 2),↑p.i,v3,v4,v5,v6,v7]
abbrev mJ(ns:List Str)(G:List M)(v:Option Vl):Prop:=v=↥(ns.map I.str)∨∃k,v=↑(.ref k)/\G[k]?=some (.lst (ns.map I.str))/\k≠2/\k≠1
def mJ.mor{ns:List Str}{G G':List M}{v:Option Vl}(h:mJ ns G v)(m:Mor 2 1 G G'):mJ ns G' v:=by
 rcases h with h|⟨k,h1,h2,h3,h4⟩
 ·exact .inl h
 ·exact .inr ⟨k,h1,(m.at_ k (z14.mp h2).1 h3 h4).trans h2,h3,h4⟩
def yb4{sc:I}{p o:Pg}{ns:List Str}{G:List M}{v3 v4 v6 v7:Option Vl}(D:DG G 2 1)(hn:mJ ns G v3)(h0:0<ns.length)(h1:ns.length≤100)(ho:o.Sh):∃(o':Pg) (v3':Option Vl) (G':List M),Fy (fO sc p v3 v4 ↑o.i v6 v7) G=some (.nx (fO sc p v3' v4 ↑o'.i v6 v7) G')/\o'.Sh/\DG G' 2 1/\mJ ns G' v3':=by
 obtain⟨k,G1,ea,D1,hk,k2,k1⟩:∃(k:Nat) (G1:List M),af (aY (aa 1)) (af (aa 5) (af (aY (aa 3)) ae)) (fO sc p v3 v4 ↑o.i v6 v7) G=some ([⇑(.ref 2),⇑o.i,⇑(.ref k)],fO sc p ↑(.ref k) v4 ↑o.i v6 v7,G1)/\DG G1 2 1/\G1[k]?=some (.lst (ns.map I.str))/\k≠2/\k≠1:=by
  rcases hn with rfl|⟨k,rfl,h2,h3,h4⟩
  ·have lt:=D.lt
   exact⟨G.length,G++[M.lst (ns.map I.str)],rfl,D.app _,by simp,by lia,by lia⟩
  ·exact⟨k,G,rfl,D,h2,h3,h4⟩
 obtain⟨o',G',e,h2,D',m⟩:=yb5 D1 ho hk h0 h1
 refine⟨o',↑(.ref k),G',bC (x:=.im o'.i) (av ea (cB (xs:=[.im (.ref 2),.im o.i,.im (.ref k)]) rfl rfl e)) rfl,h2,D',.inr ⟨k,rfl,(m.at_ k (z14.mp hk).1 k2 k1).trans hk,k2,k1⟩⟩
def HE{sc:I}{p:Pg}{ns:List Str}{G:List M}{v3 v4 v5 v6 v7:Option Vl}(D:DG G 2 1)(hn:mJ ns G v3)(h0:0<ns.length)(h1:ns.length≤100)(hp:p.Ok):∃(v3' v5' v6' v7':Option Vl) (G':List M),Fz (fO sc p v3 v4 v5 v6 v7) G=some (.nx (fO sc p v3' v4 v5' v6' v7') G')/\DG G' 2 1/\mJ ns G' v3':=by
 obtain⟨r1,G1,e1,p0,p1,D1,o1⟩:=bT (many:=3) D (by decide) (by decide)
 obtain⟨N,hN⟩:=Int.eq_ofNat_of_zero_le p0
 obtain⟨Z',G2,e2,o,w3,w6,ed,ho,D2,hn2⟩:=hI (w:=jb (N+1)) (g:=aB 6) (b:=Fy)
  (λi Z H=>∃(o:Pg) (w3 w6:Option Vl),Z=fO sc p w3 v4 ↑o.i w6 v7/\o.Sh/\DG H 2 1/\mJ ns H w3)
  (λi Z H hi zz=>by
   obtain⟨o,w3,w6,ed,ho,D,hn⟩:=zz
   subst ed
   obtain⟨o',w3',H2,e,ho',D',hn'⟩:=yb4 (sc:=sc) (p:=p) (v4:=v4) (v6:=↑(.int i)) (v7:=v7) D hn h0 h1 ho
   exact⟨.int i,fO sc p w3 v4 ↑o.i ↑(.int i) v7,H,_,H2,rfl,rfl,e,o',w3',_,rfl,ho',D',hn'⟩)
  (λ_ _ _=>rfl) (N+1) 0 (fO sc p v3 v4 ↑p.i v6 v7) G1 (by rw [j5];lia) ⟨p,v3,v6,rfl,hp.sh,D1,hn.mor o1.mor⟩
 subst ed
 obtain⟨G3,e3,x3⟩:=Hd (G:=G2) ho
 obtain⟨G4,e4,x4⟩:=mE (G:=G3) ho
 obtain⟨G5,e5,x5⟩:=mE (G:=G4) ho
 obtain⟨G6,e6,x6⟩:=mE (G:=G5) hp.sh
 rw [hp.due] at e6
 have x:bX G2 G6:=((x3.trans x4).trans x5).trans x6
 obtain⟨W,hW⟩:∃W,W=fO sc p w3 v4 ↑o.i w6 ↑(eT o.due):=⟨_,rfl⟩
 have t1:∀{H H':List M},ja [.im o.i] H=some (.im (eT o.due),H')->ao (ah lX (bd (af (aa 5) ae) (ax 1 ja)) (aa 7)) W H=some (false,W,H'):=λ{H H'} e=>by
  rw [hW]
  exact dA (aF (av (a:=[⇑o.i]) rfl (cB (xs:=[.im o.i]) rfl rfl e)) (y:=⇑(eT o.due)) rfl mI)
 have t3:ao (cY (kA false) (bd (af (aa 2) ae) (ax 1 ja))) W G5=some (false,W,G6):=by
  rw [hW]
  exact dA (pB (av (a:=[⇑p.i]) rfl (cB (xs:=[.im p.i]) rfl rfl e6)) rfl)
 refine⟨w3,_,_,_,G6,aj (Z1:=fO sc p v3 v4 ↑p.i v6 v7) (G1:=G) (bC (x:=.im p.i) rfl rfl) (aj (b7 (hG (n:=N+1) (j:=1+r1) (Z1:=fO sc p v3 v4 ↑p.i v6 v7) (G1:=G1) ?_ (by lia) (by lia)) e2) (aj (Z1:=W) (G1:=G3) (bC (x:=.im (eT o.due)) (av (a:=[⇑o.i]) rfl (cB (xs:=[.im o.i]) rfl rfl e3)) (by rw [hW];rfl)) (aL (wq (t1 e4) (wq (t1 e5) t3)) (by rw [hW];rfl)))),D2.ext x,hn2.mor x.mor⟩
 refine av (aF (x:=⇑(.int 1)) (y:=⇑(.int r1)) rfl (av (a:=[⇑(.ref 2),⇑(.int 3)]) rfl (cB (xs:=[.im (.ref 2),.im (.int 3)]) rfl rfl e1)) rfl) rfl
def HF(ns:List Int)(h:ns.length≤63):∃G,FC [.im (.fro (ns.map I.int))] []=some (.im (.bl true),G):=by
 obtain⟨a,so,le,e0,a0,a1,hm⟩:=ye6 (ns:=ns) (b:=0) (G:=[]) h (by decide)
 obtain⟨sc,hsc⟩:∃sc:I,sc=.fro (ns.map I.int):=⟨_,rfl⟩
 rw [<- hsc] at e0
 obtain⟨G0,hG0⟩:∃G0:List M,G0=[M.lst (so.map I.int),M.lst (le.map I.int),M.dic (dZ a 0 1)]:=⟨_,rfl⟩
 have D0:DG G0 2 1:=by
  rw [hG0]
  exact⟨a,0,le,rfl,rfl,by decide,a0,a1,by decide,hm⟩
 obtain⟨p,G1,e1,hp,D1,_⟩:=Gn D0
 have hs:=hp.sh
 obtain⟨nms,hnm⟩:∃nms:List Str,nms=(p.pt 0++p.pt 1++p.pt 2).map (·.1)++[("zzzzzz" : Str),"yy"]:=⟨_,rfl⟩
 have l0:=hs.pt 0
 have l1:=hs.pt 1
 have l2:=hs.pt 2
 have ln:0<nms.length/\nms.length≤100:=by rw [hnm];simp only [za,z12,z11,List.length_nil];lia
 obtain⟨L2',hL2⟩:∃D,D=fO sc p none none none none none:=⟨_,rfl⟩
 have pi:∀{k:Nat},k<3->ah ak (aa 2) (ag (.int k)) L2' G1=some (⇑(.tup ((p.pt k).map bD)),L2',G1):=λ{k} hk=>aF (x:=⇑p.i) (y:=⇑(.int k)) (by rw [hL2];rfl) rfl (i0 hk)
 have cat:ah bu (ah bu (ah ak (aa 2) (ag (.int 0))) (ah ak (aa 2) (ag (.int 1)))) (ah ak (aa 2) (ag (.int 2))) L2' G1=some (⇑(.tup ((p.pt 0++p.pt 1++p.pt 2).map bD)),L2',G1):=by
  rw [z25,z25]
  exact aF (aF (pi (k:=0) (by decide)) (pi (k:=1) (by decide)) (yb2 (by rw [z12,z12];lia))) (pi (k:=2) (by decide)) (yb2 (by rw [za,z12,z12,z12];lia))
 have s3:aG (ah bu (dI (bF (one (ah bu (ah bu (ah ak (aa 2) (ag (.int 0))) (ah ak (aa 2) (ag (.int 1)))) (ah ak (aa 2) (ag (.int 2))))) aR) [] c1 a9 (ah ak (aa 0) (ag (.int 0)))) (bd (af (ag (.str "zzzzzz")) (af (ag (.str "yy")) ae)) aN)) (aB 3) L2' G1=some (.nx (fO sc p ↥(nms.map I.str) none none none none) G1):=by
  refine bC (x:=.ow (.lst (nms.map I.str))) (Z1:=L2') (G1:=G1) (aF (y:=.v (.ow (.lst [.str "zzzzzz",.str "yy"]))) (pQ cat (by simp only [za];lia)) rfl ?_) (by rw [hL2];rfl)
  have hl:(((p.pt 0++p.pt 1++p.pt 2).map (·.1)).map I.str).length+2≤1000000:=by simp only [za,z12];lia
  have er:nms.map I.str=((p.pt 0++p.pt 1++p.pt 2).map (·.1)).map I.str++[.str "zzzzzz",.str "yy"]:=by rw [hnm,z25];rfl
  rw [er]
  generalize ((p.pt 0++p.pt 1++p.pt 2).map (·.1)).map I.str=z at hl
  simp [bu,bW,oM,bJ,jE,mY,oK,pk,hl]
 obtain⟨G2,e2,x2⟩:=mE (G:=G1) hs
 rw [hp.due] at e2
 obtain⟨Z',G3,e3,w3,w4,w5,w6,w7,ed,D3,hn3⟩:=hI (w:=jb 3) (g:=aB 4) (b:=Fz)
  (λi Z H=>∃(w3 w4 w5 w6 w7:Option Vl),Z=fO sc p w3 w4 w5 w6 w7/\DG H 2 1/\mJ nms H w3)
  (λi Z H hi zz=>by
   obtain⟨w3,w4,w5,w6,w7,ed,D,hn⟩:=zz
   subst ed
   obtain⟨z3,z5,z6,z7,H2,e,D',hn'⟩:=HE (sc:=sc) (p:=p) (v4:=↑(.int i)) (v5:=w5) (v6:=w6) (v7:=w7) D hn ln.1 ln.2 hp
   exact⟨.int i,fO sc p w3 ↑(.int i) w5 w6 w7,H,_,H2,rfl,rfl,e,z3,_,z5,z6,z7,rfl,D',hn'⟩)
  (λ_ _ _=>rfl) 3 0 (fO sc p ↥(nms.map I.str) none none none none) G2 rfl ⟨_,_,_,_,_,rfl,D1.ext x2,.inl rfl⟩
 refine⟨G3,aJ rfl ?_⟩
 show ai _ _ [↑(.fro (ns.map I.int)),none,none,none,none,none,none,none] []=_
 rw [<- hsc]
 refine aj (Z1:=[↑sc,↑(.ref 2),none,none,none,none,none,none]) (G1:=G0) (bC (x:=.im (.ref 2)) (Z1:=[↑sc,none,none,none,none,none,none,none]) (G1:=G0) (av (av (a:=[⇑sc,⇑(.int 0)]) rfl (cB (xs:=[.im sc,.im (.int 0)]) rfl rfl e0)) (by rw [hG0];rfl)) rfl) ?_
 refine aj (Z1:=L2') (G1:=G1) (bC (x:=.im p.i) (Z1:=[↑sc,↑(.ref 2),none,none,none,none,none,none]) (G1:=G1) (av (a:=[⇑(.ref 2)]) rfl (cB (xs:=[.im (.ref 2)]) rfl rfl e1)) (by rw [hL2];rfl)) ?_
 refine aj s3 (aj (aL (Z1:=fO sc p ↥(nms.map I.str) none none none none) (G1:=G2) (dA (pB (av (a:=[⇑p.i]) rfl (cB (xs:=[.im p.i]) rfl rfl e2)) rfl)) rfl) (aj (b7 (hG (n:=3) (j:=3) (Z1:=fO sc p ↥(nms.map I.str) none none none none) (G1:=G2) rfl rfl (by decide)) e3) (by rw [ed];rfl)))
end
end Q
set_option maxHeartbeats 4000000
namespace Q
open PySem PySem.Spec PyProof.Rows L2 B
noncomputable abbrev hV:List Str:=["_law_deal_here","_law_scene","_law_left","_law_deep"]
noncomputable abbrev ir:List Str:=["_law_deal_here","_law_many"]
noncomputable abbrev qg:List Str:=["_law_body_here","_law_left","_law_name","_law_found"]
noncomputable abbrev xX:List Str:=["_law_term_here","_law_left","_law_name","_law_found"]
noncomputable abbrev qh:List Str:=["_law_deal_here","_law_scene","_law_room"]
noncomputable abbrev zI:List Str:=["_law_sort","_law_own","_law_left","_law_name","_law_found"]
noncomputable abbrev zJ:List Str:=["_law_one","_law_left","_law_name","_law_found"]
noncomputable abbrev zK:List Str:=["_law_program_here","_law_k","_law_name"]
noncomputable abbrev HG:List Str:=["_law_deal_here","_law_program_here","_law_names_here"]
noncomputable abbrev hZ:List Str:=["_law_deal_here"]
noncomputable abbrev pY:List Str:=["statement","cells","rows","defs"]
structure Tx(K:W.Frag)(mg:Str->Option Value)(κ:Str->Addr):Prop where
 b_int:mg "int" = none
 b_len:mg "len" = none
 b_list:mg "list" = none
 b_max:mg "max" = none
 b_range:mg "range" = none
 y7e:mg "reversed" = none
 b_tuple:mg "tuple" = none
local macro_rules | `(tactic| solve_by_elim [$s:term,$h:term,$e:term])=>do
 let f(w:String):Lean.MacroM (Lean.TSyntax `tactic):=let q:=w.splitOn ",";let i(n:Nat):=Lean.mkIdent q[n]!.toName;match q[0]! with
 |"a"=>`(tactic|refine $(i 1) ?_ ?_)
 |"b"=>`(tactic|exact t8 _)
 |"c"=>`(tactic|exact $(i 1))
 |"d"=>`(tactic|refine $(i 1) $h ?_ ?_)
 |"e"=>`(tactic|refine Ej $e (rm $h) ?_)
 |"f"=>`(tactic|refine $(i 1) ?_)
 |"g"=>`(tactic|refine $(i 1) ($s).nd ?_)
 |"h"=>`(tactic|refine $(i 1) ?_ ?_ ?_)
 |"i"=>`(tactic|refine iI ($(i 1) $h) $(i 2) ?_ ?_)
 |"j"=>`(tactic|refine $(i 1) $h $e ?_)
 |"k"=>`(tactic|exact CT ($s).nd)
 |"l"=>`(tactic|refine $(i 1) (EA (osc:=oY $s) (N:=EB $s) rfl rfl (by decide +kernel)) ?_ (λ_=>?_) (λ_=>?_))
 |"m"=>`(tactic|refine t_w ($(i 1) ?_ ?_))
 |"n"=>`(tactic|refine u5 $h ?_ ?_ ?_)
 |"o"=>`(tactic|refine Em $e ?_)
 |"p"=>`(tactic|refine Ep (EA (osc:=oY $s) (N:=EB $s) rfl rfl (by decide +kernel)) ?_ (λ_=>?_) (λ_=>?_) ($s).nd)
 |"q"=>`(tactic|refine vd $h ?_)
 |_=>`(tactic|refine DN $e $e ?_)
 let mut t←`(tactic|fail)
 for w in ("a,y5d b c,ud c,t9 a,CO d,Dz c,ub e f,CN g,ve f,ur f,ue h,CQ c,CM i,uv,uw d,Dr f,uf f,vh j,uW h,uu f,CP f,DP k h,uY c,DO c,vm i,uB,uC i,ux,uy h,ydb i,uz,uA l,Eo f,CH m,uh n d,Dt d,Du o d,DZ j,DK g,g_r c,CD i,C7,C9 f,uZ p c,vc q f,Eb a,CS d,uU c,ua f,uF j,DM j,Ey f,ug m,uk d,DD d,Ea c,CU f,vi f,uq d,Ds i,uD,uE d,Dv f,vn r d,Ez d,DB c,Eh j,DL d,Dq a,vf l,Es a,uk f,uc f,um".splitOn " ").reverse do
  let u←f w
  t←`(tactic|first|$u:tactic|$t:tactic)
 `(tactic|repeat' $t:tactic)
section
variable {P:Program}{w:World}{K:W.Frag}{mg:Str->Option Value}{base:Heap}{κ:Str->Addr}
def xY:y47 ["_law_script","_law_base","_law_some","_law_number","_law_one"] ["_law_script","_law_base"] (bK (top 20)):=bx
def HH{f:Addr}{fd:FuncData}(F:Fun K "_law_deal" "_law_deal" (top 20) f fd)(E:Tx K mg κ):y46 P w K mg base bV 1 f fd ["_law_script","_law_base"] (aT K κ 2 yZ) :=
 bR F xY rfl rfl λcdv A outer s H _ hr=>by cases E;solve_by_elim [xY,hr,by assumption]
def xZ:y47 ["_law_deal_here","_law_many","_law_number","_law_one","_law_other"] ir (bK (top 21)):=bx
def HI{f:Addr}{fd:FuncData}(F:Fun K "_law_draw" "_law_draw" (top 21) f fd)(E:Tx K mg κ):y46 P w K mg base bV 1 f fd ir (aT K κ 2 aS) :=
 bR F xZ rfl rfl λcdv A outer s H _ hr=>by cases E;solve_by_elim [xZ,hr,by assumption]
def x9:y47 ["_law_deal_here","_law_many","_law_letters","_law_core","_law_at","_law_turn","_law_found","_law_k","_law_own","_law_spare","_law_kept","_law_name"] ir (bK (top 22)):=bx
def HJ{f:Addr}{fd:FuncData}(F:Fun K "_law_names" "_law_names" (top 22) f fd)(E:Tx K mg κ)(y167:b8 P w K mg base "_law_draw" 1 ir (aT K κ 2 aS)):y46 P w K mg base bV 2 f fd ir (aT K κ 2 wc) :=
 bR F x9 rfl rfl λcdv A outer s H _ hr=>by cases E;solve_by_elim [x9,hr,by assumption]
def yg:y47 ["_law_deal_here","_law_form"] hZ (bK (top 23)):=bx
def HK{f:Addr}{fd:FuncData}(F:Fun K "_law_word" "_law_word" (top 23) f fd)(E:Tx K mg κ)(y167:b8 P w K mg base "_law_draw" 1 ir (aT K κ 2 aS)):y46 P w K mg base bV 2 f fd hZ (aT K κ 1 j0) :=
 bR F yg rfl rfl λcdv A outer s H _ hr=>by cases E;solve_by_elim [yg,hr,by assumption]
def yh:y47 ["_law_deal_here","_law_scene","_law_room","_law_form","_law_r","_law_half","_law_one"] qh (bK (top 24)):=bx
def HL{f:Addr}{fd:FuncData}{n:Nat}(F:Fun K "_law_term" "_law_term" (top 24) f fd)(E:Tx K mg κ)(y16e:b8 P w K mg base "_law_term" (3+n) qh (aT K κ 3 (eP n)))(y167:b8 P w K mg base "_law_draw" 1 ir (aT K κ 2 aS))(y173:b8 P w K mg base "_law_word" 2 hZ (aT K κ 1 j0)):y46 P w K mg base bV (3+n+1) f fd qh (aT K κ 3 (eP (n+1))):=by
 unfold eP
 exact bR F yh rfl rfl λcdv A outer s H _ hr=>by cases E;solve_by_elim [yh,hr,by assumption]
def yi:y47 ["_law_deal_here","_law_scene","_law_left","_law_deep","_law_x","_law_body_here","_law_down","_law_more","_law_up"] hV (bK (top 25)):=bx
def HM{f:Addr}{fd:FuncData}{n:Nat}(F:Fun K "_law_round" "_law_round" (top 25) f fd)(E:Tx K mg κ)(y167:b8 P w K mg base "_law_draw" 1 ir (aT K κ 2 aS))(y16e:b8 P w K mg base "_law_term" 15 qh (aT K κ 3 (eP 12)))(y163:b8 P w K mg base "_law_body" (16+n) hV (aT K κ 4 (eX n))):y46 P w K mg base bV (16+n+1) f fd hV (aT K κ 4 (kE (n+1))):=by
 unfold kE
 exact bR F yi rfl rfl λcdv A outer s H _ hr=>by cases E;solve_by_elim [yi,hr,by assumption]
def yj:y47 ["_law_deal_here","_law_scene","_law_left","_law_deep","_law_form","_law_one","_law_r","_law_x"] hV (bK (top 26)):=bx
def HN{f:Addr}{fd:FuncData}{n:Nat}(F:Fun K "_law_statement" "_law_statement" (top 26) f fd)(E:Tx K mg κ)(y167:b8 P w K mg base "_law_draw" 1 ir (aT K κ 2 aS))(y16e:b8 P w K mg base "_law_term" 15 qh (aT K κ 3 (eP 12)))(y16b:b8 P w K mg base "_law_round" (16+n) hV (aT K κ 4 (kE n)))(y163:b8 P w K mg base "_law_body" (16+n) hV (aT K κ 4 (eX n))):y46 P w K mg base bV (16+n+1) f fd hV (aT K κ 4 (iq (n+1))):=by
 unfold iq
 exact bR F yj rfl rfl λcdv A outer s H _ hr=>by cases E;solve_by_elim [yj,hr,by assumption]
def yk:y47 ["_law_deal_here","_law_scene","_law_left","_law_deep","_law_found","_law_k"] hV (bK (top 27)):=bx
def HP{f:Addr}{fd:FuncData}{n:Nat}(F:Fun K "_law_body" "_law_body" (top 27) f fd)(E:Tx K mg κ)(y167:b8 P w K mg base "_law_draw" 1 ir (aT K κ 2 aS))(y16c:b8 P w K mg base "_law_statement" (16+n) hV (aT K κ 4 (iq n))):y46 P w K mg base bV (16+n+1) f fd hV (aT K κ 4 (eX (n+1))):=by
 unfold eX
 exact bR F yk rfl rfl λcdv A outer s H _ hr=>by cases E;solve_by_elim [yk,hr,by assumption]
def ym:y47 ["_law_deal_here","_law_names_here","_law_shift","_law_cells","_law_rows","_law_defs","_law_scene","_law_left","_law_told_here","_law_f","_law_body_here","_law_begins"] hZ (bK (top 28)):=bx
def HQ{f:Addr}{fd:FuncData}(F:Fun K "_law_program" "_law_program" (top 28) f fd)(E:Tx K mg κ)(y167:b8 P w K mg base "_law_draw" 1 ir (aT K κ 2 aS))(y173:b8 P w K mg base "_law_word" 2 hZ (aT K κ 1 j0))(y16c:b8 P w K mg base "_law_statement" 28 hV (aT K κ 4 (iq 12)))(y163:b8 P w K mg base "_law_body" 28 hV (aT K κ 4 (eX 12)))(y169:b8 P w K mg base "_law_names" 2 ir (aT K κ 2 wc)):y46 P w K mg base bV 29 f fd hZ (aT K κ 1 zi) :=
 bR F ym rfl rfl λcdv A outer s H _ hr=>by cases E;solve_by_elim [ym,hr,by assumption]
def yn:y47 ["part","names","named"] ["part"] (bK (top 14)):=bx
def HR{f:Addr}{fd:FuncData}(F:Fun K "names_once" "names_once" (top 14) f fd)(E:Tx K mg κ)(y162:ClN P w K mg base "NoProgram" (κ "NoProgram") ["word","name"]):y46 P w K mg base (da P w base) 3 f fd ["part"] (eW K κ 1 j4) :=
 jZ (k:=2) F yn rfl rfl λcdv A outer s H _ hr hp hx hq=>by cases E;(repeat' first|refine jT ?_ ?_|refine jS ?_|refine jU ?_|refine jR ?_|refine jV ?_ ?_ ?_|refine jW hp ?_ ?_ ?_|refine dY (by assumption) hx (rm hr) ?_|refine jX (by assumption) hx (rm hr) ?_ ?_|refine jY (by assumption) hq (rm hr) ?_);all_goals solve_by_elim [yn,hr,by assumption]
def yo:y47 ["program"] ["program"] (bK (top 12)):=bx
def HS{f:Addr}{fd:FuncData}(F:Fun K "bodies_in" "bodies_in" (top 12) f fd)(E:Tx K mg κ):y46 P w K mg base bV 1 f fd ["program"] (aT K κ 1 wd) :=
 bR F yo rfl rfl λcdv A outer s H _ hr=>by cases E;solve_by_elim [yo,hr,by assumption]
def yp:y47 ["statement"] ["statement"] (bK (top 10)):=bx
def HU{f:Addr}{fd:FuncData}(F:Fun K "inner_bodies" "inner_bodies" (top 10) f fd)(E:Tx K mg κ):y46 P w K mg base bV 1 f fd ["statement"] (aT K κ 1 we) :=
 bR F yp rfl rfl λcdv A outer s H _ hr=>by cases E;solve_by_elim [yp,hr,by assumption]
def yq:y47 ["body","told","left","first","inner"] ["body"] (bK (top 11)):=bx
def HV{f:Addr}{fd:FuncData}(F:Fun K "statements_in" "statements_in" (top 11) f fd)(E:Tx K mg κ)(y175:b8 P w K mg base "inner_bodies" 1 ["statement"] (aT K κ 1 we)):y46 P w K mg base bV 2 f fd ["body"] (aT K κ 1 zl) :=
 bR F yq rfl rfl λcdv A outer s H _ hr=>by cases E;solve_by_elim [yq,hr,by assumption]
def yr:y47 ["statement"] ["statement"] (bK (top 9)):=bx
def HW{f:Addr}{fd:FuncData}(F:Fun K "own_terms" "own_terms" (top 9) f fd)(E:Tx K mg κ):y46 P w K mg base bV 1 f fd ["statement"] (aT K κ 1 wg) :=
 bR F yr rfl rfl λcdv A outer s H _ hr=>by cases E;solve_by_elim [yr,hr,by assumption]
def yt:y47 ["name","names"] ["name","names"] (bK (top 15)):=bx
def HX{f:Addr}{fd:FuncData}(F:Fun K "look_up" "look_up" (top 15) f fd)(E:Tx K mg κ)(y162:ClN P w K mg base "NoProgram" (κ "NoProgram") ["word","name"]):y46 P w K mg base (da P w base) 3 f fd ["name","names"] (eW K κ 2 iR) :=
 jZ (k:=2) F yt rfl rfl λcdv A outer s H _ hr hp hx hq=>by cases E;(repeat' first|refine jT ?_ ?_|refine jS ?_|refine jU ?_|refine jR ?_|refine jV ?_ ?_ ?_|refine jW hp ?_ ?_ ?_|refine dY (by assumption) hx (rm hr) ?_|refine jX (by assumption) hx (rm hr) ?_ ?_|refine jY (by assumption) hq (rm hr) ?_);all_goals solve_by_elim [yt,hr,by assumption]
def yu:y47 ["term"] ["term"] (bK (top 7)):=bx
def HY{f:Addr}{fd:FuncData}(F:Fun K "inner_terms" "inner_terms" (top 7) f fd)(E:Tx K mg κ):y46 P w K mg base bV 1 f fd ["term"] (aT K κ 1 zm) :=
 bR F yu rfl rfl λcdv A outer s H _ hr=>by cases E;solve_by_elim [yu,hr,by assumption]
def yw:y47 ["term","told","left","first"] ["term"] (bK (top 8)):=bx
def HZ{f:Addr}{fd:FuncData}(F:Fun K "terms_in" "terms_in" (top 8) f fd)(E:Tx K mg κ)(y176:b8 P w K mg base "inner_terms" 1 ["term"] (aT K κ 1 zm)):y46 P w K mg base bV 2 f fd ["term"] (aT K κ 1 zp) :=
 bR F yw rfl rfl λcdv A outer s H _ hr=>by cases E;solve_by_elim [yw,hr,by assumption]
def yx:y47 ["term","cells","rows","part"] ["term","cells","rows"] (bK (top 16)):=bx
def Ia{f:Addr}{fd:FuncData}(F:Fun K "look_at_term" "look_at_term" (top 16) f fd)(E:Tx K mg κ)(y17e:b8 P w K mg base "terms_in" 2 ["term"] (aT K κ 1 zp))(y17a:kC P w K mg base "look_up" 3 ["name","names"] (eW K κ 2 iR)):y46 P w K mg base (da P w base) 4 f fd ["term","cells","rows"] (eW K κ 3 zq) :=
 jZ (k:=3) F yx rfl rfl λcdv A outer s H _ hr hp hx hq=>by cases E;(repeat' first|refine jT ?_ ?_|refine jS ?_|refine jU ?_|refine jR ?_|refine jV ?_ ?_ ?_|refine jW hp ?_ ?_ ?_|refine dY (by assumption) hx (rm hr) ?_|refine jX (by assumption) hx (rm hr) ?_ ?_|refine jY (by assumption) hq (rm hr) ?_);all_goals solve_by_elim [yx,hr,by assumption]
def yy:y47 ["statement","cells","rows","defs","term"] pY (bK (top 17)):=bx
def Ib{f:Addr}{fd:FuncData}(F:Fun K "look_at_statement" "look_at_statement" (top 17) f fd)(E:Tx K mg κ)(y17c:b8 P w K mg base "own_terms" 1 ["statement"] (aT K κ 1 wg))(y179:kC P w K mg base "look_at_term" 4 ["term","cells","rows"] (eW K κ 3 zq))(y17a:kC P w K mg base "look_up" 3 ["name","names"] (eW K κ 2 iR)):y46 P w K mg base (da P w base) 5 f fd pY (eW K κ 4 zt) :=
 jZ (k:=4) F yy rfl rfl λcdv A outer s H _ hr hp hx hq=>by cases E;(repeat' first|refine jT ?_ ?_|refine jS ?_|refine jU ?_|refine jR ?_|refine jV ?_ ?_ ?_|refine jW hp ?_ ?_ ?_|refine dY (by assumption) hx (rm hr) ?_|refine jX (by assumption) hx (rm hr) ?_ ?_|refine jY (by assumption) hq (rm hr) ?_);all_goals solve_by_elim [yy,hr,by assumption]
def yz:y47 ["program","cells","rows","defs","body","statement"] ["program"] (bK (top 18)):=bx
def Ic{f:Addr}{fd:FuncData}(F:Fun K "look" "look" (top 18) f fd)(E:Tx K mg κ)(y174:b8 P w K mg base "bodies_in" 1 ["program"] (aT K κ 1 wd))(y17d:b8 P w K mg base "statements_in" 2 ["body"] (aT K κ 1 zl))(y178:kC P w K mg base "look_at_statement" 5 pY (eW K κ 4 zt))(y17b:kC P w K mg base "names_once" 3 ["part"] (eW K κ 1 j4)):y46 P w K mg base (da P w base) 6 f fd ["program"] (eW K κ 1 zv) :=
 jZ (k:=5) F yz rfl rfl λcdv A outer s H _ hr hp hx hq=>by cases E;(repeat' first|refine jT ?_ ?_|refine jS ?_|refine jU ?_|refine jR ?_|refine jV ?_ ?_ ?_|refine jW hp ?_ ?_ ?_|refine dY (by assumption) hx (rm hr) ?_|refine jX (by assumption) hx (rm hr) ?_ ?_|refine jY (by assumption) hq (rm hr) ?_);all_goals solve_by_elim [yz,hr,by assumption]
def yA:y47 ["_law_sort","_law_own","_law_left","_law_name","_law_found","_law_told_here"] zI (bK (top 30)):=bx
def Ie{f:Addr}{fd:FuncData}(F:Fun K "_law_use" "_law_use" (top 30) f fd)(E:Tx K mg κ):y46 P w K mg base bV 1 f fd zI (aT K κ 5 m9) :=
 bR F yA rfl rfl λcdv A outer s H _ hr=>by cases E;solve_by_elim [yA,hr,by assumption]
def yB:y47 ["_law_term_here","_law_left","_law_name","_law_found","_law_one","_law_told_here"] xX (bK (top 29)):=bx
def Ig{f:Addr}{fd:FuncData}{n:Nat}(F:Fun K "_law_term_with" "_law_term_with" (top 29) f fd)(E:Tx K mg κ)(y16f:b8 P w K mg base "_law_term_with" (2+n) xX (aT K κ 4 (g9 n)))(y171:b8 P w K mg base "_law_use" 1 zI (aT K κ 5 m9)):y46 P w K mg base bV (2+n+1) f fd xX (aT K κ 4 (g9 (n+1))):=by
 unfold g9
 exact bR F yB rfl rfl λcdv A outer s H _ hr=>by cases E;solve_by_elim [yB,hr,by assumption]
def yC:y47 ["_law_one","_law_left","_law_name","_law_found","_law_word_here","_law_told_here","_law_place","_law_body_here"] zJ (bK (top 31)):=bx
def Ih{f:Addr}{fd:FuncData}{n:Nat}(F:Fun K "_law_statement_with" "_law_statement_with" (top 31) f fd)(E:Tx K mg κ)(y164:b8 P w K mg base "_law_body_with" (23+n) qg (aT K κ 4 (fM n)))(y16f:b8 P w K mg base "_law_term_with" 22 xX (aT K κ 4 (g9 20)))(y171:b8 P w K mg base "_law_use" 1 zI (aT K κ 5 m9)):y46 P w K mg base bV (23+n+1) f fd zJ (aT K κ 4 (fL (n+1))):=by
 unfold fL
 exact bR F yC rfl rfl λcdv A outer s H _ hr=>by cases E;solve_by_elim [yC,hr,by assumption]
def yD:y47 qg qg (bK (top 32)):=bx
def Ii{f:Addr}{fd:FuncData}{n:Nat}(F:Fun K "_law_body_with" "_law_body_with" (top 32) f fd)(E:Tx K mg κ)(y16d:b8 P w K mg base "_law_statement_with" (23+n) zJ (aT K κ 4 (fL n))):y46 P w K mg base bV (23+n+1) f fd qg (aT K κ 4 (fM (n+1))):=by
 unfold fM
 exact bR F yD rfl rfl λcdv A outer s H _ hr=>by cases E;solve_by_elim [yD,hr,by assumption]
def yE:y47 ["_law_program_here","_law_k","_law_name","_law_cells","_law_rows","_law_defs","_law_body_here","_law_left","_law_found","_law_told_here"] zK (bK (top 33)):=bx
def Ij{f:Addr}{fd:FuncData}(F:Fun K "_law_with" "_law_with" (top 33) f fd)(E:Tx K mg κ)(y164:b8 P w K mg base "_law_body_with" 35 qg (aT K κ 4 (fM 12))):y46 P w K mg base bV 36 f fd zK (aT K κ 3 kF) :=
 bR F yE rfl rfl λcdv A outer s H _ hr=>by cases E;solve_by_elim [yE,hr,by assumption]
def yF:y47 ["_law_program_here","_law_part","_law_names_here","_law_at","_law_sorts","_law_sort","_law_name"] ["_law_program_here"] (bK (top 35)):=bx
def Ik{f:Addr}{fd:FuncData}(F:Fun K "_law_due" "_law_due" (top 35) f fd)(E:Tx K mg κ)(y172:b8 P w K mg base "_law_with" 36 zK (aT K κ 3 kF)):y46 P w K mg base bV 37 f fd ["_law_program_here"] (aT K κ 1 zw) :=
 bR F yF rfl rfl λcdv A outer s H _ hr=>by cases E;solve_by_elim [yF,hr,by assumption]
def yG:y47 ["_law_deal_here","_law_program_here","_law_names_here","_law_name","_law_uses","_law_part","_law_at","_law_own","_law_k"] HG (bK (top 34)):=bx
def Il{f:Addr}{fd:FuncData}(F:Fun K "_law_changed" "_law_changed" (top 34) f fd)(E:Tx K mg κ)(y172:b8 P w K mg base "_law_with" 36 zK (aT K κ 3 kF))(y167:b8 P w K mg base "_law_draw" 1 ir (aT K κ 2 aS)):y46 P w K mg base bV 37 f fd HG (aT K κ 3 zx) :=
 bR F yG rfl rfl λcdv A outer s H _ hr=>by cases E;solve_by_elim [yG,hr,by assumption]
def yH:y47 ["_law_script","_law_deal_here","_law_program_here","_law_names_here","_law_turn","_law_other","_law_change","_law_due_here"] ["_law_script"] (bK (top 37)):=bx
def Im{f:Addr}{fd:FuncData}(F:Fun K "law" "law" (top 37) f fd)(E:Tx K mg κ)(y170:b8 P w K mg base "_law_told" 7 ["_law_program_here"] (aT K κ 1 ja))(y168:b8 P w K mg base "_law_due" 37 ["_law_program_here"] (aT K κ 1 zw))(y167:b8 P w K mg base "_law_draw" 1 ir (aT K κ 2 aS))(y165:b8 P w K mg base "_law_changed" 37 HG (aT K κ 3 zx))(y16a:b8 P w K mg base "_law_program" 29 hZ (aT K κ 1 zi))(y166:b8 P w K mg base "_law_deal" 1 ["_law_script","_law_base"] (aT K κ 2 yZ)):y46 P w K mg base bV 38 f fd ["_law_script"] (aT K κ 1 FC) :=
 bR F yH rfl rfl λcdv A outer s H _ hr=>by cases E;solve_by_elim [yH,hr,by assumption]
end
end Q
namespace Q
open PySem PySem.Spec PyProof.Rows L2 B
abbrev mK(K:W.Frag):Sp:=λvs H Q _=>∃(a:Addr) (ns:List Int),vs=[.ref a]/\k9 H/\bL K H a (ns.map V.int)/\ns.length≤63/\∀H',Q (.bl true) H'
theorem yI{K:W.Frag}{ι:List Addr}{H:Hp}:∀ns:List Int,y56 K ι H (ns.map V.int) (ns.map I.int)
 | []=>.nil
 | n::ns=>.cons (.int n) (yI ns)
def Io{P:Program}{w:World}{K:W.Frag}{mg:Str->Option Value}{base:Heap}{κ:Str->Addr}{f:Addr}{fd:FuncData}(h:y46 P w K mg base bV 38 f fd ["_law_script"] (aT K κ 1 FC)):y46 P w K mg base bV 38 f fd ["_law_script"] (mK K):=by
 refine h.imp λvs H Q E q=>?_
 obtain⟨a,ns,rfl,ho,hs,hl,k⟩:=q
 have fr:nY K H a (ns.map V.int):=by
  rcases hs with (z|⟨o,z⟩)|z
  ·rcases ho a with e|⟨o,xs,e⟩<;>(rw [z] at e;cases e)
  ·exact .inl ⟨o,z⟩
  ·exact .inr (.inr z)
 obtain⟨G,e⟩:=HF ns hl
 refine⟨[],[.im (.fro (ns.map I.int))],[],_,G,rfl,⟨.cons (.im (.fro fr (yI ns))) .nil,.nil,λx=>?_⟩,e,λv ι' H' s st=>?_⟩
 ·have:own (List.map some [V.ref a]) (List.map some [Vl.im (.fro (ns.map I.int))])=[]:=by show bA _ _++[]=[];rw [fZ];rfl
  rw [this];simp
 ·have:=s.sl
  cases this with
  | cons q _=>cases q with
   | im r=>cases r;exact k _
def us1:∀(us:List Value),us.length=1->∃x0,us=[x0]
 | [x0],_=>⟨x0,rfl⟩
def Ip:∀(us:List Value),us.length=2->∃x0 x1,us=[x0,x1]
 | [x0,x1],_=>⟨x0,x1,rfl⟩
def Iq:∀(us:List Value),us.length=3->∃x0 x1 x2,us=[x0,x1,x2]
 | [x0,x1,x2],_=>⟨x0,x1,x2,rfl⟩
def us4:∀(us:List Value),us.length=4->∃x0 x1 x2 x3,us=[x0,x1,x2,x3]
 | [x0,x1,x2,x3],_=>⟨x0,x1,x2,x3,rfl⟩
def us5:∀(us:List Value),us.length=5->∃x0 x1 x2 x3 x4,us=[x0,x1,x2,x3,x4]
 | [x0,x1,x2,x3,x4],_=>⟨x0,x1,x2,x3,x4,rfl⟩
abbrev y3(x q:Str)(st:Stmt)(ps:List Str):Prop:=∀(kV doc pm:Value) (an:Option Addr) (cdv ct:Value) (us:List Value),us.length=ps.length->bindArgs (W.fnOf x q (p5 st) (ky st) (bK st) .none kV doc pm an cdv ct) ⟨us,[]⟩=pure (ps.zip us)
noncomputable abbrev NF(K:W.Frag)(x q:Str)(st:Stmt)(f:Addr)(d:FuncData):Prop:=W.nsIn K mainGlobals x=some (some (.ref f))/\Fun K x q st f d
section
variable {K:W.Frag}{mg:Str->Option Value}{h:Heap}{k:Nat}{ps:List Str}{sp:Sp}{f:Addr}{fd:FuncData}{C:Addr}{x q m:Str}{st:Stmt}(P:Program)(w:World)(base:Heap)
def bp(X:K.In h)(G:h.Ns mainGlobals mg)(A:NF K x q st f fd)(o:y46 P w K mg base bV k f fd ps sp)(hb:y3 x q st ps:=by intro _ _ _ _ _ _ us hl;first|(obtain⟨_,rfl⟩:=us1 us hl;rfl)|(obtain⟨_,_,rfl⟩:=Ip us hl;rfl)|(obtain⟨_,_,_,rfl⟩:=Iq us hl;rfl)|(obtain⟨_,_,_,_,rfl⟩:=us4 us hl;rfl)|(obtain⟨_,_,_,_,_,rfl⟩:=us5 us hl;rfl)):b8 P w K mg base x k ps sp:=⟨f,fd,W.mg_of X G A.1,A.2.kp,A.2.binds hb,o⟩
def kr(X:K.In h)(G:h.Ns mainGlobals mg)(A:NF K x q st f fd)(o:y46 P w K mg base (da P w base) k f fd ps sp)(hb:y3 x q st ps:=by intro _ _ _ _ _ _ us hl;first|(obtain⟨_,rfl⟩:=us1 us hl;rfl)|(obtain⟨_,_,rfl⟩:=Ip us hl;rfl)|(obtain⟨_,_,_,rfl⟩:=Iq us hl;rfl)|(obtain⟨_,_,_,_,rfl⟩:=us4 us hl;rfl)|(obtain⟨_,_,_,_,_,rfl⟩:=us5 us hl;rfl)):kC P w K mg base x k ps sp:=⟨f,fd,W.mg_of X G A.1,A.2.kp,A.2.binds hb,o⟩
end
noncomputable abbrev NM(K:W.Frag)(C:Addr)(x q:Str)(st:Stmt)(f:Addr)(d:FuncData):Prop:=W.findIn K (.ref C) x=some (some (.ref f))/\W.isFn K (.ref f)=true/\Fun K x q st f d
def pZ{K:W.Frag}{C:Addr}(h:jQ K C=true):eO K C=true:=by
 unfold jQ at h
 simp only [z24] at h
 exact h.1.1.1.1
def all_mk{l:W.OpenLaw}{w:World}{K:W.Frag}{h:Heap}{mg:Str->Option Value}{fa  f1 f2 f3 f4 f5 f6 f7 f8 f9 f10 f11 f12 f13 f14 f15 f16 f17 f18 f19 f20 f21 f22 f23 f24 f25 f26 f27 f28 f29 g2 C0 C1 C2 C3 C4:Addr}(X:K.In h)(G:h.Ns mainGlobals mg)(hfa:mg "law" = some (.ref fa))
  {d1 d2 d3 d4 d5 d6 d7 d8 d9 d10 d11 d12 d13 d14 d15 d16 d17 d18 d19 d20 d21 d22 d23 d24 d25 d26 d27 d28 d29 e2:FuncData}
  (A1:NF K "_law_deal" "_law_deal" (top 20) f1 d1)
  (A2:NF K "_law_draw" "_law_draw" (top 21) f2 d2)
  (A3:NF K "_law_names" "_law_names" (top 22) f3 d3)
  (A4:NF K "_law_word" "_law_word" (top 23) f4 d4)
  (A5:NF K "_law_term" "_law_term" (top 24) f5 d5)
  (A6:NF K "_law_round" "_law_round" (top 25) f6 d6)
  (A7:NF K "_law_statement" "_law_statement" (top 26) f7 d7)
  (A8:NF K "_law_body" "_law_body" (top 27) f8 d8)
  (A9:NF K "_law_program" "_law_program" (top 28) f9 d9)
  (A10:NF K "names_once" "names_once" (top 14) f10 d10)
  (A11:NF K "bodies_in" "bodies_in" (top 12) f11 d11)
  (A12:NF K "inner_bodies" "inner_bodies" (top 10) f12 d12)
  (A13:NF K "statements_in" "statements_in" (top 11) f13 d13)
  (A14:NF K "own_terms" "own_terms" (top 9) f14 d14)
  (A15:NF K "look_up" "look_up" (top 15) f15 d15)
  (A16:NF K "inner_terms" "inner_terms" (top 7) f16 d16)
  (A17:NF K "terms_in" "terms_in" (top 8) f17 d17)
  (A18:NF K "look_at_term" "look_at_term" (top 16) f18 d18)
  (A19:NF K "look_at_statement" "look_at_statement" (top 17) f19 d19)
  (A20:NF K "look" "look" (top 18) f20 d20)
  (A21:NF K "_law_told" "_law_told" (top 36) f21 d21)
  (A22:NF K "_law_use" "_law_use" (top 30) f22 d22)
  (A23:NF K "_law_term_with" "_law_term_with" (top 29) f23 d23)
  (A24:NF K "_law_statement_with" "_law_statement_with" (top 31) f24 d24)
  (A25:NF K "_law_body_with" "_law_body_with" (top 32) f25 d25)
  (A26:NF K "_law_with" "_law_with" (top 33) f26 d26)
  (A27:NF K "_law_due" "_law_due" (top 35) f27 d27)
  (A28:NF K "_law_changed" "_law_changed" (top 34) f28 d28)
  (A29:NF K "law" "law" (top 37) f29 d29)
  (z0:W.nsIn K mainGlobals "int" = some none)
  (z1:W.nsIn K mainGlobals "len" = some none)
  (z2:W.nsIn K mainGlobals "list" = some none)
  (z3:W.nsIn K mainGlobals "max" = some none)
  (z4:W.nsIn K mainGlobals "range" = some none)
  (z5:W.nsIn K mainGlobals "reversed" = some none)
  (z6:W.nsIn K mainGlobals "tuple" = some none)
  (z8:W.nsIn K mainGlobals "isinstance" = some none)
  (z9:W.nsIn K mainGlobals "ValueError" = some none)
  (a0:W.nsIn K mainGlobals "CourtError" = some (some (.ref C0)))
  (a1:W.nsIn K mainGlobals "NoText" = some (some (.ref C1)))
  (a2:W.nsIn K mainGlobals "NoProgram" = some (some (.ref C2)))
  (a3:W.nsIn K mainGlobals "TooLong" = some (some (.ref C3)))
  (a4:W.nsIn K mainGlobals "NoRecord" = some (some (.ref C4)))
  (M2:NM K C2 "__init__" "NoProgram.__init__" (fu (top 3) 0) g2 e2)
  (x0:eO K C0=true) (x2:jQ K C2=true) (i2:vQ K C2 g2=true) (k2:W.keepIn K (.ref C2)=true)
  (n2:W.findIn K (.ref C2) "word" = some none) (n2':W.findIn K (.ref C2) "name" = some none)
  (r0:W.readsIn K C0 (.type "type")=true) (r1:W.findCls K (.ref C0) (.type "type") "__init__" = some (.val (.builtin "ValueError.__init__"))) (r2:W.specialIn K (.ref C0) "__getattribute__" = some (some (.builtin "type.__getattribute__")))
  (s2:(W.clsIn K C2).map (λcd=>cd.mro.contains (.ref C0))=some true)
  (t2:W.kitOne K (.ref C2) (.ref C2)=some true) (tv:W.kitOne K (.ref C2) (.type "ValueError")=some true) (ta:W.kitAny K (.ref C2) [.ref C1,.ref C3,.ref C4]=some false)
  (c2:W.findIn K (.ref C2) "__class__" = some (some (.builtin "object.__class__"))) (o2:W.mroIn K C2 (.type "object")=some true)
  (p1:W.specialIn K (.builtin "object.__class__") "__get__" = some (some (.builtin "getset_descriptor.__get__"))) (p2:W.takesIn K (.builtin "object.__class__")=some true)
  : ∃fd:FuncData,(∀(s:Shared) (v:Value),BindsTo s fd ⟨[v],[]⟩ [("_law_script",v)])/\∀base:Heap,K.In base->base.Ns mainGlobals mg->y46 l.prog w K mg base bV 38 fa fd ["_law_script"] (mK K):=by
 have e:=hfa.symm.trans (W.mg_of X G A29.1)
 cases e
 obtain⟨κ,hκ⟩:∃κ:Str->Addr,κ "NoProgram" = C2:=⟨λc:Str=>C2,rfl⟩
 have E:Tx K mg κ:=⟨W.mg_none_of X G z0,W.mg_none_of X G z1,W.mg_none_of X G z2,W.mg_none_of X G z3,W.mg_none_of X G z4,W.mg_none_of X G z5,W.mg_none_of X G z6⟩
 obtain⟨_,_,kV,dc,pm,an,cd,ct,_,rfl,_,_⟩:=A29.2.ex
 refine⟨W.fnOf "law" "law" (p5 (top 37)) (ky (top 37)) (bK (top 37)) .none kV dc pm an cd ct,λs v=>.of_eq rfl,λbase _ _=>?_⟩
 have y166:=bp l.prog w base X G A1 (HH A1.2 E )
 have y167:=bp l.prog w base X G A2 (HI A2.2 E )
 have y169:=bp l.prog w base X G A3 (HJ A3.2 E y167)
 have y173:=bp l.prog w base X G A4 (HK A4.2 E y167)
 have y33f:∀n:Nat,y46 l.prog w K mg base bV (3+n) f5 _ qh (aT K κ 3 (eP n)):=λn=>by
  induction n with
  | zero=>exact (by unfold eP;exact g6)
  | succ n ih=>exact HL A5.2 E (bp l.prog w base X G A5 (ih)) y167 y173
 have y16e:=(bp l.prog w base X G A5 ((y33f 12)))
 have y33d:∀n:Nat,y46 l.prog w K mg base bV (16+n) f6 _ hV (aT K κ 4 (kE n))/\y46 l.prog w K mg base bV (16+n) f7 _ hV (aT K κ 4 (iq n))/\y46 l.prog w K mg base bV (16+n) f8 _ hV (aT K κ 4 (eX n)):=λn=>by
  induction n with
  | zero=>exact⟨by unfold kE;exact g6,by unfold iq;exact g6,by unfold eX;exact g6⟩
  | succ n ih=>exact⟨HM A6.2 E y167 y16e (bp l.prog w base X G A8 (ih.2.2)),HN A7.2 E y167 y16e (bp l.prog w base X G A6 (ih.1)) (bp l.prog w base X G A8 (ih.2.2)),HP A8.2 E y167 (bp l.prog w base X G A7 (ih.2.1))⟩
 have y16b:=(bp l.prog w base X G A6 ((y33d 12).1))
 have y16c:=(bp l.prog w base X G A7 ((y33d 12).2.1))
 have y163:=(bp l.prog w base X G A8 ((y33d 12).2.2))
 have y16a:=bp l.prog w base X G A9 (HQ A9.2 E y167 y173 y16c y163 y169)
 have y0:=W.mg_of X G a0
 have xi:y14 K C0 "ValueError.__init__":=⟨r0,r1,r2,by decide⟩
 have hCl:ClN l.prog w K mg base "NoProgram" (κ "NoProgram") ["word","name"]:=by
  rw [hκ]
  exact⟨⟨g2,e2,vR (pZ x2) i2,Ft M2.2.2 (vR (pZ x2) i2) (vU x2) n2 n2' xi y0,M2.2.2.binds (λ_ _ _ _ _ _ us hl=>by obtain⟨_,_,_,rfl⟩:=Iq us hl;rfl),W.mg_of X G a2,k2⟩,by decide⟩
 have hKt:Kt K mg C0 C1 (κ "NoProgram") C3 C4:=by
  rw [hκ]
  exact⟨E6 x0,y0,W.mg_of X G a1,W.mg_of X G a2,W.mg_of X G a3,W.mg_of X G a4,W.mg_none_of X G z8,W.mg_none_of X G z9,E7 (pZ x2) s2,vU x2,⟨c2,p1,p2,o2⟩,t2,tv,ta,n2,n2'⟩
 have y17b:=kr l.prog w base X G A10 (HR A10.2 E hCl)
 have y174:=bp l.prog w base X G A11 (HS A11.2 E )
 have y175:=bp l.prog w base X G A12 (HU A12.2 E )
 have y17d:=bp l.prog w base X G A13 (HV A13.2 E y175)
 have y17c:=bp l.prog w base X G A14 (HW A14.2 E )
 have y17a:=kr l.prog w base X G A15 (HX A15.2 E hCl)
 have y176:=bp l.prog w base X G A16 (HY A16.2 E )
 have y17e:=bp l.prog w base X G A17 (HZ A17.2 E y176)
 have y179:=kr l.prog w base X G A18 (Ia A18.2 E y17e y17a)
 have y178:=kr l.prog w base X G A19 (Ib A19.2 E y17c y179 y17a)
 have y177:=kr l.prog w base X G A20 (Ic A20.2 E y174 y17d y178 y17b)
 have y170:=bp l.prog w base X G A21 (FE A21.2 y177 hKt)
 have y171:=bp l.prog w base X G A22 (Ie A22.2 E )
 have y340:∀n:Nat,y46 l.prog w K mg base bV (2+n) f23 _ xX (aT K κ 4 (g9 n)):=λn=>by
  induction n with
  | zero=>exact (by unfold g9;exact g6)
  | succ n ih=>exact Ig A23.2 E (bp l.prog w base X G A23 (ih)) y171
 have y16f:=(bp l.prog w base X G A23 ((y340 20)))
 have y33e:∀n:Nat,y46 l.prog w K mg base bV (23+n) f24 _ zJ (aT K κ 4 (fL n))/\y46 l.prog w K mg base bV (23+n) f25 _ qg (aT K κ 4 (fM n)):=λn=>by
  induction n with
  | zero=>exact⟨by unfold fL;exact g6,by unfold fM;exact g6⟩
  | succ n ih=>exact⟨Ih A24.2 E (bp l.prog w base X G A25 (ih.2)) y16f y171,Ii A25.2 E (bp l.prog w base X G A24 (ih.1))⟩
 have y16d:=(bp l.prog w base X G A24 ((y33e 12).1))
 have y164:=(bp l.prog w base X G A25 ((y33e 12).2))
 have y172:=bp l.prog w base X G A26 (Ij A26.2 E y164)
 have y168:=bp l.prog w base X G A27 (Ik A27.2 E y172)
 have y165:=bp l.prog w base X G A28 (Il A28.2 E y172 y167)
 exact Io (κ:=κ) (Im A29.2 E y170 y168 y167 y165 y16a y166)
def walk{l:W.OpenLaw}{q:Program}{loose:List Str}{XP:(Str->Option Value)->Heap->Prop}{YP:World->Heap->Prop}{d:DefRec}{K:Params->W.Frag}(hn:l.most=some 63)(hdf:d.params.defaults=[])
  (hY:∀(w:World) (h:Heap),YP w h->(K w.params).In h)
  (F:∀(w:World) (mg:Str->Option Value) (fa:Addr) (h:Heap),(K w.params).In h->h.Ns mainGlobals mg->mg d.name=some (.ref fa) ->
   ∃fd:FuncData,(∀(s:Shared) (u:Value),BindsTo s fd ⟨[u],[]⟩ [("_law_script",u)])/\∀base:Heap,(K w.params).In base->base.Ns mainGlobals mg->y46 l.prog w (K w.params) mg base bV 38 fa fd ["_law_script"] (mK (K w.params))) :
  W.WalkO q loose XP YP l.row.toRowW d [] (λf vs=>PySem.call f vs) :=
 L2.y488 (n:=63) (k:=38) (x:="_law_script") (CX:=λ_=>bV) (sp:=λw=>mK (K w.params)) hn (by decide) hdf ⟨rfl,by decide,by decide,rfl⟩ hY F (λ_ _ a ns hl ho hS=>⟨a,ns,rfl,ho,hS,hl,λ_=>rfl⟩) λ_ _ _ _ _ z=>z
end Q
open PySem PySem.W PyProof.Rows
set_option maxRecDepth 100000 in
set_option maxHeartbeats 0 in
theorem PySem.Challenge.cw_stepcourt_k08_the_first_thing_amiss_holds : PySem.Challenge.rw_stepcourt_k08_the_first_thing_amiss.Holds := by
 refine zTop ?_
 k_fill
 refine Q.walk (l:=PySem.Challenge.rw_stepcourt_k08_the_first_thing_amiss) rfl rfl (λw h Y=>W.kIn_of Y) ?F
 case F =>
  intro w mg fa h KX G hmg
  refine' Q.all_mk KX G hmg ..
  all_goals first|k_is|(refine' ⟨?a,L2.y151 ?l ?c ?k⟩;case a|l|c|k=>k_is)|(refine' ⟨?a,?i,L2.y151 ?l ?c ?k⟩;case a|i|l|c|k=>k_is)|kernel_rfl|(repeat (first|exact .nil|refine .cons ⟨_,rfl⟩ ?_))
