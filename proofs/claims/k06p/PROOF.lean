import PyProof.Rows.All
import Wide.All
import OpenK.AllK
import Wide.FinOn
import Lean
import PyProof.EqAt
import PyProof.EqKinds
import PyProof.TupleCall
import PyProof.CompFree
import PyProof.NeKinds
import PyProof.Rows.RegReprOcc
import PyProof.Rows.StrCase
import PyProof.ZipIter
import PyProof.EnumMake
import PyProof.Draws
import PyProof.Rows.Range3
import KE.BitLaws
import KE.KDictOf
import PyProof.AttrMissSeq
import PyProof.DictUpdate
import PyProof.Rows.Tup
import PyProof.ReprRoads
import PyProof.DictRoadsH
import PyProof.DictItemsLoops
import PyProof.DictWalks
import PyProof.Rows.SetFrom
import PyProof.ListRange
import KE.KDictSum
import PyProof.StrCalls6
import PyProof.JoinWalk
import PyProof.FString
import PyProof.ToksMono
import PyProof.StrLawsReplace
import PyProof.StrLawsIdx
import KE.KIntText
import PyProof.Rows.StrClose
import PySem.Challenge.RW_stepcourt_k06_terms_amiss
import Open.Row
import PyProof.ReprLen
import PyProof.Rows.ReprShort
import PyProof.TupleOfGen
import PyProof.ExcArgsOwn
import OpenK.KWalk
import OpenK.KMake
import PyProof.StationsW
import PyProof.RulesTry
import PyProof.RulesAs
import PyProof.NsDelKeeps
import PyProof.InstStoreFacts
import PyProof.InstSpecial
import PyProof.ExcClsAt
import PyProof.ExcClass3
import PyProof.ExcBaseAll.ValueError
import PyProof.Commute
import KE.KIsAll
set_option Elab.async false
set_option bootstrap.genMatcherCode false
set_option genSizeOf false
set_option compiler.extract_closed false
set_option genSizeOfSpec false
set_option linter.all false
set_option maxRecDepth 100000
section
open PySem PySem.W PyProof.Rows
set_option maxRecDepth 100000
set_option maxHeartbeats 0
namespace PySem.W.Fast
theorem tw13177264999580132443:True:=⟨⟩
theorem tw6534594354275883746:True:=⟨⟩
theorem tw4913874936065851510:True:=⟨⟩
theorem tw5908203164812000839:True:=⟨⟩
theorem tw16068955443859570927:True:=⟨⟩
theorem tw9415308220270928425:True:=⟨⟩
theorem tw14933488172559756720:True:=⟨⟩
theorem tw374962790574870972:True:=⟨⟩
theorem tw6855672846192040383:True:=⟨⟩
theorem tw7941569867028408369:True:=⟨⟩
theorem tw16558977385265573253:True:=⟨⟩
theorem tw1007581133633915667:True:=⟨⟩
theorem tw7554348544075112114:True:=⟨⟩
theorem tw18173385211141234565:True:=⟨⟩
theorem tw17231923527163759558:True:=⟨⟩
theorem tw8528361429512264859:True:=⟨⟩
theorem tw8670608421478083693:True:=⟨⟩
theorem tw3902621705068835048:True:=⟨⟩
theorem tw2482824596535531279:True:=⟨⟩
theorem tw15343418795547876921:True:=⟨⟩
theorem tw5916890518424925820:True:=⟨⟩
theorem tw499174466542598454:True:=⟨⟩
theorem tw6660933380177169294:True:=⟨⟩
theorem tw13258880383493924464:True:=⟨⟩
theorem tw3045374356822331967:True:=⟨⟩
theorem tw3217481506767882710:True:=⟨⟩
theorem tw2132911524444663084:True:=⟨⟩
theorem tw9212744562938848036:True:=⟨⟩
theorem tw8822291404628921983:True:=⟨⟩
theorem tw4540262300159656403:True:=⟨⟩
theorem tw10114967431709580080:True:=⟨⟩
theorem tw551203457679776727:True:=⟨⟩
theorem tw6551363156116692338:True:=⟨⟩
theorem tw17332023533657689576:True:=⟨⟩
theorem tw15038055886059324390:True:=⟨⟩
theorem tw4748311948960376708:True:=⟨⟩
theorem tw2345989680370554778:True:=⟨⟩
theorem tw395463464014435128:True:=⟨⟩
theorem tw17834537030868322572:True:=⟨⟩
theorem tw2698669867553343545:True:=⟨⟩
theorem tw4487168863061647788:True:=⟨⟩
theorem tw11608891772773196537:True:=⟨⟩
theorem tw5930245222610895174:True:=⟨⟩
theorem tw9777197614727144175:True:=⟨⟩
theorem tw10026598801480460247:True:=⟨⟩
theorem tw4083259587868711730:True:=⟨⟩
theorem tw7958174498357925821:True:=⟨⟩
theorem tw16652376392405926066:True:=⟨⟩
theorem tw7683413027814144735:True:=⟨⟩
theorem tw7639325268644787431:True:=⟨⟩
theorem tw3686326400322533805:True:=⟨⟩
theorem tw9103119445637474416:True:=⟨⟩
theorem tw6781339924441661149:True:=⟨⟩
theorem tw1743902035226782177:True:=⟨⟩
theorem tw15269304584810771261:True:=⟨⟩
theorem tw4459180487298125006:True:=⟨⟩
theorem tw10856386818348469708:True:=⟨⟩
theorem tw2538974221073068460:True:=⟨⟩
theorem tw11501091500179542797:True:=⟨⟩
theorem tw17759830326070839462:True:=⟨⟩
theorem tw5564154564620580589:True:=⟨⟩
theorem tw2455218816632103904:True:=⟨⟩
theorem tw2254231063549161415:True:=⟨⟩
theorem tw975873186138195956:True:=⟨⟩
theorem tw7838914647235854133:True:=⟨⟩
theorem tw566162298247842470:True:=⟨⟩
theorem tw16825475289437841240:True:=⟨⟩
theorem tw14778731080828919925:True:=⟨⟩
theorem tw5012060888362952607:True:=⟨⟩
theorem tw6045546531790125783:True:=⟨⟩
theorem tw7458513109189904703:True:=⟨⟩
theorem tw782719872413053650:True:=⟨⟩
theorem tw2056797189884044599:True:=⟨⟩
theorem tw12453948998007411332:True:=⟨⟩
theorem tw10199795184589486878:True:=⟨⟩
theorem tw13469112012805276001:True:=⟨⟩
theorem tw6798638055086111401:True:=⟨⟩
theorem tw9747514990888706239:True:=⟨⟩
theorem tw15881245120926960385:True:=⟨⟩
theorem tw908880305357758839:True:=⟨⟩
theorem tw15923931946982703250:True:=⟨⟩
theorem tw11952897088091570907:True:=⟨⟩
theorem tw3892227632994185491:True:=⟨⟩
theorem tw17236398780377943071:True:=⟨⟩
theorem tw7684820258534166126:True:=⟨⟩
theorem tw9449399280975678354:True:=⟨⟩
theorem tw15891456575636753283:True:=⟨⟩
theorem tw13326483449774466270:True:=⟨⟩
theorem tw11418382477747728562:True:=⟨⟩
theorem tw17796075267231131897:True:=⟨⟩
theorem tw3935902670650191560:True:=⟨⟩
theorem tw1249609262983394801:True:=⟨⟩
theorem tw13587052777431275356:True:=⟨⟩
theorem tw7994059539151220853:True:=⟨⟩
theorem tw9246042815031778251:True:=⟨⟩
theorem tw8709042462198708382:True:=⟨⟩
theorem tw9798698045082436836:True:=⟨⟩
theorem tw8083423483217949915:True:=⟨⟩
theorem tw11954902030139364750:True:=⟨⟩
theorem tw1815439330302545554:True:=⟨⟩
theorem tw4078788042237280789:True:=⟨⟩
theorem tw2615588686933544735:True:=⟨⟩
theorem tw5585903270148390919:True:=⟨⟩
theorem tw3123432008305972677:True:=⟨⟩
theorem tw15040804366717906955:True:=⟨⟩
theorem tw3583079532035691742:True:=⟨⟩
theorem tw11161512577181806471:True:=⟨⟩
theorem tw12892738712274723240:True:=⟨⟩
theorem tw2790703193821817401:True:=⟨⟩
theorem tw13584122695382047704:True:=⟨⟩
theorem tw15752887362515140783:True:=⟨⟩
theorem tw13369165591201428539:True:=⟨⟩
theorem tw2768536379164225707:True:=⟨⟩
theorem tw4268020307254116079:True:=⟨⟩
theorem tw769526284009388806:True:=⟨⟩
theorem tw5288445787047881752:True:=⟨⟩
theorem tw4926728083454191043:True:=⟨⟩
theorem tw1919947383599481878:True:=⟨⟩
theorem tw13588013580689071181:True:=⟨⟩
theorem tw1205011893391287390:True:=⟨⟩
theorem tw17534516426610419080:True:=⟨⟩
theorem tw16865912158236578429:True:=⟨⟩
theorem tw7516292785299593844:True:=⟨⟩
theorem tw13960732369908283787:True:=⟨⟩
theorem tw15369637706217280882:True:=⟨⟩
theorem tw2276500545618996696:True:=⟨⟩
theorem tw6147404680042301813:True:=⟨⟩
theorem tw15005101350805175016:True:=⟨⟩
theorem tw17407206402984147398:True:=⟨⟩
theorem tw14686953020224433943:True:=⟨⟩
theorem tw11439000539385870640:True:=⟨⟩
theorem tw7818694283519239022:True:=⟨⟩
end PySem.W.Fast
open_top zTop for PySem.Challenge.rw_stepcourt_k06_terms_amiss
end
local macro_rules
|`(command|abbrev $i:declId $s:optDeclSig:=$v)=>`(command|noncomputable def $i:declId $s:optDeclSig:=$v)
|`(command|abbrev $i:declId $s:optDeclSig $a:matchAlts)=>`(command|noncomputable def $i:declId $s:optDeclSig $a:matchAlts)
noncomputable abbrev za:=@PySem.wpAny_bind
noncomputable abbrev zc:=@PySem.Heap.get?_push_of_some
noncomputable abbrev zd:=@List.length_append
noncomputable abbrev ze:=@List.size_toArray
noncomputable abbrev zf:=@PySem.wpAny_pure
noncomputable abbrev z10:=@Nat.le_refl
noncomputable abbrev z11:=@List.append_nil
noncomputable abbrev z12:=@List.length_map
noncomputable abbrev z13:=@Bool.false_ne_true
noncomputable abbrev z14:=@PySem.Heap.lt_size
noncomputable abbrev z15:=@List.length_cons
noncomputable abbrev z16:=@List.getElem?_eq_getElem
noncomputable abbrev z17:=@List.count_append
noncomputable abbrev z18:=@List.map_cons
noncomputable abbrev z19:=@List.getElem?_eq_some_iff
noncomputable abbrev z1a:=@Nat.le_trans
noncomputable abbrev z1b:=@Bool.and_eq_true
noncomputable abbrev z1c:=@Nat.lt_of_lt_of_le
noncomputable abbrev z1d:=@List.mem_cons_of_mem
noncomputable abbrev z1e:=@List.mem_append
noncomputable abbrev z1f:=@List.mem_cons
noncomputable abbrev z20:=@Option.some.inj
noncomputable abbrev z21:=@PySem.Heap.get?_push_size
noncomputable abbrev z22:=@List.mem_singleton
noncomputable abbrev z23:=@List.getElem?_append_right
noncomputable abbrev z24:=@List.mem_append_right
noncomputable abbrev z25:=@List.getElem?_append_left
noncomputable abbrev z26:=@List.getElem?_set_ne
noncomputable abbrev z27:=@Nat.ne_of_lt
noncomputable abbrev z28:=@List.map_append
noncomputable abbrev z29:=@List.length_set
noncomputable abbrev z2a:=@PySem.wpAny_newObj_type
noncomputable abbrev z2b:=@List.length_take
noncomputable abbrev z2c:=@List.length_reverse
noncomputable abbrev z2d:=@List.length_drop
noncomputable abbrev z2e:=@List.append_assoc
noncomputable abbrev z2f:=@List.take_of_length_le
noncomputable abbrev z30:=@List.getElem_mem
noncomputable abbrev z31:=@List.map_map
noncomputable abbrev z32:=@Nat.lt_irrefl
noncomputable abbrev z33:=@List.all_eq_true
noncomputable abbrev z34:=@List.mem_of_getElem?
noncomputable abbrev z35:=@Nat.lt_trans
noncomputable abbrev z36:=@List.cons_append
noncomputable abbrev z37:=@Nat.lt_succ_self
noncomputable abbrev z38:=@Bool.and_eq_true_iff
theorem zzA(h:True:=by rfl):True:=h
local macro_rules|`(‹$x›)=>`(autoParam $x zzA._auto_1)
namespace L2
open PySem PySem.Spec PyProof.Rows
section
noncomputable abbrev aS:=Sum Int Str
abbrev iB:aS->Value->Bool
 | .inl k,v=>Value.isInt k v
 | .inr x,v=>Value.isStrOf x v
abbrev qX(w:World):aS->Int
 | .inl k=>hashInt k
 | .inr x=>hashStr w x
def eV:∀{k:aS} {v:Value},iB k v=true->(∃i t,k=Sum.inl i/\v=Value.int i t)∨(∃x t,k=Sum.inr x/\v=Value.str x t)
 | .inl i,v,h=>by
  obtain⟨t,e⟩:=Value.isInt_shape (k:=i) (v:=v) h
  exact .inl ⟨i,t,rfl,e⟩
 | .inr x,v,h=>by
  obtain⟨t,e⟩:=Value.isStrOf_shape (x:=x) (v:=v) h
  exact .inr ⟨x,t,rfl,e⟩
def AY(i:Int)(t:Tok):iB (.inl i) (.int i t)=true:=by simp [iB,Value.isInt]
def AZ(x:Str)(t:Tok):iB (.inr x) (.str x t)=true:=by simp [iB,Value.isStrOf]
def A0(a b:Int):decide ((Sum.inl a:aS)=Sum.inl b)=(a == b):=by
 by_cases e:a=b
 ·subst e;simp
 ·have h:¬ (Sum.inl a:aS)=Sum.inl b:=λq=>e (Sum.inl.inj q)
  rw [decide_eq_false h]
  exact (beq_eq_false_iff_ne.mpr e).symm
def Ba(a b:Str):decide ((Sum.inr a:aS)=Sum.inr b)=decide (a=b):=by
 by_cases e:a=b
 ·subst e;simp
 ·have h:¬ (Sum.inr a:aS)=Sum.inr b:=λq=>e (Sum.inr.inj q)
  rw [decide_eq_false h,decide_eq_false e]
def Bb(a:Int)(b:Str):decide ((Sum.inl a:aS)=Sum.inr b)=false:=decide_eq_false (λq=>nomatch q)
def Bc(a:Str)(b:Int):decide ((Sum.inr a:aS)=Sum.inl b)=false:=decide_eq_false (λq=>nomatch q)
noncomputable def cF(prog:Program)(w:World):PySem.KeyKind prog w aS where
 is:=iB
 hash:=qX w
 inj:=λv a b ha hb=>by
  rcases eV ha with⟨i,t,rfl,rfl⟩| ⟨x,t,rfl,rfl⟩
  ·rcases eV hb with⟨j,u,rfl,e⟩| ⟨y,u,rfl,e⟩
   ·injection e with e1 _;rw [e1]
   ·exact nomatch e
  ·rcases eV hb with⟨j,u,rfl,e⟩| ⟨y,u,rfl,e⟩
   ·exact nomatch e
   ·injection e with e1 _;rw [e1]
 byValue:=λk v h=>by
  rcases eV h with⟨i,t,rfl,rfl⟩| ⟨x,t,rfl,rfl⟩<;>rfl
 pyHash:=λhv h=>by
  rcases eV hv with⟨i,t,rfl,rfl⟩| ⟨x,t,rfl,rfl⟩
  ·exact wpAny_pyHash_int h
  ·exact wpAny_pyHash_str h
 eqBool:=λhu hv h=>by
  rcases eV hu with⟨i,t,rfl,rfl⟩| ⟨x,t,rfl,rfl⟩
  ·rcases eV hv with⟨j,u,rfl,rfl⟩| ⟨y,u,rfl,rfl⟩
   ·rw [A0] at h;exact wpAny_eqBool_int h
   ·rw [Bb] at h;exact SeqAt.EqAt.int_str i t y u _ _ _ _ h
  ·rcases eV hv with⟨j,u,rfl,rfl⟩| ⟨y,u,rfl,rfl⟩
   ·rw [Bc] at h;exact SeqAt.EqAt.str_int x t j u _ _ _ _ h
   ·rw [Ba] at h;exact wpAny_eqBool_str h
 «strs»:=λk x t v h=>by
  rcases eV h with⟨i,u,rfl,e⟩| ⟨y,u,rfl,e⟩
  ·exact nomatch e
  ·injection e with e1 _
   subst e1
   cases v<;>rfl
def Bd(prog:Program)(w:World)(i:Int)(t:Tok):(cF prog w).is (.inl i) (.int i t)=true:=AY i t
def Be(prog:Program)(w:World)(x:Str)(t:Tok):(cF prog w).is (.inr x) (.str x t)=true:=AZ x t
end
section
inductive V where
 | non|bl (b:Bool)|int (i:Int)|str (x:Str)|byt (b:Array UInt8)|flt (b:UInt64)|ref (a:Addr)|ty (n:String)
 deriving DecidableEq
abbrev ay:V->Value->Prop
 | .non,u=>u=Value.none
 | .bl b,u=>u=Value.bool b
 | .int i,u=>∃t,u=Value.int i t
 | .str x,u=>∃t,u=Value.str x t
 | .byt b,u=>∃t,u=Value.bytes b t
 | .flt b,u=>∃t,u=Value.float b t
 | .ref a,u=>u=Value.ref a
 | .ty n,u=>u=Value.type n
noncomputable abbrev au:List V->List Value->Prop:=Paired ay
theorem au.length{xs:List V}{us:List Value}(r:au xs us):xs.length=us.length:=Paired.length r
theorem au.get:∀{xs:List V} {us:List Value} {i:Nat} {x:V},au xs us->xs[i]?=some x->∃u,us[i]?=some u/\ay x u
 | _,_,_,_,.nil,e=>by simp at e
 | _,_,0,_,.cons r _,e=>by simp at e;subst e;exact⟨_,rfl,r⟩
 | _,_,i+1,x,.cons _ t,e=>by
  obtain⟨u,h1,h2⟩:=au.get (i:=i) (x:=x) t (by simpa using e)
  exact⟨u,by simpa using h1,h2⟩
theorem au.set{x:V}{u:Value}(r:ay x u):∀{xs:List V} {us:List Value} (i:Nat),au xs us->au (xs.set i x) (us.set i u)
 | _,_,_,.nil=>.nil
 | _,_,0,.cons _ t=>.cons r t
 | _,_,i+1,.cons q t=>.cons q (au.set r i t)
theorem au.append:∀{xs ys:List V} {us ws:List Value},au xs us->au ys ws->au (xs++ys) (us++ws)
 | _,_,_,_,.nil,s=>s
 | _,_,_,_,.cons r t,s=>.cons r (au.append t s)
theorem au.take:∀{xs:List V} {us:List Value} (n:Nat),au xs us->au (xs.take n) (us.take n)
 | _,_,0,_=>.nil
 | _,_,_+1,.nil=>.nil
 | _,_,n+1,.cons r t=>.cons r (au.take n t)
theorem au.drop:∀{xs:List V} {us:List Value} (n:Nat),au xs us->au (xs.drop n) (us.drop n)
 | _,_,0,r=>r
 | _,_,_+1,.nil=>.nil
 | _,_,n+1,.cons _ t=>au.drop n t
abbrev ip:Option V->Option Value->Prop
 | some v,some u=>ay v u
 | none,none=>True
 | _,_=>False
abbrev KV{κ:Type}:List (κ×V)->List (κ×Value)->Prop:=Paired λ(p:κ×V) (q:κ×Value)=>p.1=q.1/\ay p.2 q.2
abbrev kV:aS->V
 | .inl i=>.int i
 | .inr x=>.str x
inductive HO where
 | lst (xs:List V)
 | tup (xs:List V)
 | dK (kvs:List (aS×V))|dT (kvs:List (List aS×V))
 | set (S:Int->Bool) (n:Nat)
 | ins (C dx:Addr) (fs:List (Str×V))
 | own (x:Addr)
 | xd (fs:List (Str×V))
 | met (f x:Addr)
 | rng (lo hi:Int)
 | frz (o:Obj) (u:HO)
 | tbl (ps:Array Value)
 | ext (φ:Heap->Prop)
noncomputable abbrev Hp:=Addr->Option HO
abbrev aH(H:Hp)(a:Addr)(o:HO):Hp:=λb=>if b=a then some o else H b
def bg{H:Hp}{a:Addr}{o:HO}:aH H a o a=some o:=by unfold aH;rw [if_pos rfl]
def aR{H:Hp}{a b:Addr}{o:HO}(h:b≠a):aH H a o b=H b:=by unfold aH;rw [if_neg h]
def qY{H:Hp}{a:Addr}{o u:HO}:aH (aH H a o) a u=aH H a u:=by
 funext b;unfold aH;split<;>rfl
def nC{H:Hp}{a b:Addr}{o u:HO}(h:H a=some o)(h':H b=some u)(d:o≠u):a≠b:=by
 intro e;subst e;rw [h] at h';exact d (z20 h')
def gO{H:Hp}{a b:Addr}{o:HO}(h:H a=some o)(h':H b=none):a≠b:=by
 intro e;subst e;rw [h] at h';cases h'
abbrev kF(h:Heap)(a:Addr)(items:Array Value):Prop:=∃o,h.get? a=some o/\o.cls=.type "tuple"/\o.dict=none/\∃n,o.data=.seq items n
def kF.tup{h:Heap}{a:Addr}{items:Array Value}(x:kF h a items):IsTup h a items:=let ⟨o,e,c,_,n,d⟩:=x;⟨o,e,c,n,d⟩
def kF.mk'(h:Heap)(items:Array Value):kF (h.push { cls:=.type "tuple",data:=.seq items }) h.objs.size items:=⟨_,z21 _ rfl,rfl,rfl,_,rfl⟩
section
variable (P:Program)(w:World)
abbrev c7(H:Hp)(h:Heap)(a:Addr):HO->Prop
 | .lst xs=>xs.length≤sizeLine/\∃(its:List Value) (n:Nat),au xs its/\h.get? a=some { cls:=.type "list",data:=.seq its.toArray n }
 | .tup xs=>xs.length≤sizeLine/\∃its:List Value,au xs its/\kF h a its.toArray
 | .dK kvs=>kvs.length≤sizeLine/\(a == sysModules)=false/\∃vs,KV kvs vs/\h.DictOf (cF P w) a vs
 | .dT kvs=>kvs.length≤sizeLine/\(a == sysModules)=false/\∃xs:List (List aS×Addr×Value),
   Paired (λ(p:List aS×V) (q:List aS×Addr×Value)=>p.1=q.1/\H q.2.1=some (.tup (p.1.map kV))/\ay p.2 q.2.2) kvs xs /\
   ∃o es ep,h.get? a=some o/\o.ExactDict/\o.data=.dict es ep/\es.toList=xs.map (entryOfKey (tupleKind (cF P w)))/\(xs.map (·.1)).Nodup
 | .set S n=>h.SetOf (intKind P w) a S n
 | .ins C dx fs=>H dx=some (.own a)/\fs.length≤1000/\dx≠a/\h.get? a=some (W.instObj C dx) /\
   ∃mA,h.Ns1 dx mA/\(∀f,ip (fs.lookup f) (mA f))/\PySem.Within mA (fs.map (·.1))
 | .own _=>∃o,h.get? a=some o
 | .xd fs=>∃mA,h.Ns1 a mA/\∀f,ip (fs.lookup f) (mA f)
 | .rng lo hi=>∃t u v,h.get? a=some { cls:=.type "range",data:=.fields #[.int lo t,.int hi u,.int 1 v] }
 | .frz o u=>h.get? a=some o/\c7 H h a u
 | .tbl ps=>h.get? a=some { cls:=.none,data:=.fields ps }
 | .met f x=>h.get? a=some (W.methodObj (.ref f) (.ref x))
 | .ext φ=>φ h/\(∃o,h.get? a=some o)/\∀h1 h2:Heap,φ h1->(∀o,h1.get? a=some o->h2.get? a=some o)->φ h2
abbrev cB(H:Hp)(h:Heap):Prop:=∀a o,H a=some o->c7 P w H h a o
end
section
variable {P:Program}{w:World}{H H':Hp}{h h':Heap}{a:Addr}{o:HO}
theorem c7.lt(x:c7 P w H h a o):a<h.objs.size:=by
 cases o with
 | lst xs=>obtain⟨_,_,_,_,e⟩:=x;exact z14 e
 | tup xs=>obtain⟨_,_,_,p⟩:=x;exact p.tup.lt
 | dK kvs=>obtain⟨_,_,_,_,o,_,_,e,_⟩:=x;exact z14 e
 | dT kvs=>obtain⟨_,_,_,_,o,_,_,e,_⟩:=x;exact z14 e
 | set S n=>obtain⟨o,_,_,_,e,_⟩:=x;exact z14 e
 | ins C dx fs=>obtain⟨_,_,_,e,_⟩:=x;exact z14 e
 | own y=>obtain⟨_,e⟩:=x;exact z14 e
 | xd fs=>obtain⟨_,⟨_,_,_,e,_⟩,_⟩:=x;exact z14 e
 | rng lo hi=>obtain⟨_,_,_,e⟩:=x;exact z14 e
 | frz ob u=>obtain⟨e,_⟩:=x;exact z14 e
 | tbl ps=>exact z14 (show h.get? a=some _ from x)
 | met f y=>exact z14 (show h.get? a=some _ from x)
 | ext φ=>obtain⟨_,⟨_,e⟩,_⟩:=x;exact z14 e
theorem Paired.mapP{α β:Type}{F G:α->β->Prop}:∀{l₁:List α} {l₂:List β},Paired F l₁ l₂->(∀a b,F a b->G a b)->Paired G l₁ l₂
 | _,_,.nil,_=>.nil
 | _,_,.cons r t,f=>.cons (f _ _ r) (Paired.mapP t f)
def c7.y45d(x:c7 P w H h a o)(k:∀b u,(b=a∨H b=some (.own a))->h.get? b=some u->h'.get? b=some u)
  (ho:∀b,H b=some (.own a)->H' b=some (.own a)) (ht:∀b xs,H b=some (.tup xs)->H' b=some (.tup xs)):c7 P w H' h' a o:=by
 induction o with
 | lst xs=>obtain⟨z,its,n,r,e⟩:=x;exact⟨z,its,n,r,k _ _ (.inl rfl) e⟩
 | tup xs=>obtain⟨z,its,r,ob,e,c⟩:=x;exact⟨z,its,r,ob,k _ _ (.inl rfl) e,c⟩
 | dK kvs=>obtain⟨z,y,vs,r,ob,es,ep,e,c⟩:=x;exact⟨z,y,vs,r,ob,es,ep,k _ _ (.inl rfl) e,c⟩
 | dT kvs =>
  obtain⟨z,y,xs,r,ob,es,ep,e,c⟩:=x
  exact⟨z,y,xs,Paired.mapP r λp q z=>⟨z.1,ht _ _ z.2.1,z.2.2⟩,ob,es,ep,k _ _ (.inl rfl) e,c⟩
 | set S n=>obtain⟨ob,es,ep,t,e,c⟩:=x;exact⟨ob,es,ep,t,k _ _ (.inl rfl) e,c⟩
 | ins C dx fs =>
  obtain⟨d,z,ne,e,mA,⟨od,es,ep,e2,c⟩,r⟩:=x
  exact⟨ho _ d,z,ne,k _ _ (.inl rfl) e,mA,⟨od,es,ep,k _ _ (.inr d) e2,c⟩,r⟩
 | own y=>obtain⟨ob,e⟩:=x;exact⟨ob,k _ _ (.inl rfl) e⟩
 | xd fs=>obtain⟨mA,⟨od,es,ep,e,c⟩,r⟩:=x;exact⟨mA,⟨od,es,ep,k _ _ (.inl rfl) e,c⟩,r⟩
 | rng lo hi=>obtain⟨t,u,v,e⟩:=x;exact⟨t,u,v,k _ _ (.inl rfl) e⟩
 | frz ob u ih=>obtain⟨e,q⟩:=x;exact⟨k _ _ (.inl rfl) e,ih q⟩
 | tbl ps =>
  have e:h.get? a=some { cls:=.none,data:=.fields ps }:=x
  show h'.get? a=some { cls:=.none,data:=.fields ps }
  exact k a _ (.inl rfl) e
 | met f y =>
  have e:h.get? a=some (W.methodObj (.ref f) (.ref y)):=x
  show h'.get? a=some (W.methodObj (.ref f) (.ref y))
  exact k a _ (.inl rfl) e
 | ext φ=>obtain⟨p,⟨o,e⟩,st⟩:=x;exact⟨st _ _ p λo q=>k _ _ (.inl rfl) q,⟨o,k _ _ (.inl rfl) e⟩,st⟩
theorem cB.lt(x:cB P w H h)(e:H a=some o):a<h.objs.size:=(x a o e).lt
def cB.fresh(x:cB P w H h)(e:h.objs.size≤a):H a=none:=by
 cases q:H a with
 | none=>rfl
 | some u=>exact absurd (z1c (x.lt q) e) (z32 _)
def cB.kept(x:cB P w H h)(k:∀b u,h.get? b=some u->h'.get? b=some u):cB P w H h':=λa o e =>
 (x a o e).y45d (λb u _ q=>k b u q) (λ_ q=>q) λ_ _ q=>q
def cB.laid(x:cB P w H h)(k:∀b u,h.get? b=some u->h'.get? b=some u)(hp:h.objs.size≤a)(new:c7 P w (aH H a o) h' a o):cB P w (aH H a o) h':=λb u e=>by
 have hn:=x.fresh hp
 by_cases hb:b=a
 ·subst hb;rw [bg] at e;cases e;exact new
 ·rw [aR hb] at e
  exact (x b u e).y45d (λc v _ q=>k c v q) (λc q=>by rw [aR (gO q hn)];exact q) λc xs q=>by rw [aR (gO q hn)];exact q
end
abbrev Rd(H:Hp)(a:Addr)(u:HO):Prop:=H a=some u∨∃o,H a=some (.frz o u)
def Rd.ok{P:Program}{w:World}{H:Hp}{h:Heap}{a:Addr}{u:HO}(r:Rd H a u)(x:cB P w H h):c7 P w H h a u:=by
 rcases r with r|⟨o,r⟩
 ·exact x a u r
 ·obtain⟨_,q⟩:=x a _ r
  exact q
abbrev qZ:Option HO->Prop
 | some (.lst _)=>True
 | some (.dK _)=>True
 | some (.dT _)=>True
 | some (.set _ _)=>True
 | some (.ins _ _ _)=>True
 | some (.ext _)=>True
 | _=>False
section
variable {P:Program}{w:World}{H:Hp}{h h':Heap}{x e:Addr}{o':HO}
def cB.write(ok:cB P w H h)(mu:qZ (H x))(he:e=x∨H e=some (.own x))(k:∀b u,b≠e->h.get? b=some u->h'.get? b=some u)(heo:∃u,h'.get? e=some u)
  (new:c7 P w (aH H x o') h' x o'):cB P w (aH H x o') h':=λb u q=>by
 have nown:∀c y,H c=some (.own y)->c≠x:=λc y r z=>by subst z;rw [r] at mu;exact mu
 have ntup:∀c xs,H c=some (.tup xs)->c≠x:=λc xs r z=>by subst z;rw [r] at mu;exact mu
 by_cases hb:b=x
 ·subst hb;rw [bg] at q;cases q;exact new
 ·rw [aR hb] at q
  by_cases hbe:b=e
  ·have q':H b=some (.own x):=by
    rcases he with z|z
    ·exact absurd (hbe.trans z) hb
    ·rw [hbe];exact z
   rw [q] at q';cases q'
   obtain⟨v,hv⟩:=heo
   exact⟨v,by rw [hbe];exact hv⟩
  ·refine (ok b u q).y45d (λc v hc r=>k c v ?_ r) (λc r=>by rw [aR (nown c b r)];exact r) λc xs r=>by rw [aR (ntup c xs r)];exact r
   rcases hc with rfl|hc
   ·exact hbe
   ·rintro rfl
    rcases he with z|z
    ·exact nown c b hc z
    ·rw [hc] at z;cases z;exact hb rfl
end
structure Un(fs ex:List Addr)(H H':Hp)(h h':Heap):Prop where
 keep:∀b o,h.get? b=some o->H b=none->b∉fs->b∉ex->h'.get? b=some o
 slot:∀b o,h.get? b=some o->H b=none->b∈fs->b∉ex->∃sl,h'.get? b=some { o with slots:=sl }
 free:∀b o,h.get? b=some o->H b=none->b∉ex->H' b=none
 there:∀b o,h.get? b=some o->b∉ex->∃o',h'.get? b=some o'
 y4b7:∀b xs,H b=some (.tup xs)->H' b=some (.tup xs)
 y16e:∀b o u,H b=some (.frz o u)->H' b=some (.frz o u)
 y497:∀b ps,H b=some (.tbl ps)->∃more,H' b=some (.tbl (ps++more))
section
variable {fs fs' ex ex':List Addr}{H H1 H2:Hp}{h h1 h2 h':Heap}{a x e:Addr}{o:HO}
def Un.any(u:Un fs ex H H1 h h1){b:Addr}{ob:Obj}(q:h.get? b=some ob)(n:H b=none)(hx:b∉ex):∃sl,h1.get? b=some { ob with slots:=sl }:=by
 by_cases hb:b∈fs
 ·exact u.slot b ob q n hb hx
 ·exact⟨ob.slots,u.keep b ob q n hb hx⟩
def Un.kept(k:∀b u,h.get? b=some u->h'.get? b=some u):Un fs ex H H h h' :=
 ⟨λb ob q _ _ _=>k b ob q,λb ob q _ _ _=>⟨ob.slots,k b ob q⟩,λ_ _ _ n _=>n,λb ob q _=>⟨ob,k b ob q⟩,λ_ _ q=>q,λ_ _ _ q=>q,λ_ ps q=>⟨#[],by rw [q];simp⟩⟩
def Un.refl:Un fs ex H H h h:=Un.kept λ_ _ q=>q
def Un.laid(k:∀b u,h.get? b=some u->h'.get? b=some u)(hp:h.objs.size≤a)(hn:H a=none):Un fs ex H (aH H a o) h h' where
 keep:=λb u q _ _ _=>k b u q
 slot:=λb u q _ _ _=>⟨u.slots,k b u q⟩
 free:=λb u q n _=>by rw [aR (z27 (z1c (z14 q) hp))];exact n
 there:=λb u q _=>⟨u,k b u q⟩
 y4b7:=λb xs q=>by rw [aR (gO q hn)];exact q
 y16e:=λb u xs q=>by rw [aR (gO q hn)];exact q
 y497:=λb ps q=>⟨#[],by rw [aR (gO q hn),q];simp⟩
def Un.write(mu:qZ (H x))(he:e=x∨H e=some (.own x))(k:∀b u,b≠e->h.get? b=some u->h'.get? b=some u)(heo:∃u,h'.get? e=some u):Un fs ex H (aH H x o) h h':=by
 have hx:∀b,H b=none->b≠x:=λb n z=>by subst z;rw [n] at mu;exact mu
 have hb:∀b,H b=none->b≠e:=λb n z=>by
  subst z
  rcases he with r|r
  ·exact hx b n r
  ·rw [n] at r;cases r
 have hm:∀b u,H b=some u->¬ qZ (some u)->b≠x:=λb u q nm z=>by subst z;rw [q] at mu;exact nm mu
 refine⟨λb u q n _ _=>k b u (hb b n) q,λb u q n _ _=>⟨u.slots,k b u (hb b n) q⟩,λb u q n _=>by rw [aR (hx b n)];exact n,λb u q _=>?_,
  λb xs q=>by rw [aR (hm b _ q λz=>z)];exact q,λb u xs q=>by rw [aR (hm b _ q λz=>z)];exact q,λb ps q=>⟨#[],by rw [aR (hm b _ q λz=>z),q];simp⟩⟩
 by_cases hbe:b=e
 ·subst hbe;exact heo
 ·exact⟨u,k b u hbe q⟩
end
abbrev Ak(h:Heap)(H:Hp):List Addr:=(List.range h.objs.size).filter λa=>(H a).isSome
abbrev eW(h:Heap)(H:Hp):Heap:=W.hideAll h (Ak h H)
def Bf(h:Heap)(H:Hp):(eW h H).objs.size=h.objs.size:=W.hideAll_size _ _
def Bg{h:Heap}{H:Hp}{b:Addr}{o:Obj}(e:h.get? b=some o)(n:H b=none):(eW h H).get? b=some o :=
 W.hideAll_get _ e λhm=>by
  have q:(H b).isSome=true:=(List.mem_filter.mp hm).2
  rw [n] at q;simp at q
def Bh{h:Heap}{H:Hp}{b:Addr}{o:Obj}(e:(eW h H).get? b=some o):h.get? b=some o/\H b=none:=by
 have e':h.get? b=some o:=W.of_hideAll (Ak h H) e
 refine⟨e',?_⟩
 cases q:H b with
 | none=>rfl
 | some x =>
  have hm:b∈Ak h H:=List.mem_filter.mpr ⟨List.mem_range.mpr (z14 e'),by simp [q]⟩
  have z:(eW h H).get? b=none:=W.hideAll_none (Ak h H) hm
  rw [z] at e;cases e
abbrev y67(g h:Heap)(L:Addr):List (Addr×Obj):=(List.range h.objs.size).filterMap λa=>if a=L∨(g.get? a).isSome=true then none else (h.get? a).map λo=>(a,o)
abbrev aA(g h:Heap)(L d:Addr):List (Addr×Obj):=(y67 g h L).filter λp=>decide (p.1≠d)
end
section
structure Mod(K:W.Frag)(mg:Str->Option Value)(base:Heap):Prop where
 kin:K.In base
 glob:base.Ns mainGlobals mg
 blt:∃mb,base.Ns builtinsNs mb/\∀x:Str,x≠"__name__"->mb x=bootBuiltins x
 nolimit:base.NoLimit
structure Cx where
 prog:Program
 w:World
 K:W.Frag
 mg:Str->Option Value
 base:Heap
 A:Around
 N:List Str
 s₀:Shared
 H₀:Hp
 env:Env
 outer:List Env
 stack:List Env
 ex:List Addr
 fn:Str->Bool
 calm:Bool
 pn:List (Addr×Obj)
 xe:Value->Shared->Prop
abbrev fM(l:List Env):List Addr:=l.filterMap (·.frame)
noncomputable abbrev Cx.fs(X:Cx):List Addr:=fM X.outer
abbrev Al(sc:Scope)(x:Str):Prop:=sc.names.lookup x=some .local∨sc.names.lookup x=some .cell∨sc.names.lookup x=some .free
abbrev qF(sc:Scope)(x:Str):Prop:=sc.names.lookup x=some .local∨sc.names.lookup x=some .cell
abbrev Bi(env:Env)(h:Heap)(m:Str->Option Value)(x:Str)(u:Value):Prop :=
 (env.kindOf x=some .local/\m x=some u)∨((env.kindOf x=some .cell∨env.kindOf x=some .free)/\∃c,env.cells.lookup x=some c/\h.IsCell c (some u))
structure Cx.Ok(X:Cx):Prop where
 mod:Mod X.K X.mg X.base
 kind:X.env.scope.kind=.function
 glob:X.env.globals=mainGlobals
 blt:X.env.builtins=builtinsNs
 above:X.s₀.heap.objs.size≤X.env.locals
 inj:∀x y c,X.env.cells.lookup x=some c->X.env.cells.lookup y=some c->x=y
 has:∀x,(X.env.kindOf x=some .cell∨X.env.kindOf x=some .free)->∃c,X.env.cells.lookup x=some c
 cab:∀x c,X.fn x=true->X.env.cells.lookup x=some c->X.s₀.heap.objs.size≤c
 hd:X.calm=true->X.A.handled=none
 frames:X.A.frames=some X.stack
 stk:X.stack=X.outer∨(X.stack=X.env::X.outer/\X.env.frame=some X.env.locals)
 exf:∀b∈X.ex,b≠X.env.locals/\∀x c,X.env.cells.lookup x=some c->c≠b
 bs:∀b o,X.base.get? b=some o->X.s₀.heap.get? b=some o/\X.H₀ b=none
 bsz:X.base.objs.size≤X.s₀.heap.objs.size
 y28f:∀b o,X.base.get? b=some o->b∉X.ex
 y144:∀b∈X.ex,b∉X.fs
 y170:X.s₀.heap.FunFrames X.base X.outer
 frf:∀b∈X.fs,X.H₀ b=none
structure Inv(X:Cx)(pins:List (Addr×Obj))(σ:List (Option V))(H:Hp)(s:Shared):Prop where
 ok:X.Ok
 os:s.os=X.s₀.os
 bare:AllBare s.gens
 base:Un X.fs X.ex X.H₀ H X.s₀.heap s.heap
 loc:∃m,s.heap.Ns X.env.locals m/\∀(i:Nat) (x:Str) (v:V),X.N[i]?=some x->σ[i]?=some (some v)->Al X.env.scope x->∃u,ay v u/\Bi X.env s.heap m x u
 cell:∀x c,X.env.cells.lookup x=some c->∃v,s.heap.IsCell c v
 free:H X.env.locals=none
 y16c:∀x c,X.env.cells.lookup x=some c->H c=none
 pin:∀p∈X.pn++pins,s.heap.get? p.1=some p.2/\H p.1=none/\p.1≠X.env.locals/\p.1∉X.fs/\∀v,p.2.data≠.cell v
 hok:cB X.prog X.w H s.heap
 len:σ.length=X.N.length
section
variable {X:Cx}{pins:List (Addr×Obj)}{σ:List (Option V)}{H H':Hp}{s:Shared}{h':Heap}
def Cx.Ok.nofr(ok:X.Ok){b:Addr}{o:Obj}(e:X.base.get? b=some o):b∉X.fs:=λhb=>by
 have:=(ok.y170.mem hb).1
 rw [e] at this;cases this
theorem Inv.bs(I:Inv X pins σ H s):∀b o,X.base.get? b=some o->s.heap.get? b=some o/\H b=none:=λb o e =>
 ⟨I.base.keep b o (I.ok.bs b o e).1 (I.ok.bs b o e).2 (I.ok.nofr e) (I.ok.y28f b o e),I.base.free b o (I.ok.bs b o e).1 (I.ok.bs b o e).2 (I.ok.y28f b o e)⟩
def Inv.bk(I:Inv X pins σ H s):∀b o,X.base.get? b=some o->s.heap.get? b=some o:=λb o e=>(I.bs b o e).1
theorem Inv.mod(I:Inv X pins σ H s):Mod X.K X.mg X.base:=I.ok.mod
def Inv.kIn(I:Inv X pins σ H s):X.K.In s.heap:=I.ok.mod.kin.keeps I.bk
def Inv.fr(I:Inv X pins σ H s):∃m,Fr X.base X.env.locals s.heap m :=
 let ⟨m,hn,_⟩:=I.loc
 ⟨m,hn,I.bk,z1a I.ok.bsz I.ok.above⟩
theorem Inv.lt(I:Inv X pins σ H s):X.env.locals<s.heap.objs.size:=let ⟨_,hn,_⟩:=I.loc;hn.lt
def Inv.sz(I:Inv X pins σ H s):X.s₀.heap.objs.size≤s.heap.objs.size:=z1a I.ok.above (Nat.le_of_lt I.lt)
def Inv.nofs(I:Inv X pins σ H s){a:Addr}(h:s.heap.objs.size≤a):a∉X.fs:=λhb=>by
 obtain⟨_,o,ho,_⟩:=I.ok.y170.mem hb
 exact absurd (z1c (z14 ho) (z1a I.sz h)) (z32 _)
def Inv.cne(I:Inv X pins σ H s):∀x c,X.env.cells.lookup x=some c->c≠X.env.locals:=λx c e z=>by
 obtain⟨v,o,ho,hd⟩:=I.cell x c e
 obtain⟨m,⟨o',es,ep,ho',hd',_⟩,_⟩:=I.loc
 rw [z,ho'] at ho;cases ho;rw [hd'] at hd;cases hd
theorem Inv.y170(I:Inv X pins σ H s):s.heap.FunFrames X.base X.outer:=by
 have all:∀(l:List Env),(∀b∈fM l,b∈X.fs)->X.s₀.heap.FunFrames X.base l->s.heap.FunFrames X.base l:=by
  intro l
  induction l with
  | nil=>intro _ _;trivial
  | cons env r ih =>
   intro hs hl
   obtain⟨hk,⟨L,o,hf,hn,ho,hd⟩,hr⟩:=hl
   have hL:L∈X.fs:=hs L (by unfold fM;rw [List.filterMap_cons,hf];exact List.mem_cons_self)
   obtain⟨sl,e⟩:=I.base.slot L o ho (I.ok.frf L hL) hL λz=>I.ok.y144 L z hL
   exact⟨hk,⟨L,_,hf,hn,e,hd⟩,ih (λb hb=>hs b (by unfold fM;rw [List.filterMap_cons,hf];exact z1d _ hb)) hr⟩
 exact all X.outer (λ_ hb=>hb) I.ok.y170
theorem Inv.stack(I:Inv X pins σ H s):s.heap.FunFrames X.base X.stack:=by
 rcases I.ok.stk with e|⟨e,hf⟩
 ·rw [e];exact I.y170
 ·rw [e]
  obtain⟨m,hn,_⟩:=I.loc
  refine .cons (by rw [I.ok.kind];decide) hf hn ?_ I.y170
  exact Heap.get?_none_of_le (z1a I.ok.bsz I.ok.above)
def Inv.y45f(I:Inv X pins σ H s):∀b∈fM X.stack,b∈X.env.locals::X.fs:=λb hb=>by
 rcases I.ok.stk with e|⟨e,hf⟩
 ·rw [e] at hb;exact z1d _ hb
 ·rw [e] at hb
  unfold fM at hb
  rw [List.filterMap_cons,hf] at hb
  exact hb
def Inv.y45e(I:Inv X pins σ H s):∀b∈fM X.stack,H b=none:=λb hb=>by
 rcases z1f.mp (I.y45f b hb) with e|hb
 ·rw [e];exact I.free
 ·obtain⟨_,o,ho,_⟩:=I.ok.y170.mem hb
  exact I.base.free b o ho (I.ok.frf b hb) λz=>I.ok.y144 b z hb
def Inv.step{g':Array GenState}{t':Nat}{d':Drawn}{ch:List Addr}(I:Inv X pins σ H s)
  (hch:∀b∈ch,(b∈X.ex∨X.s₀.heap.objs.size≤b)/\b≠X.env.locals/\(∀x c,X.env.cells.lookup x=some c->c≠b)/\∀p∈X.pn++pins,p.1≠b)
  (keep:∀b o,b≠X.env.locals->b∉X.fs->b∉ch->s.heap.get? b=some o->H b=none->h'.get? b=some o)
  (slot:∀b o,b≠X.env.locals->b∈X.fs->b∉ch->s.heap.get? b=some o->H b=none->∃sl,h'.get? b=some { o with slots:=sl }) (free:∀b o,b∉ch->s.heap.get? b=some o->H b=none->H' b=none)
  (there:∀b o,b∉ch->s.heap.get? b=some o->∃o',h'.get? b=some o')
  (y4b7:∀b xs,H b=some (.tup xs)->H' b=some (.tup xs)) (y16e:∀b o u,H b=some (.frz o u)->H' b=some (.frz o u)) (y497:∀b ps,H b=some (.tbl ps)->∃more,H' b=some (.tbl (ps++more)))
  (ns:∀m,s.heap.Ns X.env.locals m->h'.Ns X.env.locals m) (hok:cB X.prog X.w H' h') (hg:AllBare g') :
  Inv X pins σ H' { s with heap:=h',gens:=g',drawn:=d',toks:=t' }:=by
 have neL:∀b o,X.s₀.heap.get? b=some o->b≠X.env.locals:=λb o e=>z27 (z1c (z14 e) I.ok.above)
 have neC:∀b o,X.s₀.heap.get? b=some o->b∉X.ex->b∉ch:=λb o e hx hb=>by
  rcases (hch b hb).1 with z|z
  ·exact hx z
  ·exact absurd (z1c (z14 e) z) (z32 _)
 have cellK:∀x c,X.env.cells.lookup x=some c->∀v,s.heap.IsCell c v->h'.IsCell c v:=λx c e v zz=>by
  obtain⟨o,ho,hd⟩:=zz
  have nch:c∉ch:=λz=>(hch c z).2.2.1 x c e rfl
  by_cases hc:c∈X.fs
  ·obtain⟨sl,q⟩:=slot c o (I.cne x c e) hc nch ho (I.y16c x c e)
   exact⟨_,q,hd⟩
  ·exact⟨o,keep c o (I.cne x c e) hc nch ho (I.y16c x c e),hd⟩
 refine⟨I.ok,I.os,hg,⟨λb o e n hb hx=>?_,λb o e n hb hx=>?_,λb o e n hx=>?_,λb o e hx=>?_,λb xs e=>y4b7 b xs (I.base.y4b7 b xs e),λb o xs e=>y16e b o xs (I.base.y16e b o xs e),λb ps e=>?_⟩,?_,λx c e=>?_,?_,λx c e=>?_,λp hp=>?_,hok,I.len⟩
 ·exact keep b o (neL b o e) hb (neC b o e hx) (I.base.keep b o e n hb hx) (I.base.free b o e n hx)
 ·obtain⟨sl,e1⟩:=I.base.slot b o e n hb hx
  obtain⟨sl',e2⟩:=slot b _ (neL b o e) hb (neC b o e hx) e1 (I.base.free b o e n hx)
  exact⟨sl',e2⟩
 ·obtain⟨o',e1⟩:=I.base.there b o e hx
  exact free b o' (neC b o e hx) e1 (I.base.free b o e n hx)
 ·obtain⟨o',e1⟩:=I.base.there b o e hx
  exact there b o' (neC b o e hx) e1
 ·obtain⟨m1,e1⟩:=I.base.y497 b ps e
  obtain⟨m2,e2⟩:=y497 b _ e1
  exact⟨m1++m2,by rw [e2,Array.append_assoc]⟩
 ·obtain⟨m,hn,hl⟩:=I.loc
  refine⟨m,ns m hn,λi x v e1 e2 e3=>?_⟩
  obtain⟨u,r,l⟩:=hl i x v e1 e2 e3
  refine⟨u,r,?_⟩
  rcases l with l|⟨k,c,e,z⟩
  ·exact .inl l
  ·exact .inr ⟨k,c,e,cellK x c e _ z⟩
 ·obtain⟨v,z⟩:=I.cell x c e
  exact⟨v,cellK x c e v z⟩
 ·obtain⟨m,⟨o,_,_,ho,_⟩,_⟩:=I.loc
  exact free _ o (λz=>(hch _ z).2.1 rfl) ho I.free
 ·obtain⟨v,o,ho,hd⟩:=I.cell x c e
  exact free c o (λz=>(hch c z).2.2.1 x c e rfl) ho (I.y16c x c e)
 ·obtain⟨e,n,ne,nf,d⟩:=I.pin p hp
  have nch:p.1∉ch:=λz=>(hch p.1 z).2.2.2 p hp rfl
  exact⟨keep p.1 p.2 ne nf nch e n,free p.1 p.2 nch e n,ne,nf,d⟩
def Inv.un{t':Nat}(I:Inv X pins σ H s)(u:Un X.fs [] H H' s.heap h')(hok:cB X.prog X.w H' h'):Inv X pins σ H' { s with heap:=h',toks:=t' }:=by
 obtain⟨m,⟨o,es,ep,ho,r⟩,_⟩:=id I.loc
 obtain⟨sl,hL⟩:=u.any ho I.free (by simp)
 exact I.step (g':=s.gens) (d':=s.drawn) (ch:=[]) (λ_ z=>nomatch z) (λb o _ hb _ e n=>u.keep b o e n hb (by simp)) (λb o _ hb _ e n=>u.slot b o e n hb (by simp)) (λb o _ e n=>u.free b o e n (by simp)) (λb o _ e=>u.there b o e (by simp)) u.y4b7 u.y16e u.y497 (λm' hm=>by
  obtain⟨o',es',ep',ho',r'⟩:=hm
  rw [ho] at ho';cases ho'
  exact⟨_,es',ep',hL,r'⟩) hok I.bare
def Inv.call{g':Array GenState}{t':Nat}{d':Drawn}{ch:List Addr}(I:Inv X pins σ H s)(u:Un (fM X.stack) ch H H' s.heap h')(hok:cB X.prog X.w H' h')(hg:AllBare g')
  (hch:∀b∈ch,(b∈X.ex∨X.s₀.heap.objs.size≤b)/\b≠X.env.locals/\(∀x c,X.env.cells.lookup x=some c->c≠b)/\∀p∈X.pn++pins,p.1≠b) :
  Inv X pins σ H' { s with heap:=h',gens:=g',drawn:=d',toks:=t' }:=by
 obtain⟨m,⟨o,es,ep,ho,r⟩,_⟩:=id I.loc
 obtain⟨sl,hL⟩:=u.any ho I.free λz=>(hch _ z).2.1 rfl
 exact I.step (ch:=ch) hch (λb o hL hb hc e n=>u.keep b o e n (λz=>(z1f.mp (I.y45f b z)).elim hL hb) hc) (λb o _ _ hc e n=>u.any e n hc) (λb o hc e n=>u.free b o e n hc) (λb o hc e=>u.there b o e hc) u.y4b7 u.y16e u.y497 (λm' hm=>by
  obtain⟨o',es',ep',ho',r'⟩:=hm
  rw [ho] at ho';cases ho'
  exact⟨_,es',ep',hL,r'⟩) hok hg
def Inv.turned{t':Nat}{it:Addr}(I:Inv X pins σ H s)(k:∀b o,b≠it->s.heap.get? b=some o->h'.get? b=some o)(hn:H it=none)(hL:it≠X.env.locals)
  (h1:it∈X.ex∨X.s₀.heap.objs.size≤it) (h2:∀x c,X.env.cells.lookup x=some c->c≠it) (h3:∀p∈X.pn++pins,p.1≠it):Inv X pins σ H { s with heap:=h',toks:=t' }:=by
 have nit:∀b u,H b=some u->b≠it:=λb u e z=>by rw [z,hn] at e;cases e
 refine I.step (g':=s.gens) (d':=s.drawn) (ch:=[it]) (λb hb=>?_) (λb o _ _ hc e _=>k b o (λz=>hc (by simp [z])) e) (λb o _ _ hc e _=>⟨o.slots,k b o (λz=>hc (by simp [z])) e⟩) (λ_ _ _ _ n=>n)
  (λb o hc e=>⟨o,k b o (λz=>hc (by simp [z])) e⟩) (λ_ _ e=>e) (λ_ _ _ e=>e) (λb ps e=>⟨#[],by rw [e];simp⟩) (λm hm=>?_) (λb u e=>?_) I.bare
 ·have e:b=it:=by simpa using hb
  subst e
  exact⟨h1,hL,h2,h3⟩
 ·obtain⟨o,es,ep,ho,r⟩:=hm
  exact⟨o,es,ep,k _ o (Ne.symm hL) ho,r⟩
 ·refine (I.hok b u e).y45d (λc v hc q=>k c v ?_ q) (λ_ q=>q) λ_ _ q=>q
  rcases hc with z|z
  ·rw [z];exact nit b u e
  ·exact nit c _ z
def Inv.tok(I:Inv X pins σ H s)(t:Nat):Inv X pins σ H { s with toks:=t }:=I.un (h':=s.heap) (t':=t) Un.refl I.hok
theorem Inv.kept{t':Nat}(I:Inv X pins σ H s)(k:∀b u,s.heap.get? b=some u->h'.get? b=some u):Inv X pins σ H { s with heap:=h',toks:=t' }:=I.un (Un.kept k) (I.hok.kept k)
theorem Inv.laid{a:Addr}{o:HO}{t':Nat}(I:Inv X pins σ H s)(k:∀b u,s.heap.get? b=some u->h'.get? b=some u)(hp:s.heap.objs.size≤a)(new:c7 X.prog X.w (aH H a o) h' a o) :
  Inv X pins σ (aH H a o) { s with heap:=h',toks:=t' }:=I.un (Un.laid k hp (I.hok.fresh hp)) (I.hok.laid k hp new)
theorem Inv.write{x e:Addr}{o:HO}{t':Nat}(I:Inv X pins σ H s)(mu:qZ (H x))(he:e=x∨H e=some (.own x))(k:∀b u,b≠e->s.heap.get? b=some u->h'.get? b=some u)(heo:∃u,h'.get? e=some u)
  (new:c7 X.prog X.w (aH H x o) h' x o):Inv X pins σ (aH H x o) { s with heap:=h',toks:=t' }:=I.un (Un.write mu he k heo) (I.hok.write mu he k heo new)
def Inv.weak{σ':List (Option V)}(I:Inv X pins σ H s)(hl:σ'.length=σ.length)(w:∀(i:Nat) v,σ'[i]?=some (some v)->σ[i]?=some (some v)):Inv X pins σ' H s :=
 ⟨I.ok,I.os,I.bare,I.base,let ⟨m,hn,hl'⟩:=I.loc;⟨m,hn,λi x v e1 e2 e3=>hl' i x v e1 (w i v e2) e3⟩,I.cell,I.free,I.y16c,I.pin,I.hok,hl.trans I.len⟩
def Inv.y34f{y34d:List (Addr×Obj)}(I:Inv X pins σ H s)(h:∀p∈y34d,s.heap.get? p.1=some p.2/\H p.1=none/\p.1≠X.env.locals/\p.1∉X.fs/\∀v,p.2.data≠.cell v):Inv X y34d σ H s :=
 ⟨I.ok,I.os,I.bare,I.base,I.loc,I.cell,I.free,I.y16c,λp hp=>(z1e.mp hp).elim (λz=>I.pin p (List.mem_append_left _ z)) (h p),I.hok,I.len⟩
def nD{N:List Str}(hN:N.Nodup){i j:Nat}{x:Str}(a:N[i]?=some x)(b:N[j]?=some x):i=j:=by
 obtain⟨h1,e1⟩:=z19.mp a
 obtain⟨h2,e2⟩:=z19.mp b
 exact (List.getElem_inj hN).mp (e1.trans e2.symm)
def rf{M:Model}{A:Around}{E:Value->Shared->Prop}{i:Nat}{x:Str}{v:V}{u:Value}{Q:Unit->Shared->Prop}(I:Inv X pins σ H s)(hN:X.N.Nodup)(hi:X.N[i]?=some x)(hx:qF X.env.scope x)(r:ay v u)
  (h:∀s',Inv X pins (σ.set i (some v)) H s'->(∃a,Heap.SameBut a s.heap s'.heap/\(a=X.env.locals∨X.env.cells.lookup x=some a))->Q () s') (hf:X.fn x=true∨X.env.scope.names.lookup x=some .local:=by first|exact .inl rfl|exact .inr rfl|assumption):wpAny M A (storeName X.env x u) Q E s:=by
 obtain⟨m,hn,hl⟩:=id I.loc
 have y1ae:(X.env.scope.kind == .class||(X.env.scope.kind == .module&&X.env.locals != X.env.globals))=false:=by rw [I.ok.kind];rfl
 have hiσ:i<σ.length:=by rw [I.len];exact (z19.mp hi).1
 have cne:=I.cne
 have tracked:∀{a:Addr} {h':Heap},(∃o,s.heap.get? a=some o/\H a=none)->Heap.SameBut a s.heap h'->cB X.prog X.w H h':=λ{a h'} ha hs b ob e=>by
  obtain⟨_,_,y1b3⟩:=ha
  refine (I.hok b ob e).y45d (λc w' hc q=>(hs.2 c ?_).trans q) (λ_ q=>q) λ_ _ q=>q
  rintro rfl
  rcases hc with rfl|hc
  ·rw [y1b3] at e;cases e
  ·rw [y1b3] at hc;cases hc
 rcases hx with hk|hk
 ·refine wpAny_storeName_local hk hn (λh' hn' hs=>?_) y1ae
  obtain⟨oL,_,_,hoL,_⟩:=id hn
  refine h _ ⟨I.ok,I.os,I.bare,⟨λb o e n hb hx=>?_,λb o e n hb hx=>?_,I.base.free,λb o e hx=>?_,I.base.y4b7,I.base.y16e,I.base.y497⟩,⟨_,hn',λj y v' e1 e2 e3=>?_⟩,λy c e=>?_,I.free,I.y16c,λp hp=>?_,tracked ⟨oL,hoL,I.free⟩ hs,by simpa using I.len⟩ ⟨_,hs,.inl rfl⟩
  ·exact (hs.2 b (z27 (z1c (z14 e) I.ok.above))).trans (I.base.keep b o e n hb hx)
  ·obtain⟨sl,e1⟩:=I.base.slot b o e n hb hx
   exact⟨sl,(hs.2 b (z27 (z1c (z14 e) I.ok.above))).trans e1⟩
  ·obtain⟨o',e1⟩:=I.base.there b o e hx
   exact⟨o',(hs.2 b (z27 (z1c (z14 e) I.ok.above))).trans e1⟩
  ·by_cases hj:j=i
   ·subst hj
    rw [hi] at e1;cases e1
    rw [List.getElem?_set_self hiσ] at e2
    cases e2
    exact⟨u,r,.inl ⟨hk,by simp⟩⟩
   ·rw [z26 (Ne.symm hj)] at e2
    obtain⟨u',r',q⟩:=hl j y v' e1 e2 e3
    refine⟨u',r',?_⟩
    rcases q with⟨k,e⟩| ⟨k,c,e,z⟩
    ·refine .inl ⟨k,?_⟩
     have:y≠x:=λe=>hj (nD hN e1 (e ▸ hi))
     simp [this,e]
    ·exact .inr ⟨k,c,e,z.sameBut hs (cne y c e)⟩
  ·obtain⟨w',z⟩:=I.cell y c e
   exact⟨w',z.sameBut hs (cne y c e)⟩
  ·obtain⟨e,n,ne,nf,d⟩:=I.pin p hp
   exact⟨(hs.2 p.1 ne).trans e,n,ne,nf,d⟩
 ·have hfn:X.fn x=true:=by
   rcases hf with z|z
   ·exact z
   ·rw [z] at hk;cases hk
  obtain⟨c,hc⟩:=I.ok.has x (.inl hk)
  obtain⟨w',z⟩:=I.cell x c hc
  refine wpAny_storeName_cell I.ok.kind hk hc z (λh' hc' hs=>?_)
  obtain⟨oc,hoc,hocd⟩:=id z
  refine h { s with heap:=h' } ⟨I.ok,I.os,I.bare,⟨λb o e n hb hx=>?_,λb o e n hb hx=>?_,I.base.free,λb o e hx=>?_,I.base.y4b7,I.base.y16e,I.base.y497⟩,⟨m,hn.sameBut hs (Ne.symm (cne x c hc)),λj y v' e1 e2 e3=>?_⟩,λy c' e=>?_,I.free,I.y16c,λp hp=>?_,tracked ⟨oc,hoc,I.y16c x c hc⟩ hs,by simpa using I.len⟩ ⟨c,hs,.inr hc⟩
  ·exact (hs.2 b (z27 (z1c (z14 e) (I.ok.cab x c hfn hc)))).trans (I.base.keep b o e n hb hx)
  ·obtain⟨sl,e1⟩:=I.base.slot b o e n hb hx
   exact⟨sl,(hs.2 b (z27 (z1c (z14 e) (I.ok.cab x c hfn hc)))).trans e1⟩
  ·obtain⟨o',e1⟩:=I.base.there b o e hx
   exact⟨o',(hs.2 b (z27 (z1c (z14 e) (I.ok.cab x c hfn hc)))).trans e1⟩
  ·by_cases hj:j=i
   ·subst hj
    rw [hi] at e1;cases e1
    rw [List.getElem?_set_self hiσ] at e2
    cases e2
    exact⟨u,r,.inr ⟨.inl hk,c,hc,hc'⟩⟩
   ·rw [z26 (Ne.symm hj)] at e2
    obtain⟨u',r',q⟩:=hl j y v' e1 e2 e3
    refine⟨u',r',?_⟩
    rcases q with q|⟨k,c',e,z'⟩
    ·exact .inl q
    ·refine .inr ⟨k,c',e,z'.sameBut hs ?_⟩
     rintro rfl
     exact hj (nD hN e1 (I.ok.inj _ _ _ e hc ▸ hi))
  ·by_cases hcc:c'=c
   ·subst hcc;exact⟨_,hc'⟩
   ·obtain⟨w2,z2⟩:=I.cell y c' e
    exact⟨w2,z2.sameBut hs hcc⟩
  ·obtain⟨e,n,ne,nf,d⟩:=I.pin p hp
   refine⟨(hs.2 p.1 ?_).trans e,n,ne,nf,d⟩
   intro q
   rw [q,hoc] at e
   have q':oc=p.2:=z20 e
   exact d w' (by rw [<- q'];exact hocd)
def nE{M:Model}{A:Around}{E:Value->Shared->Prop}{i:Nat}{x:Str}{v:V}{u:Value}{Q:Unit->Shared->Prop}(I:Inv X pins σ H s)(hN:X.N.Nodup)(hi:X.N[i]?=some x)(hx:qF X.env.scope x)(r:ay v u)
  (h:∀s',Inv X pins (σ.set i (some v)) H s'->Q () s') (hf:X.fn x=true∨X.env.scope.names.lookup x=some .local:=by first|exact .inl rfl|exact .inr rfl|assumption):wpAny M A (storeName X.env x u) Q E s :=
 rf I hN hi hx r (λs' I' _=>h s' I') hf
def Inv.ya2{s':Shared}{ch:List Addr}(I:Inv X pins σ H s)(ho:s'.os=s.os)(u:Un (fM X.stack) ch H H' s.heap s'.heap)(hok:cB X.prog X.w H' s'.heap)(hg:AllBare s'.gens)
  (hch:∀b∈ch,(b∈X.ex∨X.s₀.heap.objs.size≤b)/\b≠X.env.locals/\(∀x c,X.env.cells.lookup x=some c->c≠b)/\∀p∈X.pn++pins,p.1≠b):Inv X pins σ H' s':=by
 obtain⟨h',g',d',t',o'⟩:=s'
 have e:o'=s.os:=ho
 subst e
 exact I.call (g':=g') (t':=t') (d':=d') u hok hg hch
end
noncomputable abbrev XK:=Value->Option Addr->Hp->Prop
noncomputable abbrev St:=List (Option V)
noncomputable abbrev VK:=V->Hp->Prop
noncomputable abbrev TE:=St->Hp->VK->Prop
noncomputable abbrev TT:=St->Hp->(Bool->Hp->Prop)->Prop
noncomputable abbrev TA:=St->Hp->(List V->Hp->Prop)->Prop
structure Ends where
 nx:St->Hp->Prop
 rt:VK
 bk:St->Hp->Prop:=λ_ _=>False
 ct:St->Hp->Prop:=λ_ _=>False
noncomputable abbrev TS:=Ends->St->Hp->Prop
abbrev EP(X:Cx)(pins:List (Addr×Obj))(σ:St)(Q:VK)(u:Value)(s':Shared):Prop:=∃v H',Inv X pins σ H' s'/\ay v u/\Q v H'
abbrev TP(X:Cx)(pins:List (Addr×Obj))(σ:St)(Q:Bool->Hp->Prop)(b:Bool)(s':Shared):Prop:=∃H',Inv X pins σ H' s'/\Q b H'
abbrev AP(X:Cx)(pins:List (Addr×Obj))(σ:St)(Q:List V->Hp->Prop)(us:List Value)(s':Shared):Prop:=∃vs H',Inv X pins σ H' s'/\au vs us/\Q vs H'
abbrev SP(X:Cx)(pins:List (Addr×Obj))(D:Ends)(f:Flow)(s':Shared):Prop :=
 match f with
 | .next=>∃σ' H',Inv X pins σ' H' s'/\D.nx σ' H'
 | .brk=>∃σ' H',Inv X pins σ' H' s'/\D.bk σ' H'
 | .cont=>∃σ' H',Inv X pins σ' H' s'/\D.ct σ' H'
 | .ret u=>∃v σ' H',Inv X pins σ' H' s'/\ay v u/\D.rt v H'
abbrev PE(X:Cx)(e:Expr)(t:TE):Prop :=
 ∀(pins:List (Addr×Obj)) (s:Shared) (σ:St) (H:Hp) (Q:VK),Inv X pins σ H s->t σ H Q->wpAny (model X.prog X.w) X.A (eval e X.env) (EP X pins σ Q) X.xe s
abbrev PT(X:Cx)(e:Expr)(t:TT):Prop :=
 ∀(pins:List (Addr×Obj)) (s:Shared) (σ:St) (H:Hp) (Q:Bool->Hp->Prop),Inv X pins σ H s->t σ H Q->wpAny (model X.prog X.w) X.A (isTrue e X.env (eval e X.env)) (TP X pins σ Q) X.xe s
abbrev PW(X:Cx)(e:Expr)(t:TT):Prop :=
 ∀(whole:Sem Value) (pins:List (Addr×Obj)) (s:Shared) (σ:St) (H:Hp) (Q:Bool->Hp->Prop),Inv X pins σ H s->t σ H Q->wpAny (model X.prog X.w) X.A (isTrue e X.env whole) (TP X pins σ Q) X.xe s
def PW.pt{X:Cx}{e:Expr}{t:TT}(h:PW X e t):PT X e t:=h _
abbrev PA(X:Cx)(es:List Expr)(t:TA):Prop :=
 ∀(pos:Pos) (pins:List (Addr×Obj)) (s:Shared) (σ:St) (H:Hp) (Q:List V->Hp->Prop),Inv X pins σ H s->t σ H Q->wpAny (model X.prog X.w) X.A (spliced (backTo pos (starEach es X.env))) (AP X pins σ Q) X.xe s
abbrev PS(X:Cx)(st:Stmt)(t:TS):Prop :=
 ∀(pins:List (Addr×Obj)) (s:Shared) (σ:St) (H:Hp) (D:Ends),Inv X pins σ H s->t D σ H->wpAny (model X.prog X.w) X.A (exec st X.env) (SP X pins D) X.xe s
abbrev dI(X:Cx)(st:List Stmt)(t:TS):Prop :=
 ∀(pins:List (Addr×Obj)) (s:Shared) (σ:St) (H:Hp) (D:Ends),Inv X pins σ H s->t D σ H->wpAny (model X.prog X.w) X.A (execs st X.env) (SP X pins D) X.xe s
def aO{α:Type}{t:Sem α}{Q Q':α->Shared->Prop}{M:Model}{A:Around}{E:Value->Shared->Prop}{s:Shared}(h:wpAny M A t Q E s)(hQ:∀a s,Q a s->Q' a s):wpAny M A t Q' E s:=wpAny_mono h hQ λ_ _ x=>x
end
section
section
variable {X:Cx}
def bin{a b:Expr}{ta tb:TE}(ha:PE X a ta)(hb:PE X b tb){pins:List (Addr×Obj)}{s:Shared}{σ:St}{H:Hp}{R:V->V->Hp->Prop}(I:Inv X pins σ H s)(h:ta σ H λx H1=>tb σ H1 λy H2=>R x y H2)
  {α:Type} {Q:α->Shared->Prop} {f:Value->Value->Sem α}
  (hf:∀v u s2 x y H2,Inv X pins σ H2 s2->ay x v->ay y u->R x y H2->wpAny (model X.prog X.w) X.A (f v u) Q X.xe s2) :
  wpAny (model X.prog X.w) X.A (eval a X.env) (λv s₁=>wpAny (model X.prog X.w) X.A (eval b X.env) (λu s₂=>wpAny (model X.prog X.w) X.A (f v u) Q X.xe s₂) X.xe s₁) X.xe s:=by
 refine aO (ha pins s σ H _ I h) λv s1 zz=>?_
 obtain⟨x,H1,I1,r1,q1⟩:=zz
 refine aO (hb pins s1 σ H1 _ I1 q1) λu s2 zz=>?_
 obtain⟨y,H2,I2,r2,q2⟩:=zz
 exact hf v u s2 x y H2 I2 r1 r2 q2
abbrev cR(i:Nat):TE:=λσ H Q=>∃v,σ[i]?=some (some v)/\Q v H
abbrev tC(v:V):TE:=λ_ H Q=>Q v H
def eD{i:Nat}{x:Str}{pos:Pos}(hN:X.N[i]?=some x)(hv:Al X.env.scope x)(hd:(x == ("__debug__" : Str))=false:=by decide)(hcd:(x == ("__classdict__" : Str))=false:=by decide):PE X (.Name x pos) (cR i):=by
 intro pins s σ H Q I h
 obtain⟨v,e,h⟩:=h
 obtain⟨m,hn,hl⟩:=I.loc
 obtain⟨u,r,l⟩:=hl i x v hN e hv
 have fin:EP X pins σ Q u s:=⟨v,H,I,r,h⟩
 rcases l with⟨hk,hm⟩| ⟨hk,c,hc,y1ad⟩
 ·exact wpAny_Name (wpAny_loadName_local I.ok.kind hk hn hm fin) hd
 ·rcases hk with hk|hk
  ·exact wpAny_Name (wpAny_loadName_cell I.ok.kind hk hc y1ad fin) hd
  ·exact wpAny_Name (wpAny_loadName_free I.ok.kind hk hc y1ad fin hcd) hd
def nF{i j pos}:PE X (.Constant (.int i) j pos) (tC (.int i)):=λ_ _ _ H _ I h=>wpAny_Constant_int ⟨.int i,H,I.tok _,⟨_,rfl⟩,h⟩
def rg{b j pos}:PE X (.Constant (.bool b) j pos) (tC (.bl b)):=λ_ _ _ H _ I h=>Constant_bool ⟨.bl b,H,I,rfl,h⟩
def Bj{j pos}:PE X (.Constant .none j pos) (tC .non):=λ_ _ _ H _ I h=>Constant_none ⟨.non,H,I,rfl,h⟩
def rh{x j pos}:PE X (.Constant (.str x) j pos) (tC (.str x)):=λ_ _ _ H _ I h=>Calls.Constant_str ⟨.str x,H,I.tok _,⟨_,rfl⟩,h⟩
abbrev Gl(X:Cx)(x:Str):Prop:=X.env.kindOf x=some .globalImplicit
def jj{E:Value->Shared->Prop}{pins:List (Addr×Obj)}{s:Shared}{σ:St}{H:Hp}{x:Str}{u:Value}{pos:Pos}{Q:Value->Shared->Prop}(I:Inv X pins σ H s)(hg:Gl X x)(hm:X.mg x=some u)(h:Q u s)
  (hd:(x == ("__debug__" : Str))=false:=by decide):wpAny (model X.prog X.w) X.A (eval (.Name x pos) X.env) Q E s :=
 Calls.Name_function_global I.ok.kind hg (Calls.loadGlobal_global (by rw [I.ok.glob];exact I.mod.glob.keeps I.bk) hm h) hd
def gP{E:Value->Shared->Prop}{pins:List (Addr×Obj)}{s:Shared}{σ:St}{H:Hp}{x:Str}{u:Value}{pos:Pos}{Q:Value->Shared->Prop}(I:Inv X pins σ H s)(hg:Gl X x)(hm:X.mg x=none)(hv:bootBuiltins x=some u)(h:Q u s)
  (hn:x≠"__name__":=by decide) (hd:(x == ("__debug__" : Str))=false:=by decide):wpAny (model X.prog X.w) X.A (eval (.Name x pos) X.env) Q E s:=by
 obtain⟨mb,h1,h2⟩:=I.mod.blt
 exact Calls.Name_function_global I.ok.kind hg (Calls.loadGlobal_builtin (by rw [I.ok.glob];exact I.mod.glob.keeps I.bk) hm (by rw [I.ok.blt];exact h1.keeps I.bk) ((h2 x hn).trans hv) h) hd
def jk{x:Str}{v:V}{u:Value}{pos:Pos}(hg:Gl X x)(hm:X.mg x=some u)(r:ay v u)(hd:(x == ("__debug__" : Str))=false:=by decide):PE X (.Name x pos) (tC v) :=
 λ_ _ _ H _ I h=>jj I hg hm ⟨v,H,I,r,h⟩ hd
def nG{x:Str}{v:V}{u:Value}{pos:Pos}(hg:Gl X x)(hm:X.mg x=none)(hv:bootBuiltins x=some u)(r:ay v u)(hn:x≠"__name__":=by decide)(hd:(x == ("__debug__" : Str))=false:=by decide):PE X (.Name x pos) (tC v) :=
 λ_ _ _ H _ I h=>gP I hg hm hv ⟨v,H,I,r,h⟩ hn hd
variable {a b:Expr}{ta tb:TE}{pos:Pos}
abbrev PC(X:Cx)(op:CmpOp)(a b:Expr)(t:TE):Prop :=
 ∀(pins:List (Addr×Obj)) (s:Shared) (σ:St) (H:Hp) (Q:VK),Inv X pins σ H s->t σ H Q ->
  wpAny (model X.prog X.w) X.A (eval a X.env) (λv s₁=>wpAny (model X.prog X.w) X.A (eval b X.env) (λu s₂=>wpAny (model X.prog X.w) X.A (compareOp op v u) (EP X pins σ Q) X.xe s₂) X.xe s₁) X.xe s
def rj(b:Expr){op:CmpOp}(h:op≠.In)(h2:op≠.NotIn):behindInMarks op b=false:=by
 have e1:(op == CmpOp.In)=false:=by cases op<;>first|rfl|exact absurd rfl h
 have e2:(op == CmpOp.NotIn)=false:=by cases op<;>first|rfl|exact absurd rfl h2
 cases b<;>simp [behindInMarks,e1,e2]
abbrev Bk(ta:TE):TE:=λσ H Q=>ta σ H λx H1=>Q (.bl (decide (x=.non))) H1
abbrev rl(ta:TE):TE:=λσ H Q=>ta σ H λx H1=>Q (.bl (!decide (x=.non))) H1
def ay.y293{x:V}{v:Value}(r:ay x v):(v == Value.none)=decide (x=.non):=by
 cases x with
 | non=>cases r;rfl
 | bl _=>cases r;rfl
 | int _=>obtain⟨t,rfl⟩:=r;rfl
 | str _=>obtain⟨t,rfl⟩:=r;rfl
 | byt _=>obtain⟨t,rfl⟩:=r;rfl
 | flt _=>obtain⟨t,rfl⟩:=r;rfl
 | ref _=>cases r;rfl
 | ty _=>cases r;rfl
def Bl{j pos'}(ha:PE X a ta):PC X .Is a (.Constant .none j pos') (Bk ta):=by
 intro pins s σ H Q I h
 refine aO (ha pins s σ H _ I h) λv s1 zz=>?_
 obtain⟨x,H1,I1,r1,q1⟩:=zz
 exact Constant_none (is_none_gen ⟨.bl _,H1,I1,by rw [r1.y293];rfl,q1⟩)
def Bm{j pos'}(ha:PE X a ta):PC X .IsNot a (.Constant .none j pos') (rl ta):=by
 intro pins s σ H Q I h
 refine aO (ha pins s σ H _ I h) λv s1 zz=>?_
 obtain⟨x,H1,I1,r1,q1⟩:=zz
 exact Constant_none (isnot_none_gen ⟨.bl _,H1,I1,by rw [r1.y293];rfl,q1⟩)
abbrev tB(t:TE):TT:=λσ H Q=>t σ H λx H1=>∃c,x=.bl c/\Q c H1
def Bo{op:CmpOp}{t:TE}(h:PC X op a b t)(h1:behindInMarks op b=false:=by first|exact rj _ (by decide) (by decide)|rfl):PE X (.Compare a [op] [b] pos) t:=λpins s σ H Q I hw=>wpAny_Compare1 (h pins s σ H Q I hw) h1
def kG{op:CmpOp}{t:TE}(h:PC X op a b t)(h1:behindInMarks op b=false:=by first|exact rj _ (by decide) (by decide)|rfl):PT X (.Compare a [op] [b] pos) (tB t):=by
 intro pins s σ H Q I hw
 refine wpAny_isTrue_Compare1 (aO (h pins s σ H _ I hw) λv s1 h1=>aO h1 λu s2 h2=>aO h2 λc s3 ⟨x,H1,I1,r1,q1⟩=>?_) h1
 obtain⟨d,rfl,q⟩:=q1
 cases r1
 exact wpAny_truthy_bool ⟨H1,I1,q⟩
variable {tA tB':TT}{aA:List Expr}
abbrev rn(t u:TT):TT:=λσ H Q=>t σ H λc H1=>if c=true then u σ H1 Q else Q false H1
abbrev tOr(t u:TT):TT:=λσ H Q=>t σ H λc H1=>if c=true then Q true H1 else u σ H1 Q
abbrev rq(t:TT):TT:=λσ H Q=>t σ H λc H1=>Q (!c) H1
def kH(ha:PT X a tA):PW X (.BoolOp .And [a] pos) tA:=by
 intro wh pins s σ H Q I h
 refine isTrue_and (aO (ha pins s σ H Q I h) λc s1 e=>?_)
 cases c with
 | true=>exact isTrue_and_nil e
 | false=>exact e
def nH(ha:PT X a tA):PW X (.BoolOp .Or [a] pos) tA:=by
 intro wh pins s σ H Q I h
 refine isTrue_or (aO (ha pins s σ H Q I h) λc s1 e=>?_)
 cases c with
 | false=>exact isTrue_or_nil e
 | true=>exact e
def nI(ha:PT X a tA)(hb:PW X (.BoolOp .And (b::aA) pos) tB'):PW X (.BoolOp .And (a::b::aA) pos) (rn tA tB'):=by
 intro wh pins s σ H Q I h
 refine isTrue_and (aO (ha pins s σ H _ I h) λc s1 zz=>?_)
 obtain⟨H1,I1,q1⟩:=zz
 cases c with
 | true=>exact hb wh pins s1 σ H1 Q I1 q1
 | false=>exact⟨H1,I1,q1⟩
def rz(ha:PT X a tA)(hb:PW X (.BoolOp .Or (b::aA) pos) tB'):PW X (.BoolOp .Or (a::b::aA) pos) (tOr tA tB'):=by
 intro wh pins s σ H Q I h
 refine isTrue_or (aO (ha pins s σ H _ I h) λc s1 zz=>?_)
 obtain⟨H1,I1,q1⟩:=zz
 cases c with
 | true=>exact⟨H1,I1,q1⟩
 | false=>exact hb wh pins s1 σ H1 Q I1 q1
def Bp(ha:PT X a tA):PT X (.UnaryOp .Not a pos) (rq tA):=by
 intro pins s σ H Q I h
 exact isTrue_not (ha pins s σ H (λc H1=>Q (!c) H1) I h)
abbrev rA(ta tb:TE):TE:=λσ H Q=>ta σ H λx H1=>∃c,x=.bl c/\if c=true then Q (.bl true) H1 else tb σ H1 Q
def y32b{op}{t:TE}(h:PE X a t):PE X (.BoolOp op [a] pos) t:=λpins s σ H Q I hw=>BoolOp_one (h pins s σ H Q I hw)
def jm(ha:PE X a ta)(hb:PE X (.BoolOp .Or (b::aA) pos) tb):PE X (.BoolOp .Or (a::b::aA) pos) (rA ta tb):=by
 intro pins s σ H Q I h
 refine BoolOp_or (aO (ha pins s σ H _ I h) λv s1 zz=>?_)
 obtain⟨x,H1,I1,r1,q1⟩:=zz
 obtain⟨c,rfl,q1⟩:=q1
 cases r1
 refine wpAny_truthy_bool ?_
 cases c with
 | false=>exact hb pins s1 σ H1 Q I1 q1
 | true=>exact⟨.bl true,H1,I1,rfl,q1⟩
end
end
section
abbrev bw(K:W.Frag)(H:Hp)(a:Addr)(xs:List V):Prop :=
 Rd H a (.lst xs) ∨
  ∃(o:Obj) (its:Array Value) (n:Nat),K.lookup a=some o/\o.cls=.type "list"/\o.dict=none/\o.data=.seq its n/\its.size≤sizeLine/\au xs its.toList
abbrev bb(K:W.Frag)(H:Hp)(a:Addr)(xs:List V):Prop :=
 Rd H a (.tup xs) ∨
  ∃(o:Obj) (its:Array Value) (n:Nat),K.lookup a=some o/\o.cls=.type "tuple"/\o.data=.seq its n/\its.size≤sizeLine/\au xs its.toList
abbrev Bq:Value->Option V
 | .none=>some .non
 | .bool b=>some (.bl b)
 | .int i _=>some (.int i)
 | .str x _=>some (.str x)
 | .bytes b _=>some (.byt b)
 | .float b _=>some (.flt b)
 | .ref a=>some (.ref a)
 | .type n=>some (.ty n)
 | _=>none
def ay.abs{x:V}{u:Value}(r:ay x u):Bq u=some x:=by
 cases x with
 | non=>cases r;rfl
 | bl _=>cases r;rfl
 | int _=>obtain⟨t,rfl⟩:=r;rfl
 | str _=>obtain⟨t,rfl⟩:=r;rfl
 | byt _=>obtain⟨t,rfl⟩:=r;rfl
 | flt _=>obtain⟨t,rfl⟩:=r;rfl
 | ref _=>cases r;rfl
 | ty _=>cases r;rfl
def ay.inj{x y:V}{u:Value}(r:ay x u)(q:ay y u):x=y:=z20 (r.abs.symm.trans q.abs)
theorem au.inj:∀{xs ys:List V} {us:List Value},au xs us->au ys us->xs=ys
 | _,_,_,.nil,.nil=>rfl
 | _,_,_,.cons r t,.cons r' t'=>by rw [r.inj r',au.inj t t']
section
variable {X:Cx}{pins:List (Addr×Obj)}{σ:St}{H:Hp}{s:Shared}{a:Addr}{xs ys:List V}
def bw.of{K:W.Frag}(h:H a=some (.lst xs)):bw K H a xs:=.inl (.inl h)
def bb.of{K:W.Frag}(h:H a=some (.tup xs)):bb K H a xs:=.inl (.inl h)
def Inv.list(I:Inv X pins σ H s)(h:bw X.K H a xs):∃its:List Value,au xs its/\PlainL s.heap a its.toArray/\xs.length≤sizeLine:=by
 rcases h with h|⟨o,its,n,hk,hc,hd,hs,hz,r⟩
 ·obtain⟨z,its,n,r,e⟩:=h.ok I.hok
  exact⟨its,r,⟨_,n,e,rfl,rfl,rfl⟩,z⟩
 ·refine⟨its.toList,r,⟨o,n,I.kIn a o hk,hc,hd,by simpa using hs⟩,?_⟩
  have e:=r.length
  simp only [Array.length_toList] at e
  lia
def Inv.tuple(I:Inv X pins σ H s)(h:bb X.K H a xs):∃its:List Value,au xs its/\IsTup s.heap a its.toArray/\xs.length≤sizeLine:=by
 rcases h with h|⟨o,its,n,hk,hc,hs,hz,r⟩
 ·obtain⟨z,its,r,p⟩:=h.ok I.hok
  exact⟨its,r,p.tup,z⟩
 ·refine⟨its.toList,r,⟨o,I.kIn a o hk,hc,n,by simpa using hs⟩,?_⟩
  have e:=r.length
  simp only [Array.length_toList] at e
  lia
def Inv.y241(I:Inv X pins σ H s)(h:bw X.K H a xs)(h':bw X.K H a ys):xs=ys:=by
 obtain⟨its,r,⟨o,n,e,_,_,d⟩,_⟩:=I.list h
 obtain⟨its',r',⟨o',n',e',_,_,d'⟩,_⟩:=I.list h'
 rw [e] at e';cases e'
 rw [d] at d'
 injection d' with d1 _
 have:its=its':=by simpa using congrArg Array.toList d1
 subst this
 exact r.inj r'
def Inv.y4b6(I:Inv X pins σ H s)(h:bb X.K H a xs)(h':bb X.K H a ys):xs=ys:=by
 obtain⟨its,r,⟨o,e,_,n,d⟩,_⟩:=I.tuple h
 obtain⟨its',r',⟨o',e',_,n',d'⟩,_⟩:=I.tuple h'
 rw [e] at e';cases e'
 rw [d] at d'
 injection d' with d1 _
 have:its=its':=by simpa using congrArg Array.toList d1
 subst this
 exact r.inj r'
end
noncomputable abbrev Cx.y519(X:Cx)(E:Value->Shared->Prop):Cx:={ X with xe:=E }
noncomputable abbrev Cx.nox(X:Cx):Cx:=X.y519 λ_ _=>False
theorem Cx.Ok.y519{X:Cx}(ok:X.Ok)(E:Value->Shared->Prop):(X.y519 E).Ok :=
 ⟨ok.mod,ok.kind,ok.glob,ok.blt,ok.above,ok.inj,ok.has,ok.cab,ok.hd,ok.frames,ok.stk,ok.exf,ok.bs,ok.bsz,ok.y28f,ok.y144,ok.y170,ok.frf⟩
def Cx.Ok.y4ca{X:Cx}{E:Value->Shared->Prop}(ok:(X.y519 E).Ok):X.Ok :=
 ⟨ok.mod,ok.kind,ok.glob,ok.blt,ok.above,ok.inj,ok.has,ok.cab,ok.hd,ok.frames,ok.stk,ok.exf,ok.bs,ok.bsz,ok.y28f,ok.y144,ok.y170,ok.frf⟩
section
variable {X:Cx}{pins:List (Addr×Obj)}{σ:St}{H:Hp}{s:Shared}{E:Value->Shared->Prop}
theorem Inv.y519(I:Inv X pins σ H s)(E:Value->Shared->Prop):Inv (X.y519 E) pins σ H s:=⟨I.ok.y519 E,I.os,I.bare,I.base,I.loc,I.cell,I.free,I.y16c,I.pin,I.hok,I.len⟩
theorem Inv.y4ca(I:Inv (X.y519 E) pins σ H s):Inv X pins σ H s:=⟨I.ok.y4ca,I.os,I.bare,I.base,I.loc,I.cell,I.free,I.y16c,I.pin,I.hok,I.len⟩
theorem SP.y4ca{D:Ends}{f:Flow}{s':Shared}(h:SP (X.y519 E) pins D f s'):SP X pins D f s':=by
 cases f with
 | next=>obtain⟨σ',H',I,q⟩:=h;exact⟨σ',H',I.y4ca,q⟩
 | brk=>obtain⟨σ',H',I,q⟩:=h;exact⟨σ',H',I.y4ca,q⟩
 | cont=>obtain⟨σ',H',I,q⟩:=h;exact⟨σ',H',I.y4ca,q⟩
 | ret u=>obtain⟨v,σ',H',I,r,q⟩:=h;exact⟨v,σ',H',I.y4ca,r,q⟩
theorem dI.nox{st:List Stmt}{t:TS}(h:dI X.nox st t):dI X st t:=λpins s σ H D I hw =>
 wpAny_mono (h pins s σ H D (I.y519 _) hw) (λ_ _ q=>q.y4ca) λ_ _ z=>False.elim z
end
section
variable {X:Cx}{st:Stmt}{aA:List Stmt}{t u:TS}{e:Expr}{te:TE}{pos:Pos}
abbrev rB:TS:=λD σ H=>D.nx σ H
abbrev kI(t u:TS):TS:=λD σ H=>t { D with nx:=u D } σ H
def Br:dI X [] rB:=λ_ _ σ H _ I h=>wpAny_execs_nil ⟨σ,H,I,h⟩
def iC(h1:PS X st t)(h2:dI X aA u):dI X (st::aA) (kI t u):=by
 intro pins s σ H D I h
 refine wpAny_execs_cons (aO (h1 pins s σ H { D with nx:=u D } I h) λf s1 q=>?_)
 cases f with
 | next =>
  obtain⟨σ',H',I',q⟩:=q
  exact h2 pins s1 σ' H' D I' q
 | ret v=>exact q
 | brk=>exact q
 | cont=>exact q
def iD(h1:PS X st t):dI X [st] t:=by
 intro pins s σ H D I h
 refine wpAny_execs_cons (aO (h1 pins s σ H D I h) λf s1 q=>?_)
 cases f with
 | next=>exact wpAny_execs_nil q
 | ret v=>exact q
 | brk=>exact q
 | cont=>exact q
def Inv.quiet{pins:List (Addr×Obj)}{σ:St}{H:Hp}{s:Shared}(I:Inv X pins σ H s):interactive X.env=false:=by simp [interactive,I.ok.kind]
abbrev nJ(te:TE):TS:=λD σ H=>te σ H λ_ H1=>D.nx σ H1
def kJ(he:PE X e te)(hs:‹swapsWith e none pos.line X.env=pure false›):PS X (.Expr e pos) (nJ te):=by
 intro pins s σ H D I h
 exact wpAny_Expr_any (aO (he pins s σ H _ I h) λv s1 ⟨x,H1,I1,r1,q1⟩=>⟨σ,H1,I1,q1⟩) I.quiet hs
abbrev rC(te:TE):TS:=λD σ H=>te σ H D.rt
def rD(he:PE X e te):PS X (.Return (some e) pos) (rC te):=by
 intro pins s σ H D I h
 exact wpAny_Return_some (aO (he pins s σ H _ I h) λv s1 ⟨x,H1,I1,r1,q1⟩=>⟨x,σ,H1,I1,r1,q1⟩)
abbrev nK(c:TT)(t u:TS):TS:=λD σ H=>c σ H λb H1=>if b=true then t D σ H1 else u D σ H1
def rE{c:Expr}{a b:List Stmt}{tc:TT}(hc:PT X c tc)(ha:dI X a t)(hb:dI X b u):PS X (.If c a b pos) (nK tc t u):=by
 intro pins s σ H D I h
 refine wpAny_If (aO (hc pins s σ H _ I h) λd s1 zz=>?_)
 obtain⟨H1,I1,q1⟩:=zz
 cases d with
 | true=>exact ha pins s1 σ H1 D I1 q1
 | false=>exact hb pins s1 σ H1 D I1 q1
end
noncomputable abbrev TG:=V->St->Hp->(St->Hp->Prop)->Prop
noncomputable abbrev nL:=List V->St->Hp->(St->Hp->Prop)->Prop
abbrev PG(X:Cx)(target:Expr)(t:TG):Prop :=
 ∀(pins:List (Addr×Obj)) (s:Shared) (σ:St) (H:Hp) (v:V) (u:Value) (Q:St->Hp->Prop),Inv X pins σ H s->ay v u->t v σ H Q ->
  wpAny (model X.prog X.w) X.A (assign target X.env u) (λ_ s'=>∃σ' H',Inv X pins σ' H' s'/\Q σ' H') X.xe s
abbrev Am(X:Cx)(ts:List Expr)(t:nL):Prop :=
 ∀(pins:List (Addr×Obj)) (s:Shared) (σ:St) (H:Hp) (vs:List V) (us:List Value) (Q:St->Hp->Prop),Inv X pins σ H s->au vs us->t vs σ H Q ->
  wpAny (model X.prog X.w) X.A (assignInOrder ((assignEach ts X.env).map (·.2)) us) (λ_ s'=>∃σ' H',Inv X pins σ' H' s'/\Q σ' H') X.xe s
noncomputable abbrev nM:=V->V->V->Hp->(Hp->Prop)->Prop
abbrev rF(X:Cx)(t:nM):Prop :=
 ∀(pins:List (Addr×Obj)) (s:Shared) (σ:St) (H:Hp) (o i v:V) (ov iv u:Value) (Q:Hp->Prop),Inv X pins σ H s->ay o ov->ay i iv->ay v u->t o i v H Q ->
  wpAny (model X.prog X.w) X.A (setItem ov iv u) (λ_ s'=>∃H',Inv X pins σ H' s'/\Q H') X.xe s
section
variable {X:Cx}{pos:Pos}
abbrev gQ(i:Nat):TG:=λv σ H Q=>Q (σ.set i (some v)) H
def jo{i:Nat}{x:Str}(hN:X.N.Nodup)(hi:X.N[i]?=some x)(hx:qF X.env.scope x)(hf:X.fn x=true∨X.env.scope.names.lookup x=some .local:=by first|exact .inl rfl|exact .inr rfl|assumption):PG X (.Name x pos) (gQ i):=by
 intro pins s σ H v u Q I r h
 exact wpAny_assign_Name (nE I hN hi hx r (λs' I'=>⟨_,H,I',h⟩) hf)
abbrev rG:nL:=λvs σ H Q=>vs=[]/\Q σ H
abbrev nN(t:TG)(u:nL):nL:=λvs σ H Q=>∃v r,vs=v::r/\t v σ H λσ' H'=>u r σ' H' Q
def Bs:Am X [] rG:=by
 intro pins s σ H vs us Q I r h
 obtain⟨e,h⟩:=h
 subst e
 cases r
 exact assignInOrder_nil ⟨σ,H,I,h⟩
def rH{e:Expr}{es:List Expr}{t:TG}{u:nL}(h1:PG X e t)(h2:Am X es u)
  (hs:‹(assignEach (e::es) X.env).map (·.2)=assign e X.env::(assignEach es X.env).map (·.2)›):Am X (e::es) (nN t u):=by
 intro pins s σ H vs us Q I r h
 obtain⟨v,vr,e1,h⟩:=h
 subst e1
 cases r with
 | cons r rr =>
  rw [hs]
  refine assignInOrder_cons (aO (h1 pins s σ H _ _ _ I r h) λ_ s1 zz=>?_)
  obtain⟨σ1,H1,I1,q1⟩:=zz
  exact h2 pins s1 σ1 H1 _ _ Q I1 rr q1
abbrev rJ(K:W.Frag)(n:Nat)(t:nL):TG:=λv σ H Q=>∃a xs,v=.ref a/\bb K H a xs/\xs.length=n/\t xs σ H Q
def Bt{es:List Expr}{k:Nat}{t:nL}{n:Nat}(hc:X.calm=true)(h:Am X es t)
  (hn:‹(assignEach es X.env).length=n›) (hst:‹(assignEach es X.env).findIdx? (·.1)=none›):PG X (.Tuple es k pos) (rJ X.K n t):=by
 intro pins s σ H v u Q I r hw
 obtain⟨a,xs,e1,hq,hl,hw⟩:=hw
 subst e1
 cases r
 obtain⟨its,rv,ht,hz⟩:=I.tuple hq
 refine assign_Tuple_tuple (I.ok.hd hc) ht (by simp [hn,<- hl,rv.length]) hst λh' hx=>?_
 have I1:Inv X pins σ H { s with heap:=h' }:=I.kept (t':=s.toks) λb o e=>hx b o (z27 (z14 e)) e
 exact h pins _ σ H xs _ Q I1 (by simpa using rv) hw
abbrev kK(to ti:TE)(t:nM):TG:=λv σ H Q=>to σ H λo H1=>ti σ H1 λi H2=>t o i v H2 λH3=>Q σ H3
def nP{o i:Expr}{to ti:TE}{t:nM}(ho:PE X o to)(hi:PE X i ti)(hs:rF X t)
  (ha:∀v,assign (.Subscript o i pos) X.env v=(do
   let ov <- holding [v] (eval o X.env)
   let iv <- holding [v,ov] (eval i X.env)
   standAt pos
   holding [v,ov,iv] (setItem ov iv v)
   release [v,ov,iv] []):=by intro _;rfl):PG X (.Subscript o i pos) (kK to ti t):=by
 intro pins s σ H v u Q I r h
 rw [ha]
 refine za (wpAny_holding (aO (ho pins s σ H _ I h) λov s1 zz=>?_))
 obtain⟨x,H1,I1,r1,q1⟩:=zz
 refine za (wpAny_holding (aO (hi pins s1 σ H1 _ I1 q1) λiv s2 zz=>?_))
 obtain⟨y,H2,I2,r2,q2⟩:=zz
 refine za (wpAny_standAt (za (wpAny_holding (aO (hs pins s2 σ H2 x y v ov iv u _ I2 r1 r2 r q2) λ_ s3 zz=>?_))))
 obtain⟨H3,I3,q3⟩:=zz
 exact wpAny_release ⟨σ,H3,I3,q3⟩
abbrev fQ(te:TE)(g:TG):TS:=λD σ H=>te σ H λx H1=>g x σ H1 D.nx
def iE{tg e:Expr}{te:TE}{g:TG}(he:PE X e te)(hg:PG X tg g)(hs:‹swapsWithSole [tg] e pos.line X.env=pure false›)(hw:‹swappedStores [tg] e X.env=pure none›)
  (h1:‹(assignEach [tg] X.env).map (·.2)=[assign tg X.env]›):PS X (.Assign [tg] e pos) (fQ te g):=by
 intro pins s σ H D I h
 refine wpAny_Assign_stores (aO (he pins s σ H _ I h) λv s1 ⟨x,H1,I1,r1,q1⟩=>?_) hs hw
 rw [h1]
 exact aO (hg pins s1 σ H1 x v _ I1 r1 q1) λ_ s2 q=>q
def Bu{i:Nat}{x:Str}{e:Expr}{te:TE}{pos':Pos}(hN:X.N.Nodup)(hi:X.N[i]?=some x)(hx:qF X.env.scope x)(he:PE X e te)(hs:‹swapsWith e (some (.Name x pos')) pos.line X.env=pure false›)(hf:X.fn x=true∨X.env.scope.names.lookup x=some .local:=by first|exact .inl rfl|exact .inr rfl|assumption) :
  PS X (.Assign [.Name x pos'] e pos) (fQ te (gQ i)):=by
 intro pins s σ H D I h
 refine wpAny_Assign_Name (aO (he pins s σ H _ I h) λv s1 ⟨y,H1,I1,r1,q1⟩=>?_) hs
 exact nE I1 hN hi hx r1 (λs2 I2=>⟨_,H1,I2,q1⟩) hf
end
section
variable {X:Cx}{pos:Pos}
abbrev rK(c:TT)(tb:TS):TS:=λD σ H=>∃W:Nat->St->Hp->Prop,(∃m,W m σ H)/\∀m σ H,W m σ H ->
 c σ H λb H1=>if b=true then ∃N:St->Hp->Prop,(∀σ' H',N σ' H'->∃m',m'<m/\W m' σ' H')/\tb { D with nx:=N,ct:=N,bk:=D.nx } σ H1 else D.nx σ H1
def Bv{c:Expr}{body:List Stmt}{tc:TT}{tb:TS}(hp:PassesOwn (model X.prog X.w) X.A X.env X.xe)(hc:PT X c tc)(hb:dI X body tb):PS X (.While c body [] pos) (rK tc tb):=by
 intro pins s σ H D I h
 obtain⟨W,⟨m0,w0⟩,turn⟩:=h
 refine wpAny_While (codeAny_whileLoop (λn s'=>∃σ' H',Inv X pins σ' H' s'/\W n σ' H') ?_ m0 ⟨σ,H,I,w0⟩)
 rintro n s1 ⟨σ1,H1,I1,w1⟩
 refine wpAny_passesOwn hp (aO (hc pins s1 σ1 H1 _ I1 (turn n σ1 H1 w1)) λb s2 zz=>?_)
 obtain⟨H2,I2,q2⟩:=zz
 cases b with
 | true =>
  obtain⟨N,hN,q2⟩:=q2
  rw [if_pos rfl]
  refine wpAny_passesOwn hp (aO (hb pins s2 σ1 H2 _ I2 q2) λf s3 q3=>?_)
  cases f with
  | next =>
   obtain⟨σ3,H3,I3,n3⟩:=q3
   obtain⟨m',hm,w3⟩:=hN σ3 H3 n3
   exact⟨m',hm,σ3,H3,I3,w3⟩
  | cont =>
   obtain⟨σ3,H3,I3,n3⟩:=q3
   obtain⟨m',hm,w3⟩:=hN σ3 H3 n3
   exact⟨m',hm,σ3,H3,I3,w3⟩
  | brk=>exact q3
  | ret v=>exact q3
 | false =>
  rw [if_neg z13]
  exact wpAny_execs_nil ⟨σ1,H2,I2,q2⟩
end
structure It where
 go:Nat->Hp->Prop
 yld:Nat->Hp->V->Hp->Prop
 stop:Nat->Hp->Prop
abbrev iF(X:Cx)(pins:List (Addr×Obj))(H:Hp)(b:Addr):Prop :=
 H b=none/\b≠X.env.locals/\b∉X.fs/\(b∈X.ex∨X.s₀.heap.objs.size≤b)/\(∀x c,X.env.cells.lookup x=some c->c≠b)/\∀p∈X.pn++pins,p.1≠b
def Inv.y16b{X:Cx}{pins:List (Addr×Obj)}{σ:St}{H H':Hp}{s:Shared}{b:Addr}(I:Inv X pins σ H s)(hb:s.heap.objs.size≤b)(hn:H' b=none):iF X pins H' b:=by
 refine⟨hn,Nat.ne_of_gt (z1c I.lt hb),I.nofs hb,.inr (z1a I.sz hb),λx c e z=>?_,λp hp z=>?_⟩
 ·obtain⟨v,q⟩:=I.cell x c e
  exact absurd (z1c q.lt (by rw [z];exact hb)) (z32 _)
 ·exact absurd (z1c (z14 (I.pin p hp).1) (by rw [z];exact hb)) (z32 _)
structure Turn(P:Program)(w:World)(K:W.Frag)(tg:Expr)(J:It)(fp:List Addr)(it:Addr)(tn:Nat->Heap->Prop):Prop where
 mem:it∈fp
 obj:∀i h,tn i h->∀b∈fp,∃o,h.get? b=some o/\∀v,o.data≠.cell v
 keep:∀i h h',tn i h->(∀b∈fp,∀o,h.get? b=some o->h'.get? b=some o)->tn i h'
 item:∀(X:Cx),X.prog=P->X.w=w->X.K=K->X.calm=true->∀(i:Nat) (pins:List (Addr×Obj)) (s:Shared) (σ:St) (H:Hp) (E:Value->Shared->Prop),Inv X pins σ H s->(∀b∈fp,iF X pins H b)->tn i s.heap->J.go i H ->
  wpAny (model P w) X.A (pyNext (.ref it)) (λr s1=>∃u,r=some u /\
   wpAny (model P w) X.A (letOwnedTupleGo tg (.ref it) u) (λ_ s2=>∃x H',Inv X pins σ H' s2/\ay x u/\J.yld i H x H'/\tn (i+1) s2.heap/\∀b∈fp,H' b=none) E s1) E s
 done:∀(X:Cx),X.prog=P->X.w=w->X.K=K->X.calm=true->∀(i:Nat) (pins:List (Addr×Obj)) (s:Shared) (σ:St) (H:Hp) (E:Value->Shared->Prop),Inv X pins σ H s->(∀b∈fp,iF X pins H b)->tn i s.heap->J.stop i H ->
  wpAny (model P w) X.A (pyNext (.ref it)) (λr s1=>r=none/\Inv X pins σ H s1) E s
 self:∀(A:Around) (i:Nat) (s:Shared) (Q:Value->Shared->Prop) (E:Value->Shared->Prop),tn i s.heap->Q (.ref it) s->wpAny (model P w) A (pyIter (.ref it)) Q E s
noncomputable abbrev TI:=St->Hp->(It->Hp->Prop)->Prop
abbrev Bw(X:Cx)(pins:List (Addr×Obj))(σ:St)(tg:Expr)(R:It->Hp->Prop)(itv:Value)(s2:Shared):Prop :=
 ∃(it:Addr) (fp:List Addr) (tn:Nat->Heap->Prop) (J:It) (H':Hp),itv=.ref it/\Inv X pins σ H' s2/\Turn X.prog X.w X.K tg J fp it tn/\tn 0 s2.heap/\(∀b∈fp,iF X pins H' b)/\R J H'
abbrev PI(X:Cx)(tg iter:Expr)(wi:TI):Prop :=
 ∀(pins:List (Addr×Obj)) (s:Shared) (σ:St) (H:Hp) (R:It->Hp->Prop),Inv X pins σ H s->wi σ H R ->
  wpAny (model X.prog X.w) X.A (eval iter X.env) (λv s1=>wpAny (model X.prog X.w) X.A (pyIter v) (Bw X pins σ tg R) X.xe s1) X.xe s
def kL{M:Model}{A:Around}{E:Value->Shared->Prop}{s:Shared}{tg:Expr}{it:Addr}{u:Value}{o:Obj}{n:String}{vs:Array Value}{Q:Unit->Shared->Prop}(ho:s.heap.get? it=some o)(hc:o.cls=.type n)(hd:o.data=.fields vs)
  (hn:["enumerate","zip","dict_itemiterator","dict_reverseitemiterator","odict_iterator","itertools.zip_longest","itertools.pairwise"].contains n=false) (hQ:Q () s):wpAny M A (letOwnedTupleGo tg (.ref it) u) Q E s:=by
 unfold letOwnedTupleGo
 cases tg<;>first
  | exact zf hQ
  | (cases u<;>first
    | exact zf hQ
    | (refine za (wpAny_load ho ?_);rw [hc,hd];show wpAny M A (if (["enumerate","zip","dict_itemiterator","dict_reverseitemiterator","odict_iterator","itertools.zip_longest","itertools.pairwise"].contains n&&vs[0]? == some (rawInt _))=true then _ else _) Q E s;rw [if_neg (by intro h;rw [hn,Bool.false_and] at h;cases h)];exact zf hQ))
abbrev An(K:W.Frag)(a:Addr):It :=
 ⟨λi H=>∃xs x,bw K H a xs/\xs[i]?=some x,λi H x H'=>H'=H/\∀xs,bw K H a xs->xs[i]?=some x,λi H=>∃xs,bw K H a xs/\xs.length≤i⟩
abbrev Ao(K:W.Frag)(a:Addr):It :=
 ⟨λi H=>∃xs x,bb K H a xs/\xs[i]?=some x,λi H x H'=>H'=H/\∀xs,bb K H a xs->xs[i]?=some x,λi H=>∃xs,bb K H a xs/\xs.length≤i⟩
abbrev rL(lo:Int)(n:Nat):It:=⟨λi _=>i<n,λi H x H'=>H'=H/\x=.int (lo+i),λi _=>n≤i⟩
def Bx{P:Program}{w:World}{K:W.Frag}{tg:Expr}(a it:Addr):Turn P w K tg (An K a) [it] it (λi h=>h.IsListIter it a i) where
 mem:=by simp
 obj:=λi h st b hb=>by
  have e:b=it:=by simpa using hb
  subst e
  obtain⟨o,e,c,d⟩:=st
  exact⟨o,e,λv z=>by rw [d] at z;cases z⟩
 keep:=λi h h' st k=>st.at λo e=>k it (by simp) o e
 item:=by
  intro X hP hw hK hc i pins s σ H E I hf st hg
  subst hP hw hK
  obtain⟨xs,x,hq,hx⟩:=hg
  obtain⟨its,rv,p,hz⟩:=I.list hq
  obtain⟨u,hu,ru⟩:=rv.get hx
  obtain⟨f0,f1,f2,f3,f4,f5⟩:=hf it (by simp)
  refine wpAny_pyNext_list_item st p.isList (x:=u) (by simpa using hu) λh' st' sb=>?_
  have I1:Inv X pins σ H { s with heap:=h' }:=I.turned (t':=s.toks) (λb o hb e=>(sb.2 b hb).trans e) f0 f1 f3 f4 f5
  obtain⟨o,e,c,d⟩:=id st'
  exact⟨u,rfl,kL (s:={ s with heap:=h' }) e c d (by decide) ⟨x,H,I1,ru,⟨rfl,λys hy=>by rw [I.y241 hy hq];exact hx⟩,st',λb hb=>(hf b hb).1⟩⟩
 done:=by
  intro X hP hw hK hc i pins s σ H E I hf st hg
  subst hP hw hK
  obtain⟨xs,hq,hx⟩:=hg
  obtain⟨its,rv,p,hz⟩:=I.list hq
  obtain⟨f0,f1,f2,f3,f4,f5⟩:=hf it (by simp)
  have hl:=rv.length
  exact wpAny_pyNext_list_end (I.ok.hd hc) st p.isList (by simp;lia) λh' eb=>⟨rfl,I.turned (t':=s.toks) (λb o hb e=>eb b o hb e) f0 f1 f3 f4 f5⟩
 self:=λ_ _ _ _ _ st h=>wpAny_pyIter_listiter st h
def By{P:Program}{w:World}{K:W.Frag}{tg:Expr}(a it:Addr):Turn P w K tg (Ao K a) [it] it (λi h=>h.IsTupleIter it a i) where
 mem:=by simp
 obj:=λi h st b hb=>by
  have e:b=it:=by simpa using hb
  subst e
  obtain⟨o,e,c,d⟩:=st
  exact⟨o,e,λv z=>by rw [d] at z;cases z⟩
 keep:=λi h h' st k=>st.at λo e=>k it (by simp) o e
 item:=by
  intro X hP hw hK hc i pins s σ H E I hf st hg
  subst hP hw hK
  obtain⟨xs,x,hq,hx⟩:=hg
  obtain⟨its,rv,p,hz⟩:=I.tuple hq
  obtain⟨u,hu,ru⟩:=rv.get hx
  obtain⟨f0,f1,f2,f3,f4,f5⟩:=hf it (by simp)
  refine wpAny_pyNext_tuple_item st (show s.heap.IsTuple a its.toArray from p) (x:=u) (by simpa using hu) λh' st' sb=>?_
  have I1:Inv X pins σ H { s with heap:=h' }:=I.turned (t':=s.toks) (λb o hb e=>(sb.2 b hb).trans e) f0 f1 f3 f4 f5
  obtain⟨o,e,c,d⟩:=id st'
  exact⟨u,rfl,kL (s:={ s with heap:=h' }) e c d (by decide) ⟨x,H,I1,ru,⟨rfl,λys hy=>by rw [I.y4b6 hy hq];exact hx⟩,st',λb hb=>(hf b hb).1⟩⟩
 done:=by
  intro X hP hw hK hc i pins s σ H E I hf st hg
  subst hP hw hK
  obtain⟨xs,hq,hx⟩:=hg
  obtain⟨its,rv,p,hz⟩:=I.tuple hq
  obtain⟨f0,f1,f2,f3,f4,f5⟩:=hf it (by simp)
  have hl:=rv.length
  exact wpAny_pyNext_tuple_end (I.ok.hd hc) st (show s.heap.IsTuple a its.toArray from p) (by simp;lia) λh' eb=>⟨rfl,I.turned (t':=s.toks) (λb o hb e=>eb b o hb e) f0 f1 f3 f4 f5⟩
 self:=λ_ _ _ _ _ st h=>wpAny_pyIter_tupleiter st h
def Bz{P:Program}{w:World}{K:W.Frag}{tg:Expr}(it:Addr)(lo:Int)(n:Nat):Turn P w K tg (rL lo n) [it] it (λi h=>IsRangeIter h it (lo+(i:Nat)*1) ((n:Int)-(i:Nat)) 1) where
 mem:=by simp
 obj:=λi h st b hb=>by
  have e:b=it:=by simpa using hb
  subst e
  exact⟨_,st,λv z=>by
   have z':Data.fields _=Data.cell v:=z
   cases z'⟩
 keep:=λi h h' st k=>k it (by simp) _ st
 item:=by
  intro X hP hw hK hc i pins s σ H E I hf st hg
  subst hP hw hK
  obtain⟨f0,f1,f2,f3,f4,f5⟩:=hf it (by simp)
  have W:=Walks.range (prog:=X.prog) (w:=X.w) (I.ok.hd hc) it lo 1 n
  refine W.item i s _ _ hg st λv h' tk hv st' kk=>?_
  obtain⟨t,rfl⟩:=hv
  have I1:Inv X pins σ H { s with heap:=h',toks:=tk }:=I.turned (λb o hb e=>kk b o (by simpa using hb) e) f0 f1 f3 f4 f5
  refine⟨_,rfl,kL (s:={ s with heap:=h',toks:=tk }) (n:="range_iterator") st' rfl rfl (by decide) ⟨.int (lo+i),H,I1,⟨t,?_⟩,⟨rfl,rfl⟩,st',λb hb=>(hf b hb).1⟩⟩
  rw [Int.mul_one]
 done:=by
  intro X hP hw hK hc i pins s σ H E I hf st hg
  subst hP hw hK
  obtain⟨f0,f1,f2,f3,f4,f5⟩:=hf it (by simp)
  exact wpAny_pyNext_range_end (I.ok.hd hc) st (by have:n≤i:=hg;lia) λh' eb=>⟨rfl,I.turned (t':=s.toks) (λb o hb e=>eb b o hb e) f0 f1 f3 f4 f5⟩
 self:=λ_ _ _ _ _ st h=>wpAny_pyIter_rangeiter st h
end
section
section
variable {X:Cx}{tg:Expr}
abbrev rN(K:W.Frag)(tl:TE):TI:=λσ H R=>tl σ H λx H1=>∃a,x=.ref a/\(∃xs,bw K H1 a xs)/\R (An K a) H1
abbrev rO(K:W.Frag)(tl:TE):TI:=λσ H R=>tl σ H λx H1=>∃a,x=.ref a/\(∃xs,bb K H1 a xs)/\R (Ao K a) H1
def BA{l:Expr}{tl:TE}(hl:PE X l tl):PI X tg l (rN X.K tl):=by
 intro pins s σ H R I h
 refine aO (hl pins s σ H _ I h) λv s1 zz=>?_
 obtain⟨x,H1,I1,r1,q1⟩:=zz
 obtain⟨a,e,⟨xs,hq⟩,q⟩:=q1
 subst e
 cases r1
 obtain⟨its,rv,p,hz⟩:=I1.list hq
 refine wpAny_pyIter_list p.isList ?_
 refine⟨s1.heap.objs.size,[s1.heap.objs.size],_,_,H1,rfl,I1.kept (t':=s1.toks) λb o e=>zc _ e,Bx a _,⟨_,z21 _ rfl,rfl,rfl⟩,λb hb=>?_,q⟩
 have e:b=s1.heap.objs.size:=by simpa using hb
 subst e
 exact I1.y16b (z10 _) (I1.hok.fresh (z10 _))
def BB{l:Expr}{tl:TE}(hl:PE X l tl):PI X tg l (rO X.K tl):=by
 intro pins s σ H R I h
 refine aO (hl pins s σ H _ I h) λv s1 zz=>?_
 obtain⟨x,H1,I1,r1,q1⟩:=zz
 obtain⟨a,e,⟨xs,hq⟩,q⟩:=q1
 subst e
 cases r1
 obtain⟨its,rv,p,hz⟩:=I1.tuple hq
 refine wpAny_pyIter_tuple (show s1.heap.IsTuple a its.toArray from p) ?_
 refine⟨s1.heap.objs.size,[s1.heap.objs.size],_,_,H1,rfl,I1.kept (t':=s1.toks) λb o e=>zc _ e,By a _,⟨_,z21 _ rfl,rfl,rfl⟩,λb hb=>?_,q⟩
 have e:b=s1.heap.objs.size:=by simpa using hb
 subst e
 exact I1.y16b (z10 _) (I1.hok.fresh (z10 _))
def BC{pins:List (Addr×Obj)}{σ:St}{H:Hp}{s:Shared}{R:It->Hp->Prop}{E:Value->Shared->Prop}{lo hi:Int}{t u v:Tok}{tk:Nat}(I:Inv X pins σ H s)(h1:-(2 ^ 62)≤lo)(h2:lo<2 ^ 62)(h3:-(2 ^ 62)≤hi)(h4:hi<2 ^ 62)
  (q:R (rL lo (hi-lo).toNat) H):wpAny (model X.prog X.w) X.A (pyIter (.ref s.heap.objs.size)) (Bw X pins σ tg R) E { s with heap:=s.heap.push { cls:=.type "range",data:=.fields #[.int lo t,.int hi u,.int 1 v] },toks:=tk }:=by
 refine wpAny_pyIter_range (IsRange.new ..) (small_one h1 h2 h3 h4) ?_
 have I1:Inv X pins σ H { s with heap:=s.heap.push { cls:=.type "range",data:=.fields #[.int lo t,.int hi u,.int 1 v] },toks:=tk }:=I.kept λb o e=>zc _ e
 refine⟨(s.heap.push { cls:=.type "range",data:=.fields #[.int lo t,.int hi u,.int 1 v] }).objs.size,[(s.heap.push { cls:=.type "range",data:=.fields #[.int lo t,.int hi u,.int 1 v] }).objs.size],_,_,H,rfl,
  I1.kept (t':=tk) λb o e=>zc _ e,Bz _ lo (hi-lo).toNat,?_,λb hb=>?_,q⟩
 ·have e1:lo+((0:Nat):Int)*1=lo:=by simp
  have e2:(((hi-lo).toNat:Nat):Int)-((0:Nat):Int)=Builtin.Range.rangeSize lo hi 1:=by rw [rangeSize_one];split<;>lia
  show IsRangeIter _ _ (lo+((0:Nat):Int)*1) ((((hi-lo).toNat:Nat):Int)-((0:Nat):Int)) 1
  rw [e1,e2]
  exact z21 _ rfl
 ·have e:b=(s.heap.push { cls:=.type "range",data:=.fields #[.int lo t,.int hi u,.int 1 v] }).objs.size:=by simpa using hb
  subst e
  exact I1.y16b (z10 _) (I1.hok.fresh (z10 _))
abbrev rP(ta:TA):TI:=λσ H R=>ta σ H λvs H1=>∃j:Int,vs=[.int j]/\-(2 ^ 62)≤j/\j<2 ^ 62/\R (rL 0 j.toNat) H1
def BD{a:Expr}{ta:TA}{p pos:Pos}(hg:Gl X "range")(hm:X.mg "range" = none)(ha:PA X [a] ta)(hs:‹starEach [a] X.env=[(false,eval a X.env)]›):PI X tg (.Call (.Name "range" p) [a] [] pos) (rP ta):=by
 intro pins s σ H R I h
 refine Call_ (gP I hg hm boot_range (PyProof.Rows.callWith_type1 (aO (ha pos pins s σ H _ I h) λus s1 ⟨vs,H1,I1,r1,q1⟩=>?_) hs rfl))
 obtain⟨j,e,q1,q2,q⟩:=q1
 subst e
 cases r1 with
 | cons r rr =>
  cases rr
  obtain⟨t,rfl⟩:=r
  exact call_range_1 (BC I1 (by lia) (by lia) q1 q2 (by simpa using q))
abbrev nQ(wi:TI)(g:TG)(tb:TS):TS:=λD σ H=>wi σ H λJ H1=>∃W:Nat->Nat->St->Hp->Prop,(∃m,W 0 m σ H1)/\∀i m σ H,W i m σ H ->
 (J.stop i H/\D.nx σ H)∨(J.go i H/\∃N:St->Hp->Prop,(∀σ' H',N σ' H'->∃m',m'<m/\W (i+1) m' σ' H')/\∀x H',J.yld i H x H'->g x σ H' λσ2 H2=>tb { D with nx:=N,ct:=N,bk:=D.nx } σ2 H2)
abbrev jq(fp:List Addr)(h:Heap):List (Addr×Obj):=fp.filterMap λb=>(h.get? b).map λo=>(b,o)
def kM{fp:List Addr}{h:Heap}{b:Addr}{o:Obj}(hb:b∈fp)(e:h.get? b=some o):(b,o)∈jq fp h:=List.mem_filterMap.mpr ⟨b,hb,by rw [e];rfl⟩
def BE{fp:List Addr}{h:Heap}{p:Addr×Obj}(hp:p∈jq fp h):p.1∈fp/\h.get? p.1=some p.2:=by
 obtain⟨b,hb,e⟩:=List.mem_filterMap.mp hp
 cases q:h.get? b with
 | none=>rw [q] at e;cases e
 | some o =>
  rw [q] at e
  have e':(b,o)=p:=z20 e
  subst e'
  exact⟨hb,q⟩
def Inv.pinned{pins:List (Addr×Obj)}{σ:St}{H:Hp}{s:Shared}{fp:List Addr}(I:Inv X pins σ H s)(hf:∀b∈fp,iF X pins H b)(ho:∀b∈fp,∃o,s.heap.get? b=some o/\∀v,o.data≠.cell v):Inv X (pins++jq fp s.heap) σ H s :=
 I.y34f λp hp=>(z1e.mp hp).elim (λz=>I.pin p (z24 _ z)) λz=>by
  obtain⟨hb,e⟩:=BE z
  obtain⟨f0,f1,f2,_⟩:=hf p.1 hb
  obtain⟨o,e',d⟩:=ho p.1 hb
  rw [e] at e';cases e'
  exact⟨e,f0,f1,f2,d⟩
def Inv.y4c8{pins pl:List (Addr×Obj)}{σ:St}{H:Hp}{s:Shared}(I:Inv X (pins++pl) σ H s):Inv X pins σ H s:=I.y34f λp hp=>I.pin p (z24 _ (List.mem_append_left _ hp))
def rQ{iter:Expr}{body:List Stmt}{wi:TI}{g:TG}{tb:TS}{pos:Pos}(hp:PassesOwn (model X.prog X.w) X.A X.env X.xe)(hc:X.calm=true)(hi:PI X tg iter wi)(hg:PG X tg g)(hb:dI X body tb)
  (hs:∀x,foldedSetIterable iter X.env x=pure x:=by intro _;rfl):PS X (.For tg iter body [] pos) (nQ wi g tb):=by
 intro pins s σ H D I h
 refine wpAny_For (aO (hi pins s σ H _ I h) λv s1 h1=>aO h1 λitv s2 h2=>?_) hs
 obtain⟨it,fp,tn,J,H2,e,I2,T,st2,f2,W,⟨m0,w0⟩,turn⟩:=h2
 subst e
 have stat:∀{H':Hp},(∀b∈fp,H' b=none)->∀b∈fp,iF X pins H' b:=λhn b hb=>⟨hn b hb,(f2 b hb).2⟩
 refine codeAny_forLoop_any (λn s'=>∃i σ' H',Inv X pins σ' H' s'/\tn i s'.heap/\(∀b∈fp,H' b=none)/\W i n σ' H') ?_ m0 ⟨0,σ,H2,I2,st2,λb hb=>(f2 b hb).1,w0⟩
 rintro n s3 ⟨i,σ3,H3,I3,st3,fr3,w3⟩
 rcases turn i n σ3 H3 w3 with⟨stop,qn⟩| ⟨go,N,hN,step⟩
 ·refine wpAny_passesOwn hp (aO (T.done X rfl rfl rfl hc i pins s3 σ3 H3 X.xe I3 (stat fr3) st3 stop) λr s4 zz=>?_)
  obtain⟨hr,I4⟩:=zz
  subst hr
  exact wpAny_execs_nil ⟨σ3,H3,I4,qn⟩
 ·refine wpAny_passesOwn hp (aO (T.item X rfl rfl rfl hc i pins s3 σ3 H3 X.xe I3 (stat fr3) st3 go) λr s4 zz=>?_)
  obtain⟨u,hr,h4⟩:=zz
  subst hr
  refine wpAny_passesOwn hp (aO h4 λ_ s5 zz=>?_)
  obtain⟨x,H5,I5,r5,y5,st5,fr5⟩:=zz
  have I5':=I5.pinned (stat fr5) (T.obj _ _ st5)
  refine wpAny_passesOwn hp (aO (hg _ s5 σ3 H5 x u _ I5' r5 (step x H5 y5)) λ_ s6 zz=>?_)
  obtain⟨σ6,H6,I6,q6⟩:=zz
  refine wpAny_passesOwn hp (aO (hb _ s6 σ6 H6 _ I6 q6) λf s7 q7=>?_)
  have again:∀{σ7:St} {H7:Hp},Inv X (pins++jq fp s5.heap) σ7 H7 s7->N σ7 H7->∃m,m<n/\∃i σ' H',Inv X pins σ' H' s7/\tn i s7.heap/\(∀b∈fp,H' b=none)/\W i m σ' H':=λ{σ7 H7} I7 n7=>by
   obtain⟨m',hm,w7⟩:=hN σ7 H7 n7
   refine⟨m',hm,i+1,σ7,H7,I7.y4c8,T.keep _ _ _ st5 λb hb o e=>(I7.pin (b,o) (z24 _ (z24 _ (kM hb e)))).1,λb hb=>?_,w7⟩
   obtain⟨o,e,d⟩:=T.obj _ _ st5 b hb
   exact (I7.pin (b,o) (z24 _ (z24 _ (kM hb e)))).2.1
  cases f with
  | next=>obtain⟨σ7,H7,I7,n7⟩:=q7;exact again I7 n7
  | cont=>obtain⟨σ7,H7,I7,n7⟩:=q7;exact again I7 n7
  | brk=>obtain⟨σ7,H7,I7,q7⟩:=q7;exact⟨σ7,H7,I7.y4c8,q7⟩
  | ret v=>obtain⟨x7,σ7,H7,I7,r7,q7⟩:=q7;exact⟨x7,σ7,H7,I7.y4c8,r7,q7⟩
end
end
section
noncomputable abbrev R2:=V->V->Hp->VK->Prop
abbrev bU(X:Cx)(f:Value->Value->Sem Value)(r:R2):Prop :=
 ∀(pins:List (Addr×Obj)) (s:Shared) (σ:St) (H:Hp) (x y:V) (v u:Value) (Q:VK),Inv X pins σ H s->ay x v->ay y u->r x y H Q ->
  wpAny (model X.prog X.w) X.A (f v u) (EP X pins σ Q) X.xe s
abbrev Ap(X:Cx)(f:Value->Sem Value)(r:V->Hp->VK->Prop):Prop :=
 ∀(pins:List (Addr×Obj)) (s:Shared) (σ:St) (H:Hp) (x:V) (v:Value) (Q:VK),Inv X pins σ H s->ay x v->r x H Q ->
  wpAny (model X.prog X.w) X.A (f v) (EP X pins σ Q) X.xe s
abbrev y6(X:Cx)(f:Value)(r:List V->Hp->VK->Prop):Prop :=
 ∀(pins:List (Addr×Obj)) (s:Shared) (σ:St) (H:Hp) (xs:List V) (us:List Value) (Q:VK),Inv X pins σ H s->au xs us->r xs H Q ->
  wpAny (model X.prog X.w) X.A (call f us) (EP X pins σ Q) X.xe s
abbrev BF(X:Cx)(r:V->Hp->(Bool->Hp->Prop)->Prop):Prop :=
 ∀(pins:List (Addr×Obj)) (s:Shared) (σ:St) (H:Hp) (x:V) (v:Value) (Q:Bool->Hp->Prop),Inv X pins σ H s->ay x v->r x H Q ->
  wpAny (model X.prog X.w) X.A (truthy v) (TP X pins σ Q) X.xe s
abbrev ko(r:R2)(ta tb:TE):TE:=λσ H Q=>ta σ H λx H1=>tb σ H1 λy H2=>r x y H2 Q
abbrev tUn(r:V->Hp->VK->Prop)(ta:TE):TE:=λσ H Q=>ta σ H λx H1=>r x H1 Q
abbrev rI(C:Int->Int->Prop)(g:Int->Int->V):R2:=λx y H Q=>∃i j,x=.int i/\y=.int j/\C i j/\Q (g i j) H
abbrev jc(g:Int->Int->V):R2:=λx y H Q=>∃i j,x=.int i/\y=.int j/\Q (g i j) H
abbrev rU(g:Int->V):V->Hp->VK->Prop:=λx H Q=>∃i,x=.int i/\Q (g i) H
section
variable {X:Cx}{a b c:Expr}{ta tb tc:TE}{pos:Pos}
def nR(ha:PE X a ta)(hb:PE X b tb){pins:List (Addr×Obj)}{s:Shared}{σ:St}{H:Hp}{R:V->V->Hp->Prop}(I:Inv X pins σ H s)
  (h:ta σ H λx H1=>tb σ H1 λy H2=>R x y H2) {Q:Value->Shared->Prop} {f:Value->Value->Sem Value}
  (hf:∀v u s2 x y H2,Inv X pins σ H2 s2->ay x v->ay y u->R x y H2->wpAny (model X.prog X.w) X.A (f v u) Q X.xe s2) :
  wpAny (model X.prog X.w) X.A (eval a X.env) (λv s₁=>wpAny (model X.prog X.w) X.A (eval b X.env) (λu s₂=>wpAny (model X.prog X.w) X.A (f v u) Q X.xe s₂) X.xe s₁) X.xe s:=by
 refine aO (ha pins s σ H _ I h) λv s1 zz=>?_
 obtain⟨x,H1,I1,r1,q1⟩:=zz
 refine aO (hb pins s1 σ H1 _ I1 q1) λu s2 zz=>?_
 obtain⟨y,H2,I2,r2,q2⟩:=zz
 exact hf v u s2 x y H2 I2 r1 r2 q2
def rR{op:Operator}{r:R2}(ho:bU X (binaryOp op) r)(ha:PE X a ta)(hb:PE X b tb):PE X (.BinOp a op b pos) (ko r ta tb):=by
 intro pins s σ H Q I h
 exact wpAny_BinOp (nR ha hb I h λv u s2 x y H2 I2 rx ry q=>ho pins s2 σ H2 x y v u Q I2 rx ry q)
def nS{op:UnaryOp}{r:V->Hp->VK->Prop}(ho:Ap X (unaryOp op) r)(ha:PE X a ta):PE X (.UnaryOp op a pos) (tUn r ta):=by
 intro pins s σ H Q I h
 exact UnaryOp_ (aO (ha pins s σ H _ I h) λv s1 ⟨x,H1,I1,r1,q1⟩=>ho pins s1 σ H1 x v Q I1 r1 q1)
def rS{f:Value->Value->Sem Value}{C:Int->Int->Prop}{g:Int->Int->Int}
  (rule:∀(i j:Int) (t u:Tok) (s:Shared) (Q:Value->Shared->Prop) (E:Value->Shared->Prop),C i j->Q (.int (g i j) s.toks) { s with toks:=s.toks+1 }->wpAny (model X.prog X.w) X.A (f (.int i t) (.int j u)) Q E s) :
  bU X f (rI C λi j=>.int (g i j)):=by
 intro pins s σ H x y v u Q I rx ry h
 obtain⟨i,j,rfl,rfl,hc,q⟩:=h
 obtain⟨t,rfl⟩:=rx
 obtain⟨t',rfl⟩:=ry
 exact rule i j t t' s _ _ hc ⟨.int (g i j),H,I.tok _,⟨_,rfl⟩,q⟩
def rT{f:Value->Value->Sem Value}{g:Int->Int->Int}
  (rule:∀(i j:Int) (t u:Tok) (s:Shared) (Q:Value->Shared->Prop) (E:Value->Shared->Prop),Q (.int (g i j) s.toks) { s with toks:=s.toks+1 }->wpAny (model X.prog X.w) X.A (f (.int i t) (.int j u)) Q E s) :
  bU X f (jc λi j=>.int (g i j)):=by
 intro pins s σ H x y v u Q I rx ry h
 obtain⟨i,j,rfl,rfl,q⟩:=h
 obtain⟨t,rfl⟩:=rx
 obtain⟨t',rfl⟩:=ry
 exact rule i j t t' s _ _ ⟨.int (g i j),H,I.tok _,⟨_,rfl⟩,q⟩
def nT{f:Value->Value->Sem Value}{g:Int->Int->Bool}
  (rule:∀(i j:Int) (t u:Tok) (s:Shared) (Q:Value->Shared->Prop) (E:Value->Shared->Prop),Q (.bool (g i j)) s->wpAny (model X.prog X.w) X.A (f (.int i t) (.int j u)) Q E s) :
  bU X f (jc λi j=>.bl (g i j)):=by
 intro pins s σ H x y v u Q I rx ry h
 obtain⟨i,j,rfl,rfl,q⟩:=h
 obtain⟨t,rfl⟩:=rx
 obtain⟨t',rfl⟩:=ry
 exact rule i j t t' s _ _ ⟨.bl (g i j),H,I,rfl,q⟩
abbrev BG(i j:Int):Prop:=0<j/\j<1073741824
abbrev nV(i j:Int):Prop:=0≤j/\j≤1000000/\i.natAbs<2 ^ 64
abbrev y4(i j:Int):Prop:=(-(2 ^ 64)<i/\i<2 ^ 64)∨(-(2 ^ 64)<j/\j<2 ^ 64)
def y4.ok{i j:Int}(h:y4 i j):IntMulOk i j:=by
 rcases h with⟨h1,h2⟩| ⟨h1,h2⟩
 ·exact .of_left (intBits_le_64 h1 h2)
 ·exact .of_right (intBits_le_64 h1 h2)
def BH:bU X (binaryOp .Add) (jc λi j=>.int (i+j)):=rT λ_ _ _ _ _ _ _ q=>add_int q
def BI:bU X (binaryOp .Sub) (jc λi j=>.int (i-j)):=rT λ_ _ _ _ _ _ _ q=>sub_int q
def BJ:bU X (binaryOp .Mult) (rI y4 λi j=>.int (i*j)):=rS λ_ _ _ _ _ _ _ hc q=>mul_int q hc.ok
def Aq:bU X (binaryOp .FloorDiv) (rI BG λi j=>.int (i / j)):=rS λi j _ _ _ _ _ hc q=>by
 have h1:(0:Int)<j:=hc.1
 have h2:j<1073741824:=hc.2
 exact floordiv_int (by lia) (by rw [Int.fdiv_eq_ediv_of_nonneg i (by lia)];exact q) (.inl (PyProof.noPylong_small (by lia)))
def BK:bU X (binaryOp .Mod) (rI (λ_ j=>0<j) λi j=>.int (i % j)):=rS λi j _ _ _ _ _ hc q=>by
 have h1:(0:Int)<j:=hc
 exact mod_int' (by lia) (by rw [Int.fmod_eq_emod_of_nonneg i (by lia)];exact q)
def BL:bU X (binaryOp .Pow) (rI nV λi j=>.int (i ^ j.toNat)):=rS λ_ _ _ _ _ _ _ hc q=>pow_int_small hc.1 hc.2.1 hc.2.2 q
def unI{f:Value->Sem Value}{g:Int->Int}
  (rule:∀(i:Int) (t:Tok) (s:Shared) (Q:Value->Shared->Prop) (E:Value->Shared->Prop),Q (.int (g i) s.toks) { s with toks:=s.toks+1 }->wpAny (model X.prog X.w) X.A (f (.int i t)) Q E s) :
  Ap X f (rU λi=>.int (g i)):=by
 intro pins s σ H x v Q I rx h
 obtain⟨i,rfl,q⟩:=h
 obtain⟨t,rfl⟩:=rx
 exact rule i t s _ _ ⟨.int (g i),H,I.tok _,⟨_,rfl⟩,q⟩
def nW:Ap X (unaryOp .USub) (rU λi=>.int (-i)):=unI λ_ _ _ _ _ q=>neg_int q
end
abbrev iG:V->V->Bool
 | .non,.non=>true | .non,.int _=>true | .int _,.non=>true | .non,.bl _=>true | .bl _,.non=>true | .non,.str _=>true | .str _,.non=>true
 | .int _,.int _=>true | .bl _,.bl _=>true | .str _,.str _=>true | .byt _,.byt _=>true
 | .int _,.str _=>true | .str _,.int _=>true | .bl _,.str _=>true | .str _,.bl _=>true
 | _,_=>false
abbrev rEq:R2:=λx y H Q=>iG x y=true/\Q (.bl (decide (x=y))) H
abbrev rNe:R2:=λx y H Q=>iG x y=true/\Q (.bl (!decide (x=y))) H
def yf3{i j:Int}:decide (V.int i=V.int j)=(i == j):=by
 rw [Bool.eq_iff_iff]
 simp
def yf1{i j:Bool}:decide (V.bl i=V.bl j)=(i == j):=by
 rw [Bool.eq_iff_iff]
 simp
def yf4{i j:Str}:decide (V.str i=V.str j)=(i == j):=by
 rw [Bool.eq_iff_iff]
 simp
def yf2{i j:Array UInt8}:decide (V.byt i=V.byt j)=(i.toList == j.toList):=by
 rw [Bool.eq_iff_iff]
 cases i
 cases j
 simp
section
variable {X:Cx}{a b c:Expr}{ta tb tc:TE}{pos:Pos}
def bj{pins:List (Addr×Obj)}{σ:St}{H:Hp}{s:Shared}{Q:VK}{k k':Bool}(I:Inv X pins σ H s)(q:Q (.bl k) H)(e:k=k'):EP X pins σ Q (.bool k') s:=by
 subst e
 exact⟨.bl k,H,I,rfl,q⟩
def rV:bU X (compareOp .Eq) rEq:=by
 intro pins s σ H x y v u Q I rx ry h
 obtain⟨hs,q⟩:=h
 cases x with
 | non =>
  cases rx
  cases y with
  | non=>cases ry;exact PySem.EqNone.eq_none_none (bj I q (by simp))
  | bl j=>cases ry;exact PySem.EqNone.eq_none_bool (bj I q (by simp))
  | int j=>obtain⟨t',rfl⟩:=ry;exact PySem.EqNone.eq_none_int (bj I q (by simp))
  | str j=>obtain⟨t',rfl⟩:=ry;exact PySem.EqNone.eq_none_str (bj I q (by simp))
  | _=>exact absurd (show false=true from hs) z13
 | bl i =>
  cases rx
  cases y with
  | non=>cases ry;exact PySem.EqNone.eq_bool_none (bj I q (by simp))
  | bl j=>cases ry;exact eq_bool (bj I q yf1)
  | str j=>obtain⟨t',rfl⟩:=ry;exact PySem.EqMixed.eq_bool_str (bj I q (by simp))
  | _=>exact absurd (show false=true from hs) z13
 | int i =>
  obtain⟨t,rfl⟩:=rx
  cases y with
  | non=>cases ry;exact PySem.EqNone.eq_int_none (bj I q (by simp))
  | int j=>obtain⟨t',rfl⟩:=ry;exact eq_int (bj I q yf3)
  | str j=>obtain⟨t',rfl⟩:=ry;exact PySem.EqMixed.eq_int_str (bj I q (by simp))
  | _=>exact absurd (show false=true from hs) z13
 | str i =>
  obtain⟨t,rfl⟩:=rx
  cases y with
  | non=>cases ry;exact PySem.EqNone.eq_str_none (bj I q (by simp))
  | bl j=>cases ry;exact PySem.EqMixed.eq_str_bool (bj I q (by simp))
  | int j=>obtain⟨t',rfl⟩:=ry;exact PySem.EqMixed.eq_str_int (bj I q (by simp))
  | str j=>obtain⟨t',rfl⟩:=ry;exact eq_str (bj I q yf4)
  | _=>exact absurd (show false=true from hs) z13
 | byt i =>
  obtain⟨t,rfl⟩:=rx
  cases y with
  | byt j=>obtain⟨t',rfl⟩:=ry;exact W.eq_bytes (bj I q yf2)
  | _=>exact absurd (show false=true from hs) z13
 | _=>cases y<;>exact absurd (show false=true from hs) z13
def rW:bU X (compareOp .NotEq) rNe:=by
 intro pins s σ H x y v u Q I rx ry h
 obtain⟨hs,q⟩:=h
 cases x with
 | non =>
  cases rx
  cases y with
  | non=>cases ry;exact PySem.EqNone.ne_none_none (bj I q (by simp))
  | bl j=>cases ry;exact PySem.EqNone.ne_none_bool (bj I q (by simp))
  | int j=>obtain⟨t',rfl⟩:=ry;exact PySem.EqNone.ne_none_int (bj I q (by simp))
  | str j=>obtain⟨t',rfl⟩:=ry;exact PySem.EqNone.ne_none_str (bj I q (by simp))
  | _=>exact absurd (show false=true from hs) z13
 | bl i =>
  cases rx
  cases y with
  | non=>cases ry;exact PySem.EqNone.ne_bool_none (bj I q (by simp))
  | bl j=>cases ry;exact ne_bool (bj I q (congrArg not yf1))
  | str j=>obtain⟨t',rfl⟩:=ry;exact PySem.EqMixed.ne_bool_str (bj I q (by simp))
  | _=>exact absurd (show false=true from hs) z13
 | int i =>
  obtain⟨t,rfl⟩:=rx
  cases y with
  | non=>cases ry;exact PySem.EqNone.ne_int_none (bj I q (by simp))
  | int j=>obtain⟨t',rfl⟩:=ry;exact ne_int (bj I q (congrArg not yf3))
  | str j=>obtain⟨t',rfl⟩:=ry;exact PySem.EqMixed.ne_int_str (bj I q (by simp))
  | _=>exact absurd (show false=true from hs) z13
 | str i =>
  obtain⟨t,rfl⟩:=rx
  cases y with
  | non=>cases ry;exact PySem.EqNone.ne_str_none (bj I q (by simp))
  | bl j=>cases ry;exact PySem.EqMixed.ne_str_bool (bj I q (by simp))
  | int j=>obtain⟨t',rfl⟩:=ry;exact PySem.EqMixed.ne_str_int (bj I q (by simp))
  | str j=>obtain⟨t',rfl⟩:=ry;exact ne_str (bj I q (congrArg not yf4))
  | _=>exact absurd (show false=true from hs) z13
 | byt i =>
  obtain⟨t,rfl⟩:=rx
  cases y with
  | byt j=>obtain⟨t',rfl⟩:=ry;exact W.ne_bytes (bj I q (congrArg not yf2))
  | _=>exact absurd (show false=true from hs) z13
 | _=>cases y<;>exact absurd (show false=true from hs) z13
def rX:bU X (compareOp .Lt) (jc λi j=>.bl (decide (i<j))):=nT λ_ _ _ _ _ _ _ q=>lt_int q
def rY:bU X (compareOp .Gt) (jc λi j=>.bl (decide (j<i))):=nT λ_ _ _ _ _ _ _ q=>gt_int q
def rZ:bU X (compareOp .GtE) (jc λi j=>.bl (decide (j≤i))):=nT λ_ _ _ _ _ _ _ q=>ge_int q
def BM:bU X (compareOp .In) (λx y H Q=>∃i j,x=.str i/\y=.str j/\Q (.bl (!(Builtin.Str.occurrences j i 0 j.length 1).isEmpty)) H):=by
 intro pins s σ H x y v u Q I rx ry h
 obtain⟨i,j,rfl,rfl,q⟩:=h
 obtain⟨t,rfl⟩:=rx
 obtain⟨t',rfl⟩:=ry
 exact in_str (bj I q rfl)
def BN:bU X (compareOp .NotIn) (λx y H Q=>∃i j,x=.str i/\y=.str j/\Q (.bl (!(!(Builtin.Str.occurrences j i 0 j.length 1).isEmpty))) H):=by
 intro pins s σ H x y v u Q I rx ry h
 obtain⟨i,j,rfl,rfl,q⟩:=h
 obtain⟨t,rfl⟩:=rx
 obtain⟨t',rfl⟩:=ry
 exact notIn_str (bj I q rfl)
def bU.or{f:Value->Value->Sem Value}{r r':R2}(h:bU X f r)(h':bU X f r'):bU X f (λx y H Q=>r x y H Q∨r' x y H Q):=by
 intro pins s σ H x y v u Q I rx ry q
 rcases q with q|q
 ·exact h pins s σ H x y v u Q I rx ry q
 ·exact h' pins s σ H x y v u Q I rx ry q
def fR(b:Expr){op:CmpOp}(h:op≠.In:=by decide)(h2:op≠.NotIn:=by decide):behindInMarks op b=false:=by
 have e1:(op == CmpOp.In)=false:=by cases op<;>first|rfl|exact absurd rfl h
 have e2:(op == CmpOp.NotIn)=false:=by cases op<;>first|rfl|exact absurd rfl h2
 cases b<;>simp [behindInMarks,e1,e2]
def r6{op:CmpOp}{r:R2}(ho:bU X (compareOp op) r)(ha:PE X a ta)(hb:PE X b tb)(hm:behindInMarks op b=false):PE X (.Compare a [op] [b] pos) (ko r ta tb):=by
 intro pins s σ H Q I h
 exact wpAny_Compare1 (nR ha hb I h λv u s2 x y H2 I2 rx ry q=>ho pins s2 σ H2 x y v u Q I2 rx ry q) hm
abbrev sd(t:TE):TT:=λσ H Q=>t σ H λx H'=>∃k,x=.bl k/\Q k H'
def gR{op:CmpOp}{r:R2}(ho:bU X (compareOp op) r)(ha:PE X a ta)(hb:PE X b tb)(hm:behindInMarks op b=false):PT X (.Compare a [op] [b] pos) (sd (ko r ta tb)):=by
 intro pins s σ H Q I h
 refine wpAny_isTrue_Compare1 (aO (ha pins s σ H _ I h) λv s1 ⟨x,H1,I1,r1,q1⟩=>aO (hb pins s1 σ H1 _ I1 q1) λu s2 ⟨y,H2,I2,r2,q2⟩ =>
  aO (ho pins s2 σ H2 x y v u _ I2 r1 r2 q2) λc s3 ⟨z,H3,I3,r3,k,e,q3⟩=>?_) hm
 subst e
 cases r3
 exact wpAny_truthy_bool ⟨H3,I3,q3⟩
abbrev nX(K:W.Frag)(x:V)(H:Hp)(k:Bool):Prop :=
 match x with
 | .non=>k=false
 | .bl b=>k=b
 | .int i=>k=(i != 0)
 | .str y=>y.length≤sizeLine/\k=((y.length:Int) != 0)
 | .byt y=>y.size≤sizeLine/\k=((y.size:Int) != 0)
 | .ref p=>(∃xs,bw K H p xs/\k=!xs.isEmpty)∨(∃xs,bb K H p xs/\k=!xs.isEmpty)∨∃kvs,H p=some (.dK kvs)/\k=!kvs.isEmpty
 | _=>False
def BO{κ:Type}{kvs:List (κ×V)}{vs:List (κ×Value)}(r:KV kvs vs):(!vs.isEmpty)=!kvs.isEmpty:=by
 cases r<;>rfl
def se{xs:List V}{its:List Value}(r:au xs its):(!its.toArray.isEmpty)=!xs.isEmpty:=by
 cases r<;>simp
def gS:(sizeLine:Nat)<2 ^ 63:=by rw [sizeLine_eq];decide
def nY:BF X (λx H Q=>∃k,nX X.K x H k/\Q k H):=by
 intro pins s σ H x v Q I rx h
 obtain⟨k,e,q⟩:=h
 have hl:=gS
 have hs:sizeLine=16777216:=sizeLine_eq
 cases x with
 | non =>
  cases rx
  have e':k=false:=e
  subst e'
  exact truthy_none ⟨H,I,q⟩
 | bl b =>
  cases rx
  have e':k=b:=e
  subst e'
  exact wpAny_truthy_bool ⟨H,I,q⟩
 | int i =>
  obtain⟨t,rfl⟩:=rx
  have e':k=(i != 0):=e
  subst e'
  exact PySem.P.truthy_int ⟨H,I,q⟩
 | str y =>
  obtain⟨t,rfl⟩:=rx
  obtain⟨hy,e'⟩:y.length≤sizeLine/\k=((y.length:Int) != 0):=e
  subst e'
  exact PySem.P.truthy_str (by lia) ⟨H,I.tok _,q⟩
 | byt y =>
  obtain⟨t,rfl⟩:=rx
  obtain⟨hy,e'⟩:y.size≤sizeLine/\k=((y.size:Int) != 0):=e
  subst e'
  exact W.truthy_bytes (by lia) ⟨H,I.tok _,q⟩
 | ref p =>
  cases rx
  have e':(∃xs,bw X.K H p xs/\k=!xs.isEmpty)∨(∃xs,bb X.K H p xs/\k=!xs.isEmpty)∨∃kvs,H p=some (.dK kvs)/\k=!kvs.isEmpty:=e
  rcases e' with⟨xs,hx,e'⟩| ⟨xs,hx,e'⟩| ⟨kvs,hx,e'⟩
  ·subst e'
   obtain⟨its,r,pl,hz⟩:=I.list hx
   have hlen:=r.length
   exact wpAny_truthy_list pl.isList (by simp only [ze];lia) ⟨H,I.tok _,by rw [se r];exact q⟩
  ·subst e'
   obtain⟨its,r,pl,hz⟩:=I.tuple hx
   have hlen:=r.length
   exact truthy_tuple pl (by simp only [ze];lia) ⟨H,I.tok _,by rw [se r];exact q⟩
  ·subst e'
   obtain⟨hz,hS,vs,r,m⟩:kvs.length≤sizeLine/\(p == sysModules)=false/\∃vs,KV kvs vs/\s.heap.DictOf (cF X.prog X.w) p vs:=I.hok p _ hx
   have hlen:kvs.length=vs.length:=Paired.length r
   exact wpAny_truthy_dict hS m (by lia) ⟨H,I.tok _,by rw [BO r];exact q⟩
 | _=>exact (show False from e).elim
def BP(ha:PE X a ta)(he:∀whole,isTrue a X.env whole=(do let v <- whole;standAt a.pos;holding [v] (truthy v))) :
  PT X a (λσ H Q=>ta σ H λx H'=>∃k,nX X.K x H' k/\Q k H'):=by
 intro pins s σ H Q I h
 exact isTrue_plain (aO (ha pins s σ H _ I h) λv s1 ⟨x,H1,I1,r1,q1⟩=>nY pins s1 σ H1 x v Q I1 r1 q1) (he _)
def BQ:bU X (binaryOp .Add) (λx y H Q=>∃i j,x=.str i/\y=.str j/\i.length+j.length≤sizeLine/\Q (.str (i++j)) H):=by
 intro pins s σ H x y v u Q I rx ry h
 obtain⟨i,j,rfl,rfl,hz,q⟩:=h
 obtain⟨t,rfl⟩:=rx
 obtain⟨t',rfl⟩:=ry
 exact add_str (λt' tk=>⟨.str (i++j),H,I.tok _,⟨_,rfl⟩,q⟩) hz
def cc{x:V}{us:List Value}(r:au [x] us):∃u,us=[u]/\ay x u:=by
 cases r with
 | cons r1 r2=>cases r2;exact⟨_,rfl,r1⟩
def jr{x y:V}{us:List Value}(r:au [x,y] us):∃u w',us=[u,w']/\ay x u/\ay y w':=by
 cases r with
 | cons r1 r2 =>
  cases r2 with
  | cons r3 r4=>cases r4;exact⟨_,_,rfl,r1,r3⟩
def yb0(hc:X.calm=true):y6 X (.builtin "max") (λxs H Q=>∃i j,xs=[.int i,.int j]/\Q (.int (if j>i then j else i)) H):=by
 intro pins s σ H xs us Q I r h
 obtain⟨i,j,rfl,q⟩:=h
 obtain⟨u,w',rfl,⟨t,rfl⟩,⟨t',rfl⟩⟩:=jr r
 refine max_two_ints (I.ok.hd hc) λh' tk k=>⟨_,H,I.kept k,?_,q⟩
 by_cases hj:j>i
 ·rw [if_pos hj,if_pos hj];exact⟨_,rfl⟩
 ·rw [if_neg hj,if_neg hj];exact⟨_,rfl⟩
def yb1(hc:X.calm=true):y6 X (.builtin "min") (λxs H Q=>∃i j,xs=[.int i,.int j]/\Q (.int (if j<i then j else i)) H):=by
 intro pins s σ H xs us Q I r h
 obtain⟨i,j,rfl,q⟩:=h
 obtain⟨u,w',rfl,⟨t,rfl⟩,⟨t',rfl⟩⟩:=jr r
 refine min_two_ints (I.ok.hd hc) λh' tk k=>⟨_,H,I.kept k,?_,q⟩
 by_cases hj:j<i
 ·rw [if_pos hj,if_pos hj];exact⟨_,rfl⟩
 ·rw [if_neg hj,if_neg hj];exact⟨_,rfl⟩
def ya8:y6 X (.type "int") (λxs H Q=>(∃i,xs=[.int i]/\Q (.int i) H)∨∃k,xs=[.bl k]/\Q (.int (if k then 1 else 0)) H):=by
 intro pins s σ H xs us Q I r h
 rcases h with⟨i,rfl,q⟩| ⟨k,rfl,q⟩
 ·obtain⟨u,rfl,t,rfl⟩:=cc r
  exact call_int_int ⟨.int i,H,I,⟨_,rfl⟩,q⟩
 ·obtain⟨u,rfl,r1⟩:=cc r
  cases r1
  exact call_int_bool ⟨.int (if k then 1 else 0),H,I.tok _,⟨_,rfl⟩,q⟩
def yb3:y6 X (.type "str") (λxs H Q=>∃i,xs=[.int i]/\i.natAbs.log2<1920/\Q (.str (toString i)) H):=by
 intro pins s σ H xs us Q I r h
 obtain⟨i,rfl,hz,q⟩:=h
 obtain⟨u,rfl,t,rfl⟩:=cc r
 exact PySem.P.str_of_int hz ⟨.str _,H,I.tok _,⟨_,rfl⟩,q⟩
end
end
section
structure ObjM(h:Heap)(x dx C:Addr)(mA:Str->Option Value):Prop where
 obj:h.get? x=some (W.instObj C dx)
 ns:h.Ns1 dx mA
 ne:dx≠x
def kN{h:Heap}{dx:Addr}{mA:Str->Option Value}(n:h.Ns1 dx mA):∃od,h.get? dx=some od/\∀name,W.lookIn name od=some (mA name):=by
 obtain⟨o,es,ep,ho,hd,hk,_,hm⟩:=n
 refine⟨o,ho,λname=>?_⟩
 have e:=hm name
 unfold nsFind findBy at e
 rw [<- Array.find?_toList] at e
 unfold W.lookIn
 rw [hd]
 dsimp only
 split
 ·rename_i y q
  rw [q] at e
  exact congrArg some e
 ·rename_i q
  rw [q] at e
  have a:es.toList.any (·.refKey)=false:=by
   rw [List.any_eq_false]
   intro y hy
   obtain⟨z,t,hkey⟩:=hk y (Array.mem_toList_iff.mp hy)
   simp [DictEntry.refKey,hkey]
  have a':¬ es.toList.any (·.refKey)=true:=by rw [a];exact z13
  rw [if_neg a']
  exact congrArg some e
def ObjM.look{h:Heap}{x dx C:Addr}{mA:Str->Option Value}(I:ObjM h x dx C mA):∃od,W.InstAt h x (W.instObj C dx) C (some od)/\∀name,W.lookIn name od=some (mA name) :=
 let ⟨od,ho,hl⟩:=kN I.ns
 ⟨od,⟨I.obj,rfl,rfl,ho⟩,hl⟩
section
variable {prog:Program}{w:World}{A:Around}{E:Value->Shared->Prop}{s:Shared}{K:W.Frag}{x dx C f:Addr}{mA:Str->Option Value}{name:Str}{v:Value}
end
def ip.some_of{v:V}{o:Option Value}(r:ip (some v) o):∃u,o=some u/\ay v u:=by
 cases o with
 | none=>exact (show False from r).elim
 | some u=>exact⟨u,rfl,r⟩
def BR{v:V}{u:Value}(r:ay v u):W.handedIn u=true:=by
 cases v with
 | non=>cases (show u=Value.none from r);rfl
 | bl b=>cases (show u=Value.bool b from r);rfl
 | int i=>obtain⟨t,e⟩:=(show ∃t,u=Value.int i t from r);cases e;rfl
 | str x=>obtain⟨t,e⟩:=(show ∃t,u=Value.str x t from r);cases e;rfl
 | byt b=>obtain⟨t,e⟩:=(show ∃t,u=Value.bytes b t from r);cases e;rfl
 | flt b=>obtain⟨t,e⟩:=(show ∃t,u=Value.float b t from r);cases e;rfl
 | ref a=>cases (show u=Value.ref a from r);rfl
 | ty n=>cases (show u=Value.type n from r);rfl
section
variable {P:Program}{w:World}{H H':Hp}{h h':Heap}{a C dx:Addr}{fs fs':List (Str×V)}
def BS(hok:cB P w H h)(e:H a=some (.ins C dx fs)):∃mA,ObjM h a dx C mA/\(∀f,ip (fs.lookup f) (mA f))/\PySem.Within mA (fs.map (·.1))/\fs.length≤1000/\H dx=some (.own a):=by
 obtain⟨d,z,ne,ob,mA,n,r,q⟩:=(show c7 P w H h a (.ins C dx fs) from hok a _ e)
 exact⟨mA,⟨ob,n,ne⟩,r,q,z,d⟩
end
structure Cls(K:W.Frag)(C:Addr):Prop where
 pg:W.plainGet K C Str.empty=true
 hd:W.hasDictIn K C=true
 po:W.plainOver K C=true
 sa:W.findIn K (.ref C) "__setattr__" = some (some (.builtin "object.__setattr__"))
def Cls.get{K:W.Frag}{C:Addr}(c:Cls K C)(f:Str):W.plainGet K C f=true:=c.pg
abbrev kO(K:W.Frag)(C:Addr)(f:Str):Prop:=W.findIn K (.ref C) f=some none
structure Con(K:W.Frag)(C:Addr)(f:Str)(v:V)(u:Value):Prop where
 at_:W.findIn K (.ref C) f=some (some u)
 rel:ay v u
 get:W.specialIn K u "__get__" = some none
 cp:W.copiedNames.contains f=false
structure Meth(K:W.Frag)(C:Addr)(m:Str)(f:Addr):Prop where
 at_:W.findIn K (.ref C) m=some (some (.ref f))
 fn:W.isFn K (.ref f)=true
 kp:W.keepIn K (.ref f)=true
section
variable {X:Cx}{pins:List (Addr×Obj)}{σ:St}{H:Hp}{s:Shared}{a C dx:Addr}{fs:List (Str×V)}{f:Str}{v:V}{A:Around}{E:Value->Shared->Prop}
def y82{prog:Program}{w:World}{env:Env}{e:Expr}{f:Str}{pos:Pos}{s:Shared}{Q:Value->Shared->Prop}(hb:attributeBase e f env (eval e env)=eval e env)
  (h:wpAny (model prog w) A (eval e env) (λo s₁=>wpAny (model prog w) A (getAttr o f true) Q E s₁) E s):wpAny (model prog w) A (eval (.Attribute e f pos) env) Q E s :=
 Attribute_any_ h (by rw [arm_eval_Attribute,hb])
end
section
variable {X:Cx}{o e value:Expr}{f:Str}{pos pos' tpos:Pos}{ta tv:TE}
end
section
variable {X:Cx}{pins:List (Addr×Obj)}{σ:St}{H:Hp}{s:Shared}{A:Around}{E:Value->Shared->Prop}{Q:Value->Shared->Prop}{c:Value}{b:Bool}
inductive y55(K:W.Frag)(H:Hp):V->Value->Prop where
 | non:y55 K H .non (.type "NoneType")
 | bl (x:Bool):y55 K H (.bl x) (.type "bool")
 | int (i:Int):y55 K H (.int i) (.type "int")
 | str (x:Str):y55 K H (.str x) (.type "str")
 | flt (x:UInt64):y55 K H (.flt x) (.type "float")
 | lst {a:Addr} {xs:List V} (e:H a=some (.lst xs)):y55 K H (.ref a) (.type "list")
 | frz {a:Addr} {o:Obj} {xs:List V} (e:H a=some (.frz o (.lst xs))):y55 K H (.ref a) (.type "list")
 | tup {a:Addr} {xs:List V} (e:H a=some (.tup xs)):y55 K H (.ref a) (.type "tuple")
 | dK {a:Addr} {kvs:List (aS×V)} (e:H a=some (.dK kvs)):y55 K H (.ref a) (.type "dict")
 | dT {a:Addr} {kvs:List (List aS×V)} (e:H a=some (.dT kvs)):y55 K H (.ref a) (.type "dict")
 | ins {a C dx:Addr} {fs:List (Str×V)} (e:H a=some (.ins C dx fs)) (cl:Cls K C) (ha:W.findIn K (.ref C) "__class__" = some (some (.builtin "object.__class__")))
   (hn:W.specialIn K (.builtin "object.__class__") "__get__" = some (some (.builtin "getset_descriptor.__get__"))) (htk:W.takesIn K (.builtin "object.__class__")=some true)
   (hm:W.mroIn K C (.type "object")=some true):y55 K H (.ref a) (.ref C)
def BU{x:V}{u t:Value}(I:Inv X pins σ H s)(rx:ay x u)(ty:y55 X.K H x t)(e:W.kitOne X.K t c=some b)(h:∀tk,Q (.bool b) { s with toks:=tk }) :
  wpAny (model X.prog X.w) A (call (.builtin "isinstance") [u,c]) Q E s:=by
 cases ty with
 | non=>cases (show u=Value.none from rx);exact W.kia_one W.kitx_none I.kIn True.intro e (λz=>nomatch z) h
 | bl y=>cases (show u=Value.bool y from rx);exact W.kia_one W.kitx_bool I.kIn True.intro e (λz=>nomatch z) h
 | int i=>obtain⟨t,q⟩:=(show ∃t,u=Value.int i t from rx);cases q;exact W.kia_one W.kitx_int I.kIn True.intro e (λz=>nomatch z) h
 | str y=>obtain⟨t,q⟩:=(show ∃t,u=Value.str y t from rx);cases q;exact W.kia_one W.kitx_str I.kIn True.intro e (λz=>nomatch z) h
 | flt y=>obtain⟨t,q⟩:=(show ∃t,u=Value.float y t from rx);cases q;exact W.kia_one W.kitx_float I.kIn True.intro e (λz=>nomatch z) h
 | @lst a xs ea =>
  cases (show u=Value.ref a from rx)
  obtain⟨_,_,n,_,h1⟩:=(show c7 X.prog X.w H s.heap a (.lst xs) from I.hok a _ ea)
  exact W.kia_one W.kitx_list I.kIn ⟨_,h1,rfl⟩ e (λz=>nomatch z) h
 | @frz a ob xs ea =>
  cases (show u=Value.ref a from rx)
  obtain⟨_,_,_,n,_,h1⟩:=(show c7 X.prog X.w H s.heap a (.frz ob (.lst xs)) from I.hok a _ ea)
  exact W.kia_one W.kitx_list I.kIn ⟨_,h1,rfl⟩ e (λz=>nomatch z) h
 | @tup a xs ea =>
  cases (show u=Value.ref a from rx)
  obtain⟨_,_,_,p⟩:=(show c7 X.prog X.w H s.heap a (.tup xs) from I.hok a _ ea)
  obtain⟨o,h1,h2,_⟩:=p
  exact W.kia_one W.kitx_tuple I.kIn ⟨o,h1,h2⟩ e (λz=>nomatch z) h
 | @dK a kvs ea =>
  cases (show u=Value.ref a from rx)
  obtain⟨_,_,vs,_,p⟩:=(show c7 X.prog X.w H s.heap a (.dK kvs) from I.hok a _ ea)
  obtain⟨o,es,ep,h1,h2,_⟩:=p
  exact W.kia_one W.kitx_dict I.kIn ⟨o,h1,h2.1⟩ e (λz=>nomatch z) h
 | @dT a kvs ea =>
  cases (show u=Value.ref a from rx)
  obtain⟨_,_,xs,_,o,es,ep,h1,h2,_⟩:=(show c7 X.prog X.w H s.heap a (.dT kvs) from I.hok a _ ea)
  exact W.kia_one W.kitx_dict I.kIn ⟨o,h1,h2.1⟩ e (λz=>nomatch z) h
 | @ins a C dx fs ea cl ha hn htk hm =>
  cases (show u=Value.ref a from rx)
  obtain⟨mA,O,_⟩:=BS I.hok ea
  obtain⟨od,J,_⟩:=O.look
  exact W.kia_one (W.kitx_own (cl.get _) cl.hd ha hn htk hm) I.kIn J e (λz=>nomatch z) h
end
end
section
structure y4e(k:Nat)(A:Around):Prop where
 hd:A.handled=none
 dp:A.depth+3*k+5<recursionLimit
 un:A.units+16*k+200<cLine
 gd:A.guards=some []
def y4e.mono{j k:Nat}{A:Around}(r:y4e k A)(h:j≤k):y4e j A:=⟨r.hd,by have:=r.dp;lia,by have:=r.un;lia,r.gd⟩
theorem y4e.deeper{k:Nat}{A:Around}(r:y4e (k+1) A)(env:Env):y4e k (A.deeper env) :=
 ⟨r.hd,by have:=r.dp;show A.depth+1+3*k+5<_;lia,by have:=r.un;show A.units+3+16*k+200<_;lia,r.gd⟩
def BV{A:Around}{C:Addr}{us:List Value}{kw:List (Str×Value)}:(A.under (.builtin "type.__call__" ⟨.ref C::us,kw⟩)).depth=A.depth+1:=by
 first|rfl|simp [Around.under,Code.weight,Code.isCreation,Code.isGuard,Code.isCaller,Code.frames,Code.isFrame,guardIds]
def BW{A:Around}{C:Addr}{us:List Value}{kw:List (Str×Value)}:(A.under (.builtin "type.__call__" ⟨.ref C::us,kw⟩)).units=A.units+1:=by
 first|rfl|simp [Around.under,Code.cUnits,Code.frames,Code.isFrame]
def y4e.make{k:Nat}{A:Around}(r:y4e (k+1) A)(C:Addr)(us:List Value)(kw:List (Str×Value)):y4e k (A.under (.builtin "type.__call__" ⟨.ref C::us,kw⟩)) :=
 ⟨r.hd,by have:=r.dp;rw [BV];lia,by have:=r.un;rw [BW];lia,by have:=r.gd;first|exact this|simpa [Around.under,Code.guards,Code.isGuard,guardIds,pushGuards] using this⟩
theorem y4e.depth{k:Nat}{A:Around}(r:y4e k A):A.depth<recursionLimit:=by have:=r.dp;lia
theorem y4e.units{k:Nat}{A:Around}(r:y4e k A):A.units+64<cLine:=by have:=r.un;lia
abbrev gT:TA:=λ_ H Q=>Q [] H
abbrev cS(ta:TE)(tr:TA):TA:=λσ H Q=>ta σ H λx H1=>tr σ H1 λxs H2=>Q (x::xs) H2
section
variable {X:Cx}{e:Expr}{es:List Expr}{te:TE}{t:TA}{pos:Pos}
def dM:PA X [] gT:=λ_ _ _ _ H Q I h=>Calls.spliced_nil ⟨[],H,I,.nil,h⟩
def bV(ha:PE X e te)(hr:PA X es t)(hs:‹starEach (e::es) X.env=(false,eval e X.env)::starEach es X.env›):PA X (e::es) (cS te t):=by
 intro pos pins s σ H Q I h
 rw [hs]
 show wpAny _ _ (spliced ((false,eval e X.env)::backTo pos (starEach es X.env))) _ _ s
 refine Calls.spliced_cons (aO (ha pins s σ H _ I h) λu s1 zz=>?_)
 obtain⟨x,H1,I1,r1,q1⟩:=zz
 exact aO (hr pos pins s1 σ H1 _ I1 q1) λus s2 ⟨xs,H2,I2,r2,q2⟩=>⟨x::xs,H2,I2,.cons r1 r2,q2⟩
abbrev kP(t:TA):TE:=λσ H Q=>t σ H λxs H1=>xs.length≤sizeLine/\∀p,H1 p=none->Q (.ref p) (aH H1 p (.tup xs))
abbrev BX(t:TA):TE:=λσ H Q=>t σ H λxs H1=>xs.length≤sizeLine/\∀p,H1 p=none->Q (.ref p) (aH H1 p (.lst xs))
def ju{x1}(h:PA X es t):PE X (.Tuple es x1 pos) (kP t):=by
 intro pins s σ H Q I hq
 refine wpAny_Tuple_spliced (aO (h pos pins s σ H _ I hq) λus s1 ⟨xs,H1,I1,r,z,q⟩=>⟨by rw [<- r.length];exact z,?_⟩)
 have hf:H1 s1.heap.objs.size=none:=I1.hok.fresh (z10 _)
 refine⟨.ref s1.heap.objs.size,aH H1 s1.heap.objs.size (.tup xs),I1.laid (t':=s1.toks) (λb u e=>zc _ e) (z10 _) ?_,rfl,q _ hf⟩
 exact⟨z,us,r,kF.mk' _ _⟩
def BY(h:PA X es t):PE X (.List es pos) (BX t):=by
 intro pins s σ H Q I hq
 refine wpAny_List_spliced (aO (h pos pins s σ H _ I hq) λus s1 ⟨xs,H1,I1,r,z,q⟩=>⟨by rw [<- r.length];exact z,?_⟩)
 have hf:H1 s1.heap.objs.size=none:=I1.hok.fresh (z10 _)
 refine⟨.ref s1.heap.objs.size,aH H1 s1.heap.objs.size (.lst xs),I1.laid (t':=s1.toks) (λb u e=>zc _ e) (z10 _) ?_,rfl,q _ hf⟩
 exact⟨z,us,0,r,z21 _ rfl⟩
end
noncomputable abbrev Sp:=List V->Hp->VK->XK->Prop
noncomputable abbrev gU:=List Env->Hp->Shared->XK->Value->Shared->Prop
structure y11(P:Program)(w:World)(K:W.Frag)(mg:Str->Option Value)(base:Heap)(A:Around)(outer:List Env)(s:Shared)(H:Hp):Prop where
 frames:A.frames=some outer
 mod:Mod K mg base
 bs:∀b o,base.get? b=some o->s.heap.get? b=some o/\H b=none
 bsz:base.objs.size≤s.heap.objs.size
 y170:s.heap.FunFrames base outer
 frf:∀b∈fM outer,H b=none
 hok:cB P w H s.heap
 bare:AllBare s.gens
abbrev CE(outer:List Env)(P:Program)(w:World)(H:Hp)(s:Shared)(Q:VK)(u:Value)(s':Shared):Prop :=
 ∃v H',s'.os=s.os/\AllBare s'.gens/\Un (fM outer) [] H H' s.heap s'.heap/\cB P w H' s'.heap/\ay v u/\Q v H'
abbrev CR(CX:gU)(outer:List Env)(P:Program)(w:World)(H:Hp)(s:Shared)(Q:VK)(E:XK)(r:Result)(s':Shared):Prop :=
 match r with
 | .ok (.ret u)=>CE outer P w H s Q u s'
 | .ok _=>False
 | .error e=>CX outer H s E e s'
structure y3f(P:Program)(w:World)(K:W.Frag)(mg:Str->Option Value)(base:Heap)(CX:gU)(k:Nat)(f:Addr)(fd:FuncData)(ps:List Str)(sp:Sp):Prop where
 len:∀vs H Q E,sp vs H Q E->vs.length=ps.length
 run:∀(A:Around) (outer:List Env) (s:Shared) (H:Hp) (args:Args) (us:List Value) (vs:List V) (Q:VK) (E:XK),y4e k A->y11 P w K mg base A outer s H->BindsTo s fd args (ps.zip us)->au vs us->sp vs H Q E ->
  codeAny (model P w) A (.call (.ref f) args) (CR CX outer P w H s Q E) s
def y3f.imp{P:Program}{w:World}{K:W.Frag}{mg:Str->Option Value}{base:Heap}{CX:gU}{k:Nat}{f:Addr}{fd:FuncData}{ps:List Str}{sp sp':Sp}(F:y3f P w K mg base CX k f fd ps sp)
  (h:∀vs H Q E,sp' vs H Q E->sp vs H Q E):y3f P w K mg base CX k f fd ps sp' :=
 ⟨λvs H Q E q=>F.len vs H Q E (h _ _ _ _ q),λA outer s H args us vs Q E hr he hb hv hs=>F.run A outer s H args us vs Q E hr he hb hv (h _ _ _ _ hs)⟩
def y11.make{P:Program}{w:World}{K:W.Frag}{mg:Str->Option Value}{base:Heap}{A:Around}{outer:List Env}{s:Shared}{H:Hp}(e:y11 P w K mg base A outer s H)(C:Addr)(us:List Value)(kw:List (Str×Value)) :
  y11 P w K mg base (A.under (.builtin "type.__call__" ⟨.ref C::us,kw⟩)) outer s H:=⟨by first|exact e.frames|(simpa [Around.under,Code.envs,Code.isFrame,pushEnvs] using e.frames),e.mod,e.bs,e.bsz,e.y170,e.frf,e.hok,e.bare⟩
section
variable {X:Cx}{pins:List (Addr×Obj)}{σ:St}{H:Hp}{s s':Shared}
def Inv.env0(I:Inv X pins σ H s):y11 X.prog X.w X.K X.mg X.base X.A X.stack s H :=
 ⟨I.ok.frames,I.ok.mod,I.bs,z1a I.ok.bsz I.sz,I.stack,I.y45e,I.hok,I.bare⟩
def Inv.after{Q:VK}{u:Value}(I:Inv X pins σ H s)(h:CE X.stack X.prog X.w H s Q u s'):EP X pins σ Q u s':=by
 obtain⟨v,H',os,bare,un,hok,r,q⟩:=h
 obtain⟨hh,g,d,t,os'⟩:=s'
 obtain rfl:os'=s.os:=os
 exact⟨v,H',I.call (h':=hh) (g':=g) (d':=d) (t':=t) (ch:=[]) un hok bare (λb z=>absurd z (by simp)),r,q⟩
end
abbrev eX(sp:Sp)(dvs:List V)(E:XK)(t:TA):TE:=λσ H Q=>t σ H λvs H1=>sp (vs++dvs) H1 Q E
abbrev cQ(K:W.Frag)(fd:FuncData)(ps:List Str)(ds:List Value):Prop :=
 ∀(s:Shared) (us:List Value),K.In s.heap->(us++ds).length=ps.length->BindsTo s fd ⟨us,[]⟩ (ps.zip (us++ds))
def cQ.all{K:W.Frag}{fd:FuncData}{ps:List Str}(h:∀us:List Value,us.length=ps.length->bindArgs fd ⟨us,[]⟩=pure (ps.zip us)):cQ K fd ps []:=λs us _ hl=>by
 rw [z11] at hl ⊢
 exact .of_eq (h us hl)
abbrev bO(CX:gU)(X:Cx)(E:XK):Prop:=∀(pins:List (Addr×Obj)) (σ:St) (H:Hp) (s:Shared) (e:Value) (s':Shared),Inv X pins σ H s->CX X.stack H s E e s'->X.xe e s'
section
variable {X:Cx}{CX:gU}{k:Nat}{f C:Addr}{fd:FuncData}{ps:List Str}{sp:Sp}{dvs:List V}{ds:List Value}{E:XK}{x m:Str}{p pos apos:Pos}{e o:Expr}{es:List Expr}{ta:TE}{t:TA}
def BZ{pins:List (Addr×Obj)}{σ:St}{H:Hp}{s:Shared}{Q:VK}{us:List Value}{vs:List V}(F:y3f X.prog X.w X.K X.mg X.base CX k f fd ps sp)(hr:y4e k X.A)(hb:cQ X.K fd ps ds)(hd:au dvs ds)(hx:bO CX X E)
  (I:Inv X pins σ H s) (r:au vs us) (h:sp (vs++dvs) H Q E):wpAny (model X.prog X.w) X.A (call (.ref f) us) (EP X pins σ Q) X.xe s:=by
 have r2:au (vs++dvs) (us++ds):=r.append hd
 have hl:(us++ds).length=ps.length:=by rw [<- r2.length];exact F.len _ _ _ _ h
 refine wpAny_call (codeAny_mono (F.run X.A X.stack s H ⟨us,[]⟩ (us++ds) (vs++dvs) Q E hr I.env0 (hb s us I.kIn hl) r2 h) λr s' hq=>?_)
 cases r with
 | error e=>exact hx pins σ H s e s' I hq
 | ok fl =>
  cases fl with
  | ret u=>exact I.after hq
  | next=>exact False.elim hq
  | brk=>exact False.elim hq
  | cont=>exact False.elim hq
noncomputable abbrev fN(X:Cx)(e:Expr)(es:List Expr):Prop:=starEach (e::es) X.env=(false,eval e X.env)::starEach es X.env
noncomputable abbrev eY(X:Cx)(pos:Pos)(es:List Expr):Prop:=(backTo pos (starEach es X.env)).any (·.1)=false
def nZ(F:y3f X.prog X.w X.K X.mg X.base CX k f fd ps sp)(hr:y4e k X.A)(hg:Gl X x)(hm:X.mg x=some (.ref f))(hk:W.keepIn X.K (.ref f)=true)(hb:cQ X.K fd ps ds)(hd:au dvs ds)(hx:bO CX X E)
  (ha:PA X (e::es) t) (hdb:(x == ("__debug__" : Str))=false:=by decide) (he:‹fN X e es›) (hpl:‹eY X pos es›) :
  PE X (.Call (.Name x p) (e::es) [] pos) (eX sp dvs E t):=by
 intro pins s σ H Q I h
 refine wpAny_Call_Name_kw (jj I hg hm ?_ hdb)
 refine W.callWith_K (h₀:=X.base) I.ok.mod.kin hk (aO (ha pos pins s σ H _ I h) λus s1 ⟨vs,H1,I1,r,q⟩=>⟨I1.kIn,?_⟩) he hpl
 exact BZ F hr hb hd hx I1 r q
structure Mk(K:W.Frag)(C f:Addr):Prop where
 makes:W.makesIn K C=true
 init:W.findIn K (.ref C) "__init__" = some (some (.ref f))
 fn:W.isFn K (.ref f)=true
 kp:W.keepIn K (.ref C)=true
end
section
variable {X:Cx}{CX:gU}{k:Nat}{f C:Addr}{fd:FuncData}{ps ks:List Str}{sp:Sp}{E:XK}{x m:Str}{p pos apos kpos:Pos}{e o:Expr}{es:List Expr}{kws:List Keyword}{te ta:TE}{t tk:TA}{nm:Option Str}
structure KBinds(K:W.Frag)(fd:FuncData)(ps ks:List Str)(g:List Value->List Value->List Value)(gV:List V->List V->List V):Prop where
 to:∀(s:Shared) (us ws:List Value),K.In s.heap->(g us ws).length=ps.length->BindsTo s fd ⟨us,ks.zip ws⟩ (ps.zip (g us ws))
 rel:∀{vs:List V} {us:List Value} {zs:List V} {ws:List Value},au vs us->au zs ws->au (gV vs zs) (g us ws)
variable {g:List Value->List Value->List Value}{gV:List V->List V->List V}
end
structure y40(N P:List Str)(sc:Scope):Prop where
 kind:sc.kind=.function
 co:sc.isCoroutine=false
 gen:sc.isGenerator=false
 nd:N.Nodup
 pre:N.take P.length=P
 par:∀x∈P,sc.names.lookup x=some .local∨sc.names.lookup x=some .cell
 y290:∀y∈sc.names,y.2≠.free
theorem y8f{kindOf:Str->Option NameKind}{x:Str}:∀{binds:List (Str×Value)} {m:Str->Option Value},(∀v,(x,v)∉binds)->bindL kindOf binds m x=m x
 | [],_,_=>rfl
 | (n,v)::r,m,h=>by
  unfold bindL
  rw [y8f λw hw=>h w (z1d _ hw)]
  split
  ·have:x≠n:=by rintro rfl;exact h v List.mem_cons_self
   simp [this]
  ·rfl
theorem y8d{kindOf:Str->Option NameKind}{x:Str}:∀{binds:List (Str×Value)} {m:Str->Option Value},(∀v,(x,v)∉binds)->bindC kindOf binds m x=m x
 | [],_,_=>rfl
 | (n,v)::r,m,h=>by
  unfold bindC
  rw [y8d λw hw=>h w (z1d _ hw)]
  split
  ·rfl
  ·have:x≠n:=by rintro rfl;exact h v List.mem_cons_self
   simp [this]
theorem y8e{kindOf:Str->Option NameKind}{x:Str}{v:Value}:∀{P:List Str} {vs:List Value} {i:Nat} {m:Str->Option Value},P.Nodup->P[i]?=some x->vs[i]?=some v->kindOf x=some .local ->
  bindL kindOf (P.zip vs) m x=some v
 | [],_,_,_,_,h,_,_=>by simp at h
 | _::_,[],_,_,_,_,h,_=>by simp at h
 | p::P,w::vs,0,m,nd,h1,h2,hk=>by
  simp at h1 h2;subst h1;subst h2
  show bindL kindOf ((p,w)::P.zip vs) m p=_
  unfold bindL
  rw [y8f λv hv=>(List.nodup_cons.mp nd).1 (List.of_mem_zip hv).1,if_pos hk]
  simp
 | p::P,w::vs,i+1,m,nd,h1,h2,hk=>by
  show bindL kindOf ((p,w)::P.zip vs) m x=_
  unfold bindL
  exact y8e (i:=i) (List.nodup_cons.mp nd).2 (by simpa using h1) (by simpa using h2) hk
theorem y8c{kindOf:Str->Option NameKind}{x:Str}{v:Value}:∀{P:List Str} {vs:List Value} {i:Nat} {m:Str->Option Value},P.Nodup->P[i]?=some x->vs[i]?=some v->kindOf x≠some .local ->
  bindC kindOf (P.zip vs) m x=some v
 | [],_,_,_,_,h,_,_=>by simp at h
 | _::_,[],_,_,_,_,h,_=>by simp at h
 | p::P,w::vs,0,m,nd,h1,h2,hk=>by
  simp at h1 h2;subst h1;subst h2
  show bindC kindOf ((p,w)::P.zip vs) m p=_
  unfold bindC
  rw [y8d λv hv=>(List.nodup_cons.mp nd).1 (List.of_mem_zip hv).1,if_neg hk]
  simp
 | p::P,w::vs,i+1,m,nd,h1,h2,hk=>by
  show bindC kindOf ((p,w)::P.zip vs) m x=_
  unfold bindC
  exact y8c (i:=i) (List.nodup_cons.mp nd).2 (by simpa using h1) (by simpa using h2) hk
abbrev start(N:List Str)(vs:List V):St:=vs.map some++List.replicate (N.length-vs.length) none
noncomputable def ei(CX:gU)(P:Program)(w:World)(K:W.Frag)(mg:Str->Option Value)(base:Heap)(N:List Str)(qual:Str)(scope:Scope)(f:Addr)(cd:Value)(A:Around)(outer:List Env)(s:Shared)(H:Hp)(E:XK):Cx where
 prog:=P
 w:=w
 K:=K
 mg:=mg
 base:=base
 A:=A.deeper (envOfC qual scope s.heap.objs.size f cd)
 N:=N
 s₀:=s
 H₀:=H
 env:=envOfC qual scope s.heap.objs.size f cd
 outer:=outer
 stack:=envOfC qual scope s.heap.objs.size f cd::outer
 ex:=[]
 calm:=true
 fn:=λ_=>true
 pn:=[]
 xe:=λe s'=>wpAny (model P w) (A.deeper (envOfC qual scope s.heap.objs.size f cd)) (leaving (envOfC qual scope s.heap.objs.size f cd) e) (λ_ s''=>CX outer H s E e s'') (λe' s''=>CX outer H s E e' s'') s'
def ybc{sc:Scope}{n:Nat}{x:Str}(h:sc.names.lookup x=some .cell):∃c,(cellsFrom n sc.names []).lookup x=some c:=by
 have q:=W.cellsFrom_some sc.names n [] (.inl h)
 exact Option.isSome_iff_exists.mp q
def sf{CX:gU}{P:Program}{w:World}{K:W.Frag}{mg:Str->Option Value}{base:Heap}{N ps:List Str}{qual:Str}{scope:Scope}{f:Addr}{cd:Value}{A:Around}{outer:List Env}{s s1:Shared}{H:Hp}{E:XK}{us:List Value}{vs:List V}
  (S:y40 N ps scope) (hd:A.handled=none) (e0:y11 P w K mg base A outer s H) (hl:vs.length=ps.length) (r:au vs us)
  (x:InCallC s s.heap.objs.size (bindL (envOfC qual scope s.heap.objs.size f cd).kindOf (ps.zip us) λ_=>none) (cellsFrom (s.heap.objs.size+1) scope.names []) (bindC (envOfC qual scope s.heap.objs.size f cd).kindOf (ps.zip us) λ_=>none) s1) :
  Inv (ei CX P w K mg base N qual scope f cd A outer s H E) [] (start N vs) H s1:=by
 have hpl:ps.length≤N.length:=by have:=congrArg List.length S.pre;rw [z2b] at this;lia
 obtain⟨h1,tk,rfl,hk⟩:=x.done
 have noA:∀b:Addr,b∉(ei CX P w K mg base N qual scope f cd A outer s H E).ex:=λb z=>absurd (show b∈([]:List Addr) from z) (by simp)
 refine⟨⟨e0.mod,S.kind,rfl,rfl,z10 _,λy z c h1 h2=>?_,λy hy=>?_,λy c _ h=>?_,λ_=>hd,Around.frames_deeper e0.frames,.inr ⟨rfl,rfl⟩,λb z=>absurd z (noA b),e0.bs,e0.bsz,λb _ _=>noA b,λb z=>absurd z (noA b),e0.y170,e0.frf⟩,
  rfl,e0.bare,Un.kept hk,⟨_,x.toInCall.ns,λi y v h1 h2 h3=>?_⟩,λy c h=>⟨_,x.cell y c h⟩,e0.hok.fresh (z10 _),λy c h=>?_,λp hp=>absurd (show p∈([]:List (Addr×Obj)) from hp) (by simp),e0.hok.kept hk,?_⟩
 ·exact name_of_addr x.apart (PySem.mem_of_lookup h1) (PySem.mem_of_lookup h2)
 ·have hy:scope.names.lookup y=some .cell∨scope.names.lookup y=some .free:=hy
  rcases hy with hy|hy
  ·exact ybc hy
  ·exact absurd rfl (S.y290 _ (PySem.mem_of_lookup hy))
 ·exact Nat.le_of_lt (x.above y c (PySem.mem_of_lookup h))
 ·have hi:i<vs.length:=by
   unfold start at h2
   by_cases hi:i<vs.length
   ·exact hi
   ·rw [z23 (by simpa using hi)] at h2
    rw [List.getElem?_replicate] at h2
    split at h2<;>cases h2
  have ha:vs[i]?=some v:=by
   unfold start at h2
   rw [z25 (by simpa using hi),List.getElem?_map] at h2
   cases e:vs[i]? with
   | none=>rw [e] at h2;cases h2
   | some a=>rw [e] at h2;cases h2;rfl
  obtain⟨u,hu,rv⟩:=r.get ha
  have hp:ps[i]?=some y:=by
   rw [<- S.pre,List.getElem?_take_of_lt (by lia)];exact h1
  have ndP:ps.Nodup:=by rw [<- S.pre];exact S.nd.sublist (List.take_sublist _ _)
  refine⟨u,rv,?_⟩
  rcases S.par y (z34 hp) with k|k
  ·exact .inl ⟨k,y8e ndP hp hu k⟩
  ·obtain⟨c,e⟩:=ybc (n:=s.heap.objs.size+1) k
   refine .inr ⟨.inl k,c,e,?_⟩
   have q:=x.cell y c e
   rw [y8c ndP hp hu (by show scope.names.lookup y≠_;rw [k];decide)] at q
   exact q
 ·exact e0.hok.fresh (Nat.le_of_lt (x.above y c (PySem.mem_of_lookup h)))
 ·unfold start
  show _=N.length
  rw [zd,z12,List.length_replicate]
  lia
def sh{CX:gU}{P:Program}{w:World}{K:W.Frag}{mg:Str->Option Value}{base:Heap}{k:Nat}{f:Addr}{name qual:Str}{params:Arguments}{body:List Stmt}{scope:Scope}{dV kV doc pm cdv ct oc:Value}{an od:Option Addr}
  {osl:Array (Option Value)} {N ps:List Str} {sp:Sp} (lk:K.lookup f=some ⟨oc,od,.func (W.fnOf name qual params body scope dV kV doc pm an cdv ct),osl⟩) (hcd:W.codeIn K cdv qual=true) (S:y40 N ps scope)
  (len:∀vs H Q E,sp vs H Q E->vs.length=ps.length)
  (y1ac:∀(A:Around) (outer:List Env) (s:Shared) (H:Hp) (vs:List V) (Q:VK) (E:XK),y4e k (A.deeper (envOfC qual scope s.heap.objs.size f cdv))->sp vs H Q E ->
   ∃t,dI (ei CX P w K mg base N qual scope f cdv A outer s H E) body t/\t { nx:=λ_ H'=>Q .non H',rt:=Q } (start N vs) H) :
  y3f P w K mg base CX (k+1) f (W.fnOf name qual params body scope dV kV doc pm an cdv ct) ps sp:=by
 refine⟨len,λA outer s H args us vs Q E hr e0 hb r hsp=>?_⟩
 have hl:=len _ _ _ _ hsp
 have KX:K.In s.heap:=e0.mod.kin.keeps λb o e=>(e0.bs b o e).1
 have lim:s.heap.NoLimit:=e0.mod.nolimit.keeps λb o e=>(e0.bs b o e).1
 have y1b7:∀y∈ps.zip us,scope.names.lookup y.1=some .local∨(scope.names.lookup y.1=some .cell/\((cellsFrom (s.heap.objs.size+1) scope.names []).lookup y.1).isSome=true):=λzz hy=>by
  obtain⟨n,v⟩:=zz
  rcases S.par n (List.of_mem_zip hy).1 with q|q
  ·exact .inl q
  ·exact .inr ⟨q,W.cellsFrom_some _ _ _ (.inl q)⟩
 refine codeAny_call_function hr.depth (KX _ _ lk) rfl S.co S.gen rfl (W.codeRec_of KX hcd) (hb _ _ _ _ ?_)
 refine wpAny_newFunctionEnv_cells S.kind y1b7 λenv he s1 x=>?_
 subst he
 refine⟨lim.keeps x.toInCall.keep,codeAny_func ?_⟩
 obtain⟨t,ht,hq⟩:=y1ac A outer s H vs Q E (hr.deeper _) hsp
 have I:Inv (ei CX P w K mg base N qual scope f cdv A outer s H E) [] (start N vs) H s1:=sf S hr.hd e0 hl r x
 refine wpAny_mono (ht [] s1 (start N vs) H _ I hq) (λfl s' hs=>?_) λe s' hs=>hs
 have fin:∀{σ':St} {H':Hp} {v:V} {u:Value},Inv (ei CX P w K mg base N qual scope f cdv A outer s H E) [] σ' H' s'->ay v u->Q v H'->CE outer P w H s Q u s' :=
  λ{σ' H' v u} J rv q=>⟨v,H',J.os,J.bare,J.base,J.hok,rv,q⟩
 cases fl with
 | ret u =>
  obtain⟨v,σ',H',J,rv,q⟩:=hs
  exact fin J rv q
 | next =>
  obtain⟨σ',H',J,q⟩:=hs
  exact fin (v:=V.non) (u:=Value.none) J rfl q
 | brk =>
  obtain⟨_,_,_,q⟩:=hs
  exact False.elim q
 | cont =>
  obtain⟨_,_,_,q⟩:=hs
  exact False.elim q
end
section
section
variable {X:Cx}{x:Str}{p pos:Pos}{e:Expr}{es:List Expr}{t:TA}{id T:String}{r:List V->Hp->VK->Prop}
abbrev Ar(r:List V->Hp->VK->Prop)(t:TA):TE:=λσ H Q=>t σ H λvs H1=>r vs H1 Q
def eZ(hc:y6 X (.builtin id) r)(hg:Gl X x)(hm:X.mg x=none)(hv:bootBuiltins x=some (.builtin id))(ha:PA X (e::es) t)(hn:x≠"__name__":=by decide)(hdb:(x == ("__debug__" : Str))=false:=by decide)
  (he:‹fN X e es›) (hpl:‹eY X pos es›):PE X (.Call (.Name x p) (e::es) [] pos) (Ar r t):=by
 intro pins s σ H Q I h
 refine wpAny_Call_Name_kw (gP I hg hm hv ?_ hn hdb)
 exact PyProof.Rows.callWith_builtin1 (aO (ha pos pins s σ H _ I h) λus s1 ⟨vs,H1,I1,r1,q1⟩=>hc pins s1 σ H1 vs us Q I1 r1 q1) he hpl
def n5(hc:y6 X (.type T) r)(hg:Gl X x)(hm:X.mg x=none)(hv:bootBuiltins x=some (.type T))(ha:PA X (e::es) t)(hn:x≠"__name__":=by decide)(hdb:(x == ("__debug__" : Str))=false:=by decide)
  (he:‹fN X e es›) (hpl:‹eY X pos es›):PE X (.Call (.Name x p) (e::es) [] pos) (Ar r t):=by
 intro pins s σ H Q I h
 refine wpAny_Call_Name_kw (gP I hg hm hv ?_ hn hdb)
 exact PyProof.Rows.callWith_type1 (aO (ha pos pins s σ H _ I h) λus s1 ⟨vs,H1,I1,r1,q1⟩=>hc pins s1 σ H1 vs us Q I1 r1 q1) he hpl
end
end
section
section
variable {κ:Type}[DecidableEq κ]
abbrev cW(kvs:List (κ×V))(k:κ):Option V:=(kvs.find? λkv=>decide (kv.1=k)).map (·.2)
abbrev b6(kvs:List (κ×V))(k:κ)(v:V):List (κ×V) :=
 if (kvs.any λkv=>decide (kv.1=k))=true then kvs.map (λkv=>if kv.1=k then (kv.1,v) else kv) else kvs++[(k,v)]
def kQ{p:κ×V}{r:List (κ×V)}{k:κ}(e:p.1=k):cW (p::r) k=some p.2:=by simp [cW,List.find?_cons,e]
def kR{p:κ×V}{r:List (κ×V)}{k:κ}(e:¬ p.1=k):cW (p::r) k=cW r k:=by simp [cW,List.find?_cons,e]
theorem sj(k:κ):∀kvs:List (κ×V),(kvs.any λkv=>decide (kv.1=k))=(cW kvs k).isSome
 | []=>rfl
 | p::r=>by
  rw [List.any_cons]
  by_cases e:p.1=k
  ·simp only [kQ e,decide_eq_true e,Bool.true_or,Option.isSome_some]
  ·rw [kR e,decide_eq_false e,Bool.false_or];exact sj k r
def n8(kvs:List (κ×V))(k:κ)(v:V):(b6 kvs k v).length≤kvs.length+1:=by
 unfold b6
 split
 ·rw [z12];lia
 ·rw [zd,z15,List.length_nil];lia
def ip.y1de{o:Option V}{u:Option Value}(r:ip o u):o.isSome=u.isSome:=by
 cases o with
 | none=>cases u with
  | none=>rfl
  | some _=>exact (show False from r).elim
 | some _=>cases u with
  | none=>exact (show False from r).elim
  | some _=>rfl
def KV.val{kvs:List (κ×V)}{vs:List (κ×Value)}(r:KV kvs vs)(k:κ):ip (cW kvs k) (valueAt vs k):=by
 unfold KV at r
 induction r with
 | nil=>exact True.intro
 | @cons p q ps qs h t ih =>
  obtain⟨h1,h2⟩:=h
  by_cases e:p.1=k
  ·have e':q.1=k:=h1.symm.trans e
   have b:valueAt (q::qs) k=some q.2:=by simp [valueAt,List.find?_cons,e']
   rw [kQ e,b];exact h2
  ·have e':¬ q.1=k:=λz=>e (h1.trans z)
   have b:valueAt (q::qs) k=valueAt qs k:=by simp [valueAt,List.find?_cons,e']
   rw [kR e,b];exact ih
theorem KV.any{kvs:List (κ×V)}{vs:List (κ×Value)}(r:KV kvs vs)(k:κ):(kvs.any λkv=>decide (kv.1=k))=vs.any λkv=>decide (kv.1=k):=by
 unfold KV at r
 induction r with
 | nil=>rfl
 | cons h t ih=>rw [List.any_cons,List.any_cons,ih,h.1]
def KV.repl{kvs:List (κ×V)}{vs:List (κ×Value)}(r:KV kvs vs)(k:κ){y:V}{u:Value}(ry:ay y u) :
  KV (kvs.map λkv=>if kv.1=k then (kv.1,y) else kv) (vs.map λkv=>if kv.1=k then (kv.1,u) else kv):=by
 unfold KV at r ⊢
 induction r with
 | nil=>exact .nil
 | @cons p q ps qs h t ih =>
  rw [z18,z18]
  refine .cons ?_ ih
  obtain⟨h1,h2⟩:=h
  by_cases e:p.1=k
  ·rw [if_pos e,if_pos (h1.symm.trans e)];exact⟨h1,ry⟩
  ·rw [if_neg e,if_neg (λz=>e (h1.trans z))];exact⟨h1,h2⟩
def KV.put{kvs:List (κ×V)}{vs:List (κ×Value)}(r:KV kvs vs)(k:κ){y:V}{u:Value}(ry:ay y u):KV (b6 kvs k y) (stored vs k u):=by
 unfold b6 stored
 rw [r.any k]
 by_cases e:(vs.any λkv=>decide (kv.1=k))=true
 ·rw [if_pos e,if_pos e];exact r.repl k ry
 ·rw [if_neg e,if_neg e];exact Paired.snoc r ⟨rfl,ry⟩
theorem KV.length{kvs:List (κ×V)}{vs:List (κ×Value)}(r:KV kvs vs):kvs.length=vs.length:=Paired.length r
end
def iH{P:Program}{w:World}{k:aS}{u:Value}(r:ay (kV k) u):(cF P w).is k u=true:=by
 cases k with
 | inl i=>obtain⟨t,e⟩:=(show ∃t,u=Value.int i t from r);subst e;exact Bd P w i t
 | inr x=>obtain⟨t,e⟩:=(show ∃t,u=Value.str x t from r);subst e;exact Be P w x t
theorem su{P:Program}{w:World}:∀{ks:List aS} {us:List Value},au (ks.map kV) us->ItemsAre (cF P w) ks us
 | [],_,r=>by rw [List.map_nil] at r;cases r;exact .nil
 | k::ks,_,r=>by
  rw [z18] at r
  cases r with
  | cons h t=>exact .cons (iH h) (su t)
noncomputable abbrev KT(H:Hp):List (List aS×V)->List (List aS×Addr×Value)->Prop:=Paired λp q=>p.1=q.1/\H q.2.1=some (.tup (p.1.map kV))/\ay p.2 q.2.2
def KT.val{H:Hp}{kvs:List (List aS×V)}{xs:List (List aS×Addr×Value)}(r:KT H kvs xs)(k:List aS):ip (cW kvs k) ((atKey xs k).map (·.2)):=by
 induction r with
 | nil=>exact True.intro
 | @cons p q ps qs h t ih =>
  obtain⟨h1,_,h2⟩:=h
  by_cases e:p.1=k
  ·have e':q.1=k:=h1.symm.trans e
   have b:atKey (q::qs) k=some q.2:=by simp [atKey,List.find?_cons,e']
   rw [kQ e,b];exact h2
  ·have e':¬ q.1=k:=λz=>e (h1.trans z)
   have b:atKey (q::qs) k=atKey qs k:=by simp [atKey,List.find?_cons,e']
   rw [kR e,b];exact ih
def KT.repl{H:Hp}{kvs:List (List aS×V)}{xs:List (List aS×Addr×Value)}(r:KT H kvs xs)(k:List aS){y:V}{u:Value}(ry:ay y u) :
  KT H (kvs.map λkv=>if kv.1=k then (kv.1,y) else kv) (xs.map (putAt k u)):=by
 induction r with
 | nil=>exact .nil
 | @cons p q ps qs h t ih =>
  rw [z18,z18]
  refine .cons ?_ ih
  obtain⟨h1,h2,h3⟩:=h
  unfold putAt
  by_cases e:p.1=k
  ·rw [if_pos e,if_pos (h1.symm.trans e)];exact⟨h1,h2,ry⟩
  ·rw [if_neg e,if_neg (λz=>e (h1.trans z))];exact⟨h1,h2,h3⟩
def KT.put{H:Hp}{kvs:List (List aS×V)}{xs:List (List aS×Addr×Value)}(r:KT H kvs xs)(k:List aS){b:Addr}{y:V}{u:Value}(hb:H b=some (.tup (k.map kV)))(ry:ay y u) :
  KT H (b6 kvs k y) (storedH xs k b u):=by
 have e:(kvs.any λkv=>decide (kv.1=k))=(atKey xs k).isSome:=by
  rw [sj,(r.val k).y1de,Option.isSome_map]
 unfold b6 storedH
 rw [e]
 by_cases q:(atKey xs k).isSome=true
 ·rw [if_pos q,if_pos q];exact r.repl k ry
 ·rw [if_neg q,if_neg q];exact Paired.snoc r ⟨rfl,hb,ry⟩
def KT.keeps{H H':Hp}{kvs:List (List aS×V)}{xs:List (List aS×Addr×Value)}(r:KT H kvs xs)(ht:∀b ys,H b=some (.tup ys)->H' b=some (.tup ys)):KT H' kvs xs :=
 Paired.mapP r λ_ _ z=>⟨z.1,ht _ _ z.2.1,z.2.2⟩
section
variable {P:Program}{w:World}{H:Hp}{h:Heap}{a:Addr}
def sv{u:HO}(ok:cB P w H h)(e:Rd H a u):c7 P w H h a u:=e.ok ok
def iI{kvs:List (aS×V)}(ok:cB P w H h)(e:Rd H a (.dK kvs)):kvs.length≤sizeLine/\(a == sysModules)=false/\∃vs,KV kvs vs/\h.DictOf (cF P w) a vs :=
 show c7 P w H h a (.dK kvs) from sv ok e
def sA{kvs:List (aS×V)}(ok:cB P w H h)(e:H a=some (.dK kvs)):kvs.length≤sizeLine/\(a == sysModules)=false/\∃vs,KV kvs vs/\h.DictOf (cF P w) a vs:=iI ok (.inl e)
def jv{ks:List aS}(ok:cB P w H h)(e:H a=some (.tup (ks.map kV))):(tupleKind (cF P w)).is h ks a:=by
 obtain⟨_,its,r,o,h1,h2,_,n,h3⟩:=(show c7 P w H h a (.tup (ks.map kV)) from ok a _ e)
 exact⟨o,its.toArray,n,h1,h2,h3,by simpa using su r⟩
def jw{kvs:List (List aS×V)}(ok:cB P w H h)(e:Rd H a (.dT kvs)):kvs.length≤sizeLine/\(a == sysModules)=false /\
  ∃xs,KT H kvs xs/\h.DictOfH (tupleKind (cF P w)) a xs:=by
 obtain⟨z,y,xs,r,o,es,ep,h1,h2,h3,h4,h5⟩:=(show c7 P w H h a (.dT kvs) from sv ok e)
 refine⟨z,y,xs,r,o,es,ep,h1,h2,h3,h4,λx hx=>?_,h5⟩
 have all:∀{l:List (List aS×V)} {m:List (List aS×Addr×Value)},KT H l m->∀x∈m,(tupleKind (cF P w)).is h x.1 x.2.1:=by
  intro l m q
  induction q with
  | nil=>intro x hx;exact nomatch hx
  | @cons p q ps qs hq t ih =>
   intro x hx
   rcases z1f.mp hx with e|hx
   ·subst e
    exact jv ok (by rw [<- hq.1];exact hq.2.1)
   ·exact ih x hx
 exact all r x hx
def sC{kvs:List (List aS×V)}(ok:cB P w H h)(e:H a=some (.dT kvs)):kvs.length≤sizeLine/\(a == sysModules)=false /\
  ∃xs,KT H kvs xs/\h.DictOfH (tupleKind (cF P w)) a xs:=jw ok (.inl e)
end
abbrev yd(H:Hp)(a:Addr)(y:V)(r:Option V):Prop :=
 (∃kvs k,Rd H a (.dK kvs)/\y=kV k/\r=cW kvs k)∨∃kvs k b,Rd H a (.dT kvs)/\y=.ref b/\H b=some (.tup (k.map kV))/\r=cW kvs k
abbrev ye(H:Hp)(a:Addr)(y v:V)(H':Hp):Prop :=
 (∃kvs k,H a=some (.dK kvs)/\y=kV k/\kvs.length<sizeLine/\H'=aH H a (.dK (b6 kvs k v))) ∨
 ∃kvs k b,H a=some (.dT kvs)/\y=.ref b/\H b=some (.tup (k.map kV))/\kvs.length<sizeLine/\H'=aH H a (.dT (b6 kvs k v))
theorem yd.k{H:Hp}{a:Addr}{kvs:List (aS×V)}{k:aS}(e:H a=some (.dK kvs)):yd H a (kV k) (cW kvs k):=.inl ⟨kvs,k,.inl e,rfl,rfl⟩
def yd.t{H:Hp}{a b:Addr}{kvs:List (List aS×V)}{k:List aS}(e:H a=some (.dT kvs))(eb:H b=some (.tup (k.map kV))):yd H a (.ref b) (cW kvs k):=.inr ⟨kvs,k,b,.inl e,rfl,eb,rfl⟩
theorem ye.k{H:Hp}{a:Addr}{kvs:List (aS×V)}{k:aS}{v:V}(e:H a=some (.dK kvs))(hl:kvs.length<sizeLine):ye H a (kV k) v (aH H a (.dK (b6 kvs k v))):=.inl ⟨kvs,k,e,rfl,hl,rfl⟩
def ye.t{H:Hp}{a b:Addr}{kvs:List (List aS×V)}{k:List aS}{v:V}(e:H a=some (.dT kvs))(eb:H b=some (.tup (k.map kV)))(hl:kvs.length<sizeLine) :
  ye H a (.ref b) v (aH H a (.dT (b6 kvs k v))):=.inr ⟨kvs,k,b,e,rfl,eb,hl,rfl⟩
section
variable {X:Cx}{pins:List (Addr×Obj)}{σ:St}{H:Hp}{s:Shared}{a:Addr}{y v:V}{u r:Value}{o:Option V}{A:Around}{E:Value->Shared->Prop}
def Inv.big(I:Inv X pins σ H s):sysModules<s.heap.objs.size:=by
 have h:mainGlobals<s.heap.objs.size:=(I.mod.glob.keeps I.bk).lt
 exact z35 (by decide) h
def ye4{Q:Value->Shared->Prop}(hu:A.units+1<cLine)(I:Inv X pins σ H s)(g:yd H a y (some v))(ry:ay y u)(h:∀w' s',Inv X pins σ H s'->ay v w'->Q w' s') :
  wpAny (model X.prog X.w) A (getItem (.ref a) u) Q E s:=by
 rcases g with⟨kvs,k,e,ey,l⟩| ⟨kvs,k,b,e,ey,eb,l⟩
 ·subst ey
  obtain⟨z,hd,vs,rel,dd⟩:=iI I.hok e
  obtain⟨w',hw,rw'⟩:=ip.some_of (v:=v) (o:=valueAt vs k) (by rw [l];exact rel.val k)
  exact wpAny_getItem_of (iH ry) dd.mapOf hw (h w' _ (I.tok _) rw')
 ·subst ey
  cases (show u=Value.ref b from ry)
  obtain⟨z,hd,xs,rel,dd⟩:=jw I.hok e
  obtain⟨w',hw,rw'⟩:=ip.some_of (v:=v) (o:=(atKey xs k).map (·.2)) (by rw [l];exact rel.val k)
  obtain⟨p,hp,hp2⟩:=Option.map_eq_some_iff.mp hw
  refine wpAny_getItem_heap (tupleKind_room_in1 hu) (jv I.hok eb) dd hp ?_
  rw [hp2]
  exact h w' _ (I.tok _) rw'
def B1{Q:Value->Shared->Prop}(hu:A.units+1<cLine)(I:Inv X pins σ H s)(g:yd H a y o)(ry:ay y u)(h:∀s',Inv X pins σ H s'->Q (.bool o.isSome) s') :
  wpAny (model X.prog X.w) A (compareOp .In u (.ref a)) Q E s:=by
 rcases g with⟨kvs,k,e,ey,l⟩| ⟨kvs,k,b,e,ey,eb,l⟩
 ·subst ey
  obtain⟨z,hd,vs,rel,dd⟩:=iI I.hok e
  refine wpAny_in_of (iH ry) hd dd.mapOf ?_
  rw [<- (rel.val k).y1de,<- l]
  exact h _ (I.tok _)
 ·subst ey
  cases (show u=Value.ref b from ry)
  obtain⟨z,hd,xs,rel,dd⟩:=jw I.hok e
  refine wpAny_in_heap (tupleKind_room_in1 hu) (jv I.hok eb) hd dd ?_
  have q:=(rel.val k).y1de
  rw [Option.isSome_map] at q
  rw [<- q,<- l]
  exact h _ (I.tok _)
def ye5{Q:Value->Shared->Prop}(hu:A.units+1<cLine)(I:Inv X pins σ H s)(g:yd H a y o)(ry:ay y u)(h:∀s',Inv X pins σ H s'->Q (.bool (!o.isSome)) s') :
  wpAny (model X.prog X.w) A (compareOp .NotIn u (.ref a)) Q E s:=by
 rcases g with⟨kvs,k,e,ey,l⟩| ⟨kvs,k,b,e,ey,eb,l⟩
 ·subst ey
  obtain⟨z,hd,vs,rel,dd⟩:=iI I.hok e
  refine wpAny_notIn_of (iH ry) hd dd.mapOf ?_
  rw [<- (rel.val k).y1de,<- l]
  exact h _ (I.tok _)
 ·subst ey
  cases (show u=Value.ref b from ry)
  obtain⟨z,hd,xs,rel,dd⟩:=jw I.hok e
  refine wpAny_notIn_heap (tupleKind_room_in1 hu) (jv I.hok eb) hd dd ?_
  have q:=(rel.val k).y1de
  rw [Option.isSome_map] at q
  rw [<- q,<- l]
  exact h _ (I.tok _)
def B2{h':Heap}{t':Nat}{ob:HO}(I:Inv X pins σ H s)(mu:qZ (H a))(hs:Heap.SameBut a s.heap h')(he:∃q,h'.get? a=some q)(new:c7 X.prog X.w (aH H a ob) h' a ob) :
  Inv X pins σ (aH H a ob) { s with heap:=h',toks:=t' } :=
 I.write (x:=a) (e:=a) mu (.inl rfl) (λb q hb z=>(hs.2 b hb).trans z) he new
def sD{P:Program}{w:World}{H':Hp}{h':Heap}{kvs:List (aS×V)}{vs:List (aS×Value)}(z:kvs.length≤sizeLine)(hd:(a == sysModules)=false)(rel:KV kvs vs)(dd:h'.DictOf (cF P w) a vs) :
  c7 P w H' h' a (.dK kvs):=⟨z,hd,vs,rel,dd⟩
def ye6{H':Hp}{Q:Unit->Shared->Prop}(hu:A.units+1<cLine)(I:Inv X pins σ H s)(g:ye H a y v H')(ry:ay y u)(rv:ay v r)(h:∀s',Inv X pins σ H' s'->Q () s') :
  wpAny (model X.prog X.w) A (setItem (.ref a) u r) Q E s:=by
 rcases g with⟨kvs,k,e,ey,l,eH⟩| ⟨kvs,k,b,e,ey,eb,l,eH⟩
 ·subst ey eH
  obtain⟨z,hd,vs,rel,dd⟩:=sA I.hok e
  have hz:vs.length≤sizeLine:=by rw [<- rel.length];exact z
  have hl:(b6 kvs k v).length≤sizeLine:=by have:=n8 kvs k v;lia
  refine wpAny_setItem_pairs (hsz:=hz) (iH ry) dd λh' dd' hs=>h _ ?_
  have he:∃q,h'.get? a=some q:=let ⟨q,_,_,hq,_⟩:=dd';⟨q,hq⟩
  exact B2 I (by rw [e];exact True.intro) hs he (sD hl hd (rel.put k rv) dd')
 ·subst ey eH
  cases (show u=Value.ref b from ry)
  obtain⟨z,hd,xs,rel,dd⟩:=sC I.hok e
  have hz:xs.length≤sizeLine:=by rw [<- Paired.length rel];exact z
  have hl:(b6 kvs k v).length≤sizeLine:=by have:=n8 kvs k v;lia
  refine wpAny_setItem_heap (hsz:=hz) (tupleKind_room_in1 hu) (jv I.hok eb) dd λh' dd' hs=>h _ ?_
  obtain⟨q,es,ep,hq,h2,h3,h4,_,h5⟩:=dd'
  refine B2 I (by rw [e];exact True.intro) hs ⟨q,hq⟩ ⟨hl,hd,_,(rel.put k eb rv).keeps λc ys ec=>?_,q,es,ep,hq,h2,h3,h4,h5⟩
  rw [aR (nC ec e (λz=>nomatch z))]
  exact ec
end
section
variable {X:Cx}{pins:List (Addr×Obj)}{σ:St}{H:Hp}{s:Shared}{a:Addr}{kvs:List (aS×V)}{k:aS}{u:Value}{A:Around}{E:Value->Shared->Prop}
def sE{Q:Value->Shared->Prop}(I:Inv X pins σ H s)(e:Rd H a (.dK kvs))(h:∀t s',Inv X pins σ H s'->Q (.int kvs.length t) s'):wpAny (model X.prog X.w) A (call (.builtin "len") [.ref a]) Q E s:=by
 obtain⟨z,hd,vs,rel,dd⟩:=iI I.hok e
 refine call_len_dict hd dd (by rw [<- rel.length];rw [sizeLine_eq] at z;lia) ?_
 rw [<- rel.length]
 exact h _ _ (I.tok _)
end
abbrev sF(i:Expr):Prop:=∀ov iv,subscripted i false ov iv=operate [ov,iv] (getItem ov iv)
def B3{prog:Program}{w:World}{A:Around}{E:Value->Shared->Prop}{s:Shared}{env:Env}{value slice:Expr}{pos:Pos}{T id:String}{Q:Value->Shared->Prop}
  (hl:typeLookup (.type T) "__getitem__" = pure (some (.builtin id))) (hs:sF slice)
  (h:wpAny (model prog w) A (eval value env) (λo s₁=>wpAny (model prog w) A (eval slice env) (λi s₂=>s₂.TypeIs o T/\wpAny (model prog w) A (getItem o i) Q E s₂) E s₁) E s) :
  wpAny (model prog w) A (eval (.Subscript value slice pos) env) Q E s:=by
 refine Subscript_ (wpAny_mono h (λo s₁ h₁=>wpAny_mono h₁ (λi s₂ h₂=>?_) λ_ _ x=>x) λ_ _ x=>x)
 obtain⟨hT,h₂⟩:=h₂
 unfold subscriptTail
 refine za ?_
 rw [getitemInPython_of_ne hT.not_modules]
 refine za (wpAny_specialOf hT hl ?_)
 have fin:wpAny (model prog w) A (subscripted slice false o i) (λr s₃=>wpAny (model prog w) A (letTemporaryGo value o r >>= λ_=>pure r) Q E s₃) E s₂:=by
  rw [hs o i]
  exact wpAny_operating (wpAny_mono h₂ (λr s₃ h₃=>za (wpAny_letTemporaryGo (zf h₃))) λ_ _ x=>x)
 first
  | exact zf (za fin)
  | exact za (zf (za fin))
  | exact za fin
def B4{X:Cx}{pins:List (Addr×Obj)}{σ:St}{H:Hp}{s:Shared}{a:Addr}{y:V}{o:Option V}(I:Inv X pins σ H s)(g:yd H a y o):s.TypeIs (.ref a) "dict":=by
 rcases g with⟨kvs,k,e,_,_⟩| ⟨kvs,k,b,e,_,_,_⟩
 ·obtain⟨_,_,vs,_,dd⟩:=iI I.hok e
  exact dd.typeIs
 ·obtain⟨_,_,xs,_,dd⟩:=jw I.hok e
  exact dd.typeIs
abbrev sG(td ty:TE):TE:=λσ H Q=>td σ H λx H1=>ty σ H1 λy H2=>∃a v,x=.ref a/\yd H2 a y (some v)/\Q v H2
abbrev B5(ty td:TE):TE:=λσ H Q=>ty σ H λy H1=>td σ H1 λx H2=>∃a o,x=.ref a/\yd H2 a y o/\Q (.bl o.isSome) H2
abbrev B6(ty td:TE):TE:=λσ H Q=>ty σ H λy H1=>td σ H1 λx H2=>∃a o,x=.ref a/\yd H2 a y o/\Q (.bl (!o.isSome)) H2
abbrev sH(td ty tv:TE):TS:=λD σ H=>tv σ H λv H1=>td σ H1 λx H2=>ty σ H2 λy H3=>∃a H4,x=.ref a/\ye H3 a y v H4/\D.nx σ H4
section
variable {X:Cx}{o i e value:Expr}{pos pos' tpos:Pos}{td ty tv:TE}
def B7(hu:X.A.units+1<cLine)(ho:PE X o td)(hi:PE X i ty)(hs:sF i):PE X (.Subscript o i pos) (sG td ty):=by
 intro pins s σ H Q I h
 refine B3 PySem.F.slot_dict_getitem.lookup hs (aO (ho pins s σ H _ I h) λu s1 ⟨x,H1,I1,rx,q1⟩=>aO (hi pins s1 σ H1 _ I1 q1) λiv s2 zz=>?_)
 obtain⟨y,H2,I2,ry,a,v,ex,g,q2⟩:=zz
 subst ex
 obtain rfl:u=Value.ref a:=rx
 exact⟨B4 I2 g,ye4 hu I2 g ry λw' s3 I3 rw'=>⟨v,H2,I3,rw',q2⟩⟩
def sI(hu:X.A.units+1<cLine)(hi:PE X i ty)(ho:PE X o td):PC X .In i o (B5 ty td):=by
 intro pins s σ H Q I h
 refine aO (hi pins s σ H _ I h) λiv s1 ⟨y,H1,I1,ry,q1⟩=>aO (ho pins s1 σ H1 _ I1 q1) λu s2 zz=>?_
 obtain⟨x,H2,I2,rx,a,ov,ex,g,q2⟩:=zz
 subst ex
 obtain rfl:u=Value.ref a:=rx
 exact B1 hu I2 g ry λs3 I3=>⟨.bl ov.isSome,H2,I3,rfl,q2⟩
def B8(hu:X.A.units+1<cLine)(hi:PE X i ty)(ho:PE X o td):PC X .NotIn i o (B6 ty td):=by
 intro pins s σ H Q I h
 refine aO (hi pins s σ H _ I h) λiv s1 ⟨y,H1,I1,ry,q1⟩=>aO (ho pins s1 σ H1 _ I1 q1) λu s2 zz=>?_
 obtain⟨x,H2,I2,rx,a,ov,ex,g,q2⟩:=zz
 subst ex
 obtain rfl:u=Value.ref a:=rx
 exact ye5 hu I2 g ry λs3 I3=>⟨.bl (!ov.isSome),H2,I3,rfl,q2⟩
def B9(hu:X.A.units+1<cLine)(ho:PE X o td)(hi:PE X i ty)(hv:PE X value tv)(hs:swapsWith value (some (.Subscript o i pos')) pos.line X.env=pure false) :
  PS X (.Assign [.Subscript o i pos'] value pos) (sH td ty tv):=by
 intro pins s σ H D I h
 refine wpAny_Assign_Subscript (aO (hv pins s σ H _ I h) λr s1 ⟨v,H1,I1,rv,q1⟩=>aO (ho pins s1 σ H1 _ I1 q1) λu s2 ⟨x,H2,I2,rx,q2⟩=>aO (hi pins s2 σ H2 _ I2 q2) λiv s3 ⟨y,H3,I3,ry,a,H4,ex,g,q3⟩=>?_) hs
 subst ex
 obtain rfl:u=Value.ref a:=rx
 exact ye6 hu I3 g ry rv λs4 I4=>⟨σ,H4,I4,q3⟩
end
def Ca{P:Program}{w:World}{H:Hp}(h:Heap)(hb:sysModules<h.objs.size):c7 P w H (h.push { cls:=.type "dict",data:=.dict #[] }) h.objs.size (.dK []) :=
 ⟨Nat.zero_le _,beq_eq_false_iff_ne.mpr (Ne.symm (z27 hb)),[],.nil,Heap.DictOf.new h⟩
section
variable {X:Cx}{pos:Pos}
end
abbrev kS:List (TE×TE)->St->Hp->(List (V×V)->Hp->Prop)->Prop
 | [],_,H,Q=>Q [] H
 | (tk,tv)::r,σ,H,Q=>tk σ H λx H1=>tv σ H1 λy H2=>kS r σ H2 λps H3=>Q ((x,y)::ps) H3
noncomputable abbrev VV:List (V×V)->List (Value×Value)->Prop:=Paired λp q=>ay p.1 q.1/\ay p.2 q.2
abbrev sJ(X:Cx)(pos:Pos)(keys:List (Option Expr))(values:List Expr)(trs:List (TE×TE)):Prop :=
 ∀(pins:List (Addr×Obj)) (s:Shared) (σ:St) (H:Hp) (Q:List (V×V)->Hp->Prop),Inv X pins σ H s->kS trs σ H Q ->
  wpAny (model X.prog X.w) X.A (evalPairs (pairTrees keys values X.env pos)) (λvs s'=>∃ps H',Inv X pins σ H' s'/\VV ps vs/\Q ps H') X.xe s
def Cb{X:Cx}{pos:Pos}:sJ X pos [] [] []:=λpins s σ H Q I h=>pairTrees_nil_walk ⟨[],H,I,.nil,h⟩
def Cc{X:Cx}{pos:Pos}{k v:Expr}{ks:List (Option Expr)}{vs:List Expr}{tk tv:TE}{trs:List (TE×TE)}(hk:PE X k tk)(hv:PE X v tv)(hr:sJ X pos ks vs trs) :
  sJ X pos (some k::ks) (v::vs) ((tk,tv)::trs):=λpins s σ H Q I h =>
 pairTrees_cons_walk (aO (hk pins s σ H _ I h) λu s1 ⟨x,H1,I1,rx,q1⟩=>aO (hv pins s1 σ H1 _ I1 q1) λw2 s2 ⟨y,H2,I2,ry,q2⟩ =>
  aO (hr pins s2 σ H2 _ I2 q2) λws s3 ⟨ps,H3,I3,rel,q3⟩=>⟨(x,y)::ps,H3,I3,.cons ⟨rx,ry⟩ rel,q3⟩)
abbrev gW(kvs more:List (aS×V)):List (aS×V):=more.foldl (λacc kv=>b6 acc kv.1 kv.2) kvs
def KV.merge:∀{more:List (aS×V)} {rs:List (aS×Value)} {kvs:List (aS×V)} {vs:List (aS×Value)},KV more rs->KV kvs vs->KV (gW kvs more) (merged vs rs):=by
 intro more rs kvs vs r
 unfold KV at r
 induction r generalizing kvs vs with
 | nil=>intro q;exact q
 | @cons p q ps qs h t ih =>
  intro r0
  have e:KV (b6 kvs p.1 p.2) (stored vs q.1 q.2):=by
   have:=r0.put p.1 h.2
   rw [<- h.1];exact this
  exact ih e
theorem sL:∀(more kvs:List (aS×V)),(gW kvs more).length≤kvs.length+more.length
 | [],kvs=>by show kvs.length≤kvs.length+0;lia
 | p::r,kvs=>by
  have h1:=sL r (b6 kvs p.1 p.2)
  have h2:=n8 kvs p.1 p.2
  show (gW (b6 kvs p.1 p.2) r).length≤_
  rw [z15];lia
theorem yb4{P:Program}{w:World}:∀{kvs:List (aS×V)} {ws:List (Value×Value)},VV (kvs.map λkv=>(kV kv.1,kv.2)) ws->∃rs,Carries (cF P w) ws rs/\KV kvs rs
 | [],_,r=>by rw [List.map_nil] at r;cases r;exact⟨[],True.intro,.nil⟩
 | p::kvs,_,r=>by
  rw [z18] at r
  cases r with
  | @cons a b as bs h t =>
   obtain⟨rs,c,q⟩:=yb4 (P:=P) (w:=w) t
   obtain⟨b1,b2⟩:=b
   exact⟨(p.1,b2)::rs,⟨iH h.1,rfl,c⟩,.cons ⟨rfl,h.2⟩ q⟩
abbrev sM(trs:List (TE×TE)):TE:=λσ H Q=>∀p,H p=none->kS trs σ (aH H p (.dK [])) λps H2=>H2 p=some (.dK [])/\∃kvs:List (aS×V),ps=kvs.map (λkv=>(kV kv.1,kv.2))/\kvs.length≤15/\Q (.ref p) (aH H2 p (.dK (gW [] kvs)))
def Cd{X:Cx}{pos:Pos}{keys:List (Option Expr)}{values:List Expr}{trs:List (TE×TE)}(h:sJ X pos keys values trs)(y1a7:keys.all (·.isSome)=true)(hl:keys.length=values.length)(h0:keys≠[])
  (h15:keys.length≤15):PE X (.Dict keys values pos) (sM trs):=by
 intro pins s σ H Q I q
 have hn:=I.hok.fresh (z10 s.heap.objs.size)
 have I1:=I.laid (a:=s.heap.objs.size) (o:=.dK []) (h':=s.heap.push { cls:=.type "dict",data:=.dict #[] }) (t':=s.toks) (λ_ _ q=>zc _ q) (z10 _) (Ca s.heap I.big)
 refine wpAny_Dict_walk (knd:=cF X.prog X.w) y1a7 hl h0 h15 (aO (h pins _ σ _ _ I1 (q _ hn)) λws s2 zz=>?_)
 obtain⟨ps,H2,I2,rel,e,kvs,ep,lk,q2⟩:=zz
 subst ep
 obtain⟨rs,c,rk⟩:=yb4 (P:=X.prog) (w:=X.w) rel
 obtain⟨z,hd,vs0,r0,dd⟩:=sA I2.hok e
 cases r0
 refine⟨rs,c,dd,λh' dd' hs=>⟨.ref s.heap.objs.size,_,?_,rfl,q2⟩⟩
 have hz:(gW [] kvs).length≤sizeLine:=by
  have h1:=sL kvs []
  rw [List.length_nil] at h1
  rw [sizeLine_eq];lia
 have he:∃q,h'.get? s.heap.objs.size=some q:=let ⟨q,_,_,hq,_⟩:=dd';⟨q,hq⟩
 exact B2 I2 (by rw [e];exact True.intro) hs he (sD hz hd (rk.merge .nil) dd')
structure M1(X:Cx)(o:Expr)(m:Str)(apos:Pos)(e:Expr)(yd5:Pos):Prop where
 base:attributeBase o m X.env (eval o X.env)=eval o X.env
 few:((backTo yd5 (starEach [e] X.env)).all (λx=>!x.1)&&(backToKw yd5 (keywordEach [] X.env)).all (λx=>x.1.isSome)
  && decide (([e]:List Expr).length+([]:List Keyword).length+(if ([]:List Keyword).isEmpty then 0 else 1)<30))=true
 line:(apos.endLine == yd5.line)=true
 trees:backTo yd5 (starEach [e] X.env)=[(false,eval e X.env)]
structure M2(X:Cx)(o:Expr)(m:Str)(apos:Pos)(e f:Expr)(yd5:Pos):Prop where
 base:attributeBase o m X.env (eval o X.env)=eval o X.env
 few:((backTo yd5 (starEach [e,f] X.env)).all (λx=>!x.1)&&(backToKw yd5 (keywordEach [] X.env)).all (λx=>x.1.isSome)
  && decide (([e,f]:List Expr).length+([]:List Keyword).length+(if ([]:List Keyword).isEmpty then 0 else 1)<30))=true
 line:(apos.endLine == yd5.line)=true
 trees:backTo yd5 (starEach [e,f] X.env)=[(false,eval e X.env),(false,eval f X.env)]
section
variable {X:Cx}{pins:List (Addr×Obj)}{σ:St}{H:Hp}{s:Shared}{a:Addr}{y d:V}{u r:Value}{o:Option V}{A:Around}{E:Value->Shared->Prop}
end
section
variable {X:Cx}{o e f:Expr}{apos yd5:Pos}{td ty tx:TE}
end
section
variable {X:Cx}{pins:List (Addr×Obj)}{σ:St}{H:Hp}{s:Shared}{a:Addr}{kvs:List (aS×V)}{A:Around}{E:Value->Shared->Prop}
end
section
variable {X:Cx}{pins:List (Addr×Obj)}{σ:St}{H:Hp}{s:Shared}{a:Addr}{y:V}{u:Value}{A:Around}{E:Value->Shared->Prop}
end
end
end L2
namespace HT
open PySem PyProof.Rows
section
open PySem.SeqAt
open PySem.AutoSeq1 (wpAny_loadPart')
open PySem.MeetsSeq PySem.MeetsSeq2 PySem.MeetsSeq3
end
section
variable {prog:Program}{w:World}{A:Around}{E:Value->Shared->Prop}{s:Shared}
def yba{t b:Addr}{vs ws:List Value}{Q:Value->Shared->Prop}(ht:IsTup s.heap t vs.toArray)(hb:IsTup s.heap b ws.toArray)(hv:vs≠[])
  (h1:ws=[]->Q (.ref t) s) (h2:ws≠[]->Q (.ref s.heap.objs.size) { s with heap:=s.heap.push { cls:=.type "tuple",data:=.seq (vs++ws).toArray } })
  (hsz:vs.length+ws.length≤sizeLine):wpAny (model prog w) A (binaryOp .Add (.ref t) (.ref b)) Q E s:=by
 obtain⟨⟨cls,dd,data,sl⟩,ho,hc,n,hd⟩:=id ht
 obtain⟨⟨cls2,dd2,data2,sl2⟩,ho2,hc2,n2,hd2⟩:=id hb
 simp only at hc hd hc2 hd2
 subst hc hd hc2 hd2
 have e:vs.toArray++ws.toArray=(vs++ws).toArray:=by simp
 by_cases hw:ws=[]
 ·exact concat_meets ⟨_,ho,rfl⟩ ⟨_,ho2,rfl⟩ noFill_tuple_add seq_tuple_add PySem.F.slot_tuple_add PySem.F.entry_tuple_add (PySem.F.args_tuple_add_2 _ _)
   (tuple_addW1 t b vs.toArray ws.toArray n n2 dd dd2 sl sl2 (by simpa using hv) (by simp [hw])) ⟨ho,ho2,h1 hw⟩
 ·refine concat_meets ⟨_,ho,rfl⟩ ⟨_,ho2,rfl⟩ noFill_tuple_add seq_tuple_add PySem.F.slot_tuple_add PySem.F.entry_tuple_add (PySem.F.args_tuple_add_2 _ _)
   (tuple_addW2 t b vs.toArray ws.toArray n n2 dd dd2 sl sl2 (by simpa using hv) (by simpa using hw) (by rw [ze,ze];exact hsz)) ⟨ho,ho2,?_⟩
  rw [e]
  exact h2 hw
abbrev sIx(n d:Nat):Option Int->Nat
 | none=>d
 | some v=>if v<0 then (v+(n:Int)).toNat else min v.toNat n
def y3e4(n d:Nat):sIx n d none=d:=rfl
def y3e3(n d k:Nat):sIx n d (some (k:Int))=min k n:=by
 show (if (k:Int)<0 then ((k:Int)+(n:Int)).toNat else min (k:Int).toNat n)=min k n
 rw [if_neg (by lia),Int.toNat_natCast]
def Ce(n d:Nat)(hd:d≤n)(o:Option Int):sIx n d o≤n:=by
 cases o with
 | none=>exact hd
 | some v =>
  show (if v<0 then (v+(n:Int)).toNat else min v.toNat n)≤n
  by_cases hv:v<0
  ·rw [if_pos hv];lia
  ·rw [if_neg hv];exact Nat.min_le_right _ _
def ybe(v:Int)(n d:Nat):(if v<0 then max (v+(n:Int)) 0 else min v (n:Int))=((sIx n d (some v):Nat):Int):=by
 show (if v<0 then max (v+(n:Int)) 0 else min v (n:Int))=(((if v<0 then (v+(n:Int)).toNat else min v.toNat n):Nat):Int)
 by_cases hv:v<0
 ·simp only [if_pos hv];lia
 ·simp only [if_neg hv];lia
def y62(lo hi:Option Int)(n:Nat):Builtin.Slice.sliceAdjust lo hi 1 (n:Int)=(((sIx n 0 lo:Nat):Int),((sIx n n hi:Nat):Int)):=by
 have h1:¬ ((1:Int)<0):=by lia
 unfold Builtin.Slice.sliceAdjust
 simp only [h1,if_false]
 refine Prod.ext ?_ ?_
 ·cases lo with
  | none=>rfl
  | some v=>exact ybe v n 0
 ·cases hi with
  | none=>rfl
  | some v=>exact ybe v n n
def Cf(i j:Nat):Builtin.Slice.slicePlaces (i:Int) (j:Int) 1=j-i:=by
 unfold Builtin.Slice.slicePlaces
 have h1:(1:Int)>0:=by lia
 simp only [h1,if_true,Int.ediv_one]
 split<;>lia
def sN{v:Value}{o:Option Int}{Q:Option Int->Shared->Prop}(p:IsPart v o)(h:Q o s):wpAny (model prog w) A (Builtin.Slice.slicePartIndex v) Q E s:=by
 cases p with
 | none=>exact slicePart_none h
 | int i t=>exact slicePart_int h
def sO{sl:Addr}{vl vu:Value}{lo hi:Option Int}{n:Nat}{Q:Int×Int×Nat->Shared->Prop}(hs:s.heap.IsSliceOf sl vl vu .none)(pl:IsPart vl lo)(pu:IsPart vu hi)
  (h:Q (((sIx n 0 lo:Nat):Int),1,sIx n n hi-sIx n 0 lo) s):wpAny (model prog w) A (Builtin.Slice.sliceApplied (.ref sl) (pure (n:Int))) Q E s:=by
 obtain⟨os,hos,hcs,hds⟩:=id hs
 unfold Builtin.Slice.sliceApplied Builtin.Slice.sliceFields
 refine za (za (wpAny_field hos hds (x:=vl) rfl (za (wpAny_field hos hds (x:=vu) rfl (za (wpAny_field hos hds (x:=.none) rfl (zf ?_)))))))
 refine za (slicePart_none ?_)
 show wpAny _ _ (if ((1:Int) == 0)=true then _ else _) _ _ s
 rw [if_neg (by decide)]
 refine za (sN pl (za (sN pu (za (zf ?_)))))
 show wpAny _ _ (match Builtin.Slice.sliceAdjust lo hi 1 (n:Int) with|(lo,hi)=>pure (lo,(1:Int),Builtin.Slice.slicePlaces lo hi 1)) _ _ s
 rw [y62 lo hi n]
 show wpAny _ _ (pure (((sIx n 0 lo:Nat):Int),(1:Int),Builtin.Slice.slicePlaces ((sIx n 0 lo:Nat):Int) ((sIx n n hi:Nat):Int) 1)) _ _ s
 rw [Cf]
 exact zf h
def Cg(xs:Array Value)(i k:Nat):((List.range k).filterMap λ(m:Nat)=>xs[((i:Int)+(m:Int)*1).toNat]?).toArray=((xs.toList.drop i).take k).toArray:=by
 have e:(λ(m:Nat)=>xs[((i:Int)+(m:Int)*1).toNat]?)=λm=>xs[i+m]?:=by
  funext m
  have:((i:Int)+(m:Int)*1).toNat=i+m:=by lia
  rw [this]
 rw [e]
 have:=pick_run xs i k
 rw [List.filterMap_map] at this
 have e2:((λx=>xs[x]?) ∘ λx=>i+x)=λm=>xs[i+m]?:=rfl
 rw [e2] at this
 rw [this]
def y175{t sl:Addr}{items:Array Value}{vl vu:Value}{lo hi:Option Int}{Q:Value->Shared->Prop}(ht:IsTup s.heap t items)(hs:s.heap.IsSliceOf sl vl vu .none)(pl:IsPart vl lo)(pu:IsPart vu hi)
  (hw:¬ (sIx items.size 0 lo=0/\sIx items.size items.size hi=items.size))
  (h:Q (.ref s.heap.objs.size) { s with heap:=s.heap.push { cls:=.type "tuple",data:=.seq ((items.toList.drop (sIx items.size 0 lo)).take (sIx items.size items.size hi-sIx items.size 0 lo)).toArray } })
  (hsz:items.size≤sizeLine):wpAny (model prog w) A (getItem (.ref t) (.ref sl)) Q E s:=by
 have y1bd:sizeOk (.seq ((items.toList.drop (sIx items.size 0 lo)).take (sIx items.size items.size hi-sIx items.size 0 lo)).toArray):=by
  show ((items.toList.drop (sIx items.size 0 lo)).take (sIx items.size items.size hi-sIx items.size 0 lo)).toArray.size≤sizeLine
  rw [ze,z2b,z2d,Array.length_toList]
  lia
 have hj:sIx items.size items.size hi≤items.size:=Ce _ _ (z10 _) hi
 obtain⟨os,hos,hcs,hds⟩:=id hs
 have hTs:s.TypeIs (.ref sl) "slice":=⟨os,hos,hcs⟩
 unfold getItem
 try with_reducible refine wpAny_holding ?_
 first|refine za (zf ?_)|skip
 refine za (wpAny_sequenceKey ht.typeIs (by decide) ?_)
 refine za (wpAny_callSpecial?_slot (name:=Str.ofString "__getitem__") ht.typeIs PyProof.Rows.slot_tuple_getitem
  (wpAny_call_entry PyProof.Rows.slot_tuple_getitem ht.typeIs entry_tuple_getitem ?_ (args_tuple_getitem _ _)))
 show wpAny _ _ (Builtin.Tuple.tupleItemsOf (.ref t) >>= _) _ _ s
 refine za (tupleItemsOf_ ht ?_)
 refine za (wpAny_typeOf hTs ?_)
 rw [if_pos (by decide)]
 refine za (sO hs pl pu ?_)
 have hno:¬ ((((sIx items.size 0 lo:Nat):Int) == 0&&(1:Int) == 1&&(sIx items.size items.size hi-sIx items.size 0 lo) == items.size)=true):=by
  intro q
  rw [z1b,z1b] at q
  have q1:((sIx items.size 0 lo:Nat):Int)=0:=eq_of_beq q.1.1
  have q2:sIx items.size items.size hi-sIx items.size 0 lo=items.size:=eq_of_beq q.2
  exact hw ⟨by lia,by lia⟩
 show wpAny _ _ (if (((sIx items.size 0 lo:Nat):Int) == 0&&(1:Int) == 1&&(sIx items.size items.size hi-sIx items.size 0 lo) == items.size)=true then _ else _) _ _ s
 rw [if_neg hno,Cg]
 first
  | exact za (m:=Builtin.Tuple.tupleExact _) (z2a (zf ⟨_,rfl,zf h⟩) y1bd)
  | exact za (m:=Builtin.Tuple.tupleExact _) (z2a (za (zf (zf ⟨_,rfl,zf h⟩))) y1bd)
  | exact za (za (m:=Builtin.Tuple.tupleExact _) (z2a (zf (zf ⟨_,rfl,zf h⟩)) y1bd))
  | exact za (za (m:=Builtin.Tuple.tupleExact _) (z2a (zf ⟨_,rfl,zf h⟩) y1bd))
end
end HT
namespace L2
open PySem PySem.Spec PyProof.Rows
section
noncomputable abbrev TO:=St->Hp->(Option Int->Hp->Prop)->Prop
abbrev PO(X:Cx)(e:Option Expr)(t:TO):Prop :=
 ∀(pins:List (Addr×Obj)) (s:Shared) (σ:St) (H:Hp) (Q:Option Int->Hp->Prop),Inv X pins σ H s->t σ H Q ->
  wpAny (model X.prog X.w) X.A (evalPart e X.env) (λu s'=>∃o H',Inv X pins σ H' s'/\IsPart u o/\Q o H') X.xe s
abbrev n9:TO:=λ_ H Q=>Q none H
abbrev sP(t:TE):TO:=λσ H Q=>t σ H λx H1=>∃i,x=.int i/\Q (some i) H1
section
variable {X:Cx}{e:Expr}{te:TE}{lo hi:Option Expr}{tl th:TO}{pos p2:Pos}
def oa:PO X none n9:=by
 intro pins s σ H Q I h
 rw [evalPart_none]
 exact zf ⟨none,H,I,.none,h⟩
def sQ(h:PE X e te):PO X (some e) (sP te):=by
 intro pins s σ H Q I hw
 rw [evalPart_some]
 refine aO (h pins s σ H _ I hw) λu s1 zz=>?_
 obtain⟨x,H1,I1,r1,q1⟩:=zz
 obtain⟨i,rfl,q⟩:=q1
 obtain⟨t,rfl⟩:=r1
 exact⟨some i,H1,I1,.int i t,q⟩
abbrev kT(X:Cx)(r:V->Option Int->Option Int->Hp->VK->Prop):Prop :=
 ∀(pins:List (Addr×Obj)) (s:Shared) (σ:St) (H:Hp) (x:V) (v vl vu:Value) (lo hi:Option Int) (sl:Addr) (Q:VK),Inv X pins σ H s->ay x v->s.heap.IsSliceOf sl vl vu .none->IsPart vl lo->IsPart vu hi->r x lo hi H Q ->
  ∃T id,typeLookup (.type T) "__getitem__" = pure (some (.builtin id))/\s.TypeIs v T/\wpAny (model X.prog X.w) X.A (getItem v (.ref sl)) (EP X pins σ Q) X.xe s
def kT.or{r r':V->Option Int->Option Int->Hp->VK->Prop}(h:kT X r)(h':kT X r'):kT X (λx lo hi H Q=>r x lo hi H Q∨r' x lo hi H Q):=by
 intro pins s σ H x v vl vu lo hi sl Q I rx hs pl pu q
 rcases q with q|q
 ·exact h pins s σ H x v vl vu lo hi sl Q I rx hs pl pu q
 ·exact h' pins s σ H x v vl vu lo hi sl Q I rx hs pl pu q
abbrev tSl(r:V->Option Int->Option Int->Hp->VK->Prop)(te:TE)(tl th:TO):TE:=λσ H Q=>te σ H λx H1=>tl σ H1 λl H2=>th σ H2 λu H3=>r x l u H3 Q
def Ci{r:V->Option Int->Option Int->Hp->VK->Prop}(hr:kT X r)(he:PE X e te)(hl:PO X lo tl)(hu:PO X hi th):PE X (.Subscript e (.Slice lo hi none p2) pos) (tSl r te tl th):=by
 intro pins s σ H Q I h
 refine Subscript_ (aO (he pins s σ H _ I h) λv s1 zz=>?_)
 obtain⟨x,H1,I1,r1,q1⟩:=zz
 refine wpAny_Slice (aO (hl pins s1 σ H1 _ I1 q1) λvl s2 ⟨l,H2,I2,pl,q2⟩=>aO (hu pins s2 σ H2 _ I2 q2) λvu s3 zz=>?_)
 obtain⟨u,H3,I3,pu,q3⟩:=zz
 rw [evalPart_none]
 refine zf ?_
 have I4:Inv X pins σ H3 { s3 with heap:=s3.heap.push { cls:=.type "slice",data:=.fields #[vl,vu,.none] } }:=I3.kept (t':=s3.toks) λb ob q=>zc _ q
 obtain⟨T,id,hT,ht,hg⟩:=hr pins { s3 with heap:=s3.heap.push { cls:=.type "slice",data:=.fields #[vl,vu,.none] } } σ H3 x v vl vu l u s3.heap.objs.size Q I4 r1 (Heap.IsSliceOf.new ..) pl pu q3
 show wpAny (model X.prog X.w) X.A (subscriptTail e (.Slice lo hi none p2) v (.ref s3.heap.objs.size)) (EP X pins σ Q) X.xe { s3 with heap:=s3.heap.push { cls:=.type "slice",data:=.fields #[vl,vu,.none] } }
 exact tail_any (ops:=[.ref s3.heap.objs.size,v]) ht hT hg (by with_unfolding_all rfl)
abbrev jx(xs:List V)(lo hi:Option Int):List V:=(xs.drop (HT.sIx xs.length 0 lo)).take (HT.sIx xs.length xs.length hi-HT.sIx xs.length 0 lo)
def yd8(xs:List V)(lo hi:Option Int):(jx xs lo hi).length≤xs.length:=by
 unfold jx
 rw [z2b,z2d]
 lia
abbrev Cj(K:W.Frag):V->Option Int->Option Int->Hp->VK->Prop:=λx lo hi H Q=>∃a xs,x=.ref a/\bb K H a xs /\
 ¬ (HT.sIx xs.length 0 lo=0/\HT.sIx xs.length xs.length hi=xs.length)/\∀p,H p=none->Q (.ref p) (aH H p (.tup (jx xs lo hi)))
def Ck:kT X (Cj X.K):=by
 intro pins s σ H x v vl vu lo hi sl Q I rx hs pl pu h
 obtain⟨a,xs,rfl,hx,hw,q⟩:=h
 cases rx
 obtain⟨its,r,ht,hz⟩:=I.tuple hx
 have hlen:its.toArray.size=xs.length:=by rw [ze];exact r.length.symm
 refine⟨"tuple",_,PyProof.Rows.slot_tuple_getitem.lookup,ht.typeIs,?_⟩
 refine HT.y175 ht hs pl pu (by rw [hlen];exact hw) ?_ (by rw [hlen];exact hz)
 rw [hlen]
 refine⟨.ref s.heap.objs.size,_,I.laid (t':=s.toks) (o:=.tup (jx xs lo hi)) (λb ob q=>zc _ q) (z10 _) ?_,rfl,q _ (I.hok.fresh (z10 _))⟩
 exact⟨z1a (yd8 xs lo hi) hz,_,(r.drop (HT.sIx xs.length 0 lo)).take (HT.sIx xs.length xs.length hi-HT.sIx xs.length 0 lo),kF.mk' _ _⟩
abbrev sR(K:W.Frag):R2:=λx y H Q=>∃a b xs ys,x=.ref a/\y=.ref b/\bb K H a xs/\bb K H b ys/\xs≠[]/\xs.length+ys.length≤sizeLine /\
 (ys=[]->Q (.ref a) H)/\(ys≠[]->∀p,H p=none->Q (.ref p) (aH H p (.tup (xs++ys))))
def au.y285{xs:List V}{us:List Value}(r:au xs us):us=[]↔xs=[]:=by
 cases r with
 | nil=>simp
 | cons _ _=>simp
def Cm:bU X (binaryOp .Add) (sR X.K):=by
 intro pins s σ H x y v u Q I rx ry h
 obtain⟨a,b,xs,ys,rfl,rfl,ha,hb,hx,hz,q1,q2⟩:=h
 cases rx
 cases ry
 obtain⟨its,r1,p1,_⟩:=I.tuple ha
 obtain⟨y1ea,r2,p2,_⟩:=I.tuple hb
 refine HT.yba p1 p2 (λz=>hx (r1.y285.mp z)) (λz=>⟨.ref a,H,I,rfl,q1 (r2.y285.mp z)⟩) (λz=>?_) (by rw [<- r1.length,<- r2.length];exact hz)
 refine⟨.ref s.heap.objs.size,_,I.laid (t':=s.toks) (o:=.tup (xs++ys)) (λb ob q=>zc _ q) (z10 _) ?_,rfl,q2 (λw=>z (r2.y285.mpr w)) _ (I.hok.fresh (z10 _))⟩
 exact⟨by rw [zd];exact hz,_,r1.append r2,kF.mk' _ _⟩
end
end
section
abbrev er(n:Nat)(i:Int):Option Nat:=if 0≤i then (if i<n then some i.toNat else none) else if -(n:Int)≤i then some (i+n).toNat else none
abbrev cC{α:Type}(xs:List α)(i:Int):Option α:=(er xs.length i).bind λj=>xs[j]?
def sS{n:Nat}{i:Int}{j:Nat}(h:er n i=some j):seqIndex? i n=some j/\j<n/\-(n:Int)≤i/\i<n:=by
 unfold er at h
 by_cases h0:0≤i
 ·rw [if_pos h0] at h
  by_cases h1:i<n
  ·rw [if_pos h1] at h
   have e:i.toNat=j:=z20 h
   exact⟨by rw [seqIndex_of h0 h1,e],by lia,by lia,h1⟩
  ·rw [if_neg h1] at h;cases h
 ·rw [if_neg h0] at h
  by_cases h1:-(n:Int)≤i
  ·rw [if_pos h1] at h
   have e:(i+n).toNat=j:=z20 h
   exact⟨by rw [seqIndex_neg (by lia) h1,e],by lia,h1,by lia⟩
  ·rw [if_neg h1] at h;cases h
def Cn{α:Type}{xs:List α}{i:Int}{v:α}(h:cC xs i=some v):∃j,seqIndex? i xs.length=some j/\xs[j]?=some v/\j<xs.length/\-(xs.length:Int)≤i/\i<xs.length:=by
 unfold cC at h
 cases e:er xs.length i with
 | none=>rw [e] at h;cases h
 | some j =>
  rw [e] at h
  obtain⟨h1,h2,h3,h4⟩:=sS e
  exact⟨j,h1,h,h2,h3,h4⟩
def jd{α:Type}{xs:List α}{j:Nat}{v:α}(h:xs[j]?=some v):cC xs (j:Int)=some v:=by
 have hj:j<xs.length:=(z19.mp h).1
 have e:er xs.length (j:Int)=some j:=by
  unfold er
  rw [if_pos (by lia),if_pos (by lia)];simp
 unfold cC;rw [e];exact h
abbrev iq(b:Expr):Prop:=∀o i,subscripted b false o i=operate [o,i] (getItem o i)
abbrev kU(X:Cx)(r:R2):Prop :=
 ∀(value slice:Expr) (pins:List (Addr×Obj)) (s:Shared) (σ:St) (H:Hp) (x y:V) (v u:Value) (Q:VK),Inv X pins σ H s->ay x v->ay y u->r x y H Q ->
  subscripted slice false v u=operate [v,u] (getItem v u)->wpAny (model X.prog X.w) X.A (subscriptTail value slice v u) (EP X pins σ Q) X.xe s
abbrev sT(X:Cx)(id:String)(r:V->List V->Hp->VK->Prop):Prop :=
 ∀(pins:List (Addr×Obj)) (s:Shared) (σ:St) (H:Hp) (x:V) (xs:List V) (v:Value) (us:List Value) (Q:VK),Inv X pins σ H s->ay x v->au xs us->r x xs H Q ->
  wpAny (model X.prog X.w) X.A (call (.builtin id) (v::us)) (EP X pins σ Q) X.xe s
section
variable {X:Cx}{a b:Expr}{ta tb:TE}{pos:Pos}
def kU.or{r r':R2}(h:kU X r)(h':kU X r'):kU X (λx y H Q=>r x y H Q∨r' x y H Q):=by
 intro value slice pins s σ H x y v u Q I rx ry q hs
 rcases q with q|q
 ·exact h value slice pins s σ H x y v u Q I rx ry q hs
 ·exact h' value slice pins s σ H x y v u Q I rx ry q hs
def og{r:R2}(hr:kU X r)(ha:PE X a ta)(hb:PE X b tb)(hs:iq b):PE X (.Subscript a b pos) (ko r ta tb):=by
 intro pins s σ H Q I h
 exact Subscript_ (nR ha hb I h λv u s2 x y H2 I2 rx ry q=>hr a b pins s2 σ H2 x y v u Q I2 rx ry q (hs _ _))
abbrev sU(K:W.Frag):R2:=λx y H Q=>∃p xs i v,x=.ref p/\y=.int i/\bw K H p xs/\cC xs i=some v/\Q v H
abbrev sV(K:W.Frag):R2:=λx y H Q=>∃p xs i v,x=.ref p/\y=.int i/\bb K H p xs/\cC xs i=some v/\Q v H
abbrev sW:R2:=λx y H Q=>∃z i c,x=.str z/\y=.int i/\z.length≤sizeLine/\cC z.cps.toList i=some c/\Q (.str ⟨#[c]⟩) H
def Co:kU X (sU X.K):=by
 intro value slice pins s σ H x y v u Q I rx ry h hs
 obtain⟨p,xs,i,z,rfl,rfl,hq,he,q⟩:=h
 cases rx
 obtain⟨t,rfl⟩:=ry
 obtain⟨its,r,pl,hz⟩:=I.list hq
 obtain⟨j,h1,h2,h3,h4,h5⟩:=Cn he
 obtain⟨w,ew,rw'⟩:=r.get h2
 have hl:=r.length
 have hn:=gS
 have fin:EP X pins σ Q w s:=⟨z,H,I,rw',q⟩
 by_cases h0:0≤i
 ·have hj:i.toNat=j:=by
   rw [seqIndex_of h0 h5] at h1
   exact z20 h1
  exact item_listR pl.isList h0 (by lia) (by rw [hj];simpa using ew) fin hs
 ·have hj:(i+(its.toArray.size:Int)).toNat=j:=by
   rw [seqIndex_neg (by lia) h4] at h1
   rw [ze,<- hl]
   exact z20 h1
  exact subscriptTail_builtinR (x:=w) pl.isList.typeIs slot_list_getitem.lookup
   (wpAny_getItem_list_neg (Q:=λr s'=>r=w/\EP X pins σ Q r s') pl.isList (by lia) (by rw [ze]<;>lia) (by lia) (by rw [hj];simpa using ew) ⟨rfl,fin⟩) hs
def Cp:kU X (sV X.K):=by
 intro value slice pins s σ H x y v u Q I rx ry h hs
 obtain⟨p,xs,i,z,rfl,rfl,hq,he,q⟩:=h
 cases rx
 obtain⟨t,rfl⟩:=ry
 obtain⟨its,r,pl,hz⟩:=I.tuple hq
 obtain⟨j,h1,h2,h3,h4,h5⟩:=Cn he
 obtain⟨w,ew,rw'⟩:=r.get h2
 have hl:=r.length
 have hn:=gS
 have fin:EP X pins σ Q w s:=⟨z,H,I,rw',q⟩
 exact subscriptTail_builtinR (x:=w) pl.typeIs slot_tuple_getitem.lookup
  (getItem_tuple (j:=j) (Q:=λr s'=>r=w/\EP X pins σ Q r s') pl (by lia) (by lia) (by rw [ze,<- hl];exact h1) (by simpa using ew) ⟨rfl,fin⟩) hs
def Cq:kU X sW:=by
 intro value slice pins s σ H x y v u Q I rx ry h hs
 obtain⟨z,i,c,rfl,rfl,hz,he,q⟩:=h
 obtain⟨t,rfl⟩:=rx
 obtain⟨t',rfl⟩:=ry
 obtain⟨j,h1,h2,h3,h4,h5⟩:=Cn he
 have hl:z.cps.toList.length=z.length:=by simp [Str.length]
 rw [hl] at h1 h4 h5
 have hn:=gS
 exact tail_any (typeIs_str s z t) slot_str_getitem.lookup (getItem_str (c:=c) (by
  have e1:decide (i < -(2 ^ 63:Int))=false:=decide_eq_false (by lia)
  have e2:decide (i ≥ 2 ^ 63)=false:=decide_eq_false (by lia)
  rw [e1,e2,Bool.or_false]) (by rw [h1];simpa using h2) ⟨.str ⟨#[c]⟩,H,I.tok _,⟨_,rfl⟩,q⟩) hs
abbrev sX(K:W.Frag):R2:=λx y H Q=>sU K x y H Q∨sV K x y H Q∨sW x y H Q
def oh:kU X (sX X.K):=Co.or (Cp.or Cq)
def Cr(its:List Value)(n j:Nat)(u:Value):Obj.mapSeq (·.setIfInBounds j u) { cls:=.type "list",data:=.seq its.toArray n }={ cls:=.type "list",data:=.seq (its.set j u).toArray n }:=by
 simp [Obj.mapSeq]
theorem Inv.lst{pins:List (Addr×Obj)}{σ:St}{H:Hp}{s:Shared}{p:Addr}{xs:List V}(I:Inv X pins σ H s)(h:H p=some (.lst xs)) :
  ∃(its:List Value) (n:Nat),au xs its/\s.heap.get? p=some { cls:=.type "list",data:=.seq its.toArray n }/\xs.length≤sizeLine:=by
 obtain⟨z,its,n,r,e⟩:=I.hok p _ h
 exact⟨its,n,r,e,z⟩
def Inv.y24f{pins:List (Addr×Obj)}{σ:St}{H:Hp}{s:Shared}{p:Addr}{xs ys:List V}{its its':List Value}{n n':Nat}{f:Obj->Obj}(I:Inv X pins σ H s)(h:H p=some (.lst xs))
  (ho:s.heap.get? p=some { cls:=.type "list",data:=.seq its.toArray n }) (hf:f { cls:=.type "list",data:=.seq its.toArray n }={ cls:=.type "list",data:=.seq its'.toArray n' }) (r:au ys its') (hz:ys.length≤sizeLine) (t:Nat) :
  Inv X pins σ (aH H p (.lst ys)) { s with heap:=s.heap.update p f,toks:=t }:=by
 have e:(s.heap.update p f).get? p=some { cls:=.type "list",data:=.seq its'.toArray n' }:=by
  rw [Heap.get?_update_self f ho (by rw [hf]<;>rfl),hf]
 refine I.write (x:=p) (e:=p) (by rw [h];trivial) (.inl rfl) (λb u hb q=>(Heap.get?_update_other _ _ (Ne.symm hb)).trans q) ⟨_,e⟩ ?_
 exact⟨hz,its',n',r,e⟩
abbrev kW:V->V->V->Hp->(Hp->Prop)->Prop:=λo i v H Q=>∃p xs k j,o=.ref p/\i=.int k/\H p=some (.lst xs)/\er xs.length k=some j/\Q (aH H p (.lst (xs.set j v)))
def dN:rF X kW:=by
 intro pins s σ H o i v ov iv u Q I ro ri rv h
 obtain⟨p,xs,k,j,rfl,rfl,hp,hj,q⟩:=h
 cases ro
 obtain⟨t,rfl⟩:=ri
 obtain⟨its,n,r,ho,hz⟩:=I.lst hp
 obtain⟨h1,h2,h3,h4⟩:=sS hj
 have hl:=r.length
 have hn:=gS
 have I':Inv X pins σ (aH H p (.lst (xs.set j v))) { s with heap:=s.heap.update p (Obj.mapSeq (·.setIfInBounds j u)) } :=
  I.y24f hp ho (Cr its n j u) (r.set rv j) (by rw [z29];exact hz) s.toks
 by_cases h0:0≤k
 ·have hk:k.toNat=j:=by
   rw [seqIndex_of h0 h4] at h1
   exact z20 h1
  exact W.ki_setAt ho h0 (by lia) (by rw [ze,<- hl];exact h4) (by rw [hk];exact⟨_,I',q⟩)
 ·have hk:(k+(its.toArray.size:Int)).toNat=j:=by
   rw [seqIndex_neg (by lia) h3] at h1
   rw [ze,<- hl]
   exact z20 h1
  exact W.ki_setBack ho (by lia) (by rw [ze,<- hl];exact h3) (by lia) (by rw [hk];exact⟨_,I',q⟩)
def Cs(lo hi:Option Int)(n:Nat):(sliceBounds lo hi none n).1=((HT.sIx n 0 lo:Nat):Int)/\(sliceBounds lo hi none n).2.1=((HT.sIx n n hi:Nat):Int)/\(sliceBounds lo hi none n).2.2=1:=by
 refine⟨?_,?_,rfl⟩
 ·cases lo with
  | none=>simp [sliceBounds,HT.sIx]
  | some i =>
   simp only [sliceBounds,HT.sIx,Option.getD_none,show (1:Int)>0 by decide,if_true]
   by_cases h:i<0
   ·simp only [h,if_true]<;>lia
   ·simp only [h,if_false]<;>lia
 ·cases hi with
  | none=>simp [sliceBounds,HT.sIx]
  | some i =>
   simp only [sliceBounds,HT.sIx,Option.getD_none,show (1:Int)>0 by decide,if_true]
   by_cases h:i<0
   ·simp only [h,if_true]<;>lia
   ·simp only [h,if_false]<;>lia
def Ct(its:List Value)(lo hi:Option Int):slicePick its.toArray lo hi none=((its.drop (HT.sIx its.length 0 lo)).take (HT.sIx its.length its.length hi-HT.sIx its.length 0 lo)).toArray:=by
 obtain⟨h1,h2,h3⟩:=Cs lo hi its.toArray.size
 unfold slicePick
 rw [h1,h2,h3]
 simp only [sliceRange_one,pick_run,ze]<;>rfl
abbrev sY(K:W.Frag):V->Option Int->Option Int->Hp->VK->Prop:=λx lo hi H Q=>∃a xs,x=.ref a/\bw K H a xs/\∀p,H p=none->Q (.ref p) (aH H p (.lst (jx xs lo hi)))
def Cu:kT X (sY X.K):=by
 intro pins s σ H x v vl vu lo hi sl Q I rx hs pl pu h
 obtain⟨a,xs,rfl,hx,q⟩:=h
 cases rx
 obtain⟨its,r,ht,hz⟩:=I.list hx
 have hlen:=r.length
 refine⟨"list",_,slot_list_getitem.lookup,ht.isList.typeIs,?_⟩
 refine wpAny_getItem_list_slice ht.isList hs pl pu .none (by simp) ?_ (by rw [ze]<;>lia)
 rw [Ct,<- hlen]
 refine⟨.ref s.heap.objs.size,_,I.laid (t':=s.toks) (o:=.lst (jx xs lo hi)) (λb ob q=>zc _ q) (z10 _) ?_,rfl,q _ (I.hok.fresh (z10 _))⟩
 exact⟨z1a (yd8 xs lo hi) hz,_,0,(r.drop (HT.sIx xs.length 0 lo)).take (HT.sIx xs.length xs.length hi-HT.sIx xs.length 0 lo),z21 _ rfl⟩
abbrev bo:V->Bool
 | .non=>true
 | .bl _=>true
 | .int _=>true
 | .str _=>true
 | _=>false
abbrev gX:V->V->Bool
 | .non,.non=>true
 | .bl a,.bl b=>a == b
 | .bl a,.int b=>(if a then 1 else 0) == b
 | .int a,.bl b=>a == (if b then 1 else 0)
 | .int a,.int b=>a == b
 | .str a,.str b=>a == b
 | _,_=>false
def sZ{A:Around}{s:Shared}{y x:V}{u v:Value}(ry:ay y u)(rx:ay x v)(fy:bo y=true)(fx:bo x=true):SeqAt.EqAt A s u v (gX y x):=by
 cases y with
 | non =>
  cases ry
  cases x with
  | non=>cases rx;exact SeqAt.EqAt.same _
  | bl b=>cases rx;exact SeqAt.EqAt.none_bool b
  | int b=>obtain⟨t,rfl⟩:=rx;exact SeqAt.EqAt.none_int b t
  | str b=>obtain⟨t,rfl⟩:=rx;exact SeqAt.EqAt.none_str b t
  | _=>exact absurd (show false=true from fx) z13
 | bl a =>
  cases ry
  cases x with
  | non=>cases rx;exact SeqAt.EqAt.bool_none a
  | bl b=>cases rx;exact SeqAt.EqAt.bool_bool a b
  | int b=>obtain⟨t,rfl⟩:=rx;exact SeqAt.EqAt.bool_int a b t
  | str b=>obtain⟨t,rfl⟩:=rx;exact SeqAt.EqAt.bool_str a b t
  | _=>exact absurd (show false=true from fx) z13
 | int a =>
  obtain⟨t',rfl⟩:=ry
  cases x with
  | non=>cases rx;exact SeqAt.EqAt.int_none a t'
  | bl b=>cases rx;exact SeqAt.EqAt.int_bool a t' b
  | int b=>obtain⟨t,rfl⟩:=rx;exact SeqAt.EqAt.int_int a t' b t
  | str b=>obtain⟨t,rfl⟩:=rx;exact SeqAt.EqAt.int_str a t' b t
  | _=>exact absurd (show false=true from fx) z13
 | str a =>
  obtain⟨t',rfl⟩:=ry
  cases x with
  | non=>cases rx;exact SeqAt.EqAt.str_none a t'
  | bl b=>cases rx;exact SeqAt.EqAt.str_bool a t' b
  | int b=>obtain⟨t,rfl⟩:=rx;exact SeqAt.EqAt.str_int a t' b t
  | str b=>obtain⟨t,rfl⟩:=rx;exact SeqAt.EqAt.str_str a t' b t
  | _=>exact absurd (show false=true from fx) z13
 | _=>exact absurd (show false=true from fy) z13
abbrev gY(x:V)(u:Value):Bool:=match u with
 | .none=>gX .non x
 | .bool b=>gX (.bl b) x
 | .int i _=>gX (.int i) x
 | .str z _=>gX (.str z) x
 | _=>false
def tj{x y:V}{u:Value}(r:ay y u)(f:bo y=true):gY x u=gX y x:=by
 cases y with
 | non=>cases r;rfl
 | bl b=>cases r;rfl
 | int i=>obtain⟨t,rfl⟩:=r;rfl
 | str z=>obtain⟨t,rfl⟩:=r;rfl
 | _=>exact absurd (show false=true from f) z13
theorem tq{x:V}:∀{xs:List V} {us:List Value},au xs us->xs.all bo=true->us.any (gY x)=xs.any λy=>gX y x
 | _,_,.nil,_=>rfl
 | y::xs,u::us,.cons r t,f=>by
  rw [List.all_cons,z1b] at f
  rw [List.any_cons,List.any_cons,tj r f.1,tq t f.2]
theorem jy{A:Around}{s:Shared}{x:V}{v:Value}(rx:ay x v)(fx:bo x=true):∀{xs:List V} {us:List Value},au xs us->xs.all bo=true->∀u∈us,SeqAt.EqAt A s u v (gY x u)
 | _,_,.nil,_=>λu hu=>by cases hu
 | y::xs,u::us,.cons r t,f=>λu' hu=>by
  rw [List.all_cons,z1b] at f
  rcases z1f.mp hu with rfl|hu
  ·rw [tj r f.1];exact sZ r rx f.1 fx
  ·exact jy rx fx t f.2 u' hu
abbrev inV(x:V)(xs:List V):Bool:=xs.any λy=>gX y x
abbrev As(K:W.Frag)(neg:Bool):R2:=λx y H Q=>∃p xs,y=.ref p/\(bw K H p xs∨bb K H p xs)/\bo x=true/\xs.all bo=true/\Q (.bl (if neg then !inV x xs else inV x xs)) H
def kX:bU X (compareOp .In) (As X.K false):=by
 intro pins s σ H x y v u Q I rx ry h
 obtain⟨p,xs,rfl,hq,fx,fs,q⟩:=h
 cases ry
 rcases hq with hq|hq
 ·obtain⟨its,r,pl,hz⟩:=I.list hq
  refine SeqAt.in_listAt (gY x) pl.isList (λw hw=>jy rx fx r fs w (by simpa using hw)) ⟨.bl _,H,I,rfl,?_⟩
  rw [show its.toArray.any (gY x)=its.any (gY x) by simp,tq r fs]
  exact q
 ·obtain⟨its,r,pl,hz⟩:=I.tuple hq
  refine SeqAt.in_tupleAt (gY x) pl (λw hw=>jy rx fx r fs w (by simpa using hw)) ⟨.bl _,H,I,rfl,?_⟩
  rw [show its.toArray.any (gY x)=its.any (gY x) by simp,tq r fs]
  exact q
def Cw:bU X (compareOp .NotIn) (As X.K true):=by
 intro pins s σ H x y v u Q I rx ry h
 obtain⟨p,xs,rfl,hq,fx,fs,q⟩:=h
 cases ry
 rcases hq with hq|hq
 ·obtain⟨its,r,pl,hz⟩:=I.list hq
  refine SeqAt.notIn_listAt (gY x) pl.isList (λw hw=>jy rx fx r fs w (by simpa using hw)) ⟨.bl _,H,I,rfl,?_⟩
  rw [show its.toArray.any (gY x)=its.any (gY x) by simp,tq r fs]
  exact q
 ·obtain⟨its,r,pl,hz⟩:=I.tuple hq
  refine SeqAt.notIn_tupleAt (gY x) pl (λw hw=>jy rx fx r fs w (by simpa using hw)) ⟨.bl _,H,I,rfl,?_⟩
  rw [show its.toArray.any (gY x)=its.any (gY x) by simp,tq r fs]
  exact q
def yad:y6 X (.builtin "len") (λxs H Q=>∃p ys,xs=[.ref p]/\(bw X.K H p ys∨bb X.K H p ys)/\Q (.int ys.length) H):=by
 intro pins s σ H xs us Q I r h
 obtain⟨p,ys,rfl,hq,q⟩:=h
 obtain⟨u,rfl,rx⟩:=cc r
 cases rx
 have hn:=gS
 rcases hq with hq|hq
 ·obtain⟨its,r',pl,hz⟩:=I.list hq
  have hlen:=r'.length
  exact Calls.call_len_list pl.isList (by simp only [ze]<;>lia) ⟨.int ys.length,H,I.tok _,⟨s.toks+1,by rw [ze,hlen]⟩,q⟩
 ·obtain⟨its,r',pl,hz⟩:=I.tuple hq
  have hlen:=r'.length
  exact len_tuple pl (by simp only [ze]<;>lia) ⟨.int ys.length,H,I.tok _,⟨s.toks+1,by rw [ze,hlen]⟩,q⟩
def yae:y6 X (.builtin "len") (λxs H Q=>∃z,xs=[.str z]/\z.length≤sizeLine/\Q (.int z.length) H):=by
 intro pins s σ H xs us Q I r h
 obtain⟨z,rfl,hz,q⟩:=h
 obtain⟨u,rfl,t,rfl⟩:=cc r
 have hn:=gS
 exact len_str (by lia) ⟨.int z.length,H,I.tok _,⟨_,rfl⟩,q⟩
def y6.or{f:Value}{r r':List V->Hp->VK->Prop}(h:y6 X f r)(h':y6 X f r'):y6 X f (λxs H Q=>r xs H Q∨r' xs H Q):=by
 intro pins s σ H xs us Q I rs q
 rcases q with q|q
 ·exact h pins s σ H xs us Q I rs q
 ·exact h' pins s σ H xs us Q I rs q
abbrev tu(K:W.Frag)(T:String)(x:V)(H:Hp):Prop:=match x with
 | .str _=>T="str"
 | .int _=>T="int"
 | .ref p=>(T="list"/\∃xs,bw K H p xs)∨(T="tuple"/\∃o,K.lookup p=some o/\o.cls=.type "tuple"/\o.dict=none) ∨
   (T="dict"/\((∃kvs,H p=some (.dK kvs))∨∃kvs,H p=some (.dT kvs)))∨(T="set"/\∃S n,H p=some (.set S n))
 | _=>False
def jA{pins:List (Addr×Obj)}{σ:St}{H:Hp}{s:Shared}{T:String}{x:V}{v:Value}(I:Inv X pins σ H s)(r:ay x v)(ty:tu X.K T x H) :
  s.TypeIs v T/\∀a,v=.ref a->∃ob,s.heap.get? a=some ob/\ob.dict=none:=by
 cases x with
 | str z =>
  obtain⟨t,rfl⟩:=r
  cases (show T="str" from ty)
  exact⟨typeIs_str s z t,λ_ e=>nomatch e⟩
 | int i =>
  obtain⟨t,rfl⟩:=r
  cases (show T="int" from ty)
  exact⟨typeIs_int s i t,λ_ e=>nomatch e⟩
 | ref p =>
  cases r
  rcases ty with⟨rfl,xs,hq⟩| ⟨rfl,o,hk,hc,hd⟩| ⟨rfl,hk⟩| ⟨rfl,S,n,hk⟩
  ·obtain⟨its,_,pl,_⟩:=I.list hq
   refine⟨pl.isList.typeIs,λa e=>?_⟩
   cases e
   obtain⟨o,n,e,c,hd,_⟩:=pl
   exact⟨o,e,hd⟩
  ·refine⟨⟨o,I.kIn p o hk,hc⟩,λa e=>?_⟩
   cases e
   exact⟨o,I.kIn _ o hk,hd⟩
  ·have z:∃o,s.heap.get? p=some o/\o.ExactDict:=by
    rcases hk with⟨kvs,hk⟩| ⟨kvs,hk⟩
    ·obtain⟨_,_,_,_,o,_,_,e,ex,_⟩:=I.hok p _ hk
     exact⟨o,e,ex⟩
    ·obtain⟨_,_,_,_,o,_,_,e,ex,_⟩:=I.hok p _ hk
     exact⟨o,e,ex⟩
   obtain⟨o,e,ex⟩:=z
   refine⟨⟨o,e,ex.1⟩,λa e2=>?_⟩
   cases e2
   exact⟨o,e,ex.2.1⟩
  ·obtain⟨o,_,_,_,e,ex,_⟩:=I.hok p _ hk
   refine⟨⟨o,e,ex.1⟩,λa e2=>?_⟩
   cases e2
   exact⟨o,e,ex.2.1⟩
 | _=>exact False.elim ty
abbrev tw(K:W.Frag)(T:String)(r:V->List V->Hp->VK->Prop)(to:TE):TE:=λσ H Q=>to σ H λx H1=>tu K T x H1/\r x [] H1 Q
abbrev Cy(K:W.Frag)(T:String)(r:V->List V->Hp->VK->Prop)(to:TE)(t:TA):TE:=λσ H Q=>to σ H λx H1=>tu K T x H1/\t σ H1 λxs H2=>r x xs H2 Q
variable {o e:Expr}{es:List Expr}{to:TE}{t:TA}{name:Str}{apos yd5:Pos}{T id:String}{r:V->List V->Hp->VK->Prop}
def Cz(pa:PlainAttrs T)(slot:Slot T name id)(hty:typeOf (.builtin id)=pure (.type "method_descriptor"))(hm:sT X id r)(ho:PE X o to)
  (y1ab:‹attributeBase o name X.env (eval o X.env)=eval o X.env›) (y1b8:‹(apos.endLine == yd5.line)=true›):PE X (.Call (.Attribute o name apos) [] [] yd5) (tw X.K T r to):=by
 intro pins s σ H Q I h
 refine wpAny_Call_method0_late y1ab y1b8 (aO (ho pins s σ H _ I h) λv s1 zz=>?_)
 obtain⟨x,H1,I1,r1,ty,q1⟩:=zz
 obtain⟨h1,h2⟩:=jA I1 r1 ty
 exact⟨T,id,pa,slot,hty,h1,h2,Calls.callWith_builtin rfl (PySem.evalArgs_none (hm pins s1 σ H1 x [] v [] Q I1 r1 .nil q1))⟩
def kY(pa:PlainAttrs T)(slot:Slot T name id)(hty:typeOf (.builtin id)=pure (.type "method_descriptor"))(hm:sT X id r)(ho:PE X o to)(ha:PA X (e::es) t)
  (y1ab:‹attributeBase o name X.env (eval o X.env)=eval o X.env›)
  (y1b2:‹((backTo yd5 (starEach (e::es) X.env)).all (λx=>!x.1)&&(backToKw yd5 (keywordEach [] X.env)).all (λx=>x.1.isSome)
   && decide ((e::es).length+([]:List Keyword).length+(if ([]:List Keyword).isEmpty then 0 else 1)<30))=true›)
  (y1b8:‹(apos.endLine == yd5.line)=true›) (hs:‹starEach (e::es) X.env=(false,eval e X.env)::starEach es X.env›) (y1bb:‹(backTo yd5 (starEach es X.env)).any (·.1)=false›) :
  PE X (.Call (.Attribute o name apos) (e::es) [] yd5) (Cy X.K T r to t):=by
 intro pins s σ H Q I h
 refine wpAny_Call_method_late y1ab y1b2 y1b8 rfl (aO (ho pins s σ H _ I h) λv s1 zz=>?_)
 obtain⟨x,H1,I1,r1,ty,q1⟩:=zz
 obtain⟨h1,h2⟩:=jA I1 r1 ty
 refine⟨T,id,pa,slot,hty,h1,h2,?_⟩
 have hA:=ha yd5 pins s1 σ H1 _ I1 q1
 rw [hs] at hA ⊢
 refine Calls.callWith_builtin (by show (false||(backTo yd5 (starEach es X.env)).any (·.1))=false;rw [y1bb]<;>rfl) (Calls.evalArgs_plain ?_)
 exact aO hA λus s2 ⟨vs,H2,I2,r2,q2⟩=>hm pins s2 σ H2 x vs v us Q I2 r1 r2 q2
end
end
section
abbrev CA(X:Cx)(id:String)(r:V->List V->Hp->VK->Prop):Prop :=
 ∀(pins:List (Addr×Obj)) (s:Shared) (σ:St) (H:Hp) (x:V) (xs:List V) (v:Value) (us:List Value) (Q:VK),Inv X pins σ H s->ay x v->au xs us->r x xs H Q ->
  wpAny (model X.prog X.w) X.A (call (.builtin id) (v::us)) (EP X pins σ Q) X.xe s
def au.one:∀{x:V} {us:List Value},au [x] us->∃u,us=[u]/\ay x u:=by
 intro x us h
 rcases h with _|⟨r,_|_⟩
 exact⟨_,rfl,r⟩
def au.zero:∀{us:List Value},au [] us->us=[]
 | _,.nil=>rfl
theorem au.dropLast{xs:List V}{us:List Value}(h:au xs us):au xs.dropLast us.dropLast:=by
 induction h with
 | nil=>exact .nil
 | cons r t ih =>
  cases t with
  | nil=>exact .nil
  | cons q t'=>exact .cons r ih
theorem au.reverse{xs:List V}{us:List Value}(h:au xs us):au xs.reverse us.reverse:=by
 induction h with
 | nil=>exact .nil
 | cons r t ih=>rw [List.reverse_cons,List.reverse_cons];exact au.append ih (.cons r .nil)
theorem au.rep{xs:List V}{us:List Value}(h:au xs us):∀k:Nat,au (List.replicate k xs).flatten (List.replicate k us).flatten
 | 0=>.nil
 | k+1=>by
  rw [List.replicate_succ,List.replicate_succ,List.flatten_cons,List.flatten_cons]
  exact au.append h (au.rep h k)
def CB{α:Type}(l:List α):l.eraseIdx (l.length-1)=l.dropLast:=by
 induction l with
 | nil=>rfl
 | cons a r ih =>
  cases r with
  | nil=>rfl
  | cons b r =>
   have e:(a::b::r).length-1=((b::r).length-1)+1:=by
    have h1:(a::b::r).length=r.length+2:=rfl
    have h2:(b::r).length=r.length+1:=rfl
    lia
   rw [e,List.eraseIdx_cons_succ,ih]
   all_goals rfl
theorem eP(its:List Value):∀(k:Nat) (acc:List Value),
  List.foldl (λx1 x2=>x1++x2) acc.toArray (List.replicate k its.toArray)=(acc++(List.replicate k its).flatten).toArray
 | 0,acc=>by simp
 | k+1,acc=>by
  have e:acc.toArray++its.toArray=(acc++its).toArray:=by simp
  have e2:(acc++its)++(List.replicate k its).flatten=acc++(List.replicate (k+1) its).flatten:=by
   rw [List.replicate_succ,List.flatten_cons,z2e]
  rw [<- e2,<- eP its k (acc++its),<- e,List.replicate_succ,List.foldl_cons]
section
variable {X:Cx}{pins:List (Addr×Obj)}{σ:St}{H:Hp}{s:Shared}{l b:Addr}{xs ys zs:List V}
def Inv.lset{its its':List Value}{n:Nat}{f:Array Value->Array Value}{t':Nat}(I:Inv X pins σ H s)(hH:H l=some (.lst xs))
  (e:s.heap.get? l=some { cls:=.type "list",data:=.seq its.toArray n }) (hf:f its.toArray=its'.toArray) (hv:au ys its') (hz:ys.length≤sizeLine) :
  Inv X pins σ (aH H l (.lst ys)) { s with heap:=s.heap.update l (Obj.mapSeq f),toks:=t' }:=by
 have q:=PySem.IsL.update e f
 rw [hf] at q
 refine I.write (x:=l) (e:=l) (by rw [hH];exact trivial) (.inl rfl) (λb' u hb hu=>(Heap.get?_update_other s.heap (Obj.mapSeq f) (Ne.symm hb)).trans hu) ⟨_,q⟩ ?_
 exact⟨hz,its',_,hv,q⟩
def Inv.lnew{its:List Value}{t':Nat}(I:Inv X pins σ H s)(hv:au ys its)(hz:ys.length≤sizeLine) :
  Inv X pins σ (aH H s.heap.objs.size (.lst ys)) { s with heap:=s.heap.push { cls:=.type "list",data:=.seq its.toArray },toks:=t' } :=
 I.laid (λ_ _ q=>zc _ q) (z10 _) ⟨hz,its,0,hv,z21 _ rfl⟩
theorem Inv.fresh(I:Inv X pins σ H s):H s.heap.objs.size=none:=I.hok.fresh (z10 _)
def Inv.y24e(I:Inv X pins σ H s)(hH:H l=some (.lst xs)):xs.length≤sizeLine/\∃(its:List Value) (n:Nat),au xs its/\xs.length=its.length/\s.heap.get? l=some { cls:=.type "list",data:=.seq its.toArray n }:=by
 obtain⟨z,its,n,r,e⟩:=I.hok l _ hH
 exact⟨z,its,n,r,r.length,e⟩
def tE{n:Nat}(h:n≤sizeLine):Builtin.List.listTooLong n=false:=by
 unfold Builtin.List.listTooLong
 exact decide_eq_false (by lia)
end
section
variable {X:Cx}
abbrev tF:V->List V->Hp->VK->Prop:=λx vs H Q=>∃l xs y,x=.ref l/\vs=[y]/\H l=some (.lst xs)/\xs.length<sizeLine/\Q .non (aH H l (.lst (xs++[y])))
def tG:CA X "list.append" tF:=by
 intro pins s σ H x vs v us Q I rx rv h
 obtain⟨l,xs,y,rfl,rfl,hH,hz,q⟩:=h
 cases rx
 obtain⟨u,rfl,ru⟩:=rv.one
 obtain⟨z,its,n,r,hl,e⟩:=I.y24e hH
 refine call_meets F.slot_list_append ⟨_,e,rfl⟩ F.entry_list_append (F.args_list_append_2 _ _) (PySem.list_append l its.toArray n u (by rw [ze];lia)) ⟨e,?_⟩
 refine⟨.non,_,I.lset (its':=its++[u]) hH e (by simp) (r.append (.cons ru .nil)) ?_,rfl,q⟩
 rw [zd,List.length_singleton]
 lia
abbrev CC:V->List V->Hp->VK->Prop:=λx vs H Q=>∃l b xs zs,x=.ref l/\vs=[.ref b]/\H l=some (.lst xs)/\H b=some (.lst zs)/\xs.length+zs.length≤sizeLine/\Q .non (aH H l (.lst (xs++zs)))
def Ku:CA X "list.extend" CC:=by
 intro pins s σ H x vs v us Q I rx rv h
 obtain⟨l,b,xs,zs,rfl,rfl,hH,hB,hz,q⟩:=h
 cases rx
 obtain⟨u,rfl,ru⟩:=rv.one
 cases ru
 obtain⟨z,its,n,r,hl,e⟩:=I.y24e hH
 obtain⟨z2,y1ea,n2,r2,hl2,e2⟩:=I.y24e hB
 have hsz:its.toArray.size+y1ea.toArray.size≤sizeLine:=by rw [ze,ze];lia
 have y1b9:¬ (!its.toArray.isEmpty&&Builtin.List.listTooLong (its.toArray.size+y1ea.toArray.size))=true:=by
  rw [tE hsz,Bool.and_false]
  exact z13
 refine call_meets F.slot_list_extend ⟨_,e,rfl⟩ F.entry_list_extend (F.args_list_extend_2 _ _)
  (AutoSeq1.list_extend_list_list_0 l its.toArray n b y1ea.toArray n2 y1b9 (by rw [ze];lia) (by lia)) ⟨e,e2,?_⟩
 refine⟨.non,_,I.lset (its':=its++y1ea) hH e (by simp) (r.append r2) ?_,rfl,q⟩
 rw [zd]
 lia
abbrev tH:V->List V->Hp->VK->Prop:=λx vs H Q=>∃l xs y,x=.ref l/\vs=[]/\H l=some (.lst xs)/\xs[xs.length-1]?=some y/\Q y (aH H l (.lst xs.dropLast))
def CD:CA X "list.pop" tH:=by
 intro pins s σ H x vs v us Q I rx rv h
 obtain⟨l,xs,y,rfl,rfl,hH,hy,q⟩:=h
 cases rx
 have hus:=rv.zero
 subst hus
 obtain⟨z,its,n,r,hl,e⟩:=I.y24e hH
 obtain⟨u,hu,ru⟩:=r.get hy
 have hy':its.toArray[its.toArray.size-1]?=some u:=by
  show its.toArray[its.length-1]?=some u
  rw [<- Array.getElem?_toList,<- hl]
  exact hu
 refine call_meets F.slot_list_pop ⟨_,e,rfl⟩ F.entry_list_pop (F.args_list_pop_1 _) (MeetsSeq.list_pop_last l its.toArray n u hy' (by rw [ze];lia)) ⟨e,?_⟩
 refine⟨y,_,I.lset (its':=its.dropLast) hH e ?_ r.dropLast ?_,ru,q⟩
 ·show its.toArray.eraseIdxIfInBounds (its.toArray.size-1)=its.dropLast.toArray
  rw [ze,List.eraseIdxIfInBounds_toArray,CB]
 ·rw [List.length_dropLast]
  lia
abbrev kZ:R2:=λx y H Q=>∃l b xs zs,x=.ref l/\y=.ref b/\H l=some (.lst xs)/\H b=some (.lst zs)/\xs.length+zs.length≤sizeLine/\∀p,H p=none->Q (.ref p) (aH H p (.lst (xs++zs)))
def CF:bU X (binaryOp .Add) kZ:=by
 intro pins s σ H x y v u Q I rx ry h
 obtain⟨l,b,xs,zs,rfl,rfl,hH,hB,hz,q⟩:=h
 cases rx
 cases ry
 obtain⟨z,its,n,r,hl,e⟩:=I.y24e hH
 obtain⟨z2,y1ea,n2,r2,hl2,e2⟩:=I.y24e hB
 refine PySem.P.add_list e e2 ?_ (by rw [ze,ze];lia)
 have ea:its.toArray++y1ea.toArray=(its++y1ea).toArray:=by simp
 rw [ea]
 exact⟨.ref _,_,I.lnew (t':=s.toks) (r.append r2) (by rw [zd];lia),rfl,q _ I.fresh⟩
abbrev k6:R2:=λx y H Q=>∃l k xs,x=.ref l/\y=.int k/\H l=some (.lst xs)/\-(2 ^ 63)≤k/\k<2 ^ 63/\xs.length*k.toNat≤sizeLine /\
 ∀p,H p=none->Q (.ref p) (aH H p (.lst (List.replicate k.toNat xs).flatten))
def k7{α:Type}(xs:List α)(k:Nat):(List.replicate k xs).flatten.length=k*xs.length:=by
 induction k with
 | zero=>simp
 | succ k ih=>rw [List.replicate_succ,List.flatten_cons,zd,ih,Nat.succ_mul,Nat.add_comm]
def CG:bU X (binaryOp .Mult) k6:=by
 intro pins s σ H x y v u Q I rx ry h
 obtain⟨l,k,xs,rfl,rfl,hH,h1,h2,hz,q⟩:=h
 cases rx
 obtain⟨t,rfl⟩:=ry
 obtain⟨z,its,n,r,hl,e⟩:=I.y24e hH
 have hlen:its.toArray.size*k.toNat≤sizeLine:=by rw [ze,<- hl];exact hz
 have hcap:¬ its.toArray.size*k.toNat>(2 ^ 63-1) / 8:=by
  have:(sizeLine:Nat)≤(2 ^ 63-1) / 8:=by decide
  lia
 have hfit:¬ (!Builtin.List.listFitsIndex k)=true:=by
  rw [fitsIndex_both h1 h2]
  exact z13
 have y1b9:¬ Builtin.List.listTooLong (its.toArray.size*k.toNat)=true:=by
  rw [tE hlen]
  exact z13
 have hnew:List.foldl (λx1 x2=>x1++x2) #[] (List.replicate (if its.toArray.isEmpty=true then 0 else k.toNat) its.toArray)=(List.replicate k.toNat its).flatten.toArray:=by
  have f0:∀m:Nat,List.foldl (λx1 x2=>x1++x2) #[] (List.replicate m its.toArray)=(List.replicate m its).flatten.toArray:=λm=>by
   have:=eP its m []
   rw [List.nil_append] at this
   exact this
  rw [f0]
  cases its with
  | nil=>simp
  | cons a r'=>rw [if_neg (by simp)]
 refine wpAny_binaryOp_repeat_ref (T:="list") (U:="int") (by decide) ⟨_,e,rfl⟩ (λs'=>typeIs_int s' k t) noFill_list_mul F.fills_int_mul F.slot_int_rmul repeat_list F.slot_int_index.lookup
  (call_meets F.slot_int_rmul (typeIs_int s k t) F.entry_int_rmul (F.args_int_rmul_2 _ _) (int___rmul___int_list k t l its.toArray n)
   ⟨e,rfl,⟨_,e,rfl⟩,call_meets F.slot_list_mul ⟨_,e,rfl⟩ F.entry_list_mul (F.args_list_mul_2 _ _) (AutoListH.list___mul___list_int_3 l its.toArray n k t hfit hcap y1b9) ⟨e,?_⟩⟩)
 rw [hnew]
 exact⟨.ref _,_,I.lnew (t':=s.toks) (r.rep k.toNat) (by rw [k7,Nat.mul_comm];exact hz),rfl,q _ I.fresh⟩
end
section
variable {prog:Program}{w:World}{A:Around}{E:Value->Shared->Prop}{s:Shared}
end
section
variable {X:Cx}
end
end
end L2
namespace Att
open PySem PySem.W PySem.Calls PyProof.Rows
def CH{P:Params}{h:Heap}:∀(ns:List Int) (vs:List Value),WellAll P h vs (ns.map WData.int)->IntsAre vs ns:=by
 intro ns
 induction ns with
 | nil =>
  intro vs w
  rw [List.map_nil] at w
  cases w
  exact .nil
 | cons n ns ih =>
  intro vs w
  rw [z18] at w
  cases w with
  | cons a b =>
   cases a
   exact .cons _ _ (ih _ b)
def CI{l:OpenLaw}{n:Nat}(hn:l.most=some n){P:Params}{h:Heap}{args:List WData}{vals:List Value}
  (hpre:l.row.toRowW.claim.pre args=true) (hwl:WellAll P h vals args) :
  ∃a vs ns,vals=[Value.ref a]/\args=[WData.list (ns.map WData.int)]/\h.get? a=some { cls:=.type "list",data:=.seq vs.toArray }/\IntsAre vs ns/\ns.length≤n:=by
 have hsh:WShape.hasAll [] args [.list .int]=true:=(pre_splitW hpre).1
 have hc:l.pre.holds [] { args:=args }=true:=(pre_splitW hpre).2
 obtain⟨d,r,rfl,h1,h2⟩:=hasAllW_cons hsh
 obtain rfl:=hasAllW_nil h2
 obtain⟨xs,rfl,h3⟩:=hasW_list h1
 obtain⟨ns,rfl⟩:=items_int h3
 have hlen:ns.length≤n:=by
  unfold OpenLaw.pre at hc
  have h4:(WTm.not (.lt (.lit (.int (n:Int))) (.len (.arg 0)))).holds [] { args:=[.list (ns.map .int)] }=true:=by
   have h4:=(holds_andW hc).1
   rw [hn] at h4
   exact h4
  have h5:=condW_of h4 (w_not (w_lt w_lit (w_len_list (w_arg rfl))))
  rw [z12] at h5
  refine Nat.le_of_not_lt λq=>?_
  have q':(n:Int)<((ns.length:Nat):Int):=by lia
  first
   | (rw [decide_eq_true q'] at h5;exact absurd h5 (by decide))
   | (simp at h5;lia)
 cases hwl with
 | cons w1 w2 =>
  cases w2
  cases w1 with
  | list ho y1a7=>exact⟨_,_,ns,rfl,rfl,ho,CH ns _ y1a7,hlen⟩
def CJ(l:OpenLaw)(args:List WData):l.row.toRowW.claim.post args (.bool true) args=true :=
 postW_of (r:=l.row.toRowW) (X:=(true == true))
  (show WShape.has [] (.bool true) .bool=true by first|rfl|decide|simp [WShape.has,WShape.arms,WShape.armsAll])
  (show (WTm.eq .res (.lit (.bool true))).value [] { args:=args,res:=some (.bool true),after:=args }=some (.bool (true == true)) from w_eq_bool (w_res rfl) w_lit) rfl
def y81{l:OpenLaw}{n:Nat}{q:Program}{loose:List Str}{XP:(Str->Option Value)->Heap->Prop}{YP:World->Heap->Prop}{d:DefRec}
  (hn:l.most=some n) (hdf:d.params.defaults=[])
  (call:∀(w:World) (s₀ s₁:Shared) (mg mb:Str->Option Value) (fa:Addr) (o:Obj) (pm cd doc:Value) (a:Addr) (vs:List Value) (ns:List Int),
   Ground q loose [] XP w s₀ mg mb s₁.heap->YP w s₁.heap ->
   s₁.heap.get? fa=some o->o.data=.func (docDef d.name d.params d.body d.scope pm cd doc)->s₁.heap.CodeRec cd d.name->mg d.name=some (.ref fa) ->
   s₁.heap.get? a=some { cls:=.type "list",data:=.seq vs.toArray }->IntsAre vs ns->ns.length≤n->s₁.gens=#[] ->
   codeAny (model l.prog w) callerA (.call (.ref fa) ⟨[.ref a],[]⟩) (λr s'=>r=.ok (.ret (.bool true))/\OldK s₁.heap s'.heap/\s'.os=s₁.os/\AllBare s'.gens) s₁) :
  WalkO q loose XP YP l.row.toRowW d [] (λf vs=>PySem.call f vs):=by
 intro w s₀ s₁ mg mb G Y fa o pm cd doc dV kV ho hd hcd hD hmg hg args vals as hpre hlay hrd hwl hlo
 obtain rfl:dV=.none:=Dflts.none hD hdf
 obtain rfl:kV=.none:=Dflts.noKw hD
 obtain⟨a,vs,ns,rfl,rfl,hobj,hints,hlen⟩:=CI hn hpre hwl
 refine enter_call (codeAny_mono (call w s₀ s₁ mg mb fa o pm cd doc a vs ns G Y ho (fd_plain hd) hcd hmg hobj hints hlen hg) λr s' hq=>?_)
 obtain⟨rfl,h2,h3,h4⟩:=hq
 exact⟨.inl ⟨.bool true,.bool true,[],rfl,λ_=>rfl,.bool true,CJ l _,λ_=>⟨List.Pairwise.nil,λ_ hm=>(nomatch hm)⟩⟩,h2,h3,h4⟩
section
variable {prog:Program}{w:World}{A:Around}{E:Value->Shared->Prop}{s:Shared}{K:Frag}
end
end Att
namespace L2
open PySem PySem.Spec PyProof.Rows
section
theorem tJ:∀{vs:List Value} {ns:List Int},IntsAre vs ns->au (ns.map V.int) vs
 | _,_,.nil=>.nil
 | _,_,.cons n t h=>.cons ⟨t,rfl⟩ (tJ h)
abbrev k9(H:Hp):Prop:=∀b,H b=none∨∃o xs,H b=some (.frz o (.lst xs))
def CK{P:Program}{w:World}{K:W.Frag}{mg mb:Str->Option Value}{CX:gU}{k:Nat}{fa a:Addr}{fd:FuncData}{x:Str}{sp:Sp}{s₁:Shared}{vs:List Value}{ns:List Int}
  (KX:K.In s₁.heap) (hns:s₁.heap.Ns mainGlobals mg) (hb:s₁.heap.Ns builtinsNs mb) (hbb:∀x:Str,x≠"__name__"->mb x=bootBuiltins x) (hlim:s₁.heap.NoLimit) (hg:s₁.gens=#[])
  (ha:s₁.heap.get? a=some { cls:=.type "list",data:=.seq vs.toArray }) (hi:IntsAre vs ns) (hl:ns.length≤sizeLine) (hr:y4e k callerA)
  (F:∀base:Heap,K.In base->base.Ns mainGlobals mg->y3f P w K mg base CX k fa fd [x] sp) (hbind:∀(s:Shared) (u:Value),BindsTo s fd ⟨[u],[]⟩ [(x,u)])
  (hsp:∀H:Hp,k9 H->bw K H a (ns.map V.int)->sp [.ref a] H (λv _=>v=.bl true) λ_ _ _=>False)
  (hCX:∀H e s',CX [] H s₁ (λ_ _ _=>False) e s'->False) :
  codeAny (model P w) callerA (.call (.ref fa) ⟨[.ref a],[]⟩) (λr s'=>r=.ok (.ret (.bool true))/\OldK s₁.heap s'.heap/\s'.os=s₁.os/\AllBare s'.gens) s₁:=by
 have rv:=tJ hi
 have lenV:=hi.length
 have core:∀H:Hp,k9 H->bw K H a (ns.map V.int)->cB P w H s₁.heap->(∀b,H b≠none->b=a)->(H a≠none->K.lookup a=none) ->
   codeAny (model P w) callerA (.call (.ref fa) ⟨[.ref a],[]⟩) (λr s'=>r=.ok (.ret (.bool true))/\OldK s₁.heap s'.heap/\s'.os=s₁.os/\AllBare s'.gens) s₁:=by
  intro H hO hS hok hA hK
  have y85:∀{b:Addr} {o:Obj},s₁.heap.get? b=some o->H b=none->(eW s₁.heap H).get? b=some o:=λe n=>Bg e n
  have noA:∀{b:Addr} {o:Obj} {es:Array DictEntry} {ep:Nat},s₁.heap.get? b=some o->o.data=.dict es ep->H b=none:=λ{b o es ep} e d=>by
   cases q:H b with
   | none=>rfl
   | some u =>
    have e':b=a:=hA b (by rw [q];simp)
    subst e'
    rw [ha] at e;cases e
    have d':Data.seq vs.toArray _=Data.dict es ep:=d
    cases d'
  have nsK:∀{b:Addr} {m:Str->Option Value},s₁.heap.Ns b m->(eW s₁.heap H).Ns b m:=λ{b m} ⟨o,es,ep,e,d,r⟩=>⟨o,es,ep,y85 e (noA e d),d,r⟩
  have hKb:K.In (eW s₁.heap H):=λb o e=>y85 (KX b o e) (by
   cases q:H b with
   | none=>rfl
   | some u =>
    have e':b=a:=hA b (by rw [q];simp)
    subst e'
    rw [hK (by rw [q];simp)] at e;cases e)
  have hM:Mod K mg (eW s₁.heap H):=⟨hKb,nsK hns,⟨mb,nsK hb,hbb⟩,let ⟨mc,h1,h2⟩:=hlim;⟨mc,nsK h1,h2⟩⟩
  have e0:y11 P w K mg (eW s₁.heap H) callerA [] s₁ H:=⟨rfl,hM,λb o e=>Bh e,Nat.le_of_eq (Bf _ _),trivial,λb hb=>absurd (show b∈([]:List Addr) from hb) (by simp),hok,.of_eq hg⟩
  refine codeAny_mono ((F _ hKb (nsK hns)).run callerA [] s₁ H ⟨[.ref a],[]⟩ [.ref a] [.ref a] _ _ hr e0 (hbind s₁ (.ref a)) (.cons rfl .nil) (hsp H hO hS)) λr s' h=>?_
  cases r with
  | error e=>exact (hCX H e s' h).elim
  | ok fl =>
   cases fl with
   | next=>exact False.elim h
   | brk=>exact False.elim h
   | cont=>exact False.elim h
   | ret u =>
    obtain⟨v,H',os,bare,un,hok',r',q⟩:=h
    have q':v=.bl true:=q
    subst q'
    obtain rfl:u=Value.bool true:=r'
    refine⟨rfl,OldK.of_keep λb o e=>?_,os,bare⟩
    cases q:H b with
    | none=>exact un.keep b o e q (by intro z;exact absurd (show b∈([]:List Addr) from z) (by simp)) (by simp)
    | some u =>
     rcases hO b with z|⟨ob,xs,z⟩
     ·rw [q] at z;cases z
     ·have z2:=un.y16e b ob _ z
      obtain⟨e1,_⟩:=hok b _ z
      obtain⟨e2,_⟩:=hok' b _ z2
      rw [e] at e1;cases e1
      exact e2
 cases hk:K.lookup a with
 | some o =>
  have e:=KX a o hk
  rw [ha] at e
  cases e
  refine core (λ_=>none) (λ_=>.inl rfl) (.inr ⟨_,vs.toArray,_,hk,rfl,rfl,rfl,by rw [ze,lenV];exact hl,by simpa using rv⟩) (λb u z=>by have z':(none:Option HO)=some u:=z;cases z') (λb z=>absurd rfl z) λz=>absurd rfl z
 | none =>
  refine core (λb=>if b=a then some (.frz { cls:=.type "list",data:=.seq vs.toArray } (.lst (ns.map V.int))) else none) (λb=>?_) (.inl (.inr ⟨{ cls:=.type "list",data:=.seq vs.toArray },if_pos rfl⟩)) (λb u z=>?_) (λb z=>?_) λ_=>hk
  ·by_cases hb:b=a
   ·exact .inr ⟨_,_,if_pos hb⟩
   ·exact .inl (if_neg hb)
  ·by_cases hb:b=a
   ·have z':=(if_pos hb).symm.trans z
    cases z'
    subst hb
    exact⟨ha,by rw [z12];exact hl,vs,_,rv,ha⟩
   ·have z':=(if_neg hb).symm.trans z
    cases z'
  ·by_cases hb:b=a
   ·exact hb
   ·exact absurd (if_neg hb) z
end
section
def y510{l:W.OpenLaw}{n k:Nat}{q:Program}{loose:List Str}{XP:(Str->Option Value)->Heap->Prop}{YP:World->Heap->Prop}{d:DefRec}{K:Params->W.Frag}{CX:World->gU}{sp:World->Sp}{x:Str}
  (hn:l.most=some n) (hn2:n≤sizeLine) (hdf:d.params.defaults=[]) (hr:y4e k callerA)
  (hY:∀(w:World) (h:Heap),YP w h->(K w.params).In h)
  (F:∀(w:World) (mg:Str->Option Value) (fa:Addr) (h:Heap),(K w.params).In h->h.Ns mainGlobals mg->mg d.name=some (.ref fa) ->
   ∃fd:FuncData,(∀(s:Shared) (u:Value),BindsTo s fd ⟨[u],[]⟩ [(x,u)]) /\
    ∀base:Heap,(K w.params).In base->base.Ns mainGlobals mg->y3f l.prog w (K w.params) mg base (CX w) k fa fd [x] (sp w))
  (hsp:∀(w:World) (H:Hp) (a:Addr) (ns:List Int),ns.length≤n->k9 H->bw (K w.params) H a (ns.map V.int)->sp w [.ref a] H (λv _=>v=.bl true) λ_ _ _=>False)
  (hCX:∀(w:World) (H:Hp) (s:Shared) (e:Value) (s':Shared),CX w [] H s (λ_ _ _=>False) e s'->False) :
  W.WalkO q loose XP YP l.row.toRowW d [] (λf vs=>PySem.call f vs):=by
 refine Att.y81 hn hdf λw s₀ s₁ mg mb fa o pm cd doc a vs ns G Y ho hd hcd hmg hobj hints hlen hg=>?_
 have KX:=hY w _ Y
 obtain⟨fd,hb,hF⟩:=F w mg fa _ KX G.T.g hmg
 exact CK KX G.T.g G.T.b G.T.builtins G.T.nolimit hg hobj hints (z1a hlen hn2) hr hF hb (λH hO hS=>hsp w H a ns hlen hO hS) λH e s'=>hCX w H s₁ e s'
end
section
abbrev ff(s:Stmt)(j:Nat):Stmt:=match s with
 | .ClassDef _ _ _ body _ _ _ _ _ _ _=>body.getD j (.Pass ⟨0,0,0,0⟩)
 | _=>.Pass ⟨0,0,0,0⟩
abbrev qG(s:Stmt):Arguments:=match s with
 | .FunctionDef _ a _ _ _ _ _ _ _ _=>a
 | _=>{ posonlyargs:=[],args:=[],vararg:=none,kwonlyargs:=[],kw_defaults:=[],kwarg:=none,defaults:=[] }
abbrev jB(s:Stmt):List Stmt:=match s with
 | .FunctionDef _ _ b _ _ _ _ _ _ _=>b
 | _=>[]
abbrev bp(s:Stmt):Scope:=match s with
 | .FunctionDef _ _ _ _ _ _ sc _ _ _=>sc
 | _=>{ kind:=.function,names:=[],isGenerator:=false,isCoroutine:=false }
noncomputable abbrev bH:gU:=λ_ _ _ _ _ _=>False
noncomputable abbrev E0:XK:=λ_ _ _=>False
def tK{X:Cx}:bO bH X E0:=λ_ _ _ _ _ _ _ h=>h.elim
structure Fun(K:W.Frag)(x qual:Str)(st:Stmt)(f:Addr)(fd:FuncData):Prop where
 ex:∃(oc:Value) (od:Option Addr) (kV doc pm:Value) (an:Option Addr) (cdv ct:Value) (osl:Array (Option Value)),
  fd=W.fnOf x qual (qG st) (jB st) (bp st) .none kV doc pm an cdv ct/\K.lookup f=some ⟨oc,od,.func fd,osl⟩/\W.codeIn K cdv qual=true
 kp:W.keepIn K (.ref f)=true
section
variable {P:Program}{w:World}{K:W.Frag}{mg:Str->Option Value}{base:Heap}
def Fun.ok{x qual:Str}{st:Stmt}{f:Addr}{fd:FuncData}{N ps:List Str}{k:Nat}{sp:Sp}(F:Fun K x qual st f fd)(S:y40 N ps (bp st))(len:∀vs H Q E,sp vs H Q E->vs.length=ps.length)
  (y1ac:∀(cdv:Value) (A:Around) (outer:List Env) (s:Shared) (H:Hp) (vs:List V) (Q:VK) (E:XK),y4e k (A.deeper (envOfC qual (bp st) s.heap.objs.size f cdv))->sp vs H Q E ->
   ∃t,dI (ei bH P w K mg base N qual (bp st) f cdv A outer s H E).nox (jB st) t/\t { nx:=λ_ H'=>Q .non H',rt:=Q } (start N vs) H):y3f P w K mg base bH (k+1) f fd ps sp:=by
 obtain⟨oc,od,kV,doc,pm,an,cdv,ct,osl,rfl,lk,hcd⟩:=F.ex
 refine sh lk hcd S len λA outer s H vs Q E hr hsp=>?_
 obtain⟨t,h,q⟩:=y1ac cdv A outer s H vs Q E hr hsp
 exact⟨t,h.nox,q⟩
def Fun.binds{x qual:Str}{st:Stmt}{f:Addr}{fd:FuncData}{ps:List Str}(F:Fun K x qual st f fd)
  (h:∀(kV doc pm:Value) (an:Option Addr) (cdv ct:Value) (us:List Value),us.length=ps.length->bindArgs (W.fnOf x qual (qG st) (jB st) (bp st) .none kV doc pm an cdv ct) ⟨us,[]⟩=pure (ps.zip us)):cQ K fd ps []:=by
 obtain⟨oc,od,kV,doc,pm,an,cdv,ct,osl,rfl,lk,hcd⟩:=F.ex
 exact .all (h kV doc pm an cdv ct)
def y16f{x qual:Str}{st:Stmt}{f:Addr}{oc:Value}{od an:Option Addr}{osl:Array (Option Value)}{kV doc pm cdv ct:Value}(l:K.lookup f=some ⟨oc,od,.func (W.fnOf x qual (qG st) (jB st) (bp st) .none kV doc pm an cdv ct),osl⟩)
  (c:W.codeIn K cdv qual=true) (k:W.keepIn K (.ref f)=true):Fun K x qual st f (W.fnOf x qual (qG st) (jB st) (bp st) .none kV doc pm an cdv ct):=⟨⟨oc,od,kV,doc,pm,an,cdv,ct,osl,rfl,l,c⟩,k⟩
end
def jC{A:Around}{k:Nat}(hr:y4e k A):A.units+1<cLine:=Nat.lt_of_le_of_lt (Nat.add_le_add_left (by decide:1≤64) _) hr.units
section
variable {X:Cx}
def pv(i:Nat){x:Str}{pos:Pos}(hN:‹X.N[i]?=some x›)(hv:Al X.env.scope x:=by first|exact Or.inl rfl|exact Or.inr (Or.inl rfl)|exact Or.inr (Or.inr rfl))(hd:(x == ("__debug__" : Str))=false:=by decide)
  (hcd:(x == ("__classdict__" : Str))=false:=by decide):PE X (.Name x pos) (cR i):=eD hN hv hd hcd
def yac:y6 X (.builtin "len") (λxs H Q=>∃a kvs,xs=[V.ref a]/\H a=some (.dK kvs)/\Q (.int kvs.length) H):=by
 intro pins s σ H xs us Q I r h
 obtain⟨a,kvs,rfl,ha,q⟩:=h
 obtain⟨u,rfl,ru⟩:=cc r
 cases ru
 exact sE I (.inl ha) λt s' I'=>⟨.int kvs.length,H,I',⟨t,rfl⟩,q⟩
end
def CL{A B:Prop}(h:B):if false=true then A else B:=by
 rw [if_neg z13]
 exact h
def CM{A B:Prop}(h:A):if true=true then A else B:=by
 rw [if_pos rfl]
 exact h
abbrev dA(H H':Hp):Prop:=∀b o,H b=some o->H' b=some o
def dA.free{H H':Hp}(e:dA H H'){l:Addr}(h:H' l=Option.none):H l=Option.none:=by
 cases q:H l with
 | none=>rfl
 | some o =>
  rw [e l o q] at h
  cases h
section
variable {κ:Type}[DecidableEq κ]
end
end
end L2
set_option maxHeartbeats 4000000
namespace PySem
abbrev oi(names:List (Str×NameKind))(env:Env):List (Str×Addr) :=
 names.foldl (λcs p=>if p.2 == NameKind.free then (p.1,(env.cells.lookup p.1).getD 0)::cs else cs) []
theorem yc0:∀(l:List (Str×NameKind)) (acc:List (Str×Addr)),(∀p∈l,p.2=.free->∃c,env.cells.lookup p.1=some c) ->
  (forIn l acc (λ(x:Str×NameKind) (cs:List (Str×Addr))=>match x with
   | (name,kind)=>if (kind == NameKind.free)=true then (do let a <- cellOf env name;pure (ForInStep.yield ((name,a)::cs)):Sem _) else pure (ForInStep.yield cs))) =
  (pure (l.foldl (λcs p=>if p.2 == NameKind.free then (p.1,(env.cells.lookup p.1).getD 0)::cs else cs) acc):Sem _)
 | [],acc,_=>by simp
 | (n,k)::r,acc,h=>by
  have ih:=λa=>yc0 r a λp hp=>h p (z1d _ hp)
  rw [List.forIn_cons]
  by_cases hk:k=.free
  ·subst hk
   obtain⟨c,e⟩:=h (n,.free) List.mem_cons_self rfl
   have e':cellOf env n=pure c:=by unfold cellOf;rw [e]
   show (if (NameKind.free == NameKind.free)=true then (do let a <- cellOf env n;pure (ForInStep.yield ((n,a)::acc)):Sem _) else pure (ForInStep.yield acc)) >>= _=_
   rw [if_pos (by rfl),e',pure_bind,pure_bind]
   rw [List.foldl_cons]
   have e2:(if ((n,NameKind.free).2 == NameKind.free)=true then ((n,NameKind.free).1,(env.cells.lookup (n,NameKind.free).1).getD 0)::acc else acc)=(n,c)::acc:=by
    rw [if_pos (by rfl),e];rfl
   rw [e2]
   exact ih _
  ·have hb:(k == NameKind.free)=false:=by simpa using hk
   simp only [hb,Bool.false_eq_true,if_false,pure_bind,ih,List.foldl_cons]
def ybf (h:∀p∈scope.names,p.2=.free->∃c,env.cells.lookup p.1=some c):closureFor scope env=pure (oi scope.names env):=by
 unfold closureFor oi
 have:=yc0 scope.names [] h
 simp only [bind_pure]
 exact this
theorem lh{env:Env}:∀{l:List (Str×NameKind)} {acc:List (Str×Addr)} {y:Str} {c:Addr},
  (y,c)∈l.foldl (λcs p=>if p.2 == NameKind.free then (p.1,(env.cells.lookup p.1).getD 0)::cs else cs) acc↔(y,c)∈acc∨((y,NameKind.free)∈l/\c=(env.cells.lookup y).getD 0)
 | [],acc,y,c=>by simp
 | (n,k)::r,acc,y,c=>by
  rw [List.foldl_cons,lh]
  by_cases hk:k=.free
  ·subst hk
   simp only [beq_self_eq_true,if_true,z1f,Prod.mk.injEq]
   constructor
   ·rintro ((⟨rfl,rfl⟩| h)|⟨h1,h2⟩)
    ·exact .inr ⟨.inl ⟨rfl,trivial⟩,rfl⟩
    ·exact .inl h
    ·exact .inr ⟨.inr h1,h2⟩
   ·rintro (h|⟨⟨rfl,_⟩| h1,h2⟩)
    ·exact .inl (.inr h)
    ·exact .inl (.inl ⟨rfl,h2⟩)
    ·exact .inr ⟨h1,h2⟩
  ·have hb:(k == NameKind.free)=false:=by simpa using hk
   simp only [hb,Bool.false_eq_true,if_false,z1f,Prod.mk.injEq]
   constructor
   ·rintro (h|⟨h1,h2⟩)
    ·exact .inl h
    ·exact .inr ⟨.inr h1,h2⟩
   ·rintro (h|⟨⟨_,h⟩| h1,h2⟩)
    ·exact .inl h
    ·exact absurd h.symm hk
    ·exact .inr ⟨h1,h2⟩
theorem fS{β:Type}:∀{l:List (Str×β)} {a:Str} {b:β},l.lookup a=some b->(a,b)∈l
 | [],_,_,h=>by simp at h
 | (k,v)::l,a,b,h=>by
  rw [List.lookup_cons] at h
  split at h
  ·rename_i e
   cases h
   have:a=k:=by simpa using e
   subst this
   exact List.mem_cons_self
  ·exact z1d _ (fS h)
theorem tL{β:Type}:∀{l:List (Str×β)} {a:Str} {b:β},(a,b)∈l->∃b',l.lookup a=some b'
 | [],_,_,h=>by simp at h
 | (k,v)::l,a,b,h=>by
  rw [List.lookup_cons]
  split
  ·exact⟨v,rfl⟩
  ·rename_i e
   rcases z1f.mp h with q|q
   ·cases q
    simp at e
   ·exact tL q
theorem lq{env:Env}:∀{names:List (Str×NameKind)} {y:Str} {k:NameKind},
  (names.map λ(n,k)=>if (k == NameKind.free&&env.scope.kind == .function&&env.kindOf n == some .cell) then (n,NameKind.cell) else (n,k)).lookup y=some k ->
  names.lookup y=some k∨(names.lookup y=some .free/\k=.cell)
 | [],_,_,h=>by simp at h
 | (n,k0)::r,y,k,h=>by
  rw [z18] at h
  by_cases hc:(k0 == NameKind.free&&env.scope.kind == .function&&env.kindOf n == some .cell)=true
  ·simp only [hc,if_true] at h
   rw [List.lookup_cons] at h ⊢
   cases hy:y == n with
   | true =>
    rw [hy] at h
    cases h
    have:k0=.free:=by
     rw [z1b,z1b] at hc
     simpa using hc.1.1
    subst this
    exact .inr ⟨rfl,rfl⟩
   | false =>
    rw [hy] at h
    exact lq h
  ·rw [Bool.not_eq_true] at hc
   simp only [hc,Bool.false_eq_true,if_false] at h
   rw [List.lookup_cons] at h ⊢
   cases hy:y == n with
   | true =>
    rw [hy] at h
    exact .inl h
   | false =>
    rw [hy] at h
    exact lq h
theorem tM{env:Env}:∀{names:List (Str×NameKind)} {y:Str},names.lookup y=some .free ->
  (names.map λ(n,k)=>if (k == NameKind.free&&env.scope.kind == .function&&env.kindOf n == some .cell) then (n,NameKind.cell) else (n,k)).lookup y=some .cell ∨
  (names.map λ(n,k)=>if (k == NameKind.free&&env.scope.kind == .function&&env.kindOf n == some .cell) then (n,NameKind.cell) else (n,k)).lookup y=some .free
 | [],_,h=>by simp at h
 | (n,k0)::r,y,h=>by
  rw [z18]
  rw [List.lookup_cons] at h
  cases hy:y == n with
  | true =>
   rw [hy] at h
   cases h
   by_cases hc:(NameKind.free == NameKind.free&&env.scope.kind == .function&&env.kindOf n == some .cell)=true
   ·left;simp only [hc,if_true,List.lookup_cons,hy]
   ·rw [Bool.not_eq_true] at hc
    right;simp only [hc,Bool.false_eq_true,if_false,List.lookup_cons,hy]
  | false =>
   rw [hy] at h
   have ih:=tM (env:=env) h
   by_cases hc:(k0 == NameKind.free&&env.scope.kind == .function&&env.kindOf n == some .cell)=true
   ·simp only [hc,if_true,List.lookup_cons,hy];exact ih
   ·rw [Bool.not_eq_true] at hc
    simp only [hc,Bool.false_eq_true,if_false,List.lookup_cons,hy];exact ih
section
def yc4   (I:Nat->Shared->Prop)
  (turn:∀n s,I n s->wpAny (model prog w) A (pyNext it) (λr s₁=>match r with
   | none=>R (.ok .next) s₁
   | some v=>wpAny (model prog w) A (letOwnedTupleGo target it v) (λ_ s₂=>wpAny (model prog w) A (assign target env v) (λ_ s₃ =>
     wpAny (model prog w) A (forIn ifs true λc r=>if r=true then do let ok <- isTrue c env (eval c env);pure (ForInStep.yield ok) else pure (ForInStep.yield r)) (λok s₄ =>
      if ok=true then wpAny (model prog w) A (eval elt env) (λx s₅ =>
       wpAny (model prog w) A (call (.builtin "list.append") [acc,x]) (λ_ s₆=>∃m,m<n/\I m s₆) (λ_ _=>False) s₅) (λ_ _=>False) s₄
      else ∃m,m<n/\I m s₄) (λ_ _=>False) s₃) (λ_ _=>False) s₂) (λ_ _=>False) s₁) (λ_ _=>False) s)
  (n:Nat) (h:I n s) :
  codeAny (model prog w) A (.compLoop (.ListComp elt [⟨target,iter,ifs,0⟩] scope pos) 0 it acc env) R s:=by
 refine codeAny_loop rfl I (λn s hI=>?_) n h
 show wpAny _ A ((compTurn (.ListComp elt [⟨target,iter,ifs,0⟩] scope pos) 0 it acc env).onRaise (λx=>do noteFrame x env;theTreesLotGoes x)) _ _ s
 refine wpAny_noted ?_
 rw [compTurn_list]
 refine za (wpAny_standAt (za (wpAny_mono (turn n s hI) (λr s₁ h₁=>?_) λ_ _ f=>f.elim)))
 cases r with
 | none=>exact zf h₁
 | some v =>
  refine za (wpAny_mono h₁ (λ_ s₂ h₂=>?_) λ_ _ f=>f.elim)
  refine za (wpAny_mono h₂ (λ_ s₃ h₃=>za (wpAny_mono h₃ (λok s₄ h₄=>?_) λ_ _ f=>f.elim)) λ_ _ f=>f.elim)
  cases ok with
  | false=>exact zf ⟨rfl,h₄⟩
  | true =>
   exact za (za (wpAny_mono h₄ (λx s₅ h₅=>za (wpAny_mono h₅ (λ_ s₆ h₆=>zf (zf ⟨rfl,h₆⟩)) λ_ _ f=>f.elim)) λ_ _ f=>f.elim))
end
end PySem
namespace L2
open PySem PySem.Spec PyProof.Rows
section
structure y9 where
 fp:List Addr
 s:Shared
 H:Hp
 C:Addr
 pins:List (Addr×Obj)
abbrev dO(X:Cx)(scope:Scope)(N:List Str)(z:y9):Cx :=
 { X with N:=N,s₀:=z.s,H₀:=z.H,env:=compEnvC scope (oi scope.names X.env) z.C X.env,outer:=X.stack,ex:=z.fp,fn:=λ_=>false,pn:=X.pn++z.pins,xe:=λ_ _=>False }
structure CompOk(X:Cx)(scope:Scope)(x:Str)(ys:List Str)(ix:List Nat):Prop where
 kind:scope.kind=.function
 hx:scope.names.lookup x=some .local
 y28d:∀p∈scope.names,p.2≠.cell
 names:∀p∈scope.names,p.2=.local->scope.names.lookup p.1=some .local
 fr:∀p∈scope.names,p.2=.free->X.env.kindOf p.1=some .cell∨X.env.kindOf p.1=some .free
 len:ys.length=ix.length
 here:∀(j:Nat) (y:Str) (i:Nat),ys[j]?=some y->ix[j]?=some i->scope.names.lookup y=some .free/\X.N[i]?=some y
 nd:(x::ys).Nodup
abbrev nc(X:Cx)(ifs:List Expr)(t:TT):Prop :=
 ∀(pins:List (Addr×Obj)) (s:Shared) (σ:St) (H:Hp) (Q:Bool->Hp->Prop),Inv X pins σ H s->t σ H Q ->
  wpAny (model X.prog X.w) X.A (forIn ifs true λc r=>if r=true then do let ok <- isTrue c X.env (eval c X.env);pure (ForInStep.yield ok) else pure (ForInStep.yield r)) (TP X pins σ Q) X.xe s
abbrev tO:TT:=λ_ H Q=>Q true H
def CN:nc X [] tO:=λpins s σ H Q I h=>wpAny_tests_nil ⟨H,I,h⟩
def CO (h:PT X c t):nc X [c] t:=λpins s σ H Q I q=>wpAny_tests_one (h pins s σ H Q I q)
section
def yd0   (I:Inv X pins σ H s)(f:iF X pins H C)(hs:Heap.SameBut C s.heap h'):Inv X pins σ H { s with heap:=h' } :=
 I.turned (λb o hb e=>(hs.2 b hb).trans e) f.1 f.2.1 f.2.2.2.1 f.2.2.2.2.1 f.2.2.2.2.2
end
section
end
abbrev Au(z:Str):It:=⟨λi _=>i<z.cps.size,λi H x H'=>H'=H/\∃c,z.cps[i]?=some c/\x=.str ⟨#[c]⟩,λi _=>z.cps.size≤i⟩
def CP{P:Program}{w:World}{K:W.Frag}{tg:Expr}{ty:String}(hty:ty="str_ascii_iterator"∨ty="str_iterator")(z:Str)(t:Tok)(it:Addr):Turn P w K tg (Au z) [it] it (λi h=>h.IsStrIter it ty z t i) where
 mem:=by simp
 obj:=λi h st b hb=>by
  have e:b=it:=by simpa using hb
  subst e
  obtain⟨o,e,c,d⟩:=st
  exact⟨o,e,λv q=>by rw [d] at q;cases q⟩
 keep:=λi h h' st k=>by
  obtain⟨o,e,r⟩:=st
  exact⟨o,k it (by simp) o e,r⟩
 item:=by
  intro X hP hw hK hc i pins s σ H E I hf st hg
  subst hP hw hK
  obtain⟨f0,f1,f2,f3,f4,f5⟩:=hf it (by simp)
  have hn:["enumerate","zip","dict_itemiterator","dict_reverseitemiterator","odict_iterator","itertools.zip_longest","itertools.pairwise"].contains ty=false:=by rcases hty with rfl|rfl<;>decide
  have fin:∀(v:Value) (h':Heap) (tk:Nat),SignAt z i v->h'.IsStrIter it ty z t (i+1)->(∀b o,b∉[it]->s.heap.get? b=some o->h'.get? b=some o) ->
    ∃u,some v=some u/\wpAny (model X.prog X.w) X.A (letOwnedTupleGo tg (.ref it) u) (λ_ s2=>∃x H',Inv X pins σ H' s2/\ay x u/\(Au z).yld i H x H'/\s2.heap.IsStrIter it ty z t (i+1)/\∀b∈[it],H' b=none) E { s with heap:=h',toks:=tk }:=by
   intro v h' tk hv st' kk
   obtain⟨c,u,hc',rfl⟩:=hv
   have I1:Inv X pins σ H { s with heap:=h',toks:=tk }:=I.turned (λb o hb e=>kk b o (by simpa using hb) e) f0 f1 f3 f4 f5
   obtain⟨o,e,c1,d⟩:=id st'
   exact⟨_,rfl,kL e c1 d hn ⟨.str ⟨#[c]⟩,H,I1,⟨u,rfl⟩,⟨rfl,c,hc',rfl⟩,st',λb hb=>(hf b hb).1⟩⟩
  rcases hty with rfl|rfl
  ·exact (Walks.strAscii (I.ok.hd hc) it z t).item i s _ _ hg st fin
  ·exact (Walks.strWide (I.ok.hd hc) it z t).item i s _ _ hg st fin
 done:=by
  intro X hP hw hK hc i pins s σ H E I hf st hg
  subst hP hw hK
  obtain⟨f0,f1,f2,f3,f4,f5⟩:=hf it (by simp)
  have hx:z.cps[i]?=none:=Array.getElem?_eq_none hg
  rcases hty with rfl|rfl
  ·exact wpAny_pyNext_ascii_end (I.ok.hd hc) st hx λh' eb=>⟨rfl,I.turned (λb o hb e=>eb b o hb e) f0 f1 f3 f4 f5⟩
  ·exact wpAny_pyNext_wide_end (I.ok.hd hc) st hx λh' eb=>⟨rfl,I.turned (λb o hb e=>eb b o hb e) f0 f1 f3 f4 f5⟩
 self:=λ_ _ _ _ _ st h=>by
  rcases hty with rfl|rfl
  ·exact wpAny_pyIter_striter_ascii st h
  ·exact wpAny_pyIter_striter_wide st h
section
abbrev CQ(tl:TE):TI:=λσ H R=>tl σ H λx H1=>∃z,x=.str z/\R (Au z) H1
def CS{l:Expr}{tl:TE}(hl:PE X l tl):PI X tg l (CQ tl):=by
 intro pins s σ H R I h
 refine aO (hl pins s σ H _ I h) λv s1 zz=>?_
 obtain⟨x,H1,I1,r1,q1⟩:=zz
 obtain⟨z,e,q⟩:=q1
 subst e
 obtain⟨t,rfl⟩:=r1
 have fin:∀ty:String,(ty="str_ascii_iterator"∨ty="str_iterator")->Bw X pins σ tg R (.ref s1.heap.objs.size) { s1 with heap:=s1.heap.push { cls:=.type ty,data:=.fields #[.str z t,.int 0 0] } }:=λty hty=>by
  refine⟨s1.heap.objs.size,[s1.heap.objs.size],_,_,H1,rfl,I1.kept λb o e=>zc _ e,CP hty z t _,⟨_,z21 _ rfl,rfl,rfl⟩,λb hb=>?_,q⟩
  have e:b=s1.heap.objs.size:=by simpa using hb
  subst e
  exact I1.y16b (z10 _) (I1.hok.fresh (z10 _))
 cases ha:z.cps.all (· < 128)
 ·exact wpAny_pyIter_wide ha (fin _ (.inr rfl))
 ·exact wpAny_pyIter_ascii ha (fin _ (.inl rfl))
end
section
end
end
end L2
namespace PySem
open PyProof.Rows
def CT:typeLookup (.type "list_reverseiterator") "__len__" = pure none:=by rw [typeLookup_type,builtinLookup_eq_fast];kernel_rfl
def CU:typeLookup (.type "list_reverseiterator") "__length_hint__" = pure (some (.builtin "list_reverseiterator.__length_hint__")):=by rw [typeLookup_type,builtinLookup_eq_fast];kernel_rfl
section
def tP (hT:s.TypeIs (.ref r) "list_reverseiterator")(h:Q false s):wpAny (model prog w) A (Builtin.List.listLengthHint (.ref r)) Q E s:=by
 unfold Builtin.List.listLengthHint
 refine za (wpAny_specialOf hT CT ?_)
 show wpAny _ A (specialOf (.ref r) (Str.ofString "__length_hint__") >>= _) _ _ _
 refine za (wpAny_specialOf hT CU ?_)
 generalize hid:("list_reverseiterator.__length_hint__" : String)=id0
 wp_delta
 rw [show splitId id0=some ("list_reverseiterator","__length_hint__") from by subst hid;decide +kernel]
 subst hid
 refine za (wpAny_isInstance (b:=true) hT (by rw [isSubtype_type];kernel_rfl) ?_)
 refine wpAny_ite_split (λhab=>absurd hab (by decide)) (λ_=>?_)
 refine wpAny_ite_split (λ_=>?_) (λhab=>absurd (by decide +kernel) hab)
 refine wpAny_ite_split (λhab=>absurd hab (by decide +kernel)) (λ_=>?_)
 exact zf h
def yaf (hh:A.handled=none)(hl:s.heap.IsList l items)(hne:l≠it)(hi:s.heap.IsRevIter it l ((items.size:Int)-1))(hn:items.size≤sizeLine)
  (hQ:∀h' tk acc c,(∀b o,b≠it->s.heap.get? b=some o->h'.get? b=some o)->h'.get? s.heap.objs.size=some { cls:=.type "list",dict:=none,data:=.seq acc c,slots:=#[] } ->
   ItemsOf (λi v=>items[items.size-1-i]?=some v) acc items.size->Q (.ref s.heap.objs.size) { s with heap:=h',toks:=tk }) :
  wpAny (model prog w) A (call (.type "list") [.ref it]) Q E s:=by
 refine callType_codes (Q₁:=λobj s₁=>obj=.ref s.heap.objs.size/\s₁={ s with heap:=s.heap.push { cls:=.type "list",data:=.seq #[] } }) PySem.F.called_list (PySem.F.typeCall_list_1 _) PySem.F.entry_list_init
  (code_list_new _ ⟨rfl,rfl⟩) λobj s₁ h₁=>?_
 obtain⟨rfl,rfl⟩:=h₁
 have hS:(s.heap.push { cls:=.type "list",data:=.seq #[] }).get? s.heap.objs.size=some { cls:=.type "list",data:=.seq #[] }:=z21 _ rfl
 have hlt:l<s.heap.objs.size:=by obtain⟨_,e,_⟩:=hl;exact z14 e
 have hit:it<s.heap.objs.size:=by obtain⟨_,e,_⟩:=hi;exact z14 e
 refine⟨⟨_,hS,rfl⟩,PySem.F.args_list_init_2 _ _,?_⟩
 show wpAny _ _ (do let old <- Builtin.List.listItems (.ref s.heap.objs.size);Builtin.List.listUpdate (.ref s.heap.objs.size) (λ_=>#[]);letGo old.toList.reverse;Builtin.List.listExtendWith (.ref s.heap.objs.size) (.ref it) .none) _ _ _
 refine za ?_
 unfold Builtin.List.listItems
 refine za (wpAny_seqItems hS rfl (zf ?_))
 show wpAny _ _ (updateSeq s.heap.objs.size (λ_=>#[]) >>= λ_=>letGo (#[]:Array Value).toList.reverse >>= λ_=>Builtin.List.listExtendWith (.ref s.heap.objs.size) (.ref it) .none) _ _ _
 refine za (wpAny_updateSeq hS rfl ?_)
 have hS₂:=Heap.get?_update_self (Obj.mapSeq (λ_=>(#[]:Array Value))) hS rfl
 generalize hh2:(s.heap.push { cls:=.type "list",data:=.seq #[] }).update s.heap.objs.size (Obj.mapSeq (λ_=>(#[]:Array Value)))=h2 at hS₂ ⊢
 have oth:∀b o,s.heap.get? b=some o->h2.get? b=some o:=λb o e=>by
  rw [<- hh2]
  exact (Heap.get?_update_other _ _ (Nat.ne_of_gt (z14 e))).trans (zc _ e)
 refine za (wpAny_letGo ?_)
 have hl2:h2.IsList l items:=hl.at λo e=>oth l o e
 have hi2:h2.IsRevIter it l ((items.size:Int)-1):=hi.at λo e=>oth it o e
 have hSI:s.heap.objs.size≠it:=Nat.ne_of_gt hit
 have W:=Walks.listRev (prog:=prog) (w:=w) (A:=A.in1.in1) hh it l hne items
 have st:(λi (h:Heap)=>i≤items.size/\h.IsRevIter it l ((items.size:Int)-1-(i:Int))/\h.IsList l items) 0 h2:=⟨Nat.zero_le _,by simpa using hi2,hl2⟩
 unfold Builtin.List.listExtendWith
 have hT:({ s with heap:=h2 }:Shared).TypeIs (.ref it) "list_reverseiterator":=hi2.typeIs
 refine za (wpAny_typeOf hT ?_)
 have h1:Builtin.List.listSameRef (.ref s.heap.objs.size) (.ref it)=false:=by simp [Builtin.List.listSameRef,hSI]
 have h2':(Value.type "list_reverseiterator" == Value.type "list")=false:=by decide
 have h3:(Value.type "list_reverseiterator" == Value.type "tuple")=false:=by decide
 simp only [h1,h2',h3,Bool.or_false,Bool.false_eq_true,if_false]
 refine za (wpAny_pyIter_revIter hi2 ?_)
 refine za (wpAny_holding (tP hT ?_))
 have hSf:s.heap.objs.size∉[it,l]:=by simp only [z1f,List.not_mem_nil,or_false,not_or];exact⟨hSI,Nat.ne_of_gt hlt⟩
 have key:∀(h:Heap) (c₁:Nat),(λi (h:Heap)=>i≤items.size/\h.IsRevIter it l ((items.size:Int)-1-(i:Int))/\h.IsList l items) 0 h->(∀b o,s.heap.get? b=some o->h.get? b=some o) ->
   h.get? s.heap.objs.size=some { cls:=.type "list",data:=.seq #[] c₁ }->codeAny (model prog w) A.in1 (.builtin "list.extend.loop" ⟨[.ref s.heap.objs.size,.ref it,.none],[]⟩) (wants (λr s₂=>r=.none/\Q (.ref s.heap.objs.size) s₂) E) { s with heap:=h }:=by
  intro h c₁ hst hk hS₁
  refine codeAny_extend_loopS W.toS hn s.heap.objs.size hSf .none items.size 0 _ #[] c₁ rfl (Nat.zero_le _) hst hS₁ (ItemsOf.nil _) λs' y5e c' hm hS' y1a5=>?_
  rw [Moved.eq_with hm]
  refine⟨rfl,hQ s'.heap s'.toks y5e c' (λb o hb e=>hm.heap b o (λy1ba=>?_) (hk b o e)) hS' y1a5⟩
  rcases z1f.mp y1ba with e'|y1ba
  ·exact absurd (z14 e) (by rw [e'];exact z32 _)
  ·exact hb (z22.mp y1ba)
 refine wpAny_ite_split (λ_=>?_) (λ_=>zf ⟨plainId_quiet PySem.F.plain_extend_loop _,key _ _ st oth hS₂⟩)
 refine za (wpAny_rule ?_)
 refine za ?_
 show wpAny _ _ (updateSeq s.heap.objs.size (·.push .none) >>= λ_=>updateSeq s.heap.objs.size (·.pop)) _ _ _
 refine za (wpAny_updateSeq hS₂ rfl ?_)
 have hS₃:=Heap.get?_update_self (Obj.mapSeq (·.push Value.none)) hS₂ rfl
 refine wpAny_updateSeq hS₃ rfl ?_
 have hS₄:=Heap.get?_update_self (Obj.mapSeq (·.pop)) hS₃ rfl
 have oth2:∀b o,b≠s.heap.objs.size->h2.get? b=some o->((h2.update s.heap.objs.size (Obj.mapSeq (·.push Value.none))).update s.heap.objs.size (Obj.mapSeq (·.pop))).get? b=some o :=
  λb o hb e=>(Heap.get?_update_other _ _ (Ne.symm hb)).trans ((Heap.get?_update_other _ _ (Ne.symm hb)).trans e)
 refine zf ⟨plainId_quiet PySem.F.plain_extend_loop _,key _ _ ?_ (λb o e=>oth2 b o (z27 (z14 e)) (oth b o e)) hS₄⟩
 exact W.frame 0 _ _ st λb hb o e=>oth2 b o (λz=>hSf (z ▸ hb)) e
end
end PySem
namespace L2
open PySem PySem.Spec PyProof.Rows
section
section
def CV(hc:X.calm=true)(gl:Gl X "list")(ml:X.mg "list" = none)(gr:Gl X "reversed")(mr:X.mg "reversed" = none)(he:PE X e te)
  (hs1:‹starEach [e] X.env=[(false,eval e X.env)]›)
  (hs2:‹starEach [.Call (.Name "reversed" p2) [e] [] q2] X.env=[(false,eval (.Call (.Name "reversed" p2) [e] [] q2) X.env)]›) :
  PE X (.Call (.Name "list" p1) [.Call (.Name "reversed" p2) [e] [] q2] [] q1) (λσ H Q=>te σ H λx H1=>∃l ys,x=.ref l/\bw X.K H1 l ys/\∀p,H1 p=none->Q (.ref p) (aH H1 p (.lst ys.reverse))):=by
 intro pins s σ H Q I h
 refine Call_ (gP I gl ml PyProof.Rows.boot_list (PyProof.Rows.callWith_type1 ?_ (by rw [hs2];rfl) rfl))
 rw [hs2]
 show wpAny _ _ (spliced ((false,eval (.Call (.Name "reversed" p2) [e] [] q2) X.env)::backTo q1 [])) _ _ s
 refine Calls.spliced_cons ?_
 refine Call_ (gP I gr mr PyProof.Rows.boot_reversed (PyProof.Rows.callWith_type1 ?_ (by rw [hs1];rfl) rfl))
 rw [hs1]
 show wpAny _ _ (spliced ((false,eval e X.env)::backTo q2 [])) _ _ s
 refine Calls.spliced_cons (aO (he pins s σ H _ I h) λu s1 ⟨x,H1,I1,r1,q1⟩=>Calls.spliced_nil ?_)
 obtain⟨l,ys,e1,hq,q⟩:=q1
 subst e1
 cases r1
 obtain⟨its,rv,p,hz⟩:=I1.list hq
 have hlen:=rv.length
 refine call_reversed_list p.isList (Calls.spliced_nil ?_)
 have hl1:(s1.heap.push (revObj l ((its.toArray.size:Int)-1))).IsList l its.toArray:=p.isList.push _
 have hlt:l<s1.heap.objs.size:=by obtain⟨_,e,_⟩:=p.isList;exact z14 e
 refine yaf (I1.ok.hd hc) hl1 (z27 hlt) ⟨_,z21 _ rfl,rfl,rfl⟩ (by rw [ze,<- hlen];exact hz) λh' tk acc c hk hD y1a5=>?_
 have hk':∀b o,s1.heap.get? b=some o->h'.get? b=some o:=λb o e=>hk b o (z27 (z14 e)) (zc _ e)
 have hsz:s1.heap.objs.size≤(s1.heap.push (revObj l ((its.toArray.size:Int)-1))).objs.size:=by rw [Heap.size_push];exact Nat.le_succ _
 have hv:acc.toList=its.reverse:=by
  refine List.ext_getElem? λi=>?_
  by_cases hi:i<its.length
  ·have hi2:i<acc.size:=by rw [y1a5.1,ze];exact hi
   have e:=y1a5.2 i acc[i] (Array.getElem?_eq_getElem hi2)
   rw [List.getElem?_reverse hi,Array.getElem?_toList,Array.getElem?_eq_getElem hi2]
   simpa using e.symm
  ·rw [List.getElem?_eq_none (by rw [Array.length_toList,y1a5.1,ze];lia),List.getElem?_eq_none (by rw [z2c];lia)]
 refine⟨.ref _,_,I1.laid hk' hsz ?_,rfl,q _ (I1.hok.fresh hsz)⟩
 exact⟨by rw [z2c];exact hz,acc.toList,c,by rw [hv];exact rv.reverse,by rw [Array.toArray_toList];exact hD⟩
def CW:bU X (binaryOp .FloorDiv) (rI (λ_ j=>0<j/\j<2 ^ 200) λi j=>.int (i / j)):=rS λi j _ _ _ _ _ hc q=>by
 have h0:j≠0:=by lia
 refine floordiv_int h0 ?_ (.inl (PyProof.noPylong_of_log2 ?_))
 ·rw [Int.fdiv_eq_ediv_of_nonneg _ (by lia)];exact q
 ·have:j.natAbs<2 ^ 200:=by lia
  have h1:j.natAbs≠0:=by lia
  exact z35 ((Nat.log2_lt h1).mpr this) (by decide)
theorem y94:∀{bs:List Bool} {us:List Value},au (bs.map V.bl) us->us=bs.map Value.bool
 | [],_,r=>by rw [List.map_nil] at r;cases r;rfl
 | b::bs,_,r=>by
  rw [z18] at r
  cases r with
  | cons r1 r2=>rw [z18,<- y94 r2];cases (show _=Value.bool b from r1);rfl
def ya5(hc:X.calm=true):y6 X (.builtin "all") (λxs H Q=>∃(p:Addr) (bs:List Bool),xs=[.ref p]/\bw X.K H p (bs.map V.bl)/\Q (.bl (bs.all id)) H):=by
 intro pins s σ H xs us Q I r h
 obtain⟨p,bs,rfl,hq,q⟩:=h
 obtain⟨u,rfl,ru⟩:=cc r
 cases ru
 obtain⟨its,rv,pl,hz⟩:=I.list hq
 have hits:=y94 rv
 have hlt:p<s.heap.objs.size:=by obtain⟨_,e,_⟩:=pl.isList;exact z14 e
 refine call_all_walk (wpAny_pyIter_list pl.isList ?_)
 refine⟨s.heap.objs.size,[s.heap.objs.size,p],[s.heap.objs.size],its.toArray.size,_,_,λi=>(bs[i]?).getD true,rfl,Walks.list (A:=X.A.in1) (I.ok.hd hc) _ p (z27 hlt) its.toArray,
  ⟨⟨_,z21 _ rfl,rfl,rfl⟩,pl.isList.push _⟩,λi v s' Q' E' hP hQ=>?_,λh' tk hk=>?_⟩
 ·have e:(bs.map Value.bool)[i]?=some v:=by rw [<- hits];simpa using hP
  rw [List.getElem?_map] at e
  cases eb:bs[i]? with
  | none=>rw [eb] at e;cases e
  | some b =>
   rw [eb] at e
   cases (show Value.bool b=v from z20 e)
   simp only [eb,Option.getD_some] at hQ
   exact wpAny_truthy_bool hQ
 ·have e:((List.range its.toArray.size).all λi=>(bs[i]?).getD true)=bs.all id:=by
   rw [ze,hits,z12];exact PyProof.Rows.LSm.range_all bs
  rw [e]
  refine⟨.bl (bs.all id),H,I.kept λb o eo=>hk b o (λhm=>?_) (zc _ eo),rfl,q⟩
  rw [z22.mp hm] at eo
  exact z32 _ (z14 eo)
theorem tQ:∀{ys:List Str} {us:List Value},au (ys.map V.str) us->StrsAre us ys
 | [],_,r=>by rw [List.map_nil] at r;cases r;exact .nil
 | y::ys,_,r=>by
  rw [z18] at r
  cases r with
  | cons r1 r2 =>
   obtain⟨t,rfl⟩:=r1
   exact .cons y t (tQ r2)
abbrev ng(K:W.Frag):V->List V->Hp->VK->Prop:=λx vs H Q=>∃(z:Str) (p:Addr) (ys:List Str),x=.str z/\vs=[.ref p]/\bw K H p (ys.map V.str)/\(ys.map (·.length)).sum+ys.length*z.length≤16777216/\Q (.str (Txt.join z ys)) H
def CY:sT X "str.join" (ng X.K):=by
 intro pins s σ H x xs v us Q I rx r h
 obtain⟨z,p,ys,rfl,rfl,hq,hz,q⟩:=h
 obtain⟨t,rfl⟩:=rx
 obtain⟨u,rfl,ru⟩:=cc r
 cases ru
 obtain⟨its,rv,pl,_⟩:=I.list hq
 exact join_list pl.isList (tQ (by simpa using rv)) hz λt' k=>⟨.str (Txt.join z ys),H,I.tok _,⟨_,rfl⟩,q⟩
end
end
end L2
namespace L2
open PySem PySem.Spec PyProof.Rows Builtin.Str
section
section
abbrev tR:V->Option Int->Option Int->Hp->VK->Prop:=λx lo hi H Q=>∃z,x=.str z/\z.length≤sizeLine/\Q (.str (Txt.slice z lo hi)) H
def CZ:kT X tR:=by
 intro pins s σ H x v vl vu lo hi sl Q I rx hs pl pu h
 obtain⟨z,rfl,hz,q⟩:=h
 obtain⟨t,rfl⟩:=rx
 refine⟨"str",_,PySem.F.slot_str_getitem.lookup,typeIs_str _ _ _,?_⟩
 cases pl with
 | none =>
  cases pu with
  | none=>exact wpAny_getItem_str_slice (l:=none) (u:=none) (st:=none) hs rfl (post_val_or_str ⟨z1a (Txt.slice_le z _ _) hz,λt' k=>⟨.str (Txt.slice z none none),H,I.tok _,⟨_,rfl⟩,q⟩⟩)
  | int j uj=>exact wpAny_getItem_str_slice (l:=none) (u:=some (j,uj)) (st:=none) hs rfl (post_val_or_str ⟨z1a (Txt.slice_le z _ _) hz,λt' k=>⟨.str (Txt.slice z none (some j)),H,I.tok _,⟨_,rfl⟩,q⟩⟩)
 | int i ui =>
  cases pu with
  | none=>exact wpAny_getItem_str_slice (l:=some (i,ui)) (u:=none) (st:=none) hs rfl (post_val_or_str ⟨z1a (Txt.slice_le z _ _) hz,λt' k=>⟨.str (Txt.slice z (some i) none),H,I.tok _,⟨_,rfl⟩,q⟩⟩)
  | int j uj=>exact wpAny_getItem_str_slice (l:=some (i,ui)) (u:=some (j,uj)) (st:=none) hs rfl (post_val_or_str ⟨z1a (Txt.slice_le z _ _) hz,λt' k=>⟨.str (Txt.slice z (some i) (some j)),H,I.tok _,⟨_,rfl⟩,q⟩⟩)
def C5:bU X (binaryOp .Mult) (λx y H Q=>∃z n,x=.str z/\y=.int n/\MulOk z n/\Q (.str (Txt.mul z n)) H):=by
 intro pins s σ H x y v u Q I rx ry h
 obtain⟨z,n,rfl,rfl,hm,q⟩:=h
 obtain⟨t,rfl⟩:=rx
 obtain⟨t',rfl⟩:=ry
 exact SB.mul hm λt' k=>⟨.str (Txt.mul z n),H,I.tok _,⟨_,rfl⟩,q⟩
def yaa:y6 X (.builtin "isinstance") (λxs H Q=>∃x t n b,xs=[x,.ty n]/\y55 X.K H x t/\W.kitOne X.K t (.type n)=some b/\Q (.bl b) H):=by
 intro pins s σ H xs us Q I r h
 obtain⟨x,t,n,b,rfl,ty,hk,q⟩:=h
 obtain⟨u,w',rfl,ru,rw'⟩:=jr r
 cases (show w'=Value.type n from rw')
 exact BU I ru ty hk λtk=>⟨.bl b,H,I.tok _,rfl,q⟩
abbrev oj:List V->List V->Bool
 | [],[]=>true
 | x::xs,y::ys=>gX x y&&oj xs ys
 | _,_=>false
def C6(n:Nat)(f:Nat->Bool):(List.range (n+1)).all f=(f 0&&(List.range n).all λj=>f (j+1)):=by
 rw [List.range_succ_eq_map,List.all_cons,List.all_map];rfl
abbrev Kv(K:W.Frag)(neg:Bool):R2:=λx y H Q=>∃a b xs ys,x=.ref a/\y=.ref b/\bw K H a xs/\bw K H b ys/\xs.all bo=true/\ys.all bo=true/\Q (.bl (if neg then !oj xs ys else oj xs ys)) H
end
abbrev bP(P:Program)(w:World)(K:W.Frag)(mg:Str->Option Value)(base:Heap)(x:Str)(k:Nat)(ps:List Str)(sp:Sp):Prop :=
 ∃(f:Addr) (fd:FuncData),mg x=some (.ref f)/\W.keepIn K (.ref f)=true/\cQ K fd ps []/\y3f P w K mg base bH k f fd ps sp
def C7    (h:bP X.prog X.w X.K X.mg X.base x k ps sp)(hr:y4e k X.A)(hg:Gl X x)(ha:PA X (e::es) t)
  (hdb:(x == ("__debug__" : Str))=false:=by decide) (he:‹fN X e es›) (hpl:‹eY X pos es›) :
  PE X (.Call (.Name x p) (e::es) [] pos) (eX sp [] E0 t):=by
 obtain⟨f,fd,hm,hk,hb,G⟩:=h
 exact nZ G hr hg hm hk hb .nil tK ha hdb he hpl
end
end L2
namespace L2
open PySem PySem.Spec PyProof.Rows
section
abbrev c9(n:Nat)(ix:List Nat)(σ:St):St:=List.replicate n none++ix.map λi=>(σ[i]?).getD none
structure ya(X:Cx)(scope:Scope)(xs ys:List Str)(ix:List Nat):Prop where
 kind:scope.kind=.function
 hx:∀x∈xs,scope.names.lookup x=some .local
 y28d:∀p∈scope.names,p.2≠.cell
 names:∀p∈scope.names,p.2=.local->scope.names.lookup p.1=some .local
 fr:∀p∈scope.names,p.2=.free->X.env.kindOf p.1=some .cell∨X.env.kindOf p.1=some .free
 len:ys.length=ix.length
 here:∀(j:Nat) (y:Str) (i:Nat),ys[j]?=some y->ix[j]?=some i->scope.names.lookup y=some .free/\X.N[i]?=some y
 nd:(xs++ys).Nodup
abbrev C8(osc:Scope)(N:List Str)(scope:Scope)(xs ys:List Str)(ix:List Nat):Bool :=
 decide (scope.kind=.function)&&xs.all (λx=>decide (scope.names.lookup x=some .local))&&scope.names.all (λp=>decide (p.2≠.cell)) &&
 scope.names.all (λp=>decide (p.2=.local->scope.names.lookup p.1=some .local)) &&
 scope.names.all (λp=>decide (p.2=.free->osc.names.lookup p.1=some .cell∨osc.names.lookup p.1=some .free)) &&
 decide (ys.length=ix.length)&&(ys.zip ix).all (λp=>decide (scope.names.lookup p.1=some .free/\N[p.2]?=some p.1))&&decide ((xs++ys).Nodup)
def yca  (hsc:X.env.scope=osc)(hN:X.N=N)(h:C8 osc N scope xs ys ix=true):ya X scope xs ys ix:=by
 unfold C8 at h
 simp only [z1b,z33,decide_eq_true_eq] at h
 obtain⟨⟨⟨⟨⟨⟨⟨h1,h2⟩,h3⟩,h4⟩,h5⟩,h6⟩,h7⟩,h8⟩:=h
 refine⟨h1,h2,h3,h4,λp hp hf=>?_,h6,λj y i e1 e2=>?_,h8⟩
 ·have:=h5 p hp hf
  unfold Env.kindOf
  rw [hsc]
  exact this
 ·rw [hN]
  refine h7 (y,i) ?_
  have:(ys.zip ix)[j]?=some (y,i):=by rw [List.getElem?_zip_eq_some];exact⟨e1,e2⟩
  exact z34 this
abbrev y46(n:Nat)(ix:List Nat)(σ σ':St):Prop:=σ'.length=n+ix.length/\∀(j:Nat) v,(c9 n ix σ)[j]?=some (some v)->σ'[j]?=some (some v)
def tT(n:Nat)(ix:List Nat)(σ:St):(c9 n ix σ).length=n+ix.length:=by
 unfold c9
 rw [zd,List.length_replicate,z12]
def C9  (h:j<n)(v:V):(c9 n ix σ)[j]?≠some (some v):=by
 unfold c9
 rw [z25 (by rw [List.length_replicate];exact h),List.getElem?_replicate,if_pos h]
 intro e
 have:(none:Option V)=some v:=z20 e
 cases this
def ycd  (O:ya X scope xs ys ix)
  (I:Inv X pins σ H s) (hf:∀b∈fp,iF X pins H b) (hfl:∀b∈fp,b<s.heap.objs.size) (m:Str->Option Value)
  (hns:h'.Ns s.heap.objs.size m) (hk:∀b o,s.heap.get? b=some o->h'.get? b=some o) :
  Inv (dO X scope (xs++ys) ⟨fp,s,H,s.heap.objs.size,pins⟩) [] (c9 xs.length ix σ) H { s with heap:=h',toks:=t' }:=by
 have hC:H s.heap.objs.size=none:=I.hok.fresh (z10 _)
 have cl:∀y c,(oi scope.names X.env).lookup y=some c->X.env.cells.lookup y=some c:=λy c e=>by
  rcases (lh).mp (fS e) with z|⟨z,rfl⟩
  ·simp at z
  ·obtain⟨c',e'⟩:=I.ok.has y (O.fr _ z rfl)
   rw [e'];rfl
 have clh:∀y,(y,NameKind.free)∈scope.names->∃c,(oi scope.names X.env).lookup y=some c:=λy z=>tL ((lh).mpr (.inr ⟨z,rfl⟩))
 refine⟨⟨I.ok.mod,O.kind,I.ok.glob,I.ok.blt,z10 _,λy z c h1 h2=>I.ok.inj y z c (cl y c h1) (cl z c h2),λy hy=>?_,λy c h _=>?_,I.ok.hd,I.ok.frames,.inl rfl,
  λb hb=>⟨z27 (hfl b hb),λy c e=>(hf b hb).2.2.2.2.1 y c (cl y c e)⟩,I.bs,z1a I.ok.bsz I.sz,λb o e hb=>?_,λb hb hb2=>?_,I.stack,I.y45e⟩,
  rfl,I.bare,Un.kept hk,⟨m,hns,λi y v e1 e2 vis=>?_⟩,λy c e=>?_,hC,λy c e=>I.y16c y c (cl y c e),λp hp=>?_,I.hok.kept hk,?_⟩
 ·rcases hy with h|h
  ·rcases lq h with q|⟨q,_⟩
   ·exact absurd rfl (O.y28d _ (fS q))
   ·exact clh y (fS q)
  ·rcases lq h with q|⟨q,e⟩
   ·exact clh y (fS q)
   ·cases e
 ·exact Bool.noConfusion (show false=true from h)
 ·rcases (hf b hb).2.2.2.1 with z|z
  ·exact I.ok.y28f b o e z
  ·exact absurd (z1c (z1c (z14 e) I.ok.bsz) z) (z32 _)
 ·exact (z1f.mp (I.y45f b hb2)).elim (λe=>(hf b hb).2.1 e) λz=>(hf b hb).2.2.1 z
 ·have hil:xs.length≤i:=Nat.le_of_not_lt λq=>C9 q v e2
  obtain⟨j,rfl⟩:=Nat.exists_eq_add_of_le hil
  have ey:ys[j]?=some y:=by
   have e1':(xs++ys)[xs.length+j]?=some y:=e1
   rw [z23 (Nat.le_add_right _ _),Nat.add_sub_cancel_left] at e1'
   exact e1'
  have e2':(ix.map λi=>(σ[i]?).getD none)[j]?=some (some v):=by
   have e2'':(c9 xs.length ix σ)[xs.length+j]?=some (some v):=e2
   unfold c9 at e2''
   rw [z23 (by rw [List.length_replicate];exact Nat.le_add_right _ _),List.length_replicate,Nat.add_sub_cancel_left] at e2''
   exact e2''
  rw [List.getElem?_map] at e2'
  cases hi:ix[j]? with
  | none=>rw [hi] at e2';cases e2'
  | some i =>
   rw [hi] at e2'
   have e3:(σ[i]?).getD none=some v:=z20 e2'
   obtain⟨y1b3,hN⟩:=O.here j y i ey hi
   have ev:σ[i]?=some (some v):=by
    cases h:σ[i]? with
    | none=>rw [h] at e3;cases e3
    | some q=>rw [h] at e3;exact congrArg some e3
   obtain⟨m',_,hl⟩:=I.loc
   have hkx:=O.fr (y,.free) (fS y1b3) rfl
   obtain⟨u,r,l⟩:=hl i y v hN ev (hkx.elim (λz=>.inr (.inl z)) λz=>.inr (.inr z))
   refine⟨u,r,.inr ⟨tM y1b3,?_⟩⟩
   obtain⟨c,ec⟩:=clh y (fS y1b3)
   rcases l with⟨k,_⟩| ⟨_,c',ec',z⟩
   ·rcases hkx with q|q
    ·rw [q] at k;cases k
    ·rw [q] at k;cases k
   ·have:c=c':=z20 ((cl y c ec).symm.trans ec')
    subst this
    exact⟨c,ec,z.keeps hk⟩
 ·obtain⟨v,z⟩:=I.cell y c (cl y c e)
  exact⟨v,z.keeps hk⟩
 ·have hp':p∈(X.pn++pins)++([]:List (Addr×Obj)):=hp
  rw [z11] at hp'
  obtain⟨e,n,ne,nf,d⟩:=I.pin p hp'
  exact⟨hk _ _ e,n,z27 (z14 e),λz=>(z1f.mp (I.y45f _ z)).elim ne nf,d⟩
 ·show (c9 xs.length ix σ).length=(xs++ys).length
  rw [tT,zd,O.len]
abbrev yc(n:Nat)(ix:List Nat)(J:It)(g:y9->TG)(tt:y9->TT)(te:y9->TE)(σ:St)(Q:VK)(H1:Hp):Prop :=
 ∀D,H1 D=none->∃W:Nat->Nat->List V->Hp->Prop,(∃m,W 0 m [] (aH H1 D (.lst [])))/\∀i m ys H2,W i m ys H2->H2 D=some (.lst ys) /\
  ((J.stop i H2/\Q (.ref D) H2)∨(J.go i H2/\ys.length<sizeLine/\∃N:List V->Hp->Prop,(∀ys' H',N ys' H'->∃m',m'<m/\W (i+1) m' ys' H') /\
   ∀x H3,J.yld i H2 x H3->∀z,g z x (c9 n ix σ) H3 λσ' H3'=>y46 n ix σ σ'/\tt z σ' H3' λb H4 =>
    if b=true then te z σ' H4 λy H5=>H5 D=some (.lst ys)/\N (ys++[y]) (aH H5 D (.lst (ys++[y]))) else N ys H4))
def ycb  (O:ya X scope xs ys ix)(hc:X.calm=true)  {g:y9->TG}{tt:y9->TT}{te:y9->TE}
  (hg:∀z,PG (dO X scope (xs++ys) z) tg (g z)) (hi:∀z,nc (dO X scope (xs++ys) z) ifs (tt z)) (he:∀z,PE (dO X scope (xs++ys) z) elt (te z))
  {σ:St} {H:Hp}   {tn:Nat->Heap->Prop} (I2:Inv X pins σ H s2) (T:Turn X.prog X.w X.K tg J fp it tn) (st:tn 0 s2.heap)
  (hf:∀b∈fp,iF X pins H b) {Q:VK} (hw:yc xs.length ix J g tt te σ Q H) {RR:Value->Addr->Result->Shared->Prop} {E:Value->Shared->Prop}
  (hRR:∀D C m' H' s',Inv X pins σ H' s'->s'.heap.Ns C m'->iF X pins H' C->Q (.ref D) H'->RR (.ref D) C (.ok .next) s') :
  wpAny (model X.prog X.w) X.A (newList []) (λacc s₃=>wpAny (model X.prog X.w) X.A (newFunctionEnv scope X.env.globals (oi scope.names X.env) [] X.env.qual none .none (some X.env)) (λcenv s₄ =>
   codeAny (model X.prog X.w) X.A (.compStart (.ListComp elt [⟨tg,iter,ifs,0⟩] scope pos) 0 (.ref it) acc { cenv with scope:=relabel scope X.env }) (RR acc cenv.locals) s₄) E s₃) E s2:=by
 refine z2a (wpAny_newFunctionEnv O.y28d (by intro y hy;simp at hy) (λh₁ hns₁ hsb₁=>?_) O.kind)
 dsimp only at hns₁ hsb₁ ⊢
 have hDn:H s2.heap.objs.size=none:=I2.hok.fresh (z10 _)
 obtain⟨W,⟨m0,w0⟩,turn⟩:=hw s2.heap.objs.size hDn
 have flt:∀b∈fp,b<s2.heap.objs.size:=λb hb=>by
  obtain⟨o,e,_⟩:=T.obj 0 _ st b hb
  exact z14 e
 obtain⟨s3,hs3⟩:∃s3:Shared,s3={ s2 with heap:=s2.heap.push { cls:=.type "list",data:=.seq ([]:List Value).toArray } }:=⟨_,rfl⟩
 have hh3:s3.heap=s2.heap.push { cls:=.type "list",data:=.seq ([]:List Value).toArray }:=by rw [hs3]
 have I3:Inv X pins σ (aH H s2.heap.objs.size (.lst [])) s3:=by
  rw [hs3]
  exact I2.laid (λb u e=>zc _ e) (z10 _) (show c7 X.prog X.w _ _ _ (.lst []) from ⟨Nat.zero_le _,[],0,.nil,z21 _ rfl⟩)
 have hns₂:h₁.Ns s3.heap.objs.size λx=>([]:List (Str×Value)).reverse.lookup x:=by rw [hh3];exact hns₁
 have hsb₂:Heap.SameBut s3.heap.objs.size (s3.heap.push { cls:=.type (if (some X.env).isSome then "dict" else "frame"),data:=.dict #[] }) h₁:=by rw [hh3];exact hsb₁
 have hf3:∀b∈fp,iF X pins (aH H s2.heap.objs.size (.lst [])) b:=λb hb=>⟨by rw [aR (z27 (flt b hb))];exact (hf b hb).1,(hf b hb).2⟩
 have hsz:s3.heap.objs.size=s2.heap.objs.size+1:=by rw [hh3,Heap.size_push]
 have flt3:∀b∈fp,b<s3.heap.objs.size:=λb hb=>by rw [hsz];exact Nat.lt_succ_of_lt (flt b hb)
 have hk:∀b o,s3.heap.get? b=some o->h₁.get? b=some o:=λb o e=>hsb₂.extBut b o (z27 (z14 e)) (zc _ e)
 have hk2:∀b o,s2.heap.get? b=some o->h₁.get? b=some o:=λb o e=>hk b o (by rw [hh3];exact zc _ e)
 have st1:tn 0 h₁:=T.keep _ _ _ st λb hb o e=>hk2 b o e
 let z:y9:=⟨fp,s3,aH H s2.heap.objs.size (.lst []),s3.heap.objs.size,pins⟩
 have cl:∀y c,(oi scope.names X.env).lookup y=some c->X.env.cells.lookup y=some c:=λy c e=>by
  rcases (lh).mp (fS e) with q|⟨q,rfl⟩
  ·simp at q
  ·obtain⟨c',e'⟩:=I2.ok.has y (O.fr _ q rfl)
   rw [e'];rfl
 have fpy:∀{H':Hp},(∀b∈fp,H' b=none)->∀b∈fp,iF (dO X scope (xs++ys) z) [] H' b:=λhn b hb=>by
  refine⟨hn b hb,z27 (flt3 b hb),λhb2=>?_,.inl hb,λy c e=>(hf b hb).2.2.2.2.1 y c (cl y c e),λp hp=>?_⟩
  ·exact (z1f.mp (I3.y45f b hb2)).elim (λe=>(hf b hb).2.1 e) λq=>(hf b hb).2.2.1 q
  ·have hp':p∈(X.pn++pins)++([]:List (Addr×Obj)):=hp
   rw [z11] at hp'
   exact (hf b hb).2.2.2.2.2 p hp'
 have back:∀{pl:List (Addr×Obj)} {σ':St} {H':Hp} {s':Shared},Inv (dO X scope (xs++ys) z) pl σ' H' s'->Inv X pins σ H' s'/\iF X pins H' s3.heap.objs.size:=λ{pl σ' H' s'} IY=>by
  have I':Inv X pins σ H' s':=I3.ya2 IY.os IY.base IY.hok IY.bare λb hb=>⟨(hf b hb).2.2.2.1,(hf b hb).2.1,(hf b hb).2.2.2.2.1,(hf b hb).2.2.2.2.2⟩
  exact⟨I',I3.y16b (z10 _) IY.free⟩
 have loop:∀t':Nat,codeAny (model X.prog X.w) X.A (.compLoop (.ListComp elt [⟨tg,iter,ifs,0⟩] scope pos) 0 (.ref it) (.ref s2.heap.objs.size) (dO X scope (xs++ys) z).env) (RR (.ref s2.heap.objs.size) s3.heap.objs.size) { s3 with heap:=h₁,toks:=t' }:=by
  intro t'
  have IY:=ycd (t':=t') O I3 hf3 flt3 _ hns₂ hk
  refine yc4 (λn s'=>∃i vs H',Inv (dO X scope (xs++ys) z) [] (c9 xs.length ix σ) H' s'/\tn i s'.heap/\(∀b∈fp,H' b=none)/\W i n vs H') ?_ m0 ⟨0,[],_,IY,st1,λb hb=>(hf3 b hb).1,w0⟩
  rintro n s5 ⟨i,vs,H5,I5,st5,fr5,w5⟩
  obtain⟨hD,stop|go⟩:=turn i n vs H5 w5
  ·refine aO (T.done (dO X scope (xs++ys) z) rfl rfl rfl hc i [] s5 _ H5 _ I5 (fpy fr5) st5 stop.1) λr s6 zz=>?_
   obtain⟨hr,I6⟩:=zz
   subst hr
   obtain⟨m6,n6,_⟩:=I6.loc
   exact hRR _ _ m6 H5 s6 (back I6).1 n6 (back I6).2 stop.2
  ·obtain⟨hgo,hl,N,hN,step⟩:=go
   refine aO (T.item (dO X scope (xs++ys) z) rfl rfl rfl hc i [] s5 _ H5 _ I5 (fpy fr5) st5 hgo) λr s6 zz=>?_
   obtain⟨u,hr,h6⟩:=zz
   subst hr
   refine aO h6 λ_ s7 zz=>?_
   obtain⟨xv,H7,I7,r7,y7,st7,fr7⟩:=zz
   have I7':=I7.pinned (fpy fr7) (T.obj _ _ st7)
   have q7:=step xv H7 y7 z
   refine aO (hg z _ s7 _ H7 xv u _ I7' r7 q7) λ_ s8 q8=>?_
   obtain⟨σ8,H8,I8,k8,q8⟩:=q8
   have wk:∀{H':Hp} {s':Shared},Inv (dO X scope (xs++ys) z) ([]++jq fp s7.heap) σ8 H' s'->Inv (dO X scope (xs++ys) z) [] (c9 xs.length ix σ) H' s'/\tn (i+1) s'.heap/\∀b∈fp,H' b=none:=λ{H' s'} IW=>by
    refine⟨(IW.y4c8).weak (by rw [tT];exact k8.1.symm) k8.2,T.keep _ _ _ st7 λb hb o e=>(IW.pin (b,o) (z24 _ (z24 _ (kM hb e)))).1,λb hb=>?_⟩
    obtain⟨o,e,d⟩:=T.obj _ _ st7 b hb
    exact (IW.pin (b,o) (z24 _ (z24 _ (kM hb e)))).2.1
   refine aO (hi z _ s8 _ H8 _ I8 q8) λok s9 zz=>?_
   obtain⟨H9,I9,q9⟩:=zz
   cases ok with
   | false =>
    rw [if_neg z13] at q9
    rw [if_neg z13]
    obtain⟨m',hm,w9⟩:=hN _ _ q9
    exact⟨m',hm,i+1,vs,H9,(wk I9).1,(wk I9).2.1,(wk I9).2.2,w9⟩
   | true =>
    rw [if_pos rfl] at q9
    rw [if_pos rfl]
    refine aO (he z _ s9 _ H9 _ I9 q9) λyv s10 zz=>?_
    obtain⟨y,H10,I10,r10,hD10,n10⟩:=zz
    obtain⟨m',hm,w10⟩:=hN _ _ n10
    have ap:=tG _ s10 _ H10 (.ref s2.heap.objs.size) [y] (.ref s2.heap.objs.size) [yv] (λv H'=>H'=aH H10 s2.heap.objs.size (.lst (vs++[y]))) I10 rfl (.cons r10 .nil) ⟨s2.heap.objs.size,vs,y,rfl,rfl,hD10,hl,rfl⟩
    refine aO ap λ_ s11 zz=>?_
    obtain⟨_,H11,I11,_,e11⟩:=zz
    subst e11
    exact⟨m',hm,i+1,vs++[y],_,(wk I11).1,(wk I11).2.1,(wk I11).2.2,w10⟩
 subst hs3
 exact codeAny_compStart_list (loop _) (T.self X.A 0 _ _ _ st1 (loop _))
abbrev om(n:Nat)(ix:List Nat)(wi:TI)(g:y9->TG)(tt:y9->TT)(te:y9->TE):TE:=λσ H Q=>wi σ H λJ H1=>yc n ix J g tt te σ Q H1
section
variable {X:Cx}{scope:Scope}{xs ys:List Str}{ix:List Nat}{elt iter tg:Expr}{ifs:List Expr}{pos:Pos}{wi:TI}{g:y9->TG}{tt:y9->TT}{te:y9->TE}
def Dc(O:ya X scope xs ys ix)(hc:X.calm=true)(hit:PI X tg iter wi)(hg:∀z,PG (dO X scope (xs++ys) z) tg (g z))
  (hi:∀z,nc (dO X scope (xs++ys) z) ifs (tt z)) (he:∀z,PE (dO X scope (xs++ys) z) elt (te z)) (hs:∀v,foldedSetIterable iter X.env v=pure v:=by intro _;rfl) :
  PE X (.ListComp elt [⟨tg,iter,ifs,0⟩] scope pos) (om xs.length ix wi g tt te):=by
 intro pins s σ H Q I h
 rw [eval_ListComp]
 refine wpAny_comprehension_free rfl hs (ybf λp hp hf=>I.ok.has p.1 (O.fr p hp hf)) O.kind O.names (aO (hit pins s σ H _ I h) λv s1 h1=>aO h1 λitv s2 h2=>?_)
 obtain⟨it,fp,tn,J,H2,e,I2,T,st2,f2,hw⟩:=h2
 subst e
 refine ycb O hc hg hi he I2 T st2 f2 hw ?_
 intro D C m' H' s' I' n' fC q
 exact⟨m',n',λh' hs'=>⟨.ref D,H',yd0 I' fC hs',rfl,q⟩⟩
def tU  (O:ya X scope xs ys ix)(hi:xs[i]?=some x):PG (dO X scope (xs++ys) z) (.Name x p) (gQ i):=by
 have hm:x∈xs:=z34 hi
 have hl:i<xs.length:=(z19.mp hi).1
 exact jo O.nd (by show (xs++ys)[i]?=some x;rw [z25 hl];exact hi) (.inl (lookup_relabel_local (O.hx x hm))) (.inr (lookup_relabel_local (O.hx x hm)))
end
end
end L2
namespace PySem
open Sem
end PySem
namespace HT
open PySem PySem.Spec PyProof.Rows
section
variable {prog:Program}{w:World}{A:Around}{E:Value->Shared->Prop}{s:Shared}
def y63(n:Nat):Builtin.Slice.sliceAdjust none none (-1) (n:Int)=((n:Int)-1,-1):=rfl
def Dd(n:Nat):Builtin.Slice.slicePlaces ((n:Int)-1) (-1) (-1)=n:=by
 unfold Builtin.Slice.slicePlaces
 rw [if_neg (by decide)]
 by_cases h:n=0
 ·subst h;decide
 ·rw [if_pos (by lia)]
  have:((n:Int)-1 - -1-1) / (- -1)=(n:Int)-1:=by
   have e:(- -1:Int)=1:=by decide
   rw [e,Int.ediv_one];lia
  rw [this];lia
def Df{sl:Addr}{n:Nat}{t:Tok}{Q:Int×Int×Nat->Shared->Prop}(hs:s.heap.IsSliceOf sl .none .none (.int (-1) t))
  (h:Q ((n:Int)-1,-1,n) s):wpAny (model prog w) A (Builtin.Slice.sliceApplied (.ref sl) (pure (n:Int))) Q E s:=by
 obtain⟨os,hos,hcs,hds⟩:=id hs
 unfold Builtin.Slice.sliceApplied Builtin.Slice.sliceFields
 refine za (za (wpAny_field hos hds rfl (za (wpAny_field hos hds rfl (za (wpAny_field hos hds rfl (zf ?_)))))))
 refine za (slicePart_int ?_)
 show wpAny _ _ (if ((-1:Int) == 0)=true then _ else _) _ _ s
 rw [if_neg (by decide)]
 refine za (slicePart_none (za (slicePart_none (za (zf ?_)))))
 show wpAny _ _ (match Builtin.Slice.sliceAdjust none none (-1) (n:Int) with|(lo,hi)=>pure (lo,(-1:Int),Builtin.Slice.slicePlaces lo hi (-1))) _ _ s
 rw [y63 n]
 show wpAny _ _ (pure ((n:Int)-1,(-1:Int),Builtin.Slice.slicePlaces ((n:Int)-1) (-1) (-1))) _ _ s
 rw [Dd]
 exact zf h
theorem tV{α β:Type}{f g:α->Option β}:∀{l:List α},(∀a∈l,f a=g a)->l.filterMap f=l.filterMap g
 | [],_=>rfl
 | a::r,h=>by
  rw [List.filterMap_cons,List.filterMap_cons,h a List.mem_cons_self,tV λb hb=>h b (z1d _ hb)]
def oq(xs:Array Value):((List.range xs.size).filterMap λ(m:Nat)=>xs[((xs.size:Int)-1+(m:Int) * -1).toNat]?).toArray=xs.toList.reverse.toArray:=by
 congr 1
 have e:∀m∈List.range xs.size,xs[((xs.size:Int)-1+(m:Int) * -1).toNat]?=xs.toList.reverse[m]?:=by
  intro m hm
  have hm':=List.mem_range.mp hm
  have:((xs.size:Int)-1+(m:Int) * -1).toNat=xs.size-1-m:=by lia
  rw [this,List.getElem?_reverse (by rw [Array.length_toList];exact hm'),Array.length_toList,Array.getElem?_toList]
 rw [tV e]
 have hl:xs.size=xs.toList.reverse.length:=by rw [z2c,Array.length_toList]
 rw [hl]
 generalize xs.toList.reverse=zs
 induction zs with
 | nil=>rfl
 | cons z r ih =>
  rw [z15,List.range_succ_eq_map,List.filterMap_cons]
  show z::_=_
  rw [List.filterMap_map]
  show z::List.filterMap (λm=>(z::r)[m+1]?) (List.range r.length)=_
  have:(λm=>(z::r)[m+1]?)=λm=>r[m]?:=by funext m;rfl
  rw [this,ih]
def y176  (ht:IsTup s.heap t items)(hs:s.heap.IsSliceOf sl .none .none (.int (-1) tk))
  (h:Q (.ref s.heap.objs.size) { s with heap:=s.heap.push { cls:=.type "tuple",data:=.seq items.toList.reverse.toArray } })
  (hsz:items.size≤sizeLine):wpAny (model prog w) A (getItem (.ref t) (.ref sl)) Q E s:=by
 have y1bd:sizeOk (.seq items.toList.reverse.toArray):=by
  show items.toList.reverse.toArray.size≤sizeLine
  rw [ze,z2c,Array.length_toList]
  exact hsz
 obtain⟨os,hos,hcs,hds⟩:=id hs
 have hTs:s.TypeIs (.ref sl) "slice":=⟨os,hos,hcs⟩
 unfold getItem
 try with_reducible refine wpAny_holding ?_
 first|refine za (zf ?_)|skip
 refine za (wpAny_sequenceKey ht.typeIs (by decide) ?_)
 refine za (wpAny_callSpecial?_slot ht.typeIs PyProof.Rows.slot_tuple_getitem
  (wpAny_call_entry PyProof.Rows.slot_tuple_getitem ht.typeIs entry_tuple_getitem ?_ (args_tuple_getitem _ _)))
 show wpAny _ _ (Builtin.Tuple.tupleItemsOf (.ref t) >>= _) _ _ s
 refine za (tupleItemsOf_ ht ?_)
 refine za (wpAny_typeOf hTs ?_)
 rw [if_pos (by decide)]
 refine za (Df hs ?_)
 have hno:¬ ((((items.size:Int)-1) == 0&&(-1:Int) == 1&&items.size == items.size)=true):=by
  intro q
  rw [z1b,z1b] at q
  exact absurd q.1.2 (by decide)
 show wpAny _ _ (if (((items.size:Int)-1) == 0&&(-1:Int) == 1&&items.size == items.size)=true then _ else _) _ _ s
 rw [if_neg hno,oq]
 first
  | exact za (z2a (zf ⟨_,rfl,zf h⟩) y1bd)
  | exact za (z2a (za (zf (zf ⟨_,rfl,zf h⟩))) y1bd)
  | exact za (za (z2a (zf (zf ⟨_,rfl,zf h⟩)) y1bd))
  | exact za (za (z2a (zf ⟨_,rfl,zf h⟩) y1bd))
end
end HT
namespace L2
open PySem PySem.Spec PyProof.Rows
section
section
variable {X:Cx}{e st:Expr}{te:TE}{p2 pos:Pos}
abbrev tW(K:W.Frag)(te:TE):TE:=λσ H Q=>te σ H λx H1=>∃a xs,x=.ref a/\bb K H1 a xs/\∀p,H1 p=none->Q (.ref p) (aH H1 p (.tup xs.reverse))
def Dg{ts:TE}(he:PE X e te)(hst:PE X st ts)(hv:∀σ H Q,Q (.int (-1)) H->ts σ H Q):PE X (.Subscript e (.Slice none none (some st) p2) pos) (tW X.K te):=by
 intro pins s σ H Q I h
 refine Subscript_ (aO (he pins s σ H _ I h) λv s1 zz=>?_)
 obtain⟨x,H1,I1,r1,q1⟩:=zz
 obtain⟨a,xs,rfl,hq,q⟩:=q1
 cases r1
 refine wpAny_Slice ?_
 rw [evalPart_none]
 refine zf (zf ?_)
 rw [evalPart_some]
 refine aO (hst pins s1 σ H1 (λv H'=>v=.int (-1)/\H'=H1) I1 (hv _ _ _ ⟨rfl,rfl⟩)) λvs s2 zz=>?_
 obtain⟨y,H2,I2,r2,e2,e3⟩:=zz
 subst e2 e3
 obtain⟨tk,rfl⟩:=r2
 have I4:Inv X pins σ _ { s2 with heap:=s2.heap.push { cls:=.type "slice",data:=.fields #[.none,.none,.int (-1) tk] } }:=I2.kept λb ob q=>zc _ q
 obtain⟨its,r,ht,hz⟩:=I4.tuple hq
 have hlen:its.toArray.size=xs.length:=by rw [ze];exact r.length.symm
 show wpAny (model X.prog X.w) X.A (subscriptTail e (.Slice none none (some st) p2) (.ref a) (.ref s2.heap.objs.size)) (EP X pins σ Q) X.xe { s2 with heap:=s2.heap.push { cls:=.type "slice",data:=.fields #[.none,.none,.int (-1) tk] } }
 refine tail_any ht.typeIs PyProof.Rows.slot_tuple_getitem.lookup ?_ (by with_unfolding_all rfl)
 refine HT.y176 ht (Heap.IsSliceOf.new ..) ?_ (by rw [hlen];exact hz)
 refine⟨.ref _,_,I4.laid (λb ob q=>zc _ q) (z10 _) ?_,rfl,q _ (I4.hok.fresh (z10 _))⟩
 exact⟨by rw [z2c];exact hz,_,r.reverse,kF.mk' _ _⟩
end
end
section
end
end L2
namespace My
inductive F2{α β:Type}(R:α->β->Prop):List α->List β->Prop
 | nil:F2 R [] []
 | cons {a:α} {b:β} {as:List α} {bs:List β}:R a b->F2 R as bs->F2 R (a::as) (b::bs)
end My
namespace L2
open PySem PySem.Spec PyProof.Rows
section
section
end
end
end L2
namespace HT
open PySem PySem.Spec PyProof.Rows
section
def y177{t sl:Addr}{items:Array Value}{vl vu:Value}{lo hi:Option Int}{Q:Value->Shared->Prop}(ht:IsTup s.heap t items)(hs:s.heap.IsSliceOf sl vl vu .none)(pl:IsPart vl lo)(pu:IsPart vu hi)
  (hw:sIx items.size 0 lo=0/\sIx items.size items.size hi=items.size) (h:Q (.ref t) s):wpAny (model prog w) A (getItem (.ref t) (.ref sl)) Q E s:=by
 obtain⟨os,hos,hcs,hds⟩:=id hs
 have hTs:s.TypeIs (.ref sl) "slice":=⟨os,hos,hcs⟩
 unfold getItem
 try with_reducible refine wpAny_holding ?_
 first|refine za (zf ?_)|skip
 refine za (wpAny_sequenceKey ht.typeIs (by decide) ?_)
 refine za (wpAny_callSpecial?_slot ht.typeIs PyProof.Rows.slot_tuple_getitem
  (wpAny_call_entry PyProof.Rows.slot_tuple_getitem ht.typeIs entry_tuple_getitem ?_ (args_tuple_getitem _ _)))
 show wpAny _ _ (Builtin.Tuple.tupleItemsOf (.ref t) >>= _) _ _ s
 refine za (tupleItemsOf_ ht ?_)
 refine za (wpAny_typeOf hTs ?_)
 rw [if_pos (by decide)]
 refine za (sO hs pl pu ?_)
 have hyes:(((sIx items.size 0 lo:Nat):Int) == 0&&(1:Int) == 1&&(sIx items.size items.size hi-sIx items.size 0 lo) == items.size)=true:=by
  rw [hw.1,hw.2];simp
 show wpAny _ _ (if (((sIx items.size 0 lo:Nat):Int) == 0&&(1:Int) == 1&&(sIx items.size items.size hi-sIx items.size 0 lo) == items.size)=true then _ else _) _ _ s
 rw [if_pos hyes]
 unfold Builtin.Tuple.tupleIsExact
 refine za (za (wpAny_typeOf ht.typeIs (zf ?_)))
 rw [if_pos (by decide)]
 refine za (wpAny_rule ?_)
 exact zf ⟨_,rfl,zf h⟩
end
end HT
namespace L2
open PySem PySem.Spec PyProof.Rows
section
section
abbrev tX:V->Option Int->Option Int->Hp->VK->Prop:=λx lo hi H Q=>∃a xs,x=.ref a/\H a=some (.tup xs)/\∀(b:Addr) (H':Hp),H' b=some (.tup (jx xs lo hi))->(∀c o,H c=some o->H' c=some o)->Q (.ref b) H'
def Dh:kT X tX:=by
 intro pins s σ H x v vl vu lo hi sl Q I rx hs pl pu h
 obtain⟨a,xs,rfl,hx,q⟩:=h
 by_cases hw:HT.sIx xs.length 0 lo=0/\HT.sIx xs.length xs.length hi=xs.length
 ·cases rx
  obtain⟨its,r,ht,hz⟩:=I.tuple (bb.of hx)
  have hlen:its.toArray.size=xs.length:=by rw [ze];exact r.length.symm
  refine⟨"tuple",_,PyProof.Rows.slot_tuple_getitem.lookup,ht.typeIs,?_⟩
  refine HT.y177 ht hs pl pu (by rw [hlen];exact hw) ⟨.ref a,H,I,rfl,q a H ?_ λ_ _ e=>e⟩
  have e:jx xs lo hi=xs:=by
   unfold jx
   rw [hw.1,hw.2];simp
  rw [e];exact hx
 ·exact Ck pins s σ H (.ref a) v vl vu lo hi sl Q I rx hs pl pu ⟨a,xs,rfl,bb.of hx,hw,λp hp=>q p _ bg λc o e=>by rw [aR (gO e hp)];exact e⟩
end
end
section
section
end
section
end
end
section
abbrev fT(xs:List V)(lo hi st:Option Int):List V:=(sliceRange (sliceBounds lo hi st xs.length).1 (sliceBounds lo hi st xs.length).2.1 (sliceBounds lo hi st xs.length).2.2).filterMap (xs[·]?)
def au.y292{xs:List V}{us:List Value}(h:au xs us){j:Nat}(e:xs[j]?=none):us[j]?=none:=by
 rw [List.getElem?_eq_none_iff] at e ⊢
 rw [<- h.length];exact e
def au.some_of{xs:List V}{us:List Value}(h:au xs us):∀js:List Nat,au (js.filterMap (xs[·]?)) (js.filterMap (us[·]?)):=by
 intro js
 induction js with
 | nil=>exact .nil
 | cons j js ih =>
  cases e:xs[j]? with
  | none=>simp only [List.filterMap_cons,e,h.y292 e];exact ih
  | some x =>
   obtain⟨u,eu,r⟩:=h.get e
   simp only [List.filterMap_cons,e,eu]
   exact .cons r ih
section
variable {X:Cx}{e st:Expr}{te ts:TE}{lo hi:Option Expr}{tl th:TO}{p2 pos:Pos}
abbrev tY(K:W.Frag)(te:TE)(tl th tk:TO):TE:=λσ H Q=>te σ H λx H1=>tl σ H1 λl H2=>th σ H2 λu H3=>tk σ H3 λc H4 =>
 ∃a xs,x=.ref a/\bw K H4 a xs/\c≠some 0/\∀p,H4 p=none->Q (.ref p) (aH H4 p (.lst (fT xs l u c)))
def Di(he:PE X e te)(hl:PO X lo tl)(hu:PO X hi th)(hst:PE X st ts):PE X (.Subscript e (.Slice lo hi (some st) p2) pos) (tY X.K te tl th (sP ts)):=by
 intro pins s σ H Q I h
 refine Subscript_ (aO (he pins s σ H _ I h) λv s1 zz=>?_)
 obtain⟨x,H1,I1,r1,q1⟩:=zz
 refine wpAny_Slice (aO (hl pins s1 σ H1 _ I1 q1) λvl s2 ⟨l,H2,I2,pl,q2⟩=>aO (hu pins s2 σ H2 _ I2 q2) λvu s3 ⟨u,H3,I3,pu,q3⟩=>aO (sQ hst pins s3 σ H3 _ I3 q3) λvs s4 zz=>?_)
 obtain⟨c,H4,I4,ps,q4⟩:=zz
 obtain⟨a,xs,rfl,hq,hc0,q⟩:=q4
 cases r1
 have I5:Inv X pins σ H4 { s4 with heap:=s4.heap.push { cls:=.type "slice",data:=.fields #[vl,vu,vs] } }:=I4.kept λb ob q=>zc _ q
 obtain⟨its,r,pls,hz⟩:=I5.list hq
 show wpAny (model X.prog X.w) X.A (subscriptTail e (.Slice lo hi (some st) p2) (.ref a) (.ref s4.heap.objs.size)) (EP X pins σ Q) X.xe { s4 with heap:=s4.heap.push { cls:=.type "slice",data:=.fields #[vl,vu,vs] } }
 refine tail_any pls.isList.typeIs list_getitem_lookup ?_ (by with_unfolding_all rfl)
 have hn:=r.length
 refine wpAny_getItem_list_slice pls.isList (Heap.IsSliceOf.new ..) pl pu ps hc0 ?_ (by rw [ze,<- hn];exact hz)
 have le:=slicePick_size_le its.toArray l u c
 have ep:slicePick its.toArray l u c=((sliceRange (sliceBounds l u c xs.length).1 (sliceBounds l u c xs.length).2.1 (sliceBounds l u c xs.length).2.2).filterMap (its[·]?)).toArray:=by
  unfold slicePick
  rw [ze,hn]
  simp
 have rp:=au.some_of r (sliceRange (sliceBounds l u c xs.length).1 (sliceBounds l u c xs.length).2.1 (sliceBounds l u c xs.length).2.2)
 have lp:=rp.length
 rw [ep] at le ⊢
 refine⟨.ref _,_,I5.laid (λb ob q=>zc _ q) (z10 _) ?_,rfl,q _ (I5.hok.fresh (z10 _))⟩
 refine⟨?_,_,0,rp,z21 _ rfl⟩
 rw [ze,ze] at le
 show (fT xs l u c).length≤sizeLine
 unfold fT
 rw [lp]
 lia
end
section
variable {X:Cx}{tg:Expr}
end
end
end L2
namespace PySem
open Sem (wp)
open AutoSeq1 (wpAny_loadPart')
section
end
section
end
end PySem
namespace L2
open PySem PySem.Spec PyProof.Rows
section
section
end
end
section
section
variable   {elt iter tg:Expr}
abbrev Dj(n:Nat)(ix:List Nat)(i:Nat)(wi:TI)(g:y9->TG)(tt:y9->TT)(te:y9->TE):TS:=λD σ H=>om n ix wi g tt te σ H λv H1=>D.nx (σ.set i (some v)) H1
def Dk (O:ya X scope xs ys ix)(hc:X.calm=true)(hN:X.N.Nodup)(hy:X.N[i]?=some y)(hl:X.env.scope.names.lookup y=some .local)(hit:PI X tg iter wi)
  (hg:∀z,PG (dO X scope (xs++ys) z) tg (g z)) (hi:∀z,nc (dO X scope (xs++ys) z) ifs (tt z)) (he:∀z,PE (dO X scope (xs++ys) z) elt (te z))
  (hsw:‹swapsWith (.ListComp elt [⟨tg,iter,ifs,0⟩] scope pos) (some (.Name y py)) spos.line X.env=pure true›) (hs:∀v,foldedSetIterable iter X.env v=pure v:=by intro _;rfl) :
  PS X (.Assign [.Name y py] (.ListComp elt [⟨tg,iter,ifs,0⟩] scope pos) spos) (Dj xs.length ix i wi g tt te):=by
 intro pins s σ H D I h
 rw [exec_Assign_Name_used _ _ _ _ hsw]
 refine za (wpAny_standAt (za ?_))
 show wpAny _ _ (do let _ <- comprehension (.ListComp elt [⟨tg,iter,ifs,0⟩] scope pos) scope X.env _ (newList []) false (eval iter X.env) (some (assign (.Name y py) X.env))) _ _ s
 refine za (wpAny_mono (wpAny_comprehension_free rfl hs (ybf λp hp hf=>I.ok.has p.1 (O.fr p hp hf)) O.kind O.names (aO (hit pins s σ H _ I h) λv s1 h1=>aO h1 λitv s2 h2=>?_))
  (λ_ s' hq=>zf (zf hq)) λ_ _ e=>e)
 obtain⟨it,fp,tn,J,H2,e,I2,T,st2,f2,hw⟩:=h2
 subst e
 refine ycb O hc hg hi he I2 T st2 f2 hw ?_
 intro E C m' H' s' I' n' fC q
 show wpAny _ _ (assign (.Name y py) X.env (.ref E)) _ _ s'
 refine wpAny_assign_Name (rf (v:=.ref E) I' hN hy (.inl hl) rfl (λs'' I'' ⟨a,sb,ha⟩=>?_) (.inr hl))
 have hCa:C≠a:=by
  rcases ha with rfl|ha
  ·exact fC.2.1
  ·exact λz=>fC.2.2.2.2.1 _ _ ha z.symm
 exact⟨m',n'.sameBut sb hCa,λh' hs'=>⟨_,H',yd0 I'' fC hs',q⟩⟩
end
theorem tZ{α:Type}{xs:List α}{f:Nat->Nat}:∀{c:Nat},(∀k,k<c->f k<xs.length)->(((List.range c).map f).filterMap (xs[·]?)).length=c/\∀k,k<c->(((List.range c).map f).filterMap (xs[·]?))[k]?=xs[f k]?
 | 0,_=>⟨rfl,λk h=>absurd h (Nat.not_lt_zero _)⟩
 | c+1,h=>by
  obtain⟨h1,h2⟩:=tZ λk hk=>h k (Nat.lt_succ_of_lt hk)
  have hc:=h c (z37 c)
  have e:((List.range (c+1)).map f).filterMap (xs[·]?)=((List.range c).map f).filterMap (xs[·]?)++[xs[f c]]:=by
   rw [List.range_succ,z28,List.filterMap_append]
   congr 1
   simp [hc]
  rw [e]
  refine⟨by rw [zd,h1];rfl,λk hk=>?_⟩
  by_cases q:k<c
  ·rw [z25 (by rw [h1];exact q)]
   exact h2 k q
  ·have q':k=c:=by lia
   subst q'
   rw [z23 (by rw [h1];exact z10 _),h1,Nat.sub_self,z16 hc]
   rfl
def Dl(xs:List V):(fT xs none none (some (-1))).length=xs.length/\∀k,k<xs.length->(fT xs none none (some (-1)))[k]?=xs[xs.length-1-k]?:=by
 have e:fT xs none none (some (-1))=((List.range xs.length).map λk=>xs.length-1-k).filterMap (xs[·]?):=by
  unfold fT sliceRange
  have c:(if (-1:Int)>0 then (if (xs.length:Int)-1 < -1 then (-1-((xs.length:Int)-1) + -1-1) / -1 else 0) else (if (xs.length:Int)-1 > -1 then ((xs.length:Int)-1 - -1 - -1-1) / (- -1) else 0)).toNat=xs.length:=by
   rw [if_neg (by decide)]
   split
   ·rw [show (- -1:Int)=1 from rfl,Int.ediv_one];lia
   ·lia
  show ((List.range (if (-1:Int)>0 then (if (xs.length:Int)-1 < -1 then (-1-((xs.length:Int)-1) + -1-1) / -1 else 0) else (if (xs.length:Int)-1 > -1 then ((xs.length:Int)-1 - -1 - -1-1) / (- -1) else 0)).toNat).map λ(k:Nat)=>((xs.length:Int)-1 + -1*(k:Int)).toNat).filterMap (xs[·]?)=_
  rw [c]
  congr 2
  funext k
  lia
 rw [e]
 exact tZ λk hk=>by lia
end
end L2
namespace B
open PySem L2
section
inductive I where
 | non|bl (b:Bool)|int (i:Int)|str (x:Str)|ty (n:String)|tup (xs:List I)|ref (k:Nat)|fro (xs:List I)|con (xs:List I)
inductive M where
 | lst (xs:List I)|dic (kvs:List (aS×I))|dit (kvs:List (List aS×I))|fdi (kvs:List (aS×I))|obj (c:Str) (fs:List (Str×I))
inductive Vl where
 | im (d:I)|ow (m:M)
abbrev ot(K:W.Frag)(H:Hp)(a:Addr)(vs:List V):Prop:=(∃o,H a=some (.frz o (.lst vs)))∨bw K (λ_=>none) a vs
mutual
inductive RpI(K:W.Frag)(ι:List Addr)(H:Hp):V->I->Prop
 | non:RpI K ι H .non .non
 | bl (b:Bool):RpI K ι H (.bl b) (.bl b)
 | int (i:Int):RpI K ι H (.int i) (.int i)
 | str (x:Str):RpI K ι H (.str x) (.str x)
 | ty (n:String):RpI K ι H (.ty n) (.ty n)
 | ref {a:Addr} {k:Nat}:ι[k]?=some a->RpI K ι H (.ref a) (.ref k)
 | tup {a:Addr} {vs:List V} {xs:List I}:H a=some (.tup vs)->y4f K ι H vs xs->RpI K ι H (.ref a) (.tup xs)
 | con {a:Addr} {vs:List V} {xs:List I}:bb K (λ_=>none) a vs->y4f K ι H vs xs->RpI K ι H (.ref a) (.con xs)
 | fro {a:Addr} {vs:List V} {xs:List I}:ot K H a vs->y4f K ι H vs xs->RpI K ι H (.ref a) (.fro xs)
inductive y4f(K:W.Frag)(ι:List Addr)(H:Hp):List V->List I->Prop
 | nil:y4f K ι H [] []
 | cons {v:V} {d:I} {vs:List V} {ds:List I}:RpI K ι H v d->y4f K ι H vs ds->y4f K ι H (v::vs) (d::ds)
end
def cG(r:RpI K ι H v (.int i)):v=.int i:=by cases r;rfl
def bK(r:RpI K ι H v (.str i)):v=.str i:=by cases r;rfl
def lr(r:RpI K ι H v (.bl i)):v=.bl i:=by cases r;rfl
def jD(r:RpI K ι H v .non):v=.non:=by cases r;rfl
def Dm(r:RpI K ι H v (.ty i)):v=.ty i:=by cases r;rfl
def lA(r:RpI K ι H v (.tup xs)):∃a vs,v=.ref a/\H a=some (.tup vs)/\y4f K ι H vs xs:=by cases r with|tup h q=>exact⟨_,_,rfl,h,q⟩
def t6(r:RpI K ι H v (.con xs)):∃a vs,v=.ref a/\bb K (λ_=>none) a vs/\y4f K ι H vs xs:=by cases r with|con h q=>exact⟨_,_,rfl,h,q⟩
def t7(r:RpI K ι H v (.fro xs)):∃a vs,v=.ref a/\ot K H a vs/\y4f K ι H vs xs:=by cases r with|fro h q=>exact⟨_,_,rfl,h,q⟩
abbrev bW(ι ι':List Addr):Prop:=∀(k:Nat) (a:Addr),ι[k]?=some a->ι'[k]?=some a
structure Kp(H H':Hp):Prop where
 tup:∀a xs,H a=some (.tup xs)->H' a=some (.tup xs)
 frz:∀a o u,H a=some (.frz o u)->H' a=some (.frz o u)
def Kp.refl(H:Hp):Kp H H:=⟨λ_ _ h=>h,λ_ _ _ h=>h⟩
def Kp.trans(x:Kp H H1)(y:Kp H1 H2):Kp H H2:=⟨λa xs h=>y.tup a xs (x.tup a xs h),λa o u h=>y.frz a o u (x.frz a o u h)⟩
def Kp.same(h:dA H H'):Kp H H':=⟨λa xs e=>h _ _ e,λa o u e=>h _ _ e⟩
def bW.refl(ι:List Addr):bW ι ι:=λ_ _ h=>h
def bW.trans(x:bW ι ι1)(y:bW ι1 ι2):bW ι ι2:=λk a h=>y k a (x k a h)
def bW.snoc(ι:List Addr)(b:List Addr):bW ι (ι++b):=λk a h=>by
 have:k<ι.length:=(z19.mp h).1
 rw [z25 this];exact h
def Kp.frL  (k:Kp H H')(h:ot K H a vs):ot K H' a vs:=by
 rcases h with⟨o,h⟩| h
 ·exact .inl ⟨o,k.frz _ _ _ h⟩
 ·exact .inr h
def bb.kon  (h:bb K (λ_=>none) a vs):bb K H a vs:=by
 rcases h with (h|⟨o,h⟩)|h
 ·cases h
 ·cases h
 ·exact .inr h
def ot.sq  (h:ot K H a vs):bw K H a vs:=by
 rcases h with⟨o,h⟩| h
 ·exact .inl (.inr ⟨o,h⟩)
 ·rcases h with (h|⟨o,h⟩)|h
  ·cases h
  ·cases h
  ·exact .inr h
section
mutual
theorem RpI.mono (p:bW ι ι')(k:Kp H H'):RpI K ι H v d->RpI K ι' H' v d
 | .non=>.non
 | .bl b=>.bl b
 | .int i=>.int i
 | .str x=>.str x
 | .ty n=>.ty n
 | .ref h=>.ref (p _ _ h)
 | .tup h r=>.tup (k.tup _ _ h) (y4f.mono p k r)
 | .con h r=>.con h (y4f.mono p k r)
 | .fro h r=>.fro (k.frL h) (y4f.mono p k r)
theorem y4f.mono (p:bW ι ι')(k:Kp H H'):y4f K ι H vs ds->y4f K ι' H' vs ds
 | .nil=>.nil
 | .cons h r=>.cons (RpI.mono p k h) (y4f.mono p k r)
end
theorem y4f.len:∀{vs:List V} {ds:List I},y4f K ι H vs ds->vs.length=ds.length
 | _,_,.nil=>rfl
 | _,_,.cons _ r=>by rw [z15,z15,r.len]
theorem y4f.get:∀{vs:List V} {ds:List I} {i:Nat} {d:I},y4f K ι H vs ds->ds[i]?=some d->∃v,vs[i]?=some v/\RpI K ι H v d
 | _,_,_,_,.nil,e=>by simp at e
 | _,_,0,_,.cons h _,e=>by simp at e;subst e;exact⟨_,rfl,h⟩
 | _,_,i+1,d,.cons _ r,e=>by
  obtain⟨v,h1,h2⟩:=y4f.get r (by simpa using e)
  exact⟨v,by simpa using h1,h2⟩
theorem y4f.app:∀{vs ws:List V} {ds es:List I},y4f K ι H vs ds->y4f K ι H ws es->y4f K ι H (vs++ws) (ds++es)
 | _,_,_,_,.nil,s=>s
 | _,_,_,_,.cons h r,s=>.cons h (y4f.app r s)
theorem y4f.take:∀{vs:List V} {ds:List I} (n:Nat),y4f K ι H vs ds->y4f K ι H (vs.take n) (ds.take n)
 | _,_,0,_=>.nil
 | _,_,_+1,.nil=>.nil
 | _,_,n+1,.cons h r=>.cons h (y4f.take n r)
theorem y4f.drop:∀{vs:List V} {ds:List I} (n:Nat),y4f K ι H vs ds->y4f K ι H (vs.drop n) (ds.drop n)
 | _,_,0,r=>r
 | _,_,_+1,.nil=>.nil
 | _,_,n+1,.cons _ r=>y4f.drop n r
theorem y4f.set:∀{vs:List V} {ds:List I} {v:V} {d:I} (i:Nat),y4f K ι H vs ds->RpI K ι H v d->y4f K ι H (vs.set i v) (ds.set i d)
 | _,_,_,_,_,.nil,_=>.nil
 | _,_,_,_,0,.cons _ r,h=>.cons h r
 | _,_,_,_,i+1,.cons g r,h=>.cons g (y4f.set i r h)
theorem y4f.rev:∀{vs:List V} {ds:List I},y4f K ι H vs ds->y4f K ι H vs.reverse ds.reverse
 | _,_,.nil=>.nil
 | _,_,.cons h r=>by rw [List.reverse_cons,List.reverse_cons];exact r.rev.app (.cons h .nil)
abbrev de(K:W.Frag)(κ:Str->Addr)(ι:List Addr)(H:Hp)(a:Addr):M->Prop
 | .lst xs=>∃vs,H a=some (.lst vs)/\y4f K ι H vs xs
 | .dic kvs=>∃ws,H a=some (.dK ws)/\ws.map (·.1)=kvs.map (·.1)/\y4f K ι H (ws.map (·.2)) (kvs.map (·.2))
 | .dit kvs=>∃ws,H a=some (.dT ws)/\ws.map (·.1)=kvs.map (·.1)/\y4f K ι H (ws.map (·.2)) (kvs.map (·.2))
 | .fdi kvs=>∃o ws,H a=some (.frz o (.dK ws))/\ws.map (·.1)=kvs.map (·.1)/\y4f K ι H (ws.map (·.2)) (kvs.map (·.2))
 | .obj c fs=>∃dx ws,H a=some (.ins (κ c) dx ws)/\ws.map (·.1)=fs.map (·.1)/\y4f K ι H (ws.map (·.2)) (fs.map (·.2))
theorem de.mono (p:bW ι ι')(k:Kp H H')(e:H' a=H a)(h:de K κ ι H a m):de K κ ι' H' a m:=by
 cases m with
 | lst xs=>obtain⟨vs,h1,h2⟩:=h;exact⟨vs,by rw [e];exact h1,h2.mono p k⟩
 | dic xs=>obtain⟨vs,h1,h2,h3⟩:=h;exact⟨vs,by rw [e];exact h1,h2,h3.mono p k⟩
 | dit xs=>obtain⟨vs,h1,h2,h3⟩:=h;exact⟨vs,by rw [e];exact h1,h2,h3.mono p k⟩
 | obj c xs=>obtain⟨dx,vs,h1,h2,h3⟩:=h;exact⟨dx,vs,by rw [e];exact h1,h2,h3.mono p k⟩
 | fdi xs=>obtain⟨o,vs,h1,h2,h3⟩:=h;exact⟨o,vs,by rw [e];exact h1,h2,h3.mono p k⟩
abbrev lB:HO->Bool
 | .lst _ | .dK _ | .dT _ | .ins _ _ _=>true
 | .frz _ (.dK _)=>true
 | _=>false
abbrev t8:M->Bool
 | .fdi _=>true
 | _=>false
def de.nf (h:de K κ ι H a m)(hf:t8 m=false):∀o u,H a≠some (.frz o u):=λo u e=>by
 cases m with
 | lst xs=>obtain⟨vs,h1,h2⟩:=h;rw [h1] at e;cases e
 | dic xs=>obtain⟨vs,h1,h2,h3⟩:=h;rw [h1] at e;cases e
 | dit xs=>obtain⟨vs,h1,h2,h3⟩:=h;rw [h1] at e;cases e
 | obj c xs=>obtain⟨dx,vs,h1,h2,h3⟩:=h;rw [h1] at e;cases e
 | fdi xs=>cases hf
def de.mu (h:de K κ ι H a m):∃o,H a=some o/\lB o=true:=by
 cases m with
 | lst xs=>obtain⟨vs,h1,h2⟩:=h;exact⟨_,h1,rfl⟩
 | dic xs=>obtain⟨vs,h1,h2,h3⟩:=h;exact⟨_,h1,rfl⟩
 | dit xs=>obtain⟨vs,h1,h2,h3⟩:=h;exact⟨_,h1,rfl⟩
 | obj c xs=>obtain⟨dx,vs,h1,h2,h3⟩:=h;exact⟨_,h1,rfl⟩
 | fdi xs=>obtain⟨o,vs,h1,h2,h3⟩:=h;exact⟨_,h1,rfl⟩
inductive RpE(K:W.Frag)(κ:Str->Addr)(ι:List Addr)(H:Hp):Option V->Option Vl->Prop
 | no (x:Option V):RpE K κ ι H x none
 | im {v:V} {d:I}:RpI K ι H v d->RpE K κ ι H (some v) (some (.im d))
 | ow {a:Addr} {m:M}:de K κ ι H a m->RpE K κ ι H (some (.ref a)) (some (.ow m))
abbrev bz:Option V->Option Vl->List Addr
 | some (.ref a),some (.ow _)=>[a]
 | _,_=>[]
abbrev own:List (Option V)->List (Option Vl)->List Addr
 | v::σ,x::Z=>bz v x++own σ Z
 | _,_=>[]
theorem bR:∀{σ:List (Option V)} {Z:List (Option Vl)} (τ:List (Option V)) (θ:List (Option Vl)),σ.length=Z.length->own (σ++τ) (Z++θ)=own σ Z++own τ θ
 | [],[],_,_,_=>rfl
 | [],_::_,_,_,h=>by cases h
 | _::_,[],_,_,h=>by cases h
 | v::σ,x::Z,τ,θ,h=>by
  show bz v x++own (σ++τ) (Z++θ)=bz v x++own σ Z++own τ θ
  rw [bR τ θ (by simpa using h),z2e]
noncomputable abbrev bq(a:Addr)(l:List Addr):Nat:=List.count a l
structure SR(K:W.Frag)(κ:Str->Addr)(ι:List Addr)(H:Hp)(σ:St)(Z:List (Option Vl))(G:List M):Prop where
 sl:Paired (RpE K κ ι H) σ Z
 gs:Paired (de K κ ι H) ι G
 nd:∀a,bq a (own σ Z)+bq a ι≤1
structure Step(ι fp:List Addr)(H:Hp)(ι' fp':List Addr)(H':Hp):Prop where
 pre:bW ι ι'
 src:∀a,a∈fp'->a∈fp∨H a=none
 keep:∀a o,H a=some o->a∉fp->H' a=some o
 dom:∀a,H' a=none->H a=none
 kp:Kp H H'
theorem Step.refl(ι fp:List Addr)(H:Hp):Step ι fp H ι fp H:=⟨bW.refl _,λ_ h=>.inl h,λ_ _ h _=>h,λ_ h=>h,Kp.refl _⟩
theorem Step.trans (x:Step ι fp H ι1 fp1 H1)(y:Step ι1 fp1 H1 ι2 fp2 H2):Step ι fp H ι2 fp2 H2 where
 pre:=x.pre.trans y.pre
 src:=λa h=>by
  rcases y.src a h with q|q
  ·exact x.src a q
  ·exact .inr (x.dom a q)
 keep:=λa o h n=>y.keep a o (x.keep a o h n) λq=>by
  rcases x.src a q with z|z
  ·exact n z
  ·rw [z] at h;cases h
 dom:=λa h=>x.dom a (y.dom a h)
 kp:=x.kp.trans y.kp
def Step.sub (x:Step ι fp H ι1 fp1 H1)(h:∀a,a∈fp2->a∈fp1):Step ι fp H ι1 fp2 H1:=⟨x.pre,λa q=>x.src a (h a q),x.keep,x.dom,x.kp⟩
def Step.wide (x:Step ι fp H ι1 fp1 H1)(h:∀a,a∈fp->a∈fq):Step ι fq H ι1 fp1 H1:=⟨x.pre,λa q=>(x.src a q).imp (h a) id,λa o q n=>x.keep a o q λz=>n (h a z),x.dom,x.kp⟩
def Step.y8a (x:Step ι fp H ι1 fp1 H1):Step ι (t++fp) H ι1 (t++fp1) H1 where
 pre:=x.pre
 src:=λa h=>by
  rcases z1e.mp h with q|q
  ·exact .inl (List.mem_append_left _ q)
  ·exact (x.src a q).imp (z24 _) id
 keep:=λa o h n=>x.keep a o h λq=>n (z24 _ q)
 dom:=x.dom
 kp:=x.kp
def gZ  : a∈l↔0<bq a l:=List.count_pos_iff.symm
theorem RpE.mono (p:bW ι ι')(k:Kp H H')(e:∀a,a∈bz v x->H' a=H a)(h:RpE K κ ι H v x):RpE K κ ι' H' v x:=by
 cases h with
 | no=>exact .no _
 | im h=>exact .im (h.mono p k)
 | ow h=>exact .ow (h.mono p k (e _ (by unfold bz;exact z22.mpr rfl)))
theorem iJ(p:bW ι ι')(k:Kp H H'):∀{σ:St} {Z:List (Option Vl)},(∀a,a∈own σ Z->H' a=H a)->Paired (RpE K κ ι H) σ Z->Paired (RpE K κ ι' H') σ Z
 | _,_,_,.nil=>.nil
 | _,_,e,.cons h r=>.cons (h.mono p k λa q=>e a (List.mem_append_left _ q)) (iJ p k (λa q=>e a (z24 _ q)) r)
theorem lC(p:bW ι ι')(k:Kp H H'):∀{as:List Addr} {G:List M},(∀a,a∈as->H' a=H a)->Paired (de K κ ι H) as G->Paired (de K κ ι' H') as G
 | _,_,_,.nil=>.nil
 | _,_,e,.cons h r=>.cons (h.mono p k (e _ List.mem_cons_self)) (lC p k (λa q=>e a (z1d _ q)) r)
def jE(v:Option V):bz v none=[]:=by
 cases v with
 | none=>rfl
 | some v=>cases v<;>rfl
def fU(v:Option V)(d:I):bz v (some (.im d))=[]:=by
 cases v with
 | none=>rfl
 | some v=>cases v<;>rfl
theorem lD:∀{σ:St} {Z:List (Option Vl)} {a:Addr},Paired (RpE K κ ι H) σ Z->a∈own σ Z->∃o,H a=some o/\lB o=true
 | _,_,_,.nil,h=>by cases h
 | _,_,a,.cons h r,q=>by
  rcases z1e.mp q with z|z
  ·cases h with
   | no=>rw [jE] at z;cases z
   | im h=>rw [fU] at z;cases z
   | ow h=>obtain rfl:=z22.mp z;exact h.mu
  ·exact lD r z
theorem ou:∀{as:List Addr} {G:List M} {a:Addr},Paired (de K κ ι H) as G->a∈as->∃o,H a=some o/\lB o=true
 | _,_,_,.nil,h=>by cases h
 | _,_,a,.cons h r,q=>by
  rcases z1f.mp q with rfl|z
  ·exact h.mu
  ·exact ou r z
def SR.len (h:SR K κ ι H σ Z G):σ.length=Z.length:=Paired.length h.sl
def SR.mu  (h:SR K κ ι H σ Z G)(q:a∈own σ Z++ι):∃o,H a=some o/\lB o=true:=by
 rcases z1e.mp q with z|z
 ·exact lD h.sl z
 ·exact ou h.gs z
theorem df{α β:Type}{F:α->β->Prop}:∀{a:List α} {b:List β} {c:List α} {d:List β},Paired F a b->Paired F c d->Paired F (a++c) (b++d)
 | _,_,_,_,.nil,h=>h
 | _,_,_,_,.cons h r,q=>.cons h (df r q)
theorem cf{α β:Type}{F:α->β->Prop}:∀{a:List α} {b:List β} {c:List α} {d:List β},a.length=b.length->Paired F (a++c) (b++d)->Paired F a b/\Paired F c d
 | [],[],_,_,_,h=>⟨.nil,h⟩
 | [],_::_,_,_,l,_=>by cases l
 | _::_,[],_,_,l,_=>by cases l
 | x::a,y::b,c,d,l,h=>by
  cases h with
  | cons h r =>
   obtain⟨p,q⟩:=cf (by simpa using l) r
   exact⟨.cons h p,q⟩
def SR.join  (h1:SR K κ ι1 H1 (σ0++τ) (Z1++θ) G1)(l1:σ0.length=Z1.length)(h2:SR K κ ι2 H2 (σ++τ2) (Z2++θ2) G2)(l2:σ.length=Z2.length)
  (st:Step ι1 (own σ0 Z1++ι1) H1 ι2 (own (σ++τ2) (Z2++θ2)++ι2) H2):SR K κ ι2 H2 (σ++(τ++τ2)) (Z2++(θ++θ2)) G2/\Step ι1 (own (σ0++τ) (Z1++θ)++ι1) H1 ι2 (own (σ++(τ++τ2)) (Z2++(θ++θ2))++ι2) H2:=by
 obtain⟨a1,b1⟩:=cf l1 h1.sl
 obtain⟨a2,b2⟩:=cf l2 h2.sl
 have lt:=Paired.length b1
 have n1:=h1.nd
 have n2:=h2.nd
 rw [bR _ _ l1] at n1
 rw [bR _ _ l2] at n2
 have st':=st
 rw [bR _ _ l2] at st'
 have apart:∀a,a∈own τ θ->a∉own σ0 Z1++ι1:=λa q z=>by
  have:=n1 a
  rw [bq,z17] at this
  have p1:0<bq a (own τ θ):=gZ.mp q
  rcases z1e.mp z with z|z
  ·have:=gZ.mp z;unfold bq at *;lia
  ·have:=gZ.mp z;unfold bq at *;lia
 have y440:∀a,a∈own τ θ->∃o,H1 a=some o:=λa q=>let ⟨o,e,_⟩:=lD b1 q;⟨o,e⟩
 have e2:own (σ++(τ++τ2)) (Z2++(θ++θ2))=own σ Z2++(own τ θ++own τ2 θ2):=by rw [bR _ _ l2,bR _ _ lt]
 refine⟨⟨df a2 (df (iJ st.pre st.kp (λa q=>?_) b1) b2),h2.gs,λa=>?_⟩,?_⟩
 ·obtain⟨o,e⟩:=y440 a q
  rw [e,st.keep a o e (apart a q)]
 ·rw [e2]
  have m2:=n2 a
  have m1:=n1 a
  simp only [bq,z17] at m1 m2 ⊢
  by_cases q:a∈own τ θ
  ·obtain⟨o,e⟩:=y440 a q
   have z:a∉own σ Z2++own τ2 θ2++ι2:=λz=>by
    rcases st'.src a z with y|y
    ·exact apart a q y
    ·rw [e] at y;cases y
   have:bq a (own σ Z2++own τ2 θ2++ι2)=0:=List.count_eq_zero.mpr z
   simp only [bq,z17] at this
   lia
  ·have:bq a (own τ θ)=0:=List.count_eq_zero.mpr q
   unfold bq at this
   lia
 ·rw [e2,bR _ _ l1]
  have s:=(Step.y8a (t:=own τ θ) st')
  refine (s.sub λa h=>?_).wide λa h=>?_
  ·simp only [z1e] at h ⊢
   rcases h with (h|h|h)|h
   ·exact .inr (.inl (.inl h))
   ·exact .inl h
   ·exact .inr (.inl (.inr h))
   ·exact .inr (.inr h)
  ·simp only [z1e] at h ⊢
   rcases h with h|h|h
   ·exact .inl (.inr h)
   ·exact .inl (.inl h)
   ·exact .inr h
end
end
section
section
def lE(a:Addr)(m:M):bz (some (.ref a)) (some (.ow m))=[a]:=rfl
theorem Av:∀{σ:St} {Z:List (Option Vl)} {i:Nat} {v w:Option V} {x y:Option Vl} (a:Addr),σ[i]?=some v->Z[i]?=some x ->
  bq a (own (σ.set i w) (Z.set i y))+bq a (bz v x)=bq a (own σ Z)+bq a (bz w y)
 | [],_,_,_,_,_,_,_,h,_=>by simp at h
 | _::_,[],_,_,_,_,_,_,_,h=>by simp at h
 | v0::σ,x0::Z,0,v,w,x,y,a,h1,h2=>by
  simp at h1 h2
  subst h1;subst h2
  show bq a (bz w y++own σ Z)+bq a (bz v0 x0)=bq a (bz v0 x0++own σ Z)+bq a (bz w y)
  simp only [bq,z17]
  lia
 | v0::σ,x0::Z,i+1,v,w,x,y,a,h1,h2=>by
  have:=Av (w:=w) (y:=y) a (by simpa using h1) (by simpa using h2)
  show bq a (bz v0 x0++own (σ.set i w) (Z.set i y))+bq a (bz v x)=bq a (bz v0 x0++own σ Z)+bq a (bz w y)
  simp only [bq,z17] at this ⊢
  lia
def t9{α:Type}{l:List α}{i:Nat}{v:α}(h:l[i]?=some v):l.set i v=l:=by
 refine List.ext_getElem? λj=>?_
 by_cases e:i=j
 ·subst e
  rw [List.getElem?_set_self (z19.mp h).1,h]
 ·rw [z26 e]
def ua (a:Addr)(h1:σ[i]?=some v)(h2:Z[i]?=some x) :
  bq a (own σ (Z.set i y))+bq a (bz v x)=bq a (own σ Z)+bq a (bz v y):=by
 have:=Av (w:=v) (y:=y) a h1 h2
 rw [t9 h1] at this
 exact this
theorem lF{α β:Type}{F:α->β->Prop}:∀{l:List α} {r:List β} {i:Nat} {y:β},Paired F l r->r[i]?=some y->∃x,l[i]?=some x/\F x y
 | _,_,_,_,.nil,h=>by simp at h
 | _,_,0,_,.cons h _,e=>by simp at e;subst e;exact⟨_,rfl,h⟩
 | _,_,i+1,y,.cons _ r,e=>by
  obtain⟨x,h1,h2⟩:=lF r (by simpa using e)
  exact⟨x,by simpa using h1,h2⟩
theorem oy{α β:Type}{F:α->β->Prop}{x:α}{y:β}:∀{l:List α} {r:List β} (i:Nat),Paired F l r->F x y->Paired F (l.set i x) (r.set i y)
 | _,_,_,.nil,_=>.nil
 | _,_,0,.cons _ r,q=>.cons q r
 | _,_,i+1,.cons h r,q=>.cons h (oy i r q)
def lG{α β:Type}{F:α->β->Prop}{x:α}{y:β}{l:List α}{r:List β}{i:Nat}(h:Paired F l r)(e:l[i]?=some x)(q:F x y):Paired F l (r.set i y):=by
 have:=oy i h q
 rw [t9 e] at this
 exact this
def SR.y179(h:SR K κ ι H σ Z G){i:Nat}{d:I}(e:Z[i]?=some (some (.im d))):∃v,σ[i]?=some (some v)/\RpI K ι H v d:=by
 obtain⟨x,e1,q⟩:=lF h.sl e
 cases q with
 | im q=>exact⟨_,e1,q⟩
def SR.y17a(h:SR K κ ι H σ Z G){i:Nat}{m:M}(e:Z[i]?=some (some (.ow m))):∃a,σ[i]?=some (some (.ref a))/\de K κ ι H a m:=by
 obtain⟨x,e1,q⟩:=lF h.sl e
 cases q with
 | ow q=>exact⟨_,e1,q⟩
def SR.y178(h:SR K κ ι H σ Z G){k:Nat}{m:M}(e:G[k]?=some m):∃a,ι[k]?=some a/\de K κ ι H a m:=lF h.gs e
theorem ub:∀{σ:St} {Z:List (Option Vl)} {i:Nat} {a:Addr} {m:M},σ[i]?=some (some (.ref a))->Z[i]?=some (some (.ow m))->a∈own σ Z
 | [],_,_,_,_,h,_=>by simp at h
 | _::_,[],_,_,_,_,h=>by simp at h
 | v0::σ,x0::Z,0,a,m,h1,h2=>by
  simp at h1 h2
  subst h1;subst h2
  exact List.mem_append_left _ (z22.mpr rfl)
 | v0::σ,x0::Z,i+1,a,m,h1,h2=>z24 _ (ub (by simpa using h1) (by simpa using h2))
theorem SR.same(h:SR K κ ι H σ Z G)(s:dA H H'):SR K κ ι H' σ Z G where
 sl:=iJ (bW.refl _) (Kp.same s) (λa q=>by obtain⟨o,e,_⟩:=lD h.sl q;rw [e,s _ _ e]) h.sl
 gs:=lC (bW.refl _) (Kp.same s) (λa q=>by obtain⟨o,e,_⟩:=ou h.gs q;rw [e,s _ _ e]) h.gs
 nd:=h.nd
theorem Step.same(s:dA H H'):Step ι fp H ι fp H':=⟨bW.refl _,λ_ h=>.inl h,λa o e _=>s _ _ e,λa e=>s.free e,Kp.same s⟩
def dA.lay (hp:H p=none):dA H (aH H p o):=λb u e=>by rw [aR (gO e hp)];exact e
def SR.pop(h:SR K κ ι H (σ++τ) (Z++θ) G)(l:σ.length=Z.length):SR K κ ι H σ Z G:=by
 obtain⟨a,b⟩:=cf l h.sl
 refine⟨a,h.gs,λx=>?_⟩
 have:=h.nd x
 rw [bR _ _ l] at this
 simp only [bq,z17] at this ⊢
 lia
def cj(l:σ.length=Z.length)(h:a∈own σ Z++ι):a∈own (σ++τ) (Z++θ)++ι:=by
 rw [bR _ _ l]
 simp only [z1e] at h ⊢
 rcases h with h|h
 ·exact .inl (.inl h)
 ·exact .inr h
def SR.push_im (h:SR K κ ι H σ Z G)(r:RpI K ι H v d):SR K κ ι H (σ++[some v]) (Z++[some (.im d)]) G:=by
 refine⟨df h.sl (.cons (.im r) .nil),h.gs,λx=>?_⟩
 have e:own [some v] [some (.im d)]=[]:=by show bz _ _++[]=[];rw [fU];rfl
 rw [bR _ _ h.len,e,z11]
 exact h.nd x
def dP (l:σ.length=Z.length):own (σ++[some v]) (Z++[some (.im d)])=own σ Z:=by
 rw [bR _ _ l]
 show own σ Z++(bz _ _++[])=_
 rw [fU];simp
def fg (l:σ.length=Z.length):own (σ++[some (.ref a)]) (Z++[some (.ow m)])=own σ Z++[a]:=by
 rw [bR _ _ l];rfl
def SR.y3a8 (h:SR K κ ι H σ Z G)(hp:H p=none)(r:de K κ ι (aH H p o) p m):SR K κ ι (aH H p o) (σ++[some (.ref p)]) (Z++[some (.ow m)]) G:=by
 have h':=h.same (dA.lay (o:=o) hp)
 refine⟨df h'.sl (.cons (.ow r) .nil),h'.gs,λx=>?_⟩
 rw [fg h.len]
 have:=h.nd x
 simp only [bq,z17] at this ⊢
 by_cases e:p=x
 ·subst e
  have n:p∉own σ Z++ι:=λq=>by obtain⟨o,e,_⟩:=h.mu q;rw [hp] at e;cases e
  have:bq p (own σ Z++ι)=0:=List.count_eq_zero.mpr n
  simp only [bq,z17] at this
  simp
  lia
 ·have:List.count x [p]=0:=List.count_eq_zero.mpr (by simp;exact λz=>e z.symm)
  lia
def Step.y234 (l:σ.length=Z.length)(hp:H p=none):Step ι (own σ Z++ι) H ι (own (σ++[some (.ref p)]) (Z++[some (.ow m)])++ι) (aH H p o) where
 pre:=bW.refl _
 src:=λa h=>by
  rw [fg l] at h
  simp only [z1e,z22] at h ⊢
  rcases h with (h|h)|h
  ·exact .inl (.inl h)
  ·subst h;exact .inr hp
  ·exact .inl (.inr h)
 keep:=λa u e _=>dA.lay hp _ _ e
 dom:=λa e=>(dA.lay hp).free e
 kp:=Kp.same (dA.lay hp)
def SR.store (h:SR K κ ι H (σ++[some v]) (Z++[some x]) G)(l:σ.length=Z.length):SR K κ ι H (σ.set i (some v)) (Z.set i (some x)) G:=by
 obtain⟨a,b⟩:=cf l h.sl
 cases b with
 | cons b _ =>
  refine⟨oy i a b,h.gs,λy=>?_⟩
  have n:=h.nd y
  rw [bR _ _ l] at n
  have e1:own [some v] [some x]=bz (some v) (some x):=z11 _
  rw [e1] at n
  by_cases hi:i<σ.length
  ·have:=Av (Z:=Z) (w:=some v) (y:=some x) y (z16 hi) (z16 (by lia))
   simp only [bq,z17] at this n ⊢
   lia
  ·rw [List.set_eq_of_length_le (by lia),List.set_eq_of_length_le (by lia)]
   simp only [bq,z17] at n ⊢
   lia
def Dn  (l:σ.length=Z.length)(h:a∈own (σ.set i (some v)) (Z.set i (some x))++ι):a∈own (σ++[some v]) (Z++[some x])++ι:=by
 rw [bR _ _ l]
 have e1:own [some v] [some x]=bz (some v) (some x):=z11 _
 rw [e1]
 rw [gZ] at h ⊢
 by_cases hi:i<σ.length
 ·have:=Av (Z:=Z) (w:=some v) (y:=some x) a (z16 hi) (z16 (by lia))
  simp only [bq,z17] at this h ⊢
  lia
 ·rw [List.set_eq_of_length_le (by lia),List.set_eq_of_length_le (by lia)] at h
  simp only [bq,z17] at h ⊢
  lia
def SR.take{i:Nat}{a:Addr}{m:M}(h:SR K κ ι H σ Z G)(e1:σ[i]?=some (some (.ref a)))(e2:Z[i]?=some (some (.ow m))) :
  SR K κ ι H (σ++[some (.ref a)]) (Z.set i none++[some (.ow m)]) G/\Step ι (own σ Z++ι) H ι (own (σ++[some (.ref a)]) (Z.set i none++[some (.ow m)])++ι) H:=by
 have l:σ.length=(Z.set i none).length:=by rw [z29];exact h.len
 obtain⟨a',e1',r⟩:=h.y17a e2
 rw [e1] at e1';cases e1'
 have q:∀x,bq x (own σ (Z.set i none))+bq x [a]=bq x (own σ Z):=λx=>by
  have:=ua (y:=none) x e1 e2
  rw [lE,jE] at this
  exact this
 refine⟨⟨df (lG h.sl e1 (.no _)) (.cons (.ow r) .nil),h.gs,λx=>?_⟩,(Step.refl _ _ _).sub λx hx=>?_⟩
 ·rw [fg l]
  have:=h.nd x
  have:=q x
  simp only [bq,z17] at *
  lia
 ·rw [fg l,gZ] at hx
  rw [gZ]
  have:=q x
  simp only [bq,z17] at *
  lia
def SR.gl(h:SR K κ ι H σ Z G):ι.length=G.length:=Paired.length h.gs
def SR.box (h:SR K κ ι H (σ++[some (.ref a)]) (Z++[some (.ow m)]) G)(l:σ.length=Z.length) :
  SR K κ (ι++[a]) H σ Z (G++[m])/\RpI K (ι++[a]) H (.ref a) (.ref G.length)/\Step ι (own (σ++[some (.ref a)]) (Z++[some (.ow m)])++ι) H (ι++[a]) (own σ Z++(ι++[a])) H:=by
 obtain⟨p,q⟩:=cf l h.sl
 have pr:=bW.snoc ι [a]
 cases q with
 | cons q _ =>
  cases q with
  | ow q =>
   refine⟨⟨iJ pr (Kp.refl _) (λ_ _=>rfl) p,df (lC pr (Kp.refl _) (λ_ _=>rfl) h.gs) (.cons (q.mono pr (Kp.refl _) rfl) .nil),λx=>?_⟩,?_,⟨pr,λx hx=>.inl ?_,λ_ _ e _=>e,λ_ e=>e,Kp.refl _⟩⟩
   ·have:=h.nd x
    rw [fg l] at this
    simp only [bq,z17] at this ⊢
    lia
   ·refine .ref ?_
    have e:=h.gl
    rw [<- e,z23 (z10 _),Nat.sub_self];rfl
   ·rw [fg l]
    simp only [z1e] at hx ⊢
    rcases hx with hx|hx|hx
    ·exact .inl (.inl hx)
    ·exact .inr hx
    ·exact .inl (.inr hx)
def SR.poke{i:Nat}{a:Addr}{m m':M}{o:HO}(h:SR K κ ι H σ Z G)(e1:σ[i]?=some (some (.ref a)))(e2:Z[i]?=some (some (.ow m)))(r:∀(ρ:de K κ ι H a m),Kp H (aH H a o)->de K κ ι (aH H a o) a m')(hf:‹t8 m=false›) :
  SR K κ ι (aH H a o) σ (Z.set i (some (.ow m'))) G/\Step ι (own σ Z++ι) H ι (own σ (Z.set i (some (.ow m')))++ι) (aH H a o):=by
 obtain⟨a',e1',rm⟩:=h.y17a e2
 rw [e1] at e1';cases e1'
 obtain⟨u,hu,mu⟩:=rm.mu
 have kp:Kp H (aH H a o):=⟨λb xs e=>by rw [aR (nC e hu (by rintro rfl;cases mu))];exact e,λb o' u' e=>by rw [aR (λz=>by subst z;exact rm.nf hf _ _ e)];exact e⟩
 have q:∀x,bq x (own σ (Z.set i (some (.ow m'))))=bq x (own σ Z):=λx=>by
  have:=ua (y:=some (.ow m')) x e1 e2
  rw [lE,lE] at this
  lia
 have mem:=ub e1 e2
 have na:∀x,x∈own σ (Z.set i none)->x≠a:=λx hx z=>by
  subst z
  have:=ua (y:=none) x e1 e2
  rw [lE,jE] at this
  have n:=h.nd x
  have:=gZ.mp hx
  have z1:bq x [x]=1:=by simp [bq]
  have z0:bq x []=0:=rfl
  lia
 have ni:∀x,x∈ι->x≠a:=λx hx z=>by
  subst z
  have n:=h.nd x
  have:=gZ.mp hx
  have:=gZ.mp mem
  lia
 have p1:=iJ (bW.refl ι) kp (λx hx=>aR (na x hx)) (lG h.sl e1 (.no _))
 refine⟨⟨?_,lC (bW.refl ι) kp (λx hx=>aR (ni x hx)) h.gs,λx=>by rw [q];exact h.nd x⟩,⟨bW.refl _,λx hx=>.inl ?_,λx u e n=>?_,λx e=>?_,kp⟩⟩
 ·have:=lG p1 e1 (.ow (r rm kp))
  rw [List.set_set] at this
  exact this
 ·rw [gZ] at hx ⊢
  have:=q x
  simp only [bq,z17] at *
  lia
 ·rw [aR (λz=>n (by rw [z];exact List.mem_append_left _ mem))];exact e
 ·by_cases z:x=a
  ·subst z;rw [bg] at e;cases e
  ·rw [aR z] at e;exact e
def SR.pokeG{k:Nat}{a:Addr}{m m':M}{o:HO}(h:SR K κ ι H σ Z G)(e1:ι[k]?=some a)(e2:G[k]?=some m)(r:∀(ρ:de K κ ι H a m),Kp H (aH H a o)->de K κ ι (aH H a o) a m')(hf:‹t8 m=false›) :
  SR K κ ι (aH H a o) σ Z (G.set k m')/\Step ι (own σ Z++ι) H ι (own σ Z++ι) (aH H a o):=by
 obtain⟨a',e1',rm⟩:=h.y178 e2
 rw [e1] at e1';cases e1'
 obtain⟨u,hu,mu⟩:=rm.mu
 have kp:Kp H (aH H a o):=⟨λb xs e=>by rw [aR (nC e hu (by rintro rfl;cases mu))];exact e,λb o' u' e=>by rw [aR (λz=>by subst z;exact rm.nf hf _ _ e)];exact e⟩
 have mem:a∈ι:=z34 e1
 have na:∀x,x∈own σ Z->x≠a:=λx hx z=>by
  subst z
  have n:=h.nd x
  have:=gZ.mp hx
  have:=gZ.mp mem
  lia
 have inj:∀j,ι[j]?=some a->j=k:=λj ej=>by
  have n:=h.nd a
  have c1:bq a ι≤1:=by lia
  by_cases z:j=k
  ·exact z
  ·exfalso
   have:2≤bq a ι:=by
    have hj:=(z19.mp ej)
    have hk:=(z19.mp e1)
    obtain⟨hj,vj⟩:=hj
    obtain⟨hk,vk⟩:=hk
    have two:∀(l:List Addr) (i j:Nat) (hi:i<l.length) (hj:j<l.length),i<j->l[i]=a->l[j]=a->2≤List.count a l:=by
     intro l i j hi hj hij e1 e2
     have e:l=l.take j++l.drop j:=(List.take_append_drop j l).symm
     rw [e,z17]
     have p1:0<List.count a (l.take j):=List.count_pos_iff.mpr (by rw [List.mem_take_iff_getElem];exact⟨i,by lia,e1⟩)
     have p2:0<List.count a (l.drop j):=List.count_pos_iff.mpr (by rw [List.mem_drop_iff_getElem];exact⟨0,by lia,by simpa using e2⟩)
     lia
    rcases Nat.lt_or_gt_of_ne z with z|z
    ·exact two ι j k hj hk z vj vk
    ·exact two ι k j hk hj z vk vj
   lia
 have objs:∀(as:List Addr) (Gs:List M) (b:Nat),(∀j x,as[j]?=some x->x=a->b+j=k)->Paired (de K κ ι H) as Gs->(∀j,b+j=k->j<as.length->as[j]?=some a)->Paired (de K κ ι (aH H a o)) as (if b≤k then Gs.set (k-b) m' else Gs):=by
  intro as Gs b hj p hk
  induction p generalizing b with
  | nil=>by_cases z:b≤k<;>simp [z]<;>exact .nil
  | @cons x y l r hx hr ih =>
   have ih':=ih (b+1) (λj x e z=>by have:=hj (j+1) x (by simpa using e) z;lia) (λj e l=>by have:=hk (j+1) (by lia) (by simp;lia);simpa using this)
   by_cases z:b=k
   ·subst z
    have xa:x=a:=by have:=hk 0 rfl (by simp);simpa using this
    subst xa
    rw [if_neg (by lia)] at ih'
    rw [if_pos (z10 _),Nat.sub_self]
    exact .cons (r rm kp) ih'
   ·have xa:x≠a:=λe=>z (by have:=hj 0 x rfl e;lia)
    by_cases w:b≤k
    ·rw [if_pos (by lia)] at ih'
     rw [if_pos w]
     obtain⟨n,hn⟩:∃n,k-b=n+1:=⟨k-b-1,by lia⟩
     have hn':k-(b+1)=n:=by lia
     rw [hn];rw [hn'] at ih'
     exact .cons (hx.mono (bW.refl _) kp (aR xa)) ih'
    ·rw [if_neg (by lia)] at ih'
     rw [if_neg w]
     exact .cons (hx.mono (bW.refl _) kp (aR xa)) ih'
 have p2:=objs ι G 0 (λj x e z=>by subst z;have:=inj j e;lia) h.gs (λj e _=>(show j=k by lia) ▸ e1)
 rw [if_pos (Nat.zero_le _),Nat.sub_zero] at p2
 refine⟨⟨iJ (bW.refl ι) kp (λx hx=>aR (na x hx)) h.sl,p2,h.nd⟩,⟨bW.refl _,λx hx=>.inl hx,λx u e n=>?_,λx e=>?_,kp⟩⟩
 ·rw [aR (λz=>n (by rw [z];exact z24 _ mem))];exact e
 ·by_cases z:x=a
  ·subst z;rw [bg] at e;cases e
  ·rw [aR z] at e;exact e
end
end
section
inductive Ev where
 | v (x:Vl)|s (i:Nat)
noncomputable abbrev De:=List (Option Vl)
noncomputable abbrev Mo(α:Type):=De->List M->Option (α×De×List M)
abbrev bd{α β:Type}(m:Mo α)(f:α->Mo β):Mo β:=λZ G=>match m Z G with
 | some (a,Z1,G1)=>f a Z1 G1
 | none=>none
abbrev rt{α:Type}(a:α):Mo α:=λZ G=>some (a,Z,G)
def bY{α β:Type}{m:Mo α}{f:α->Mo β}{Z:De}{G:List M}{r:β×De×List M}(h:bd m f Z G=some r):∃a Z1 G1,m Z G=some (a,Z1,G1)/\f a Z1 G1=some r:=by
 unfold bd at h
 split at h
 ·exact⟨_,_,_,by assumption,h⟩
 ·cases h
def nh{α β:Type}{m:Mo α}{f:α->Mo β}{Z Z1:De}{G G1:List M}{a:α}(h:m Z G=some (a,Z1,G1)):bd m f Z G=f a Z1 G1:=by
 unfold bd;rw [h]
abbrev tS:List Ev->List V->St
 | .v _::es,v::vs=>some v::tS es vs
 | .s _::es,_::vs=>tS es vs
 | _,_=>[]
abbrev tD:List Ev->De
 | .v x::es=>some x::tD es
 | .s _::es=>tD es
 | []=>[]
theorem oz:∀{es:List Ev} {vs:List V} (fs:List Ev) (ws:List V),es.length=vs.length->tS (es++fs) (vs++ws)=tS es vs++tS fs ws
 | [],[],_,_,_=>rfl
 | [],_::_,_,_,h=>by cases h
 | _::_,[],_,_,h=>by cases h
 | .v x::es,v::vs,fs,ws,h=>by
  show some v::tS (es++fs) (vs++ws)=some v::(tS es vs++tS fs ws)
  rw [oz fs ws (by simpa using h)]
 | .s i::es,v::vs,fs,ws,h=>by
  show tS (es++fs) (vs++ws)=tS es vs++tS fs ws
  rw [oz fs ws (by simpa using h)]
theorem oA:∀(es fs:List Ev),tD (es++fs)=tD es++tD fs
 | [],_=>rfl
 | .v x::es,fs=>by
  show some x::tD (es++fs)=some x::(tD es++tD fs)
  rw [oA]
 | .s i::es,fs=>by
  show tD (es++fs)=tD es++tD fs
  rw [oA]
structure Args(K:W.Frag)(κ:Str->Addr)(ι:List Addr)(H:Hp)(σ:St)(Z:De)(G:List M)(es:List Ev)(vs:List V):Prop where
 l:σ.length=Z.length
 sr:SR K κ ι H (σ++tS es vs) (Z++tD es) G
 al:Paired (λ(e:Ev) (v:V)=>∀i,e=.s i->σ[i]?=some (some v)) es vs
structure After(K:W.Frag)(κ:Str->Addr)(σ:St)(ι fp:List Addr)(H:Hp)(es:List Ev)(Z':De)(G':List M)(vs:List V)(ι':List Addr)(H':Hp):Prop where
 ar:Args K κ ι' H' σ Z' G' es vs
 st:Step ι fp H ι' (own (σ++tS es vs) (Z'++tD es)++ι') H'
def bJ(h:some (x,Z,G)=some (e,Z',G'))(a:After K κ σ ι fp H [x] Z G vs ι' H'):After K κ σ ι fp H [e] Z' G' vs ι' H':=by cases h;exact a
abbrev aZ(K:W.Frag)(κ:Str->Addr)(f:Mo Ev):TE:=λσ H Q=>∃ι Z G e Z' G',SR K κ ι H σ Z G/\f Z G=some (e,Z',G')/\∀v ι' H',After K κ σ ι (own σ Z++ι) H [e] Z' G' [v] ι' H'->Q v H'
abbrev fV(K:W.Frag)(κ:Str->Addr)(f:Mo (List Ev)):TA:=λσ H Q=>∃ι Z G es Z' G',SR K κ ι H σ Z G/\f Z G=some (es,Z',G')/\∀vs ι' H',After K κ σ ι (own σ Z++ι) H es Z' G' vs ι' H'->Q vs H'
section
variable {κ:Str->Addr}{H H1 H2:Hp}{σ:St}{Z Z1 Z2:De}
def Args.base(h:Args K κ ι H σ Z G es vs):SR K κ ι H σ Z G:=h.sr.pop h.l
def Dp (h:n=vs.length)(e:‹n=0›):vs=[]:=by subst e;cases vs with|nil=>rfl|cons _ _=>cases h
def bQ (h:n=vs.length)(e:‹n=1›):∃a,vs=[a]:=by
 subst e
 cases vs with
 | nil=>cases h
 | cons a r=>exact⟨a,by rw [Dp (Nat.succ.inj h)]⟩
def bI (h:n=vs.length)(e:‹n=2›):∃a b,vs=[a,b]:=by
 subst e
 cases vs with
 | nil=>cases h
 | cons a r=>obtain⟨b,e⟩:=bQ (Nat.succ.inj h);exact⟨a,b,by rw [e]⟩
def oB (h:n=vs.length)(e:‹n=3›):∃a b c,vs=[a,b,c]:=by
 subst e
 cases vs with
 | nil=>cases h
 | cons a r=>obtain⟨b,c,e⟩:=bI (Nat.succ.inj h);exact⟨a,b,c,by rw [e]⟩
def Args.len(h:Args K κ ι H σ Z G es vs):es.length=vs.length:=Paired.length h.al
def After.app(a:After K κ σ ι fp H es Z1 G1 vs ι1 H1)(b:After K κ σ ι1 (own σ Z1++ι1) H1 fs Z2 G2 ws ι2 H2):After K κ σ ι fp H (es++fs) Z2 G2 (vs++ws) ι2 H2:=by
 obtain⟨s,t⟩:=SR.join a.ar.sr a.ar.l b.ar.sr b.ar.l b.st
 have e1:=oz fs ws a.ar.len
 have e2:=oA es fs
 refine⟨⟨b.ar.l,by rw [e1,e2];exact s,df a.ar.al b.ar.al⟩,?_⟩
 rw [e1,e2]
 exact a.st.trans t
theorem After.nil(h:SR K κ ι H σ Z G):After K κ σ ι (own σ Z++ι) H [] Z G [] ι H:=by
 refine⟨⟨h.len,?_,.nil⟩,?_⟩
 ·show SR K κ ι H (σ++[]) (Z++[]) G
  rw [z11,z11];exact h
 ·show Step ι _ H ι (own (σ++[]) (Z++[])++ι) H
  rw [z11,z11];exact Step.refl _ _ _
abbrev ae:Mo (List Ev):=rt []
abbrev af(fa:Mo Ev)(fr:Mo (List Ev)):Mo (List Ev):=bd fa λe=>bd fr λes=>rt (e::es)
def Dq(h:fV K κ ae σ H Q):gT σ H Q:=by
 obtain⟨ι,Z,G,es,Z',G',s,e,k⟩:=h
 cases e
 exact k _ _ _ (After.nil s)
def Dr (h:fV K κ (af fa fr) σ H Q):cS (aZ K κ fa) (fV K κ fr) σ H Q:=by
 obtain⟨ι,Z,G,es,Z',G',s,e,k⟩:=h
 obtain⟨x,Z1,G1,e1,e⟩:=bY e
 obtain⟨xs,Z2,G2,e2,e⟩:=bY e
 cases e
 refine⟨ι,Z,G,x,Z1,G1,s,e1,λv ι1 H1 a=>?_⟩
 refine⟨ι1,Z1,G1,xs,_,_,a.ar.base,e2,λvs ι2 H2 b=>?_⟩
 exact k _ _ _ (a.app b)
abbrev aE(K:W.Frag)(κ:Str->Addr)(r:List V->Hp->VK->Prop)(p:List Ev->Mo Ev):Prop :=
 ∀(ι:List Addr) (H:Hp) (σ:St) (Z:De) (G:List M) (es:List Ev) (vs:List V) (e:Ev) (Z':De) (G':List M) (Q:VK),Args K κ ι H σ Z G es vs->p es Z G=some (e,Z',G') ->
  (∀v ι' H',After K κ σ ι (own (σ++tS es vs) (Z++tD es)++ι) H [e] Z' G' [v] ι' H'->Q v H')->r vs H Q
def After.then (a:After K κ σ ι fp H es Z1 G1 vs ι1 H1)(b:After K κ σ ι1 (own (σ++tS es vs) (Z1++tD es)++ι1) H1 es' Z2 G2 vs' ι2 H2):After K κ σ ι fp H es' Z2 G2 vs' ι2 H2:=⟨b.ar,a.st.trans b.st⟩
def dQ  (hp:aE K κ r p)(h:aZ K κ (bd fa p) σ H Q):fV K κ fa σ H λvs H1=>r vs H1 Q:=by
 obtain⟨ι,Z,G,e,Z',G',s,eq,k⟩:=h
 obtain⟨xs,Z1,G1,e1,e2⟩:=bY eq
 refine⟨ι,Z,G,xs,Z1,G1,s,e1,λvs ι1 H1 a=>?_⟩
 exact hp _ _ _ _ _ _ _ _ _ _ _ a.ar e2 λv ι2 H2 b=>k _ _ _ (a.then b)
abbrev r2(r:R2):List V->Hp->VK->Prop:=λvs H Q=>∃x y,vs=[x,y]/\r x y H Q
abbrev r1(r:V->Hp->VK->Prop):List V->Hp->VK->Prop:=λvs H Q=>∃x,vs=[x]/\r x H Q
abbrev ai(p:List Ev->Mo Ev)(fa fb:Mo Ev):Mo Ev:=bd fa λx=>bd fb λy=>p [x,y]
abbrev a7(p:List Ev->Mo Ev)(fa:Mo Ev):Mo Ev:=bd fa λx=>p [x]
def g5  (hp:aE K κ (r2 r) p)(h:aZ K κ (ai p fa fb) σ H Q):ko r (aZ K κ fa) (aZ K κ fb) σ H Q:=by
 obtain⟨ι,Z,G,e,Z',G',s,eq,k⟩:=h
 obtain⟨x,Z1,G1,e1,eq⟩:=bY eq
 obtain⟨y,Z2,G2,e2,eq⟩:=bY eq
 refine⟨ι,Z,G,x,Z1,G1,s,e1,λv ι1 H1 a=>?_⟩
 refine⟨ι1,Z1,G1,y,Z2,G2,a.ar.base,e2,λw ι2 H2 b=>?_⟩
 have c:=a.app b
 obtain⟨x',y',e',q⟩:=hp _ _ _ _ _ _ _ _ _ _ Q c.ar eq λv ι3 H3 d=>k _ _ _ (c.then d)
 cases e'
 exact q
def g6  (hp:aE K κ (r1 r) p)(h:aZ K κ (a7 p fa) σ H Q):tUn r (aZ K κ fa) σ H Q:=by
 obtain⟨ι,Z,G,e,Z',G',s,eq,k⟩:=h
 obtain⟨x,Z1,G1,e1,eq⟩:=bY eq
 refine⟨ι,Z,G,x,Z1,G1,s,e1,λv ι1 H1 a=>?_⟩
 obtain⟨x',e',q⟩:=hp _ _ _ _ _ _ _ _ _ _ Q a.ar eq λv ι3 H3 d=>k _ _ _ (a.then d)
 cases e'
 exact q
theorem qH:∀{es:List Ev} {vs:List V} {j:Nat} {x:Vl} {v:V},Paired (RpE K κ ι H) (tS es vs) (tD es)->es[j]?=some (.v x)->vs[j]?=some v->RpE K κ ι H (some v) (some x)
 | [],_,_,_,_,_,h,_=>by simp at h
 | _::_,[],_,_,_,_,_,h=>by simp at h
 | .v y::es,w::vs,0,x,v,p,h1,h2=>by
  simp at h1 h2
  subst h1;subst h2
  cases p with
  | cons q _=>exact q
 | .s i::es,w::vs,0,x,v,p,h1,h2=>by simp at h1
 | .v y::es,w::vs,j+1,x,v,p,h1,h2=>by
  cases p with
  | cons _ p=>exact qH p (by simpa using h1) (by simpa using h2)
 | .s i::es,w::vs,j+1,x,v,p,h1,h2=>qH (vs:=vs) p (by simpa using h1) (by simpa using h2)
theorem Args.im{j:Nat}{d:I}{v:V}(a:Args K κ ι H σ Z G es vs)(h1:es[j]?=some (.v (.im d)))(h2:vs[j]?=some v):RpI K ι H v d:=by
 have:=qH (cf a.l a.sr.sl).2 h1 h2
 cases this with
 | im r=>exact r
abbrev pk(Z:De)(G:List M):Ev->Option M
 | .v (.ow m)=>some m
 | .v (.im (.ref k))=>G[k]?
 | .v (.im _)=>none
 | .s i=>match Z[i]? with
  | some (some (.ow m))=>some m
  | _=>none
theorem Args.pk{j:Nat}{e:Ev}{m:M}{v:V}(a:Args K κ ι H σ Z G es vs)(h1:es[j]?=some e)(h2:vs[j]?=some v)(h:B.pk Z G e=some m):∃b,v=.ref b/\de K κ ι H b m:=by
 cases e with
 | v x =>
  have q:=qH (cf a.l a.sr.sl).2 h1 h2
  cases x with
  | ow m'=>cases h;cases q with
   | ow r=>exact⟨_,rfl,r⟩
  | im d =>
   cases q with
   | im r =>
    cases r with
    | ref e =>
     obtain⟨b,e',r⟩:=a.base.y178 h
     rw [e] at e';cases e'
     exact⟨_,rfl,r⟩
    | _=>cases h
 | s i =>
  have h:(match Z[i]? with|some (some (.ow m))=>some m|_=>none)=some m:=h
  obtain⟨v',e1,al⟩:∃v',vs[j]?=some v'/\σ[i]?=some (some v'):=by
   have:∀{es:List Ev} {vs:List V} {j:Nat},Paired (λ(e:Ev) (v:V)=>∀i,e=.s i->σ[i]?=some (some v)) es vs->es[j]?=some (.s i)->∃v',vs[j]?=some v'/\σ[i]?=some (some v'):=by
    intro es vs j p
    induction p generalizing j with
    | nil=>intro h;simp at h
    | cons q _ ih =>
     intro h
     cases j with
     | zero=>simp at h;exact⟨_,rfl,q i h⟩
     | succ j=>obtain⟨v',e,z⟩:=ih (by simpa using h);exact⟨v',by simpa using e,z⟩
   exact this a.al h1
  rw [h2] at e1;cases e1
  split at h
  ·rename_i m' e
   cases h
   obtain⟨b,e',r⟩:=a.base.y17a e
   rw [al] at e';cases e'
   exact⟨_,rfl,r⟩
  ·cases h
abbrev sq(Z:De)(G:List M):Ev->Option (List I)
 | .v (.im (.tup xs))=>some xs
 | .v (.im (.fro xs))=>some xs
 | .v (.im (.con xs))=>some xs
 | e=>match pk Z G e with
  | some (.lst xs)=>some xs
  | _=>none
theorem Args.sq{j:Nat}{e:Ev}{xs:List I}{v:V}(a:Args K κ ι H σ Z G es vs)(h1:es[j]?=some e)(h2:vs[j]?=some v)(h:B.sq Z G e=some xs):∃b ys,v=.ref b/\(bw K H b ys∨bb K H b ys)/\y4f K ι H ys xs:=by
 have y16d:(match B.pk Z G e with|some (.lst xs)=>some xs|_=>none)=some xs->∃b ys,v=.ref b/\(bw K H b ys∨bb K H b ys)/\y4f K ι H ys xs:=λq=>by
  split at q
  ·rename_i xs' e'
   cases q
   obtain⟨b,e1,ys,h3,r⟩:=a.pk h1 h2 e'
   exact⟨b,ys,e1,.inl (bw.of h3),r⟩
  ·cases q
 cases e with
 | s i=>exact y16d h
 | v x =>
  cases x with
  | ow m=>exact y16d h
  | im d =>
   have r:=a.im h1 h2
   cases r with
   | tup q r=>cases h;exact⟨_,_,rfl,.inr (bb.of q),r⟩
   | con q r=>cases h;exact⟨_,_,rfl,.inr (bb.kon q),r⟩
   | fro q r=>cases h;exact⟨_,_,rfl,.inl q.sq,r⟩
   | ref q=>exact y16d h
   | non=>exact y16d h
   | bl=>exact y16d h
   | int=>exact y16d h
   | str=>exact y16d h
   | ty=>exact y16d h
def aT (a:Args K κ ι H σ Z G es vs)(r:RpI K ι H v d):After K κ σ ι (own (σ++tS es vs) (Z++tD es)++ι) H [.v (.im d)] Z G [v] ι H:=by
 refine⟨⟨a.l,a.base.push_im r,.cons (λ_ h=>by cases h) .nil⟩,(Step.refl _ _ _).sub λx h=>?_⟩
 have h:x∈own (σ++[some v]) (Z++[some (.im d)])++ι:=h
 rw [dP a.l] at h
 exact cj a.l h
def uc (a:Args K κ ι H σ Z G es vs)(s:dA H H')(r:RpI K ι H' v d):After K κ σ ι (own (σ++tS es vs) (Z++tD es)++ι) H [.v (.im d)] Z G [v] ι H':=by
 refine⟨⟨a.l,(a.base.same s).push_im r,.cons (λ_ h=>by cases h) .nil⟩,(Step.same s).sub λx h=>?_⟩
 have h:x∈own (σ++[some v]) (Z++[some (.im d)])++ι:=h
 rw [dP a.l] at h
 exact cj a.l h
def oC (a:Args K κ ι H σ Z G es vs)(hp:H p=none)(r:y4f K ι H ys xs):After K κ σ ι (own (σ++tS es vs) (Z++tD es)++ι) H [.v (.im (.tup xs))] Z G [.ref p] ι (aH H p (.tup ys)) :=
 uc a (dA.lay hp) (.tup bg (r.mono (bW.refl _) (Kp.same (dA.lay hp))))
def Ds (a:Args K κ ι H σ Z G es vs)(hp:H p=none)(r:de K κ ι (aH H p o) p m):After K κ σ ι (own (σ++tS es vs) (Z++tD es)++ι) H [.v (.ow m)] Z G [.ref p] ι (aH H p o) :=
 ⟨⟨a.l,a.base.y3a8 hp r,.cons (λ_ h=>by cases h) .nil⟩,(Step.y234 a.l hp).wide λx h=>cj a.l h⟩
def fW (a:Args K κ ι H σ Z G es vs)(hp:H p=none)(r:y4f K ι H ys xs):After K κ σ ι (own (σ++tS es vs) (Z++tD es)++ι) H [.v (.ow (.lst xs))] Z G [.ref p] ι (aH H p (.lst ys)) :=
 Ds a hp ⟨ys,bg,r.mono (bW.refl _) (Kp.same (dA.lay hp))⟩
abbrev ir(Z:De)(G:List M)(m':M):Ev->De×List M
 | .v (.im (.ref k))=>(Z,G.set k m')
 | .v _=>(Z,G)
 | .s i=>(Z.set i (some (.ow m')),G)
theorem oE:∀{es:List Ev} {vs:List V} {j:Nat} {x:Vl} {v:V},es[j]?=some (.v x)->vs[j]?=some v->es.length=vs.length->∃n:Nat,(tS es vs)[n]?=some (some v)/\(tD es)[n]?=some (some x)
 | [],_,_,_,_,h,_,_=>by simp at h
 | _::_,[],_,_,_,_,h,_=>by simp at h
 | .v y::es,w::vs,0,x,v,h1,h2,_=>by
  simp at h1 h2
  subst h1;subst h2
  exact⟨0,rfl,rfl⟩
 | .s i::es,w::vs,0,x,v,h1,h2,_=>by simp at h1
 | .v y::es,w::vs,j+1,x,v,h1,h2,l=>by
  obtain⟨n,p,q⟩:=oE (by simpa using h1) (by simpa using h2) (by simpa using l)
  exact⟨n+1,by simpa [tS] using p,by simpa [tD] using q⟩
 | .s i::es,w::vs,j+1,x,v,h1,h2,l=>by
  obtain⟨n,p,q⟩:=oE (by simpa using h1) (by simpa using h2) (by simpa using l)
  exact⟨n,p,q⟩
def Aw{i:Nat}:∀{es:List Ev} {vs:List V} {j:Nat} {v:V},Paired (λ(e:Ev) (v:V)=>∀i,e=.s i->σ[i]?=some (some v)) es vs->es[j]?=some (.s i)->vs[j]?=some v->σ[i]?=some (some v):=by
 intro es vs j v p
 induction p generalizing j with
 | nil=>intro h;simp at h
 | cons q _ ih =>
  intro h h2
  cases j with
  | zero=>simp at h h2;subst h2;exact q i h
  | succ j=>exact ih (by simpa using h) (by simpa using h2)
def lI{j:Nat}{e:Ev}{m m':M}{b:Addr}{o:HO}{v:V}{d:I}(a:Args K κ ι H σ Z G es vs)(h1:es[j]?=some e)(h2:vs[j]?=some (.ref b))(h:pk Z G e=some m)
  (r:de K κ ι H b m->Kp H (aH H b o)->de K κ ι (aH H b o) b m') (rv:RpI K ι H v d) (hf:‹t8 m=false›) :
  After K κ σ ι (own (σ++tS es vs) (Z++tD es)++ι) H [.v (.im d)] (ir Z G m' e).1 (ir Z G m' e).2 [v] ι (aH H b o):=by
 have fin:∀{Z':De} {G':List M},SR K κ ι (aH H b o) σ Z' G'->Step ι (own (σ++tS es vs) (Z++tD es)++ι) H ι (own σ Z'++ι) (aH H b o)->After K κ σ ι (own (σ++tS es vs) (Z++tD es)++ι) H [.v (.im d)] Z' G' [v] ι (aH H b o):=λs st=>by
  refine⟨⟨s.len,s.push_im (rv.mono (bW.refl _) st.kp),.cons (λ_ h=>by cases h) .nil⟩,st.sub λx h=>?_⟩
  have h:x∈own (σ++[some v]) (_++[some (.im d)])++ι:=h
  rw [dP s.len] at h
  exact h
 cases e with
 | s i =>
  have al:=Aw a.al h1 h2
  have h:(match Z[i]? with|some (some (.ow m))=>some m|_=>none)=some m:=h
  split at h
  ·rename_i m0 e
   cases h
   obtain⟨p,q⟩:=a.base.poke al e r hf
   exact fin p (q.wide λx h=>cj a.l h)
  ·cases h
 | v x =>
  cases x with
  | im d =>
   cases d with
   | ref k =>
    have rr:=a.im h1 h2
    cases rr with
    | ref e =>
     obtain⟨p,q⟩:=a.base.pokeG e h r hf
     exact fin p (q.wide λx h=>cj a.l h)
   | _=>cases h
  | ow m0 =>
   cases h
   obtain⟨n,p1,p2⟩:=oE h1 h2 a.len
   have e1:(σ++tS es vs)[σ.length+n]?=some (some (.ref b)):=by rw [z23 (by lia)];simpa using p1
   have e2:(Z++tD es)[σ.length+n]?=some (some (.ow m)):=by rw [a.l,z23 (by lia)];simpa using p2
   obtain⟨p,q⟩:=a.sr.poke e1 e2 r hf
   have e3:(Z++tD es).set (σ.length+n) (some (.ow m'))=Z++(tD es).set n (some (.ow m')):=by rw [a.l,List.set_append_right _ _ (by lia)];simp
   rw [e3] at p q
   exact fin (p.pop a.l) (q.sub λx h=>cj a.l h)
end
end
section
section
abbrev aa(i:Nat):Mo Ev:=λZ G=>match Z[i]? with
 | some (some (.im d))=>some (.v (.im d),Z,G)
 | some (some (.ow _))=>some (.s i,Z,G)
 | _=>none
def Dt (h:aZ K κ (aa i) σ H Q):cR i σ H Q:=by
 obtain⟨ι,Z,G,e,Z',G',s,eq,k⟩:=h
 unfold aa at eq
 split at eq
 ·rename_i d hd
  cases eq
  obtain⟨v,e1,r⟩:=s.y179 hd
  refine⟨v,e1,k v ι H ⟨⟨s.len,s.push_im r,.cons (λ_ h=>by cases h) .nil⟩,(Step.refl _ _ _).sub λx h=>?_⟩⟩
  have h:x∈own (σ++[some v]) (Z++[some (.im d)])++ι:=h
  rw [dP s.len] at h
  exact h
 ·rename_i m hd
  cases eq
  obtain⟨a,e1,r⟩:=s.y17a hd
  have n:=After.nil s
  exact⟨_,e1,k _ ι H ⟨⟨s.len,n.ar.sr,.cons (λj h=>by cases h;exact e1) .nil⟩,n.st⟩⟩
 ·cases eq
abbrev ag(d:I):Mo Ev:=rt (.v (.im d))
def iK (r:∀ι H,RpI K ι H v d)(h:aZ K κ (ag d) σ H Q):tC v σ H Q:=by
 obtain⟨ι,Z,G,e,Z',G',s,eq,k⟩:=h
 cases eq
 have a:=aT (After.nil s).ar (r ι H)
 exact k _ _ _ ⟨a.ar,(After.nil s).st.trans a.st⟩
abbrev oF:Ev->Mo Ev
 | .v (.im d)=>rt (.v (.im d))
 | .v (.ow m)=>λZ G=>some (.v (.im (.ref G.length)),Z,G++[m])
 | .s i=>λZ G=>match Z[i]? with
  | some (some (.ow m))=>some (.v (.im (.ref G.length)),Z.set i (some (.im (.ref G.length))),G++[m])
  | _=>none
abbrev nj:Ev->Mo Ev
 | .v x=>rt (.v x)
 | .s i=>λZ G=>match Z[i]? with
  | some (some (.ow m))=>some (.v (.ow m),Z.set i none,G)
  | _=>none
abbrev bf(f:Mo Ev):Mo Ev:=bd f oF
abbrev iL(f:Mo Ev):Mo Ev:=bd f nj
def y65  (a:After K κ σ ι fp H [e] Z1 G1 [v] ι1 H1)(h:nj e Z1 G1=some (e',Z',G')):After K κ σ ι fp H [e'] Z' G' [v] ι1 H1/\∃x,e'=.v x:=by
 cases e with
 | v x=>cases h;exact⟨a,_,rfl⟩
 | s i =>
  unfold nj at h
  dsimp only at h
  split at h
  ·rename_i m hm
   cases h
   have al:=Aw (j:=0) a.ar.al rfl rfl
   obtain⟨b,e1,r⟩:=a.ar.base.y17a hm
   rw [al] at e1;cases e1
   obtain⟨p,q⟩:=a.ar.base.take al hm
   refine⟨⟨⟨by rw [z29];exact a.ar.l,p,.cons (λ_ h=>by cases h) .nil⟩,?_⟩,_,rfl⟩
   have st:=a.st
   have e0:own (σ++tS [.s i] [.ref b]) (Z1++tD [.s i])=own σ Z1:=by
    show own (σ++[]) (Z1++[])=_
    rw [z11,z11]
   rw [e0] at st
   exact st.trans q
  ·cases h
def y64  (a:After K κ σ ι fp H [e] Z1 G1 [v] ι1 H1)(h:oF e Z1 G1=some (e',Z',G')):∃ι2,After K κ σ ι fp H [e'] Z' G' [v] ι2 H1:=by
 have go:∀{Z3:De} {b:Addr} {m:M},σ.length=Z3.length->After K κ σ ι fp H [.v (.ow m)] Z3 G1 [.ref b] ι1 H1->After K κ σ ι fp H [.v (.im (.ref G1.length))] Z3 (G1++[m]) [.ref b] (ι1++[b]) H1:=λ{Z3 b m} l a=>by
  obtain⟨p,r,q⟩:=SR.box a.ar.sr l
  refine⟨⟨l,p.push_im r,.cons (λ_ h=>by cases h) .nil⟩,a.st.trans (q.sub λx h=>?_)⟩
  have h:x∈own (σ++[some (.ref b)]) (Z3++[some (.im (.ref G1.length))])++(ι1++[b]):=h
  rw [dP l] at h
  exact h
 cases e with
 | v x =>
  cases x with
  | im d=>cases h;exact⟨_,a⟩
  | ow m =>
   cases h
   have r:=qH (cf a.ar.l a.ar.sr.sl).2 (j:=0) rfl rfl
   cases r
   exact⟨_,go a.ar.l a⟩
 | s i =>
  unfold oF at h
  dsimp only at h
  split at h
  ·rename_i m hm
   cases h
   have al:=Aw (j:=0) a.ar.al rfl rfl
   have hm':nj (.s i) Z1 G1=some (.v (.ow m),Z1.set i none,G1):=by unfold nj;dsimp only;rw [hm]
   obtain⟨a',_⟩:=y65 a hm'
   obtain⟨b,e1,r⟩:=a.ar.base.y17a hm
   rw [al] at e1;cases e1
   have c:=go (by rw [z29];exact a.ar.l) a'
   have hr:RpI K (ι1++[b]) H1 (.ref b) (.ref G1.length):=c.ar.im (j:=0) rfl rfl
   have s0:=c.ar.base
   have l:σ.length=(Z1.set i (some (.im (.ref G1.length)))).length:=by rw [z29];exact a.ar.l
   have eo:∀x,bq x (own σ (Z1.set i (some (.im (.ref G1.length)))))=bq x (own σ (Z1.set i none)):=λx=>by
    have h1:=ua (y:=some (.im (.ref G1.length))) x al hm
    have h2:=ua (y:=none) x al hm
    rw [fU] at h1;rw [jE] at h2
    lia
   have sr:SR K κ (ι1++[b]) H1 σ (Z1.set i (some (.im (.ref G1.length)))) (G1++[m]):=by
    refine⟨?_,s0.gs,λx=>by rw [eo];exact s0.nd x⟩
    have:=lG s0.sl al (.im hr)
    rw [List.set_set] at this
    exact this
   refine⟨_,⟨l,sr.push_im hr,.cons (λ_ h=>by cases h) .nil⟩,c.st.sub λx h=>?_⟩
   have h:x∈own (σ++[some (.ref b)]) (Z1.set i (some (.im (.ref G1.length)))++[some (.im (.ref G1.length))])++(ι1++[b]):=h
   rw [dP l] at h
   show x∈own (σ++[some (.ref b)]) (Z1.set i none++[some (.im (.ref G1.length))])++(ι1++[b])
   rw [dP (by rw [z29];exact a.ar.l)]
   simp only [z1e] at h ⊢
   rcases h with h|h
   ·left;rw [gZ] at h ⊢;rw [<- eo];exact h
   ·exact .inr h
  ·cases h
def Du (h:aZ K κ (bf f) σ H Q):aZ K κ f σ H Q:=by
 obtain⟨ι,Z,G,e,Z',G',s,eq,k⟩:=h
 obtain⟨x,Z1,G1,e1,eq⟩:=bY eq
 refine⟨ι,Z,G,x,Z1,G1,s,e1,λv ι1 H1 a=>?_⟩
 obtain⟨ι2,b⟩:=y64 a eq
 exact k _ _ _ b
def ud (h:aZ K κ (iL f) σ H Q):aZ K κ f σ H Q:=by
 obtain⟨ι,Z,G,e,Z',G',s,eq,k⟩:=h
 obtain⟨x,Z1,G1,e1,eq⟩:=bY eq
 refine⟨ι,Z,G,x,Z1,G1,s,e1,λv ι1 H1 a=>?_⟩
 obtain⟨b,_⟩:=y65 a eq
 exact k _ _ _ b
abbrev dR:Ev->Option I
 | .v (.im d)=>some d
 | _=>none
abbrev je:List Ev->Option (List I)
 | []=>some []
 | e::es=>match dR e,je es with
  | some d,some ds=>some (d::ds)
  | _,_=>none
theorem y75:∀{es:List Ev} {vs:List V} {ds:List I},Paired (RpE K κ ι H) (tS es vs) (tD es)->es.length=vs.length->je es=some ds->y4f K ι H vs ds
 | [],[],_,_,_,h=>by cases h;exact .nil
 | [],_::_,_,_,l,_=>by cases l
 | _::_,[],_,_,l,_=>by cases l
 | e::es,v::vs,ds,p,l,h=>by
  unfold je at h
  split at h
  ·rename_i d ds' h1 h2
   cases h
   cases e with
   | s i=>cases h1
   | v x =>
    cases x with
    | ow m=>cases h1
    | im d' =>
     cases h1
     cases p with
     | cons q p =>
      cases q with
      | im r=>exact .cons r (y75 p (by simpa using l) h2)
  ·cases h
def Args.ims(a:Args K κ ι H σ Z G es vs)(h:je es=some ds):y4f K ι H vs ds:=y75 (cf a.l a.sr.sl).2 a.len h
abbrev b9:List Ev->Mo Ev:=λes Z G=>match je es with
 | some ds=>if ds.length≤1000 then some (.v (.im (.tup ds)),Z,G) else none
 | none=>none
abbrev aM:List Ev->Mo Ev:=λes Z G=>match je es with
 | some ds=>if ds.length≤1000 then some (.v (.ow (.lst ds)),Z,G) else none
 | none=>none
def ue:1000≤sizeLine:=by decide
def Dv:aE K κ (λvs H Q=>vs.length≤sizeLine/\∀p,H p=none->Q (.ref p) (aH H p (.tup vs))) b9:=by
 intro ι H σ Z G es vs e Z' G' Q a h k
 unfold b9 at h
 split at h
 ·rename_i ds hd
  split at h
  ·have r:=a.ims hd
   exact⟨by rw [r.len];exact z1a (by assumption) ue,λp hp=>k _ _ _ (bJ h (oC a hp r))⟩
  ·cases h
 ·cases h
def Dw:aE K κ (λvs H Q=>vs.length≤sizeLine/\∀p,H p=none->Q (.ref p) (aH H p (.lst vs))) aM:=by
 intro ι H σ Z G es vs e Z' G' Q a h k
 unfold aM at h
 split at h
 ·rename_i ds hd
  split at h
  ·have r:=a.ims hd
   exact⟨by rw [r.len];exact z1a (by assumption) ue,λp hp=>k _ _ _ (bJ h (fW a hp r))⟩
  ·cases h
 ·cases h
abbrev c8(K:W.Frag)(κ:Str->Addr)(f:Mo Bool):TT:=λσ H Q=>∃ι Z G b Z' G',SR K κ ι H σ Z G/\f Z G=some (b,Z',G')/\∀ι' H',SR K κ ι' H' σ Z' G'->Step ι (own σ Z++ι) H ι' (own σ Z'++ι') H'->Q b H'
abbrev Dx:Ev->Mo Bool
 | .v (.im (.bl b))=>rt b
 | _=>λ_ _=>none
abbrev ao(f:Mo Ev):Mo Bool:=bd f Dx
def After.drop (a:After K κ σ ι fp H [e] Z1 G1 [v] ι1 H1):SR K κ ι1 H1 σ Z1 G1/\Step ι fp H ι1 (own σ Z1++ι1) H1:=⟨a.ar.base,a.st.sub λx h=>cj a.ar.l h⟩
def g7 (h:c8 K κ (ao f) σ H Q):sd (aZ K κ f) σ H Q:=by
 obtain⟨ι,Z,G,b,Z',G',s,eq,k⟩:=h
 obtain⟨x,Z1,G1,e1,eq⟩:=bY eq
 refine⟨ι,Z,G,x,Z1,G1,s,e1,λv ι1 H1 a=>?_⟩
 unfold Dx at eq
 split at eq
 ·rename_i b'
  cases eq
  have r:=a.ar.im (j:=0) rfl rfl
  cases lr (r)
  obtain⟨p,q⟩:=a.drop
  exact⟨_,rfl,k _ _ p q⟩
 ·cases eq
abbrev eQ(c d:Mo Bool):Mo Bool:=bd c λb=>if b then d else rt false
abbrev dB(c d:Mo Bool):Mo Bool:=bd c λb=>if b then rt true else d
abbrev lJ(c:Mo Bool):Mo Bool:=bd c λb=>rt (!b)
def c8.go{Q Q':Bool->Hp->Prop} (s:SR K κ ι1 H1 σ Z1 G1)(st:Step ι fp H ι1 (own σ Z1++ι1) H1)(e:f Z1 G1=some (b,Z2,G2))
  (k:∀ι' H',SR K κ ι' H' σ Z2 G2->Step ι fp H ι' (own σ Z2++ι') H'->Q b H'):c8 K κ f σ H1 Q:=⟨ι1,Z1,G1,b,Z2,G2,s,e,λι' H' s' st'=>k ι' H' s' (st.trans st')⟩
def Dy (h:c8 K κ (eQ c d) σ H Q):rn (c8 K κ c) (c8 K κ d) σ H Q:=by
 obtain⟨ι,Z,G,b,Z',G',s,eq,k⟩:=h
 obtain⟨x,Z1,G1,e1,eq⟩:=bY eq
 refine⟨ι,Z,G,x,Z1,G1,s,e1,λι1 H1 s1 st=>?_⟩
 cases x with
 | true=>rw [if_pos rfl] at eq ⊢;exact c8.go (Q':=Q) s1 st eq k
 | false=>rw [if_neg z13] at eq ⊢;cases eq;exact k _ _ s1 st
def uf (h:c8 K κ (dB c d) σ H Q):tOr (c8 K κ c) (c8 K κ d) σ H Q:=by
 obtain⟨ι,Z,G,b,Z',G',s,eq,k⟩:=h
 obtain⟨x,Z1,G1,e1,eq⟩:=bY eq
 refine⟨ι,Z,G,x,Z1,G1,s,e1,λι1 H1 s1 st=>?_⟩
 cases x with
 | true=>rw [if_pos rfl] at eq ⊢;cases eq;exact k _ _ s1 st
 | false=>rw [if_neg z13] at eq ⊢;exact c8.go (Q':=Q) s1 st eq k
def Dz (h:c8 K κ (lJ c) σ H Q):rq (c8 K κ c) σ H Q:=by
 obtain⟨ι,Z,G,b,Z',G',s,eq,k⟩:=h
 obtain⟨x,Z1,G1,e1,eq⟩:=bY eq
 cases eq
 exact⟨ι,Z,G,x,_,_,s,e1,λι1 H1 s1 st=>k _ _ s1 st⟩
abbrev ifE(c:Mo Bool)(fa fb:Mo Ev):Mo Ev:=bd c λb=>if b then fa else fb
def aZ.go  (s:SR K κ ι1 H1 σ Z1 G1)(st:Step ι fp H ι1 (own σ Z1++ι1) H1)(eq:f Z1 G1=some (e,Z2,G2))
  (k:∀v ι' H',After K κ σ ι fp H [e] Z2 G2 [v] ι' H'->Q v H'):aZ K κ f σ H1 Q:=⟨ι1,Z1,G1,e,Z2,G2,s,eq,λv ι' H' a=>k v ι' H' ⟨a.ar,st.trans a.st⟩⟩
inductive Fl where
 | nx (Z:De) (G:List M)|rt (x:Vl) (G:List M)|bk (Z:De) (G:List M)|ct (Z:De) (G:List M)
noncomputable abbrev SF:=De->List M->Option Fl
abbrev yf(K:W.Frag)(κ:Str->Addr)(ι fp:List Addr)(H:Hp)(D:Ends):Fl->Prop
 | .nx Z' G'=>∀σ' ι' H',SR K κ ι' H' σ' Z' G'->Step ι fp H ι' (own σ' Z'++ι') H'->D.nx σ' H'
 | .bk Z' G'=>∀σ' ι' H',SR K κ ι' H' σ' Z' G'->Step ι fp H ι' (own σ' Z'++ι') H'->D.bk σ' H'
 | .ct Z' G'=>∀σ' ι' H',SR K κ ι' H' σ' Z' G'->Step ι fp H ι' (own σ' Z'++ι') H'->D.ct σ' H'
 | .rt x G'=>∀v ι' H',SR K κ ι' H' [some v] [some x] G'->Step ι fp H ι' (own [some v] [some x]++ι') H'->D.rt v H'
abbrev cT(K:W.Frag)(κ:Str->Addr)(f:SF):TS:=λD σ H=>∃ι Z G fl,SR K κ ι H σ Z G/\f Z G=some fl/\yf K κ ι (own σ Z++ι) H D fl
def yf.step (st:Step ι fp H ι1 fq H1)(h:yf K κ ι fp H D fl):yf K κ ι1 fq H1 D fl:=by
 cases fl with
 | nx Z' G'=>exact λσ' ι' H' s t=>h σ' ι' H' s (st.trans t)
 | bk Z' G'=>exact λσ' ι' H' s t=>h σ' ι' H' s (st.trans t)
 | ct Z' G'=>exact λσ' ι' H' s t=>h σ' ι' H' s (st.trans t)
 | rt x G'=>exact λv ι' H' s t=>h v ι' H' s (st.trans t)
def cT.of (s:SR K κ ι1 H1 σ Z1 G1)(st:Step ι fp H ι1 (own σ Z1++ι1) H1)(eq:f Z1 G1=some fl)(k:yf K κ ι fp H D fl):cT K κ f D σ H1:=⟨ι1,Z1,G1,fl,s,eq,k.step st⟩
abbrev aP:SF:=λZ G=>some (.nx Z G)
abbrev ak(a b:SF):SF:=λZ G=>match a Z G with
 | some (.nx Z1 G1)=>b Z1 G1
 | r=>r
def DA(h:cT K κ aP D σ H):rB D σ H:=by
 obtain⟨ι,Z,G,fl,s,eq,k⟩:=h
 cases eq
 exact k _ _ _ s (Step.refl _ _ _)
def ug (h:cT K κ (ak a b) D σ H):kI (cT K κ a) (cT K κ b) D σ H:=by
 obtain⟨ι,Z,G,fl,s,eq,k⟩:=h
 unfold ak at eq
 split at eq
 ·rename_i Z1 G1 e1
  exact⟨ι,Z,G,_,s,e1,λσ' ι' H' s' t=>cT.of s' t eq k⟩
 ·rename_i r hn
  cases fl with
  | nx Z' G'=>exact absurd eq (hn Z' G')
  | bk Z' G'=>exact⟨ι,Z,G,_,s,eq,k⟩
  | ct Z' G'=>exact⟨ι,Z,G,_,s,eq,k⟩
  | rt x G'=>exact⟨ι,Z,G,_,s,eq,k⟩
abbrev aF(c:Mo Bool)(a b:SF):SF:=λZ G=>match c Z G with
 | some (true,Z1,G1)=>a Z1 G1
 | some (false,Z1,G1)=>b Z1 G1
 | none=>none
def uh (h:cT K κ (aF c a b) D σ H):nK (c8 K κ c) (cT K κ a) (cT K κ b) D σ H:=by
 obtain⟨ι,Z,G,fl,s,eq,k⟩:=h
 unfold aF at eq
 split at eq
 ·rename_i Z1 G1 e1
  exact⟨ι,Z,G,true,Z1,G1,s,e1,λι' H' s' t=>by dsimp only;rw [if_pos rfl];exact cT.of s' t eq k⟩
 ·rename_i Z1 G1 e1
  exact⟨ι,Z,G,false,Z1,G1,s,e1,λι' H' s' t=>by dsimp only;rw [if_neg z13];exact cT.of s' t eq k⟩
 ·cases eq
abbrev cX(f:Mo Ev):SF:=λZ G=>match f Z G with
 | some (_,Z1,G1)=>some (.nx Z1 G1)
 | none=>none
def DB (h:cT K κ (cX f) D σ H):nJ (aZ K κ f) D σ H:=by
 obtain⟨ι,Z,G,fl,s,eq,k⟩:=h
 unfold cX at eq
 split at eq
 ·rename_i e Z1 G1 e1
  cases eq
  refine⟨ι,Z,G,e,Z1,G1,s,e1,λv ι' H' a=>?_⟩
  obtain⟨p,q⟩:=a.drop
  exact k _ _ _ p q
 ·cases eq
def SR.last (h:SR K κ ι H (σ++[some v]) (Z++[some x]) G)(l:σ.length=Z.length):SR K κ ι H [some v] [some x] G/\∀a,a∈own [some v] [some x]++ι->a∈own (σ++[some v]) (Z++[some x])++ι:=by
 obtain⟨p,q⟩:=cf l h.sl
 refine⟨⟨q,h.gs,λa=>?_⟩,λa ha=>?_⟩
 ·have:=h.nd a
  rw [bR _ _ l] at this
  simp only [bq,z17] at this ⊢
  lia
 ·rw [bR _ _ l]
  simp only [z1e] at ha ⊢
  rcases ha with ha|ha
  ·exact .inl (.inr ha)
  ·exact .inr ha
abbrev ax(f:Mo Ev):SF:=λZ G=>match iL f Z G with
 | some (.v x,_,G1)=>some (.rt x G1)
 | _=>none
def uk (h:cT K κ (ax f) D σ H):rC (aZ K κ f) D σ H:=by
 obtain⟨ι,Z,G,fl,s,eq,k⟩:=h
 unfold ax at eq
 split at eq
 ·rename_i x Z1 G1 e1
  cases eq
  refine ud ⟨ι,Z,G,_,Z1,G1,s,e1,λv ι' H' a=>?_⟩
  obtain⟨p,q⟩:=SR.last a.ar.sr a.ar.l
  exact k _ _ _ p (a.st.sub q)
 ·cases eq
abbrev DD:SF:=λ_ G=>some (.rt (.im .non) G)
noncomputable abbrev GF:=Vl->De->List M->Option (De×List M)
abbrev nq(K:W.Frag)(κ:Str->Addr)(g:GF):TG:=λv σ H Q=>∃ι Z G x Z' G',σ.length=Z.length/\SR K κ ι H (σ++[some v]) (Z++[some x]) G/\g x Z G=some (Z',G') /\
 ∀σ' ι' H',SR K κ ι' H' σ' Z' G'->Step ι (own (σ++[some v]) (Z++[some x])++ι) H ι' (own σ' Z'++ι') H'->Q σ' H'
abbrev aG(i:Nat):GF:=λx Z G=>some (Z.set i (some x),G)
def oG (h:nq K κ (aG i) v σ H Q):gQ i v σ H Q:=by
 obtain⟨ι,Z,G,x,Z',G',l,s,eq,k⟩:=h
 cases eq
 exact k _ _ _ (s.store l) ((Step.refl _ _ _).sub λa ha=>Dn l ha)
abbrev aN(f:Mo Ev)(g:GF):SF:=λZ G=>match iL f Z G with
 | some (.v x,Z1,G1)=>match g x Z1 G1 with
  | some (Z2,G2)=>some (.nx Z2 G2)
  | none=>none
 | _=>none
def oH (h:cT K κ (aN f g) D σ H):fQ (aZ K κ f) (nq K κ g) D σ H:=by
 obtain⟨ι,Z,G,fl,s,eq,k⟩:=h
 unfold aN at eq
 split at eq
 ·rename_i x Z1 G1 e1
  split at eq
  ·rename_i Z2 G2 e2
   cases eq
   refine ud ⟨ι,Z,G,_,Z1,G1,s,e1,λv ι' H' a=>?_⟩
   exact⟨ι',Z1,G1,x,Z2,G2,a.ar.l,a.ar.sr,e2,λσ' ι2 H2 s2 st=>k _ _ _ s2 (a.st.trans st)⟩
  ·cases eq
 ·cases eq
end
end
section
section
abbrev fX(c:Mo Bool)(b:SF):Nat->SF
 | 0,_,_=>none
 | n+1,Z,G=>match c Z G with
  | some (true,Z1,G1)=>match b Z1 G1 with
   | some (.nx Z2 G2)=>fX c b n Z2 G2
   | some (.ct Z2 G2)=>fX c b n Z2 G2
   | some (.bk Z2 G2)=>some (.nx Z2 G2)
   | some (.rt x G2)=>some (.rt x G2)
   | none=>none
  | some (false,Z1,G1)=>some (.nx Z1 G1)
  | none=>none
theorem oI  : ∀{n:Nat} {Z:De} {G:List M} {fl:Fl},fX c b n Z G=some fl->fX c b (n+1) Z G=some fl
 | 0,_,_,_,h=>by cases h
 | n+1,Z,G,fl,h=>by
  unfold fX at h ⊢
  cases e:c Z G with
  | none=>rw [e] at h;cases h
  | some r =>
   obtain⟨t,Z1,G1⟩:=r
   rw [e] at h
   cases t with
   | false=>exact h
   | true =>
    cases e2:b Z1 G1 with
    | none=>dsimp only at h;rw [e2] at h;cases h
    | some fl2 =>
     dsimp only at h
     rw [e2] at h
     dsimp only
     rw [e2]
     cases fl2 with
     | nx Z2 G2=>exact oI h
     | ct Z2 G2=>exact oI h
     | bk Z2 G2=>exact h
     | rt x G2=>exact h
def um   (h:fX c b n Z G=some fl)(l:n≤m):fX c b m Z G=some fl:=by
 induction l with
 | refl=>exact h
 | step _ ih=>exact oI ih
open Classical in
abbrev gH(c:Mo Bool)(b:SF):SF:=λZ G=>if h:∃n fl,fX c b n Z G=some fl then some (choose (choose_spec h)) else none
def oJ   (h:fX c b n Z G=some fl):gH c b Z G=some fl:=by
 have ex:∃n fl,fX c b n Z G=some fl:=⟨n,fl,h⟩
 unfold gH
 rw [dif_pos ex]
 have q:=Classical.choose_spec (Classical.choose_spec ex)
 have h1:=um h (Nat.le_max_left n (Classical.choose ex))
 have h2:=um q (Nat.le_max_right n (Classical.choose ex))
 rw [h1] at h2
 exact h2.symm
def oK  (h:gH c b Z G=some fl):∃n,fX c b n Z G=some fl:=by
 unfold gH at h
 split at h
 ·rename_i ex
  have q:=Classical.choose_spec (Classical.choose_spec ex)
  cases h
  exact⟨_,q⟩
 ·cases h
def uo  (h1:c Z G=some (true,Z1,G1))(h2:b Z1 G1=some (.nx Z2 G2)):gH c b Z G=gH c b Z2 G2:=by
 cases e:gH c b Z2 G2 with
 | some fl =>
  obtain⟨n,hn⟩:=oK e
  refine oJ (n:=n+1) ?_
  unfold fX
  rw [h1];dsimp only;rw [h2];exact hn
 | none =>
  cases e':gH c b Z G with
  | none=>rfl
  | some fl =>
   obtain⟨n,hn⟩:=oK e'
   cases n with
   | zero=>cases hn
   | succ n =>
    unfold fX at hn
    rw [h1] at hn;dsimp only at hn;rw [h2] at hn
    have:=oJ hn
    rw [e] at this;cases this
def oM  (h1:c Z G=some (false,Z1,G1)):gH c b Z G=some (.nx Z1 G1):=by
 refine oJ (n:=1) ?_
 unfold fX
 rw [h1]
def DE (h:cT K κ (gH c b) D σ H):rK (c8 K κ c) (cT K κ b) D σ H:=by
 obtain⟨ι,Z,G,fl,s,eq,k⟩:=h
 obtain⟨n,hn⟩:=oK eq
 refine⟨λm σ' H'=>∃ι' Z' G',SR K κ ι' H' σ' Z' G'/\Step ι (own σ Z++ι) H ι' (own σ' Z'++ι') H'/\fX c b m Z' G'=some fl,⟨n,ι,Z,G,s,Step.refl _ _ _,hn⟩,?_⟩
 rintro m σ' H' ⟨ι',Z',G',s',st,e⟩
 cases m with
 | zero=>cases e
 | succ m =>
  unfold fX at e
  split at e
  ·rename_i Z1 G1 e1
   refine⟨ι',Z',G',true,Z1,G1,s',e1,λι1 H1 s1 st1=>?_⟩
   dsimp only
   rw [if_pos rfl]
   refine⟨λσ2 H2=>∃ι2 Z2 G2,SR K κ ι2 H2 σ2 Z2 G2/\Step ι (own σ Z++ι) H ι2 (own σ2 Z2++ι2) H2/\fX c b m Z2 G2=some fl,λσ2 H2 q=>⟨m,z37 _,q⟩,?_⟩
   split at e
   ·rename_i Z2 G2 e2
    exact⟨ι1,Z1,G1,_,s1,e2,λσ2 ι2 H2 s2 st2=>⟨ι2,Z2,G2,s2,(st.trans st1).trans st2,e⟩⟩
   ·rename_i Z2 G2 e2
    exact⟨ι1,Z1,G1,_,s1,e2,λσ2 ι2 H2 s2 st2=>⟨ι2,Z2,G2,s2,(st.trans st1).trans st2,e⟩⟩
   ·rename_i Z2 G2 e2
    cases e
    exact⟨ι1,Z1,G1,_,s1,e2,λσ2 ι2 H2 s2 st2=>k _ _ _ s2 ((st.trans st1).trans st2)⟩
   ·rename_i x G2 e2
    cases e
    exact⟨ι1,Z1,G1,_,s1,e2,λv ι2 H2 s2 st2=>k _ _ _ s2 ((st.trans st1).trans st2)⟩
   ·cases e
  ·rename_i Z1 G1 e1
   cases e
   refine⟨ι',Z',G',false,Z1,G1,s',e1,λι1 H1 s1 st1=>?_⟩
   dsimp only
   rw [if_neg z13]
   exact k _ _ _ s1 (st.trans st1)
  ·cases e
structure Wk where
 n:Nat
 at_:Nat->De->List M->Option I
 fin:De->List M->Bool
structure Walks(K:W.Frag)(κ:Str->Addr)(J:It)(τ:St)(θ:De)(w:Wk):Prop where
 go:∀{i:Nat} {d:I} {ι:List Addr} {H:Hp} {σ:St} {Z:De} {G:List M},i<w.n->w.at_ i Z G=some d->σ.length=Z.length->SR K κ ι H (σ++τ) (Z++θ) G->J.go i H/\∀x H',J.yld i H x H'->dA H H'/\RpI K ι H' x d
 stop:∀{ι:List Addr} {H:Hp} {σ:St} {Z:De} {G:List M},w.fin Z G=true->σ.length=Z.length->SR K κ ι H (σ++τ) (Z++θ) G->J.stop w.n H
abbrev bC(w:Wk)(g:GF)(b:SF):Nat->Nat->SF
 | i,0,Z,G=>if w.fin Z G then some (.nx Z G) else none
 | i,r+1,Z,G=>match w.at_ i Z G with
  | some d=>match g (.im d) Z G with
   | some (Z1,G1)=>match b Z1 G1 with
    | some (.nx Z2 G2)=>bC w g b (i+1) r Z2 G2
    | some (.ct Z2 G2)=>bC w g b (i+1) r Z2 G2
    | some (.bk Z2 G2)=>some (.nx Z2 G2)
    | some (.rt x G2)=>some (.rt x G2)
    | none=>none
   | none=>none
  | none=>none
noncomputable abbrev IF:=De->List M->Option (Wk×List Ev×De×List M)
abbrev nr(K:W.Frag)(κ:Str->Addr)(f:IF):TI:=λσ H R=>∃ι Z G w es Z' G',SR K κ ι H σ Z G/\f Z G=some (w,es,Z',G') /\
 ∀J vs ι' H',After K κ σ ι (own σ Z++ι) H es Z' G' vs ι' H'->Walks K κ J (tS es vs) (tD es) w->R J H'
abbrev dh(f:IF)(g:GF)(b:SF):SF:=λZ G=>match f Z G with
 | some (w,_,Z1,G1)=>bC w g b 0 w.n Z1 G1
 | none=>none
def DF  (h:cT K κ (dh f g b) D σ H):nQ (nr K κ f) (nq K κ g) (cT K κ b) D σ H:=by
 obtain⟨ι,Z,G,fl,s,eq,k⟩:=h
 unfold dh at eq
 split at eq
 ·rename_i w es Z1 G1 e1
  refine⟨ι,Z,G,w,es,Z1,G1,s,e1,λJ vs ι1 H1 a wk=>?_⟩
  refine⟨λi m σ' H'=>i+m=w.n/\∃ι' Z' G',σ'.length=Z'.length/\SR K κ ι' H' (σ'++tS es vs) (Z'++tD es) G'/\Step ι (own σ Z++ι) H ι' (own (σ'++tS es vs) (Z'++tD es)++ι') H'/\bC w g b i m Z' G'=some fl,
   ⟨w.n,by lia,ι1,Z1,G1,a.ar.l,a.ar.sr,a.st,eq⟩,?_⟩
  rintro i m σ' H' ⟨him,ι',Z',G',l,s',st,e⟩
  have sub:∀a,a∈own σ' Z'++ι'->a∈own (σ'++tS es vs) (Z'++tD es)++ι':=λa ha=>cj l ha
  cases m with
  | zero =>
   have hi:i=w.n:=by lia
   subst hi
   unfold bC at e
   split at e
   ·rename_i hf
    cases e
    exact .inl ⟨wk.stop hf l s',k _ _ _ (s'.pop l) (st.sub sub)⟩
   ·cases e
  | succ m =>
   unfold bC at e
   split at e
   ·rename_i d hd
    obtain⟨go,yl⟩:=wk.go (by lia) hd l s'
    refine .inr ⟨go,λσ2 H2=>∃ι2 Z2 G2,σ2.length=Z2.length/\SR K κ ι2 H2 (σ2++tS es vs) (Z2++tD es) G2/\Step ι (own σ Z++ι) H ι2 (own (σ2++tS es vs) (Z2++tD es)++ι2) H2/\bC w g b (i+1) m Z2 G2=some fl,
     λσ2 H2 q=>⟨m,z37 _,by lia,q⟩,λx H3 hy=>?_⟩
    obtain⟨sm,rx⟩:=yl x H3 hy
    have s3:=s'.same sm
    have st3:=st.trans (Step.same sm)
    split at e
    ·rename_i Z4 G4 e4
     have p:=(s3.pop l).push_im rx
     refine⟨ι',Z',G',.im d,Z4,G4,l,p,e4,λσ4 ι4 H4 s4 st4=>?_⟩
     rw [dP l] at st4
     have jn:∀{σ5:St} {Z5:De} {G5:List M} {ι5:List Addr} {H5:Hp},SR K κ ι5 H5 σ5 Z5 G5->Step ι4 (own σ4 Z4++ι4) H4 ι5 (own σ5 Z5++ι5) H5 ->
       SR K κ ι5 H5 (σ5++tS es vs) (Z5++tD es) G5/\Step ι (own σ Z++ι) H ι5 (own (σ5++tS es vs) (Z5++tD es)++ι5) H5:=λ{σ5 Z5 G5 ι5 H5} s5 st5=>by
      have j:=SR.join s3 l (by rw [z11,z11];exact s5) s5.len (by rw [z11,z11];exact st4.trans st5)
      rw [z11,z11] at j
      exact⟨j.1,st3.trans j.2⟩
     split at e
     ·rename_i Z5 G5 e5
      exact⟨ι4,Z4,G4,_,s4,e5,λσ5 ι5 H5 s5 st5=>⟨ι5,Z5,G5,s5.len,(jn s5 st5).1,(jn s5 st5).2,e⟩⟩
     ·rename_i Z5 G5 e5
      exact⟨ι4,Z4,G4,_,s4,e5,λσ5 ι5 H5 s5 st5=>⟨ι5,Z5,G5,s5.len,(jn s5 st5).1,(jn s5 st5).2,e⟩⟩
     ·rename_i Z5 G5 e5
      cases e
      exact⟨ι4,Z4,G4,_,s4,e5,λσ5 ι5 H5 s5 st5=>k _ _ _ s5 ((jn s5 st5).2.sub λa ha=>cj s5.len ha)⟩
     ·rename_i x5 G5 e5
      cases e
      refine⟨ι4,Z4,G4,_,s4,e5,λv ι5 H5 s5 st5=>k _ _ _ s5 ((jn s5 st5).2.sub λa ha=>cj s5.len ha)⟩
     ·cases e
    ·cases e
   ·cases e
 ·cases eq
end
end
section
section
def uq(l:σ.length=Z.length)(l2:τ.length=θ.length):bq a (own (τ++σ) (θ++Z))=bq a (own (σ++τ) (Z++θ)):=by
 rw [bR _ _ l,bR _ _ l2]
 simp only [bq,z17]
 lia
def SR.swap(h:SR K κ ι H (σ++τ) (Z++θ) G)(l:σ.length=Z.length):SR K κ ι H (τ++σ) (θ++Z) G:=by
 obtain⟨p,q⟩:=cf l h.sl
 exact⟨df q p,h.gs,λa=>by rw [uq l (Paired.length q)];exact h.nd a⟩
def iM (l:σ.length=Z.length)(l2:τ.length=θ.length)(h:a∈own (τ++σ) (θ++Z)++l1):a∈own (σ++τ) (Z++θ)++l1:=by
 simp only [z1e] at h ⊢
 rcases h with h|h
 ·left;rw [gZ] at h ⊢;rw [<- uq l l2];exact h
 ·exact .inr h
noncomputable abbrev FF:=List Vl->List M->Option (Vl×List M)
abbrev aQ(K:W.Frag)(κ:Str->Addr)(n:Nat)(fn:FF):Sp:=λvs H Q _=>∃ι xs G x G',xs.length=n/\SR K κ ι H (vs.map some) (xs.map some) G/\fn xs G=some (x,G') /\
 ∀v ι' H',SR K κ ι' H' [some v] [some x] G'->Step ι (own (vs.map some) (xs.map some)++ι) H ι' (own [some v] [some x]++ι') H'->Q v H'
abbrev nt:List Ev->Option (List Vl)
 | []=>some []
 | .v x::es=>(nt es).map (x::·)
 | .s _::_=>none
abbrev aB(n:Nat)(fn:FF):List Ev->Mo Ev:=λes Z G=>match nt es with
 | some xs=>if xs.length=n then match fn xs G with
  | some (x,G')=>some (.v x,Z,G')
  | none=>none
  else none
 | none=>none
theorem oN:∀{es:List Ev} {vs:List V} {xs:List Vl},nt es=some xs->es.length=vs.length->tS es vs=vs.map some/\tD es=xs.map some
 | [],[],_,h,_=>by cases h;exact⟨rfl,rfl⟩
 | [],_::_,_,_,l=>by cases l
 | _::_,[],_,_,l=>by cases l
 | .s i::_,_::_,_,h,_=>by cases h
 | .v x::es,v::vs,xs,h,l=>by
  have h:(nt es).map (x::·)=some xs:=h
  cases e:nt es with
  | none=>rw [e] at h;cases h
  | some ys =>
   rw [e] at h;cases h
   obtain⟨p,q⟩:=oN e (by simpa using l)
   exact⟨by show some v::tS es vs=_;rw [p];rfl,by show some x::tD es=_;rw [q];rfl⟩
def DH  : aE K κ (λvs H Q=>aQ K κ n fn vs H Q E) (aB n fn):=by
 intro ι H σ Z G es vs e Z' G' Q a h k
 unfold aB at h
 split at h
 ·rename_i xs hx
  split at h
  ·rename_i hl
   split at h
   ·rename_i x G1 e1
    cases h
    obtain⟨t1,t2⟩:=oN hx a.len
    have sr:=a.sr
    rw [t1,t2] at sr k
    have sw:=sr.swap a.l
    have lt:(vs.map some).length=(xs.map some).length:=Paired.length (cf a.l sr.sl).2
    refine⟨ι,xs,G,x,_,hl,sw.pop lt,e1,λv ι' H' s st=>?_⟩
    have s':SR K κ ι' H' ([some v]++[]) ([some x]++[]) _:=s
    obtain⟨j1,j2⟩:=SR.join sw lt s' rfl st
    rw [z11,z11] at j1 j2
    refine k v ι' H' ⟨⟨a.l,j1.swap rfl,.cons (λ_ h=>by cases h) .nil⟩,(j2.wide λy hy=>iM a.l lt hy).sub λy hy=>?_⟩
    exact iM rfl a.l hy
   ·cases h
  ·cases h
 ·cases h
abbrev aU(n r:Nat)(body:SF):FF:=λxs G=>if xs.length=n then match body (xs.map some++List.replicate r none) G with
 | some (.rt x G')=>some (x,G')
 | some (.nx _ G')=>some (.im .non,G')
 | _=>none
 else none
theorem ur:∀(r:Nat),Paired (RpE K κ ι H) (List.replicate r none) (List.replicate r none)
 | 0=>.nil
 | r+1=>.cons (.no _) (ur r)
theorem uu:∀(r:Nat),own (List.replicate r none) (List.replicate r none)=[]
 | 0=>rfl
 | r+1=>uu r
def SR.y295(h:SR K κ ι H σ Z G)(r:Nat):SR K κ ι H (σ++List.replicate r none) (Z++List.replicate r none) G/\own (σ++List.replicate r none) (Z++List.replicate r none)=own σ Z:=by
 have e:own (σ++List.replicate r none) (Z++List.replicate r none)=own σ Z:=by rw [bR _ _ h.len,uu,z11]
 exact⟨⟨df h.sl (ur r),h.gs,λa=>by rw [e];exact h.nd a⟩,e⟩
def lK  (h:aQ K κ n (aU n r body) vs H Q E):vs.length=n/\cT K κ body { nx:=λ_ H'=>Q .non H',rt:=Q } (vs.map some++List.replicate r none) H:=by
 obtain⟨ι,xs,G,x,G',hl,s,eq,k⟩:=h
 have lv:vs.length=n:=by have:=s.len;rw [z12,z12] at this;lia
 refine⟨lv,?_⟩
 unfold aU at eq
 rw [if_pos hl] at eq
 obtain⟨s0,e0⟩:=s.y295 r
 split at eq
 ·rename_i x' G1 e1
  cases eq
  refine⟨ι,_,G,_,s0,e1,?_⟩
  rw [e0]
  exact λv ι' H' s' st=>k v ι' H' s' st
 ·rename_i Z1 G1 e1
  cases eq
  refine⟨ι,_,G,_,s0,e1,?_⟩
  rw [e0]
  intro σ' ι' H' s' st
  obtain⟨p,q⟩:=SR.last (s'.push_im .non) s'.len
  refine k _ _ _ p (st.sub λa ha=>?_)
  have:=q a ha
  rw [dP s'.len] at this
  exact this
 ·cases eq
abbrev uv(K:W.Frag)(κ:Str->Addr)(r:List V->Hp->(It->Hp->Prop)->Prop)(p:List Ev->De->List M->Option Wk):Prop :=
 ∀(ι:List Addr) (H:Hp) (σ:St) (Z:De) (G:List M) (es:List Ev) (vs:List V) (w:Wk) (R:It->Hp->Prop),Args K κ ι H σ Z G es vs->p es Z G=some w ->
  (∀J,Walks K κ J (tS es vs) (tD es) w->R J H)->r vs H R
abbrev cH(fa:Mo (List Ev))(p:List Ev->De->List M->Option Wk):IF:=λZ G=>match fa Z G with
 | some (es,Z1,G1)=>(p es Z1 G1).map λw=>(w,es,Z1,G1)
 | none=>none
def lL  (hp:uv K κ r p)(h:nr K κ (cH fa p) σ H R):fV K κ fa σ H λvs H1=>r vs H1 R:=by
 obtain⟨ι,Z,G,w,es,Z',G',s,eq,k⟩:=h
 unfold cH at eq
 split at eq
 ·rename_i es1 Z1 G1 e1
  cases q:p es1 Z1 G1 with
  | none=>rw [q] at eq;cases eq
  | some w' =>
   rw [q] at eq
   cases eq
   exact⟨ι,Z,G,_,_,_,s,e1,λvs ι1 H1 a=>hp _ _ _ _ _ _ _ _ _ a.ar q λJ wk=>k J vs ι1 H1 a wk⟩
 ·cases eq
abbrev one(f:Mo Ev):Mo (List Ev):=bd f λe=>rt [e]
def lM (h:fV K κ (one f) σ H λvs H1=>∃v,vs=[v]/\Q v H1):aZ K κ f σ H Q:=by
 obtain⟨ι,Z,G,es,Z',G',s,eq,k⟩:=h
 obtain⟨x,Z1,G1,e1,eq⟩:=bY eq
 cases eq
 refine⟨ι,Z,G,x,_,_,s,e1,λv ι1 H1 a=>?_⟩
 obtain⟨v',e',q⟩:=k _ _ _ a
 cases e'
 exact q
abbrev fj:List Ev->De->List M->Option Wk:=λes _ _=>match es with
 | [.v (.im (.int j))]=>if j<2 ^ 62/\-(2 ^ 62)≤j then some ⟨j.toNat,λi _ _=>some (.int i),λ_ _=>true⟩ else none
 | _=>none
def DI   : Walks K κ (rL lo n) τ θ ⟨n,λi _ _=>some (.int (lo+i)),λ_ _=>true⟩ where
 go:=λhi hd _ _=>by
  cases hd
  refine⟨hi,λx H' y=>?_⟩
  obtain⟨e1,e2⟩:=y
  subst e1;subst e2
  exact⟨(λ_ _ h=>h),.int _⟩
 stop:=λ_ _ _=>z10 _
def DJ:uv K κ (λvs H R=>∃j:Int,vs=[.int j]/\-(2 ^ 62)≤j/\j<2 ^ 62/\R (rL 0 j.toNat) H) fj:=by
 intro ι H σ Z G es vs w R a h k
 unfold fj at h
 split at h
 ·rename_i j
  split at h
  ·rename_i hj
   cases h
   obtain⟨v,rfl⟩:=bQ a.len
   have r:=a.im (j:=0) rfl rfl
   cases cG (r)
   refine⟨j,rfl,hj.2,hj.1,k _ ?_⟩
   have:=DI (K:=K) (κ:=κ) (lo:=0) (n:=j.toNat) (τ:=tS [.v (.im (.int j))] [.int j]) (θ:=tD [.v (.im (.int j))])
   simpa using this
  ·cases h
 ·cases h
abbrev ck(e:Ev)(n:Nat):Wk:=⟨n,λi Z G=>(sq Z G e).bind (·[i]?),λZ G=>match sq Z G e with|some xs=>decide (xs.length≤n)|none=>false⟩
abbrev oO(Z:De)(G:List M):Ev->Bool
 | .v (.im (.fro _))=>true
 | .v (.im (.ref _))=>true
 | .v (.ow (.lst _))=>true
 | _=>false
abbrev uw:List Ev->De->List M->Option Wk:=λes Z G=>match es with
 | [e]=>if oO Z G e then (sq Z G e).map λxs=>ck e xs.length else none
 | _=>none
abbrev DK:List Ev->De->List M->Option Wk:=λes Z G=>match es with
 | [.v (.im (.tup xs))]=>some (ck (.v (.im (.tup xs))) xs.length)
 | [.v (.im (.con xs))]=>some (ck (.v (.im (.con xs))) xs.length)
 | _=>none
def Ax (he:e=.v x)(l:σ.length=Z.length)(h:SR K κ ι H (σ++tS [e] [v]) (Z++tD [e]) G):Args K κ ι H σ Z G [e] [v]:=⟨l,h,.cons (λi q=>by rw [he] at q;cases q) .nil⟩
def oP (a:Args K κ ι H σ Z G [e] [v])(hl:oO Z G e=true)(h:sq Z G e=some xs):∃b ys,v=.ref b/\bw K H b ys/\y4f K ι H ys xs:=by
 cases e with
 | s i=>cases hl
 | v x =>
  cases x with
  | ow m =>
   cases m with
   | lst ys =>
    cases h
    obtain⟨b,e1,zs,h3,r⟩:=a.pk (j:=0) rfl rfl rfl
    exact⟨b,zs,e1,bw.of h3,r⟩
   | _=>cases hl
  | im d =>
   cases d with
   | fro ys =>
    cases h
    have r:=a.im (j:=0) rfl rfl
    obtain⟨_,_,rfl,q,r9⟩:=t7 r
    exact⟨_,_,rfl,q.sq,r9⟩
   | ref k =>
    have h:(match pk Z G (.v (.im (.ref k))) with|some (.lst xs)=>some xs|_=>none)=some xs:=h
    split at h
    ·rename_i ys e1
     cases h
     obtain⟨b,e1,zs,h3,r⟩:=a.pk (j:=0) rfl rfl e1
     exact⟨b,zs,e1,bw.of h3,r⟩
    ·cases h
   | _=>cases hl
def ux(h:oO Z G e=true):∃x,e=.v x:=by
 cases e with
 | v x=>exact⟨x,rfl⟩
 | s i=>cases h
def uy(h:oO Z G e=true):oO Z1 G1 e=true:=by
 cases e with
 | s i=>cases h
 | v x =>
  cases x with
  | ow m=>cases m<;>first|rfl|cases h
  | im d=>cases d<;>first|rfl|cases h
def DL (hl:oO Z G e=true):Walks K κ (An K b) (tS [e] [.ref b]) (tD [e]) (ck e n) where
 go:=λ{i d ι H σ Z' G'} hi hd l s=>by
  obtain⟨x,hx⟩:=ux hl
  have hd:(sq Z' G' e).bind (·[i]?)=some d:=hd
  cases q:sq Z' G' e with
  | none=>rw [q] at hd;cases hd
  | some xs =>
   rw [q] at hd
   obtain⟨b',ys,e1,h1,r⟩:=oP (Ax hx l s) (uy hl) q
   cases e1
   obtain⟨v,hv,rv⟩:=r.get hd
   refine⟨⟨ys,v,h1,hv⟩,λx H' y=>?_⟩
   obtain⟨e2,e3⟩:=y
   subst e2
   have:=e3 ys h1
   rw [hv] at this;cases this
   exact⟨(λ_ _ h=>h),rv⟩
 stop:=λ{ι H σ Z' G'} hf l s=>by
  obtain⟨x,hx⟩:=ux hl
  have hf:(match sq Z' G' e with|some xs=>decide (xs.length≤n)|none=>false)=true:=hf
  cases q:sq Z' G' e with
  | none=>rw [q] at hf;cases hf
  | some xs =>
   rw [q] at hf
   obtain⟨b',ys,e1,h1,r⟩:=oP (Ax hx l s) (uy hl) q
   cases e1
   exact⟨ys,h1,by rw [r.len];exact of_decide_eq_true hf⟩
def DM:uv K κ (λvs H R=>∃v,vs=[v]/\∃a,v=.ref a/\(∃xs,bw K H a xs)/\R (An K a) H) uw:=by
 intro ι H σ Z G es vs w R a h k
 unfold uw at h
 split at h
 ·rename_i e
  split at h
  ·rename_i hl
   cases q:sq Z G e with
   | none=>rw [q] at h;cases h
   | some xs =>
    rw [q] at h
    cases h
    obtain⟨v,rfl⟩:=bQ a.len
    obtain⟨b,ys,e1,h1,r⟩:=oP a hl q
    subst e1
    exact⟨_,rfl,b,rfl,⟨ys,h1⟩,k _ (DL hl)⟩
  ·cases h
 ·cases h
def DN:uv K κ (λvs H R=>∃v,vs=[v]/\∃a,v=.ref a/\(∃xs,bb K H a xs)/\R (Ao K a) H) DK:=by
 intro ι H σ Z G es vs w R a h k
 unfold DK at h
 have go:∀{x:I} {xs:List I},(x=.tup xs∨x=.con xs)->Args K κ ι H σ Z G [.v (.im x)] vs->sq Z G (.v (.im x))=some xs->(∀J,Walks K κ J (tS [.v (.im x)] vs) (tD [.v (.im x)]) (ck (.v (.im x)) xs.length)->R J H) ->
   ∃v,vs=[v]/\∃a,v=.ref a/\(∃xs,bb K H a xs)/\R (Ao K a) H:=λ{x xs} hx a hq k=>by
  have tv:∀{ι:List Addr} {H:Hp} {v:V},RpI K ι H v x->∃b ys,v=.ref b/\bb K H b ys/\y4f K ι H ys xs:=λr=>by
   rcases hx with rfl|rfl
   ·obtain⟨_,_,rfl,h,r9⟩:=lA r
    exact⟨_,_,rfl,bb.of h,r9⟩
   ·obtain⟨_,_,rfl,h,r9⟩:=t6 r
    exact⟨_,_,rfl,bb.kon h,r9⟩
  have sx:∀(Z:De) (G:List M),sq Z G (.v (.im x))=some xs:=λZ G=>by rcases hx with rfl|rfl<;>rfl
  obtain⟨v,rfl⟩:=bQ a.len
  obtain⟨b,ys,e1,h1,r⟩:=tv (a.im (j:=0) rfl rfl)
  subst e1
  refine⟨_,rfl,b,rfl,⟨ys,h1⟩,k _ ⟨λ{i d ι' H' σ' Z' G'} hi hd l s=>?_,λ{ι' H' σ' Z' G'} hf l s=>?_⟩⟩
  ·obtain⟨b',zs,e2,h2,r2⟩:=tv ((Ax rfl l s).im (j:=0) rfl rfl)
   cases e2
   have hd:(sq Z' G' (.v (.im x))).bind (·[i]?)=some d:=hd
   rw [sx] at hd
   have hd:xs[i]?=some d:=hd
   obtain⟨v,hv,rv⟩:=r2.get hd
   refine⟨⟨zs,v,h2,hv⟩,λx H' y=>?_⟩
   obtain⟨e2,e3⟩:=y
   subst e2
   have:=e3 zs h2
   rw [hv] at this;cases this
   exact⟨(λ_ _ h=>h),rv⟩
  ·obtain⟨b',zs,e2,h2,r2⟩:=tv ((Ax rfl l s).im (j:=0) rfl rfl)
   cases e2
   exact⟨zs,h2,by rw [r2.len];exact z10 _⟩
 split at h
 ·cases h
  exact go (.inl rfl) a rfl k
 ·cases h
  exact go (.inr rfl) a rfl k
 ·cases h
end
end
section
section
abbrev qI:List Nat->Mo Unit
 | []=>rt ()
 | i::is=>λZ G=>match Z[i]? with
  | some (some (.ow m))=>qI is (Z.set i (some (.im (.ref G.length)))) (G++[m])
  | _=>qI is Z G
theorem DO:∀{ix:List Nat} {Z Z':De} {G G':List M} {ι:List Addr} {u:Unit},qI ix Z G=some (u,Z',G')->SR K κ ι H σ Z G->∃ι',SR K κ ι' H σ Z' G'/\Step ι (own σ Z++ι) H ι' (own σ Z'++ι') H
 | [],_,_,_,_,ι,_,h,s=>by cases h;exact⟨ι,s,Step.refl _ _ _⟩
 | i::is,Z,Z',G,G',ι,u,h,s=>by
  unfold qI at h
  split at h
  ·rename_i m hm
   obtain⟨a,e1,r⟩:=s.y17a hm
   have n:=After.nil s
   have a1:After K κ σ ι (own σ Z++ι) H [.s i] Z G [.ref a] ι H:=⟨⟨s.len,n.ar.sr,.cons (λj h=>by cases h;exact e1) .nil⟩,n.st⟩
   have hb:oF (.s i) Z G=some (.v (.im (.ref G.length)),Z.set i (some (.im (.ref G.length))),G++[m]):=by unfold oF;dsimp only;rw [hm]
   obtain⟨ι2,a2⟩:=y64 a1 hb
   obtain⟨s2,st2⟩:=a2.drop
   obtain⟨ι3,s3,st3⟩:=DO h s2
   exact⟨ι3,s3,st2.trans st3⟩
  ·exact DO h s
abbrev lN(Z:De)(i:Nat):Option Vl:=match Z[i]? with
 | some (some (.im d))=>some (.im d)
 | _=>none
abbrev jF(ix:List Nat)(Z:De):De:=ix.map (lN Z)
abbrev inV(ix:List Nat)(σ:St):St:=ix.map λi=>(σ[i]?).getD none
theorem nu(h:SR K κ ι H σ Z G):∀(ix:List Nat),Paired (RpE K κ ι H) (inV ix σ) (jF ix Z)/\own (inV ix σ) (jF ix Z)=[]
 | []=>⟨.nil,rfl⟩
 | i::ix=>by
  obtain⟨p,q⟩:=nu h ix
  have one:RpE K κ ι H ((σ[i]?).getD none) (lN Z i)/\bz ((σ[i]?).getD none) (lN Z i)=[]:=by
   unfold lN
   split
   ·rename_i d hd
    obtain⟨v,e,r⟩:=h.y179 hd
    rw [e]
    exact⟨.im r,fU _ _⟩
   ·exact⟨.no _,jE _⟩
  refine⟨.cons one.1 p,?_⟩
  show bz _ _++own (inV ix σ) (jF ix Z)=[]
  rw [one.2,q];rfl
theorem uz:∀{xs:List V} {ds:List I},y4f K ι H xs ds->Paired (RpE K κ ι H) (xs.map some) (ds.map λd=>some (Vl.im d))/\own (xs.map some) (ds.map λd=>some (Vl.im d))=[]
 | _,_,.nil=>⟨.nil,rfl⟩
 | _,_,.cons r rs=>by
  obtain⟨p,q⟩:=uz rs
  refine⟨.cons (.im r) p,?_⟩
  show bz _ _++own _ _=[]
  rw [fU,q];rfl
abbrev eF(w:Wk)(c:I->Option (List I))(tt:Mo Bool)(te:Mo Ev)(di:De):Nat->Nat->List I->De->List M->Option (List I×List M)
 | i,0,acc,Z,G=>if w.fin Z G then some (acc,G) else none
 | i,r+1,acc,Z,G=>match w.at_ i Z G with
  | some d=>match c d with
   | some ds=>match tt ((ds.map λd=>some (Vl.im d))++di) G with
    | some (true,Za,Ga)=>match te Za Ga with
     | some (.v (.im y),_,Gb)=>eF w c tt te di (i+1) r (acc++[y]) Z Gb
     | _=>none
    | some (false,_,Ga)=>eF w c tt te di (i+1) r acc Z Ga
    | none=>none
   | none=>none
  | none=>none
abbrev Tgt(K:W.Frag)(g:TG)(n:Nat)(c:I->Option (List I)):Prop:=∀(ι:List Addr) (H:Hp) (x:V) (d:I) (ds:List I) (σ':St) (Q:St->Hp->Prop),RpI K ι H x d->c d=some ds ->
 ds.length=n/\((∀xs,y4f K ι H xs ds->Q (xs.map some++σ') H)->g x (List.replicate n none++σ') H Q)
abbrev c1:I->Option (List I):=λd=>some [d]
def uA:Tgt K (gQ 0) 1 c1:=by
 intro ι H x d ds σ' Q r h
 cases h
 exact⟨rfl,λk=>k [x] (.cons r .nil)⟩
abbrev ft(fi:IF)(ix:List Nat)(c:I->Option (List I))(tt:Mo Bool)(te:Mo Ev):Mo Ev:=λZ G=>match qI ix Z G with
 | some (_,Z0,G0)=>match fi Z0 G0 with
  | some (w,_,Z1,G1)=>if w.n≤100000 then match eF w c tt te (jF ix Z1) 0 w.n [] Z1 G1 with
   | some (ds,G2)=>some (.v (.ow (.lst ds)),Z1,G2)
   | none=>none
   else none
  | none=>none
 | none=>none
def DP:100000<sizeLine:=by decide
def uB    (hg:∀z,Tgt K (g z) n c)(h:aZ K κ (ft fi ix c tt te) σ H Q) :
  om n ix (nr K κ fi) g (λ_=>c8 K κ tt) (λ_=>aZ K κ te) σ H Q:=by
 obtain⟨ι,Z,G,e,Z',G',s,eq,k⟩:=h
 unfold ft at eq
 split at eq
 ·rename_i u Z0 G0 e0
  split at eq
  ·rename_i w es Z1 G1 e1
   split at eq
   ·rename_i hn
    split at eq
    ·rename_i ds G2 e2
     obtain⟨ι0,s0,st0⟩:=DO e0 s
     refine⟨ι0,Z0,G0,w,es,Z1,G1,s0,e1,λJ vs ι1 H1 a wk=>?_⟩
     intro D hD
     have lo:(σ++tS es vs).length=(Z1++tD es).length:=by
      have:=a.ar.sr.len;exact this
     refine⟨λi m ys H'=>i+m=w.n/\H' D=some (.lst ys)/\∃ι' G' acc,SR K κ ι' H' ((σ++tS es vs)++[some (.ref D)]) ((Z1++tD es)++[some (.ow (.lst acc))]) G' /\
      Step ι (own σ Z++ι) H ι' (own ((σ++tS es vs)++[some (.ref D)]) ((Z1++tD es)++[some (.ow (.lst acc))])++ι') H'/\acc.length≤i/\acc.length=ys.length/\eF w c tt te (jF ix Z1) i m acc Z1 G'=some (ds,G2),⟨w.n,by lia,bg,ι1,G1,[],?_,?_,z10 _,rfl,e2⟩,?_⟩
     ·exact a.ar.sr.y3a8 hD ⟨[],bg,.nil⟩
     ·exact (st0.trans a.st).trans (Step.y234 lo hD)
     ·rintro i m ys H' ⟨him,hys,ι',G',acc,s',st,hac,hay,et⟩
      refine⟨hys,?_⟩
      have sb:=s'.pop lo
      cases m with
      | zero =>
       unfold eF at et
       split at et
       ·rename_i hf
        cases et
        have hi:i=w.n:=by lia
        subst hi
        refine .inl ⟨wk.stop hf a.ar.l sb,?_⟩
        have l1:=a.ar.l
        obtain⟨pa,pc⟩:=cf lo s'.sl
        obtain⟨pa,pb⟩:=cf l1 pa
        have lt:=Paired.length pb
        have e3:own ((σ++tS es vs)++[some (.ref D)]) ((Z1++tD es)++[some (.ow (.lst ds))])=own σ Z1++own (tS es vs) (tD es)++[D]:=by rw [fg lo,bR _ _ l1]
        have e4:own (σ++[some (.ref D)]) (Z1++[some (.ow (.lst ds))])=own σ Z1++[D]:=fg l1
        refine k _ ι' H' (bJ eq ⟨⟨l1,⟨df pa pc,s'.gs,λx=>?_⟩,.cons (λ_ h=>by cases h) .nil⟩,st.sub λx hx=>?_⟩)
        ·have n':=s'.nd x
         rw [e3] at n'
         show bq x (own (σ++[some (.ref D)]) (Z1++[some (.ow (.lst ds))]))+bq x ι'≤1
         rw [e4]
         simp only [bq,z17] at n' ⊢
         lia
        ·have hx:x∈own (σ++[some (.ref D)]) (Z1++[some (.ow (.lst ds))])++ι':=hx
         rw [e4] at hx
         rw [e3]
         simp only [z1e] at hx ⊢
         rcases hx with (hx|hx)|hx
         ·exact .inl (.inl (.inl hx))
         ·exact .inl (.inr hx)
         ·exact .inr hx
       ·cases et
      | succ m =>
       unfold eF at et
       split at et
       ·rename_i d hd
        obtain⟨go,yl⟩:=wk.go (by lia) hd a.ar.l sb
        refine .inr ⟨go,by have:=DP;lia,λys' H5=>i+1+m=w.n/\H5 D=some (.lst ys')/\∃ι5 G5 y5f,SR K κ ι5 H5 ((σ++tS es vs)++[some (.ref D)]) ((Z1++tD es)++[some (.ow (.lst y5f))]) G5 /\
         Step ι (own σ Z++ι) H ι5 (own ((σ++tS es vs)++[some (.ref D)]) ((Z1++tD es)++[some (.ow (.lst y5f))])++ι5) H5/\y5f.length≤i+1/\y5f.length=ys'.length/\eF w c tt te (jF ix Z1) (i+1) m y5f Z1 G5=some (ds,G2),λys' H5 q=>⟨m,z37 _,q⟩,λx H3 hy z=>?_⟩
        obtain⟨sm,rx⟩:=yl x H3 hy
        split at et
        ·rename_i dd hc
         obtain⟨hl,tg⟩:=hg z ι' H3 x d dd (inV ix σ) _ rx hc
         refine tg λxs rs=>?_
         have s3:=s'.same sm
         have st3:=st.trans (Step.same (ι:=ι') (fp:=own ((σ++tS es vs)++[some (.ref D)]) ((Z1++tD es)++[some (.ow (.lst acc))])++ι') sm)
         obtain⟨p1,o1⟩:=uz (κ:=κ) rs
         obtain⟨p2,o2⟩:=nu ((s3.pop lo).pop a.ar.l) ix
         have lx:=Paired.length p1
         have oin:own (xs.map some++inV ix σ) (dd.map (λd=>some (Vl.im d))++jF ix Z1)=[]:=by rw [bR _ _ lx,o1,o2];rfl
         have sin:SR K κ ι' H3 (xs.map some++inV ix σ) (dd.map (λd=>some (Vl.im d))++jF ix Z1) G':=⟨df p1 p2,s3.gs,λy=>by
          rw [oin];have:=s3.nd y;simp only [bq,List.count_nil] at *;lia⟩
         have lin:=sin.len
         have both:SR K κ ι' H3 ((xs.map some++inV ix σ)++((σ++tS es vs)++[some (.ref D)])) ((dd.map (λd=>some (Vl.im d))++jF ix Z1)++((Z1++tD es)++[some (.ow (.lst acc))])) G':=⟨df sin.sl s3.sl,s3.gs,λy=>by
          rw [bR _ _ lin,oin];have:=s3.nd y;simpa using this⟩
         have kn:y46 n ix σ (xs.map some++inV ix σ):=by
          have lxs:xs.length=n:=by rw [z12,z12] at lx;lia
          refine⟨by rw [zd,z12];unfold inV;rw [z12,lxs],λj v hj=>?_⟩
          unfold c9 at hj
          by_cases hjn:j<n
          ·rw [z25 (by simpa using hjn),List.getElem?_replicate,if_pos hjn] at hj
           cases hj
          ·rw [z23 (by simp;lia)] at hj
           rw [z23 (by simp;lia)]
           simp only [List.length_replicate,z12,lxs] at hj ⊢
           exact hj
         refine⟨kn,?_⟩
         have jn:∀{σ5:St} {Z5:De} {θ5:De} {τ5:St} {G5:List M} {ι5:List Addr} {H5:Hp},σ5.length=Z5.length->SR K κ ι5 H5 (σ5++τ5) (Z5++θ5) G5->Step ι' (own (xs.map some++inV ix σ) (dd.map (λd=>some (Vl.im d))++jF ix Z1)++ι') H3 ι5 (own (σ5++τ5) (Z5++θ5)++ι5) H5 ->
           SR K κ ι5 H5 (((σ++tS es vs)++[some (.ref D)])++τ5) (((Z1++tD es)++[some (.ow (.lst acc))])++θ5) G5/\Step ι (own σ Z++ι) H ι5 (own (((σ++tS es vs)++[some (.ref D)])++τ5) (((Z1++tD es)++[some (.ow (.lst acc))])++θ5)++ι5) H5/\H5 D=some (.lst ys):=λ{σ5 Z5 θ5 τ5 G5 ι5 H5} l5 s5 st5=>by
          obtain⟨j1,j2⟩:=SR.join both lin s5 l5 st5
          have lT:((σ++tS es vs)++[some (V.ref D)]).length=((Z1++tD es)++[some (Vl.ow (.lst acc))]).length:=s3.len
          have lj:(((σ++tS es vs)++[some (V.ref D)])++τ5).length=(((Z1++tD es)++[some (Vl.ow (.lst acc))])++θ5).length:=by
           have:=j1.len;rw [zd,zd (as:=Z5)] at this;lia
          refine⟨(j1.swap l5).pop lj,?_,?_⟩
          ·refine (st3.trans (j2.wide λy hy=>?_)).sub λy hy=>?_
           ·rw [bR _ _ lin,oin] at hy;exact hy
           ·exact iM (σ:=σ5) (Z:=Z5) l5 lj (cj lj hy)
          ·have q:=sm _ _ hys
           refine st5.keep D _ q λhm=>?_
           rw [oin] at hm
           have n':=s3.nd D
           rw [fg lo] at n'
           have:=gZ.mp (show D∈ι' from hm)
           have c1:List.count D [D]=1:=by simp
           simp only [bq,z17] at *
           lia
         split at et
         ·rename_i Za Ga ea
          refine⟨ι',_,G',true,Za,Ga,sin,ea,λι4 H4 s4 st4=>?_⟩
          dsimp only
          rw [if_pos rfl]
          split at et
          ·rename_i y Zb Gb eb
           refine⟨ι4,Za,Ga,_,Zb,Gb,s4,eb,λyv ι5 H5 a5=>?_⟩
           obtain⟨j1,j2,j3⟩:=jn a5.ar.l a5.ar.sr (st4.trans a5.st)
           refine⟨j3,by lia,bg,ι5,Gb,acc++[y],?_⟩
           have ry:RpI K ι5 H5 yv y:=a5.ar.im (j:=0) rfl rfl
           have lT:((σ++tS es vs)++[some (V.ref D)]).length=((Z1++tD es)++[some (Vl.ow (.lst acc))]).length:=s3.len
           have s6:=j1.pop lT
           have i1:((σ++tS es vs)++[some (V.ref D)])[(σ++tS es vs).length]?=some (some (.ref D)):=by rw [z23 (z10 _),Nat.sub_self];rfl
           have i2:((Z1++tD es)++[some (Vl.ow (.lst acc))])[(σ++tS es vs).length]?=some (some (.ow (.lst acc))):=by rw [lo,z23 (z10 _),Nat.sub_self];rfl
           obtain⟨q1,q2⟩:=s6.poke i1 i2 (m':=.lst (acc++[y])) (o:=.lst (ys++[yv])) (λρ kp=>by
            obtain⟨zs,h1,h2⟩:=ρ
            rw [j3] at h1;cases h1
            exact⟨_,bg,(h2.app (.cons ry .nil)).mono (bW.refl _) kp⟩)
           have e5:((Z1++tD es)++[some (Vl.ow (.lst acc))]).set (σ++tS es vs).length (some (.ow (.lst (acc++[y]))))=(Z1++tD es)++[some (.ow (.lst (acc++[y])))]:=by rw [lo,List.set_append_right _ _ (z10 _),Nat.sub_self];rfl
           rw [e5] at q1 q2
           refine⟨q1,(j2.sub λw hw=>cj lT hw).trans q2,by rw [zd];simp;lia,by rw [zd,zd];simp;lia,et⟩
          ·cases et
         ·rename_i Za Ga ea
          refine⟨ι',_,G',false,Za,Ga,sin,ea,λι4 H4 s4 st4=>?_⟩
          dsimp only
          rw [if_neg z13]
          have s4':SR K κ ι4 H4 ((xs.map some++inV ix σ)++[]) (Za++[]) Ga:=by rw [z11,z11];exact s4
          obtain⟨j1,j2,j3⟩:=jn (τ5:=[]) (θ5:=[]) s4.len s4' (by rw [z11,z11];exact st4)
          rw [z11,z11] at j1 j2
          exact⟨by lia,j3,ι4,Ga,acc,j1,j2,by lia,hay,et⟩
         ·cases et
        ·cases et
       ·cases et
    ·cases eq
   ·cases eq
  ·cases eq
 ·cases eq
end
end
section
section
variable {κ:Str->Addr}
abbrev uC(f:Str)(d:I):List (Str×I)->List (Str×I)
 | []=>[(f,d)]
 | (g,x)::r=>if g=f then (g,d)::r else (g,x)::uC f d r
abbrev DQ(c f:Str):List Ev->Mo Ev:=λes Z G=>match es with
 | [.v (.im (.ref k))]=>match G[k]? with
  | some (.obj c' fs)=>if c'=c then match fs.lookup f with
   | some d=>some (.v (.im d),Z,G)
   | none=>none
   else none
  | _=>none
 | _=>none
abbrev DR(c f:Str)(fo fv:Mo Ev):SF:=λZ G=>match fv Z G with
 | some (.v (.im d),Z1,G1)=>match fo Z1 G1 with
  | some (.v (.im (.ref k)),Z2,G2)=>match G2[k]? with
   | some (.obj c' fs)=>if c'=c/\fs.length<1000 then some (.nx Z2 (G2.set k (.obj c (uC f d fs)))) else none
   | _=>none
  | _=>none
 | _=>none
abbrev uD(c m:Str)(n:Nat)(fn:FF)(fo:Mo Ev)(fa:Mo (List Ev)):Mo Ev:=bd fo λe=>λZ G=>match e with
 | .v (.im (.ref k))=>match G[k]? with
  | some (.obj c' fs)=>if c'=c/\(fs.lookup m).isNone then bd fa (λes=>aB n fn (.v (.im (.ref k))::es)) Z G else none
  | _=>none
 | _=>none
abbrev uE(c:Str)(n:Nat)(fn:FF):List Ev->Mo Ev:=λes Z G=>match nt es with
 | some xs=>if xs.length+1=n then match fn (.im (.ref G.length)::xs) (G++[.obj c []]) with
  | some (.im .non,G')=>some (.v (.im (.ref G.length)),Z,G')
  | _=>none
  else none
 | none=>none
end
end
end B
namespace B
open PySem PySem.Spec PyProof.Rows L2
section
section
variable {X:Cx}{e:Expr}{es:List Expr}{st:Stmt}{sts:List Stmt}
def aX(h:PE X e t)(k:∀σ H Q,t' σ H Q->t σ H Q):PE X e t':=λpins s σ H Q I q=>h pins s σ H Q I (k σ H Q q)
def fu(h:PT X e t)(k:∀σ H Q,t' σ H Q->t σ H Q):PT X e t':=λpins s σ H Q I q=>h pins s σ H Q I (k σ H Q q)
def jG(h:PW X e t)(k:∀σ H Q,t' σ H Q->t σ H Q):PW X e t':=λw pins s σ H Q I q=>h w pins s σ H Q I (k σ H Q q)
def uF(h:PA X es t)(k:∀σ H Q,t' σ H Q->t σ H Q):PA X es t':=λpos pins s σ H Q I q=>h pos pins s σ H Q I (k σ H Q q)
def cU{t t':TS}(h:PS X st t)(k:∀D σ H,t' D σ H->t D σ H):PS X st t':=λpins s σ H D I q=>h pins s σ H D I (k D σ H q)
def lO(h:dI X sts t)(k:∀D σ H,t' D σ H->t D σ H):dI X sts t':=λpins s σ H D I q=>h pins s σ H D I (k D σ H q)
def oQ (h:PI X tg iter t)(k:∀σ H R,t' σ H R->t σ H R):PI X tg iter t':=λpins s σ H R I q=>h pins s σ H R I (k σ H R q)
def DS (h:PG X tg t)(k:∀v σ H Q,t' v σ H Q->t v σ H Q):PG X tg t':=λpins s σ H v u Q I r q=>h pins s σ H v u Q I r (k v σ H Q q)
def jm(h:PE X e t)(h':PE X e t'):PE X e (λσ H Q=>t σ H Q∨t' σ H Q):=λpins s σ H Q I q=>q.elim (h pins s σ H Q I) (h' pins s σ H Q I)
def lP(h:PT X e t)(h':PT X e t'):PT X e (λσ H Q=>t σ H Q∨t' σ H Q):=λpins s σ H Q I q=>q.elim (h pins s σ H Q I) (h' pins s σ H Q I)
def uG{t t':TS}(h:PS X st t)(h':PS X st t'):PS X st (λD σ H=>t D σ H∨t' D σ H):=λpins s σ H D I q=>q.elim (h pins s σ H D I) (h' pins s σ H D I)
def uH (h:PI X tg iter t)(h':PI X tg iter t'):PI X tg iter (λσ H R=>t σ H R∨t' σ H R):=λpins s σ H R I q=>q.elim (h pins s σ H R I) (h' pins s σ H R I)
end
section
variable {X:Cx}{κ:Str->Addr}{a b c:Expr}{fa fb fv:Mo Ev}{fc fd:Mo Bool}{fs:Mo (List Ev)}{es:List Expr}{pos:Pos}
@[irreducible] noncomputable def LE(X:Cx)(κ:Str->Addr)(e:Expr)(f:Mo Ev):Prop:=PE X e (aZ X.K κ f)
def LE.mk  (h:PE X e (aZ X.K κ f)):LE X κ e f:=by unfold LE;exact h
def LE.pe  (h:LE X κ e f):PE X e (aZ X.K κ f):=by unfold LE at h;exact h
@[irreducible] noncomputable def LT(X:Cx)(κ:Str->Addr)(e:Expr)(f:Mo Bool):Prop:=PT X e (c8 X.K κ f)
def LT.mk  (h:PT X e (c8 X.K κ f)):LT X κ e f:=by unfold LT;exact h
def LT.pe  (h:LT X κ e f):PT X e (c8 X.K κ f):=by unfold LT at h;exact h
@[irreducible] noncomputable def LW(X:Cx)(κ:Str->Addr)(e:Expr)(f:Mo Bool):Prop:=PW X e (c8 X.K κ f)
def LW.mk  (h:PW X e (c8 X.K κ f)):LW X κ e f:=by unfold LW;exact h
def LW.pe  (h:LW X κ e f):PW X e (c8 X.K κ f):=by unfold LW at h;exact h
@[irreducible] noncomputable def LA(X:Cx)(κ:Str->Addr)(es:List Expr)(f:Mo (List Ev)):Prop:=PA X es (fV X.K κ f)
def LA.mk  (h:PA X es (fV X.K κ f)):LA X κ es f:=by unfold LA;exact h
def LA.pe  (h:LA X κ es f):PA X es (fV X.K κ f):=by unfold LA at h;exact h
@[irreducible] noncomputable def LS(X:Cx)(κ:Str->Addr)(s:Stmt)(f:SF):Prop:=PS X s (cT X.K κ f)
def LS.mk  (h:PS X s (cT X.K κ f)):LS X κ s f:=by unfold LS;exact h
def LS.pe  (h:LS X κ s f):PS X s (cT X.K κ f):=by unfold LS at h;exact h
@[irreducible] noncomputable def fY(X:Cx)(κ:Str->Addr)(s:List Stmt)(f:SF):Prop:=dI X s (cT X.K κ f)
def fY.mk  (h:dI X s (cT X.K κ f)):fY X κ s f:=by unfold fY;exact h
def fY.pe  (h:fY X κ s f):dI X s (cT X.K κ f):=by unfold fY at h;exact h
@[irreducible] noncomputable def LI(X:Cx)(κ:Str->Addr)(tg e:Expr)(f:IF):Prop:=PI X tg e (nr X.K κ f)
def LI.mk  (h:PI X tg e (nr X.K κ f)):LI X κ tg e f:=by unfold LI;exact h
def LI.pe  (h:LI X κ tg e f):PI X tg e (nr X.K κ f):=by unfold LI at h;exact h
@[irreducible] noncomputable def LG(X:Cx)(κ:Str->Addr)(tg:Expr)(f:GF):Prop:=PG X tg (nq X.K κ f)
def LG.mk  (h:PG X tg (nq X.K κ f)):LG X κ tg f:=by unfold LG;exact h
def LG.pe  (h:LG X κ tg f):PG X tg (nq X.K κ f):=by unfold LG at h;exact h
def jH(i:Nat)(hN:‹X.N[i]?=some x›)(hv:Al X.env.scope x:=by first|exact Or.inl rfl|exact Or.inr (Or.inl rfl)|exact Or.inr (Or.inr rfl))(hd:(x == ("__debug__" : Str))=false:=by decide)
  (hcd:(x == ("__classdict__" : Str))=false:=by decide):LE X κ (.Name x pos) (aa i):=.mk (aX (eD hN hv hd hcd) λ_ _ _=>Dt)
def uI{j pos}:LE X κ (.Constant (.int i) j pos) (ag (.int i)):=.mk (aX nF λ_ _ _=>iK λ_ _=>.int _)
def DT{j pos}:LE X κ (.Constant (.bool i) j pos) (ag (.bl i)):=.mk (aX rg λ_ _ _=>iK λ_ _=>.bl _)
def uJ{j pos}:LE X κ (.Constant .none j pos) (ag .non):=.mk (aX Bj λ_ _ _=>iK λ_ _=>.non)
def uK{j pos}:LE X κ (.Constant (.str x) j pos) (ag (.str x)):=.mk (aX rh λ_ _ _=>iK λ_ _=>.str _)
def oR  (hg:Gl X x)(hm:X.mg x=some u)(r:ay v u)(rd:∀ι H,RpI X.K ι H v d)(hd:(x == ("__debug__" : Str))=false:=by decide):LE X κ (.Name x pos) (ag d):=.mk (aX (jk hg hm r hd) λ_ _ _=>iK rd)
def uL(h:LE X κ a fa):LE X κ a (bf fa):=.mk (aX h.pe λ_ _ _=>Du)
def DU:LA X κ [] ae:=.mk (uF dM λ_ _ _=>Dq)
def Ay(h:LE X κ a fa)(r:LA X κ es fs)(hs:‹starEach (a::es) X.env=(false,eval a X.env)::starEach es X.env›):LA X κ (a::es) (af fa fs):=.mk (uF (bV h.pe r.pe hs) λ_ _ _=>Dr)
def iN (ho:bU X (binaryOp op) r)(hp:aE X.K κ (r2 r) p)(ha:LE X κ a fa)(hb:LE X κ b fb):LE X κ (.BinOp a op b pos) (ai p fa fb):=.mk (aX (rR ho ha.pe hb.pe) λ_ _ _=>g5 hp)
def DV (ho:Ap X (unaryOp op) r)(hp:aE X.K κ (r1 r) p)(ha:LE X κ a fa):LE X κ (.UnaryOp op a pos) (a7 p fa):=.mk (aX (nS ho ha.pe) λ_ _ _=>g6 hp)
def lQ (ho:bU X (compareOp op) r)(hp:aE X.K κ (r2 r) p)(ha:LE X κ a fa)(hb:LE X κ b fb)(hm:behindInMarks op b=false):LE X κ (.Compare a [op] [b] pos) (ai p fa fb):=.mk (aX (r6 ho ha.pe hb.pe hm) λ_ _ _=>g5 hp)
def g8 (ho:bU X (compareOp op) r)(hp:aE X.K κ (r2 r) p)(ha:LE X κ a fa)(hb:LE X κ b fb)(hm:behindInMarks op b=false):LT X κ (.Compare a [op] [b] pos) (ao (ai p fa fb)):=.mk (fu (gR ho ha.pe hb.pe hm) λσ H Q h=>g5 hp (g7 h))
def uM{x1}(h:LA X κ es fs):LE X κ (.Tuple es x1 pos) (bd fs b9):=.mk (aX (ju h.pe) λ_ _ _ q=>dQ Dv q)
def uN(h:LA X κ es fs):LE X κ (.List es pos) (bd fs aM):=.mk (aX (BY h.pe) λ_ _ _ q=>dQ Dw q)
def t_w(h:LW X κ a fc):LT X κ a fc:=.mk (h.pe.pt)
def DW(h:LT X κ a fc):LW X κ (.BoolOp .And [a] pos) fc:=.mk (kH h.pe)
def uO(h:LT X κ a fc):LW X κ (.BoolOp .Or [a] pos) fc:=.mk (nH h.pe)
def uP{aA:List Expr}(h:LT X κ a fc)(k:LW X κ (.BoolOp .And (b::aA) pos) fd):LW X κ (.BoolOp .And (a::b::aA) pos) (eQ fc fd):=.mk (jG (nI h.pe k.pe) λ_ _ _=>Dy)
def uQ{aA:List Expr}(h:LT X κ a fc)(k:LW X κ (.BoolOp .Or (b::aA) pos) fd):LW X κ (.BoolOp .Or (a::b::aA) pos) (dB fc fd):=.mk (jG (rz h.pe k.pe) λ_ _ _=>uf)
def uR(h:LT X κ a fc):LT X κ (.UnaryOp .Not a pos) (lJ fc):=.mk (fu (Bp h.pe) λ_ _ _=>Dz)
abbrev cI:Ev->Mo Bool:=λe Z G=>match e with
 | .v (.im .non)=>some (false,Z,G)
 | .v (.im (.bl b))=>some (b,Z,G)
 | .v (.im (.int i))=>some (i != 0,Z,G)
 | .v (.im (.str y))=>if y.length≤1000000 then some ((y.length:Int) != 0,Z,G) else none
 | e=>match pk Z G e with
  | some (.dic kvs)=>some (!kvs.isEmpty,Z,G)
  | _=>match sq Z G e with
   | some xs=>some (!xs.isEmpty,Z,G)
   | none=>none
def isE{K:W.Frag}{ι:List Addr}{H:Hp}{vs:List V}{xs:List I}(r:y4f K ι H vs xs):(!xs.isEmpty)=!vs.isEmpty:=by cases r<;>rfl
def jI{K:W.Frag}{e:Ev}{c:Bool}(a:Args K κ ι H σ Z G [e] [v])(h:cI e Z G=some (c,Z',G')):nX K v H c/\Z'=Z/\G'=G:=by
 have seqs:∀{xs:List I},sq Z G e=some xs->nX K v H (!xs.isEmpty):=λhx=>by
  obtain⟨b,ys,e2,h2,r⟩:=a.sq (j:=0) rfl rfl hx
  subst e2
  rw [isE r]
  rcases h2 with h2|h2
  ·exact .inl ⟨ys,h2,rfl⟩
  ·exact .inr (.inl ⟨ys,h2,rfl⟩)
 unfold cI at h
 split at h
 ·cases h;cases jD (a.im (j:=0) rfl rfl);exact⟨rfl,rfl,rfl⟩
 ·cases h;cases lr (a.im (j:=0) rfl rfl);exact⟨rfl,rfl,rfl⟩
 ·cases h;cases cG (a.im (j:=0) rfl rfl);exact⟨rfl,rfl,rfl⟩
 ·split at h
  ·rename_i y hy
   cases h;cases bK (a.im (j:=0) rfl rfl)
   exact⟨⟨z1a hy (by decide),rfl⟩,rfl,rfl⟩
  ·cases h
 ·split at h
  ·rename_i kvs hp
   cases h
   obtain⟨b,e2,ws,h1,h2,h3⟩:=a.pk (j:=0) rfl rfl hp
   subst e2
   refine⟨.inr (.inr ⟨ws,h1,?_⟩),rfl,rfl⟩
   have:=congrArg List.length h2
   simp at this
   cases kvs<;>cases ws<;>simp_all
  ·split at h
   ·rename_i xs hx
    cases h
    exact⟨seqs hx,rfl,rfl⟩
   ·cases h
def DX{K:W.Frag}{f:Mo Ev}{σ:L2.St}{H:Hp}{Q:Bool->Hp->Prop}(h:c8 K κ (bd f cI) σ H Q):aZ K κ f σ H λx H'=>∃k,nX K x H' k/\Q k H':=by
 obtain⟨ι,Z,G,t,Z',G',s,eq,k⟩:=h
 obtain⟨x,Z1,G1,e1,eq⟩:=bY eq
 refine⟨ι,Z,G,x,Z1,G1,s,e1,λv ι1 H1 a=>?_⟩
 obtain⟨p,q⟩:=a.drop
 obtain⟨h1,rfl,rfl⟩:=jI a.ar eq
 exact⟨_,h1,k _ _ p q⟩
def uS(h:LE X κ a fa)(he:∀whole,isTrue a X.env whole=(do let v <- whole;standAt a.pos;holding [v] (truthy v)):=by intro _;rfl):LT X κ a (bd fa cI):=.mk (fu (BP h.pe he) λ_ _ _ q=>DX q)
abbrev isP:List Ev->Mo Ev:=λes Z G=>match es with
 | [.v (.im .non)]=>some (.v (.im (.bl true)),Z,G)
 | [_]=>some (.v (.im (.bl false)),Z,G)
 | _=>none
def Args.nn{K:W.Frag}{ι:List Addr}{H:Hp}{σ:L2.St}{Z:De}{G:List M}{e:Ev}{v:V}(a:Args K κ ι H σ Z G [e] [v])(h:e≠.v (.im .non))(hs:∀i,e=.s i->∃m,Z[i]?=some (some (.ow m))):v≠.non:=by
 cases e with
 | s i =>
  obtain⟨m,hm⟩:=hs i rfl
  obtain⟨b,e1,r⟩:=a.base.y17a hm
  have al:=Aw (j:=0) a.al rfl rfl
  rw [al] at e1;cases e1
  intro z;cases z
 | v x =>
  cases x with
  | ow m =>
   have r:=qH (cf a.l a.sr.sl).2 (j:=0) rfl rfl
   cases r
   intro z;cases z
  | im d =>
   have r:=a.im (j:=0) rfl rfl
   cases r<;>first|exact absurd rfl h|(intro z;cases z)
abbrev lR(Z:De):Ev->Bool
 | .s i=>match Z[i]? with
  | some (some (.ow _))=>true
  | _=>false
 | _=>true
def uT (h:lR Z e=true):∀i,e=.s i->∃m,Z[i]?=some (some (.ow m)):=by
 intro i hi
 subst hi
 unfold lR at h
 dsimp only at h
 split at h
 ·rename_i m hm;exact⟨m,hm⟩
 ·cases h
abbrev eR(pos:Bool):List Ev->Mo Ev:=λes Z G=>match es with
 | [.v (.im .non)]=>some (.v (.im (.bl pos)),Z,G)
 | [e]=>if lR Z e then some (.v (.im (.bl (!pos))),Z,G) else none
 | _=>none
def DY{K:W.Frag}:aE K κ (r1 λx H1 Q=>Q (.bl (decide (x=.non))) H1) (eR true):=by
 intro ι H σ Z G es vs e Z' G' Q a h k
 unfold eR at h
 split at h
 ·obtain⟨v,rfl⟩:=bQ a.len
  cases jD (a.im (j:=0) rfl rfl)
  exact⟨_,rfl,k _ _ _ (bJ h (aT a (.bl _)))⟩
 ·rename_i e0 hne
  split at h
  ·rename_i hs
   obtain⟨v,rfl⟩:=bQ a.len
   have n:=a.nn (λz=>hne (by rw [z])) (uT hs)
   refine⟨_,rfl,?_⟩
   dsimp only
   rw [decide_eq_false n]
   exact k _ _ _ (bJ h (aT a (.bl _)))
  ·cases h
 ·cases h
def DZ{K:W.Frag}:aE K κ (r1 λx H1 Q=>Q (.bl (!decide (x=.non))) H1) (eR false):=by
 intro ι H σ Z G es vs e Z' G' Q a h k
 unfold eR at h
 split at h
 ·obtain⟨v,rfl⟩:=bQ a.len
  cases jD (a.im (j:=0) rfl rfl)
  exact⟨_,rfl,k _ _ _ (bJ h (aT a (.bl _)))⟩
 ·rename_i e0 hne
  split at h
  ·rename_i hs
   obtain⟨v,rfl⟩:=bQ a.len
   have n:=a.nn (λz=>hne (by rw [z])) (uT hs)
   refine⟨_,rfl,?_⟩
   dsimp only
   rw [decide_eq_false n]
   exact k _ _ _ (bJ h (aT a (.bl _)))
  ·cases h
 ·cases h
def D6{j pos'}(h:LE X κ a fa):LT X κ (.Compare a [.Is] [.Constant .none j pos'] pos) (ao (a7 (eR true) fa)):=.mk (fu (kG (Bl h.pe)) λ_ _ _ q=>g6 DY (g7 q))
def uU{j pos'}(h:LE X κ a fa):LT X κ (.Compare a [.IsNot] [.Constant .none j pos'] pos) (ao (a7 (eR false) fa)):=.mk (fu (kG (Bm h.pe)) λ_ _ _ q=>g6 DZ (g7 q))
variable {s:Stmt}{ss ss2:List Stmt}{f g:SF}
def Ea:fY X κ [] aP:=.mk (lO Br λ_ _ _=>DA)
def uV(h:LS X κ s f):fY X κ [s] f:=.mk (iD h.pe)
def Eb(h:LS X κ s f)(r:fY X κ ss g):fY X κ (s::ss) (ak f g):=.mk (lO (iC h.pe r.pe) λ_ _ _=>ug)
def uW(h:LE X κ a fa):LS X κ (.Return (some a) pos) (ax fa):=.mk (cU (rD h.pe) λ_ _ _=>uk)
def Ec(h:LE X κ a fa)(hs:‹swapsWith a none pos.line X.env=pure false›):LS X κ (.Expr a pos) (cX fa):=.mk (cU (kJ h.pe hs) λ_ _ _=>DB)
def Ed(hc:LT X κ c fc)(ha:fY X κ ss f)(hb:fY X κ ss2 g):LS X κ (.If c ss ss2 pos) (aF fc f g):=.mk (cU (rE hc.pe ha.pe hb.pe) λ_ _ _=>uh)
def Ee(hc:LT X κ c fc)(hb:fY X κ ss f)(hp:PassesOwn (model X.prog X.w) X.A X.env X.xe:=by exact PassesOwn.never):LS X κ (.While c ss [] pos) (gH fc f):=.mk (cU (Bv hp hc.pe hb.pe) λ_ _ _=>DE)
def uX (hi:LI X κ tg it fi)(hg:LG X κ tg gf)(hb:fY X κ ss f)(hc:‹X.calm=true›)(hp:PassesOwn (model X.prog X.w) X.A X.env X.xe:=by exact PassesOwn.never)(hs:∀x,foldedSetIterable it X.env x=pure x:=by intro _;rfl):LS X κ (.For tg it ss [] pos) (dh fi gf f):=.mk (cU (rQ hp hc hi.pe hg.pe hb.pe hs) λ_ _ _=>DF)
def uY (hN:X.N.Nodup)(hi:‹X.N[i]?=some x›)(hx:qF X.env.scope x:=by first|exact Or.inl rfl|exact Or.inr rfl)(hf:X.fn x=true∨X.env.scope.names.lookup x=some .local:=by first|exact .inl rfl|exact .inr rfl|assumption):LG X κ (.Name x p) (aG i):=.mk (DS (jo hN hi hx hf) λ_ _ _ _=>oG)
end
end
section
section
variable {X:Cx}{K:W.Frag}{κ:Str->Addr}
abbrev bE(f:Int->Int->Option I):List Ev->Mo Ev:=λes Z G=>match es with
 | [.v (.im (.int i)),.v (.im (.int j))]=>match f i j with
  | some d=>some (.v (.im d),Z,G)
  | none=>none
 | _=>none
def jJ{C:Int->Int->Prop}{g:Int->Int->V}{f:Int->Int->Option I}(hf:∀i j d,f i j=some d->C i j/\∀ι H,RpI K ι H (g i j) d):aE K κ (r2 (rI C g)) (bE f):=by
 intro ι H σ Z G es vs e Z' G' Q a h k
 unfold bE at h
 split at h
 ·rename_i i j
  split at h
  ·rename_i d hd
   obtain⟨v,u,rfl⟩:=bI a.len
   cases cG (a.im (j:=0) rfl rfl)
   cases cG (a.im (j:=1) rfl rfl)
   obtain⟨c,r⟩:=hf i j d hd
   exact⟨_,_,rfl,i,j,rfl,rfl,c,k _ _ _ (bJ h (aT a (r ι H)))⟩
  ·cases h
 ·cases h
def fZ{g:Int->Int->V}{f:Int->Int->Option I}(hf:∀i j d,f i j=some d->∀ι H,RpI K ι H (g i j) d):aE K κ (r2 (jc g)) (bE f):=by
 intro ι H σ Z G es vs e Z' G' Q a h k
 obtain⟨x,y,e1,i,j,e2,e3,_,q⟩:=jJ (λi j d hd=>⟨trivial,hf i j d hd⟩) ι H σ Z G es vs e Z' G' Q a h k
 exact⟨x,y,e1,i,j,e2,e3,q⟩
def aE.or{r r':R2}{p p':List Ev->Mo Ev}(h:aE K κ (r2 r) p)(h':aE K κ (r2 r') p'):aE K κ (r2 λx y H Q=>r x y H Q∨r' x y H Q) (λes Z G=>match p es Z G with|some z=>some z|none=>p' es Z G):=by
 intro ι H σ Z G es vs e Z' G' Q a hp k
 dsimp only at hp
 split at hp
 ·rename_i z hz
  cases hp
  obtain⟨x,y,e1,q⟩:=h ι H σ Z G es vs _ _ _ Q a hz k
  exact⟨x,y,e1,.inl q⟩
 ·obtain⟨x,y,e1,q⟩:=h' ι H σ Z G es vs _ _ _ Q a hp k
  exact⟨x,y,e1,.inr q⟩
abbrev bS(p p':List Ev->Mo Ev):List Ev->Mo Ev:=λes Z G=>match p es Z G with|some z=>some z|none=>p' es Z G
abbrev jf:List Ev->Mo Ev:=λes Z G=>match es with
 | [.v (.im (.str x)),.v (.im (.str y))]=>if x.length+y.length≤1000000 then some (.v (.im (.str (x++y))),Z,G) else none
 | _=>none
def Ef:aE K κ (r2 λx y H Q=>∃i j,x=.str i/\y=.str j/\i.length+j.length≤sizeLine/\Q (.str (i++j)) H) jf:=by
 intro ι H σ Z G es vs e Z' G' Q a h k
 unfold jf at h
 split at h
 ·rename_i i j
  split at h
  ·rename_i hl
   obtain⟨v,u,rfl⟩:=bI a.len
   cases bK (a.im (j:=0) rfl rfl)
   cases bK (a.im (j:=1) rfl rfl)
   exact⟨_,_,rfl,i,j,rfl,rfl,z1a hl (by decide),k _ _ _ (bJ h (aT a (.str _)))⟩
  ·cases h
 ·cases h
abbrev lS(K:W.Frag):R2:=λx y H Q=>∃a b xs ys,x=.ref a/\y=.ref b/\bb K H a xs/\bb K H b ys/\xs.length+ys.length≤sizeLine /\
 (xs=[]->Q (.ref b) H)/\(xs≠[]->ys=[]->Q (.ref a) H)/\(xs≠[]->ys≠[]->∀p,H p=none->Q (.ref p) (aH H p (.tup (xs++ys))))
def Eg:bU X (binaryOp .Add) (lS X.K):=by
 intro pins s σ H x y v u Q I rx ry h
 obtain⟨a,b,xs,ys,rfl,rfl,ha,hb,hz,q0,q1,q2⟩:=h
 by_cases hx:xs=[]
 ·cases rx
  cases ry
  obtain⟨its,r1,p1,_⟩:=I.tuple ha
  obtain⟨y1ea,r2,p2,_⟩:=I.tuple hb
  have hi:its=[]:=r1.y285.mpr hx
  obtain⟨⟨cls,dd,data,sl⟩,ho,hc,n,hd⟩:=id p1
  obtain⟨⟨cls2,dd2,data2,sl2⟩,ho2,hc2,n2,hd2⟩:=id p2
  simp only at hc hd hc2 hd2
  subst hc hd hc2 hd2
  exact concat_meets ⟨_,ho,rfl⟩ ⟨_,ho2,rfl⟩ noFill_tuple_add seq_tuple_add PySem.F.slot_tuple_add PySem.F.entry_tuple_add (PySem.F.args_tuple_add_2 _ _)
   (tuple_addW0 a b its.toArray y1ea.toArray n n2 dd dd2 sl sl2 (by simp [hi])) ⟨ho,ho2,⟨.ref b,H,I,rfl,q0 hx⟩⟩
 ·exact Cm pins s σ H _ _ v u Q I rx ry ⟨a,b,xs,ys,rfl,rfl,ha,hb,hx,hz,q1 hx,q2 hx⟩
abbrev oS:List Ev->Mo Ev:=λes Z G=>match es with
 | [.v (.im (.tup xs)),.v (.im (.tup ys))]=>if xs.length+ys.length≤1000000 then some (.v (.im (.tup (xs++ys))),Z,G) else none
 | _=>none
def Eh:aE K κ (r2 (lS K)) oS:=by
 intro ι H σ Z G es vs e Z' G' Q a h k
 unfold oS at h
 split at h
 ·rename_i xs ys
  split at h
  ·rename_i hl
   obtain⟨v,u,rfl⟩:=bI a.len
   have ra:=a.im (j:=0) rfl rfl
   have rb:=a.im (j:=1) rfl rfl
   cases ra with
   | @tup p vs1 _ h1 r1 =>
    cases rb with
    | @tup q vs2 _ h2 r2 =>
     have l1:=r1.len
     have l2:=r2.len
     refine⟨_,_,rfl,p,q,vs1,vs2,rfl,rfl,bb.of h1,bb.of h2,z1a (by lia) (show 1000000≤sizeLine by decide),λe=>?_,λ_ e=>?_,λ_ _ p' hp=>?_⟩
     ·subst e
      cases r1
      exact k _ _ _ (bJ h (aT a (.tup h2 r2)))
     ·subst e
      cases r2
      exact k _ _ _ (bJ h (aT a (by rw [z11];exact .tup h1 r1)))
     ·exact k _ _ _ (bJ h (oC a hp (r1.app r2)))
  ·cases h
 ·cases h
abbrev lU:List Ev->Mo Ev:=λes Z G=>match es with
 | [a,b]=>match pk Z G a,pk Z G b with
  | some (.lst xs),some (.lst ys)=>if xs.length+ys.length≤1000000 then some (.v (.ow (.lst (xs++ys))),Z,G) else none
  | _,_=>none
 | _=>none
def Ei:aE K κ (r2 kZ) lU:=by
 intro ι H σ Z G es vs e Z' G' Q a h k
 unfold lU at h
 split at h
 ·rename_i x y
  split at h
  ·rename_i xs ys hx hy
   split at h
   ·rename_i hl
    obtain⟨v,u,rfl⟩:=bI a.len
    obtain⟨p,e1,vs1,h1,r1⟩:=a.pk (j:=0) rfl rfl hx
    obtain⟨q,e2,vs2,h2,r2⟩:=a.pk (j:=1) rfl rfl hy
    subst e1;subst e2
    have l1:=r1.len
    have l2:=r2.len
    exact⟨_,_,rfl,p,q,vs1,vs2,rfl,rfl,h1,h2,z1a (by lia) (show 1000000≤sizeLine by decide),λp' hp=>k _ _ _ (bJ h (fW a hp (r1.app r2)))⟩
   ·cases h
  ·cases h
 ·cases h
abbrev kq:List Ev->Mo Ev:=bE λi j=>some (.int (i+j))
abbrev aD:List Ev->Mo Ev:=bS kq (bS jf (bS oS lU))
def uZ (hr:y4e k A):bU X (binaryOp .Add) (λx y H Q=>jc (λi j=>.int (i+j)) x y H Q∨((∃i j,x=.str i/\y=.str j/\i.length+j.length≤sizeLine/\Q (.str (i++j)) H)∨(lS X.K x y H Q∨kZ x y H Q))) :=
 BH.or (BQ.or (Eg.or CF))
def u4:aE K κ (r2 λx y H Q=>jc (λi j=>.int (i+j)) x y H Q∨((∃i j,x=.str i/\y=.str j/\i.length+j.length≤sizeLine/\Q (.str (i++j)) H)∨(lS K x y H Q∨kZ x y H Q))) aD :=
 aE.or (fZ λi j d h ι H=>by cases h;exact .int _) (aE.or Ef (aE.or Eh Ei))
abbrev fw:List Ev->Mo Ev:=bE λi j=>some (.int (i-j))
def u5 (hr:y4e k A):bU X (binaryOp .Sub) (jc λi j=>.int (i-j)):=BI
def u6:aE K κ (r2 (jc λi j=>.int (i-j))) fw:=fZ λi j d h ι H=>by cases h;exact .int _
abbrev oU:List Ev->Mo Ev:=bE λi j=>if (-(2 ^ 64)<i/\i<2 ^ 64)∨(-(2 ^ 64)<j/\j<2 ^ 64) then some (.int (i*j)) else none
abbrev lV:List Ev->Mo Ev:=λes Z G=>match es with
 | [a,.v (.im (.int j))]=>match pk Z G a with
  | some (.lst xs)=>if 0≤j/\j≤1000/\xs.length≤1000 then some (.v (.ow (.lst (List.replicate j.toNat xs).flatten)),Z,G) else none
  | _=>none
 | _=>none
theorem y4f.rep{ι:List Addr}{H:Hp}{vs:List V}{xs:List I}(r:y4f K ι H vs xs):∀n:Nat,y4f K ι H (List.replicate n vs).flatten (List.replicate n xs).flatten
 | 0=>.nil
 | n+1=>by rw [List.replicate_succ,List.replicate_succ,List.flatten_cons,List.flatten_cons];exact r.app (y4f.rep r n)
def Ej:aE K κ (r2 k6) lV:=by
 intro ι H σ Z G es vs e Z' G' Q a h k
 unfold lV at h
 split at h
 ·rename_i x j
  split at h
  ·rename_i xs hx
   split at h
   ·rename_i hl
    obtain⟨v,u,rfl⟩:=bI a.len
    obtain⟨p,e1,vs1,h1,r1⟩:=a.pk (j:=0) rfl rfl hx
    cases cG (a.im (j:=1) rfl rfl)
    subst e1
    have l1:=r1.len
    refine⟨_,_,rfl,p,j,vs1,rfl,rfl,h1,by lia,by lia,z1a (Nat.mul_le_mul (show vs1.length≤1000 by lia) (show j.toNat≤1000 by lia)) (show 1000*1000≤sizeLine by decide),λp' hp=>k _ _ _ (bJ h (fW a hp (r1.rep _)))⟩
   ·cases h
  ·cases h
 ·cases h
abbrev lW:List Ev->Mo Ev:=λes Z G=>match es with
 | [.v (.im (.str z)),.v (.im (.int j))]=>if 0≤j/\j≤1000/\z.length≤1000 then some (.v (.im (.str (PySem.Txt.mul z j))),Z,G) else none
 | _=>none
abbrev oV:R2:=λx y H Q=>∃z n,x=.str z/\y=.int n/\MulOk z n/\Q (.str (PySem.Txt.mul z n)) H
def jK (h:0≤j/\j≤1000/\z.length≤1000):MulOk z j:=by
  obtain⟨h0,h1,h2⟩:=h
  have hb:(z.length:Int)*j≤1000*1000:=Int.mul_le_mul (by lia) h1 h0 (by lia)
  have hn:z.length*j.toNat≤1000*1000:=Nat.mul_le_mul h2 (by lia)
  refine⟨by simp only [Bool.or_eq_false_iff,decide_eq_false_iff_not];lia,λh3 _ h4=>?_,λ_ _=>?_⟩
  · have:=(Int.le_ediv_iff_mul_le (c:=j) (a:=(z.length:Int)) (b:=2 ^ 63-1) (by lia)).mpr (by lia)
    lia
  · exact decide_eq_false (by have:(1000*1000:Nat)≤sizeLine:=by decide
                              lia)
def Ek:aE K κ (r2 oV) lW:=by
 intro ι H σ Z G es vs e Z' G' Q a h k
 unfold lW at h
 split at h
 ·rename_i z j
  split at h
  ·rename_i hl
   obtain⟨v,u,rfl⟩:=bI a.len
   cases bK (a.im (j:=0) rfl rfl)
   cases cG (a.im (j:=1) rfl rfl)
   exact⟨_,_,rfl,z,j,rfl,rfl,jK hl,k _ _ _ (bJ h (aT a (.str _)))⟩
  ·cases h
 ·cases h
abbrev cJ:List Ev->Mo Ev:=bS oU (bS lV lW)
def u7 (hr:y4e k A):bU X (binaryOp .Mult) (λx y H Q=>rI y4 (λi j=>.int (i*j)) x y H Q∨(k6 x y H Q∨oV x y H Q)):=BJ.or (CG.or C5)
def u9:aE K κ (r2 λx y H Q=>rI y4 (λi j=>.int (i*j)) x y H Q∨(k6 x y H Q∨oV x y H Q)) cJ:=aE.or (jJ λi j d h=>by
 split at h
 ·rename_i c;cases h;exact⟨c,λι H=>.int _⟩
 ·cases h) (aE.or Ej Ek)
abbrev jL:List Ev->Mo Ev:=bE λi j=>if 0<j/\j<2 ^ 200 then some (.int (i / j)) else none
def El (hr:y4e k A):bU X (binaryOp .FloorDiv) (rI (λ_ j=>0<j/\j<2 ^ 200) λi j=>.int (i / j)):=CW
def Em:aE K κ (r2 (rI (λ_ j=>0<j/\j<2 ^ 200) λi j=>.int (i / j))) jL:=jJ λi j d h=>by
 split at h
 ·rename_i c;cases h;exact⟨c,λι H=>.int _⟩
 ·cases h
abbrev dj:List Ev->Mo Ev:=bE λi j=>if 0<j then some (.int (i % j)) else none
def vc (hr:y4e k A):bU X (binaryOp .Mod) (rI (λ_ j=>0<j) λi j=>.int (i % j)):=BK
def vd:aE K κ (r2 (rI (λ_ j=>0<j) λi j=>.int (i % j))) dj:=jJ λi j d h=>by
 split at h
 ·rename_i c;cases h;exact⟨c,λι H=>.int _⟩
 ·cases h
abbrev g9:List Ev->Mo Ev:=bE λi j=>if 0≤j/\j≤1000000/\i.natAbs<2 ^ 64 then some (.int (i ^ j.toNat)) else none
def ve (hr:y4e k A):bU X (binaryOp .Pow) (rI nV λi j=>.int (i ^ j.toNat)):=BL
def vf:aE K κ (r2 (rI nV λi j=>.int (i ^ j.toNat))) g9:=jJ λi j d h=>by
 split at h
 ·rename_i c;cases h;exact⟨c,λι H=>.int _⟩
 ·cases h
abbrev En:List Ev->Mo Ev:=bE λi j=>if 0≤j/\j≤1000000/\i.natAbs<2 ^ 64 then some (.int (i*2 ^ j.toNat)) else none
abbrev Eo:List Ev->Mo Ev:=bE λi j=>if 0≤j then some (.int (i / 2 ^ j.toNat)) else none
abbrev cY:List Ev->Mo Ev:=λes Z G=>match es with
 | [.v (.im (.int i))]=>some (.v (.im (.int (-i))),Z,G)
 | _=>none
def Ep:aE K κ (r1 (rU λi=>.int (-i))) cY:=by
 intro ι H σ Z G es vs e Z' G' Q a h k
 unfold cY at h
 split at h
 ·rename_i i
  obtain⟨v,rfl⟩:=bQ a.len
  cases cG (a.im (j:=0) rfl rfl)
  exact⟨_,rfl,i,rfl,k _ _ _ (bJ h (aT a (.int _)))⟩
 ·cases h
def vg (h:LE X κ a fa):LE X κ (.UnaryOp .USub a pos) (a7 cY fa):=DV nW Ep h
abbrev dS:List Ev->Mo Ev:=bE λi j=>some (.bl (decide (i<j)))
abbrev leP:List Ev->Mo Ev:=bE λi j=>some (.bl (decide (i≤j)))
abbrev fO:List Ev->Mo Ev:=bE λi j=>some (.bl (decide (j<i)))
abbrev gI:List Ev->Mo Ev:=bE λi j=>some (.bl (decide (j≤i)))
end
end
set_option maxHeartbeats 400000
section
section
abbrev lX(K:W.Frag)(H:Hp)(x:V):Prop:=∃a xs,x=.ref a/\bb K H a xs
abbrev nv(K:W.Frag)(H:Hp)(x y:V)(b:Bool):Prop:=(bo x=true/\bo y=true/\b=gX x y)∨(lX K H x/\bo y=true/\b=false)∨(bo x=true/\lX K H y/\b=false)
abbrev jM(K:W.Frag)(H:Hp):Nat->V->V->Bool->Prop
 | 0,x,y,b=>nv K H x y b
 | n+1,x,y,b=>nv K H x y b∨∃a c xs ys e,x=.ref a/\y=.ref c/\bb K H a xs/\bb K H c ys/\(∀(j:Nat) u w,xs[j]?=some u->ys[j]?=some w->jM K H n u w (e j))/\b=((List.range (min xs.length ys.length)).all e&&xs.length == ys.length)
def Er(h:bo x=true):gX x x=true:=by
 cases x with
 | non=>rfl
 | bl b=>exact beq_self_eq_true b
 | int i=>exact beq_self_eq_true i
 | str z=>exact beq_self_eq_true z
 | _=>cases h
def nv.refl  (I:Inv X pins σ H s)(h:nv X.K H x x b):b=true:=by
 rcases h with⟨h1,_,rfl⟩| ⟨⟨a,xs,rfl,_⟩,h2,_⟩| ⟨h2,⟨a,xs,rfl,_⟩,_⟩
 ·exact Er h1
 ·cases h2
 ·cases h2
theorem jM.refl (I:Inv X pins σ H s):∀{n:Nat} {x:V} {b:Bool},jM X.K H n x x b->b=true
 | 0,_,_,h=>nv.refl I h
 | n+1,x,b,h=>by
  rcases h with h|⟨a,c,xs,ys,e,e1,e2,h1,h2,he,rfl⟩
  ·exact nv.refl I h
  ·subst e1;cases e2
   have:=I.y4b6 h1 h2
   subst this
   rw [Nat.min_self]
   have:(List.range xs.length).all e=true:=by
    rw [z33]
    intro j hj
    have hj:j<xs.length:=by simpa using hj
    exact jM.refl I (he j _ _ (z16 hj) (z16 hj))
   rw [this];simp
def iO (r:au xs us)(h:j<us.toArray.size):∃x,xs[j]?=some x/\ay x us.toArray[j]:=by
 have l:=r.length
 have h':j<xs.length:=by rw [l];simpa using h
 obtain⟨u,eu,ru⟩:=r.get (z16 h')
 refine⟨_,z16 h',?_⟩
 have:us.toArray[j]?=some u:=by simpa using eu
 rw [Array.getElem?_eq_getElem h] at this
 rw [z20 this]
 exact ru
def vh   (I:Inv X pins σ H s)(h:nv X.K H x y b)(ru:ay x u)(rw':ay y w)(hu:A.units<cLine):SeqAt.EqAt A s u w b:=by
 rcases h with⟨h1,h2,rfl⟩| ⟨⟨a,xs,rfl,ht⟩,h2,rfl⟩| ⟨h2,⟨a,xs,rfl,ht⟩,rfl⟩
 ·exact sZ ru rw' h1 h2
 ·cases ru
  obtain⟨its,r1,p1,_⟩:=I.tuple ht
  have p1:s.heap.IsTuple a its.toArray:=p1
  cases y with
  | non=>cases rw';exact SeqAt.EqAt.tuple_none p1 hu
  | bl c=>cases rw';exact SeqAt.EqAt.tuple_bool _ p1 hu
  | int i=>obtain⟨t,rfl⟩:=rw';exact SeqAt.EqAt.tuple_int _ _ p1 hu
  | str z=>obtain⟨t,rfl⟩:=rw';exact SeqAt.EqAt.tuple_str _ _ p1 hu
  | _=>cases h2
 ·cases rw'
  obtain⟨its,r1,p1,_⟩:=I.tuple ht
  have p1:s.heap.IsTuple a its.toArray:=p1
  cases x with
  | non=>cases ru;exact SeqAt.EqAt.none_tuple p1 hu
  | bl c=>cases ru;exact SeqAt.EqAt.bool_tuple _ p1 hu
  | int i=>obtain⟨t,rfl⟩:=ru;exact SeqAt.EqAt.int_tuple _ _ p1 hu
  | str z=>obtain⟨t,rfl⟩:=ru;exact SeqAt.EqAt.str_tuple _ _ p1 hu
  | _=>cases h2
theorem oW:∀{n:Nat} {A:Around} {pins:List (Addr×Obj)} {σ:L2.St} {s:Shared} {x y:V} {u w:Value} {b:Bool},Inv X pins σ H s->jM X.K H n x y b->ay x u->ay y w->A.units+n<cLine->SeqAt.EqAt A s u w b
 | 0,_,_,_,_,_,_,_,_,_,I,h,ru,rw',hu=>vh I h ru rw' hu
 | n+1,A,_,_,s,_,_,_,_,_,I,h,ru,rw',hu=>by
  rcases h with h|⟨a,c,xs,ys,e,e1,e2,h1,h2,he,rfl⟩
  ·exact vh I h ru rw' (by lia)
  ·subst e1;subst e2
   cases ru;cases rw'
   by_cases hac:a=c
   ·subst hac
    have:=jM.refl (n:=n+1) I (.inr ⟨a,a,xs,ys,e,rfl,rfl,h1,h2,he,rfl⟩)
    rw [this]
    exact SeqAt.EqAt.same _
   ·obtain⟨its,r1,p1,_⟩:=I.tuple h1
    obtain⟨y1ea,r2,p2,_⟩:=I.tuple h2
    have q:=SeqAt.RcAt.tuples (A:=A) (show s.heap.IsTuple a its.toArray from p1) (show s.heap.IsTuple c y1ea.toArray from p2) (by lia) (λj z1 z2=>by
     obtain⟨x,ex,rx⟩:=iO r1 z1
     obtain⟨y,ey,ry⟩:=iO r2 z2
     exact oW I (he j x y ex ey) rx ry (by show A.units+1+n<cLine;lia))
    rw [ze,ze,<- r1.length,<- r2.length] at q
    exact SeqAt.EqAt.of_refs hac q
end
end
section
section
abbrev EqL(K:W.Frag)(H:Hp)(n:Nat)(x y:V)(b:Bool):Prop:=∃a c xs ys,x=.ref a/\y=.ref c/\bw K H a xs/\bw K H c ys/\((xs.length≠ys.length/\b=false)∨(xs.length=ys.length/\∃e,(∀(j:Nat) u w,xs[j]?=some u->ys[j]?=some w->jM K H n u w (e j))/\b=(List.range xs.length).all e))
abbrev qJ(K:W.Frag)(H:Hp)(x y:V)(b:Bool):Prop:=(iG x y=true/\b=decide (x=y))∨(lX K H x/\bo y=true/\b=false)∨(bo x=true/\lX K H y/\b=false) ∨
 (∃a c xs ys e,x=.ref a/\y=.ref c/\bb K H a xs/\bb K H c ys/\(∀(j:Nat) u w,xs[j]?=some u->ys[j]?=some w->jM K H 40 u w (e j))/\b=((List.range (min xs.length ys.length)).all e&&xs.length == ys.length))∨EqL K H 40 x y b
def vi(hu:X.A.units+50<cLine):bU X (compareOp .Eq) (λx y H Q=>∃b,qJ X.K H x y b/\Q (.bl b) H):=by
 intro pins s σ H x y v u Q I rx ry h
 obtain⟨b,h,q⟩:=h
 have hu0:X.A.units<cLine:=by lia
 have hel:∀{xs ys:List V} {us ws:List Value} {e:Nat->Bool},au xs us->au ys ws->(∀(j:Nat) u w,xs[j]?=some u->ys[j]?=some w->jM X.K H 40 u w (e j))->∀j (z1:j<us.toArray.size) (z2:j<ws.toArray.size),SeqAt.EqAt X.A.in1 s us.toArray[j] ws.toArray[j] (e j):=λr1 r2 he j z1 z2=>by
  obtain⟨x,ex,rx⟩:=iO r1 z1
  obtain⟨y,ey,ry⟩:=iO r2 z2
  exact oW I (he j x y ex ey) rx ry (by show X.A.units+1+40<cLine;lia)
 rcases h with⟨hs,rfl⟩| ⟨⟨a,xs,rfl,ht⟩,h2,rfl⟩| ⟨h2,⟨a,xs,rfl,ht⟩,rfl⟩| ⟨a,c,xs,ys,e,rfl,rfl,h1,h2,he,rfl⟩| ⟨a,c,xs,ys,rfl,rfl,h1,h2,h3⟩
 ·exact rV pins s σ H x y v u Q I rx ry ⟨hs,q⟩
 ·cases rx
  obtain⟨its,r1,p1,_⟩:=I.tuple ht
  have p1:s.heap.IsTuple a its.toArray:=p1
  have fin:EP X pins σ Q (.bool false) s:=⟨.bl false,H,I,rfl,q⟩
  cases y with
  | non=>cases ry;exact SeqAt.RcAt.tuple_none p1 hu0 _ _ _ _ fin
  | bl c=>cases ry;exact SeqAt.RcAt.tuple_bool _ p1 hu0 _ _ _ _ fin
  | int i=>obtain⟨t,rfl⟩:=ry;exact SeqAt.RcAt.tuple_int _ _ p1 hu0 _ _ _ _ fin
  | str z=>obtain⟨t,rfl⟩:=ry;exact SeqAt.RcAt.tuple_str _ _ p1 hu0 _ _ _ _ fin
  | _=>cases h2
 ·cases ry
  obtain⟨its,r1,p1,_⟩:=I.tuple ht
  have p1:s.heap.IsTuple a its.toArray:=p1
  have fin:EP X pins σ Q (.bool false) s:=⟨.bl false,H,I,rfl,q⟩
  cases x with
  | non=>cases rx;exact SeqAt.RcAt.none_tuple p1 hu0 _ _ _ _ fin
  | bl c=>cases rx;exact SeqAt.RcAt.bool_tuple _ p1 hu0 _ _ _ _ fin
  | int i=>obtain⟨t,rfl⟩:=rx;exact SeqAt.RcAt.int_tuple _ _ p1 hu0 _ _ _ _ fin
  | str z=>obtain⟨t,rfl⟩:=rx;exact SeqAt.RcAt.str_tuple _ _ p1 hu0 _ _ _ _ fin
  | _=>cases h2
 ·cases rx;cases ry
  obtain⟨its,r1,p1,_⟩:=I.tuple h1
  obtain⟨y1ea,r2,p2,_⟩:=I.tuple h2
  refine SeqAt.RcAt.tuples (show s.heap.IsTuple a its.toArray from p1) (show s.heap.IsTuple c y1ea.toArray from p2) hu0 (hel r1 r2 he) _ _ _ _ ?_
  rw [ze,ze,<- r1.length,<- r2.length]
  exact⟨.bl _,H,I,rfl,q⟩
 ·cases rx;cases ry
  obtain⟨its,r1,p1,_⟩:=I.list h1
  obtain⟨y1ea,r2,p2,_⟩:=I.list h2
  have l1:=r1.length
  have l2:=r2.length
  rcases h3 with⟨hn,rfl⟩| ⟨hn,e,he,rfl⟩
  ·exact SeqAt.RcAt.lists_lengths p1.isList p2.isList (by simp;lia) hu0 X.prog X.w X.xe _ ⟨.bl _,H,I,rfl,q⟩
  ·refine SeqAt.eq_listAt p1.isList p2.isList (by simp;lia) hu0 (hel r1 r2 he) ?_
   rw [ze,<- l1]
   exact⟨.bl _,H,I,rfl,q⟩
end
end
section
section
def Es(hu:X.A.units+50<cLine):bU X (compareOp .NotEq) (λx y H Q=>∃b,qJ X.K H x y b/\Q (.bl (!b)) H):=by
 intro pins s σ H x y v u Q I rx ry h
 obtain⟨b,h,q⟩:=h
 have hu0:X.A.units<cLine:=by lia
 have hel:∀{xs ys:List V} {us ws:List Value} {e:Nat->Bool},au xs us->au ys ws->(∀(j:Nat) u w,xs[j]?=some u->ys[j]?=some w->jM X.K H 40 u w (e j))->∀j (z1:j<us.toArray.size) (z2:j<ws.toArray.size),SeqAt.EqAt X.A.in1 s us.toArray[j] ws.toArray[j] (e j):=λr1 r2 he j z1 z2=>by
  obtain⟨x,ex,rx⟩:=iO r1 z1
  obtain⟨y,ey,ry⟩:=iO r2 z2
  exact oW I (he j x y ex ey) rx ry (by show X.A.units+1+40<cLine;lia)
 rcases h with⟨hs,rfl⟩| ⟨⟨a,xs,rfl,ht⟩,h2,rfl⟩| ⟨h2,⟨a,xs,rfl,ht⟩,rfl⟩| ⟨a,c,xs,ys,e,rfl,rfl,h1,h2,he,rfl⟩| ⟨a,c,xs,ys,rfl,rfl,h1,h2,h3⟩
 ·exact rW pins s σ H x y v u Q I rx ry ⟨hs,q⟩
 ·cases rx
  obtain⟨its,r1,p1,_⟩:=I.tuple ht
  have p1:s.heap.IsTuple a its.toArray:=p1
  have fin:EP X pins σ Q (.bool true) s:=⟨.bl true,H,I,rfl,q⟩
  cases y with
  | non=>cases ry;exact SeqAt.RcNeAt.tuple_none p1 hu0 _ _ _ _ fin
  | bl c=>cases ry;exact SeqAt.RcNeAt.tuple_bool _ p1 hu0 _ _ _ _ fin
  | int i=>obtain⟨t,rfl⟩:=ry;exact SeqAt.RcNeAt.tuple_int _ _ p1 hu0 _ _ _ _ fin
  | str z=>obtain⟨t,rfl⟩:=ry;exact SeqAt.RcNeAt.tuple_str _ _ p1 hu0 _ _ _ _ fin
  | _=>cases h2
 ·cases ry
  obtain⟨its,r1,p1,_⟩:=I.tuple ht
  have p1:s.heap.IsTuple a its.toArray:=p1
  have fin:EP X pins σ Q (.bool true) s:=⟨.bl true,H,I,rfl,q⟩
  cases x with
  | non=>cases rx;exact SeqAt.RcNeAt.none_tuple p1 hu0 _ _ _ _ fin
  | bl c=>cases rx;exact SeqAt.RcNeAt.bool_tuple _ p1 hu0 _ _ _ _ fin
  | int i=>obtain⟨t,rfl⟩:=rx;exact SeqAt.RcNeAt.int_tuple _ _ p1 hu0 _ _ _ _ fin
  | str z=>obtain⟨t,rfl⟩:=rx;exact SeqAt.RcNeAt.str_tuple _ _ p1 hu0 _ _ _ _ fin
  | _=>cases h2
 ·cases rx;cases ry
  obtain⟨its,r1,p1,_⟩:=I.tuple h1
  obtain⟨y1ea,r2,p2,_⟩:=I.tuple h2
  refine SeqAt.RcNeAt.tuples (show s.heap.IsTuple a its.toArray from p1) (show s.heap.IsTuple c y1ea.toArray from p2) hu0 (hel r1 r2 he) _ _ _ _ ?_
  rw [ze,ze,<- r1.length,<- r2.length]
  exact⟨.bl _,H,I,rfl,q⟩
 ·cases rx;cases ry
  obtain⟨its,r1,p1,_⟩:=I.list h1
  obtain⟨y1ea,r2,p2,_⟩:=I.list h2
  have l1:=r1.length
  have l2:=r2.length
  rcases h3 with⟨hn,rfl⟩| ⟨hn,e,he,rfl⟩
  ·exact SeqAt.RcNeAt.lists_lengths p1.isList p2.isList (by simp;lia) hu0 X.prog X.w X.xe _ ⟨.bl _,H,I,rfl,q⟩
  ·refine SeqAt.RcNeAt.lists p1.isList p2.isList (by simp;lia) hu0 (hel r1 r2 he) X.prog X.w X.xe _ ?_
   rw [ze,<- l1]
   exact⟨.bl _,H,I,rfl,q⟩
end
end
section
section
variable {X:Cx}{K:W.Frag}{κ:Str->Addr}{H:Hp}
abbrev oX(f:I->I->Option Bool):List I->List I->Option Bool
 | [],[]=>some true
 | x::xs,y::ys=>match f x y,oX f xs ys with
  | some b,some c=>some (b&&c)
  | _,_=>none
 | [],_::_=>some false
 | _::_,[]=>some false
abbrev kr:I->Option (List I)
 | .tup xs=>some xs
 | .con xs=>some xs
 | _=>none
abbrev bL:I->Bool
 | .non=>true
 | .bl _=>true
 | .int _=>true
 | .str _=>true
 | _=>false
abbrev br:I->I->Bool
 | .non,.non=>true
 | .bl a,.bl b=>a == b
 | .bl a,.int b=>(if a then 1 else 0) == b
 | .int a,.bl b=>a == (if b then 1 else 0)
 | .int a,.int b=>a == b
 | .str a,.str b=>a == b
 | _,_=>false
abbrev dJ:Nat->I->I->Option Bool
 | 0,x,y=>if bL x&&bL y then some (br x y) else if ((kr x).isSome&&bL y)||(bL x&&(kr y).isSome) then some false else none
 | n+1,x,y=>if bL x&&bL y then some (br x y) else if ((kr x).isSome&&bL y)||(bL x&&(kr y).isSome) then some false else match kr x,kr y with
  | some xs,some ys=>oX (dJ n) xs ys
  | _,_=>none
variable {ι:List Addr}
def eG{v:V}{x:I}(r:RpI K ι H v x)(h:bL x=true):bo v=true:=by cases r<;>first|rfl|cases h
abbrev vm:V->I
 | .bl b=>.bl b
 | .int i=>.int i
 | .str x=>.str x
 | _=>.non
def lY(r:RpI K ι H v x)(h:bo v=true):x=vm v:=by
 cases r<;>first|rfl|cases h
def Et(h:bo v=true)(h':bo w=true):br (vm v) (vm w)=gX v w:=by
 cases v<;>first|cases h;done|(cases w<;>first|rfl|cases h')
def vn(r:RpI K ι H v x)(r':RpI K ι H w y)(h:bL x=true)(h':bL y=true):br x y=gX v w:=by
 have h:=eG r h
 have h':=eG r' h'
 rw [lY r h,lY r' h',Et h h']
def lZ{v:V}{x:I}{xs:List I}(r:RpI K ι H v x)(h:kr x=some xs):∃a vs,v=.ref a/\bb K H a vs/\y4f K ι H vs xs:=by
 cases r with
 | tup h1 h2=>cases h;exact⟨_,_,rfl,bb.of h1,h2⟩
 | con h1 h2=>cases h;exact⟨_,_,rfl,bb.kon h1,h2⟩
 | _=>cases h
theorem oY{f:I->I->Option Bool}{E:V->V->Bool->Prop}(hf:∀{v w x y b},RpI K ι H v x->RpI K ι H w y->f x y=some b->E v w b):∀{vs ws:List V} {xs ys:List I} {b:Bool},y4f K ι H vs xs->y4f K ι H ws ys->oX f xs ys=some b ->
  ∃e:Nat->Bool,(∀(j:Nat) u w,vs[j]?=some u->ws[j]?=some w->E u w (e j))/\b=((List.range (min vs.length ws.length)).all e&&vs.length == ws.length)
 | [],[],_,_,b,.nil,.nil,h=>by cases h;exact⟨λ_=>true,λj u w e=>by simp at e,rfl⟩
 | [],_::_,_,_,b,.nil,.cons _ _,h=>by cases h;exact⟨λ_=>true,λj u w e=>by simp at e,by simp⟩
 | _::_,[],_,_,b,.cons _ _,.nil,h=>by cases h;exact⟨λ_=>true,λj u w _ e=>by simp at e,by simp⟩
 | v::vs,w::ws,_,_,b,.cons r rs,.cons r' rs',h=>by
  unfold oX at h
  split at h
  ·rename_i b0 c h0 h1
   cases h
   obtain⟨e',he,rfl⟩:=oY hf rs rs' h1
   refine⟨λj=>match j with|0=>b0|j+1=>e' j,λj u w' e1 e2=>?_,?_⟩
   ·cases j with
    | zero=>simp at e1 e2;subst e1;subst e2;exact hf r r' h0
    | succ j=>exact he j u w' (by simpa using e1) (by simpa using e2)
   ·have e3:min (v::vs).length (w::ws).length=min vs.length ws.length+1:=by simp only [z15];lia
    rw [e3,C6]
    have e4:((v::vs).length == (w::ws).length)=(vs.length == ws.length):=by simp
    rw [e4,Bool.and_assoc]
  ·cases h
def vo:∀{n:Nat} {v w:V} {x y:I} {b:Bool},RpI K ι H v x->RpI K ι H w y->dJ n x y=some b->jM K H n v w b:=by
 have base:∀{v w:V} {x y:I} {b:Bool} {o:Option Bool},RpI K ι H v x->RpI K ι H w y->(if bL x&&bL y then some (br x y) else if ((kr x).isSome&&bL y)||(bL x&&(kr y).isSome) then some false else o)=some b->nv K H v w b∨o=some b:=λ{v w x y b o} r r' h=>by
  split at h
  ·rename_i hf
   rw [z1b] at hf
   cases h
   exact .inl (.inl ⟨eG r hf.1,eG r' hf.2,vn r r' hf.1 hf.2⟩)
  ·split at h
   ·rename_i hf
    cases h
    rw [Bool.or_eq_true,z1b,z1b] at hf
    rcases hf with⟨h1,h2⟩| ⟨h1,h2⟩
    ·obtain⟨xs,hx⟩:=Option.isSome_iff_exists.mp h1
     obtain⟨a,vs,e1,h3,_⟩:=lZ r hx
     exact .inl (.inr (.inl ⟨⟨a,vs,e1,h3⟩,eG r' h2,rfl⟩))
    ·obtain⟨xs,hx⟩:=Option.isSome_iff_exists.mp h2
     obtain⟨a,vs,e1,h3,_⟩:=lZ r' hx
     exact .inl (.inr (.inr ⟨eG r h1,⟨a,vs,e1,h3⟩,rfl⟩))
   ·exact .inr h
 intro n
 induction n with
 | zero =>
  intro v w x y b r r' h
  unfold dJ at h
  rcases base r r' h with q|q
  ·exact q
  ·cases q
 | succ n ih =>
  intro v w x y b r r' h
  unfold dJ at h
  rcases base r r' h with q|q
  ·exact .inl q
  ·split at q
   ·rename_i xs ys hx hy
    obtain⟨a,vs,e1,h1,r1⟩:=lZ r hx
    obtain⟨c,ws,e2,h2,r2⟩:=lZ r' hy
    obtain⟨e,he,hb⟩:=oY (λr r' h=>ih r r' h) r1 r2 q
    exact .inr ⟨a,c,vs,ws,e,e1,e2,h1,h2,he,hb⟩
   ·cases q
def Eu(h:iG x y=true)(hf:bo x=true):gX x y=decide (x=y):=by
 cases x<;>first|exact Bool.noConfusion hf|(cases y<;>first|rfl|exact Bool.noConfusion h|skip)
 ·rename_i a b
  show (a == b)=_
  by_cases e:a=b
  ·subst e;simp
  ·rw [beq_eq_false_iff_ne.mpr e,decide_eq_false (λz=>e (by injection z))]
 ·rename_i a b
  show (a == b)=_
  by_cases e:a=b
  ·subst e;simp
  ·rw [beq_eq_false_iff_ne.mpr e,decide_eq_false (λz=>e (by injection z))]
 ·rename_i a b
  show (a == b)=_
  by_cases e:a=b
  ·subst e;simp
  ·rw [beq_eq_false_iff_ne.mpr e,decide_eq_false (λz=>e (by injection z))]
abbrev cb:I->I->Bool
 | .bl _,.int _=>true
 | .int _,.bl _=>true
 | _,_=>false
abbrev eS(Z:De)(G:List M)(a b:Ev):Option Bool :=
 match dR a,dR b with
 | some x,some y=>if cb x y then none else match dJ 41 x y with
  | some r=>some r
  | none=>match pk Z G a,pk Z G b with
   | some (.lst xs),some (.lst ys)=>oX (dJ 40) xs ys
   | _,_=>none
 | _,_=>match pk Z G a,pk Z G b with
  | some (.lst xs),some (.lst ys)=>oX (dJ 40) xs ys
  | _,_=>none
abbrev a9:List Ev->Mo Ev:=λes Z G=>match es with
 | [a,b]=>match eS Z G a b with
  | some r=>some (.v (.im (.bl r)),Z,G)
  | none=>none
 | _=>none
abbrev gJ:List Ev->Mo Ev:=λes Z G=>match es with
 | [a,b]=>match eS Z G a b with
  | some r=>some (.v (.im (.bl (!r))),Z,G)
  | none=>none
 | _=>none
def Ew(h:bo v=true)(h':bo u=true)(hm:¬ cb (vm v) (vm u)=true):iG v u=true:=by
 cases v<;>first|cases h;done|(cases u<;>first|rfl|cases h';done|exact absurd rfl hm)
def Ex(r:RpI K ι H v x)(r':RpI K ι H u y)(h:bo v=true)(h':bo u=true)(hm:¬ cb x y=true):iG v u=true:=by
 rw [lY r h,lY r' h'] at hm
 exact Ew h h' hm
def vp{σ:L2.St}{Z:De}{G:List M}{a b:Ev}{v u:V}{r:Bool}(A:Args K κ ι H σ Z G [a,b] [v,u])(h:eS Z G a b=some r):qJ K H v u r:=by
 have lists:(match pk Z G a,pk Z G b with|some (.lst xs),some (.lst ys)=>oX (dJ 40) xs ys|_,_=>none)=some r->qJ K H v u r:=λh=>by
  split at h
  ·rename_i xs ys hx hy
   obtain⟨p,e1,vs,h1,r1⟩:=A.pk (j:=0) rfl rfl hx
   obtain⟨q,e2,ws,h2,r2⟩:=A.pk (j:=1) rfl rfl hy
   obtain⟨e,he,hb⟩:=oY (λr r' h=>vo r r' h) r1 r2 h
   refine .inr (.inr (.inr (.inr ⟨p,q,vs,ws,e1,e2,bw.of h1,bw.of h2,?_⟩)))
   by_cases hl:vs.length=ws.length
   ·refine .inr ⟨hl,e,he,?_⟩
    rw [hb,<- hl,Nat.min_self];simp
   ·refine .inl ⟨hl,?_⟩
    rw [hb]
    have:(vs.length == ws.length)=false:=by simpa using hl
    rw [this,Bool.and_false]
  ·cases h
 unfold eS at h
 split at h
 ·rename_i x y hx hy
  split at h
  ·cases h
  ·rename_i hm
   split at h
   ·rename_i r' hr
    cases h
    have ra:RpI K ι H v x:=by
     cases a with
     | s i=>cases hx
     | v z=>cases z with
      | ow m=>cases hx
      | im d=>cases hx;exact A.im (j:=0) rfl rfl
    have rb:RpI K ι H u y:=by
     cases b with
     | s i=>cases hy
     | v z=>cases z with
      | ow m=>cases hy
      | im d=>cases hy;exact A.im (j:=1) rfl rfl
    rcases vo ra rb hr with q|⟨a',c,xs,ys,e,e1,e2,h1,h2,he,hb⟩
    ·rcases q with⟨h1,h2,rfl⟩| ⟨h1,h2,rfl⟩| ⟨h1,h2,rfl⟩
     ·have sc:=Ex ra rb h1 h2 hm
      exact .inl ⟨sc,Eu sc h1⟩
     ·exact .inr (.inl ⟨h1,h2,rfl⟩)
     ·exact .inr (.inr (.inl ⟨h1,h2,rfl⟩))
    ·exact .inr (.inr (.inr (.inl ⟨a',c,xs,ys,e,e1,e2,h1,h2,he,hb⟩)))
   ·exact lists h
 ·exact lists h
def vq:aE K κ (r2 λx y H Q=>∃b,qJ K H x y b/\Q (.bl b) H) a9:=by
 intro ι H σ Z G es vs e Z' G' Q a h k
 unfold a9 at h
 split at h
 ·split at h
  ·rename_i r hr
   obtain⟨v,u,rfl⟩:=bI a.len
   exact⟨_,_,rfl,r,vp a hr,k _ _ _ (bJ h (aT a (.bl _)))⟩
  ·cases h
 ·cases h
def Ey:aE K κ (r2 λx y H Q=>∃b,qJ K H x y b/\Q (.bl (!b)) H) gJ:=by
 intro ι H σ Z G es vs e Z' G' Q a h k
 unfold gJ at h
 split at h
 ·split at h
  ·rename_i r hr
   obtain⟨v,u,rfl⟩:=bI a.len
   exact⟨_,_,rfl,r,vp a hr,k _ _ _ (bJ h (aT a (.bl _)))⟩
  ·cases h
 ·cases h
end
section
variable {X:Cx}{κ:Str->Addr}{a b:Expr}{fa fb:Mo Ev}{pos:Pos}{k:Nat}
def iP(hr:y4e k X.A):X.A.units+50<cLine:=by have:=hr.units;lia
def vt(hr:y4e k X.A)(ha:LE X κ a fa)(hb:LE X κ b fb):LE X κ (.Compare a [.Eq] [b] pos) (ai a9 fa fb):=lQ (vi (iP hr)) vq ha hb (fR _)
def Ez(hr:y4e k X.A)(ha:LE X κ a fa)(hb:LE X κ b fb):LT X κ (.Compare a [.Eq] [b] pos) (ao (ai a9 fa fb)):=g8 (vi (iP hr)) vq ha hb (fR _)
def EA(hr:y4e k X.A)(ha:LE X κ a fa)(hb:LE X κ b fb):LT X κ (.Compare a [.NotEq] [b] pos) (ao (ai gJ fa fb)):=g8 (Es (iP hr)) Ey ha hb (fR _)
def EB(hr:y4e k X.A)(ha:LE X κ a fa)(hb:LE X κ b fb):LE X κ (.Compare a [.Lt] [b] pos) (ai dS fa fb):=lQ rX (fZ λi j d h ι H=>by cases h;exact .bl _) ha hb (fR _)
def EC(hr:y4e k X.A)(ha:LE X κ a fa)(hb:LE X κ b fb):LE X κ (.Compare a [.GtE] [b] pos) (ai gI fa fb):=lQ rZ (fZ λi j d h ι H=>by cases h;exact .bl _) ha hb (fR _)
def ED(hr:y4e k X.A)(ha:LE X κ a fa)(hb:LE X κ b fb):LT X κ (.Compare a [.Lt] [b] pos) (ao (ai dS fa fb)):=g8 rX (fZ λi j d h ι H=>by cases h;exact .bl _) ha hb (fR _)
def EE(hr:y4e k X.A)(ha:LE X κ a fa)(hb:LE X κ b fb):LT X κ (.Compare a [.Gt] [b] pos) (ao (ai fO fa fb)):=g8 rY (fZ λi j d h ι H=>by cases h;exact .bl _) ha hb (fR _)
def EF(hr:y4e k X.A)(ha:LE X κ a fa)(hb:LE X κ b fb):LT X κ (.Compare a [.GtE] [b] pos) (ao (ai gI fa fb)):=g8 rZ (fZ λi j d h ι H=>by cases h;exact .bl _) ha hb (fR _)
end
end
section
section
variable {X:Cx}{K:W.Frag}{κ:Str->Addr}{ι:List Addr}{H:Hp}
theorem y4f.at{vs:List V}{xs:List I}{i:Int}{d:I}(r:y4f K ι H vs xs)(h:cC xs i=some d):∃v,cC vs i=some v/\RpI K ι H v d:=by
 unfold cC at h ⊢
 rw [r.len]
 cases q:er xs.length i with
 | none=>rw [q] at h;cases h
 | some j =>
  rw [q] at h
  obtain⟨v,hv,rv⟩:=r.get h
  exact⟨v,hv,rv⟩
abbrev eI:List Ev->Mo Ev:=λes Z G=>match es with
 | [a,.v (.im (.int i))]=>match sq Z G a with
  | some xs=>match cC xs i with
   | some d=>some (.v (.im d),Z,G)
   | none=>none
  | none=>match a with
   | .v (.im (.str z))=>match cC z.cps.toList i with
    | some c=>if z.length≤1000000 then some (.v (.im (.str ⟨#[c]⟩)),Z,G) else none
    | none=>none
   | _=>none
 | _=>none
def EG:aE K κ (r2 (sX K)) eI:=by
 intro ι H σ Z G es vs e Z' G' Q a h k
 unfold eI at h
 split at h
 ·rename_i x i
  split at h
  ·rename_i xs hx
   split at h
   ·rename_i d hd
    obtain⟨v,u,rfl⟩:=bI a.len
    obtain⟨p,ys,e1,h1,r⟩:=a.sq (j:=0) rfl rfl hx
    cases cG (a.im (j:=1) rfl rfl)
    subst e1
    obtain⟨w,hw,rw'⟩:=r.at hd
    rcases h1 with h1|h1
    ·exact⟨_,_,rfl,.inl ⟨p,ys,i,w,rfl,rfl,h1,hw,k _ _ _ (bJ h (aT a rw'))⟩⟩
    ·exact⟨_,_,rfl,.inr (.inl ⟨p,ys,i,w,rfl,rfl,h1,hw,k _ _ _ (bJ h (aT a rw'))⟩)⟩
   ·cases h
  ·split at h
   ·rename_i z _
    split at h
    ·rename_i c hc
     split at h
     ·rename_i hz
      obtain⟨v,u,rfl⟩:=bI a.len
      cases bK (a.im (j:=0) rfl rfl)
      cases cG (a.im (j:=1) rfl rfl)
      exact⟨_,_,rfl,.inr (.inr ⟨z,i,c,rfl,rfl,z1a hz (by decide),hc,k _ _ _ (bJ h (aT a (.str _)))⟩)⟩
     ·cases h
    ·cases h
   ·cases h
 ·cases h
abbrev gc:I->Option aS
 | .int i=>some (.inl i)
 | .str x=>some (.inr x)
 | _=>none
abbrev jN:List I->Option (List aS)
 | []=>some []
 | x::xs=>match gc x,jN xs with
  | some k,some ks=>some (k::ks)
  | _,_=>none
abbrev jO:I->Option (List aS)
 | .tup xs=>jN xs
 | _=>none
def l6{v:V}{x:I}{k:aS}(r:RpI K ι H v x)(h:gc x=some k):v=kV k:=by
 cases r<;>first|(cases h;rfl)|cases h
theorem vw:∀{vs:List V} {xs:List I} {ks:List aS},y4f K ι H vs xs->jN xs=some ks->vs=ks.map kV
 | [],[],_,.nil,h=>by cases h;rfl
 | v::vs,x::xs,ks,.cons r rs,h=>by
  unfold jN at h
  split at h
  ·rename_i k ks' h1 h2
   cases h
   rw [z18,l6 r h1,vw rs h2]
  ·cases h
def vx{v:V}{x:I}{ks:List aS}(r:RpI K ι H v x)(h:jO x=some ks):∃b,v=.ref b/\H b=some (.tup (ks.map kV)):=by
 cases r with
 | tup h1 h2=>exact⟨_,rfl,by rw [h1,vw h2 h]⟩
 | _=>cases h
abbrev cZ{κ':Type}[DecidableEq κ']:List (κ'×I)->κ'->Option I
 | [],_=>none
 | (g,x)::r,k=>if g=k then some x else cZ r k
abbrev jP{κ':Type}[DecidableEq κ'](kvs:List (κ'×I))(k:κ'):Bool:=kvs.any λkv=>decide (kv.1=k)
abbrev dk{κ':Type}[DecidableEq κ'](kvs:List (κ'×I))(k:κ')(d:I):List (κ'×I):=if jP kvs k then kvs.map (λkv=>if kv.1=k then (kv.1,d) else kv) else kvs++[(k,d)]
theorem oZ{κ':Type}[DecidableEq κ']{k:κ'}:∀{ws:List (κ'×V)} {kvs:List (κ'×I)},ws.map (·.1)=kvs.map (·.1)->y4f K ι H (ws.map (·.2)) (kvs.map (·.2)) ->
  (∀d,cZ kvs k=some d->∃v,cW ws k=some v/\RpI K ι H v d)/\(cZ kvs k=none->cW ws k=none)
 | [],[],_,_=>⟨λd h=>(by cases h),λ_=>rfl⟩
 | [],_::_,e,_=>by cases e
 | _::_,[],e,_=>by cases e
 | (g,v)::ws,(g',x)::kvs,e,r=>by
  simp only [z18,List.cons.injEq] at e
  obtain⟨e1,e2⟩:=e
  subst e1
  cases r with
  | cons r rs =>
   obtain⟨p,q⟩:=oZ e2 rs
   by_cases hg:g=k
   ·rw [kQ hg]
    unfold cZ
    rw [if_pos hg]
    exact⟨λd h=>(by cases h;exact⟨v,rfl,r⟩),λh=>(by cases h)⟩
   ·rw [kR hg]
    unfold cZ
    rw [if_neg hg]
    exact⟨p,q⟩
theorem gh{κ' α β:Type}[DecidableEq κ']{k:κ'}:∀{ws:List (κ'×α)} {kvs:List (κ'×β)},ws.map (·.1)=kvs.map (·.1)->(ws.any λkv=>decide (kv.1=k))=(kvs.any λkv=>decide (kv.1=k))
 | [],[],_=>rfl
 | [],_::_,e=>by cases e
 | _::_,[],e=>by cases e
 | (g,v)::ws,(g',x)::kvs,e=>by
  simp only [z18,List.cons.injEq] at e
  obtain⟨e1,e2⟩:=e
  subst e1
  rw [List.any_cons,List.any_cons,gh e2]
theorem vy{κ':Type}[DecidableEq κ']{k:κ'}{v:V}{d:I}(rv:RpI K ι H v d):∀{ws:List (κ'×V)} {kvs:List (κ'×I)},ws.map (·.1)=kvs.map (·.1)->y4f K ι H (ws.map (·.2)) (kvs.map (·.2)) ->
  (ws.map λkv=>if kv.1=k then (kv.1,v) else kv).map (·.1)=(kvs.map λkv=>if kv.1=k then (kv.1,d) else kv).map (·.1)/\y4f K ι H ((ws.map λkv=>if kv.1=k then (kv.1,v) else kv).map (·.2)) ((kvs.map λkv=>if kv.1=k then (kv.1,d) else kv).map (·.2))
 | [],[],_,_=>⟨rfl,.nil⟩
 | [],_::_,e,_=>by cases e
 | _::_,[],e,_=>by cases e
 | (g,w)::ws,(g',x)::kvs,e,r=>by
  simp only [z18,List.cons.injEq] at e
  obtain⟨e1,e2⟩:=e
  subst e1
  cases r with
  | cons r rs =>
   obtain⟨p,q⟩:=vy rv e2 rs
   by_cases hg:g=k
   ·simp only [z18,if_pos hg]
    exact⟨by rw [p],.cons rv q⟩
   ·simp only [z18,if_neg hg]
    exact⟨by rw [p],.cons r q⟩
def o5{κ':Type}[DecidableEq κ']{k:κ'}{v:V}{d:I}{ws:List (κ'×V)}{kvs:List (κ'×I)}(rv:RpI K ι H v d)(e:ws.map (·.1)=kvs.map (·.1))(r:y4f K ι H (ws.map (·.2)) (kvs.map (·.2))) :
  (b6 ws k v).map (·.1)=(dk kvs k d).map (·.1)/\y4f K ι H ((b6 ws k v).map (·.2)) ((dk kvs k d).map (·.2)):=by
 unfold b6 dk jP
 rw [gh e]
 split
 ·exact vy rv e r
 ·rw [z28,z28,z28,z28,e]
  exact⟨rfl,r.app (.cons rv .nil)⟩
abbrev jQ(Z:De)(G:List M)(a:Ev)(x:I):Option (Option I):=match pk Z G a with
 | some (.dic kvs)=>(gc x).map λk=>cZ kvs k
 | some (.dit kvs)=>(jO x).map λk=>cZ kvs k
 | _=>none
def o6{σ:L2.St}{Z:De}{G:List M}{es:List Ev}{vs:List V}{j j':Nat}{a:Ev}{x:I}{v u:V}{o:Option I}(A:Args K κ ι H σ Z G es vs)(h1:es[j]?=some a)(h2:vs[j]?=some v)(h3:es[j']?=some (.v (.im x)))(h4:vs[j']?=some u)
  (h:jQ Z G a x=some o):∃b ov,v=.ref b/\yd H b u ov/\(∀d,o=some d->∃w,ov=some w/\RpI K ι H w d)/\(o=none->ov=none):=by
 have ru:=A.im h3 h4
 unfold jQ at h
 split at h
 ·rename_i kvs hp
  obtain⟨b,e1,ws,hw,e2,r⟩:=A.pk h1 h2 hp
  cases hk:gc x with
  | none=>rw [hk] at h;cases h
  | some k =>
   rw [hk] at h
   cases h
   have eu:=l6 ru hk
   subst eu
   obtain⟨p,q⟩:=oZ e2 r
   exact⟨b,_,e1,yd.k hw,p,q⟩
 ·rename_i kvs hp
  obtain⟨b,e1,ws,hw,e2,r⟩:=A.pk h1 h2 hp
  cases hk:jO x with
  | none=>rw [hk] at h;cases h
  | some k =>
   rw [hk] at h
   cases h
   obtain⟨c,eu,hc⟩:=vx ru hk
   subst eu
   obtain⟨p,q⟩:=oZ e2 r
   exact⟨b,_,e1,yd.t hw hc,p,q⟩
 ·cases h
abbrev vz:List Ev->Mo Ev:=λes Z G=>match es with
 | [a,.v (.im x)]=>match jQ Z G a x with
  | some (some d)=>some (.v (.im d),Z,G)
  | _=>none
 | _=>none
def EH:aE K κ (r2 λx y H2 Q=>∃a v,x=.ref a/\yd H2 a y (some v)/\Q v H2) vz:=by
 intro ι H σ Z G es vs e Z' G' Q a h k
 unfold vz at h
 split at h
 ·split at h
  ·rename_i d hd
   obtain⟨v,u,rfl⟩:=bI a.len
   obtain⟨b,ov,e1,g,p,_⟩:=o6 a (j:=0) (j':=1) rfl rfl rfl rfl hd
   obtain⟨w,rfl,rw'⟩:=p d rfl
   exact⟨_,_,rfl,b,w,e1,g,k _ _ _ (bJ h (aT a rw'))⟩
  ·cases h
 ·cases h
abbrev aJ:List Ev->Mo Ev:=bS eI vz
def vA{fo fi:Mo Ev}{σ:L2.St}{Q:VK}(h:aZ K κ (ai aJ fo fi) σ H Q):ko (sX K) (aZ K κ fo) (aZ K κ fi) σ H Q∨sG (aZ K κ fo) (aZ K κ fi) σ H Q:=by
 obtain⟨ι,Z,G,e,Z',G',s,eq,k⟩:=h
 obtain⟨x,Z1,G1,e1,eq1⟩:=bY eq
 obtain⟨y,Z2,G2,e2,eq2⟩:=bY eq1
 have eq2:bS eI vz [x,y] Z2 G2=some (e,Z',G'):=eq2
 unfold bS at eq2
 split at eq2
 ·rename_i z hz
  cases eq2
  refine .inl (g5 EG ⟨ι,Z,G,_,_,_,s,?_,k⟩)
  unfold ai
  rw [nh e1,nh e2];exact hz
 ·refine .inr (g5 EH ⟨ι,Z,G,_,_,_,s,?_,k⟩)
  unfold ai
  rw [nh e1,nh e2];exact eq2
abbrev iu(neg:Bool):List Ev->Mo Ev:=λes Z G=>match es with
 | [.v (.im x),b]=>match sq Z G b with
  | some xs=>if bL x&&xs.all bL then some (.v (.im (.bl (if neg then !(xs.any λy=>br y x) else xs.any λy=>br y x))),Z,G) else none
  | none=>none
 | _=>none
abbrev iQ(neg:Bool):List Ev->Mo Ev:=λes Z G=>match es with
 | [.v (.im x),b]=>match jQ Z G b x with
  | some o=>some (.v (.im (.bl (if neg then !o.isSome else o.isSome))),Z,G)
  | none=>none
 | _=>none
def vB:aE K κ (r2 λy x H2 Q=>∃a o,x=.ref a/\yd H2 a y o/\Q (.bl o.isSome) H2) (iQ false):=by
 intro ι H σ Z G es vs e Z' G' Q a h k
 unfold iQ at h
 split at h
 ·split at h
  ·rename_i o ho
   obtain⟨v,u,rfl⟩:=bI a.len
   obtain⟨b,ov,e1,g,p,q⟩:=o6 a (j:=1) (j':=0) rfl rfl rfl rfl ho
   have:ov.isSome=o.isSome:=by
    cases o with
    | none=>rw [q rfl];rfl
    | some d=>obtain⟨w,rfl,_⟩:=p d rfl;rfl
   refine⟨_,_,rfl,b,ov,e1,g,?_⟩
   rw [this]
   exact k _ _ _ (bJ h (aT a (.bl _)))
  ·cases h
 ·cases h
def EI:aE K κ (r2 λy x H2 Q=>∃a o,x=.ref a/\yd H2 a y o/\Q (.bl (!o.isSome)) H2) (iQ true):=by
 intro ι H σ Z G es vs e Z' G' Q a h k
 unfold iQ at h
 split at h
 ·split at h
  ·rename_i o ho
   obtain⟨v,u,rfl⟩:=bI a.len
   obtain⟨b,ov,e1,g,p,q⟩:=o6 a (j:=1) (j':=0) rfl rfl rfl rfl ho
   have:ov.isSome=o.isSome:=by
    cases o with
    | none=>rw [q rfl];rfl
    | some d=>obtain⟨w,rfl,_⟩:=p d rfl;rfl
   refine⟨_,_,rfl,b,ov,e1,g,?_⟩
   rw [this]
   exact k _ _ _ (bJ h (aT a (.bl _)))
  ·cases h
 ·cases h
end
section
variable {X:Cx}{κ:Str->Addr}{a b:Expr}{fa fb:Mo Ev}{pos:Pos}{k:Nat}
def EJ(hr:y4e k X.A)(ha:LE X κ a fa)(hb:LE X κ b fb)(hs:iq b:=by exact (λ_ _=>rfl)):LE X κ (.Subscript a b pos) (ai aJ fa fb):=.mk (aX (jm (og oh ha.pe hb.pe hs) (B7 (jC hr) ha.pe hb.pe hs)) λ_ _ _=>vA)
end
end
section
section
variable {X:Cx}{K:W.Frag}{κ:Str->Addr}{ι:List Addr}{H:Hp}
theorem pd{v:V}{x:I}(r:RpI K ι H v x)(hx:bL x=true):∀{vs:List V} {xs:List I},y4f K ι H vs xs->xs.all bL=true->vs.all bo=true/\(xs.any λy=>br y x)=vs.any λy=>gX y v
 | [],[],.nil,_=>⟨rfl,rfl⟩
 | w::vs,y::xs,.cons r' rs,h=>by
  rw [List.all_cons,z1b] at h
  obtain⟨p,q⟩:=pd r hx rs h.2
  rw [List.all_cons,List.any_cons,List.any_cons,p,q,vn r' r h.1 hx,eG r' h.1]
  exact⟨rfl,rfl⟩
def l7:aE K κ (r2 (As K false)) (iu false):=by
 intro ι H σ Z G es vs e Z' G' Q a h k
 unfold iu at h
 split at h
 ·rename_i x b
  split at h
  ·rename_i xs hx
   split at h
   ·rename_i hf
    rw [z1b] at hf
    obtain⟨v,u,rfl⟩:=bI a.len
    obtain⟨p,ys,e1,h1,r⟩:=a.sq (j:=1) rfl rfl hx
    have rx:=a.im (j:=0) rfl rfl
    obtain⟨p1,p2⟩:=pd rx hf.1 r hf.2
    refine⟨_,_,rfl,p,ys,e1,h1,eG rx hf.1,p1,?_⟩
    have:L2.inV v ys=xs.any λy=>br y x:=p2.symm
    rw [this]
    exact k _ _ _ (bJ h (aT a (.bl _)))
   ·cases h
  ·cases h
 ·cases h
def EK:aE K κ (r2 (As K true)) (iu true):=by
 intro ι H σ Z G es vs e Z' G' Q a h k
 unfold iu at h
 split at h
 ·rename_i x b
  split at h
  ·rename_i xs hx
   split at h
   ·rename_i hf
    rw [z1b] at hf
    obtain⟨v,u,rfl⟩:=bI a.len
    obtain⟨p,ys,e1,h1,r⟩:=a.sq (j:=1) rfl rfl hx
    have rx:=a.im (j:=0) rfl rfl
    obtain⟨p1,p2⟩:=pd rx hf.1 r hf.2
    refine⟨_,_,rfl,p,ys,e1,h1,eG rx hf.1,p1,?_⟩
    have:L2.inV v ys=xs.any λy=>br y x:=p2.symm
    rw [this]
    exact k _ _ _ (bJ h (aT a (.bl _)))
   ·cases h
  ·cases h
 ·cases h
abbrev eT:List Ev->Mo Ev:=bS (iu false) (iQ false)
abbrev jR:List Ev->Mo Ev:=bS (iu true) (iQ true)
def jS{p p':List Ev->Mo Ev}{r r':R2}{fo fi:Mo Ev}{σ:L2.St}{Q:VK}(h1:aE K κ (r2 r) p)(h2:aE K κ (r2 r') p')(h:aZ K κ (ai (bS p p') fo fi) σ H Q):ko r (aZ K κ fo) (aZ K κ fi) σ H Q∨ko r' (aZ K κ fo) (aZ K κ fi) σ H Q:=by
 obtain⟨ι,Z,G,e,Z',G',s,eq,k⟩:=h
 obtain⟨x,Z1,G1,e1,eq1⟩:=bY eq
 obtain⟨y,Z2,G2,e2,eq2⟩:=bY eq1
 have eq2:bS p p' [x,y] Z2 G2=some (e,Z',G'):=eq2
 unfold bS at eq2
 split at eq2
 ·rename_i z hz
  cases eq2
  refine .inl (g5 h1 ⟨ι,Z,G,_,_,_,s,?_,k⟩)
  unfold ai
  rw [nh e1,nh e2];exact hz
 ·refine .inr (g5 h2 ⟨ι,Z,G,_,_,_,s,?_,k⟩)
  unfold ai
  rw [nh e1,nh e2];exact eq2
end
section
variable {X:Cx}{κ:Str->Addr}{a b:Expr}{fa fb:Mo Ev}{pos:Pos}{k:Nat}
def EL(hr:y4e k X.A)(ha:LE X κ a fa)(hb:LE X κ b fb)(hm:‹behindInMarks .In b=false›):LE X κ (.Compare a [.In] [b] pos) (ai eT fa fb):=.mk (aX (jm (r6 kX ha.pe hb.pe hm) (Bo (sI (jC hr) ha.pe hb.pe) hm)) λ_ _ _=>jS l7 vB)
def EM(hr:y4e k X.A)(ha:LE X κ a fa)(hb:LE X κ b fb)(hm:‹behindInMarks .In b=false›):LT X κ (.Compare a [.In] [b] pos) (ao (ai eT fa fb)):=.mk (fu (lP (gR kX ha.pe hb.pe hm) (kG (sI (jC hr) ha.pe hb.pe) hm)) λ_ _ _ h=>jS l7 vB (g7 h))
def vC(hr:y4e k X.A)(ha:LE X κ a fa)(hb:LE X κ b fb)(hm:‹behindInMarks .NotIn b=false›):LT X κ (.Compare a [.NotIn] [b] pos) (ao (ai jR fa fb)):=.mk (fu (lP (gR Cw ha.pe hb.pe hm) (kG (B8 (jC hr) ha.pe hb.pe) hm)) λ_ _ _ h=>jS EK EI (g7 h))
end
section
variable {K:W.Frag}{κ:Str->Addr}
abbrev aI:List Ev->Mo Ev:=λes Z G=>match es with
 | [a]=>match sq Z G a with
  | some xs=>some (.v (.im (.int xs.length)),Z,G)
  | none=>match a with
   | .v (.im (.str z))=>if z.length≤1000000 then some (.v (.im (.int z.length)),Z,G) else none
   | a=>match pk Z G a with
    | some (.dic kvs)=>some (.v (.im (.int kvs.length)),Z,G)
    | _=>none
 | _=>none
def EN:aE K κ (λxs H Q=>(∃p ys,xs=[.ref p]/\(bw K H p ys∨bb K H p ys)/\Q (.int ys.length) H)∨((∃z,xs=[.str z]/\z.length≤sizeLine/\Q (.int z.length) H)∨(∃a kvs,xs=[V.ref a]/\H a=some (.dK kvs)/\Q (.int kvs.length) H))) aI:=by
 intro ι H σ Z G es vs e Z' G' Q a h k
 unfold aI at h
 split at h
 ·rename_i x
  split at h
  ·rename_i xs hx
   obtain⟨v,rfl⟩:=bQ a.len
   obtain⟨p,ys,e1,h1,r⟩:=a.sq (j:=0) rfl rfl hx
   subst e1
   exact .inl ⟨p,ys,rfl,h1,by rw [r.len];exact k _ _ _ (bJ h (aT a (.int _)))⟩
  ·split at h
   ·split at h
    ·rename_i hz
     obtain⟨v,rfl⟩:=bQ a.len
     cases bK (a.im (j:=0) rfl rfl)
     exact .inr (.inl ⟨_,rfl,z1a hz (by decide),k _ _ _ (bJ h (aT a (.int _)))⟩)
    ·cases h
   ·split at h
    ·rename_i kvs hp
     obtain⟨v,rfl⟩:=bQ a.len
     obtain⟨b,e1,ws,hw,e2,r⟩:=a.pk (j:=0) rfl rfl hp
     subst e1
     have e3:kvs.length=ws.length:=by have:=congrArg List.length e2;simpa using this.symm
     exact .inr (.inr ⟨b,ws,rfl,hw,by rw [<- e3];exact k _ _ _ (bJ h (aT a (.int _)))⟩)
    ·cases h
 ·cases h
abbrev EO:List Ev->Mo Ev:=λes Z G=>match es with
 | [.v (.im (.tup xs))]=>some (.v (.im (.tup xs)),Z,G)
 | [.v (.im (.con xs))]=>some (.v (.im (.con xs)),Z,G)
 | [a]=>match sq Z G a with
  | some xs=>some (.v (.im (.tup xs)),Z,G)
  | none=>none
 | _=>none
def ER{ι:List Addr}{H:Hp}{σ:L2.St}{Z:De}{G:List M}{e:Ev}{v:V}{xs:List I}(a:Args K κ ι H σ Z G [e] [v])(h:sq Z G e=some xs)(n1:∀ys,e≠.v (.im (.tup ys)))(n2:∀ys,e≠.v (.im (.con ys))):∃b ys,v=.ref b/\bw K H b ys/\y4f K ι H ys xs:=by
 have y16d:(match B.pk Z G e with|some (.lst xs)=>some xs|_=>none)=some xs->∃b ys,v=.ref b/\bw K H b ys/\y4f K ι H ys xs:=λq=>by
  split at q
  ·rename_i xs' e'
   cases q
   obtain⟨b,e1,ys,h3,r⟩:=a.pk (j:=0) rfl rfl e'
   exact⟨b,ys,e1,bw.of h3,r⟩
  ·cases q
 cases e with
 | s i=>exact y16d h
 | v x =>
  cases x with
  | ow m=>exact y16d h
  | im d =>
   have r:=a.im (j:=0) rfl rfl
   cases r with
   | tup q r=>exact absurd rfl (n1 _)
   | con q r=>exact absurd rfl (n2 _)
   | fro q r=>cases h;exact⟨_,_,rfl,q.sq,r⟩
   | ref q=>exact y16d h
   | non=>exact y16d h
   | bl=>exact y16d h
   | int=>exact y16d h
   | str=>exact y16d h
   | ty=>exact y16d h
abbrev dU:List Ev->Mo Ev:=bE λi j=>some (.int (if j>i then j else i))
abbrev pf:List Ev->Mo Ev:=bE λi j=>some (.int (if j<i then j else i))
def vD{g:Int->Int->Int}:aE K κ (λxs H Q=>∃i j,xs=[.int i,.int j]/\Q (.int (g i j)) H) (bE λi j=>some (.int (g i j))):=by
 intro ι H σ Z G es vs e Z' G' Q a h k
 obtain⟨x,y,e1,i,j,e2,e3,q⟩:=fZ (λi j d h ι H=>by cases h;exact .int _) ι H σ Z G es vs e Z' G' Q a h k
 exact⟨i,j,by rw [e1,e2,e3],q⟩
abbrev eK:Ev->Bool
 | .v (.im (.tup _))=>false
 | .v (.im (.con _))=>false
 | _=>true
abbrev iR:List Ev->Mo Ev:=λes Z G=>match es with
 | [a]=>if eK a then match sq Z G a with
  | some xs=>some (.v (.ow (.lst xs.reverse)),Z,G)
  | none=>none
  else none
 | _=>none
def ES:aE K κ (r1 λx H1 Q=>∃l ys,x=.ref l/\bw K H1 l ys/\∀p,H1 p=none->Q (.ref p) (aH H1 p (.lst ys.reverse))) iR:=by
 intro ι H σ Z G es vs e Z' G' Q a h k
 unfold iR at h
 split at h
 ·rename_i x
  split at h
  ·rename_i hl
   split at h
   ·rename_i xs hx
    obtain⟨v,rfl⟩:=bQ a.len
    obtain⟨p,ys,e1,h1,r⟩:=ER a hx (λys z=>by subst z;cases hl) (λys z=>by subst z;cases hl)
    subst e1
    exact⟨_,rfl,p,ys,rfl,h1,λl hl=>k _ _ _ (bJ h (fW a hl r.rev))⟩
   ·cases h
  ·cases h
 ·cases h
end
section
variable {X:Cx}{κ:Str->Addr}{a b e:Expr}{es:List Expr}{fa fb:Mo Ev}{fs:Mo (List Ev)}{p pos:Pos}{k:Nat}
def vE(hr:y4e k X.A)(hm:X.mg "len" = none)(ha:LA X κ (e::es) fs)(hg:‹Gl X "len"›)(he:‹fN X e es›)(hpl:‹eY X pos es›):LE X κ (.Call (.Name "len" p) (e::es) [] pos) (bd fs aI):=.mk (aX (eZ (yad.or (yae.or yac)) hg hm PySem.boot_len ha.pe (by decide) (by decide) he hpl) λ_ _ _ q=>dQ EN q)
def ET(hr:y4e k X.A)(hm:X.mg "max" = none)(ha:LA X κ (e::es) fs)(hg:‹Gl X "max"›)(hc:‹X.calm=true›)(he:‹fN X e es›)(hpl:‹eY X pos es›):LE X κ (.Call (.Name "max" p) (e::es) [] pos) (bd fs dU):=.mk (aX (eZ (yb0 hc) hg hm PyProof.Rows.boot_max ha.pe (by decide) (by decide) he hpl) λ_ _ _ q=>dQ vD q)
def EU(hr:y4e k X.A)(hm:X.mg "min" = none)(ha:LA X κ (e::es) fs)(hg:‹Gl X "min"›)(hc:‹X.calm=true›)(he:‹fN X e es›)(hpl:‹eY X pos es›):LE X κ (.Call (.Name "min" p) (e::es) [] pos) (bd fs pf):=.mk (aX (eZ (yb1 hc) hg hm PyProof.Rows.boot_min ha.pe (by decide) (by decide) he hpl) λ_ _ _ q=>dQ vD q)
def EV(hl:X.mg "list" = none)(hv:X.mg "reversed" = none)(h:LE X κ e fa)(hc:‹X.calm=true›)(gl:‹Gl X "list"›)(gr:‹Gl X "reversed"›)(hs1:‹starEach [e] X.env=[(false,eval e X.env)]›)
  (hs2:‹starEach [.Call (.Name "reversed" p2) [e] [] q2] X.env=[(false,eval (.Call (.Name "reversed" p2) [e] [] q2) X.env)]›):LE X κ (.Call (.Name "list" p1) [.Call (.Name "reversed" p2) [e] [] q2] [] q1) (a7 iR fa):=.mk (aX (CV hc gl hl gr hv h.pe hs1 hs2) λ_ _ _ q=>g6 ES q)
end
end
section
section
variable {X:Cx}{K:W.Frag}{κ:Str->Addr}{ι:List Addr}{H:Hp}{σ:L2.St}
abbrev aC:Mo (List Ev):=rt []
abbrev av(f:Mo Ev):Mo (List Ev):=one f
abbrev ph:List Ev->Option (Option Int)
 | []=>some none
 | [.v (.im (.int i))]=>some (some i)
 | _=>none
abbrev qK(K:W.Frag)(κ:Str->Addr)(f:Mo (List Ev)):TO:=λσ H Q=>∃ι Z G es o Z' G',SR K κ ι H σ Z G/\f Z G=some (es,Z',G')/\ph es=some o/\∀vs ι' H',After K κ σ ι (own σ Z++ι) H es Z' G' vs ι' H'->Q o H'
def EW:PO X none (qK X.K κ aC):=λpins s σ H Q I h=>oa pins s σ H Q I (by
 obtain⟨ι,Z,G,es,o,Z',G',s,e,p,k⟩:=h
 cases e;cases p
 exact k _ _ _ (After.nil s))
def EX (h:LE X κ e f):PO X (some e) (qK X.K κ (av f)):=λpins s σ H Q I q=>sQ h.pe pins s σ H Q I (by
 obtain⟨ι,Z,G,es,o,Z',G',s,e,p,k⟩:=q
 obtain⟨x,Z1,G1,e1,e2⟩:=bY e
 cases e2
 refine⟨ι,Z,G,x,_,_,s,e1,λv ι1 H1 a=>?_⟩
 unfold ph at p
 split at p
 ·rename_i hq;cases hq
 ·rename_i i hq
  cases p
  cases hq
  have r:=a.ar.im (j:=0) rfl rfl
  cases cG (r)
  exact⟨i,rfl,k _ _ _ a⟩
 ·cases p)
abbrev eU(xs:List I)(lo hi:Option Int):List I:=(xs.drop (HT.sIx xs.length 0 lo)).take (HT.sIx xs.length xs.length hi-HT.sIx xs.length 0 lo)
def y4f.cut{vs:List V}{xs:List I}(r:y4f K ι H vs xs)(lo hi:Option Int):y4f K ι H (jx vs lo hi) (eU xs lo hi):=by
 unfold jx eU
 rw [r.len]
 exact (r.drop _).take _
abbrev cq(lo hi:Option Int):List Ev->Mo Ev:=λes Z G=>match es with
 | .v (.im (.tup xs))::_=>some (.v (.im (.tup (eU xs lo hi))),Z,G)
 | .v (.im (.str z))::_=>if z.length≤1000000 then some (.v (.im (.str (Txt.slice z lo hi))),Z,G) else none
 | a::_=>if eK a then match sq Z G a with
  | some xs=>some (.v (.ow (.lst (eU xs lo hi))),Z,G)
  | none=>none
  else none
 | _=>none
abbrev az(fe:Mo Ev)(fl fh:Mo (List Ev)):Mo Ev:=bd fe λx=>bd fl λls=>bd fh λhs=>λZ G=>match ph ls,ph hs with
 | some lo,some hi=>cq lo hi (x::(ls++hs)) Z G
 | _,_=>none
def vF{Z:De}{G:List M}{e:Ev}{es:List Ev}{v:V}{vs:List V}{xs:List I}(a:Args K κ ι H σ Z G (e::es) (v::vs))(h:sq Z G e=some xs)(n:eK e=true):∃b ys,v=.ref b/\bw K H b ys/\y4f K ι H ys xs:=by
 have y16d:(match B.pk Z G e with|some (.lst xs)=>some xs|_=>none)=some xs->∃b ys,v=.ref b/\bw K H b ys/\y4f K ι H ys xs:=λq=>by
  split at q
  ·rename_i xs' e'
   cases q
   obtain⟨b,e1,ys,h3,r⟩:=a.pk (j:=0) rfl rfl e'
   exact⟨b,ys,e1,bw.of h3,r⟩
  ·cases q
 cases e with
 | s i=>exact y16d h
 | v x =>
  cases x with
  | ow m=>exact y16d h
  | im d =>
   have r:=a.im (j:=0) rfl rfl
   cases r with
   | tup q r=>cases n
   | con q r=>cases n
   | fro q r=>cases h;exact⟨_,_,rfl,q.sq,r⟩
   | ref q=>exact y16d h
   | non=>exact y16d h
   | bl=>exact y16d h
   | int=>exact y16d h
   | str=>exact y16d h
   | ty=>exact y16d h
abbrev EY(K:W.Frag):V->Option Int->Option Int->Hp->VK->Prop:=λx lo hi H Q=>sY K x lo hi H Q∨(tX x lo hi H Q∨tR x lo hi H Q)
def EZ{fe:Mo Ev}{fl fh:Mo (List Ev)}{Q:VK}(h:aZ K κ (az fe fl fh) σ H Q):tSl (EY K) (aZ K κ fe) (qK K κ fl) (qK K κ fh) σ H Q:=by
 obtain⟨ι,Z,G,e,Z',G',s,eq,k⟩:=h
 obtain⟨x,Z1,G1,e1,eq1⟩:=bY eq
 obtain⟨ls,Z2,G2,e2,eq2⟩:=bY eq1
 obtain⟨hs,Z3,G3,e3,eq3⟩:=bY eq2
 split at eq3
 ·rename_i lo hi hlo hhi
  refine⟨ι,Z,G,x,Z1,G1,s,e1,λv ι1 H1 a1=>?_⟩
  refine⟨ι1,Z1,G1,ls,lo,Z2,G2,a1.ar.base,e2,hlo,λvs ι2 H2 a2=>?_⟩
  refine⟨ι2,Z2,G2,hs,hi,Z3,G3,a2.ar.base,e3,hhi,λws ι3 H3 a3=>?_⟩
  have a23:=a2.app a3
  have a:=a1.app a23
  have fin:∀{v':V} {ι':List Addr} {H':Hp},After K κ σ ι3 (own (σ++tS ([x]++(ls++hs)) ([v]++(vs++ws))) (Z3++tD ([x]++(ls++hs)))++ι3) H3 [e] Z' G' [v'] ι' H'->Q v' H':=λb=>k _ _ _ (a.then b)
  have ar:Args K κ ι3 H3 σ Z3 G3 (x::(ls++hs)) (v::(vs++ws)):=a.ar
  unfold cq at eq3
  split at eq3
  ·rename_i xs aA hq
   cases hq
   have r:=ar.im (j:=0) rfl rfl
   obtain⟨_,_,rfl,h1,h2⟩:=lA r
   refine .inr (.inl ⟨_,_,rfl,h1,λb H' hb kp=>?_⟩)
   exact fin (bJ eq3 (uc a.ar kp (.tup hb ((h2.cut lo hi).mono (bW.refl _) (Kp.same kp)))))
  ·rename_i z aA hq
   cases hq
   split at eq3
   ·rename_i hz
    cases bK (ar.im (j:=0) rfl rfl)
    exact .inr (.inr ⟨z,rfl,z1a hz (by decide),fin (bJ eq3 (aT a.ar (.str _)))⟩)
   ·cases eq3
  ·rename_i a0 aA _ _ hq
   cases hq
   split at eq3
   ·rename_i hn
    split at eq3
    ·rename_i xs hx
     obtain⟨b,ys,e4,h1,r⟩:=vF ar hx hn
     exact .inl ⟨b,ys,e4,h1,λp hp=>fin (bJ eq3 (fW a.ar hp (r.cut lo hi)))⟩
    ·cases eq3
   ·cases eq3
  ·cases eq3
 ·cases eq3
abbrev gj:List Ev->Mo Ev:=λes Z G=>match es with
 | [.v (.im (.tup xs))]=>some (.v (.im (.tup xs.reverse)),Z,G)
 | [a]=>if eK a then match sq Z G a with
  | some xs=>some (.v (.ow (.lst xs.reverse)),Z,G)
  | none=>none
  else none
 | _=>none
def oq(xs:List V):fT xs none none (some (-1))=xs.reverse:=by
 obtain⟨h1,h2⟩:=Dl xs
 refine List.ext_getElem? λj=>?_
 by_cases hj:j<xs.length
 ·rw [h2 j hj,List.getElem?_reverse hj]
 ·rw [List.getElem?_eq_none_iff.mpr (by lia),List.getElem?_eq_none_iff.mpr (by rw [z2c];lia)]
def E1{fe:Mo Ev}{tk:TO}{Q:VK}(htk:∀σ H Q,Q (some (-1)) H->tk σ H Q)(h:aZ K κ (a7 gj fe) σ H Q):tW K (aZ K κ fe) σ H Q∨tY K (aZ K κ fe) n9 n9 tk σ H Q:=by
 obtain⟨ι,Z,G,e,Z',G',s,eq,k⟩:=h
 obtain⟨x,Z1,G1,e1,eq1⟩:=bY eq
 unfold gj at eq1
 split at eq1
 ·rename_i xs hq
  cases hq
  refine .inl ⟨ι,Z,G,_,_,_,s,e1,λv ι1 H1 a=>?_⟩
  have r:=a.ar.im (j:=0) rfl rfl
  obtain⟨_,_,rfl,h1,h2⟩:=lA r
  exact⟨_,_,rfl,bb.of h1,λp hp=>k _ _ _ (bJ eq1 (a.then (oC a.ar hp h2.rev)))⟩
 ·rename_i a0 _ hq
  cases hq
  split at eq1
  ·rename_i hn
   split at eq1
   ·rename_i xs hx
    refine .inr ⟨ι,Z,G,_,_,_,s,e1,λv ι1 H1 a=>?_⟩
    refine htk _ _ _ ?_
    obtain⟨b,ys,e6,h1,r⟩:=vF a.ar hx hn
    refine⟨b,ys,e6,h1,(by decide),λp hp=>?_⟩
    rw [oq]
    exact k _ _ _ (bJ eq1 (a.then (fW a.ar hp r.rev)))
   ·cases eq1
  ·cases eq1
 ·cases eq1
end
section
variable {X:Cx}{κ:Str->Addr}{a b e st:Expr}{fa fb:Mo Ev}{fl fh:Mo (List Ev)}{lo hi:Option Expr}{pos p2:Pos}{k:Nat}
def vG(h:LE X κ e fa)(hl:PO X lo (qK X.K κ fl))(hh:PO X hi (qK X.K κ fh)):LE X κ (.Subscript e (.Slice lo hi none p2) pos) (az fa fl fh):=.mk (aX (Ci (Cu.or (Dh.or CZ)) h.pe hl hh) λ_ _ _=>EZ)
def vH{pu pc:Pos}{j}(h:LE X κ e fa):LE X κ (.Subscript e (.Slice none none (some (.UnaryOp .USub (.Constant (.int 1) j pc) pu)) p2) pos) (a7 gj fa):=.mk (aX (jm (Dg h.pe (nS nW nF) λ_ _ _ q=>⟨1,rfl,q⟩) (Di h.pe oa oa (nS nW nF))) λ_ _ _ q=>E1 (λ_ _ _ q=>⟨1,rfl,⟨_,rfl,q⟩⟩) q)
end
end
section
section
variable {X:Cx}{K:W.Frag}{κ:Str->Addr}{ι:List Addr}{H:Hp}{σ:L2.St}
abbrev fz(Z:De)(G:List M)(e:Ev):Bool:=match pk Z G e with
 | some (.lst _)=>true
 | _=>false
abbrev iS(p:List Ev->Mo Ev)(fo:Mo Ev)(fa:Mo (List Ev)):Mo Ev:=bd fo λe=>λZ G=>if fz Z G e then bd fa (λes=>p (e::es)) Z G else none
abbrev rM(r:V->List V->Hp->VK->Prop):List V->Hp->VK->Prop:=λvs H Q=>∃x xs,vs=x::xs/\r x xs H Q
def vI{Z:De}{G:List M}{e:Ev}{v:V}{fp:List Addr}{H0:Hp}{ι0:List Addr}(a:After K κ σ ι0 fp H0 [e] Z G [v] ι H)(h:fz Z G e=true):tu K "list" v H:=by
 unfold fz at h
 split at h
 ·rename_i xs hp
  obtain⟨b,e1,ys,h1,r⟩:=a.ar.pk (j:=0) rfl rfl hp
  subst e1
  exact .inl ⟨rfl,ys,bw.of h1⟩
 ·cases h
def vJ{p:List Ev->Mo Ev}{fo:Mo Ev}{fa:Mo (List Ev)}{r:V->List V->Hp->VK->Prop}{Q:VK}(hp:aE K κ (rM r) p)(h:aZ K κ (iS p fo fa) σ H Q):Cy K "list" r (aZ K κ fo) (fV K κ fa) σ H Q:=by
 obtain⟨ι,Z,G,e,Z',G',s,eq,k⟩:=h
 obtain⟨x,Z1,G1,e1,eq1⟩:=bY eq
 split at eq1
 ·rename_i hl
  obtain⟨es,Z2,G2,e2,eq2⟩:=bY eq1
  refine⟨ι,Z,G,x,Z1,G1,s,e1,λv ι1 H1 a1=>⟨vI a1 hl,?_⟩⟩
  refine⟨ι1,Z1,G1,es,Z2,G2,a1.ar.base,e2,λvs ι2 H2 a2=>?_⟩
  have a:=a1.app a2
  obtain⟨y,ys,ey,q⟩:=hp _ _ _ _ _ _ _ _ _ _ Q a.ar eq2 λv ι3 H3 d=>k _ _ _ (a.then d)
  cases ey
  exact q
 ·cases eq1
def E2{p:List Ev->Mo Ev}{fo:Mo Ev}{r:V->List V->Hp->VK->Prop}{Q:VK}(hp:aE K κ (rM r) p)(hl:∀e Z G z,p [e] Z G=some z->fz Z G e=true)(h:aZ K κ (a7 p fo) σ H Q):tw K "list" r (aZ K κ fo) σ H Q:=by
 obtain⟨ι,Z,G,e,Z',G',s,eq,k⟩:=h
 obtain⟨x,Z1,G1,e1,eq1⟩:=bY eq
 refine⟨ι,Z,G,x,Z1,G1,s,e1,λv ι1 H1 a1=>⟨vI a1 (hl _ _ _ _ eq1),?_⟩⟩
 obtain⟨y,ys,ey,q⟩:=hp _ _ _ _ _ _ _ _ _ _ Q a1.ar eq1 λv ι3 H3 d=>k _ _ _ (a1.then d)
 cases ey
 exact q
abbrev hG:List Ev->Mo Ev:=λes Z G=>match es with
 | [a,.v (.im d)]=>match pk Z G a with
  | some (.lst xs)=>if xs.length<1000000 then some (.v (.im .non),(ir Z G (.lst (xs++[d])) a).1,(ir Z G (.lst (xs++[d])) a).2) else none
  | _=>none
 | _=>none
def E3:aE K κ (rM tF) hG:=by
 intro ι H σ Z G es vs e Z' G' Q a h k
 unfold hG at h
 split at h
 ·rename_i x d
  split at h
  ·rename_i xs hx
   split at h
   ·rename_i hl
    obtain⟨v,u,rfl⟩:=bI a.len
    obtain⟨b,e1,ys,h1,r⟩:=a.pk (j:=0) rfl rfl hx
    subst e1
    have ru:=a.im (j:=1) rfl rfl
    have l1:=r.len
    refine⟨_,_,rfl,b,ys,u,rfl,rfl,h1,z1c (by lia) (show 1000000≤sizeLine by decide),k _ _ _ (bJ h (lI a (j:=0) rfl rfl hx (λ_ kp=>⟨_,bg,(r.app (.cons ru .nil)).mono (bW.refl _) kp⟩) .non))⟩
   ·cases h
  ·cases h
 ·cases h
abbrev fA:List Ev->Mo Ev:=λes Z G=>match es with
 | [a]=>match pk Z G a with
  | some (.lst xs)=>match xs[xs.length-1]? with
   | some d=>some (.v (.im d),(ir Z G (.lst xs.dropLast) a).1,(ir Z G (.lst xs.dropLast) a).2)
   | none=>none
  | _=>none
 | _=>none
theorem y4f.dropLast{vs:List V}{xs:List I}(r:y4f K ι H vs xs):y4f K ι H vs.dropLast xs.dropLast:=by
 rw [List.dropLast_eq_take,List.dropLast_eq_take,r.len]
 exact r.take _
def E4:aE K κ (rM tH) fA:=by
 intro ι H σ Z G es vs e Z' G' Q a h k
 unfold fA at h
 split at h
 ·rename_i x
  split at h
  ·rename_i xs hx
   split at h
   ·rename_i d hd
    obtain⟨v,rfl⟩:=bQ a.len
    obtain⟨b,e1,ys,h1,r⟩:=a.pk (j:=0) rfl rfl hx
    subst e1
    obtain⟨w,hw,rw'⟩:=r.get hd
    refine⟨_,_,rfl,b,ys,w,rfl,rfl,h1,by rw [r.len];exact hw,k _ _ _ (bJ h (lI a (j:=0) rfl rfl hx (λ_ kp=>⟨_,bg,r.dropLast.mono (bW.refl _) kp⟩) rw'))⟩
   ·cases h
  ·cases h
 ·cases h
def E5(e:Ev)(Z:De)(G:List M)(z:Ev×De×List M)(h:fA [e] Z G=some z):fz Z G e=true:=by
 unfold fA at h
 dsimp only at h
 unfold fz
 split at h
 ·rfl
 ·cases h
abbrev iT:List Ev->De->List M->Option (De×List M):=λes Z G=>match es with
 | [.v (.im d),a,.v (.im x)]=>match pk Z G a with
  | some (.lst xs)=>match x with
   | .int i=>match er xs.length i with
    | some j=>some (ir Z G (.lst (xs.set j d)) a)
    | none=>none
   | _=>none
  | some (.dic kvs)=>match gc x with
   | some k=>if kvs.length<1000000 then some (ir Z G (.dic (dk kvs k d)) a) else none
   | none=>none
  | some (.dit kvs)=>match jO x with
   | some k=>if kvs.length<1000000 then some (ir Z G (.dit (dk kvs k d)) a) else none
   | none=>none
  | _=>none
 | _=>none
abbrev dW(fo fi fv:Mo Ev):SF:=λZ G=>match bd fv (λv=>bd fo λo=>bd fi λi=>rt [v,o,i]) Z G with
 | some (es,Z1,G1)=>match iT es Z1 G1 with
  | some (Z2,G2)=>some (.nx Z2 G2)
  | none=>none
 | none=>none
def E6{fo fi fv:Mo Ev}{D:Ends}(h:cT K κ (dW fo fi fv) D σ H):fQ (aZ K κ fv) (kK (aZ K κ fo) (aZ K κ fi) kW) D σ H∨sH (aZ K κ fo) (aZ K κ fi) (aZ K κ fv) D σ H:=by
 obtain⟨ι,Z,G,fl,s,eq,k⟩:=h
 unfold dW at eq
 split at eq
 ·rename_i es Ze Ge ee
  obtain⟨v,Z1,G1,e1,ee⟩:=bY ee
  obtain⟨o,Z2,G2,e2,ee⟩:=bY ee
  obtain⟨i,Z3,G3,e3,ee⟩:=bY ee
  cases ee
  split at eq
  ·rename_i Z4 G4 e4
   cases eq
   have go:∀{vv ov iv:V} {ι3:List Addr} {H3:Hp},After K κ σ ι (own σ Z++ι) H [v,o,i] Ze Ge [vv,ov,iv] ι3 H3 ->
     (∃p xs kk j,ov=.ref p/\iv=.int kk/\H3 p=some (.lst xs)/\er xs.length kk=some j/\D.nx σ (aH H3 p (.lst (xs.set j vv))))∨(∃a H4,ov=.ref a/\ye H3 a iv vv H4/\D.nx σ H4):=λ{vv ov iv ι3 H3} a=>by
    unfold iT at e4
    split at e4
    ·rename_i d a0 x hq
     cases hq
     have rv:=a.ar.im (j:=0) rfl rfl
     have rx:=a.ar.im (j:=2) rfl rfl
     have nxt:∀{m m':M} {b:Addr} {ob:HO},t8 m=false->pk Ze Ge o=some m->ov=.ref b->(de K κ ι3 H3 b m->Kp H3 (aH H3 b ob)->de K κ ι3 (aH H3 b ob) b m')->(ir Ze Ge m' o=(Z4,G4))->D.nx σ (aH H3 b ob):=λhf hp eo hr he=>by
      subst eo
      have f:=lI a.ar (j:=1) rfl rfl hp hr (RpI.non) hf
      obtain⟨p,q⟩:=(a.then f).drop
      rw [he] at p q
      exact k _ _ _ p q
     split at e4
     ·rename_i xs hp
      cases rx with
      | int kk =>
       dsimp only at e4
       split at e4
       ·rename_i j hj
        obtain⟨b,eb,ys,h1,r⟩:=a.ar.pk (j:=1) rfl rfl hp
        have l:=r.len
        exact .inl ⟨b,ys,kk,j,eb,rfl,h1,by rw [l];exact hj,nxt (m':=.lst (xs.set j d)) rfl hp eb (λ_ kp=>⟨_,bg,(r.set j rv).mono (bW.refl _) kp⟩) (z20 e4)⟩
       ·cases e4
      | _=>cases e4
     ·rename_i kvs hp
      split at e4
      ·rename_i kk hk
       split at e4
       ·rename_i hl
        obtain⟨b,eb,ws,h1,h2,r⟩:=a.ar.pk (j:=1) rfl rfl hp
        have ek:=l6 rx hk
        subst ek
        have l:ws.length=kvs.length:=by have:=congrArg List.length h2;simpa using this
        refine .inr ⟨b,_,eb,ye.k h1 (z1c (by lia) (show 1000000≤sizeLine by decide)),nxt rfl hp eb (λ_ kp=>?_) (z20 e4)⟩
        obtain⟨p,q⟩:=o5 rv h2 r
        exact⟨_,bg,p,q.mono (bW.refl _) kp⟩
       ·cases e4
      ·cases e4
     ·rename_i kvs hp
      split at e4
      ·rename_i kk hk
       split at e4
       ·rename_i hl
        obtain⟨b,eb,ws,h1,h2,r⟩:=a.ar.pk (j:=1) rfl rfl hp
        obtain⟨c,ek,hc⟩:=vx rx hk
        subst ek
        have l:ws.length=kvs.length:=by have:=congrArg List.length h2;simpa using this
        refine .inr ⟨b,_,eb,ye.t h1 hc (z1c (by lia) (show 1000000≤sizeLine by decide)),nxt rfl hp eb (λ_ kp=>?_) (z20 e4)⟩
        obtain⟨p,q⟩:=o5 (k:=kk) rv h2 r
        exact⟨_,bg,p,q.mono (bW.refl _) kp⟩
       ·cases e4
      ·cases e4
     ·cases e4
    ·cases e4
   by_cases hl:∃xs,pk Ze Ge o=some (.lst xs)
   ·left
    refine⟨ι,Z,G,v,Z1,G1,s,e1,λvv ι1 H1 a1=>?_⟩
    refine⟨ι1,Z1,G1,o,Z2,G2,a1.ar.base,e2,λov ι2 H2 a2=>?_⟩
    refine⟨ι2,Z2,G2,i,_,_,a2.ar.base,e3,λiv ι3 H3 a3=>?_⟩
    have a:=a1.app (a2.app a3)
    rcases go a with q|⟨a',H4,ea,dp,q⟩
    ·exact q
    ·exfalso
     obtain⟨xs,hx⟩:=hl
     obtain⟨b,eb,ys,h1,r⟩:=a.ar.pk (j:=1) rfl rfl hx
     rw [ea] at eb;cases eb
     rcases dp with⟨_,_,h2,_⟩| ⟨_,_,_,h2,_⟩<;>(rw [h1] at h2;cases h2)
   ·right
    refine⟨ι,Z,G,v,Z1,G1,s,e1,λvv ι1 H1 a1=>?_⟩
    refine⟨ι1,Z1,G1,o,Z2,G2,a1.ar.base,e2,λov ι2 H2 a2=>?_⟩
    refine⟨ι2,Z2,G2,i,_,_,a2.ar.base,e3,λiv ι3 H3 a3=>?_⟩
    have a:=a1.app (a2.app a3)
    rcases go a with⟨p,xs,kk,j,eo,_,h1,_,_⟩| q
    ·exfalso
     unfold iT at e4
     split at e4
     ·rename_i d a0 x hq
      cases hq
      split at e4
      ·rename_i ys hp;exact hl ⟨ys,hp⟩
      ·rename_i kvs hp
       obtain⟨b,eb,ws,h2,_⟩:=a.ar.pk (j:=1) rfl rfl hp
       rw [eo] at eb;cases eb
       rw [h1] at h2;cases h2
      ·rename_i kvs hp
       obtain⟨b,eb,ws,h2,_⟩:=a.ar.pk (j:=1) rfl rfl hp
       rw [eo] at eb;cases eb
       rw [h1] at h2;cases h2
      ·cases e4
     ·cases e4
    ·exact q
  ·cases eq
 ·cases eq
end
section
variable {X:Cx}{κ:Str->Addr}{a b e o:Expr}{es:List Expr}{fa fb fv:Mo Ev}{fs:Mo (List Ev)}{pos apos yd5 pos':Pos}{k:Nat}
def E7(hr:y4e k X.A)(ho:LE X κ o fa)(ha:LA X κ (e::es) fs)(y1ab:‹attributeBase o "append" X.env (eval o X.env)=eval o X.env›)
  (y1b2:‹((backTo yd5 (starEach (e::es) X.env)).all (λx=>!x.1)&&(backToKw yd5 (keywordEach [] X.env)).all (λx=>x.1.isSome)&&decide ((e::es).length+([]:List Keyword).length+(if ([]:List Keyword).isEmpty then 0 else 1)<30))=true›)
  (y1b8:‹(apos.endLine == yd5.line)=true›) (hs:‹starEach (e::es) X.env=(false,eval e X.env)::starEach es X.env›) (y1bb:‹(backTo yd5 (starEach es X.env)).any (·.1)=false›):LE X κ (.Call (.Attribute o "append" apos) (e::es) [] yd5) (iS hG fa fs):=.mk (aX (kY PySem.F.plainAttrs_list PySem.F.slot_list_append PySem.F.type_list_append tG ho.pe ha.pe y1ab y1b2 y1b8 hs y1bb) λ_ _ _=>vJ E3)
def E8(ho:LE X κ o fa)(y1ab:‹attributeBase o "pop" X.env (eval o X.env)=eval o X.env›)(y1b8:‹(apos.endLine == yd5.line)=true›):LE X κ (.Call (.Attribute o "pop" apos) [] [] yd5) (a7 fA fa):=.mk (aX (Cz PySem.F.plainAttrs_list PySem.F.slot_list_pop PySem.F.type_list_pop CD ho.pe y1ab y1b8) λ_ _ _=>E2 E4 E5)
def vK(hr:y4e k X.A)(ho:LE X κ o fa)(hi:LE X κ e fb)(hv:LE X κ a fv)(hs:‹swapsWith a (some (.Subscript o e pos')) pos.line X.env=pure false›)(hs1:‹swapsWithSole [.Subscript o e pos'] a pos.line X.env=pure false›)
  (hw:‹swappedStores [.Subscript o e pos'] a X.env=pure none›) (h1:‹(assignEach [.Subscript o e pos'] X.env).map (·.2)=[assign (.Subscript o e pos') X.env]›)
  (ha:∀v,assign (.Subscript o e pos') X.env v=(do
   let ov <- holding [v] (eval o X.env)
   let iv <- holding [v,ov] (eval e X.env)
   standAt pos'
   holding [v,ov,iv] (setItem ov iv v)
   release [v,ov,iv] []):=by intro _;rfl):LS X κ (.Assign [.Subscript o e pos'] a pos) (dW fa fb fv):=.mk (cU (uG (iE hv.pe (nP ho.pe hi.pe dN ha) hs1 hw h1) (B9 (jC hr) ho.pe hi.pe hv.pe hs)) λ_ _ _=>E6)
end
end
section
section
variable {X:Cx}{K:W.Frag}{κ:Str->Addr}{ι:List Addr}{H:Hp}{σ:L2.St}
abbrev E9:Mo Ev:=rt (.v (.ow (.dic [])))
abbrev Fb:Mo Ev:=rt (.v (.ow (.dit [])))
abbrev vL(K:W.Frag)(κ:Str->Addr)(trs:List (TE×TE))(f:Mo (List Ev)):Prop:=∀σ H Q,fV K κ f σ H (λvs H1=>∀ps:List (V×V),vs=ps.flatMap (λp=>[p.1,p.2])->Q ps H1)->kS trs σ H Q
abbrev pj:Mo (List Ev):=rt []
abbrev jT(fk fv:Mo Ev)(r:Mo (List Ev)):Mo (List Ev):=bd fk λa=>bd fv λb=>bd r λes=>rt (a::b::es)
def Fc:vL K κ [] pj:=λσ H Q h=>by
 obtain⟨ι,Z,G,es,Z',G',s,e,k⟩:=h
 cases e
 exact k _ _ _ (After.nil s) [] rfl
def Fd{fk fv:Mo Ev}{r:Mo (List Ev)}{trs:List (TE×TE)}(hr:vL K κ trs r):vL K κ ((aZ K κ fk,aZ K κ fv)::trs) (jT fk fv r):=λσ H Q h=>by
 obtain⟨ι,Z,G,es,Z',G',s,e,k⟩:=h
 obtain⟨x,Z1,G1,e1,e⟩:=bY e
 obtain⟨y,Z2,G2,e2,e⟩:=bY e
 obtain⟨zs,Z3,G3,e3,e⟩:=bY e
 cases e
 refine⟨ι,Z,G,x,Z1,G1,s,e1,λv ι1 H1 a1=>?_⟩
 refine⟨ι1,Z1,G1,y,Z2,G2,a1.ar.base,e2,λw ι2 H2 a2=>?_⟩
 refine hr _ _ _ ⟨ι2,Z2,G2,zs,_,_,a2.ar.base,e3,λvs ι3 H3 a3 ps hps=>?_⟩
 exact k _ _ _ (a1.app (a2.app a3)) ((v,w)::ps) (by rw [hps];rfl)
abbrev iU:List Ev->Option (List (aS×I))
 | []=>some []
 | .v (.im x)::.v (.im d)::r=>match gc x,iU r with
  | some k,some ps=>some ((k,d)::ps)
  | _,_=>none
 | _=>none
abbrev iV(ps:List (aS×I)):List (aS×I):=ps.foldl (λacc kv=>dk acc kv.1 kv.2) []
abbrev pq(f:Mo (List Ev)):Mo Ev:=bd f λes Z G=>match iU es with
 | some ps=>if ps.length≤15 then some (.v (.ow (.dic (iV ps))),Z,G) else none
 | none=>none
theorem vM:∀{es:List Ev} {vs:List V} {ps:List (aS×I)},Paired (RpE K κ ι H) (tS es vs) (tD es)->es.length=vs.length->iU es=some ps ->
  ∃kvs:List (aS×V),vs=(kvs.map λkv=>(kV kv.1,kv.2)).flatMap (λp=>[p.1,p.2])/\kvs.map (·.1)=ps.map (·.1)/\y4f K ι H (kvs.map (·.2)) (ps.map (·.2))
 | [],[],_,_,_,h=>by cases h;exact⟨[],rfl,rfl,.nil⟩
 | [],_::_,_,_,l,_=>by cases l
 | _::_,[],_,_,l,_=>by cases l
 | [_],[_],_,_,_,h=>by
  unfold iU at h
  split at h
  ·rename_i hq;cases hq
  ·rename_i hq;cases hq
  ·cases h
 | [_],_::_::_,_,_,l,_=>by cases l
 | _::_::_,[_],_,_,l,_=>by cases l
 | a::b::es,v::w::vs,ps,p,l,h=>by
  unfold iU at h
  split at h
  ·rename_i hq;cases hq
  ·rename_i x d r hq
   cases hq
   split at h
   ·rename_i kk ps' hk hps
    cases h
    cases p with
    | cons p1 p =>
     cases p with
     | cons p2 p =>
      cases p1 with
      | im r1 =>
       cases p2 with
       | im r2 =>
        obtain⟨kvs,e1,e2,e3⟩:=vM p (by simpa using l) hps
        refine⟨(kk,w)::kvs,?_,?_,.cons r2 e3⟩
        ·rw [l6 r1 hk,e1];rfl
        ·rw [z18,z18,e2]
   ·cases h
  ·cases h
theorem vN:∀{kvs:List (aS×V)} {ps:List (aS×I)} {acc:List (aS×V)} {ac:List (aS×I)},kvs.map (·.1)=ps.map (·.1)->y4f K ι H (kvs.map (·.2)) (ps.map (·.2))->acc.map (·.1)=ac.map (·.1)->y4f K ι H (acc.map (·.2)) (ac.map (·.2)) ->
  (gW acc kvs).map (·.1)=(ps.foldl (λacc kv=>dk acc kv.1 kv.2) ac).map (·.1)/\y4f K ι H ((gW acc kvs).map (·.2)) ((ps.foldl (λacc kv=>dk acc kv.1 kv.2) ac).map (·.2))
 | [],[],_,_,_,_,e,r=>⟨e,r⟩
 | [],_::_,_,_,e,_,_,_=>by cases e
 | _::_,[],_,_,e,_,_,_=>by cases e
 | (k,v)::kvs,(k',d)::ps,acc,ac,e,r,e',r'=>by
  simp only [z18,List.cons.injEq] at e
  obtain⟨e1,e2⟩:=e
  subst e1
  cases r with
  | cons r rs =>
   obtain⟨p,q⟩:=o5 r e' r'
   have:=vN e2 rs p q
   exact this
def Fe{trs:List (TE×TE)}{f:Mo (List Ev)}{Q:VK}(hf:vL K κ trs f)(h:aZ K κ (pq f) σ H Q):sM trs σ H Q:=by
 obtain⟨ι,Z,G,e,Z',G',s,eq,k⟩:=h
 obtain⟨es,Z1,G1,e1,eq1⟩:=bY eq
 intro p hp
 split at eq1
 ·rename_i ps hps
  split at eq1
  ·rename_i hl
   cases eq1
   have sp:=s.y3a8 (m:=.dic []) hp ⟨[],bg,rfl,.nil⟩
   have st0:=Step.y234 (ι:=ι) (Z:=Z) (o:=.dK []) (m:=.dic []) s.len hp
   refine hf _ _ _ ⟨ι,Z,G,es,_,_,sp.pop s.len,e1,λvs ι1 H1 a qs hqs=>?_⟩
   obtain⟨j1,j2⟩:=SR.join (Z1:=Z) sp s.len a.ar.sr a.ar.l a.st
   have hp1:H1 p=some (.dK []):=by
    refine a.st.keep p _ bg λhm=>?_
    obtain⟨o,ho,_⟩:=s.mu hm
    rw [hp] at ho;cases ho
   obtain⟨kvs,ev,ek,rk⟩:=vM (cf a.ar.l a.ar.sr.sl).2 a.ar.len hps
   have hq:qs=kvs.map λkv=>(kV kv.1,kv.2):=by
    rw [ev] at hqs
    have inj:∀{l1 l2:List (V×V)},l1.flatMap (λp=>[p.1,p.2])=l2.flatMap (λp=>[p.1,p.2])->l1=l2:=by
     intro l1
     induction l1 with
     | nil=>intro l2 h;cases l2 with
      | nil=>rfl
      | cons x l2=>simp at h
     | cons x l1 ih=>intro l2 h;cases l2 with
      | nil=>simp at h
      | cons y l2 =>
       simp only [List.flatMap_cons,z36,List.nil_append,List.cons.injEq] at h
       obtain⟨h1,h2,h3⟩:=h
       rw [ih h3,Prod.ext h1 h2]
    exact (inj hqs).symm
   have hkl:kvs.length≤15:=by have:=congrArg List.length ek;simp at this;lia
   refine⟨hp1,kvs,hq,hkl,?_⟩
   have l1:=a.ar.l
   have i1:(σ++([some (V.ref p)]++tS es vs))[σ.length]?=some (some (.ref p)):=by rw [z23 (z10 _),Nat.sub_self];rfl
   have i2:(Z'++([some (Vl.ow (.dic []))]++tD es))[σ.length]?=some (some (.ow (.dic []))):=by rw [l1,z23 (z10 _),Nat.sub_self];rfl
   obtain⟨q1,q2⟩:=j1.poke i1 i2 (m':=.dic (iV ps)) (λ_ kp=>by
    obtain⟨z1,z2⟩:=vN (acc:=[]) (ac:=[]) ek rk rfl .nil
    exact⟨_,bg,z1,z2.mono (bW.refl _) kp⟩)
   have e5:∀(Zx:De),σ.length=Zx.length->(Zx++([some (Vl.ow (.dic []))]++tD es)).set σ.length (some (.ow (.dic (iV ps))))=(Zx++[some (.ow (.dic (iV ps)))])++tD es:=λZx l=>by
    rw [l,List.set_append_right _ _ (z10 _),Nat.sub_self];simp
   rw [e5 _ l1,<- z2e σ] at q1
   rw [e5 _ l1,<- z2e σ] at q2
   rw [<- z2e σ] at j2
   have l2:(σ++[some (V.ref p)]).length=(Z'++[some (Vl.ow (.dic (iV ps)))]).length:=by rw [zd,zd,l1];rfl
   refine k _ _ _ ⟨⟨l1,q1.pop l2,.cons (λ_ h=>by cases h) .nil⟩,?_⟩
   exact ((st0.trans j2).trans q2).sub λx hx=>cj l2 hx
  ·cases eq1
 ·cases eq1
abbrev vO(fa fb:Mo Ev):Mo Ev:=bd fa λe=>λZ G=>match cI e Z G with
 | some (true,_,_)=>some (e,Z,G)
 | some (false,_,_)=>fb Z G
 | none=>none
abbrev vP(K:W.Frag)(ta tb:TE):TE:=λσ H Q=>ta σ H λx H1=>∃c,nX K x H1 c/\if c=true then Q x H1 else tb σ H1 Q
def Ff{a b:Expr}{aA:List Expr}{pos:Pos}{ta tb:TE}(ha:PE X a ta)(hb:PE X (.BoolOp .Or (b::aA) pos) tb):PE X (.BoolOp .Or (a::b::aA) pos) (vP X.K ta tb):=by
 intro pins s σ H Q I h
 refine BoolOp_or (aO (ha pins s σ H _ I h) λv s1 zz=>?_)
 obtain⟨x,H1,I1,r1,c,hc,q1⟩:=zz
 refine aO (nY pins s1 σ H1 x v (λb H'=>H'=H1/\b=c) I1 r1 ⟨c,hc,rfl,rfl⟩) λb s2 zz=>?_
 obtain⟨H2,I2,e1,e2⟩:=zz
 subst e1;subst e2
 cases b with
 | true=>rw [if_pos rfl] at q1;exact⟨x,_,I2,r1,q1⟩
 | false=>rw [if_neg z13] at q1;exact hb pins s2 σ _ Q I2 q1
def Fg{fa fb:Mo Ev}{Q:VK}(h:aZ K κ (vO fa fb) σ H Q):vP K (aZ K κ fa) (aZ K κ fb) σ H Q:=by
 obtain⟨ι,Z,G,e,Z',G',s,eq,k⟩:=h
 obtain⟨x,Z1,G1,e1,eq1⟩:=bY eq
 refine⟨ι,Z,G,x,Z1,G1,s,e1,λv ι1 H1 a=>?_⟩
 split at eq1
 ·rename_i d1 d2 ht
  cases eq1
  obtain⟨t,_,_⟩:=jI a.ar ht
  exact⟨true,t,by rw [if_pos rfl];exact k _ _ _ a⟩
 ·rename_i d1 d2 ht
  obtain⟨t,_,_⟩:=jI a.ar ht
  obtain⟨p,q⟩:=a.drop
  exact⟨false,t,by rw [if_neg z13];exact aZ.go p q eq1 k⟩
 ·cases eq1
end
section
variable {X:Cx}{κ:Str->Addr}{a b e o:Expr}{es:List Expr}{fa fb fv:Mo Ev}{fs:Mo (List Ev)}{p pos apos:Pos}{k n:Nat}
abbrev LP(X:Cx)(κ:Str->Addr)(pos:Pos)(keys:List (Option Expr))(vals:List Expr)(f:Mo (List Ev)):Prop:=∃trs,sJ X pos keys vals trs/\vL X.K κ trs f
def vQ:LP X κ pos [] [] pj:=⟨[],Cb,Fc⟩
def ye3 (hk:LE X κ a fa)(hv:LE X κ b fb)(hr:LP X κ pos ks vs fs):LP X κ pos (some a::ks) (b::vs) (jT fa fb fs):=let ⟨trs,h1,h2⟩:=hr;⟨_,Cc hk.pe hv.pe h1,Fd h2⟩
def vR (hr:y4e k X.A)(h:LP X κ pos ks vs fs)(y1a7:‹ks.all (·.isSome)=true›)(hl:‹ks.length=vs.length›)(h0:ks≠[]:=by exact (λz=>nomatch z))(h15:ks.length≤15:=by decide):LE X κ (.Dict ks vs pos) (pq fs):=.mk (by
 obtain⟨trs,h1,h2⟩:=h
 exact aX (Cd h1 y1a7 hl h0 h15) λ_ _ _=>Fe h2)
def vS{op}(h:LE X κ a fa):LE X κ (.BoolOp op [a] pos) fa:=.mk (L2.y32b h.pe)
def Fh{aA:List Expr}(ha:LE X κ a fa)(hb:LE X κ (.BoolOp .Or (b::aA) pos) fb):LE X κ (.BoolOp .Or (a::b::aA) pos) (vO fa fb):=.mk (aX (Ff ha.pe hb.pe) λ_ _ _=>Fg)
def Fi{K:W.Frag}{σ:L2.St}{H:Hp}{fn:FF}{Q:VK}(h:aZ K κ (bd fs (aB n fn)) σ H Q):eX (aQ K κ n fn) [] E0 (fV K κ fs) σ H Q:=by
 have:=dQ (DH (E:=E0)) h
 unfold eX
 simpa only [z11] using this
def vT (h:bP X.prog X.w X.K X.mg X.base x k ps (aQ X.K κ n fn))(hr:y4e k X.A)(ha:LA X κ (e::es) fs)(hg:‹Gl X x›)
  (hdb:(x == ("__debug__" : Str))=false:=by decide) (he:‹fN X e es›) (hpl:‹eY X pos es›):LE X κ (.Call (.Name x p) (e::es) [] pos) (bd fs (aB n fn)):=.mk (aX (C7 h hr hg ha.pe hdb he hpl) λ_ _ _=>Fi)
def vU (hN:X.N.Nodup)(h:LE X κ a fa)(hi:‹X.N[i]?=some x›)(hx:qF X.env.scope x:=by first|exact Or.inl rfl|exact Or.inr rfl)(hs:‹swapsWith a (some (.Name x pos')) pos.line X.env=pure false›)(hf:X.fn x=true∨X.env.scope.names.lookup x=some .local:=by first|exact .inl rfl|exact .inr rfl|assumption):LS X κ (.Assign [.Name x pos'] a pos) (aN fa (aG i)):=.mk (cU (Bu hN hi hx h.pe hs hf) λD σ H q=>by
 obtain⟨ι,Z,G,e,Z',G',s,eq,kk⟩:=oH q
 exact⟨ι,Z,G,e,Z',G',s,eq,λv ι' H' a=>oG (kk v ι' H' a)⟩)
end
end
section
section
variable {X:Cx}{K:W.Frag}{κ:Str->Addr}{ι:List Addr}{H:Hp}{σ:L2.St}
abbrev cL:List Ev->De->List M->Option Wk:=λes Z G=>match uw es Z G with
 | some w=>some w
 | none=>DK es Z G
def vV    (h:cH fa p Z G=some (w,es,Z1,G1))(hpq:p es Z1 G1=some w->q es Z1 G1=some w):cH fa q Z G=some (w,es,Z1,G1):=by
 unfold cH at h ⊢
 split at h
 ·rename_i es' Z' G' e
  cases hp:p es' Z' G' with
  | none=>rw [hp] at h;cases h
  | some w' =>
   rw [hp] at h
   cases h
   rw [hpq hp];rfl
 ·cases h
def Fj{f:Mo Ev}{R:It->Hp->Prop}(h:nr K κ (cH (one f) cL) σ H R):rN K (aZ K κ f) σ H R∨rO K (aZ K κ f) σ H R:=by
 obtain⟨ι,Z,G,w,es,Z',G',s,eq,k⟩:=h
 by_cases hq:uw es Z' G'=some w
 ·left
  refine lM (lL DM ⟨ι,Z,G,w,es,Z',G',s,vV eq λ_=>hq,k⟩)
 ·right
  refine lM (lL DN ⟨ι,Z,G,w,es,Z',G',s,vV eq λhs=>?_,k⟩)
  unfold cL at hs
  split at hs
  ·rename_i w' hw
   exact absurd (hw.trans hs) hq
  ·exact hs
abbrev bT:Mo Bool:=rt true
def Fm{Q:Bool->Hp->Prop}(h:c8 K κ bT σ H Q):tO σ H Q:=by
 obtain⟨ι,Z,G,b,Z',G',s,eq,k⟩:=h
 cases eq
 exact k _ _ s (Step.refl _ _ _)
end
section
variable {X:Cx}{κ:Str->Addr}{a b c e tg:Expr}{es:List Expr}{fa fb:Mo Ev}{fs:Mo (List Ev)}{fc:Mo Bool}{p pos p0:Pos}{k k0:Nat}{elts:List Expr}
def vW(h:LE X κ a fa):LI X κ tg a (cH (one fa) cL):=.mk (oQ (uH (BA h.pe) (BB h.pe)) λ_ _ _=>Fj)
def Fo(hm:X.mg "range" = none)(ha:LA X κ [a] fs)(hg:‹Gl X "range"›)(hs:‹starEach [a] X.env=[(false,eval a X.env)]›):LI X κ tg (.Call (.Name "range" p) [a] [] pos) (cH fs fj):=.mk (oQ (BD hg hm ha.pe hs) λ_ _ _ q=>lL DJ q)
@[irreducible] noncomputable def ku(X:Cx)(κ:Str->Addr)(ifs:List Expr)(f:Mo Bool):Prop:=nc X ifs (c8 X.K κ f)
def ku.mk  (h:nc X ifs (c8 X.K κ f)):ku X κ ifs f:=by unfold ku;exact h
def ku.pe  (h:ku X κ ifs f):nc X ifs (c8 X.K κ f):=by unfold ku at h;exact h
def vX:ku X κ [] bT:=.mk (λpins s σ H Q I h=>CN pins s σ H Q I (Fm h))
def vY(h:LT X κ c fc):ku X κ [c] fc:=.mk (CO h.pe)
variable {scope:Scope}{x y:Str}{ys:List Str}{ix:List Nat}{ifs:List Expr}{fi:IF}{px py:Pos}
def Fp(O:ya X scope [x] ys ix)(hi:LI X κ (.Name x px) a fi)(hf:∀z,ku (dO X scope ([x]++ys) z) κ ifs fc)(he:∀z,LE (dO X scope ([x]++ys) z) κ e fb)(hc:‹X.calm=true›)(hs:∀v,foldedSetIterable a X.env v=pure v:=by intro _;rfl):LE X κ (.ListComp e [⟨.Name x px,a,ifs,0⟩] scope pos) (ft fi ix c1 fc fb):=.mk (aX (Dc O hc hi.pe (λz=>tU O rfl) (λz=>(hf z).pe) (λz=>(he z).pe) hs) λ_ _ _=>uB (λ_=>uA))
def Fq (O:ya X scope [x] ys ix)(hi:LI X κ (.Name x px) a fi)(hf:∀z,ku (dO X scope ([x]++ys) z) κ ifs fc)(he:∀z,LE (dO X scope ([x]++ys) z) κ e fb)(hN:X.N.Nodup)(hy:‹X.N[i]?=some y›)(hl:‹X.env.scope.names.lookup y=some .local›)(hc:‹X.calm=true›)
  (hsw:‹swapsWith (.ListComp e [⟨.Name x px,a,ifs,0⟩] scope pos) (some (.Name y py)) spos.line X.env=pure true›) (hs:∀v,foldedSetIterable a X.env v=pure v:=by intro _;rfl):LS X κ (.Assign [.Name y py] (.ListComp e [⟨.Name x px,a,ifs,0⟩] scope pos) spos) (aN (ft fi ix c1 fc fb) (aG i)):=.mk (cU (Dk O hc hN hy hl hi.pe (λz=>tU O rfl) (λz=>(hf z).pe) (λz=>(he z).pe) hsw hs) λD σ H q=>by
  obtain⟨ι,Z,G,e,Z',G',s,eq,kk⟩:=oH q
  exact uB (λ_=>uA) ⟨ι,Z,G,e,Z',G',s,eq,λv ι' H' a=>oG (kk v ι' H' a)⟩)
end
section
variable {P:Program}{w:World}{K:W.Frag}{mg:Str->Option Value}{base:Heap}{κ:Str->Addr}
def bA{x qual:Str}{st:Stmt}{f:Addr}{fd:FuncData}{N ps:List Str}{k n r:Nat}{body:SF}(F:Fun K x qual st f fd)(S:y40 N ps (bp st))(hn:ps.length=n)(hN:N.length=n+r)
  (hb:∀(cdv:Value) (A:Around) (outer:List Env) (s:Shared) (H:Hp) (E:XK),y4e k (A.deeper (envOfC qual (bp st) s.heap.objs.size f cdv))->fY (ei bH P w K mg base N qual (bp st) f cdv A outer s H E).nox κ (jB st) body) :
  y3f P w K mg base bH (k+1) f fd ps (aQ K κ n (aU n r body)):=by
 refine F.ok S (λvs H Q E h=>by rw [(lK h).1,hn]) (λcdv A outer s H vs Q E hr h=>⟨_,(hb cdv A outer s H E hr).pe,?_⟩)
 obtain⟨l,q⟩:=lK h
 unfold L2.start
 have e:N.length-vs.length=r:=by lia
 rw [e]
 exact q
def l8{f:Addr}{fd:FuncData}{ps:List Str}{k n:Nat}:y3f P w K mg base bH k f fd ps (aQ K κ n λ_ _=>none) :=
 ⟨λvs H Q E h=>(by obtain⟨_,_,_,_,_,_,_,e,_⟩:=h;cases e),λ_ _ _ _ _ _ _ _ _ _ _ _ _ h=>(by obtain⟨_,_,_,_,_,_,_,e,_⟩:=h;cases e)⟩
end
end
section
section
variable {K:W.Frag}{κ:Str->Addr}{ι:List Addr}{H:Hp}
abbrev vZ:List I->Option (List Int)
 | []=>some []
 | .int i::r=>(vZ r).map (i::·)
 | _=>none
abbrev dC:List I->Option (List Str)
 | []=>some []
 | .str i::r=>(dC r).map (i::·)
 | _=>none
theorem l9:∀ns:List Str,dC (ns.map I.str)=some ns
 | []=>rfl
 | n::ns=>by rw [z18,dC,l9 ns];rfl
theorem pw:∀{xs:List I} {vs:List V} {ns:List Str},y4f K ι H vs xs->dC xs=some ns->vs=ns.map V.str
 | [],_,_,r,h=>by cases r;cases h;rfl
 | x::xs,_,_,r,h=>by
  cases r with
  | cons r1 r2 =>
   cases r1 with
   | str i =>
    rw [dC] at h
    cases e:dC xs with
    | none=>rw [e] at h;cases h
    | some ms=>rw [e] at h;cases h;rw [z18,<- pw r2 e]
   | _=>cases h
abbrev Kx:List Ev->Mo Ev:=λes Z G=>match es with
 | [a]=>if eK a then match sq Z G a with
  | some xs=>match vZ xs with
   | some ns=>some (.v (.im (.int ns.sum)),Z,G)
   | none=>none
  | none=>none
  else none
 | _=>none
abbrev dD:List Ev->Mo Ev:=λes Z G=>match es with
 | [.v (.im (.bl b))]=>some (.v (.im (.int (if b then 1 else 0))),Z,G)
 | [.v (.im (.int i))]=>some (.v (.im (.int i)),Z,G)
 | _=>none
def Fs:aE K κ (λxs H Q=>(∃i,xs=[.int i]/\Q (.int i) H)∨∃k,xs=[.bl k]/\Q (.int (if k then 1 else 0)) H) dD:=by
 intro ι H σ Z G es vs e Z' G' Q a h k
 unfold dD at h
 split at h
 ·obtain⟨v,rfl⟩:=bQ a.len
  cases lr (a.im (j:=0) rfl rfl)
  exact .inr ⟨_,rfl,k _ _ _ (bJ h (aT a (.int _)))⟩
 ·obtain⟨v,rfl⟩:=bQ a.len
  cases cG (a.im (j:=0) rfl rfl)
  exact .inl ⟨_,rfl,k _ _ _ (bJ h (aT a (.int _)))⟩
 ·cases h
abbrev pz:List I->Option (List Bool)
 | []=>some []
 | .bl i::r=>(pz r).map (i::·)
 | _=>none
theorem Ft:∀ns:List Bool,pz (ns.map I.bl)=some ns
 | []=>rfl
 | n::ns=>by rw [z18,pz,Ft ns];rfl
theorem y92:∀{xs:List I} {vs:List V} {ns:List Bool},y4f K ι H vs xs->pz xs=some ns->vs=ns.map V.bl
 | [],_,_,r,h=>by cases r;cases h;rfl
 | x::xs,_,_,r,h=>by
  cases r with
  | cons r1 r2 =>
   cases r1 with
   | bl i =>
    rw [pz] at h
    cases e:pz xs with
    | none=>rw [e] at h;cases h
    | some ms=>rw [e] at h;cases h;rw [z18,<- y92 r2 e]
   | _=>cases h
abbrev jg:List Ev->Mo Ev:=λes Z G=>match es with
 | [a]=>match pk Z G a with
  | some (.lst xs)=>match pz xs with
   | some bs=>some (.v (.im (.bl (bs.all id))),Z,G)
   | none=>none
  | _=>none
 | _=>none
def Fu:aE K κ (λxs H Q=>∃(p:Addr) (bs:List Bool),xs=[.ref p]/\bw K H p (bs.map V.bl)/\Q (.bl (bs.all id)) H) jg:=by
 intro ι H σ Z G es vs e Z' G' Q a h k
 unfold jg at h
 split at h
 ·rename_i x
  split at h
  ·rename_i xs hx
   split at h
   ·rename_i ns hn
    obtain⟨v,rfl⟩:=bQ a.len
    obtain⟨p,e1,ys,h1,r⟩:=a.pk (j:=0) rfl rfl hx
    subst e1
    exact⟨p,ns,rfl,by rw [<- y92 r hn];exact bw.of h1,k _ _ _ (bJ h (aT a (.bl _)))⟩
   ·cases h
  ·cases h
 ·cases h
abbrev Az:Ev->Bool
 | .v (.im (.str _))=>true
 | _=>false
abbrev fP(p:List Ev->Mo Ev)(fo:Mo Ev)(fa:Mo (List Ev)):Mo Ev:=bd fo λe=>λZ G=>if Az e then bd fa (λes=>p (e::es)) Z G else none
def ma{σ:L2.St}{p:List Ev->Mo Ev}{fo:Mo Ev}{fa:Mo (List Ev)}{r:V->List V->Hp->VK->Prop}{Q:VK}(hp:aE K κ (rM r) p)(h:aZ K κ (fP p fo fa) σ H Q):Cy K "str" r (aZ K κ fo) (fV K κ fa) σ H Q:=by
 obtain⟨ι,Z,G,e,Z',G',s,eq,k⟩:=h
 obtain⟨x,Z1,G1,e1,eq1⟩:=bY eq
 split at eq1
 ·rename_i hl
  obtain⟨es,Z2,G2,e2,eq2⟩:=bY eq1
  refine⟨ι,Z,G,x,Z1,G1,s,e1,λv ι1 H1 a1=>⟨?_,?_⟩⟩
  ·unfold Az at hl
   split at hl
   ·cases bK (a1.ar.im (j:=0) rfl rfl);rfl
   ·cases hl
  refine⟨ι1,Z1,G1,es,Z2,G2,a1.ar.base,e2,λvs ι2 H2 a2=>?_⟩
  have a:=a1.app a2
  obtain⟨y,ys,ey,q⟩:=hp _ _ _ _ _ _ _ _ _ _ Q a.ar eq2 λv ι3 H3 d=>k _ _ _ (a.then d)
  cases ey
  exact q
 ·cases eq1
abbrev dm:List Ev->Mo Ev:=λes Z G=>match es with
 | [.v (.im (.str z)),a]=>match pk Z G a with
  | some (.lst xs)=>match dC xs with
   | some ys=>if (ys.map (·.length)).sum+ys.length*z.length≤1000000 then some (.v (.im (.str (PySem.Txt.join z ys))),Z,G) else none
   | none=>none
  | _=>none
 | _=>none
def Fv:aE K κ (rM (ng K)) dm:=by
 intro ι H σ Z G es vs e Z' G' Q a h k
 unfold dm at h
 split at h
 ·rename_i z x
  split at h
  ·rename_i xs hx
   split at h
   ·rename_i ys hn
    split at h
    ·rename_i hz
     obtain⟨v,u,rfl⟩:=bI a.len
     cases bK (a.im (j:=0) rfl rfl)
     obtain⟨p,e1,us,h1,r⟩:=a.pk (j:=1) rfl rfl hx
     subst e1
     exact⟨_,_,rfl,z,p,ys,rfl,rfl,by rw [<- pw r hn];exact bw.of h1,z1a hz (by decide),k _ _ _ (bJ h (aT a (.str _)))⟩
    ·cases h
   ·cases h
  ·cases h
 ·cases h
end
section
variable {X:Cx}{K:W.Frag}{κ:Str->Addr}{ι:List Addr}{H:Hp}{pins:List (Addr×Obj)}{σ:L2.St}{s:Shared}
end
section
variable {X:Cx}{κ:Str->Addr}{a b e o:Expr}{es:List Expr}{fa fb:Mo Ev}{fs:Mo (List Ev)}{p pos apos yd5:Pos}{k:Nat}
def wa(hr:y4e k X.A)(hm:X.mg "all" = none)(ha:LA X κ (e::es) fs)(hg:‹Gl X "all"›)(hc:‹X.calm=true›)(he:‹fN X e es›)(hpl:‹eY X pos es›):LE X κ (.Call (.Name "all" p) (e::es) [] pos) (bd fs jg):=.mk (aX (eZ (ya5 hc) hg hm PyProof.Rows.boot_all ha.pe (by decide) (by decide) he hpl) λ_ _ _ q=>dQ Fu q)
def Fw(hr:y4e k X.A)(hm:X.mg "int" = none)(ha:LA X κ (e::es) fs)(hg:‹Gl X "int"›)(he:‹fN X e es›)(hpl:‹eY X pos es›):LE X κ (.Call (.Name "int" p) (e::es) [] pos) (bd fs dD):=.mk (aX (n5 ya8 hg hm PyProof.Rows.boot_int ha.pe (by decide) (by decide) he hpl) λ_ _ _ q=>dQ Fs q)
def Fx(hr:y4e k X.A)(ho:LE X κ o fa)(ha:LA X κ (e::es) fs)(y1ab:‹attributeBase o "join" X.env (eval o X.env)=eval o X.env›)
  (y1b2:‹((backTo yd5 (starEach (e::es) X.env)).all (λx=>!x.1)&&(backToKw yd5 (keywordEach [] X.env)).all (λx=>x.1.isSome)&&decide ((e::es).length+([]:List Keyword).length+(if ([]:List Keyword).isEmpty then 0 else 1)<30))=true›)
  (y1b8:‹(apos.endLine == yd5.line)=true›) (hs:‹starEach (e::es) X.env=(false,eval e X.env)::starEach es X.env›) (y1bb:‹(backTo yd5 (starEach es X.env)).any (·.1)=false›):LE X κ (.Call (.Attribute o "join" apos) (e::es) [] yd5) (fP dm fa fs):=.mk (aX (kY PySem.F.plainAttrs_str PySem.F.slot_str_join PySem.F.type_str_join CY ho.pe ha.pe y1ab y1b2 y1b8 hs y1bb) λ_ _ _=>ma Fv)
end
end
end B
set_option maxHeartbeats 4000000
namespace PySem
open PySem.Spec PyProof.Rows
section
variable {prog:Program}{w:World}{K:Type}[DecidableEq K]{knd:KeyKind prog w K}{A:Around}{E:Value->Shared->Prop}{R:Result->Shared->Prop}
end
end PySem
set_option maxHeartbeats 400000
namespace L2
open PySem PySem.Spec PyProof.Rows
section
section
variable {X:Cx}{pins:List (Addr×Obj)}{σ:L2.St}{H:Hp}{s:Shared}
end
end
end L2
namespace B
open PySem PySem.Spec PyProof.Rows L2
section
section
variable {K:W.Frag}{κ:Str->Addr}{ι:List Addr}{H:Hp}
end
section
variable {X:Cx}{κ:Str->Addr}{e:Expr}{es:List Expr}{fs:Mo (List Ev)}{p pos:Pos}{k:Nat}
end
def rm (r:y4e k A)(h:j≤k:=by first|decide|lia):y4e j A:=r.mono h
end
end B
set_option maxHeartbeats 4000000
namespace PySem
open PySem.Spec PyProof.Rows
section
variable {prog:Program}{w:World}{K:Type}[DecidableEq K]{knd:KeyKind prog w K}{A:Around}{E:Value->Shared->Prop}{R:Result->Shared->Prop}
end
end PySem
set_option maxHeartbeats 400000
namespace L2
open PySem PySem.Spec PyProof.Rows
section
section
variable {X:Cx}{pins:List (Addr×Obj)}{σ:L2.St}{H:Hp}{s:Shared}
end
end
end L2
namespace B
open PySem PySem.Spec PyProof.Rows L2
section
section
variable {K:W.Frag}{κ:Str->Addr}{ι:List Addr}{H:Hp}
end
section
variable {X:Cx}{κ:Str->Addr}{a b e o:Expr}{es:List Expr}{fa fb:Mo Ev}{fs:Mo (List Ev)}{p pos apos yd5:Pos}{k:Nat}
def Fy (hg:Gl X x)(hm:X.mg x=none)(hv:bootBuiltins x=some (.type n))(hn:x≠"__name__":=by decide)(hd:(x == ("__debug__" : Str))=false:=by decide):LE X κ (.Name x pos) (ag (.ty n)):=.mk (aX (nG (v:=.ty n) hg hm hv rfl hn hd) λ_ _ _=>iK λ_ _=>.ty _)
end
def ba (h1:‹sc.kind=.function›)(h2:‹sc.isCoroutine=false›)(h3:‹sc.isGenerator=false›)(h4:N.Nodup:=by decide +kernel)(h5:‹N.take P.length=P›)(h6:∀x∈P,sc.names.lookup x=some .local∨sc.names.lookup x=some .cell:=by decide +kernel)(h7:∀y∈sc.names,y.2≠.free:=by decide +kernel):y40 N P sc:=⟨h1,h2,h3,h4,h5,h6,h7⟩
section
variable {P:Program}{w:World}{K:W.Frag}{mg:Str->Option Value}{base:Heap}{k:Nat}{ps:List Str}{sp:Sp}{f:Addr}{fd:FuncData}{C:Addr}{x q m:Str}{st:Stmt}
end
def yc6  (hsc:X.env.scope=osc)(hN:X.N=N)(h:C8 osc N scope xs (ix.map λi=>N.getD i "") ix=true):ya X scope xs (ix.map λi=>N.getD i "") ix:=yca hsc hN h
end
section
section
end
noncomputable abbrev nOf{N P:List Str}{sc:Scope}(_:y40 N P sc):List Str:=N
noncomputable abbrev wb{N P:List Str}{sc:Scope}(_:y40 N P sc):Scope:=sc
end
end B
set_option maxHeartbeats 4000000
namespace PySem
open PySem.Spec PyProof.Rows
section
variable {prog:Program}{w:World}{K:Type}[DecidableEq K]{knd:HeapKind prog w K}{A:Around}{E:Value->Shared->Prop}{s:Shared}
end
section
variable {K:Type}[DecidableEq K]
end
section
variable {prog:Program}{w:World}{K:Type}[DecidableEq K]{knd:HeapKind prog w K}{A:Around}{E:Value->Shared->Prop}{R:Result->Shared->Prop}
end
section
variable {prog:Program}{w:World}{K:Type}[DecidableEq K]{knd:HeapKind prog w K}{A:Around}{E:Value->Shared->Prop}{s:Shared}
end
section
variable {prog:Program}{w:World}{K:Type}[DecidableEq K]{knd:HeapKind prog w K}{A:Around}{E:Value->Shared->Prop}{s:Shared}
end
section
variable {prog:Program}{w:World}{K:Type}[DecidableEq K]{knd:KeyKind prog w K}{A:Around}{E:Value->Shared->Prop}{s:Shared}
end
end PySem
set_option maxHeartbeats 400000
namespace L2
open PySem PySem.Spec PyProof.Rows
section
section
abbrev Fz(kvs more:List (List aS×V)):List (List aS×V):=more.foldl (λacc kv=>b6 acc kv.1 kv.2) kvs
abbrev FC(w:World)(k:List aS):Int:=reduceHash (Builtin.Tuple.tupleHashOf (k.map (qX w)))
abbrev Ky(w:World):V->List V->Hp->VK->Prop:=λx vs H Q=>∃(a b:Addr) (kvs more:List (List aS×V)),x=.ref a/\vs=[.ref b]/\a≠b/\H a=some (.dT kvs)/\H b=some (.dT more)/\(kvs=[]->(more.map λp=>FC w p.1).Nodup)/\kvs.length+more.length≤1000000/\Q .non (aH H a (.dT (Fz kvs more)))
end
end
end L2
namespace PySem
end PySem
namespace L2
open PySem PySem.Spec PyProof.Rows
section
section
variable {X:Cx}{pins:List (Addr×Obj)}{σ:L2.St}{H:Hp}{s:Shared}
end
end
end L2
namespace B
open PySem PySem.Spec PyProof.Rows L2
section
variable {X:Cx}{K:W.Frag}{κ:Str->Addr}{ι:List Addr}{H H':Hp}{σ:L2.St}{Z:De}{G:List M}
structure Kw(H H':Hp):Prop where
 tup:∀a xs,H a=some (.tup xs)->H' a=some (.tup xs)
 frz:∀a o u,(∀ws,u≠HO.dK ws)->H a=some (.frz o u)->H' a=some (.frz o u)
end
end B
namespace L2
open PySem PySem.Spec PyProof.Rows
section
section
end
end
end L2
namespace B
open PySem PySem.Spec PyProof.Rows L2
section
section
variable {X:Cx}{K:W.Frag}{κ:Str->Addr}{ι:List Addr}{H:Hp}{σ:L2.St}
abbrev fB(fa fb:Mo Ev):Mo Ev:=bd fa λe=>λZ G=>match cI e Z G with
 | some (false,_,_)=>some (e,Z,G)
 | some (true,_,_)=>fb Z G
 | none=>none
abbrev wc(K:W.Frag)(ta tb:TE):TE:=λσ H Q=>ta σ H λx H1=>∃c,nX K x H1 c/\if c=true then tb σ H1 Q else Q x H1
def FD{a b:Expr}{aA:List Expr}{pos:Pos}{ta tb:TE}(ha:PE X a ta)(hb:PE X (.BoolOp .And (b::aA) pos) tb):PE X (.BoolOp .And (a::b::aA) pos) (wc X.K ta tb):=by
 intro pins s σ H Q I h
 refine BoolOp_and (aO (ha pins s σ H _ I h) λv s1 zz=>?_)
 obtain⟨x,H1,I1,r1,c,hc,q1⟩:=zz
 refine aO (nY pins s1 σ H1 x v (λb H'=>H'=H1/\b=c) I1 r1 ⟨c,hc,rfl,rfl⟩) λb s2 zz=>?_
 obtain⟨H2,I2,e1,e2⟩:=zz
 subst e1;subst e2
 cases b with
 | false=>rw [if_neg z13] at q1;exact⟨x,_,I2,r1,q1⟩
 | true=>rw [if_pos rfl] at q1;exact hb pins s2 σ _ Q I2 q1
def FE{fa fb:Mo Ev}{Q:VK}(h:aZ K κ (fB fa fb) σ H Q):wc K (aZ K κ fa) (aZ K κ fb) σ H Q:=by
 obtain⟨ι,Z,G,e,Z',G',s,eq,k⟩:=h
 obtain⟨x,Z1,G1,e1,eq1⟩:=bY eq
 refine⟨ι,Z,G,x,Z1,G1,s,e1,λv ι1 H1 a=>?_⟩
 split at eq1
 ·rename_i d1 d2 ht
  cases eq1
  obtain⟨t,_,_⟩:=jI a.ar ht
  exact⟨false,t,by rw [if_neg z13];exact k _ _ _ a⟩
 ·rename_i d1 d2 ht
  obtain⟨t,_,_⟩:=jI a.ar ht
  obtain⟨p,q⟩:=a.drop
  exact⟨true,t,by rw [if_pos rfl];exact aZ.go p q eq1 k⟩
 ·cases eq1
end
section
variable {X:Cx}{κ:Str->Addr}{a b e o:Expr}{es:List Expr}{ss:List Stmt}{fa fb fv:Mo Ev}{f:SF}{gf:GF}{fs:Mo (List Ev)}{p pos pos' apos yd5:Pos}{k:Nat}
def we{aA:List Expr}(ha:LE X κ a fa)(hb:LE X κ (.BoolOp .And (b::aA) pos) fb):LE X κ (.BoolOp .And (a::b::aA) pos) (fB fa fb):=.mk (aX (FD ha.pe hb.pe) λ_ _ _=>FE)
def FG (hg:Gl X x)(hm:∃t,X.mg x=some (.int i t))(hd:(x == ("__debug__" : Str))=false:=by decide):LE X κ (.Name x pos) (ag (.int i)):=by
 obtain⟨t,hm⟩:=hm
 exact oR (v:=.int i) hg hm ⟨t,rfl⟩ (λ_ _=>.int _) hd
end
end
end B
namespace PySem.W
open PySem PySem.Calls PyProof.Rows PySem.Spec
end PySem.W
namespace L2
open PySem PySem.Spec PyProof.Rows
section
section
variable {X:Cx}{pins:List (Addr×Obj)}{σ:L2.St}{H:Hp}{s:Shared}
end
end
end L2
namespace B
open PySem PySem.Spec PyProof.Rows L2
section
section
variable {X:Cx}{K:W.Frag}{κ:Str->Addr}{ι:List Addr}{H:Hp}{σ:L2.St}
end
section
variable {X:Cx}{κ:Str->Addr}{a b e o:Expr}{es:List Expr}{fa fb:Mo Ev}{fs:Mo (List Ev)}{p pos apos yd5:Pos}{k:Nat}
end
end
end B
set_option maxHeartbeats 4000000
namespace L2
open PySem PySem.Spec PyProof.Rows
section
section
variable {X:Cx}
abbrev wg:V->List V->Hp->VK->Prop:=λx ys H Q=>∃(z y:Str) (i:Nat) (r:List Nat),x=.str z/\ys=[.str y]/\Builtin.Str.occurrences z y 0 z.length 1=i::r/\Q (.int i) H
def FH:sT X "str.index" wg:=by
 intro pins s σ H x xs v us Q I rx r h
 obtain⟨z,y,i,aA,rfl,rfl,ho,q⟩:=h
 obtain⟨t,rfl⟩:=rx
 obtain⟨u,rfl,t',rfl⟩:=cc r
 exact call_gives PySem.F.slot_str_index (typeIs_str _ _ _) PySem.F.entry_str_index (PySem.F.args_str_index_2 _ _) (gives_str_index z y t t' i aA ho) ⟨.int i,H,I.tok _,⟨_,rfl⟩,q⟩
def yb2:y6 X (.type "str") (λxs H Q=>(∃i:Int,xs=[.int i]/\i.natAbs.log2<1920/\Q (.str (toString i)) H)∨∃x,xs=[.str x]/\Q (.str x) H):=by
 intro pins s σ H xs us Q I r h
 rcases h with h|⟨x,rfl,q⟩
 ·exact yb3 pins s σ H xs us Q I r h
 ·obtain⟨u,rfl,t,rfl⟩:=cc r
  exact PySem.P.str_of_str ⟨.str x,H,I,⟨_,rfl⟩,q⟩
abbrev qL(K:W.Frag)(H:Hp)(x:V):Prop:=x=.non∨∃a ys,x=.ref a/\bb K H a ys
abbrev wj:V->Bool
 | .non=>true
 | _=>false
abbrev nU:Value->Bool
 | .none=>true
 | _=>false
def wm{H:Hp}{x:V}{u:Value}(r:ay x u)(h:qL X.K H x):nU u=wj x:=by
 rcases h with rfl|⟨a,ys,rfl,_⟩
 ·cases r;rfl
 ·cases r;rfl
theorem y70{H:Hp}:∀{xs:List V} {us:List Value},au xs us->(∀x∈xs,qL X.K H x)->us.any nU=xs.any wj
 | _,_,.nil,_=>rfl
 | _,_,.cons r t,f=>by rw [List.any_cons,List.any_cons,wm r (f _ List.mem_cons_self),y70 t λy hy=>f y (z1d _ hy)]
def FI(hu:X.A.in1.units<cLine):bU X (compareOp .In) (λx y H Q=>x=.non/\∃p xs,y=.ref p/\bw X.K H p xs/\(∀z∈xs,qL X.K H z)/\Q (.bl (xs.any wj)) H):=by
 intro pins s σ H x y v u Q I rx ry h
 obtain⟨rfl,p,xs,rfl,hq,fs,q⟩:=h
 cases rx;cases ry
 obtain⟨its,r,pl,hz⟩:=I.list hq
 have go:∀{xs:List V} {us:List Value},au xs us->(∀z∈xs,qL X.K H z)->∀u∈us,SeqAt.EqAt X.A.in1 s u .none (nU u):=λ{xs us} r=>by
  induction r with
  | nil=>intro _ u hu;cases hu
  | cons r1 r2 ih =>
   intro f u hu'
   rcases z1f.mp hu' with rfl|hu'
   ·rcases f _ List.mem_cons_self with rfl|⟨a,ys,rfl,ht⟩
    ·cases r1;exact SeqAt.EqAt.same _
    ·cases r1
     obtain⟨is,_,pt,_⟩:=I.tuple ht
     exact SeqAt.EqAt.tuple_none pt hu
   ·exact ih (λy hy=>f y (z1d _ hy)) u hu'
 refine SeqAt.in_listAt nU pl.isList (λw hw=>go r fs w (by simpa using hw)) ⟨.bl _,H,I,rfl,?_⟩
 rw [show its.toArray.any nU=its.any nU by simp,y70 r fs]
 exact q
end
end
end L2
namespace PySem
open Builtin Builtin.Str PyProof.Rows
section
def yc5 (hh:A.handled=none)(hl:s.heap.IsList l items)(hne:l≠it)(hi:s.heap.IsRevIter it l ((items.size:Int)-1))(hn:items.size≤sizeLine)
  (hQ:∀h' tk acc,(∀b o,b≠it->s.heap.get? b=some o->h'.get? b=some o)->ItemsOf (λi v=>items[items.size-1-i]?=some v) acc items.size->Q acc.toList { s with heap:=h',toks:=tk }) :
  wpAny (model prog w) A (collect (.ref it)) Q E s:=by
 have hlt:l<s.heap.objs.size:=by obtain⟨_,e,_⟩:=hl;exact z14 e
 have hit:it<s.heap.objs.size:=by obtain⟨_,e,_⟩:=hi;exact z14 e
 have hSI:s.heap.objs.size≠it:=Nat.ne_of_gt hit
 unfold collect
 refine za (wpAny_runValue (codeAny_builtin PySem.F.entry_proto_collect ?_))
 rw [Around.under_plainId PySem.F.plain_proto_collect _]
 show wpAny _ A.in1 (newList [] >>= λl=>again (.builtin "list.__iadd__" ⟨[l,.ref it],[]⟩)) _ _ s
 refine za (z2a ?_)
 refine zf ⟨plainId_quiet PySem.F.plain_list_iadd _,codeAny_builtin PySem.F.entry_list_iadd ?_⟩
 rw [Around.under_plainId PySem.F.plain_list_iadd _]
 have hS:(s.heap.push { cls:=.type "list",data:=.seq ([]:List Value).toArray }).get? s.heap.objs.size=some { cls:=.type "list",data:=.seq ([]:List Value).toArray }:=z21 _ rfl
 have hl2:(s.heap.push { cls:=.type "list",data:=.seq ([]:List Value).toArray }).IsList l items:=hl.push _
 have hi2:(s.heap.push { cls:=.type "list",data:=.seq ([]:List Value).toArray }).IsRevIter it l ((items.size:Int)-1):=hi.at λo e=>zc _ e
 have W:=Walks.listRev (prog:=prog) (w:=w) (A:=A.in1) hh it l hne items
 have st:(λi (h:Heap)=>i≤items.size/\h.IsRevIter it l ((items.size:Int)-1-(i:Int))/\h.IsList l items) 0 (s.heap.push { cls:=.type "list",data:=.seq ([]:List Value).toArray }):=⟨Nat.zero_le _,by simpa using hi2,hl2⟩
 have h1:Builtin.List.listSameRef (.ref s.heap.objs.size) (.ref it)=false:=by simp [Builtin.List.listSameRef,hSI]
 have h2':(Value.type "list_reverseiterator" == Value.type "list")=false:=by decide
 have h3:(Value.type "list_reverseiterator" == Value.type "tuple")=false:=by decide
 show wpAny _ A.in1 (Builtin.List.listExtendWith (.ref s.heap.objs.size) (.ref it) (.ref s.heap.objs.size)) _ _ _
 unfold Builtin.List.listExtendWith
 have hT:({ s with heap:=s.heap.push { cls:=.type "list",data:=.seq ([]:List Value).toArray } }:Shared).TypeIs (.ref it) "list_reverseiterator":=hi2.typeIs
 refine za (wpAny_typeOf hT ?_)
 simp only [h1,h2',h3,Bool.or_false,Bool.false_eq_true,if_false]
 refine za (wpAny_pyIter_revIter hi2 ?_)
 refine za (wpAny_holding (tP hT ?_))
 have hSf:s.heap.objs.size∉[it,l]:=by simp only [z1f,List.not_mem_nil,or_false,not_or];exact⟨hSI,Nat.ne_of_gt hlt⟩
 refine wpAny_ite_split (λhab=>absurd hab (by decide)) (λ_=>?_)
 refine zf ⟨plainId_quiet PySem.F.plain_extend_loop _,codeAny_extend_loopS W.toS hn s.heap.objs.size hSf _ items.size 0 _ #[] 0 rfl (Nat.zero_le _) st hS (ItemsOf.nil _) λs' y5e c' hm hS' y1a5=>?_⟩
 show wpAny _ A (load s.heap.objs.size >>= _) _ _ s'
 refine za (wpAny_load hS' ?_)
 refine zf ?_
 rw [Moved.eq_with hm]
 refine hQ s'.heap s'.toks y5e (λb o hb e=>hm.heap b o (λy1ba=>?_) (zc _ e)) y1a5
 rcases z1f.mp y1ba with e'|y1ba
 ·exact absurd (z14 e) (by rw [e'];exact z32 _)
 ·exact hb (z22.mp y1ba)
def FJ{l it:Addr}{items:Array Value}{x:Str}{t:Tok}{Q:Value->Shared->Prop}(hh:A.handled=none)(hl:s.heap.IsList l items)(hne:l≠it)(hi:s.heap.IsRevIter it l ((items.size:Int)-1))(hn:items.size≤sizeLine)
  {ys:List Str} (hs:∀(i:Nat) (y:Str),ys[i]?=some y->∃u:Tok,items[i]?=some (Value.str y u)) (hsz:ys.length=items.size) (hf:(ys.map (·.length)).sum+ys.length*x.length≤16777216)
  (hQ:∀h' tk t',(∀b o,b≠it->s.heap.get? b=some o->h'.get? b=some o)->Q (.str (Txt.join x ys.reverse) t') { s with heap:=h',toks:=tk }) :
  wpAny (model prog w) A (call (.builtin "str.join") [.str x t,.ref it]) Q E s:=by
 refine wpAny_call (codeAny_call_builtin PySem.F.slot_str_join.plain PySem.F.entry_str_join (PySem.F.slot_str_join.check _ _ _ _ _ _ _ _ (typeIs_str _ _ _) (PySem.F.args_str_join_2 _ _) ?_))
 rw [join_tree_other]
 refine za (wpAny_typeOf hi.typeIs ?_)
 show wpAny _ A.in1 ((pyIter (.ref it)).tryCatch _ >>= λit=>collect it >>= λitems=>joinTail x items) _ _ s
 refine za (wpAny_tryCatch (wpAny_pyIter_revIter hi ?_))
 refine za (yc5 hh hl hne hi hn λh' tk acc hk y1a5=>?_)
 have el:∃l:List (Str×Tok),strValues l=acc.toList/\l.map (·.1)=ys.reverse:=by
  have ex:∀v∈acc.toList,∃y u,v=Value.str y u:=λv hv=>by
   obtain⟨j,hj,rfl⟩:=Array.mem_iff_getElem.mp (Array.mem_toList_iff.mp hv)
   have q:items[items.size-1-j]?=some acc[j]:=y1a5.2 j _ (Array.getElem?_eq_getElem hj)
   have hj':items.size-1-j<ys.length:=by have:=y1a5.1;lia
   obtain⟨u,hu⟩:=hs _ _ (z16 hj')
   rw [hu] at q
   exact⟨_,_,(z20 q).symm⟩
  obtain⟨l,e⟩:=exists_strValues acc.toList ex
  refine⟨l,e,List.ext_getElem? λi=>?_⟩
  have ll:l.length=items.size:=by
   have:=congrArg List.length e
   simp only [strValues,z12,Array.length_toList] at this
   rw [this,y1a5.1]
  by_cases hi':i<items.size
  ·have hi2:i<acc.size:=by rw [y1a5.1];exact hi'
   have q:items[items.size-1-i]?=some acc[i]:=y1a5.2 i _ (Array.getElem?_eq_getElem hi2)
   have hj':items.size-1-i<ys.length:=by lia
   obtain⟨u,hu⟩:=hs _ _ (z16 hj')
   rw [hu] at q
   have q2:acc.toList[i]?=some (.str (ys[items.size-1-i]) u):=by
    rw [Array.getElem?_toList,Array.getElem?_eq_getElem hi2];exact q.symm
   rw [<- e,strValues,List.getElem?_map] at q2
   cases e3:l[i]? with
   | none=>rw [e3] at q2;cases q2
   | some p =>
    rw [e3] at q2
    have:p.1=ys[items.size-1-i]:=by
     obtain⟨p1,p2⟩:=p
     have:=z20 q2
     cases this;rfl
    rw [List.getElem?_map,e3,Option.map_some,this,List.getElem?_reverse (by lia),z16 (by lia)]
    congr 2
    lia
  ·rw [List.getElem?_eq_none (by rw [z12];lia),List.getElem?_eq_none (by rw [z2c];lia)]
 obtain⟨l,e,e2⟩:=el
 rw [<- e]
 have hok:tooLong ((l.map (·.1)).toArray.foldl (· + ·.length+x.length) 0)=false:=by
  rw [StrLaws.joinTotal,e2]
  have h1:(ys.reverse.map (·.length)).sum=(ys.map (·.length)).sum:=by rw [List.map_reverse,List.sum_reverse]
  rw [h1,z2c]
  unfold tooLong sizeLine
  exact decide_eq_false (by lia)
 have g:Gives (joinTail x (strValues l)) (joinMade x l):=by
  have g0:=gives_joinTail x l hok
  cases l with
  | nil=>exact g0
  | cons p r=>cases r with
   | nil=>exact g0
   | cons q r'=>exact g0
 refine g prog w A (wants Q E) { s with heap:=h',toks:=tk } (post_join l ⟨joinFit_length hok,λt' k=>?_⟩)
 rw [e2]
 exact hQ h' k t' hk
end
end PySem
namespace L2
open PySem PySem.Spec PyProof.Rows
section
section
abbrev wo(K:W.Frag)(to te:TE):TE:=λσ H Q=>to σ H λx H1=>∃z:Str,x=.str z/\te σ H1 λy H2=>∃(l:Addr) (ys:List Str),y=.ref l/\bw K H2 l (ys.map V.str)/\(ys.map (·.length)).sum+ys.length*z.length≤16777216/\Q (.str (Txt.join z ys.reverse)) H2
theorem wq:∀{ys:List Str} {us:List Value},au (ys.map V.str) us->∀(i:Nat) (y:Str),ys[i]?=some y->∃u:Tok,us[i]?=some (Value.str y u)
 | [],_,_,i,y,e=>by simp at e
 | z::ys,us,r,i,y,e=>by
  rw [z18] at r
  cases r with
  | cons r1 r2 =>
   obtain⟨t,rfl⟩:=r1
   cases i with
   | zero=>simp at e;subst e;exact⟨t,rfl⟩
   | succ i=>simpa using wq r2 i y (by simpa using e)
def FK (hc:X.calm=true)(gr:Gl X "reversed")(mr:X.mg "reversed" = none)(ho:PE X o to)(he:PE X e te)
  (y1ab:‹attributeBase o "join" X.env (eval o X.env)=eval o X.env›)
  (y1b2:‹((backTo yd5 (starEach [.Call (.Name "reversed" p2) [e] [] q2] X.env)).all (λx=>!x.1)&&(backToKw yd5 (keywordEach [] X.env)).all (λx=>x.1.isSome)
   && decide ([Expr.Call (.Name "reversed" p2) [e] [] q2].length+([]:List Keyword).length+(if ([]:List Keyword).isEmpty then 0 else 1)<30))=true›)
  (y1b8:‹(apos.endLine == yd5.line)=true›) (hs1:‹starEach [e] X.env=[(false,eval e X.env)]›)
  (hs2:‹starEach [.Call (.Name "reversed" p2) [e] [] q2] X.env=[(false,eval (.Call (.Name "reversed" p2) [e] [] q2) X.env)]›) :
  PE X (.Call (.Attribute o "join" apos) [.Call (.Name "reversed" p2) [e] [] q2] [] yd5) (wo X.K to te):=by
 intro pins s σ H Q I h
 refine wpAny_Call_method_late y1ab y1b2 y1b8 rfl (aO (ho pins s σ H _ I h) λv s1 zz=>?_)
 obtain⟨x,H1,I1,r1,z,e1,q1⟩:=zz
 subst e1
 obtain⟨h1,h2⟩:=jA I1 r1 rfl
 refine⟨"str","str.join",PySem.F.plainAttrs_str,PySem.F.slot_str_join,PySem.F.type_str_join,h1,h2,?_⟩
 obtain⟨t,rfl⟩:=r1
 rw [hs2]
 refine Calls.callWith_builtin rfl (Calls.evalArgs_plain ?_)
 show wpAny _ _ (spliced ((false,eval (.Call (.Name "reversed" p2) [e] [] q2) X.env)::backTo yd5 [])) _ _ s1
 refine Calls.spliced_cons ?_
 refine Call_ (gP I1 gr mr PyProof.Rows.boot_reversed (PyProof.Rows.callWith_type1 ?_ (by rw [hs1];rfl) rfl))
 rw [hs1]
 show wpAny _ _ (spliced ((false,eval e X.env)::backTo q2 [])) _ _ s1
 refine Calls.spliced_cons (aO (he pins s1 σ H1 _ I1 q1) λu s2 ⟨y,H2,I2,r2,l,ys,e2,hq,hz,q⟩=>Calls.spliced_nil ?_)
 subst e2
 cases r2
 obtain⟨its,rv,p,hsz⟩:=I2.list hq
 have hlen:=rv.length
 refine call_reversed_list p.isList (Calls.spliced_nil ?_)
 have hl1:(s2.heap.push (revObj l ((its.toArray.size:Int)-1))).IsList l its.toArray:=p.isList.push _
 have hlt:l<s2.heap.objs.size:=by obtain⟨_,e,_⟩:=p.isList;exact z14 e
 have hle:ys.length=its.length:=by rw [z12] at hlen;exact hlen
 refine FJ (I2.ok.hd hc) hl1 (z27 hlt) ⟨_,z21 _ rfl,rfl,rfl⟩ (by rw [ze,<- hle];rw [z12] at hsz;exact hsz)
  (λi y e=>by obtain⟨u,hu⟩:=wq rv i y e;exact⟨u,by simpa using hu⟩) (by rw [ze];exact hle) hz λh' tk t' hk=>?_
 exact⟨.str _,H2,I2.kept λb o e=>hk b o (z27 (z14 e)) (zc _ e),⟨_,rfl⟩,q⟩
abbrev FL(tv:TE):TE:=λσ H Q=>tv σ H λx H1=>∃y:Str,x=.str y/\y.length≤sizeLine/\Q (.str y) H1
def FN (he:PE X e te):PE X (.FormattedValue e (-1) none pos) (FL te):=by
 intro pins s σ H Q I h
 refine wpAny_FormattedValue_plain (aO (he pins s σ H _ I h) λv s1 zz=>?_)
 obtain⟨x,H1,I1,r1,y,e1,hy,q⟩:=zz
 subst e1
 obtain⟨t,rfl⟩:=r1
 exact wpAny_formatField_str ⟨.str y,H1,I1,⟨_,rfl⟩,q⟩ ⟨.str y,H1,I1.tok _,⟨_,rfl⟩,q⟩ hy
abbrev AA:List TE->Str->TE
 | [],acc=>λσ H Q=>acc.length≤sizeLine/\Q (.str acc) H
 | t::ts,acc=>λσ H Q=>t σ H λx H1=>∃y:Str,x=.str y/\(acc++y).length≤sizeLine/\AA ts (acc++y) σ H1 Q
inductive PJs(X:Cx):List Expr->List TE->Prop
 | nil:PJs X [] []
 | cons {e:Expr} {es:List Expr} {t:TE} {ts:List TE}:PE X e t->PJs X es ts->PJs X (e::es) (t::ts)
def PJs.go (h:PJs X es ts):∀{acc:Str} {pins:List (Addr×Obj)} {s:Shared} {σ:St} {H:Hp} {Q:VK},Inv X pins σ H s->AA ts acc σ H Q ->
  Joins (model X.prog X.w) X.A X.xe (evalEach es X.env) acc (λout s1=>out.length≤sizeLine/\EP X pins σ Q (.str out s1.toks) { s1 with toks:=s1.toks+1 }) s:=by
 induction h with
 | nil =>
  intro acc pins s σ H Q I q
  exact⟨q.1,.str acc,H,I.tok _,⟨_,rfl⟩,q.2⟩
 | cons he hr ih =>
  intro acc pins s σ H Q I q
  show wpAny _ _ _ _ _ _
  refine aO (he pins s σ H _ I q) λv s1 zz=>?_
  obtain⟨x,H1,I1,r1,y,e1,hz,q1⟩:=zz
  subst e1
  obtain⟨t,rfl⟩:=r1
  exact⟨y,t,rfl,hz,ih I1 q1⟩
def FO  (h:PJs X (a::b::es) ts):PE X (.JoinedStr (a::b::es) pos) (AA ts Str.empty):=by
 intro pins s σ H Q I q
 exact wpAny_JoinedStr (h.go I q)
end
end
section
section
theorem wt:∀(tk:Nat) (ys:List Str),au (ys.map V.str) (strsFrom tk ys)
 | _,[]=>.nil
 | tk,y::ys=>by rw [z18];exact .cons ⟨_,rfl⟩ (wt (tk+1) ys)
abbrev md:V->List V->Hp->VK->Prop:=λx ys H Q=>∃(z y:Str),x=.str z/\ys=[.str y]/\(y.length == 0)=false/\z.length≤1000000/\∀p,H p=none->Q (.ref p) (aH H p (.lst ((Txt.split z y).map V.str)))
def wu:sT X "str.split" md:=by
 intro pins s σ H x xs v us Q I rx r h
 obtain⟨z,y,rfl,rfl,hy,hz,q⟩:=h
 obtain⟨t,rfl⟩:=rx
 obtain⟨u,rfl,t',rfl⟩:=cc r
 have hz':z.length≤sizeLine:=by rw [sizeLine_eq];lia
 have one:∀(e:Txt.split z y=[z]),EP X pins σ Q (.ref s.heap.objs.size) { s with heap:=s.heap.push { cls:=.type "list",data:=.seq [Value.str z t].toArray } }:=λe=>by
  refine⟨.ref s.heap.objs.size,_,I.laid (λb o e=>zc _ e) (z10 _) ?_,rfl,q _ (I.hok.fresh (z10 _))⟩
  rw [e]
  exact⟨by show 1≤sizeLine;decide,[Value.str z t],_,.cons ⟨_,rfl⟩ .nil,z21 _ rfl⟩
 cases h1:(decide (z.length<y.length)||decide (Builtin.Str.strKind z<Builtin.Str.strKind y))
 ·cases hf:(Builtin.Str.occurrences z y 0 z.length (z.length+1)).isEmpty
  ·have e:Txt.split z y=Builtin.Str.partsBetween z (Builtin.Str.occurrences z y 0 z.length (z.length+1)) y.length:=by
    unfold Txt.split;rw [h1,hf];rfl
   have hn:(Builtin.Str.partsBetween z (Builtin.Str.occurrences z y 0 z.length (z.length+1)) y.length).length≤sizeLine:=by
    have h2:=StrLaws.occ_length_le z y 0 z.length (z.length+1)
    rw [StrLaws.partsBetween_eq]
    have h3:∀(w a:Nat) (l:List Nat),(StrLaws.partsFrom z w a l).length=l.length+1:=λw a l=>by
     induction l generalizing a with
     | nil=>rfl
     | cons b l ih=>show (StrLaws.partsFrom z w _ l).length+1=_;rw [ih];rfl
    rw [h3,sizeLine_eq];lia
   refine call_meets PySem.F.slot_str_split (typeIs_str _ _ _) PySem.F.entry_str_split (PySem.F.args_str_split_2 _ _) (meets_str_split_sep z y t t' h1 hy hf hz' hn) ?_
   refine⟨.ref s.heap.objs.size,_,I.laid (λb o e=>zc _ e) (z10 _) ?_,rfl,q _ (I.hok.fresh (z10 _))⟩
   rw [e]
   exact⟨by rw [z12];exact hn,_,_,wt _ _,z21 _ rfl⟩
  ·refine call_meets PySem.F.slot_str_split (typeIs_str _ _ _) PySem.F.entry_str_split (PySem.F.args_str_split_2 _ _) (meets_str_split_not_found z y t t' h1 hy hf) ?_
   exact one (by unfold Txt.split;rw [h1,hf];rfl)
 ·refine call_meets PySem.F.slot_str_split (typeIs_str _ _ _) PySem.F.entry_str_split (PySem.F.args_str_split_2 _ _) (meets_str_split_cannot_occur z y t t' h1) ?_
  exact one (by unfold Txt.split;rw [h1];rfl)
abbrev ky(X:Cx)(e:Expr)(t:TE):Prop:=∀(pins:List (Addr×Obj)) (s:Shared) (σ:St) (H:Hp) (Q:VK),1≤s.toks->Inv X pins σ H s->t σ H Q->wpAny (model X.prog X.w) X.A (eval e X.env) (EP X pins σ Q) X.xe s
def ky.of (h:PE X e t):ky X e t:=λpins s σ H Q _ I q=>h pins s σ H Q I q
abbrev wx(y z:Str)(to:TE):TE:=λσ H Q=>to σ H λx H1=>∃w:Str,x=.str w/\w.length+(w.length+1)*z.length≤1000000/\Q (.str (Txt.replace w y z)) H1
def FP  (ho:ky X o to)(hyz:(y == z)=false)
  (y1ab:‹attributeBase o "replace" X.env (eval o X.env)=eval o X.env›)
  (y1b8:‹(apos.endLine == yd5.line)=true›) :
  ky X (.Call (.Attribute o "replace" apos) [.Constant (.str y) k1 p1,.Constant (.str z) k2 p2] [] yd5) (wx y z to):=by
 intro pins s σ H Q hn I h
 refine wpAny_Call_method_late y1ab rfl y1b8 rfl (wpAny_mono (wpAny_toks_of hn (ho pins s σ H _ hn I h)) (λv s1 ⟨hn1,x,H1,I1,r1,w,e1,hz,q⟩=>?_) λ_ _ x=>x.2)
 subst e1
 obtain⟨h1,h2⟩:=jA I1 r1 rfl
 refine⟨"str","str.replace",PySem.F.plainAttrs_str,PySem.F.slot_str_replace,PySem.F.type_str_replace,h1,h2,?_⟩
 obtain⟨t,rfl⟩:=r1
 refine Calls.callWith_builtin rfl (Calls.evalArgs_plain ?_)
 show wpAny _ _ (spliced [(false,_),(false,_)]) _ _ s1
 refine Calls.spliced_cons ?_
 refine Calls.Constant_str (k:=k1) (pos:=p1) ?_
 refine Calls.spliced_cons ?_
 refine Calls.Constant_str (k:=k2) (pos:=p2) ?_
 refine Calls.spliced_nil ?_
 refine SC.replace (by show s1.toks≠0;lia) (by show s1.toks+1≠0;lia) (by show s1.toks≠s1.toks+1;lia) hyz (by lia) λt' k=>?_
 exact⟨.str _,H1,I1.tok _,⟨_,rfl⟩,q⟩
def FQ  (ho:ky X o to)
  (y1ab:‹attributeBase o "split" X.env (eval o X.env)=eval o X.env›)
  (y1b8:‹(apos.endLine == yd5.line)=true›) :
  ky X (.Call (.Attribute o "split" apos) [.Constant (.str y) k1 p1] [] yd5) (λσ H Q=>to σ H λx H1=>md x [.str y] H1 Q):=by
 intro pins s σ H Q hn I h
 refine wpAny_Call_method_late y1ab rfl y1b8 rfl (aO (ho pins s σ H _ hn I h) λv s1 zz=>?_)
 obtain⟨x,H1,I1,r1,q⟩:=zz
 have ty:tu X.K "str" x H1:=by obtain⟨z,_,e,_⟩:=id q;subst e;rfl
 obtain⟨h1,h2⟩:=jA I1 r1 ty
 refine⟨"str","str.split",PySem.F.plainAttrs_str,PySem.F.slot_str_split,PySem.F.type_str_split,h1,h2,?_⟩
 refine Calls.callWith_builtin rfl (Calls.evalArgs_plain ?_)
 show wpAny _ _ (spliced [(false,_)]) _ _ s1
 refine Calls.spliced_cons ?_
 refine Calls.Constant_str (k:=k1) (pos:=p1) ?_
 refine Calls.spliced_nil ?_
 exact wu pins _ σ H1 x [.str y] v [.str y s1.toks] Q (I1.tok _) r1 (.cons ⟨_,rfl⟩ .nil) q
end
section
def FR   (x:InCallC s₀ env.locals m env.cells cm s)(hk:env.scope.kind=.function)(hl:env.kindOf n=some .local)
  (h:∀s',InCallC s₀ env.locals (λy=>if y=n then some v else m y) env.cells cm s'->1≤s'.toks->Q () s'):wpAny M A (storeName env n v) Q E s:=by
 refine wpAny_storeName_local hl x.toInCall.ns (λh' hn' hs'=>h _ ⟨⟨?_,hn',λb o e=>?_,x.toInCall.fresh⟩,λk c hc=>?_,x.apart,x.above⟩ (Nat.succ_le_succ (Nat.zero_le _))) (by rw [hk];rfl)
 ·obtain⟨h₁,tk,rfl⟩:=x.toInCall.same
  exact⟨h',_,rfl⟩
 ·exact hs'.extBut b o (z27 (z1c (z14 e) x.toInCall.fresh)) (x.toInCall.keep b o e)
 ·exact (x.cell k c hc).sameBut hs' (Nat.ne_of_gt (x.above k c (mem_of_lookup hc)))
def FT{scope:Scope}{globals:Addr}{n0:Str}{v0:Value}{aA:List (Str×Value)}{qual:Str}{func:Option Addr}{code:Value}{builtins:Addr}{Q:Env->Shared->Prop}
  (hk:scope.kind=.function) (h0:scope.names.lookup n0=some .local)
  (y1b7:∀x∈(n0,v0)::aA,scope.names.lookup x.1=some .local∨(scope.names.lookup x.1=some .cell/\((cellsFrom (s.heap.objs.size+1) scope.names []).lookup x.1).isSome=true))
  (hQ:∀env,env=newEnv scope s.heap.objs.size globals (cellsFrom (s.heap.objs.size+1) scope.names []) qual func code none builtins ->
   ∀s',InCallC s env.locals (bindL env.kindOf ((n0,v0)::aA) λ_=>none) env.cells (bindC env.kindOf ((n0,v0)::aA) λ_=>none) s'->1≤s'.toks->Q env s') :
  wpAny M A (newFunctionEnv scope globals [] ((n0,v0)::aA) qual func code none builtins) Q E s:=by
 simp only [newFunctionEnv,Option.isSome_none,Bool.false_eq_true,if_false]
 refine za (wpAny_alloc ?_)
 refine za (wpAny_layCells _ (λname kind cells=>by cases hkc:kind == NameKind.cell<;>simp [hkc]) _ _ _ _ ?_)
 have ok:=cellsFrom_ok scope.names (s.heap.push { cls:=.type "frame",data:=.dict #[] }) (s.heap.objs.size+1) [] ⟨λ_ _ hm=>(nomatch hm),List.Pairwise.nil⟩ (by rw [Heap.size_push];exact z10 _)
 rw [Heap.size_push] at ok
 rw [show ({ s with heap:=s.heap.push { cls:=.type "frame",data:=.dict #[] } }:Shared).heap.objs.size=s.heap.objs.size+1 from Heap.size_push ..]
 generalize eE:newEnv scope s.heap.objs.size globals (cellsFrom (s.heap.objs.size+1) scope.names []) qual func code none builtins=env at hQ
 have x0:InCallC s env.locals (λ_=>none) env.cells (λ_=>none) { s with heap:=pushCells (s.heap.push { cls:=.type "frame",data:=.dict #[] }) scope.names }:=by
  subst eE
  exact⟨⟨⟨_,_,rfl⟩,(Heap.Ns.new s.heap (.type "frame")).keeps (pushCells_keeps _ _),λb o e=>pushCells_keeps _ _ b o (zc _ e),z10 _⟩,
   λn c hc=>(ok.empty n c (mem_of_lookup hc)).1,ok.apart,λn c hm=>(ok.empty n c hm).2⟩
 have hke:env.scope.kind=.function:=by subst eE;exact hk
 have hl0:env.kindOf n0=some .local:=by subst eE;exact h0
 have hkr:∀x∈aA,env.kindOf x.1=some .local∨(env.kindOf x.1=some .cell/\(env.cells.lookup x.1).isSome=true):=λx hx=>by subst eE;exact y1b7 x (z1d _ hx)
 refine za ?_
 rw [List.forIn_cons]
 refine za ?_
 show wpAny M A (storeName (newEnv scope s.heap.objs.size globals (cellsFrom (s.heap.objs.size+1) scope.names []) qual func code none builtins) n0 v0 >>= _) _ E _
 rw [eE]
 refine za (FR x0 hke hl0 λs1 x1 t1=>zf ?_)
 refine wpAny_mono (wpAny_toks_of t1 (wpAny_bindParams (Q:=λ_ s'=>InCallC s env.locals (bindL env.kindOf ((n0,v0)::aA) λ_=>none) env.cells (bindC env.kindOf ((n0,v0)::aA) λ_=>none) s') _ (λ_ _ _=>by rw [<- eE];rfl) hke aA _ _ s1 x1 hkr λs' x'=>?_)) (λ_ s' ⟨t',x'⟩=>?_) λ_ _ z=>z.2
 ·unfold bindL bindC;rw [if_pos hl0,if_pos hl0];exact x'
 ·show wpAny M A (pure _) Q E s'
  refine zf ?_
  have:=hQ env rfl s' x' t'
  subst eE
  exact this
end
end
end L2
set_option maxHeartbeats 400000
namespace B
open PySem PySem.Spec PyProof.Rows L2
section
section
variable {K:W.Frag}{κ:Str->Addr}{ι:List Addr}{H:Hp}{σ:L2.St}
abbrev gk(j i:Str):Bool:=!(Builtin.Str.occurrences j i 0 j.length 1).isEmpty
abbrev dq(neg:Bool):List Ev->Mo Ev:=λes Z G=>match es with
 | [.v (.im (.str i)),.v (.im (.str j))]=>some (.v (.im (.bl (if neg then !(gk j i) else gk j i))),Z,G)
 | _=>none
def FU:aE K κ (r2 λx y H Q=>∃i j,x=.str i/\y=.str j/\Q (.bl (!(Builtin.Str.occurrences j i 0 j.length 1).isEmpty)) H) (dq false):=by
 intro ι H σ Z G es vs e Z' G' Q a h k
 unfold dq at h
 split at h
 ·obtain⟨v,u,rfl⟩:=bI a.len
  cases bK (a.im (j:=0) rfl rfl)
  cases bK (a.im (j:=1) rfl rfl)
  exact⟨_,_,rfl,_,_,rfl,rfl,k _ _ _ (bJ h (aT a (.bl _)))⟩
 ·cases h
def FV:aE K κ (r2 λx y H Q=>∃i j,x=.str i/\y=.str j/\Q (.bl (!(!(Builtin.Str.occurrences j i 0 j.length 1).isEmpty))) H) (dq true):=by
 intro ι H σ Z G es vs e Z' G' Q a h k
 unfold dq at h
 split at h
 ·obtain⟨v,u,rfl⟩:=bI a.len
  cases bK (a.im (j:=0) rfl rfl)
  cases bK (a.im (j:=1) rfl rfl)
  exact⟨_,_,rfl,_,_,rfl,rfl,k _ _ _ (bJ h (aT a (.bl _)))⟩
 ·cases h
abbrev cM(z:Str):Wk:=⟨z.cps.size,λi _ _=>(z.cps[i]?).map λc=>.str ⟨#[c]⟩,λ_ _=>true⟩
abbrev eL:List Ev->De->List M->Option Wk:=λes _ _=>match es with
 | [.v (.im (.str z))]=>some (cM z)
 | _=>none
def FW:uv K κ (λvs H R=>∃v,vs=[v]/\∃z,v=.str z/\R (Au z) H) eL:=by
 intro ι H σ Z G es vs w R a h k
 unfold eL at h
 split at h
 ·rename_i z
  cases h
  obtain⟨v,rfl⟩:=bQ a.len
  cases bK (a.im (j:=0) rfl rfl)
  refine⟨_,rfl,z,rfl,k _ ⟨λ{i d ι' H' σ' Z' G'} hi hd l s=>⟨hi,λx H2 y=>?_⟩,λ{ι' H' σ' Z' G'} hf l s=>z10 _⟩⟩
  obtain⟨e1,c,e2,e3⟩:=y
  subst e1;subst e3
  have hd:(z.cps[i]?).map (λc=>I.str ⟨#[c]⟩)=some d:=hd
  rw [e2] at hd
  cases hd
  exact⟨λ_ _ h=>h,.str _⟩
 ·cases h
abbrev iW:List Ev->Mo Ev:=λes Z G=>match es with
 | [.v (.im (.str z)),.v (.im (.str y))]=>match Builtin.Str.occurrences z y 0 z.length 1 with
  | i::_=>some (.v (.im (.int i)),Z,G)
  | []=>none
 | _=>none
def FX:aE K κ (rM wg) iW:=by
 intro ι H σ Z G es vs e Z' G' Q a h k
 unfold iW at h
 split at h
 ·rename_i z y
  split at h
  ·rename_i i r hi
   obtain⟨v,u,rfl⟩:=bI a.len
   cases bK (a.im (j:=0) rfl rfl)
   cases bK (a.im (j:=1) rfl rfl)
   exact⟨_,_,rfl,z,y,i,r,rfl,rfl,hi,k _ _ _ (bJ h (aT a (.int _)))⟩
  ·cases h
 ·cases h
abbrev iX:List Ev->Mo Ev:=λes Z G=>match es with
 | [.v (.im (.int i))]=>if i.natAbs.log2<1920 then some (.v (.im (.str (toString i))),Z,G) else none
 | [.v (.im (.str x))]=>some (.v (.im (.str x)),Z,G)
 | _=>none
def FY:aE K κ (λxs H Q=>(∃i:Int,xs=[.int i]/\i.natAbs.log2<1920/\Q (.str (toString i)) H)∨∃x,xs=[.str x]/\Q (.str x) H) iX:=by
 intro ι H σ Z G es vs e Z' G' Q a h k
 unfold iX at h
 split at h
 ·split at h
  ·rename_i hz
   obtain⟨v,rfl⟩:=bQ a.len
   cases cG (a.im (j:=0) rfl rfl)
   exact .inl ⟨_,rfl,hz,k _ _ _ (bJ h (aT a (.str _)))⟩
  ·cases h
 ·obtain⟨v,rfl⟩:=bQ a.len
  cases bK (a.im (j:=0) rfl rfl)
  exact .inr ⟨_,rfl,k _ _ _ (bJ h (aT a (.str _)))⟩
 ·cases h
abbrev me:Ev->Option String
 | .v (.im .non)=>some "NoneType"
 | .v (.im (.bl _))=>some "bool"
 | .v (.im (.int _))=>some "int"
 | .v (.im (.str _))=>some "str"
 | .v (.im (.tup _))=>some "tuple"
 | _=>none
abbrev eM:String->String->Option Bool
 | "int","int"=>some true
 | "int","bool"=>some false
 | "int","tuple"=>some false
 | "int","str"=>some false
 | "tuple","tuple"=>some true
 | "tuple","str"=>some false
 | "tuple","int"=>some false
 | "str","str"=>some true
 | "str","tuple"=>some false
 | "str","int"=>some false
 | "NoneType","str"=>some false
 | "NoneType","tuple"=>some false
 | "NoneType","int"=>some false
 | _,_=>none
def FZ{t n:String}{b:Bool}(h:eM t n=some b):W.kitOne K (.type t) (.type n)=some b:=by
 unfold eM at h
 split at h<;>cases h<;>first|(unfold W.kitOne;rw [if_pos (by simp)];done)|with_unfolding_all rfl
abbrev dE:List Ev->Mo Ev:=λes Z G=>match es with
 | [a,.v (.im (.ty n))]=>match me a with
  | some t=>match eM t n with
   | some b=>some (.v (.im (.bl b)),Z,G)
   | none=>none
  | none=>none
 | _=>none
def F0:aE K κ (λxs H Q=>∃x t n b,xs=[x,.ty n]/\y55 K H x t/\W.kitOne K t (.type n)=some b/\Q (.bl b) H) dE:=by
 intro ι H σ Z G es vs e Z' G' Q a h k
 unfold dE at h
 split at h
 ·rename_i x n
  split at h
  ·rename_i t ht
   split at h
   ·rename_i b hb
    obtain⟨v,u,rfl⟩:=bI a.len
    cases Dm (a.im (j:=1) rfl rfl)
    have ty:y55 K H v (.type t):=by
     unfold me at ht
     split at ht
     ·cases ht;cases jD (a.im (j:=0) rfl rfl);exact .non
     ·cases ht;cases lr (a.im (j:=0) rfl rfl);exact .bl _
     ·cases ht;cases cG (a.im (j:=0) rfl rfl);exact .int _
     ·cases ht;cases bK (a.im (j:=0) rfl rfl);exact .str _
     ·cases ht
      obtain⟨_,_,rfl,e,_⟩:=lA (a.im (j:=0) rfl rfl)
      exact .tup e
     ·cases ht
    exact⟨_,_,n,b,rfl,ty,FZ hb,k _ _ _ (bJ h (aT a (.bl _)))⟩
   ·cases h
  ·cases h
 ·cases h
abbrev AB:I->Bool
 | .non=>true
 | .tup _=>true
 | .con _=>true
 | _=>false
abbrev jU:I->Bool
 | .non=>true
 | _=>false
theorem wy:∀{xs:List I} {vs:List V},y4f K ι H vs xs->xs.all AB=true->(∀z∈vs,qL K H z)/\vs.any wj=xs.any jU
 | [],_,r,_=>by cases r;exact⟨λ_ h=>(by cases h),rfl⟩
 | x::xs,_,r,h=>by
  cases r with
  | cons r1 r2 =>
   rw [List.all_cons,z1b] at h
   obtain⟨p,q⟩:=wy r2 h.2
   have h1:=h.1
   rw [List.any_cons,List.any_cons,q]
   cases r1 with
   | non=>exact⟨λz hz=>(z1f.mp hz).elim (λe=>.inl e) (p z),rfl⟩
   | tup e rr=>exact⟨λz hz=>(z1f.mp hz).elim (λe'=>.inr ⟨_,_,e',bb.of e⟩) (p z),rfl⟩
   | con e rr=>exact⟨λz hz=>(z1f.mp hz).elim (λe'=>.inr ⟨_,_,e',bb.kon e⟩) (p z),rfl⟩
   | _=>cases h1
abbrev jV:List Ev->Mo Ev:=λes Z G=>match es with
 | [.v (.im .non),b]=>match pk Z G b with
  | some (.lst xs)=>if xs.all AB then some (.v (.im (.bl (xs.any jU))),Z,G) else none
  | _=>none
 | _=>none
def F1:aE K κ (r2 λx y H Q=>x=.non/\∃p xs,y=.ref p/\bw K H p xs/\(∀z∈xs,qL K H z)/\Q (.bl (xs.any wj)) H) jV:=by
 intro ι H σ Z G es vs e Z' G' Q a h k
 unfold jV at h
 split at h
 ·rename_i b
  split at h
  ·rename_i xs hx
   split at h
   ·rename_i ha
    obtain⟨v,u,rfl⟩:=bI a.len
    cases jD (a.im (j:=0) rfl rfl)
    obtain⟨p,e1,ys,h1,r⟩:=a.pk (j:=1) rfl rfl hx
    subst e1
    obtain⟨q1,q2⟩:=wy r ha
    exact⟨_,_,rfl,rfl,p,ys,rfl,bw.of h1,q1,by rw [q2];exact k _ _ _ (bJ h (aT a (.bl _)))⟩
   ·cases h
  ·cases h
 ·cases h
abbrev iY:List Ev->Mo Ev:=λes Z G=>match es with
 | [.v (.im (.str z)),a]=>match pk Z G a with
  | some (.lst xs)=>match dC xs with
   | some ys=>if (ys.map (·.length)).sum+ys.length*z.length≤1000000 then some (.v (.im (.str (PySem.Txt.join z ys.reverse))),Z,G) else none
   | none=>none
  | _=>none
 | _=>none
abbrev F3(K:W.Frag):V->List V->Hp->VK->Prop:=λx vs H Q=>∃(z:Str) (p:Addr) (ys:List Str),x=.str z/\vs=[.ref p]/\bw K H p (ys.map V.str)/\(ys.map (·.length)).sum+ys.length*z.length≤16777216/\Q (.str (Txt.join z ys.reverse)) H
def F4:aE K κ (rM (F3 K)) iY:=by
 intro ι H σ Z G es vs e Z' G' Q a h k
 unfold iY at h
 split at h
 ·rename_i z x
  split at h
  ·rename_i xs hx
   split at h
   ·rename_i ys hn
    split at h
    ·rename_i hz
     obtain⟨v,u,rfl⟩:=bI a.len
     cases bK (a.im (j:=0) rfl rfl)
     obtain⟨p,e1,us,h1,r⟩:=a.pk (j:=1) rfl rfl hx
     subst e1
     exact⟨_,_,rfl,z,p,ys,rfl,rfl,by rw [<- pw r hn];exact bw.of h1,z1a hz (by decide),k _ _ _ (bJ h (aT a (.str _)))⟩
    ·cases h
   ·cases h
  ·cases h
 ·cases h
def F5{fo fe:Mo Ev}{Q:VK}(h:aZ K κ (fP iY fo (one fe)) σ H Q):wo K (aZ K κ fo) (aZ K κ fe) σ H Q:=by
 obtain⟨ι,Z,G,e,Z',G',s,eq,k⟩:=ma F4 h
 refine⟨ι,Z,G,e,Z',G',s,eq,λv ι1 H1 a=>?_⟩
 obtain⟨ty,ι2,Z2,G2,es,Z3,G3,s2,eq2,k2⟩:=k v ι1 H1 a
 cases v with
 | str z =>
  refine⟨z,rfl,lM ⟨ι2,Z2,G2,es,Z3,G3,s2,eq2,λvs ι3 H3 a3=>?_⟩⟩
  obtain⟨z',p,ys,e1,e2,h1,h2,q⟩:=k2 vs ι3 H3 a3
  cases e1
  exact⟨_,e2,p,ys,rfl,h1,h2,q⟩
 | int _=>exact absurd (show ("str" : String)="int" from ty) (by decide)
 | ref p=>rcases ty with⟨e,_⟩| ⟨e,_⟩| ⟨e,_⟩| ⟨e,_⟩<;>exact absurd e (by decide)
 | _=>exact False.elim ty
abbrev dX:List Ev->Mo Ev:=λes Z G=>match es with
 | [.v (.im (.str y))]=>if y.length≤1000000 then some (.v (.im (.str y)),Z,G) else none
 | _=>none
def F6:aE K κ (r1 λx H1 Q=>∃y:Str,x=.str y/\y.length≤sizeLine/\Q (.str y) H1) dX:=by
 intro ι H σ Z G es vs e Z' G' Q a h k
 unfold dX at h
 split at h
 ·rename_i y
  split at h
  ·rename_i hy
   obtain⟨v,rfl⟩:=bQ a.len
   cases bK (a.im (j:=0) rfl rfl)
   exact⟨_,rfl,y,rfl,z1a hy (by decide),k _ _ _ (bJ h (aT a (.str _)))⟩
  ·cases h
 ·cases h
abbrev gK:List (Mo Ev)->Str->Mo Ev
 | [],acc=>λZ G=>if acc.length≤1000000 then some (.v (.im (.str acc)),Z,G) else none
 | f::fs,acc=>bd f λe=>match e with
  | .v (.im (.str y))=>λZ G=>if (acc++y).length≤1000000 then gK fs (acc++y) Z G else none
  | _=>λ_ _=>none
theorem wz:∀{fs:List (Mo Ev)} {acc:Str} {H:Hp} {Q:VK},aZ K κ (gK fs acc) σ H Q->AA (fs.map (aZ K κ)) acc σ H Q
 | [],acc,H,Q,h=>by
  obtain⟨ι,Z,G,e,Z',G',s,eq,k⟩:=h
  unfold gK at eq
  split at eq
  ·rename_i hz
   cases eq
   have a:=aT (After.nil s).ar (RpI.str acc)
   exact⟨z1a hz (by decide),k _ _ _ ⟨a.ar,(After.nil s).st.trans a.st⟩⟩
  ·cases eq
 | f::fs,acc,H,Q,h=>by
  obtain⟨ι,Z,G,e,Z',G',s,eq,k⟩:=h
  unfold gK at eq
  obtain⟨x,Z1,G1,e1,eq1⟩:=bY eq
  refine⟨ι,Z,G,x,Z1,G1,s,e1,λv ι1 H1 a=>?_⟩
  split at eq1
  ·rename_i y
   split at eq1
   ·rename_i hz
    cases bK (a.ar.im (j:=0) rfl rfl)
    obtain⟨p,q⟩:=a.drop
    exact⟨y,rfl,z1a hz (by decide),wz (aZ.go p q eq1 k)⟩
   ·cases eq1
  ·cases eq1
abbrev cN(y z:Str):List Ev->Mo Ev:=λes Z G=>match es with
 | [.v (.im (.str w))]=>if w.length+(w.length+1)*z.length≤1000000 then some (.v (.im (.str (Txt.replace w y z))),Z,G) else none
 | _=>none
def F7{y z:Str}:aE K κ (r1 λx H1 Q=>∃w:Str,x=.str w/\w.length+(w.length+1)*z.length≤1000000/\Q (.str (Txt.replace w y z)) H1) (cN y z):=by
 intro ι H σ Z G es vs e Z' G' Q a h k
 unfold cN at h
 split at h
 ·rename_i w
  split at h
  ·rename_i hz
   obtain⟨v,rfl⟩:=bQ a.len
   cases bK (a.im (j:=0) rfl rfl)
   exact⟨_,rfl,w,rfl,hz,k _ _ _ (bJ h (aT a (.str _)))⟩
  ·cases h
 ·cases h
theorem mf:∀(ys:List Str),y4f K ι H (ys.map V.str) (ys.map I.str)
 | []=>.nil
 | y::ys=>.cons (.str y) (mf ys)
abbrev gm(y:Str):List Ev->Mo Ev:=λes Z G=>match es with
 | [.v (.im (.str w))]=>if (y.length == 0)=false/\w.length≤1000000 then some (.v (.ow (.lst ((Txt.split w y).map I.str))),Z,G) else none
 | _=>none
def F8{y:Str}:aE K κ (r1 λx H1 Q=>md x [.str y] H1 Q) (gm y):=by
 intro ι H σ Z G es vs e Z' G' Q a h k
 unfold gm at h
 split at h
 ·rename_i w
  split at h
  ·rename_i hz
   obtain⟨v,rfl⟩:=bQ a.len
   cases bK (a.im (j:=0) rfl rfl)
   exact⟨_,rfl,w,y,rfl,rfl,hz.1,hz.2,λl hl=>k _ _ _ (bJ h (fW a hl (mf _)))⟩
  ·cases h
 ·cases h
abbrev wA:SF:=λ_ _=>none
end
section
variable {X:Cx}{κ:Str->Addr}{a b e o:Expr}{es:List Expr}{fa fb:Mo Ev}{fs:Mo (List Ev)}{fl:List (Mo Ev)}{p pos apos yd5:Pos}{k:Nat}{st:Stmt}
def F9:LS X κ st wA:=.mk λpins s σ H D I h=>by obtain⟨_,_,_,_,_,eq,_⟩:=h;cases eq
def Gd(hg:Gl X x)(hm:∃t,X.mg x=some (.str y t))(hd:(x == ("__debug__" : Str))=false:=by decide):LE X κ (.Name x pos) (ag (.str y)):=by
 obtain⟨t,hm⟩:=hm
 exact oR (v:=.str y) hg hm ⟨t,rfl⟩ (λ_ _=>.str _) hd
def Gf{x:Str}{ys:List Str}(hg:Gl X x)(hm:∃a,X.mg x=some (.ref a)/\bb X.K (λ_=>none) a (ys.map V.str))(hd:(x == ("__debug__" : Str))=false:=by decide):LE X κ (.Name x pos) (ag (.con (ys.map I.str))):=by
 obtain⟨a,hm,hs⟩:=hm
 exact oR (v:=.ref a) hg hm rfl (λ_ _=>.con hs (mf _)) hd
def wB(hr:y4e k X.A)(ha:LE X κ a fa)(hb:LE X κ b fb)(hm:‹behindInMarks .In b=false›):LE X κ (.Compare a [.In] [b] pos) (ai (dq false) fa fb):=lQ BM FU ha hb hm
def Gg(hr:y4e k X.A)(ha:LE X κ a fa)(hb:LE X κ b fb)(hm:‹behindInMarks .NotIn b=false›):LT X κ (.Compare a [.NotIn] [b] pos) (ao (ai (dq true) fa fb)):=g8 BN FV ha hb hm
def wC(hr:y4e k X.A)(ha:LE X κ a fa)(hb:LE X κ b fb)(hm:‹behindInMarks .In b=false›):LT X κ (.Compare a [.In] [b] pos) (ao (ai jV fa fb)):=g8 (FI (by have:=iP hr;show X.A.units+1<cLine;lia)) F1 ha hb hm
def wD(h:LE X κ a fa):LI X κ tg a (cH (one fa) eL):=.mk (oQ (CS h.pe) λ_ _ _ q=>lM (lL FW q))
def Gh(hr:y4e k X.A)(ho:LE X κ o fa)(ha:LA X κ (e::es) fs)(y1ab:‹attributeBase o "index" X.env (eval o X.env)=eval o X.env›)
  (y1b2:‹((backTo yd5 (starEach (e::es) X.env)).all (λx=>!x.1)&&(backToKw yd5 (keywordEach [] X.env)).all (λx=>x.1.isSome)&&decide ((e::es).length+([]:List Keyword).length+(if ([]:List Keyword).isEmpty then 0 else 1)<30))=true›)
  (y1b8:‹(apos.endLine == yd5.line)=true›) (hs:‹starEach (e::es) X.env=(false,eval e X.env)::starEach es X.env›) (y1bb:‹(backTo yd5 (starEach es X.env)).any (·.1)=false›):LE X κ (.Call (.Attribute o "index" apos) (e::es) [] yd5) (fP iW fa fs):=.mk (aX (kY PySem.F.plainAttrs_str PySem.F.slot_str_index PySem.F.type_str_index FH ho.pe ha.pe y1ab y1b2 y1b8 hs y1bb) λ_ _ _=>ma FX)
def Gi(hr:y4e k X.A)(hm:X.mg "str" = none)(ha:LA X κ (e::es) fs)(hg:‹Gl X "str"›)(he:‹fN X e es›)(hpl:‹eY X pos es›):LE X κ (.Call (.Name "str" p) (e::es) [] pos) (bd fs iX):=.mk (aX (n5 yb2 hg hm PyProof.Rows.boot_str ha.pe (by decide) (by decide) he hpl) λ_ _ _ q=>dQ FY q)
def Gj(hr:y4e k X.A)(hm:X.mg "isinstance" = none)(ha:LA X κ (e::es) fs)(hg:‹Gl X "isinstance"›)(he:‹fN X e es›)(hpl:‹eY X pos es›):LE X κ (.Call (.Name "isinstance" p) (e::es) [] pos) (bd fs dE):=.mk (aX (eZ yaa hg hm PyProof.Rows.boot_isinstance ha.pe (by decide) (by decide) he hpl) λ_ _ _ q=>dQ F0 q)
def Gk(hv:X.mg "reversed" = none)(ho:LE X κ o fa)(he:LE X κ e fb)(hc:‹X.calm=true›)(gr:‹Gl X "reversed"›)(y1ab:‹attributeBase o "join" X.env (eval o X.env)=eval o X.env›)
  (y1b2:‹((backTo yd5 (starEach [.Call (.Name "reversed" p2) [e] [] q2] X.env)).all (λx=>!x.1)&&(backToKw yd5 (keywordEach [] X.env)).all (λx=>x.1.isSome)
   && decide ([Expr.Call (.Name "reversed" p2) [e] [] q2].length+([]:List Keyword).length+(if ([]:List Keyword).isEmpty then 0 else 1)<30))=true›)
  (y1b8:‹(apos.endLine == yd5.line)=true›) (hs1:‹starEach [e] X.env=[(false,eval e X.env)]›)
  (hs2:‹starEach [.Call (.Name "reversed" p2) [e] [] q2] X.env=[(false,eval (.Call (.Name "reversed" p2) [e] [] q2) X.env)]›) :
  LE X κ (.Call (.Attribute o "join" apos) [.Call (.Name "reversed" p2) [e] [] q2] [] yd5) (fP iY fa (one fb)):=.mk (aX (FK hc gr hv ho.pe he.pe y1ab y1b2 y1b8 hs1 hs2) λ_ _ _=>F5)
def wF(h:LE X κ a fa):LE X κ (.FormattedValue a (-1) none pos) (a7 dX fa):=.mk (aX (FN h.pe) λ_ _ _ q=>g6 F6 q)
@[irreducible] noncomputable def LJ(X:Cx)(κ:Str->Addr)(es:List Expr)(fl:List (Mo Ev)):Prop:=PJs X es (fl.map (aZ X.K κ))
def wG:LJ X κ [] []:=by unfold LJ;exact .nil
def Gm(h:LE X κ a fa)(r:LJ X κ es fl):LJ X κ (a::es) (fa::fl):=by unfold LJ at r ⊢;exact .cons h.pe r
def Gn(h:LJ X κ (a::b::es) fl):LE X κ (.JoinedStr (a::b::es) pos) (gK fl Str.empty):=.mk (by unfold LJ at h;exact aX (FO h) λ_ _ _=>wz)
@[irreducible] noncomputable def LK(X:Cx)(κ:Str->Addr)(e:Expr)(f:Mo Ev):Prop:=ky X e (aZ X.K κ f)
def LK.mk(h:ky X a (aZ X.K κ fa)):LK X κ a fa:=by unfold LK;exact h
def LK.pe(h:LK X κ a fa):ky X a (aZ X.K κ fa):=by unfold LK at h;exact h
def wH(h:LE X κ a fa):LK X κ a fa:=.mk (ky.of h.pe)
def mh (ho:LK X κ o fa)(hyz:(y == z)=false:=by decide +kernel)(y1ab:‹attributeBase o "replace" X.env (eval o X.env)=eval o X.env›)(y1b8:‹(apos.endLine == yd5.line)=true›) :
  LK X κ (.Call (.Attribute o "replace" apos) [.Constant (.str y) k1 p1,.Constant (.str z) k2 p2] [] yd5) (a7 (cN y z) fa):=.mk λpins s σ H Q hn I q=>FP ho.pe hyz y1ab y1b8 pins s σ H Q hn I (g6 F7 q)
def wJ (ho:LK X κ o fa)(y1ab:‹attributeBase o "split" X.env (eval o X.env)=eval o X.env›)(y1b8:‹(apos.endLine == yd5.line)=true›) :
  LK X κ (.Call (.Attribute o "split" apos) [.Constant (.str y) k1 p1] [] yd5) (a7 (gm y) fa):=.mk λpins s σ H Q hn I q=>FQ ho.pe y1ab y1b8 pins s σ H Q hn I (g6 F8 q)
@[irreducible] noncomputable def qM(X:Cx)(κ:Str->Addr)(ss:List Stmt)(f:SF):Prop:=∀(pins:List (Addr×Obj)) (s:Shared) (σ:L2.St) (H:Hp) (D:Ends),1≤s.toks->Inv X pins σ H s->cT X.K κ f D σ H->wpAny (model X.prog X.w) X.A (execs ss X.env) (SP X pins D) X.xe s
def wK(h:LK X κ a fa):qM X κ [.Return (some a) pos] (ax fa):=by
 unfold qM
 intro pins s σ H D hn I q
 refine wpAny_execs_cons (wpAny_Return_some (aO (h.pe pins s σ H _ hn I (uk q)) λv s1 zz=>?_))
 obtain⟨x,H1,I1,r1,q1⟩:=zz
 exact⟨x,σ,H1,I1,r1,q1⟩
end
section
variable {P:Program}{w:World}{K:W.Frag}{mg:Str->Option Value}{base:Heap}{κ:Str->Addr}
def wL{x qual:Str}{st:Stmt}{f:Addr}{fd:FuncData}{N ps0:List Str}{p0:Str}{k n r:Nat}{body:SF}(F:Fun K x qual st f fd)(S:y40 N (p0::ps0) (bp st))(h0:(bp st).names.lookup p0=some .local)(hn:(p0::ps0).length=n)(hN:N.length=n+r)
  (hb:∀(cdv:Value) (A:Around) (outer:List Env) (s:Shared) (H:Hp) (E:XK),y4e k (A.deeper (envOfC qual (bp st) s.heap.objs.size f cdv))->qM (ei bH P w K mg base N qual (bp st) f cdv A outer s H E).nox κ (jB st) body) :
  y3f P w K mg base bH (k+1) f fd (p0::ps0) (aQ K κ n (aU n r body)):=by
 obtain⟨oc,od,kV,doc,pm,an,cdv,ct,osl,rfl,lk,hcd⟩:=F.ex
 refine⟨λvs H Q E h=>by rw [(lK h).1,hn],λA outer s H args us vs Q E hr e0 hbd rv hsp=>?_⟩
 obtain⟨hl,q⟩:=lK hsp
 have hl':vs.length=(p0::ps0).length:=by rw [hl,hn]
 have KX:K.In s.heap:=e0.mod.kin.keeps λb o e=>(e0.bs b o e).1
 have lim:s.heap.NoLimit:=e0.mod.nolimit.keeps λb o e=>(e0.bs b o e).1
 have hlu:us.length=(p0::ps0).length:=by rw [<- rv.length];exact hl'
 obtain⟨u0,us0,rfl⟩:∃u0 us0,us=u0::us0:=by cases us with
  | nil=>cases hlu
  | cons u0 us0=>exact⟨_,_,rfl⟩
 have y1b7:∀y∈(p0::ps0).zip (u0::us0),(bp st).names.lookup y.1=some .local∨((bp st).names.lookup y.1=some .cell/\((cellsFrom (s.heap.objs.size+1) (bp st).names []).lookup y.1).isSome=true):=λzz hy=>by
  obtain⟨n,v⟩:=zz
  rcases S.par n (List.of_mem_zip hy).1 with q|q
  ·exact .inl q
  ·exact .inr ⟨q,W.cellsFrom_some _ _ _ (.inl q)⟩
 refine codeAny_call_function hr.depth (KX _ _ lk) rfl S.co S.gen rfl (W.codeRec_of KX hcd) (hbd _ _ _ _ ?_)
 refine FT S.kind h0 y1b7 λenv he s1 xx tk=>?_
 subst he
 refine⟨lim.keeps xx.toInCall.keep,codeAny_func ?_⟩
 have I:Inv (ei bH P w K mg base N qual (bp st) f cdv A outer s H E) [] (L2.start N vs) H s1:=sf S hr.hd e0 hl' rv xx
 have hq:cT K κ body { nx:=λ_ H'=>Q .non H',rt:=Q } (L2.start N vs) H:=by
  unfold L2.start
  have e:N.length-vs.length=r:=by lia
  rw [e];exact q
 have hb':=hb cdv A outer s H E (hr.deeper _)
 unfold qM at hb'
 refine wpAny_mono (hb' [] s1 (L2.start N vs) H _ tk (I.y519 _) hq) (λfl s' hs=>?_) λe s' hs=>False.elim hs
 have hs:=hs.y4ca
 have fin:∀{σ':L2.St} {H':Hp} {v:V} {u:Value},Inv (ei bH P w K mg base N qual (bp st) f cdv A outer s H E) [] σ' H' s'->ay v u->Q v H'->CE outer P w H s Q u s' :=
  λ{σ' H' v u} J rv q=>⟨v,H',J.os,J.bare,J.base,J.hok,rv,q⟩
 cases fl with
 | ret u =>
  obtain⟨v,σ',H',J,rv,q⟩:=hs
  exact fin J rv q
 | next =>
  obtain⟨σ',H',J,q⟩:=hs
  exact fin (v:=V.non) J rfl q
 | brk =>
  obtain⟨_,_,_,q⟩:=hs
  exact False.elim q
 | cont =>
  obtain⟨_,_,_,q⟩:=hs
  exact False.elim q
end
end
section
section
variable {K:W.Frag}{κ:Str->Addr}{ι:List Addr}{H:Hp}{σ:L2.St}
abbrev iZ:List Ev->Mo Ev:=λes Z G=>match es with
 | [.v (.im (.str w)),.v (.im (.str y))]=>if (y.length == 0)=false/\w.length≤1000000 then some (.v (.ow (.lst ((Txt.split w y).map I.str))),Z,G) else none
 | _=>none
def Gp:aE K κ (rM md) iZ:=by
 intro ι H σ Z G es vs e Z' G' Q a h k
 unfold iZ at h
 split at h
 ·rename_i w y
  split at h
  ·rename_i hz
   obtain⟨v,u,rfl⟩:=bI a.len
   cases bK (a.im (j:=0) rfl rfl)
   cases bK (a.im (j:=1) rfl rfl)
   exact⟨_,_,rfl,w,y,rfl,rfl,hz.1,hz.2,λl hl=>k _ _ _ (bJ h (fW a hl (mf _)))⟩
  ·cases h
 ·cases h
end
section
variable {X:Cx}{κ:Str->Addr}{a b e o:Expr}{es:List Expr}{fa fb:Mo Ev}{fs:Mo (List Ev)}{p pos apos yd5:Pos}{k:Nat}
def Gq(hr:y4e k X.A)(ho:LE X κ o fa)(ha:LA X κ (e::es) fs)(y1ab:‹attributeBase o "split" X.env (eval o X.env)=eval o X.env›)
  (y1b2:‹((backTo yd5 (starEach (e::es) X.env)).all (λx=>!x.1)&&(backToKw yd5 (keywordEach [] X.env)).all (λx=>x.1.isSome)&&decide ((e::es).length+([]:List Keyword).length+(if ([]:List Keyword).isEmpty then 0 else 1)<30))=true›)
  (y1b8:‹(apos.endLine == yd5.line)=true›) (hs:‹starEach (e::es) X.env=(false,eval e X.env)::starEach es X.env›) (y1bb:‹(backTo yd5 (starEach es X.env)).any (·.1)=false›):LE X κ (.Call (.Attribute o "split" apos) (e::es) [] yd5) (fP iZ fa fs):=.mk (aX (kY PySem.F.plainAttrs_str PySem.F.slot_str_split PySem.F.type_str_split wu ho.pe ha.pe y1ab y1b2 y1b8 hs y1bb) λ_ _ _=>ma Gp)
end
end
end B
namespace L2
open PySem PySem.Spec PyProof.Rows
section
section
variable {X:Cx}
def wM(hu:X.A.in1.units<cLine):bU X (compareOp .In) (λx y H Q=>∃a ys p xs,x=.ref a/\bb X.K H a ys/\y=.ref p/\bb X.K H p xs/\xs.all bo=true/\Q (.bl false) H):=by
 intro pins s σ H x y v u Q I rx ry h
 obtain⟨a,ys,p,xs,rfl,ha,rfl,hq,fs,q⟩:=h
 cases rx;cases ry
 obtain⟨as,_,pa,_⟩:=I.tuple ha
 obtain⟨its,r,pl,hz⟩:=I.tuple hq
 have pa:s.heap.IsTuple a as.toArray:=pa
 have go:∀{xs:List V} {us:List Value},au xs us->xs.all bo=true->∀u∈us,SeqAt.EqAt X.A.in1 s u (.ref a) false:=λ{xs us} r=>by
  induction r with
  | nil=>exact λ_ u hu=>by cases hu
  | cons r1 r2 ih =>
   intro f
   rw [List.all_cons,z1b] at f
   intro u hu'
   rcases z1f.mp hu' with rfl|hu'
   ·rename_i x _ _
    have hf:=f.1
    cases x with
    | non=>cases r1;exact SeqAt.EqAt.none_tuple pa hu
    | bl b=>cases r1;exact SeqAt.EqAt.bool_tuple _ pa hu
    | int i=>obtain⟨t,rfl⟩:=r1;exact SeqAt.EqAt.int_tuple _ _ pa hu
    | str z=>obtain⟨t,rfl⟩:=r1;exact SeqAt.EqAt.str_tuple _ _ pa hu
    | _=>cases hf
   ·exact ih f.2 u hu'
 refine SeqAt.in_tupleAt (λ_=>false) (show s.heap.IsTuple p its.toArray from pl) (λw hw=>go r fs w (by simpa using hw)) ⟨.bl _,H,I,rfl,?_⟩
 rw [show its.toArray.any (λ_=>false)=false by simp]
 exact q
end
end
end L2
namespace B
open PySem PySem.Spec PyProof.Rows L2
section
section
variable {X:Cx}{K:W.Frag}{κ:Str->Addr}{ι:List Addr}{H:Hp}{σ:L2.St}
abbrev pE:List Ev->Mo Ev:=λes Z G=>match es with
 | [.v (.im (.tup _)),.v (.im (.tup xs))]=>if xs.all bL then some (.v (.im (.bl false)),Z,G) else none
 | _=>none
abbrev Gr:List Ev->Mo Ev:=bS (iu false) pE
def wN{vs:List V}{xs:List I}(r:y4f K ι H vs xs)(h:xs.all bL=true):vs.all bo=true:=by
 induction xs generalizing vs with
 | nil=>cases r;rfl
 | cons x xs ih =>
  cases r with
  | cons r1 r2 =>
   rw [List.all_cons,z1b] at h
   rw [List.all_cons,eG r1 h.1,ih r2 h.2];rfl
def Gu:aE K κ (r2 λx y H Q=>∃a ys p xs,x=.ref a/\bb K H a ys/\y=.ref p/\bb K H p xs/\xs.all bo=true/\Q (.bl false) H) pE:=by
 intro ι H σ Z G es vs e Z' G' Q a h k
 unfold pE at h
 split at h
 ·rename_i ys xs
  split at h
  ·rename_i hf
   cases h
   obtain⟨v,u,rfl⟩:=bI a.len
   have r1:=a.im (j:=0) rfl rfl
   have r2:=a.im (j:=1) rfl rfl
   cases r1 with
   | tup h1 h2=>cases r2 with
    | tup g1 g2=>exact⟨_,_,rfl,_,_,_,_,rfl,bb.of h1,rfl,bb.of g1,wN g2 hf,k _ _ _ (aT a (.bl _))⟩
  ·cases h
 ·cases h
end
section
variable {X:Cx}{κ:Str->Addr}{a b o v:Expr}{c f:Str}{fa fb:Mo Ev}{apos yd5 tpos pos:Pos}{k:Nat}
def Ks(hr:y4e k X.A)(ha:LE X κ a fa)(hb:LE X κ b fb)(hm:‹behindInMarks .In b=false›):LT X κ (.Compare a [.In] [b] pos) (ao (ai Gr fa fb)):=.mk (fu (lP (gR kX ha.pe hb.pe hm) (gR (wM (by have:=iP hr;show X.A.units+1<cLine;lia)) ha.pe hb.pe hm)) λ_ _ _ h=>jS l7 Gu (g7 h))
end
end
end B
namespace L2
open PySem PySem.Spec PyProof.Rows
section
def ya9{X:Cx}:y6 X (.type "int") (λxs H Q=>∃x n,xs=[.str x]/\PySem.intText? x=some n/\x.length≤640/\Q (.int n) H):=by
 intro pins s σ H xs us Q I r h
 obtain⟨x,n,rfl,hn,hl,q⟩:=h
 obtain⟨u,rfl,t,rfl⟩:=cc r
 exact W.KIN.call_text hn hl ⟨.int n,H,I.tok _,⟨_,rfl⟩,q⟩
end
end L2
namespace B
open PySem PySem.Spec PyProof.Rows L2
section
theorem mi{α β:Type}{F:α->β->Prop}:∀{a:List α} {b:List β} {i:Nat} {y:β},Paired F a b->b[i]?=some y->∃x,a[i]?=some x/\F x y
 | _,_,_,_,.nil,e=>by simp at e
 | _,_,0,_,.cons h _,e=>by simp at e;subst e;exact⟨_,rfl,h⟩
 | _,_,i+1,y,.cons _ r,e=>by
  obtain⟨x,h1,h2⟩:=mi r (by simpa using e)
  exact⟨x,by simpa using h1,h2⟩
section
variable {K:W.Frag}{κ:Str->Addr}{ι:List Addr}{H:Hp}{D:Ends}{σ:L2.St}
abbrev gn:List Ev->Mo Ev:=λes Z G=>match es with
 | [.v (.im (.str x))]=>match PySem.intText? x with
  | some n=>if x.length≤640 then some (.v (.im (.int n)),Z,G) else none
  | none=>none
 | _=>none
def Gv:aE K κ (λxs H Q=>∃x n,xs=[.str x]/\PySem.intText? x=some n/\x.length≤640/\Q (.int n) H) gn:=by
 intro ι H σ Z G es vs e Z' G' Q a h k
 unfold gn at h
 split at h
 ·rename_i x
  split at h
  ·rename_i n hn
   split at h
   ·rename_i hl
    obtain⟨v,rfl⟩:=bQ a.len
    cases bK (a.im (j:=0) rfl rfl)
    exact⟨x,n,rfl,hn,hl,k _ _ _ (bJ h (aT a (.int _)))⟩
   ·cases h
  ·cases h
 ·cases h
abbrev pF:List Ev->Mo Ev:=λes Z G=>match es with
 | [.v (.im (.tup _)),.v (.im (.con xs))]=>if xs.all bL then some (.v (.im (.bl false)),Z,G) else none
 | _=>none
abbrev gp:List Ev->Mo Ev:=bS (iu false) pF
def Gw:aE K κ (r2 λx y H Q=>∃a ys p xs,x=.ref a/\bb K H a ys/\y=.ref p/\bb K H p xs/\xs.all bo=true/\Q (.bl false) H) pF:=by
 intro ι H σ Z G es vs e Z' G' Q a h k
 unfold pF at h
 split at h
 ·rename_i ys xs
  split at h
  ·rename_i hf
   cases h
   obtain⟨v,u,rfl⟩:=bI a.len
   have r1:=a.im (j:=0) rfl rfl
   have r2:=a.im (j:=1) rfl rfl
   cases r1 with
   | tup h1 h2=>cases r2 with
    | con g1 g2=>exact⟨_,_,rfl,_,_,_,_,rfl,bb.of h1,rfl,bb.kon g1,wN g2 hf,k _ _ _ (aT a (.bl _))⟩
  ·cases h
 ·cases h
abbrev i0(w i j:Nat):SF:=λZ G=>match (Z[w]?:Option (Option Vl)),(Z[i]?:Option (Option Vl)),(Z[j]?:Option (Option Vl)) with
 | some (some (.ow (.lst xs))),some (some (.im (.int a))),some (some (.im (.int b)))=>match er xs.length a,er xs.length b with
  | some ia,some ib=>match xs[ia]?,xs[ib]? with
   | some da,some db=>some (.nx (Z.set w (some (.ow (.lst ((xs.set ia db).set ib da))))) G)
   | _,_=>none
  | _,_=>none
 | _,_,_=>none
def y7e{α:Type}{xs:List α}{a:Int}{j:Nat}{v:α}(h:er xs.length a=some j)(hv:xs[j]?=some v):cC xs a=some v:=by
 unfold cC;rw [h];exact hv
def Gx{w i j:Nat}(h:cT K κ (i0 w i j) D σ H):fQ (kP (cS (ko (sX K) (cR w) (cR j)) (cS (ko (sX K) (cR w) (cR i)) gT))) (rJ K 2 (nN (kK (cR w) (cR i) kW) (nN (kK (cR w) (cR j) kW) rG))) D σ H:=by
 obtain⟨ι,Z,G,fl,s,eq,k⟩:=h
 unfold i0 at eq
 split at eq
 ·rename_i xs a b e1 e2 e3
  split at eq
  ·rename_i ia ib h1 h2
   split at eq
   ·rename_i da db h3 h4
    cases eq
    obtain⟨xw,w1,w2⟩:=mi s.sl e1
    obtain⟨xi,i1,i2⟩:=mi s.sl e2
    obtain⟨xj,j1,j2⟩:=mi s.sl e3
    cases i2 with
    | im i2 =>
    cases j2 with
    | im j2 =>
    cases cG i2
    cases cG j2
    cases w2 with
    | @ow c m hm =>
    obtain⟨vs,hc,r⟩:=hm
    have l:=r.len
    obtain⟨va,a1,r1⟩:=r.at (y7e h1 h3)
    obtain⟨vb,a2,r2⟩:=r.at (y7e h2 h4)
    refine⟨_,w1,_,j1,.inl ⟨_,_,_,vb,rfl,rfl,bw.of hc,a2,?_⟩⟩
    refine⟨_,w1,_,i1,.inl ⟨_,_,_,va,rfl,rfl,bw.of hc,a1,?_⟩⟩
    refine⟨(show (2:Nat)≤sizeLine by decide),λp hp=>?_⟩
    have sm:dA H (aH H p (.tup [vb,va])):=dA.lay hp
    have hc1:aH H p (.tup [vb,va]) c=some (.lst vs):=sm _ _ hc
    refine⟨p,[vb,va],rfl,bb.of bg,rfl,vb,[va],rfl,_,w1,_,i1,c,vs,a,ia,rfl,rfl,hc1,by rw [l];exact h1,va,[],rfl,_,w1,_,j1,c,vs.set ia vb,b,ib,rfl,rfl,bg,by rw [z29,l];exact h2,rfl,?_⟩
    rw [qY]
    have s1:=s.same sm
    have ar:Args K κ ι (aH H p (.tup [vb,va])) σ Z G [.s w] [.ref c]:=⟨s.len,by show SR K κ ι _ (σ++[]) (Z++[]) G;rw [z11,z11];exact s1,.cons (λi h=>by cases h;exact w1) .nil⟩
    have f:=lI (m:=.lst xs) (m':=.lst ((xs.set ia db).set ib da)) (b:=c) (o:=.lst ((vs.set ia vb).set ib va)) ar (j:=0) rfl rfl (by unfold B.pk;dsimp only;rw [e1]) (λ_ kp=>⟨_,bg,(((r.mono (bW.refl _) (Kp.same sm)).set ia (r2.mono (bW.refl _) (Kp.same sm))).set ib (r1.mono (bW.refl _) (Kp.same sm))).mono (bW.refl _) kp⟩) RpI.non
    obtain⟨z1,z2⟩:=f.drop
    refine k _ _ _ z1 ((Step.same sm).trans (z2.wide λy hy=>?_))
    have hy:y∈own (σ++[]) (Z++[])++ι:=hy
    rw [z11,z11] at hy
    exact hy
   ·cases eq
  ·cases eq
 ·cases eq
end
section
variable {X:Cx}{κ:Str->Addr}{a b e:Expr}{es:List Expr}{fa fb:Mo Ev}{fs:Mo (List Ev)}{p pos:Pos}{k:Nat}{f:SF}{g:GF}{ss:List Stmt}{tg:Expr}
def Gy(hr:y4e k X.A)(hm:X.mg "int" = none)(ha:LA X κ (e::es) fs)(hg:‹Gl X "int"›)(he:‹fN X e es›)(hpl:‹eY X pos es›):LE X κ (.Call (.Name "int" p) (e::es) [] pos) (bd fs gn):=.mk (aX (n5 ya9 hg hm PyProof.Rows.boot_int ha.pe (by decide) (by decide) he hpl) λ_ _ _ q=>dQ Gv q)
def wO(hr:y4e k X.A)(ha:LE X κ a fa)(hb:LE X κ b fb)(hm:‹behindInMarks .In b=false›):LT X κ (.Compare a [.In] [b] pos) (ao (ai gp fa fb)):=.mk (fu (lP (gR kX ha.pe hb.pe hm) (gR (wM (by have:=iP hr;show X.A.units+1<cLine;lia)) ha.pe hb.pe hm)) λ_ _ _ h=>jS l7 Gw (g7 h))
def wQ{w i j:Nat}{xw xi xj:Str}{p1 p2 p3 p4 p5 p6 p7 p8 p9 pA pB pC pD:Pos}{kt k2:Nat}(h1:‹X.N[w]?=some xw›)(h2:‹X.N[i]?=some xi›)(h3:‹X.N[j]?=some xj›)(n1:(xw == ("__debug__" : Str))=false:=by decide)(n2:(xi == ("__debug__" : Str))=false:=by decide)(n3:(xj == ("__debug__" : Str))=false:=by decide)(m1:(xw == ("__classdict__" : Str))=false:=by decide)(m2:(xi == ("__classdict__" : Str))=false:=by decide)(m3:(xj == ("__classdict__" : Str))=false:=by decide)
  (v1:‹X.env.scope.names.lookup xw=some .local›) (v2:‹X.env.scope.names.lookup xi=some .local›) (v3:‹X.env.scope.names.lookup xj=some .local›) (hc:‹X.calm=true›)
  (hs:‹swapsWithSole [.Tuple [.Subscript (.Name xw p1) (.Name xi p2) p3,.Subscript (.Name xw p4) (.Name xj p5) p6] kt p7] (.Tuple [.Subscript (.Name xw p8) (.Name xj p9) pA,.Subscript (.Name xw pB) (.Name xi pC) pD] k2 p) pos.line X.env=pure false›)
  (hw:‹swappedStores [.Tuple [.Subscript (.Name xw p1) (.Name xi p2) p3,.Subscript (.Name xw p4) (.Name xj p5) p6] kt p7] (.Tuple [.Subscript (.Name xw p8) (.Name xj p9) pA,.Subscript (.Name xw pB) (.Name xi pC) pD] k2 p) X.env=pure none›) :
  LS X κ (.Assign [.Tuple [.Subscript (.Name xw p1) (.Name xi p2) p3,.Subscript (.Name xw p4) (.Name xj p5) p6] kt p7] (.Tuple [.Subscript (.Name xw p8) (.Name xj p9) pA,.Subscript (.Name xw pB) (.Name xi pC) pD] k2 p) pos) (i0 w i j) :=
 .mk (cU (iE (ju (bV (og oh (eD h1 (.inl v1) n1 m1) (eD h3 (.inl v3) n3 m3) (λ_ _=>rfl)) (bV (og oh (eD h1 (.inl v1) n1 m1) (eD h2 (.inl v2) n2 m2) (λ_ _=>rfl)) dM)))
  (Bt hc (rH (nP (eD h1 (.inl v1) n1 m1) (eD h2 (.inl v2) n2 m2) dN) (rH (nP (eD h1 (.inl v1) n1 m1) (eD h3 (.inl v3) n3 m3) dN) Bs))) hs hw) λ_ _ _=>Gx)
def wR(h:LK X κ a fa)(hg:LG X κ tg g)(hr:fY X κ ss f)(hs:‹swapsWithSole [tg] a pos.line X.env=pure false›)(hw:‹swappedStores [tg] a X.env=pure none›)
  (h1:‹(assignEach [tg] X.env).map (·.2)=[assign tg X.env]›):qM X κ (.Assign [tg] a pos::ss) (ak (aN fa g) f):=by
 unfold qM
 intro pins s σ H D hn I q
 have q1:=oH (ug q)
 refine wpAny_execs_cons (wpAny_Assign_stores (aO (h.pe pins s σ H _ hn I q1) λv s1 ⟨x,H1,I1,r1,q2⟩=>?_) hs hw)
 rw [h1]
 refine aO (hg.pe pins s1 σ H1 x v _ I1 r1 q2) λ_ s2 q3=>?_
 obtain⟨σ',H',I',q4⟩:=q3
 exact hr.pe pins s2 σ' H' D I' q4
end
end
end B
namespace PySem
section
variable {prog:Program}{w:World}{A:Around}{E:Value->Shared->Prop}{h:Heap}{g:Array GenState}{d:Drawn}{t:Nat}{os:OsState}
variable {nm q:Str}{C N:Addr}{bs bm bmB:List Value}{y1b0:Bool}{sn:List Str}{sub:List Value}{ab:Bool}{col:Option Bool}{dd:Option Addr}{k0 k1 k2 k3 k5:Option Value}{B Bn newId nid y1cc inN:String}{bmN:List Value}
abbrev gq(h:Heap)(C:Addr)(aA:List Value):Heap:=(h.push { cls:=.type "tuple",data:=.seq aA.toArray }).push { cls:=.ref C,data:=.fields #[.ref h.objs.size,.none,.none,.none,.bool false,.none] }
def Gz{name:Str}{mN:Str->Option Value}{v:Value}{Q:Option Value->Shared->Prop}(hC:h.get? C=some (excClassObj nm q C N bs bm y1b0 sn sub ab col dd k0 k1 k2 k3 k5 newId))(hn:h.Ns N mN)(hv:mN name=some v)
  (hq:Q (some v) ⟨h,g,d,t,os⟩):wpAny (model prog w) A (typeLookup (.ref C) name) Q E ⟨h,g,d,t,os⟩:=by
 rw [typeLookup_eq]
 refine za (wpAny_mroOf_exc hC ?_)
 rw [lookupAlong_cons]
 refine za (wpAny_classOwn_exc hC hn ?_)
 rw [hv]
 exact zf hq
def GA(Fn:ExcBaseFacts Bn newId inN bmN)(hBn:bmB.contains (.type Bn)=true)(F:ExcBaseFacts B nid y1cc bmB)(T:OwnTail h bmB bm){mN:Str->Option Value}{f:Addr}{aA:List Value}{Q:Fin->Shared->Prop}
  (hC:h.get? C=some (excClassObj nm q C N bs bm y1b0 sn sub ab col dd k0 k1 k2 k3 k5 newId)) (hn:h.Ns N mN) (hni:mN "__init__" = some (.ref f)) (hf:∃o,h.get? f=some o/\o.cls=.type "function")
  (hq:codeAny (model prog w) A (.call (.ref f) ⟨.ref (h.objs.size+1)::aA,[]⟩) (λr s'=>match r with | .ok (.ret v)=>v=.none/\Q (.done (.ret (.ref (h.objs.size+1)))) s' | .error e=>E e s'|_=>False) ⟨gq h C aA,g,d,t,os⟩) (hrest:aA.length≤sizeLine:=by size_fits) :
  wpAny (model prog w) A (Builtin.«type.__call__» ⟨.ref C::aA,[]⟩) Q E ⟨h,g,d,t,os⟩:=by
 repeat (first|with_reducible refine wpAny_loadPart_at hC ?_|with_reducible refine wpAny_madeBy_exc hC ?_|wp_step)
 refine codeAny_call_builtin_code (Code.quiet_builtin _ Fn.quiet) (wpAny_check_new_subU Fn hBn T hC ?_)
 refine codeAny_exc_new_subU Fn hBn F T hC ?_ hrest
 show wpAny _ _ _ _ _ _
 have hC₁:=zc { cls:=.ref C,data:=.fields #[.ref h.objs.size,.none,.none,.none,.bool false,.none] }
  (zc { cls:=.type "tuple",data:=.seq aA.toArray } hC)
 have hn₁:((h.push { cls:=.type "tuple",data:=.seq aA.toArray }).push { cls:=.ref C,data:=.fields #[.ref h.objs.size,.none,.none,.none,.bool false,.none] }).Ns N mN :=
  let ⟨o,es,ep,e,r⟩:=hn;⟨o,es,ep,zc _ (zc _ e),r⟩
 have hget:((h.push { cls:=.type "tuple",data:=.seq aA.toArray }).push
   { cls:=.ref C,data:=.fields #[.ref h.objs.size,.none,.none,.none,.bool false,.none] }).get? (h.objs.size+1)=some
   { cls:=.ref C,data:=.fields #[.ref h.objs.size,.none,.none,.none,.bool false,.none] }:=by heap_get
 have hcC:(Value.ref C::bm).contains (.ref C)=true:=by simp
 obtain⟨of,hof,hcf⟩:=hf
 unfold isInstance
 repeat (first|with_reducible refine wpAny_loadPart_at hget ?_|(with_reducible refine wpAny_isSubtype_exc hC₁ ?_;rw [hcC])|wp_step)
 show wpAny _ _ (typeLookup (.ref C) _) _ _ _
 refine Gz hC₁ hn₁ hni ?_
 have hof₁:(gq h C aA).get? f=some of:=zc _ (zc _ hof)
 refine wpAny_holding (za (wpAny_bindSpecial_def (s:=⟨gq h C aA,g,d,t,os⟩) hof₁ hcf ?_))
 refine za (wpAny_call (codeAny_mono hq λr s' hr=>?_))
 cases r with
 | error e=>exact hr
 | ok fl =>
  cases fl with
  | ret v =>
   obtain⟨rfl,hr⟩:=hr
   refine zf ?_
   show wpAny _ _ (if (Value.none != Value.none)=true then _ else ret (Value.ref (h.objs.size+1))) _ _ _
   rw [if_neg (by decide)]
   exact zf hr
  | _=>exact hr.elim
def ya6(Fn:ExcBaseFacts Bn newId inN bmN)(hBn:bmB.contains (.type Bn)=true)(F:ExcBaseFacts B nid y1cc bmB)(T:OwnTail h bmB bm){mN:Str->Option Value}{f:Addr}{aA:List Value}{Q:Value->Shared->Prop}
  (hC:h.get? C=some (excClassObj nm q C N bs bm y1b0 sn sub ab col dd k0 k1 k2 k3 k5 newId)) (hn:h.Ns N mN) (hni:mN "__init__" = some (.ref f)) (hf:∃o,h.get? f=some o/\o.cls=.type "function")
  (hq:codeAny (model prog w) (A.under (.builtin "type.__call__" ⟨.ref C::aA,[]⟩)) (.call (.ref f) ⟨.ref (h.objs.size+1)::aA,[]⟩) (λr s'=>match r with | .ok (.ret v)=>v=.none/\Q (.ref (h.objs.size+1)) s' | .error e=>E e s'|_=>False) ⟨gq h C aA,g,d,t,os⟩) (hrest:aA.length≤sizeLine:=by size_fits) :
  wpAny (model prog w) A (call (.ref C) aA) Q E ⟨h,g,d,t,os⟩:=by
 have f1:=tc_lookup
 have f2:=tc_bind (.ref C)
 have hT:(⟨h,g,d,t,os⟩:Shared).TypeIs (.ref C) "type":=⟨_,hC,rfl⟩
 refine wpAny_call (codeAny_of_tree ?_)
 show wpAny _ _ (callAny (.ref C) _) _ _ _
 repeat (any_goals (first|assumption|with_reducible refine wpAny_loadPart_at hC ?_|wp_step))
 refine⟨rfl,?_⟩
 refine codeAny_call_builtin_at (Code.quiet_builtin _ (by decide +kernel)) entry_typeCall (wpAny_check_type_call_sub hC (GA (hrest:=hrest) Fn hBn F T hC hn hni hf ?_))
 exact hq
end
end PySem
namespace PySem
def pG(o:Obj)(f):(o.mapFields f).dict=o.dict:=by obtain⟨c,d,dt,sl⟩:=o;cases dt<;>rfl
abbrev bZ(e:Addr)(p:Addr->Prop)(fs:List Addr)(h h':Heap):Prop:=∀b o,h.get? b=some o->(b≠e/\¬ p b)->(∃sl,h'.get? b=some { o with slots:=sl })/\(b∉fs->h'.get? b=some o)
def bZ.refl(e:Addr)(p:Addr->Prop)(fs:List Addr)(h:Heap):bZ e p fs h h:=λ_ o q _=>⟨⟨o.slots,q⟩,λ_=>q⟩
def bZ.trans{e:Addr}{p:Addr->Prop}{fs:List Addr}{h1 h2 h3:Heap}(x:bZ e p fs h1 h2)(y:bZ e p fs h2 h3):bZ e p fs h1 h3:=λb o q n =>
 let ⟨⟨_,q1⟩,r1⟩:=x b o q n
 let ⟨⟨sl,q2⟩,r2⟩:=y b _ q1 n
 ⟨⟨sl,q2⟩,λnf=>(y b o (r1 nf) n).2 nf⟩
def bZ.mono{e:Addr}{p:Addr->Prop}{fs fs':List Addr}{h h':Heap}(x:bZ e p fs h h')(k:∀b∈fs,b∈fs'):bZ e p fs' h h':=λb o q n=>let ⟨a,c⟩:=x b o q n;⟨a,λnf=>c λz=>nf (k b z)⟩
namespace Heap
abbrev y52(h base:Heap)(e:Addr)(cls a0:Value)(dct:Option Addr)(p:Addr->Prop):Prop :=
 ∃oe vs T oT ts,h.get? e=some oe/\(oe.cls=cls/\vs[0]?=some a0/\oe.dict=dct)/\oe.data=.fields vs/\vs[1]?=some (.ref T)/\(base.get? T=none/\p T)/\T≠e/\h.get? T=some oT/\(oT.cls=.type "traceback"/\oT.data=.fields ts)/\ts[3]?=some .none
abbrev y51(h base:Heap)(e:Addr)(cls a0:Value)(dct:Option Addr)(p:Addr->Prop)(fl:Value):Prop :=
 ∃oe vs T oT ts,h.get? e=some oe/\(oe.cls=cls/\vs[0]?=some a0/\oe.dict=dct)/\oe.data=.fields vs/\vs[1]?=some (.ref T)/\(base.get? T=none/\p T)/\T≠e/\h.get? T=some oT/\(oT.cls=.type "traceback"/\oT.data=.fields ts)/\ts[3]?=some fl
def y52.at{h base:Heap}{e:Addr}{cls a0:Value}{dct:Option Addr}{p:Addr->Prop}(x:h.y52 base e cls a0 dct p):h.y51 base e cls a0 dct p .none:=x
abbrev y49(base:Heap)(l:List Env)(e:Addr)(cls a0:Value)(dct:Option Addr)(p:Addr->Prop)(fl:Value)(h h':Heap):Prop :=
 base.StaysIn h'/\h'.FunFrames base l/\h'.y51 base e cls a0 dct p fl/\bZ e p (l.filterMap (·.frame)) h h'
end Heap
section
variable {M:Model}{A:Around}{E:Value->Shared->Prop}{s:Shared}
abbrev Heap.y47(base:Heap)(l:List Env)(e:Addr)(cls a0:Value)(dct:Option Addr)(p:Addr->Prop)(h h':Heap):Prop :=
 base.StaysIn h'/\h'.FunFrames base l/\h'.y52 base e cls a0 dct p /\
  bZ e p (l.filterMap (·.frame)) h h'
def wU{base:Heap}{env:Env}{outer:List Env}{L e:Addr}{oe:Obj}{vs:Array Value}{head a0:Value}{y1a6:Bool}{Q:Unit->Shared->Prop}{p:Addr->Prop}(hn:∀T,s.heap.objs.size≤T->p T)
  (hfr:A.frames=some (env::outer)) (hl:s.heap.FunFrames base (env::outer)) (hf:env.frame=some L)
  (he:s.heap.get? e=some oe) (hkb:base.StaysIn s.heap) (hen:base.get? e=none) (hd:oe.data=.fields vs) (hsz:1<vs.size) (h0:vs[0]?=some a0)
  (h:∀h',Heap.y47 base (env::outer) e oe.cls a0 oe.dict p s.heap h'->Q () { s with heap:=h' }) :
  wpAny M A (do let a <- frameOf env;let pl <- entryPlaceOf L y1a6;let b <- EntryCells.newEntry head a .none (rawInt L) .none pl;setField (.ref e) 1 b) (λ_ s'=>wpAny M A (setFlight (.ref e) none) Q E s') E s:=by
 have hene:e∉(env::outer).filterMap (·.frame):=λhm=>by
  obtain⟨_,o,ho,hnf⟩:=hl.mem hm
  rw [he] at ho;injection ho with ho;subst ho;exact hnf vs hd
 refine za (wpAny_frameOf_fun hfr hl hf λh₁ hs₁=>?_)
 refine za (wpAny_entryPlaceOf λpl hpl=>?_)
 unfold EntryCells.newEntry newFields
 refine za (z2a ?_ (hpl.sizeOk5 _ _ _ _ _))
 have he₁:h₁.get? e=some oe:=(hs₁.2.1 e hene).trans he
 have kb₁:base.StaysIn h₁:=λb o hbo=>(hs₁.2.1 b λhm=>by rw [(hl.mem hm).1] at hbo;cases hbo).trans (hkb b o hbo)
 have he₂:=zc (h:=h₁) { cls:=.type "traceback",dict:=none,data:=.fields ([head,.ref L,.none,rawInt L,.none]++(if pl.isEmpty then List.replicate 6 Value.none else pl)).toArray } he₁
 refine wpAny_setField he₂ hd hsz ?_
 have hTe:h₁.objs.size≠e:=Nat.ne_of_gt (z14 he₁)
 have hd₃:=Obj.data_mapFields hd (·.setIfInBounds 1 (Value.ref h₁.objs.size))
 have he₃:=Heap.get?_update_self (Obj.mapFields (·.setIfInBounds 1 (Value.ref h₁.objs.size))) he₂ (Obj.isFreed_of_fields hd₃)
 have hT₃:=(Heap.get?_update_other (h₁.push { cls:=.type "traceback",dict:=none,data:=.fields ([head,.ref L,.none,rawInt L,.none]++(if pl.isEmpty then List.replicate 6 Value.none else pl)).toArray })
  (Obj.mapFields (·.setIfInBounds 1 (Value.ref h₁.objs.size))) (Ne.symm hTe)).trans (z21 h₁ rfl)
 unfold setFlight
 refine za (wpAny_field he₃ hd₃ (x:=.ref h₁.objs.size) (by simp [hsz]) ?_)
 rw [if_pos (show (Value.ref h₁.objs.size != Value.none)=true from by simp)]
 refine wpAny_setField hT₃ rfl (by simp only [ze,zd,z15,List.length_nil]<;>lia) (h _ ?_)
 have keep:∀b o,b≠e->h₁.get? b=some o ->
   (((h₁.push { cls:=.type "traceback",dict:=none,data:=.fields ([head,.ref L,.none,rawInt L,.none]++(if pl.isEmpty then List.replicate 6 Value.none else pl)).toArray }).update e (Obj.mapFields (·.setIfInBounds 1 (Value.ref h₁.objs.size)))).update h₁.objs.size
    (Obj.mapFields (·.setIfInBounds 3 ((none:Option Addr).elim Value.none λf=>rawInt f)))).get? b=some o:=λb o hbe hb=>by
  have hbT:h₁.objs.size≠b:=Nat.ne_of_gt (z14 hb)
  rw [Heap.get?_update_other _ _ hbT,Heap.get?_update_other _ _ (Ne.symm hbe)]
  exact zc _ hb
 have y28b:∀b o,s.heap.get? b=some o->(∀vs,o.data≠.fields vs)->b≠e:=λb o hb hnf q=>by
  rw [q,he] at hb;injection hb with hb;subst hb;exact hnf vs hd
 refine⟨λb o hbo=>keep b o (λq=>by rw [q,hen] at hbo;cases hbo) (kb₁ b o hbo),hl.of_keeps λb o hb hnf=>?_,?_,λb o hb hnf=>?_⟩
 ·obtain⟨sl,hs⟩:=hs₁.2.2 b o hb
  exact⟨_,keep b _ (y28b b o hb hnf) hs,rfl⟩
 ·refine⟨_,_,h₁.objs.size,_,_,?_,⟨Obj.cls_mapFields _ _,by rw [Array.getElem?_setIfInBounds_ne (by decide)];exact h0,pG _ _⟩,hd₃,by simp [hsz],⟨kb₁.fresh,hn _ (by rw [hs₁.1];exact z10 _)⟩,hTe,Heap.get?_update_self _ hT₃ (Obj.isFreed_of_fields (Obj.data_mapFields rfl _)),⟨Obj.cls_mapFields _ _,Obj.data_mapFields rfl _⟩,by first|(simp;done)|(rcases hpl with rfl|⟨_,_,_,_,_,_,_,rfl⟩<;>simp)⟩
  rw [Heap.get?_update_other _ _ hTe];exact he₃
 ·obtain⟨sl,hs⟩:=hs₁.2.2 b o hb
  exact⟨⟨sl,keep b _ hnf.1 hs⟩,λnf=>keep b _ hnf.1 ((hs₁.2.1 b nf).trans hb)⟩
def GB{base:Heap}{env:Env}{outer:List Env}{L e:Addr}{oe:Obj}{vs:Array Value}{a0:Value}{Q:Unit->Shared->Prop}{p:Addr->Prop}(hn:∀T,s.heap.objs.size≤T->p T)
  (hfr:A.frames=some (env::outer)) (hl:s.heap.FunFrames base (env::outer)) (hf:env.frame=some L)
  (he:s.heap.get? e=some oe) (hkb:base.StaysIn s.heap) (hen:base.get? e=none) (hd:oe.data=.fields vs) (h1:vs[1]?=some .none) (h0:vs[0]?=some a0)
  (h:∀h',Heap.y47 base (env::outer) e oe.cls a0 oe.dict p s.heap h'->Q () { s with heap:=h' }):wpAny M A (leaving env (.ref e)) Q E s:=by
 unfold leaving noteFrame
 simp only [hf]
 refine za (za (wpAny_field he hd h1 ?_))
 rw [if_neg (by decide)]
 exact wU hn hfr hl hf he hkb hen hd (Array.getElem?_eq_some_iff.mp h1).1 h0 h
def GC{base:Heap}{env:Env}{outer:List Env}{L e:Addr}{cls a0:Value}{dct:Option Addr}{p:Addr->Prop}{Q:Unit->Shared->Prop}(hn:∀T,s.heap.objs.size≤T->p T)
  (hfr:A.frames=some (env::outer)) (hl:s.heap.FunFrames base (env::outer)) (hf:env.frame=some L) (ht:s.heap.y52 base e cls a0 dct p) (hkb:base.StaysIn s.heap) (hen:base.get? e=none)
  (h:∀h',Heap.y47 base (env::outer) e cls a0 dct p s.heap h'->Q () { s with heap:=h' }):wpAny M A (leaving env (.ref e)) Q E s:=by
 obtain⟨oe,vs,T,oT,ts,he,⟨y1ae,h0,hdc⟩,hd,h1,⟨hnT,hnn⟩,hTe,hT,⟨hcT,hdT⟩,h3⟩:=ht
 subst y1ae;subst hdc
 unfold leaving noteFrame
 simp only [hf]
 refine za (za (wpAny_field he hd h1 ?_))
 rw [if_pos (show (Value.ref T != Value.none)=true from by simp)]
 refine za (wpAny_field hT hdT h3 ?_)
 rw [if_neg (show ¬ ((Value.none == rawInt L)=true) from by simp [rawInt])]
 refine za (wpAny_setField hT hdT (Array.getElem?_eq_some_iff.mp h3).1 ?_)
 have other:∀b,b≠T->(s.heap.update T (Obj.mapFields (·.setIfInBounds 3 Value.none))).get? b=s.heap.get? b:=λb hb=>Heap.get?_update_other _ _ (Ne.symm hb)
 have y28b:∀b o,s.heap.get? b=some o->(∀vs,o.data≠.fields vs)->b≠T:=λb o hb hnf q=>by
  rw [q,hT] at hb;injection hb with hb;subst hb;exact hnf ts hdT
 refine wU (p:=p) (λT z=>hn T (z1a (Nat.le_of_eq (Heap.size_update _ _ _).symm) z)) hfr (hl.of_keeps λb o hb hnf=>⟨o,(other b (y28b b o hb hnf)).trans hb,rfl⟩) hf ((other e (Ne.symm hTe)).trans he)
  (λb o hbo=>(other b λq=>by rw [q,hnT] at hbo;cases hbo).trans (hkb b o hbo)) hen hd (Array.getElem?_eq_some_iff.mp h1).1 h0
  λh' ⟨x1,x2,x3,x4⟩=>h h' ⟨x1,x2,x3,λb o hb hnf=>x4 b o ((other b (λq=>by rw [q,hT] at hb;cases hb;exact hnf.2 (by rw [q];exact hnn))).trans hb) hnf⟩
abbrev Heap.y3e(base:Heap)(l:List Env)(e:Addr)(cls a0:Value)(dct:Option Addr)(p:Addr->Prop)(h:Heap):Prop :=
 base.StaysIn h/\base.get? e=none/\h.FunFrames base l/\h.y52 base e cls a0 dct p
def GD{base:Heap}{env:Env}{outer:List Env}{L e:Addr}{cls a0:Value}{dct:Option Addr}{p:Addr->Prop}{Q:Unit->Shared->Prop}(hn:∀T,s.heap.objs.size≤T->p T)
  (hfr:A.frames=some (env::outer)) (hf:env.frame=some L) (hfl:Heap.y3e base (env::outer) e cls a0 dct p s.heap)
  (hQ:∀h',Heap.y3e base outer e cls a0 dct p h'->bZ e p ((env::outer).filterMap (·.frame)) s.heap h'->Q () { s with heap:=h' }):wpAny M A (leaving env (.ref e)) Q E s:=by
 obtain⟨f1,f2,f3,f4⟩:=hfl
 refine GC hn hfr f3 hf f4 f1 f2 λh' hL=>?_
 obtain⟨k1,⟨_,_,k2⟩,k3,k4⟩:=hL
 exact hQ h' ⟨k1,f2,k2,k3⟩ k4
def GG{base:Heap}{env:Env}{outer:List Env}{L e:Addr}{oe:Obj}{vs:Array Value}{head a0:Value}{y1a6:Bool}{Q:Unit->Shared->Prop}{p:Addr->Prop}(hn:∀T,s.heap.objs.size≤T->p T)
  (hfr:A.frames=some (env::outer)) (hl:s.heap.FunFrames base (env::outer)) (hf:env.frame=some L)
  (he:s.heap.get? e=some oe) (hkb:base.StaysIn s.heap) (hen:base.get? e=none) (hd:oe.data=.fields vs) (hsz:1<vs.size) (h0:vs[0]?=some a0)
  (h:∀h',Heap.y49 base (env::outer) e oe.cls a0 oe.dict p (rawInt L) s.heap h'->Q () { s with heap:=h' }) :
  wpAny M A (do let a <- frameOf env;let pl <- entryPlaceOf L y1a6;let b <- EntryCells.newEntry head a .none (rawInt L) .none pl;setField (.ref e) 1 b) Q E s:=by
 have hene:e∉(env::outer).filterMap (·.frame):=λhm=>by
  obtain⟨_,o,ho,hnf⟩:=hl.mem hm
  rw [he] at ho;injection ho with ho;subst ho;exact hnf vs hd
 refine za (wpAny_frameOf_fun hfr hl hf λh₁ hs₁=>?_)
 refine za (wpAny_entryPlaceOf λpl hpl=>?_)
 unfold EntryCells.newEntry newFields
 refine za (z2a ?_ (hpl.sizeOk5 _ _ _ _ _))
 have he₁:h₁.get? e=some oe:=(hs₁.2.1 e hene).trans he
 have kb₁:base.StaysIn h₁:=λb o hbo=>(hs₁.2.1 b λhm=>by rw [(hl.mem hm).1] at hbo;cases hbo).trans (hkb b o hbo)
 have he₂:=zc (h:=h₁) { cls:=.type "traceback",dict:=none,data:=.fields ([head,.ref L,.none,rawInt L,.none]++(if pl.isEmpty then List.replicate 6 Value.none else pl)).toArray } he₁
 refine wpAny_setField he₂ hd hsz (h _ ?_)
 have hTe:h₁.objs.size≠e:=Nat.ne_of_gt (z14 he₁)
 have hd₃:=Obj.data_mapFields hd (·.setIfInBounds 1 (Value.ref h₁.objs.size))
 have he₃:=Heap.get?_update_self (Obj.mapFields (·.setIfInBounds 1 (Value.ref h₁.objs.size))) he₂ (Obj.isFreed_of_fields hd₃)
 have hT₃:=(Heap.get?_update_other (h₁.push { cls:=.type "traceback",dict:=none,data:=.fields ([head,.ref L,.none,rawInt L,.none]++(if pl.isEmpty then List.replicate 6 Value.none else pl)).toArray })
  (Obj.mapFields (·.setIfInBounds 1 (Value.ref h₁.objs.size))) (Ne.symm hTe)).trans (z21 h₁ rfl)
 have keep:∀b o,b≠e->h₁.get? b=some o ->
   ((h₁.push { cls:=.type "traceback",dict:=none,data:=.fields ([head,.ref L,.none,rawInt L,.none]++(if pl.isEmpty then List.replicate 6 Value.none else pl)).toArray }).update e (Obj.mapFields (·.setIfInBounds 1 (Value.ref h₁.objs.size)))).get? b=some o :=
  λb o hbe hb=>by
   rw [Heap.get?_update_other _ _ (Ne.symm hbe)]
   exact zc _ hb
 have y28b:∀b o,s.heap.get? b=some o->(∀vs,o.data≠.fields vs)->b≠e:=λb o hb hnf q=>by
  rw [q,he] at hb;injection hb with hb;subst hb;exact hnf vs hd
 refine⟨λb o hbo=>keep b o (λq=>by rw [q,hen] at hbo;cases hbo) (kb₁ b o hbo),hl.of_keeps λb o hb hnf=>?_,?_,λb o hb hnf=>?_⟩
 ·obtain⟨sl,hs⟩:=hs₁.2.2 b o hb
  exact⟨_,keep b _ (y28b b o hb hnf) hs,rfl⟩
 ·exact⟨_,_,h₁.objs.size,_,_,he₃,⟨Obj.cls_mapFields _ _,by rw [Array.getElem?_setIfInBounds_ne (by decide)];exact h0,pG _ _⟩,hd₃,by simp [hsz],⟨kb₁.fresh,hn _ (by rw [hs₁.1];exact z10 _)⟩,hTe,hT₃,⟨rfl,rfl⟩,by first|(simp;done)|(rcases hpl with rfl|⟨_,_,_,_,_,_,_,rfl⟩<;>simp)⟩
 ·obtain⟨sl,hs⟩:=hs₁.2.2 b o hb
  exact⟨⟨sl,keep b _ hnf.1 hs⟩,λnf=>keep b _ hnf.1 ((hs₁.2.1 b nf).trans hb)⟩
def GH{base:Heap}{env:Env}{outer:List Env}{L e:Addr}{cls a0:Value}{dct:Option Addr}{p:Addr->Prop}{Q:Unit->Shared->Prop}(hn:∀T,s.heap.objs.size≤T->p T)
  (hfr:A.frames=some (env::outer)) (hl:s.heap.FunFrames base (env::outer)) (hf:env.frame=some L) (ht:s.heap.y52 base e cls a0 dct p) (hkb:base.StaysIn s.heap) (hen:base.get? e=none)
  (h:∀h',Heap.y49 base (env::outer) e cls a0 dct p (rawInt L) s.heap h'->Q () { s with heap:=h' }):wpAny M A (noteFrame (.ref e) env) Q E s:=by
 obtain⟨oe,vs,T,oT,ts,he,⟨y1ae,h0,hdc⟩,hd,h1,⟨hnT,hnn⟩,hTe,hT,⟨hcT,hdT⟩,h3⟩:=ht
 subst y1ae;subst hdc
 unfold noteFrame
 simp only [hf]
 refine za (wpAny_field he hd h1 ?_)
 rw [if_pos (show (Value.ref T != Value.none)=true from by simp)]
 refine za (wpAny_field hT hdT h3 ?_)
 rw [if_neg (show ¬ ((Value.none == rawInt L)=true) from by simp [rawInt])]
 refine za (wpAny_setField hT hdT (Array.getElem?_eq_some_iff.mp h3).1 ?_)
 have other:∀b,b≠T->(s.heap.update T (Obj.mapFields (·.setIfInBounds 3 Value.none))).get? b=s.heap.get? b:=λb hb=>Heap.get?_update_other _ _ (Ne.symm hb)
 have y28b:∀b o,s.heap.get? b=some o->(∀vs,o.data≠.fields vs)->b≠T:=λb o hb hnf q=>by
  rw [q,hT] at hb;injection hb with hb;subst hb;exact hnf ts hdT
 refine GG (p:=p) (λT z=>hn T (z1a (Nat.le_of_eq (Heap.size_update _ _ _).symm) z)) hfr (hl.of_keeps λb o hb hnf=>⟨o,(other b (y28b b o hb hnf)).trans hb,rfl⟩) hf ((other e (Ne.symm hTe)).trans he)
  (λb o hbo=>(other b λq=>by rw [q,hnT] at hbo;cases hbo).trans (hkb b o hbo)) hen hd (Array.getElem?_eq_some_iff.mp h1).1 h0
  λh' ⟨x1,x2,x3,x4⟩=>h h' ⟨x1,x2,x3,λb o hb hnf=>x4 b o ((other b (λq=>by rw [q,hT] at hb;cases hb;exact hnf.2 (by rw [q];exact hnn))).trans hb) hnf⟩
def wV{base:Heap}{l:List Env}{e:Addr}{cls a0 fl:Value}{dct:Option Addr}{p:Addr->Prop}{Q:Unit->Shared->Prop}
  (hkb:base.StaysIn s.heap) (hl:s.heap.FunFrames base l) (ht:s.heap.y51 base e cls a0 dct p fl)
  (h:∀h',base.StaysIn h'->h'.FunFrames base l->h'.y52 base e cls a0 dct p->(∀b o,s.heap.get? b=some o->(b≠e/\¬ p b)->h'.get? b=some o)->Q () { s with heap:=h' }) :
  wpAny M A (setFlight (.ref e) none) Q E s:=by
 obtain⟨oe,vs,T,oT,ts,he,y1ae,hd,h1,⟨hnT,hnn⟩,hTe,hT,⟨hcT,hdT⟩,h3⟩:=ht
 have hsz3:3<ts.size:=(Array.getElem?_eq_some_iff.mp h3).1
 have other:∀b,b≠T->(s.heap.update T (Obj.mapFields (·.setIfInBounds 3 ((none:Option Addr).elim Value.none λf=>rawInt f)))).get? b=s.heap.get? b :=
  λb hb=>Heap.get?_update_other _ _ (Ne.symm hb)
 have y28b:∀b o,s.heap.get? b=some o->(∀vs,o.data≠.fields vs)->b≠T:=λb o hb hnf q=>by
  rw [q,hT] at hb;injection hb with hb;subst hb;exact hnf ts hdT
 unfold setFlight
 refine za (wpAny_field he hd h1 ?_)
 rw [if_pos (show (Value.ref T != Value.none)=true from by simp)]
 refine wpAny_setField hT hdT hsz3 (h _ (λb o hbo=>(other b λq=>by rw [q,hnT] at hbo;cases hbo).trans (hkb b o hbo))
  (hl.of_keeps λb o hb hnf=>⟨o,(other b (y28b b o hb hnf)).trans hb,rfl⟩) ?_ λb o hb hnf=>(other b (λq=>by rw [q,hT] at hb;cases hb;exact hnf.2 (by rw [q];exact hnn))).trans hb)
 exact⟨oe,vs,T,_,_,(other e (Ne.symm hTe)).trans he,y1ae,hd,h1,⟨hnT,hnn⟩,hTe,Heap.get?_update_self _ hT (Obj.isFreed_of_fields (Obj.data_mapFields hdT _)),⟨(Obj.cls_mapFields _ _).trans hcT,Obj.data_mapFields hdT _⟩,by simp [hsz3]⟩
abbrev Heap.y43(base:Heap)(l:List Env)(e:Addr)(cls a0:Value)(dct:Option Addr)(p:Addr->Prop)(L:Addr)(h:Heap):Prop :=
 base.StaysIn h/\base.get? e=none/\h.FunFrames base l/\h.y51 base e cls a0 dct p (rawInt L)
def GI{base:Heap}{env:Env}{outer:List Env}{L e:Addr}{cls a0:Value}{dct:Option Addr}{p:Addr->Prop}{Q:Unit->Shared->Prop}(hn:∀T,s.heap.objs.size≤T->p T)
  (hfr:A.frames=some (env::outer)) (hf:env.frame=some L) (hfl:Heap.y3e base (env::outer) e cls a0 dct p s.heap)
  (hQ:∀h',Heap.y43 base (env::outer) e cls a0 dct p L h'->bZ e p ((env::outer).filterMap (·.frame)) s.heap h'->Q () { s with heap:=h' }):wpAny M A (noteFrame (.ref e) env) Q E s:=by
 obtain⟨f1,f2,f3,f4⟩:=hfl
 refine GH hn hfr f3 hf f4 f1 f2 λh' hN=>?_
 obtain⟨k1,k2,k3,k4⟩:=hN
 exact hQ h' ⟨k1,f2,k2,k3⟩ k4
def GJ{base:Heap}{l:List Env}{e L:Addr}{cls a0:Value}{dct:Option Addr}{p:Addr->Prop}{Q:Unit->Shared->Prop}(hh:Heap.y43 base l e cls a0 dct p L s.heap)
  (hQ:∀h',Heap.y3e base l e cls a0 dct p h'->bZ e p [] s.heap h'->Q () { s with heap:=h' }):wpAny M A (setFlight (.ref e) none) Q E s:=by
 obtain⟨f1,f2,f3,f4⟩:=hh
 exact wV f1 f3 f4 λh' k1 k2 k3 k4=>hQ h' ⟨k1,f2,k2,k3⟩ λb o hb hn=>⟨⟨o.slots,k4 b o hb hn⟩,λ_=>k4 b o hb hn⟩
end
end PySem
namespace L2
open PySem PySem.Spec PyProof.Rows
section
abbrev iw(x C:Addr)(dct:Option Addr)(new:Bool):Heap->Prop:=λh=>∃o vs a0,h.get? x=some o/\o.cls=.ref C/\o.dict=dct/\o.data=.fields vs/\vs[0]?=some a0/\1<vs.size/\(new=true->vs[1]?=some .none)
noncomputable abbrev cE(x C:Addr)(dct:Option Addr)(new:Bool):HO:=.ext (iw x C dct new)
def mj{P:Program}{w:World}{H:Hp}{h:Heap}{x C:Addr}{dct:Option Addr}{new:Bool}(e:iw x C dct new h):c7 P w H h x (cE x C dct new):=by
 obtain⟨o,vs,a0,h1,h2⟩:=id e
 exact⟨e,⟨o,h1⟩,λa b ⟨o',vs',a0',q1,q2⟩ k=>⟨o',vs',a0',k _ q1,q2⟩⟩
structure y57(K:W.Frag)(C f:Addr)(B newId nid y1cc inN:String)(bmB bmN:List Value):Prop where
 fn:ExcBaseFacts B newId inN bmN
 hB:bmB.contains (.type B)=true
 fb:ExcBaseFacts B nid y1cc bmB
 cls:∀h:Heap,K.In h->∃nm q N bs bm y1b0 sn sub ab col dd k0 k1 k2 k3 k5 mN,h.get? C=some (excClassObj nm q C N bs bm y1b0 sn sub ab col dd k0 k1 k2 k3 k5 newId)/\h.Ns N mN/\mN "__init__" = some (.ref f)/\OwnTail h bmB bm
 fun_:∀h:Heap,K.In h->∃o,h.get? f=some o/\o.cls=.type "function"
section
variable {X:Cx}{CX:gU}{k:Nat}{f C:Addr}{fd:FuncData}{ps:List Str}{sp:Sp}{dvs:List V}{ds:List Value}{E:XK}{B newId nid y1cc inN:String}{bmB bmN:List Value}
def Inv.exNew{pins:List (Addr×Obj)}{σ:St}{H:Hp}{s:Shared}(I:Inv X pins σ H s)(us:List Value):Inv X pins σ (aH H (s.heap.objs.size+1) (cE (s.heap.objs.size+1) C none true)) { s with heap:=gq s.heap C us }:=by
 have:=I.laid (h':=gq s.heap C us) (a:=s.heap.objs.size+1) (o:=cE (s.heap.objs.size+1) C none true) (t':=s.toks) (λb u e=>zc _ (zc _ e)) (Nat.le_succ _)
  (mj ⟨_,_,_,(by unfold gq;heap_get:(gq s.heap C us).get? (s.heap.objs.size+1)=some { cls:=.ref C,data:=.fields #[.ref s.heap.objs.size,.none,.none,.none,.bool false,.none] }),rfl,rfl,rfl,rfl,by simp,λ_=>rfl⟩)
 exact this
def GK{pins:List (Addr×Obj)}{σ:St}{H:Hp}{s:Shared}{Q:VK}{us:List Value}{vs:List V}(M:y57 X.K C f B newId nid y1cc inN bmB bmN)(F:y3f X.prog X.w X.K X.mg X.base CX k f fd ps sp)(hr:y4e (k+1) X.A)(hb:cQ X.K fd ps ds)(hd:au dvs ds)
  (hx:bO CX X E) (I:Inv X pins σ H s) (r:au vs us) (hz:us.length≤sizeLine)
  (h:∀x,H x=none->sp (.ref x::(vs++dvs)) (aH H x (cE x C none true)) (λv H2=>v=.non/\Q (.ref x) H2) E) :
  wpAny (model X.prog X.w) X.A (call (.ref C) us) (EP X pins σ Q) X.xe s:=by
 have hq:=h (s.heap.objs.size+1) (I.hok.fresh (Nat.le_succ _))
 have I2:=Inv.exNew (C:=C) I us
 have r2:au (V.ref (s.heap.objs.size+1)::(vs++dvs)) (Value.ref (s.heap.objs.size+1)::(us++ds)):=.cons rfl (r.append hd)
 have hl:(Value.ref (s.heap.objs.size+1)::us++ds).length=ps.length:=by
  have e:=r2.length
  rw [F.len _ _ _ _ hq] at e
  exact e.symm
 obtain⟨nm,q,N,bs,bm,y1b0,sn,sub,ab,col,dd,k0,k1,k2,k3,k5,mN,hC,hn,hi,T⟩:=M.cls _ I.kIn
 have hc:=F.run _ X.stack _ _ ⟨Value.ref (s.heap.objs.size+1)::us,[]⟩ (Value.ref (s.heap.objs.size+1)::(us++ds)) _ _ E (hr.make C us [])
  (I2.env0.make C us []) (hb _ (Value.ref (s.heap.objs.size+1)::us) I2.kIn hl) r2 hq
 obtain⟨hh,g,d,t,os⟩:=s
 refine ya6 (hrest:=hz) M.fn M.hB M.fb T hC hn hi (M.fun_ _ I.kIn) (codeAny_mono hc λr s' hq'=>?_)
 cases r with
 | error e=>exact hx pins σ _ _ e s' I2 hq'
 | ok fl =>
  cases fl with
  | ret u =>
   obtain⟨v,H',I3,rv,ev,q3⟩:=I2.after hq'
   subst ev
   exact⟨rv,⟨V.ref (hh.objs.size+1),H',I3,rfl,q3⟩⟩
  | next=>exact False.elim hq'
  | brk=>exact False.elim hq'
  | cont=>exact False.elim hq'
end
end
end L2
namespace PySem
section
variable {prog:Program}{w:World}{A:Around}{E:Value->Shared->Prop}{h:Heap}{g:Array GenState}{d:Drawn}{t:Nat}{os:OsState}
variable {nm q:Str}{C N:Addr}{bs bm bmB:List Value}{y1b0:Bool}{sn:List Str}{sub:List Value}{ab:Bool}{col:Option Bool}{dd:Option Addr}{k0 k1 k2 k3 k5:Option Value}{B newId nid y1cc:String}
def GL(F:ExcBaseFacts B nid y1cc bmB)(T:OwnTail h bmB bm){x:Addr}{oe:Obj}{vs:Array Value}{aA:List Value}{Q:Value->Shared->Prop}
  (hC:h.get? C=some (excClassObj nm q C N bs bm y1b0 sn sub ab col dd k0 k1 k2 k3 k5 newId)) (he:h.get? x=some oe) (y1ae:oe.cls=.ref C) (hd:oe.data=.fields vs) (hz:0<vs.size) (hrest:aA.length≤sizeLine)
  (hq:Q .none ⟨(h.push { cls:=.type "tuple",data:=.seq aA.toArray }).update x (Obj.mapFields (·.setIfInBounds 0 (.ref h.objs.size))),g,d,t,os⟩) :
  wpAny (model prog w) A (call (.builtin y1cc) (.ref x::aA)) Q E ⟨h,g,d,t,os⟩:=by
 refine wpAny_call (codeAny_call_builtin F.init.plain F.initEntry (wpAny_check_init_subU F T hC he y1ae ?_))
 wp_walk
 rw [hd]
 refine zf ?_
 obtain⟨y,hy⟩:∃y,vs[0]?=some y:=⟨_,Array.getElem?_eq_getElem hz⟩
 rw [hy]
 refine zf ?_
 have he₁:(h.push { cls:=.type "tuple",data:=.seq aA.toArray }).get? x=some oe:=zc _ he
 refine za (wpAny_setField he₁ hd hz ?_)
 have key:wpAny (model prog w) A.in1 (match y with | .ref _=>letGo [y]|_=>pure ()) (λ_ s'=>s'=⟨(h.push { cls:=.type "tuple",data:=.seq aA.toArray }).update x (Obj.mapFields (·.setIfInBounds 0 (.ref h.objs.size))),g,d,t,os⟩) E ⟨(h.push { cls:=.type "tuple",data:=.seq aA.toArray }).update x (Obj.mapFields (·.setIfInBounds 0 (.ref h.objs.size))),g,d,t,os⟩:=by
  cases y<;>first|exact zf rfl|exact wpAny_letGo rfl
 refine wpAny_mono key (λ_ s' e=>?_) λ_ _ z=>z
 subst e
 exact zf hq
end
end PySem
namespace L2
open PySem PySem.Spec PyProof.Rows
section
abbrev pH(dx:Addr)(fs:List (Str×V)):Heap->Prop:=λh=>fs.length≤1000/\∃mA,h.Ns1 dx mA/\(∀f,ip (fs.lookup f) (mA f))/\PySem.Within mA (fs.map (·.1))
noncomputable abbrev hR(dx:Addr)(fs:List (Str×V)):HO:=.ext (pH dx fs)
def wW{P:Program}{w:World}{H:Hp}{h:Heap}{dx:Addr}{fs:List (Str×V)}(e:pH dx fs h):c7 P w H h dx (hR dx fs):=by
 obtain⟨_,_,⟨o,_,_,q,_⟩,_⟩:=id e
 exact⟨e,⟨o,q⟩,λa b ⟨l,mA,⟨o',es,ep,q1,q2⟩,r⟩ k=>⟨l,mA,⟨o',es,ep,k _ q1,q2⟩,r⟩⟩
structure XA(K:W.Frag)(C:Addr):Prop where
 ga:W.findIn K (.ref C) "__getattribute__" = some (some (.builtin "BaseException.__getattribute__"))
 gt:W.findIn K (.ref C) "__getattr__" = some none
 sa:W.findIn K (.ref C) "__setattr__" = some (some (.builtin "object.__setattr__"))
 cd:∃cd,W.clsIn K C=some cd/\cd.hasDict=true/\cd.mro.contains (.type "object")=true/\cd.mro.contains (.type "BaseException")=true/\∀self,refuseLoop self "__setattr__" cd.mro=pure ()
section
variable {prog:Program}{w:World}{A:Around}{E:Value->Shared->Prop}{s:Shared}{K:W.Frag}{x C:Addr}{name:Str}{v:Value}{ox:Obj}{od:Option Obj}
open PySem.W in
def GN{tk:Tok}{R:Result->Shared->Prop}(X:K.In s.heap)(I:InstAt s.heap x ox C od)(c:XA K C)(n:kO K C name)
  (h:wpAny (model prog w) A.in1 (Builtin.ObjectAttr.storeInOwnDict (.ref x) (.ref C) (.str name tk) name v false)
   (λfin s'=>match fin with | .done f=>R (.ok f) s' | .again c'=>c'.quiet=true/\codeAny (model prog w) A c' R s') (λe s'=>R (.error e) s') s) :
  codeAny (model prog w) A (.call (.builtin "object.__setattr__") ⟨[.ref x,.str name tk,v],[]⟩) R s:=by
 have SF:=PySem.F.store_object
 obtain⟨cd,hc,_,ho,_,hp⟩:=c.cd
 have ne:cd.mro.isEmpty=false:=by cases q:cd.mro with|nil=>rw [q] at ho;simp at ho|cons _ _=>rfl
 have sub:Looks (model prog w) s.heap (isInstance (.ref x) (.type "object")) true:=I.type.andThen (looks_mroIn X (by unfold mroIn;rw [hc,Option.bind_some,if_neg (by rw [ne];decide),ho]))
 refine codeAny_call_builtin SF.slot.plain SF.entry (@check_slot (model prog w) _ _ s "object.__setattr__" "object" "__setattr__" (.ref x) [.str name tk,v] [] _ SF.kind SF.split sub (SF.args (.ref x) (.str name tk) v) ?_)
 have hm:Looks (model prog w) s.heap (mroOf (.ref C)) cd.mro:=(looks_clsIn X hc).andThen .now
 rw [osa_eq,refuse_eq]
 refine za (za (I.type.here (za (hm.here ?_))))
 rw [hp]
 exact zf (za (I.type.here (za ((looks_findIn X n).here (za (zf h))))))
open PySem.W in
def wX{vs:Array Value}{Q:Unit->Shared->Prop}(X:K.In s.heap)(hx:s.heap.get? x=some ox)(hc:ox.cls=.ref C)(hd:ox.data=.fields vs)(hn:ox.dict=none)(c:XA K C)(n:kO K C name)
  (h:∀h',h'.Ns1 s.heap.objs.size (λy=>if y=name then some v else none)->h'.get? x=some { ox with dict:=some s.heap.objs.size } ->
   (∀b o,b≠x->s.heap.get? b=some o->h'.get? b=some o)->Q () { s with heap:=h',toks:=s.toks+2 }) :
  wpAny (model prog w) A (setAttr (.ref x) name v) Q E s:=by
 obtain⟨oc,odi,oda,osl⟩:=ox
 dsimp only at hc hd hn
 subst hc hd hn
 have I:InstAt s.heap x ⟨.ref C,none,.fields vs,osl⟩ C none:=⟨hx,rfl,rfl,trivial⟩
 refine set_plain X I c.sa (GN (s:={ s with toks:=s.toks+1 }) X I c n ?_)
 obtain⟨cd,hcl,hd',_⟩:=c.cd
 have hx₁:(s.heap.push { cls:=.type "dict",data:=.dict #[] }).get? x=some ⟨.ref C,none,.fields vs,osl⟩:=zc _ hx
 have hxs:x≠s.heap.objs.size:=z27 (z14 hx)
 refine za (zf (za (za (wpAny_loadPart hx (za (Looks.here (s:={ s with toks:=s.toks+1 }) (looks_clsIn X hcl) ?_))))))
 rw [hd']
 refine za (wpAny_alloc' ?_)
 refine za (wpAny_update' hx₁ ?_)
 refine zf ?_
 have hgd:((s.heap.push { cls:=.type "dict",data:=.dict #[] }).update x λo=>{ o with dict:=some s.heap.objs.size }).get? s.heap.objs.size=some { cls:=.type "dict",data:=.dict #[] } :=
  (Heap.get?_update_ne _ _ _ _ hxs.symm).trans (Heap.get?_push_at rfl rfl)
 have hnd:((s.heap.push { cls:=.type "dict",data:=.dict #[] }).update x λo=>{ o with dict:=some s.heap.objs.size }).Ns s.heap.objs.size (λ_=>none) :=
  ⟨_,#[],_,hgd,rfl,λe he=>absurd he (by simp),λ_=>rfl⟩
 show wpAny _ _ (Builtin.ObjectAttr.storeInDict s.heap.objs.size (.str name _) name v) _ _ _
 unfold Builtin.ObjectAttr.storeInDict Builtin.ObjectAttr.newKeyGuard
 refine za (zf (za (wpAny_nsSet1 (Heap.Ns1.of_empty hnd) λh' hn' hs=>?_)))
 obtain⟨oD,esD,epD,hoD,hdD,hcD⟩:=hn'.count (Within.cons name v Within.nil)
 refine za (wpAny_lookBehind hoD (by rw [hdD];exact pastItsLine_dict (z1a hcD (by rw [z15,List.length_nil,sizeLine_eq];lia))) ?_)
 refine zf (h h' hn' ?_ λb ob hbx hb=>?_)
 ·exact (hs.2 x hxs).trans (Heap.get?_update_self _ hx₁ rfl)
 ·exact (hs.2 b (z27 (z14 hb))).trans ((Heap.get?_update_ne _ _ _ _ hbx).trans (zc _ hb))
open PySem.W in
def GO{vs:Array Value}{dx:Addr}{mA:Str->Option Value}{b:Bool}{Q:Value->Shared->Prop}(X:K.In s.heap)(hx:s.heap.get? x=some ox)(hc:ox.cls=.ref C)(hd:ox.data=.fields vs)(hn:ox.dict=some dx)(hm:s.heap.Ns1 dx mA)
  (c:XA K C) (n:kO K C name) (hv:mA name=some v) (hh:handedIn v=true) (h:Q v { s with toks:=s.toks+1 }) :
  wpAny (model prog w) A (getAttr (.ref x) name b) Q E s:=by
 obtain⟨oc,odi,oda,osl⟩:=ox
 dsimp only at hc hd hn
 subst hc hd hn
 obtain⟨oo,hoo,hl⟩:=kN hm
 have I:InstAt s.heap x ⟨.ref C,some dx,.fields vs,osl⟩ C (some oo):=⟨hx,rfl,rfl,hoo⟩
 obtain⟨cd,hcl,hd',ho,hb,_⟩:=c.cd
 have ne:cd.mro.isEmpty=false:=by cases q:cd.mro with|nil=>rw [q] at ho;simp at ho|cons _ _=>rfl
 have hf:findObj K C (some oo) name=some (.value v):=findObj_own (attr:=none) (by unfold hasDictIn;rw [hcl];exact hd') n rfl (by rw [hl,hv])
 have L0:=I.type (M:=model prog w)
 have L1:=looks_findIn (M:=model prog w) X c.ga
 have L2:=looks_findIn (M:=model prog w) X c.gt
 have L3:=looks_find (M:=model prog w) X I hf
 have sub:Looks (model prog w) s.heap (isInstance (.ref x) (.type "BaseException")) true:=L0.andThen (looks_mroIn X (by unfold mroIn;rw [hcl,Option.bind_some,if_neg (by rw [ne];decide),hb]))
 obtain⟨hh',g,d,t,os⟩:=s
 unfold getAttr getAttrBy
 refine za (wpAny_mkText (wpAny_holding (za (L0.at (za (L1.at ?_))))))
 show wpAny _ _ (getAttrByItsOwn _ _ _ _ _ _) _ _ _
 refine za (L2.at (za ?_))
 have hx0:(b&&onTheHeap (Value.builtin "BaseException.__getattribute__"))=false:=by cases b<;>rfl
 have hk:builtinKind "BaseException.__getattribute__" = some .slot:=by decide +kernel
 have y1bc:splitId "BaseException.__getattribute__" = some ("BaseException","__getattribute__"):=by decide +kernel
 have FA:=PySem.F.excAttr_ValueError.ga
 refine wpAny_attempt (wpAny_holding ?_)
 unfold callGetattribute
 rw [if_neg (by rw [hx0];decide)]
 unfold boundAndCalled
 rw [FA.bind]
 refine za (zf (wpAny_call (codeAny_call_builtin FA.plain F.entry_bexc_ga (@check_slot (model prog w) _ _ _ "BaseException.__getattribute__" "BaseException" "__getattribute__" (.ref x) [.str name t] [] _ hk y1bc sub (F.args_bexc_ga _ _) ?_))))
 refine za (zf (za (zf (za (L0.at (za (L3.at ?_)))))))
 refine zf ?_
 show wpAny _ _ (handedOut v) _ _ _
 rw [handedOut_of hh];exact zf h
end
end
section
section
variable {X:Cx}{pins:List (Addr×Obj)}{σ:St}{H:Hp}{s:Shared}{a C dx:Addr}{fs:List (Str×V)}{f:Str}{v:V}{A:Around}{E:Value->Shared->Prop}{new:Bool}
def gu{P:Program}{w:World}{h:Heap}{dct:Option Addr}(hok:cB P w H h)(e:H a=some (cE a C dct new)):iw a C dct new h:=(hok a _ e).1
def pI{P:Program}{w:World}{h:Heap}(hok:cB P w H h)(e:H dx=some (hR dx fs)):pH dx fs h:=(hok dx _ e).1
def GP{b:Bool}{Q:Value->Shared->Prop}(I:Inv X pins σ H s)(e:H a=some (cE a C (some dx) new))(ed:H dx=some (hR dx fs))(c:XA X.K C)(n:kO X.K C f)(l:fs.lookup f=some v)
  (h:∀u s',Inv X pins σ H s'->ay v u->Q u s'):wpAny (model X.prog X.w) A (getAttr (.ref a) f b) Q E s:=by
 obtain⟨o,vs,a0,h1,h2,h3,h4,_⟩:=gu I.hok e
 obtain⟨_,mA,hm,r,_⟩:=pI I.hok ed
 obtain⟨u,hu,ru⟩:=ip.some_of (v:=v) (o:=mA f) (by rw [<- l];exact r f)
 exact GO I.kIn h1 h2 h4 h3 hm c n hu (BR ru) (h u _ (I.tok _) ru)
def GQ{y:V}{u:Value}{Q:Unit->Shared->Prop}(I:Inv X pins σ H s)(e:H a=some (cE a C none new))(c:XA X.K C)(n:kO X.K C f)(ry:ay y u)
  (h:∀dx s',H dx=none->Inv X pins σ (aH (aH H dx (hR dx [(f,y)])) a (cE a C (some dx) new)) s'->Q () s'):wpAny (model X.prog X.w) A (setAttr (.ref a) f u) Q E s:=by
 obtain⟨o,vs,a0,h1,h2,h3,h4,h5,h6,h7⟩:=gu I.hok e
 refine wX I.kIn h1 h2 h4 h3 c n λh' O' hx' sb=>?_
 have fr:=I.hok.fresh (z10 s.heap.objs.size)
 have hne:s.heap.objs.size≠a:=λz=>by rw [<- z,fr] at e;cases e
 refine h s.heap.objs.size _ fr ?_
 obtain⟨oD,es,ep,g1,g2⟩:=id O'
 have gf:oD.isFreed=false:=(Heap.get?_some_iff.mp g1).2
 have q1:(s.heap.push oD).get? s.heap.objs.size=some oD:=Heap.get?_push_at rfl gf
 have I1:=I.laid (h':=s.heap.push oD) (a:=s.heap.objs.size) (o:=hR s.heap.objs.size [(f,y)]) (t':=s.toks) (λb u q=>zc _ q) (z10 _)
  (wW ⟨by simp,_,⟨oD,es,ep,q1,g2⟩,λg=>(by
   show ip (List.lookup g [(f,y)]) (if g=f then some u else none)
   by_cases q:g=f
   ·have hb:(g == f)=true:=beq_iff_eq.mpr q
    rw [if_pos q];simp only [List.lookup,hb];exact ry
   ·have hb:(g == f)=false:=beq_eq_false_iff_ne.mpr q
    rw [if_neg q];simp only [List.lookup,hb];trivial),λg hg=>(by
   by_cases q:g=f
   ·rw [q];simp
   ·exact absurd (show (if g=f then some u else none)=none from if_neg q) hg)⟩)
 have e1:aH H s.heap.objs.size (hR s.heap.objs.size [(f,y)]) a=some (cE a C none new):=by rw [aR hne.symm];exact e
 refine I1.write (x:=a) (e:=a) (by rw [e1];exact True.intro) (.inl rfl) (λb q hb z=>?_) ⟨_,hx'⟩ (mj ⟨_,vs,a0,hx',h2,rfl,h4,h5,h6,h7⟩)
 by_cases q2:b=s.heap.objs.size
 ·subst q2;rw [q1] at z;cases z;exact g1
 ·refine sb b q hb ?_
  have:(s.heap.push oD).get? b=s.heap.get? b:=Heap.get?_push_ne _ _ _ q2
  rw [<- this];exact z
end
abbrev GR(K:W.Frag)(ta:TE)(f:Str):TE:=λσ H Q=>ta σ H λx H1=>∃a C dx fs v new,x=.ref a/\H1 a=some (cE a C (some dx) new)/\H1 dx=some (hR dx fs)/\XA K C/\kO K C f/\fs.lookup f=some v/\Q v H1
abbrev GS(K:W.Frag)(ta tv:TE)(f:Str):TS:=λD σ H=>tv σ H λy H1=>ta σ H1 λx H2=>∃a C new,x=.ref a/\H2 a=some (cE a C none new)/\XA K C/\kO K C f /\
 ∀dx,H2 dx=none->D.nx σ (aH (aH H2 dx (hR dx [(f,y)])) a (cE a C (some dx) new))
section
variable {X:Cx}{o e value:Expr}{f:Str}{pos pos' tpos:Pos}{ta tv:TE}
def wY(he:PE X e ta)(hb:attributeBase e f X.env (eval e X.env)=eval e X.env):PE X (.Attribute e f pos) (GR X.K ta f):=by
 intro pins s σ H Q I h
 refine y82 hb (aO (he pins s σ H _ I h) λu s1 zz=>?_)
 obtain⟨x,H1,I1,rx,a,C,dx,fs,v,new,ex,ea,ed,c,n,l,q⟩:=zz
 subst ex
 obtain rfl:u=Value.ref a:=rx
 exact GP I1 ea ed c n l λu' s2 I2 ru=>⟨v,H1,I2,ru,q⟩
def GU(ha:PE X o ta)(hv:PE X value tv)(hs:swapsWith value (some (.Attribute o f pos')) pos.line X.env=pure false):PS X (.Assign [.Attribute o f pos'] value pos) (GS X.K ta tv f):=by
 intro pins s σ H D I h
 refine plainObj_wpAny_Assign_Attribute (aO (hv pins s σ H _ I h) λu s1 ⟨y,H1,I1,ry,q⟩=>aO (ha pins s1 σ H1 _ I1 q) λov s2 ⟨x,H2,I2,rx,a,C,new,ex,ea,c,n,q2⟩=>?_) hs
 subst ex
 obtain rfl:ov=Value.ref a:=rx
 exact GQ I2 ea c n ry λdx s3 hd I3=>⟨σ,_,I3,q2 dx hd⟩
end
end
section
def pJ{H:Hp}{a:Addr}{o:HO}(e:H a=some o):aH H a o=H:=by
 funext b;unfold aH;split
 ·rename_i q;rw [q,e]
 ·rfl
structure y13(K:W.Frag)(B0:Addr)(y1cc:String):Prop where
 rd:W.readsIn K B0 (.type "type")=true
 fd:W.findCls K (.ref B0) (.type "type") "__init__" = some (.val (.builtin y1cc))
 ga:W.specialIn K (.ref B0) "__getattribute__" = some (some (.builtin "type.__getattribute__"))
 hh:W.handedIn (.builtin y1cc)=true
abbrev tXI(C:Addr)(t:TA):TE:=λσ H Q=>t σ H λvs H1=>∃a aA new dct,vs=.ref a::aA/\aA.length≤sizeLine/\H1 a=some (cE a C dct new)/\Q .non H1
section
variable {X:Cx}{f C B0:Addr}{B newId nid y1cc inN:String}{bmB bmN:List Value}{x:Str}{p pos apos:Pos}{e:Expr}{es:List Expr}{t:TA}
def GV{pins:List (Addr×Obj)}{σ:St}{H:Hp}{s:Shared}{a:Addr}{dct:Option Addr}{new:Bool}{us:List Value}{A:Around}{E:Value->Shared->Prop}{Q:Value->Shared->Prop}(M:y57 X.K C f B newId nid y1cc inN bmB bmN)
  (I:Inv X pins σ H s) (e:H a=some (cE a C dct new)) (hz:us.length≤sizeLine) (h:∀s',Inv X pins σ H s'->Q .none s'):wpAny (model X.prog X.w) A (call (.builtin y1cc) (.ref a::us)) Q E s:=by
 obtain⟨o,vs,a0,h1,h2,h3,h4,h5,h6,h7⟩:=gu I.hok e
 obtain⟨nm,q,N,bs,bm,y1b0,sn,sub,ab,col,dd,k0,k1,k2,k3,k5,mN,hC,hn,hi,T⟩:=M.cls _ I.kIn
 have I1:=I.kept (h':=s.heap.push { cls:=.type "tuple",data:=.seq us.toArray }) (t':=s.toks) (λb u q=>zc _ q)
 have he₁:(s.heap.push { cls:=.type "tuple",data:=.seq us.toArray }).get? a=some o:=zc _ h1
 have hd₃:=Obj.data_mapFields h4 (·.setIfInBounds 0 (Value.ref s.heap.objs.size))
 have he₃:=Heap.get?_update_self (Obj.mapFields (·.setIfInBounds 0 (Value.ref s.heap.objs.size))) he₁ (Obj.isFreed_of_fields hd₃)
 have I2:=I1.write (x:=a) (e:=a) (o:=cE a C dct new) (t':=s.toks) (by rw [e];exact True.intro) (.inl rfl) (λb u hb q=>(Heap.get?_update_other _ _ (Ne.symm hb)).trans q) ⟨_,he₃⟩
  (mj ⟨_,_,.ref s.heap.objs.size,he₃,(Obj.cls_mapFields _ _).trans h2,(pG _ _).trans h3,hd₃,by rw [Array.getElem?_setIfInBounds_self_of_lt (z35 Nat.zero_lt_one h6)],by rw [Array.size_setIfInBounds];exact h6,λz=>by rw [Array.getElem?_setIfInBounds_ne (by decide)];exact h7 z⟩)
 rw [pJ e] at I2
 obtain⟨hh,g,d,tk,os⟩:=s
 exact GL M.fb T hC h1 h2 h4 (z35 Nat.zero_lt_one h6) hz (h _ I2)
def GW{pl:Sem Bool}(hg:Gl X x)(hm:X.mg x=some (.ref B0))(hi:y13 X.K B0 y1cc)(M:y57 X.K C f B newId nid y1cc inN bmB bmN)(ha:PA X (e::es) t)(hdb:(x == ("__debug__" : Str))=false:=by decide)
  (hst:‹starEach (e::es) X.env=(false,eval e X.env)::starEach es X.env›) (hpl:‹eY X pos es›)
  (ht:‹eval (.Call (.Attribute (.Name x p) "__init__" apos) (e::es) [] pos) X.env=(do
   let ov <- eval (.Name x p) X.env
   standAt apos.atName
   let (f,first) <- holding [ov] (getMethod ov "__init__" pl)
   callWith pos f first (backTo pos (starEach (e::es) X.env)) (backToKw pos (keywordEach [] X.env)))›) :
  PE X (.Call (.Attribute (.Name x p) "__init__" apos) (e::es) [] pos) (tXI C t):=by
 intro pins s σ H Q I h
 refine W.methodCall_KW (pl:=pl) (jj I hg hm ?_ hdb) ht
 refine W.method_cls I.kIn hi.ga (W.cls_value I.kIn hi.rd hi.fd hi.hh ?_)
 refine PyProof.Rows.callWith_builtin1 (aO (ha pos pins _ σ H _ (I.tok _) h) λus s1 ⟨vs,H1,I1,r1,a,aA,new,dct,ev,hz,ea,q⟩=>?_) hst hpl
 subst ev
 cases r1 with
 | @cons _ u _ us' ru r2 =>
  obtain rfl:u=Value.ref a:=ru
  exact GV M I1 ea (by rw [<- r2.length];exact hz) λs' I2=>⟨.non,H1,I2,rfl,q⟩
end
end
section
abbrev pK(n:Nat)(H:Hp):Addr->Prop:=λT=>n≤T/\H T=none
def _root_.PySem.Heap.y52.imp{h b0:Heap}{e:Addr}{cls a0:Value}{dct:Option Addr}{p p':Addr->Prop}(t:h.y52 b0 e cls a0 dct p)(k:∀T,T≠e->p T->p' T):h.y52 b0 e cls a0 dct p':=by
 obtain⟨oe,vs,T,oT,ts,he,hc,hd,h1,⟨hnT,hnn⟩,hTe,r⟩:=t
 exact⟨oe,vs,T,oT,ts,he,hc,hd,h1,⟨hnT,k T hTe hnn⟩,hTe,r⟩
section
variable {h':Heap}{x C:Addr}{dct:Option Addr}{nw:Bool}{a0:Value}{fl:Value}{p:Addr->Prop}{base:Heap}
def GX(t:h'.y51 base x (.ref C) a0 dct p fl):iw x C dct false h':=by
 obtain⟨oe,vs,T,oT,ts,he,⟨y1ae,h0,hdc⟩,hd,h1,_⟩:=t
 exact⟨oe,vs,a0,he,y1ae,hdc,hd,h0,(Array.getElem?_eq_some_iff.mp h1).1,λz=>by cases z⟩
def pL{P:Program}{w:World}{H H':Hp}{h0 h:Heap}{fs fs':List Addr}(un:Un fs [] H H' h0 h)(hok:cB P w H' h)(ex:H' x=some (cE x C dct nw))(hf:∀b∈fs',H' b=none)(hsub:∀b∈fs',b∈fs∨h0.get? b=none)
  (up:bZ x (pK h0.objs.size H') fs' h h') (tr:h'.y51 base x (.ref C) a0 dct p fl) :
  Un fs [] H (aH H' x (cE x C dct false)) h0 h'/\cB P w (aH H' x (cE x C dct false)) h':=by
 have nl:∀b:Addr,b∉([]:List Addr):=λb z=>by simp at z
 have hxe:=GX tr
 have hex:∃o,h'.get? x=some o:=let ⟨o,_,_,q,_⟩:=hxe;⟨o,q⟩
 have kp:∀b o,b≠x->H' b=some o->∀u,h.get? b=some u->h'.get? b=some u:=λb o nb e u q =>
  (up b u q ⟨nb,λz=>by rw [z.2] at e;cases e⟩).2 λz=>by rw [hf b z] at e;cases e
 have ni:∀b o,h0.get? b=some o->H b=none->b≠x:=λb o q e z=>by
  have:=un.free b o q e (nl b);rw [z,ex] at this;cases this
 have old:∀b o,h0.get? b=some o->¬ pK h0.objs.size H' b:=λb o q z=>absurd (z14 q) (Nat.not_lt.mpr z.1)
 refine⟨⟨λb o q e nb _=>?_,λb o q e nb _=>?_,λb o q e _=>?_,λb o q _=>?_,λb xs e=>?_,λb o u e=>?_,λb ps e=>?_⟩,λb o e=>?_⟩
 ·refine (up b o (un.keep b o q e nb (nl b)) ⟨ni b o q e,old b o q⟩).2 λz=>?_
  rcases hsub b z with z|z
  ·exact nb z
  ·rw [q] at z;cases z
 ·obtain⟨sl,q1⟩:=un.slot b o q e nb (nl b)
  obtain⟨sl2,q2⟩:=(up b _ q1 ⟨ni b o q e,old b o q⟩).1
  exact⟨sl2,q2⟩
 ·rw [aR (ni b o q e)];exact un.free b o q e (nl b)
 ·obtain⟨o',q1⟩:=un.there b o q (nl b)
  by_cases hb:b=x
  ·rw [hb];exact hex
  ·obtain⟨sl,q2⟩:=(up b o' q1 ⟨hb,old b o q⟩).1
   exact⟨_,q2⟩
 ·have e1:=un.y4b7 b xs e
  rw [aR λz=>by rw [z,ex] at e1;cases e1];exact e1
 ·have e1:=un.y16e b o u e
  rw [aR λz=>by rw [z,ex] at e1;cases e1];exact e1
 ·obtain⟨more,e1⟩:=un.y497 b ps e
  exact⟨more,by rw [aR λz=>by rw [z,ex] at e1;cases e1];exact e1⟩
 ·by_cases hb:b=x
  ·subst hb
   rw [bg] at e;cases e
   exact mj hxe
  ·rw [aR hb] at e
   refine (hok b o e).y45d (λc u hc q=>?_) (λc e2=>?_) λc xs e2=>?_
   ·rcases hc with rfl|hc
    ·exact kp c o hb e u q
    ·exact kp c _ (λz=>by rw [z,ex] at hc;cases hc) hc u q
   ·rw [aR λz=>by rw [z,ex] at e2;cases e2];exact e2
   ·rw [aR λz=>by rw [z,ex] at e2;cases e2];exact e2
end
abbrev dy(P:Program)(w:World)(base:Heap):gU:=λouter H s E e s'=>∃x C dct a0 H',e=.ref x/\s'.os=s.os/\AllBare s'.gens/\Un (fM outer) [] H H' s.heap s'.heap/\cB P w H' s'.heap /\
 Heap.y3e base outer x (.ref C) a0 dct (pK s.heap.objs.size H') s'.heap/\H' x=some (cE x C dct false)/\E (.ref C) (some x) H'
abbrev fD(X:Cx)(E:XK):Prop:=∀(pins:List (Addr×Obj)) (σ:St) (H:Hp) (s:Shared) (x C:Addr) (dct:Option Addr),Inv X pins σ H s->H x=some (cE x C dct true) ->
 E (.ref C) (some x) (aH H x (cE x C dct false))->X.xe (.ref x) s
section
variable {P:Program}{w:World}{K:W.Frag}{mg:Str->Option Value}{base:Heap}{N:List Str}{qual:Str}{scope:Scope}{f:Addr}{cd:Value}{A:Around}{outer:List Env}{s:Shared}{H:Hp}{E:XK}
def wZ{X:Cx}{pins:List (Addr×Obj)}{σ:St}{H1:Hp}{s1:Shared}(I:Inv X pins σ H1 s1):∀b∈fM X.stack,b∈X.fs∨X.s₀.heap.get? b=none:=λb hb=>by
 rcases z1f.mp (I.y45f b hb) with e|hb
 ·exact .inr (by rw [e];exact Heap.get?_none_of_le I.ok.above)
 ·exact .inl hb
def GY:fD (ei (dy P w base) P w K mg base N qual scope f cd A outer s H E) E:=by
 intro pins σ H1 s1 x C dct I ex hE
 obtain⟨o,vs,a0,h1,h2,h3,h4,h5,h6,h7⟩:=gu I.hok ex
 have hxb:base.get? x=none:=by
  cases q:base.get? x with
  | none=>rfl
  | some o=>have:=(I.bs x o q).2;rw [ex] at this;cases this
 have hn:s.heap.objs.size≤s1.heap.objs.size:=I.sz
 refine GB (p:=pK s.heap.objs.size H1) (λT z=>⟨z1a hn z,I.hok.fresh z⟩) I.ok.frames I.stack rfl h1 I.bk hxb h4 (h7 rfl) h5 λh' L=>?_
 rw [h2,h3] at L
 obtain⟨l1,l2,l3,l4⟩:=L
 obtain⟨u,k⟩:=pL (fs':=fM (ei (dy P w base) P w K mg base N qual scope f cd A outer s H E).stack) I.base I.hok ex I.y45e (wZ I) l4 l3
 exact⟨x,C,dct,a0,_,rfl,I.os,I.bare,u,k,⟨l1,hxb,l2.2.2,l3.imp λT ne z=>⟨z.1,by rw [aR ne];exact z.2⟩⟩,bg,hE⟩
def GZ:bO (dy P w base) (ei (dy P w base) P w K mg base N qual scope f cd A outer s H E) E:=by
 rintro pins σ H1 s1 e s' I ⟨x,C,dct,a0,H',rfl,os,bare,un,hok,fl,ex,q⟩
 obtain⟨hh,g,d,t,os'⟩:=s'
 obtain rfl:os'=s1.os:=os
 have J:=I.call (h':=hh) (g':=g) (d':=d) (t':=t) (ch:=[]) un hok bare (λb z=>absurd z (by simp))
 have hn:s.heap.objs.size≤hh.objs.size:=J.sz
 have hn1:s.heap.objs.size≤s1.heap.objs.size:=I.sz
 refine GD (p:=pK s.heap.objs.size H') (λT z=>⟨z1a hn z,hok.fresh z⟩) J.ok.frames rfl ⟨fl.1,fl.2.1,fl.2.2.1,fl.2.2.2.imp λT _ z=>⟨z1a hn1 z.1,z.2⟩⟩ λh' f2 up=>?_
 obtain⟨u,k⟩:=pL (fs':=fM (ei (dy P w base) P w K mg base N qual scope f cd A outer s H E).stack) J.base J.hok ex J.y45e (wZ J) up f2.2.2.2
 rw [pJ ex] at u k
 exact⟨x,C,dct,a0,H',rfl,J.os,J.bare,u,k,f2,ex,q⟩
end
end
end L2
namespace PySem
section
variable {M:Model}{A:Around}{E:Value->Shared->Prop}{env:Env}
variable {nm q:Str}{C N:Addr}{bs bm:List Value}{y1b0:Bool}{sn:List Str}{sub:List Value}{ab:Bool}{col:Option Bool}{dd:Option Addr}{k0 k1 k2 k3 k5:Option Value}{newId:String}
def Ha{s:Shared}{x:Sem Value}{Q:Flow->Shared->Prop}(hh:A.handled=none)
  (h:wpAny M A x (λv s₁=>∃e oe vs nm q C N bs bm y1b0 sn sub ab col dd k0 k1 k2 k3 k5 newId,v=.ref e/\bm.contains (.type "BaseException")=true/\s₁.heap.get? C=some (excClassObj nm q C N bs bm y1b0 sn sub ab col dd k0 k1 k2 k3 k5 newId) /\
   s₁.heap.get? e=some oe/\oe.cls=.ref C/\oe.data=.fields vs/\vs[1]?=some .none/\E (.ref e) s₁) E s) :
  wpAny M A (raiseStmt env (some x) none) Q E s:=by
 unfold raiseStmt
 refine za (wpAny_mono h (λv s₁ h₁=>?_) λ_ _ x=>x)
 obtain⟨e,oe,vs,nm,q,C,N,bs,bm,y1b0,sn,sub,ab,col,dd,k0,k1,k2,k3,k5,newId,rfl,y1ab,hC,he,hc,hd,h1,hE⟩:=h₁
 have hcB:(Value.ref C::bm).contains (.type "BaseException")=true:=by rw [List.contains_cons,y1ab,Bool.or_true]
 obtain⟨oc,odi,oda,osl⟩:=oe
 dsimp only at hc hd
 subst hc hd
 obtain⟨hp,g,d,tk,os⟩:=s₁
 repeat (first|with_reducible refine wpAny_field he rfl h1 ?_|with_reducible refine wpAny_loadPart_at he ?_|with_reducible refine wpAny_loadPart_at hC ?_|(with_reducible refine wpAny_isSubtype_exc hC ?_;rw [hcB])|wp_step)
 exact wpAny_raiseNew_none hh hE
end
end PySem
namespace L2
open PySem PySem.Spec PyProof.Rows
section
abbrev qN(K:W.Frag)(C:Addr):Prop:=∀h:Heap,K.In h->∃nm q N bs bm y1b0 sn sub ab col dd k0 k1 k2 k3 k5 newId,h.get? C=some (excClassObj nm q C N bs bm y1b0 sn sub ab col dd k0 k1 k2 k3 k5 newId)/\bm.contains (.type "BaseException")=true
def y57.is{K:W.Frag}{C f:Addr}{B newId nid y1cc inN:String}{bmB bmN:List Value}(M:y57 K C f B newId nid y1cc inN bmB bmN):qN K C:=λh x=>by
 obtain⟨nm,q,N,bs,bm,y1b0,sn,sub,ab,col,dd,k0,k1,k2,k3,k5,mN,hC,hn,hi,T⟩:=M.cls h x
 exact⟨nm,q,N,bs,bm,y1b0,sn,sub,ab,col,dd,k0,k1,k2,k3,k5,_,hC,T.hasType M.fb.hasBase⟩
abbrev w4(K:W.Frag)(te:TE)(E:XK):TS:=λ_ σ H=>te σ H λv H1=>∃x C dct,v=.ref x/\H1 x=some (cE x C dct true)/\qN K C/\E (.ref C) (some x) (aH H1 x (cE x C dct false))
abbrev w6(C:Addr)(sp:Sp)(dvs:List V)(E:XK)(t:TA):TE:=λσ H Q=>t σ H λvs H1=>∀x,H1 x=none->sp (.ref x::(vs++dvs)) (aH H1 x (cE x C none true)) (λv H2=>v=.non/\Q (.ref x) H2) E
section
variable {X:Cx}{CX:gU}{k:Nat}{f C:Addr}{fd:FuncData}{ps:List Str}{sp:Sp}{dvs:List V}{ds:List Value}{E:XK}{x:Str}{p pos:Pos}{e:Expr}{es:List Expr}{te:TE}{t:TA}{B newId nid y1cc inN:String}{bmB bmN:List Value}
def Hb(hc:X.calm=true)(he:PE X e te)(hr:fD X E):PS X (.Raise (some e) none pos) (w4 X.K te E):=by
 intro pins s σ H D I h
 rw [arm_exec_Raise]
 refine za (wpAny_standAt (Ha (I.ok.hd hc) (za (wpAny_mono (he pins s σ H _ I h) (λv s1 ⟨v',H1,I1,rv,x,C,dct,ev,ex,ic,q⟩=>za (wpAny_standAt (zf ?_))) λ_ _ z=>z))))
 subst ev
 obtain rfl:v=Value.ref x:=rv
 obtain⟨nm,qn,N,bs,bm,y1b0,sn,sub,ab,col,dd,k0,k1,k2,k3,k5,newId,hC,hb⟩:=ic _ I1.kIn
 obtain⟨o,vs,a0,h1,h2,h3,h4,h5,h6,h7⟩:=gu I1.hok ex
 exact⟨x,o,vs,nm,qn,C,N,bs,bm,y1b0,sn,sub,ab,col,dd,k0,k1,k2,k3,k5,newId,rfl,hb,hC,h1,h2,h4,h7 rfl,hr pins σ H1 s1 x C dct I1 ex q⟩
def Hc(M:y57 X.K C f B newId nid y1cc inN bmB bmN)(hk:W.keepIn X.K (.ref C)=true)(F:y3f X.prog X.w X.K X.mg X.base CX k f fd ps sp)(hr:y4e (k+1) X.A)(hg:Gl X x)(hm:X.mg x=some (.ref C))(hb:cQ X.K fd ps ds)(hd:au dvs ds)(hx:bO CX X E)(hz:ps.length≤1000)
  (ha:PA X (e::es) t) (hdb:(x == ("__debug__" : Str))=false:=by decide) (he:‹fN X e es›) (hpl:‹eY X pos es›) :
  PE X (.Call (.Name x p) (e::es) [] pos) (w6 C sp dvs E t):=by
 intro pins s σ H Q I h
 refine wpAny_Call_Name_kw (jj I hg hm ?_ hdb)
 refine W.callWith_K (h₀:=X.base) I.ok.mod.kin hk (aO (ha pos pins s σ H _ I h) λus s1 ⟨vs,H1,I1,r,q⟩=>⟨I1.kIn,?_⟩) he hpl
 refine GK M F hr hb hd hx I1 r ?_ q
 have l:=F.len _ _ _ _ (q _ (I1.hok.fresh (z10 _)))
 rw [z15,zd] at l
 show us.length≤sizeLine
 rw [<- r.length,sizeLine_eq]
 lia
end
end
end L2
namespace PySem
section
variable {M:Model}{A:Around}{E:Value->Shared->Prop}{h:Heap}{g:Array GenState}{d:Drawn}{t:Nat}{os:OsState}
variable {nm q:Str}{C N:Addr}{bs bm:List Value}{y1b0:Bool}{sn:List Str}{sub:List Value}{ab:Bool}{col:Option Bool}{dd:Option Addr}{k0 k1 k2 k3 k5:Option Value}{newId:String}
variable {nm' q':Str}{T N':Addr}{bs' bm':List Value}{y1b1:Bool}{sn':List Str}{sub':List Value}{ab':Bool}{col':Option Bool}{dd':Option Addr}{k0' k1' k2' k3' k5':Option Value}{y283:String}
def Hd{e:Addr}{oe:Obj}{b:Bool}{Q:Bool->Shared->Prop}
  (hC:h.get? C=some (excClassObj nm q C N bs bm y1b0 sn sub ab col dd k0 k1 k2 k3 k5 newId)) (hT:h.get? T=some (excClassObj nm' q' T N' bs' bm' y1b1 sn' sub' ab' col' dd' k0' k1' k2' k3' k5' y283)) (he:h.get? e=some oe) (y1ae:oe.cls=.ref C)
  (hbT:bm'.contains (.type "BaseException")=true) (hb:(Value.ref C::bm).contains (.ref T)=b) (hq:Q b ⟨h,g,d,t,os⟩):wpAny M A (excMatches (.ref e) (.ref T)) Q E ⟨h,g,d,t,os⟩:=by
 have hcB:(Value.ref T::bm').contains (.type "BaseException")=true:=by rw [List.contains_cons,hbT,Bool.or_true]
 have f:=tc_notTuple
 unfold excMatches
 repeat (first|(with_reducible refine wpAny_loadPart_at he ?_;rw [y1ae])|with_reducible refine wpAny_loadPart_at hT ?_|(with_reducible refine wpAny_isSubtype_exc hT ?_;rw [hcB])|(with_reducible refine wpAny_isSubtype_exc hC ?_;rw [hb])|wp_step)
 cases b<;>(wp_walk;exact hq)
end
end PySem
namespace L2
open PySem PySem.Spec PyProof.Rows
section
section
variable {X:Cx}{pins:List (Addr×Obj)}{σ:St}{H:Hp}{s:Shared}
def mm{M:Model}{A:Around}{E:Value->Shared->Prop}{i:Nat}{n:Str}{pos:Pos}{Q:Unit->Shared->Prop}(I:Inv X pins σ H s)(hN:X.N.Nodup)(hi:X.N[i]?=some n)(hk:X.env.scope.names.lookup n=some .local)
  (h:∀s',Inv X pins (σ.set i none) H s'->Q () s'):wpAny M A (do bindName X.env n .none;unbindBehindTheSuite X.env n pos) Q E s:=by
 obtain⟨m,hn,hl⟩:=id I.loc
 have y1ae:(X.env.scope.kind == .class||(X.env.scope.kind == .module&&X.env.locals != X.env.globals))=false:=by rw [I.ok.kind];rfl
 have hiσ:i<σ.length:=by rw [I.len];exact (z19.mp hi).1
 refine wpAny_nameGoes_keeps hk hn y1ae λh' v hn' hs=>h _ ?_
 have nl:∀b o,X.s₀.heap.get? b=some o->b≠X.env.locals:=λb o e=>z27 (z1c (z14 e) I.ok.above)
 have cK:∀y c w',X.env.cells.lookup y=some c->s.heap.IsCell c w'->h'.IsCell c w':=λy c w' e ⟨o,ho,hd⟩=>⟨o,(hs.2 c (I.cne y c e)).trans ho,hd⟩
 refine⟨I.ok,I.os,I.bare,⟨λb o e n hb hx=>(hs.2 b (nl b o e)).trans (I.base.keep b o e n hb hx),λb o e n hb hx=>?_,I.base.free,λb o e hx=>?_,I.base.y4b7,I.base.y16e,I.base.y497⟩,⟨_,hn',λj y v' e1 e2 e3=>?_⟩,λy c e=>?_,I.free,I.y16c,λp hp=>?_,λb ob e=>?_,by simpa using I.len⟩
 ·obtain⟨sl,e1⟩:=I.base.slot b o e n hb hx
  exact⟨sl,(hs.2 b (nl b o e)).trans e1⟩
 ·obtain⟨o',e1⟩:=I.base.there b o e hx
  exact⟨o',(hs.2 b (nl b o e)).trans e1⟩
 ·by_cases hj:j=i
  ·subst hj
   rw [List.getElem?_set_self hiσ] at e2
   cases e2
  ·rw [z26 (Ne.symm hj)] at e2
   obtain⟨u',r',q⟩:=hl j y v' e1 e2 e3
   refine⟨u',r',?_⟩
   rcases q with⟨k,e⟩| ⟨k,c,e,z⟩
   ·refine .inl ⟨k,?_⟩
    have hy:y≠n:=λz=>hj (nD hN e1 (z ▸ hi))
    show (if y=n then v else m y)=some u'
    rw [if_neg hy];exact e
   ·exact .inr ⟨k,c,e,cK y c _ e z⟩
 ·obtain⟨w',z⟩:=I.cell y c e
  exact⟨w',cK y c w' e z⟩
 ·obtain⟨e,n1,n2,n3,n4⟩:=I.pin p hp
  exact⟨(hs.2 p.1 n2).trans e,n1,n2,n3,n4⟩
 ·have fr:=I.free
  refine (I.hok b ob e).y45d (λc w' hc q=>(hs.2 c ?_).trans q) (λ_ q=>q) λ_ _ q=>q
  rintro rfl
  rcases hc with rfl|hc
  ·rw [fr] at e;cases e
  ·rw [fr] at hc;cases hc
end
end
section
noncomputable abbrev jW(X:Cx):St:=List.replicate X.N.length none
structure y8(X:Cx)(pins:List (Addr×Obj))(x C:Addr)(dct:Option Addr)(H:Hp)(s:Shared):Prop where
 ok:X.Ok
 ex:H x=some (cE x C dct false)
 st:∃p a0,Heap.y3e X.base X.stack x (.ref C) a0 dct p s.heap/\∀h',Heap.y3e X.base X.stack x (.ref C) a0 dct p h'->bZ x p [] s.heap h'->Inv X pins (jW X) H { s with heap:=h' }
abbrev pM(K:W.Frag)(C c:Addr)(b:Bool):Prop:=∀h:Heap,K.In h->∃nm q N bs bm y1b0 sn sub ab col dd k0 k1 k2 k3 k5 newId,h.get? C=some (excClassObj nm q C N bs bm y1b0 sn sub ab col dd k0 k1 k2 k3 k5 newId)/\(Value.ref C::bm).contains (.ref c)=b
noncomputable abbrev TH:=Addr->Addr->Ends->Hp->Prop
abbrev PH(X:Cx)(hs:List ExceptHandler)(th:TH):Prop :=
 ∀(pins:List (Addr×Obj)) (s:Shared) (x C:Addr) (dct:Option Addr) (H1:Hp) (D:Ends),y8 X pins x C dct H1 s->th x C D H1 ->
  wpAny (model X.prog X.w) X.A (handleBy (.ref x) X.env hs) (SP X pins D) X.xe s
noncomputable abbrev Cx.inX(X:Cx)(x:Addr):Cx:={ X with A:=X.A.mark (some (.ref x)),calm:=false,xe:=λ_ _=>False }
abbrev Ends.drop(D:Ends)(i:Nat):Ends:=⟨λσ H=>D.nx (σ.set i none) H,D.rt,λσ H=>D.bk (σ.set i none) H,λσ H=>D.ct (σ.set i none) H⟩
abbrev hAs(X:Cx)(c:Addr)(i:Nat)(ts:TS)(th:TH):TH:=λx C D H=>∃b,pM X.K C c b/\if b=true then ts (D.drop i) ((jW X).set i (some (.ref x))) H else th x C D H
section
variable {X:Cx}{pins:List (Addr×Obj)}{σ:St}{H:Hp}{s:Shared}
theorem Cx.Ok.inX{x:Addr}(o:X.Ok):(X.inX x).Ok:=⟨o.mod,o.kind,o.glob,o.blt,o.above,o.inj,o.has,o.cab,(λz=>by cases z),o.frames,o.stk,o.exf,o.bs,o.bsz,o.y28f,o.y144,o.y170,o.frf⟩
theorem Inv.inX{x:Addr}(I:Inv X pins σ H s):Inv (X.inX x) pins σ H s:=⟨I.ok.inX,I.os,I.bare,I.base,I.loc,I.cell,I.free,I.y16c,I.pin,I.hok,I.len⟩
def Inv.outX{x:Addr}(o:X.Ok)(I:Inv (X.inX x) pins σ H s):Inv X pins σ H s:=⟨o,I.os,I.bare,I.base,I.loc,I.cell,I.free,I.y16c,I.pin,I.hok,I.len⟩
def y8.now{x C:Addr}{dct:Option Addr}(c:y8 X pins x C dct H s):Inv X pins (jW X) H s:=by
 obtain⟨n,a0,f,k⟩:=c.st
 exact k s.heap f (.refl _ _ _ _)
def w8{c:Addr}{i:Nat}{cn n:Str}{p pos:Pos}{b₀:Stmt}{y473:List Stmt}{aA:List ExceptHandler}{ts:TS}{th:TH}(hg:Gl X cn)(hm:X.mg cn=some (.ref c))(hc:qN X.K c)(hN:X.N.Nodup)(hi:X.N[i]?=some n)
  (hk:X.env.scope.names.lookup n=some .local) (hb:∀x,dI (X.inX x) (b₀::y473) ts) (hr:PH X aA th) (hdb:(cn == ("__debug__" : Str))=false:=by decide) :
  PH X (.ExceptHandler (some (.Name cn p)) (some n) (b₀::y473) pos::aA) (hAs X c i ts th):=by
 intro pins s x C dct H1 D cg h
 have I:=cg.now
 obtain⟨b,hs,hq⟩:=h
 obtain⟨o,vs,a0,h1,h2,_⟩:=gu I.hok cg.ex
 obtain⟨nm,q,N,bs,bm,y1b0,sn,sub,ab,col,dd,k0,k1,k2,k3,k5,newId,hC,hcon⟩:=hs _ I.kIn
 obtain⟨nm',q',N',bs',bm',y1b1,sn',sub',ab',col',dd',k0',k1',k2',k3',k5',y283,hT,hbT⟩:=hc _ I.kIn
 refine wpAny_handleBy_cons (codeAny_handlers_test ?_) (by intro q;cases q)
 refine jj (X:=X.inX x) I.inX hg hm ?_ hdb
 obtain⟨hh,g,d,t,os⟩:=s
 refine Hd hC hT h1 h2 hbT hcon ?_
 cases b with
 | false=>exact hr pins _ x C dct H1 D cg hq
 | true =>
  refine codeAny_handlers_suite_as ?_
  obtain⟨n0,a1,fl,k⟩:=cg.st
  refine wV fl.1 fl.2.2.1 fl.2.2.2.at λh' l1 l2 l3 l4=>?_
  have I3:=k h' ⟨l1,fl.2.1,l2,l3⟩ (λb o hb hn=>⟨⟨o.slots,l4 b o hb hn⟩,λ_=>l4 b o hb hn⟩)
  refine nE (X:=X.inX x) I3.inX hN hi (.inl hk) (v:=.ref x) rfl (λs4 I4=>?_) (.inr hk)
  refine wpAny_mono (hb x pins s4 _ H1 (D.drop i) I4 hq) (λf s5 hsp=>?_) (λe s5 z=>z.elim)
  cases f with
  | next=>obtain⟨σ',H',J,q⟩:=hsp;exact mm (X:=X) (J.outX cg.ok) hN hi hk λs6 J6=>⟨_,_,J6,q⟩
  | brk=>obtain⟨σ',H',J,q⟩:=hsp;exact mm (X:=X) (J.outX cg.ok) hN hi hk λs6 J6=>⟨_,_,J6,q⟩
  | cont=>obtain⟨σ',H',J,q⟩:=hsp;exact mm (X:=X) (J.outX cg.ok) hN hi hk λs6 J6=>⟨_,_,J6,q⟩
  | ret u=>obtain⟨v,σ',H',J,r,q⟩:=hsp;exact mm (X:=X) (J.outX cg.ok) hN hi hk λs6 J6=>⟨v,_,H',J6,r,q⟩
end
end
section
abbrev He(tb:XK->TS)(th:TH):TS:=λD σ H=>tb (λCv xo H'=>∀x C dct,Cv=.ref C->xo=some x->H' x=some (cE x C dct false)->th x C D H') D σ H
section
variable {X:Cx}{pins:List (Addr×Obj)}{σ:St}{H:Hp}{s:Shared}
noncomputable abbrev Cx.y4b1(X:Cx)(pn:List (Addr×Obj))(xe:Value->Shared->Prop):Cx:={ X with pn:=pn,xe:=xe }
theorem Cx.Ok.y4b1{pn:List (Addr×Obj)}{xe:Value->Shared->Prop}(o:X.Ok):(X.y4b1 pn xe).Ok:=⟨o.mod,o.kind,o.glob,o.blt,o.above,o.inj,o.has,o.cab,o.hd,o.frames,o.stk,o.exf,o.bs,o.bsz,o.y28f,o.y144,o.y170,o.frf⟩
theorem Inv.y4b1{xe:Value->Shared->Prop}(I:Inv X pins σ H s):Inv (X.y4b1 (X.pn++pins) xe) [] σ H s :=
 ⟨I.ok.y4b1,I.os,I.bare,I.base,I.loc,I.cell,I.free,I.y16c,λp hp=>I.pin p (by simpa using hp),I.hok,I.len⟩
def Inv.y4c9{xe:Value->Shared->Prop}{y34d:List (Addr×Obj)}(o:X.Ok)(I:Inv (X.y4b1 (X.pn++pins) xe) y34d σ H s):Inv X pins σ H s :=
 ⟨o,I.os,I.bare,I.base,I.loc,I.cell,I.free,I.y16c,λp hp=>I.pin p (List.mem_append_left _ hp),I.hok,I.len⟩
def Hf{body:List Stmt}{h₀:ExceptHandler}{hs:List ExceptHandler}{pos:Pos}{tb:XK->TS}{th:TH}(hst:X.stack=X.env::X.outer)(hfr:X.env.frame=some X.env.locals)
  (hb:∀E pn xe,bO (dy X.prog X.w X.base) (X.y4b1 pn xe) E->dI (X.y4b1 pn xe) body (tb E)) (hh:PH X (h₀::hs) th):PS X (.Try body (h₀::hs) [] [] pos) (He tb th):=by
 intro pins s σ H D I h
 refine wpAny_Try_except ?_
 have o:=I.ok
 have ps:bO (dy X.prog X.w X.base) (X.y4b1 (X.pn++pins) λe s1=>∃σ H s0,Inv X pins σ H s0/\dy X.prog X.w X.base X.stack H s0 (λCv xo H'=>∀x C dct,Cv=.ref C->xo=some x->H' x=some (cE x C dct false)->th x C D H') e s1)
   (λCv xo H'=>∀x C dct,Cv=.ref C->xo=some x->H' x=some (cE x C dct false)->th x C D H') :=
  λy34d σ' H' s0 e s' J cx=>⟨σ',H',s0,J.y4c9 o,cx⟩
 refine wpAny_mono (hb _ _ _ ps [] s σ H D I.y4b1 h) (λf s1 hsp=>?_) λe s1 hx=>?_
 ·cases f with
  | next=>obtain⟨σ',H',J,q⟩:=hsp;exact zf ⟨σ',H',J.y4c9 o,q⟩
  | brk=>obtain⟨σ',H',J,q⟩:=hsp;exact⟨σ',H',J.y4c9 o,q⟩
  | cont=>obtain⟨σ',H',J,q⟩:=hsp;exact⟨σ',H',J.y4c9 o,q⟩
  | ret u=>obtain⟨v,σ',H',J,r,q⟩:=hsp;exact⟨v,σ',H',J.y4c9 o,r,q⟩
 ·obtain⟨σ',H',s0,J,x,C,dct,a0,H1,rfl,os,bare,un,hok,fl,ex,q⟩:=hx
  have hn:s0.heap.objs.size≤s1.heap.objs.size:=by
   obtain⟨_,_,_,oe,vs,T,oT,ts,he,_,_,_,⟨_,hnn⟩,_,hT,_⟩:=id fl
   exact z1a hnn.1 (Nat.le_of_lt (z14 hT))
  have hf1:∀b∈fM X.stack,H1 b=none:=λb hb=>by
   obtain⟨_,ob,ho,_⟩:=J.stack.mem hb
   exact un.free b ob ho (J.y45e b hb) (by simp)
  refine GI (p:=pK s0.heap.objs.size H1) (λT z=>⟨z1a hn z,hok.fresh z⟩) (o.frames.trans (congrArg some hst)) hfr (hst ▸ fl) λh2 hl up2=>?_
  refine GJ hl λh3 f3 up3=>?_
  have up23:bZ x (pK s0.heap.objs.size H1) (fM X.stack) s1.heap h3:=(up2.mono λb hb=>by rw [hst];exact hb).trans (up3.mono λb hb=>by simp at hb)
  refine hh pins _ x C dct H1 D ⟨o,ex,_,a0,hst ▸ f3,λh' f' up'=>?_⟩ (q x C dct rfl rfl ex)
  obtain⟨u,k⟩:=pL (fs':=fM X.stack) un hok ex hf1 (λb hb=>.inl hb) (up23.trans (up'.mono λb hb=>by simp at hb)) f'.2.2.2
  rw [pJ ex] at u k
  have K1:=J.ya2 (s':={ s1 with heap:=h' }) (ch:=[]) os u k bare (λb z=>absurd z (by simp))
  exact K1.weak (by rw [K1.len];simp) λi v z=>by
   rw [List.getElem?_replicate] at z
   split at z<;>cases z
end
end
end L2
namespace L2
open PySem PySem.Spec PyProof.Rows PySem.W
section
abbrev VE:List Value:=[.type "ValueError",.type "Exception",.type "BaseException",.type "object"]
abbrev jX(K:Frag)(N:Addr):Bool:=match K.lookup N with
 | some ⟨_,_,.dict es _,_⟩=>es.toList.all λe=>match e.key with | .str _ _=>true|_=>false
 | _=>false
def xb{K:Frag}{h:Heap}{N:Addr}(x:K.In h)(e:jX K N=true):∃m,h.Ns N m/\∀name r,nsIn K N name=some r->m name=r:=by
 unfold jX at e
 split at e
 ·rename_i c d es ep sl q
  refine⟨nsFind es,⟨_,es,ep,x _ _ q,rfl,λen he=>?_,λ_=>rfl⟩,λname r z=>?_⟩
  ·have:=z33.mp e en (Array.mem_toList_iff.mpr he)
   split at this
   ·rename_i n t hk;exact⟨n,t,hk⟩
   ·cases this
  ·unfold nsIn at z
   rw [q] at z
   dsimp only at z
   unfold nsFind findBy
   rw [<- Array.find?_toList]
   split at z
   ·rename_i en he;rw [he];exact z20 z
   ·rename_i he;rw [he]
    split at z
    ·cases z
    ·exact z20 z
 ·cases e
abbrev dr(K:Frag):List Value->Bool
 | .ref A::r=>(match K.lookup A with|some ⟨_,_,.cls cd,_⟩=>jX K cd.ns&&decide (nsIn K cd.ns "__init__" = some none)|_=>false)&&dr K r
 | l=>decide (l=VE)
def Hg{K:Frag}{h:Heap}(x:K.In h):∀{l:List Value},dr K l=true->OwnTail h VE l:=by
 intro l
 induction l with
 | nil=>intro e;exact absurd (of_decide_eq_true (show decide (([]:List Value)=VE)=true from e)) (by intro z;cases z)
 | cons a r ih =>
  intro e
  cases a with
  | ref A =>
   have e:((match K.lookup A with|some ⟨_,_,.cls cd,_⟩=>jX K cd.ns&&decide (nsIn K cd.ns "__init__" = some none)|_=>false)&&dr K r)=true:=e
   obtain⟨e1,e2⟩:=z38.mp e
   split at e1
   ·rename_i c0 dd cd sl q
    obtain⟨e3,e4⟩:=z38.mp e1
    obtain⟨m,hn,hm⟩:=xb x e3
    exact .own (x _ _ q) hn (hm _ _ (of_decide_eq_true e4)) (ih e2)
   ·cases e1
  | _=>rw [of_decide_eq_true e];exact .base
abbrev fE(K:Frag)(C:Addr):Bool:=match K.lookup C with
 | some ⟨t,_,.cls cd,sl⟩=>decide (t=.type "type")&&decide (cd.mro.head?=some (.ref C))&&dr K cd.mro.tail && !cd.hasDel&&decide (sl.size=6)&&decide (sl[4]?=some (some (.builtin "ValueError.__new__")))&&jX K cd.ns
 | _=>false
def pN{K:Frag}{h:Heap}{C:Addr}(x:K.In h)(e:fE K C=true):∃nm q N bs bm y1b0 sn sub ab col dd k0 k1 k2 k3 k5 mN cd,h.get? C=some (excClassObj nm q C N bs bm y1b0 sn sub ab col dd k0 k1 k2 k3 k5 "ValueError.__new__")/\h.Ns N mN /\
  OwnTail h VE bm/\clsIn K C=some cd/\cd.ns=N/\cd.mro=.ref C::bm/\∀name r,nsIn K N name=some r->mN name=r:=by
 unfold fE at e
 split at e
 ·rename_i t dd cd sl q
  have qc:clsIn K C=some cd:=by unfold clsIn;rw [q]
  obtain⟨nm,bs,mro,N,qn,y1b0,sn,sub,ab,col,hdel⟩:=cd
  simp only [z1b,decide_eq_true_eq,Bool.not_eq_true'] at e
  obtain⟨⟨⟨⟨⟨⟨e1,e2⟩,e3⟩,e4⟩,e5⟩,e6⟩,e7⟩:=e
  obtain⟨m,hn,hm⟩:=xb x e7
  cases mro with
  | nil=>cases e2
  | cons m0 mr =>
   obtain rfl:m0=.ref C:=z20 e2
   obtain⟨l⟩:=sl
   obtain⟨k0,k1,k2,k3,k5,rfl⟩:=six_places (l:=l) (by simpa using e5) (by simpa using e6)
   subst e1 e4
   exact⟨nm,qn,N,bs,mr,y1b0,sn,sub,ab,col,dd,k0,k1,k2,k3,k5,m,_,x _ _ q,hn,Hg x e3,qc,rfl,rfl,hm⟩
 ·cases e
abbrev xc(K:Frag)(C f:Addr):Bool:=(clsIn K C).any (λcd=>decide (nsIn K cd.ns "__init__" = some (some (.ref f))))&&decide (typeIn K (.ref f)=some (.type "function"))
def xf{K:Frag}{C f:Addr}(e:fE K C=true)(i:xc K C f=true):y57 K C f "ValueError" "ValueError.__new__" "ValueError.__new__" "ValueError.__init__" "ValueError.__init__" VE VE:=by
 obtain⟨i1,i2⟩:=z38.mp i
 have F:=PySem.F.excBase_ValueError
 refine⟨F,by decide,F,λh x=>?_,λh x=>?_⟩
 ·obtain⟨nm,q,N,bs,bm,y1b0,sn,sub,ab,col,dd,k0,k1,k2,k3,k5,mN,cd,h1,h2,h3,h4,h5,h6,h7⟩:=pN x e
  rw [h4] at i1
  subst h5
  exact⟨nm,q,_,bs,bm,y1b0,sn,sub,ab,col,dd,k0,k1,k2,k3,k5,mN,h1,h2,h7 _ _ (of_decide_eq_true i1),h3⟩
 ·have z:=of_decide_eq_true i2
  unfold typeIn at z
  obtain⟨o,q,c⟩:=Option.map_eq_some_iff.mp z
  exact⟨o,x _ _ q,c⟩
def Hh{K:Frag}{C:Addr}(e:fE K C=true):qN K C:=λh x=>by
 obtain⟨nm,q,N,bs,bm,y1b0,sn,sub,ab,col,dd,k0,k1,k2,k3,k5,mN,cd,h1,h2,h3,_⟩:=pN x e
 exact⟨nm,q,N,bs,bm,y1b0,sn,sub,ab,col,dd,k0,k1,k2,k3,k5,_,h1,h3.hasType (by decide)⟩
def Hi{K:Frag}{C c:Addr}{b:Bool}(e:fE K C=true)(s:(clsIn K C).map (λcd=>cd.mro.contains (.ref c))=some b):pM K C c b:=λh x=>by
 obtain⟨nm,q,N,bs,bm,y1b0,sn,sub,ab,col,dd,k0,k1,k2,k3,k5,mN,cd,h1,h2,h3,h4,h5,h6,_⟩:=pN x e
 rw [h4] at s
 refine⟨nm,q,N,bs,bm,y1b0,sn,sub,ab,col,dd,k0,k1,k2,k3,k5,_,h1,?_⟩
 rw [<- h6]
 exact z20 s
end
section
def xg{K:Frag}{p:List Value->Prop}(b:p VE)(s:∀A r,p r->p (.ref A::r)):∀{l:List Value},dr K l=true->p l:=by
 intro l
 induction l with
 | nil=>intro e;exact absurd (of_decide_eq_true (show decide (([]:List Value)=VE)=true from e)) (by intro z;cases z)
 | cons a r ih =>
  intro e
  cases a with
  | ref A=>exact s A r (ih (z38.mp e).2)
  | _=>rw [of_decide_eq_true e];exact b
def xh{K:Frag}{C:Addr}(e:fE K C=true):∃cd bm,clsIn K C=some cd/\cd.mro=.ref C::bm/\dr K bm=true:=by
 unfold fE at e
 split at e
 ·rename_i t dd cd sl q
  have qc:clsIn K C=some cd:=by unfold clsIn;rw [q]
  simp only [z1b,decide_eq_true_eq,Bool.not_eq_true'] at e
  obtain⟨⟨⟨⟨⟨⟨e1,e2⟩,e3⟩,e4⟩,e5⟩,e6⟩,e7⟩:=e
  cases hm:cd.mro with
  | nil=>rw [hm] at e2;cases e2
  | cons m0 mr =>
   rw [hm] at e2 e3
   obtain rfl:m0=.ref C:=z20 e2
   exact⟨cd,mr,qc,hm,e3⟩
 ·cases e
abbrev jY(K:Frag)(C:Addr):Bool:=fE K C&&hasDictIn K C&&decide (findIn K (.ref C) "__getattribute__" = some (some (.builtin "BaseException.__getattribute__")))&&decide (findIn K (.ref C) "__getattr__" = some none)&&decide (findIn K (.ref C) "__setattr__" = some (some (.builtin "object.__setattr__")))
def xk{K:Frag}{C:Addr}(e:jY K C=true):XA K C:=by
 unfold jY at e
 simp only [z1b,decide_eq_true_eq] at e
 obtain⟨⟨⟨⟨e1,e2⟩,e3⟩,e4⟩,e5⟩:=e
 obtain⟨cd,bm,h1,h2,h3⟩:=xh e1
 have has:∀t,VE.contains (.type t)=true->cd.mro.contains (.type t)=true:=λt z=>by
  rw [h2,List.contains_cons,xg (p:=λl=>l.contains (.type t)=true) z (λA r q=>by rw [List.contains_cons,q,Bool.or_true]) h3,Bool.or_true]
 refine⟨e3,e4,e5,cd,h1,?_,has "object" (by decide),has "BaseException" (by decide),λself=>?_⟩
 ·unfold hasDictIn at e2;rw [h1] at e2;exact e2
 ·rw [h2,refuseLoop_ref]
  exact xg (p:=λl=>refuseLoop self "__setattr__" l=pure ()) (PySem.F.store_ValueError.passes self) (λA r q=>by rw [refuseLoop_ref];exact q) h3
section
variable {P:Program}{w:World}{K:W.Frag}{mg:Str->Option Value}{base:Heap}
def Fun.okX{x qual:Str}{st:Stmt}{f:Addr}{fd:FuncData}{N ps:List Str}{k:Nat}{sp:Sp}(F:Fun K x qual st f fd)(S:y40 N ps (bp st))(len:∀vs H Q E,sp vs H Q E->vs.length=ps.length)
  (y1ac:∀(cdv:Value) (A:Around) (outer:List Env) (s:Shared) (H:Hp) (vs:List V) (Q:VK) (E:XK),y4e k (A.deeper (envOfC qual (bp st) s.heap.objs.size f cdv))->sp vs H Q E ->
   ∃t,dI (ei (dy P w base) P w K mg base N qual (bp st) f cdv A outer s H E) (jB st) t/\t { nx:=λ_ H'=>Q .non H',rt:=Q } (start N vs) H):y3f P w K mg base (dy P w base) (k+1) f fd ps sp:=by
 obtain⟨oc,od,kV,doc,pm,an,cdv,ct,osl,rfl,lk,hcd⟩:=F.ex
 exact sh lk hcd S len λA outer s H vs Q E hr hsp=>y1ac cdv A outer s H vs Q E hr hsp
end
end
end L2
namespace L2
open PySem PySem.Spec PyProof.Rows
section
structure XI(K:W.Frag)(D:Addr):Prop where
 ha:W.findIn K (.ref D) "__class__" = some (some (.builtin "object.__class__"))
 hn:W.specialIn K (.builtin "object.__class__") "__get__" = some (some (.builtin "getset_descriptor.__get__"))
 htk:W.takesIn K (.builtin "object.__class__")=some true
 hm:W.mroIn K D (.type "object")=some true
section
variable {K:W.Frag}{x D:Addr}
open PySem.W in
def Hj{prog:Program}{w:World}{A:Around}{E:Value->Shared->Prop}{Q:Option Value->Shared->Prop}{s:Shared}{ox od:Obj}(c:XA K D)(i:XI K D)(X:K.In s.heap)(I:InstAt s.heap x ox D (some od))(h:Q (some (.ref D)) { s with toks:=s.toks+1 }) :
  wpAny (model prog w) A (getAttr? (.ref x) "__class__") Q E s:=by
 obtain⟨cd,hcl,hd',ho,hb,_⟩:=c.cd
 have ne:cd.mro.isEmpty=false:=by cases q:cd.mro with|nil=>rw [q] at ho;simp at ho|cons _ _=>rfl
 have hf:findObj K D (some od) "__class__" = some (.bind (.builtin "getset_descriptor.__get__") (.builtin "object.__class__")):=findObj_data (by rw [hcl];rfl) i.ha i.hn i.htk
 have L0:=I.type (M:=model prog w)
 have L1:=looks_findIn (M:=model prog w) X c.ga
 have L2:=looks_findIn (M:=model prog w) X c.gt
 have L3:=looks_find (M:=model prog w) X I hf
 have sub:Looks (model prog w) s.heap (isInstance (.ref x) (.type "BaseException")) true:=L0.andThen (looks_mroIn X (by unfold mroIn;rw [hcl,Option.bind_some,if_neg (by rw [ne];decide),hb]))
 obtain⟨hh',g,d,t,os⟩:=s
 have hx0:(false&&onTheHeap (Value.builtin "BaseException.__getattribute__"))=false:=rfl
 have hk:builtinKind "BaseException.__getattribute__" = some .slot:=by decide +kernel
 have y1bc:splitId "BaseException.__getattribute__" = some ("BaseException","__getattribute__"):=by decide +kernel
 have FA:=PySem.F.excAttr_ValueError.ga
 unfold getAttr? getAttrBy? getAttrBy
 refine za (wpAny_mkText (za (wpAny_attempt (wpAny_holding (za (L0.at (za (L1.at ?_))))))))
 show wpAny _ _ (getAttrByItsOwn _ _ _ _ _ _) _ _ _
 refine za (L2.at (za ?_))
 refine wpAny_attempt (wpAny_holding ?_)
 unfold callGetattribute
 rw [if_neg (by rw [hx0];decide)]
 unfold boundAndCalled
 rw [FA.bind]
 refine za (zf (wpAny_call (codeAny_call_builtin FA.plain F.entry_bexc_ga (@check_slot (model prog w) _ _ _ "BaseException.__getattribute__" "BaseException" "__getattribute__" (.ref x) [.str "__class__" t] [] _ hk y1bc sub (F.args_bexc_ga _ _) ?_))))
 refine za (zf (za (zf (za (L0.at (za (L3.at ?_)))))))
 show wpAny _ _ (holding [.builtin "object.__class__"] (call (.builtin "getset_descriptor.__get__") [.builtin "object.__class__",.ref x,.ref D]) >>= PySem.ret) _ _ _
 refine za (wpAny_holding (wpAny_call (class_get (s:=⟨hh',g,d,t+1,os⟩) (ox:=ox) (od:=some od) X I i.hm ?_)))
 refine zf ?_
 show wpAny _ _ (handedOut (.ref D)) _ _ _
 rw [handedOut_of (v:=.ref D) rfl]
 exact zf (zf h)
open PySem.W in
def xl{ox od:Obj}(c:XA K D)(i:XI K D):KitX K (.ref x) (.ref D) (λh=>InstAt h x ox D (some od)) where
 ty:=λ_ _ _ I=>I.type
 it:=λ_ _ X _=>by
  obtain⟨cdD,hcD,_⟩:=c.cd
  unfold clsIn at hcD
  split at hcD
  ·rename_i c' d' cd' sl' ho
   intro A' Q' E' s' k q
   unfold isType loadHead
   exact za (wpAny_loadPart (k _ _ (X _ _ ho)) (zf q))
  ·cases hcD
 ne:=λh tp dd its n sl X htp=>by
  obtain⟨cdD,hcD,_⟩:=c.cd
  refine Bool.eq_false_iff.mpr λq=>?_
  have e:D=tp:=Value.ref.inj (beq_iff_eq.mp q)
  subst e
  unfold clsIn at hcD
  split at hcD
  ·rename_i c' d' cd' sl' ho
   have z:=(X _ _ ho).symm.trans htp
   cases z
  ·cases hcD
 ca:=λX I k=>Hj c i X I k
def Hk{X:Cx}{b new:Bool}{c:Value}{dx:Addr}{fs:List (Str×V)}(xa:XA X.K D)(xi:XI X.K D)(e:W.kitOne X.K (.ref D) c=some b){pins:List (Addr×Obj)}{σ:St}{H:Hp}{s:Shared}{A:Around}{E:Value->Shared->Prop}{Q:Value->Shared->Prop}
  (I:Inv X pins σ H s) (ex:H x=some (cE x D (some dx) new)) (ed:H dx=some (hR dx fs)) (h:∀tk,Q (.bool b) { s with toks:=tk }):wpAny (model X.prog X.w) A (call (.builtin "isinstance") [.ref x,c]) Q E s:=by
 obtain⟨o,vs,a0,h1,h2,h3,h4,_⟩:=gu I.hok ex
 obtain⟨_,mA,hm,_⟩:=pI I.hok ed
 obtain⟨od,hod,_⟩:=kN hm
 obtain⟨oc,odi,oda,osl⟩:=o
 dsimp only at h2 h3 h4
 subst h2 h3 h4
 exact W.kia_one (xl (ox:=⟨.ref D,some dx,.fields vs,osl⟩) (od:=od) xa xi) I.kIn ⟨h1,rfl,rfl,hod⟩ e (λz=>nomatch z) h
end
end
end L2
namespace B
open PySem PySem.Spec PyProof.Rows L2
section
section
variable {K:W.Frag}{κ:Str->Addr}{ι ι1 fp fq:List Addr}{H H1:Hp}{D:Ends}{E:XK}{σ:L2.St}
abbrev XP(K:W.Frag)(κ:Str->Addr)(E:XK)(ι fp:List Addr)(H:Hp)(c:Str)(fs:List (Str×I))(G':List M):Prop :=
 ∀x dx fvs ι' H',H' x=some (cE x (κ c) (some dx) false)->H' dx=some (hR dx fvs)->fvs.map (·.1)=fs.map (·.1)->y4f K ι' H' (fvs.map (·.2)) (fs.map (·.2))->SR K κ ι' H' [] [] G'->Step ι fp H ι' ι' H'->E (.ref (κ c)) (some x) H'
abbrev xo:Fl->Option (Str×List (Str×I)×List M)
 | .rt (.ow (.obj c fs)) G=>some (c,fs,G)
 | _=>none
abbrev kz(K:W.Frag)(κ:Str->Addr)(E:XK)(ι fp:List Addr)(H:Hp)(D:Ends)(fl:Fl):Prop:=match xo fl with
 | some (c,fs,G')=>XP K κ E ι fp H c fs G'
 | none=>yf K κ ι fp H D fl
abbrev bZ(K:W.Frag)(κ:Str->Addr)(E:XK)(f:SF):TS:=λD σ H=>∃ι Z G fl,SR K κ ι H σ Z G/\f Z G=some fl/\kz K κ E ι (own σ Z++ι) H D fl
def XP.step{c:Str}{fs:List (Str×I)}{G':List M}(st:Step ι fp H ι1 fq H1)(h:XP K κ E ι fp H c fs G'):XP K κ E ι1 fq H1 c fs G':=λx dx fvs ι' H' a b c d e t=>h x dx fvs ι' H' a b c d e (st.trans t)
theorem kz.step{fl:Fl}(st:Step ι fp H ι1 fq H1)(h:kz K κ E ι fp H D fl):kz K κ E ι1 fq H1 D fl:=by
 unfold kz at h ⊢
 split
 ·rename_i c fs G' e
  rw [e] at h
  exact h.step st
 ·rename_i e
  rw [e] at h
  exact yf.step st h
def bZ.of{f:SF}{fl:Fl}{Z1:De}{G1:List M}(s:SR K κ ι1 H1 σ Z1 G1)(st:Step ι fp H ι1 (own σ Z1++ι1) H1)(eq:f Z1 G1=some fl)(k:kz K κ E ι fp H D fl):bZ K κ E f D σ H1:=⟨ι1,Z1,G1,fl,s,eq,k.step st⟩
abbrev fF(f:SF):SF:=λZ G=>match f Z G with
 | some fl=>if (xo fl).isNone then some fl else none
 | none=>none
def xm{f:SF}(h:bZ K κ E (fF f) D σ H):cT K κ f D σ H:=by
 obtain⟨ι,Z,G,fl,s,eq,k⟩:=h
 unfold fF at eq
 split at eq
 ·rename_i fl' e1
  split at eq
  ·rename_i hx
   have e:xo fl'=none:=Option.isNone_iff_eq_none.mp hx
   cases eq
   unfold kz at k
   rw [e] at k
   exact⟨ι,Z,G,_,s,e1,k⟩
  ·cases eq
 ·cases eq
def Hl{a b:SF}(h:bZ K κ E (ak a b) D σ H):kI (bZ K κ E a) (bZ K κ E b) D σ H:=by
 obtain⟨ι,Z,G,fl,s,eq,k⟩:=h
 unfold ak at eq
 split at eq
 ·rename_i Z1 G1 e1
  refine⟨ι,Z,G,_,s,e1,?_⟩
  exact λσ' ι' H' s' t=>bZ.of s' t eq k
 ·rename_i r hn
  refine⟨ι,Z,G,_,s,eq,?_⟩
  unfold kz at k ⊢
  cases fl with
  | nx Z' G'=>exact absurd eq (hn Z' G')
  | bk Z' G'=>exact k
  | ct Z' G'=>exact k
  | rt x G'=>exact k
def Hm{c:Mo Bool}{a b:SF}(h:bZ K κ E (aF c a b) D σ H):nK (c8 K κ c) (bZ K κ E a) (bZ K κ E b) D σ H:=by
 obtain⟨ι,Z,G,fl,s,eq,k⟩:=h
 unfold aF at eq
 split at eq
 ·rename_i Z1 G1 e1
  exact⟨ι,Z,G,true,Z1,G1,s,e1,λι' H' s' t=>by dsimp only;rw [if_pos rfl];exact bZ.of s' t eq k⟩
 ·rename_i Z1 G1 e1
  exact⟨ι,Z,G,false,Z1,G1,s,e1,λι' H' s' t=>by dsimp only;rw [if_neg z13];exact bZ.of s' t eq k⟩
 ·cases eq
def Hn{f:IF}{g:GF}{b:SF}(h:bZ K κ E (dh f g b) D σ H):nQ (nr K κ f) (nq K κ g) (bZ K κ E b) D σ H:=by
 obtain⟨ι,Z,G,fl,s,eq,k⟩:=h
 unfold dh at eq
 split at eq
 ·rename_i w es Z1 G1 e1
  refine⟨ι,Z,G,w,es,Z1,G1,s,e1,λJ vs ι1 H1 a wk=>?_⟩
  refine⟨λi m σ' H'=>i+m=w.n/\∃ι' Z' G',σ'.length=Z'.length/\SR K κ ι' H' (σ'++tS es vs) (Z'++tD es) G'/\Step ι (own σ Z++ι) H ι' (own (σ'++tS es vs) (Z'++tD es)++ι') H'/\bC w g b i m Z' G'=some fl,
   ⟨w.n,by lia,ι1,Z1,G1,a.ar.l,a.ar.sr,a.st,eq⟩,?_⟩
  rintro i m σ' H' ⟨him,ι',Z',G',l,s',st,e⟩
  have sub:∀a,a∈own σ' Z'++ι'->a∈own (σ'++tS es vs) (Z'++tD es)++ι':=λa ha=>cj l ha
  cases m with
  | zero =>
   have hi:i=w.n:=by lia
   subst hi
   unfold bC at e
   split at e
   ·rename_i hf
    cases e
    exact .inl ⟨wk.stop hf l s',k _ _ _ (s'.pop l) (st.sub sub)⟩
   ·cases e
  | succ m =>
   unfold bC at e
   split at e
   ·rename_i d hd
    obtain⟨go,yl⟩:=wk.go (by lia) hd l s'
    refine .inr ⟨go,λσ2 H2=>∃ι2 Z2 G2,σ2.length=Z2.length/\SR K κ ι2 H2 (σ2++tS es vs) (Z2++tD es) G2/\Step ι (own σ Z++ι) H ι2 (own (σ2++tS es vs) (Z2++tD es)++ι2) H2/\bC w g b (i+1) m Z2 G2=some fl,
     λσ2 H2 q=>⟨m,z37 _,by lia,q⟩,λx H3 hy=>?_⟩
    obtain⟨sm,rx⟩:=yl x H3 hy
    have s3:=s'.same sm
    have st3:=st.trans (Step.same sm)
    split at e
    ·rename_i Z4 G4 e4
     have p:=(s3.pop l).push_im rx
     refine⟨ι',Z',G',.im d,Z4,G4,l,p,e4,λσ4 ι4 H4 s4 st4=>?_⟩
     rw [dP l] at st4
     have jn:∀{σ5:L2.St} {Z5:De} {G5:List M} {ι5:List Addr} {H5:Hp},SR K κ ι5 H5 σ5 Z5 G5->Step ι4 (own σ4 Z4++ι4) H4 ι5 (own σ5 Z5++ι5) H5 ->
       SR K κ ι5 H5 (σ5++tS es vs) (Z5++tD es) G5/\Step ι (own σ Z++ι) H ι5 (own (σ5++tS es vs) (Z5++tD es)++ι5) H5:=λ{σ5 Z5 G5 ι5 H5} s5 st5=>by
      have j:=SR.join s3 l (by rw [z11,z11];exact s5) s5.len (by rw [z11,z11];exact st4.trans st5)
      rw [z11,z11] at j
      exact⟨j.1,st3.trans j.2⟩
     have wide4:Step ι (own σ Z++ι) H ι4 (own σ4 Z4++ι4) H4:=st3.trans ((st4.wide λy hy=>cj l hy))
     split at e
     ·rename_i Z5 G5 e5
      exact⟨ι4,Z4,G4,_,s4,e5,λσ5 ι5 H5 s5 st5=>⟨ι5,Z5,G5,s5.len,(jn s5 st5).1,(jn s5 st5).2,e⟩⟩
     ·rename_i Z5 G5 e5
      exact⟨ι4,Z4,G4,_,s4,e5,λσ5 ι5 H5 s5 st5=>⟨ι5,Z5,G5,s5.len,(jn s5 st5).1,(jn s5 st5).2,e⟩⟩
     ·rename_i Z5 G5 e5
      cases e
      exact⟨ι4,Z4,G4,_,s4,e5,λσ5 ι5 H5 s5 st5=>k _ _ _ s5 ((jn s5 st5).2.sub λa ha=>cj s5.len ha)⟩
     ·rename_i x5 G5 e5
      cases e
      refine⟨ι4,Z4,G4,_,s4,e5,?_⟩
      unfold kz at k ⊢
      split at k
      ·rename_i c fs G' ex
       exact XP.step wide4 k
      ·rename_i ex
       exact λv ι5 H5 s5 st5=>k _ _ _ s5 ((jn s5 st5).2.sub λa ha=>cj s5.len ha)
     ·cases e
    ·cases e
   ·cases e
 ·cases eq
abbrev mn(K:W.Frag)(κ:Str->Addr)(ι fp:List Addr)(H:Hp)(Q:VK)(E:XK)(x:Vl)(G':List M):Prop:=match x with
 | .ow (.obj c fs)=>XP K κ E ι fp H c fs G'
 | x=>∀v ι' H',SR K κ ι' H' [some v] [some x] G'->Step ι fp H ι' (own [some v] [some x]++ι') H'->Q v H'
abbrev jZ(K:W.Frag)(κ:Str->Addr)(n:Nat)(fn:FF):Sp:=λvs H Q E=>∃ι xs G x G',xs.length=n/\SR K κ ι H (vs.map some) (xs.map some) G/\fn xs G=some (x,G')/\mn K κ ι (own (vs.map some) (xs.map some)++ι) H Q E x G'
def Ho{Q:VK}{x:Vl}{G':List M}(h:mn K κ ι fp H Q E x G')(v:V)(ι':List Addr)(H':Hp)(e:xo (.rt x G')=none)(s:SR K κ ι' H' [some v] [some x] G')(t:Step ι fp H ι' (own [some v] [some x]++ι') H'):Q v H':=by
 unfold mn at h
 split at h
 ·cases e
 ·exact h v ι' H' s t
def xn{n r:Nat}{body:SF}{vs:List V}{Q:VK}(h:jZ K κ n (aU n r body) vs H Q E):vs.length=n/\bZ K κ E body { nx:=λ_ H'=>Q .non H',rt:=Q } (vs.map some++List.replicate r none) H:=by
 obtain⟨ι,xs,G,x,G',hl,s,eq,k⟩:=h
 have lv:vs.length=n:=by have:=s.len;rw [z12,z12] at this;lia
 refine⟨lv,?_⟩
 unfold aU at eq
 rw [if_pos hl] at eq
 obtain⟨s0,e0⟩:=s.y295 r
 split at eq
 ·rename_i x' G1 e1
  cases eq
  refine⟨ι,_,G,_,s0,e1,?_⟩
  rw [e0]
  unfold kz
  split
  ·rename_i c fs G2 ex
   unfold xo at ex
   split at ex
   ·rename_i c2 fs2 G3 ez
    cases ex
    cases ez
    exact k
   ·cases ex
  ·rename_i ex
   exact λv ι' H' s' st=>Ho k v ι' H' ex s' st
 ·rename_i Z1 G1 e1
  cases eq
  refine⟨ι,_,G,_,s0,e1,?_⟩
  rw [e0]
  intro σ' ι' H' s' st
  obtain⟨p,q⟩:=SR.last (s'.push_im .non) s'.len
  refine k _ _ _ p (st.sub λa ha=>?_)
  have:=q a ha
  rw [dP s'.len] at this
  exact this
 ·cases eq
end
end
section
abbrev pO(f:Mo Ev):SF:=λZ G=>match f Z G with
 | some (.v (.ow (.obj c fs)),_,G1)=>some (.rt (.ow (.obj c fs)) G1)
 | some (_,Z1,G1)=>some (.nx Z1 G1)
 | none=>none
abbrev pP(f:Mo Ev)(g:GF):SF:=λZ G=>match f Z G with
 | some (.v (.ow (.obj c fs)),_,G1)=>some (.rt (.ow (.obj c fs)) G1)
 | some (.v x,Z1,G1)=>match g x Z1 G1 with
  | some (Z2,G2)=>some (.nx Z2 G2)
  | none=>none
 | _=>none
abbrev mq(c:Str)(fns:List Str)(fa:Mo (List Ev)):SF:=λZ G=>match fa Z G with
 | some (es,_,G1)=>match je es with
  | some ds=>if ds.length=fns.length then some (.rt (.ow (.obj c (fns.zip ds))) G1) else none
  | none=>none
 | none=>none
abbrev Hq(C:Addr)(fns:List Str):Sp:=λvs H Q _=>∃x us,vs=.ref x::us/\us.length=fns.length/\H x=some (cE x C none true)/\∀dx,H dx=none->Q .non (aH (aH H dx (hR dx (fns.zip us))) x (cE x C (some dx) true))
structure ClN(P:Program)(w:World)(K:W.Frag)(mg:Str->Option Value)(base:Heap)(x:Str)(C:Addr)(fns:List Str):Prop where
 ex:∃f fd,y57 K C f "ValueError" "ValueError.__new__" "ValueError.__new__" "ValueError.__init__" "ValueError.__init__" VE VE/\y3f P w K mg base bH 1 f fd ("self"::fns) (Hq C fns)/\cQ K fd ("self"::fns) []/\mg x=some (.ref C)/\W.keepIn K (.ref C)=true
 ln:fns.length≤100
abbrev xp(P:Program)(w:World)(K:W.Frag)(mg:Str->Option Value)(base:Heap)(x:Str)(k:Nat)(ps:List Str)(sp:Sp):Prop :=
 ∃(f:Addr) (fd:FuncData),mg x=some (.ref f)/\W.keepIn K (.ref f)=true/\cQ K fd ps []/\y3f P w K mg base (dy P w base) k f fd ps sp
section
variable {K:W.Frag}{κ:Str->Addr}{ι:List Addr}{H:Hp}{D:Ends}{E:XK}{σ:L2.St}{n:Nat}{fn:FF}{es:List Ev}{vs:List V}{Z Z':De}{G G':List M}{Q:VK}{fa:Mo (List Ev)}
def mv{x:Vl}(a:Args K κ ι H σ Z G es vs)(h:aB n fn es Z G=some (.v x,Z',G'))
  (k:(∀c fs,x≠.ow (.obj c fs))->∀v ι' H',After K κ σ ι (own (σ++tS es vs) (Z++tD es)++ι) H [.v x] Z' G' [v] ι' H'->Q v H')
  (kx:∀c fs,x=.ow (.obj c fs)->XP K κ E ι (own (σ++tS es vs) (Z++tD es)++ι) H c fs G'):jZ K κ n fn vs H Q E:=by
 unfold aB at h
 split at h
 ·rename_i xs hx
  split at h
  ·rename_i hl
   split at h
   ·rename_i x' G1 e1
    cases h
    obtain⟨t1,t2⟩:=oN hx a.len
    have sr:=a.sr
    rw [t1,t2] at sr k kx
    have sw:=sr.swap a.l
    have lt:(vs.map some).length=(xs.map some).length:=Paired.length (cf a.l sr.sl).2
    refine⟨ι,xs,G,x,_,hl,sw.pop lt,e1,?_⟩
    unfold mn
    split
    ·rename_i c fs
     exact (kx c fs rfl).step ((Step.refl _ _ _).sub λy hy=>iM a.l lt (cj lt hy))
    ·rename_i hne
     intro v ι' H' s st
     have s':SR K κ ι' H' ([some v]++[]) ([some x]++[]) _:=s
     obtain⟨j1,j2⟩:=SR.join sw lt s' rfl st
     rw [z11,z11] at j1 j2
     refine k (λc fs z=>hne c fs z) v ι' H' ⟨⟨a.l,j1.swap rfl,.cons (λ_ h=>by cases h) .nil⟩,(j2.wide λy hy=>iM a.l lt hy).sub λy hy=>?_⟩
     exact iM rfl a.l hy
   ·cases h
  ·cases h
 ·cases h
def ya4{e:Ev}(h:aB n fn es Z G=some (e,Z',G')):∃x,e=.v x:=by
 unfold aB at h
 split at h
 ·split at h
  ·split at h
   ·cases h;exact⟨_,rfl⟩
   ·cases h
  ·cases h
 ·cases h
def xq{sp:Sp}{ta:TA}(h:ta σ H λvs H1=>sp vs H1 Q E):eX sp [] E ta σ H Q:=by
 unfold eX
 simpa only [z11] using h
def Hr(h:bZ K κ E (pO (bd fa (aB n fn))) D σ H):nJ (eX (jZ K κ n fn) [] E (fV K κ fa)) D σ H:=by
 obtain⟨ι,Z,G,fl,s,eq,k⟩:=h
 refine xq ?_
 unfold pO at eq
 split at eq
 ·rename_i c fs Z1 G1 e0
  cases eq
  obtain⟨es,Z2,G2,e1,e2⟩:=bY e0
  refine⟨ι,Z,G,es,Z2,G2,s,e1,λvs ι1 H1 a=>mv a.ar e2 (λz=>absurd rfl (z c fs)) λc' fs' z=>?_⟩
  cases z
  exact XP.step a.st k
 ·rename_i e Z1 G1 hn e0
  cases eq
  obtain⟨es,Z2,G2,e1,e2⟩:=bY e0
  obtain⟨x,rfl⟩:=ya4 e2
  refine⟨ι,Z,G,es,Z2,G2,s,e1,λvs ι1 H1 a=>mv a.ar e2 (λ_ v ι2 H2 b=>?_) λc' fs' z=>?_⟩
  ·obtain⟨p,q⟩:=(a.then b).drop
   exact k _ _ _ p q
  ·cases z
   exact absurd rfl (hn c' fs')
 ·cases eq
def Hs{g:GF}(h:bZ K κ E (pP (bd fa (aB n fn)) g) D σ H):fQ (eX (jZ K κ n fn) [] E (fV K κ fa)) (nq K κ g) D σ H:=by
 obtain⟨ι,Z,G,fl,s,eq,k⟩:=h
 refine xq ?_
 unfold pP at eq
 split at eq
 ·rename_i c fs Z1 G1 e0
  cases eq
  obtain⟨es,Z2,G2,e1,e2⟩:=bY e0
  refine⟨ι,Z,G,es,Z2,G2,s,e1,λvs ι1 H1 a=>mv a.ar e2 (λz=>absurd rfl (z c fs)) λc' fs' z=>?_⟩
  cases z
  exact XP.step a.st k
 ·rename_i x Z1 G1 hn e0
  split at eq
  ·rename_i Z2 G2 eg
   cases eq
   obtain⟨es,Z3,G3,e1,e2⟩:=bY e0
   refine⟨ι,Z,G,es,Z3,G3,s,e1,λvs ι1 H1 a=>mv a.ar e2 (λ_ v ι2 H2 b=>?_) λc' fs' z=>?_⟩
   ·have ab:=a.then b
    exact⟨ι2,Z1,G1,x,Z2,G2,ab.ar.l,ab.ar.sr,eg,λσ' ι3 H3 s3 st=>k _ _ _ s3 (ab.st.trans st)⟩
   ·cases z
    exact absurd rfl (hn c' fs')
  ·cases eq
 ·cases eq
def Ht{H:Hp}{a b:Addr}{o o' o2 u:HO}(ne:b≠a):aH (aH (aH (aH H a o) b u) a o') a o2=aH (aH H b u) a o2:=by
 rw [qY]
 funext c;unfold aH
 by_cases h1:c=a
 ·simp [h1]
 ·by_cases h2:c=b<;>simp [h1,h2]
theorem pQ{α β:Type}:∀{a:List α} {b:List β},b.length=a.length->(a.zip b).map (·.1)=a/\(a.zip b).map (·.2)=b
 | [],[],_=>⟨rfl,rfl⟩
 | x::a,y::b,h=>by
  obtain⟨p,q⟩:=pQ (a:=a) (b:=b) (by simpa using h)
  exact⟨by rw [List.zip_cons_cons,z18,p],by rw [List.zip_cons_cons,z18,q]⟩
def SR.bare{H':Hp}(s:SR K κ ι H σ Z G)(sm:dA H H'):SR K κ ι H' [] [] G/\Step ι (own σ Z++ι) H ι ι H':=by
 have z:=s.same sm
 refine⟨⟨.nil,z.gs,λx=>?_⟩,(Step.same sm).sub λa ha=>z24 _ ha⟩
 have:=z.nd x
 have h0:bq x (own ([]:L2.St) ([]:De))=0:=rfl
 lia
def Hu{c:Str}{fns:List Str}(ic:qN K (κ c))(h:bZ K κ E (mq c fns fa) D σ H):w4 K (w6 (κ c) (Hq (κ c) fns) [] E0 (fV K κ fa)) E D σ H:=by
 obtain⟨ι,Z,G,fl,s,eq,k⟩:=h
 unfold mq at eq
 split at eq
 ·rename_i es Z1 G1 e1
  split at eq
  ·rename_i ds hd
   split at eq
   ·rename_i hl
    cases eq
    refine⟨ι,Z,G,es,Z1,G1,s,e1,λvs ι1 H1 a x hx=>?_⟩
    have r:=a.ar.ims hd
    have lv:vs.length=fns.length:=by rw [r.len];exact hl
    refine⟨x,vs,by rw [z11],lv,bg,λdx hdx=>⟨rfl,x,κ c,some dx,rfl,bg,ic,?_⟩⟩
    have ne:dx≠x:=λz=>by rw [z,bg] at hdx;cases hdx
    rw [aR ne] at hdx
    rw [Ht ne]
    have s1:dA H1 (aH H1 dx (hR dx (fns.zip vs))):=dA.lay hdx
    have hx2:aH H1 dx (hR dx (fns.zip vs)) x=none:=by rw [aR ne.symm];exact hx
    have s2:dA H1 (aH (aH H1 dx (hR dx (fns.zip vs))) x (cE x (κ c) (some dx) false)):=λb o e=>dA.lay hx2 b o (s1 b o e)
    obtain⟨z1,z2⟩:=a.ar.sr.bare s2
    obtain⟨f1,f2⟩:=pQ (a:=fns) (b:=vs) lv
    obtain⟨g1,g2⟩:=pQ (a:=fns) (b:=ds) hl
    refine k x dx (fns.zip vs) ι1 _ bg (by rw [aR ne];exact bg) (by rw [f1,g1]) ?_ z1 (a.st.trans z2)
    rw [f2,g2]
    exact r.mono (bW.refl _) (Kp.same s2)
   ·cases eq
  ·cases eq
 ·cases eq
end
end
section
@[irreducible] noncomputable def LX(X:Cx)(κ:Str->Addr)(E:XK)(s:Stmt)(f:SF):Prop:=PS X s (bZ X.K κ E f)
@[irreducible] noncomputable def iy(X:Cx)(κ:Str->Addr)(E:XK)(s:List Stmt)(f:SF):Prop:=dI X s (bZ X.K κ E f)
section
variable {X:Cx}{κ:Str->Addr}{E:XK}{s:Stmt}{ss ss2:List Stmt}{f g:SF}{pos p y3dc:Pos}{x:Str}{k n:Nat}{ps:List Str}{fn:FF}{e c tg it:Expr}{es:List Expr}{fs:Mo (List Ev)}{fc:Mo Bool}{fi:IF}{gf:GF}
def LX.mk(h:PS X s (bZ X.K κ E f)):LX X κ E s f:=by unfold LX;exact h
def LX.pe(h:LX X κ E s f):PS X s (bZ X.K κ E f):=by unfold LX at h;exact h
def iy.mk(h:dI X ss (bZ X.K κ E f)):iy X κ E ss f:=by unfold iy;exact h
def iy.pe(h:iy X κ E ss f):dI X ss (bZ X.K κ E f):=by unfold iy at h;exact h
def xr(h:LS X κ s f):LX X κ E s (fF f):=.mk (cU h.pe λ_ _ _=>xm)
def Hv(h:fY X κ ss f):iy X κ E ss (fF f):=.mk (lO h.pe λ_ _ _=>xm)
def Hw(h:LX X κ E s f)(r:iy X κ E ss g):iy X κ E (s::ss) (ak f g):=.mk (lO (iC h.pe r.pe) λ_ _ _=>Hl)
def Hx(h:LX X κ E s f):iy X κ E [s] f:=.mk (iD h.pe)
def Hy(hc:LT X κ c fc)(ha:iy X κ E ss f)(hb:iy X κ E ss2 g):LX X κ E (.If c ss ss2 pos) (aF fc f g):=.mk (cU (rE hc.pe ha.pe hb.pe) λ_ _ _=>Hm)
def xt(hp:PassesOwn (model X.prog X.w) X.A X.env X.xe)(hi:LI X κ tg it fi)(hg:LG X κ tg gf)(hb:iy X κ E ss f)(hc:‹X.calm=true›)(hs:∀x,foldedSetIterable it X.env x=pure x:=by intro _;rfl):LX X κ E (.For tg it ss [] pos) (dh fi gf f):=.mk (cU (rQ hp hc hi.pe hg.pe hb.pe hs) λ_ _ _=>Hn)
def xu(h:xp X.prog X.w X.K X.mg X.base x k ps (jZ X.K κ n fn))(hx:bO (dy X.prog X.w X.base) X E)(hr:y4e k X.A)(ha:LA X κ (e::es) fs)(hg:‹Gl X x›)
  (hdb:(x == ("__debug__" : Str))=false:=by decide) (he:‹fN X e es›) (hpl:‹eY X pos es›):PE X (.Call (.Name x p) (e::es) [] pos) (eX (jZ X.K κ n fn) [] E (fV X.K κ fs)):=by
 obtain⟨f,fd,hm,hk,hb,G⟩:=h
 exact nZ G hr hg hm hk hb .nil hx ha.pe hdb he hpl
def pR(h:xp X.prog X.w X.K X.mg X.base x k ps (jZ X.K κ n fn))(hx:bO (dy X.prog X.w X.base) X E)(hr:y4e k X.A)(ha:LA X κ (e::es) fs)(hg:‹Gl X x›)
  (hdb:(x == ("__debug__" : Str))=false:=by decide) (he:‹fN X e es›) (hpl:‹eY X pos es›)
  (hs:‹swapsWith (.Call (.Name x p) (e::es) [] pos) none y3dc.line X.env=pure false›):LX X κ E (.Expr (.Call (.Name x p) (e::es) [] pos) y3dc) (pO (bd fs (aB n fn))) :=
 .mk (cU (kJ (xu h hx hr ha hg hdb he hpl) hs) λ_ _ _=>Hr)
def xy(h:xp X.prog X.w X.K X.mg X.base x k ps (jZ X.K κ n fn))(hx:bO (dy X.prog X.w X.base) X E)(hr:y4e k X.A)(ha:LA X κ (e::es) fs)(htg:LG X κ tg gf)(hg:‹Gl X x›)
  (hdb:(x == ("__debug__" : Str))=false:=by decide) (he:‹fN X e es›) (hpl:‹eY X pos es›)
  (hs:‹swapsWithSole [tg] (.Call (.Name x p) (e::es) [] pos) y3dc.line X.env=pure false›) (hw:‹swappedStores [tg] (.Call (.Name x p) (e::es) [] pos) X.env=pure none›)
  (h1:‹(assignEach [tg] X.env).map (·.2)=[assign tg X.env]›):LX X κ E (.Assign [tg] (.Call (.Name x p) (e::es) [] pos) y3dc) (pP (bd fs (aB n fn)) gf) :=
 .mk (cU (iE (xu h hx hr ha hg hdb he hpl) htg.pe hs hw h1) λ_ _ _=>Hs)
def xA{fns:List Str}(h:ClN X.prog X.w X.K X.mg X.base x (κ x) fns)(hx:fD X E)(hr:y4e (1+1) X.A)(ha:LA X κ (e::es) fs)(hg:‹Gl X x›)(hc:‹X.calm=true›)
  (hdb:(x == ("__debug__" : Str))=false:=by decide) (he:‹fN X e es›) (hpl:‹eY X pos es›) :
  LX X κ E (.Raise (some (.Call (.Name x p) (e::es) [] pos)) none y3dc) (mq x fns fs):=by
 obtain⟨f,fd,c1,c2,c3,c4,c5⟩:=h.ex
 have ln:=h.ln
 exact .mk (cU (Hb hc (Hc c1 c5 c2 hr hg c4 c3 .nil tK (by rw [z15];lia) ha.pe hdb he hpl) hx) λ_ _ _=>Hu c1.is)
end
section
variable {P:Program}{w:World}{K:W.Frag}{mg:Str->Option Value}{base:Heap}{κ:Str->Addr}
def Hz{N:List Str}{qual:Str}{scope:Scope}{f:Addr}{cd:Value}{A:Around}{outer:List Env}{s:Shared}{H:Hp}{E:XK}{X:Cx}(e:X=ei (dy P w base) P w K mg base N qual scope f cd A outer s H E):PassesOwn (model X.prog X.w) X.A X.env X.xe:=by
 subst e
 exact PassesOwn.leaving (Q₁:=λe s''=>dy P w base outer H s E e s'')
def xB{x qual:Str}{st:Stmt}{f:Addr}{fd:FuncData}{N ps:List Str}{k n r:Nat}{body:SF}(F:Fun K x qual st f fd)(S:y40 N ps (bp st))(hn:ps.length=n)(hN:N.length=n+r)
  (hb:∀(cdv:Value) (A:Around) (outer:List Env) (s:Shared) (H:Hp) (E:XK),y4e k (A.deeper (envOfC qual (bp st) s.heap.objs.size f cdv))->PassesOwn (model P w) (ei (dy P w base) P w K mg base N qual (bp st) f cdv A outer s H E).A (ei (dy P w base) P w K mg base N qual (bp st) f cdv A outer s H E).env (ei (dy P w base) P w K mg base N qual (bp st) f cdv A outer s H E).xe->bO (dy P w base) (ei (dy P w base) P w K mg base N qual (bp st) f cdv A outer s H E) E ->
   fD (ei (dy P w base) P w K mg base N qual (bp st) f cdv A outer s H E) E->iy (ei (dy P w base) P w K mg base N qual (bp st) f cdv A outer s H E) κ E (jB st) body) :
  y3f P w K mg base (dy P w base) (k+1) f fd ps (jZ K κ n (aU n r body)):=by
 refine F.okX S (λvs H Q E h=>by rw [(xn h).1,hn]) (λcdv A outer s H vs Q E hr h=>⟨_,(hb cdv A outer s H E hr (Hz rfl) GZ GY).pe,?_⟩)
 obtain⟨l,q⟩:=xn h
 unfold L2.start
 have e:N.length-vs.length=r:=by lia
 rw [e]
 exact q
end
end
end B
namespace L2
open PySem PySem.Spec PyProof.Rows
section
abbrev mw:V->Option Value
 | .ref a=>some (.ref a)
 | .ty n=>some (.type n)
 | _=>none
abbrev AD:List V->Option (List Value)
 | []=>some []
 | v::vs=>match mw v,AD vs with
  | some u,some us=>some (u::us)
  | _,_=>none
def ydf{v:V}{u c:Value}(h:mw v=some c)(r:ay v u):u=c:=by
 cases v<;>simp [mw] at h
 ·subst h;exact r
 ·subst h;exact r
theorem ye1:∀{vs:List V} {us cs:List Value},AD vs=some cs->au vs us->us=cs
 | [],_,_,h,.nil=>by cases h;rfl
 | v::vs,_,cs,h,.cons r rs=>by
  unfold AD at h
  split at h
  ·rename_i u us h1 h2
   cases h
   rw [ydf h1 r,ye1 h2 rs]
  ·cases h
abbrev xC(K:W.Frag):List V->Hp->VK->Prop:=λvs H Q=>∃x D dx fs new cv b,vs=[.ref x,cv]/\H x=some (cE x D (some dx) new)/\H dx=some (hR dx fs)/\XA K D/\XI K D/\Q (.bl b) H /\
 ((∃c,mw cv=some c/\W.kitOne K (.ref D) c=some b)∨∃tp cvs cs,cv=.ref tp/\H tp=some (.tup cvs)/\AD cvs=some cs/\W.kitAny K (.ref D) cs=some b)
def HA{X:Cx}:y6 X (.builtin "isinstance") (xC X.K):=by
 intro pins s σ H xs us Q I r ⟨x,D,dx,fs,new,cv,b,e,ex,ed,xa,xi,q,h⟩
 subst e
 cases r with
 | @cons _ u _ us' ru r2 =>
  obtain rfl:u=Value.ref x:=ru
  cases r2 with
  | @cons _ u2 _ AX ru2 r3 =>
   cases r3
   rcases h with⟨c,ec,k⟩| ⟨tp,cvs,cs,rfl,et,ec,k⟩
   ·obtain rfl:=ydf ec ru2
    exact Hk xa xi k I ex ed λtk=>⟨.bl b,H,I.tok tk,rfl,q⟩
   ·obtain rfl:u2=Value.ref tp:=ru2
    obtain⟨_,its,rv,o,ho,hc,hdn,n,hdt⟩:=I.hok tp _ et
    obtain rfl:=ye1 ec rv
    obtain⟨oc,odi,oda,osl⟩:=o
    dsimp only at hc hdn hdt
    subst hc hdn hdt
    obtain⟨o,vs,a0,h1,h2,h3,h4,_⟩:=gu I.hok ex
    obtain⟨_,mA,hm,_⟩:=pI I.hok ed
    obtain⟨od,hod,_⟩:=kN hm
    obtain⟨oc,odi,oda,osl2⟩:=o
    dsimp only at h2 h3 h4
    subst h2 h3 h4
    exact W.kia_tup (xl (ox:=⟨.ref D,some dx,.fields vs,osl2⟩) (od:=od) xa xi) I.kIn ⟨h1,rfl,rfl,hod⟩ ho k (λz=>nomatch z) λtk=>⟨.bl b,H,I.tok tk,rfl,q⟩
def HB{X:Cx}{hs:List ExceptHandler}:PH X hs (λ_ _ _ _=>False):=λ_ _ _ _ _ _ _ _ h=>h.elim
end
end L2
set_option maxHeartbeats 4000000
namespace Q
open PySem PySem.Spec PyProof.Rows L2 B
abbrev top(i:Nat):Stmt:=PySem.Challenge.pw_stepcourt_k06_terms_amiss.main.body.getD i (.Pass ⟨0,0,0,0⟩)
section
variable {P:Program}{w:World}{K:W.Frag}{mg:Str->Option Value}{base:Heap}{C C0 f:Addr}{fd:FuncData}
def HC:y40 ["self","row"] ["self","row"] (bp (ff (top 2) 0)):=ba
def HD(F:Fun K "__init__" "NoText.__init__" (ff (top 2) 0) f fd)(hC:y57 K C f "ValueError" "ValueError.__new__" "ValueError.__new__" "ValueError.__init__" "ValueError.__init__" VE VE)(hA:XA K C)(n:kO K C "row")(h0:y13 K C0 "ValueError.__init__")(g0:mg "CourtError" = some (.ref C0)):y3f P w K mg base bH 1 f fd ["self","row"] (Hq C ["row"]):=by
 refine F.ok HC (λvs H Q E zz=>by obtain⟨x,us,e,l,_⟩:=zz;rw [e,z15,l];rfl) λcdv A outer s H vs Q E hr zz=>?_
 obtain⟨x,us,e,l,ex,k⟩:=zz
 subst e
 match us,l with
 | [v],_ =>
 refine⟨_,iC (kJ (GW (by rfl) g0 h0 hC (bV (pv 0) (bV (pv 1) dM)))) (iD (GU (pv 0) (pv 1) (by rfl))),?_⟩
 exact⟨_,rfl,_,rfl,x,[v],true,none,rfl,(show (1:Nat)≤sizeLine by decide),ex,_,rfl,_,rfl,x,C,true,rfl,ex,hA,n,λdx hd=>k dx hd⟩
end
end Q
namespace Q
open PySem L2 B
noncomputable section
abbrev AE:SF :=
 (aN (ai dj (ai aD (ai cJ (aa 3) (ag (.int 48271))) (ai dj (aa 4) (ag (.int 2147483629)))) (ag (.int 2147483647))) (aG 3))
abbrev xD:FF:=aU 2 3
 (ak (aN (ft (cH (one (az (aa 0) (av (aa 1)) (av (ag (.int 63))))) cL) [] c1 bT (bd (af (aa 0) (af (ai fw (ag (.int 0)) (aa 0)) ae)) dU)) (aG 2))
 (ak (aN (ai aD (ag (.int 7919)) (aa 1)) (aG 3))
 (ak (dh (cH (one (bf (aa 2))) cL) (aG 4)
 AE)
 (ax (pq (jT (ag (.str "seed")) (aa 3) (jT (ag (.str "number")) (ag (.int 0)) (jT (ag (.str "left")) (bf (a7 iR (ft (cH (one (bf (aa 2))) cL) [] c1 (ao (ai gI (aa 0) (ai g9 (ag (.int 10)) (ag (.int 18))))) (aa 0)))) pj))))))))
abbrev pS:Mo Bool:=(eQ (ao (ai a9 (ai aJ (aa 0) (ag (.str "number"))) (ag (.int 0)))) (ao (ai fO (bd (af (ai aJ (aa 0) (ag (.str "left"))) ae) aI) (ag (.int 0)))))
abbrev xE:SF :=
 (dW (aa 0) (ag (.str "number")) (a7 fA (ai aJ (aa 0) (ag (.str "left")))))
abbrev bu:FF:=aU 2 3
 (ak (gH pS
 xE)
 (ak (aN (ai aJ (aa 0) (ag (.str "number"))) (aG 2))
 (ak (aF (ao (ai fO (aa 2) (ag (.int 0))))
 (ak (dW (aa 0) (ag (.str "number")) (ai jL (aa 2) (aa 1)))
 (ax (ai dj (aa 2) (aa 1))))
 aP)
 (ak (aN (ai dj (ai aD (ai cJ (ai aJ (aa 0) (ag (.str "seed"))) (ag (.int 48271))) (ag (.int 7919))) (ag (.int 2147483647))) (aG 3))
 (ak (dW (aa 0) (ag (.str "seed")) (ai dj (ai aD (ai cJ (aa 3) (ag (.int 40692))) (ag (.int 104729))) (ag (.int 2147483399))))
 (ak (aN (ai dj (ai cJ (ai aJ (aa 0) (ag (.str "seed"))) (ai aJ (aa 0) (ag (.str "seed")))) (ag (.int 2147483563))) (aG 4))
 (ax (ai dj (ai aD (ai cJ (ai dj (ai cJ (aa 3) (aa 3)) (ag (.int 2147483629))) (ag (.int 2147483563))) (aa 4)) (aa 1)))))))))
abbrev AF:SF :=
 (ak (aN (ai aD (ai aJ (aa 2) (ai dj (ai aD (aa 5) (ai cJ (ag (.int 7)) (aa 7))) (ag (.int 26)))) (az (aa 3) (av (aa 4)) aC)) (aG 8))
 (cX (iS hG (aa 6) (af (ai aD (ai aD (az (aa 3) aC (av (aa 4))) (aa 8)) (ai aJ (bd (af (ag (.str "")) (af (ag (.str "z")) ae)) aM) (ai jL (ai dj (aa 7) (ag (.int 5))) (ag (.int 4))))) ae))))
abbrev xF:FF:=aU 2 10
 (ak (aN (ag (.str "abcdefghijklmnopqrstuvwxyz")) (aG 2))
 (ak (aN (fP dm (ag (.str "")) (af (ft (cH (af (bd (af (aa 0) (af (ag (.int 5)) ae)) (aB 2 bu)) ae) fj) [2,0] c1 bT (ai aJ (aa 1) (bd (af (aa 2) (af (ag (.int 26)) ae)) (aB 2 bu)))) ae)) (aG 3))
 (ak (aN (bd (af (aa 0) (af (ai aD (bd (af (aa 3) ae) aI) (ag (.int 1))) ae)) (aB 2 bu)) (aG 4))
 (ak (aN (bd (af (aa 0) (af (ag (.int 26)) ae)) (aB 2 bu)) (aG 5))
 (ak (aN (bd ae aM) (aG 6))
 (ak (dh (cH (af (aa 1) ae) fj) (aG 7)
 AF)
 (ak (aN (bd (af (ag (.str "cells")) (af (ag (.str "de")) (af (ag (.str "mains")) (af (ag (.str "setx")) (af (ag (.str "ends")) (af (ag (.str "atx")) (af (ag (.str "i")) (af (ag (.str "calls")) ae)))))))) aM) (aG 9))
 (ak (aN (bd (af (ag (.str "cell")) (af (ag (.str "row")) (af (ag (.str "def")) (af (ag (.str "main")) (af (ag (.str "set")) (af (ag (.str "put")) (af (ag (.str "while")) (af (ag (.str "if")) (af (ag (.str "else")) (af (ag (.str "call")) (af (ag (.str "end")) (af (ag (.str "at")) ae)))))))))))) b9) (aG 10))
 (ak (aN (ft (cH (one (bf (aa 6))) cL) [10] c1 bT (ai aD (aa 0) (ai cJ (ag (.str "q")) (bd (af (ai eT (aa 0) (aa 1)) ae) dD)))) (aG 6))
 (ak (aN (ai aJ (aa 9) (bd (af (aa 0) (af (ag (.int 8)) ae)) (aB 2 bu))) (aG 11))
 (ak (aF (eQ (ao (ai a9 (bd (af (aa 0) (af (ag (.int 3)) ae)) (aB 2 bu)) (ag (.int 1)))) (ao (ai jR (aa 11) (aa 6))))
 (dW (aa 6) (bd (af (aa 0) (af (aa 1) ae)) (aB 2 bu)) (aa 11))
 aP)
 (ax (aa 6)))))))))))))
abbrev j0:Nat->FF
 | 0=>λ_ _=>none
 | n+1=>aU 1 0
   (ak (aF (ao (ai a9 (ai aJ (aa 0) (ag (.int 0))) (ag (.str "op"))))
   (ax (ai aD (ai aD (ag (.str "(")) (fP dm (ag (.str " ")) (af (bd (af (ai aJ (aa 0) (ag (.int 1))) (af (bd (af (ai aJ (aa 0) (ag (.int 2))) ae) (aB 1 (j0 n))) (af (bd (af (ai aJ (aa 0) (ag (.int 3))) ae) (aB 1 (j0 n))) ae))) aM) ae))) (ag (.str ")"))))
   aP)
   (ak (aF (ao (ai a9 (ai aJ (aa 0) (ag (.int 0))) (ag (.str "at"))))
   (ax (ai aD (ai aD (ai aD (ai aD (ag (.str "(at ")) (ai aJ (aa 0) (ag (.int 1)))) (ag (.str " "))) (bd (af (ai aJ (aa 0) (ag (.int 2))) ae) (aB 1 (j0 n)))) (ag (.str ")"))))
   aP)
   (ax (bd (af (ai aJ (aa 0) (ag (.int 1))) ae) iX))))
abbrev qO:FF:=aU 2 0
 (ax (ai aJ (aa 1) (bd (af (aa 0) (af (bd (af (aa 1) ae) aI) ae)) (aB 2 bu))))
abbrev pT:FF:=aU 1 1
 (ak (aN (bd (af (aa 0) (af (ag (.int 6)) ae)) (aB 2 bu)) (aG 1))
 (ak (aF (ao (ai dS (aa 1) (ag (.int 4))))
 (ax (bd (af (aa 0) (af (ai aJ (bd (af (ag (.int 2)) (af (ag (.int 5)) (af (ag (.int 5)) (af (ag (.int 10)) ae)))) aM) (aa 1)) ae)) (aB 2 bu)))
 aP)
 (ax (ai aJ (bd (af (bd (af (aa 0) (af (ag (.int 4294967296)) ae)) (aB 2 bu)) (af (ai fw (ag (.int 4294967295)) (bd (af (aa 0) (af (ag (.int 3)) ae)) (aB 2 bu))) ae)) aM) (ai fw (aa 1) (ag (.int 4)))))))
abbrev j4:Nat->FF
 | 0=>λ_ _=>none
 | n+1=>aU 4 3
   (ak (aN (bd (af (aa 0) (af (ag (.int 6)) ae)) (aB 2 bu)) (aG 4))
   (ak (aF (dB (ao (ai dS (ai aJ (aa 2) (ag (.int 0))) (ag (.int 1)))) (dB (ao (ai fO (aa 3) (ag (.int 3)))) (ao (ai dS (aa 4) (ag (.int 2))))))
   (ak (aF (ao (ai a9 (bd (af (aa 0) (af (ag (.int 2)) ae)) (aB 2 bu)) (ag (.int 0))))
   (ax (bd (af (ag (.str "cell")) (af (bd (af (aa 0) (af (aa 1) ae)) (aB 2 qO)) ae)) b9))
   aP)
   (ax (bd (af (ag (.str "num")) (af (bd (af (aa 0) ae) (aB 1 pT)) ae)) b9)))
   aP)
   (ak (dW (aa 2) (ag (.int 0)) (ai fw (ai aJ (aa 2) (ag (.int 0))) (ag (.int 1))))
   (ak (aF (ao (ai a9 (aa 4) (ag (.int 2))))
   (ak (aN (bd (af (aa 0) (af (aa 1) ae)) (aB 2 qO)) (aG 5))
   (ax (bd (af (ag (.str "at")) (af (aa 5) (af (bd (af (aa 0) (af (aa 1) (af (aa 2) (af (ai aD (aa 3) (ag (.int 1))) ae)))) (aB 4 (j4 n))) ae))) b9)))
   aP)
   (ak (aN (bd (af (aa 0) (af (aa 1) (af (aa 2) (af (ai aD (aa 3) (ag (.int 1))) ae)))) (aB 4 (j4 n))) (aG 6))
   (ax (bd (af (ag (.str "op")) (af (ai aJ (ag (.str "+-*<=")) (bd (af (aa 0) (af (ag (.int 5)) ae)) (aB 2 bu))) (af (aa 6) (af (bd (af (aa 0) (af (aa 1) (af (aa 2) (af (ai aD (aa 3) (ag (.int 1))) ae)))) (aB 4 (j4 n))) ae)))) b9)))))))
abbrev pU:FF:=aU 2 1
 (ak (aN (bd (af (ag (.str "")) (af (ag (.str "(")) (af (ag (.str ")")) (af (ag (.str "(at")) (af (ag (.str "(+")) (af (ag (.str "(<")) (af (ag (.str "(=")) (af (ag (.str "()")) (af (ag (.str "0)")) (af (ag (.str "0")) (af (ag (.str "00")) (af (ag (.str "07")) (af (ag (.str "-1")) (af (ag (.str "1.5")) (af (ag (.str "1_0")) (af (ag (.str "+1")) ae)))))))))))))))) aM) (aG 2))
 (ak (aN (ai aD (aa 2) (bd (af (ag (.str "4294967296")) (af (ag (.str "4294967295")) (af (ag (.str "42949672950")) (af (ag (.str "at")) (af (ag (.str "end")) (af (ag (.str "cell")) (af (ag (.str "+")) (af (ag (.str "-")) (af (ag (.str "*")) (af (ag (.str "/")) (af (ag (.str "(-")) ae))))))))))) aM)) (aG 2))
 (ak (aN (ai aD (aa 2) (bd (af (ag (.str "(*")) (af (ag (.str "a1")) (af (ag (.str "Ab")) (af (ag (.str "(+)")) ae)))) aM)) (aG 2))
 (ax (ai aJ (ai aD (aa 2) (az (aa 1) aC (av (ag (.int 8))))) (bd (af (aa 0) (af (ai aD (bd (af (aa 2) ae) aI) (bd (af (ag (.int 8)) (af (bd (af (aa 1) ae) aI) ae)) pf)) ae)) (aB 2 bu)))))))
abbrev qP:FF:=aU 1 1
 (ak (aN (ag (.str " !\"#$&'()*+,-./0123456789:;<=>?\x40[\\]^_`{|}~")) (aG 1))
 (ak (aN (ai aD (aa 1) (ag (.str "abcdefghijklmnopqrstuvwxyzABCDEFGHIJKLMNOPQRSTUVWXYZ"))) (aG 1))
 (ax (ai aJ (aa 1) (bd (af (aa 0) (af (bd (af (aa 1) ae) aI) ae)) (aB 2 bu))))))
abbrev AG:FF:=aU 3 8
 (ak (aN (fP iZ (aa 1) (af (ag (.str " ")) ae)) (aG 3))
 (ak (aN (bd (af (aa 0) (af (bd (af (aa 3) ae) aI) ae)) (aB 2 bu)) (aG 4))
 (ak (aN (bd (af (aa 0) (af (bd (af (aa 3) ae) aI) ae)) (aB 2 bu)) (aG 5))
 (ak (aN (bd (af (aa 0) (af (aa 2) ae)) (aB 2 pU)) (aG 6))
 (ak (aN (bd (af (aa 0) (af (ag (.int 9)) ae)) (aB 2 bu)) (aG 7))
 (ak (aF (ao (ai dS (aa 7) (ag (.int 5))))
 (ak (aN (bd (af (bf (ai aD (az (aa 3) aC (av (aa 4))) (az (aa 3) (av (ai aD (aa 4) (ag (.int 1)))) aC))) (af (bf (ai aD (az (aa 3) aC (av (ai aD (aa 4) (ag (.int 1))))) (az (aa 3) (av (aa 4)) aC))) (af (bf (ai aD (ai aD (az (aa 3) aC (av (aa 4))) (bd (af (aa 6) ae) aM)) (az (aa 3) (av (ai aD (aa 4) (ag (.int 1)))) aC))) ae))) aM) (aG 8))
 (ak (aN (ai aD (aa 8) (bd (af (bf (ai aD (ai aD (az (aa 3) aC (av (aa 4))) (bd (af (aa 6) ae) aM)) (az (aa 3) (av (aa 4)) aC))) (af (bf (ai aD (ai aD (az (aa 3) aC (av (aa 4))) (a7 gj (az (aa 3) (av (aa 4)) (av (ai aD (aa 4) (ag (.int 2))))))) (az (aa 3) (av (ai aD (aa 4) (ag (.int 2)))) aC))) ae)) aM)) (aG 8))
 (ax (fP dm (ag (.str " ")) (af (ai aJ (aa 8) (aa 7)) ae)))))
 aP)
 (ak (aF (ao (ai a9 (aa 7) (ag (.int 5))))
 (ak (i0 3 4 5)
 (ax (fP dm (ag (.str " ")) (af (aa 3) ae))))
 aP)
 (ak (aN (bd (af (aa 0) (af (ai aD (bd (af (aa 1) ae) aI) (ag (.int 1))) ae)) (aB 2 bu)) (aG 9))
 (ak (aN (ai aJ (ag (.str " ()+-*<=a0A_\n")) (bd (af (aa 0) (af (ag (.int 13)) ae)) (aB 2 bu))) (aG 10))
 (ak (aF (ao (ai a9 (bd (af (aa 0) (af (ag (.int 2)) ae)) (aB 2 bu)) (ag (.int 0))))
 (aN (bd (af (aa 0) ae) (aB 1 qP)) (aG 10))
 aP)
 (ak (aF (ao (ai a9 (aa 7) (ag (.int 6))))
 (ax (az (aa 1) aC (av (aa 9))))
 aP)
 (ak (aF (ao (ai a9 (aa 7) (ag (.int 7))))
 (ax (ai aD (ai aD (az (aa 1) aC (av (aa 9))) (aa 10)) (az (aa 1) (av (aa 9)) aC)))
 aP)
 (ax (ai aD (ai aD (az (aa 1) aC (av (aa 9))) (ai aJ (bd (af (ag (.str "")) (af (aa 10) ae)) aM) (bd (af (aa 0) (af (ag (.int 2)) ae)) (aB 2 bu)))) (az (aa 1) (av (ai aD (aa 9) (ag (.int 1)))) aC)))))))))))))))
abbrev AH:FF:=aU 1 1
 (ak (aN (bd (af (ag (.str "")) (af (ag (.str " ")) (af (ag (.str "a b")) (af (ag (.str "0 1")) (af (ag (.str "(+ 1 2) 3")) (af (ag (.str "((+ 1 2))")) (af (ag (.str "( + 1 2)")) (af (ag (.str "(+ 1 2 )")) (af (ag (.str "(+ 1)")) (af (ag (.str "(+ 1 2 3)")) ae)))))))))) aM) (aG 1))
 (ak (aN (ai aD (aa 1) (bd (af (ag (.str "(at a)")) (af (ag (.str "(at 1)")) (af (ag (.str "(at a 1 2)")) (af (ag (.str "(at 1 a)")) (af (ag (.str "(at at 1)")) (af (ag (.str "(/ 1 2)")) (af (ag (.str "(a 1 2)")) (af (ag (.str "()")) ae)))))))) aM)) (aG 1))
 (ak (aN (ai aD (aa 1) (bd (af (ag (.str "a\n")) (af (ag (.str "\na")) (af (ag (.str "(+ 1 2")) (af (ag (.str "+ 1 2")) ae)))) aM)) (aG 1))
 (ax (ai aJ (aa 1) (bd (af (aa 0) (af (bd (af (aa 1) ae) aI) ae)) (aB 2 bu)))))))
abbrev gL:FF:=aU 2 0
 (ax (ai aJ (ai aD (az (aa 0) (av (aa 1)) (av (ai aD (aa 1) (ag (.int 1))))) (bd (af (ag (.str "")) ae) aM)) (ag (.int 0))))
abbrev my:FF:=aU 1 1
 (ak (aN (bd (af (ag (.str "cell")) (af (ag (.str "row")) (af (ag (.str "def")) (af (ag (.str "main")) (af (ag (.str "set")) (af (ag (.str "put")) (af (ag (.str "while")) (af (ag (.str "if")) (af (ag (.str "else")) (af (ag (.str "call")) (af (ag (.str "end")) (af (ag (.str "at")) ae)))))))))))) aM) (aG 1))
 (ak (aF (dB (ao (ai dS (bd (af (aa 0) ae) aI) (ag (.int 1)))) (dB (ao (ai fO (bd (af (aa 0) ae) aI) (ag (.int 6)))) (ao (ai eT (aa 0) (aa 1)))))
 (ax (ag (.bl false)))
 aP)
 (ax (bd (af (ft (cH (one (aa 0)) eL) [] c1 bT (ai (dq false) (aa 0) (ag (.str "abcdefghijklmnopqrstuvwxyz")))) ae) jg))))
abbrev qQ:FF:=aU 1 0
 (ak (aF (dB (ao (ai dS (bd (af (aa 0) ae) aI) (ag (.int 1)))) (eQ (ao (ai a9 (ai aJ (aa 0) (ag (.int 0))) (ag (.str "0")))) (ao (ai fO (bd (af (aa 0) ae) aI) (ag (.int 1))))))
 (ax (ag (.bl false)))
 aP)
 (ax (bd (af (ft (cH (one (aa 0)) eL) [] c1 bT (ai (dq false) (aa 0) (ag (.str "0123456789")))) ae) jg)))
abbrev qR:FF:=aU 1 0
 (ax (fB (bd (af (aa 0) ae) (aB 1 qQ)) (fB (ai dS (bd (af (aa 0) ae) aI) (ag (.int 11))) (ai dS (bd (af (aa 0) ae) gn) (ag (.int 4294967296))))))
abbrev gM:Nat->FF
 | 0=>λ_ _=>none
 | n+1=>aU 2 2
   (ak (aN (bd (af (bf (aa 0)) (af (aa 1) ae)) (aB 2 gL)) (aG 2))
   (ak (aF (ao (ai gJ (aa 2) (ag (.str "("))))
   (ax (ai aJ (bd (af (a7 cY (ag (.int 1))) (af (ai aD (aa 1) (ag (.int 1))) ae)) aM) (bd (af (vO (bd (af (aa 2) ae) (aB 1 my)) (bd (af (aa 2) ae) (aB 1 qR))) ae) dD)))
   aP)
   (ak (aN (bd (af (bf (aa 0)) (af (ai aD (aa 1) (ag (.int 1))) ae)) (aB 2 gL)) (aG 3))
   (ak (aF (eQ (ao (ai a9 (aa 3) (ag (.str "at")))) (bd (bd (af (bd (af (bf (aa 0)) (af (ai aD (aa 1) (ag (.int 2))) ae)) (aB 2 gL)) ae) (aB 1 my)) cI))
   (aN (bd (af (bf (aa 0)) (af (ai aD (aa 1) (ag (.int 3))) ae)) (aB 2 (gM n))) (aG 1))
   (aF (ao (ai eT (aa 3) (bd (af (ag (.str "+")) (af (ag (.str "-")) (af (ag (.str "*")) (af (ag (.str "<")) (af (ag (.str "=")) ae))))) b9)))
   (ak (aN (bd (af (bf (aa 0)) (af (ai aD (aa 1) (ag (.int 2))) ae)) (aB 2 (gM n))) (aG 1))
   (aF (ao (ai gI (aa 1) (ag (.int 0))))
   (aN (bd (af (bf (aa 0)) (af (aa 1) ae)) (aB 2 (gM n))) (aG 1))
   aP))
   (ax (a7 cY (ag (.int 1))))))
   (ax (ai aJ (bd (af (a7 cY (ag (.int 1))) (af (ai aD (aa 1) (ag (.int 1))) ae)) aM) (bd (af (fB (ai gI (aa 1) (ag (.int 0))) (ai a9 (bd (af (bf (aa 0)) (af (bd (af (aa 1) (af (ag (.int 0)) ae)) dU) ae)) (aB 2 gL)) (ag (.str ")")))) ae) dD)))))))
abbrev xG:FF:=aU 1 1
 (ak (aN (a7 (gm " ") (a7 (cN ")" " )") (a7 (cN "(" "( ") (aa 0)))) (aG 1))
 (ax (ai a9 (bd (af (bf (aa 1)) (af (ag (.int 0)) ae)) (aB 2 (gM 150))) (bd (af (aa 1) ae) aI))))
abbrev qS:FF:=aU 1 0
 (ak (aF (dB (ao (ai dS (bd (af (aa 0) ae) aI) (ag (.int 1)))) (dB (ao (ai fO (bd (af (aa 0) ae) aI) (ag (.int 6)))) (ao (ai eT (aa 0) (ag (.con (List.map I.str ["cell","row","def","main","set","put","while","if","else","call","end","at"])))))))
 (ax (ag (.bl false)))
 aP)
 (ax (bd (af (ft (cH (one (aa 0)) eL) [] c1 bT (ai (dq false) (aa 0) (ag (.str "abcdefghijklmnopqrstuvwxyz")))) ae) jg)))
abbrev xH:SF :=
 (ak (aF (ao (ai (dq true) (aa 2) (ag (.str "0123456789"))))
 (ax (ag .non))
 aP)
 (aN (ai aD (ai cJ (ag (.int 10)) (aa 1)) (fP iW (ag (.str "0123456789")) (af (aa 2) ae))) (aG 1)))
abbrev AI:FF:=aU 1 2
 (ak (aF (dB (ao (ai a9 (aa 0) (ag (.str "")))) (eQ (ao (ai a9 (ai aJ (aa 0) (ag (.int 0))) (ag (.str "0")))) (ao (ai gJ (aa 0) (ag (.str "0"))))))
 (ax (ag .non))
 aP)
 (ak (aN (ag (.int 0)) (aG 1))
 (ak (dh (cH (one (aa 0)) eL) (aG 2)
 xH)
 (ax (aa 1)))))
abbrev pV:FF:=aU 1 1
 (ak (aN (bd (af (aa 0) ae) (aB 1 AI)) (aG 1))
 (ak (aF (dB (ao (a7 (eR true) (aa 1))) (ao (ai gI (aa 1) (ag (.int 4294967296)))))
 (ax (ag .non))
 aP)
 (ax (aa 1))))
abbrev fG:FF:=aU 1 1
 (ak (aF (lJ (bd (bd (af (aa 0) (af (ag (.ty "str")) ae)) dE) cI))
 (ax (aa 0))
 aP)
 (ak (aF (bd (bd (af (aa 0) ae) (aB 1 qS)) cI)
 (ax (bd (af (ag (.str "cell")) (af (aa 0) ae)) b9))
 aP)
 (ak (aN (bd (af (aa 0) ae) (aB 1 pV)) (aG 1))
 (ak (aF (ao (a7 (eR true) (aa 1)))
 (ax (ag .non))
 aP)
 (ax (bd (af (ag (.str "num")) (af (aa 1) ae)) b9))))))
abbrev kA:FF:=aU 1 0
 (ax (fB (bd (af (aa 0) (af (ag (.ty "str")) ae)) dE) (bd (af (aa 0) ae) (aB 1 qS))))
abbrev xI:FF:=aU 1 2
 (ak (aF (ao (ai gJ (bd (af (aa 0) ae) aI) (ag (.int 3))))
 (ax (ag .non))
 aP)
 (ak (aN (bd (af (ai aJ (aa 0) (ag (.int 2))) ae) (aB 1 fG)) (aG 1))
 (ak (aF (ao (a7 (eR true) (aa 1)))
 (ax (ag .non))
 aP)
 (ak (aF (eQ (ao (ai a9 (ai aJ (aa 0) (ag (.int 0))) (ag (.str "at")))) (bd (bd (af (ai aJ (aa 0) (ag (.int 1))) ae) (aB 1 kA)) cI))
 (ax (bd (af (ag (.str "at")) (af (ai aJ (aa 0) (ag (.int 1))) (af (aa 1) ae))) b9))
 aP)
 (ak (aN (bd (af (ai aJ (aa 0) (ag (.int 1))) ae) (aB 1 fG)) (aG 2))
 (ak (aF (eQ (ao (ai gp (ai aJ (aa 0) (ag (.int 0))) (ag (.con (List.map I.str ["+","-","*","<","="]))))) (ao (a7 (eR false) (aa 2))))
 (ax (bd (af (ag (.str "op")) (af (ai aJ (aa 0) (ag (.int 0))) (af (aa 2) (af (aa 1) ae)))) b9))
 aP)
 (ax (ag .non))))))))
abbrev ny:SF :=
 (aF (ao (ai a9 (aa 2) (ag (.str "("))))
 (cX (iS hG (aa 1) (af (bf (bd ae aM)) ae)))
 (aF (ao (ai a9 (aa 2) (ag (.str ")"))))
 (ak (aN (bd (af (a7 fA (aa 1)) ae) (aB 1 xI)) (aG 3))
 (ak (aF (dB (ao (a7 (eR true) (aa 3))) (ao (ai a9 (bd (af (aa 1) ae) aI) (ag (.int 0)))))
 (ax (ag .non))
 aP)
 (cX (iS hG (ai aJ (aa 1) (a7 cY (ag (.int 1)))) (af (aa 3) ae)))))
 (cX (iS hG (ai aJ (aa 1) (a7 cY (ag (.int 1)))) (af (aa 2) ae)))))
abbrev xJ:FF:=aU 1 4
 (ak (aN (bd (af (bf (bd ae aM)) ae) aM) (aG 1))
 (ak (dh (cH (one (bf (aa 0))) cL) (aG 2)
 ny)
 (ak (aN (ft (cH (one (ai aJ (aa 1) (ag (.int 0)))) cL) [] c1 bT (bd (af (aa 0) ae) (aB 1 fG))) (aG 4))
 (ak (aF (dB (ao (ai fO (bd (af (aa 1) ae) aI) (ag (.int 1)))) (ao (ai jV (ag .non) (aa 4))))
 (ax (ag .non))
 aP)
 (ax (aa 4))))))
abbrev nz:FF:=aU 1 1
 (ak (aN (bd (af (bf (aa 0)) ae) (aB 1 xJ)) (aG 1))
 (ak (aF (dB (ao (a7 (eR true) (aa 1))) (ao (ai gJ (bd (af (aa 1) ae) aI) (ag (.int 1)))))
 (ax (ag .non))
 aP)
 (ax (ai aJ (aa 1) (ag (.int 0))))))
abbrev nA:FF:=aU 1 0
 (ax (a7 (gm " ") (a7 (cN ")" " )") (a7 (cN "(" "( ") (aa 0)))))
abbrev AJ:FF:=aU 1 1
 (ak (aN (bd (af (bd (af (aa 0) ae) (aB 1 nA)) ae) (aB 1 nz)) (aG 1))
 (ak (aF (ao (a7 (eR true) (aa 1)))
 wA
 aP)
 (ax (aa 1))))
abbrev AK:FF:=aU 1 1
 (ak (fF (aN (bd (af (bd (af (aa 0) ae) (aB 1 nA)) ae) (aB 1 nz)) (aG 1)))
 (ak (aF (ao (a7 (eR true) (aa 1)))
 (mq "NoText" ["row"] (af (ag (.int 0)) ae))
 (fF aP))
 (fF (ax (aa 1)))))
abbrev qT:FF:=λxs G=>match AK xs G with
 | some (.ow (.obj c [(n1,.int k)]),G')=>if c="NoText"/\n1="row" then some (.im (.tup [.bl true,.bl true,.bl false,.int k]),G') else none
 | some (.im _,G')=>some (.im (.tup [.str "read"]),G')
 | _=>none
abbrev AL:Mo Bool:=(ao (ai fO (aa 0) (ag (.int 9))))
abbrev HE:SF :=
 (ak (cX (iS hG (aa 1) (af (ai aJ (ag (.str "0123456789")) (ai dj (aa 0) (ag (.int 10)))) ae)))
 (aN (ai jL (aa 0) (ag (.int 10))) (aG 0)))
abbrev AM:FF:=aU 1 1
 (ak (aN (bd ae aM) (aG 1))
 (ak (gH AL
 HE)
 (ak (cX (iS hG (aa 1) (af (ai aJ (ag (.str "0123456789")) (aa 0)) ae)))
 (ax (fP iY (ag (.str "")) (one (aa 1)))))))
abbrev j5:Nat->FF
 | 0=>λ_ _=>none
 | n+1=>aU 1 5
   (ak (aF (ao (ai a9 (ai aJ (aa 0) (ag (.int 0))) (ag (.str "num"))))
   (ax (bd (af (ai aJ (aa 0) (ag (.int 1))) ae) (aB 1 AM)))
   aP)
   (ak (aF (ao (ai a9 (ai aJ (aa 0) (ag (.int 0))) (ag (.str "cell"))))
   (ax (ai aJ (aa 0) (ag (.int 1))))
   aP)
   (ak (aF (ao (ai a9 (ai aJ (aa 0) (ag (.int 0))) (ag (.str "at"))))
   (ak (aN (ai aJ (aa 0) (ag (.int 1))) (aG 1))
   (ak (aN (bd (af (ai aJ (aa 0) (ag (.int 2))) ae) (aB 1 (j5 n))) (aG 2))
   (ax (gK [(ag (.str "(at ")),(a7 dX (aa 1)),(ag (.str " ")),(a7 dX (aa 2)),(ag (.str ")"))] Str.empty))))
   aP)
   (ak (aN (ai aJ (aa 0) (ag (.int 1))) (aG 3))
   (ak (aN (bd (af (ai aJ (aa 0) (ag (.int 2))) ae) (aB 1 (j5 n))) (aG 4))
   (ak (aN (bd (af (ai aJ (aa 0) (ag (.int 3))) ae) (aB 1 (j5 n))) (aG 5))
   (ax (gK [(ag (.str "(")),(a7 dX (aa 3)),(ag (.str " ")),(a7 dX (aa 4)),(ag (.str " ")),(a7 dX (aa 5)),(ag (.str ")"))] Str.empty))))))))
abbrev xK:FF:=aU 1 0
 (ak (aF (bd (bd (af (aa 0) ae) (aB 1 xG)) cI)
 (ax (ai a9 (bd (af (bd (af (aa 0) ae) (aB 1 AJ)) ae) (aB 1 (j5 150))) (aa 0)))
 aP)
 (ax (ai a9 (bd (af (aa 0) ae) (aB 1 qT)) (bd (af (ag (.bl true)) (af (ag (.bl true)) (af (ag (.bl false)) (af (ag (.int 0)) ae)))) b9))))
abbrev HF:SF :=
 (aN (bd (af (bf (aa 1)) (af (aa 4) (af (bf (aa 2)) ae))) (aB 3 AG)) (aG 4))
abbrev HG:FF:=aU 1 6
 (ak (aN (bd (af (aa 0) (af (ag (.int 0)) ae)) (aB 2 xD)) (aG 1))
 (ak (aN (bd (af (bf (aa 1)) (af (ag (.int 12)) ae)) (aB 2 xF)) (aG 2))
 (ak (aN (bd (af (bd (af (bf (aa 1)) (af (bf (aa 2)) (af (bf (bd (af (ag (.int 7)) ae) aM)) (af (ag (.int 0)) ae)))) (aB 4 (j4 9))) ae) (aB 1 (j0 9))) (aG 3))
 (ak (aN (aa 3) (aG 4))
 (ak (dh (cH (af (ai aD (ag (.int 1)) (bd (af (bf (aa 1)) (af (ag (.int 3)) ae)) (aB 2 bu))) ae) fj) (aG 5)
 HF)
 (ak (aN (bd (af (aa 3) (af (aa 4) (af (bd (af (bf (aa 1)) ae) (aB 1 AH)) (af (bd (af (bf (aa 1)) (af (bf (aa 2)) ae)) (aB 2 pU)) ae)))) aM) (aG 6))
 (ax (bd (af (ft (cH (one (bf (ai aD (aa 6) (aa 6)))) cL) [] c1 bT (bd (af (aa 0) ae) (aB 1 xK))) ae) jg))))))))
end
end Q
namespace Q
open PySem PySem.Spec PyProof.Rows L2 B
structure Kt(K:W.Frag)(mg:Str->Option Value)(C0 C1 C2 C3 C4:Addr):Prop where
 i:qN K C1
 g:mg "CourtError" = some (.ref C0)
 g1:mg "NoText" = some (.ref C1)
 g2:mg "NoProgram" = some (.ref C2)
 g3:mg "TooLong" = some (.ref C3)
 g4:mg "NoRecord" = some (.ref C4)
 gi:mg "isinstance" = none
 gv:mg "ValueError" = none
 gb:mg "bool" = none
 sb:pM K C1 C1 true
 xa:XA K C1
 xi:XI K C1
 k2:W.kitOne K (.ref C1) (.ref C0)=some true
 kv:W.kitOne K (.ref C1) (.type "ValueError")=some true
 ka:W.kitAny K (.ref C1) [.ref C2,.ref C3,.ref C4]=some false
 kb:W.kitOne K (.type "int") (.type "bool")=some false
 n1:kO K C1 "row"
def xM{K:W.Frag}{κ:Str->Addr}{ι ι' fp:List Addr}{H H':Hp}{G':List M}{v:V}{d:I}(s:SR K κ ι' H' [] [] G')(t:Step ι fp H ι' ι' H')(r:RpI K ι' H' v d):SR K κ ι' H' [some v] [some (.im d)] G'/\Step ι fp H ι' (own [some v] [some (.im d)]++ι') H':=by
 have e:own [some v] [some (Vl.im d)]=[]:=by show bz _ _++[]=[];rw [fU];rfl
 exact⟨s.push_im r,by rw [e];exact t⟩
def pW{H H':Hp}{p:Addr}{o:HO}(s:dA H H')(hp:H' p=none):dA H (aH H' p o)/\H p=none:=by
 have e:=s.free hp
 exact⟨λb q z=>by rw [aR (λy=>by rw [y,e] at z;cases z)];exact s b q z,e⟩
section
variable {P:Program}{w:World}{K:W.Frag}{mg:Str->Option Value}{base:Heap}{κ:Str->Addr}{f C0 C2 C3 C4:Addr}{fd:FuncData}
def HH:y40 ["_law_text","_law_found","_law_other","e"] ["_law_text"] (bp (top 44)):=ba
noncomputable abbrev tI(K:W.Frag)(t:TE):TE:=Ar (xC K) (cS (cR 3) (cS t gT))
noncomputable abbrev HI(K:W.Frag):List V->Hp->VK->Prop:=λxs H Q=>∃x t n b,xs=[x,.ty n]/\y55 K H x t/\W.kitOne K t (.type n)=some b/\Q (.bl b) H
def HJ(F:Fun K "_law_refused" "_law_refused" (top 44) f fd)(hL:xp P w K mg base "read_term" 7 ["text"] (jZ K κ 1 AK))(C:Kt K mg C0 (κ "NoText") C2 C3 C4) :
  y3f P w K mg base bH 8 f fd ["_law_text"] (aQ K κ 1 qT):=by
 refine F.ok (k:=7) HH (λvs H Q E zz=>by obtain⟨ι,xs,G,x,G',hl,sr,_⟩:=zz;have:=sr.len;rw [z12,z12] at this;rw [this,hl];rfl) λcdv A outer s H vs Q E hr zz=>?_
 obtain⟨ι,xs,G,x,G',hl,sr,eq,k⟩:=zz
 have lv:vs.length=1:=by have:=sr.len;rw [z12,z12] at this;lia
 match vs,lv with
 | [v],_ =>
 obtain⟨fl,fdl,gl,kl,bl,ol⟩:=hL
 have nd:(["_law_text","_law_found","_law_other","e"]:List Str).Nodup:=by decide +kernel
 refine⟨_,iC (iE (ju (bV rh dM)) (jo (i:=1) nd rfl (.inl rfl))) (iC (Hf rfl rfl
   (λE pn xe hp=>iD (kJ (nZ ol hr (by rfl) gl kl bl .nil hp (bV (pv 0) dM))))
   (w8 (i:=3) (ts:=kI (fQ (rA (tI K (kP (cS (tC (.ref C2)) (cS (tC (.ref C3)) (cS (tC (.ref C4)) gT))))) (Ar (HI K) (cS (GR K (cR 3) "row") (cS (tC (.ty "bool")) gT)))) (gQ 2))
     (fQ (kP (cS (tI K (tC (.ref C0))) (cS (tI K (tC (.ty "ValueError"))) (cS (cR 2) (cS (GR K (cR 3) "row") gT))))) (gQ 1)))
    (by rfl) C.g1 C.i nd rfl rfl (λx =>
     iC (iE (jm (eZ HA (by rfl) C.gi rfl (bV (pv 3) (bV (ju (bV (jk (by rfl) C.g2 rfl) (bV (jk (by rfl) C.g3 rfl) (bV (jk (by rfl) C.g4 rfl) dM)))) dM)))
       (y32b (eZ yaa (by rfl) C.gi rfl (bV (wY (pv 3) (by rfl)) (bV (nG (by rfl) C.gb rfl rfl) dM))))) (jo nd rfl (.inl rfl)))
      (iD (iE (ju (bV (eZ HA (by rfl) C.gi rfl (bV (pv 3) (bV (jk (by rfl) C.g rfl) dM))) (bV (eZ HA (by rfl) C.gi rfl (bV (pv 3) (bV (nG (by rfl) C.gv rfl rfl) dM))) (bV (pv 2) (bV (wY (pv 3) (by rfl)) dM))))) (jo nd rfl (.inl rfl)))))
   HB)) (iD (rD (pv 1)))),?_⟩
 refine⟨(show (1:Nat)≤sizeLine by decide),λp0 hp0=>?_⟩
 have s0:=pW (o:=.tup [.str "read"]) (λ_ _ e=>e) hp0
 refine⟨v,rfl,?_⟩
 have sr0:=sr.same s0.1
 unfold qT at eq
 split at eq
 ·rename_i c n1 kk G1 e1
  split at eq
  ·rename_i hc
   obtain⟨rfl,rfl⟩:=hc
   cases eq
   refine⟨ι,xs,G,_,_,hl,sr0,e1,?_⟩
   intro x0 dx fvs ι' H' hX hD hn hr' s' st
   intro x' C' dct' eC ex' e'
   obtain rfl:C'=κ "NoText":=(Value.ref.inj eC).symm
   obtain rfl:x'=x0:=(z20 ex').symm
   match fvs,hn,hr' with
   | [(m1,va)],hn,.cons ra .nil =>
   simp only [z18,List.map_nil,List.cons.injEq,and_true] at hn
   subst hn
   cases cG ra
   refine⟨true,C.sb,CM ⟨.ref x',rfl,(show (3:Nat)≤sizeLine by decide),λp2 hp2=>?_⟩⟩
   have s2:=pW (o:=.tup [.ref C2,.ref C3,.ref C4]) (λ_ _ e=>e) hp2
   generalize hH2:aH H' p2 (.tup [.ref C2,.ref C3,.ref C4])=H2 at s2 ⊢
   have hp2':H2 p2=some (.tup [.ref C2,.ref C3,.ref C4]):=by rw [<- hH2];exact bg
   have X2:=s2.1 _ _ hX
   have D2:=s2.1 _ _ hD
   refine⟨x',κ "NoText",dx,_,false,.ref p2,false,rfl,X2,D2,C.xa,C.xi,⟨false,rfl,CL ⟨.ref x',rfl,x',κ "NoText",dx,_,.int kk,false,rfl,X2,D2,C.xa,C.n1,rfl,.int kk,.type "int","bool",false,rfl,?_,C.kb,?_⟩⟩,.inr ⟨p2,_,_,rfl,hp2',rfl,C.ka⟩⟩
   ·first|exact rfl|exact .int _|trivial
   refine⟨.ref x',rfl,x',κ "NoText",dx,_,false,.ref C0,true,rfl,X2,D2,C.xa,C.xi,⟨.ref x',rfl,x',κ "NoText",dx,_,false,.ty "ValueError",true,rfl,X2,D2,C.xa,C.xi,⟨_,rfl,.ref x',rfl,x',κ "NoText",dx,_,.int kk,false,rfl,X2,D2,C.xa,C.n1,rfl,(show (4:Nat)≤sizeLine by decide),λp3 hp3=>⟨.ref p3,rfl,?_⟩⟩,.inl ⟨_,rfl,C.kv⟩⟩,.inl ⟨_,rfl,C.k2⟩⟩
   have s3:=pW (o:=.tup [.bl true,.bl true,.bl false,.int kk]) s2.1 hp3
   obtain⟨z1,z2⟩:=s'.bare s3.1
   obtain⟨y1,y2⟩:=xM (v:=.ref p3) (d:=.tup [.bl true,.bl true,.bl false,.int kk]) z1 (((Step.same s0.1).trans st).trans z2) (.tup bg (.cons (.bl _) (.cons (.bl _) (.cons (.bl _) (.cons (.int _) .nil)))))
   exact k _ _ _ y1 y2
  ·cases eq
 ·rename_i d G1 e1
  cases eq
  refine⟨ι,xs,G,_,_,hl,sr0,e1,?_⟩
  intro v' ι' H' s' st
  obtain⟨z1,z2⟩:=s'.bare (λ_ _ e=>e)
  have kp:=(st.trans z2).kp
  refine⟨.ref p0,rfl,?_⟩
  have ht:H' p0=some (.tup [.str "read"]):=kp.tup _ _ bg
  obtain⟨y1,y2⟩:=xM (v:=.ref p0) (d:=.tup [.str "read"]) z1 (((Step.same s0.1).trans st).trans z2) (.tup ht (.cons (.str _) .nil))
  exact k _ _ _ y1 y2
 ·cases eq
end
end Q
set_option maxHeartbeats 400000
namespace Q
open PySem L2 B
def aK  (hl:xs.length=n)(h:body (xs.map some++List.replicate r none) G=some (.rt x G')):aU n r body xs G=some (x,G'):=by
 unfold aU;rw [if_pos hl,h]
def aj  (h:a Z G=some (.nx Z1 G1))(k:b Z1 G1=r):ak a b Z G=r:=by
 unfold ak;rw [h];exact k
def a6  (h:a Z G=some (.rt x G1)):ak a b Z G=some (.rt x G1):=by
 unfold ak;rw [h]
def aV  (h:c Z G=some (true,Z1,G1))(k:a Z1 G1=r):aF c a b Z G=r:=by
 unfold aF;rw [h];exact k
def aL  (h:c Z G=some (false,Z1,G1))(k:b Z1 G1=r):aF c a b Z G=r:=by
 unfold aF;rw [h];exact k
def bB  (h:f Z G=some (.v x,Z1,G1))(k:g x Z1 G1=some (Z2,G2)):aN f g Z G=some (.nx Z2 G2):=by
 unfold aN iL bd;rw [h];show (match nj (.v x) Z1 G1 with|_=>_)=_
 unfold nj rt;dsimp only;rw [k]
def aW  (h:f Z G=some (.v x,Z1,G1)):ax f Z G=some (.rt x G1):=by
 unfold ax iL bd;rw [h];rfl
def pX  (h:f Z G=some (e,Z1,G1)):cX f Z G=some (.nx Z1 G1):=by
 unfold cX;rw [h]
def aq{α β:Type}{m:Mo α}{f:α->Mo β}{Z Z1:De}{G G1:List M}{a:α}{r:Option (β×De×List M)}(h:m Z G=some (a,Z1,G1))(k:f a Z1 G1=r):bd m f Z G=r:=by
 unfold bd;rw [h];exact k
def fH (h:c Z G=some (true,Z1,G1)):dB c d Z G=some (true,Z1,G1):=by
 unfold dB bd;rw [h];rfl
def b7  (h:c Z G=some (false,Z1,G1))(k:d Z1 G1=r):dB c d Z G=r:=by
 unfold dB bd;rw [h];exact k
def pY (h:c Z G=some (false,Z1,G1)):eQ c d Z G=some (false,Z1,G1):=by
 unfold eQ bd;rw [h];rfl
def kB  (h:c Z G=some (true,Z1,G1))(k:d Z1 G1=r):eQ c d Z G=r:=by
 unfold eQ bd;rw [h];exact k
def aY  (h:f Z G=some (.v (.im (.bl b)),Z1,G1)):ao f Z G=some (b,Z1,G1):=by
 unfold ao bd;rw [h];rfl
def aw   (h:f Z G=some (x,Z1,G1))(h2:g Z1 G1=some (y,Z2,G2))(k:p [x,y] Z2 G2=r):ai p f g Z G=r:=by
 unfold ai bd;rw [h];dsimp only;rw [h2];exact k
def hV   (h:f Z G=some (x,Z1,G1))(k:p [x] Z1 G1=r):a7 p f Z G=r:=by
 unfold a7 bd;rw [h];exact k
def bX   (h:nt es=some xs)(hl:xs.length=n)(k:fn xs G=some (x,G')):aB n fn es Z G=some (.v x,Z,G'):=by
 unfold aB;rw [h];dsimp only;rw [if_pos hl,k]
def HK    (h:fo Z G=some (e,Z1,G1))(hl:fz Z1 G1 e=true)(ha:fa Z1 G1=some (es,Z2,G2))(k:p (e::es) Z2 G2=r):iS p fo fa Z G=r:=by
 unfold iS bd;rw [h];dsimp only;rw [if_pos hl,ha];exact k
def nB     (hb:qI ix Z G=some ((),Z0,G0))(hi:fi Z0 G0=some (w,es,Z1,G1))(hn:w.n≤100000)(hc:eF w c tt te (jF ix Z1) 0 w.n [] Z1 G1=some (ds,G2)):ft fi ix c tt te Z G=some (.v (.ow (.lst ds)),Z1,G2):=by
 unfold ft;rw [hb];dsimp only;rw [hi];dsimp only;rw [if_pos hn,hc]
def gx    (hi:f Z G=some (w,es,Z1,G1))(h:bC w g b 0 w.n Z1 G1=r):dh f g b Z G=r:=by
 unfold dh;rw [hi];exact h
def j6   (h:fa Z G=some (es,Z1,G1))(k:p es Z1 G1=some w):cH fa p Z G=some (w,es,Z1,G1):=by
 unfold cH;rw [h];dsimp only;rw [k];rfl
abbrev mz(n:Nat):Wk:=⟨n,λi _ _=>some (.int i),λ_ _=>true⟩
def mB(n:Nat):(mz n).n=n:=rfl
def HL{n:Nat}{j:Int}{Z:De}{G:List M}(h:j=n)(hn:n≤1000000):fj [.v (.im (.int j))] Z G=some (mz n):=by
 subst h
 unfold fj
 dsimp only
 rw [if_pos (by lia)]
 rfl
def pZ{n:Nat}{fa:Mo (List Ev)}{j:Int}{Z Z1:De}{G G1:List M}(h:fa Z G=some ([.v (.im (.int j))],Z1,G1))(e:j=n)(hn:n≤1000000):cH fa fj Z G=some (mz n,[.v (.im (.int j))],Z1,G1):=j6 h (HL e hn)
end Q
namespace Q
open PySem L2 B
local macro_rules | `(tactic| simp! [$xs,*])=>do
 let a:=("aU ak aF dB eQ lJ ao ai a7 bd aa ag rt af ae DQ aI sq pk ir Dx dS leP fO gI bE ax DD iL bf oF nj aP cX aN aG aJ bS eI vz jQ fw aD kq cJ oU jL dj g9 En Eo cY aB nt uD uE b9 aM je dR iS fz hG fA DR dW iT gc jO jN cZ ifE eR lR cI a9 gJ eS cb dJ bL br kr E9 Fb one".splitOn " ").toArray.map fun s=>Lean.mkIdent s.toName
 `(tactic|simp [$[$a:ident],*,$xs,*])
local macro_rules | `(↑$x)=>`(some (.im $x))
local macro_rules | `(⇑$x)=>`(.v (.im $x))
local macro_rules | `(↥$x)=>`(some (.ow (.lst $x)))
section
def xN:¬ (("seed" : Str)="number"):=by decide +kernel
def HM:¬ (("seed" : Str)="left"):=by decide +kernel
def xO:¬ (("number" : Str)="left"):=by decide +kernel
def xP:¬ (("number" : Str)="seed"):=by decide +kernel
def HN:¬ (("left" : Str)="seed"):=by decide +kernel
def HP:¬ (("left" : Str)="number"):=by decide +kernel
def HQ:((Sum.inr ("seed" : Str):aS)=Sum.inr ("number" : Str))=False:=by simp;decide +kernel
def HR:((Sum.inr ("seed" : Str):aS)=Sum.inr ("left" : Str))=False:=by simp;decide +kernel
def HS:((Sum.inr ("number" : Str):aS)=Sum.inr ("left" : Str))=False:=by simp;decide +kernel
abbrev dz(a n:Int)(l:Nat):List (aS×I):=[(.inr "seed",.int a),(.inr "number",.int n),(.inr "left",.ref l)]
def yef(a n:Int)(l:Nat):cZ (dz a n l) (Sum.inr ("seed" : Str))=some (.int a):=by simp [dz,cZ]
def xQ(a n:Int)(l:Nat):cZ (dz a n l) (Sum.inr ("number" : Str))=some (.int n):=by simp only [dz,cZ,HQ,if_false,if_true]
def AN(a n:Int)(l:Nat):cZ (dz a n l) (Sum.inr ("left" : Str))=some (.ref l):=by simp only [dz,cZ,HR,HS,if_false,if_true]
def xR(a n m:Int)(l:Nat):dk (dz a n l) (Sum.inr ("number" : Str)) (.int m)=dz a m l:=by simp [dk,jP,dz,xN,HP,xO,xP]
def xS(a n m:Int)(l:Nat):dk (dz a n l) (Sum.inr ("seed" : Str)) (.int m)=dz m n l:=by simp [dk,jP,dz,xP,HN]
def HU(a n:Int)(l:Nat):(dz a n l).length<1000000:=by show 3<1000000;decide
structure DC(G:List M)(d l:Nat)(a n:Int)(ms:List Int):Prop where
 dc:G[d]?=some (.dic (dz a n l))
 lc:G[l]?=some (.lst (ms.map I.int))
 ne:d≠l
 a0:0≤a
 a1:a<2147483647
 n0:0≤n
 m0:∀m∈ms,0≤m
abbrev DG(G:List M)(d l:Nat):Prop:=∃a n ms,DC G d l a n ms
structure Oth(d l:Nat)(G G':List M):Prop where
 len:G'.length=G.length
 at_:∀k,k≠d->k≠l->G'[k]?=G[k]?
def Oth.refl(d l:Nat)(G:List M):Oth d l G G:=⟨rfl,λ_ _ _=>rfl⟩
theorem Oth.trans{d l:Nat}{G G1 G2:List M}(x:Oth d l G G1)(y:Oth d l G1 G2):Oth d l G G2:=⟨y.len.trans x.len,λk h1 h2=>(y.at_ k h1 h2).trans (x.at_ k h1 h2)⟩
def Oth.setD{d l:Nat}{G:List M}{m:M}:Oth d l G (G.set d m):=⟨z29,λk h1 _=>z26 (Ne.symm h1)⟩
def Oth.setL{d l:Nat}{G:List M}{m:M}:Oth d l G (G.set l m):=⟨z29,λk _ h1=>z26 (Ne.symm h1)⟩
def j7{G:List M}{k:Nat}{m m':M}(h:G[k]?=some m'):(G.set k m)[k]?=some m:=List.getElem?_set_self (z19.mp h).1
abbrev kC(d:Nat)(many:Int):De:=[↑(.ref d),↑(.int many),none,none,none]
def qa{G:List M}{d l:Nat}{a n:Int}{ms:List Int}{many:Int}(D:DC G d l a n ms):pS (kC d many) G=some (decide (n=0)&&decide (0<ms.length),kC d many,G):=by
 by_cases h:n=0
 ·by_cases h2:0<ms.length
  ·simp! [pS,kC,D.dc,D.lc,xQ,AN,h,h2]
  ·simp! [pS,kC,D.dc,D.lc,xQ,AN,h,h2]
 ·simp! [pS,kC,D.dc,D.lc,xQ,AN,h]
def HV{G:List M}{d l:Nat}{a n:Int}{ms:List Int}{many y:Int}(D:DC G d l a n ms)(hy:ms[ms.length-1]?=some y):∃G',xE (kC d many) G=some (.nx (kC d many) G')/\DC G' d l a y ms.dropLast/\Oth d l G G':=by
 have h1:(G.set l (.lst (ms.map I.int).dropLast))[d]?=some (.dic (dz a n l)):=by rw [z26 D.ne.symm];exact D.dc
 refine⟨(G.set l (.lst (ms.map I.int).dropLast)).set d (.dic (dz a y l)),?_,⟨j7 h1,?_,D.ne,D.a0,D.a1,D.m0 y (z34 hy),λm hm=>D.m0 m (List.dropLast_subset _ hm)⟩,Oth.setL.trans Oth.setD⟩
 ·simp! [xE,kC,D.dc,D.lc,AN,hy,h1,HU,xR]
 ·rw [z26 D.ne,j7 D.lc,List.map_dropLast]
def HW{d l:Nat}{a:Int}{many:Int}:∀(k:Nat) {G:List M} {n:Int} {ms:List Int},ms.length=k->DC G d l a n ms->∃G' n' ms',gH pS xE (kC d many) G=some (.nx (kC d many) G')/\DC G' d l a n' ms'/\Oth d l G G':=by
 intro k
 induction k with
 | zero =>
  intro G n ms hk D
  refine⟨G,n,ms,oM ?_,D,Oth.refl _ _ _⟩
  rw [qa D]
  simp [hk]
 | succ k ih =>
  intro G n ms hk D
  by_cases h:n=0
  ·obtain⟨y,hy⟩:∃y,ms[ms.length-1]?=some y:=⟨_,z16 (by lia)⟩
   obtain⟨G1,e1,D1,o1⟩:=HV (many:=many) D hy
   obtain⟨G2,n2,ms2,e2,D2,o2⟩:=ih (by rw [List.length_dropLast];lia) D1
   refine⟨G2,n2,ms2,?_,D2,o1.trans o2⟩
   rw [uo (by rw [qa D];simp [h,hk]) e1]
   exact e2
  ·refine⟨G,n,ms,oM ?_,D,Oth.refl _ _ _⟩
   rw [qa D]
   simp [h]
def du{G:List M}{d l:Nat}{many:Int}(D:DG G d l)(h0:0<many)(h1:many<2 ^ 100):∃r G',bu [.im (.ref d),.im (.int many)] G=some (.im (.int r),G')/\0≤r/\r<many/\DG G' d l/\Oth d l G G':=by
 obtain⟨a,n,ms,D⟩:=D
 obtain⟨G1,n1,ms1,e1,D1,o1⟩:=HW (many:=many) _ rfl D
 have e1':gH pS xE [↑(.ref d),↑(.int many),none,none,none] G=some (.nx [↑(.ref d),↑(.int many),none,none,none] G1):=e1
 by_cases hn:0<n1
 ·refine⟨n1 % many,G1.set d (.dic (dz a (n1 / many) l)),?_,Int.emod_nonneg _ (by lia),Int.emod_lt_of_pos _ h0,⟨a,n1 / many,ms1,j7 D1.dc,by rw [z26 D1.ne];exact D1.lc,D1.ne,D1.a0,D1.a1,Int.ediv_nonneg D1.n0 (by lia),D1.m0⟩,o1.trans Oth.setD⟩
  have h2:many<2 ^ 200:=Int.lt_trans h1 (by decide)
  have h3:(many<1606938044258990275541962092341162602522202993782792835301376):=h2
  simp! [bu,e1',D1.dc,xQ,hn,h0,h3,HU,xR]
 ·have q1:0≤(a*48271+7919) % 2147483647:=Int.emod_nonneg _ (by decide)
  have q2:(a*48271+7919) % 2147483647<2147483647:=Int.emod_lt_of_pos _ (by decide)
  have q3:0≤((a*48271+7919) % 2147483647*40692+104729) % 2147483399:=Int.emod_nonneg _ (by decide)
  have q4:((a*48271+7919) % 2147483647*40692+104729) % 2147483399<2147483399:=Int.emod_lt_of_pos _ (by decide)
  obtain⟨o,ho⟩:∃o,(a*48271+7919) % 2147483647=o:=⟨_,rfl⟩
  rw [ho] at q1 q2 q3 q4
  obtain⟨b,hb⟩:∃b,(o*40692+104729) % 2147483399=b:=⟨_,rfl⟩
  rw [hb] at q3 q4
  have D2:(G1.set d (.dic (dz b n1 l)))[d]?=some (.dic (dz b n1 l)):=j7 D1.dc
  have c1:-18446744073709551616<b/\b<18446744073709551616:=⟨by lia,by lia⟩
  have c2:-18446744073709551616<o/\o<18446744073709551616:=⟨by lia,by lia⟩
  refine⟨(o*o % 2147483629*2147483563+b*b % 2147483563) % many,G1.set d (.dic (dz b n1 l)),?_,Int.emod_nonneg _ (by lia),Int.emod_lt_of_pos _ h0,⟨b,n1,ms1,D2,by rw [z26 D1.ne];exact D1.lc,D1.ne,q3,by lia,D1.n0,D1.m0⟩,o1.trans Oth.setD⟩
  simp! [bu,e1',D1.dc,D2,xQ,yef,hn,h0,HU,xS,ho,hb,c1,c2]
theorem qb{w:Wk}{c:I->Option (List I)}{tt:Mo Bool}{te:Mo Ev}{di Z:De}(P:Nat->List I->List M->Prop)
  (step:∀i acc G,i<w.n->P i acc G->∃d ds Za Ga y Zb Gb,w.at_ i Z G=some d/\c d=some ds/\tt ((ds.map λd=>some (Vl.im d))++di) G=some (true,Za,Ga)/\te Za Ga=some (⇑y,Zb,Gb)/\P (i+1) (acc++[y]) Gb)
  (fin:∀acc G,P w.n acc G->w.fin Z G=true):∀(r i:Nat) (acc:List I) (G:List M),i+r=w.n->P i acc G->∃ds G',eF w c tt te di i r acc Z G=some (ds,G')/\P w.n ds G'
 | 0,i,acc,G,h,p=>by
  have:i=w.n:=by lia
  subst this
  exact⟨acc,G,by unfold eF;rw [fin acc G p];rfl,p⟩
 | r+1,i,acc,G,h,p=>by
  obtain⟨d,ds,Za,Ga,y,Zb,Gb,h1,h2,h3,h4,p'⟩:=step i acc G (by lia) p
  obtain⟨ds',G',e,q⟩:=qb P step fin r (i+1) (acc++[y]) Gb (by lia) p'
  refine⟨ds',G',?_,q⟩
  unfold eF
  rw [h1];dsimp only;rw [h2];dsimp only;rw [h3];dsimp only;rw [h4]
  exact e
theorem mC{w:Wk}{g:GF}{b:SF}(P:Nat->De->List M->Prop)
  (step:∀i Z G,i<w.n->P i Z G->∃d Z1 G1 Z2 G2,w.at_ i Z G=some d/\g (.im d) Z G=some (Z1,G1)/\b Z1 G1=some (.nx Z2 G2)/\P (i+1) Z2 G2)
  (fin:∀Z G,P w.n Z G->w.fin Z G=true):∀(r i:Nat) (Z:De) (G:List M),i+r=w.n->P i Z G->∃Z' G',bC w g b i r Z G=some (.nx Z' G')/\P w.n Z' G'
 | 0,i,Z,G,h,p=>by
  have:i=w.n:=by lia
  subst this
  exact⟨Z,G,by unfold bC;rw [fin Z G p];rfl,p⟩
 | r+1,i,Z,G,h,p=>by
  obtain⟨d,Z1,G1,Z2,G2,h1,h2,h3,p'⟩:=step i Z G (by lia) p
  obtain⟨Z',G',e,q⟩:=mC P step fin r (i+1) Z2 G2 (by lia) p'
  refine⟨Z',G',?_,q⟩
  unfold bC
  rw [h1];dsimp only;rw [h2];dsimp only;rw [h3]
  exact e
structure Mor(g s:Nat)(G G':List M):Prop where
 len:G.length≤G'.length
 at_:∀k,k<G.length->k≠g->k≠s->G'[k]?=G[k]?
theorem Mor.trans{g s:Nat}{G G1 G2:List M}(x:Mor g s G G1)(y:Mor g s G1 G2):Mor g s G G2:=⟨z1a x.len y.len,λk h h1 h2=>(y.at_ k (z1c h x.len) h1 h2).trans (x.at_ k h h1 h2)⟩
def Oth.mor{g s:Nat}{G G':List M}(o:Oth g s G G'):Mor g s G G':=⟨by rw [o.len];exact z10 _,λk _ h1 h2=>o.at_ k h1 h2⟩
def Mor.app{g s:Nat}{G:List M}(T:List M):Mor g s G (G++T):=⟨by rw [zd];lia,λk h _ _=>z25 h⟩
def ydc{xs:List I}{m:Nat}:eU xs none (some (m:Int))=xs.take m:=by
 unfold eU
 rw [HT.y3e4,HT.y3e3,List.drop_zero,Nat.sub_zero]
 by_cases h:m≤xs.length
 ·rw [Nat.min_eq_left h]
 ·rw [Nat.min_eq_right (by lia),z2f (z10 _),z2f (by lia)]
def yda{xs:List I}{m:Nat}(h:m≤xs.length):eU xs (some (m:Int)) none=xs.drop m:=by
 unfold eU
 rw [HT.y3e4,HT.y3e3,Nat.min_eq_left h]
 rw [z2f (by rw [z2d];lia)]
def yde{xs:List I}{m k:Nat}(h:m+k≤xs.length):eU xs (some (m:Int)) (some ((m+k:Nat):Int))=(xs.drop m).take k:=by
 unfold eU
 rw [HT.y3e3,HT.y3e3,Nat.min_eq_left h,Nat.min_eq_left (by lia)]
 congr 1;lia
def Oth.dg{d l g s:Nat}{G G':List M}(o:Oth g s G G')(D:DG G d l)(h1:d≠g)(h2:d≠s)(h3:l≠g)(h4:l≠s):DG G' d l:=by
 obtain⟨a,n,ms,D⟩:=D
 exact⟨a,n,ms,by rw [o.at_ d h1 h2];exact D.dc,by rw [o.at_ l h3 h4];exact D.lc,D.ne,D.a0,D.a1,D.n0,D.m0⟩
def DG.lt{d l:Nat}{G:List M}(D:DG G d l):d<G.length/\l<G.length:=by
 obtain⟨a,n,ms,D⟩:=D
 exact⟨(z19.mp D.dc).1,(z19.mp D.lc).1⟩
def DG.app{d l:Nat}{G:List M}(D:DG G d l)(T:List M):DG (G++T) d l:=by
 obtain⟨l1,l2⟩:=D.lt
 obtain⟨a,n,ms,D⟩:=D
 exact⟨a,n,ms,by rw [z25 l1];exact D.dc,by rw [z25 l2];exact D.lc,D.ne,D.a0,D.a1,D.n0,D.m0⟩
theorem HX{w:Wk}{c:I->Option (List I)}{tt:Mo Bool}{te:Mo Ev}{di Z:De}(P:Nat->List I->List M->Prop)
  (step:∀i acc G,i<w.n->P i acc G->∃d ds Za Ga,w.at_ i Z G=some d/\c d=some ds/\((tt ((ds.map λd=>some (Vl.im d))++di) G=some (false,Za,Ga)/\P (i+1) acc Ga)∨∃y Zb Gb,tt ((ds.map λd=>some (Vl.im d))++di) G=some (true,Za,Ga)/\te Za Ga=some (⇑y,Zb,Gb)/\P (i+1) (acc++[y]) Gb))
  (fin:∀acc G,P w.n acc G->w.fin Z G=true):∀(r i:Nat) (acc:List I) (G:List M),i+r=w.n->P i acc G->∃ds G',eF w c tt te di i r acc Z G=some (ds,G')/\P w.n ds G'
 | 0,i,acc,G,h,p=>by
  have:i=w.n:=by lia
  subst this
  exact⟨acc,G,by unfold eF;rw [fin acc G p];rfl,p⟩
 | r+1,i,acc,G,h,p=>by
  obtain⟨d,ds,Za,Ga,h1,h2,z⟩:=step i acc G (by lia) p
  rcases z with⟨h3,p'⟩| ⟨y,Zb,Gb,h3,h4,p'⟩
  ·obtain⟨ds',G',e,q⟩:=HX P step fin r (i+1) acc Ga (by lia) p'
   refine⟨ds',G',?_,q⟩
   unfold eF
   rw [h1];dsimp only;rw [h2];dsimp only;rw [h3]
   exact e
  ·obtain⟨ds',G',e,q⟩:=HX P step fin r (i+1) (acc++[y]) Gb (by lia) p'
   refine⟨ds',G',?_,q⟩
   unfold eF
   rw [h1];dsimp only;rw [h2];dsimp only;rw [h3];dsimp only;rw [h4]
   exact e
def ydd(ns:List Int)(lo hi:Option Int):∃ms:List Int,eU (ns.map I.int) lo hi=ms.map I.int/\ms.length≤ns.length:=by
 refine⟨(ns.drop (HT.sIx ns.length 0 lo)).take (HT.sIx ns.length ns.length hi-HT.sIx ns.length 0 lo),?_,?_⟩
 ·unfold eU;rw [z12,List.map_take,List.map_drop]
 ·rw [z2b,z2d];lia
def yf0{ms:List Int}{Z:De}{G:List M}:∃so:List Int,eF (ck (.v (.ow (.lst (ms.map I.int)))) ms.length) c1 bT (bd (af (aa 0) (af (ai fw (ag (.int 0)) (aa 0)) ae)) dU) [] 0 ms.length [] Z G=some (so.map I.int,G)/\so.length=ms.length/\∀m∈so,0≤m:=by
 obtain⟨ds,G',e,so,ed,ls,hp,eg⟩:=qb (w:=ck (.v (.ow (.lst (ms.map I.int)))) ms.length) (c:=c1) (tt:=bT) (te:=bd (af (aa 0) (af (ai fw (ag (.int 0)) (aa 0)) ae)) dU) (di:=[]) (Z:=Z)
  (λi acc G'=>∃so:List Int,acc=so.map I.int/\so.length=i/\(∀m∈so,0≤m)/\G'=G)
  (λi acc G1 hi zz=>by
   obtain⟨so,ea,ls,hp,o⟩:=zz
   have hi:i<ms.length:=hi
   subst o
   obtain⟨y,hy⟩:∃y,(if 0-ms[i]>ms[i] then 0-ms[i] else ms[i])=y:=⟨_,rfl⟩
   refine⟨.int ms[i],[.int ms[i]],_,_,.int y,[↑(.int ms[i])],G1,?_,rfl,rfl,?_,so++[y],by rw [ea,z28];rfl,by rw [zd,ls];rfl,λm hm=>?_,rfl⟩
   ·simp [ck,sq,pk,hi]
   ·subst hy;simp! [dU]
   ·rcases z1e.mp hm with z|z
    ·exact hp m z
    ·have:m=y:=by simpa using z
     subst this;subst hy;split<;>lia)
  (λ_ _ _=>by simp [ck,sq,pk]) ms.length 0 [] G (by simp [ck]) ⟨[],rfl,rfl,λ_ h=>(by cases h),rfl⟩
 exact⟨so,by rw [ed,eg] at e;exact e,ls,hp⟩
def yeb{so:List Int}{Z:De}{G:List M}{k:Nat}(hk:G[k]?=some (.lst (so.map I.int)))(hp:∀m∈so,0≤m):∃le:List Int,eF (ck ⇑(.ref k) so.length) c1 (ao (ai gI (aa 0) (ai g9 (ag (.int 10)) (ag (.int 18))))) (aa 0) [] 0 so.length [] Z G=some (le.map I.int,G)/\∀m∈le,0≤m:=by
 obtain⟨ds,G',e,so',ed,hp,eg⟩:=HX (w:=ck ⇑(.ref k) so.length) (c:=c1) (tt:=ao (ai gI (aa 0) (ai g9 (ag (.int 10)) (ag (.int 18))))) (te:=aa 0) (di:=[]) (Z:=Z)
  (λi acc G'=>∃le:List Int,acc=le.map I.int/\(∀m∈le,0≤m)/\G'=G)
  (λi acc G1 hi zz=>by
   obtain⟨le,ea,hp',o⟩:=zz
   have hi:i<so.length:=hi
   subst o
   refine⟨.int so[i],[.int so[i]],[↑(.int so[i])],G1,by simp [ck,sq,pk,hk,hi],rfl,?_⟩
   by_cases z:(1000000000000000000:Int)≤so[i]
   ·refine .inr ⟨.int so[i],[↑(.int so[i])],G1,by simp! [z],by simp! [],le++[so[i]],by rw [ea,z28];rfl,λm hm=>?_,rfl⟩
    rcases z1e.mp hm with y|y
    ·exact hp' m y
    ·have:m=so[i]:=by simpa using y
     subst this;exact hp _ (z30 hi)
   ·exact .inl ⟨by simp! [];lia,le,ea,hp',rfl⟩)
  (λ_ G1 zz=>by obtain⟨_,_,_,eg⟩:=zz;subst eg;simp [ck,sq,pk,hk]) so.length 0 [] G (by simp [ck]) ⟨[],rfl,λ_ h=>(by cases h),rfl⟩
 exact⟨so',by rw [ed,eg] at e;exact e,hp⟩
def ye9{so:List Int}{s1 s2 s3 v:Option Vl}{G:List M}{k:Nat}{a:Int}(hk:G[k]?=some (.lst (so.map I.int)))(h0:0≤a)(h1:a<2147483647):∃a' v',bC (ck ⇑(.ref k) so.length) (aG 4) AE 0 so.length [s1,s2,s3,↑(.int a),v] G=some (.nx [s1,s2,s3,↑(.int a'),v'] G)/\0≤a'/\a'<2147483647:=by
 obtain⟨Z',G',e,a',v',ed,p0,p1,eg⟩:=mC (w:=ck ⇑(.ref k) so.length) (g:=aG 4) (b:=AE)
  (λi Z G'=>∃(a:Int) (v:Option Vl),Z=[s1,s2,s3,↑(.int a),v]/\0≤a/\a<2147483647/\G'=G)
  (λi Z G1 hi zz=>by
   obtain⟨a,v,ea,p0,p1,o⟩:=zz
   have hi:i<so.length:=hi
   subst o
   subst ea
   refine⟨.int so[i],[s1,s2,s3,↑(.int a),↑(.int so[i])],G1,[s1,s2,s3,↑(.int ((a*48271+so[i] % 2147483629) % 2147483647)),↑(.int so[i])],G1,by simp [ck,sq,pk,hk,hi],rfl,?_,_,_,rfl,Int.emod_nonneg _ (by decide),Int.emod_lt_of_pos _ (by decide),rfl⟩
   simp! [AE])
  (λ_ G1 zz=>by obtain⟨_,_,_,_,_,eg⟩:=zz;subst eg;simp [ck,sq,pk,hk]) so.length 0 [s1,s2,s3,↑(.int a),v] G (by simp [ck]) ⟨a,v,rfl,h0,h1,rfl⟩
 exact⟨a',v',by rw [ed,eg] at e;exact e,p0,p1⟩
def hZ{fe:Mo Ev}{e:Ev}{xs:List I}{n:Nat}{Z Z1:De}{G G1:List M}(h:fe Z G=some (e,Z1,G1))(hl:oO Z1 G1 e=true)(hs:sq Z1 G1 e=some xs)(hn:xs.length=n):cH (one fe) cL Z G=some (ck e n,[e],Z1,G1):=by
 subst hn
 refine j6 (aq h rfl) ?_
 unfold cL uw
 dsimp only
 rw [if_pos hl,hs]
 rfl
def yee{ns:List Int}{b:Nat}{G:List M}(h:ns.length≤63)(hb:b≤1000):∃(a:Int) (so le:List Int),xD [.im (.fro (ns.map I.int)),.im (.int b)] G=some (.ow (.dic (dz a 0 (G.length+1))),G++[.lst (so.map I.int),.lst (le.map I.int)])/\0≤a/\a<2147483647/\∀m∈le,0≤m:=by
 obtain⟨ms,hc,lm⟩:=ydd ns (some (b:Int)) (some 63)
 obtain⟨so,e1,l1,p1⟩:=yf0 (ms:=ms) (Z:=[↑(.fro (ns.map I.int)),↑(.int b),none,none,none]) (G:=G)
 have hk:(G++[M.lst (so.map I.int)])[G.length]?=some (.lst (so.map I.int)):=by simp
 obtain⟨a,v,e2,a0,a1⟩:=ye9 (s1:=↑(.fro (ns.map I.int))) (s2:=↑(.int b)) (s3:=↑(.ref G.length)) (v:=none) (a:=7919+(b:Int)) hk (by lia) (by lia)
 obtain⟨le,e3,p3⟩:=yeb (Z:=[↑(.fro (ns.map I.int)),↑(.int b),↑(.ref G.length),↑(.int a),v]) hk p1
 refine⟨a,so,le.reverse,?_,a0,a1,λm hm=>p3 m (List.mem_reverse.mp hm)⟩
 refine aK rfl ?_
 refine aj (bB (nB (Z0:=[↑(.fro (ns.map I.int)),↑(.int b),none,none,none]) (by rfl) (hZ (e:=.v (.ow (.lst (ms.map I.int)))) (n:=ms.length) (Z1:=[↑(.fro (ns.map I.int)),↑(.int b),none,none,none]) (G1:=G) ?_ rfl rfl (by simp)) (by show ms.length≤100000;lia) e1) rfl) ?_
 ·simp! [az,av,ph,cq,eK,hc]
 refine aj (bB (x:=.im (.int (7919+(b:Int)))) (Z1:=[↑(.fro (ns.map I.int)),↑(.int b),↥(so.map I.int),none,none]) (G1:=G) (by simp! []) rfl) ?_
 refine aj (gx (hZ (e:=⇑(.ref G.length)) (n:=so.length) (Z1:=[↑(.fro (ns.map I.int)),↑(.int b),↑(.ref G.length),↑(.int (7919+(b:Int))),none]) (G1:=G++[M.lst (so.map I.int)]) (xs:=so.map I.int) (by simp! []) rfl (by simp [sq,pk]) (by simp)) e2) ?_
 refine aW (Z1:=[↑(.fro (ns.map I.int)),↑(.int b),↑(.ref G.length),↑(.int a),v]) ?_
 have e4:ft (cH (one (bf (aa 2))) cL) [] c1 (ao (ai gI (aa 0) (ai g9 (ag (.int 10)) (ag (.int 18))))) (aa 0) [↑(.fro (ns.map I.int)),↑(.int b),↑(.ref G.length),↑(.int a),v] (G++[M.lst (so.map I.int)])=some (.v (.ow (.lst (le.map I.int))),[↑(.fro (ns.map I.int)),↑(.int b),↑(.ref G.length),↑(.int a),v],G++[M.lst (so.map I.int)]):=by
  refine nB (by rfl) (hZ (e:=⇑(.ref G.length)) (n:=so.length) (Z1:=[↑(.fro (ns.map I.int)),↑(.int b),↑(.ref G.length),↑(.int a),v]) (G1:=G++[M.lst (so.map I.int)]) (xs:=so.map I.int) (by simp! []) rfl (by simp [sq,pk]) (by simp)) (by show so.length≤100000;lia) e3
 have e5:bf (a7 iR (ft (cH (one (bf (aa 2))) cL) [] c1 (ao (ai gI (aa 0) (ai g9 (ag (.int 10)) (ag (.int 18))))) (aa 0))) [↑(.fro (ns.map I.int)),↑(.int b),↑(.ref G.length),↑(.int a),v] (G++[M.lst (so.map I.int)])=some (⇑(.ref (G.length+1)),[↑(.fro (ns.map I.int)),↑(.int b),↑(.ref G.length),↑(.int a),v],G++[M.lst (so.map I.int),M.lst (le.reverse.map I.int)]):=by
  refine aq (hV e4 (r:=some (.v (.ow (.lst (le.reverse.map I.int))),[↑(.fro (ns.map I.int)),↑(.int b),↑(.ref G.length),↑(.int a),v],G++[M.lst (so.map I.int)])) (by simp [iR,eK,sq,pk])) ?_
  simp [oF]
 refine aq (a:=[⇑(.str "seed"),⇑(.int a),⇑(.str "number"),⇑(.int 0),⇑(.str "left"),⇑(.ref (G.length+1))]) (Z1:=[↑(.fro (ns.map I.int)),↑(.int b),↑(.ref G.length),↑(.int a),v]) (G1:=G++[M.lst (so.map I.int),M.lst (le.reverse.map I.int)]) ?_ ?_
 ·refine aq rfl (aq rfl (aq (a:=[⇑(.str "number"),⇑(.int 0),⇑(.str "left"),⇑(.ref (G.length+1))]) (aq rfl (aq rfl (aq (a:=[⇑(.str "left"),⇑(.ref (G.length+1))]) (aq rfl (aq e5 (aq rfl rfl))) rfl))) rfl))
 ·simp [iU,gc,iV,dk,jP,xN,HM,xO,dz]
end
section
abbrev ah(l:List Nat):Str:=⟨l.toArray⟩
def dY(l:List Nat):(ah l).cps.toList=l:=rfl
def h9(x:Str):ah x.cps.toList=x:=by cases x;simp [ah]
def bF(l:List Nat):(ah l).length=l.length:=by simp [ah,Str.length]
def j8(a b:List Nat):ah a++ah b=ah (a++b):=by
 refine Str.ext' ?_
 rw [Str.cps_append]
 simp [ah]
def HY{a b:List Nat}(h:ah a=ah b):a=b:=by have:=congrArg (λs:Str=>s.cps.toList) h;simpa [ah] using this
def ie{x:Str}{l:List Nat}(h:x.cps.toList=l):x=ah l:=by rw [<- h,h9]
abbrev b5(c:Nat):List Nat->List (List Nat)
 | []=>[[]]
 | d::r=>if d=c then []::b5 c r else match b5 c r with
  | p::ps=>(d::p)::ps
  | []=>[[d]]
abbrev jn(c:Nat):List (List Nat)->List Nat
 | []=>[]
 | [p]=>p
 | p::q::r=>p++c::jn c (q::r)
def gy(c:Nat)(p:List Nat){r:List (List Nat)}(h:r≠[]):jn c (p::r)=p++c::jn c r:=by
 cases r with
 | nil=>exact absurd rfl h
 | cons q r=>rfl
theorem i3(c:Nat):∀{a b:List (List Nat)},a≠[]->b≠[]->jn c (a++b)=jn c a++c::jn c b
 | [],_,h,_=>absurd rfl h
 | [p],b,_,hb=>gy c p hb
 | p::q::r,b,_,hb=>by
  have ih:=i3 c (a:=q::r) (b:=b) (by simp) hb
  show jn c (p::((q::r)++b))=_
  rw [gy c p (by simp),ih,gy c p (by simp)]
  simp
theorem xT(c:Nat):∀{p:List Nat},c∉p->b5 c p=[p]
 | [],_=>rfl
 | d::p,h=>by
  have h1:d≠c:=λe=>h (by rw [e];exact List.mem_cons_self)
  have h2:c∉p:=λe=>h (z1d _ e)
  rw [b5,if_neg h1,xT c h2]
theorem xU(c:Nat):∀{p:List Nat} (r:List Nat),c∉p->b5 c (p++c::r)=p::b5 c r
 | [],r,_=>by rw [List.nil_append,b5,if_pos rfl]
 | d::p,r,h=>by
  have h1:d≠c:=λe=>h (by rw [e];exact List.mem_cons_self)
  have h2:c∉p:=λe=>h (z1d _ e)
  rw [z36,b5,if_neg h1,xU c r h2]
theorem xV(c:Nat):∀{ps:List (List Nat)},ps≠[]->(∀p∈ps,c∉p)->b5 c (jn c ps)=ps
 | [],h,_=>absurd rfl h
 | [p],_,h=>xT c (h p List.mem_cons_self)
 | p::q::r,_,h=>by
  rw [gy c p (by simp),xU c _ (h p List.mem_cons_self),xV c (by simp) λy hy=>h y (z1d _ hy)]
theorem xW(c:Nat):∀ps:List Str,(Str.join ⟨#[c]⟩ ps).cps.toList=jn c (ps.map λp=>p.cps.toList)
 | []=>rfl
 | [p]=>rfl
 | p::q::r=>by
  show (p++⟨#[c]⟩++Str.join ⟨#[c]⟩ (q::r)).cps.toList=_
  rw [Str.cps_append,Str.cps_append,Array.toList_append,Array.toList_append,xW c (q::r)]
  show (p.cps.toList++[c])++jn c ((q::r).map λp=>p.cps.toList)=_
  rw [z18 (a:=p),gy c _ (by simp)]
  simp
def HZ(x:Str)(c:Nat):Txt.split x ⟨#[c]⟩≠[]:=by
 unfold Txt.split
 split
 ·simp
 ·split
  ·simp
  ·rw [StrLaws.partsBetween_eq]
   obtain⟨p,r,e⟩:=StrLaws.partsFrom_ne x (⟨#[c]⟩:Str).length 0 (Builtin.Str.occurrences x ⟨#[c]⟩ 0 x.length (x.length+1))
   rw [e];simp
def qd(x:Str)(c:Nat):Txt.split x ⟨#[c]⟩=(b5 c x.cps.toList).map ah:=by
 have h1:=StrLaws.join_split x ⟨#[c]⟩
 have h2:=StrLaws.split_free x c
 have h3:=HZ x c
 have h4:(Str.join ⟨#[c]⟩ (Txt.split x ⟨#[c]⟩)).cps.toList=x.cps.toList:=congrArg (λs:Str=>s.cps.toList) h1
 rw [xW] at h4
 rw [<- h4,xV c (by simpa using h3) (λp hp=>by obtain⟨q,hq,rfl⟩:=List.mem_map.mp hp;exact h2 q hq),z31]
 have:(ah ∘ λp:Str=>p.cps.toList)=id:=by funext p;exact h9 p
 rw [this,List.map_id]
abbrev jz(z:List Nat):List (List Nat)->List Nat
 | []=>[]
 | [p]=>p
 | p::q::r=>p++z++jz z (q::r)
theorem mD(z:List Nat):∀ps:List (List Nat),(Str.join (ah z) (ps.map ah)).cps.toList=jz z ps
 | []=>rfl
 | [p]=>rfl
 | p::q::r=>by
  show (ah p++ah z++Str.join (ah z) ((q::r).map ah)).cps.toList=_
  rw [Str.cps_append,Str.cps_append,Array.toList_append,Array.toList_append,mD z (q::r)]
  rfl
def i4(c:Nat):∀l:List Nat,b5 c l≠[]
 | []=>by simp [b5]
 | d::r=>by
  rw [b5]
  split
  ·simp
  ·split<;>simp
def qe(z:List Nat)(p:List Nat){r:List (List Nat)}(h:r≠[]):jz z (p::r)=p++z++jz z r:=by
 cases r with
 | nil=>exact absurd rfl h
 | cons q r=>rfl
theorem qf(c:Nat)(z:List Nat):∀l:List Nat,jz z (b5 c l)=l.flatMap λd=>if d=c then z else [d]
 | []=>rfl
 | d::r=>by
  rw [b5,List.flatMap_cons,<- qf c z r]
  split
  ·rw [qe z [] (i4 c r)];rfl
  ·cases e:b5 c r with
   | nil=>exact absurd e (i4 c r)
   | cons p ps =>
    cases ps with
    | nil=>rfl
    | cons q ps=>rfl
def mE(x:Str)(c:Nat)(z:List Nat):(Txt.replace x ⟨#[c]⟩ (ah z)).cps.toList=x.cps.toList.flatMap λd=>if d=c then z else [d]:=by
 rw [StrLaws.replace_one,qd,mD,qf]
abbrev dg(n:Nat):List Nat:=(Nat.toDigits 10 n).map Char.toNat
def j9{n:Nat}(h:n<10):dg n=[48+n]:=by
 unfold dg
 rw [Nat.toDigits_of_lt_base h]
 show [(Nat.digitChar n).toNat]=_
 rw [Nat.toNat_digitChar_of_lt_ten h]
def mF{n:Nat}(h:10≤n):dg n=dg (n / 10)++[48+n % 10]:=by
 have hm:n % 10<10:=Nat.mod_lt n (by decide)
 have t:Nat.toDigits 10 (n / 10)++Nat.toDigits 10 (n % 10)=Nat.toDigits 10 (10*(n / 10)+n % 10):=Nat.toDigits_append_toDigits (by decide) (by lia) hm
 rw [Nat.div_add_mod] at t
 unfold dg
 rw [<- t,z28]
 have:=j9 hm
 unfold dg at this
 rw [this]
def xX(n:Nat):(toString (n:Int):Str)=ah (dg n):=ie (W.KIN.signs_num n)
def kc(n:Nat):∀c∈dg n,48≤c/\c≤57:=by
 induction n using Nat.strongRecOn with
 | _ n ih =>
  by_cases h:n<10
  ·rw [j9 h];intro c hc;rw [z22.mp hc];lia
  ·rw [mF (by lia)]
   intro c hc
   rcases z1e.mp hc with hc|hc
   ·exact ih (n / 10) (by lia) c hc
   ·rw [z22.mp hc];lia
def i5(n:Nat):dg n≠[]:=by
 by_cases h:n<10
 ·rw [j9 h];simp
 ·rw [mF (by lia)];simp
def yfc(n:Nat):∀r,dg n=48::r->n=0:=by
 induction n using Nat.strongRecOn with
 | _ n ih =>
  intro r e
  by_cases h:n<10
  ·rw [j9 h] at e;injection e with e1 _;lia
  ·rw [mF (by lia)] at e
   cases e2:dg (n / 10) with
   | nil=>exact absurd e2 (i5 _)
   | cons d t =>
    rw [e2] at e
    injection e with e3 _
    have:=ih (n / 10) (by lia) t (by rw [e2,e3])
    lia
abbrev vl(a:Nat)(l:List Nat):Nat:=l.foldl (λa c=>10*a+(c-48)) a
def xY(n:Nat):vl 0 (dg n)=n:=by
 induction n using Nat.strongRecOn with
 | _ n ih =>
  by_cases h:n<10
  ·rw [j9 h];show 10*0+(48+n-48)=n;lia
  ·rw [mF (by lia)]
   unfold vl at ih ⊢
   rw [List.foldl_append,ih (n / 10) (by lia)]
   show 10*(n / 10)+(48+n % 10-48)=n
   lia
def Ia(n k:Nat)(h:n<10 ^ (k+1)):(dg n).length≤k+1:=by
 induction k generalizing n with
 | zero=>rw [j9 (by lia)];simp
 | succ k ih =>
  by_cases h1:n<10
  ·rw [j9 h1];simp
  ·rw [mF (by lia),zd]
   have:n / 10<10 ^ (k+1):=by rw [Nat.div_lt_iff_lt_mul (by decide)];rw [Nat.pow_succ] at h;exact h
   have:=ih (n / 10) this
   simp
   lia
inductive Tm where
 | num (w:Nat)|cell (x:List Nat)|at_ (r:List Nat) (t:Tm)|op (s:Nat) (a b:Tm)
abbrev Tm.i:Tm->I
 | .num w=>.tup [.str "num",.int w]
 | .cell x=>.tup [.str "cell",.str (ah x)]
 | .at_ r t=>.tup [.str "at",.str (ah r),t.i]
 | .op s a b=>.tup [.str "op",.str (ah [s]),a.i,b.i]
abbrev Tm.deep:Tm->Nat
 | .num _=>1
 | .cell _=>1
 | .at_ _ t=>t.deep+1
 | .op _ a b=>max a.deep b.deep+1
abbrev Tm.size:Tm->Nat
 | .num _=>1
 | .cell _=>1
 | .at_ _ t=>1+t.size
 | .op _ a b=>1+a.size+b.size
abbrev i6(s:Nat):Prop:=s=43∨s=45∨s=42∨s=60∨s=61
abbrev bM:List Str:=["cell","row","def","main","set","put","while","if","else","call","end","at"]
structure Nm(x:List Nat):Prop where
 lo:1≤x.length
 hi:x.length≤6
 ab:∀c∈x,97≤c/\c≤122
 nk:ah x∉bM
abbrev Tm.ok:Tm->Prop
 | .num w=>w<4294967296
 | .cell x=>Nm x
 | .at_ r t=>Nm r/\t.ok
 | .op s a b=>i6 s/\a.ok/\b.ok
abbrev Tm.tx:Tm->List Nat
 | .num w=>dg w
 | .cell x=>x
 | .at_ r t=>[40,97,116,32]++r++[32]++t.tx++[41]
 | .op s a b=>[40]++([s]++[32]++a.tx++[32]++b.tx)++[41]
abbrev Tm.tk:Tm->List (List Nat)
 | .num w=>[dg w]
 | .cell x=>[x]
 | .at_ r t=>[[40],[97,116],r]++t.tk++[[41]]
 | .op s a b=>[[40],[s]]++a.tk++b.tk++[[41]]
def Tm.y4a5:∀t:Tm,t.tk≠[]
 | .num _=>by simp [tk]
 | .cell _=>by simp [tk]
 | .at_ _ _=>by simp [tk]
 | .op _ _ _=>by simp [tk]
abbrev gg(d:Nat):List Nat:=if d=40 then [40,32] else if d=41 then [32,41] else [d]
theorem kd:∀{l:List Nat},(∀c∈l,c≠40/\c≠41)->l.flatMap gg=l
 | [],_=>rfl
 | d::l,h=>by
  have h1:=h d List.mem_cons_self
  rw [List.flatMap_cons,kd λc hc=>h c (z1d _ hc)]
  unfold gg
  rw [if_neg h1.1,if_neg h1.2]
  rfl
def xZ(n:Nat):∀c∈dg n,c≠40/\c≠41/\c≠32:=λc hc=>by have:=kc n c hc;lia
def Nm.plain{x:List Nat}(h:Nm x):∀c∈x,c≠40/\c≠41/\c≠32:=λc hc=>by have:=h.ab c hc;lia
def i6.plain{s:Nat}(h:i6 s):s≠40/\s≠41/\s≠32:=by unfold i6 at h;lia
theorem Tm.sx:∀{t:Tm},t.ok->t.tx.flatMap gg=jn 32 t.tk
 | .num w,_=>kd λc hc=>⟨(xZ w c hc).1,(xZ w c hc).2.1⟩
 | .cell x,h=>kd λc hc=>⟨(Nm.plain h c hc).1,(Nm.plain h c hc).2.1⟩
 | .at_ r t,h=>by
  rw [tx,tk,List.flatMap_append,List.flatMap_append,List.flatMap_append,List.flatMap_append,t.sx h.2,kd (l:=r) λc hc=>⟨(h.1.plain c hc).1,(h.1.plain c hc).2.1⟩]
  rw [i3 32 (by simp) (by simp),i3 32 (by simp) t.y4a5]
  simp [gg,jn]
 | .op s a b,h=>by
  have hs:=h.1.plain
  rw [tx,tk,List.flatMap_append,List.flatMap_append,List.flatMap_append,List.flatMap_append,List.flatMap_append,List.flatMap_append,a.sx h.2.1,b.sx h.2.2,kd (l:=[s]) λc hc=>by rw [z22.mp hc];exact⟨hs.1,hs.2.1⟩]
  rw [i3 32 (by simp) (by simp),i3 32 (by simp) b.y4a5,i3 32 (by simp) a.y4a5]
  simp [gg,jn]
def qg(l:List Nat):(l.flatMap λd=>if d=40 then [40,32] else [d]).flatMap (λd=>if d=41 then [32,41] else [d])=l.flatMap gg:=by
 rw [List.flatMap_assoc]
 congr 1
 funext d
 unfold gg
 by_cases h:d=40
 ·subst h;rfl
 ·rw [if_neg h,if_neg h];simp
def x6:("(" : Str)=⟨#[40]⟩:=by decide +kernel
def x8:("( " : Str)=ah [40,32]:=by decide +kernel
def x9:(")" : Str)=⟨#[41]⟩:=by decide +kernel
def yg:(" )" : Str)=ah [32,41]:=by decide +kernel
def yh:(" " : Str)=⟨#[32]⟩:=by decide +kernel
theorem Tm.y4c0:∀{t:Tm},t.ok->t.tx.length≤20*t.size
 | .num w,h=>by
  have:=Ia w 9 (z35 h (by decide))
  show (dg w).length≤20*1
  lia
 | .cell x,h=>by have:=Nm.hi h;show x.length≤20*1;lia
 | .at_ r t,h=>by
  have h1:=t.y4c0 h.2
  have h2:=h.1.hi
  simp only [tx,size,zd,z15,List.length_nil]
  lia
 | .op s a b,h=>by
  have h1:=a.y4c0 h.2.1
  have h2:=b.y4c0 h.2.2
  simp only [tx,size,zd,z15,List.length_nil]
  lia
theorem Tm.size_le:∀t:Tm,t.size+1≤2 ^ t.deep
 | .num _=>by simp [size,deep]
 | .cell _=>by simp [size,deep]
 | .at_ _ t=>by have:=t.size_le;simp only [size,deep,Nat.pow_succ];lia
 | .op _ a b=>by
  have h1:=a.size_le
  have h2:=b.size_le
  have h3:2 ^ a.deep≤2 ^ max a.deep b.deep:=Nat.pow_le_pow_right (by decide) (Nat.le_max_left _ _)
  have h4:2 ^ b.deep≤2 ^ max a.deep b.deep:=Nat.pow_le_pow_right (by decide) (Nat.le_max_right _ _)
  simp only [size,deep,Nat.pow_succ]
  lia
def Tm.y425{t:Tm}(h:t.deep≤6):t.size≤63:=by
 have h1:=t.size_le
 have h2:2 ^ t.deep≤2 ^ 6:=Nat.pow_le_pow_right (by decide) h
 lia
end
section
variable {d l:Nat}
def cO{α:Type}(x:α)(r:List α):cC (x::r) 0=some x:=jd (j:=0) rfl
def iz{α:Type}(x y:α)(r:List α):cC (x::y::r) 1=some y:=jd (j:=1) rfl
def qU{α:Type}(x y z:α)(r:List α):cC (x::y::z::r) 2=some z:=jd (j:=2) rfl
def Ib{α:Type}(x y z u:α)(r:List α):cC (x::y::z::u::r) 3=some u:=jd (j:=3) rfl
def Ic{G:List M}{d l:Nat}(D:DG G d l):∃w G',pT [.im (.ref d)] G=some (.im (.int w),G')/\0≤w/\w<4294967296/\DG G' d l/\Oth d l G G':=by
 obtain⟨r1,G1,e1,p0,p1,D1,o1⟩:=du (many:=6) D (by decide) (by decide)
 by_cases h:r1<4
 ·obtain⟨k,hk,k0,k1⟩:∃k,cC [I.int 2,I.int 5,I.int 5,I.int 10] r1=some (.int k)/\0<k/\k≤10:=by
   rcases (show r1=0∨r1=1∨r1=2∨r1=3 by lia) with z|z|z|z<;>subst z
   ·exact⟨2,cO _ _,by decide,by decide⟩
   ·exact⟨5,iz _ _ _,by decide,by decide⟩
   ·exact⟨5,qU _ _ _ _,by decide,by decide⟩
   ·exact⟨10,Ib _ _ _ _ _,by decide,by decide⟩
  obtain⟨r2,G2,e2,q0,q1,D2,o2⟩:=du (many:=k) D1 k0 (Int.lt_of_le_of_lt k1 (by decide))
  refine⟨r2,G2,?_,q0,by lia,D2,o1.trans o2⟩
  simp! [pT,e1,h,hk,e2]
 ·obtain⟨r2,G2,e2,q0,q1,D2,o2⟩:=du (many:=4294967296) D1 (by decide) (by decide)
  obtain⟨r3,G3,e3,s0,s1,D3,o3⟩:=du (many:=3) D2 (by decide) (by decide)
  have o:=(o1.trans o2).trans o3
  rcases (show r1=4∨r1=5 by lia) with z|z<;>subst z
  ·exact⟨r2,G3,by simp! [pT,e1,e2,e3,cO],q0,q1,D3,o⟩
  ·exact⟨4294967295-r3,G3,by simp! [pT,e1,e2,e3,iz],by lia,by lia,D3,o⟩
def mG{xs:List Str}{r:Int}(h0:0≤r)(h1:r<xs.length):∃x,cC (xs.map I.str) r=some (.str x)/\x∈xs:=by
 obtain⟨j,rfl⟩:=Int.eq_ofNat_of_zero_le h0
 have hj:j<xs.length:=by lia
 exact⟨xs[j],jd (by simp [hj]),z30 hj⟩
def mH{α:Type}{xs:List α}{r:Int}(h0:0≤r)(h1:r<xs.length):∃x,cC xs r=some x/\x∈xs:=by
 obtain⟨j,rfl⟩:=Int.eq_ofNat_of_zero_le h0
 have hj:j<xs.length:=by lia
 exact⟨xs[j],jd (by simp [hj]),z30 hj⟩
abbrev fI(s:Str):Prop:=∀c∈s.cps.toList,97≤c/\c≤122
def fI.app{a b:Str}(x:fI a)(y:fI b):fI (a++b):=λc hc=>by
 rw [Str.cps_append,Array.toList_append,z1e] at hc
 exact hc.elim (x c) (y c)
def y5d:∀c∈("abcdefghijklmnopqrstuvwxyz" : Str).cps.toList,97≤c/\c≤122:=by decide +kernel
def yi(x:Str){a:Nat}(h:a≤x.length):Txt.slice x none (some (a:Int))=ah (x.cps.toList.take a):=by
 have:=StrLaws.sliceText_to (x:=x) (j:=a) ⟨by lia,by simp [Str.length] at h ⊢;lia⟩
 rw [show Txt.slice x none (some (a:Int))=StrLaws.sliceText x none (some (a:Int)) from rfl,this]
 simp [ah]
def qh(x:Str){a:Nat}(h:a≤x.length):Txt.slice x (some (a:Int)) none=ah (x.cps.toList.drop a):=by
 have:=StrLaws.sliceText_from (x:=x) (i:=a) ⟨by lia,by simp [Str.length] at h ⊢;lia⟩
 rw [show Txt.slice x (some (a:Int)) none=StrLaws.sliceText x (some (a:Int)) none from rfl,this]
 simp [ah]
 exact z2f (by simp)
def qi{m:Nat}{zs:List Str}(h:∀z∈zs,z.length≤m):(Txt.join "" zs).length≤zs.length*m:=by
 unfold Txt.join
 rw [StrLaws.glued_eq_join]
 have h1:=StrLaws.join_length_le "" zs
 have h2:(zs.map (·.length)).sum≤zs.length*m:=by
  clear h1
  induction zs with
  | nil=>simp
  | cons z zs ih =>
   rw [z18,List.sum_cons,z15,Nat.add_mul]
   have:=h z List.mem_cons_self
   have:=ih λy hy=>h y (z1d _ hy)
   lia
 have h3:("" : Str).length=0:=by decide +kernel
 rw [h3,Nat.mul_zero] at h1
 lia
def yj{m:Nat}{zs:List Str}(h:∀z∈zs,z.length≤m):(zs.map (·.length)).sum≤zs.length*m:=by
 induction zs with
 | nil=>simp
 | cons z zs ih =>
  rw [z18,List.sum_cons,z15,Nat.add_mul]
  have:=h z List.mem_cons_self
  have:=ih λy hy=>h y (z1d _ hy)
  lia
def yk{r:Int}{Z:De}{G:List M}(h0:0≤r)(h1:r<26):∃s:Str,aJ [⇑(.str "abcdefghijklmnopqrstuvwxyz"),⇑(.int r)] Z G=some (⇑(.str s),Z,G)/\s.length=1/\fI s:=by
 obtain⟨c,hc,hm⟩:=mH (xs:=("abcdefghijklmnopqrstuvwxyz" : Str).cps.toList) h0 (by rw [show ("abcdefghijklmnopqrstuvwxyz" : Str).cps.toList.length=26 by decide +kernel];exact h1)
 refine⟨⟨#[c]⟩,?_,rfl,λe he=>by rw [show e=c by simpa using he];exact y5d c hm⟩
 have hl:("abcdefghijklmnopqrstuvwxyz" : Str).length≤1000000:=by rw [show ("abcdefghijklmnopqrstuvwxyz" : Str).length=26 by decide +kernel];lia
 generalize ("abcdefghijklmnopqrstuvwxyz" : Str)=z at hc hl ⊢
 simp [aJ,bS,eI,sq,pk,hc,hl]
def yd4{G:List M}{N:Nat}{Z:De}(D:DG G d l):∃(zs:List Str) (G':List M),eF (mz N) c1 bT (ai aJ (aa 1) (bd (af (aa 2) (af (ag (.int 26)) ae)) (aB 2 bu))) [↑(.str "abcdefghijklmnopqrstuvwxyz"),↑(.ref d)] 0 N [] Z G=some (zs.map I.str,G')/\zs.length=N/\(∀z∈zs,z.length=1/\fI z)/\DG G' d l/\Oth d l G G':=by
 obtain⟨ds,G',e,zs,ed,lz,hz,D',o⟩:=qb (w:=mz N) (c:=c1) (tt:=bT) (te:=ai aJ (aa 1) (bd (af (aa 2) (af (ag (.int 26)) ae)) (aB 2 bu))) (di:=[↑(.str "abcdefghijklmnopqrstuvwxyz"),↑(.ref d)]) (Z:=Z)
  (λi acc G'=>∃zs:List Str,acc=zs.map I.str/\zs.length=i/\(∀z∈zs,z.length=1/\fI z)/\DG G' d l/\Oth d l G G')
  (λi acc g hi zz=>by
   obtain⟨zs,ea,lz,hz,D,o⟩:=zz
   obtain⟨r,g1,e1,p0,p1,D1,o1⟩:=du (many:=26) D (by decide) (by decide)
   obtain⟨s,es,ls⟩:=yk (Z:=[↑(.int i),↑(.str "abcdefghijklmnopqrstuvwxyz"),↑(.ref d)]) (G:=g1) p0 p1
   refine⟨.int i,[.int i],_,_,.str s,[↑(.int i),↑(.str "abcdefghijklmnopqrstuvwxyz"),↑(.ref d)],g1,rfl,rfl,rfl,?_,zs++[s],by rw [ea,z28];rfl,by rw [zd,lz];rfl,λz hm=>?_,D1,o.trans o1⟩
   ·exact aw rfl (aq (a:=[⇑(.ref d),⇑(.int 26)]) rfl (bX (xs:=[.im (.ref d),.im (.int 26)]) rfl rfl e1)) es
   ·rcases z1e.mp hm with q|q
    ·exact hz z q
    ·have:z=s:=by simpa using q
     subst this;exact ls)
  (λ_ _ _=>rfl) N 0 [] G (by rw [mB];lia) ⟨[],rfl,rfl,λ_ h=>(by cases h),D,Oth.refl _ _ _⟩
 exact⟨zs,G',by rw [ed] at e;exact e,lz,hz,D',o⟩
def qj:("" : Str).length=0:=by decide +kernel
def ym:("z" : Str).length=1:=by decide +kernel
def Ie:fI ("z" : Str):=by unfold fI;decide +kernel
def yn:fI ("" : Str):=by unfold fI;decide +kernel
def Ig{zs:List Str}(h:∀z∈zs,z.length=1/\fI z):fI (Txt.join "" zs):=by
 unfold Txt.join
 rw [StrLaws.glued_eq_join]
 induction zs with
 | nil=>exact λc hc=>by cases hc
 | cons z zs ih =>
  have h1:=(h z List.mem_cons_self).2
  have h2:=ih λy hy=>h y (z1d _ hy)
  cases zs with
  | nil=>exact h1
  | cons y r=>exact (h1.app yn).app h2
structure Nm0(y:Str):Prop where
 lo:1≤y.length
 hi:y.length≤6
 lt:fI y
def Ih{G:List M}{core:Str}{a:Nat}{t:Int}{ys:List Str}{v1 v8 v9 v10 v11:Option Vl}{v0:Option Vl}{i:Nat}(hc:core.length≤4)(hlt:fI core)(ha:a≤core.length)(h0:0≤t)(hl:ys.length≤1000) :
  ∃(y:Str) (v8':Option Vl),AF [v0,v1,↑(.str "abcdefghijklmnopqrstuvwxyz"),↑(.str core),↑(.int a),↑(.int t),↥(ys.map I.str),↑(.int i),v8,v9,v10,v11] G=some (.nx [v0,v1,↑(.str "abcdefghijklmnopqrstuvwxyz"),↑(.str core),↑(.int a),↑(.int t),↥((ys++[y]).map I.str),↑(.int i),v8',v9,v10,v11] G)/\Nm0 y:=by
 have r0:0≤(t+7*(i:Int)) % 26:=Int.emod_nonneg _ (by decide)
 have r1:(t+7*(i:Int)) % 26<26:=Int.emod_lt_of_pos _ (by decide)
 obtain⟨s,es,ls,lts⟩:=yk (Z:=[v0,v1,↑(.str "abcdefghijklmnopqrstuvwxyz"),↑(.str core),↑(.int a),↑(.int t),↥(ys.map I.str),↑(.int i),v8,v9,v10,v11]) (G:=G) r0 r1
 obtain⟨e,ee,le,lte⟩:∃e:Str,cC [I.str "",I.str "z"] ((i:Int) % 5 / 4)=some (.str e)/\e.length≤1/\fI e:=by
  rcases (show (i:Int) % 5 / 4=0∨(i:Int) % 5 / 4=1 by lia) with z|z<;>rw [z]
  ·exact⟨_,cO _ _,by rw [qj];lia,yn⟩
  ·exact⟨_,iz _ _ _,by rw [ym];lia,Ie⟩
 have ap:∀x y:Str,(x++y).length=x.length+y.length:=λx y=>strLen_append x y
 have hcl:core.cps.toList.length=core.length:=by simp [Str.length]
 have s1:=yi core ha
 have s2:=qh core ha
 have l1:(Txt.slice core none (some (a:Int))).length=a:=by rw [s1,bF,z2b,hcl];lia
 have l2:(Txt.slice core (some (a:Int)) none).length=core.length-a:=by rw [s2,bF,z2d,hcl]
 have t1:fI (Txt.slice core none (some (a:Int))):=λc hc=>by rw [s1,dY] at hc;exact hlt c (List.mem_of_mem_take hc)
 have t2:fI (Txt.slice core (some (a:Int)) none):=λc hc=>by rw [s2,dY] at hc;exact hlt c (List.mem_of_mem_drop hc)
 have hc':core.length≤1000000:=by lia
 have c1:s.length+(Txt.slice core (some (a:Int)) none).length≤1000000:=by lia
 have c2:(Txt.slice core none (some (a:Int))).length+(s++Txt.slice core (some (a:Int)) none).length≤1000000:=by rw [ap];lia
 have c3:(Txt.slice core none (some (a:Int))++(s++Txt.slice core (some (a:Int)) none)).length+e.length≤1000000:=by rw [ap,ap];lia
 have hn:ys.length<1000000:=by lia
 refine⟨Txt.slice core none (some (a:Int))++(s++Txt.slice core (some (a:Int)) none)++e,↑(.str (s++Txt.slice core (some (a:Int)) none)),?_,by rw [ap,ap,ap];lia,by rw [ap,ap,ap];lia,(t1.app (lts.app t2)).app lte⟩
 refine aj (bB (x:=.im (.str (s++Txt.slice core (some (a:Int)) none))) (Z1:=[v0,v1,↑(.str "abcdefghijklmnopqrstuvwxyz"),↑(.str core),↑(.int a),↑(.int t),↥(ys.map I.str),↑(.int i),v8,v9,v10,v11]) (G1:=G) (aw (x:=⇑(.str s)) (Z1:=[v0,v1,↑(.str "abcdefghijklmnopqrstuvwxyz"),↑(.str core),↑(.int a),↑(.int t),↥(ys.map I.str),↑(.int i),v8,v9,v10,v11]) (G1:=G) (aw rfl (r:=some (⇑(.str s),_,G)) (y:=⇑(.int ((t+7*(i:Int)) % 26))) (by simp! []) es) (y:=⇑(.str (Txt.slice core (some (a:Int)) none))) (Z2:=[v0,v1,↑(.str "abcdefghijklmnopqrstuvwxyz"),↑(.str core),↑(.int a),↑(.int t),↥(ys.map I.str),↑(.int i),v8,v9,v10,v11]) (G2:=G) (by simp! [az,av,aC,ph,cq,hc']) (by simp [aD,bS,kq,bE,jf,c1])) rfl) ?_
 simp! [az,av,aC,ph,cq,jf,hc',c1,c2,c3,ee,hn]
end
section
variable {d l:Nat}
abbrev kD(y:Str):Prop:=Nm y.cps.toList
abbrev AO(z:Str):Bool:=decide (1≤z.length)&&decide (z.length≤6)&&z.cps.toList.all (λc=>decide (97≤c)&&decide (c≤122)) && !(bM.contains z)
def yo{z:Str}(h:AO z=true):kD z:=by
 unfold AO at h
 rw [z1b,z1b,z1b,z33,decide_eq_true_eq,decide_eq_true_eq] at h
 obtain⟨⟨⟨h1,h2⟩,h3⟩,h4⟩:=h
 refine⟨by simpa [Str.length] using h1,by simpa [Str.length] using h2,λc hc=>by simpa using h3 c hc,λhm=>?_⟩
 rw [h9] at hm
 rw [List.contains_iff_mem.mpr hm] at h4
 cases h4
def Ii:∀y∈bM,AO (y++Txt.mul "q" 1)=true:=by decide +kernel
def Ij:∀y∈([("cells" : Str),"de","mains","setx","ends","atx","i","calls"]:List Str),AO y=true:=by decide +kernel
def Ik:Txt.mul "q" 0=Str.empty:=by decide +kernel
def Nm0.nm{y:Str}(h:Nm0 y)(hk:y∉bM):kD y:=⟨by simpa [Str.length] using h.lo,by simpa [Str.length] using h.hi,h.lt,by rw [h9];exact hk⟩
abbrev bN:List I:=[.str "cell",.str "row",.str "def",.str "main",.str "set",.str "put",.str "while",.str "if",.str "else",.str "call",.str "end",.str "at"]
abbrev cV:List I:=[.str "cells",.str "de",.str "mains",.str "setx",.str "ends",.str "atx",.str "i",.str "calls"]
def Il:bN.all bL=true:=rfl
def yp:("q" : Str).length≤1000:=by decide +kernel
def Im:(Txt.mul "q" 0).length≤1:=by decide +kernel
def Io:(Txt.mul "q" 1).length≤1:=by decide +kernel
def yq(y:Str):(bN.any λz=>br z (.str y))=bM.contains y:=by
 have:bN=bM.map I.str:=rfl
 rw [this,List.any_map]
 induction bM with
 | nil=>rfl
 | cons k ks ih =>
  rw [List.any_cons,ih,List.contains_cons]
  show ((k == y)||_)=_
  rw [Bool.beq_comm]
def yr{y:Str}{G:List M}(hy:Nm0 y):∃z:Str,ai aD (aa 0) (ai cJ (ag (.str "q")) (bd (af (ai eT (aa 0) (aa 1)) ae) dD)) [↑(.str y),↑(.tup bN)] G=some (⇑(.str z),[↑(.str y),↑(.tup bN)],G)/\kD z:=by
 have hlen:=hy.hi
 obtain⟨b,hb,eb⟩:∃b,b=bM.contains y/\ai eT (aa 0) (aa 1) [↑(.str y),↑(.tup bN)] G=some (⇑(.bl b),[↑(.str y),↑(.tup bN)],G):=by
  refine⟨_,(yq y),aw rfl rfl ?_⟩
  have h:(bL (.str y)&&bN.all bL)=true:=by rw [Il];rfl
  simp [eT,bS,iu,sq,h]
 have e1:bd (af (ai eT (aa 0) (aa 1)) ae) dD [↑(.str y),↑(.tup bN)] G=some (⇑(.int (if b then 1 else 0)),[↑(.str y),↑(.tup bN)],G):=aq (aq eb rfl) rfl
 obtain⟨j,hj,hl,hnm⟩:∃j:Int,(if b then (1:Int) else 0)=j/\((0≤j/\j≤1000)/\(Txt.mul "q" j).length≤1)/\kD (y++Txt.mul "q" j):=by
  cases b
  ·refine⟨0,rfl,⟨⟨by decide,by decide⟩,Im⟩,?_⟩
   rw [Ik,Str.append_empty]
   exact hy.nm λhm=>by rw [List.contains_iff_mem.mpr hm] at hb;cases hb
  ·exact⟨1,rfl,⟨⟨by decide,by decide⟩,Io⟩,yo (Ii y (List.contains_iff_mem.mp hb.symm))⟩
 rw [hj] at e1
 have e2:ai cJ (ag (.str "q")) (bd (af (ai eT (aa 0) (aa 1)) ae) dD) [↑(.str y),↑(.tup bN)] G=some (⇑(.str (Txt.mul "q" j)),[↑(.str y),↑(.tup bN)],G):=by
  refine aw rfl e1 ?_
  have q:=yp
  generalize ("q" : Str)=qs at q ⊢
  simp [cJ,bS,oU,bE,lV,lW,pk,hl.1.1,hl.1.2,q]
 refine⟨y++Txt.mul "q" j,aw rfl e2 ?_,hnm⟩
 have hs:y.length+(Txt.mul "q" j).length≤1000000:=by lia
 generalize Txt.mul "q" j=zz at hs
 simp [aD,bS,kq,bE,jf,hs]
def Ip{G:List M}{core:Str}{a:Nat}{t:Int}{v0 v1 v7 v8 v9 v10 v11:Option Vl}{N:Nat}(hc:core.length≤4)(hlt:fI core)(ha:a≤core.length)(h0:0≤t)(hN:N≤1000) :
  ∃(ys:List Str) (v7' v8':Option Vl),bC (mz N) (aG 7) AF 0 N [v0,v1,↑(.str "abcdefghijklmnopqrstuvwxyz"),↑(.str core),↑(.int a),↑(.int t),↥[],v7,v8,v9,v10,v11] G=some (.nx [v0,v1,↑(.str "abcdefghijklmnopqrstuvwxyz"),↑(.str core),↑(.int a),↑(.int t),↥(ys.map I.str),v7',v8',v9,v10,v11] G)/\ys.length=N/\∀y∈ys,Nm0 y:=by
 obtain⟨Z',G',e,ys,v7',v8',ed,ly,hy,eg⟩:=mC (w:=mz N) (g:=aG 7) (b:=AF) (λi Z G'=>∃(ys:List Str) (v7 v8:Option Vl),Z=[v0,v1,↑(.str "abcdefghijklmnopqrstuvwxyz"),↑(.str core),↑(.int a),↑(.int t),↥(ys.map I.str),v7,v8,v9,v10,v11]/\ys.length=i/\(∀y∈ys,Nm0 y)/\G'=G)
  (λi Z g hi p=>by
   obtain⟨ys,v7,v8,rfl,ly,hy,rfl⟩:=p
   have hi:i<N:=hi
   obtain⟨y,v8',e,h⟩:=Ih (G:=g) (core:=core) (a:=a) (t:=t) (ys:=ys) (v0:=v0) (v1:=v1) (v8:=v8) (v9:=v9) (v10:=v10) (v11:=v11) (i:=i) hc hlt ha h0 (by lia)
   refine⟨.int i,_,g,_,g,rfl,rfl,e,ys++[y],_,_,rfl,by rw [zd,ly];rfl,λz hz=>?_,rfl⟩
   rcases z1e.mp hz with q|q
   ·exact hy z q
   ·have:z=y:=by simpa using q
    subst this;exact h)
  (λZ g p=>rfl) N 0 [v0,v1,↑(.str "abcdefghijklmnopqrstuvwxyz"),↑(.str core),↑(.int a),↑(.int t),↥[],v7,v8,v9,v10,v11] G (by rw [mB];lia) ⟨[],_,_,rfl,rfl,λ_ h=>(by cases h),rfl⟩
 exact⟨ys,v7',v8',by rw [ed,eg] at e;exact e,ly,hy⟩
def Iq{G:List M}{ys:List Str}{Z:De}{k:Nat}(hk:G[k]?=some (.lst (ys.map I.str)))(hy:∀y∈ys,Nm0 y) :
  ∃zs:List Str,eF (ck ⇑(.ref k) ys.length) c1 bT (ai aD (aa 0) (ai cJ (ag (.str "q")) (bd (af (ai eT (aa 0) (aa 1)) ae) dD))) [↑(.tup bN)] 0 ys.length [] Z G=some (zs.map I.str,G)/\zs.length=ys.length/\∀z∈zs,kD z:=by
 obtain⟨ds,G',e,zs,ed,lz,hz,eg⟩:=qb (w:=ck ⇑(.ref k) ys.length) (c:=c1) (tt:=bT) (te:=ai aD (aa 0) (ai cJ (ag (.str "q")) (bd (af (ai eT (aa 0) (aa 1)) ae) dD))) (di:=[↑(.tup bN)]) (Z:=Z)
  (λi acc G'=>∃zs:List Str,acc=zs.map I.str/\zs.length=i/\(∀z∈zs,kD z)/\G'=G)
  (λi acc g hi zz=>by
   obtain⟨zs,ea,lz,hz,eg⟩:=zz
   have hi:i<ys.length:=hi
   subst eg
   obtain⟨z,ez,hzz⟩:=yr (G:=g) (y:=ys[i]) (hy ys[i] (z30 hi))
   refine⟨.str ys[i],[.str ys[i]],_,_,.str z,_,g,?_,rfl,rfl,ez,zs++[z],by rw [ea,z28];rfl,by rw [zd,lz];rfl,(λy hm=>by rcases z1e.mp hm with q|q;exact hz y q;rw [show y=z by simpa using q];exact hzz),rfl⟩
   simp [ck,sq,pk,hk,hi])
  (λ_ _ p=>by obtain⟨_,_,_,_,rfl⟩:=p;simp [ck,sq,pk,hk]) ys.length 0 [] G (by simp [ck]) ⟨[],rfl,rfl,λ_ h=>(by cases h),rfl⟩
 exact⟨zs,by rw [ed,eg] at e;exact e,lz,hz⟩
def qk{p:List Ev->Mo Ev}{fo:Mo Ev}{fa:Mo (List Ev)}{Z Z1 Z2:De}{G G1 G2:List M}{e:Ev}{es:List Ev}{r:Option (Ev×De×List M)}(h:fo Z G=some (e,Z1,G1))(hs:Az e=true)(ha:fa Z1 G1=some (es,Z2,G2))(k:p (e::es) Z2 G2=r):fP p fo fa Z G=r:=by
 unfold fP bd;rw [h];dsimp only;rw [if_pos hs,ha];exact k
def ql{n j:Nat}(h:j<n):er n (j:Int)=some j:=by
 unfold er
 rw [if_pos (by lia)]
 first|(rw [if_pos (by lia)];simp)|simp [h]
noncomputable abbrev eA:Str:="abcdefghijklmnopqrstuvwxyz"
def Ir(zs:List Str):(zs.map I.str).all bL=true:=by
 induction zs with
 | nil=>rfl
 | cons z zs ih=>rw [z18,List.all_cons,ih];rfl
def Iu{G:List M}(D:DG G d l):∃(ys:List Str) (G':List M),xF [.im (.ref d),.im (.int 12)] G=some (.ow (.lst (ys.map I.str)),G')/\ys.length=12/\(∀y∈ys,kD y)/\DG G' d l/\Mor d l G G':=by
 obtain⟨r1,G1,e1,p0,p1,D1,o1⟩:=du (many:=5) D (by decide) (by decide)
 obtain⟨N,hN⟩:=Int.eq_ofNat_of_zero_le p0
 obtain⟨zs,G2,e2,lz,hz,D2,o2⟩:=yd4 (N:=N) (Z:=[↑(.ref d),↑(.int 12),↑(.str eA),none,none,none,none,none,none,none,none,none]) D1
 have jl:=qi (m:=1) λz hm=>Nat.le_of_eq (hz z hm).1
 have sl:=yj (m:=1) λz hm=>Nat.le_of_eq (hz z hm).1
 have jt:=Ig hz
 obtain⟨core,y1af⟩:∃core,core=Txt.join "" zs:=⟨_,rfl⟩
 rw [<- y1af] at jl jt
 have hc:core.length≤4:=by lia
 obtain⟨r3,G3,e3,u3,w3,D3,o3⟩:=du (many:=(core.length:Int)+1) D2 (by lia) (by lia)
 obtain⟨a,rfl⟩:=Int.eq_ofNat_of_zero_le u3
 have ha:a≤core.length:=by lia
 obtain⟨r4,G4,e4,q0,q1,D4,o4⟩:=du (many:=26) D3 (by decide) (by decide)
 obtain⟨ys,v7,v8,e5,ly,hy⟩:=Ip (G:=G4) (core:=core) (a:=a) (t:=r4) (v0:=↑(.ref d)) (v1:=↑(.int 12)) (v7:=none) (v8:=none) (v9:=none) (v10:=none) (v11:=none) (N:=12) hc jt ha q0 (by decide)
 have hk:(G4++[M.lst (ys.map I.str)])[G4.length]?=some (.lst (ys.map I.str)):=by simp
 have D5:=D4.app [M.lst (ys.map I.str)]
 obtain⟨ws,e6,lw,hw⟩:=Iq (Z:=[↑(.ref d),↑(.int 12),↑(.str eA),↑(.str core),↑(.int (a:Int)),↑(.int r4),↑(.ref G4.length),v7,v8,↥cV,↑(.tup bN),none]) hk hy
 obtain⟨r7,G7,e7,u0,u1,D7,o7⟩:=du (many:=8) D5 (by decide) (by decide)
 obtain⟨nm,en,hnm⟩:∃nm:Str,cC cV r7=some (.str nm)/\kD nm:=by
  have:cV=[("cells" : Str),"de","mains","setx","ends","atx","i","calls"].map I.str:=rfl
  rw [this]
  obtain⟨x,hx,hm⟩:=mG (xs:=[("cells" : Str),"de","mains","setx","ends","atx","i","calls"]) u0 u1
  exact⟨x,hx,yo (Ij x hm)⟩
 obtain⟨r8,G8,e8,_,_,D8,o8⟩:=du (many:=3) D7 (by decide) (by decide)
 have mo:Mor d l G G8:=((((((o1.trans o2).trans o3).trans o4).mor).trans (Mor.app _)).trans (o7.trans o8).mor)
 have head:∀{z:Vl} {G':List M},ak (aF (eQ (ao (ai a9 (bd (af (aa 0) (af (ag (.int 3)) ae)) (aB 2 bu)) (ag (.int 1)))) (ao (ai jR (aa 11) (aa 6))))
   (dW (aa 6) (bd (af (aa 0) (af (aa 1) ae)) (aB 2 bu)) (aa 11)) aP) (ax (aa 6))
   [↑(.ref d),↑(.int 12),↑(.str eA),↑(.str core),↑(.int (a:Int)),↑(.int r4),↥(ws.map I.str),v7,v8,↥cV,↑(.tup bN),↑(.str nm)] G7=some (.rt z G')->xF [.im (.ref d),.im (.int 12)] G=some (z,G'):=by
  intro z G' hq
  refine aK rfl ?_
  refine aj (bB (x:=.im (.str eA)) (Z1:=[↑(.ref d),↑(.int 12),none,none,none,none,none,none,none,none,none,none]) (G1:=G) rfl rfl) ?_
  refine aj (bB (x:=.im (.str core)) (Z1:=[↑(.ref d),↑(.int 12),↑(.str eA),none,none,none,none,none,none,none,none,none]) (G1:=G2) ?_ rfl) ?_
  ·refine qk (e:=⇑(.str "")) (Z1:=[↑(.ref d),↑(.int 12),↑(.str eA),none,none,none,none,none,none,none,none,none]) (G1:=G) rfl rfl (aq (nB (by rfl) (pZ (n:=N) (j:=r1) (Z1:=[↑(.ref d),↑(.int 12),↑(.str eA),none,none,none,none,none,none,none,none,none]) (G1:=G1) (by simp! [e1]) hN (by lia)) (by rw [mB];lia) e2) rfl) ?_
   have h1:(zs.map (·.length)).sum+zs.length*("" : Str).length≤1000000:=by rw [qj];lia
   rw [y1af]
   simp [dm,pk,l9,h1]
  refine aj (bB (x:=.im (.int (a:Int))) (Z1:=[↑(.ref d),↑(.int 12),↑(.str eA),↑(.str core),none,none,none,none,none,none,none,none]) (G1:=G3) ?_ rfl) ?_
  ·have h1:core.length≤1000000:=by lia
   simp! [h1,e3]
  refine aj (bB (x:=.im (.int r4)) (Z1:=[↑(.ref d),↑(.int 12),↑(.str eA),↑(.str core),↑(.int (a:Int)),none,none,none,none,none,none,none]) (G1:=G4) (by simp! [e4]) rfl) ?_
  refine aj (bB (x:=.ow (.lst [])) (Z1:=[↑(.ref d),↑(.int 12),↑(.str eA),↑(.str core),↑(.int (a:Int)),↑(.int r4),none,none,none,none,none,none]) (G1:=G4) (by simp! []) rfl) ?_
  refine aj (gx (pZ (n:=12) (j:=12) (Z1:=[↑(.ref d),↑(.int 12),↑(.str eA),↑(.str core),↑(.int (a:Int)),↑(.int r4),↥[],none,none,none,none,none]) (G1:=G4) rfl rfl (by decide)) e5) ?_
  refine aj (bB (x:=.ow (.lst cV)) (Z1:=[↑(.ref d),↑(.int 12),↑(.str eA),↑(.str core),↑(.int (a:Int)),↑(.int r4),↥(ys.map I.str),v7,v8,none,none,none]) (G1:=G4) rfl rfl) ?_
  refine aj (bB (x:=.im (.tup bN)) (Z1:=[↑(.ref d),↑(.int 12),↑(.str eA),↑(.str core),↑(.int (a:Int)),↑(.int r4),↥(ys.map I.str),v7,v8,↥cV,none,none]) (G1:=G4) rfl rfl) ?_
  refine aj (bB (x:=.ow (.lst (ws.map I.str))) (Z1:=[↑(.ref d),↑(.int 12),↑(.str eA),↑(.str core),↑(.int (a:Int)),↑(.int r4),↑(.ref G4.length),v7,v8,↥cV,↑(.tup bN),none]) (G1:=G4++[M.lst (ys.map I.str)]) ?_ rfl) ?_
  ·exact nB (by rfl) (hZ (e:=⇑(.ref G4.length)) (n:=ys.length) (Z1:=[↑(.ref d),↑(.int 12),↑(.str eA),↑(.str core),↑(.int (a:Int)),↑(.int r4),↑(.ref G4.length),v7,v8,↥cV,↑(.tup bN),none]) (G1:=G4++[M.lst (ys.map I.str)]) (xs:=ys.map I.str) (by simp! []) rfl (by simp [sq,pk]) (by simp)) (by show ys.length≤100000;lia) e6
  refine aj (bB (x:=.im (.str nm)) (Z1:=[↑(.ref d),↑(.int 12),↑(.str eA),↑(.str core),↑(.int (a:Int)),↑(.int r4),↥(ws.map I.str),v7,v8,↥cV,↑(.tup bN),none]) (G1:=G7) ?_ rfl) hq
  simp! [e7,en]
 by_cases h8:r8=1
 ·subst h8
  obtain⟨b,hb⟩:∃b,b=!((ws.map I.str).any λy=>br y (.str nm)):=⟨_,rfl⟩
  have et:eQ (ao (ai a9 (bd (af (aa 0) (af (ag (.int 3)) ae)) (aB 2 bu)) (ag (.int 1)))) (ao (ai jR (aa 11) (aa 6))) [↑(.ref d),↑(.int 12),↑(.str eA),↑(.str core),↑(.int (a:Int)),↑(.int r4),↥(ws.map I.str),v7,v8,↥cV,↑(.tup bN),↑(.str nm)] G7=some (b,[↑(.ref d),↑(.int 12),↑(.str eA),↑(.str core),↑(.int (a:Int)),↑(.int r4),↥(ws.map I.str),v7,v8,↥cV,↑(.tup bN),↑(.str nm)],G8):=by
   refine kB (Z1:=[↑(.ref d),↑(.int 12),↑(.str eA),↑(.str core),↑(.int (a:Int)),↑(.int r4),↥(ws.map I.str),v7,v8,↥cV,↑(.tup bN),↑(.str nm)]) (G1:=G8) (by simp! [e8]) (aY (aw rfl rfl ?_))
   have h:(bL (.str nm)&&(ws.map I.str).all bL)=true:=by rw [Ir];rfl
   rw [hb]
   unfold jR bS iu
   dsimp only
   rw [show sq [↑(.ref d),↑(.int 12),↑(.str eA),↑(.str core),↑(.int (a:Int)),↑(.int r4),↥(ws.map I.str),v7,v8,↥cV,↑(.tup bN),↑(.str nm)] G8 (.s 6)=some (ws.map I.str) from rfl]
   dsimp only
   rw [if_pos h]
   rfl
  cases b with
  | false=>exact⟨ws,G8,head (aj (aL et rfl) rfl),by lia,hw,D8,mo⟩
  | true =>
   obtain⟨r9,G9,e9,w0,w1,D9,o9⟩:=du (many:=12) D8 (by decide) (by decide)
   obtain⟨j,rfl⟩:=Int.eq_ofNat_of_zero_le w0
   have hj:er ws.length (j:Int)=some j:=ql (by lia)
   refine⟨ws.set j nm,G9,head (aj (Z1:=[↑(.ref d),↑(.int 12),↑(.str eA),↑(.str core),↑(.int (a:Int)),↑(.int r4),↥((ws.set j nm).map I.str),v7,v8,↥cV,↑(.tup bN),↑(.str nm)]) (G1:=G9) (aV et ?_) rfl),by rw [z29];lia,(λy hy=>by rcases List.mem_or_eq_of_mem_set hy with q|q;exact hw y q;rw [q];exact hnm),D9,mo.trans o9.mor⟩
   simp! [e9,hj,List.map_set]
 ·have h8b:(r8 == 1)=false:=beq_eq_false_iff_ne.mpr h8
  refine⟨ws,G8,head (aj (aL (Z1:=[↑(.ref d),↑(.int 12),↑(.str eA),↑(.str core),↑(.int (a:Int)),↑(.int r4),↥(ws.map I.str),v7,v8,↥cV,↑(.tup bN),↑(.str nm)]) (G1:=G8) (pY (by simp! [e8,h8b])) rfl) rfl),by lia,hw,D8,mo⟩
end
section
variable {d l w rm:Nat}{ys:List Str}
structure Sn(G:List M)(d l w rm:Nat)(ys:List Str):Prop where
 D:DG G d l
 hw:G[w]?=some (.lst (ys.map I.str))
 r:∃r:Int,G[rm]?=some (.lst [.int r])
 nd:d≠w/\d≠rm
 nl:l≠w/\l≠rm
 nw:w≠rm
 c0:0<ys.length
 c1:ys.length≤1000
 nm:∀y∈ys,kD y
def Sn.oth{G G':List M}(s:Sn G d l w rm ys)(D:DG G' d l)(o:Oth d l G G'):Sn G' d l w rm ys :=
 ⟨D,(o.at_ _ s.nd.1.symm s.nl.1.symm).trans s.hw,by obtain⟨r,h⟩:=s.r;exact⟨r,(o.at_ _ s.nd.2.symm s.nl.2.symm).trans h⟩,s.nd,s.nl,s.nw,s.c0,s.c1,s.nm⟩
def Sn.draw{G:List M}{many:Int}(s:Sn G d l w rm ys)(h0:0<many)(h1:many<2 ^ 100):∃r G',bu [.im (.ref d),.im (.int many)] G=some (.im (.int r),G')/\0≤r/\r<many/\Sn G' d l w rm ys/\G'.length=G.length:=by
 obtain⟨r,G',e,p0,p1,D,o⟩:=du s.D h0 h1
 exact⟨r,G',e,p0,p1,s.oth D o,o.len⟩
def Sn.put{G:List M}(s:Sn G d l w rm ys)(r:Int):Sn (G.set rm (.lst [.int r])) d l w rm ys:=by
 obtain⟨r0,h⟩:=s.r
 have o:Oth rm rm G (G.set rm (.lst [.int r])):=Oth.setD
 exact⟨o.dg s.D s.nd.2 s.nd.2 s.nl.2 s.nl.2,(o.at_ _ s.nw s.nw).trans s.hw,⟨r,j7 h⟩,s.nd,s.nl,s.nw,s.c0,s.c1,s.nm⟩
def Sn.name{G:List M}(s:Sn G d l w rm ys):∃(x:List Nat) (G':List M),qO [.im (.ref d),.im (.ref w)] G=some (.im (.str (ah x)),G')/\Nm x/\Sn G' d l w rm ys/\G'.length=G.length:=by
 obtain⟨r,G',e,p0,p1,s',le⟩:=s.draw (many:=ys.length) (by have:=s.c0;lia) (by have:=s.c1;lia)
 obtain⟨x,ex,hx⟩:=mG p0 p1
 refine⟨x.cps.toList,G',?_,s.nm x hx,s',le⟩
 rw [h9]
 have hl:(ys.map I.str).length=ys.length:=z12 _
 simp! [qO,s.hw,s'.hw,e,ex,hl]
def Iv:∀c∈("+-*<=" : Str).cps.toList,c=43∨c=45∨c=42∨c=60∨c=61:=by decide +kernel
def Iw{r:Int}{Z:De}{G:List M}(h0:0≤r)(h1:r<5):∃c:Nat,aJ [⇑(.str "+-*<="),⇑(.int r)] Z G=some (⇑(.str (ah [c])),Z,G)/\i6 c:=by
 obtain⟨c,hc,hm⟩:=mH (xs:=("+-*<=" : Str).cps.toList) h0 (by rw [show ("+-*<=" : Str).cps.toList.length=5 by decide +kernel];exact h1)
 refine⟨c,?_,Iv c hm⟩
 have hl:("+-*<=" : Str).length≤1000000:=by rw [show ("+-*<=" : Str).length=5 by decide +kernel];lia
 simp [aJ,bS,eI,sq,pk,hc,hl,ah]
abbrev cz(d w rm dn:Nat)(v4 v5 v6:Option Vl):De:=[↑(.ref d),↑(.ref w),↑(.ref rm),↑(.int dn),v4,v5,v6]
theorem AQ:∀(n dn:Nat) {G:List M},5≤n+dn->dn≤4->Sn G d l w rm ys->∃(t:Tm) (G':List M),j4 n [.im (.ref d),.im (.ref w),.im (.ref rm),.im (.int dn)] G=some (.im t.i,G')/\t.ok/\t.deep+dn≤5/\Sn G' d l w rm ys/\G'.length=G.length
 | 0,dn,G,h,h2,_=>by lia
 | n+1,dn,G,h,h2,s=>by
  obtain⟨fm,G1,e1,p0,p1,s1,l1⟩:=s.draw (many:=6) (by decide) (by decide)
  obtain⟨r,hr⟩:=s1.r
  have st:aN (bd (af (aa 0) (af (ag (.int 6)) ae)) (aB 2 bu)) (aG 4) (cz d w rm dn none none none) G=some (.nx (cz d w rm dn ↑(.int fm) none none) G1):=by
   simp! [cz,e1]
  by_cases hs:r<1∨3<(dn:Int)∨fm<2
  ·have hc:dB (ao (ai dS (ai aJ (aa 2) (ag (.int 0))) (ag (.int 1)))) (dB (ao (ai fO (aa 3) (ag (.int 3)))) (ao (ai dS (aa 4) (ag (.int 2))))) (cz d w rm dn ↑(.int fm) none none) G1=some (true,cz d w rm dn ↑(.int fm) none none,G1):=by
    by_cases h3:r<1
    ·simp! [cz,hr,cO,h3]
    ·by_cases h4:3<(dn:Int)
     ·simp! [cz,hr,cO,h3,h4]
     ·have h5:fm<2:=(hs.resolve_left h3).resolve_left h4
      simp! [cz,hr,cO,h3,h4,h5]
   obtain⟨y,G2,e2,_,_,s2,l2⟩:=s1.draw (many:=2) (by decide) (by decide)
   by_cases hy:y=0
   ·subst hy
    obtain⟨x,G3,e3,hx,s3,l3⟩:=s2.name
    refine⟨.cell x,G3,?_,hx,by show 1+dn≤5;lia,s3,by lia⟩
    refine aK rfl (aj st (a6 (aV hc (a6 (aV (Z1:=cz d w rm dn ↑(.int fm) none none) (G1:=G2) (by simp! [cz,e2]) (aW (Z1:=cz d w rm dn ↑(.int fm) none none) ?_))))))
    simp! [cz,e3,Tm.i]
   ·have yb:(y == 0)=false:=beq_eq_false_iff_ne.mpr hy
    obtain⟨wd,G3,e3,w0,w1,D3,o3⟩:=Ic s2.D
    obtain⟨wn,rfl⟩:=Int.eq_ofNat_of_zero_le w0
    refine⟨.num wn,G3,?_,show wn<4294967296 by lia,by show 1+dn≤5;lia,s2.oth D3 o3,by rw [o3.len];lia⟩
    refine aK rfl (aj st (a6 (aV hc (aj (Z1:=cz d w rm dn ↑(.int fm) none none) (G1:=G2) (aL (Z1:=cz d w rm dn ↑(.int fm) none none) (G1:=G2) (by simp! [cz,e2,yb]) rfl) (aW (Z1:=cz d w rm dn ↑(.int fm) none none) ?_)))))
    simp! [cz,e3,Tm.i]
  ·have h3:¬ r<1:=λz=>hs (.inl z)
   have h4:¬ 3<(dn:Int):=λz=>hs (.inr (.inl z))
   have h5:¬ fm<2:=λz=>hs (.inr (.inr z))
   have hc:dB (ao (ai dS (ai aJ (aa 2) (ag (.int 0))) (ag (.int 1)))) (dB (ao (ai fO (aa 3) (ag (.int 3)))) (ao (ai dS (aa 4) (ag (.int 2))))) (cz d w rm dn ↑(.int fm) none none) G1=some (false,cz d w rm dn ↑(.int fm) none none,G1):=by
    simp! [cz,hr,cO,h3,h4,h5]
   have s1':=s1.put (r-1)
   have l1':(G1.set rm (M.lst [.int (r-1)])).length=G1.length:=z29
   have hp:dW (aa 2) (ag (.int 0)) (ai fw (ai aJ (aa 2) (ag (.int 0))) (ag (.int 1))) (cz d w rm dn ↑(.int fm) none none) G1=some (.nx (cz d w rm dn ↑(.int fm) none none) (G1.set rm (.lst [.int (r-1)]))):=by
    have:er 1 0=some 0:=by decide
    simp! [cz,hr,cO,this]
   have ed:((dn+1:Nat):Int)=(dn:Int)+1:=by lia
   by_cases hf:fm=2
   ·subst hf
    obtain⟨x,G2,e2,hx,s2,l2⟩:=s1'.name
    obtain⟨t,G3,e3,t1,t2,s3,l3⟩:=AQ n (dn+1) (by lia) (by lia) s2
    rw [ed] at e3
    refine⟨.at_ x t,G3,?_,⟨hx,t1⟩,by show t.deep+1+dn≤5;lia,s3,by lia⟩
    refine aK rfl (aj st (aj (aL hc rfl) (aj hp (a6 (aV (Z1:=cz d w rm dn ↑(.int 2) none none) (G1:=G1.set rm (.lst [.int (r-1)])) (by simp! [cz]) (aj (bB (x:=.im (.str (ah x))) (Z1:=cz d w rm dn ↑(.int 2) none none) (G1:=G2) (by simp! [cz,e2]) rfl) (aW (Z1:=cz d w rm dn ↑(.int 2) ↑(.str (ah x)) none) ?_)))))))
    simp! [cz,e3,Tm.i]
   ·have fb:(fm == 2)=false:=beq_eq_false_iff_ne.mpr hf
    obtain⟨ta,G2,e2,a1,a2,s2,l2⟩:=AQ n (dn+1) (by lia) (by lia) s1'
    rw [ed] at e2
    obtain⟨y,G3,e3,y0,y1,s3,l3⟩:=s2.draw (many:=5) (by decide) (by decide)
    obtain⟨tb,G4,e4,b1,b2,s4,l4⟩:=AQ n (dn+1) (by lia) (by lia) s3
    rw [ed] at e4
    obtain⟨sg,es,ls⟩:=Iw (Z:=cz d w rm dn ↑(.int fm) none ↑ta.i) (G:=G3) y0 y1
    refine⟨.op sg ta tb,G4,?_,⟨ls,a1,b1⟩,by show max ta.deep tb.deep+1+dn≤5;lia,s4,by lia⟩
    refine aK rfl (aj st (aj (aL hc rfl) (aj hp (aj (Z1:=cz d w rm dn ↑(.int fm) none none) (G1:=G1.set rm (.lst [.int (r-1)])) (aL (Z1:=cz d w rm dn ↑(.int fm) none none) (G1:=G1.set rm (.lst [.int (r-1)])) (by simp! [cz,fb]) rfl) (aj (bB (x:=.im ta.i) (Z1:=cz d w rm dn ↑(.int fm) none none) (G1:=G2) (by simp! [cz,e2]) rfl) (aW (Z1:=cz d w rm dn ↑(.int fm) none ↑ta.i) ?_))))))
    refine aq (aq rfl (aq (aq (aw rfl (aq (a:=[⇑(.ref d),⇑(.int 5)]) rfl (bX (xs:=[.im (.ref d),.im (.int 5)]) rfl rfl e3)) es) (aq (aq rfl (aq (aq (aq (a:=[⇑(.ref d),⇑(.ref w),⇑(.ref rm),⇑(.int ((dn:Int)+1))]) rfl (bX (xs:=[.im (.ref d),.im (.ref w),.im (.ref rm),.im (.int ((dn:Int)+1))]) rfl rfl e4)) rfl) rfl)) rfl)) rfl)) ?_
    simp! [cz,Tm.i]
end
section
def Iy:∀r,r<10->("0123456789" : Str).cps.toList[r]?=some (48+r):=by decide +kernel
def yt{r:Nat}{Z:De}{G:List M}(h:r<10):aJ [⇑(.str "0123456789"),⇑(.int (r:Int))] Z G=some (⇑(.str (ah [48+r])),Z,G):=by
 have hc:cC ("0123456789" : Str).cps.toList (r:Int)=some (48+r):=jd (Iy r h)
 have hl:("0123456789" : Str).length≤1000000:=by rw [show ("0123456789" : Str).length=10 by decide +kernel];lia
 simp [aJ,bS,eI,sq,pk,hc,hl,ah]
abbrev fJ(l:List Nat):List I:=l.map λc=>I.str (ah [c])
def Iz:∀l:List Nat,Txt.join "" (l.map λc=>ah [c])=ah l:=λl=>by
 unfold Txt.join
 rw [StrLaws.glued_eq_join,show ("" : Str)=ah [] by decide +kernel]
 have:(l.map λc=>ah [c])=(l.map λc=>[c]).map ah:=by rw [z31];rfl
 rw [this]
 refine ie ((mD [] _).trans ?_)
 induction l with
 | nil=>rfl
 | cons c l ih =>
  cases l with
  | nil=>rfl
  | cons c' l=>rw [z18,qe [] _ (by simp),ih (by rw [z31];rfl)];rfl
def IA{m:Nat}{acc:List Nat}{G:List M}(h:10≤m)(hl:acc.length≤1000):HE [↑(.int (m:Int)),↥(fJ acc)] G=some (.nx [↑(.int ((m / 10:Nat):Int)),↥(fJ (acc++[48+m % 10]))] G):=by
 have e1:((m:Int) % 10)=((m % 10:Nat):Int):=by lia
 have e2:((m:Int) / 10)=((m / 10:Nat):Int):=by lia
 have h1:=yt (r:=m % 10) (Z:=[↑(.int (m:Int)),↥(fJ acc)]) (G:=G) (by lia)
 have hn:(fJ acc).length<1000000:=by unfold fJ;rw [z12];lia
 refine aj (Z1:=[↑(.int (m:Int)),↥(fJ (acc++[48+m % 10]))]) (G1:=G) (pX (e:=⇑.non) (HK (e:=.s 1) rfl rfl (aq (aw rfl (y:=⇑(.int ((m % 10:Nat):Int))) (by rw [<- e1];simp! []) h1) rfl) ?_)) ?_
 ·unfold fJ at hn ⊢
  have hn':acc.length<1000000:=by lia
  simp [hG,pk,ir,je,dR,iT,hn']
 ·rw [<- e2];simp! []
def IB(G:List M):∀(m:Nat) (acc:List Nat),acc.length+(dg m).length≤1000->∃(k:Nat) (y5e:List Nat),gH AL HE [↑(.int (m:Int)),↥(fJ acc)] G=some (.nx [↑(.int (k:Int)),↥(fJ y5e)] G)/\k<10/\dg m++acc.reverse=(48+k)::y5e.reverse:=by
 intro m
 induction m using Nat.strongRecOn with
 | _ m ih =>
  intro acc hl
  by_cases h:m<10
  ·refine⟨m,acc,oM ?_,h,by rw [j9 h];rfl⟩
   have:¬ (9:Int)<m:=by lia
   simp! [AL,this]
  ·have hg:(9:Int)<m:=by lia
   rw [mF (by lia),zd] at hl
   obtain⟨k,y5e,e,hk,q⟩:=ih (m / 10) (by lia) (acc++[48+m % 10]) (by simp at hl ⊢;lia)
   refine⟨k,y5e,?_,hk,?_⟩
   ·rw [uo (Z1:=[↑(.int (m:Int)),↥(fJ acc)]) (G1:=G) (by simp! [AL,hg]) (IA (by lia) (by simp at hl;lia))]
    exact e
   ·rw [mF (by lia),<- q];simp
def IC(l:List Nat):dC (fJ l)=some (l.map λc=>ah [c]):=by
 have:fJ l=(l.map λc=>ah [c]).map I.str:=by unfold fJ;rw [z31];rfl
 rw [this,l9]
def ID{n:Nat}{G:List M}(h:n<4294967296):AM [.im (.int (n:Int))] G=some (.im (.str (ah (dg n))),G):=by
 have hd:=Ia n 9 (z35 h (by decide))
 obtain⟨k,acc,e,hk,q⟩:=IB G n [] (by simp;lia)
 have hlen:acc.length+1≤10:=by have:=congrArg List.length q;simp at this;lia
 have hn:(fJ acc).length<1000000:=by unfold fJ;rw [z12];lia
 have ej:Txt.join "" (((acc++[48+k]).map λc=>ah [c]).reverse)=ah (dg n):=by
  rw [<- List.map_reverse,Iz,List.reverse_append]
  simp only [List.reverse_nil,z11] at q
  rw [q];rfl
 have es:=IC (acc++[48+k])
 have hz:(((acc++[48+k]).map λc=>ah [c]).map (·.length)).sum+((acc++[48+k]).map λc=>ah [c]).length*("" : Str).length≤1000000:=by
  have h1:=yj (m:=1) (zs:=(acc++[48+k]).map λc=>ah [c]) (λz hz=>by obtain⟨c,_,rfl⟩:=List.mem_map.mp hz;exact z10 _)
  rw [qj]
  simp only [z12,zd,z15,List.length_nil] at h1 ⊢
  lia
 refine aK rfl (aj (bB (x:=.ow (.lst [])) (Z1:=[↑(.int (n:Int)),none]) (G1:=G) rfl rfl) (aj e (aj (Z1:=[↑(.int (k:Int)),↥(fJ (acc++[48+k]))]) (G1:=G) (pX (e:=⇑.non) (HK (e:=.s 1) rfl rfl (aq (aw rfl rfl (yt hk)) rfl) ?_)) (aW (Z1:=[↑(.int (k:Int)),↥(fJ (acc++[48+k]))]) ?_))))
 ·unfold fJ at hn ⊢
  have hn':acc.length<1000000:=by lia
  simp [hG,pk,ir,je,dR,iT,hn']
 ·refine qk (e:=⇑(.str "")) rfl rfl (aq rfl rfl) ?_
  rw [<- ej]
  simp only [iY,pk]
  show (match dC (fJ (acc++[48+k])) with|some ys=>_|none=>none)=_
  rw [es]
  dsimp only
  rw [if_pos hz]
end
section
def IE:(("cell" : Str) == "num")=false:=by decide +kernel
def IG:(("at" : Str) == "num")=false:=by decide +kernel
def IH:(("op" : Str) == "num")=false:=by decide +kernel
def II:(("at" : Str) == "cell")=false:=by decide +kernel
def IJ:(("op" : Str) == "cell")=false:=by decide +kernel
def IK:(("op" : Str) == "at")=false:=by decide +kernel
def IL:(("num" : Str) == "op")=false:=by decide +kernel
def IM:(("cell" : Str) == "op")=false:=by decide +kernel
def IP:(("at" : Str) == "op")=false:=by decide +kernel
def IQ:(("num" : Str) == "at")=false:=by decide +kernel
def IS:(("cell" : Str) == "at")=false:=by decide +kernel
def yu:("(at " : Str)=ah [40,97,116,32]:=by decide +kernel
def i7:(" " : Str)=ah [32]:=by decide +kernel
def ig:(")" : Str)=ah [41]:=by decide +kernel
def i8:("(" : Str)=ah [40]:=by decide +kernel
def yw:Str.empty=ah []:=by decide +kernel
def ij{y acc:List Nat}{fs:List (Mo Ev)}{Z:De}{G:List M}(h:acc.length+y.length≤1000000):gK (ag (.str (ah y))::fs) (ah acc) Z G=gK fs (ah (acc++y)) Z G:=by
 have h':(ah acc++ah y).length≤1000000:=by rw [j8,bF,zd];exact h
 rw [<- j8]
 show (if (ah acc++ah y).length≤1000000 then gK fs (ah acc++ah y) Z G else none)=_
 rw [if_pos h']
def ke{i:Nat}{y acc:List Nat}{fs:List (Mo Ev)}{Z:De}{G:List M}(hv:aa i Z G=some (⇑(.str (ah y)),Z,G))(h:acc.length+y.length≤1000000):gK (a7 dX (aa i)::fs) (ah acc) Z G=gK fs (ah (acc++y)) Z G:=by
 have h':(ah acc++ah y).length≤1000000:=by rw [j8,bF,zd];exact h
 have h2:(ah y).length≤1000000:=by rw [bF];lia
 rw [<- j8]
 have e:a7 dX (aa i) Z G=some (⇑(.str (ah y)),Z,G):=hV hv (by simp [dX,h2])
 rw [gK,aq e rfl]
 show (if (ah acc++ah y).length≤1000000 then gK fs (ah acc++ah y) Z G else none)=_
 rw [if_pos h']
def yx{acc:List Nat}{Z:De}{G:List M}(h:acc.length≤1000000):gK [] (ah acc) Z G=some (⇑(.str (ah acc)),Z,G):=by
 have h':(ah acc).length≤1000000:=by rw [bF];exact h
 rw [gK]
 show (if (ah acc).length≤1000000 then _ else none)=_
 rw [if_pos h']
def Tm.kid{t:Tm}{n:Nat}:t.size≤n->t.ok->t.tx.length≤20*n:=λh k=>z1a (t.y4c0 k) (by lia)
theorem mI:∀(n:Nat) {t:Tm} {G:List M},t.deep≤n->t.ok->t.size≤20000->j5 n [.im t.i] G=some (.im (.str (ah t.tx)),G)
 | 0,t,G,h,_,_=>by cases t<;>simp [Tm.deep] at h
 | n+1,.num w,G,h,k,hz=>by
  have e:=ID (G:=G) k
  refine aK rfl (a6 (aV (Z1:=[↑(Tm.num w).i,none,none,none,none,none]) (G1:=G) (by simp! [Tm.i,cO]) (aW (Z1:=[↑(Tm.num w).i,none,none,none,none,none]) ?_)))
  simp! [Tm.i,iz,e,Tm.tx]
 | n+1,.cell x,G,h,k,hz=>by
  refine aK rfl (aj (Z1:=[↑(Tm.cell x).i,none,none,none,none,none]) (G1:=G) (aL (Z1:=[↑(Tm.cell x).i,none,none,none,none,none]) (G1:=G) (by simp! [Tm.i,cO,IE]) rfl) (a6 (aV (Z1:=[↑(Tm.cell x).i,none,none,none,none,none]) (G1:=G) (by simp! [Tm.i,cO]) (aW (Z1:=[↑(Tm.cell x).i,none,none,none,none,none]) ?_))))
  simp! [Tm.i,iz,Tm.tx]
 | n+1,.at_ r t,G,h,k,hz=>by
  have hz1:t.size+1≤20000:=by simp only [Tm.size] at hz;lia
  have e:=mI n (t:=t) (G:=G) (by simp only [Tm.deep] at h;lia) k.2 (by lia)
  have l1:=Tm.kid (n:=20000) (t:=t) (by lia) k.2
  have l2:=k.1.hi
  refine aK rfl (aj (Z1:=[↑(Tm.at_ r t).i,none,none,none,none,none]) (G1:=G) (aL (Z1:=[↑(Tm.at_ r t).i,none,none,none,none,none]) (G1:=G) (by simp! [Tm.i,cO,IG]) rfl) (aj (Z1:=[↑(Tm.at_ r t).i,none,none,none,none,none]) (G1:=G) (aL (Z1:=[↑(Tm.at_ r t).i,none,none,none,none,none]) (G1:=G) (by simp! [Tm.i,cO,II]) rfl) (a6 (aV (Z1:=[↑(Tm.at_ r t).i,none,none,none,none,none]) (G1:=G) (by simp! [Tm.i,cO]) (aj (bB (x:=.im (.str (ah r))) (Z1:=[↑(Tm.at_ r t).i,none,none,none,none,none]) (G1:=G) (by simp! [Tm.i,iz]) rfl) (aj (bB (x:=.im (.str (ah t.tx))) (Z1:=[↑(Tm.at_ r t).i,↑(.str (ah r)),none,none,none,none]) (G1:=G) (by simp! [Tm.i,qU,e]) rfl) (aW (Z1:=[↑(Tm.at_ r t).i,↑(.str (ah r)),↑(.str (ah t.tx)),none,none,none]) ?_)))))))
  rw [yu,i7,ig,yw,ij (by simp),ke (y:=r) rfl (by simp;lia),ij (by simp;lia),ke (y:=t.tx) rfl (by simp;lia),ij (by simp;lia),yx (by simp;lia)]
  simp [Tm.tx]
 | n+1,.op s a b,G,h,k,hz=>by
  have hz1:a.size+b.size+1≤20000:=by simp only [Tm.size] at hz;lia
  have ea:=mI n (t:=a) (G:=G) (by simp only [Tm.deep] at h;lia) k.2.1 (by lia)
  have eb:=mI n (t:=b) (G:=G) (by simp only [Tm.deep] at h;lia) k.2.2 (by lia)
  have l1:=Tm.kid (n:=20000) (t:=a) (by lia) k.2.1
  have l2:=Tm.kid (n:=20000) (t:=b) (by lia) k.2.2
  refine aK rfl (aj (Z1:=[↑(Tm.op s a b).i,none,none,none,none,none]) (G1:=G) (aL (Z1:=[↑(Tm.op s a b).i,none,none,none,none,none]) (G1:=G) (by simp! [Tm.i,cO,IH]) rfl) (aj (Z1:=[↑(Tm.op s a b).i,none,none,none,none,none]) (G1:=G) (aL (Z1:=[↑(Tm.op s a b).i,none,none,none,none,none]) (G1:=G) (by simp! [Tm.i,cO,IJ]) rfl) (aj (Z1:=[↑(Tm.op s a b).i,none,none,none,none,none]) (G1:=G) (aL (Z1:=[↑(Tm.op s a b).i,none,none,none,none,none]) (G1:=G) (by simp! [Tm.i,cO,IK]) rfl) (aj (bB (x:=.im (.str (ah [s]))) (Z1:=[↑(Tm.op s a b).i,none,none,none,none,none]) (G1:=G) (by simp! [Tm.i,iz]) rfl) (aj (bB (x:=.im (.str (ah a.tx))) (Z1:=[↑(Tm.op s a b).i,none,none,↑(.str (ah [s])),none,none]) (G1:=G) (by simp! [Tm.i,qU,ea]) rfl) (aj (bB (x:=.im (.str (ah b.tx))) (Z1:=[↑(Tm.op s a b).i,none,none,↑(.str (ah [s])),↑(.str (ah a.tx)),none]) (G1:=G) (by simp! [Tm.i,Ib,eb]) rfl) (aW (Z1:=[↑(Tm.op s a b).i,none,none,↑(.str (ah [s])),↑(.str (ah a.tx)),↑(.str (ah b.tx))]) ?_)))))))
  rw [i8,i7,ig,yw,ij (by simp),ke (y:=[s]) rfl (by simp),ij (by simp),ke (y:=a.tx) rfl (by simp;lia),ij (by simp;lia),ke (y:=b.tx) rfl (by simp;lia),ij (by simp;lia),yx (by simp;lia)]
  simp [Tm.tx]
def yy(z:List Nat)(ps:List (List Nat)):Txt.join (ah z) (ps.map ah)=ah (jz z ps):=by
 unfold Txt.join
 rw [StrLaws.glued_eq_join]
 exact ie (mD z ps)
def kE{a b:List Nat}{Z:De}{G:List M}(h:a.length+b.length≤1000000):aD [⇑(.str (ah a)),⇑(.str (ah b))] Z G=some (⇑(.str (ah (a++b))),Z,G):=by
 have h':(ah a).length+(ah b).length≤1000000:=by rw [bF,bF];exact h
 rw [<- j8]
 simp [aD,bS,kq,bE,jf,h']
def IT{w:Nat}(h:w<4294967296):((w:Int)).natAbs.log2<1920:=by
 rw [Int.natAbs_natCast]
 by_cases h0:w=0
 ·subst h0;decide
 ·rw [Nat.log2_lt h0];exact z1c h (Nat.pow_le_pow_right (n:=2) (i:=32) (by decide) (by decide))
theorem mJ:∀(n:Nat) {t:Tm} {G:List M},t.deep≤n->t.ok->t.size≤100->j0 n [.im t.i] G=some (.im (.str (ah t.tx)),G)
 | 0,t,G,h,_,_=>by cases t<;>simp [Tm.deep] at h
 | n+1,.num w,G,h,k,hz=>by
  have e:=IT k
  refine aK rfl (aj (Z1:=[↑(Tm.num w).i]) (G1:=G) (aL (Z1:=[↑(Tm.num w).i]) (G1:=G) (by simp! [Tm.i,cO,IL]) rfl) (aj (Z1:=[↑(Tm.num w).i]) (G1:=G) (aL (Z1:=[↑(Tm.num w).i]) (G1:=G) (by simp! [Tm.i,cO,IQ]) rfl) (aW (Z1:=[↑(Tm.num w).i]) ?_)))
  rw [show (Tm.num w).tx=dg w from rfl,<- xX]
  refine aq (a:=[⇑(.int (w:Int))]) (Z1:=[↑(Tm.num w).i]) (G1:=G) (by simp! [Tm.i,iz]) ?_
  unfold iX
  dsimp only
  rw [if_pos e]
 | n+1,.cell x,G,h,k,hz=>by
  refine aK rfl (aj (Z1:=[↑(Tm.cell x).i]) (G1:=G) (aL (Z1:=[↑(Tm.cell x).i]) (G1:=G) (by simp! [Tm.i,cO,IM]) rfl) (aj (Z1:=[↑(Tm.cell x).i]) (G1:=G) (aL (Z1:=[↑(Tm.cell x).i]) (G1:=G) (by simp! [Tm.i,cO,IS]) rfl) (aW (Z1:=[↑(Tm.cell x).i]) ?_)))
  simp! [Tm.i,iz,iX,Tm.tx]
 | n+1,.at_ r t,G,h,k,hz=>by
  have hz1:t.size+1≤100:=by simp only [Tm.size] at hz;lia
  have e:=mJ n (t:=t) (G:=G) (by simp only [Tm.deep] at h;lia) k.2 (by lia)
  have l1:=Tm.kid (n:=100) (t:=t) (by lia) k.2
  have l2:=k.1.hi
  refine aK rfl (aj (Z1:=[↑(Tm.at_ r t).i]) (G1:=G) (aL (Z1:=[↑(Tm.at_ r t).i]) (G1:=G) (by simp! [Tm.i,cO,IP]) rfl) (a6 (aV (Z1:=[↑(Tm.at_ r t).i]) (G1:=G) (by simp! [Tm.i,cO]) (aW (Z1:=[↑(Tm.at_ r t).i]) ?_))))
  rw [yu,i7,ig]
  refine aw (aw (aw (aw rfl (y:=⇑(.str (ah r))) (Z2:=[↑(Tm.at_ r t).i]) (G2:=G) (by simp! [Tm.i,iz]) (kE (by simp;lia))) rfl (kE (by simp;lia))) (y:=⇑(.str (ah t.tx))) (Z2:=[↑(Tm.at_ r t).i]) (G2:=G) (by simp! [Tm.i,qU,e]) (kE (by simp;lia))) rfl ?_
  rw [kE (by simp;lia)]
  simp [Tm.tx]
 | n+1,.op s a b,G,h,k,hz=>by
  have hz1:a.size+b.size+1≤100:=by simp only [Tm.size] at hz;lia
  have ea:=mJ n (t:=a) (G:=G) (by simp only [Tm.deep] at h;lia) k.2.1 (by lia)
  have eb:=mJ n (t:=b) (G:=G) (by simp only [Tm.deep] at h;lia) k.2.2 (by lia)
  have l1:=Tm.kid (n:=100) (t:=a) (by lia) k.2.1
  have l2:=Tm.kid (n:=100) (t:=b) (by lia) k.2.2
  have ej:=yy [32] [[s],a.tx,b.tx]
  refine aK rfl (a6 (aV (Z1:=[↑(Tm.op s a b).i]) (G1:=G) (by simp! [Tm.i,cO]) (aW (Z1:=[↑(Tm.op s a b).i]) ?_)))
  rw [i8,i7,ig]
  refine aw (aw rfl (y:=⇑(.str (ah ([s]++[32]++a.tx++[32]++b.tx)))) (Z2:=[↑(Tm.op s a b).i]) (G2:=G) (qk (e:=⇑(.str (ah [32]))) rfl rfl (es:=[.v (.ow (.lst [.str (ah [s]),.str (ah a.tx),.str (ah b.tx)]))]) (Z2:=[↑(Tm.op s a b).i]) (G2:=G) (by simp! [Tm.i,iz,qU,Ib,ea,eb]) ?_) (kE (by simp;lia))) rfl ?_
  ·have hz2:((([[s],a.tx,b.tx].map ah)).map (·.length)).sum+([[s],a.tx,b.tx].map ah).length*(ah [32]).length≤1000000:=by simp [bF];lia
   unfold dm
   dsimp only [pk]
   rw [show dC [I.str (ah [s]),I.str (ah a.tx),I.str (ah b.tx)]=some ([[s],a.tx,b.tx].map ah) from rfl]
   dsimp only
   rw [if_pos hz2,ej]
   simp [jz]
  ·rw [kE (by simp;lia)]
   simp [Tm.tx]
end
section
def mK(x:Str)(c:Nat):gk x (ah [c])=decide (c∈x.cps.toList):=StrLaws.found_one x c
def yce{x:List Nat}{te:Mo Ev}{f:Nat->I}{Z:De}{G:List M}(h:∀c∈x,te [↑(.str (ah [c]))] G=some (⇑(f c),[↑(.str (ah [c]))],G)) :
  eF (cM (ah x)) c1 bT te [] 0 x.length [] Z G=some (x.map f,G):=by
 have hn:(cM (ah x)).n=x.length:=by simp [cM,ah]
 obtain⟨ds,G',e,ed,eg⟩:=qb (w:=cM (ah x)) (c:=c1) (tt:=bT) (te:=te) (di:=[]) (Z:=Z) (λi acc G'=>acc=(x.take i).map f/\G'=G)
  (λi acc g hi zz=>by
   obtain⟨ea,eg⟩:=zz
   rw [hn] at hi
   subst eg
   refine⟨.str (ah [x[i]]),[.str (ah [x[i]])],_,_,f x[i],_,g,?_,rfl,rfl,h x[i] (z30 hi),?_,rfl⟩
   ·show ((ah x).cps[i]?).map (λc=>I.str ⟨#[c]⟩)=_
    have:(ah x).cps[i]?=some x[i]:=by simp [ah,hi]
    rw [this];rfl
   ·rw [ea,List.take_add_one,z16 hi,z28];rfl)
  (λ_ _ _=>rfl) x.length 0 [] G (by rw [hn];lia) ⟨by simp,rfl⟩
 rw [hn,List.take_length] at ed
 rw [ed,eg] at e
 exact e
def yz(y:Str):((List.map I.str bM).any λz=>br z (.str y))=bM.contains y:=yq y
def yd2:(List.map I.str bM).all bL=true:=rfl
abbrev bG(x:List Nat):Bool:=if x.length<1∨6<x.length∨bM.contains (ah x)=true then false else x.all λc=>decide (c∈("abcdefghijklmnopqrstuvwxyz" : Str).cps.toList)
def yA{x:List Nat}{G:List M}(hx:x.length≤100000):qS [.im (.str (ah x))] G=some (.im (.bl (bG x)),G):=by
 have hl:(ah x).length=x.length:=bF x
 have h1:(ah x).length≤1000000:=by lia
 have hin:ai eT (aa 0) (ag (.con (List.map I.str ["cell","row","def","main","set","put","while","if","else","call","end","at"]))) [↑(.str (ah x))] G=some (⇑(.bl (bM.contains (ah x))),[↑(.str (ah x))],G):=by
  refine aw rfl rfl ?_
  have h:(bL (.str (ah x))&&(List.map I.str bM).all bL)=true:=by rw [yd2];rfl
  have e:=yz (ah x)
  show eT [⇑(.str (ah x)),⇑(.con (List.map I.str bM))] _ G=_
  unfold eT bS iu
  dsimp only [sq]
  rw [if_pos h]
  dsimp only
  rw [e];rfl
 unfold bG
 by_cases hc:x.length<1∨6<x.length∨bM.contains (ah x)=true
 ·rw [if_pos hc]
  refine aK rfl (a6 (aV (Z1:=[↑(.str (ah x))]) (G1:=G) ?_ (aW rfl)))
  by_cases h2:x.length<1
  ·have:((ah x).length:Int)<1:=by lia
   exact fH (aY (by simp! [h1,this]))
  ·have n2:¬ ((ah x).length:Int)<1:=by lia
   refine b7 (Z1:=[↑(.str (ah x))]) (G1:=G) (aY (by simp! [h1,n2])) ?_
   by_cases h3:6<x.length
   ·have:(6:Int)<(ah x).length:=by lia
    exact fH (aY (by simp! [h1,this]))
   ·have n3:¬ (6:Int)<(ah x).length:=by lia
    refine b7 (Z1:=[↑(.str (ah x))]) (G1:=G) (aY (by simp! [h1,n3])) (aY ?_)
    rw [hin,(hc.resolve_left h2).resolve_left h3]
 ·rw [if_neg hc]
  have h2:¬ x.length<1:=λz=>hc (.inl z)
  have h3:¬ 6<x.length:=λz=>hc (.inr (.inl z))
  have h4:bM.contains (ah x)=false:=by cases e:bM.contains (ah x) with
   | false=>rfl
   | true=>exact absurd (.inr (.inr e)) hc
  have n2:¬ ((ah x).length:Int)<1:=by lia
  have n3:¬ (6:Int)<(ah x).length:=by lia
  refine aK rfl (aj (Z1:=[↑(.str (ah x))]) (G1:=G) (aL (Z1:=[↑(.str (ah x))]) (G1:=G) (b7 (Z1:=[↑(.str (ah x))]) (G1:=G) (aY (by simp! [h1,n2])) (b7 (Z1:=[↑(.str (ah x))]) (G1:=G) (aY (by simp! [h1,n3])) (aY (by rw [hin,h4])))) rfl) (aW (Z1:=[↑(.str (ah x))]) ?_))
  have hcm:=yce (x:=x) (te:=ai (dq false) (aa 0) (ag (.str "abcdefghijklmnopqrstuvwxyz"))) (f:=λc=>I.bl (decide (c∈("abcdefghijklmnopqrstuvwxyz" : Str).cps.toList))) (Z:=[↑(.str (ah x))]) (G:=G) (λc _=>by
   refine aw rfl rfl ?_
   show some (Ev.v (.im (.bl (gk ("abcdefghijklmnopqrstuvwxyz" : Str) (ah [c])))),_,G)=_
   rw [mK])
  have hn:(cM (ah x)).n=x.length:=by simp [cM,ah]
  refine aq (aq (nB (by rfl) (j6 (es:=[⇑(.str (ah x))]) (w:=cM (ah x)) rfl rfl) (by rw [hn];lia) (by rw [hn];exact hcm)) rfl) ?_
  show jg [.v (.ow (.lst (x.map λc=>I.bl (decide (c∈("abcdefghijklmnopqrstuvwxyz" : Str).cps.toList)))))] _ G=_
  have e2:(x.map λc=>I.bl (decide (c∈("abcdefghijklmnopqrstuvwxyz" : Str).cps.toList)))=(x.map λc=>decide (c∈("abcdefghijklmnopqrstuvwxyz" : Str).cps.toList)).map I.bl:=by rw [z31];rfl
  rw [e2]
  unfold jg
  dsimp only [pk]
  rw [Ft]
  dsimp only
  rw [List.all_map]
  rfl
def y5a:∀k,k<26->(97+k)∈("abcdefghijklmnopqrstuvwxyz" : Str).cps.toList:=by decide +kernel
def Nm.is{x:List Nat}(h:Nm x):bG x=true:=by
 unfold bG
 have h1:=h.lo
 have h2:=h.hi
 rw [if_neg (by
  intro z
  rcases z with z|z|z
  ·lia
  ·lia
  ·exact h.nk (List.contains_iff_mem.mp z))]
 rw [z33]
 intro c hc
 have:=h.ab c hc
 obtain⟨k,rfl⟩:∃k,c=97+k:=⟨c-97,by lia⟩
 exact decide_eq_true (y5a k (by lia))
def y5b:∀k,k<10->(48+k)∉("abcdefghijklmnopqrstuvwxyz" : Str).cps.toList:=by decide +kernel
def yfd(w:Nat):bG (dg w)=false:=by
 unfold bG
 split
 ·rfl
 ·rw [List.all_eq_false]
  cases e:dg w with
  | nil=>exact absurd e (i5 w)
  | cons c r =>
   refine⟨c,List.mem_cons_self,?_⟩
   have:=kc w c (by rw [e];exact List.mem_cons_self)
   obtain⟨k,rfl⟩:∃k,c=48+k:=⟨c-48,by lia⟩
   simpa using y5b k (by lia)
def yB:∀k,k<10->(48+k)∈("0123456789" : Str).cps.toList:=by decide +kernel
def IU:∀k,k<10->Builtin.Str.occurrences "0123456789" (ah [48+k]) 0 ("0123456789" : Str).length 1=[k]:=by decide +kernel
def IV{x:I}{a c:Nat}{G:List M}(hc:48≤c/\c≤57):xH [↑x,↑(.int (a:Int)),↑(.str (ah [c]))] G=some (.nx [↑x,↑(.int ((10*a+(c-48):Nat):Int)),↑(.str (ah [c]))] G):=by
 obtain⟨k,rfl⟩:∃k,c=48+k:=⟨c-48,by lia⟩
 have hk:k<10:=by lia
 have e1:gk ("0123456789" : Str) (ah [48+k])=true:=by rw [mK];exact decide_eq_true (yB k hk)
 have e2:=IU k hk
 have e3:((10*a+(48+k-48):Nat):Int)=10*(a:Int)+(k:Int):=by lia
 rw [e3]
 refine aj (Z1:=[↑x,↑(.int (a:Int)),↑(.str (ah [48+k]))]) (G1:=G) (aL (Z1:=[↑x,↑(.int (a:Int)),↑(.str (ah [48+k]))]) (G1:=G) (aY (aw rfl rfl ?_)) rfl) (bB (x:=.im (.int (10*(a:Int)+(k:Int)))) (Z1:=[↑x,↑(.int (a:Int)),↑(.str (ah [48+k]))]) (G1:=G) (aw (x:=⇑(.int (10*(a:Int)))) (Z1:=[↑x,↑(.int (a:Int)),↑(.str (ah [48+k]))]) (G1:=G) (by simp! []) (y:=⇑(.int (k:Int))) (Z2:=[↑x,↑(.int (a:Int)),↑(.str (ah [48+k]))]) (G2:=G) (qk rfl rfl (aq rfl rfl) ?_) (by simp! [])) rfl)
 ·show some (Ev.v (.im (.bl (!(gk ("0123456789" : Str) (ah [48+k]))))),_,G)=_
  rw [e1];rfl
 ·show iW [⇑(.str "0123456789"),⇑(.str (ah [48+k]))] _ G=some (⇑(.int (k:Int)),_,G)
  unfold iW
  dsimp only
  rw [e2]
def mL:("" : Str)=ah []:=by decide +kernel
def mM:("0" : Str)=ah [48]:=by decide +kernel
def dF(a b:List Nat):(ah a == ah b)=decide (a=b):=by
 by_cases h:a=b
 ·subst h;simp
 ·rw [decide_eq_false h]
  exact beq_eq_false_iff_ne.mpr λe=>h (HY e)
abbrev Tm.th:Tm->I
 | .num w=>.str (ah (dg w))
 | .cell x=>.str (ah x)
 | .at_ r t=>(Tm.at_ r t).i
 | .op s a b=>(Tm.op s a b).i
end
section
def Tm.y1c2(t:Tm):∃xs,t.i=.tup xs:=by cases t<;>exact⟨_,rfl⟩
def IX:("at" : Str)=ah [97,116]:=by decide +kernel
def y80(ps:List I)(x:I):cC (ps++[x]) (-1)=some x:=by
 have h1:(1:Int)≤(ps.length:Int)+1:=by lia
 have e:(-1+((ps.length:Int)+1)).toNat=ps.length:=by lia
 unfold cC er
 simp [h1,e]
def IZ{v0 v3 v4:Option Vl}{ns:List I}{G:List M}(hn:ns.length<100000):ny [v0,↥ns,↑(.str (ah [40])),v3,v4] G=some (.nx [v0,↥(ns++[.ref G.length]),↑(.str (ah [40])),v3,v4] (G++[M.lst []])):=by
 have h:ns.length<1000000:=by lia
 refine aV (Z1:=[v0,↥ns,↑(.str (ah [40])),v3,v4]) (G1:=G) (by rw [i8];simp! []) ?_
 simp! [h]
def I0{v0 v3 v4:Option Vl}{ps xs:List I}{top:Nat}{x:List Nat}{G:List M}(h1:x≠[40])(h2:x≠[41])(ht:G[top]?=some (.lst xs))(hx:xs.length<100000):ny [v0,↥(ps++[.ref top]),↑(.str (ah x)),v3,v4] G=some (.nx [v0,↥(ps++[.ref top]),↑(.str (ah x)),v3,v4] (G.set top (.lst (xs++[.str (ah x)])))):=by
 have h:xs.length<1000000:=by lia
 have q1:(ah x == ah [40])=false:=by rw [dF];simp [h1]
 have q2:(ah x == ah [41])=false:=by rw [dF];simp [h2]
 have al:=y80 ps (.ref top)
 refine aL (Z1:=[v0,↥(ps++[.ref top]),↑(.str (ah x)),v3,v4]) (G1:=G) (by rw [i8];simp! [q1]) (aL (Z1:=[v0,↥(ps++[.ref top]),↑(.str (ah x)),v3,v4]) (G1:=G) (by rw [ig];simp! [q2]) ?_)
 simp! [al,ht,h]
end
section
abbrev wI(x:List Nat):I:=.str (ah x)
def Nm.ne{x:List Nat}(h:Nm x):x≠[40]/\x≠[41]:=by
 constructor<;>(intro e;subst e;have:=h.ab _ (z22.mpr rfl);lia)
def qm(w:Nat):dg w≠[40]/\dg w≠[41]:=by
 constructor<;>(intro e;have:=kc w _ (by rw [e];exact z22.mpr rfl);lia)
def i6.ne{s:Nat}(h:i6 s):[s]≠[40]/\[s]≠[41]:=by
 have:=h.plain
 constructor<;>(intro e;injection e with e1 _;lia)
theorem qo(c:Nat)(z:List Nat)(hz:z.length≤2)(h1:1≤z.length):∀l:List Nat,(l.flatMap λd=>if d=c then z else [d]).length≤2*l.length
 | []=>by simp
 | d::l=>by
  have:=qo c z hz h1 l
  rw [List.flatMap_cons,zd,z15]
  split
  ·lia
  ·simp only [z15,List.length_nil];lia
abbrev b8(x:List Nat):List (List Nat):=b5 32 (x.flatMap gg)
def Ja(x:List Nat):Txt.split (Txt.replace (Txt.replace (ah x) "(" "( ") ")" " )") " " = (b8 x).map ah:=by
 have e1:Txt.replace (ah x) "(" "( " = ah (x.flatMap λd=>if d=40 then [40,32] else [d]):=by rw [x6,x8];exact ie (by rw [mE,dY])
 have e2:Txt.replace (Txt.replace (ah x) "(" "( ") ")" " )" = ah (x.flatMap gg):=by rw [e1,x9,yg];exact ie (by rw [mE,dY,qg])
 rw [e2,yh,qd,dY];rfl
def yC{x:List Nat}{v:Option Vl}{r:De}{G:List M}(hl:x.length≤100000):a7 (gm " ") (a7 (cN ")" " )") (a7 (cN "(" "( ") (aa 0))) (↑(.str (ah x))::r) G=some (.v (.ow (.lst ((b8 x).map wI))),↑(.str (ah x))::r,G):=by
 have e1:Txt.replace (ah x) "(" "( " = ah (x.flatMap λd=>if d=40 then [40,32] else [d]):=by rw [x6,x8];exact ie (by rw [mE,dY])
 have l1:=qo 40 [40,32] (by simp) (by simp) x
 have e2:Txt.replace (Txt.replace (ah x) "(" "( ") ")" " )" = ah (x.flatMap gg):=by rw [e1,x9,yg];exact ie (by rw [mE,dY,qg])
 have l2:=qo 41 [32,41] (by simp) (by simp) (x.flatMap λd=>if d=40 then [40,32] else [d])
 rw [qg] at l2
 have e3:=Ja x
 have z1:("( " : Str).length=2:=by decide +kernel
 have z2:(" )" : Str).length=2:=by decide +kernel
 have z3:((" " : Str).length == 0)=false:=by decide +kernel
 have s1:a7 (cN "(" "( ") (aa 0) (↑(.str (ah x))::r) G=some (⇑(.str (Txt.replace (ah x) "(" "( ")),↑(.str (ah x))::r,G):=by
  refine hV rfl ?_
  unfold cN
  dsimp only
  rw [if_pos (by rw [bF,z1];lia)]
 have s2:a7 (cN ")" " )") (a7 (cN "(" "( ") (aa 0)) (↑(.str (ah x))::r) G=some (⇑(.str (Txt.replace (Txt.replace (ah x) "(" "( ") ")" " )")),↑(.str (ah x))::r,G):=by
  refine hV s1 ?_
  unfold cN
  dsimp only
  rw [if_pos (by rw [e1,bF,z2];lia)]
 refine hV s2 ?_
 unfold gm
 dsimp only
 rw [if_pos ⟨z3,by rw [e2,bF];lia⟩,e3,z31]
 rfl
def Jb{x:List Nat}{G:List M}(hl:x.length≤100000):nA [.im (.str (ah x))] G=some (.ow (.lst ((b8 x).map wI)),G):=aK rfl (aW (yC (v:=none) (r:=[]) hl))
end
section
def y5c:∀c∈("abcdefghijklmnopqrstuvwxyz" : Str).cps.toList,97≤c/\c≤122:=by decide +kernel
def mO{x:List Nat}(h:bG x=true):Nm x:=by
 unfold bG at h
 split at h
 ·cases h
 ·rename_i hc
  have h1:¬ x.length<1:=λz=>hc (.inl z)
  have h2:¬ 6<x.length:=λz=>hc (.inr (.inl z))
  refine⟨by lia,by lia,λc hm=>?_,λhm=>hc (.inr (.inr (List.contains_iff_mem.mpr hm)))⟩
  exact y5c c (of_decide_eq_true (z33.mp h c hm))
abbrev cP(x:List Nat):Bool:=match x with
 | []=>false
 | c::r=>(c != 48||r.isEmpty)&&(c::r).all λc=>decide (48≤c)&&decide (c≤57)
def yD(l:List Nat)(c:Nat):vl 0 (l++[c])=10*vl 0 l+(c-48):=by unfold vl;rw [List.foldl_append];rfl
def yE:∀(n:Nat) (x:List Nat),x.length=n->cP x=true->dg (vl 0 x)=x:=by
 intro n
 induction n using Nat.strongRecOn with
 | _ n ih =>
  intro x hn hb
  rcases List.eq_nil_or_concat x with rfl|⟨l,c,hx⟩
  ·cases hb
  ·rw [List.concat_eq_append] at hx
   subst hx
   have hc:48≤c/\c≤57:=by
    cases l with
    | nil=>simp [cP] at hb;exact hb
    | cons a r=>simp [cP] at hb;exact hb.2.2.2
   rw [yD]
   cases l with
   | nil =>
    rw [show 10*vl 0 []+(c-48)=c-48 from by simp [vl],j9 (by lia)]
    simp;lia
   | cons a r =>
    have hb':cP (a::r)=true:=by
     simp [cP] at hb ⊢
     exact⟨.inl hb.1,hb.2.1,hb.2.2.1⟩
    have e:=ih (a::r).length (by rw [<- hn];simp) (a::r) rfl hb'
    have hp:1≤vl 0 (a::r):=by
     rcases Nat.eq_zero_or_pos (vl 0 (a::r)) with h0|h0
     ·rw [h0,j9 (by decide)] at e
      simp [cP] at hb
      have:a=48:=by have:=congrArg List.head? e;simpa using this.symm
      exact absurd this hb.1
     ·exact h0
    rw [mF (by lia)]
    have d1:(10*vl 0 (a::r)+(c-48)) / 10=vl 0 (a::r):=by lia
    have d2:(10*vl 0 (a::r)+(c-48)) % 10=c-48:=by lia
    rw [d1,d2,e]
    congr 2;lia
def Jc(w:Nat):cP (dg w)=true:=by
 cases e:dg w with
 | nil=>exact absurd e (i5 w)
 | cons c r =>
  have h1:=kc w
  rw [e] at h1
  unfold cP
  dsimp only
  rw [z1b]
  constructor
  ·by_cases hc:c=48
   ·subst hc
    have:=yfc w r e
    subst this
    rw [j9 (by decide)] at e
    cases e
    rfl
   ·rw [Bool.or_eq_true]
    left
    exact bne_iff_ne.mpr hc
  ·rw [z33]
   intro d hd
   have:=h1 d hd
   rw [z1b,decide_eq_true_eq,decide_eq_true_eq]
   exact this
abbrev gz(x:List Nat):Option Nat:=if cP x=true/\vl 0 x<4294967296 then some (vl 0 x) else none
def yF{w:Nat}(h:w<4294967296):gz (dg w)=some w:=by
 unfold gz
 rw [xY,if_pos ⟨Jc w,h⟩]
def yG{x:List Nat}{w:Nat}(h:gz x=some w):x=dg w/\w<4294967296:=by
 unfold gz at h
 split at h
 ·rename_i hc
  cases h
  exact⟨(yE _ x rfl hc.1).symm,hc.2⟩
 ·cases h
inductive Th where
 | wd (x:List Nat)|tm (t:Tm)
abbrev Th.i:Th->I
 | .wd x=>.str (ah x)
 | .tm t=>t.i
abbrev Th.fl:Th->List (List Nat)
 | .wd x=>[x]
 | .tm t=>t.tk
abbrev Th.ok:Th->Prop
 | .wd x=>x≠[40]/\x≠[41]
 | .tm t=>t.ok
abbrev cA:Th->Option Tm
 | .wd x=>if bG x=true then some (.cell x) else (gz x).map Tm.num
 | .tm t=>some t
def Jd{h:Th}{t:Tm}(e:cA h=some t)(k:h.ok):t.ok/\t.tk=h.fl:=by
 cases h with
 | wd x =>
  unfold cA at e
  dsimp only at e
  split at e
  ·rename_i hn
   cases e
   exact⟨mO hn,rfl⟩
  ·cases hv:gz x with
   | none=>rw [hv] at e;cases e
   | some w =>
    rw [hv] at e
    cases e
    obtain⟨h1,h2⟩:=yG hv
    exact⟨h2,by rw [Tm.tk,<- h1];rfl⟩
 | tm t=>cases e;exact⟨k,rfl⟩
abbrev dZ:Th->Option (List Nat)
 | .wd x=>if bG x=true then some x else none
 | .tm _=>none
abbrev qV(s:Nat):Bool:=s == 43||s == 45||s == 42||s == 60||s == 61
def mP(s:Nat):qV s=true↔i6 s:=by unfold qV i6;simp [or_assoc]
abbrev cD:Th->Option Nat
 | .wd [s]=>if qV s=true then some s else none
 | _=>none
abbrev dv:Th->Bool
 | .wd x=>x == [97,116]
 | .tm _=>false
abbrev gA:List Th->Option Tm
 | [a,b,c]=>match cA c with
  | none=>none
  | some last=>match (if dv a then dZ b else none) with
   | some x=>some (.at_ x last)
   | none=>match cD a,cA b with
    | some s,some first=>some (.op s first last)
    | _,_=>none
 | _=>none
abbrev ik(f:List Th):List (List Nat):=f.flatMap Th.fl
def y9c{f:List Th}{t:Tm}(e:gA f=some t)(k:∀h∈f,h.ok):t.ok/\t.tk=[40]::(ik f++[[41]]):=by
 unfold gA at e
 split at e
 ·rename_i a b c
  split at e
  ·cases e
  ·rename_i last hl
   obtain⟨l1,l2⟩:=Jd hl (k c (by simp))
   split at e
   ·rename_i x hx
    cases e
    split at hx
    ·rename_i ha
     cases a with
     | tm _=>cases ha
     | wd y =>
      have hy:y=[97,116]:=eq_of_beq ha
      cases b with
      | tm _=>cases hx
      | wd z =>
       unfold dZ at hx
       dsimp only at hx
       split at hx
       ·rename_i hz
        cases hx
        refine⟨⟨mO hz,l1⟩,?_⟩
        rw [Tm.tk,l2,hy]
        simp [ik,Th.fl]
       ·cases hx
    ·cases hx
   ·split at e
    ·rename_i s first hs hf
     cases e
     obtain⟨f1,f2⟩:=Jd hf (k b (by simp))
     cases a with
     | tm _=>cases hs
     | wd y =>
      unfold cD at hs
      split at hs
      ·rename_i s' hy
       split at hs
       ·rename_i hz
        cases hs
        cases hy
        refine⟨⟨(mP _).mp hz,f1,l1⟩,?_⟩
        rw [Tm.tk,l2,f2]
        simp [ik,Th.fl]
       ·cases hs
      ·cases hs
    ·cases e
 ·cases e
abbrev i9(w:List Nat):List (List Th)->Option (List (List Th))
 | []=>none
 | f::r=>if w=[40] then some ([]::f::r) else if w=[41] then (match r with
   | []=>none
   | g::r'=>(gA f).map λt=>(g++[.tm t])::r')
  else some ((f++[.wd w])::r)
abbrev c6:List (List Nat)->List (List Th)->Option (List (List Th))
 | [],st=>some st
 | w::ws,st=>match i9 w st with
  | some st'=>c6 ws st'
  | none=>none
abbrev jh:List (List Th)->List (List Nat)
 | []=>[]
 | [f]=>ik f
 | f::r=>jh r++[40]::ik f
def ja(f:List Th){r:List (List Th)}(h:r≠[]):jh (f::r)=jh r++[40]::ik f:=by
 cases r with
 | nil=>exact absurd rfl h
 | cons g r=>rfl
abbrev AR(st:List (List Th)):Prop:=∀f∈st,∀h∈f,h.ok
def Je{w:List Nat}{st st':List (List Th)}(e:i9 w st=some st')(k:AR st):AR st'/\jh st'=jh st++[w]/\st'≠[]:=by
 cases st with
 | nil=>cases e
 | cons f r =>
  unfold i9 at e
  dsimp only at e
  split at e
  ·rename_i hw
   cases e
   subst hw
   refine⟨λx hx=>?_,?_,by simp⟩
   ·rcases z1f.mp hx with rfl|hx
    ·intro h hh;cases hh
    ·exact k x hx
   ·rw [ja [] (by simp)];simp [ik]
  ·rename_i hw
   split at e
   ·rename_i hw2
    subst hw2
    cases r with
    | nil=>cases e
    | cons g r' =>
     dsimp only at e
     cases hb:gA f with
     | none=>rw [hb] at e;cases e
     | some t =>
      rw [hb] at e
      cases e
      obtain⟨t1,t2⟩:=y9c hb (k f (by simp))
      refine⟨λx hx=>?_,?_,by simp⟩
      ·rcases z1f.mp hx with rfl|hx
       ·intro h hh
        rcases z1e.mp hh with hh|hh
        ·exact k g (by simp) h hh
        ·rw [z22.mp hh];exact t1
       ·exact k x (by simp [hx])
      ·rw [ja f (by simp)]
       cases r' with
       | nil=>show ik (g++[.tm t])=_;simp [ik,jh,Th.fl,t2]
       | cons y r2=>rw [ja _ (by simp),ja g (by simp)];simp [ik,Th.fl,t2]
   ·rename_i hw2
    cases e
    refine⟨λx hx=>?_,?_,by simp⟩
    ·rcases z1f.mp hx with rfl|hx
     ·intro h hh
      rcases z1e.mp hh with hh|hh
      ·exact k f (by simp) h hh
      ·rw [z22.mp hh];exact⟨hw,hw2⟩
     ·exact k x (by simp [hx])
    ·cases r with
     | nil=>show ik (f++[.wd w])=_;simp [ik,jh,Th.fl]
     | cons y r2=>rw [ja _ (by simp),ja f (by simp)];simp [ik,Th.fl]
theorem yH:∀(ws:List (List Nat)) {st st':List (List Th)},c6 ws st=some st'->AR st->st≠[]->AR st'/\jh st'=jh st++ws/\st'≠[]
 | [],st,st',e,k,n=>by cases e;exact⟨k,by simp,n⟩
 | w::ws,st,st',e,k,n=>by
  unfold c6 at e
  cases hs:i9 w st with
  | none=>rw [hs] at e;cases e
  | some st1 =>
   rw [hs] at e
   obtain⟨k1,f1,n1⟩:=Je hs k
   obtain⟨k2,f2,n2⟩:=yH ws e k1 n1
   exact⟨k2,by rw [f2,f1];simp,n2⟩
abbrev jb(ws:List (List Nat)):Option Tm:=match c6 ws [[]] with
 | some [[h]]=>cA h
 | _=>none
def Jf{ws:List (List Nat)}{t:Tm}(e:jb ws=some t):t.ok/\t.tk=ws:=by
 unfold jb at e
 split at e
 ·rename_i h hr
  obtain⟨k,f,_⟩:=yH ws hr (λf hf h hh=>by rw [z22.mp hf] at hh;cases hh) (by simp)
  obtain⟨t1,t2⟩:=Jd e (k [h] (by simp) h (by simp))
  refine⟨t1,?_⟩
  rw [t2]
  have:jh [[h]]=h.fl:=by simp [jh,ik]
  rw [<- this,f];simp [jh,ik]
 ·cases e
abbrev qp:Tm->Th
 | .num w=>.wd (dg w)
 | .cell x=>.wd x
 | t=>.tm t
def AS{t:Tm}(h:t.ok):cA (qp t)=some t:=by
 cases t with
 | num w=>show (if bG (dg w)=true then _ else _)=_;rw [yfd,if_neg (by decide),yF h];rfl
 | cell x=>show (if bG x=true then _ else _)=_;rw [if_pos (Nm.is h)]
 | at_ r t=>rfl
 | op s a b=>rfl
def kf{w:List Nat}{ws:List (List Nat)}{f:List Th}{r:List (List Th)}(h1:w≠[40])(h2:w≠[41]):c6 (w::ws) (f::r)=c6 ws ((f++[.wd w])::r):=by
 have e:i9 w (f::r)=some ((f++[.wd w])::r):=by unfold i9;dsimp only;rw [if_neg h1,if_neg h2]
 rw [c6,e]
def yI{ws:List (List Nat)}{f:List Th}{r:List (List Th)}:c6 ([40]::ws) (f::r)=c6 ws ([]::f::r):=by
 have e:i9 [40] (f::r)=some ([]::f::r):=by unfold i9;dsimp only;rw [if_pos rfl]
 rw [c6,e]
def yJ{ws:List (List Nat)}{f g:List Th}{r:List (List Th)}{t:Tm}(h:gA f=some t):c6 ([41]::ws) (f::g::r)=c6 ws ((g++[.tm t])::r):=by
 have e:i9 [41] (f::g::r)=some ((g++[.tm t])::r):=by unfold i9;dsimp only;rw [if_neg (by decide),if_pos rfl,h];rfl
 rw [c6,e]
def y9b{x:List Nat}{t:Tm}(hx:Nm x)(ht:t.ok):gA [.wd [97,116],.wd x,qp t]=some (.at_ x t):=by
 unfold gA
 dsimp only
 rw [AS ht]
 dsimp only
 have:(if dv (.wd [97,116]) then dZ (.wd x) else none)=some x:=by
  rw [if_pos (by decide)];show (if bG x=true then _ else _)=_;rw [if_pos (Nm.is hx)]
 rw [this]
def yK{s:Nat}:([s] == ([97,116]:List Nat))=false:=by simp
def y9d{s:Nat}{a b:Tm}(hs:i6 s)(ha:a.ok)(hb:b.ok):gA [.wd [s],qp a,qp b]=some (.op s a b):=by
 unfold gA
 dsimp only
 rw [AS hb]
 dsimp only
 have:(if dv (.wd [s])=true then dZ (qp a) else none)=none:=if_neg (by show ¬ (([s] == ([97,116]:List Nat))=true);rw [yK];decide)
 rw [this]
 dsimp only
 have:cD (.wd [s])=some s:=by show (if qV s=true then _ else _)=_;rw [if_pos ((mP s).mpr hs)]
 rw [this,AS ha]
theorem mQ:∀{t:Tm},t.ok->∀(ws:List (List Nat)) (f:List Th) (r:List (List Th)),c6 (t.tk++ws) (f::r)=c6 ws ((f++[qp t])::r)
 | .num w,h,ws,f,r=>kf (qm w).1 (qm w).2
 | .cell x,h,ws,f,r=>kf (Nm.ne h).1 (Nm.ne h).2
 | .at_ x t,h,ws,f,r=>by
  rw [Tm.tk]
  show c6 ([40]::([97,116]::(x::(t.tk++[[41]]++ws)))) (f::r)=_
  rw [yI,kf (by decide) (by decide),kf (Nm.ne h.1).1 (Nm.ne h.1).2,z2e,mQ h.2]
  exact yJ (y9b h.1 h.2)
 | .op s a b,h,ws,f,r=>by
  rw [Tm.tk]
  show c6 ([40]::([s]::(a.tk++b.tk++[[41]]++ws))) (f::r)=_
  rw [yI,kf (i6.ne h.1).1 (i6.ne h.1).2,z2e,z2e,mQ h.2.1,mQ h.2.2]
  exact yJ (y9d h.1 h.2.1 h.2.2)
def Jg{t:Tm}(h:t.ok):jb t.tk=some t:=by
 have e:=mQ h [] [] []
 rw [z11] at e
 unfold jb
 rw [e]
 show cA (qp t)=some t
 exact AS h
end
section
variable {G:List M}
def qq{w:Wk}{g:GF}{b:SF}{i r:Nat}{Z Z1 Z2:De}{G G1 G2:List M}{d:I}{R:Option Fl}(h1:w.at_ i Z G=some d)(h2:g (.im d) Z G=some (Z1,G1))(h3:b Z1 G1=some (.nx Z2 G2))(h4:bC w g b (i+1) r Z2 G2=R):bC w g b i (r+1) Z G=R:=by
 unfold bC
 rw [h1];dsimp only;rw [h2];dsimp only;rw [h3];exact h4
def yL{w:Wk}{g:GF}{b:SF}{i r:Nat}{Z Z1:De}{G G1 G2:List M}{d:I}{x:Vl}(h1:w.at_ i Z G=some d)(h2:g (.im d) Z G=some (Z1,G1))(h3:b Z1 G1=some (.rt x G2)):bC w g b i (r+1) Z G=some (.rt x G2):=by
 unfold bC
 rw [h1];dsimp only;rw [h2];dsimp only;rw [h3]
def yM{w:Wk}{g:GF}{b:SF}{i:Nat}{Z:De}{G:List M}(h:w.fin Z G=true):bC w g b i 0 Z G=some (.nx Z G):=by
 unfold bC;rw [h];rfl
def Jh:∀c∈("0123456789" : Str).cps.toList,48≤c/\c≤57:=by decide +kernel
abbrev il(c:Nat):Bool:=decide (48≤c)&&decide (c≤57)
def Ji{c:Nat}:il c=true↔48≤c/\c≤57:=by unfold il;rw [z1b,decide_eq_true_eq,decide_eq_true_eq]
def yN(c:Nat):decide (c∈("0123456789" : Str).cps.toList)=il c:=by
 by_cases h:48≤c/\c≤57
 ·obtain⟨k,rfl⟩:∃k,c=48+k:=⟨c-48,by lia⟩
  rw [decide_eq_true (yB k (by lia)),Ji.mpr h]
 ·have:il c=false:=Bool.eq_false_iff.mpr λz=>h (Ji.mp z)
  rw [this]
  exact decide_eq_false λz=>h (Jh c z)
def Jj{x:I}{a c:Nat}(hc:il c=false):xH [↑x,↑(.int (a:Int)),↑(.str (ah [c]))] G=some (.rt (.im .non) G):=by
 refine a6 (aV (Z1:=[↑x,↑(.int (a:Int)),↑(.str (ah [c]))]) (G1:=G) (aY (aw rfl rfl ?_)) rfl)
 show some (Ev.v (.im (.bl (!(gk ("0123456789" : Str) (ah [c]))))),_,G)=_
 rw [mK,yN,hc];rfl
theorem yO{x:List Nat}:∀(post pre:List Nat) (v2:Option Vl),x=pre++post->∃v2',bC (cM (ah x)) (aG 2) xH pre.length post.length [↑(.str (ah x)),↑(.int (vl 0 pre:Int)),v2] G=if post.all il=true then some (.nx [↑(.str (ah x)),↑(.int (vl 0 x:Int)),v2'] G) else some (.rt (.im .non) G)
 | [],pre,v2,hx=>⟨v2,by rw [hx,z11];exact yM rfl⟩
 | c::post,pre,v2,hx=>by
  have ha:(cM (ah x)).at_ pre.length [↑(.str (ah x)),↑(.int (vl 0 pre:Int)),v2] G=some (.str (ah [c])):=by
   show ((ah x).cps[pre.length]?).map (λc=>I.str ⟨#[c]⟩)=_
   have:(ah x).cps[pre.length]?=some c:=by rw [hx];simp [ah]
   rw [this];rfl
  rw [List.all_cons]
  cases hc:il c with
  | false=>exact⟨v2,by rw [Bool.false_and,if_neg (by decide)];exact yL (d:=.str (ah [c])) ha rfl (Jj hc)⟩
  | true =>
   obtain⟨v2',e⟩:=yO (x:=x) post (pre++[c]) ↑(.str (ah [c])) (by rw [hx];simp)
   refine⟨v2',?_⟩
   rw [Bool.true_and,<- e,zd,List.length_singleton]
   refine qq (d:=.str (ah [c])) ha rfl (IV (a:=vl 0 pre) (Ji.mp hc)) ?_
   rw [yD]
abbrev qr(x:List Nat):I:=if cP x=true then .int (vl 0 x:Int) else .non
def Jk{x:List Nat}(hl:x.length≤100000):AI [.im (.str (ah x))] G=some (.im (qr x),G):=by
 have hn:(cM (ah x)).n=x.length:=by simp [cM,ah]
 have hl':(ah x).length≤1000000:=by rw [bF];lia
 cases x with
 | nil =>
  refine aK rfl (a6 (aV (Z1:=[↑(.str (ah [])),none,none]) (G1:=G) (fH (aY (aw rfl rfl ?_))) rfl))
  rw [mL];simp! []
 | cons c r =>
  have n1:(ah (c::r) == ah [])=false:=by rw [dF];simp
  have ix:aJ [⇑(.str (ah (c::r))),⇑(.int 0)] [↑(.str (ah (c::r))),none,none] G=some (⇑(.str (ah [c])),[↑(.str (ah (c::r))),none,none],G):=by
   have hc:cC (ah (c::r)).cps.toList 0=some c:=cO c r
   rw [show ah [c]=(⟨#[c]⟩:Str) from rfl]
   simp [aJ,bS,eI,sq,pk,hc,hl']
  have t1:ao (ai a9 (aa 0) (ag (.str ""))) [↑(.str (ah (c::r))),none,none] G=some (false,[↑(.str (ah (c::r))),none,none],G):=aY (aw rfl rfl (by rw [mL];simp! [n1]))
  have t2:eQ (ao (ai a9 (ai aJ (aa 0) (ag (.int 0))) (ag (.str "0")))) (ao (ai gJ (aa 0) (ag (.str "0")))) [↑(.str (ah (c::r))),none,none] G=some (!(c != 48||r.isEmpty),[↑(.str (ah (c::r))),none,none],G):=by
   by_cases hc:c=48
   ·subst hc
    refine kB (Z1:=[↑(.str (ah (48::r))),none,none]) (G1:=G) (aY (aw (aw rfl rfl ix) rfl (by rw [mM];simp! []))) (aY (aw rfl rfl ?_))
    rw [mM]
    cases r with
    | nil=>simp! []
    | cons a r' =>
     have n4:(ah (48::a::r') == ah [48])=false:=by rw [dF];simp
     simp! [n4]
   ·have n3:(ah [c] == ah [48])=false:=by rw [dF];simp [hc]
    have:(!(c != 48||r.isEmpty))=false:=by
     have:(c != 48)=true:=bne_iff_ne.mpr hc
     rw [this];rfl
    rw [this]
    exact pY (aY (aw (aw rfl rfl ix) rfl (by rw [mM];simp! [n3])))
  obtain⟨v2,ef⟩:=yO (x:=c::r) (G:=G) (c::r) [] none rfl
  have hb:cP (c::r)=((c != 48||r.isEmpty)&&(c::r).all il):=rfl
  unfold qr
  cases h1:(c != 48||r.isEmpty) with
  | false =>
   rw [hb,h1,Bool.false_and,if_neg (by decide)]
   rw [h1] at t2
   exact aK rfl (a6 (aV (b7 t1 t2) rfl))
  | true =>
   rw [h1] at t2
   rw [hb,h1,Bool.true_and]
   have sk:aF (dB (ao (ai a9 (aa 0) (ag (.str "")))) (eQ (ao (ai a9 (ai aJ (aa 0) (ag (.int 0))) (ag (.str "0")))) (ao (ai gJ (aa 0) (ag (.str "0")))))) (ax (ag .non)) aP [↑(.str (ah (c::r))),none,none] G=some (.nx [↑(.str (ah (c::r))),none,none] G):=aL (b7 t1 t2) rfl
   have fo:=gx (f:=cH (one (aa 0)) eL) (g:=aG 2) (b:=xH) (r:=if (c::r).all il=true then some (.nx [↑(.str (ah (c::r))),↑(.int (vl 0 (c::r):Int)),v2] G) else some (.rt (.im .non) G)) (j6 (fa:=one (aa 0)) (Z:=[↑(.str (ah (c::r))),↑(.int 0),none]) (G:=G) (Z1:=[↑(.str (ah (c::r))),↑(.int 0),none]) (G1:=G) (es:=[⇑(.str (ah (c::r)))]) (w:=cM (ah (c::r))) (p:=eL) rfl rfl) (by rw [hn];exact ef)
   cases h2:(c::r).all il with
   | false =>
    rw [h2,if_neg (by decide)] at fo
    rw [if_neg (by decide)]
    exact aK rfl (aj sk (aj (Z1:=[↑(.str (ah (c::r))),↑(.int 0),none]) (G1:=G) rfl (a6 fo)))
   | true =>
    rw [h2,if_pos rfl] at fo
    rw [if_pos rfl]
    exact aK rfl (aj sk (aj (Z1:=[↑(.str (ah (c::r))),↑(.int 0),none]) (G1:=G) rfl (aj fo rfl)))
abbrev bt{α:Type}(f:α->I):Option α->I
 | none=>.non
 | some a=>f a
def Jl{x:List Nat}(hl:x.length≤100000):pV [.im (.str (ah x))] G=some (.im (bt (λw:Nat=>.int (w:Int)) (gz x)),G):=by
 have e:=Jk (G:=G) hl
 unfold qr at e
 unfold gz
 by_cases hb:cP x=true
 ·rw [if_pos hb] at e
  by_cases hv:vl 0 x<4294967296
  ·rw [if_pos ⟨hb,hv⟩]
   have h:¬ (4294967296:Int)≤(vl 0 x:Int):=by lia
   simp! [pV,e,h,bt]
  ·rw [if_neg (λz=>hv z.2)]
   have h:(4294967296:Int)≤(vl 0 x:Int):=by lia
   simp! [pV,e,h,bt]
 ·rw [if_neg hb] at e
  rw [if_neg (λz=>hb z.1)]
  simp! [pV,e,bt]
abbrev Th.len:Th->Prop
 | .wd x=>x.length≤100000
 | .tm _=>True
def Jm{h:Th}(hl:h.len):fG [.im h.i] G=some (.im (bt Tm.i (cA h)),G):=by
 cases h with
 | tm t =>
  show fG [.im t.i] G=some (.im t.i,G)
  obtain⟨xs,hx⟩:=t.y1c2
  rw [hx]
  simp! [fG,dE,me,eM]
 | wd x =>
  have e1:=yA (x:=x) (G:=G) hl
  have e2:=Jl (x:=x) (G:=G) hl
  show fG [.im (.str (ah x))] G=_
  unfold cA
  dsimp only
  cases hn:bG x with
  | true =>
   rw [hn] at e1
   simp! [fG,dE,me,eM,e1,bt,Tm.i]
  | false =>
   rw [hn] at e1
   cases hv:gz x with
   | none =>
    rw [hv] at e2
    simp! [fG,dE,me,eM,e1,e2,bt]
   | some w =>
    rw [hv] at e2
    simp! [fG,dE,me,eM,e1,e2,bt,Tm.i]
def Jn{h:Th}(hl:h.len):kA [.im h.i] G=some (.im (.bl (dZ h).isSome),G):=by
 cases h with
 | tm t =>
  obtain⟨xs,hx⟩:=t.y1c2
  show kA [.im t.i] G=_
  rw [hx]
  simp! [kA,dE,me,eM,fB,dZ]
 | wd x =>
  have e1:=yA (x:=x) (G:=G) hl
  show kA [.im (.str (ah x))] G=_
  cases hn:bG x with
  | true =>
   rw [hn] at e1
   simp! [kA,dE,me,eM,fB,dZ,hn,e1]
  | false =>
   rw [hn] at e1
   simp! [kA,dE,me,eM,fB,dZ,hn,e1]
end
section
variable {G:List M}
def yP{Z:De}(a:Th):a9 [⇑a.i,⇑(.str "at")] Z G=some (⇑(.bl (dv a)),Z,G):=by
 cases a with
 | wd x =>
  show a9 [⇑(.str (ah x)),_] Z G=_
  have:(ah x == ah [97,116])=(x == [97,116]):=by rw [dF];by_cases h:x=[97,116]<;>simp [h]
  rw [IX]
  simp only [a9,eS,dR,cb,dJ,bL,br,dv,this];rfl
 | tm t =>
  obtain⟨xs,hx⟩:=t.y1c2
  show a9 [⇑t.i,_] Z G=_
  rw [hx];rfl
def Jo:([("+" : Str),"-","*","<","="]:List Str)=[ah [43],ah [45],ah [42],ah [60],ah [61]]:=by decide +kernel
def yQ(x:List Nat):((List.map I.str ["+","-","*","<","="]).any λz=>br z (.str (ah x)))=(cD (.wd x)).isSome:=by
 rw [Jo]
 simp only [z18,List.map_nil,List.any_cons,List.any_nil,br,dF]
 match x with
 | []=>rfl
 | [s] =>
  unfold cD qV
  by_cases h1:s=43
  ·subst h1;rfl
  ·by_cases h2:s=45
   ·subst h2;rfl
   ·by_cases h3:s=42
    ·subst h3;rfl
    ·by_cases h4:s=60
     ·subst h4;rfl
     ·by_cases h5:s=61
      ·subst h5;rfl
      ·have n:∀k:Nat,s≠k->decide (([k]:List Nat)=[s])=false:=λk hk=>decide_eq_false λz=>hk (by cases z;rfl)
       have m:∀k:Nat,s≠k->(s == k)=false:=λk hk=>beq_eq_false_iff_ne.mpr hk
       dsimp only
       rw [n 43 h1,n 45 h2,n 42 h3,n 60 h4,n 61 h5,m 43 h1,m 45 h2,m 42 h3,m 60 h4,m 61 h5];rfl
 | a::b::r=>simp [cD]
def yR{Z:De}(a:Th):gp [⇑a.i,⇑(.con (List.map I.str ["+","-","*","<","="]))] Z G=some (⇑(.bl (cD a).isSome),Z,G):=by
 cases a with
 | wd x =>
  show gp [⇑(.str (ah x)),_] Z G=_
  unfold gp bS iu
  dsimp only [sq]
  rw [if_pos (show (bL (.str (ah x))&&(List.map I.str [("+" : Str),"-","*","<","="]).all bL)=true from rfl)]
  dsimp only
  rw [yQ];rfl
 | tm t =>
  obtain⟨xs,hx⟩:=t.y1c2
  show gp [⇑t.i,_] Z G=_
  rw [hx];rfl
abbrev b3(k:Nat)(v1 v2:Option Vl):De:=[↑(.ref k),v1,v2]
def kg(o:Option Tm):(o=none/\bt Tm.i o=.non)∨∃t xs,o=some t/\bt Tm.i o=.tup xs/\t.i=.tup xs:=by
 cases o with
 | none=>exact .inl ⟨rfl,rfl⟩
 | some t =>
  obtain⟨xs,hx⟩:=t.y1c2
  exact .inr ⟨t,xs,rfl,hx,hx⟩
def y9a{k:Nat}{f:List Th}(hk:G[k]?=some (.lst (f.map Th.i)))(hl:∀h∈f,h.len)(hn:f.length≤100000):xI [.im (.ref k)] G=some (.im (bt Tm.i (gA f)),G):=by
 have tl:ao (ai gJ (bd (af (aa 0) ae) aI) (ag (.int 3))) (b3 k none none) G=some (!decide (f.length=3),b3 k none none,G):=by
  refine aY (aw (x:=⇑(.int f.length)) (y:=⇑(.int 3)) (Z1:=b3 k none none) (G1:=G) (aq (a:=[⇑(.ref k)]) (Z1:=b3 k none none) (G1:=G) (aq rfl rfl) (by simp [aI,sq,pk,hk])) rfl ?_)
  by_cases h:f.length=3
  ·rw [h];rfl
  ·have h':((f.length:Int) == 3)=false:=beq_eq_false_iff_ne.mpr (by lia)
   rw [decide_eq_false h]
   simp [gJ,eS,dR,cb,dJ,bL,br,h']
 by_cases h3:f.length=3
 ·rw [decide_eq_true h3] at tl
  match f,h3 with
  | [a,b,c],_ =>
  have la:=hl a (by simp)
  have lb:=hl b (by simp)
  have lc:=hl c (by simp)
  have ea:=Jm (G:=G) lc
  have eb:=Jm (G:=G) lb
  have en:=Jn (G:=G) lb
  have x0:∀v1 v2,ai aJ (aa 0) (ag (.int 0)) (b3 k v1 v2) G=some (⇑a.i,b3 k v1 v2,G):=λv1 v2=>aw (x:=⇑(.ref k)) (y:=⇑(.int 0)) rfl rfl (by
   have:=cO a.i [b.i,c.i]
   simp [aJ,bS,eI,sq,pk,hk,this])
  have x1:∀v1 v2,ai aJ (aa 0) (ag (.int 1)) (b3 k v1 v2) G=some (⇑b.i,b3 k v1 v2,G):=λv1 v2=>aw (x:=⇑(.ref k)) (y:=⇑(.int 1)) rfl rfl (by
   have:=iz a.i b.i [c.i]
   simp [aJ,bS,eI,sq,pk,hk,this])
  have x2:∀v1 v2,ai aJ (aa 0) (ag (.int 2)) (b3 k v1 v2) G=some (⇑c.i,b3 k v1 v2,G):=λv1 v2=>aw (x:=⇑(.ref k)) (y:=⇑(.int 2)) rfl rfl (by
   have:=qU a.i b.i c.i []
   simp [aJ,bS,eI,sq,pk,hk,this])
  have s2:aN (bd (af (ai aJ (aa 0) (ag (.int 2))) ae) (aB 1 fG)) (aG 1) (b3 k none none) G=some (.nx (b3 k ↑(bt Tm.i (cA c)) none) G):=bB (aq (aq (x2 none none) rfl) (bX (xs:=[.im c.i]) rfl rfl ea)) rfl
  unfold gA
  dsimp only
  rcases kg (cA c) with⟨o1,o2⟩| ⟨last,ls,o1,o2,o3⟩
  ·rw [o2] at s2
   rw [o1]
   exact aK rfl (aj (aL tl rfl) (aj s2 (a6 (aV (Z1:=b3 k ↑.non none) (G1:=G) rfl rfl))))
  ·rw [o2] at s2
   rw [o1]
   dsimp only
   have t3:aF (ao (a7 (eR true) (aa 1))) (ax (ag .non)) aP (b3 k ↑(.tup ls) none) G=some (.nx (b3 k ↑(.tup ls) none) G):=aL (Z1:=b3 k ↑(.tup ls) none) (G1:=G) rfl rfl
   have c1:ao (ai a9 (ai aJ (aa 0) (ag (.int 0))) (ag (.str "at"))) (b3 k ↑(.tup ls) none) G=some (dv a,b3 k ↑(.tup ls) none,G):=aY (aw (x0 _ _) rfl (yP a))
   have c2:bd (bd (af (ai aJ (aa 0) (ag (.int 1))) ae) (aB 1 kA)) cI (b3 k ↑(.tup ls) none) G=some ((dZ b).isSome,b3 k ↑(.tup ls) none,G):=aq (aq (aq (x1 _ _) rfl) (bX (xs:=[.im b.i]) rfl rfl en)) rfl
   have s5:aN (bd (af (ai aJ (aa 0) (ag (.int 1))) ae) (aB 1 fG)) (aG 2) (b3 k ↑(.tup ls) none) G=some (.nx (b3 k ↑(.tup ls) ↑(bt Tm.i (cA b))) G):=bB (aq (aq (x1 _ _) rfl) (bX (xs:=[.im b.i]) rfl rfl eb)) rfl
   have aA:ak (aN (bd (af (ai aJ (aa 0) (ag (.int 1))) ae) (aB 1 fG)) (aG 2))
     (ak (aF (eQ (ao (ai gp (ai aJ (aa 0) (ag (.int 0))) (ag (.con (List.map I.str ["+","-","*","<","="]))))) (ao (a7 (eR false) (aa 2))))
      (ax (bd (af (ag (.str "op")) (af (ai aJ (aa 0) (ag (.int 0))) (af (aa 2) (af (aa 1) ae)))) b9)) aP) (ax (ag .non))) (b3 k ↑(.tup ls) none) G=some (.rt (.im (bt Tm.i (match cD a,cA b with|some s,some first=>some (Tm.op s first last)|_,_=>none))) G):=by
    refine aj s5 ?_
    have c3:∀v2,ao (ai gp (ai aJ (aa 0) (ag (.int 0))) (ag (.con (List.map I.str ["+","-","*","<","="])))) (b3 k ↑(.tup ls) v2) G=some ((cD a).isSome,b3 k ↑(.tup ls) v2,G):=λv2=>aY (aw (x0 _ _) rfl (yR a))
    rcases kg (cA b) with⟨p1,p2⟩| ⟨first,fs,p1,p2,p3⟩
    ·rw [p2,p1]
     cases hs:cD a with
     | none =>
      have c3:=c3 ↑.non;rw [hs] at c3
      exact aj (aL (pY c3) rfl) rfl
     | some s =>
      have c3:=c3 ↑.non;rw [hs] at c3
      exact aj (aL (kB c3 (Z1:=b3 k ↑(.tup ls) ↑.non) (G1:=G) rfl) rfl) rfl
    ·rw [p2,p1]
     cases hs:cD a with
     | none =>
      have c3:=c3 ↑(.tup fs);rw [hs] at c3
      exact aj (aL (pY c3) rfl) rfl
     | some s =>
      have c3:=c3 ↑(.tup fs);rw [hs] at c3
      have hai:a.i=.str (ah [s]):=by
       cases a with
       | tm t=>cases hs
       | wd x =>
        unfold cD at hs
        split at hs
        ·rename_i s' hx
         split at hs
         ·cases hs;cases hx;rfl
         ·cases hs
        ·cases hs
      have x0':=x0 ↑(.tup ls) ↑(.tup fs)
      rw [hai] at x0'
      refine a6 (aV (kB c3 (Z1:=b3 k ↑(.tup ls) ↑(.tup fs)) (G1:=G) rfl) (aW (Z1:=b3 k ↑(.tup ls) ↑(.tup fs)) ?_))
      show bd _ b9 _ G=some (⇑(.tup [.str "op",.str (ah [s]),first.i,last.i]),_,G)
      rw [p3,o3]
      exact aq (aq (a:=⇑(.str "op")) rfl (aq (aq x0' (aq (a:=[⇑(.tup fs),⇑(.tup ls)]) rfl rfl)) rfl)) rfl
   cases hA:dv a with
   | false =>
    rw [hA] at c1
    rw [if_neg (by decide)]
    exact aK rfl (aj (aL tl rfl) (aj s2 (aj t3 (aj (aL (pY c1) rfl) aA))))
   | true =>
    rw [hA] at c1
    rw [if_pos rfl]
    cases hN:dZ b with
    | none =>
     rw [hN] at c2
     exact aK rfl (aj (aL tl rfl) (aj s2 (aj t3 (aj (aL (kB c1 c2) rfl) aA))))
    | some x =>
     rw [hN] at c2
     have hbi:b.i=.str (ah x):=by
      cases b with
      | tm t=>cases hN
      | wd y =>
       unfold dZ at hN
       dsimp only at hN
       split at hN
       ·cases hN;rfl
       ·cases hN
     have x1':=x1 ↑(.tup ls) none
     rw [hbi] at x1'
     refine aK rfl (aj (aL tl rfl) (aj s2 (aj t3 (a6 (aV (kB c1 c2) (aW (Z1:=b3 k ↑(.tup ls) none) ?_))))))
     show bd _ b9 _ G=some (⇑(.tup [.str "at",.str (ah x),last.i]),_,G)
     rw [o3]
     exact aq (aq (a:=⇑(.str "at")) rfl (aq (aq x1' (aq (a:=[⇑(.tup ls)]) rfl rfl)) rfl)) rfl
 ·rw [decide_eq_false h3] at tl
  have:gA f=none:=by
   unfold gA
   split
   ·exact absurd rfl h3
   ·rfl
  rw [this]
  exact aK rfl (a6 (aV tl rfl))
end
section
abbrev Rl(G:List M):List Nat->List (List Th)->Prop
 | [],[]=>True
 | k::ks,f::st=>G[k]?=some (.lst (f.map Th.i))/\Rl G ks st
 | _,_=>False
theorem Rl.mono{G G':List M}:∀{ks:List Nat} {st:List (List Th)},Rl G ks st->(∀k∈ks,G'[k]?=G[k]?)->Rl G' ks st
 | [],[],_,_=>trivial
 | k::ks,f::st,h,e=>⟨(e k List.mem_cons_self).trans h.1,h.2.mono λj hj=>e j (z1d _ hj)⟩
 | [],_::_,h,_=>h.elim
 | _::_,[],h,_=>h.elim
theorem Rl.lt{G:List M}:∀{ks:List Nat} {st:List (List Th)},Rl G ks st->∀k∈ks,k<G.length
 | [],[],_,k,h=>by cases h
 | j::ks,f::st,r,k,h=>by
  rcases z1f.mp h with rfl|h
  ·exact (z19.mp r.1).1
  ·exact r.2.lt k h
 | [],_::_,r,_,_=>r.elim
 | _::_,[],r,_,_=>r.elim
abbrev ji(st:List (List Th)):Nat:=(st.map List.length).sum
abbrev Jp(st:List (List Th)):Prop:=∀f∈st,∀h∈f,h.len
abbrev dG(B G:List M):Prop:=B.length≤G.length/\∀k,k<B.length->G[k]?=B[k]?
def dG.refl(B:List M):dG B B:=⟨z10 _,λ_ _=>rfl⟩
theorem dG.trans{A B C:List M}(x:dG A B)(y:dG B C):dG A C:=⟨z1a x.1 y.1,λk h=>(y.2 k (z1c h x.1)).trans (x.2 k h)⟩
def dG.app{B G:List M}(x:dG B G)(T:List M):dG B (G++T):=⟨by rw [zd];have:=x.1;lia,λk h=>by rw [z25 (z1c h x.1)];exact x.2 k h⟩
theorem dG.set{B G:List M}(x:dG B G){k:Nat}(h:B.length≤k)(m:M):dG B (G.set k m):=⟨by rw [z29];exact x.1,λj hj=>by rw [z26 (by lia)];exact x.2 j hj⟩
structure Sk(B:List M)(G:List M)(kw:Nat)(W:List (List Nat))(ks:List Nat)(st:List (List Th)):Prop where
 r:Rl G ks st
 nd:ks.Nodup
 nw:kw∉ks
 w:G[kw]?=some (.lst (W.map wI))
 l:Jp st
 fr:dG B G
 ge:∀k∈ks,B.length≤k
abbrev fK(ks:List Nat):List I:=ks.reverse.map I.ref
def kh(k:Nat)(ks:List Nat):fK (k::ks)=fK ks++[.ref k]:=by simp [fK]
def qt(ks:List Nat):(fK ks).length=ks.length:=by simp [fK]
abbrev t5(kw:Nat)(ks:List Nat)(v2 v3 v4:Option Vl):De:=[↑(.ref kw),↥(fK ks),v2,v3,v4]
theorem Rl.len{G:List M}:∀{ks:List Nat} {st:List (List Th)},Rl G ks st->ks.length=st.length
 | [],[],_=>rfl
 | k::ks,f::st,h=>by rw [z15,z15,h.2.len]
 | [],_::_,h=>h.elim
 | _::_,[],h=>h.elim
def Jq{B G:List M}{kw:Nat}{W:List (List Nat)}{ks:List Nat}{st:List (List Th)}{w:List Nat}{v3 v4:Option Vl}(s:Sk B G kw W ks st)(hw:w.length≤100000)(hn:st.length+ji st≤50000)(ne:st≠[]) :
  ∃(ks':List Nat) (v3':Option Vl) (G':List M),(match i9 w st with
   | some st'=>ny (t5 kw ks ↑(.str (ah w)) v3 v4) G=some (.nx (t5 kw ks' ↑(.str (ah w)) v3' v4) G')/\Sk B G' kw W ks' st'/\st'.length+ji st'≤st.length+ji st+1/\st'≠[]
   | none=>ny (t5 kw ks ↑(.str (ah w)) v3 v4) G=some (.rt (.im .non) G')/\dG B G'):=by
 have hlen:=s.r.len
 match ks,st,s with
 | [],[],_=>exact absurd rfl ne
 | [],_::_,s=>exact s.r.elim
 | _::_,[],s=>exact s.r.elim
 | k::ks,f::r,s =>
  have hf:f.length≤50000:=by simp [ji] at hn;lia
  unfold i9
  dsimp only
  by_cases h1:w=[40]
  ·subst h1
   rw [if_pos rfl]
   refine⟨G.length::k::ks,v3,G++[M.lst []],?_,?_,?_,by simp⟩
   ·have:=IZ (v0:=↑(.ref kw)) (v3:=v3) (v4:=v4) (ns:=fK (k::ks)) (G:=G) (by rw [qt,hlen];lia)
    rw [<- kh] at this
    exact this
   ·have lt:=s.r.lt
    have kl:=(z19.mp s.w).1
    refine⟨⟨by simp,s.r.mono λj hj=>z25 (lt j hj)⟩,List.nodup_cons.mpr ⟨λhm=>absurd (lt _ hm) (by lia),s.nd⟩,λhm=>?_,by rw [z25 kl];exact s.w,λx hx=>?_,?_,λx hx=>?_⟩
    ·rcases z1f.mp hm with z|z
     ·lia
     ·exact s.nw z
    ·rcases z1f.mp hx with rfl|hx
     ·intro h hh;cases hh
     ·exact s.l x hx
    ·exact s.fr.app _
    ·rcases z1f.mp hx with rfl|hx
     ·exact s.fr.1
     ·exact s.ge x hx
   ·simp [ji];lia
  ·rw [if_neg h1]
   by_cases h2:w=[41]
   ·subst h2
    rw [if_pos rfl]
    have hb:=y9a (G:=G) (k:=k) (f:=f) s.r.1 (s.l f (by simp)) (by lia)
    have q1:(ah [41] == ah [40])=false:=by rw [dF];simp
    have hp:(fK (k::ks))[(fK (k::ks)).length-1]?=some (.ref k):=by rw [kh];simp
    have hd:(fK (k::ks)).dropLast=fK ks:=by rw [kh];exact List.dropLast_concat
    have pop:aN (bd (af (a7 fA (aa 1)) ae) (aB 1 xI)) (aG 3) (t5 kw (k::ks) ↑(.str (ah [41])) v3 v4) G=some (.nx (t5 kw ks ↑(.str (ah [41])) ↑(bt Tm.i (gA f)) v4) G):=by
     refine bB (x:=.im (bt Tm.i (gA f))) (Z1:=t5 kw ks ↑(.str (ah [41])) v3 v4) (G1:=G) (aq (aq (a:=⇑(.ref k)) (Z1:=t5 kw ks ↑(.str (ah [41])) v3 v4) (G1:=G) (hV rfl ?_) rfl) (bX (xs:=[.im (.ref k)]) rfl rfl hb)) rfl
     unfold t5
     generalize fK (k::ks)=zs at hp hd ⊢
     show (match zs[zs.length-1]? with|some d=>some (Ev.v (.im d),([some (Vl.im (.ref kw)),some (Vl.ow (.lst zs.dropLast)),some (Vl.im (.str (ah [41]))),v3,v4]:De),G)|none=>none)=_
     rw [hp,hd]
    have head:∀{R:Option Fl},ak (aF (dB (ao (a7 (eR true) (aa 3))) (ao (ai a9 (bd (af (aa 1) ae) aI) (ag (.int 0))))) (ax (ag .non)) aP) (cX (iS hG (ai aJ (aa 1) (a7 cY (ag (.int 1)))) (af (aa 3) ae))) (t5 kw ks ↑(.str (ah [41])) ↑(bt Tm.i (gA f)) v4) G=R->ny (t5 kw (k::ks) ↑(.str (ah [41])) v3 v4) G=R:=λ{R} h =>
     aL (Z1:=t5 kw (k::ks) ↑(.str (ah [41])) v3 v4) (G1:=G) (aY (aw (x:=⇑(.str (ah [41]))) (y:=⇑(.str "(")) rfl rfl (by rw [i8];simp [a9,eS,dR,cb,dJ,bL,br,q1]))) (aV (Z1:=t5 kw (k::ks) ↑(.str (ah [41])) v3 v4) (G1:=G) (aY (aw (x:=⇑(.str (ah [41]))) (y:=⇑(.str ")")) rfl rfl (by rw [ig];simp [a9,eS,dR,cb,dJ,bL,br]))) (aj pop h))
    rcases kg (gA f) with⟨o1,o2⟩| ⟨t,xs,o1,o2,o3⟩
    ·rw [o1]
     rw [o2] at head
     have hh:=head (a6 (aV (Z1:=t5 kw ks ↑(.str (ah [41])) ↑.non v4) (G1:=G) (fH (aY rfl)) rfl))
     cases r with
     | nil=>exact⟨ks,v3,G,hh,s.fr⟩
     | cons g r'=>exact⟨ks,v3,G,hh,s.fr⟩
    ·rw [o1]
     rw [o2] at head
     have tn:ao (a7 (eR true) (aa 3)) (t5 kw ks ↑(.str (ah [41])) ↑(.tup xs) v4) G=some (false,t5 kw ks ↑(.str (ah [41])) ↑(.tup xs) v4,G):=rfl
     have tl:ao (ai a9 (bd (af (aa 1) ae) aI) (ag (.int 0))) (t5 kw ks ↑(.str (ah [41])) ↑(.tup xs) v4) G=some (decide (ks.length=0),t5 kw ks ↑(.str (ah [41])) ↑(.tup xs) v4,G):=by
      refine aY (aw (x:=⇑(.int ks.length)) (y:=⇑(.int 0)) (Z1:=t5 kw ks ↑(.str (ah [41])) ↑(.tup xs) v4) (G1:=G) (aq (aq (a:=.s 1) rfl rfl) ?_) rfl ?_)
      ·have:=qt ks
       unfold t5
       generalize fK ks=zs at this
       simp [aI,sq,pk,this]
      ·by_cases hz:ks.length=0
       ·rw [hz];rfl
       ·have hz':((ks.length:Int) == 0)=false:=beq_eq_false_iff_ne.mpr (by lia)
        rw [decide_eq_false hz]
        simp [a9,eS,dR,cb,dJ,bL,br,hz']
     match r,ks,s with
     | [],[],s=>exact⟨[],v3,G,head (a6 (aV (b7 tn tl) rfl)),s.fr⟩
     | [],_::_,s=>exact s.r.2.elim
     | _::_,[],s=>exact s.r.2.elim
     | g::r',k2::ks',s =>
      have hg:g.length≤50000:=by simp [ji] at hn;lia
      have al:=y80 (fK ks') (.ref k2)
      rw [<- kh] at al
      have hgl:(g.map Th.i).length<1000000:=by rw [z12];lia
      have kk:k2<G.length:=(z19.mp s.r.2.1).1
      have nd2:=(List.nodup_cons.mp s.nd).2
      have ap:cX (iS hG (ai aJ (aa 1) (a7 cY (ag (.int 1)))) (af (aa 3) ae)) (t5 kw (k2::ks') ↑(.str (ah [41])) ↑(.tup xs) v4) G=some (.nx (t5 kw (k2::ks') ↑(.str (ah [41])) ↑(.tup xs) v4) (G.set k2 (.lst (g.map Th.i++[.tup xs])))):=by
       refine pX (e:=⇑.non) (HK (e:=⇑(.ref k2)) (Z1:=t5 kw (k2::ks') ↑(.str (ah [41])) ↑(.tup xs) v4) (G1:=G) (aw (x:=.s 1) (y:=⇑(.int (-1))) rfl rfl ?_) (by simp [fz,pk,s.r.2.1]) (aq (a:=⇑(.tup xs)) rfl rfl) ?_)
       ·unfold t5
        generalize fK (k2::ks')=zs at al
        simp [aJ,bS,eI,sq,pk,al]
       ·have h0:=s.r.2.1
        generalize g.map Th.i=zs at h0 hgl
        simp [hG,pk,ir,h0,hgl]
      refine⟨k2::ks',_,_,head (aj (aL (b7 tn tl) rfl) ap),?_,?_,by simp⟩
      ·refine⟨⟨?_,s.r.2.2.mono λj hj=>z26 (λz=>(List.nodup_cons.mp nd2).1 (by rw [z];exact hj))⟩,nd2,λhm=>s.nw (z1d _ hm),?_,λx hx=>?_,s.fr.set (s.ge _ (by simp)) _,λj hj=>s.ge j (z1d _ hj)⟩
       ·rw [List.getElem?_set_self kk,z28]
        show some (M.lst (g.map Th.i++[.tup xs]))=some (M.lst (g.map Th.i++[t.i]))
        rw [o3]
       ·rw [z26 (λz=>s.nw (by rw [<- z];simp))];exact s.w
       ·rcases z1f.mp hx with rfl|hx
        ·intro h hh
         rcases z1e.mp hh with hh|hh
         ·exact s.l g (by simp) h hh
         ·rw [z22.mp hh];trivial
        ·exact s.l x (by simp [hx])
      ·simp [ji];lia
   ·rw [if_neg h2]
    have kk:k<G.length:=(z19.mp s.r.1).1
    refine⟨k::ks,v3,G.set k (.lst (f.map Th.i++[.str (ah w)])),?_,?_,?_,by simp⟩
    ·have:=I0 (v0:=↑(.ref kw)) (v3:=v3) (v4:=v4) (ps:=fK ks) (xs:=f.map Th.i) (top:=k) (x:=w) (G:=G) h1 h2 s.r.1 (by rw [z12];lia)
     rw [<- kh] at this
     exact this
    ·refine⟨⟨?_,s.r.2.mono λj hj=>z26 (λz=>(List.nodup_cons.mp s.nd).1 (by rw [z];exact hj))⟩,s.nd,s.nw,?_,λx hx=>?_,s.fr.set (s.ge _ (by simp)) _,s.ge⟩
     ·rw [List.getElem?_set_self kk,z28];rfl
     ·rw [z26 (λz=>s.nw (by rw [<- z];simp))];exact s.w
     ·rcases z1f.mp hx with rfl|hx
      ·intro h hh
       rcases z1e.mp hh with hh|hh
       ·exact s.l f (by simp) h hh
       ·rw [z22.mp hh];exact hw
      ·exact s.l x (by simp [hx])
    ·simp [ji];lia
theorem yS{B:List M}{kw:Nat}{W:List (List Nat)}(hW:∀w∈W,w.length≤100000):∀(post pre:List (List Nat)) {ks:List Nat} {st:List (List Th)} {v2 v3:Option Vl} {G:List M},W=pre++post->Sk B G kw W ks st->st.length+ji st+post.length≤50000->st≠[] ->
  ∃(ks':List Nat) (v2' v3':Option Vl) (G':List M),(match c6 post st with
   | some st'=>bC (ck ⇑(.ref kw) W.length) (aG 2) ny pre.length post.length (t5 kw ks v2 v3 none) G=some (.nx (t5 kw ks' v2' v3' none) G')/\Sk B G' kw W ks' st'/\st'.length+ji st'≤50000/\st'≠[]
   | none=>bC (ck ⇑(.ref kw) W.length) (aG 2) ny pre.length post.length (t5 kw ks v2 v3 none) G=some (.rt (.im .non) G')/\dG B G')
 | [],pre,ks,st,v2,v3,G,hx,s,hn,ne=>⟨ks,v2,v3,G,yM (by simp [ck,sq,pk,s.w]),s,by simpa using hn,ne⟩
 | w::post,pre,ks,st,v2,v3,G,hx,s,hn,ne=>by
  have ha:(ck ⇑(.ref kw) W.length).at_ pre.length (t5 kw ks v2 v3 none) G=some (.str (ah w)):=by
   have:sq (t5 kw ks v2 v3 none) G ⇑(.ref kw)=some (W.map wI):=by simp [sq,pk,s.w]
   show (sq _ G _).bind (·[pre.length]?)=_
   rw [this]
   show (W.map wI)[pre.length]?=_
   rw [hx];simp [wI]
  rw [z15] at hn
  obtain⟨ks',v3',G',ht⟩:=Jq (v3:=v3) (v4:=none) s (hW w (by rw [hx];simp)) (by lia) ne
  rw [c6]
  cases hs:i9 w st with
  | none =>
   rw [hs] at ht
   exact⟨ks,v2,v3,G',yL (d:=.str (ah w)) ha rfl ht.1,ht.2⟩
  | some st' =>
   rw [hs] at ht
   obtain⟨e1,s1,n1,ne1⟩:=ht
   obtain⟨ks2,w2,w3,G2,h2⟩:=yS hW post (pre++[w]) (v2:=↑(.str (ah w))) (v3:=v3') (by rw [hx];simp) s1 (by lia) ne1
   refine⟨ks2,w2,w3,G2,?_⟩
   dsimp only
   rw [zd,List.length_singleton] at h2
   cases hr:c6 post st' with
   | none =>
    rw [hr] at h2
    exact⟨qq (d:=.str (ah w)) ha rfl e1 h2.1,h2.2⟩
   | some st2 =>
    rw [hr] at h2
    exact⟨qq (d:=.str (ah w)) ha rfl e1 h2.1,h2.2⟩
end
section
abbrev dH:List (List Th)->Option (List I)
 | [f]=>if f.all (λh=>(cA h).isSome)=true then some (f.map λh=>bt Tm.i (cA h)) else none
 | _=>none
abbrev AU:Option (List I)->Vl
 | none=>.im .non
 | some ys=>.ow (.lst ys)
def ycf{G:List M}{k:Nat}{f:List Th}{Z:De}(hk:G[k]?=some (.lst (f.map Th.i)))(hl:∀h∈f,h.len):eF (ck ⇑(.ref k) f.length) c1 bT (bd (af (aa 0) ae) (aB 1 fG)) [] 0 f.length [] Z G=some (f.map λh=>bt Tm.i (cA h),G):=by
 obtain⟨ds,G',e2,ed,eg⟩:=qb (w:=ck ⇑(.ref k) f.length) (c:=c1) (tt:=bT) (te:=bd (af (aa 0) ae) (aB 1 fG)) (di:=[]) (Z:=Z) (λi acc G'=>acc=(f.take i).map (λh=>bt Tm.i (cA h))/\G'=G)
  (λi acc g hi zz=>by
   obtain⟨ea,eg⟩:=zz
   have hi:i<f.length:=hi
   subst eg
   refine⟨f[i].i,[f[i].i],_,_,bt Tm.i (cA f[i]),[↑f[i].i],g,by simp [ck,sq,pk,hk,hi],rfl,rfl,aq (aq rfl rfl) (bX (xs:=[.im f[i].i]) rfl rfl (Jm (hl _ (z30 hi)))),?_,rfl⟩
   rw [ea,List.take_add_one,z16 hi,z28];rfl)
  (λ_ _ p=>by obtain⟨_,rfl⟩:=p;simp [ck,sq,pk,hk]) f.length 0 [] G (by show 0+f.length=f.length;lia) ⟨by simp,rfl⟩
 have ed:ds=(f.take f.length).map λh=>bt Tm.i (cA h):=ed
 rw [List.take_length] at ed
 rw [ed,eg] at e2
 exact e2
theorem Rl.last{G:List M}:∀{ks:List Nat} {st:List (List Th)},Rl G ks st->st≠[]->∃k ki f si,ks=ki++[k]/\st=si++[f]/\G[k]?=some (.lst (f.map Th.i))/\ki.length=si.length
 | [],[],_,n=>absurd rfl n
 | [k],[f],h,_=>⟨k,[],f,[],rfl,rfl,h.1,rfl⟩
 | k::k2::ks,f::g::st,h,_=>by
  obtain⟨a,ki,b,si,h1,h2,h3,h4⟩:=Rl.last (ks:=k2::ks) (st:=g::st) h.2 (by simp)
  exact⟨a,k::ki,b,f::si,by rw [h1];rfl,by rw [h2];rfl,h3,by simp [h4]⟩
 | [],_::_,h,_=>h.elim
 | _::_,[],h,_=>h.elim
 | [_],_::_::_,h,_=>h.2.elim
 | _::_::_,[_],h,_=>h.2.elim
def y71(f:List Th):((f.map λh=>bt Tm.i (cA h)).any jU)=!(f.all λh=>(cA h).isSome):=by
 induction f with
 | nil=>rfl
 | cons h f ih =>
  rw [z18,List.any_cons,ih,List.all_cons]
  rcases kg (cA h) with⟨o1,o2⟩| ⟨t,xs,o1,o2,_⟩
  ·rw [o2,o1];rfl
  ·rw [o2,o1];simp [jU]
def y6a(f:List Th):((f.map λh=>bt Tm.i (cA h)).all AB)=true:=by
 induction f with
 | nil=>rfl
 | cons h f ih =>
  rw [z18,List.all_cons,ih]
  rcases kg (cA h) with⟨o1,o2⟩| ⟨t,xs,o1,o2,_⟩<;>rw [o2]<;>rfl
def Jr{W:List (List Nat)}{G:List M}{kw:Nat}(hW:∀w∈W,w.length≤100000)(hl:W.length≤40000)(hk:G[kw]?=some (.lst (W.map wI))):∃G',xJ [.im (.ref kw)] G=some (AU ((c6 W [[]]).bind dH),G')/\dG G G':=by
 have kl:kw<G.length:=(z19.mp hk).1
 have hk1:(G++[M.lst []])[kw]?=some (.lst (W.map wI)):=by rw [z25 kl];exact hk
 have hn1:(G++[M.lst []])[G.length]?=some (.lst []):=by simp
 have s0:Sk G (G++[M.lst []]) kw W [G.length] [[]]:=⟨⟨hn1,trivial⟩,by simp,λh=>by rw [z22.mp h] at kl;lia,hk1,λf hf h hh=>(by rw [z22.mp hf] at hh;cases hh),(dG.refl G).app _,λk hk=>by rw [z22.mp hk];exact z10 _⟩
 obtain⟨ks,v2,v3,G2,h2⟩:=yS hW W [] (v2:=none) (v3:=none) rfl s0 (by simp [ji];lia) (by simp)
 have a1:aN (bd (af (bf (bd ae aM)) ae) aM) (aG 1) [↑(.ref kw),none,none,none,none] G=some (.nx (t5 kw [G.length] none none none) (G++[M.lst []])):=rfl
 have it:cH (one (bf (aa 0))) cL (t5 kw [G.length] none none none) (G++[M.lst []])=some (ck ⇑(.ref kw) W.length,[⇑(.ref kw)],t5 kw [G.length] none none none,G++[M.lst []]):=hZ (e:=⇑(.ref kw)) (n:=W.length) (xs:=W.map wI) rfl rfl (by simp [sq,pk,hk1]) (by simp)
 cases hr:c6 W [[]] with
 | none =>
  rw [hr] at h2
  exact⟨G2,aK rfl (aj a1 (a6 (gx it h2.1))),h2.2⟩
 | some st =>
  rw [hr] at h2
  obtain⟨e2,s2,n2,ne2⟩:=h2
  obtain⟨k0,ki,f0,si,hks,hst,hk0,hki⟩:=s2.r.last ne2
  have hf0:f0.length≤50000:=by rw [hst] at n2;simp [ji] at n2;lia
  have lf0:∀h∈f0,h.len:=s2.l f0 (by rw [hst];simp)
  have h0:cC (fK ks) 0=some (.ref k0):=by rw [hks];show cC ((ki++[k0]).reverse.map I.ref) 0=_;rw [List.reverse_append];exact cO _ _
  obtain⟨ys,hys⟩:∃ys,ys=f0.map λh=>bt Tm.i (cA h):=⟨_,rfl⟩
  have ec:=ycf (Z:=t5 kw ks v2 v3 none) hk0 lf0
  rw [<- hys] at ec
  have a3:aN (ft (cH (one (ai aJ (aa 1) (ag (.int 0)))) cL) [] c1 bT (bd (af (aa 0) ae) (aB 1 fG))) (aG 4) (t5 kw ks v2 v3 none) G2=some (.nx (t5 kw ks v2 v3 ↥ys) G2):=by
   refine bB (x:=.ow (.lst ys)) (Z1:=t5 kw ks v2 v3 none) (G1:=G2) (nB (by rfl) (hZ (e:=⇑(.ref k0)) (n:=f0.length) (Z1:=t5 kw ks v2 v3 none) (G1:=G2) (xs:=f0.map Th.i) (aw (x:=.s 1) (y:=⇑(.int 0)) rfl rfl ?_) rfl (by simp [sq,pk,hk0]) (by simp)) (by show f0.length≤100000;lia) ec) rfl
   unfold t5
   generalize fK ks=zs at h0
   simp [aJ,bS,eI,sq,pk,h0]
  have tl:ao (ai fO (bd (af (aa 1) ae) aI) (ag (.int 1))) (t5 kw ks v2 v3 ↥ys) G2=some (decide (1<ks.length),t5 kw ks v2 v3 ↥ys,G2):=by
   refine aY (aw (x:=⇑(.int ks.length)) (y:=⇑(.int 1)) (Z1:=t5 kw ks v2 v3 ↥ys) (G1:=G2) (aq (aq (a:=.s 1) rfl rfl) ?_) rfl ?_)
   ·have:=qt ks
    unfold t5
    generalize fK ks=zs at this
    simp [aI,sq,pk,this]
   ·have e:decide ((1:Int)<(ks.length:Int))=decide (1<ks.length):=decide_eq_decide.mpr (by lia)
    show some (Ev.v (.im (.bl (decide ((1:Int)<(ks.length:Int))))),_,G2)=_
    rw [e]
  have tn:ao (ai jV (ag .non) (aa 4)) (t5 kw ks v2 v3 ↥ys) G2=some (!(f0.all λh=>(cA h).isSome),t5 kw ks v2 v3 ↥ys,G2):=by
   refine aY (aw (x:=⇑.non) (y:=.s 4) rfl rfl ?_)
   show (if ys.all AB then some (Ev.v (.im (.bl (ys.any jU))),t5 kw ks v2 v3 ↥ys,G2) else none)=_
   rw [hys,y6a,y71];rfl
  by_cases h1:1<ks.length
  ·have:dH st=none:=by
    have l1:=s2.r.len
    match st,l1 with
    | [f],l1=>simp at l1;lia
    | [],_=>rfl
    | _::_::_,_=>rfl
   show ∃G',_=some (AU (dH st),G')/\_
   rw [this]
   rw [decide_eq_true h1] at tl
   exact⟨G2,aK rfl (aj a1 (aj (gx it e2) (aj a3 (a6 (aV (fH tl) rfl))))),s2.fr⟩
  ·rw [decide_eq_false h1] at tl
   have l1:=s2.r.len
   have hsi:si=[]:=by
    rw [hks,zd,List.length_singleton] at h1
    exact List.eq_nil_of_length_eq_zero (by lia)
   have hst2:st=[f0]:=by rw [hst,hsi];rfl
   show ∃G',_=some (AU (dH st),G')/\_
   rw [hst2]
   have ht:dH [f0]=if (f0.all λh=>(cA h).isSome)=true then some ys else none:=by rw [hys];rfl
   rw [ht]
   cases ha:f0.all λh=>(cA h).isSome with
   | false =>
    rw [ha] at tn
    rw [if_neg z13]
    exact⟨G2,aK rfl (aj a1 (aj (gx it e2) (aj a3 (a6 (aV (b7 tl tn) rfl))))),s2.fr⟩
   | true =>
    rw [ha] at tn
    rw [if_pos rfl]
    exact⟨G2,aK rfl (aj a1 (aj (gx it e2) (aj a3 (aj (aL (b7 tl tn) rfl) rfl)))),s2.fr⟩
def Js(W:List (List Nat)):jb W=match (c6 W [[]]).bind dH with
  | some [_]=>(match c6 W [[]] with|some [[h]]=>cA h|_=>none)
  | _=>none:=by
 unfold jb
 cases hr:c6 W [[]] with
 | none=>rfl
 | some st =>
  match st with
  | []=>rfl
  | [[]]=>rfl
  | [[h]] =>
   show cA h=match dH [[h]] with|some [_]=>cA h|_=>none
   unfold dH
   cases ha:cA h with
   | none=>simp [ha]
   | some t=>simp [ha]
  | [h::h2::f] =>
   show none=match dH [h::h2::f] with|some [_]=>none|_=>none
   split<;>rfl
  | []::g::r=>rfl
  | [h]::g::r=>rfl
  | (h::h2::f)::g::r=>rfl
def Jt{W:List (List Nat)}{G:List M}(hW:∀w∈W,w.length≤100000)(hl:W.length≤40000):∃G',nz [.ow (.lst (W.map wI))] G=some (.im (bt Tm.i (jb W)),G')/\dG G G':=by
 obtain⟨G',e,fr⟩:=Jr (G:=G++[M.lst (W.map wI)]) (kw:=G.length) hW hl (by simp)
 have a1:aN (bd (af (bf (aa 0)) ae) (aB 1 xJ)) (aG 1) [↥(W.map wI),none] G=some (.nx [↑(.ref G.length),some (AU ((c6 W [[]]).bind dH))] G'):=bB (aq (aq (a:=⇑(.ref G.length)) (Z1:=[↑(.ref G.length),none]) (G1:=G++[M.lst (W.map wI)]) rfl rfl) (bX (xs:=[.im (.ref G.length)]) rfl rfl e)) rfl
 refine⟨G',?_,((dG.refl G).app _).trans fr⟩
 rw [Js]
 cases hb:(c6 W [[]]).bind dH with
 | none =>
  rw [hb] at a1
  exact aK rfl (aj a1 (a6 (aV (Z1:=[↑(.ref G.length),↑.non]) (G1:=G') (fH (aY rfl)) rfl)))
 | some ys =>
  rw [hb] at a1
  have tn:ao (a7 (eR true) (aa 1)) [↑(.ref G.length),↥ys] G'=some (false,[↑(.ref G.length),↥ys],G'):=rfl
  have tl:ao (ai gJ (bd (af (aa 1) ae) aI) (ag (.int 1))) [↑(.ref G.length),↥ys] G'=some (!decide (ys.length=1),[↑(.ref G.length),↥ys],G'):=by
   refine aY (aw (x:=⇑(.int ys.length)) (y:=⇑(.int 1)) (Z1:=[↑(.ref G.length),↥ys]) (G1:=G') (aq (aq (a:=.s 1) rfl rfl) rfl) rfl ?_)
   by_cases h:ys.length=1
   ·rw [h];rfl
   ·have h':((ys.length:Int) == 1)=false:=beq_eq_false_iff_ne.mpr (by lia)
    rw [decide_eq_false h]
    simp [gJ,eS,dR,cb,dJ,bL,br,h']
  match ys,tl,a1,hb with
  | [],tl,a1,hb=>exact aK rfl (aj a1 (a6 (aV (b7 tn tl) rfl)))
  | _::_::_,tl,a1,hb=>exact aK rfl (aj a1 (a6 (aV (b7 tn tl) rfl)))
  | [y],tl,a1,hb =>
   have hy:y=bt Tm.i (match c6 W [[]] with|some [[h]]=>cA h|_=>none):=by
    cases hr:c6 W [[]] with
    | none=>rw [hr] at hb;cases hb
    | some st =>
     rw [hr] at hb
     have hb:dH st=some [y]:=hb
     match st,hb with
     | [],hb=>cases hb
     | f::g::r,hb=>exact absurd (show (none:Option (List I))=some [y] from hb) (by simp)
     | [f],hb =>
      have hb':(if (f.all λh=>(cA h).isSome)=true then some (f.map λh=>bt Tm.i (cA h)) else none)=some [y]:=hb
      split at hb'
      ·have hm:=z20 hb'
       match f,hm with
       | [],hm=>cases hm
       | [h],hm=>cases hm;rfl
       | _::_::_,hm=>cases hm
      ·cases hb'
   refine aK rfl (aj a1 (aj (aL (b7 tn tl) rfl) (aW (Z1:=[↑(.ref G.length),↥[y]]) (aw (x:=.s 1) (y:=⇑(.int 0)) rfl rfl ?_))))
   have:=cO y []
   rw [<- hy]
   simp [aJ,bS,eI,sq,pk,this]
end
section
variable {G:List M}
def qu{x:List Nat}{Z:De}(h:aa 0 Z G=some (⇑(.str (ah x)),Z,G))(hl:x.length≤100000):bd (af (aa 0) ae) aI Z G=some (⇑(.int x.length),Z,G):=by
 refine aq (aq h rfl) ?_
 have e:=bF x
 have h1:(ah x).length≤1000000:=by lia
 show (match (if (ah x).length≤1000000 then some (Ev.v (.im (.int (ah x).length)),Z,G) else none) with|r=>r)=_
 rw [if_pos h1,e]
def y69{x:List Nat}{z:Str}{Z:De}(h:aa 0 Z G=some (⇑(.str (ah x)),Z,G))(hl:x.length≤100000):bd (af (ft (cH (one (aa 0)) eL) [] c1 bT (ai (dq false) (aa 0) (ag (.str z)))) ae) jg Z G=some (⇑(.bl (x.all λc=>decide (c∈z.cps.toList))),Z,G):=by
 have hcm:=yce (x:=x) (te:=ai (dq false) (aa 0) (ag (.str z))) (f:=λc=>I.bl (decide (c∈z.cps.toList))) (Z:=Z) (G:=G) (λc _=>by
  refine aw rfl rfl ?_
  show some (Ev.v (.im (.bl (gk z (ah [c])))),_,G)=_
  rw [mK])
 have hn:(cM (ah x)).n=x.length:=by simp [cM,ah]
 refine aq (aq (nB (by rfl) (j6 (es:=[⇑(.str (ah x))]) (w:=cM (ah x)) (aq h rfl) rfl) (by rw [hn];lia) (by rw [hn];exact hcm)) rfl) ?_
 show jg [.v (.ow (.lst (x.map λc=>I.bl (decide (c∈z.cps.toList)))))] _ G=_
 have e2:(x.map λc=>I.bl (decide (c∈z.cps.toList)))=(x.map λc=>decide (c∈z.cps.toList)).map I.bl:=by rw [z31];rfl
 rw [e2]
 unfold jg
 dsimp only [pk]
 rw [Ft]
 dsimp only
 rw [List.all_map]
 rfl
def yT{f:Mo Ev}{Z:De}{n m:Int}(h:f Z G=some (⇑(.int n),Z,G)):ao (ai dS f (ag (.int m))) Z G=some (decide (n<m),Z,G):=aY (aw h rfl rfl)
def yU{f:Mo Ev}{Z:De}{n m:Int}(h:f Z G=some (⇑(.int n),Z,G)):ao (ai fO f (ag (.int m))) Z G=some (decide (m<n),Z,G):=aY (aw h rfl rfl)
def yV{x:List Nat}(hl:x.length≤100000):my [.im (.str (ah x))] G=some (.im (.bl (bG x)),G):=by
 obtain⟨D,hD⟩:∃D:De,D=[↑(.str (ah x)),↥(bM.map I.str)]:=⟨_,rfl⟩
 have v0:aa 0 D G=some (⇑(.str (ah x)),D,G):=by rw [hD];rfl
 have ln:=qu v0 hl
 have t1:ao (ai dS (bd (af (aa 0) ae) aI) (ag (.int 1))) D G=some (decide ((x.length:Int)<1),D,G):=yT ln
 have t2:ao (ai fO (bd (af (aa 0) ae) aI) (ag (.int 6))) D G=some (decide ((6:Int)<x.length),D,G):=yU ln
 have t3:ao (ai eT (aa 0) (aa 1)) D G=some (bM.contains (ah x),D,G):=by
  rw [hD]
  refine aY (aw (x:=⇑(.str (ah x))) (y:=.s 1) rfl rfl ?_)
  have h:(bL (.str (ah x))&&(List.map I.str bM).all bL)=true:=by rw [yd2];rfl
  unfold eT bS iu
  dsimp only
  rw [show sq [some (Vl.im (I.str (ah x))),some (Vl.ow (M.lst (bM.map I.str)))] G (.s 1)=some (bM.map I.str) from rfl]
  dsimp only
  rw [if_pos h]
  dsimp only
  rw [yz];rfl
 have s0:aN (bd (af (ag (.str "cell")) (af (ag (.str "row")) (af (ag (.str "def")) (af (ag (.str "main")) (af (ag (.str "set")) (af (ag (.str "put")) (af (ag (.str "while")) (af (ag (.str "if")) (af (ag (.str "else")) (af (ag (.str "call")) (af (ag (.str "end")) (af (ag (.str "at")) ae)))))))))))) aM) (aG 1) [↑(.str (ah x)),none] G=some (.nx D G):=by rw [hD];rfl
 unfold bG
 by_cases hc:x.length<1∨6<x.length∨bM.contains (ah x)=true
 ·rw [if_pos hc]
  refine aK rfl (aj s0 (a6 (aV (Z1:=D) (G1:=G) ?_ rfl)))
  by_cases h2:x.length<1
  ·rw [decide_eq_true (by lia)] at t1
   exact fH t1
  ·rw [decide_eq_false (by lia)] at t1
   refine b7 t1 ?_
   by_cases h3:6<x.length
   ·rw [decide_eq_true (by lia)] at t2
    exact fH t2
   ·rw [decide_eq_false (by lia)] at t2
    refine b7 t2 ?_
    rw [t3,(hc.resolve_left h2).resolve_left h3]
 ·rw [if_neg hc]
  have h2:¬ x.length<1:=λz=>hc (.inl z)
  have h3:¬ 6<x.length:=λz=>hc (.inr (.inl z))
  have h4:bM.contains (ah x)=false:=by cases e:bM.contains (ah x) with
   | false=>rfl
   | true=>exact absurd (.inr (.inr e)) hc
  rw [decide_eq_false (by lia)] at t1
  rw [decide_eq_false (by lia)] at t2
  rw [h4] at t3
  exact aK rfl (aj s0 (aj (aL (b7 t1 (b7 t2 t3)) rfl) (aW (y69 v0 hl))))
def Ju{x:List Nat}(hl:x.length≤100000):qQ [.im (.str (ah x))] G=some (.im (.bl (cP x)),G):=by
 obtain⟨D,hD⟩:∃D:De,D=[↑(.str (ah x))]:=⟨_,rfl⟩
 have v0:aa 0 D G=some (⇑(.str (ah x)),D,G):=by rw [hD];rfl
 have ln:=qu v0 hl
 have t1:ao (ai dS (bd (af (aa 0) ae) aI) (ag (.int 1))) D G=some (decide ((x.length:Int)<1),D,G):=yT ln
 have t2:ao (ai fO (bd (af (aa 0) ae) aI) (ag (.int 1))) D G=some (decide ((1:Int)<x.length),D,G):=yU ln
 have run:∀{body:SF} {z:Vl},body D G=some (.rt z G)->aU 1 0 body [.im (.str (ah x))] G=some (z,G):=λ{body z} h=>aK rfl (by rw [hD] at h;exact h)
 cases x with
 | nil =>
  refine run (a6 (aV (Z1:=D) (G1:=G) (fH t1) rfl))
 | cons c r =>
  rw [decide_eq_false (by simp only [z15];lia)] at t1
  have hl':(ah (c::r)).length≤1000000:=by rw [bF];lia
  have ix:ai aJ (aa 0) (ag (.int 0)) D G=some (⇑(.str (ah [c])),D,G):=by
   refine aw v0 (y:=⇑(.int 0)) rfl ?_
   have hc:cC (ah (c::r)).cps.toList 0=some c:=cO c r
   rw [show ah [c]=(⟨#[c]⟩:Str) from rfl]
   simp [aJ,bS,eI,sq,pk,hc,hl']
  have t0:ao (ai a9 (ai aJ (aa 0) (ag (.int 0))) (ag (.str "0"))) D G=some (decide (c=48),D,G):=by
   refine aY (aw ix (y:=⇑(.str "0")) rfl ?_)
   have:(ah [c] == ah [48])=decide (c=48):=by rw [dF];by_cases h:c=48<;>simp [h]
   rw [mM]
   simp only [a9,eS,dR,cb,dJ,bL,br,this];rfl
  have al:=y69 (z:="0123456789") v0 hl
  have ea:((c::r).all λc=>decide (c∈("0123456789" : Str).cps.toList))=(c::r).all il:=by congr 1;funext d;exact yN d
  rw [ea] at al
  have hb:cP (c::r)=((c != 48||r.isEmpty)&&(c::r).all il):=rfl
  rw [hb]
  by_cases h0:c=48
  ·rw [decide_eq_true h0] at t0
   cases r with
   | nil =>
    have tt:ao (ai fO (bd (af (aa 0) ae) aI) (ag (.int 1))) D G=some (false,D,G):=t2
    rw [show ((c != 48||([]:List Nat).isEmpty) && [c].all il)=[c].all il by simp]
    exact run (aj (aL (b7 t1 (kB t0 tt)) rfl) (aW al))
   | cons a r' =>
    have tt:ao (ai fO (bd (af (aa 0) ae) aI) (ag (.int 1))) D G=some (true,D,G):=by rw [t2,decide_eq_true (by simp;lia)]
    rw [show ((c != 48||(a::r').isEmpty)&&(c::a::r').all il)=false by subst h0;rfl]
    exact run (a6 (aV (b7 t1 (kB t0 tt)) rfl))
  ·rw [decide_eq_false h0] at t0
   have hne:(c != 48)=true:=bne_iff_ne.mpr h0
   rw [hne,Bool.true_or,Bool.true_and]
   exact run (aj (aL (b7 t1 (pY t0)) rfl) (aW al))
def Jv{w:Nat}(h:(dg w).length<11):w<10 ^ 10:=by
 rcases Nat.lt_or_ge w (10 ^ 10) with h1|h1
 ·exact h1
 ·exfalso
  have key:∀(k n:Nat),10 ^ k≤n->k<(dg n).length:=by
   intro k
   induction k with
   | zero=>intro n _;have:=i5 n;exact List.length_pos_iff.mpr this
   | succ k ih =>
    intro n hn
    have h10:10≤n:=z1a (by rw [Nat.pow_succ];have:=Nat.one_le_pow k 10 (by decide);lia) hn
    rw [mF h10,zd,List.length_singleton]
    have:=ih (n / 10) (by rw [Nat.pow_succ] at hn;lia)
    lia
  have:=key 10 w h1
  lia
def Jw{x:List Nat}(hl:x.length≤100000):qR [.im (.str (ah x))] G=some (.im (.bl (gz x).isSome),G):=by
 have e1:=Ju (G:=G) hl
 have ln:=qu (G:=G) (Z:=[↑(.str (ah x))]) rfl hl
 have c1:bd (af (aa 0) ae) (aB 1 qQ) [↑(.str (ah x))] G=some (⇑(.bl (cP x)),[↑(.str (ah x))],G):=aq (aq rfl rfl) (bX (xs:=[.im (.str (ah x))]) rfl rfl e1)
 have c2:ai dS (bd (af (aa 0) ae) aI) (ag (.int 11)) [↑(.str (ah x))] G=some (⇑(.bl (decide ((x.length:Int)<11))),[↑(.str (ah x))],G):=aw ln rfl rfl
 refine aK rfl (aW (Z1:=[↑(.str (ah x))]) ?_)
 unfold gz
 cases hb:cP x with
 | false =>
  rw [hb] at c1
  rw [if_neg (by simp)]
  unfold fB
  exact aq c1 rfl
 | true =>
  rw [hb] at c1
  have hx:=yE _ x rfl hb
  have step:∀{fb:Mo Ev} {z:Option (Ev×De×List M)},fb [↑(.str (ah x))] G=z->fB (bd (af (aa 0) ae) (aB 1 qQ)) fb [↑(.str (ah x))] G=z:=λ{fb z} h=>by
   unfold fB
   exact aq c1 h
  refine step ?_
  by_cases h11:x.length<11
  ·rw [decide_eq_true (by lia)] at c2
   have ht:vl 0 x<10 ^ 10:=Jv (by rw [hx];exact h11)
   have hi:intText? (ah x)=some ((vl 0 x:Nat):Int):=by
    have:=W.KIN.num_reads (n:=((vl 0 x:Nat):Int)) (by lia) (by lia)
    have e2:=xX (vl 0 x)
    rw [hx] at e2
    rw [<- e2]
    exact this
   have c3:ai dS (bd (af (aa 0) ae) gn) (ag (.int 4294967296)) [↑(.str (ah x))] G=some (⇑(.bl (decide (((vl 0 x:Nat):Int)<4294967296))),[↑(.str (ah x))],G):=by
    refine aw (x:=⇑(.int ((vl 0 x:Nat):Int))) (aq (aq rfl rfl) ?_) rfl rfl
    show gn [⇑(.str (ah x))] _ G=_
    unfold gn
    dsimp only
    rw [hi]
    dsimp only
    rw [if_pos (by rw [bF];lia)]
   unfold fB
   refine aq c2 ?_
   show ai dS (bd (af (aa 0) ae) gn) (ag (.int 4294967296)) _ G=_
   rw [c3]
   by_cases hv:vl 0 x<4294967296
   ·rw [if_pos ⟨rfl,hv⟩,decide_eq_true (by lia)];rfl
   ·rw [if_neg (λz=>hv z.2),decide_eq_false (by lia)];rfl
  ·rw [decide_eq_false (by lia)] at c2
   have hv:¬ vl 0 x<4294967296:=λhv=>h11 (by
    have:=Ia (vl 0 x) 9 (z35 hv (by decide))
    rw [hx] at this;lia)
   rw [if_neg (λz=>hv z.2)]
   unfold fB
   exact aq c2 rfl
end
section
abbrev gw(W:List (List Nat))(a:Nat):List Nat:=(W[a]?).getD []
abbrev gN(W:List (List Nat))(b:Nat):Option Nat:=if gw W b=[41] then some (b+1) else none
abbrev bh(W:List (List Nat)):Nat->Nat->Option Nat
  | 0,_=>none
  | n+1,a=>if gw W a=[40] then
      (if (dv (.wd (gw W (a+1)))&&bG (gw W (a+2)))=true then (bh W n (a+3)).bind (gN W)
       else if (cD (.wd (gw W (a+1)))).isSome=true then (bh W n (a+2)).bind λb=>(bh W n b).bind (gN W) else none)
    else if (bG (gw W a)||(gz (gw W a)).isSome)=true then some (a+1) else none
def fL{W:List (List Nat)}{a:Nat}{x:List Nat}{r:List (List Nat)}(h:W.drop a=x::r):gw W a=x/\W.drop (a+1)=r/\a<W.length:=by
 have hl:a<W.length:=by
  rcases Nat.lt_or_ge a W.length with h1|h1
  ·exact h1
  ·rw [List.drop_eq_nil_of_le h1] at h;cases h
 rw [List.drop_eq_getElem_cons hl] at h
 injection h with h1 h2
 refine⟨?_,h2,hl⟩
 unfold gw
 rw [z16 hl,h1];rfl
def gD{W:List (List Nat)}{a:Nat}{x:List Nat}(h:gw W a=x)(hx:x≠[]):W.drop a=x::W.drop (a+1)/\a<W.length:=by
 have hl:a<W.length:=by
  rcases Nat.lt_or_ge a W.length with h1|h1
  ·exact h1
  ·unfold gw at h;rw [List.getElem?_eq_none h1] at h;exact absurd h.symm hx
 refine⟨?_,hl⟩
 rw [List.drop_eq_getElem_cons hl]
 unfold gw at h
 rw [z16 hl] at h
 rw [<- h];rfl
def yW{x:List Nat}(h:bG x=true):x≠[]:=λz=>by rw [z] at h;cases h
def y8b{W:List (List Nat)}:∀(n a b:Nat),bh W n a=some b->a<b/\b≤W.length/\∃t:Tm,t.ok/\W.drop a=t.tk++W.drop b:=by
 have cl:∀{c b:Nat},gN W c=some b->W.drop c=[41]::W.drop b/\b=c+1/\c<W.length:=λ{c b} h=>by
  unfold gN at h
  split at h
  ·rename_i hg
   cases h
   obtain⟨h1,h2⟩:=gD hg (by simp)
   exact⟨h1,rfl,h2⟩
  ·cases h
 intro n
 induction n with
 | zero=>intro a b h;cases h
 | succ n ih =>
  intro a b h
  rw [bh] at h
  split at h
  ·rename_i h0
   obtain⟨d0,l0⟩:=gD h0 (by simp)
   split at h
   ·rename_i hc
    rw [z1b] at hc
    have h1:gw W (a+1)=[97,116]:=eq_of_beq hc.1
    obtain⟨d1,l1⟩:=gD h1 (by simp)
    obtain⟨d2,l2⟩:=gD (x:=gw W (a+2)) rfl (yW hc.2)
    cases hb:bh W n (a+3) with
    | none=>rw [hb] at h;cases h
    | some c =>
     rw [hb] at h
     obtain⟨c1,c2,c3⟩:=cl (show gN W c=some b from h)
     obtain⟨i1,i2,t,ht,e⟩:=ih _ _ hb
     refine⟨by lia,by lia,.at_ (gw W (a+2)) t,⟨mO hc.2,ht⟩,?_⟩
     rw [d0,d1,d2,Tm.tk,e,c1];simp
   ·split at h
    ·rename_i hs
     obtain⟨s,hs⟩:=Option.isSome_iff_exists.mp hs
     have h1:gw W (a+1)=[s]/\i6 s:=by
      unfold cD at hs
      split at hs
      ·rename_i s' hx
       split at hs
       ·rename_i hz
        cases hs
        injection hx with hx
        exact⟨hx,(mP _).mp hz⟩
       ·cases hs
      ·cases hs
     obtain⟨d1,l1⟩:=gD h1.1 (by simp)
     cases hb:bh W n (a+2) with
     | none=>rw [hb] at h;cases h
     | some c =>
      rw [hb] at h
      have h:(bh W n c).bind (gN W)=some b:=h
      cases hb2:bh W n c with
      | none=>rw [hb2] at h;cases h
      | some e =>
       rw [hb2] at h
       obtain⟨c1,c2,c3⟩:=cl (show gN W e=some b from h)
       obtain⟨i1,i2,t,ht,e1⟩:=ih _ _ hb
       obtain⟨j1,j2,u,hu,e2⟩:=ih _ _ hb2
       refine⟨by lia,by lia,.op s t u,⟨h1.2,ht,hu⟩,?_⟩
       rw [d0,d1,Tm.tk,e1,e2,c1];simp
    ·cases h
  ·split at h
   ·rename_i hw
    cases h
    rw [Bool.or_eq_true] at hw
    rcases hw with hw|hw
    ·obtain⟨d0,l0⟩:=gD (x:=gw W a) rfl (yW hw)
     exact⟨by lia,by lia,.cell (gw W a),mO hw,by rw [d0];rfl⟩
    ·obtain⟨w,hw⟩:=Option.isSome_iff_exists.mp hw
     obtain⟨e,hlt⟩:=yG hw
     obtain⟨d0,l0⟩:=gD e (i5 w)
     exact⟨by lia,by lia,.num w,hlt,by rw [d0];rfl⟩
   ·cases h
abbrev nO(V:List (List Nat)):Nat:=V.count [40]
def eN(a b:List (List Nat)):nO (a++b)=nO a+nO b:=z17
def gE(x:List Nat)(b:List (List Nat)):nO (x::b)=nO b+if x=[40] then 1 else 0:=by
 unfold nO;rw [List.count_cons];by_cases h:x=[40]<;>simp [h]
def yX{W:List (List Nat)}:∀(n a:Nat) {t:Tm} {R:List (List Nat)},t.ok->W.drop a=t.tk++R->nO t.tk<n->bh W n a=some (a+t.tk.length)/\W.drop (a+t.tk.length)=R:=by
 intro n
 induction n with
 | zero=>intro a t R _ _ h;lia
 | succ n ih =>
  intro a t R ht e hn
  have hdrop:W.drop (a+t.tk.length)=R:=by rw [<- List.drop_drop,e,List.drop_left]
  refine⟨?_,hdrop⟩
  cases t with
  | num w =>
   obtain⟨g0,d0,_⟩:=fL (show W.drop a=dg w::R from e)
   rw [bh,g0,if_neg (qm w).1,yF ht,if_pos (by simp)];rfl
  | cell x =>
   obtain⟨g0,d0,_⟩:=fL (show W.drop a=x::R from e)
   rw [bh,g0,if_neg (Nm.ne ht).1,Nm.is ht,if_pos (by simp)];rfl
  | at_ x t =>
   have e':W.drop a=[40]::[97,116]::x::(t.tk++([41]::R)):=by rw [e,Tm.tk];simp
   obtain⟨g0,d0,_⟩:=fL e'
   obtain⟨g1,d1,_⟩:=fL d0
   obtain⟨g2,d2,_⟩:=fL d1
   have hn':nO t.tk<n:=by
    rw [Tm.tk,eN,eN] at hn
    have h1:nO ([[40],[97,116],x]:List (List Nat)) ≥ 1:=by rw [gE,if_pos rfl];lia
    lia
   obtain⟨i1,i2⟩:=ih (a+3) ht.2 d2 hn'
   obtain⟨g3,_,_⟩:=fL i2
   rw [bh,g0,if_pos rfl,g1,g2,Nm.is ht.1]
   rw [show (dv (.wd [97,116])&&true)=true from rfl,if_pos rfl,i1]
   show gN W _=_
   unfold gN
   rw [g3,if_pos rfl,Tm.tk]
   simp;lia
  | op s p q =>
   have e':W.drop a=[40]::[s]::(p.tk++(q.tk++([41]::R))):=by rw [e,Tm.tk];simp
   obtain⟨g0,d0,_⟩:=fL e'
   obtain⟨g1,d1,_⟩:=fL d0
   have hn':nO p.tk<n/\nO q.tk<n:=by
    rw [Tm.tk,eN,eN,eN] at hn
    have h1:nO ([[40],[s]]:List (List Nat)) ≥ 1:=by rw [gE,if_pos rfl];lia
    lia
   obtain⟨i1,i2⟩:=ih (a+2) ht.2.1 d1 hn'.1
   obtain⟨j1,j2⟩:=ih _ ht.2.2 i2 hn'.2
   obtain⟨g3,_,_⟩:=fL j2
   have hs:cD (.wd [s])=some s:=by show (if qV s=true then _ else _)=_;rw [if_pos ((mP s).mpr ht.1)]
   have hA:dv (.wd [s])=false:=yK
   rw [bh,g0,if_pos rfl,g1,hA,Bool.false_and,if_neg (by decide),hs,if_pos (show (some s).isSome=true from rfl),i1]
   show (bh W n _).bind (gN W)=_
   rw [j1]
   show gN W _=_
   unfold gN
   rw [g3,if_pos rfl,Tm.tk]
   simp;lia
variable {G:List M}
def Jx{W:List (List Nat)}{kw a:Nat}(hk:G[kw]?=some (.lst (W.map wI)))(hl:W.length≤100000):gL [.im (.ref kw),.im (.int a)] G=some (.im (.str (ah (gw W a))),G):=by
 have s1:az (aa 0) (av (aa 1)) (av (ai aD (aa 1) (ag (.int 1)))) [↑(.ref kw),↑(.int a)] G=some (.v (.ow (.lst (eU (W.map wI) (some (a:Int)) (some ((a:Int)+1))))),[↑(.ref kw),↑(.int a)],G):=by
  refine aq (m:=aa 0) (a:=⇑(.ref kw)) rfl (aq (m:=av (aa 1)) (a:=[⇑(.int a)]) rfl (aq (m:=av (ai aD (aa 1) (ag (.int 1)))) (a:=[⇑(.int ((a:Int)+1))]) rfl ?_))
  show cq (some (a:Int)) (some ((a:Int)+1)) [⇑(.ref kw),⇑(.int a),⇑(.int ((a:Int)+1))] _ G=_
  have:sq [↑(.ref kw),↑(.int a)] G ⇑(.ref kw)=some (W.map wI):=by simp [sq,pk,hk]
  unfold cq
  dsimp only
  rw [if_pos (show eK ⇑(.ref kw)=true from rfl),this]
 have ec:eU (W.map wI) (some (a:Int)) (some ((a:Int)+1))=((W.drop a).take 1).map wI:=by
  unfold eU
  rw [show ((a:Int)+1)=((a+1:Nat):Int) by lia,HT.y3e3,HT.y3e3,List.map_take,List.map_drop,z12]
  by_cases h:a+1≤W.length
  ·rw [Nat.min_eq_left h,Nat.min_eq_left (by lia)]
   congr 1;lia
  ·rw [Nat.min_eq_right (by lia:W.length≤a+1),Nat.min_eq_right (by lia:W.length≤a),Nat.sub_self,List.take_zero,List.drop_eq_nil_of_le (by rw [z12];lia)];rfl
 rw [ec] at s1
 obtain⟨ys,hys⟩:∃ys,ys=((W.drop a).take 1).map wI:=⟨_,rfl⟩
 have ly:ys.length≤1:=by rw [hys,z12,z2b];lia
 have h0:cC (ys++[.str ""]) 0=some (.str (ah (gw W a))):=by
  rw [hys]
  rcases Nat.lt_or_ge a W.length with h|h
  ·have hd:=List.drop_eq_getElem_cons h
   rw [hd]
   have:gw W a=W[a]:=by unfold gw;rw [z16 h];rfl
   rw [this]
   exact cO _ _
  ·rw [List.drop_eq_nil_of_le h]
   have:gw W a=[]:=by unfold gw;rw [List.getElem?_eq_none h];rfl
   rw [this,<- mL]
   exact cO _ _
 rw [<- hys] at s1
 refine aK rfl (aW (Z1:=[↑(.ref kw),↑(.int a)]) (aw (x:=.v (.ow (.lst (ys++[.str ""])))) (y:=⇑(.int 0)) (Z1:=[↑(.ref kw),↑(.int a)]) (G1:=G) (aw s1 (y:=.v (.ow (.lst [.str ""]))) rfl ?_) rfl ?_))
 ·have h1:ys.length+1≤1000000:=by lia
  simp [aD,bS,kq,bE,jf,oS,lU,pk,h1]
 ·simp [aJ,bS,eI,sq,pk,h0]
end
section
variable {G:List M}
abbrev eB:Option Nat->Int
 | none=>-1
 | some j=>j
abbrev bD(kw:Nat)(a:Int)(v2 v3:Option Vl):De:=[↑(.ref kw),↑(.int a),v2,v3]
def qv{a:Int}(b:Bool){Z:De}:aJ [.v (.ow (.lst [.int (-1),.int a])),⇑(.int (if b then 1 else 0))] Z G=some (⇑(.int (if b then a else -1)),Z,G):=by
 cases b with
 | true=>have:=iz (I.int (-1)) (.int a) [];simp [aJ,bS,eI,sq,pk,this]
 | false=>have:=cO (I.int (-1)) [.int a];simp [aJ,bS,eI,sq,pk,this]
def qw{W:List (List Nat)}(hW:∀w∈W,w.length≤100000)(a:Nat):(gw W a).length≤100000:=by
 unfold gw
 rcases Nat.lt_or_ge a W.length with h|h
 ·rw [z16 h];exact hW _ (z30 h)
 ·rw [List.getElem?_eq_none h];simp
def qx{W:List (List Nat)}{a b:Nat}(h:a≤b):nO (W.drop b)≤nO (W.drop a):=by
 have:W.drop b=(W.drop a).drop (b-a):=by rw [List.drop_drop];congr 1;lia
 rw [this]
 exact (List.drop_sublist _ _).count_le _
def y89{W:List (List Nat)}{kw:Nat}(hk:G[kw]?=some (.lst (W.map wI)))(hW:∀w∈W,w.length≤100000)(hl:W.length≤100000):∀(n a:Nat),nO (W.drop a)<n->gM n [.im (.ref kw),.im (.int a)] G=some (.im (.int (eB (bh W n a))),G):=by
 intro n
 induction n with
 | zero=>intro a h;lia
 | succ n ih =>
  intro a hn
  have seen:∀{f:Mo Ev} {Z:De} {c:Nat},aa 0 Z G=some (⇑(.ref kw),Z,G)->f Z G=some (⇑(.int c),Z,G)->bd (af (bf (aa 0)) (af f ae)) (aB 2 gL) Z G=some (⇑(.str (ah (gw W c))),Z,G):=λ{f Z c} h0 hf =>
   aq (aq (aq h0 rfl) (aq (aq hf rfl) rfl)) (bX (xs:=[.im (.ref kw),.im (.int c)]) rfl rfl (Jx hk hl))
  have rcc:∀{f:Mo Ev} {Z:De} {c:Nat},aa 0 Z G=some (⇑(.ref kw),Z,G)->f Z G=some (⇑(.int c),Z,G)->nO (W.drop c)<n->bd (af (bf (aa 0)) (af f ae)) (aB 2 (gM n)) Z G=some (⇑(.int (eB (bh W n c))),Z,G):=λ{f Z c} h0 hf hc =>
   aq (aq (aq h0 rfl) (aq (aq hf rfl) rfl)) (bX (xs:=[.im (.ref kw),.im (.int c)]) rfl rfl (ih c hc))
  rw [gM]
  have s1:aN (bd (af (bf (aa 0)) (af (aa 1) ae)) (aB 2 gL)) (aG 2) (bD kw a none none) G=some (.nx (bD kw a ↑(.str (ah (gw W a))) none) G):=bB (seen rfl rfl) rfl
  have t2:ao (ai gJ (aa 2) (ag (.str "("))) (bD kw a ↑(.str (ah (gw W a))) none) G=some (!decide (gw W a=[40]),bD kw a ↑(.str (ah (gw W a))) none,G):=by
   refine aY (aw (x:=⇑(.str (ah (gw W a)))) (y:=⇑(.str "(")) rfl rfl ?_)
   have:=dF (gw W a) [40]
   rw [i8]
   simp only [gJ,eS,dR,cb,dJ,bL,br,this];rfl
  rw [bh]
  by_cases h0:gw W a=[40]
  ·rw [if_pos h0]
   rw [decide_eq_true h0] at t2
   obtain⟨d0,l0⟩:=gD h0 (by simp)
   have hc1:nO (W.drop (a+1))<n:=by rw [d0,gE,if_pos rfl] at hn;lia
   have hc2:nO (W.drop (a+2))<n:=Nat.lt_of_le_of_lt (qx (by lia)) hc1
   have hc3:nO (W.drop (a+3))<n:=Nat.lt_of_le_of_lt (qx (by lia)) hc1
   obtain⟨w0,hw0⟩:∃w0:Option Vl,w0=↑(.str (ah (gw W a))):=⟨_,rfl⟩
   rw [<- hw0] at s1 t2
   have add:∀{v3:Option Vl} (k:Nat),ai aD (aa 1) (ag (.int k)) (bD kw a w0 v3) G=some (⇑(.int ((a+k:Nat):Int)),bD kw a w0 v3,G):=λ{v3} k=>aw (x:=⇑(.int a)) (y:=⇑(.int k)) rfl rfl rfl
   have s3:aN (bd (af (bf (aa 0)) (af (ai aD (aa 1) (ag (.int 1))) ae)) (aB 2 gL)) (aG 3) (bD kw a w0 none) G=some (.nx (bD kw a w0 ↑(.str (ah (gw W (a+1))))) G):=bB (seen rfl (add 1)) rfl
   obtain⟨B,hB⟩:∃B,B=bD kw a w0 ↑(.str (ah (gw W (a+1)))):=⟨_,rfl⟩
   rw [<- hB] at s3
   have b0:aa 0 B G=some (⇑(.ref kw),B,G):=by rw [hB];rfl
   have b3:aa 3 B G=some (⇑(.str (ah (gw W (a+1)))),B,G):=by rw [hB];rfl
   have addB:∀(k:Nat),ai aD (aa 1) (ag (.int k)) B G=some (⇑(.int ((a+k:Nat):Int)),B,G):=λk=>by rw [hB];exact add k
   have tA:ao (ai a9 (aa 3) (ag (.str "at"))) B G=some (dv (.wd (gw W (a+1))),B,G):=aY (aw b3 rfl (yP (.wd (gw W (a+1)))))
   have tN:bd (bd (af (bd (af (bf (aa 0)) (af (ai aD (aa 1) (ag (.int 2))) ae)) (aB 2 gL)) ae) (aB 1 my)) cI B G=some (bG (gw W (a+2)),B,G):=aq (aq (aq (seen b0 (addB 2)) rfl) (bX (xs:=[.im (.str (ah (gw W (a+2))))]) rfl rfl (yV (qw hW _)))) rfl
   have tS:ao (ai eT (aa 3) (bd (af (ag (.str "+")) (af (ag (.str "-")) (af (ag (.str "*")) (af (ag (.str "<")) (af (ag (.str "=")) ae))))) b9)) B G=some ((cD (.wd (gw W (a+1)))).isSome,B,G):=by
    refine aY (aw b3 (y:=⇑(.tup (List.map I.str ["+","-","*","<","="]))) rfl ?_)
    have hfl:(bL (.str (ah (gw W (a+1))))&&(List.map I.str [("+" : Str),"-","*","<","="]).all bL)=true:=rfl
    unfold eT bS iu
    dsimp only [sq]
    rw [if_pos hfl]
    dsimp only
    rw [yQ];rfl
   have last:∀(j:Option Nat),ax (ai aJ (bd (af (a7 cY (ag (.int 1))) (af (ai aD (aa 1) (ag (.int 1))) ae)) aM) (bd (af (fB (ai gI (aa 1) (ag (.int 0))) (ai a9 (bd (af (bf (aa 0)) (af (bd (af (aa 1) (af (ag (.int 0)) ae)) dU) ae)) (aB 2 gL)) (ag (.str ")")))) ae) dD)) (bD kw (eB j) w0 ↑(.str (ah (gw W (a+1))))) G=some (.rt (.im (.int (eB (j.bind (gN W))))) G):=λj=>by
    obtain⟨L,hL⟩:∃L,L=bD kw (eB j) w0 ↑(.str (ah (gw W (a+1)))):=⟨_,rfl⟩
    rw [<- hL]
    have l0:aa 0 L G=some (⇑(.ref kw),L,G):=by rw [hL];rfl
    have l1:aa 1 L G=some (⇑(.int (eB j)),L,G):=by rw [hL];rfl
    have lg:ai gI (aa 1) (ag (.int 0)) L G=some (⇑(.bl (decide ((0:Int)≤eB j))),L,G):=aw l1 rfl rfl
    have ls:bd (af (a7 cY (ag (.int 1))) (af (ai aD (aa 1) (ag (.int 1))) ae)) aM L G=some (.v (.ow (.lst [.int (-1),.int (eB j+1)])),L,G):=aq (aq (a:=⇑(.int (-1))) rfl (aq (aq (aw l1 (y:=⇑(.int 1)) rfl rfl) rfl) rfl)) rfl
    cases j with
    | none =>
     have lt:fB (ai gI (aa 1) (ag (.int 0))) (ai a9 (bd (af (bf (aa 0)) (af (bd (af (aa 1) (af (ag (.int 0)) ae)) dU) ae)) (aB 2 gL)) (ag (.str ")"))) L G=some (⇑(.bl false),L,G):=by unfold fB;exact aq lg rfl
     exact aW (Z1:=L) (aw ls (y:=⇑(.int 0)) (aq (aq lt rfl) rfl) (qv false))
    | some c =>
     have mx:bd (af (aa 1) (af (ag (.int 0)) ae)) dU L G=some (⇑(.int c),L,G):=by
      refine aq (aq l1 (aq (a:=[⇑(.int 0)]) rfl rfl)) ?_
      show some (Ev.v (.im (.int (if (0:Int)>(c:Int) then 0 else (c:Int)))),L,G)=_
      rw [if_neg (by lia)]
     have le:ai a9 (bd (af (bf (aa 0)) (af (bd (af (aa 1) (af (ag (.int 0)) ae)) dU) ae)) (aB 2 gL)) (ag (.str ")")) L G=some (⇑(.bl (decide (gw W c=[41]))),L,G):=by
      refine aw (seen l0 mx) (y:=⇑(.str ")")) rfl ?_
      have:=dF (gw W c) [41]
      rw [ig]
      simp only [a9,eS,dR,cb,dJ,bL,br,this];rfl
     have lt:fB (ai gI (aa 1) (ag (.int 0))) (ai a9 (bd (af (bf (aa 0)) (af (bd (af (aa 1) (af (ag (.int 0)) ae)) dU) ae)) (aB 2 gL)) (ag (.str ")"))) L G=some (⇑(.bl (decide (gw W c=[41]))),L,G):=by
      unfold fB
      refine aq lg ?_
      have:decide ((0:Int)≤eB (some c))=true:=decide_eq_true (by show (0:Int)≤(c:Int);lia)
      rw [this]
      exact le
     have hp:=qv (G:=G) (a:=(c:Int)+1) (decide (gw W c=[41])) (Z:=L)
     have hr:(if decide (gw W c=[41])=true then (c:Int)+1 else -1)=eB ((some c).bind (gN W)):=by
      show _=eB (gN W c)
      unfold gN
      by_cases h:gw W c=[41]
      ·rw [if_pos h,decide_eq_true h];rfl
      ·rw [if_neg h,decide_eq_false h];rfl
     rw [hr] at hp
     exact aW (Z1:=L) (aw ls (aq (aq lt rfl) rfl) hp)
   have setB:∀(j:Option Nat),aG 1 (.im (.int (eB j))) B G=some (bD kw (eB j) w0 ↑(.str (ah (gw W (a+1)))),G):=λj=>by rw [hB];rfl
   cases hA:dv (.wd (gw W (a+1)))&&bG (gw W (a+2)) with
   | true =>
    rw [if_pos rfl]
    rw [z1b] at hA
    rw [hA.1] at tA
    rw [hA.2] at tN
    exact aK rfl (aj s1 (aj (aL t2 rfl) (aj s3 (aj (aV (kB tA tN) (bB (rcc b0 (addB 3) hc3) (setB _))) (last _)))))
   | false =>
    rw [if_neg (by decide)]
    have tt:eQ (ao (ai a9 (aa 3) (ag (.str "at")))) (bd (bd (af (bd (af (bf (aa 0)) (af (ai aD (aa 1) (ag (.int 2))) ae)) (aB 2 gL)) ae) (aB 1 my)) cI) B G=some (false,B,G):=by
     cases h1:dv (.wd (gw W (a+1))) with
     | false=>rw [h1] at tA;exact pY tA
     | true =>
      rw [h1] at tA hA
      rw [Bool.true_and] at hA
      rw [hA] at tN
      exact kB tA tN
    cases hS:(cD (.wd (gw W (a+1)))).isSome with
    | false =>
     rw [hS] at tS
     rw [if_neg (by decide)]
     exact aK rfl (aj s1 (aj (aL t2 rfl) (aj s3 (a6 (aL tt (aL tS rfl))))))
    | true =>
     rw [hS] at tS
     rw [if_pos rfl]
     have g1:aN (bd (af (bf (aa 0)) (af (ai aD (aa 1) (ag (.int 2))) ae)) (aB 2 (gM n))) (aG 1) B G=some (.nx (bD kw (eB (bh W n (a+2))) w0 ↑(.str (ah (gw W (a+1))))) G):=bB (rcc b0 (addB 2) hc2) (setB _)
     cases hb:bh W n (a+2) with
     | none =>
      rw [hb] at g1
      exact aK rfl (aj s1 (aj (aL t2 rfl) (aj s3 (aj (aL tt (aV tS (aj g1 (aL (Z1:=bD kw (eB none) w0 ↑(.str (ah (gw W (a+1))))) (G1:=G) rfl rfl)))) (last none)))))
     | some c =>
      rw [hb] at g1
      have hac:=(y8b n _ _ hb).1
      have hcc:nO (W.drop c)<n:=Nat.lt_of_le_of_lt (qx (by lia)) hc2
      have tg:ao (ai gI (aa 1) (ag (.int 0))) (bD kw (eB (some c)) w0 ↑(.str (ah (gw W (a+1))))) G=some (true,bD kw (eB (some c)) w0 ↑(.str (ah (gw W (a+1)))),G):=by
       refine aY (aw (x:=⇑(.int c)) (y:=⇑(.int 0)) rfl rfl ?_)
       have:decide ((0:Int)≤(c:Int))=true:=decide_eq_true (by lia)
       show some (Ev.v (.im (.bl (decide ((0:Int)≤(c:Int))))),_,G)=_
       rw [this]
      have g2:aN (bd (af (bf (aa 0)) (af (aa 1) ae)) (aB 2 (gM n))) (aG 1) (bD kw (eB (some c)) w0 ↑(.str (ah (gw W (a+1))))) G=some (.nx (bD kw (eB (bh W n c)) w0 ↑(.str (ah (gw W (a+1))))) G):=bB (rcc (c:=c) rfl rfl hcc) rfl
      exact aK rfl (aj s1 (aj (aL t2 rfl) (aj s3 (aj (aL tt (aV tS (aj g1 (aV tg g2)))) (last (bh W n c))))))
  ·rw [if_neg h0]
   rw [decide_eq_false h0] at t2
   obtain⟨B,hB⟩:∃B,B=bD kw a ↑(.str (ah (gw W a))) none:=⟨_,rfl⟩
   rw [<- hB] at t2 s1
   have b2:aa 2 B G=some (⇑(.str (ah (gw W a))),B,G):=by rw [hB];rfl
   have b1:aa 1 B G=some (⇑(.int a),B,G):=by rw [hB];rfl
   have cn:bd (af (aa 2) ae) (aB 1 my) B G=some (⇑(.bl (bG (gw W a))),B,G):=aq (aq b2 rfl) (bX (xs:=[.im (.str (ah (gw W a)))]) rfl rfl (yV (qw hW _)))
   have cw:bd (af (aa 2) ae) (aB 1 qR) B G=some (⇑(.bl (gz (gw W a)).isSome),B,G):=aq (aq b2 rfl) (bX (xs:=[.im (.str (ah (gw W a)))]) rfl rfl (Jw (qw hW _)))
   have co:vO (bd (af (aa 2) ae) (aB 1 my)) (bd (af (aa 2) ae) (aB 1 qR)) B G=some (⇑(.bl (bG (gw W a)||(gz (gw W a)).isSome)),B,G):=by
    unfold vO
    refine aq cn ?_
    cases h:bG (gw W a) with
    | true=>rfl
    | false=>rw [Bool.false_or];exact cw
   have ls:bd (af (a7 cY (ag (.int 1))) (af (ai aD (aa 1) (ag (.int 1))) ae)) aM B G=some (.v (.ow (.lst [.int (-1),.int ((a:Int)+1)])),B,G):=aq (aq (a:=⇑(.int (-1))) rfl (aq (aq (aw b1 (y:=⇑(.int 1)) rfl rfl) rfl) rfl)) rfl
   have hp:=qv (G:=G) (a:=(a:Int)+1) (bG (gw W a)||(gz (gw W a)).isSome) (Z:=B)
   have hr:(if (bG (gw W a)||(gz (gw W a)).isSome)=true then (a:Int)+1 else -1)=eB (if (bG (gw W a)||(gz (gw W a)).isSome)=true then some (a+1) else none):=by
    split<;>rfl
   rw [hr] at hp
   exact aK rfl (aj s1 (a6 (aV t2 (aW (Z1:=B) (aw ls (aq (aq co rfl) rfl) hp)))))
end
section
variable {G:List M}
theorem mR(c:Nat):∀ps:List (List Nat),jz [c] ps=jn c ps
 | []=>rfl
 | [p]=>rfl
 | p::q::r=>by rw [qe [c] p (by simp),gy c p (by simp),mR c (q::r)];simp
def qy(c:Nat)(l:List Nat):jn c (b5 c l)=l:=by
 rw [<- mR,qf]
 induction l with
 | nil=>rfl
 | cons d l ih=>rw [List.flatMap_cons,ih];by_cases h:d=c<;>simp [h]
def Jy:∀{x y:List Nat},x.flatMap gg=y.flatMap gg->x=y:=by
 have hd:∀d:Nat,∃r,gg d=(if d=41 then 32 else d)::r/\((d=40/\r=[32])∨(d=41/\r=[41])∨(d≠40/\d≠41/\r=[])):=λd=>by
  unfold gg
  by_cases h:d=40
  ·subst h;exact⟨_,rfl,.inl ⟨rfl,rfl⟩⟩
  ·by_cases h':d=41
   ·subst h';exact⟨_,rfl,.inr (.inl ⟨rfl,rfl⟩)⟩
   ·rw [if_neg h,if_neg h',if_neg h'];exact⟨_,rfl,.inr (.inr ⟨h,h',rfl⟩)⟩
 have h41:∀(y r:List Nat),y.flatMap gg≠41::r:=λy r e=>by
  cases y with
  | nil=>cases e
  | cons d y =>
   obtain⟨q,e1,h1⟩:=hd d
   rw [List.flatMap_cons,e1,z36] at e
   injection e with e2 e3
   split at e2<;>lia
 intro x
 induction x with
 | nil =>
  intro y h
  cases y with
  | nil=>rfl
  | cons d y=>obtain⟨r,e,_⟩:=hd d;rw [List.flatMap_cons,e] at h;cases h
 | cons c x ih =>
  intro y h
  obtain⟨r,e,hr⟩:=hd c
  cases y with
  | nil=>rw [List.flatMap_cons,e] at h;cases h
  | cons d y =>
   obtain⟨q,e',hq⟩:=hd d
   rw [List.flatMap_cons,List.flatMap_cons,e,e',z36,z36] at h
   injection h with h1 h2
   rcases hr with⟨hc,rfl⟩| ⟨hc,rfl⟩| ⟨hc,hc',rfl⟩
   ·rcases hq with⟨hq1,rfl⟩| ⟨hq1,rfl⟩| ⟨hq1,hq2,rfl⟩
    ·rw [hc,hq1,ih (List.append_cancel_left h2)]
    ·rw [hc,hq1] at h1;simp at h1
    ·rw [hc,if_neg (by decide),if_neg hq2] at h1;lia
   ·rcases hq with⟨hq1,rfl⟩| ⟨hq1,rfl⟩| ⟨hq1,hq2,rfl⟩
    ·rw [hc,hq1] at h1;simp at h1
    ·rw [hc,hq1,ih (List.append_cancel_left h2)]
    ·exact absurd (show y.flatMap gg=41::_ from h2.symm) (h41 _ _)
   ·rcases hq with⟨hq1,rfl⟩| ⟨hq1,rfl⟩| ⟨hq1,hq2,rfl⟩
    ·rw [hq1,if_neg hc',if_neg (by decide)] at h1;lia
    ·exact absurd (show x.flatMap gg=41::_ from h2) (h41 _ _)
    ·rw [if_neg hc',if_neg hq2] at h1
     rw [h1,ih h2]
theorem yY:∀x:List Nat,(x.flatMap gg).length≤2*x.length
 | []=>by simp
 | d::x=>by
  have:=yY x
  rw [List.flatMap_cons,zd,z15]
  have:(gg d).length≤2:=by unfold gg;split<;>(try split)<;>simp
  lia
theorem yZ:∀x:List Nat,(x.flatMap gg).count 40=x.count 40
 | []=>rfl
 | d::x=>by
  rw [List.flatMap_cons,z17,yZ x,List.count_cons]
  unfold gg
  by_cases h:d=40
  ·subst h;simp;lia
  ·by_cases h':d=41
   ·subst h';simp
   ·rw [if_neg h,if_neg h'];simp [h]
theorem mS(c:Nat):∀l:List Nat,(b5 c l).length≤l.length+1/\∀w∈b5 c l,w.length≤l.length
 | []=>by simp [b5]
 | d::l=>by
  obtain⟨h1,h2⟩:=mS c l
  rw [b5]
  split
  ·refine⟨by simp;lia,λw hw=>?_⟩
   rcases z1f.mp hw with e|e
   ·subst e;simp
   ·have:=h2 w e;rw [z15];lia
  ·cases hs:b5 c l with
   | nil=>exact absurd hs (i4 c l)
   | cons p ps =>
    rw [hs] at h1 h2
    refine⟨by rw [z15] at h1 ⊢;rw [z15];lia,λw hw=>?_⟩
    rcases z1f.mp hw with e|e
    ·subst e;have:=h2 p List.mem_cons_self;rw [z15,z15];lia
    ·have:=h2 w (z1d _ e);rw [z15];lia
theorem zg(c:Nat):∀l:List Nat,nO (b5 c l)≤l.count 40
 | []=>by simp [b5,nO]
 | d::l=>by
  have ih:=zg c l
  rw [b5]
  split
  ·rw [gE,if_neg (by simp),List.count_cons];lia
  ·cases hs:b5 c l with
   | nil=>exact absurd hs (i4 c l)
   | cons p ps =>
    rw [hs,gE] at ih
    show nO ((d::p)::ps)≤_
    rw [gE,List.count_cons]
    by_cases h:d=40
    ·subst h
     simp only [beq_self_eq_true,if_true]
     split<;>lia
    ·rw [if_neg (by intro e;injection e with e1;exact h e1)];lia
def qz{x:List Nat}(hx:x.length≤19000):(b8 x).length≤40000/\(∀w∈b8 x,w.length≤100000)/\nO (b8 x)≤x.count 40:=by
 have h1:=yY x
 obtain⟨h2,h3⟩:=mS 32 (x.flatMap gg)
 have h4:=zg 32 (x.flatMap gg)
 rw [yZ] at h4
 exact⟨by unfold b8;lia,λw hw=>by have:=h3 w hw;lia,h4⟩
def Jz{x:List Nat}{t:Tm}(k:t.ok)(h:b8 x=t.tk):x=t.tx:=by
 refine Jy ?_
 rw [t.sx k,<- h,b8,qy]
theorem Tm.y424:∀{t:Tm},t.ok->t.size≤t.tx.length
 | .num w,_=>by
  have:=List.length_pos_iff.mpr (i5 w)
  show 1≤(dg w).length
  lia
 | .cell x,h=>Nm.lo h
 | .at_ r t,h=>by
  have:=t.y424 h.2
  simp only [size,tx,zd,z15,List.length_nil];lia
 | .op s a b,h=>by
  have:=a.y424 h.2.1
  have:=b.y424 h.2.2
  simp only [size,tx,zd,z15,List.length_nil];lia
theorem Tm.yf5:∀t:Tm,t.deep≤nO t.tk+1
 | .num w=>by simp [deep]
 | .cell x=>by simp [deep]
 | .at_ r t=>by
  have:=t.yf5
  have h1:nO ([[40],[97,116],r]:List (List Nat)) ≥ 1:=by rw [gE,if_pos rfl];lia
  rw [deep,tk,eN,eN];lia
 | .op s a b=>by
  have:=a.yf5
  have:=b.yf5
  have h1:nO ([[40],[s]]:List (List Nat)) ≥ 1:=by rw [gE,if_pos rfl];lia
  rw [deep,tk,eN,eN,eN];lia
def JA{x:List Nat}(hx:x.length≤19000)(hc:x.count 40<150):∃G',xG [.im (.str (ah x))] G=some (.im (.bl (decide (bh (b8 x) 150 0=some (b8 x).length))),G')/\dG G G':=by
 obtain⟨h1,h2,h3⟩:=qz hx
 refine⟨G++[M.lst ((b8 x).map wI)],?_,(dG.refl G).app _⟩
 have s1:aN (a7 (gm " ") (a7 (cN ")" " )") (a7 (cN "(" "( ") (aa 0)))) (aG 1) [↑(.str (ah x)),none] G=some (.nx [↑(.str (ah x)),↥((b8 x).map wI)] G):=bB (yC (v:=none) (r:=[none]) (by lia)) rfl
 have hk:(G++[M.lst ((b8 x).map wI)])[G.length]?=some (.lst ((b8 x).map wI)):=by simp
 have hb:=y89 (W:=b8 x) hk h2 (by lia) 150 0 (by rw [List.drop_zero];lia)
 have s2:bd (af (bf (aa 1)) (af (ag (.int 0)) ae)) (aB 2 (gM 150)) [↑(.str (ah x)),↥((b8 x).map wI)] G=some (⇑(.int (eB (bh (b8 x) 150 0))),[↑(.str (ah x)),↑(.ref G.length)],G++[M.lst ((b8 x).map wI)]):=aq (aq (a:=⇑(.ref G.length)) rfl (aq (a:=[⇑(.int 0)]) rfl rfl)) (bX (xs:=[.im (.ref G.length),.im (.int 0)]) rfl rfl hb)
 have s3:bd (af (aa 1) ae) aI [↑(.str (ah x)),↑(.ref G.length)] (G++[M.lst ((b8 x).map wI)])=some (⇑(.int (b8 x).length),[↑(.str (ah x)),↑(.ref G.length)],G++[M.lst ((b8 x).map wI)]):=by
  refine aq (aq (a:=⇑(.ref G.length)) rfl rfl) ?_
  simp [aI,sq,pk]
 refine aK rfl (aj s1 (aW (Z1:=[↑(.str (ah x)),↑(.ref G.length)]) (aw s2 s3 ?_)))
 have:(eB (bh (b8 x) 150 0) == ((b8 x).length:Int))=decide (bh (b8 x) 150 0=some (b8 x).length):=by
  cases bh (b8 x) 150 0 with
  | none =>
   rw [decide_eq_false (by simp)]
   exact beq_eq_false_iff_ne.mpr (show (-1:Int)≠_ by lia)
  | some j =>
   by_cases h:j=(b8 x).length
   ·rw [decide_eq_true (by rw [h]),h];exact beq_self_eq_true _
   ·rw [decide_eq_false (by simpa using h)]
    exact beq_eq_false_iff_ne.mpr (show ((j:Int))≠_ by lia)
 simp only [a9,eS,dR,cb,dJ,bL,br,this];rfl
def zh{x:List Nat}(hx:x.length≤19000):∃G',bd (af (bd (af (aa 0) ae) (aB 1 nA)) ae) (aB 1 nz) [↑(.str (ah x)),none] G=some (⇑(bt Tm.i (jb (b8 x))),[↑(.str (ah x)),none],G')/\dG G G':=by
 obtain⟨h1,h2,h3⟩:=qz hx
 obtain⟨G',e,fr⟩:=Jt (G:=G) h2 h1
 exact⟨G',aq (aq (aq (aq (a:=⇑(.str (ah x))) rfl rfl) (bX (xs:=[.im (.str (ah x))]) rfl rfl (Jb (by lia)))) rfl) (bX (xs:=[.ow (.lst ((b8 x).map wI))]) rfl rfl e),fr⟩
def JB{x:List Nat}{t:Tm}(hx:x.length≤19000)(h:jb (b8 x)=some t):∃G',AJ [.im (.str (ah x))] G=some (.im t.i,G')/\dG G G':=by
 obtain⟨G',e,fr⟩:=zh (G:=G) hx
 rw [h] at e
 obtain⟨ys,hi⟩:=t.y1c2
 refine⟨G',?_,fr⟩
 rw [show bt Tm.i (some t)=t.i from rfl] at e
 rw [hi] at e ⊢
 exact aK rfl (aj (bB e rfl) (aj (aL (Z1:=[↑(.str (ah x)),↑(.tup ys)]) (G1:=G') rfl rfl) rfl))
def JC{x:List Nat}(hx:x.length≤19000)(h:jb (b8 x)=none):∃G',qT [.im (.str (ah x))] G=some (.im (.tup [.bl true,.bl true,.bl false,.int 0]),G')/\dG G G':=by
 obtain⟨G',e,fr⟩:=zh (G:=G) hx
 rw [h] at e
 rw [show bt Tm.i none=.non from rfl] at e
 refine⟨G',?_,fr⟩
 have a1:fF (aN (bd (af (bd (af (aa 0) ae) (aB 1 nA)) ae) (aB 1 nz)) (aG 1)) [↑(.str (ah x)),none] G=some (.nx [↑(.str (ah x)),↑.non] G'):=by
  unfold fF
  rw [bB e rfl]
  rfl
 have:AK [.im (.str (ah x))] G=some (.ow (.obj "NoText" [("row",.int 0)]),G'):=aK rfl (aj a1 (a6 (aV (Z1:=[↑(.str (ah x)),↑.non]) (G1:=G') rfl rfl)))
 unfold qT
 rw [this]
 rfl
def JD{x:List Nat}(hx:x.length≤19000)(hc:x.count 40<150):∃G',xK [.im (.str (ah x))] G=some (.im (.bl true),G')/\dG G G':=by
 obtain⟨G1,e1,f1⟩:=JA (G:=G) hx hc
 obtain⟨h1,h2,h3⟩:=qz hx
 have c1:bd (bd (af (aa 0) ae) (aB 1 xG)) cI [↑(.str (ah x))] G=some (decide (bh (b8 x) 150 0=some (b8 x).length),[↑(.str (ah x))],G1):=aq (aq (aq (a:=⇑(.str (ah x))) rfl rfl) (bX (xs:=[.im (.str (ah x))]) rfl rfl e1)) rfl
 by_cases hb:bh (b8 x) 150 0=some (b8 x).length
 ·rw [decide_eq_true hb] at c1
  obtain⟨_,_,t,ht,e⟩:=y8b 150 0 _ hb
  rw [List.drop_zero,List.drop_length,z11] at e
  have hxt:=Jz ht e
  have hp:jb (b8 x)=some t:=by rw [e];exact Jg ht
  obtain⟨G2,e2,f2⟩:=JB (G:=G1) hx hp
  have hs:=Tm.y424 ht
  have hd:=Tm.yf5 t
  rw [e] at h3
  rw [<- hxt] at hs
  have e3:=mI 150 (t:=t) (G:=G2) (by lia) ht (by lia)
  rw [<- hxt] at e3
  refine⟨G2,aK rfl (a6 (aV c1 (aW (Z1:=[↑(.str (ah x))]) (aw (x:=⇑(.str (ah x))) (y:=⇑(.str (ah x))) (Z1:=[↑(.str (ah x))]) (G1:=G2) (aq (aq (aq (aq (a:=⇑(.str (ah x))) rfl rfl) (bX (xs:=[.im (.str (ah x))]) rfl rfl e2)) rfl) (bX (xs:=[.im t.i]) rfl rfl e3)) rfl ?_)))),f1.trans f2⟩
  have:=dF x x
  rw [decide_eq_true rfl] at this
  simp only [a9,eS,dR,cb,dJ,bL,br,this];rfl
 ·rw [decide_eq_false hb] at c1
  have hp:jb (b8 x)=none:=by
   cases h:jb (b8 x) with
   | none=>rfl
   | some t =>
    obtain⟨ht,e⟩:=Jf h
    obtain⟨i1,_⟩:=yX (W:=b8 x) 150 0 (t:=t) (R:=[]) ht (by rw [List.drop_zero,e,z11]) (by rw [e];lia)
    rw [e,Nat.zero_add] at i1
    exact absurd i1 hb
  obtain⟨G2,e2,f2⟩:=JC (G:=G1) hx hp
  exact⟨G2,aK rfl (aj (aL c1 rfl) (aW (Z1:=[↑(.str (ah x))]) (aw (x:=⇑(.tup [.bl true,.bl true,.bl false,.int 0])) (y:=⇑(.tup [.bl true,.bl true,.bl false,.int 0])) (Z1:=[↑(.str (ah x))]) (G1:=G2) (aq (aq (a:=⇑(.str (ah x))) rfl rfl) (bX (xs:=[.im (.str (ah x))]) rfl rfl e2)) rfl rfl))),f1.trans f2⟩
end
section
variable {G:List M}{d l w:Nat}{ys:List Str}
abbrev sm(f:List Nat->Nat)(L:List (List Nat)):Nat:=(L.map f).sum
def qA(f:List Nat->Nat)(a b:List (List Nat)):sm f (a++b)=sm f a+sm f b:=by unfold sm;rw [z28,List.sum_append]
def mT(f:List Nat->Nat)(k:Nat)(L:List (List Nat)):sm f (L.take k)+sm f (L.drop k)=sm f L:=by rw [<- qA,List.take_append_drop]
def mU(f:List Nat->Nat)(p:List Nat):sm f [p]=f p:=by simp [sm]
def gF(f:List Nat->Nat)(p:List Nat)(L:List (List Nat)):sm f (p::L)=f p+sm f L:=by simp [sm]
theorem zi(f:List Nat->Nat):∀L:List (List Nat),sm f L.reverse=sm f L
 | []=>rfl
 | p::L=>by rw [List.reverse_cons,qA,zi f L,mU,gF];lia
theorem qB(f:List Nat->Nat):∀(L:List (List Nat)) (i:Nat) (h:i<L.length) (v:List Nat),sm f (L.set i v)+f L[i]=sm f L+f v
 | [],i,h,v=>absurd h (by simp)
 | p::L,0,h,v=>by rw [List.set_cons_zero,gF,gF,List.getElem_cons_zero];lia
 | p::L,i+1,h,v=>by
  have:=qB f L i (by simpa using h) v
  rw [List.set_cons_succ,gF,gF,List.getElem_cons_succ];lia
abbrev l1(p:List Nat):Nat:=p.length+1
abbrev c40(p:List Nat):Nat:=p.count 40
theorem qC:∀{L:List (List Nat)},L≠[]->(jn 32 L).length+1=sm l1 L
 | [],h=>absurd rfl h
 | [p],_=>by rw [mU];rfl
 | p::q::r,_=>by
  have:=qC (L:=q::r) (by simp)
  rw [gy 32 p (by simp),gF,zd,z15]
  unfold l1 at this ⊢
  lia
def zj(L:List (List Nat)):(jn 32 L).length≤sm l1 L:=by
 cases L with
 | nil=>simp [jn]
 | cons p L=>have:=qC (L:=p::L) (by simp);lia
theorem mV:∀L:List (List Nat),(jn 32 L).count 40=sm c40 L
 | []=>rfl
 | [p]=>by rw [mU];rfl
 | p::q::r=>by
  rw [gy 32 p (by simp),gF,z17,List.count_cons,mV (q::r)]
  simp [c40]
def zk(x:List Nat):sm l1 (b5 32 x)=x.length+1:=by rw [<- qC (i4 32 x),qy]
def zl(x:List Nat):sm c40 (b5 32 x)=x.count 40:=by rw [<- mV,qy]
def yd9{xs:List I}{m:Nat}:eU xs (some (m:Int)) none=xs.drop m:=by
 rcases Nat.le_total m xs.length with h|h
 ·exact yda h
 ·unfold eU
  rw [HT.y3e4,HT.y3e3,Nat.min_eq_right h,List.drop_eq_nil_of_le (z10 _),List.drop_eq_nil_of_le h,List.take_nil]
def ydb{xs:List I}{m k:Nat}:eU xs (some (m:Int)) (some ((m+k:Nat):Int))=(xs.drop m).take k:=by
 rcases Nat.le_total (m+k) xs.length with h|h
 ·exact yde h
 ·unfold eU
  rw [HT.y3e3,HT.y3e3,Nat.min_eq_right h]
  rcases Nat.le_total m xs.length with h1|h1
  ·rw [Nat.min_eq_left h1,z2f (by rw [z2d];lia),z2f (by rw [z2d];lia)]
  ·rw [Nat.min_eq_right h1,List.drop_eq_nil_of_le (z10 _),List.drop_eq_nil_of_le h1];simp
def JE(x:List Nat)(a:Nat):Txt.slice (ah x) (some (a:Int)) none=ah (x.drop a):=by
 rcases Nat.le_total a x.length with h|h
 ·rw [qh (ah x) (by rw [bF];exact h),dY]
 ·have h1:Txt.slice (ah x) (some (a:Int)) none=Txt.slice (ah x) (some (x.length:Int)) none:=by
   have hi:Builtin.Str.strSliceIndices (some (a:Int)) none 1 (ah x).length=Builtin.Str.strSliceIndices (some (x.length:Int)) none 1 (ah x).length:=by
    rw [bF]
    unfold Builtin.Str.strSliceIndices
    dsimp only
    rw [if_neg (by lia:¬ (a:Int)<0),if_neg (by lia:¬ (x.length:Int)<0),Int.min_eq_right (by lia:(x.length:Int)≤a),Int.min_eq_right (Int.le_refl (x.length:Int))]
    rfl
   unfold Txt.slice
   rw [hi]
  rw [h1,qh (ah x) (by rw [bF];exact z10 _),dY,List.drop_eq_nil_of_le (z10 _),List.drop_eq_nil_of_le h]
def zm{z:List Nat}{ps:List (List Nat)}{e:Ev}{Z:De}(hp:pk Z G e=some (.lst (ps.map wI)))(h:sm l1 ps≤1000000)(hz:z.length=1):dm [⇑(.str (ah z)),e] Z G=some (⇑(.str (ah (jz z ps))),Z,G):=by
 have e1:dC (ps.map wI)=some (ps.map ah):=by
  have:ps.map wI=(ps.map ah).map I.str:=by rw [z31];rfl
  rw [this,l9]
 have hz:(((ps.map ah)).map (·.length)).sum+(ps.map ah).length*(ah z).length≤1000000:=by
  rw [z31,z12,bF,hz]
  have:((λx:Str=>x.length) ∘ ah)=λp:List Nat=>p.length:=by funext p;exact bF p
  rw [this]
  have h2:∀L:List (List Nat),(L.map λp=>p.length).sum+L.length*1=sm l1 L:=λL=>by
   induction L with
   | nil=>rfl
   | cons p L ih=>rw [gF,<- ih,z18,List.sum_cons,z15];unfold l1;lia
  rw [h2];exact h
 unfold dm
 dsimp only
 rw [hp]
 dsimp only
 rw [e1]
 dsimp only
 rw [if_pos hz,yy]
structure Nd(G:List M)(d l w:Nat)(ys:List Str):Prop where
 D:DG G d l
 hw:G[w]?=some (.lst (ys.map I.str))
 nd:w≠d
 nl:w≠l
 n:ys.length=12
 nm:∀y∈ys,kD y
def Nd.mor{G':List M}(s:Nd G d l w ys)(D:DG G' d l)(o:Mor d l G G'):Nd G' d l w ys :=
 ⟨D,(o.at_ _ (z19.mp s.hw).1 s.nd s.nl).trans s.hw,s.nd,s.nl,s.n,s.nm⟩
theorem Nd.app(s:Nd G d l w ys)(T:List M):Nd (G++T) d l w ys:=s.mor (s.D.app T) (Mor.app T)
def Nd.draw{many:Int}(s:Nd G d l w ys)(h0:0<many)(h1:many<2 ^ 100):∃r G',bu [.im (.ref d),.im (.int many)] G=some (.im (.int r),G')/\0≤r/\r<many/\Nd G' d l w ys:=by
 obtain⟨r,G',e,p0,p1,D,o⟩:=du s.D h0 h1
 exact⟨r,G',e,p0,p1,s.mor D o.mor⟩
def Nd.y10e{many:Nat}(s:Nd G d l w ys)(h0:0<many)(h1:many≤1000000):∃(r:Nat) (G':List M),bu [.im (.ref d),.im (.int many)] G=some (.im (.int r),G')/\r<many/\Nd G' d l w ys:=by
 have hm:(many:Int)<2 ^ 100:=Int.lt_of_le_of_lt (show (many:Int)≤1000000 by lia) (by decide)
 obtain⟨r,G',e,p0,p1,s'⟩:=s.draw (many:=many) (by lia) hm
 obtain⟨j,rfl⟩:=Int.eq_ofNat_of_zero_le p0
 exact⟨j,G',e,by lia,s'⟩
def mW{e:Ev}{xs:List I}{r:Int}{i:I}{Z:De}(h:sq Z G e=some xs)(hi:cC xs r=some i):aJ [e,⇑(.int r)] Z G=some (⇑i,Z,G):=by
 unfold aJ bS eI
 dsimp only
 rw [h]
 dsimp only
 rw [hi]
def zo{z:Str}{r:Int}{c:Nat}{Z:De}(hi:cC z.cps.toList r=some c)(hl:z.length≤1000000):aJ [⇑(.str z),⇑(.int r)] Z G=some (⇑(.str (ah [c])),Z,G):=by
 unfold aJ bS eI
 dsimp only [sq,pk]
 rw [hi]
 dsimp only
 rw [if_pos hl]
 rfl
abbrev dw:List Str:=["","(",")","(at","(+","(<","(=","()","0)","0","00","07","-1","1.5","1_0","+1","4294967296","4294967295","42949672950","at","end","cell","+","-","*","/","(-","(*","a1","Ab","(+)"]
def zp:∀z∈dw,z.cps.toList.length≤12/\z.cps.toList.count 40≤1:=by decide +kernel
def Nm.c40{x:List Nat}(h:Nm x):x.count 40=0:=List.count_eq_zero.mpr λhm=>by have:=h.ab _ hm;lia
def zq(s:Nd G d l w ys):∃(z:List Nat) (G':List M),pU [.im (.ref d),.im (.ref w)] G=some (.im (.str (ah z)),G')/\z.length≤12/\z.count 40≤1/\Nd G' d l w ys:=by
 obtain⟨r,G1,e1,p1,s1⟩:=s.y10e (many:=39) (by decide) (by decide)
 have hl:(dw++ys.take 8).length=39:=by rw [zd,z2b,s.n];rfl
 obtain⟨z,ez,hz⟩:=mG (xs:=dw++ys.take 8) (r:=(r:Int)) (by lia) (by lia)
 refine⟨z.cps.toList,G1,?_,?_,?_,s1⟩
 ·rw [h9]
  obtain⟨D,hD⟩:∃D:De,D=[↑(.ref d),↑(.ref w),↥(dw.map I.str)]:=⟨_,rfl⟩
  have v0:∀g,aa 0 D g=some (⇑(.ref d),D,g):=λg=>by rw [hD];rfl
  have v1:∀g,aa 1 D g=some (⇑(.ref w),D,g):=λg=>by rw [hD];rfl
  have v2:∀g,aa 2 D g=some (.s 2,D,g):=λg=>by rw [hD];rfl
  have k2:∀g,pk D g (.s 2)=some (.lst (dw.map I.str)):=λg=>by rw [hD];rfl
  have a1:az (aa 1) aC (av (ag (.int 8))) D G=some (.v (.ow (.lst ((ys.take 8).map I.str))),D,G):=by
   refine aq (v1 G) (aq (m:=aC) (a:=[]) rfl (aq (m:=av (ag (.int 8))) (a:=[⇑(.int 8)]) rfl ?_))
   show cq none (some ((8:Nat):Int)) [⇑(.ref w),⇑(.int 8)] _ G=_
   have:sq D G ⇑(.ref w)=some (ys.map I.str):=by simp [sq,pk,s.hw]
   unfold cq
   dsimp only
   rw [if_pos (show eK ⇑(.ref w)=true from rfl),this]
   dsimp only
   rw [ydc,List.map_take]
  have a2:ai aD (aa 2) (az (aa 1) aC (av (ag (.int 8)))) D G=some (.v (.ow (.lst ((dw++ys.take 8).map I.str))),D,G):=by
   refine aw (v2 G) a1 ?_
   have hn:(dw.map I.str).length+((ys.take 8).map I.str).length≤1000000:=by rw [z12,z12];rw [zd] at hl;lia
   show lU [.s 2,.v (.ow (.lst ((ys.take 8).map I.str)))] D G=_
   unfold lU
   dsimp only
   rw [k2]
   dsimp only [pk]
   rw [if_pos hn,z28]
  have a3:bd (af (aa 2) ae) aI D G=some (⇑(.int 31),D,G):=by
   refine aq (aq (v2 G) rfl) ?_
   unfold aI
   have:sq D G (.s 2)=some (dw.map I.str):=by rw [hD];rfl
   dsimp only
   rw [this];rfl
  have a4:bd (af (aa 1) ae) aI D G=some (⇑(.int 12),D,G):=by
   refine aq (aq (v1 G) rfl) ?_
   unfold aI
   have:sq D G ⇑(.ref w)=some (ys.map I.str):=by simp [sq,pk,s.hw]
   dsimp only
   rw [this]
   dsimp only
   rw [z12,s.n];rfl
  have a5:bd (af (aa 0) (af (ai aD (bd (af (aa 2) ae) aI) (bd (af (ag (.int 8)) (af (bd (af (aa 1) ae) aI) ae)) pf)) ae)) (aB 2 bu) D G=some (⇑(.int r),D,G1) :=
   aq (aq (v0 G) (aq (aq (aw a3 (aq (aq (a:=⇑(.int 8)) rfl (aq (aq a4 rfl) rfl)) (r:=some (⇑(.int 8),D,G)) rfl) (r:=some (⇑(.int 39),D,G)) rfl) rfl) rfl)) (bX (xs:=[.im (.ref d),.im (.int 39)]) rfl rfl e1)
  refine aK rfl (aj (bB (x:=.ow (.lst ((dw.take 16).map I.str))) (Z1:=[↑(.ref d),↑(.ref w),none]) (G1:=G) rfl rfl) (aj (bB (x:=.ow (.lst ((dw.take 27).map I.str))) (Z1:=[↑(.ref d),↑(.ref w),↥((dw.take 16).map I.str)]) (G1:=G) rfl rfl) (aj (Z1:=D) (G1:=G) (bB (x:=.ow (.lst (dw.map I.str))) (Z1:=[↑(.ref d),↑(.ref w),↥((dw.take 27).map I.str)]) (G1:=G) rfl (by rw [hD];rfl)) (aW (Z1:=D) (aw a2 a5 ?_)))))
  exact mW rfl ez
 ·rcases z1e.mp hz with h|h
  ·exact (zp z h).1
  ·have:=(s.nm z (List.mem_of_mem_take h)).hi;lia
 ·rcases z1e.mp hz with h|h
  ·exact (zp z h).2
  ·rw [Nm.c40 (s.nm z (List.mem_of_mem_take h))];lia
abbrev eh:Str:=" !\"#$&'()*+,-./0123456789:;<=>?\x40[\\]^_`{|}~"
abbrev gG:Str:="abcdefghijklmnopqrstuvwxyzABCDEFGHIJKLMNOPQRSTUVWXYZ"
def JF:(eh++gG).cps.toList.length=94/\eh.length+gG.length≤1000000/\(eh++gG).length=94:=by decide +kernel
def y72(s:Nd G d l w ys):∃(c:Nat) (G':List M),qP [.im (.ref d)] G=some (.im (.str (ah [c])),G')/\Nd G' d l w ys:=by
 obtain⟨h1,h2,h3⟩:=JF
 obtain⟨r,G1,e1,p1,s1⟩:=s.y10e (many:=94) (by decide) (by decide)
 obtain⟨c,ec,_⟩:=mH (xs:=(eh++gG).cps.toList) (r:=(r:Int)) (by lia) (by lia)
 refine⟨c,G1,?_,s1⟩
 have a0:aD [⇑(.str eh),⇑(.str gG)] [↑(.ref d),↑(.str eh)] G=some (⇑(.str (eh++gG)),[↑(.ref d),↑(.str eh)],G):=by
  simp [aD,bS,kq,bE,jf,h2]
 obtain⟨z,hz⟩:∃z,z=eh++gG:=⟨_,rfl⟩
 rw [<- hz] at a0 ec h3
 have a1:bd (af (aa 1) ae) aI [↑(.ref d),↑(.str z)] G=some (⇑(.int 94),[↑(.ref d),↑(.str z)],G):=by
  refine aq (aq (a:=⇑(.str z)) rfl rfl) ?_
  show (if z.length≤1000000 then some (Ev.v (.im (.int z.length)),_,G) else none)=_
  rw [if_pos (by lia),h3];rfl
 refine aK rfl (aj (bB (x:=.im (.str eh)) (Z1:=[↑(.ref d),none]) (G1:=G) rfl rfl) (aj (bB (aw (x:=⇑(.str eh)) (y:=⇑(.str gG)) rfl rfl a0) rfl) (aW (Z1:=[↑(.ref d),↑(.str z)]) (aw (x:=⇑(.str z)) (y:=⇑(.int r)) (Z2:=[↑(.ref d),↑(.str z)]) (G2:=G1) rfl (aq (aq (a:=⇑(.ref d)) rfl (aq (aq a1 rfl) rfl)) (bX (xs:=[.im (.ref d),.im (.int 94)]) rfl rfl e1)) (zo ec (by lia))))))
abbrev eO:List Str:=[""," ","a b","0 1","(+ 1 2) 3","((+ 1 2))","( + 1 2)","(+ 1 2 )","(+ 1)","(+ 1 2 3)","(at a)","(at 1)","(at a 1 2)","(at 1 a)","(at at 1)","(/ 1 2)","(a 1 2)","()","a\n","\na","(+ 1 2","+ 1 2"]
def zr:∀z∈eO,z.cps.toList.length≤12/\z.cps.toList.count 40≤2:=by decide +kernel
def JG(s:Nd G d l w ys):∃(z:List Nat) (G':List M),AH [.im (.ref d)] G=some (.im (.str (ah z)),G')/\z.length≤12/\z.count 40≤2/\Nd G' d l w ys:=by
 obtain⟨r,G1,e1,p1,s1⟩:=s.y10e (many:=22) (by decide) (by decide)
 have hl:eO.length=22:=rfl
 obtain⟨z,ez,hz⟩:=mG (xs:=eO) (r:=(r:Int)) (by lia) (by lia)
 refine⟨z.cps.toList,G1,?_,(zr z hz).1,(zr z hz).2,s1⟩
 rw [h9]
 refine aK rfl (aj (bB (x:=.ow (.lst ((eO.take 10).map I.str))) (Z1:=[↑(.ref d),none]) (G1:=G) rfl rfl) (aj (bB (x:=.ow (.lst ((eO.take 18).map I.str))) (Z1:=[↑(.ref d),↥((eO.take 10).map I.str)]) (G1:=G) rfl rfl) (aj (bB (x:=.ow (.lst (eO.map I.str))) (Z1:=[↑(.ref d),↥((eO.take 18).map I.str)]) (G1:=G) rfl rfl) (aW (Z1:=[↑(.ref d),↥(eO.map I.str)]) (aw (x:=.s 1) (y:=⇑(.int r)) (Z2:=[↑(.ref d),↥(eO.map I.str)]) (G2:=G1) rfl (aq (a:=[⇑(.ref d),⇑(.int 22)]) rfl (bX (xs:=[.im (.ref d),.im (.int 22)]) rfl rfl e1)) (mW rfl ez))))))
end
section
variable {G:List M}{d l w:Nat}{ys:List Str}
abbrev Sm(x y:List Nat):Prop:=y.length≤2*x.length+20/\y.count 40≤2*x.count 40+2
def JH{e e':Ev}{xs zs:List I}{Z:De}(h:pk Z G e=some (.lst xs))(h':pk Z G e'=some (.lst zs))(n1:Az e=false)(hi:∀i,e≠⇑(.int i))(ht:∀q,e≠⇑(.tup q))(hl:xs.length+zs.length≤1000000):aD [e,e'] Z G=some (.v (.ow (.lst (xs++zs))),Z,G):=by
 cases e with
 | v x =>
  cases x with
  | ow m =>
   have:m=.lst xs:=z20 h
   subst this
   simp [aD,bS,kq,bE,jf,oS,lU,h,h',hl]
  | im i =>
   cases i with
   | ref k=>simp [aD,bS,kq,bE,jf,oS,lU,h,h',hl]
   | int j=>exact absurd rfl (hi j)
   | str z=>cases n1
   | tup q=>exact absurd rfl (ht q)
   | _=>cases h
 | s i=>simp [aD,bS,kq,bE,jf,oS,lU,h,h',hl]
abbrev pD(d w:Nat)(x:List Nat)(ws:List (List Nat))(a o:Nat)(one:List Nat)(f:Nat)(v8 v9 v10:Option Vl):De :=
 [↑(.ref d),↑(.str (ah x)),↑(.ref w),↥(ws.map wI),↑(.int a),↑(.int o),↑(.str (ah one)),↑(.int f),v8,v9,v10]
section
variable {x:List Nat}{W:List (List Nat)}{a o f:Nat}{one:List Nat}{v8 v9 v10:Option Vl}
def qD{lo hi:Option Int}{r:List Ev}{L:List (List Nat)}(h:eU (W.map wI) lo hi=L.map wI):cq lo hi (.s 3::r) (pD d w x W a o one f v8 v9 v10) G=some (.v (.ow (.lst (L.map wI))),(pD d w x W a o one f v8 v9 v10),G):=by
 unfold cq
 dsimp only
 rw [if_pos (show eK (.s 3)=true from rfl),show sq (pD d w x W a o one f v8 v9 v10) G (.s 3)=some (W.map wI) from rfl,<- h]
def mX{g:Mo Ev}{k:Nat}(h:g (pD d w x W a o one f v8 v9 v10) G=some (⇑(.int k),(pD d w x W a o one f v8 v9 v10),G)):az (aa 3) aC (av g) (pD d w x W a o one f v8 v9 v10) G=some (.v (.ow (.lst ((W.take k).map wI))),(pD d w x W a o one f v8 v9 v10),G):=by
 refine aq (m:=aa 3) (a:=.s 3) rfl (aq (m:=aC) (a:=[]) rfl (aq (m:=av g) (a:=[⇑(.int k)]) (aq h rfl) ?_))
 show cq none (some (k:Int)) (.s 3::_) _ G=_
 exact qD (by rw [ydc,List.map_take])
def kj{g:Mo Ev}{k:Nat}(h:g (pD d w x W a o one f v8 v9 v10) G=some (⇑(.int k),(pD d w x W a o one f v8 v9 v10),G)):az (aa 3) (av g) aC (pD d w x W a o one f v8 v9 v10) G=some (.v (.ow (.lst ((W.drop k).map wI))),(pD d w x W a o one f v8 v9 v10),G):=by
 refine aq (m:=aa 3) (a:=.s 3) rfl (aq (m:=av g) (a:=[⇑(.int k)]) (aq h rfl) (aq (m:=aC) (a:=[]) rfl ?_))
 show cq (some (k:Int)) none (.s 3::_) _ G=_
 exact qD (by rw [yd9,List.map_drop])
def zt{g g':Mo Ev}{k j:Nat}(h:g (pD d w x W a o one f v8 v9 v10) G=some (⇑(.int k),(pD d w x W a o one f v8 v9 v10),G))(h':g' (pD d w x W a o one f v8 v9 v10) G=some (⇑(.int ((k+j:Nat):Int)),(pD d w x W a o one f v8 v9 v10),G)):az (aa 3) (av g) (av g') (pD d w x W a o one f v8 v9 v10) G=some (.v (.ow (.lst (((W.drop k).take j).map wI))),(pD d w x W a o one f v8 v9 v10),G):=by
 refine aq (m:=aa 3) (a:=.s 3) rfl (aq (m:=av g) (a:=[⇑(.int k)]) (aq h rfl) (aq (m:=av g') (a:=[⇑(.int ((k+j:Nat):Int))]) (aq h' rfl) ?_))
 show cq (some (k:Int)) (some ((k+j:Nat):Int)) (.s 3::_) _ G=_
 exact qD (by rw [ydb,List.map_take,List.map_drop])
def qW:aa 4 (pD d w x W a o one f v8 v9 v10) G=some (⇑(.int a),(pD d w x W a o one f v8 v9 v10),G):=rfl
def zu(k:Nat):ai aD (aa 4) (ag (.int k)) (pD d w x W a o one f v8 v9 v10) G=some (⇑(.int ((a+k:Nat):Int)),(pD d w x W a o one f v8 v9 v10),G):=aw (x:=⇑(.int a)) (y:=⇑(.int k)) rfl rfl rfl
def qE{g g':Mo Ev}{A B:List (List Nat)}(h:g (pD d w x W a o one f v8 v9 v10) G=some (.v (.ow (.lst (A.map wI))),(pD d w x W a o one f v8 v9 v10),G))(h':g' (pD d w x W a o one f v8 v9 v10) G=some (.v (.ow (.lst (B.map wI))),(pD d w x W a o one f v8 v9 v10),G))(hl:A.length+B.length≤1000000):ai aD g g' (pD d w x W a o one f v8 v9 v10) G=some (.v (.ow (.lst ((A++B).map wI))),(pD d w x W a o one f v8 v9 v10),G):=by
 rw [z28]
 exact aw h h' (JH rfl rfl rfl (by simp) (by simp) (by rw [z12,z12];exact hl))
def zw:bd (af (aa 6) ae) aM (pD d w x W a o one f v8 v9 v10) G=some (.v (.ow (.lst ([one].map wI))),(pD d w x W a o one f v8 v9 v10),G):=rfl
def zx{g:Mo Ev}{A:List (List Nat)}(h:g (pD d w x W a o one f v8 v9 v10) G=some (.v (.ow (.lst (A.map wI))),(pD d w x W a o one f v8 v9 v10),G)):a7 gj g (pD d w x W a o one f v8 v9 v10) G=some (.v (.ow (.lst (A.reverse.map wI))),(pD d w x W a o one f v8 v9 v10),G):=by
 rw [List.map_reverse]
 exact hV h rfl
def zy{g:Mo Ev}{A:List (List Nat)}(h:g (pD d w x W a o one f v8 v9 v10) G=some (.v (.ow (.lst (A.map wI))),(pD d w x W a o one f v8 v9 v10),G)):bf g (pD d w x W a o one f v8 v9 v10) G=some (⇑(.ref G.length),(pD d w x W a o one f v8 v9 v10),G++[M.lst (A.map wI)]):=aq h rfl
end
end
section
set_option maxHeartbeats 1000000
variable {G:List M}{d l w:Nat}{ys:List Str}
def zA(f:List Nat->Nat)(W:List (List Nat))(a:Nat)(p:List Nat) :
  sm f (W.take a++W.drop (a+1))≤sm f W/\sm f (W.take (a+1)++W.drop a)≤2*sm f W/\sm f (W.take a++[p]++W.drop (a+1))≤sm f W+f p/\sm f (W.take a++[p]++W.drop a)≤sm f W+f p/\sm f (W.take a++((W.drop a).take 2).reverse++W.drop (a+2))≤sm f W:=by
 have h0:=mT f a W
 have h1:=mT f (a+1) W
 have h2:=mT f 2 (W.drop a)
 have h3:=mT f 1 (W.drop a)
 rw [List.drop_drop] at h2 h3
 simp only [qA,mU,zi]
 lia
def JI(W:List (List Nat))(a:Nat):(W.take a).length≤W.length/\(W.drop a).length≤W.length:=by
 rw [z2b,z2d];lia
def JJ{x:List Nat}{a o:Nat}{one:List Nat}{f:Nat}(hx:x.length≤6000)(ho:one.length≤12/\one.count 40≤1)(hf:f<5)(s:Nd G d l w ys):∃(y:List Nat) (G':List M),
  (ak (aN (bd (af (bf (ai aD (az (aa 3) aC (av (aa 4))) (az (aa 3) (av (ai aD (aa 4) (ag (.int 1)))) aC))) (af (bf (ai aD (az (aa 3) aC (av (ai aD (aa 4) (ag (.int 1))))) (az (aa 3) (av (aa 4)) aC))) (af (bf (ai aD (ai aD (az (aa 3) aC (av (aa 4))) (bd (af (aa 6) ae) aM)) (az (aa 3) (av (ai aD (aa 4) (ag (.int 1)))) aC))) ae))) aM) (aG 8))
 (ak (aN (ai aD (aa 8) (bd (af (bf (ai aD (ai aD (az (aa 3) aC (av (aa 4))) (bd (af (aa 6) ae) aM)) (az (aa 3) (av (aa 4)) aC))) (af (bf (ai aD (ai aD (az (aa 3) aC (av (aa 4))) (a7 gj (az (aa 3) (av (aa 4)) (av (ai aD (aa 4) (ag (.int 2))))))) (az (aa 3) (av (ai aD (aa 4) (ag (.int 2)))) aC))) ae)) aM)) (aG 8))
 (ax (fP dm (ag (.str " ")) (af (ai aJ (aa 8) (aa 7)) ae))))) (pD d w x (b5 32 x) a o one f none none none) G=some (.rt (.im (.str (ah y))) G')/\Sm x y/\Nd G' d l w ys:=by
 obtain⟨W,hW⟩:∃W,W=b5 32 x:=⟨_,rfl⟩
 have n1:=(mS 32 x).1
 have m1:=zk x
 have m2:=zl x
 rw [<- hW] at n1 m1 m2
 rw [<- hW]
 have pn:=JI W
 obtain⟨b0,b1,b2,b3,b4⟩:=zA l1 W a one
 obtain⟨c0,c1,c2,c3,c4⟩:=zA c40 W a one
 have o1:l1 one≤13:=by unfold l1;lia
 have o2:c40 one≤1:=ho.2
 obtain⟨L0,h0⟩:∃L,L=W.take a++W.drop (a+1):=⟨_,rfl⟩
 obtain⟨L1,h1⟩:∃L,L=W.take (a+1)++W.drop a:=⟨_,rfl⟩
 obtain⟨L2,h2⟩:∃L,L=W.take a++[one]++W.drop (a+1):=⟨_,rfl⟩
 obtain⟨L3,h3⟩:∃L,L=W.take a++[one]++W.drop a:=⟨_,rfl⟩
 obtain⟨L4,h4⟩:∃L,L=W.take a++((W.drop a).take 2).reverse++W.drop (a+2):=⟨_,rfl⟩
 have p0:∀{v8 v9 v10:Option Vl} {g:List M},ai aD (az (aa 3) aC (av (aa 4))) (az (aa 3) (av (ai aD (aa 4) (ag (.int 1)))) aC) (pD d w x W a o one f v8 v9 v10) g=some (.v (.ow (.lst (L0.map wI))),pD d w x W a o one f v8 v9 v10,g):=λ{_ _ _ _}=>by
  rw [h0];exact qE (mX qW) (kj (zu 1)) (by have:=(pn a).1;have:=(pn (a+1)).2;lia)
 have p1:∀{v8 v9 v10:Option Vl} {g:List M},ai aD (az (aa 3) aC (av (ai aD (aa 4) (ag (.int 1))))) (az (aa 3) (av (aa 4)) aC) (pD d w x W a o one f v8 v9 v10) g=some (.v (.ow (.lst (L1.map wI))),pD d w x W a o one f v8 v9 v10,g):=λ{_ _ _ _}=>by
  rw [h1];exact qE (mX (zu 1)) (kj qW) (by have:=(pn (a+1)).1;have:=(pn a).2;lia)
 have q1:∀{v8 v9 v10:Option Vl} {g:List M},ai aD (az (aa 3) aC (av (aa 4))) (bd (af (aa 6) ae) aM) (pD d w x W a o one f v8 v9 v10) g=some (.v (.ow (.lst ((W.take a++[one]).map wI))),pD d w x W a o one f v8 v9 v10,g):=λ{_ _ _ _}=>qE (mX qW) zw (by have:=(pn a).1;rw [List.length_singleton];lia)
 have p2:∀{v8 v9 v10:Option Vl} {g:List M},ai aD (ai aD (az (aa 3) aC (av (aa 4))) (bd (af (aa 6) ae) aM)) (az (aa 3) (av (ai aD (aa 4) (ag (.int 1)))) aC) (pD d w x W a o one f v8 v9 v10) g=some (.v (.ow (.lst (L2.map wI))),pD d w x W a o one f v8 v9 v10,g):=λ{_ _ _ _}=>by
  rw [h2];exact qE q1 (kj (zu 1)) (by have:=(pn a).1;have:=(pn (a+1)).2;rw [zd,List.length_singleton];lia)
 have p3:∀{v8 v9 v10:Option Vl} {g:List M},ai aD (ai aD (az (aa 3) aC (av (aa 4))) (bd (af (aa 6) ae) aM)) (az (aa 3) (av (aa 4)) aC) (pD d w x W a o one f v8 v9 v10) g=some (.v (.ow (.lst (L3.map wI))),pD d w x W a o one f v8 v9 v10,g):=λ{_ _ _ _}=>by
  rw [h3];exact qE q1 (kj qW) (by have:=(pn a).1;have:=(pn a).2;rw [zd,List.length_singleton];lia)
 have p4:∀{v8 v9 v10:Option Vl} {g:List M},ai aD (ai aD (az (aa 3) aC (av (aa 4))) (a7 gj (az (aa 3) (av (aa 4)) (av (ai aD (aa 4) (ag (.int 2))))))) (az (aa 3) (av (ai aD (aa 4) (ag (.int 2)))) aC) (pD d w x W a o one f v8 v9 v10) g=some (.v (.ow (.lst (L4.map wI))),pD d w x W a o one f v8 v9 v10,g):=λ{_ _ _ _}=>by
  rw [h4]
  have t1:=(pn a).1
  have t2:=(pn a).2
  have t3:=(pn (a+2)).2
  have t4:((W.drop a).take 2).reverse.length≤2:=by rw [z2c,z2b];lia
  exact qE (qE (mX qW) (zx (zt qW (zu 2))) (by lia)) (kj (zu 2)) (by rw [zd];lia)
 obtain⟨m0,e0⟩:∃m,m=M.lst (L0.map wI):=⟨_,rfl⟩
 obtain⟨m1',e1⟩:∃m,m=M.lst (L1.map wI):=⟨_,rfl⟩
 obtain⟨m2',e2⟩:∃m,m=M.lst (L2.map wI):=⟨_,rfl⟩
 obtain⟨m3,e3⟩:∃m,m=M.lst (L3.map wI):=⟨_,rfl⟩
 obtain⟨m4,e4⟩:∃m,m=M.lst (L4.map wI):=⟨_,rfl⟩
 have s1:aN (bd (af (bf (ai aD (az (aa 3) aC (av (aa 4))) (az (aa 3) (av (ai aD (aa 4) (ag (.int 1)))) aC))) (af (bf (ai aD (az (aa 3) aC (av (ai aD (aa 4) (ag (.int 1))))) (az (aa 3) (av (aa 4)) aC))) (af (bf (ai aD (ai aD (az (aa 3) aC (av (aa 4))) (bd (af (aa 6) ae) aM)) (az (aa 3) (av (ai aD (aa 4) (ag (.int 1)))) aC))) ae))) aM) (aG 8) (pD d w x W a o one f none none none) G=some (.nx (pD d w x W a o one f ↥[.ref G.length,.ref (G.length+1),.ref (G.length+2)] none none) (G++[m0,m1',m2'])):=by
  refine bB (x:=.ow (.lst [.ref G.length,.ref (G.length+1),.ref (G.length+2)])) (Z1:=pD d w x W a o one f none none none) (G1:=G++[m0,m1',m2']) (aq (aq (zy p0) (aq (aq (zy p1) (aq (aq (zy p2) rfl) rfl)) rfl)) ?_) rfl
  rw [e0,e1,e2]
  simp [aM,je,dR]
 obtain⟨H,hH⟩:∃H,H=G++[m0,m1',m2']:=⟨_,rfl⟩
 have lH:H.length=G.length+3:=by rw [hH];simp
 rw [<- hH] at s1
 obtain⟨V8,hV8⟩:∃V:List I,V=[.ref G.length,.ref (G.length+1),.ref (G.length+2)]:=⟨_,rfl⟩
 rw [<- hV8] at s1
 have s2:aN (ai aD (aa 8) (bd (af (bf (ai aD (ai aD (az (aa 3) aC (av (aa 4))) (bd (af (aa 6) ae) aM)) (az (aa 3) (av (aa 4)) aC))) (af (bf (ai aD (ai aD (az (aa 3) aC (av (aa 4))) (a7 gj (az (aa 3) (av (aa 4)) (av (ai aD (aa 4) (ag (.int 2))))))) (az (aa 3) (av (ai aD (aa 4) (ag (.int 2)))) aC))) ae)) aM)) (aG 8) (pD d w x W a o one f ↥V8 none none) H=some (.nx (pD d w x W a o one f ↥(V8++[.ref (G.length+3),.ref (G.length+4)]) none none) (H++[m3,m4])):=by
  refine bB (x:=.ow (.lst (V8++[.ref (G.length+3),.ref (G.length+4)]))) (Z1:=pD d w x W a o one f ↥V8 none none) (G1:=H++[m3,m4]) (aw (x:=.s 8) (y:=.v (.ow (.lst [.ref (G.length+3),.ref (G.length+4)]))) (Z2:=pD d w x W a o one f ↥V8 none none) (G2:=H++[m3,m4]) rfl (aq (aq (zy p3) (aq (aq (zy p4) rfl) rfl)) ?_) (JH rfl rfl rfl (by simp) (by simp) (by rw [hV8];simp))) rfl
  rw [e3,e4]
  simp [aM,je,dR,lH]
 obtain⟨J,hJ⟩:∃J,J=H++[m3,m4]:=⟨_,rfl⟩
 rw [<- hJ] at s2
 have SJ:Nd J d l w ys:=by rw [hJ,hH];exact (s.app _).app _
 have y1f3:J=G++[m0,m1',m2',m3,m4]:=by rw [hJ,hH];simp
 have pick:∃(L:List (List Nat)) (k:Nat),cC (V8++[.ref (G.length+3),.ref (G.length+4)]) (f:Int)=some (.ref k)/\J[k]?=some (.lst (L.map wI))/\sm l1 L≤2*x.length+15/\sm c40 L≤2*x.count 40+2:=by
  rw [hV8]
  rcases (show f=0∨f=1∨f=2∨f=3∨f=4 by lia) with z|z|z|z|z<;>subst z
  ·exact⟨L0,G.length,jd (j:=0) rfl,by rw [y1f3,<- e0];simp,by rw [h0];lia,by rw [h0];lia⟩
  ·exact⟨L1,G.length+1,jd (j:=1) rfl,by rw [y1f3,<- e1];simp,by rw [h1];lia,by rw [h1];lia⟩
  ·exact⟨L2,G.length+2,jd (j:=2) rfl,by rw [y1f3,<- e2];simp,by rw [h2];lia,by rw [h2];lia⟩
  ·exact⟨L3,G.length+3,jd (j:=3) rfl,by rw [y1f3,<- e3];simp,by rw [h3];lia,by rw [h3];lia⟩
  ·exact⟨L4,G.length+4,jd (j:=4) rfl,by rw [y1f3,<- e4];simp,by rw [h4];lia,by rw [h4];lia⟩
 obtain⟨L,k,ek,eJ,bl,bc⟩:=pick
 obtain⟨U,hU⟩:∃U:List I,U=V8++[.ref (G.length+3),.ref (G.length+4)]:=⟨_,rfl⟩
 rw [<- hU] at s2 ek
 refine⟨jz [32] L,J,aj s1 (aj s2 (aW (Z1:=pD d w x W a o one f ↥U none none) ?_)),?_,SJ⟩
 ·rw [i7]
  exact qk (e:=⇑(.str (ah [32]))) rfl rfl (es:=[⇑(.ref k)]) (Z2:=pD d w x W a o one f ↥U none none) (G2:=J) (aq (aw (x:=.s 8) (y:=⇑(.int f)) (Z2:=pD d w x W a o one f ↥U none none) (G2:=J) rfl rfl (mW rfl ek)) rfl) (zm (show pk _ J ⇑(.ref k)=_ from eJ) (by lia) rfl)
 ·rw [mR]
  have:=zj L
  have:=mV L
  exact⟨by lia,by lia⟩
end
section
variable {G:List M}{d l w:Nat}{ys:List Str}
def JK{x:List Nat}{W:List (List Nat)}{a o f:Nat}{one:List Nat}{v8 v9 v10:Option Vl}(ha:a<W.length)(ho:o<W.length):i0 3 4 5 (pD d w x W a o one f v8 v9 v10) G=some (.nx (pD d w x ((W.set a W[o]).set o W[a]) a o one f v8 v9 v10) G):=by
 have e1:er (W.map wI).length (a:Int)=some a:=by rw [z12];exact ql ha
 have e2:er (W.map wI).length (o:Int)=some o:=by rw [z12];exact ql ho
 have e3:(W.map wI)[a]?=some (wI W[a]):=by rw [List.getElem?_map,z16 ha];rfl
 have e4:(W.map wI)[o]?=some (wI W[o]):=by rw [List.getElem?_map,z16 ho];rfl
 have e5:((W.set a W[o]).set o W[a]).map wI=((W.map wI).set a (wI W[o])).set o (wI W[a]):=by rw [List.map_set,List.map_set]
 show (match er (W.map wI).length (a:Int),er (W.map wI).length (o:Int) with
  | some ia,some ib=>match (W.map wI)[ia]?,(W.map wI)[ib]? with
   | some da,some db=>some (Fl.nx ((pD d w x W a o one f v8 v9 v10).set 3 ↥(((W.map wI).set ia db).set ib da)) G)
   | _,_=>none
  | _,_=>none)=_
 rw [e1,e2]
 dsimp only
 rw [e3,e4]
 dsimp only
 rw [<- e5]
 rfl
def zB(f:List Nat->Nat)(W:List (List Nat)){a o:Nat}(ha:a<W.length)(ho:o<W.length):sm f ((W.set a W[o]).set o W[a])=sm f W:=by
 have h1:=qB f W a ha W[o]
 have h2:=qB f (W.set a W[o]) o (by rw [z29];exact ho) W[a]
 have h3:(W.set a W[o])[o]'(by rw [z29];exact ho)=W[o]:=by
  rw [List.getElem_set];split
  ·rfl
  ·rfl
 rw [h3] at h2
 lia
def JL{x:List Nat}{a o:Nat}{one:List Nat}{f:Nat}(hx:x.length≤6000)(ha:a<(b5 32 x).length)(ho:o<(b5 32 x).length):∃y:List Nat,
  ak (i0 3 4 5) (ax (fP dm (ag (.str " ")) (af (aa 3) ae))) (pD d w x (b5 32 x) a o one f none none none) G=some (.rt (.im (.str (ah y))) G)/\Sm x y:=by
 have m1:=zk x
 have m2:=zl x
 have b1:=zB l1 (b5 32 x) ha ho
 have b2:=zB c40 (b5 32 x) ha ho
 obtain⟨L,hL⟩:∃L,L=((b5 32 x).set a (b5 32 x)[o]).set o (b5 32 x)[a]:=⟨_,rfl⟩
 have e:=JK (G:=G) (d:=d) (w:=w) (x:=x) (one:=one) (f:=f) (v8:=none) (v9:=none) (v10:=none) ha ho
 rw [<- hL] at e b1 b2
 refine⟨jz [32] L,aj e (aW (Z1:=pD d w x L a o one f none none none) ?_),?_⟩
 ·rw [i7]
  exact qk (e:=⇑(.str (ah [32]))) rfl rfl (es:=[.s 3]) (Z2:=pD d w x L a o one f none none none) (G2:=G) rfl (zm rfl (by lia) rfl)
 ·rw [mR]
  have:=zj L
  have:=mV L
  exact⟨by lia,by lia⟩
def zC{x:List Nat}{Z:De}{g:Mo Ev}{p:Nat}(h1:aa 1 Z G=some (⇑(.str (ah x)),Z,G))(hg:g Z G=some (⇑(.int p),Z,G))(hp:p≤x.length)(hx:x.length≤6000):az (aa 1) aC (av g) Z G=some (⇑(.str (ah (x.take p))),Z,G):=by
 refine aq h1 (aq (m:=aC) (a:=[]) rfl (aq (m:=av g) (a:=[⇑(.int p)]) (aq hg rfl) ?_))
 show cq none (some (p:Int)) [⇑(.str (ah x)),⇑(.int p)] _ G=_
 unfold cq
 dsimp only
 rw [if_pos (by rw [bF];lia),yi (ah x) (by rw [bF];exact hp),dY]
def zD{x:List Nat}{Z:De}{g:Mo Ev}{p:Nat}(h1:aa 1 Z G=some (⇑(.str (ah x)),Z,G))(hg:g Z G=some (⇑(.int p),Z,G))(hx:x.length≤6000):az (aa 1) (av g) aC Z G=some (⇑(.str (ah (x.drop p))),Z,G):=by
 refine aq h1 (aq (m:=av g) (a:=[⇑(.int p)]) (aq hg rfl) (aq (m:=aC) (a:=[]) rfl ?_))
 show cq (some (p:Int)) none [⇑(.str (ah x)),⇑(.int p)] _ G=_
 unfold cq
 dsimp only
 rw [if_pos (by rw [bF];lia),JE]
abbrev mY:Str:=" ()+-*<=a0A_\n"
def JM:mY.cps.toList.length=13/\mY.length≤1000000:=by decide +kernel
def JN{x:List Nat}{a o:Nat}{one:List Nat}{f:Nat}(hx:x.length≤6000)(hf:6≤f/\f<9)(s:Nd G d l w ys):∃(y:List Nat) (G':List M),
 (ak (aN (bd (af (aa 0) (af (ai aD (bd (af (aa 1) ae) aI) (ag (.int 1))) ae)) (aB 2 bu)) (aG 9))
 (ak (aN (ai aJ (ag (.str " ()+-*<=a0A_\n")) (bd (af (aa 0) (af (ag (.int 13)) ae)) (aB 2 bu))) (aG 10))
 (ak (aF (ao (ai a9 (bd (af (aa 0) (af (ag (.int 2)) ae)) (aB 2 bu)) (ag (.int 0))))
 (aN (bd (af (aa 0) ae) (aB 1 qP)) (aG 10))
 aP)
 (ak (aF (ao (ai a9 (aa 7) (ag (.int 6))))
 (ax (az (aa 1) aC (av (aa 9))))
 aP)
 (ak (aF (ao (ai a9 (aa 7) (ag (.int 7))))
 (ax (ai aD (ai aD (az (aa 1) aC (av (aa 9))) (aa 10)) (az (aa 1) (av (aa 9)) aC)))
 aP)
 (ax (ai aD (ai aD (az (aa 1) aC (av (aa 9))) (ai aJ (bd (af (ag (.str "")) (af (aa 10) ae)) aM) (bd (af (aa 0) (af (ag (.int 2)) ae)) (aB 2 bu)))) (az (aa 1) (av (ai aD (aa 9) (ag (.int 1)))) aC)))))))) (pD d w x (b5 32 x) a o one f none none none) G=some (.rt (.im (.str (ah y))) G')/\Sm x y/\Nd G' d l w ys:=by
 obtain⟨W,hW⟩:∃W,W=b5 32 x:=⟨_,rfl⟩
 rw [<- hW]
 obtain⟨p,G1,e1,hp,s1⟩:=s.y10e (many:=x.length+1) (by lia) (by lia)
 obtain⟨r,G2,e2,hr,s2⟩:=s1.y10e (many:=13) (by decide) (by decide)
 obtain⟨t1,t2⟩:=JM
 obtain⟨c,ec,_⟩:=mH (xs:=mY.cps.toList) (r:=(r:Int)) (by lia) (by lia)
 obtain⟨q,G3,e3,hq,s3⟩:=s2.y10e (many:=2) (by decide) (by decide)
 have a1:aN (bd (af (aa 0) (af (ai aD (bd (af (aa 1) ae) aI) (ag (.int 1))) ae)) (aB 2 bu)) (aG 9) (pD d w x W a o one f none none none) G=some (.nx (pD d w x W a o one f none ↑(.int p) none) G1):=by
  refine bB (x:=.im (.int p)) (Z1:=pD d w x W a o one f none none none) (G1:=G1) (aq (a:=[⇑(.ref d),⇑(.int ((x.length+1:Nat):Int))]) (Z1:=pD d w x W a o one f none none none) (G1:=G) (aq (a:=⇑(.ref d)) rfl (aq (aq (aw (x:=⇑(.int x.length)) (y:=⇑(.int 1)) (aq (aq (a:=⇑(.str (ah x))) rfl rfl) ?_) rfl rfl) rfl) rfl)) (bX (xs:=[.im (.ref d),.im (.int ((x.length+1:Nat):Int))]) rfl rfl e1)) rfl
  show (if (ah x).length≤1000000 then some (Ev.v (.im (.int (ah x).length)),_,G) else none)=_
  rw [if_pos (by rw [bF];lia),bF]
 have a2:aN (ai aJ (ag (.str " ()+-*<=a0A_\n")) (bd (af (aa 0) (af (ag (.int 13)) ae)) (aB 2 bu))) (aG 10) (pD d w x W a o one f none ↑(.int p) none) G1=some (.nx (pD d w x W a o one f none ↑(.int p) ↑(.str (ah [c]))) G2) :=
  bB (aw (x:=⇑(.str mY)) (y:=⇑(.int r)) rfl (aq (a:=[⇑(.ref d),⇑(.int 13)]) rfl (bX (xs:=[.im (.ref d),.im (.int 13)]) rfl rfl e2)) (zo ec t2)) rfl
 have eq0:ao (ai a9 (bd (af (aa 0) (af (ag (.int 2)) ae)) (aB 2 bu)) (ag (.int 0))) (pD d w x W a o one f none ↑(.int p) ↑(.str (ah [c]))) G2=some (decide (q=0),pD d w x W a o one f none ↑(.int p) ↑(.str (ah [c])),G3):=by
  refine aY (aw (x:=⇑(.int q)) (y:=⇑(.int 0)) (aq (a:=[⇑(.ref d),⇑(.int 2)]) rfl (bX (xs:=[.im (.ref d),.im (.int 2)]) rfl rfl e3)) rfl ?_)
  by_cases h:q=0
  ·subst h;rfl
  ·have h':((q:Int) == 0)=false:=beq_eq_false_iff_ne.mpr (by lia)
   rw [decide_eq_false h]
   simp [a9,eS,dR,cb,dJ,bL,br,h']
 have a3:∃(c':Nat) (G4:List M),aF (ao (ai a9 (bd (af (aa 0) (af (ag (.int 2)) ae)) (aB 2 bu)) (ag (.int 0)))) (aN (bd (af (aa 0) ae) (aB 1 qP)) (aG 10)) aP (pD d w x W a o one f none ↑(.int p) ↑(.str (ah [c]))) G2=some (.nx (pD d w x W a o one f none ↑(.int p) ↑(.str (ah [c']))) G4)/\Nd G4 d l w ys:=by
  by_cases h:q=0
  ·rw [decide_eq_true h] at eq0
   obtain⟨c',G4,e4,s4⟩:=y72 s3
   exact⟨c',G4,aV eq0 (bB (aq (a:=[⇑(.ref d)]) rfl (bX (xs:=[.im (.ref d)]) rfl rfl e4)) rfl),s4⟩
  ·rw [decide_eq_false h] at eq0
   exact⟨c,G3,aL eq0 rfl,s3⟩
 obtain⟨c',G4,a3,s4⟩:=a3
 obtain⟨D,hD⟩:∃D,D=pD d w x W a o one f none ↑(.int p) ↑(.str (ah [c'])):=⟨_,rfl⟩
 rw [<- hD] at a3
 have v0:∀g,aa 0 D g=some (⇑(.ref d),D,g):=λg=>by rw [hD];rfl
 have v1:∀g,aa 1 D g=some (⇑(.str (ah x)),D,g):=λg=>by rw [hD];rfl
 have v7:∀g,aa 7 D g=some (⇑(.int f),D,g):=λg=>by rw [hD];rfl
 have v9:∀g,aa 9 D g=some (⇑(.int p),D,g):=λg=>by rw [hD];rfl
 have v10:∀g,aa 10 D g=some (⇑(.str (ah [c'])),D,g):=λg=>by rw [hD];rfl
 have v9p:∀g,ai aD (aa 9) (ag (.int 1)) D g=some (⇑(.int ((p+1:Nat):Int)),D,g):=λg=>aw (v9 g) (y:=⇑(.int 1)) rfl rfl
 have tf:∀k:Nat,ao (ai a9 (aa 7) (ag (.int k))) D G4=some (decide (f=k),D,G4):=λk=>by
  refine aY (aw (v7 G4) (y:=⇑(.int k)) rfl ?_)
  by_cases h:f=k
  ·subst h
   have h':((f:Int) == f)=true:=beq_self_eq_true _
   rw [decide_eq_true rfl]
   simp [a9,eS,dR,cb,dJ,bL,br]
  ·have h':((f:Int) == k)=false:=beq_eq_false_iff_ne.mpr (by lia)
   rw [decide_eq_false h]
   simp [a9,eS,dR,cb,dJ,bL,br,h']
 have ct:(x.take p).count 40+(x.drop p).count 40=x.count 40:=by rw [<- z17,List.take_append_drop]
 have cd:(x.drop (p+1)).count 40≤(x.drop p).count 40:=by
  have:x.drop (p+1)=(x.drop p).drop 1:=by rw [List.drop_drop]
  rw [this];exact (List.drop_sublist _ _).count_le _
 have c1:∀c:Nat,([c]:List Nat).count 40≤1:=λc=>List.count_le_length
 have lt:(x.take p).length≤x.length:=by rw [z2b];lia
 have ld:(x.take p).length+(x.drop p).length=x.length:=by rw [<- zd,List.take_append_drop]
 have ld1:(x.drop (p+1)).length≤x.length-p:=by rw [z2d];lia
 have lp:(x.take p).length≤p:=by rw [z2b];lia
 have tk:=λg=>zC (G:=g) (v1 g) (v9 g) (by lia:p≤x.length) hx
 have hd:=λg=>zD (G:=g) (v1 g) (v9 g) hx
 have hd1:=λg=>zD (G:=g) (v1 g) (v9p g) hx
 have pre:∀{y:List Nat} {G':List M},(ak (aF (ao (ai a9 (aa 7) (ag (.int 6))))
 (ax (az (aa 1) aC (av (aa 9))))
 aP)
 (ak (aF (ao (ai a9 (aa 7) (ag (.int 7))))
 (ax (ai aD (ai aD (az (aa 1) aC (av (aa 9))) (aa 10)) (az (aa 1) (av (aa 9)) aC)))
 aP)
 (ax (ai aD (ai aD (az (aa 1) aC (av (aa 9))) (ai aJ (bd (af (ag (.str "")) (af (aa 10) ae)) aM) (bd (af (aa 0) (af (ag (.int 2)) ae)) (aB 2 bu)))) (az (aa 1) (av (ai aD (aa 9) (ag (.int 1)))) aC))))) D G4=some (.rt (.im (.str (ah y))) G')->_:=λ{y G'} h=>aj a1 (aj a2 (aj a3 h))
 rcases (show f=6∨f=7∨f=8 by lia) with z|z|z
 ·have h6:=tf 6
  rw [decide_eq_true z] at h6
  exact⟨x.take p,G4,pre (a6 (aV h6 (aW (tk G4)))),⟨by lia,by lia⟩,s4⟩
 ·have h6:=tf 6
  rw [decide_eq_false (by lia)] at h6
  have h7:=tf 7
  rw [decide_eq_true z] at h7
  have:=c1 c'
  refine⟨x.take p++[c']++x.drop p,G4,pre (aj (aL h6 rfl) (a6 (aV h7 (aW (Z1:=D) (aw (aw (tk G4) (v10 G4) (kE (by rw [List.length_singleton];lia))) (hd G4) (kE (by rw [zd,List.length_singleton];lia))))))),⟨?_,?_⟩,s4⟩
  ·rw [zd,zd,List.length_singleton];lia
  ·rw [z17,z17];lia
 ·have h6:=tf 6
  rw [decide_eq_false (by lia)] at h6
  have h7:=tf 7
  rw [decide_eq_false (by lia)] at h7
  obtain⟨q5,G5,e5,h5,s5⟩:=s4.y10e (many:=2) (by decide) (by decide)
  have pk5:∃u:List Nat,cC [I.str "",I.str (ah [c'])] (q5:Int)=some (.str (ah u))/\u.length≤1:=by
   rcases (show q5=0∨q5=1 by lia) with z|z<;>subst z
   ·exact⟨[],by rw [mL];exact cO _ _,by simp⟩
   ·exact⟨[c'],iz _ _ _,by simp⟩
  obtain⟨u,eu,lu⟩:=pk5
  have cu:u.count 40≤u.length:=List.count_le_length
  have ls:bd (af (ag (.str "")) (af (aa 10) ae)) aM D G4=some (.v (.ow (.lst [.str "",.str (ah [c'])])),D,G4):=aq (aq (a:=⇑(.str "")) rfl (aq (aq (v10 G4) rfl) rfl)) rfl
  have ix:ai aJ (bd (af (ag (.str "")) (af (aa 10) ae)) aM) (bd (af (aa 0) (af (ag (.int 2)) ae)) (aB 2 bu)) D G4=some (⇑(.str (ah u)),D,G5):=aw ls (aq (aq (v0 G4) (aq (a:=[⇑(.int 2)]) rfl rfl)) (bX (xs:=[.im (.ref d),.im (.int 2)]) rfl rfl e5)) (mW rfl eu)
  refine⟨x.take p++u++x.drop (p+1),G5,pre (aj (aL h6 rfl) (aj (aL h7 rfl) (aW (Z1:=D) (aw (aw (tk G4) ix (kE (by lia))) (hd1 G5) (kE (by rw [zd];lia)))))),⟨?_,?_⟩,s5⟩
  ·rw [zd,zd];lia
  ·rw [z17,z17];lia
def JO{x:List Nat}(hx:x.length≤6000)(s:Nd G d l w ys):∃(y:List Nat) (G':List M),AG [.im (.ref d),.im (.str (ah x)),.im (.ref w)] G=some (.im (.str (ah y)),G')/\Sm x y/\Nd G' d l w ys:=by
 have n0:=List.length_pos_iff.mpr (i4 32 x)
 have n1:=(mS 32 x).1
 obtain⟨W,hW⟩:∃W,W=b5 32 x:=⟨_,rfl⟩
 obtain⟨a,G1,e1,ha,s1⟩:=s.y10e (many:=W.length) (by rw [hW];lia) (by rw [hW];lia)
 obtain⟨o,G2,e2,ho,s2⟩:=s1.y10e (many:=W.length) (by rw [hW];lia) (by rw [hW];lia)
 obtain⟨one,G3,e3,l3,c3,s3⟩:=zq s2
 obtain⟨f,G4,e4,hf,s4⟩:=s3.y10e (many:=9) (by decide) (by decide)
 have t1:aN (fP iZ (aa 1) (af (ag (.str " ")) ae)) (aG 3) [↑(.ref d),↑(.str (ah x)),↑(.ref w),none,none,none,none,none,none,none,none] G=some (.nx [↑(.ref d),↑(.str (ah x)),↑(.ref w),↥(W.map wI),none,none,none,none,none,none,none] G):=by
  refine bB (x:=.ow (.lst (W.map wI))) (Z1:=[↑(.ref d),↑(.str (ah x)),↑(.ref w),none,none,none,none,none,none,none,none]) (G1:=G) (qk (e:=⇑(.str (ah x))) rfl rfl (es:=[⇑(.str " ")]) rfl ?_) rfl
  have z3:((" " : Str).length == 0)=false:=by decide +kernel
  have:(Txt.split (ah x) " ").map I.str=W.map wI:=by rw [yh,qd,dY,hW,z31];rfl
  unfold iZ
  dsimp only
  rw [if_pos ⟨z3,by rw [bF];lia⟩,this]
 have ln:∀{Z:De} {g:List M},Z[3]?=some ↥(W.map wI)->Z[0]?=some ↑(.ref d)->bd (af (aa 0) (af (bd (af (aa 3) ae) aI) ae)) (rt) Z g=some ([⇑(.ref d),⇑(.int W.length)],Z,g):=λ{Z g} h h0=>by
  have v3:aa 3 Z g=some (.s 3,Z,g):=by unfold aa;rw [h]
  have v0:aa 0 Z g=some (⇑(.ref d),Z,g):=by unfold aa;rw [h0]
  refine aq (aq v0 (aq (aq (aq (aq v3 rfl) ?_) rfl) rfl)) rfl
  unfold aI
  dsimp only
  rw [show sq Z g (.s 3)=some (W.map wI) from by simp [sq,pk,h]]
  dsimp only
  rw [z12]
 have oB:∀{Z:De} {g:List M},Z[3]?=some ↥(W.map wI)->bd (af (aa 3) ae) aI Z g=some (⇑(.int W.length),Z,g):=λ{Z g} h=>by
  have v3:aa 3 Z g=some (.s 3,Z,g):=by unfold aa;rw [h]
  refine aq (aq v3 rfl) ?_
  unfold aI
  dsimp only
  rw [show sq Z g (.s 3)=some (W.map wI) from by simp [sq,pk,h]]
  dsimp only
  rw [z12]
 have t2:aN (bd (af (aa 0) (af (bd (af (aa 3) ae) aI) ae)) (aB 2 bu)) (aG 4) [↑(.ref d),↑(.str (ah x)),↑(.ref w),↥(W.map wI),none,none,none,none,none,none,none] G=some (.nx [↑(.ref d),↑(.str (ah x)),↑(.ref w),↥(W.map wI),↑(.int a),none,none,none,none,none,none] G1) :=
  bB (aq (aq (a:=⇑(.ref d)) rfl (aq (aq (oB rfl) rfl) rfl)) (bX (xs:=[.im (.ref d),.im (.int W.length)]) rfl rfl e1)) rfl
 have t3:aN (bd (af (aa 0) (af (bd (af (aa 3) ae) aI) ae)) (aB 2 bu)) (aG 5) [↑(.ref d),↑(.str (ah x)),↑(.ref w),↥(W.map wI),↑(.int a),none,none,none,none,none,none] G1=some (.nx [↑(.ref d),↑(.str (ah x)),↑(.ref w),↥(W.map wI),↑(.int a),↑(.int o),none,none,none,none,none] G2) :=
  bB (aq (aq (a:=⇑(.ref d)) rfl (aq (aq (oB rfl) rfl) rfl)) (bX (xs:=[.im (.ref d),.im (.int W.length)]) rfl rfl e2)) rfl
 have t4:aN (bd (af (aa 0) (af (aa 2) ae)) (aB 2 pU)) (aG 6) [↑(.ref d),↑(.str (ah x)),↑(.ref w),↥(W.map wI),↑(.int a),↑(.int o),none,none,none,none,none] G2=some (.nx [↑(.ref d),↑(.str (ah x)),↑(.ref w),↥(W.map wI),↑(.int a),↑(.int o),↑(.str (ah one)),none,none,none,none] G3) :=
  bB (aq (a:=[⇑(.ref d),⇑(.ref w)]) rfl (bX (xs:=[.im (.ref d),.im (.ref w)]) rfl rfl e3)) rfl
 have t5:aN (bd (af (aa 0) (af (ag (.int 9)) ae)) (aB 2 bu)) (aG 7) [↑(.ref d),↑(.str (ah x)),↑(.ref w),↥(W.map wI),↑(.int a),↑(.int o),↑(.str (ah one)),none,none,none,none] G3=some (.nx (pD d w x W a o one f none none none) G4) :=
  bB (aq (a:=[⇑(.ref d),⇑(.int 9)]) rfl (bX (xs:=[.im (.ref d),.im (.int 9)]) rfl rfl e4)) rfl
 have q1:ao (ai dS (aa 7) (ag (.int 5))) (pD d w x W a o one f none none none) G4=some (decide ((f:Int)<5),pD d w x W a o one f none none none,G4):=aY (aw (x:=⇑(.int f)) (y:=⇑(.int 5)) rfl rfl rfl)
 have q2:ao (ai a9 (aa 7) (ag (.int 5))) (pD d w x W a o one f none none none) G4=some (decide (f=5),pD d w x W a o one f none none none,G4):=by
  refine aY (aw (x:=⇑(.int f)) (y:=⇑(.int 5)) rfl rfl ?_)
  by_cases h:f=5
  ·subst h;rfl
  ·have h':((f:Int) == 5)=false:=beq_eq_false_iff_ne.mpr (by lia)
   rw [decide_eq_false h]
   simp [a9,eS,dR,cb,dJ,bL,br,h']
 by_cases h5:f<5
 ·rw [decide_eq_true (by lia)] at q1
  obtain⟨y,G',e,hy,s'⟩:=JJ (x:=x) (a:=a) (o:=o) (one:=one) (f:=f) hx ⟨l3,c3⟩ h5 s4
  rw [<- hW] at e
  exact⟨y,G',aK rfl (aj t1 (aj t2 (aj t3 (aj t4 (aj t5 (a6 (aV q1 e))))))),hy,s'⟩
 ·rw [decide_eq_false (by lia)] at q1
  by_cases h6:f=5
  ·rw [decide_eq_true h6] at q2
   obtain⟨y,e,hy⟩:=JL (G:=G4) (d:=d) (w:=w) (x:=x) (a:=a) (o:=o) (one:=one) (f:=f) hx (by rw [<- hW];exact ha) (by rw [<- hW];exact ho)
   rw [<- hW] at e
   exact⟨y,G4,aK rfl (aj t1 (aj t2 (aj t3 (aj t4 (aj t5 (aj (aL q1 rfl) (a6 (aV q2 e)))))))),hy,s4⟩
  ·rw [decide_eq_false h6] at q2
   obtain⟨y,G',e,hy,s'⟩:=JN (x:=x) (a:=a) (o:=o) (one:=one) (f:=f) hx ⟨by lia,hf⟩ s4
   rw [<- hW] at e
   exact⟨y,G',aK rfl (aj t1 (aj t2 (aj t3 (aj t4 (aj t5 (aj (aL q1 rfl) (aj (aL q2 rfl) e))))))),hy,s'⟩
end
section
def yfa(w:Nat):(dg w).count 40=0:=List.count_eq_zero.mpr λh=>by have:=kc w _ h;lia
theorem Tm.c40:∀{t:Tm},t.ok->2*(t.tx.count 40+1)≤2 ^ t.deep
 | .num w,_=>by rw [tx,yfa,deep];decide
 | .cell x,h=>by rw [tx,Nm.c40 h,deep];decide
 | .at_ r t,h=>by
  have h1:=t.c40 h.2
  have h2:=Nm.c40 h.1
  have:(tx (.at_ r t)).count 40=t.tx.count 40+1:=by
   rw [tx];simp [z17,h2]
  rw [this,deep,Nat.pow_succ];lia
 | .op s a b,h=>by
  have h1:=a.c40 h.2.1
  have h2:=b.c40 h.2.2
  have h3:2 ^ a.deep≤2 ^ max a.deep b.deep:=Nat.pow_le_pow_right (by decide) (Nat.le_max_left _ _)
  have h4:2 ^ b.deep≤2 ^ max a.deep b.deep:=Nat.pow_le_pow_right (by decide) (Nat.le_max_right _ _)
  have h5:s≠40:=h.1.plain.1
  have:(tx (.op s a b)).count 40=a.tx.count 40+b.tx.count 40+1:=by
   rw [tx];simp [z17,List.count_cons,h5]
  rw [this,deep,Nat.pow_succ];lia
abbrev gB(i:Nat):Nat:=1280*2 ^ i
abbrev gC(i:Nat):Nat:=18*2 ^ i
def JP{d l w:Nat}{ys:List Str}{v0 v3 v6:Option Vl}{N:Nat}{x:List Nat}{G:List M}(hN:N≤3)(hx:x.length+20≤1280)(hc:x.count 40+2≤18)(s:Nd G d l w ys){v5:Option Vl} :
  ∃(y:List Nat) (v5':Option Vl) (G':List M),bC (mz N) (aG 5) HF 0 N [v0,↑(.ref d),↑(.ref w),v3,↑(.str (ah x)),v5,v6] G=some (.nx [v0,↑(.ref d),↑(.ref w),v3,↑(.str (ah y)),v5',v6] G')/\y.length≤19000/\y.count 40<150/\Nd G' d l w ys:=by
 obtain⟨Z',G',e,y,v5',ed,ly,cy,sy⟩:=mC (w:=mz N) (g:=aG 5) (b:=HF) (λi Z G'=>∃(y:List Nat) (v5:Option Vl),Z=[v0,↑(.ref d),↑(.ref w),v3,↑(.str (ah y)),v5,v6]/\y.length+20≤gB i/\y.count 40+2≤gC i/\Nd G' d l w ys)
  (λi Z g hi p=>by
   obtain⟨y,v5,rfl,ly,cy,sy⟩:=p
   have hi:i<N:=hi
   have hB:gB i≤5120/\gB (i+1)=2*gB i/\gC (i+1)=2*gC i:=by
    rcases (show i=0∨i=1∨i=2 by lia) with z|z|z<;>subst z<;>decide
   obtain⟨z,g',e,hz,s'⟩:=JO (x:=y) (by lia) sy
   refine⟨.int i,_,g,_,g',rfl,rfl,bB (aq (a:=[⇑(.ref d),⇑(.str (ah y)),⇑(.ref w)]) rfl (bX (xs:=[.im (.ref d),.im (.str (ah y)),.im (.ref w)]) rfl rfl e)) rfl,z,_,rfl,?_,?_,s'⟩
   ·have:=hz.1;lia
   ·have:=hz.2;lia)
  (λ_ _ _=>rfl) N 0 [v0,↑(.ref d),↑(.ref w),v3,↑(.str (ah x)),v5,v6] G (by rw [mB];lia) ⟨x,_,rfl,hx,hc,s⟩
 have hb:gB N≤10240/\gC N≤144:=by
  rcases (show N=0∨N=1∨N=2∨N=3 by lia) with z|z|z|z<;>subst z<;>decide
 have ly:y.length+20≤gB N:=ly
 have cy:y.count 40+2≤gC N:=cy
 exact⟨y,v5',G',by rw [ed] at e;exact e,by lia,by lia,sy⟩
def JQ(ns:List Int)(h:ns.length≤63):∃G,HG [.im (.fro (ns.map I.int))] []=some (.im (.bl true),G):=by
 obtain⟨a,so,le,e1,a0,a1,hle⟩:=yee (b:=0) (G:=[]) h (by lia)
 have e1':xD [.im (.fro (ns.map I.int)),.im (.int 0)] []=some (.ow (.dic (dz a 0 1)),[M.lst (so.map I.int),M.lst (le.map I.int)]):=e1
 obtain⟨sc,hsc⟩:∃sc,sc=I.fro (ns.map I.int):=⟨_,rfl⟩
 rw [<- hsc] at e1' ⊢
 have D0:DG [M.lst (so.map I.int),M.lst (le.map I.int),M.dic (dz a 0 1)] 2 1:=⟨a,0,le,rfl,rfl,by decide,a0,a1,Int.le_refl _,hle⟩
 obtain⟨ys,G1,e2,ly,hy,D1,mo⟩:=Iu D0
 have l1:3≤G1.length:=mo.len
 have S1:Sn (G1++[M.lst (ys.map I.str)]++[M.lst [.int 7]]) 2 1 G1.length (G1.length+1) ys :=
  ⟨(D1.app _).app _,by simp,⟨7,by simp⟩,⟨by lia,by lia⟩,⟨by lia,by lia⟩,by lia,by lia,by lia,hy⟩
 obtain⟨t,G2,e3,k1,d1,S2,l2⟩:=AQ 9 0 (by decide) (by decide) S1
 have hsz:=Tm.y425 (t:=t) (by lia)
 have hln:=t.y4c0 k1
 have hct:=t.c40 k1
 have h64:2 ^ t.deep≤2 ^ 5:=Nat.pow_le_pow_right (by decide) (by lia)
 have e4:=mJ 9 (t:=t) (G:=G2) (by lia) k1 (by lia)
 have N2:Nd G2 2 1 G1.length ys:=⟨S2.D,S2.hw,by lia,by lia,ly,hy⟩
 obtain⟨r,G3,e5,hr,N3⟩:=N2.y10e (many:=3) (by decide) (by decide)
 obtain⟨y,v5,G4,e6,y1,y2,N4⟩:=JP (v0:=↑sc) (v3:=↑(.str (ah t.tx))) (v5:=none) (v6:=none) (N:=1+r) (x:=t.tx) (by lia) (by lia) (by lia) N3
 obtain⟨z1,G5,e7,b1,c1',N5⟩:=JG N4
 obtain⟨z2,G6,e8,b2,c2,N6⟩:=zq N5
 obtain⟨Ts,hTs⟩:∃Ts,Ts=[t.tx,y,z1,z2]:=⟨_,rfl⟩
 have ok:∀x∈Ts++Ts,x.length≤19000/\x.count 40<150:=λx hx=>by
  have hx:x∈Ts:=by rcases z1e.mp hx with h|h<;>exact h
  rw [hTs] at hx
  simp only [z1f,List.not_mem_nil,or_false] at hx
  rcases hx with e|e|e|e<;>subst e<;>constructor<;>lia
 have lT:(Ts++Ts).length=8:=by rw [hTs];rfl
 obtain⟨D,hD⟩:∃D:De,D=[↑sc,↑(.ref 2),↑(.ref G1.length),↑(.str (ah t.tx)),↑(.str (ah y)),v5,↥(Ts.map wI)]:=⟨_,rfl⟩
 have hk:(G6++[M.lst ((Ts++Ts).map wI)])[G6.length]?=some (.lst ((Ts++Ts).map wI)):=by simp
 obtain⟨ds,G7,e9,ed,_⟩:=qb (w:=ck ⇑(.ref G6.length) 8) (c:=c1) (tt:=bT) (te:=bd (af (aa 0) ae) (aB 1 xK)) (di:=[]) (Z:=D) (λi acc G'=>acc=(List.replicate i true).map I.bl/\G'[G6.length]?=some (.lst ((Ts++Ts).map wI)))
  (λi acc g hi zz=>by
   obtain⟨ea,eg⟩:=zz
   have hi:i<(Ts++Ts).length:=by rw [lT];exact hi
   obtain⟨p,q⟩:=ok _ (z30 hi)
   obtain⟨g',e,fr⟩:=JD (G:=g) p q
   refine⟨wI (Ts++Ts)[i],[wI (Ts++Ts)[i]],_,_,.bl true,[↑(wI (Ts++Ts)[i])],g',?_,rfl,rfl,aq (aq rfl rfl) (bX (xs:=[.im (wI (Ts++Ts)[i])]) rfl rfl e),by rw [ea,List.replicate_succ',z28];rfl,(fr.2 _ (z19.mp eg).1).trans eg⟩
   show (sq D g ⇑(.ref G6.length)).bind (·[i]?)=_
   rw [show sq D g ⇑(.ref G6.length)=some ((Ts++Ts).map wI) from by simp only [sq,pk,eg]]
   show ((Ts++Ts).map wI)[i]?=_
   rw [List.getElem?_map,z16 hi];rfl)
  (λacc g p=>by
   have:sq D g ⇑(.ref G6.length)=some ((Ts++Ts).map wI):=by simp only [sq,pk,p.2]
   simp only [ck,this,z12,lT];rfl) 8 0 [] (G6++[M.lst ((Ts++Ts).map wI)]) rfl ⟨rfl,hk⟩
 have ed:ds=(List.replicate 8 true).map I.bl:=ed
 refine⟨G7,aK rfl ?_⟩
 refine aj (bB (x:=.ow (.dic (dz a 0 1))) (Z1:=[↑sc,none,none,none,none,none,none]) (G1:=[M.lst (so.map I.int),M.lst (le.map I.int)]) (aq (a:=[⇑sc,⇑(.int 0)]) rfl (bX (xs:=[.im sc,.im (.int 0)]) rfl rfl e1')) rfl) ?_
 refine aj (bB (x:=.ow (.lst (ys.map I.str))) (Z1:=[↑sc,↑(.ref 2),none,none,none,none,none]) (G1:=G1) (aq (a:=[⇑(.ref 2),⇑(.int 12)]) (Z1:=[↑sc,↑(.ref 2),none,none,none,none,none]) (G1:=[M.lst (so.map I.int),M.lst (le.map I.int),M.dic (dz a 0 1)]) rfl (bX (xs:=[.im (.ref 2),.im (.int 12)]) rfl rfl e2)) rfl) ?_
 refine aj (bB (x:=.im (.str (ah t.tx))) (Z1:=[↑sc,↑(.ref 2),↑(.ref G1.length),none,none,none,none]) (G1:=G2) (aq (a:=[⇑t.i]) (Z1:=[↑sc,↑(.ref 2),↑(.ref G1.length),none,none,none,none]) (G1:=G2) (aq (aq (a:=[⇑(.ref 2),⇑(.ref G1.length),⇑(.ref (G1.length+1)),⇑(.int 0)]) (Z1:=[↑sc,↑(.ref 2),↑(.ref G1.length),none,none,none,none]) (G1:=G1++[M.lst (ys.map I.str)]++[M.lst [.int 7]]) (by simp! []) (bX (xs:=[.im (.ref 2),.im (.ref G1.length),.im (.ref (G1.length+1)),.im (.int 0)]) rfl rfl e3)) rfl) (bX (xs:=[.im t.i]) rfl rfl e4)) rfl) ?_
 refine aj (bB (x:=.im (.str (ah t.tx))) (Z1:=[↑sc,↑(.ref 2),↑(.ref G1.length),↑(.str (ah t.tx)),none,none,none]) (G1:=G2) rfl rfl) ?_
 refine aj (gx (pZ (n:=1+r) (j:=((1+r:Nat):Int)) (Z1:=[↑sc,↑(.ref 2),↑(.ref G1.length),↑(.str (ah t.tx)),↑(.str (ah t.tx)),none,none]) (G1:=G3) (aq (aw (x:=⇑(.int 1)) (y:=⇑(.int r)) rfl (aq (a:=[⇑(.ref 2),⇑(.int 3)]) rfl (bX (xs:=[.im (.ref 2),.im (.int 3)]) rfl rfl e5)) rfl) rfl) rfl (by lia)) e6) ?_
 refine aj (Z1:=D) (G1:=G6) (bB (x:=.ow (.lst (Ts.map wI))) (Z1:=[↑sc,↑(.ref 2),↑(.ref G1.length),↑(.str (ah t.tx)),↑(.str (ah y)),v5,none]) (G1:=G6) (aq (a:=[⇑(.str (ah t.tx)),⇑(.str (ah y)),⇑(.str (ah z1)),⇑(.str (ah z2))]) (Z1:=[↑sc,↑(.ref 2),↑(.ref G1.length),↑(.str (ah t.tx)),↑(.str (ah y)),v5,none]) (G1:=G6) (aq (a:=⇑(.str (ah t.tx))) rfl (aq (aq (a:=⇑(.str (ah y))) rfl (aq (aq (aq (a:=[⇑(.ref 2)]) rfl (bX (xs:=[.im (.ref 2)]) rfl rfl e7)) (aq (aq (aq (a:=[⇑(.ref 2),⇑(.ref G1.length)]) rfl (bX (xs:=[.im (.ref 2),.im (.ref G1.length)]) rfl rfl e8)) rfl) rfl)) rfl)) rfl)) (by rw [hTs];rfl)) (by rw [hD];rfl)) ?_
 have v6:aa 6 D G6=some (.s 6,D,G6):=by rw [hD];rfl
 have p6:pk D G6 (.s 6)=some (.lst (Ts.map wI)):=by rw [hD];rfl
 have bx:bf (ai aD (aa 6) (aa 6)) D G6=some (⇑(.ref G6.length),D,G6++[M.lst ((Ts++Ts).map wI)]):=by
  rw [z28]
  exact aq (aw v6 v6 (JH p6 p6 rfl (by simp) (by simp) (by rw [z12,<- zd,lT];decide))) rfl
 refine aW (Z1:=D) (aq (aq (nB (by rfl) (hZ (e:=⇑(.ref G6.length)) (n:=8) (xs:=(Ts++Ts).map wI) bx rfl (by simp only [sq,pk,hk]) (by rw [z12];exact lT)) (show 8≤100000 by decide) e9) rfl) ?_)
 rw [ed]
 rfl
end
end Q
set_option maxHeartbeats 4000000
namespace Q
open PySem PySem.Spec PyProof.Rows L2 B
noncomputable abbrev iA:List Str:=["_law_deal_here","_law_many"]
noncomputable abbrev zE:List Str:=["_law_deal_here","_law_words","_law_room","_law_down"]
noncomputable abbrev mZ:List Str:=["_law_words","_law_at"]
noncomputable abbrev km:List Str:=["_law_word_here"]
noncomputable abbrev nL5:List Str:=["cell","row","def","main","set","put","while","if","else","call","end","at"]
noncomputable abbrev m5:List Str:=["_law_deal_here"]
noncomputable abbrev JR:List Str:=["_law_deal_here","_law_text","_law_names_here"]
noncomputable abbrev AV:List Str:=["_law_deal_here","_law_names_here"]
noncomputable abbrev AW:List Str:=["_law_deal_here","_law_words"]
structure Tx(K:W.Frag)(mg:Str->Option Value)(κ:Str->Addr):Prop where
 y209:∃t,mg "FIGURES" = some (.str "0123456789" t)
 y20a:∃t,mg "LETTERS" = some (.str "abcdefghijklmnopqrstuvwxyz" t)
 y20b:∃t,mg "LONGEST_NAME" = some (.int 6 t)
 k_SIGNS:∃a,mg "SIGNS" = some (.ref a)/\bb K (λ_=>none) a (List.map V.str ["+","-","*","<","="])
 k_TAKEN:∃a,mg "TAKEN" = some (.ref a)/\bb K (λ_=>none) a (List.map V.str nL5)
 k_WIDE:∃t,mg "WIDE" = some (.int 4294967296 t)
 b_all:mg "all" = none
 b_int:mg "int" = none
 y83:mg "isinstance" = none
 b_len:mg "len" = none
 b_list:mg "list" = none
 b_max:mg "max" = none
 b_min:mg "min" = none
 b_range:mg "range" = none
 y84:mg "reversed" = none
 b_str:mg "str" = none
local macro_rules | `(tactic| solve_by_elim [$s:term,$h:term,$e:term])=>do
 let f(w:String):Lean.MacroM (Lean.TSyntax `tactic):=let q:=w.splitOn ",";let i(n:Nat):=Lean.mkIdent q[n]!.toName;match q[0]! with
 |"a"=>`(tactic|refine $(i 1) ?_ ?_)
 |"b"=>`(tactic|exact jH _)
 |"c"=>`(tactic|exact $(i 1))
 |"d"=>`(tactic|refine $(i 1) ?_)
 |"e"=>`(tactic|refine vT $e (rm $h) ?_)
 |"f"=>`(tactic|refine vU ($s).nd ?_)
 |"g"=>`(tactic|refine $(i 1) $h ?_ ?_)
 |"h"=>`(tactic|refine iN ($(i 1) $h) $(i 2) ?_ ?_)
 |"i"=>`(tactic|refine $(i 1) ?_ ?_ ?_)
 |"j"=>`(tactic|refine $(i 1) $h $e ?_)
 |"k"=>`(tactic|refine t_w ($(i 1) ?_ ?_))
 |"l"=>`(tactic|refine Fp (yc6 (osc:=wb $s) (N:=nOf $s) rfl rfl (by decide +kernel)) ?_ (λ_=>?_) (λ_=>?_))
 |"m"=>`(tactic|exact uY ($s).nd)
 |"n"=>`(tactic|refine vK $h ?_ ?_ ?_)
 |"o"=>`(tactic|exact $(i 1) (by rfl) $e)
 |"p"=>`(tactic|refine Fq (yc6 (osc:=wb $s) (N:=nOf $s) rfl rfl (by decide +kernel)) ?_ (λ_=>?_) (λ_=>?_) ($s).nd)
 |"q"=>`(tactic|refine Fo $e ?_)
 |"r"=>`(tactic|exact Fy (by rfl) $e PyProof.Rows.boot_str)
 |"s"=>`(tactic|refine EV $e $e ?_)
 |"t"=>`(tactic|refine vR $h ?_)
 |_=>`(tactic|refine Gk $e ?_ ?_)
 let mut t←`(tactic|fail)
 for w in ("a,Ay b c,DU c,uK c,uI a,Eb d,uV e f d,uW g,EJ h,uZ,u4 i,Ed c,Ea d,uN d,EX i,vG g,Ez j,vE c,EW a,Gm h,vc,vd d,uM c,uJ h,u7,u9 d,uO k,uQ c,vX g,EE d,vW d,DW k,uP g,ED l g,E7 d,Ec c,DT d,D6 m i,uX n d,vg o,Gd d,wF h,u5,u6 g,Fx d,wD j,wa d,vS a,we g,EA p g,EF i,ye3 h,El,Em q j,Fw a,uQ g,EM g,wB g,vt j,ET d,E8 a,Ee g,EB o,FG o,Gf r j,Gj c,wG d,Gn h,ve,vf d,vY s c,vQ t g,EL g,vC j,Gi j,EU g,Gq d,vH c,wQ j,Gy a,Fh g,EC g,Gg g,Gh d,uR g,wO d,uU g,wC c,F9 u d,uL d,uS".splitOn " ").reverse do
  let u←f w
  t←`(tactic|first|$u:tactic|$t:tactic)
 `(tactic|repeat' $t:tactic)
section
variable {P:Program}{w:World}{K:W.Frag}{mg:Str->Option Value}{base:Heap}{κ:Str->Addr}
def zF:y40 ["_law_script","_law_base","_law_some","_law_number","_law_one"] ["_law_script","_law_base"] (bp (top 28)):=ba
def JS{f:Addr}{fd:FuncData}(F:Fun K "_law_deal" "_law_deal" (top 28) f fd)(E:Tx K mg κ):y3f P w K mg base bH 1 f fd ["_law_script","_law_base"] (aQ K κ 2 xD) :=
 bA F zF rfl rfl λcdv A outer s H _ hr=>by cases E;solve_by_elim [zF,hr,by assumption]
def zG:y40 ["_law_deal_here","_law_many","_law_number","_law_one","_law_other"] iA (bp (top 29)):=ba
def JT{f:Addr}{fd:FuncData}(F:Fun K "_law_draw" "_law_draw" (top 29) f fd)(E:Tx K mg κ):y3f P w K mg base bH 1 f fd iA (aQ K κ 2 bu) :=
 bA F zG rfl rfl λcdv A outer s H _ hr=>by cases E;solve_by_elim [zG,hr,by assumption]
def zH:y40 ["_law_deal_here","_law_many","_law_letters","_law_core","_law_at","_law_turn","_law_found","_law_k","_law_own","_law_spare","_law_kept","_law_name"] iA (bp (top 30)):=ba
def JU{f:Addr}{fd:FuncData}(F:Fun K "_law_names" "_law_names" (top 30) f fd)(E:Tx K mg κ)(y18a:bP P w K mg base "_law_draw" 1 iA (aQ K κ 2 bu)):y3f P w K mg base bH 2 f fd iA (aQ K κ 2 xF) :=
 bA F zH rfl rfl λcdv A outer s H _ hr=>by cases E;solve_by_elim [zH,hr,by assumption]
def zI:y40 ["_law_term"] ["_law_term"] (bp (top 34)):=ba
def JV{f:Addr}{fd:FuncData}{n:Nat}(F:Fun K "_law_term_text" "_law_term_text" (top 34) f fd)(E:Tx K mg κ)(y196:bP P w K mg base "_law_term_text" (1+n) ["_law_term"] (aQ K κ 1 (j0 n))):y3f P w K mg base bH (1+n+1) f fd ["_law_term"] (aQ K κ 1 (j0 (n+1))):=by
 unfold j0
 exact bA F zI rfl rfl λcdv A outer s H _ hr=>by cases E;solve_by_elim [zI,hr,by assumption]
def zJ:y40 AW AW (bp (top 32)):=ba
def JW{f:Addr}{fd:FuncData}(F:Fun K "_law_any_name" "_law_any_name" (top 32) f fd)(E:Tx K mg κ)(y18a:bP P w K mg base "_law_draw" 1 iA (aQ K κ 2 bu)):y3f P w K mg base bH 2 f fd AW (aQ K κ 2 qO) :=
 bA F zJ rfl rfl λcdv A outer s H _ hr=>by cases E;solve_by_elim [zJ,hr,by assumption]
def zK:y40 ["_law_deal_here","_law_form"] m5 (bp (top 31)):=ba
def JX{f:Addr}{fd:FuncData}(F:Fun K "_law_word" "_law_word" (top 31) f fd)(E:Tx K mg κ)(y18a:bP P w K mg base "_law_draw" 1 iA (aQ K κ 2 bu)):y3f P w K mg base bH 2 f fd m5 (aQ K κ 1 pT) :=
 bA F zK rfl rfl λcdv A outer s H _ hr=>by cases E;solve_by_elim [zK,hr,by assumption]
def zL:y40 ["_law_deal_here","_law_words","_law_room","_law_down","_law_form","_law_name","_law_one"] zE (bp (top 33)):=ba
def JY{f:Addr}{fd:FuncData}{n:Nat}(F:Fun K "_law_any_term" "_law_any_term" (top 33) f fd)(E:Tx K mg κ)(y187:bP P w K mg base "_law_any_term" (3+n) zE (aQ K κ 4 (j4 n)))(y18a:bP P w K mg base "_law_draw" 1 iA (aQ K κ 2 bu))(y185:bP P w K mg base "_law_any_name" 2 AW (aQ K κ 2 qO))(y197:bP P w K mg base "_law_word" 2 m5 (aQ K κ 1 pT)):y3f P w K mg base bH (3+n+1) f fd zE (aQ K κ 4 (j4 (n+1))):=by
 unfold j4
 exact bA F zL rfl rfl λcdv A outer s H _ hr=>by cases E;solve_by_elim [zL,hr,by assumption]
def zM:y40 ["_law_deal_here","_law_names_here","_law_some"] AV (bp (top 41)):=ba
def JZ{f:Addr}{fd:FuncData}(F:Fun K "_law_odd_word" "_law_odd_word" (top 41) f fd)(E:Tx K mg κ)(y18a:bP P w K mg base "_law_draw" 1 iA (aQ K κ 2 bu)):y3f P w K mg base bH 2 f fd AV (aQ K κ 2 pU) :=
 bA F zM rfl rfl λcdv A outer s H _ hr=>by cases E;solve_by_elim [zM,hr,by assumption]
def zN:y40 ["_law_deal_here","_law_some"] m5 (bp (top 42)):=ba
def J0{f:Addr}{fd:FuncData}(F:Fun K "_law_any_sign" "_law_any_sign" (top 42) f fd)(E:Tx K mg κ)(y18a:bP P w K mg base "_law_draw" 1 iA (aQ K κ 2 bu)):y3f P w K mg base bH 2 f fd m5 (aQ K κ 1 qP) :=
 bA F zN rfl rfl λcdv A outer s H _ hr=>by cases E;solve_by_elim [zN,hr,by assumption]
def zO:y40 ["_law_deal_here","_law_text","_law_names_here","_law_words","_law_at","_law_other","_law_one","_law_form","_law_some","_law_spot","_law_sign"] JR (bp (top 43)):=ba
def J1{f:Addr}{fd:FuncData}(F:Fun K "_law_spoilt" "_law_spoilt" (top 43) f fd)(E:Tx K mg κ)(y18a:bP P w K mg base "_law_draw" 1 iA (aQ K κ 2 bu))(y186:bP P w K mg base "_law_any_sign" 2 m5 (aQ K κ 1 qP))(y191:bP P w K mg base "_law_odd_word" 2 AV (aQ K κ 2 pU)):y3f P w K mg base bH 3 f fd JR (aQ K κ 3 AG) :=
 bA F zO rfl rfl λcdv A outer s H _ hr=>by cases E;solve_by_elim [zO,hr,by assumption]
def zP:y40 ["_law_deal_here","_law_found"] m5 (bp (top 46)):=ba
def J2{f:Addr}{fd:FuncData}(F:Fun K "_law_odd" "_law_odd" (top 46) f fd)(E:Tx K mg κ)(y18a:bP P w K mg base "_law_draw" 1 iA (aQ K κ 2 bu)):y3f P w K mg base bH 2 f fd m5 (aQ K κ 1 AH) :=
 bA F zP rfl rfl λcdv A outer s H _ hr=>by cases E;solve_by_elim [zP,hr,by assumption]
def zQ:y40 mZ mZ (bp (top 38)):=ba
def J3{f:Addr}{fd:FuncData}(F:Fun K "_law_seen" "_law_seen" (top 38) f fd)(E:Tx K mg κ):y3f P w K mg base bH 1 f fd mZ (aQ K κ 2 gL) :=
 bA F zQ rfl rfl λcdv A outer s H _ hr=>by cases E;solve_by_elim [zQ,hr,by assumption]
def zR:y40 ["_law_word_here","_law_kept"] km (bp (top 35)):=ba
def J4{f:Addr}{fd:FuncData}(F:Fun K "_law_is_name" "_law_is_name" (top 35) f fd)(E:Tx K mg κ):y3f P w K mg base bH 1 f fd km (aQ K κ 1 my) :=
 bA F zR rfl rfl λcdv A outer s H _ hr=>by cases E;solve_by_elim [zR,hr,by assumption]
def zS:y40 km km (bp (top 36)):=ba
def J5{f:Addr}{fd:FuncData}(F:Fun K "_law_is_number" "_law_is_number" (top 36) f fd)(E:Tx K mg κ):y3f P w K mg base bH 1 f fd km (aQ K κ 1 qQ) :=
 bA F zS rfl rfl λcdv A outer s H _ hr=>by cases E;solve_by_elim [zS,hr,by assumption]
def zT:y40 km km (bp (top 37)):=ba
def J7{f:Addr}{fd:FuncData}(F:Fun K "_law_is_word" "_law_is_word" (top 37) f fd)(E:Tx K mg κ)(y18c:bP P w K mg base "_law_is_number" 1 km (aQ K κ 1 qQ)):y3f P w K mg base bH 2 f fd km (aQ K κ 1 qR) :=
 bA F zT rfl rfl λcdv A outer s H _ hr=>by cases E;solve_by_elim [zT,hr,by assumption]
def zU:y40 ["_law_words","_law_at","_law_word_here","_law_head"] mZ (bp (top 39)):=ba
def J8{f:Addr}{fd:FuncData}{n:Nat}(F:Fun K "_law_behind" "_law_behind" (top 39) f fd)(E:Tx K mg κ)(y194:bP P w K mg base "_law_seen" 1 mZ (aQ K κ 2 gL))(y18b:bP P w K mg base "_law_is_name" 1 km (aQ K κ 1 my))(y188:bP P w K mg base "_law_behind" (3+n) mZ (aQ K κ 2 (gM n)))(y18e:bP P w K mg base "_law_is_word" 2 km (aQ K κ 1 qR)):y3f P w K mg base bH (3+n+1) f fd mZ (aQ K κ 2 (gM (n+1))):=by
 unfold gM
 exact bA F zU rfl rfl λcdv A outer s H _ hr=>by cases E;solve_by_elim [zU,hr,by assumption]
def zV:y40 ["_law_text","_law_words"] ["_law_text"] (bp (top 40)):=ba
def J9{f:Addr}{fd:FuncData}(F:Fun K "_law_is_term" "_law_is_term" (top 40) f fd)(E:Tx K mg κ)(y188:bP P w K mg base "_law_behind" 153 mZ (aQ K κ 2 (gM 150))):y3f P w K mg base bH 154 f fd ["_law_text"] (aQ K κ 1 xG) :=
 wL F zV rfl rfl rfl λcdv A outer s H _ hr=>(wR (wJ (mh (mh (wH (jH 0))))) (uY (i:=1) zV.nd) (uV (uW (vt hr (vT y188 (rm hr) (Ay (uL (jH 1)) (Ay uI DU))) (vE hr E.b_len (Ay (jH 1) DU))))))
def zW:y40 ["text"] ["text"] (bp (top 13)):=ba
def Ka{f:Addr}{fd:FuncData}(F:Fun K "is_name" "is_name" (top 13) f fd)(E:Tx K mg κ):y3f P w K mg base bH 1 f fd ["text"] (aQ K κ 1 qS) :=
 bA F zW rfl rfl λcdv A outer s H _ hr=>by cases E;solve_by_elim [zW,hr,by assumption]
def zX:y40 ["text","number","sign"] ["text"] (bp (top 14)):=ba
def Kb{f:Addr}{fd:FuncData}(F:Fun K "number_in" "number_in" (top 14) f fd)(E:Tx K mg κ):y3f P w K mg base bH 1 f fd ["text"] (aQ K κ 1 AI) :=
 bA F zX rfl rfl λcdv A outer s H _ hr=>by cases E;solve_by_elim [zX,hr,by assumption]
def zY:y40 ["text","number"] ["text"] (bp (top 18)):=ba
def Kc{f:Addr}{fd:FuncData}(F:Fun K "word_from" "word_from" (top 18) f fd)(E:Tx K mg κ)(y19d:bP P w K mg base "number_in" 1 ["text"] (aQ K κ 1 AI)):y3f P w K mg base bH 2 f fd ["text"] (aQ K κ 1 pV) :=
 bA F zY rfl rfl λcdv A outer s H _ hr=>by cases E;solve_by_elim [zY,hr,by assumption]
def zZ:y40 ["thing","word"] ["thing"] (bp (top 19)):=ba
def Kd{f:Addr}{fd:FuncData}(F:Fun K "as_term" "as_term" (top 19) f fd)(E:Tx K mg κ)(y1a4:bP P w K mg base "word_from" 2 ["text"] (aQ K κ 1 pV))(y19b:bP P w K mg base "is_name" 1 ["text"] (aQ K κ 1 qS)):y3f P w K mg base bH 3 f fd ["thing"] (aQ K κ 1 fG) :=
 bA F zZ rfl rfl λcdv A outer s H _ hr=>by cases E;solve_by_elim [zZ,hr,by assumption]
def Aa:y40 ["thing"] ["thing"] (bp (top 20)):=ba
def Ke{f:Addr}{fd:FuncData}(F:Fun K "is_name_thing" "is_name_thing" (top 20) f fd)(E:Tx K mg κ)(y19b:bP P w K mg base "is_name" 1 ["text"] (aQ K κ 1 qS)):y3f P w K mg base bH 2 f fd ["thing"] (aQ K κ 1 kA) :=
 bA F Aa rfl rfl λcdv A outer s H _ hr=>by cases E;solve_by_elim [Aa,hr,by assumption]
def Ab:y40 ["things","last","first"] ["things"] (bp (top 21)):=ba
def Kf{f:Addr}{fd:FuncData}(F:Fun K "bracketed" "bracketed" (top 21) f fd)(E:Tx K mg κ)(y198:bP P w K mg base "as_term" 3 ["thing"] (aQ K κ 1 fG))(y19c:bP P w K mg base "is_name_thing" 2 ["thing"] (aQ K κ 1 kA)):y3f P w K mg base bH 4 f fd ["things"] (aQ K κ 1 xI) :=
 bA F Ab rfl rfl λcdv A outer s H _ hr=>by cases E;solve_by_elim [Ab,hr,by assumption]
def Ac:y40 ["words","nest","word","made","terms"] ["words"] (bp (top 22)):=ba
def Kg{f:Addr}{fd:FuncData}(F:Fun K "terms_from" "terms_from" (top 22) f fd)(E:Tx K mg κ)(y198:bP P w K mg base "as_term" 3 ["thing"] (aQ K κ 1 fG))(y199:bP P w K mg base "bracketed" 4 ["things"] (aQ K κ 1 xI)):y3f P w K mg base bH 5 f fd ["words"] (aQ K κ 1 xJ) :=
 bA F Ac rfl rfl λcdv A outer s H _ hr=>by cases E;solve_by_elim [Ac,hr,by assumption]
def Ad:y40 ["words","terms"] ["words"] (bp (top 23)):=ba
def Kh{f:Addr}{fd:FuncData}(F:Fun K "one_term" "one_term" (top 23) f fd)(E:Tx K mg κ)(y1a3:bP P w K mg base "terms_from" 5 ["words"] (aQ K κ 1 xJ)):y3f P w K mg base bH 6 f fd ["words"] (aQ K κ 1 nz) :=
 bA F Ad rfl rfl λcdv A outer s H _ hr=>by cases E;solve_by_elim [Ad,hr,by assumption]
def Ki:y40 ["row"] ["row"] (bp (top 17)):=ba
def Kj{f:Addr}{fd:FuncData}(F:Fun K "spread" "spread" (top 17) f fd)(E:Tx K mg κ):y3f P w K mg base bH 1 f fd ["row"] (aQ K κ 1 nA) :=
 wL F Ki rfl rfl rfl λcdv A outer s H _ hr=>(wK (wJ (mh (mh (wH (jH 0))))))
def m7:y40 ["text","term"] ["text"] (bp (top 24)):=ba
def Kk{f:Addr}{fd:FuncData}(F:Fun K "read_term" "read_term" (top 24) f fd)(E:Tx K mg κ)(y1a2:bP P w K mg base "spread" 1 ["row"] (aQ K κ 1 nA))(y19e:bP P w K mg base "one_term" 6 ["words"] (aQ K κ 1 nz)):y3f P w K mg base bH 7 f fd ["text"] (aQ K κ 1 AJ) :=
 bA F m7 rfl rfl λcdv A outer s H _ hr=>by cases E;solve_by_elim [m7,hr,by assumption]
def Kl{f:Addr}{fd:FuncData}(F:Fun K "read_term" "read_term" (top 24) f fd)(E:Tx K mg κ)(h_NoText:ClN P w K mg base "NoText" (κ "NoText") ["row"])(y1a2:bP P w K mg base "spread" 1 ["row"] (aQ K κ 1 nA))(y19e:bP P w K mg base "one_term" 6 ["words"] (aQ K κ 1 nz)):y3f P w K mg base (dy P w base) 7 f fd ["text"] (jZ K κ 1 AK) :=
 xB (k:=6) F m7 rfl rfl λcdv A outer s H _ hr hp hx hq=>by cases E;(repeat' first|refine Hw ?_ ?_|refine Hv ?_|refine Hx ?_|refine xr ?_|refine Hy ?_ ?_ ?_|refine xt hp ?_ ?_ ?_|refine pR (by assumption) hx (rm hr) ?_|refine xy (by assumption) hx (rm hr) ?_ ?_|refine xA (by assumption) hq (rm hr) ?_);all_goals solve_by_elim [m7,hr,by assumption]
def Ae:y40 ["number","figures"] ["number"] (bp (top 15)):=ba
def Km{f:Addr}{fd:FuncData}(F:Fun K "figures_of" "figures_of" (top 15) f fd)(E:Tx K mg κ):y3f P w K mg base bH 1 f fd ["number"] (aQ K κ 1 AM) :=
 bA F Ae rfl rfl λcdv A outer s H _ hr=>by cases E;solve_by_elim [Ae,hr,by assumption]
def Af:y40 ["term","row","place","sign","first","last"] ["term"] (bp (top 26)):=ba
def Kn{f:Addr}{fd:FuncData}{n:Nat}(F:Fun K "show_term" "show_term" (top 26) f fd)(E:Tx K mg κ)(y1a1:bP P w K mg base "show_term" (2+n) ["term"] (aQ K κ 1 (j5 n)))(y19a:bP P w K mg base "figures_of" 1 ["number"] (aQ K κ 1 AM)):y3f P w K mg base bH (2+n+1) f fd ["term"] (aQ K κ 1 (j5 (n+1))):=by
 unfold j5
 exact bA F Af rfl rfl λcdv A outer s H _ hr=>by cases E;solve_by_elim [Af,hr,by assumption]
def Ag:y40 ["_law_text"] ["_law_text"] (bp (top 45)):=ba
def Ko{f:Addr}{fd:FuncData}(F:Fun K "_law_right" "_law_right" (top 45) f fd)(E:Tx K mg κ)(y192:bP P w K mg base "_law_refused" 8 ["_law_text"] (aQ K κ 1 qT))(y18d:bP P w K mg base "_law_is_term" 154 ["_law_text"] (aQ K κ 1 xG))(y19f:bP P w K mg base "read_term" 7 ["text"] (aQ K κ 1 AJ))(y1a1:bP P w K mg base "show_term" 152 ["term"] (aQ K κ 1 (j5 150))):y3f P w K mg base bH 155 f fd ["_law_text"] (aQ K κ 1 xK) :=
 bA F Ag rfl rfl λcdv A outer s H _ hr=>by cases E;solve_by_elim [Ag,hr,by assumption]
def Ah:y40 ["_law_script","_law_deal_here","_law_names_here","_law_good","_law_text","_law_k","_law_texts"] ["_law_script"] (bp (top 47)):=ba
def Kq{f:Addr}{fd:FuncData}(F:Fun K "law" "law" (top 47) f fd)(E:Tx K mg κ)(y193:bP P w K mg base "_law_right" 155 ["_law_text"] (aQ K κ 1 xK))(y191:bP P w K mg base "_law_odd_word" 2 AV (aQ K κ 2 pU))(y190:bP P w K mg base "_law_odd" 2 m5 (aQ K κ 1 AH))(y18a:bP P w K mg base "_law_draw" 1 iA (aQ K κ 2 bu))(y195:bP P w K mg base "_law_spoilt" 3 JR (aQ K κ 3 AG))(y187:bP P w K mg base "_law_any_term" 12 zE (aQ K κ 4 (j4 9)))(y196:bP P w K mg base "_law_term_text" 10 ["_law_term"] (aQ K κ 1 (j0 9)))(y18f:bP P w K mg base "_law_names" 2 iA (aQ K κ 2 xF))(y189:bP P w K mg base "_law_deal" 1 ["_law_script","_law_base"] (aQ K κ 2 xD)):y3f P w K mg base bH 156 f fd ["_law_script"] (aQ K κ 1 HG) :=
 bA F Ah rfl rfl λcdv A outer s H _ hr=>by cases E;solve_by_elim [Ah,hr,by assumption]
end
end Q
namespace Q
open PySem PySem.Spec PyProof.Rows L2 B
abbrev m8(K:W.Frag):Sp:=λvs H Q _=>∃(a:Addr) (ns:List Int),vs=[.ref a]/\k9 H/\bw K H a (ns.map V.int)/\ns.length≤63/\∀H',Q (.bl true) H'
theorem Ai{K:W.Frag}{ι:List Addr}{H:Hp}:∀ns:List Int,y4f K ι H (ns.map V.int) (ns.map I.int)
 | []=>.nil
 | n::ns=>.cons (.int n) (Ai ns)
def Kr{P:Program}{w:World}{K:W.Frag}{mg:Str->Option Value}{base:Heap}{κ:Str->Addr}{f:Addr}{fd:FuncData}(h:y3f P w K mg base bH 156 f fd ["_law_script"] (aQ K κ 1 HG)):y3f P w K mg base bH 156 f fd ["_law_script"] (m8 K):=by
 refine h.imp λvs H Q E q=>?_
 obtain⟨a,ns,rfl,ho,hs,hl,k⟩:=q
 have fr:ot K H a (ns.map V.int):=by
  rcases hs with (z|⟨o,z⟩)|z
  ·rcases ho a with e|⟨o,xs,e⟩<;>(rw [z] at e;cases e)
  ·exact .inl ⟨o,z⟩
  ·exact .inr (.inr z)
 obtain⟨G,e⟩:=JQ ns hl
 refine⟨[],[.im (.fro (ns.map I.int))],[],_,G,rfl,⟨.cons (.im (.fro fr (Ai ns))) .nil,.nil,λx=>?_⟩,e,λv ι' H' s st=>?_⟩
 ·have:own (List.map some [V.ref a]) (List.map some [Vl.im (.fro (ns.map I.int))])=[]:=by show bz _ _++[]=[];rw [fU];rfl
  rw [this];simp
 ·have:=s.sl
  cases this with
  | cons q _=>cases q with
   | im r=>cases r;exact k _
def us1:∀(us:List Value),us.length=1->∃x0,us=[x0]
 | [x0],_=>⟨x0,rfl⟩
def AX:∀(us:List Value),us.length=2->∃x0 x1,us=[x0,x1]
 | [x0,x1],_=>⟨x0,x1,rfl⟩
def us3:∀(us:List Value),us.length=3->∃x0 x1 x2,us=[x0,x1,x2]
 | [x0,x1,x2],_=>⟨x0,x1,x2,rfl⟩
def us4:∀(us:List Value),us.length=4->∃x0 x1 x2 x3,us=[x0,x1,x2,x3]
 | [x0,x1,x2,x3],_=>⟨x0,x1,x2,x3,rfl⟩
abbrev y3(x q:Str)(st:Stmt)(ps:List Str):Prop:=∀(kV doc pm:Value) (an:Option Addr) (cdv ct:Value) (us:List Value),us.length=ps.length->bindArgs (W.fnOf x q (qG st) (jB st) (bp st) .none kV doc pm an cdv ct) ⟨us,[]⟩=pure (ps.zip us)
noncomputable abbrev NF(K:W.Frag)(x q:Str)(st:Stmt)(f:Addr)(d:FuncData):Prop:=W.nsIn K mainGlobals x=some (some (.ref f))/\Fun K x q st f d
section
variable {K:W.Frag}{mg:Str->Option Value}{h:Heap}{k:Nat}{ps:List Str}{sp:Sp}{f:Addr}{fd:FuncData}{C:Addr}{x q m:Str}{st:Stmt}(P:Program)(w:World)(base:Heap)
def a8(X:K.In h)(G:h.Ns mainGlobals mg)(A:NF K x q st f fd)(o:y3f P w K mg base bH k f fd ps sp)(hb:y3 x q st ps:=by intro _ _ _ _ _ _ us hl;first|(obtain⟨_,rfl⟩:=us1 us hl;rfl)|(obtain⟨_,_,rfl⟩:=AX us hl;rfl)|(obtain⟨_,_,_,rfl⟩:=us3 us hl;rfl)|(obtain⟨_,_,_,_,rfl⟩:=us4 us hl;rfl)):bP P w K mg base x k ps sp:=⟨f,fd,W.mg_of X G A.1,A.2.kp,A.2.binds hb,o⟩
def Aj(X:K.In h)(G:h.Ns mainGlobals mg)(A:NF K x q st f fd)(o:y3f P w K mg base (dy P w base) k f fd ps sp)(hb:y3 x q st ps:=by intro _ _ _ _ _ _ us hl;first|(obtain⟨_,rfl⟩:=us1 us hl;rfl)|(obtain⟨_,_,rfl⟩:=AX us hl;rfl)|(obtain⟨_,_,_,rfl⟩:=us3 us hl;rfl)|(obtain⟨_,_,_,_,rfl⟩:=us4 us hl;rfl)):xp P w K mg base x k ps sp:=⟨f,fd,W.mg_of X G A.1,A.2.kp,A.2.binds hb,o⟩
end
noncomputable abbrev NM(K:W.Frag)(C:Addr)(x q:Str)(st:Stmt)(f:Addr)(d:FuncData):Prop:=W.findIn K (.ref C) x=some (some (.ref f))/\W.isFn K (.ref f)=true/\Fun K x q st f d
def m9{K:W.Frag}{C:Addr}(h:jY K C=true):fE K C=true:=by
 unfold jY at h
 simp only [z1b] at h
 exact h.1.1.1.1
def all_mk{l:W.OpenLaw}{w:World}{K:W.Frag}{h:Heap}{mg:Str->Option Value}{fa  f1 f2 f3 f4 f5 f6 f7 f8 f9 f10 f11 f12 f13 f14 f15 f16 f17 f18 f19 f20 f21 f22 f23 f24 f25 f26 f27 f28 f29 f30 f31 f32 g1 C0 C1 C2 C3 C4:Addr}(X:K.In h)(G:h.Ns mainGlobals mg)(hfa:mg "law" = some (.ref fa))
  {d1 d2 d3 d4 d5 d6 d7 d8 d9 d10 d11 d12 d13 d14 d15 d16 d17 d18 d19 d20 d21 d22 d23 d24 d25 d26 d27 d28 d29 d30 d31 d32 e1:FuncData}
  (A1:NF K "_law_deal" "_law_deal" (top 28) f1 d1)
  (A2:NF K "_law_draw" "_law_draw" (top 29) f2 d2)
  (A3:NF K "_law_names" "_law_names" (top 30) f3 d3)
  (A4:NF K "_law_term_text" "_law_term_text" (top 34) f4 d4)
  (A5:NF K "_law_any_name" "_law_any_name" (top 32) f5 d5)
  (A6:NF K "_law_word" "_law_word" (top 31) f6 d6)
  (A7:NF K "_law_any_term" "_law_any_term" (top 33) f7 d7)
  (A8:NF K "_law_odd_word" "_law_odd_word" (top 41) f8 d8)
  (A9:NF K "_law_any_sign" "_law_any_sign" (top 42) f9 d9)
  (A10:NF K "_law_spoilt" "_law_spoilt" (top 43) f10 d10)
  (A11:NF K "_law_odd" "_law_odd" (top 46) f11 d11)
  (A12:NF K "_law_seen" "_law_seen" (top 38) f12 d12)
  (A13:NF K "_law_is_name" "_law_is_name" (top 35) f13 d13)
  (A14:NF K "_law_is_number" "_law_is_number" (top 36) f14 d14)
  (A15:NF K "_law_is_word" "_law_is_word" (top 37) f15 d15)
  (A16:NF K "_law_behind" "_law_behind" (top 39) f16 d16)
  (A17:NF K "_law_is_term" "_law_is_term" (top 40) f17 d17)
  (A18:NF K "is_name" "is_name" (top 13) f18 d18)
  (A19:NF K "number_in" "number_in" (top 14) f19 d19)
  (A20:NF K "word_from" "word_from" (top 18) f20 d20)
  (A21:NF K "as_term" "as_term" (top 19) f21 d21)
  (A22:NF K "is_name_thing" "is_name_thing" (top 20) f22 d22)
  (A23:NF K "bracketed" "bracketed" (top 21) f23 d23)
  (A24:NF K "terms_from" "terms_from" (top 22) f24 d24)
  (A25:NF K "one_term" "one_term" (top 23) f25 d25)
  (A26:NF K "spread" "spread" (top 17) f26 d26)
  (A27:NF K "read_term" "read_term" (top 24) f27 d27)
  (A28:NF K "_law_refused" "_law_refused" (top 44) f28 d28)
  (A29:NF K "figures_of" "figures_of" (top 15) f29 d29)
  (A30:NF K "show_term" "show_term" (top 26) f30 d30)
  (A31:NF K "_law_right" "_law_right" (top 45) f31 d31)
  (A32:NF K "law" "law" (top 47) f32 d32)
  {y4a1:Tok} (y20e:W.nsIn K mainGlobals "FIGURES" = some (some (.str "0123456789" y4a1)))
  {y4a2:Tok} (y20f:W.nsIn K mainGlobals "LETTERS" = some (some (.str "abcdefghijklmnopqrstuvwxyz" y4a2)))
  {y4a3:Tok} (y210:W.nsIn K mainGlobals "LONGEST_NAME" = some (some (.int 6 y4a3)))
  {y493:Addr} {y498:Option Addr} {y49f:Array Value} {y4a8:Nat} {y4b2:Array (Option Value)} (y211:W.nsIn K mainGlobals "SIGNS" = some (some (.ref y493))) (y22a:K.lookup y493=some ⟨.type "tuple",y498,.seq y49f y4a8,y4b2⟩) (y22c:au (List.map V.str ["+","-","*","<","="]) y49f.toList)
  {y494:Addr} {y499:Option Addr} {y4a0:Array Value} {y4a9:Nat} {y4b3:Array (Option Value)} (y212:W.nsIn K mainGlobals "TAKEN" = some (some (.ref y494))) (y22b:K.lookup y494=some ⟨.type "tuple",y499,.seq y4a0 y4a9,y4b3⟩) (y22d:au (List.map V.str nL5) y4a0.toList)
  {y4a4:Tok} (y213:W.nsIn K mainGlobals "WIDE" = some (some (.int 4294967296 y4a4)))
  (z0:W.nsIn K mainGlobals "all" = some none)
  (z1:W.nsIn K mainGlobals "int" = some none)
  (z2:W.nsIn K mainGlobals "isinstance" = some none)
  (z3:W.nsIn K mainGlobals "len" = some none)
  (z4:W.nsIn K mainGlobals "list" = some none)
  (z5:W.nsIn K mainGlobals "max" = some none)
  (z6:W.nsIn K mainGlobals "min" = some none)
  (z7:W.nsIn K mainGlobals "range" = some none)
  (z8:W.nsIn K mainGlobals "reversed" = some none)
  (z9:W.nsIn K mainGlobals "str" = some none)
  (zb:W.nsIn K mainGlobals "bool" = some none)
  (zv:W.nsIn K mainGlobals "ValueError" = some none)
  (a0:W.nsIn K mainGlobals "CourtError" = some (some (.ref C0)))
  (a1:W.nsIn K mainGlobals "NoText" = some (some (.ref C1)))
  (a2:W.nsIn K mainGlobals "NoProgram" = some (some (.ref C2)))
  (a3:W.nsIn K mainGlobals "TooLong" = some (some (.ref C3)))
  (a4:W.nsIn K mainGlobals "NoRecord" = some (some (.ref C4)))
  (M1:NM K C1 "__init__" "NoText.__init__" (ff (top 2) 0) g1 e1)
  (x1:jY K C1=true) (i1:xc K C1 g1=true) (k1:W.keepIn K (.ref C1)=true)
  (n1:W.findIn K (.ref C1) "row" = some none)
  (r0:W.readsIn K C0 (.type "type")=true) (r1:W.findCls K (.ref C0) (.type "type") "__init__" = some (.val (.builtin "ValueError.__init__"))) (r2:W.specialIn K (.ref C0) "__getattribute__" = some (some (.builtin "type.__getattribute__")))
  (s1:(W.clsIn K C1).map (λcd=>cd.mro.contains (.ref C1))=some true)
  (t1:W.kitOne K (.ref C1) (.ref C0)=some true) (tv:W.kitOne K (.ref C1) (.type "ValueError")=some true) (ta:W.kitAny K (.ref C1) [.ref C2,.ref C3,.ref C4]=some false) (tb:W.kitOne K (.type "int") (.type "bool")=some false)
  (c1:W.findIn K (.ref C1) "__class__" = some (some (.builtin "object.__class__"))) (o1:W.mroIn K C1 (.type "object")=some true)
  (p1:W.specialIn K (.builtin "object.__class__") "__get__" = some (some (.builtin "getset_descriptor.__get__"))) (p2:W.takesIn K (.builtin "object.__class__")=some true)
  : ∃fd:FuncData,(∀(s:Shared) (v:Value),BindsTo s fd ⟨[v],[]⟩ [("_law_script",v)])/\∀base:Heap,K.In base->base.Ns mainGlobals mg->y3f l.prog w K mg base bH 156 fa fd ["_law_script"] (m8 K):=by
 have e:=hfa.symm.trans (W.mg_of X G A32.1)
 cases e
 obtain⟨κ,hκ⟩:∃κ:Str->Addr,κ "NoText" = C1:=⟨λc:Str=>C1,rfl⟩
 have E:Tx K mg κ:=⟨⟨_,W.mg_of X G y20e⟩,⟨_,W.mg_of X G y20f⟩,⟨_,W.mg_of X G y210⟩,⟨_,W.mg_of X G y211,.inr ⟨_,_,_,y22a,rfl,rfl,(by have q:=y22c.length;have q2:y49f.toList.length=y49f.size:=Array.length_toList;rw [<- q2,<- q];exact Nat.le_of_ble_eq_true rfl),y22c⟩⟩,⟨_,W.mg_of X G y212,.inr ⟨_,_,_,y22b,rfl,rfl,(by have q:=y22d.length;have q2:y4a0.toList.length=y4a0.size:=Array.length_toList;rw [<- q2,<- q];exact Nat.le_of_ble_eq_true rfl),y22d⟩⟩,⟨_,W.mg_of X G y213⟩,W.mg_none_of X G z0,W.mg_none_of X G z1,W.mg_none_of X G z2,W.mg_none_of X G z3,W.mg_none_of X G z4,W.mg_none_of X G z5,W.mg_none_of X G z6,W.mg_none_of X G z7,W.mg_none_of X G z8,W.mg_none_of X G z9⟩
 obtain⟨_,_,kV,dc,pm,an,cd,ct,_,rfl,_,_⟩:=A32.2.ex
 refine⟨W.fnOf "law" "law" (qG (top 47)) (jB (top 47)) (bp (top 47)) .none kV dc pm an cd ct,λs v=>.of_eq rfl,λbase _ _=>?_⟩
 have y189:=a8 l.prog w base X G A1 (JS A1.2 E )
 have y18a:=a8 l.prog w base X G A2 (JT A2.2 E )
 have y18f:=a8 l.prog w base X G A3 (JU A3.2 E y18a)
 have y3bb:∀n:Nat,y3f l.prog w K mg base bH (1+n) f4 _ ["_law_term"] (aQ K κ 1 (j0 n)):=λn=>by
  induction n with
  | zero=>exact (by unfold j0;exact l8)
  | succ n ih=>exact JV A4.2 E (a8 l.prog w base X G A4 (ih))
 have y196:=(a8 l.prog w base X G A4 ((y3bb 9)))
 have y185:=a8 l.prog w base X G A5 (JW A5.2 E y18a)
 have y197:=a8 l.prog w base X G A6 (JX A6.2 E y18a)
 have y3b9:∀n:Nat,y3f l.prog w K mg base bH (3+n) f7 _ zE (aQ K κ 4 (j4 n)):=λn=>by
  induction n with
  | zero=>exact (by unfold j4;exact l8)
  | succ n ih=>exact JY A7.2 E (a8 l.prog w base X G A7 (ih)) y18a y185 y197
 have y187:=(a8 l.prog w base X G A7 ((y3b9 9)))
 have y191:=a8 l.prog w base X G A8 (JZ A8.2 E y18a)
 have y186:=a8 l.prog w base X G A9 (J0 A9.2 E y18a)
 have y195:=a8 l.prog w base X G A10 (J1 A10.2 E y18a y186 y191)
 have y190:=a8 l.prog w base X G A11 (J2 A11.2 E y18a)
 have y194:=a8 l.prog w base X G A12 (J3 A12.2 E )
 have y18b:=a8 l.prog w base X G A13 (J4 A13.2 E )
 have y18c:=a8 l.prog w base X G A14 (J5 A14.2 E )
 have y18e:=a8 l.prog w base X G A15 (J7 A15.2 E y18c)
 have y3ba:∀n:Nat,y3f l.prog w K mg base bH (3+n) f16 _ mZ (aQ K κ 2 (gM n)):=λn=>by
  induction n with
  | zero=>exact (by unfold gM;exact l8)
  | succ n ih=>exact J8 A16.2 E y194 y18b (a8 l.prog w base X G A16 (ih)) y18e
 have y188:=(a8 l.prog w base X G A16 ((y3ba 150)))
 have y18d:=a8 l.prog w base X G A17 (J9 A17.2 E y188)
 have y19b:=a8 l.prog w base X G A18 (Ka A18.2 E )
 have y19d:=a8 l.prog w base X G A19 (Kb A19.2 E )
 have y1a4:=a8 l.prog w base X G A20 (Kc A20.2 E y19d)
 have y198:=a8 l.prog w base X G A21 (Kd A21.2 E y1a4 y19b)
 have y19c:=a8 l.prog w base X G A22 (Ke A22.2 E y19b)
 have y199:=a8 l.prog w base X G A23 (Kf A23.2 E y198 y19c)
 have y1a3:=a8 l.prog w base X G A24 (Kg A24.2 E y198 y199)
 have y19e:=a8 l.prog w base X G A25 (Kh A25.2 E y1a3)
 have y1a2:=a8 l.prog w base X G A26 (Kj A26.2 E )
 have y0:=W.mg_of X G a0
 have xi:y13 K C0 "ValueError.__init__":=⟨r0,r1,r2,by decide⟩
 have hCl:ClN l.prog w K mg base "NoText" (κ "NoText") ["row"]:=by
  rw [hκ]
  exact⟨⟨g1,e1,xf (m9 x1) i1,HD M1.2.2 (xf (m9 x1) i1) (xk x1) n1 xi y0,M1.2.2.binds (λ_ _ _ _ _ _ us hl=>by obtain⟨_,_,rfl⟩:=AX us hl;rfl),W.mg_of X G a1,k1⟩,by decide⟩
 have hKt:Kt K mg C0 (κ "NoText") C2 C3 C4:=by
  rw [hκ]
  exact⟨Hh (m9 x1),y0,W.mg_of X G a1,W.mg_of X G a2,W.mg_of X G a3,W.mg_of X G a4,W.mg_none_of X G z2,W.mg_none_of X G zv,W.mg_none_of X G zb,Hi (m9 x1) s1,xk x1,⟨c1,p1,p2,o1⟩,t1,tv,ta,tb,n1⟩
 have y1a0:=Aj l.prog w base X G A27 (Kl A27.2 E hCl y1a2 y19e)
 have y19f:=a8 l.prog w base X G A27 (Kk A27.2 E y1a2 y19e)
 have y192:=a8 l.prog w base X G A28 (HJ A28.2 y1a0 hKt)
 have y19a:=a8 l.prog w base X G A29 (Km A29.2 E )
 have y3bc:∀n:Nat,y3f l.prog w K mg base bH (2+n) f30 _ ["term"] (aQ K κ 1 (j5 n)):=λn=>by
  induction n with
  | zero=>exact (by unfold j5;exact l8)
  | succ n ih=>exact Kn A30.2 E (a8 l.prog w base X G A30 (ih)) y19a
 have y1a1:=(a8 l.prog w base X G A30 ((y3bc 150)))
 have y193:=a8 l.prog w base X G A31 (Ko A31.2 E y192 y18d y19f y1a1)
 exact Kr (κ:=κ) (Kq A32.2 E y193 y191 y190 y18a y195 y187 y196 y18f y189)
def walk{l:W.OpenLaw}{q:Program}{loose:List Str}{XP:(Str->Option Value)->Heap->Prop}{YP:World->Heap->Prop}{d:DefRec}{K:Params->W.Frag}(hn:l.most=some 63)(hdf:d.params.defaults=[])
  (hY:∀(w:World) (h:Heap),YP w h->(K w.params).In h)
  (F:∀(w:World) (mg:Str->Option Value) (fa:Addr) (h:Heap),(K w.params).In h->h.Ns mainGlobals mg->mg d.name=some (.ref fa) ->
   ∃fd:FuncData,(∀(s:Shared) (u:Value),BindsTo s fd ⟨[u],[]⟩ [("_law_script",u)])/\∀base:Heap,(K w.params).In base->base.Ns mainGlobals mg->y3f l.prog w (K w.params) mg base bH 156 fa fd ["_law_script"] (m8 (K w.params))) :
  W.WalkO q loose XP YP l.row.toRowW d [] (λf vs=>PySem.call f vs) :=
 L2.y510 (n:=63) (k:=156) (x:="_law_script") (CX:=λ_=>bH) (sp:=λw=>m8 (K w.params)) hn (by decide) hdf ⟨rfl,by decide,by decide,rfl⟩ hY F (λ_ _ a ns hl ho hS=>⟨a,ns,rfl,ho,hS,hl,λ_=>rfl⟩) λ_ _ _ _ _ z=>z
end Q
open PySem PySem.W PyProof.Rows
set_option maxRecDepth 100000 in
set_option maxHeartbeats 0 in
theorem PySem.Challenge.cw_stepcourt_k06_terms_amiss_holds : PySem.Challenge.rw_stepcourt_k06_terms_amiss.Holds := by
 refine zTop ?_
 k_fill
 refine Q.walk (l:=PySem.Challenge.rw_stepcourt_k06_terms_amiss) rfl rfl (λw h Y=>W.kIn_of Y) ?F
 case F =>
  intro w mg fa h KX G hmg
  refine' Q.all_mk KX G hmg ..
  all_goals first|k_is|(refine' ⟨?a,L2.y16f ?l ?c ?k⟩;case a|l|c|k=>k_is)|(refine' ⟨?a,?i,L2.y16f ?l ?c ?k⟩;case a|i|l|c|k=>k_is)|kernel_rfl|(repeat (first|exact .nil|refine .cons ⟨_,rfl⟩ ?_))
