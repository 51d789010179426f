import PyProof.Rows.All
import Wide.All
import OpenK.AllK
import Wide.FinOn
import Lean
import PyProof.EqAt
import PyProof.EqKinds
import PyProof.TupleCall
import PyProof.CompFree
import PyProof.NeKinds
import PyProof.Rows.RegReprOcc
import PyProof.Rows.StrCase
import PyProof.ZipIter
import PyProof.EnumMake
import PyProof.Draws
import PyProof.Rows.Range3
import KE.BitLaws
import KE.KDictOf
import PyProof.AttrMissSeq
import PyProof.DictUpdate
import PyProof.Rows.Tup
import PyProof.ReprRoads
import PyProof.DictRoadsH
import PyProof.DictItemsLoops
import PyProof.DictWalks
import PyProof.Rows.SetFrom
import PyProof.ListRange
import KE.KDictSum
import PyProof.StrCalls6
import PyProof.JoinWalk
import PyProof.FString
import PyProof.ToksMono
import PyProof.StrLawsReplace
import PyProof.StrLawsIdx
import KE.KIntText
import PyProof.Rows.StrClose
import PySem.Challenge.RW_stepcourt_k06_terms_amiss
import Open.Row
import PyProof.ReprLen
import PyProof.Rows.ReprShort
import PyProof.TupleOfGen
import PyProof.ExcArgsOwn
import OpenK.KWalk
import OpenK.KMake
import PyProof.StationsW
import PyProof.RulesTry
import PyProof.RulesAs
import PyProof.NsDelKeeps
import PyProof.InstStoreFacts
import PyProof.InstSpecial
import PyProof.ExcClsAt
import PyProof.ExcClass3
import PyProof.ExcBaseAll.ValueError
import PyProof.Commute
import KE.KIsAll
set_option Elab.async false
set_option bootstrap.genMatcherCode false
set_option genSizeOf false
set_option compiler.extract_closed false
set_option genSizeOfSpec false
set_option linter.all false
set_option maxRecDepth 100000
section
open PySem PySem.W PyProof.Rows
set_option maxRecDepth 100000
set_option maxHeartbeats 0
namespace PySem.W.Fast
theorem tw13177264999580132443:True:=⟨⟩
theorem tw6534594354275883746:True:=⟨⟩
theorem tw4913874936065851510:True:=⟨⟩
theorem tw5908203164812000839:True:=⟨⟩
theorem tw16068955443859570927:True:=⟨⟩
theorem tw9415308220270928425:True:=⟨⟩
theorem tw14933488172559756720:True:=⟨⟩
theorem tw374962790574870972:True:=⟨⟩
theorem tw6855672846192040383:True:=⟨⟩
theorem tw7941569867028408369:True:=⟨⟩
theorem tw16558977385265573253:True:=⟨⟩
theorem tw1007581133633915667:True:=⟨⟩
theorem tw7554348544075112114:True:=⟨⟩
theorem tw18173385211141234565:True:=⟨⟩
theorem tw17231923527163759558:True:=⟨⟩
theorem tw8528361429512264859:True:=⟨⟩
theorem tw8670608421478083693:True:=⟨⟩
theorem tw3902621705068835048:True:=⟨⟩
theorem tw2482824596535531279:True:=⟨⟩
theorem tw15343418795547876921:True:=⟨⟩
theorem tw5916890518424925820:True:=⟨⟩
theorem tw499174466542598454:True:=⟨⟩
theorem tw6660933380177169294:True:=⟨⟩
theorem tw13258880383493924464:True:=⟨⟩
theorem tw3045374356822331967:True:=⟨⟩
theorem tw3217481506767882710:True:=⟨⟩
theorem tw2132911524444663084:True:=⟨⟩
theorem tw9212744562938848036:True:=⟨⟩
theorem tw8822291404628921983:True:=⟨⟩
theorem tw4540262300159656403:True:=⟨⟩
theorem tw10114967431709580080:True:=⟨⟩
theorem tw551203457679776727:True:=⟨⟩
theorem tw6551363156116692338:True:=⟨⟩
theorem tw17332023533657689576:True:=⟨⟩
theorem tw15038055886059324390:True:=⟨⟩
theorem tw4748311948960376708:True:=⟨⟩
theorem tw2345989680370554778:True:=⟨⟩
theorem tw395463464014435128:True:=⟨⟩
theorem tw17834537030868322572:True:=⟨⟩
theorem tw2698669867553343545:True:=⟨⟩
theorem tw4487168863061647788:True:=⟨⟩
theorem tw11608891772773196537:True:=⟨⟩
theorem tw5930245222610895174:True:=⟨⟩
theorem tw9777197614727144175:True:=⟨⟩
theorem tw10026598801480460247:True:=⟨⟩
theorem tw4083259587868711730:True:=⟨⟩
theorem tw7958174498357925821:True:=⟨⟩
theorem tw16652376392405926066:True:=⟨⟩
theorem tw7683413027814144735:True:=⟨⟩
theorem tw7639325268644787431:True:=⟨⟩
theorem tw3686326400322533805:True:=⟨⟩
theorem tw9103119445637474416:True:=⟨⟩
theorem tw6781339924441661149:True:=⟨⟩
theorem tw1743902035226782177:True:=⟨⟩
theorem tw15269304584810771261:True:=⟨⟩
theorem tw4459180487298125006:True:=⟨⟩
theorem tw10856386818348469708:True:=⟨⟩
theorem tw2538974221073068460:True:=⟨⟩
theorem tw11501091500179542797:True:=⟨⟩
theorem tw17759830326070839462:True:=⟨⟩
theorem tw5564154564620580589:True:=⟨⟩
theorem tw2455218816632103904:True:=⟨⟩
theorem tw2254231063549161415:True:=⟨⟩
theorem tw975873186138195956:True:=⟨⟩
theorem tw7838914647235854133:True:=⟨⟩
theorem tw566162298247842470:True:=⟨⟩
theorem tw16825475289437841240:True:=⟨⟩
theorem tw14778731080828919925:True:=⟨⟩
theorem tw5012060888362952607:True:=⟨⟩
theorem tw6045546531790125783:True:=⟨⟩
theorem tw7458513109189904703:True:=⟨⟩
theorem tw782719872413053650:True:=⟨⟩
theorem tw2056797189884044599:True:=⟨⟩
theorem tw12453948998007411332:True:=⟨⟩
theorem tw10199795184589486878:True:=⟨⟩
theorem tw13469112012805276001:True:=⟨⟩
theorem tw6798638055086111401:True:=⟨⟩
theorem tw9747514990888706239:True:=⟨⟩
theorem tw15881245120926960385:True:=⟨⟩
theorem tw908880305357758839:True:=⟨⟩
theorem tw15923931946982703250:True:=⟨⟩
theorem tw11952897088091570907:True:=⟨⟩
theorem tw3892227632994185491:True:=⟨⟩
theorem tw17236398780377943071:True:=⟨⟩
theorem tw7684820258534166126:True:=⟨⟩
theorem tw9449399280975678354:True:=⟨⟩
theorem tw15891456575636753283:True:=⟨⟩
theorem tw13326483449774466270:True:=⟨⟩
theorem tw11418382477747728562:True:=⟨⟩
theorem tw17796075267231131897:True:=⟨⟩
theorem tw3935902670650191560:True:=⟨⟩
theorem tw1249609262983394801:True:=⟨⟩
theorem tw13587052777431275356:True:=⟨⟩
theorem tw7994059539151220853:True:=⟨⟩
theorem tw9246042815031778251:True:=⟨⟩
theorem tw8709042462198708382:True:=⟨⟩
theorem tw9798698045082436836:True:=⟨⟩
theorem tw8083423483217949915:True:=⟨⟩
theorem tw11954902030139364750:True:=⟨⟩
theorem tw1815439330302545554:True:=⟨⟩
theorem tw4078788042237280789:True:=⟨⟩
theorem tw2615588686933544735:True:=⟨⟩
theorem tw5585903270148390919:True:=⟨⟩
theorem tw3123432008305972677:True:=⟨⟩
theorem tw15040804366717906955:True:=⟨⟩
theorem tw3583079532035691742:True:=⟨⟩
theorem tw11161512577181806471:True:=⟨⟩
theorem tw12892738712274723240:True:=⟨⟩
theorem tw2790703193821817401:True:=⟨⟩
theorem tw13584122695382047704:True:=⟨⟩
theorem tw15752887362515140783:True:=⟨⟩
theorem tw13369165591201428539:True:=⟨⟩
theorem tw2768536379164225707:True:=⟨⟩
theorem tw4268020307254116079:True:=⟨⟩
theorem tw769526284009388806:True:=⟨⟩
theorem tw5288445787047881752:True:=⟨⟩
theorem tw4926728083454191043:True:=⟨⟩
theorem tw1919947383599481878:True:=⟨⟩
theorem tw13588013580689071181:True:=⟨⟩
theorem tw1205011893391287390:True:=⟨⟩
theorem tw17534516426610419080:True:=⟨⟩
theorem tw16865912158236578429:True:=⟨⟩
theorem tw7516292785299593844:True:=⟨⟩
theorem tw13960732369908283787:True:=⟨⟩
theorem tw15369637706217280882:True:=⟨⟩
theorem tw2276500545618996696:True:=⟨⟩
theorem tw6147404680042301813:True:=⟨⟩
theorem tw15005101350805175016:True:=⟨⟩
theorem tw17407206402984147398:True:=⟨⟩
theorem tw14686953020224433943:True:=⟨⟩
theorem tw11439000539385870640:True:=⟨⟩
theorem tw7818694283519239022:True:=⟨⟩
end PySem.W.Fast
open_top zTop for PySem.Challenge.rw_stepcourt_k06_terms_amiss
end
local macro_rules
|`(command|abbrev $i:declId $s:optDeclSig:=$v)=>`(command|noncomputable def $i:declId $s:optDeclSig:=$v)
|`(command|abbrev $i:declId $s:optDeclSig $a:matchAlts)=>`(command|noncomputable def $i:declId $s:optDeclSig $a:matchAlts)
noncomputable abbrev za:=@PySem.wpAny_bind
noncomputable abbrev zc:=@List.length_append
noncomputable abbrev zd:=@PySem.Heap.get?_push_of_some
noncomputable abbrev ze:=@PySem.wpAny_pure
noncomputable abbrev zf:=@List.size_toArray
noncomputable abbrev z10:=@List.append_nil
noncomputable abbrev z11:=@List.length_map
noncomputable abbrev z12:=@Nat.le_refl
noncomputable abbrev z13:=@Bool.false_ne_true
noncomputable abbrev z14:=@PySem.Heap.lt_size
noncomputable abbrev z15:=@List.mem_singleton
noncomputable abbrev z16:=@List.getElem?_eq_getElem
noncomputable abbrev z17:=@List.count_append
noncomputable abbrev z18:=@List.length_cons
noncomputable abbrev z19:=@List.map_cons
noncomputable abbrev z1a:=@List.getElem?_eq_some_iff
noncomputable abbrev z1b:=@Bool.and_eq_true
noncomputable abbrev z1c:=@Nat.le_trans
noncomputable abbrev z1d:=@List.mem_cons
noncomputable abbrev z1e:=@List.mem_append
noncomputable abbrev z1f:=@Nat.lt_of_lt_of_le
noncomputable abbrev z20:=@Option.some.inj
noncomputable abbrev z21:=@List.mem_cons_of_mem
noncomputable abbrev z22:=@PySem.Heap.get?_push_size
noncomputable abbrev z23:=@List.getElem?_append_right
noncomputable abbrev z24:=@List.mem_append_right
noncomputable abbrev z25:=@List.getElem?_append_left
noncomputable abbrev z26:=@List.getElem?_set_ne
noncomputable abbrev z27:=@List.map_append
noncomputable abbrev z28:=@Nat.ne_of_lt
noncomputable abbrev z29:=@List.length_set
noncomputable abbrev z2a:=@PySem.wpAny_newObj_type
noncomputable abbrev z2b:=@List.length_take
noncomputable abbrev z2c:=@List.length_reverse
noncomputable abbrev z2d:=@List.length_drop
noncomputable abbrev z2e:=@Nat.lt_irrefl
noncomputable abbrev z2f:=@List.append_assoc
noncomputable abbrev z30:=@List.take_of_length_le
noncomputable abbrev z31:=@List.getElem_mem
noncomputable abbrev z32:=@List.map_map
noncomputable abbrev z33:=@List.all_eq_true
noncomputable abbrev z34:=@List.mem_of_getElem?
noncomputable abbrev z35:=@Nat.lt_trans
noncomputable abbrev z36:=@List.cons_append
noncomputable abbrev z37:=@Nat.lt_succ_self
noncomputable abbrev z38:=@Bool.and_eq_true_iff
theorem zzA(h:True:=by rfl):True:=h
local macro_rules|`(‹$x›)=>`(autoParam $x zzA._auto_1)
namespace L2
open PySem PySem.Spec PyProof.Rows
section
noncomputable abbrev aR:=Sum Int Str
abbrev iy:aR->Value->Bool
 | .inl k,v=>Value.isInt k v
 | .inr x,v=>Value.isStrOf x v
abbrev qW(w:World):aR->Int
 | .inl k=>hashInt k
 | .inr x=>hashStr w x
def eT:∀{k:aR} {v:Value},iy k v=true->(∃i t,k=Sum.inl i/\v=Value.int i t)∨(∃x t,k=Sum.inr x/\v=Value.str x t)
 | .inl i,v,h=>by
  obtain⟨t,e⟩:=Value.isInt_shape (k:=i) (v:=v) h
  exact .inl ⟨i,t,rfl,e⟩
 | .inr x,v,h=>by
  obtain⟨t,e⟩:=Value.isStrOf_shape (x:=x) (v:=v) h
  exact .inr ⟨x,t,rfl,e⟩
def AZ(i:Int)(t:Tok):iy (.inl i) (.int i t)=true:=by simp [iy,Value.isInt]
def A0(x:Str)(t:Tok):iy (.inr x) (.str x t)=true:=by simp [iy,Value.isStrOf]
def Ba(a b:Int):decide ((Sum.inl a:aR)=Sum.inl b)=(a == b):=by
 by_cases e:a=b
 ·subst e;simp
 ·have h:¬ (Sum.inl a:aR)=Sum.inl b:=λq=>e (Sum.inl.inj q)
  rw [decide_eq_false h]
  exact (beq_eq_false_iff_ne.mpr e).symm
def Bb(a b:Str):decide ((Sum.inr a:aR)=Sum.inr b)=decide (a=b):=by
 by_cases e:a=b
 ·subst e;simp
 ·have h:¬ (Sum.inr a:aR)=Sum.inr b:=λq=>e (Sum.inr.inj q)
  rw [decide_eq_false h,decide_eq_false e]
def Bc(a:Int)(b:Str):decide ((Sum.inl a:aR)=Sum.inr b)=false:=decide_eq_false (λq=>nomatch q)
def Bd(a:Str)(b:Int):decide ((Sum.inr a:aR)=Sum.inl b)=false:=decide_eq_false (λq=>nomatch q)
noncomputable def cE(prog:Program)(w:World):PySem.KeyKind prog w aR where
 is:=iy
 hash:=qW w
 inj:=λv a b ha hb=>by
  rcases eT ha with⟨i,t,rfl,rfl⟩| ⟨x,t,rfl,rfl⟩
  ·rcases eT hb with⟨j,u,rfl,e⟩| ⟨y,u,rfl,e⟩
   ·injection e with e1 _;rw [e1]
   ·exact nomatch e
  ·rcases eT hb with⟨j,u,rfl,e⟩| ⟨y,u,rfl,e⟩
   ·exact nomatch e
   ·injection e with e1 _;rw [e1]
 byValue:=λk v h=>by
  rcases eT h with⟨i,t,rfl,rfl⟩| ⟨x,t,rfl,rfl⟩<;>rfl
 pyHash:=λhv h=>by
  rcases eT hv with⟨i,t,rfl,rfl⟩| ⟨x,t,rfl,rfl⟩
  ·exact wpAny_pyHash_int h
  ·exact wpAny_pyHash_str h
 eqBool:=λhu hv h=>by
  rcases eT hu with⟨i,t,rfl,rfl⟩| ⟨x,t,rfl,rfl⟩
  ·rcases eT hv with⟨j,u,rfl,rfl⟩| ⟨y,u,rfl,rfl⟩
   ·rw [Ba] at h;exact wpAny_eqBool_int h
   ·rw [Bc] at h;exact SeqAt.EqAt.int_str i t y u _ _ _ _ h
  ·rcases eT hv with⟨j,u,rfl,rfl⟩| ⟨y,u,rfl,rfl⟩
   ·rw [Bd] at h;exact SeqAt.EqAt.str_int x t j u _ _ _ _ h
   ·rw [Bb] at h;exact wpAny_eqBool_str h
 «strs»:=λk x t v h=>by
  rcases eT h with⟨i,u,rfl,e⟩| ⟨y,u,rfl,e⟩
  ·exact nomatch e
  ·injection e with e1 _
   subst e1
   cases v<;>rfl
def Be(prog:Program)(w:World)(i:Int)(t:Tok):(cE prog w).is (.inl i) (.int i t)=true:=AZ i t
def Bf(prog:Program)(w:World)(x:Str)(t:Tok):(cE prog w).is (.inr x) (.str x t)=true:=A0 x t
end
section
inductive V where
 | non|bl (b:Bool)|int (i:Int)|str (x:Str)|byt (b:Array UInt8)|flt (b:UInt64)|ref (a:Addr)|ty (n:String)
 deriving DecidableEq
abbrev ay:V->Value->Prop
 | .non,u=>u=Value.none
 | .bl b,u=>u=Value.bool b
 | .int i,u=>∃t,u=Value.int i t
 | .str x,u=>∃t,u=Value.str x t
 | .byt b,u=>∃t,u=Value.bytes b t
 | .flt b,u=>∃t,u=Value.float b t
 | .ref a,u=>u=Value.ref a
 | .ty n,u=>u=Value.type n
noncomputable abbrev au:List V->List Value->Prop:=Paired ay
theorem au.length{xs:List V}{us:List Value}(r:au xs us):xs.length=us.length:=Paired.length r
theorem au.get:∀{xs:List V} {us:List Value} {i:Nat} {x:V},au xs us->xs[i]?=some x->∃u,us[i]?=some u/\ay x u
 | _,_,_,_,.nil,e=>by simp at e
 | _,_,0,_,.cons r _,e=>by simp at e;subst e;exact⟨_,rfl,r⟩
 | _,_,i+1,x,.cons _ t,e=>by
  obtain⟨u,h1,h2⟩:=au.get (i:=i) (x:=x) t (by simpa using e)
  exact⟨u,by simpa using h1,h2⟩
theorem au.set{x:V}{u:Value}(r:ay x u):∀{xs:List V} {us:List Value} (i:Nat),au xs us->au (xs.set i x) (us.set i u)
 | _,_,_,.nil=>.nil
 | _,_,0,.cons _ t=>.cons r t
 | _,_,i+1,.cons q t=>.cons q (au.set r i t)
theorem au.append:∀{xs ys:List V} {us ws:List Value},au xs us->au ys ws->au (xs++ys) (us++ws)
 | _,_,_,_,.nil,s=>s
 | _,_,_,_,.cons r t,s=>.cons r (au.append t s)
theorem au.take:∀{xs:List V} {us:List Value} (n:Nat),au xs us->au (xs.take n) (us.take n)
 | _,_,0,_=>.nil
 | _,_,_+1,.nil=>.nil
 | _,_,n+1,.cons r t=>.cons r (au.take n t)
theorem au.drop:∀{xs:List V} {us:List Value} (n:Nat),au xs us->au (xs.drop n) (us.drop n)
 | _,_,0,r=>r
 | _,_,_+1,.nil=>.nil
 | _,_,n+1,.cons _ t=>au.drop n t
abbrev ij:Option V->Option Value->Prop
 | some v,some u=>ay v u
 | none,none=>True
 | _,_=>False
abbrev KV{κ:Type}:List (κ×V)->List (κ×Value)->Prop:=Paired λ(p:κ×V) (q:κ×Value)=>p.1=q.1/\ay p.2 q.2
abbrev kV:aR->V
 | .inl i=>.int i
 | .inr x=>.str x
inductive HO where
 | lst (xs:List V)
 | tup (xs:List V)
 | dK (kvs:List (aR×V))|dT (kvs:List (List aR×V))
 | set (S:Int->Bool) (n:Nat)
 | ins (C dx:Addr) (fs:List (Str×V))
 | own (x:Addr)
 | xd (fs:List (Str×V))
 | met (f x:Addr)
 | rng (lo hi:Int)
 | frz (o:Obj) (u:HO)
 | tbl (ps:Array Value)
 | ext (φ:Heap->Prop)
noncomputable abbrev Hp:=Addr->Option HO
abbrev upd(H:Hp)(a:Addr)(o:HO):Hp:=λb=>if b=a then some o else H b
def bf{H:Hp}{a:Addr}{o:HO}:upd H a o a=some o:=by unfold upd;rw [if_pos rfl]
def aQ{H:Hp}{a b:Addr}{o:HO}(h:b≠a):upd H a o b=H b:=by unfold upd;rw [if_neg h]
def qX{H:Hp}{a:Addr}{o u:HO}:upd (upd H a o) a u=upd H a u:=by
 funext b;unfold upd;split<;>rfl
def nC{H:Hp}{a b:Addr}{o u:HO}(h:H a=some o)(h':H b=some u)(d:o≠u):a≠b:=by
 intro e;subst e;rw [h] at h';exact d (z20 h')
def gM{H:Hp}{a b:Addr}{o:HO}(h:H a=some o)(h':H b=none):a≠b:=by
 intro e;subst e;rw [h] at h';cases h'
abbrev kD(h:Heap)(a:Addr)(items:Array Value):Prop:=∃o,h.get? a=some o/\o.cls=.type "tuple"/\o.dict=none/\∃n,o.data=.seq items n
def kD.tup{h:Heap}{a:Addr}{items:Array Value}(x:kD h a items):IsTup h a items:=let ⟨o,e,c,_,n,d⟩:=x;⟨o,e,c,n,d⟩
def kD.mk'(h:Heap)(items:Array Value):kD (h.push { cls:=.type "tuple",data:=.seq items }) h.objs.size items:=⟨_,z22 _ rfl,rfl,rfl,_,rfl⟩
section
variable (P:Program)(w:World)
abbrev c6(H:Hp)(h:Heap)(a:Addr):HO->Prop
 | .lst xs=>xs.length≤sizeLine/\∃(its:List Value) (n:Nat),au xs its/\h.get? a=some { cls:=.type "list",data:=.seq its.toArray n }
 | .tup xs=>xs.length≤sizeLine/\∃its:List Value,au xs its/\kD h a its.toArray
 | .dK kvs=>kvs.length≤sizeLine/\(a == sysModules)=false/\∃vs,KV kvs vs/\h.DictOf (cE P w) a vs
 | .dT kvs=>kvs.length≤sizeLine/\(a == sysModules)=false/\∃xs:List (List aR×Addr×Value),
   Paired (λ(p:List aR×V) (q:List aR×Addr×Value)=>p.1=q.1/\H q.2.1=some (.tup (p.1.map kV))/\ay p.2 q.2.2) kvs xs /\
   ∃o es ep,h.get? a=some o/\o.ExactDict/\o.data=.dict es ep/\es.toList=xs.map (entryOfKey (tupleKind (cE P w)))/\(xs.map (·.1)).Nodup
 | .set S n=>h.SetOf (intKind P w) a S n
 | .ins C dx fs=>H dx=some (.own a)/\fs.length≤1000/\dx≠a/\h.get? a=some (W.instObj C dx) /\
   ∃mA,h.Ns1 dx mA/\(∀f,ij (fs.lookup f) (mA f))/\PySem.Within mA (fs.map (·.1))
 | .own _=>∃o,h.get? a=some o
 | .xd fs=>∃mA,h.Ns1 a mA/\∀f,ij (fs.lookup f) (mA f)
 | .rng lo hi=>∃t u v,h.get? a=some { cls:=.type "range",data:=.fields #[.int lo t,.int hi u,.int 1 v] }
 | .frz o u=>h.get? a=some o/\c6 H h a u
 | .tbl ps=>h.get? a=some { cls:=.none,data:=.fields ps }
 | .met f x=>h.get? a=some (W.methodObj (.ref f) (.ref x))
 | .ext φ=>φ h/\(∃o,h.get? a=some o)/\∀h1 h2:Heap,φ h1->(∀o,h1.get? a=some o->h2.get? a=some o)->φ h2
abbrev cA(H:Hp)(h:Heap):Prop:=∀a o,H a=some o->c6 P w H h a o
end
section
variable {P:Program}{w:World}{H H':Hp}{h h':Heap}{a:Addr}{o:HO}
theorem c6.lt(x:c6 P w H h a o):a<h.objs.size:=by
 cases o with
 | lst xs=>obtain⟨_,_,_,_,e⟩:=x;exact z14 e
 | tup xs=>obtain⟨_,_,_,p⟩:=x;exact p.tup.lt
 | dK kvs=>obtain⟨_,_,_,_,o,_,_,e,_⟩:=x;exact z14 e
 | dT kvs=>obtain⟨_,_,_,_,o,_,_,e,_⟩:=x;exact z14 e
 | set S n=>obtain⟨o,_,_,_,e,_⟩:=x;exact z14 e
 | ins C dx fs=>obtain⟨_,_,_,e,_⟩:=x;exact z14 e
 | own y=>obtain⟨_,e⟩:=x;exact z14 e
 | xd fs=>obtain⟨_,⟨_,_,_,e,_⟩,_⟩:=x;exact z14 e
 | rng lo hi=>obtain⟨_,_,_,e⟩:=x;exact z14 e
 | frz ob u=>obtain⟨e,_⟩:=x;exact z14 e
 | tbl ps=>exact z14 (show h.get? a=some _ from x)
 | met f y=>exact z14 (show h.get? a=some _ from x)
 | ext φ=>obtain⟨_,⟨_,e⟩,_⟩:=x;exact z14 e
theorem Paired.mapP{α β:Type}{F G:α->β->Prop}:∀{l₁:List α} {l₂:List β},Paired F l₁ l₂->(∀a b,F a b->G a b)->Paired G l₁ l₂
 | _,_,.nil,_=>.nil
 | _,_,.cons r t,f=>.cons (f _ _ r) (Paired.mapP t f)
def c6.y464(x:c6 P w H h a o)(k:∀b u,(b=a∨H b=some (.own a))->h.get? b=some u->h'.get? b=some u)
  (ho:∀b,H b=some (.own a)->H' b=some (.own a)) (ht:∀b xs,H b=some (.tup xs)->H' b=some (.tup xs)):c6 P w H' h' a o:=by
 induction o with
 | lst xs=>obtain⟨z,its,n,r,e⟩:=x;exact⟨z,its,n,r,k _ _ (.inl rfl) e⟩
 | tup xs=>obtain⟨z,its,r,ob,e,c⟩:=x;exact⟨z,its,r,ob,k _ _ (.inl rfl) e,c⟩
 | dK kvs=>obtain⟨z,y,vs,r,ob,es,ep,e,c⟩:=x;exact⟨z,y,vs,r,ob,es,ep,k _ _ (.inl rfl) e,c⟩
 | dT kvs =>
  obtain⟨z,y,xs,r,ob,es,ep,e,c⟩:=x
  exact⟨z,y,xs,Paired.mapP r λp q z=>⟨z.1,ht _ _ z.2.1,z.2.2⟩,ob,es,ep,k _ _ (.inl rfl) e,c⟩
 | set S n=>obtain⟨ob,es,ep,t,e,c⟩:=x;exact⟨ob,es,ep,t,k _ _ (.inl rfl) e,c⟩
 | ins C dx fs =>
  obtain⟨d,z,ne,e,mA,⟨od,es,ep,e2,c⟩,r⟩:=x
  exact⟨ho _ d,z,ne,k _ _ (.inl rfl) e,mA,⟨od,es,ep,k _ _ (.inr d) e2,c⟩,r⟩
 | own y=>obtain⟨ob,e⟩:=x;exact⟨ob,k _ _ (.inl rfl) e⟩
 | xd fs=>obtain⟨mA,⟨od,es,ep,e,c⟩,r⟩:=x;exact⟨mA,⟨od,es,ep,k _ _ (.inl rfl) e,c⟩,r⟩
 | rng lo hi=>obtain⟨t,u,v,e⟩:=x;exact⟨t,u,v,k _ _ (.inl rfl) e⟩
 | frz ob u ih=>obtain⟨e,q⟩:=x;exact⟨k _ _ (.inl rfl) e,ih q⟩
 | tbl ps =>
  have e:h.get? a=some { cls:=.none,data:=.fields ps }:=x
  show h'.get? a=some { cls:=.none,data:=.fields ps }
  exact k a _ (.inl rfl) e
 | met f y =>
  have e:h.get? a=some (W.methodObj (.ref f) (.ref y)):=x
  show h'.get? a=some (W.methodObj (.ref f) (.ref y))
  exact k a _ (.inl rfl) e
 | ext φ=>obtain⟨p,⟨o,e⟩,st⟩:=x;exact⟨st _ _ p λo q=>k _ _ (.inl rfl) q,⟨o,k _ _ (.inl rfl) e⟩,st⟩
theorem cA.lt(x:cA P w H h)(e:H a=some o):a<h.objs.size:=(x a o e).lt
def cA.fresh(x:cA P w H h)(e:h.objs.size≤a):H a=none:=by
 cases q:H a with
 | none=>rfl
 | some u=>exact absurd (z1f (x.lt q) e) (z2e _)
def cA.kept(x:cA P w H h)(k:∀b u,h.get? b=some u->h'.get? b=some u):cA P w H h':=λa o e =>
 (x a o e).y464 (λb u _ q=>k b u q) (λ_ q=>q) λ_ _ q=>q
def cA.laid(x:cA P w H h)(k:∀b u,h.get? b=some u->h'.get? b=some u)(hp:h.objs.size≤a)(new:c6 P w (upd H a o) h' a o):cA P w (upd H a o) h':=λb u e=>by
 have hn:=x.fresh hp
 by_cases hb:b=a
 ·subst hb;rw [bf] at e;cases e;exact new
 ·rw [aQ hb] at e
  exact (x b u e).y464 (λc v _ q=>k c v q) (λc q=>by rw [aQ (gM q hn)];exact q) λc xs q=>by rw [aQ (gM q hn)];exact q
end
abbrev Rd(H:Hp)(a:Addr)(u:HO):Prop:=H a=some u∨∃o,H a=some (.frz o u)
def Rd.ok{P:Program}{w:World}{H:Hp}{h:Heap}{a:Addr}{u:HO}(r:Rd H a u)(x:cA P w H h):c6 P w H h a u:=by
 rcases r with r|⟨o,r⟩
 ·exact x a u r
 ·obtain⟨_,q⟩:=x a _ r
  exact q
abbrev qY:Option HO->Prop
 | some (.lst _)=>True
 | some (.dK _)=>True
 | some (.dT _)=>True
 | some (.set _ _)=>True
 | some (.ins _ _ _)=>True
 | some (.ext _)=>True
 | _=>False
section
variable {P:Program}{w:World}{H:Hp}{h h':Heap}{x e:Addr}{o':HO}
def cA.write(ok:cA P w H h)(mu:qY (H x))(he:e=x∨H e=some (.own x))(k:∀b u,b≠e->h.get? b=some u->h'.get? b=some u)(heo:∃u,h'.get? e=some u)
  (new:c6 P w (upd H x o') h' x o'):cA P w (upd H x o') h':=λb u q=>by
 have nown:∀c y,H c=some (.own y)->c≠x:=λc y r z=>by subst z;rw [r] at mu;exact mu
 have ntup:∀c xs,H c=some (.tup xs)->c≠x:=λc xs r z=>by subst z;rw [r] at mu;exact mu
 by_cases hb:b=x
 ·subst hb;rw [bf] at q;cases q;exact new
 ·rw [aQ hb] at q
  by_cases hbe:b=e
  ·have q':H b=some (.own x):=by
    rcases he with z|z
    ·exact absurd (hbe.trans z) hb
    ·rw [hbe];exact z
   rw [q] at q';cases q'
   obtain⟨v,hv⟩:=heo
   exact⟨v,by rw [hbe];exact hv⟩
  ·refine (ok b u q).y464 (λc v hc r=>k c v ?_ r) (λc r=>by rw [aQ (nown c b r)];exact r) λc xs r=>by rw [aQ (ntup c xs r)];exact r
   rcases hc with rfl|hc
   ·exact hbe
   ·rintro rfl
    rcases he with z|z
    ·exact nown c b hc z
    ·rw [hc] at z;cases z;exact hb rfl
end
structure Un(fs ex:List Addr)(H H':Hp)(h h':Heap):Prop where
 keep:∀b o,h.get? b=some o->H b=none->b∉fs->b∉ex->h'.get? b=some o
 slot:∀b o,h.get? b=some o->H b=none->b∈fs->b∉ex->∃sl,h'.get? b=some { o with slots:=sl }
 free:∀b o,h.get? b=some o->H b=none->b∉ex->H' b=none
 there:∀b o,h.get? b=some o->b∉ex->∃o',h'.get? b=some o'
 y4bc:∀b xs,H b=some (.tup xs)->H' b=some (.tup xs)
 y16e:∀b o u,H b=some (.frz o u)->H' b=some (.frz o u)
 y49d:∀b ps,H b=some (.tbl ps)->∃more,H' b=some (.tbl (ps++more))
section
variable {fs fs' ex ex':List Addr}{H H1 H2:Hp}{h h1 h2 h':Heap}{a x e:Addr}{o:HO}
def Un.any(u:Un fs ex H H1 h h1){b:Addr}{ob:Obj}(q:h.get? b=some ob)(n:H b=none)(hx:b∉ex):∃sl,h1.get? b=some { ob with slots:=sl }:=by
 by_cases hb:b∈fs
 ·exact u.slot b ob q n hb hx
 ·exact⟨ob.slots,u.keep b ob q n hb hx⟩
def Un.kept(k:∀b u,h.get? b=some u->h'.get? b=some u):Un fs ex H H h h' :=
 ⟨λb ob q _ _ _=>k b ob q,λb ob q _ _ _=>⟨ob.slots,k b ob q⟩,λ_ _ _ n _=>n,λb ob q _=>⟨ob,k b ob q⟩,λ_ _ q=>q,λ_ _ _ q=>q,λ_ ps q=>⟨#[],by rw [q];simp⟩⟩
def Un.refl:Un fs ex H H h h:=Un.kept λ_ _ q=>q
def Un.laid(k:∀b u,h.get? b=some u->h'.get? b=some u)(hp:h.objs.size≤a)(hn:H a=none):Un fs ex H (upd H a o) h h' where
 keep:=λb u q _ _ _=>k b u q
 slot:=λb u q _ _ _=>⟨u.slots,k b u q⟩
 free:=λb u q n _=>by rw [aQ (z28 (z1f (z14 q) hp))];exact n
 there:=λb u q _=>⟨u,k b u q⟩
 y4bc:=λb xs q=>by rw [aQ (gM q hn)];exact q
 y16e:=λb u xs q=>by rw [aQ (gM q hn)];exact q
 y49d:=λb ps q=>⟨#[],by rw [aQ (gM q hn),q];simp⟩
def Un.write(mu:qY (H x))(he:e=x∨H e=some (.own x))(k:∀b u,b≠e->h.get? b=some u->h'.get? b=some u)(heo:∃u,h'.get? e=some u):Un fs ex H (upd H x o) h h':=by
 have hx:∀b,H b=none->b≠x:=λb n z=>by subst z;rw [n] at mu;exact mu
 have hb:∀b,H b=none->b≠e:=λb n z=>by
  subst z
  rcases he with r|r
  ·exact hx b n r
  ·rw [n] at r;cases r
 have hm:∀b u,H b=some u->¬ qY (some u)->b≠x:=λb u q nm z=>by subst z;rw [q] at mu;exact nm mu
 refine⟨λb u q n _ _=>k b u (hb b n) q,λb u q n _ _=>⟨u.slots,k b u (hb b n) q⟩,λb u q n _=>by rw [aQ (hx b n)];exact n,λb u q _=>?_,
  λb xs q=>by rw [aQ (hm b _ q λz=>z)];exact q,λb u xs q=>by rw [aQ (hm b _ q λz=>z)];exact q,λb ps q=>⟨#[],by rw [aQ (hm b _ q λz=>z),q];simp⟩⟩
 by_cases hbe:b=e
 ·subst hbe;exact heo
 ·exact⟨u,k b u hbe q⟩
end
abbrev Al(h:Heap)(H:Hp):List Addr:=(List.range h.objs.size).filter λa=>(H a).isSome
abbrev eU(h:Heap)(H:Hp):Heap:=W.hideAll h (Al h H)
def Bg(h:Heap)(H:Hp):(eU h H).objs.size=h.objs.size:=W.hideAll_size _ _
def Bh{h:Heap}{H:Hp}{b:Addr}{o:Obj}(e:h.get? b=some o)(n:H b=none):(eU h H).get? b=some o :=
 W.hideAll_get _ e λhm=>by
  have q:(H b).isSome=true:=(List.mem_filter.mp hm).2
  rw [n] at q;simp at q
def Bi{h:Heap}{H:Hp}{b:Addr}{o:Obj}(e:(eU h H).get? b=some o):h.get? b=some o/\H b=none:=by
 have e':h.get? b=some o:=W.of_hideAll (Al h H) e
 refine⟨e',?_⟩
 cases q:H b with
 | none=>rfl
 | some x =>
  have hm:b∈Al h H:=List.mem_filter.mpr ⟨List.mem_range.mpr (z14 e'),by simp [q]⟩
  have z:(eU h H).get? b=none:=W.hideAll_none (Al h H) hm
  rw [z] at e;cases e
abbrev y64(g h:Heap)(L:Addr):List (Addr×Obj):=(List.range h.objs.size).filterMap λa=>if a=L∨(g.get? a).isSome=true then none else (h.get? a).map λo=>(a,o)
abbrev aG(g h:Heap)(L d:Addr):List (Addr×Obj):=(y64 g h L).filter λp=>decide (p.1≠d)
end
section
structure Mod(K:W.Frag)(mg:Str->Option Value)(base:Heap):Prop where
 kin:K.In base
 glob:base.Ns mainGlobals mg
 blt:∃mb,base.Ns builtinsNs mb/\∀x:Str,x≠"__name__"->mb x=bootBuiltins x
 nolimit:base.NoLimit
structure Cx where
 prog:Program
 w:World
 K:W.Frag
 mg:Str->Option Value
 base:Heap
 A:Around
 N:List Str
 s₀:Shared
 H₀:Hp
 env:Env
 outer:List Env
 stack:List Env
 ex:List Addr
 fn:Str->Bool
 calm:Bool
 pn:List (Addr×Obj)
 xe:Value->Shared->Prop
abbrev fL(l:List Env):List Addr:=l.filterMap (·.frame)
noncomputable abbrev Cx.fs(X:Cx):List Addr:=fL X.outer
abbrev Am(sc:Scope)(x:Str):Prop:=sc.names.lookup x=some .local∨sc.names.lookup x=some .cell∨sc.names.lookup x=some .free
abbrev qD(sc:Scope)(x:Str):Prop:=sc.names.lookup x=some .local∨sc.names.lookup x=some .cell
abbrev Bj(env:Env)(h:Heap)(m:Str->Option Value)(x:Str)(u:Value):Prop :=
 (env.kindOf x=some .local/\m x=some u)∨((env.kindOf x=some .cell∨env.kindOf x=some .free)/\∃c,env.cells.lookup x=some c/\h.IsCell c (some u))
structure Cx.Ok(X:Cx):Prop where
 mod:Mod X.K X.mg X.base
 kind:X.env.scope.kind=.function
 glob:X.env.globals=mainGlobals
 blt:X.env.builtins=builtinsNs
 above:X.s₀.heap.objs.size≤X.env.locals
 inj:∀x y c,X.env.cells.lookup x=some c->X.env.cells.lookup y=some c->x=y
 has:∀x,(X.env.kindOf x=some .cell∨X.env.kindOf x=some .free)->∃c,X.env.cells.lookup x=some c
 cab:∀x c,X.fn x=true->X.env.cells.lookup x=some c->X.s₀.heap.objs.size≤c
 hd:X.calm=true->X.A.handled=none
 frames:X.A.frames=some X.stack
 stk:X.stack=X.outer∨(X.stack=X.env::X.outer/\X.env.frame=some X.env.locals)
 exf:∀b∈X.ex,b≠X.env.locals/\∀x c,X.env.cells.lookup x=some c->c≠b
 bs:∀b o,X.base.get? b=some o->X.s₀.heap.get? b=some o/\X.H₀ b=none
 bsz:X.base.objs.size≤X.s₀.heap.objs.size
 y293:∀b o,X.base.get? b=some o->b∉X.ex
 y142:∀b∈X.ex,b∉X.fs
 y170:X.s₀.heap.FunFrames X.base X.outer
 frf:∀b∈X.fs,X.H₀ b=none
structure Inv(X:Cx)(pins:List (Addr×Obj))(σ:List (Option V))(H:Hp)(s:Shared):Prop where
 ok:X.Ok
 os:s.os=X.s₀.os
 bare:AllBare s.gens
 base:Un X.fs X.ex X.H₀ H X.s₀.heap s.heap
 loc:∃m,s.heap.Ns X.env.locals m/\∀(i:Nat) (x:Str) (v:V),X.N[i]?=some x->σ[i]?=some (some v)->Am X.env.scope x->∃u,ay v u/\Bj X.env s.heap m x u
 cell:∀x c,X.env.cells.lookup x=some c->∃v,s.heap.IsCell c v
 free:H X.env.locals=none
 y16c:∀x c,X.env.cells.lookup x=some c->H c=none
 pin:∀p∈X.pn++pins,s.heap.get? p.1=some p.2/\H p.1=none/\p.1≠X.env.locals/\p.1∉X.fs/\∀v,p.2.data≠.cell v
 hok:cA X.prog X.w H s.heap
 len:σ.length=X.N.length
section
variable {X:Cx}{pins:List (Addr×Obj)}{σ:List (Option V)}{H H':Hp}{s:Shared}{h':Heap}
def Cx.Ok.nofr(ok:X.Ok){b:Addr}{o:Obj}(e:X.base.get? b=some o):b∉X.fs:=λhb=>by
 have:=(ok.y170.mem hb).1
 rw [e] at this;cases this
theorem Inv.bs(I:Inv X pins σ H s):∀b o,X.base.get? b=some o->s.heap.get? b=some o/\H b=none:=λb o e =>
 ⟨I.base.keep b o (I.ok.bs b o e).1 (I.ok.bs b o e).2 (I.ok.nofr e) (I.ok.y293 b o e),I.base.free b o (I.ok.bs b o e).1 (I.ok.bs b o e).2 (I.ok.y293 b o e)⟩
def Inv.bk(I:Inv X pins σ H s):∀b o,X.base.get? b=some o->s.heap.get? b=some o:=λb o e=>(I.bs b o e).1
theorem Inv.mod(I:Inv X pins σ H s):Mod X.K X.mg X.base:=I.ok.mod
def Inv.kIn(I:Inv X pins σ H s):X.K.In s.heap:=I.ok.mod.kin.keeps I.bk
def Inv.fr(I:Inv X pins σ H s):∃m,Fr X.base X.env.locals s.heap m :=
 let ⟨m,hn,_⟩:=I.loc
 ⟨m,hn,I.bk,z1c I.ok.bsz I.ok.above⟩
theorem Inv.lt(I:Inv X pins σ H s):X.env.locals<s.heap.objs.size:=let ⟨_,hn,_⟩:=I.loc;hn.lt
def Inv.sz(I:Inv X pins σ H s):X.s₀.heap.objs.size≤s.heap.objs.size:=z1c I.ok.above (Nat.le_of_lt I.lt)
def Inv.nofs(I:Inv X pins σ H s){a:Addr}(h:s.heap.objs.size≤a):a∉X.fs:=λhb=>by
 obtain⟨_,o,ho,_⟩:=I.ok.y170.mem hb
 exact absurd (z1f (z14 ho) (z1c I.sz h)) (z2e _)
def Inv.cne(I:Inv X pins σ H s):∀x c,X.env.cells.lookup x=some c->c≠X.env.locals:=λx c e z=>by
 obtain⟨v,o,ho,hd⟩:=I.cell x c e
 obtain⟨m,⟨o',es,ep,ho',hd',_⟩,_⟩:=I.loc
 rw [z,ho'] at ho;cases ho;rw [hd'] at hd;cases hd
theorem Inv.y170(I:Inv X pins σ H s):s.heap.FunFrames X.base X.outer:=by
 have all:∀(l:List Env),(∀b∈fL l,b∈X.fs)->X.s₀.heap.FunFrames X.base l->s.heap.FunFrames X.base l:=by
  intro l
  induction l with
  | nil=>intro _ _;trivial
  | cons env r ih =>
   intro hs hl
   obtain⟨hk,⟨L,o,hf,hn,ho,hd⟩,hr⟩:=hl
   have hL:L∈X.fs:=hs L (by unfold fL;rw [List.filterMap_cons,hf];exact List.mem_cons_self)
   obtain⟨sl,e⟩:=I.base.slot L o ho (I.ok.frf L hL) hL λz=>I.ok.y142 L z hL
   exact⟨hk,⟨L,_,hf,hn,e,hd⟩,ih (λb hb=>hs b (by unfold fL;rw [List.filterMap_cons,hf];exact z21 _ hb)) hr⟩
 exact all X.outer (λ_ hb=>hb) I.ok.y170
theorem Inv.stack(I:Inv X pins σ H s):s.heap.FunFrames X.base X.stack:=by
 rcases I.ok.stk with e|⟨e,hf⟩
 ·rw [e];exact I.y170
 ·rw [e]
  obtain⟨m,hn,_⟩:=I.loc
  refine .cons (by rw [I.ok.kind];decide) hf hn ?_ I.y170
  exact Heap.get?_none_of_le (z1c I.ok.bsz I.ok.above)
def Inv.y466(I:Inv X pins σ H s):∀b∈fL X.stack,b∈X.env.locals::X.fs:=λb hb=>by
 rcases I.ok.stk with e|⟨e,hf⟩
 ·rw [e] at hb;exact z21 _ hb
 ·rw [e] at hb
  unfold fL at hb
  rw [List.filterMap_cons,hf] at hb
  exact hb
def Inv.y465(I:Inv X pins σ H s):∀b∈fL X.stack,H b=none:=λb hb=>by
 rcases z1d.mp (I.y466 b hb) with e|hb
 ·rw [e];exact I.free
 ·obtain⟨_,o,ho,_⟩:=I.ok.y170.mem hb
  exact I.base.free b o ho (I.ok.frf b hb) λz=>I.ok.y142 b z hb
def Inv.step{g':Array GenState}{t':Nat}{d':Drawn}{ch:List Addr}(I:Inv X pins σ H s)
  (hch:∀b∈ch,(b∈X.ex∨X.s₀.heap.objs.size≤b)/\b≠X.env.locals/\(∀x c,X.env.cells.lookup x=some c->c≠b)/\∀p∈X.pn++pins,p.1≠b)
  (keep:∀b o,b≠X.env.locals->b∉X.fs->b∉ch->s.heap.get? b=some o->H b=none->h'.get? b=some o)
  (slot:∀b o,b≠X.env.locals->b∈X.fs->b∉ch->s.heap.get? b=some o->H b=none->∃sl,h'.get? b=some { o with slots:=sl }) (free:∀b o,b∉ch->s.heap.get? b=some o->H b=none->H' b=none)
  (there:∀b o,b∉ch->s.heap.get? b=some o->∃o',h'.get? b=some o')
  (y4bc:∀b xs,H b=some (.tup xs)->H' b=some (.tup xs)) (y16e:∀b o u,H b=some (.frz o u)->H' b=some (.frz o u)) (y49d:∀b ps,H b=some (.tbl ps)->∃more,H' b=some (.tbl (ps++more)))
  (ns:∀m,s.heap.Ns X.env.locals m->h'.Ns X.env.locals m) (hok:cA X.prog X.w H' h') (hg:AllBare g') :
  Inv X pins σ H' { s with heap:=h',gens:=g',drawn:=d',toks:=t' }:=by
 have neL:∀b o,X.s₀.heap.get? b=some o->b≠X.env.locals:=λb o e=>z28 (z1f (z14 e) I.ok.above)
 have neC:∀b o,X.s₀.heap.get? b=some o->b∉X.ex->b∉ch:=λb o e hx hb=>by
  rcases (hch b hb).1 with z|z
  ·exact hx z
  ·exact absurd (z1f (z14 e) z) (z2e _)
 have cellK:∀x c,X.env.cells.lookup x=some c->∀v,s.heap.IsCell c v->h'.IsCell c v:=λx c e v zz=>by
  obtain⟨o,ho,hd⟩:=zz
  have nch:c∉ch:=λz=>(hch c z).2.2.1 x c e rfl
  by_cases hc:c∈X.fs
  ·obtain⟨sl,q⟩:=slot c o (I.cne x c e) hc nch ho (I.y16c x c e)
   exact⟨_,q,hd⟩
  ·exact⟨o,keep c o (I.cne x c e) hc nch ho (I.y16c x c e),hd⟩
 refine⟨I.ok,I.os,hg,⟨λb o e n hb hx=>?_,λb o e n hb hx=>?_,λb o e n hx=>?_,λb o e hx=>?_,λb xs e=>y4bc b xs (I.base.y4bc b xs e),λb o xs e=>y16e b o xs (I.base.y16e b o xs e),λb ps e=>?_⟩,?_,λx c e=>?_,?_,λx c e=>?_,λp hp=>?_,hok,I.len⟩
 ·exact keep b o (neL b o e) hb (neC b o e hx) (I.base.keep b o e n hb hx) (I.base.free b o e n hx)
 ·obtain⟨sl,e1⟩:=I.base.slot b o e n hb hx
  obtain⟨sl',e2⟩:=slot b _ (neL b o e) hb (neC b o e hx) e1 (I.base.free b o e n hx)
  exact⟨sl',e2⟩
 ·obtain⟨o',e1⟩:=I.base.there b o e hx
  exact free b o' (neC b o e hx) e1 (I.base.free b o e n hx)
 ·obtain⟨o',e1⟩:=I.base.there b o e hx
  exact there b o' (neC b o e hx) e1
 ·obtain⟨m1,e1⟩:=I.base.y49d b ps e
  obtain⟨m2,e2⟩:=y49d b _ e1
  exact⟨m1++m2,by rw [e2,Array.append_assoc]⟩
 ·obtain⟨m,hn,hl⟩:=I.loc
  refine⟨m,ns m hn,λi x v e1 e2 e3=>?_⟩
  obtain⟨u,r,l⟩:=hl i x v e1 e2 e3
  refine⟨u,r,?_⟩
  rcases l with l|⟨k,c,e,z⟩
  ·exact .inl l
  ·exact .inr ⟨k,c,e,cellK x c e _ z⟩
 ·obtain⟨v,z⟩:=I.cell x c e
  exact⟨v,cellK x c e v z⟩
 ·obtain⟨m,⟨o,_,_,ho,_⟩,_⟩:=I.loc
  exact free _ o (λz=>(hch _ z).2.1 rfl) ho I.free
 ·obtain⟨v,o,ho,hd⟩:=I.cell x c e
  exact free c o (λz=>(hch c z).2.2.1 x c e rfl) ho (I.y16c x c e)
 ·obtain⟨e,n,ne,nf,d⟩:=I.pin p hp
  have nch:p.1∉ch:=λz=>(hch p.1 z).2.2.2 p hp rfl
  exact⟨keep p.1 p.2 ne nf nch e n,free p.1 p.2 nch e n,ne,nf,d⟩
def Inv.un{t':Nat}(I:Inv X pins σ H s)(u:Un X.fs [] H H' s.heap h')(hok:cA X.prog X.w H' h'):Inv X pins σ H' { s with heap:=h',toks:=t' }:=by
 obtain⟨m,⟨o,es,ep,ho,r⟩,_⟩:=id I.loc
 obtain⟨sl,hL⟩:=u.any ho I.free (by simp)
 exact I.step (g':=s.gens) (d':=s.drawn) (ch:=[]) (λ_ z=>nomatch z) (λb o _ hb _ e n=>u.keep b o e n hb (by simp)) (λb o _ hb _ e n=>u.slot b o e n hb (by simp)) (λb o _ e n=>u.free b o e n (by simp)) (λb o _ e=>u.there b o e (by simp)) u.y4bc u.y16e u.y49d (λm' hm=>by
  obtain⟨o',es',ep',ho',r'⟩:=hm
  rw [ho] at ho';cases ho'
  exact⟨_,es',ep',hL,r'⟩) hok I.bare
def Inv.call{g':Array GenState}{t':Nat}{d':Drawn}{ch:List Addr}(I:Inv X pins σ H s)(u:Un (fL X.stack) ch H H' s.heap h')(hok:cA X.prog X.w H' h')(hg:AllBare g')
  (hch:∀b∈ch,(b∈X.ex∨X.s₀.heap.objs.size≤b)/\b≠X.env.locals/\(∀x c,X.env.cells.lookup x=some c->c≠b)/\∀p∈X.pn++pins,p.1≠b) :
  Inv X pins σ H' { s with heap:=h',gens:=g',drawn:=d',toks:=t' }:=by
 obtain⟨m,⟨o,es,ep,ho,r⟩,_⟩:=id I.loc
 obtain⟨sl,hL⟩:=u.any ho I.free λz=>(hch _ z).2.1 rfl
 exact I.step (ch:=ch) hch (λb o hL hb hc e n=>u.keep b o e n (λz=>(z1d.mp (I.y466 b z)).elim hL hb) hc) (λb o _ _ hc e n=>u.any e n hc) (λb o hc e n=>u.free b o e n hc) (λb o hc e=>u.there b o e hc) u.y4bc u.y16e u.y49d (λm' hm=>by
  obtain⟨o',es',ep',ho',r'⟩:=hm
  rw [ho] at ho';cases ho'
  exact⟨_,es',ep',hL,r'⟩) hok hg
def Inv.turned{t':Nat}{it:Addr}(I:Inv X pins σ H s)(k:∀b o,b≠it->s.heap.get? b=some o->h'.get? b=some o)(hn:H it=none)(hL:it≠X.env.locals)
  (h1:it∈X.ex∨X.s₀.heap.objs.size≤it) (h2:∀x c,X.env.cells.lookup x=some c->c≠it) (h3:∀p∈X.pn++pins,p.1≠it):Inv X pins σ H { s with heap:=h',toks:=t' }:=by
 have nit:∀b u,H b=some u->b≠it:=λb u e z=>by rw [z,hn] at e;cases e
 refine I.step (g':=s.gens) (d':=s.drawn) (ch:=[it]) (λb hb=>?_) (λb o _ _ hc e _=>k b o (λz=>hc (by simp [z])) e) (λb o _ _ hc e _=>⟨o.slots,k b o (λz=>hc (by simp [z])) e⟩) (λ_ _ _ _ n=>n)
  (λb o hc e=>⟨o,k b o (λz=>hc (by simp [z])) e⟩) (λ_ _ e=>e) (λ_ _ _ e=>e) (λb ps e=>⟨#[],by rw [e];simp⟩) (λm hm=>?_) (λb u e=>?_) I.bare
 ·have e:b=it:=by simpa using hb
  subst e
  exact⟨h1,hL,h2,h3⟩
 ·obtain⟨o,es,ep,ho,r⟩:=hm
  exact⟨o,es,ep,k _ o (Ne.symm hL) ho,r⟩
 ·refine (I.hok b u e).y464 (λc v hc q=>k c v ?_ q) (λ_ q=>q) λ_ _ q=>q
  rcases hc with z|z
  ·rw [z];exact nit b u e
  ·exact nit c _ z
def Inv.tok(I:Inv X pins σ H s)(t:Nat):Inv X pins σ H { s with toks:=t }:=I.un (h':=s.heap) (t':=t) Un.refl I.hok
theorem Inv.kept{t':Nat}(I:Inv X pins σ H s)(k:∀b u,s.heap.get? b=some u->h'.get? b=some u):Inv X pins σ H { s with heap:=h',toks:=t' }:=I.un (Un.kept k) (I.hok.kept k)
theorem Inv.laid{a:Addr}{o:HO}{t':Nat}(I:Inv X pins σ H s)(k:∀b u,s.heap.get? b=some u->h'.get? b=some u)(hp:s.heap.objs.size≤a)(new:c6 X.prog X.w (upd H a o) h' a o) :
  Inv X pins σ (upd H a o) { s with heap:=h',toks:=t' }:=I.un (Un.laid k hp (I.hok.fresh hp)) (I.hok.laid k hp new)
theorem Inv.write{x e:Addr}{o:HO}{t':Nat}(I:Inv X pins σ H s)(mu:qY (H x))(he:e=x∨H e=some (.own x))(k:∀b u,b≠e->s.heap.get? b=some u->h'.get? b=some u)(heo:∃u,h'.get? e=some u)
  (new:c6 X.prog X.w (upd H x o) h' x o):Inv X pins σ (upd H x o) { s with heap:=h',toks:=t' }:=I.un (Un.write mu he k heo) (I.hok.write mu he k heo new)
def Inv.weak{σ':List (Option V)}(I:Inv X pins σ H s)(hl:σ'.length=σ.length)(w:∀(i:Nat) v,σ'[i]?=some (some v)->σ[i]?=some (some v)):Inv X pins σ' H s :=
 ⟨I.ok,I.os,I.bare,I.base,let ⟨m,hn,hl'⟩:=I.loc;⟨m,hn,λi x v e1 e2 e3=>hl' i x v e1 (w i v e2) e3⟩,I.cell,I.free,I.y16c,I.pin,I.hok,hl.trans I.len⟩
def Inv.y355{y353:List (Addr×Obj)}(I:Inv X pins σ H s)(h:∀p∈y353,s.heap.get? p.1=some p.2/\H p.1=none/\p.1≠X.env.locals/\p.1∉X.fs/\∀v,p.2.data≠.cell v):Inv X y353 σ H s :=
 ⟨I.ok,I.os,I.bare,I.base,I.loc,I.cell,I.free,I.y16c,λp hp=>(z1e.mp hp).elim (λz=>I.pin p (List.mem_append_left _ z)) (h p),I.hok,I.len⟩
def nD{N:List Str}(hN:N.Nodup){i j:Nat}{x:Str}(a:N[i]?=some x)(b:N[j]?=some x):i=j:=by
 obtain⟨h1,e1⟩:=z1a.mp a
 obtain⟨h2,e2⟩:=z1a.mp b
 exact (List.getElem_inj hN).mp (e1.trans e2.symm)
def qZ{M:Model}{A:Around}{E:Value->Shared->Prop}{i:Nat}{x:Str}{v:V}{u:Value}{Q:Unit->Shared->Prop}(I:Inv X pins σ H s)(hN:X.N.Nodup)(hi:X.N[i]?=some x)(hx:qD X.env.scope x)(r:ay v u)
  (h:∀s',Inv X pins (σ.set i (some v)) H s'->(∃a,Heap.SameBut a s.heap s'.heap/\(a=X.env.locals∨X.env.cells.lookup x=some a))->Q () s') (hf:X.fn x=true∨X.env.scope.names.lookup x=some .local:=by first|exact .inl rfl|exact .inr rfl|assumption):wpAny M A (storeName X.env x u) Q E s:=by
 obtain⟨m,hn,hl⟩:=id I.loc
 have y1ad:(X.env.scope.kind == .class||(X.env.scope.kind == .module&&X.env.locals != X.env.globals))=false:=by rw [I.ok.kind];rfl
 have hiσ:i<σ.length:=by rw [I.len];exact (z1a.mp hi).1
 have cne:=I.cne
 have tracked:∀{a:Addr} {h':Heap},(∃o,s.heap.get? a=some o/\H a=none)->Heap.SameBut a s.heap h'->cA X.prog X.w H h':=λ{a h'} ha hs b ob e=>by
  obtain⟨_,_,y1b1⟩:=ha
  refine (I.hok b ob e).y464 (λc w' hc q=>(hs.2 c ?_).trans q) (λ_ q=>q) λ_ _ q=>q
  rintro rfl
  rcases hc with rfl|hc
  ·rw [y1b1] at e;cases e
  ·rw [y1b1] at hc;cases hc
 rcases hx with hk|hk
 ·refine wpAny_storeName_local hk hn (λh' hn' hs=>?_) y1ad
  obtain⟨oL,_,_,hoL,_⟩:=id hn
  refine h _ ⟨I.ok,I.os,I.bare,⟨λb o e n hb hx=>?_,λb o e n hb hx=>?_,I.base.free,λb o e hx=>?_,I.base.y4bc,I.base.y16e,I.base.y49d⟩,⟨_,hn',λj y v' e1 e2 e3=>?_⟩,λy c e=>?_,I.free,I.y16c,λp hp=>?_,tracked ⟨oL,hoL,I.free⟩ hs,by simpa using I.len⟩ ⟨_,hs,.inl rfl⟩
  ·exact (hs.2 b (z28 (z1f (z14 e) I.ok.above))).trans (I.base.keep b o e n hb hx)
  ·obtain⟨sl,e1⟩:=I.base.slot b o e n hb hx
   exact⟨sl,(hs.2 b (z28 (z1f (z14 e) I.ok.above))).trans e1⟩
  ·obtain⟨o',e1⟩:=I.base.there b o e hx
   exact⟨o',(hs.2 b (z28 (z1f (z14 e) I.ok.above))).trans e1⟩
  ·by_cases hj:j=i
   ·subst hj
    rw [hi] at e1;cases e1
    rw [List.getElem?_set_self hiσ] at e2
    cases e2
    exact⟨u,r,.inl ⟨hk,by simp⟩⟩
   ·rw [z26 (Ne.symm hj)] at e2
    obtain⟨u',r',q⟩:=hl j y v' e1 e2 e3
    refine⟨u',r',?_⟩
    rcases q with⟨k,e⟩| ⟨k,c,e,z⟩
    ·refine .inl ⟨k,?_⟩
     have:y≠x:=λe=>hj (nD hN e1 (e ▸ hi))
     simp [this,e]
    ·exact .inr ⟨k,c,e,z.sameBut hs (cne y c e)⟩
  ·obtain⟨w',z⟩:=I.cell y c e
   exact⟨w',z.sameBut hs (cne y c e)⟩
  ·obtain⟨e,n,ne,nf,d⟩:=I.pin p hp
   exact⟨(hs.2 p.1 ne).trans e,n,ne,nf,d⟩
 ·have hfn:X.fn x=true:=by
   rcases hf with z|z
   ·exact z
   ·rw [z] at hk;cases hk
  obtain⟨c,hc⟩:=I.ok.has x (.inl hk)
  obtain⟨w',z⟩:=I.cell x c hc
  refine wpAny_storeName_cell I.ok.kind hk hc z (λh' hc' hs=>?_)
  obtain⟨oc,hoc,hocd⟩:=id z
  refine h { s with heap:=h' } ⟨I.ok,I.os,I.bare,⟨λb o e n hb hx=>?_,λb o e n hb hx=>?_,I.base.free,λb o e hx=>?_,I.base.y4bc,I.base.y16e,I.base.y49d⟩,⟨m,hn.sameBut hs (Ne.symm (cne x c hc)),λj y v' e1 e2 e3=>?_⟩,λy c' e=>?_,I.free,I.y16c,λp hp=>?_,tracked ⟨oc,hoc,I.y16c x c hc⟩ hs,by simpa using I.len⟩ ⟨c,hs,.inr hc⟩
  ·exact (hs.2 b (z28 (z1f (z14 e) (I.ok.cab x c hfn hc)))).trans (I.base.keep b o e n hb hx)
  ·obtain⟨sl,e1⟩:=I.base.slot b o e n hb hx
   exact⟨sl,(hs.2 b (z28 (z1f (z14 e) (I.ok.cab x c hfn hc)))).trans e1⟩
  ·obtain⟨o',e1⟩:=I.base.there b o e hx
   exact⟨o',(hs.2 b (z28 (z1f (z14 e) (I.ok.cab x c hfn hc)))).trans e1⟩
  ·by_cases hj:j=i
   ·subst hj
    rw [hi] at e1;cases e1
    rw [List.getElem?_set_self hiσ] at e2
    cases e2
    exact⟨u,r,.inr ⟨.inl hk,c,hc,hc'⟩⟩
   ·rw [z26 (Ne.symm hj)] at e2
    obtain⟨u',r',q⟩:=hl j y v' e1 e2 e3
    refine⟨u',r',?_⟩
    rcases q with q|⟨k,c',e,z'⟩
    ·exact .inl q
    ·refine .inr ⟨k,c',e,z'.sameBut hs ?_⟩
     rintro rfl
     exact hj (nD hN e1 (I.ok.inj _ _ _ e hc ▸ hi))
  ·by_cases hcc:c'=c
   ·subst hcc;exact⟨_,hc'⟩
   ·obtain⟨w2,z2⟩:=I.cell y c' e
    exact⟨w2,z2.sameBut hs hcc⟩
  ·obtain⟨e,n,ne,nf,d⟩:=I.pin p hp
   refine⟨(hs.2 p.1 ?_).trans e,n,ne,nf,d⟩
   intro q
   rw [q,hoc] at e
   have q':oc=p.2:=z20 e
   exact d w' (by rw [<- q'];exact hocd)
def nE{M:Model}{A:Around}{E:Value->Shared->Prop}{i:Nat}{x:Str}{v:V}{u:Value}{Q:Unit->Shared->Prop}(I:Inv X pins σ H s)(hN:X.N.Nodup)(hi:X.N[i]?=some x)(hx:qD X.env.scope x)(r:ay v u)
  (h:∀s',Inv X pins (σ.set i (some v)) H s'->Q () s') (hf:X.fn x=true∨X.env.scope.names.lookup x=some .local:=by first|exact .inl rfl|exact .inr rfl|assumption):wpAny M A (storeName X.env x u) Q E s :=
 qZ I hN hi hx r (λs' I' _=>h s' I') hf
def Inv.y9f{s':Shared}{ch:List Addr}(I:Inv X pins σ H s)(ho:s'.os=s.os)(u:Un (fL X.stack) ch H H' s.heap s'.heap)(hok:cA X.prog X.w H' s'.heap)(hg:AllBare s'.gens)
  (hch:∀b∈ch,(b∈X.ex∨X.s₀.heap.objs.size≤b)/\b≠X.env.locals/\(∀x c,X.env.cells.lookup x=some c->c≠b)/\∀p∈X.pn++pins,p.1≠b):Inv X pins σ H' s':=by
 obtain⟨h',g',d',t',o'⟩:=s'
 have e:o'=s.os:=ho
 subst e
 exact I.call (g':=g') (t':=t') (d':=d') u hok hg hch
end
noncomputable abbrev XK:=Value->Option Addr->Hp->Prop
noncomputable abbrev St:=List (Option V)
noncomputable abbrev VK:=V->Hp->Prop
noncomputable abbrev TE:=St->Hp->VK->Prop
noncomputable abbrev TT:=St->Hp->(Bool->Hp->Prop)->Prop
noncomputable abbrev TA:=St->Hp->(List V->Hp->Prop)->Prop
structure Ends where
 nx:St->Hp->Prop
 rt:VK
 bk:St->Hp->Prop:=λ_ _=>False
 ct:St->Hp->Prop:=λ_ _=>False
noncomputable abbrev TS:=Ends->St->Hp->Prop
abbrev EP(X:Cx)(pins:List (Addr×Obj))(σ:St)(Q:VK)(u:Value)(s':Shared):Prop:=∃v H',Inv X pins σ H' s'/\ay v u/\Q v H'
abbrev TP(X:Cx)(pins:List (Addr×Obj))(σ:St)(Q:Bool->Hp->Prop)(b:Bool)(s':Shared):Prop:=∃H',Inv X pins σ H' s'/\Q b H'
abbrev AP(X:Cx)(pins:List (Addr×Obj))(σ:St)(Q:List V->Hp->Prop)(us:List Value)(s':Shared):Prop:=∃vs H',Inv X pins σ H' s'/\au vs us/\Q vs H'
abbrev SP(X:Cx)(pins:List (Addr×Obj))(D:Ends)(f:Flow)(s':Shared):Prop :=
 match f with
 | .next=>∃σ' H',Inv X pins σ' H' s'/\D.nx σ' H'
 | .brk=>∃σ' H',Inv X pins σ' H' s'/\D.bk σ' H'
 | .cont=>∃σ' H',Inv X pins σ' H' s'/\D.ct σ' H'
 | .ret u=>∃v σ' H',Inv X pins σ' H' s'/\ay v u/\D.rt v H'
abbrev PE(X:Cx)(e:Expr)(t:TE):Prop :=
 ∀(pins:List (Addr×Obj)) (s:Shared) (σ:St) (H:Hp) (Q:VK),Inv X pins σ H s->t σ H Q->wpAny (model X.prog X.w) X.A (eval e X.env) (EP X pins σ Q) X.xe s
abbrev PT(X:Cx)(e:Expr)(t:TT):Prop :=
 ∀(pins:List (Addr×Obj)) (s:Shared) (σ:St) (H:Hp) (Q:Bool->Hp->Prop),Inv X pins σ H s->t σ H Q->wpAny (model X.prog X.w) X.A (isTrue e X.env (eval e X.env)) (TP X pins σ Q) X.xe s
abbrev PW(X:Cx)(e:Expr)(t:TT):Prop :=
 ∀(whole:Sem Value) (pins:List (Addr×Obj)) (s:Shared) (σ:St) (H:Hp) (Q:Bool->Hp->Prop),Inv X pins σ H s->t σ H Q->wpAny (model X.prog X.w) X.A (isTrue e X.env whole) (TP X pins σ Q) X.xe s
def PW.pt{X:Cx}{e:Expr}{t:TT}(h:PW X e t):PT X e t:=h _
abbrev PA(X:Cx)(es:List Expr)(t:TA):Prop :=
 ∀(pos:Pos) (pins:List (Addr×Obj)) (s:Shared) (σ:St) (H:Hp) (Q:List V->Hp->Prop),Inv X pins σ H s->t σ H Q->wpAny (model X.prog X.w) X.A (spliced (backTo pos (starEach es X.env))) (AP X pins σ Q) X.xe s
abbrev PS(X:Cx)(st:Stmt)(t:TS):Prop :=
 ∀(pins:List (Addr×Obj)) (s:Shared) (σ:St) (H:Hp) (D:Ends),Inv X pins σ H s->t D σ H->wpAny (model X.prog X.w) X.A (exec st X.env) (SP X pins D) X.xe s
abbrev dH(X:Cx)(st:List Stmt)(t:TS):Prop :=
 ∀(pins:List (Addr×Obj)) (s:Shared) (σ:St) (H:Hp) (D:Ends),Inv X pins σ H s->t D σ H->wpAny (model X.prog X.w) X.A (execs st X.env) (SP X pins D) X.xe s
def aN{α:Type}{t:Sem α}{Q Q':α->Shared->Prop}{M:Model}{A:Around}{E:Value->Shared->Prop}{s:Shared}(h:wpAny M A t Q E s)(hQ:∀a s,Q a s->Q' a s):wpAny M A t Q' E s:=wpAny_mono h hQ λ_ _ x=>x
end
section
section
variable {X:Cx}
def bin{a b:Expr}{ta tb:TE}(ha:PE X a ta)(hb:PE X b tb){pins:List (Addr×Obj)}{s:Shared}{σ:St}{H:Hp}{R:V->V->Hp->Prop}(I:Inv X pins σ H s)(h:ta σ H λx H1=>tb σ H1 λy H2=>R x y H2)
  {α:Type} {Q:α->Shared->Prop} {f:Value->Value->Sem α}
  (hf:∀v u s2 x y H2,Inv X pins σ H2 s2->ay x v->ay y u->R x y H2->wpAny (model X.prog X.w) X.A (f v u) Q X.xe s2) :
  wpAny (model X.prog X.w) X.A (eval a X.env) (λv s₁=>wpAny (model X.prog X.w) X.A (eval b X.env) (λu s₂=>wpAny (model X.prog X.w) X.A (f v u) Q X.xe s₂) X.xe s₁) X.xe s:=by
 refine aN (ha pins s σ H _ I h) λv s1 zz=>?_
 obtain⟨x,H1,I1,r1,q1⟩:=zz
 refine aN (hb pins s1 σ H1 _ I1 q1) λu s2 zz=>?_
 obtain⟨y,H2,I2,r2,q2⟩:=zz
 exact hf v u s2 x y H2 I2 r1 r2 q2
abbrev cQ(i:Nat):TE:=λσ H Q=>∃v,σ[i]?=some (some v)/\Q v H
abbrev tC(v:V):TE:=λ_ H Q=>Q v H
def eB{i:Nat}{x:Str}{pos:Pos}(hN:X.N[i]?=some x)(hv:Am X.env.scope x)(hd:(x == ("__debug__" : Str))=false:=by decide)(hcd:(x == ("__classdict__" : Str))=false:=by decide):PE X (.Name x pos) (cQ i):=by
 intro pins s σ H Q I h
 obtain⟨v,e,h⟩:=h
 obtain⟨m,hn,hl⟩:=I.loc
 obtain⟨u,r,l⟩:=hl i x v hN e hv
 have fin:EP X pins σ Q u s:=⟨v,H,I,r,h⟩
 rcases l with⟨hk,hm⟩| ⟨hk,c,hc,y1ac⟩
 ·exact wpAny_Name (wpAny_loadName_local I.ok.kind hk hn hm fin) hd
 ·rcases hk with hk|hk
  ·exact wpAny_Name (wpAny_loadName_cell I.ok.kind hk hc y1ac fin) hd
  ·exact wpAny_Name (wpAny_loadName_free I.ok.kind hk hc y1ac fin hcd) hd
def nF{i j pos}:PE X (.Constant (.int i) j pos) (tC (.int i)):=λ_ _ _ H _ I h=>wpAny_Constant_int ⟨.int i,H,I.tok _,⟨_,rfl⟩,h⟩
def rf{b j pos}:PE X (.Constant (.bool b) j pos) (tC (.bl b)):=λ_ _ _ H _ I h=>Constant_bool ⟨.bl b,H,I,rfl,h⟩
def Bk{j pos}:PE X (.Constant .none j pos) (tC .non):=λ_ _ _ H _ I h=>Constant_none ⟨.non,H,I,rfl,h⟩
def rg{x j pos}:PE X (.Constant (.str x) j pos) (tC (.str x)):=λ_ _ _ H _ I h=>Calls.Constant_str ⟨.str x,H,I.tok _,⟨_,rfl⟩,h⟩
abbrev Gl(X:Cx)(x:Str):Prop:=X.env.kindOf x=some .globalImplicit
def jh{E:Value->Shared->Prop}{pins:List (Addr×Obj)}{s:Shared}{σ:St}{H:Hp}{x:Str}{u:Value}{pos:Pos}{Q:Value->Shared->Prop}(I:Inv X pins σ H s)(hg:Gl X x)(hm:X.mg x=some u)(h:Q u s)
  (hd:(x == ("__debug__" : Str))=false:=by decide):wpAny (model X.prog X.w) X.A (eval (.Name x pos) X.env) Q E s :=
 Calls.Name_function_global I.ok.kind hg (Calls.loadGlobal_global (by rw [I.ok.glob];exact I.mod.glob.keeps I.bk) hm h) hd
def gN{E:Value->Shared->Prop}{pins:List (Addr×Obj)}{s:Shared}{σ:St}{H:Hp}{x:Str}{u:Value}{pos:Pos}{Q:Value->Shared->Prop}(I:Inv X pins σ H s)(hg:Gl X x)(hm:X.mg x=none)(hv:bootBuiltins x=some u)(h:Q u s)
  (hn:x≠"__name__":=by decide) (hd:(x == ("__debug__" : Str))=false:=by decide):wpAny (model X.prog X.w) X.A (eval (.Name x pos) X.env) Q E s:=by
 obtain⟨mb,h1,h2⟩:=I.mod.blt
 exact Calls.Name_function_global I.ok.kind hg (Calls.loadGlobal_builtin (by rw [I.ok.glob];exact I.mod.glob.keeps I.bk) hm (by rw [I.ok.blt];exact h1.keeps I.bk) ((h2 x hn).trans hv) h) hd
def ji{x:Str}{v:V}{u:Value}{pos:Pos}(hg:Gl X x)(hm:X.mg x=some u)(r:ay v u)(hd:(x == ("__debug__" : Str))=false:=by decide):PE X (.Name x pos) (tC v) :=
 λ_ _ _ H _ I h=>jh I hg hm ⟨v,H,I,r,h⟩ hd
def nG{x:Str}{v:V}{u:Value}{pos:Pos}(hg:Gl X x)(hm:X.mg x=none)(hv:bootBuiltins x=some u)(r:ay v u)(hn:x≠"__name__":=by decide)(hd:(x == ("__debug__" : Str))=false:=by decide):PE X (.Name x pos) (tC v) :=
 λ_ _ _ H _ I h=>gN I hg hm hv ⟨v,H,I,r,h⟩ hn hd
variable {a b:Expr}{ta tb:TE}{pos:Pos}
abbrev PC(X:Cx)(op:CmpOp)(a b:Expr)(t:TE):Prop :=
 ∀(pins:List (Addr×Obj)) (s:Shared) (σ:St) (H:Hp) (Q:VK),Inv X pins σ H s->t σ H Q ->
  wpAny (model X.prog X.w) X.A (eval a X.env) (λv s₁=>wpAny (model X.prog X.w) X.A (eval b X.env) (λu s₂=>wpAny (model X.prog X.w) X.A (compareOp op v u) (EP X pins σ Q) X.xe s₂) X.xe s₁) X.xe s
def rh(b:Expr){op:CmpOp}(h:op≠.In)(h2:op≠.NotIn):behindInMarks op b=false:=by
 have e1:(op == CmpOp.In)=false:=by cases op<;>first|rfl|exact absurd rfl h
 have e2:(op == CmpOp.NotIn)=false:=by cases op<;>first|rfl|exact absurd rfl h2
 cases b<;>simp [behindInMarks,e1,e2]
abbrev Bl(ta:TE):TE:=λσ H Q=>ta σ H λx H1=>Q (.bl (decide (x=.non))) H1
abbrev rj(ta:TE):TE:=λσ H Q=>ta σ H λx H1=>Q (.bl (!decide (x=.non))) H1
def ay.y297{x:V}{v:Value}(r:ay x v):(v == Value.none)=decide (x=.non):=by
 cases x with
 | non=>cases r;rfl
 | bl _=>cases r;rfl
 | int _=>obtain⟨t,rfl⟩:=r;rfl
 | str _=>obtain⟨t,rfl⟩:=r;rfl
 | byt _=>obtain⟨t,rfl⟩:=r;rfl
 | flt _=>obtain⟨t,rfl⟩:=r;rfl
 | ref _=>cases r;rfl
 | ty _=>cases r;rfl
def Bm{j pos'}(ha:PE X a ta):PC X .Is a (.Constant .none j pos') (Bl ta):=by
 intro pins s σ H Q I h
 refine aN (ha pins s σ H _ I h) λv s1 zz=>?_
 obtain⟨x,H1,I1,r1,q1⟩:=zz
 exact Constant_none (is_none_gen ⟨.bl _,H1,I1,by rw [r1.y297];rfl,q1⟩)
def Bo{j pos'}(ha:PE X a ta):PC X .IsNot a (.Constant .none j pos') (rj ta):=by
 intro pins s σ H Q I h
 refine aN (ha pins s σ H _ I h) λv s1 zz=>?_
 obtain⟨x,H1,I1,r1,q1⟩:=zz
 exact Constant_none (isnot_none_gen ⟨.bl _,H1,I1,by rw [r1.y297];rfl,q1⟩)
abbrev tB(t:TE):TT:=λσ H Q=>t σ H λx H1=>∃c,x=.bl c/\Q c H1
def Bp{op:CmpOp}{t:TE}(h:PC X op a b t)(h1:behindInMarks op b=false:=by first|exact rh _ (by decide) (by decide)|rfl):PE X (.Compare a [op] [b] pos) t:=λpins s σ H Q I hw=>wpAny_Compare1 (h pins s σ H Q I hw) h1
def kE{op:CmpOp}{t:TE}(h:PC X op a b t)(h1:behindInMarks op b=false:=by first|exact rh _ (by decide) (by decide)|rfl):PT X (.Compare a [op] [b] pos) (tB t):=by
 intro pins s σ H Q I hw
 refine wpAny_isTrue_Compare1 (aN (h pins s σ H _ I hw) λv s1 h1=>aN h1 λu s2 h2=>aN h2 λc s3 ⟨x,H1,I1,r1,q1⟩=>?_) h1
 obtain⟨d,rfl,q⟩:=q1
 cases r1
 exact wpAny_truthy_bool ⟨H1,I1,q⟩
variable {tA tB':TT}{aG:List Expr}
abbrev rl(t u:TT):TT:=λσ H Q=>t σ H λc H1=>if c=true then u σ H1 Q else Q false H1
abbrev tOr(t u:TT):TT:=λσ H Q=>t σ H λc H1=>if c=true then Q true H1 else u σ H1 Q
abbrev rn(t:TT):TT:=λσ H Q=>t σ H λc H1=>Q (!c) H1
def kF(ha:PT X a tA):PW X (.BoolOp .And [a] pos) tA:=by
 intro wh pins s σ H Q I h
 refine isTrue_and (aN (ha pins s σ H Q I h) λc s1 e=>?_)
 cases c with
 | true=>exact isTrue_and_nil e
 | false=>exact e
def nH(ha:PT X a tA):PW X (.BoolOp .Or [a] pos) tA:=by
 intro wh pins s σ H Q I h
 refine isTrue_or (aN (ha pins s σ H Q I h) λc s1 e=>?_)
 cases c with
 | false=>exact isTrue_or_nil e
 | true=>exact e
def nI(ha:PT X a tA)(hb:PW X (.BoolOp .And (b::aG) pos) tB'):PW X (.BoolOp .And (a::b::aG) pos) (rl tA tB'):=by
 intro wh pins s σ H Q I h
 refine isTrue_and (aN (ha pins s σ H _ I h) λc s1 zz=>?_)
 obtain⟨H1,I1,q1⟩:=zz
 cases c with
 | true=>exact hb wh pins s1 σ H1 Q I1 q1
 | false=>exact⟨H1,I1,q1⟩
def rq(ha:PT X a tA)(hb:PW X (.BoolOp .Or (b::aG) pos) tB'):PW X (.BoolOp .Or (a::b::aG) pos) (tOr tA tB'):=by
 intro wh pins s σ H Q I h
 refine isTrue_or (aN (ha pins s σ H _ I h) λc s1 zz=>?_)
 obtain⟨H1,I1,q1⟩:=zz
 cases c with
 | true=>exact⟨H1,I1,q1⟩
 | false=>exact hb wh pins s1 σ H1 Q I1 q1
def Bq(ha:PT X a tA):PT X (.UnaryOp .Not a pos) (rn tA):=by
 intro pins s σ H Q I h
 exact isTrue_not (ha pins s σ H (λc H1=>Q (!c) H1) I h)
abbrev rz(ta tb:TE):TE:=λσ H Q=>ta σ H λx H1=>∃c,x=.bl c/\if c=true then Q (.bl true) H1 else tb σ H1 Q
def y331{op}{t:TE}(h:PE X a t):PE X (.BoolOp op [a] pos) t:=λpins s σ H Q I hw=>BoolOp_one (h pins s σ H Q I hw)
def jj(ha:PE X a ta)(hb:PE X (.BoolOp .Or (b::aG) pos) tb):PE X (.BoolOp .Or (a::b::aG) pos) (rz ta tb):=by
 intro pins s σ H Q I h
 refine BoolOp_or (aN (ha pins s σ H _ I h) λv s1 zz=>?_)
 obtain⟨x,H1,I1,r1,q1⟩:=zz
 obtain⟨c,rfl,q1⟩:=q1
 cases r1
 refine wpAny_truthy_bool ?_
 cases c with
 | false=>exact hb pins s1 σ H1 Q I1 q1
 | true=>exact⟨.bl true,H1,I1,rfl,q1⟩
end
end
section
abbrev bu(K:W.Frag)(H:Hp)(a:Addr)(xs:List V):Prop :=
 Rd H a (.lst xs) ∨
  ∃(o:Obj) (its:Array Value) (n:Nat),K.lookup a=some o/\o.cls=.type "list"/\o.dict=none/\o.data=.seq its n/\its.size≤sizeLine/\au xs its.toList
abbrev ba(K:W.Frag)(H:Hp)(a:Addr)(xs:List V):Prop :=
 Rd H a (.tup xs) ∨
  ∃(o:Obj) (its:Array Value) (n:Nat),K.lookup a=some o/\o.cls=.type "tuple"/\o.data=.seq its n/\its.size≤sizeLine/\au xs its.toList
abbrev Br:Value->Option V
 | .none=>some .non
 | .bool b=>some (.bl b)
 | .int i _=>some (.int i)
 | .str x _=>some (.str x)
 | .bytes b _=>some (.byt b)
 | .float b _=>some (.flt b)
 | .ref a=>some (.ref a)
 | .type n=>some (.ty n)
 | _=>none
def ay.abs{x:V}{u:Value}(r:ay x u):Br u=some x:=by
 cases x with
 | non=>cases r;rfl
 | bl _=>cases r;rfl
 | int _=>obtain⟨t,rfl⟩:=r;rfl
 | str _=>obtain⟨t,rfl⟩:=r;rfl
 | byt _=>obtain⟨t,rfl⟩:=r;rfl
 | flt _=>obtain⟨t,rfl⟩:=r;rfl
 | ref _=>cases r;rfl
 | ty _=>cases r;rfl
def ay.inj{x y:V}{u:Value}(r:ay x u)(q:ay y u):x=y:=z20 (r.abs.symm.trans q.abs)
theorem au.inj:∀{xs ys:List V} {us:List Value},au xs us->au ys us->xs=ys
 | _,_,_,.nil,.nil=>rfl
 | _,_,_,.cons r t,.cons r' t'=>by rw [r.inj r',au.inj t t']
section
variable {X:Cx}{pins:List (Addr×Obj)}{σ:St}{H:Hp}{s:Shared}{a:Addr}{xs ys:List V}
def bu.of{K:W.Frag}(h:H a=some (.lst xs)):bu K H a xs:=.inl (.inl h)
def ba.of{K:W.Frag}(h:H a=some (.tup xs)):ba K H a xs:=.inl (.inl h)
def Inv.list(I:Inv X pins σ H s)(h:bu X.K H a xs):∃its:List Value,au xs its/\PlainL s.heap a its.toArray/\xs.length≤sizeLine:=by
 rcases h with h|⟨o,its,n,hk,hc,hd,hs,hz,r⟩
 ·obtain⟨z,its,n,r,e⟩:=h.ok I.hok
  exact⟨its,r,⟨_,n,e,rfl,rfl,rfl⟩,z⟩
 ·refine⟨its.toList,r,⟨o,n,I.kIn a o hk,hc,hd,by simpa using hs⟩,?_⟩
  have e:=r.length
  simp only [Array.length_toList] at e
  lia
def Inv.tuple(I:Inv X pins σ H s)(h:ba X.K H a xs):∃its:List Value,au xs its/\IsTup s.heap a its.toArray/\xs.length≤sizeLine:=by
 rcases h with h|⟨o,its,n,hk,hc,hs,hz,r⟩
 ·obtain⟨z,its,r,p⟩:=h.ok I.hok
  exact⟨its,r,p.tup,z⟩
 ·refine⟨its.toList,r,⟨o,I.kIn a o hk,hc,n,by simpa using hs⟩,?_⟩
  have e:=r.length
  simp only [Array.length_toList] at e
  lia
def Inv.y241(I:Inv X pins σ H s)(h:bu X.K H a xs)(h':bu X.K H a ys):xs=ys:=by
 obtain⟨its,r,⟨o,n,e,_,_,d⟩,_⟩:=I.list h
 obtain⟨its',r',⟨o',n',e',_,_,d'⟩,_⟩:=I.list h'
 rw [e] at e';cases e'
 rw [d] at d'
 injection d' with d1 _
 have:its=its':=by simpa using congrArg Array.toList d1
 subst this
 exact r.inj r'
def Inv.y4bb(I:Inv X pins σ H s)(h:ba X.K H a xs)(h':ba X.K H a ys):xs=ys:=by
 obtain⟨its,r,⟨o,e,_,n,d⟩,_⟩:=I.tuple h
 obtain⟨its',r',⟨o',e',_,n',d'⟩,_⟩:=I.tuple h'
 rw [e] at e';cases e'
 rw [d] at d'
 injection d' with d1 _
 have:its=its':=by simpa using congrArg Array.toList d1
 subst this
 exact r.inj r'
end
noncomputable abbrev Cx.y51c(X:Cx)(E:Value->Shared->Prop):Cx:={ X with xe:=E }
noncomputable abbrev Cx.nox(X:Cx):Cx:=X.y51c λ_ _=>False
theorem Cx.Ok.y51c{X:Cx}(ok:X.Ok)(E:Value->Shared->Prop):(X.y51c E).Ok :=
 ⟨ok.mod,ok.kind,ok.glob,ok.blt,ok.above,ok.inj,ok.has,ok.cab,ok.hd,ok.frames,ok.stk,ok.exf,ok.bs,ok.bsz,ok.y293,ok.y142,ok.y170,ok.frf⟩
def Cx.Ok.y4cd{X:Cx}{E:Value->Shared->Prop}(ok:(X.y51c E).Ok):X.Ok :=
 ⟨ok.mod,ok.kind,ok.glob,ok.blt,ok.above,ok.inj,ok.has,ok.cab,ok.hd,ok.frames,ok.stk,ok.exf,ok.bs,ok.bsz,ok.y293,ok.y142,ok.y170,ok.frf⟩
section
variable {X:Cx}{pins:List (Addr×Obj)}{σ:St}{H:Hp}{s:Shared}{E:Value->Shared->Prop}
theorem Inv.y51c(I:Inv X pins σ H s)(E:Value->Shared->Prop):Inv (X.y51c E) pins σ H s:=⟨I.ok.y51c E,I.os,I.bare,I.base,I.loc,I.cell,I.free,I.y16c,I.pin,I.hok,I.len⟩
theorem Inv.y4cd(I:Inv (X.y51c E) pins σ H s):Inv X pins σ H s:=⟨I.ok.y4cd,I.os,I.bare,I.base,I.loc,I.cell,I.free,I.y16c,I.pin,I.hok,I.len⟩
theorem SP.y4cd{D:Ends}{f:Flow}{s':Shared}(h:SP (X.y51c E) pins D f s'):SP X pins D f s':=by
 cases f with
 | next=>obtain⟨σ',H',I,q⟩:=h;exact⟨σ',H',I.y4cd,q⟩
 | brk=>obtain⟨σ',H',I,q⟩:=h;exact⟨σ',H',I.y4cd,q⟩
 | cont=>obtain⟨σ',H',I,q⟩:=h;exact⟨σ',H',I.y4cd,q⟩
 | ret u=>obtain⟨v,σ',H',I,r,q⟩:=h;exact⟨v,σ',H',I.y4cd,r,q⟩
theorem dH.nox{st:List Stmt}{t:TS}(h:dH X.nox st t):dH X st t:=λpins s σ H D I hw =>
 wpAny_mono (h pins s σ H D (I.y51c _) hw) (λ_ _ q=>q.y4cd) λ_ _ z=>False.elim z
end
section
variable {X:Cx}{st:Stmt}{aG:List Stmt}{t u:TS}{e:Expr}{te:TE}{pos:Pos}
abbrev rA:TS:=λD σ H=>D.nx σ H
abbrev kG(t u:TS):TS:=λD σ H=>t { D with nx:=u D } σ H
def Bs:dH X [] rA:=λ_ _ σ H _ I h=>wpAny_execs_nil ⟨σ,H,I,h⟩
def iz(h1:PS X st t)(h2:dH X aG u):dH X (st::aG) (kG t u):=by
 intro pins s σ H D I h
 refine wpAny_execs_cons (aN (h1 pins s σ H { D with nx:=u D } I h) λf s1 q=>?_)
 cases f with
 | next =>
  obtain⟨σ',H',I',q⟩:=q
  exact h2 pins s1 σ' H' D I' q
 | ret v=>exact q
 | brk=>exact q
 | cont=>exact q
def iA(h1:PS X st t):dH X [st] t:=by
 intro pins s σ H D I h
 refine wpAny_execs_cons (aN (h1 pins s σ H D I h) λf s1 q=>?_)
 cases f with
 | next=>exact wpAny_execs_nil q
 | ret v=>exact q
 | brk=>exact q
 | cont=>exact q
def Inv.quiet{pins:List (Addr×Obj)}{σ:St}{H:Hp}{s:Shared}(I:Inv X pins σ H s):interactive X.env=false:=by simp [interactive,I.ok.kind]
abbrev nJ(te:TE):TS:=λD σ H=>te σ H λ_ H1=>D.nx σ H1
def kH(he:PE X e te)(hs:‹swapsWith e none pos.line X.env=pure false›):PS X (.Expr e pos) (nJ te):=by
 intro pins s σ H D I h
 exact wpAny_Expr_any (aN (he pins s σ H _ I h) λv s1 ⟨x,H1,I1,r1,q1⟩=>⟨σ,H1,I1,q1⟩) I.quiet hs
abbrev rB(te:TE):TS:=λD σ H=>te σ H D.rt
def rC(he:PE X e te):PS X (.Return (some e) pos) (rB te):=by
 intro pins s σ H D I h
 exact wpAny_Return_some (aN (he pins s σ H _ I h) λv s1 ⟨x,H1,I1,r1,q1⟩=>⟨x,σ,H1,I1,r1,q1⟩)
abbrev nK(c:TT)(t u:TS):TS:=λD σ H=>c σ H λb H1=>if b=true then t D σ H1 else u D σ H1
def rD{c:Expr}{a b:List Stmt}{tc:TT}(hc:PT X c tc)(ha:dH X a t)(hb:dH X b u):PS X (.If c a b pos) (nK tc t u):=by
 intro pins s σ H D I h
 refine wpAny_If (aN (hc pins s σ H _ I h) λd s1 zz=>?_)
 obtain⟨H1,I1,q1⟩:=zz
 cases d with
 | true=>exact ha pins s1 σ H1 D I1 q1
 | false=>exact hb pins s1 σ H1 D I1 q1
end
noncomputable abbrev TG:=V->St->Hp->(St->Hp->Prop)->Prop
noncomputable abbrev nL:=List V->St->Hp->(St->Hp->Prop)->Prop
abbrev PG(X:Cx)(target:Expr)(t:TG):Prop :=
 ∀(pins:List (Addr×Obj)) (s:Shared) (σ:St) (H:Hp) (v:V) (u:Value) (Q:St->Hp->Prop),Inv X pins σ H s->ay v u->t v σ H Q ->
  wpAny (model X.prog X.w) X.A (assign target X.env u) (λ_ s'=>∃σ' H',Inv X pins σ' H' s'/\Q σ' H') X.xe s
abbrev An(X:Cx)(ts:List Expr)(t:nL):Prop :=
 ∀(pins:List (Addr×Obj)) (s:Shared) (σ:St) (H:Hp) (vs:List V) (us:List Value) (Q:St->Hp->Prop),Inv X pins σ H s->au vs us->t vs σ H Q ->
  wpAny (model X.prog X.w) X.A (assignInOrder ((assignEach ts X.env).map (·.2)) us) (λ_ s'=>∃σ' H',Inv X pins σ' H' s'/\Q σ' H') X.xe s
noncomputable abbrev nM:=V->V->V->Hp->(Hp->Prop)->Prop
abbrev rE(X:Cx)(t:nM):Prop :=
 ∀(pins:List (Addr×Obj)) (s:Shared) (σ:St) (H:Hp) (o i v:V) (ov iv u:Value) (Q:Hp->Prop),Inv X pins σ H s->ay o ov->ay i iv->ay v u->t o i v H Q ->
  wpAny (model X.prog X.w) X.A (setItem ov iv u) (λ_ s'=>∃H',Inv X pins σ H' s'/\Q H') X.xe s
section
variable {X:Cx}{pos:Pos}
abbrev gO(i:Nat):TG:=λv σ H Q=>Q (σ.set i (some v)) H
def jk{i:Nat}{x:Str}(hN:X.N.Nodup)(hi:X.N[i]?=some x)(hx:qD X.env.scope x)(hf:X.fn x=true∨X.env.scope.names.lookup x=some .local:=by first|exact .inl rfl|exact .inr rfl|assumption):PG X (.Name x pos) (gO i):=by
 intro pins s σ H v u Q I r h
 exact wpAny_assign_Name (nE I hN hi hx r (λs' I'=>⟨_,H,I',h⟩) hf)
abbrev rF:nL:=λvs σ H Q=>vs=[]/\Q σ H
abbrev nN(t:TG)(u:nL):nL:=λvs σ H Q=>∃v r,vs=v::r/\t v σ H λσ' H'=>u r σ' H' Q
def Bt:An X [] rF:=by
 intro pins s σ H vs us Q I r h
 obtain⟨e,h⟩:=h
 subst e
 cases r
 exact assignInOrder_nil ⟨σ,H,I,h⟩
def rG{e:Expr}{es:List Expr}{t:TG}{u:nL}(h1:PG X e t)(h2:An X es u)
  (hs:‹(assignEach (e::es) X.env).map (·.2)=assign e X.env::(assignEach es X.env).map (·.2)›):An X (e::es) (nN t u):=by
 intro pins s σ H vs us Q I r h
 obtain⟨v,vr,e1,h⟩:=h
 subst e1
 cases r with
 | cons r rr =>
  rw [hs]
  refine assignInOrder_cons (aN (h1 pins s σ H _ _ _ I r h) λ_ s1 zz=>?_)
  obtain⟨σ1,H1,I1,q1⟩:=zz
  exact h2 pins s1 σ1 H1 _ _ Q I1 rr q1
abbrev rH(K:W.Frag)(n:Nat)(t:nL):TG:=λv σ H Q=>∃a xs,v=.ref a/\ba K H a xs/\xs.length=n/\t xs σ H Q
def Bu{es:List Expr}{k:Nat}{t:nL}{n:Nat}(hc:X.calm=true)(h:An X es t)
  (hn:‹(assignEach es X.env).length=n›) (hst:‹(assignEach es X.env).findIdx? (·.1)=none›):PG X (.Tuple es k pos) (rH X.K n t):=by
 intro pins s σ H v u Q I r hw
 obtain⟨a,xs,e1,hq,hl,hw⟩:=hw
 subst e1
 cases r
 obtain⟨its,rv,ht,hz⟩:=I.tuple hq
 refine assign_Tuple_tuple (I.ok.hd hc) ht (by simp [hn,<- hl,rv.length]) hst λh' hx=>?_
 have I1:Inv X pins σ H { s with heap:=h' }:=I.kept (t':=s.toks) λb o e=>hx b o (z28 (z14 e)) e
 exact h pins _ σ H xs _ Q I1 (by simpa using rv) hw
abbrev kI(to ti:TE)(t:nM):TG:=λv σ H Q=>to σ H λo H1=>ti σ H1 λi H2=>t o i v H2 λH3=>Q σ H3
def nP{o i:Expr}{to ti:TE}{t:nM}(ho:PE X o to)(hi:PE X i ti)(hs:rE X t)
  (ha:∀v,assign (.Subscript o i pos) X.env v=(do
   let ov <- holding [v] (eval o X.env)
   let iv <- holding [v,ov] (eval i X.env)
   standAt pos
   holding [v,ov,iv] (setItem ov iv v)
   release [v,ov,iv] []):=by intro _;rfl):PG X (.Subscript o i pos) (kI to ti t):=by
 intro pins s σ H v u Q I r h
 rw [ha]
 refine za (wpAny_holding (aN (ho pins s σ H _ I h) λov s1 zz=>?_))
 obtain⟨x,H1,I1,r1,q1⟩:=zz
 refine za (wpAny_holding (aN (hi pins s1 σ H1 _ I1 q1) λiv s2 zz=>?_))
 obtain⟨y,H2,I2,r2,q2⟩:=zz
 refine za (wpAny_standAt (za (wpAny_holding (aN (hs pins s2 σ H2 x y v ov iv u _ I2 r1 r2 r q2) λ_ s3 zz=>?_))))
 obtain⟨H3,I3,q3⟩:=zz
 exact wpAny_release ⟨σ,H3,I3,q3⟩
abbrev fP(te:TE)(g:TG):TS:=λD σ H=>te σ H λx H1=>g x σ H1 D.nx
def iB{tg e:Expr}{te:TE}{g:TG}(he:PE X e te)(hg:PG X tg g)(hs:‹swapsWithSole [tg] e pos.line X.env=pure false›)(hw:‹swappedStores [tg] e X.env=pure none›)
  (h1:‹(assignEach [tg] X.env).map (·.2)=[assign tg X.env]›):PS X (.Assign [tg] e pos) (fP te g):=by
 intro pins s σ H D I h
 refine wpAny_Assign_stores (aN (he pins s σ H _ I h) λv s1 ⟨x,H1,I1,r1,q1⟩=>?_) hs hw
 rw [h1]
 exact aN (hg pins s1 σ H1 x v _ I1 r1 q1) λ_ s2 q=>q
def Bv{i:Nat}{x:Str}{e:Expr}{te:TE}{pos':Pos}(hN:X.N.Nodup)(hi:X.N[i]?=some x)(hx:qD X.env.scope x)(he:PE X e te)(hs:‹swapsWith e (some (.Name x pos')) pos.line X.env=pure false›)(hf:X.fn x=true∨X.env.scope.names.lookup x=some .local:=by first|exact .inl rfl|exact .inr rfl|assumption) :
  PS X (.Assign [.Name x pos'] e pos) (fP te (gO i)):=by
 intro pins s σ H D I h
 refine wpAny_Assign_Name (aN (he pins s σ H _ I h) λv s1 ⟨y,H1,I1,r1,q1⟩=>?_) hs
 exact nE I1 hN hi hx r1 (λs2 I2=>⟨_,H1,I2,q1⟩) hf
end
section
variable {X:Cx}{pos:Pos}
abbrev rJ(c:TT)(tb:TS):TS:=λD σ H=>∃W:Nat->St->Hp->Prop,(∃m,W m σ H)/\∀m σ H,W m σ H ->
 c σ H λb H1=>if b=true then ∃N:St->Hp->Prop,(∀σ' H',N σ' H'->∃m',m'<m/\W m' σ' H')/\tb { D with nx:=N,ct:=N,bk:=D.nx } σ H1 else D.nx σ H1
def Bw{c:Expr}{body:List Stmt}{tc:TT}{tb:TS}(hp:PassesOwn (model X.prog X.w) X.A X.env X.xe)(hc:PT X c tc)(hb:dH X body tb):PS X (.While c body [] pos) (rJ tc tb):=by
 intro pins s σ H D I h
 obtain⟨W,⟨m0,w0⟩,turn⟩:=h
 refine wpAny_While (codeAny_whileLoop (λn s'=>∃σ' H',Inv X pins σ' H' s'/\W n σ' H') ?_ m0 ⟨σ,H,I,w0⟩)
 rintro n s1 ⟨σ1,H1,I1,w1⟩
 refine wpAny_passesOwn hp (aN (hc pins s1 σ1 H1 _ I1 (turn n σ1 H1 w1)) λb s2 zz=>?_)
 obtain⟨H2,I2,q2⟩:=zz
 cases b with
 | true =>
  obtain⟨N,hN,q2⟩:=q2
  rw [if_pos rfl]
  refine wpAny_passesOwn hp (aN (hb pins s2 σ1 H2 _ I2 q2) λf s3 q3=>?_)
  cases f with
  | next =>
   obtain⟨σ3,H3,I3,n3⟩:=q3
   obtain⟨m',hm,w3⟩:=hN σ3 H3 n3
   exact⟨m',hm,σ3,H3,I3,w3⟩
  | cont =>
   obtain⟨σ3,H3,I3,n3⟩:=q3
   obtain⟨m',hm,w3⟩:=hN σ3 H3 n3
   exact⟨m',hm,σ3,H3,I3,w3⟩
  | brk=>exact q3
  | ret v=>exact q3
 | false =>
  rw [if_neg z13]
  exact wpAny_execs_nil ⟨σ1,H2,I2,q2⟩
end
structure It where
 go:Nat->Hp->Prop
 yld:Nat->Hp->V->Hp->Prop
 stop:Nat->Hp->Prop
abbrev iC(X:Cx)(pins:List (Addr×Obj))(H:Hp)(b:Addr):Prop :=
 H b=none/\b≠X.env.locals/\b∉X.fs/\(b∈X.ex∨X.s₀.heap.objs.size≤b)/\(∀x c,X.env.cells.lookup x=some c->c≠b)/\∀p∈X.pn++pins,p.1≠b
def Inv.y16b{X:Cx}{pins:List (Addr×Obj)}{σ:St}{H H':Hp}{s:Shared}{b:Addr}(I:Inv X pins σ H s)(hb:s.heap.objs.size≤b)(hn:H' b=none):iC X pins H' b:=by
 refine⟨hn,Nat.ne_of_gt (z1f I.lt hb),I.nofs hb,.inr (z1c I.sz hb),λx c e z=>?_,λp hp z=>?_⟩
 ·obtain⟨v,q⟩:=I.cell x c e
  exact absurd (z1f q.lt (by rw [z];exact hb)) (z2e _)
 ·exact absurd (z1f (z14 (I.pin p hp).1) (by rw [z];exact hb)) (z2e _)
structure Turn(P:Program)(w:World)(K:W.Frag)(tg:Expr)(J:It)(fp:List Addr)(it:Addr)(tn:Nat->Heap->Prop):Prop where
 mem:it∈fp
 obj:∀i h,tn i h->∀b∈fp,∃o,h.get? b=some o/\∀v,o.data≠.cell v
 keep:∀i h h',tn i h->(∀b∈fp,∀o,h.get? b=some o->h'.get? b=some o)->tn i h'
 item:∀(X:Cx),X.prog=P->X.w=w->X.K=K->X.calm=true->∀(i:Nat) (pins:List (Addr×Obj)) (s:Shared) (σ:St) (H:Hp) (E:Value->Shared->Prop),Inv X pins σ H s->(∀b∈fp,iC X pins H b)->tn i s.heap->J.go i H ->
  wpAny (model P w) X.A (pyNext (.ref it)) (λr s1=>∃u,r=some u /\
   wpAny (model P w) X.A (letOwnedTupleGo tg (.ref it) u) (λ_ s2=>∃x H',Inv X pins σ H' s2/\ay x u/\J.yld i H x H'/\tn (i+1) s2.heap/\∀b∈fp,H' b=none) E s1) E s
 done:∀(X:Cx),X.prog=P->X.w=w->X.K=K->X.calm=true->∀(i:Nat) (pins:List (Addr×Obj)) (s:Shared) (σ:St) (H:Hp) (E:Value->Shared->Prop),Inv X pins σ H s->(∀b∈fp,iC X pins H b)->tn i s.heap->J.stop i H ->
  wpAny (model P w) X.A (pyNext (.ref it)) (λr s1=>r=none/\Inv X pins σ H s1) E s
 self:∀(A:Around) (i:Nat) (s:Shared) (Q:Value->Shared->Prop) (E:Value->Shared->Prop),tn i s.heap->Q (.ref it) s->wpAny (model P w) A (pyIter (.ref it)) Q E s
noncomputable abbrev TI:=St->Hp->(It->Hp->Prop)->Prop
abbrev Bx(X:Cx)(pins:List (Addr×Obj))(σ:St)(tg:Expr)(R:It->Hp->Prop)(itv:Value)(s2:Shared):Prop :=
 ∃(it:Addr) (fp:List Addr) (tn:Nat->Heap->Prop) (J:It) (H':Hp),itv=.ref it/\Inv X pins σ H' s2/\Turn X.prog X.w X.K tg J fp it tn/\tn 0 s2.heap/\(∀b∈fp,iC X pins H' b)/\R J H'
abbrev PI(X:Cx)(tg iter:Expr)(wi:TI):Prop :=
 ∀(pins:List (Addr×Obj)) (s:Shared) (σ:St) (H:Hp) (R:It->Hp->Prop),Inv X pins σ H s->wi σ H R ->
  wpAny (model X.prog X.w) X.A (eval iter X.env) (λv s1=>wpAny (model X.prog X.w) X.A (pyIter v) (Bx X pins σ tg R) X.xe s1) X.xe s
def kJ{M:Model}{A:Around}{E:Value->Shared->Prop}{s:Shared}{tg:Expr}{it:Addr}{u:Value}{o:Obj}{n:String}{vs:Array Value}{Q:Unit->Shared->Prop}(ho:s.heap.get? it=some o)(hc:o.cls=.type n)(hd:o.data=.fields vs)
  (hn:["enumerate","zip","dict_itemiterator","dict_reverseitemiterator","odict_iterator","itertools.zip_longest","itertools.pairwise"].contains n=false) (hQ:Q () s):wpAny M A (letOwnedTupleGo tg (.ref it) u) Q E s:=by
 unfold letOwnedTupleGo
 cases tg<;>first
  | exact ze hQ
  | (cases u<;>first
    | exact ze hQ
    | (refine za (wpAny_load ho ?_);rw [hc,hd];show wpAny M A (if (["enumerate","zip","dict_itemiterator","dict_reverseitemiterator","odict_iterator","itertools.zip_longest","itertools.pairwise"].contains n&&vs[0]? == some (rawInt _))=true then _ else _) Q E s;rw [if_neg (by intro h;rw [hn,Bool.false_and] at h;cases h)];exact ze hQ))
abbrev Ao(K:W.Frag)(a:Addr):It :=
 ⟨λi H=>∃xs x,bu K H a xs/\xs[i]?=some x,λi H x H'=>H'=H/\∀xs,bu K H a xs->xs[i]?=some x,λi H=>∃xs,bu K H a xs/\xs.length≤i⟩
abbrev Ap(K:W.Frag)(a:Addr):It :=
 ⟨λi H=>∃xs x,ba K H a xs/\xs[i]?=some x,λi H x H'=>H'=H/\∀xs,ba K H a xs->xs[i]?=some x,λi H=>∃xs,ba K H a xs/\xs.length≤i⟩
abbrev rK(lo:Int)(n:Nat):It:=⟨λi _=>i<n,λi H x H'=>H'=H/\x=.int (lo+i),λi _=>n≤i⟩
def By{P:Program}{w:World}{K:W.Frag}{tg:Expr}(a it:Addr):Turn P w K tg (Ao K a) [it] it (λi h=>h.IsListIter it a i) where
 mem:=by simp
 obj:=λi h st b hb=>by
  have e:b=it:=by simpa using hb
  subst e
  obtain⟨o,e,c,d⟩:=st
  exact⟨o,e,λv z=>by rw [d] at z;cases z⟩
 keep:=λi h h' st k=>st.at λo e=>k it (by simp) o e
 item:=by
  intro X hP hw hK hc i pins s σ H E I hf st hg
  subst hP hw hK
  obtain⟨xs,x,hq,hx⟩:=hg
  obtain⟨its,rv,p,hz⟩:=I.list hq
  obtain⟨u,hu,ru⟩:=rv.get hx
  obtain⟨f0,f1,f2,f3,f4,f5⟩:=hf it (by simp)
  refine wpAny_pyNext_list_item st p.isList (x:=u) (by simpa using hu) λh' st' sb=>?_
  have I1:Inv X pins σ H { s with heap:=h' }:=I.turned (t':=s.toks) (λb o hb e=>(sb.2 b hb).trans e) f0 f1 f3 f4 f5
  obtain⟨o,e,c,d⟩:=id st'
  exact⟨u,rfl,kJ (s:={ s with heap:=h' }) e c d (by decide) ⟨x,H,I1,ru,⟨rfl,λys hy=>by rw [I.y241 hy hq];exact hx⟩,st',λb hb=>(hf b hb).1⟩⟩
 done:=by
  intro X hP hw hK hc i pins s σ H E I hf st hg
  subst hP hw hK
  obtain⟨xs,hq,hx⟩:=hg
  obtain⟨its,rv,p,hz⟩:=I.list hq
  obtain⟨f0,f1,f2,f3,f4,f5⟩:=hf it (by simp)
  have hl:=rv.length
  exact wpAny_pyNext_list_end (I.ok.hd hc) st p.isList (by simp;lia) λh' eb=>⟨rfl,I.turned (t':=s.toks) (λb o hb e=>eb b o hb e) f0 f1 f3 f4 f5⟩
 self:=λ_ _ _ _ _ st h=>wpAny_pyIter_listiter st h
def Bz{P:Program}{w:World}{K:W.Frag}{tg:Expr}(a it:Addr):Turn P w K tg (Ap K a) [it] it (λi h=>h.IsTupleIter it a i) where
 mem:=by simp
 obj:=λi h st b hb=>by
  have e:b=it:=by simpa using hb
  subst e
  obtain⟨o,e,c,d⟩:=st
  exact⟨o,e,λv z=>by rw [d] at z;cases z⟩
 keep:=λi h h' st k=>st.at λo e=>k it (by simp) o e
 item:=by
  intro X hP hw hK hc i pins s σ H E I hf st hg
  subst hP hw hK
  obtain⟨xs,x,hq,hx⟩:=hg
  obtain⟨its,rv,p,hz⟩:=I.tuple hq
  obtain⟨u,hu,ru⟩:=rv.get hx
  obtain⟨f0,f1,f2,f3,f4,f5⟩:=hf it (by simp)
  refine wpAny_pyNext_tuple_item st (show s.heap.IsTuple a its.toArray from p) (x:=u) (by simpa using hu) λh' st' sb=>?_
  have I1:Inv X pins σ H { s with heap:=h' }:=I.turned (t':=s.toks) (λb o hb e=>(sb.2 b hb).trans e) f0 f1 f3 f4 f5
  obtain⟨o,e,c,d⟩:=id st'
  exact⟨u,rfl,kJ (s:={ s with heap:=h' }) e c d (by decide) ⟨x,H,I1,ru,⟨rfl,λys hy=>by rw [I.y4bb hy hq];exact hx⟩,st',λb hb=>(hf b hb).1⟩⟩
 done:=by
  intro X hP hw hK hc i pins s σ H E I hf st hg
  subst hP hw hK
  obtain⟨xs,hq,hx⟩:=hg
  obtain⟨its,rv,p,hz⟩:=I.tuple hq
  obtain⟨f0,f1,f2,f3,f4,f5⟩:=hf it (by simp)
  have hl:=rv.length
  exact wpAny_pyNext_tuple_end (I.ok.hd hc) st (show s.heap.IsTuple a its.toArray from p) (by simp;lia) λh' eb=>⟨rfl,I.turned (t':=s.toks) (λb o hb e=>eb b o hb e) f0 f1 f3 f4 f5⟩
 self:=λ_ _ _ _ _ st h=>wpAny_pyIter_tupleiter st h
def BA{P:Program}{w:World}{K:W.Frag}{tg:Expr}(it:Addr)(lo:Int)(n:Nat):Turn P w K tg (rK lo n) [it] it (λi h=>IsRangeIter h it (lo+(i:Nat)*1) ((n:Int)-(i:Nat)) 1) where
 mem:=by simp
 obj:=λi h st b hb=>by
  have e:b=it:=by simpa using hb
  subst e
  exact⟨_,st,λv z=>by
   have z':Data.fields _=Data.cell v:=z
   cases z'⟩
 keep:=λi h h' st k=>k it (by simp) _ st
 item:=by
  intro X hP hw hK hc i pins s σ H E I hf st hg
  subst hP hw hK
  obtain⟨f0,f1,f2,f3,f4,f5⟩:=hf it (by simp)
  have W:=Walks.range (prog:=X.prog) (w:=X.w) (I.ok.hd hc) it lo 1 n
  refine W.item i s _ _ hg st λv h' tk hv st' kk=>?_
  obtain⟨t,rfl⟩:=hv
  have I1:Inv X pins σ H { s with heap:=h',toks:=tk }:=I.turned (λb o hb e=>kk b o (by simpa using hb) e) f0 f1 f3 f4 f5
  refine⟨_,rfl,kJ (s:={ s with heap:=h',toks:=tk }) (n:="range_iterator") st' rfl rfl (by decide) ⟨.int (lo+i),H,I1,⟨t,?_⟩,⟨rfl,rfl⟩,st',λb hb=>(hf b hb).1⟩⟩
  rw [Int.mul_one]
 done:=by
  intro X hP hw hK hc i pins s σ H E I hf st hg
  subst hP hw hK
  obtain⟨f0,f1,f2,f3,f4,f5⟩:=hf it (by simp)
  exact wpAny_pyNext_range_end (I.ok.hd hc) st (by have:n≤i:=hg;lia) λh' eb=>⟨rfl,I.turned (t':=s.toks) (λb o hb e=>eb b o hb e) f0 f1 f3 f4 f5⟩
 self:=λ_ _ _ _ _ st h=>wpAny_pyIter_rangeiter st h
end
section
section
variable {X:Cx}{tg:Expr}
abbrev rL(K:W.Frag)(tl:TE):TI:=λσ H R=>tl σ H λx H1=>∃a,x=.ref a/\(∃xs,bu K H1 a xs)/\R (Ao K a) H1
abbrev rN(K:W.Frag)(tl:TE):TI:=λσ H R=>tl σ H λx H1=>∃a,x=.ref a/\(∃xs,ba K H1 a xs)/\R (Ap K a) H1
def BB{l:Expr}{tl:TE}(hl:PE X l tl):PI X tg l (rL X.K tl):=by
 intro pins s σ H R I h
 refine aN (hl pins s σ H _ I h) λv s1 zz=>?_
 obtain⟨x,H1,I1,r1,q1⟩:=zz
 obtain⟨a,e,⟨xs,hq⟩,q⟩:=q1
 subst e
 cases r1
 obtain⟨its,rv,p,hz⟩:=I1.list hq
 refine wpAny_pyIter_list p.isList ?_
 refine⟨s1.heap.objs.size,[s1.heap.objs.size],_,_,H1,rfl,I1.kept (t':=s1.toks) λb o e=>zd _ e,By a _,⟨_,z22 _ rfl,rfl,rfl⟩,λb hb=>?_,q⟩
 have e:b=s1.heap.objs.size:=by simpa using hb
 subst e
 exact I1.y16b (z12 _) (I1.hok.fresh (z12 _))
def BC{l:Expr}{tl:TE}(hl:PE X l tl):PI X tg l (rN X.K tl):=by
 intro pins s σ H R I h
 refine aN (hl pins s σ H _ I h) λv s1 zz=>?_
 obtain⟨x,H1,I1,r1,q1⟩:=zz
 obtain⟨a,e,⟨xs,hq⟩,q⟩:=q1
 subst e
 cases r1
 obtain⟨its,rv,p,hz⟩:=I1.tuple hq
 refine wpAny_pyIter_tuple (show s1.heap.IsTuple a its.toArray from p) ?_
 refine⟨s1.heap.objs.size,[s1.heap.objs.size],_,_,H1,rfl,I1.kept (t':=s1.toks) λb o e=>zd _ e,Bz a _,⟨_,z22 _ rfl,rfl,rfl⟩,λb hb=>?_,q⟩
 have e:b=s1.heap.objs.size:=by simpa using hb
 subst e
 exact I1.y16b (z12 _) (I1.hok.fresh (z12 _))
def BD{pins:List (Addr×Obj)}{σ:St}{H:Hp}{s:Shared}{R:It->Hp->Prop}{E:Value->Shared->Prop}{lo hi:Int}{t u v:Tok}{tk:Nat}(I:Inv X pins σ H s)(h1:-(2 ^ 62)≤lo)(h2:lo<2 ^ 62)(h3:-(2 ^ 62)≤hi)(h4:hi<2 ^ 62)
  (q:R (rK lo (hi-lo).toNat) H):wpAny (model X.prog X.w) X.A (pyIter (.ref s.heap.objs.size)) (Bx X pins σ tg R) E { s with heap:=s.heap.push { cls:=.type "range",data:=.fields #[.int lo t,.int hi u,.int 1 v] },toks:=tk }:=by
 refine wpAny_pyIter_range (IsRange.new ..) (small_one h1 h2 h3 h4) ?_
 have I1:Inv X pins σ H { s with heap:=s.heap.push { cls:=.type "range",data:=.fields #[.int lo t,.int hi u,.int 1 v] },toks:=tk }:=I.kept λb o e=>zd _ e
 refine⟨(s.heap.push { cls:=.type "range",data:=.fields #[.int lo t,.int hi u,.int 1 v] }).objs.size,[(s.heap.push { cls:=.type "range",data:=.fields #[.int lo t,.int hi u,.int 1 v] }).objs.size],_,_,H,rfl,
  I1.kept (t':=tk) λb o e=>zd _ e,BA _ lo (hi-lo).toNat,?_,λb hb=>?_,q⟩
 ·have e1:lo+((0:Nat):Int)*1=lo:=by simp
  have e2:(((hi-lo).toNat:Nat):Int)-((0:Nat):Int)=Builtin.Range.rangeSize lo hi 1:=by rw [rangeSize_one];split<;>lia
  show IsRangeIter _ _ (lo+((0:Nat):Int)*1) ((((hi-lo).toNat:Nat):Int)-((0:Nat):Int)) 1
  rw [e1,e2]
  exact z22 _ rfl
 ·have e:b=(s.heap.push { cls:=.type "range",data:=.fields #[.int lo t,.int hi u,.int 1 v] }).objs.size:=by simpa using hb
  subst e
  exact I1.y16b (z12 _) (I1.hok.fresh (z12 _))
abbrev rO(ta:TA):TI:=λσ H R=>ta σ H λvs H1=>∃j:Int,vs=[.int j]/\-(2 ^ 62)≤j/\j<2 ^ 62/\R (rK 0 j.toNat) H1
def BE{a:Expr}{ta:TA}{p pos:Pos}(hg:Gl X "range")(hm:X.mg "range" = none)(ha:PA X [a] ta)(hs:‹starEach [a] X.env=[(false,eval a X.env)]›):PI X tg (.Call (.Name "range" p) [a] [] pos) (rO ta):=by
 intro pins s σ H R I h
 refine Call_ (gN I hg hm boot_range (PyProof.Rows.callWith_type1 (aN (ha pos pins s σ H _ I h) λus s1 ⟨vs,H1,I1,r1,q1⟩=>?_) hs rfl))
 obtain⟨j,e,q1,q2,q⟩:=q1
 subst e
 cases r1 with
 | cons r rr =>
  cases rr
  obtain⟨t,rfl⟩:=r
  exact call_range_1 (BD I1 (by lia) (by lia) q1 q2 (by simpa using q))
abbrev nQ(wi:TI)(g:TG)(tb:TS):TS:=λD σ H=>wi σ H λJ H1=>∃W:Nat->Nat->St->Hp->Prop,(∃m,W 0 m σ H1)/\∀i m σ H,W i m σ H ->
 (J.stop i H/\D.nx σ H)∨(J.go i H/\∃N:St->Hp->Prop,(∀σ' H',N σ' H'->∃m',m'<m/\W (i+1) m' σ' H')/\∀x H',J.yld i H x H'->g x σ H' λσ2 H2=>tb { D with nx:=N,ct:=N,bk:=D.nx } σ2 H2)
abbrev jm(fp:List Addr)(h:Heap):List (Addr×Obj):=fp.filterMap λb=>(h.get? b).map λo=>(b,o)
def kK{fp:List Addr}{h:Heap}{b:Addr}{o:Obj}(hb:b∈fp)(e:h.get? b=some o):(b,o)∈jm fp h:=List.mem_filterMap.mpr ⟨b,hb,by rw [e];rfl⟩
def BF{fp:List Addr}{h:Heap}{p:Addr×Obj}(hp:p∈jm fp h):p.1∈fp/\h.get? p.1=some p.2:=by
 obtain⟨b,hb,e⟩:=List.mem_filterMap.mp hp
 cases q:h.get? b with
 | none=>rw [q] at e;cases e
 | some o =>
  rw [q] at e
  have e':(b,o)=p:=z20 e
  subst e'
  exact⟨hb,q⟩
def Inv.pinned{pins:List (Addr×Obj)}{σ:St}{H:Hp}{s:Shared}{fp:List Addr}(I:Inv X pins σ H s)(hf:∀b∈fp,iC X pins H b)(ho:∀b∈fp,∃o,s.heap.get? b=some o/\∀v,o.data≠.cell v):Inv X (pins++jm fp s.heap) σ H s :=
 I.y355 λp hp=>(z1e.mp hp).elim (λz=>I.pin p (z24 _ z)) λz=>by
  obtain⟨hb,e⟩:=BF z
  obtain⟨f0,f1,f2,_⟩:=hf p.1 hb
  obtain⟨o,e',d⟩:=ho p.1 hb
  rw [e] at e';cases e'
  exact⟨e,f0,f1,f2,d⟩
def Inv.y4cb{pins pl:List (Addr×Obj)}{σ:St}{H:Hp}{s:Shared}(I:Inv X (pins++pl) σ H s):Inv X pins σ H s:=I.y355 λp hp=>I.pin p (z24 _ (List.mem_append_left _ hp))
def rP{iter:Expr}{body:List Stmt}{wi:TI}{g:TG}{tb:TS}{pos:Pos}(hp:PassesOwn (model X.prog X.w) X.A X.env X.xe)(hc:X.calm=true)(hi:PI X tg iter wi)(hg:PG X tg g)(hb:dH X body tb)
  (hs:∀x,foldedSetIterable iter X.env x=pure x:=by intro _;rfl):PS X (.For tg iter body [] pos) (nQ wi g tb):=by
 intro pins s σ H D I h
 refine wpAny_For (aN (hi pins s σ H _ I h) λv s1 h1=>aN h1 λitv s2 h2=>?_) hs
 obtain⟨it,fp,tn,J,H2,e,I2,T,st2,f2,W,⟨m0,w0⟩,turn⟩:=h2
 subst e
 have stat:∀{H':Hp},(∀b∈fp,H' b=none)->∀b∈fp,iC X pins H' b:=λhn b hb=>⟨hn b hb,(f2 b hb).2⟩
 refine codeAny_forLoop_any (λn s'=>∃i σ' H',Inv X pins σ' H' s'/\tn i s'.heap/\(∀b∈fp,H' b=none)/\W i n σ' H') ?_ m0 ⟨0,σ,H2,I2,st2,λb hb=>(f2 b hb).1,w0⟩
 rintro n s3 ⟨i,σ3,H3,I3,st3,fr3,w3⟩
 rcases turn i n σ3 H3 w3 with⟨stop,qn⟩| ⟨go,N,hN,step⟩
 ·refine wpAny_passesOwn hp (aN (T.done X rfl rfl rfl hc i pins s3 σ3 H3 X.xe I3 (stat fr3) st3 stop) λr s4 zz=>?_)
  obtain⟨hr,I4⟩:=zz
  subst hr
  exact wpAny_execs_nil ⟨σ3,H3,I4,qn⟩
 ·refine wpAny_passesOwn hp (aN (T.item X rfl rfl rfl hc i pins s3 σ3 H3 X.xe I3 (stat fr3) st3 go) λr s4 zz=>?_)
  obtain⟨u,hr,h4⟩:=zz
  subst hr
  refine wpAny_passesOwn hp (aN h4 λ_ s5 zz=>?_)
  obtain⟨x,H5,I5,r5,y5,st5,fr5⟩:=zz
  have I5':=I5.pinned (stat fr5) (T.obj _ _ st5)
  refine wpAny_passesOwn hp (aN (hg _ s5 σ3 H5 x u _ I5' r5 (step x H5 y5)) λ_ s6 zz=>?_)
  obtain⟨σ6,H6,I6,q6⟩:=zz
  refine wpAny_passesOwn hp (aN (hb _ s6 σ6 H6 _ I6 q6) λf s7 q7=>?_)
  have again:∀{σ7:St} {H7:Hp},Inv X (pins++jm fp s5.heap) σ7 H7 s7->N σ7 H7->∃m,m<n/\∃i σ' H',Inv X pins σ' H' s7/\tn i s7.heap/\(∀b∈fp,H' b=none)/\W i m σ' H':=λ{σ7 H7} I7 n7=>by
   obtain⟨m',hm,w7⟩:=hN σ7 H7 n7
   refine⟨m',hm,i+1,σ7,H7,I7.y4cb,T.keep _ _ _ st5 λb hb o e=>(I7.pin (b,o) (z24 _ (z24 _ (kK hb e)))).1,λb hb=>?_,w7⟩
   obtain⟨o,e,d⟩:=T.obj _ _ st5 b hb
   exact (I7.pin (b,o) (z24 _ (z24 _ (kK hb e)))).2.1
  cases f with
  | next=>obtain⟨σ7,H7,I7,n7⟩:=q7;exact again I7 n7
  | cont=>obtain⟨σ7,H7,I7,n7⟩:=q7;exact again I7 n7
  | brk=>obtain⟨σ7,H7,I7,q7⟩:=q7;exact⟨σ7,H7,I7.y4cb,q7⟩
  | ret v=>obtain⟨x7,σ7,H7,I7,r7,q7⟩:=q7;exact⟨x7,σ7,H7,I7.y4cb,r7,q7⟩
end
end
section
noncomputable abbrev R2:=V->V->Hp->VK->Prop
abbrev bT(X:Cx)(f:Value->Value->Sem Value)(r:R2):Prop :=
 ∀(pins:List (Addr×Obj)) (s:Shared) (σ:St) (H:Hp) (x y:V) (v u:Value) (Q:VK),Inv X pins σ H s->ay x v->ay y u->r x y H Q ->
  wpAny (model X.prog X.w) X.A (f v u) (EP X pins σ Q) X.xe s
abbrev Aq(X:Cx)(f:Value->Sem Value)(r:V->Hp->VK->Prop):Prop :=
 ∀(pins:List (Addr×Obj)) (s:Shared) (σ:St) (H:Hp) (x:V) (v:Value) (Q:VK),Inv X pins σ H s->ay x v->r x H Q ->
  wpAny (model X.prog X.w) X.A (f v) (EP X pins σ Q) X.xe s
abbrev y6(X:Cx)(f:Value)(r:List V->Hp->VK->Prop):Prop :=
 ∀(pins:List (Addr×Obj)) (s:Shared) (σ:St) (H:Hp) (xs:List V) (us:List Value) (Q:VK),Inv X pins σ H s->au xs us->r xs H Q ->
  wpAny (model X.prog X.w) X.A (call f us) (EP X pins σ Q) X.xe s
abbrev BG(X:Cx)(r:V->Hp->(Bool->Hp->Prop)->Prop):Prop :=
 ∀(pins:List (Addr×Obj)) (s:Shared) (σ:St) (H:Hp) (x:V) (v:Value) (Q:Bool->Hp->Prop),Inv X pins σ H s->ay x v->r x H Q ->
  wpAny (model X.prog X.w) X.A (truthy v) (TP X pins σ Q) X.xe s
abbrev kj(r:R2)(ta tb:TE):TE:=λσ H Q=>ta σ H λx H1=>tb σ H1 λy H2=>r x y H2 Q
abbrev tUn(r:V->Hp->VK->Prop)(ta:TE):TE:=λσ H Q=>ta σ H λx H1=>r x H1 Q
abbrev rI(C:Int->Int->Prop)(g:Int->Int->V):R2:=λx y H Q=>∃i j,x=.int i/\y=.int j/\C i j/\Q (g i j) H
abbrev ja(g:Int->Int->V):R2:=λx y H Q=>∃i j,x=.int i/\y=.int j/\Q (g i j) H
abbrev rU(g:Int->V):V->Hp->VK->Prop:=λx H Q=>∃i,x=.int i/\Q (g i) H
section
variable {X:Cx}{a b c:Expr}{ta tb tc:TE}{pos:Pos}
def nR(ha:PE X a ta)(hb:PE X b tb){pins:List (Addr×Obj)}{s:Shared}{σ:St}{H:Hp}{R:V->V->Hp->Prop}(I:Inv X pins σ H s)
  (h:ta σ H λx H1=>tb σ H1 λy H2=>R x y H2) {Q:Value->Shared->Prop} {f:Value->Value->Sem Value}
  (hf:∀v u s2 x y H2,Inv X pins σ H2 s2->ay x v->ay y u->R x y H2->wpAny (model X.prog X.w) X.A (f v u) Q X.xe s2) :
  wpAny (model X.prog X.w) X.A (eval a X.env) (λv s₁=>wpAny (model X.prog X.w) X.A (eval b X.env) (λu s₂=>wpAny (model X.prog X.w) X.A (f v u) Q X.xe s₂) X.xe s₁) X.xe s:=by
 refine aN (ha pins s σ H _ I h) λv s1 zz=>?_
 obtain⟨x,H1,I1,r1,q1⟩:=zz
 refine aN (hb pins s1 σ H1 _ I1 q1) λu s2 zz=>?_
 obtain⟨y,H2,I2,r2,q2⟩:=zz
 exact hf v u s2 x y H2 I2 r1 r2 q2
def rQ{op:Operator}{r:R2}(ho:bT X (binaryOp op) r)(ha:PE X a ta)(hb:PE X b tb):PE X (.BinOp a op b pos) (kj r ta tb):=by
 intro pins s σ H Q I h
 exact wpAny_BinOp (nR ha hb I h λv u s2 x y H2 I2 rx ry q=>ho pins s2 σ H2 x y v u Q I2 rx ry q)
def nS{op:UnaryOp}{r:V->Hp->VK->Prop}(ho:Aq X (unaryOp op) r)(ha:PE X a ta):PE X (.UnaryOp op a pos) (tUn r ta):=by
 intro pins s σ H Q I h
 exact UnaryOp_ (aN (ha pins s σ H _ I h) λv s1 ⟨x,H1,I1,r1,q1⟩=>ho pins s1 σ H1 x v Q I1 r1 q1)
def rR{f:Value->Value->Sem Value}{C:Int->Int->Prop}{g:Int->Int->Int}
  (rule:∀(i j:Int) (t u:Tok) (s:Shared) (Q:Value->Shared->Prop) (E:Value->Shared->Prop),C i j->Q (.int (g i j) s.toks) { s with toks:=s.toks+1 }->wpAny (model X.prog X.w) X.A (f (.int i t) (.int j u)) Q E s) :
  bT X f (rI C λi j=>.int (g i j)):=by
 intro pins s σ H x y v u Q I rx ry h
 obtain⟨i,j,rfl,rfl,hc,q⟩:=h
 obtain⟨t,rfl⟩:=rx
 obtain⟨t',rfl⟩:=ry
 exact rule i j t t' s _ _ hc ⟨.int (g i j),H,I.tok _,⟨_,rfl⟩,q⟩
def rS{f:Value->Value->Sem Value}{g:Int->Int->Int}
  (rule:∀(i j:Int) (t u:Tok) (s:Shared) (Q:Value->Shared->Prop) (E:Value->Shared->Prop),Q (.int (g i j) s.toks) { s with toks:=s.toks+1 }->wpAny (model X.prog X.w) X.A (f (.int i t) (.int j u)) Q E s) :
  bT X f (ja λi j=>.int (g i j)):=by
 intro pins s σ H x y v u Q I rx ry h
 obtain⟨i,j,rfl,rfl,q⟩:=h
 obtain⟨t,rfl⟩:=rx
 obtain⟨t',rfl⟩:=ry
 exact rule i j t t' s _ _ ⟨.int (g i j),H,I.tok _,⟨_,rfl⟩,q⟩
def nT{f:Value->Value->Sem Value}{g:Int->Int->Bool}
  (rule:∀(i j:Int) (t u:Tok) (s:Shared) (Q:Value->Shared->Prop) (E:Value->Shared->Prop),Q (.bool (g i j)) s->wpAny (model X.prog X.w) X.A (f (.int i t) (.int j u)) Q E s) :
  bT X f (ja λi j=>.bl (g i j)):=by
 intro pins s σ H x y v u Q I rx ry h
 obtain⟨i,j,rfl,rfl,q⟩:=h
 obtain⟨t,rfl⟩:=rx
 obtain⟨t',rfl⟩:=ry
 exact rule i j t t' s _ _ ⟨.bl (g i j),H,I,rfl,q⟩
abbrev BH(i j:Int):Prop:=0<j/\j<1073741824
abbrev nV(i j:Int):Prop:=0≤j/\j≤1000000/\i.natAbs<2 ^ 64
abbrev y4(i j:Int):Prop:=(-(2 ^ 64)<i/\i<2 ^ 64)∨(-(2 ^ 64)<j/\j<2 ^ 64)
def y4.ok{i j:Int}(h:y4 i j):IntMulOk i j:=by
 rcases h with⟨h1,h2⟩| ⟨h1,h2⟩
 ·exact .of_left (intBits_le_64 h1 h2)
 ·exact .of_right (intBits_le_64 h1 h2)
def BI:bT X (binaryOp .Add) (ja λi j=>.int (i+j)):=rS λ_ _ _ _ _ _ _ q=>add_int q
def BJ:bT X (binaryOp .Sub) (ja λi j=>.int (i-j)):=rS λ_ _ _ _ _ _ _ q=>sub_int q
def BK:bT X (binaryOp .Mult) (rI y4 λi j=>.int (i*j)):=rR λ_ _ _ _ _ _ _ hc q=>mul_int q hc.ok
def Ar:bT X (binaryOp .FloorDiv) (rI BH λi j=>.int (i / j)):=rR λi j _ _ _ _ _ hc q=>by
 have h1:(0:Int)<j:=hc.1
 have h2:j<1073741824:=hc.2
 exact floordiv_int (by lia) (by rw [Int.fdiv_eq_ediv_of_nonneg i (by lia)];exact q) (.inl (PyProof.noPylong_small (by lia)))
def BL:bT X (binaryOp .Mod) (rI (λ_ j=>0<j) λi j=>.int (i % j)):=rR λi j _ _ _ _ _ hc q=>by
 have h1:(0:Int)<j:=hc
 exact mod_int' (by lia) (by rw [Int.fmod_eq_emod_of_nonneg i (by lia)];exact q)
def BM:bT X (binaryOp .Pow) (rI nV λi j=>.int (i ^ j.toNat)):=rR λ_ _ _ _ _ _ _ hc q=>pow_int_small hc.1 hc.2.1 hc.2.2 q
def unI{f:Value->Sem Value}{g:Int->Int}
  (rule:∀(i:Int) (t:Tok) (s:Shared) (Q:Value->Shared->Prop) (E:Value->Shared->Prop),Q (.int (g i) s.toks) { s with toks:=s.toks+1 }->wpAny (model X.prog X.w) X.A (f (.int i t)) Q E s) :
  Aq X f (rU λi=>.int (g i)):=by
 intro pins s σ H x v Q I rx h
 obtain⟨i,rfl,q⟩:=h
 obtain⟨t,rfl⟩:=rx
 exact rule i t s _ _ ⟨.int (g i),H,I.tok _,⟨_,rfl⟩,q⟩
def nW:Aq X (unaryOp .USub) (rU λi=>.int (-i)):=unI λ_ _ _ _ _ q=>neg_int q
end
abbrev iD:V->V->Bool
 | .non,.non=>true | .non,.int _=>true | .int _,.non=>true | .non,.bl _=>true | .bl _,.non=>true | .non,.str _=>true | .str _,.non=>true
 | .int _,.int _=>true | .bl _,.bl _=>true | .str _,.str _=>true | .byt _,.byt _=>true
 | .int _,.str _=>true | .str _,.int _=>true | .bl _,.str _=>true | .str _,.bl _=>true
 | _,_=>false
abbrev rEq:R2:=λx y H Q=>iD x y=true/\Q (.bl (decide (x=y))) H
abbrev rNe:R2:=λx y H Q=>iD x y=true/\Q (.bl (!decide (x=y))) H
def yf0{i j:Int}:decide (V.int i=V.int j)=(i == j):=by
 rw [Bool.eq_iff_iff]
 simp
def yee{i j:Bool}:decide (V.bl i=V.bl j)=(i == j):=by
 rw [Bool.eq_iff_iff]
 simp
def yf1{i j:Str}:decide (V.str i=V.str j)=(i == j):=by
 rw [Bool.eq_iff_iff]
 simp
def yef{i j:Array UInt8}:decide (V.byt i=V.byt j)=(i.toList == j.toList):=by
 rw [Bool.eq_iff_iff]
 cases i
 cases j
 simp
section
variable {X:Cx}{a b c:Expr}{ta tb tc:TE}{pos:Pos}
def bg{pins:List (Addr×Obj)}{σ:St}{H:Hp}{s:Shared}{Q:VK}{k k':Bool}(I:Inv X pins σ H s)(q:Q (.bl k) H)(e:k=k'):EP X pins σ Q (.bool k') s:=by
 subst e
 exact⟨.bl k,H,I,rfl,q⟩
def rT:bT X (compareOp .Eq) rEq:=by
 intro pins s σ H x y v u Q I rx ry h
 obtain⟨hs,q⟩:=h
 cases x with
 | non =>
  cases rx
  cases y with
  | non=>cases ry;exact PySem.EqNone.eq_none_none (bg I q (by simp))
  | bl j=>cases ry;exact PySem.EqNone.eq_none_bool (bg I q (by simp))
  | int j=>obtain⟨t',rfl⟩:=ry;exact PySem.EqNone.eq_none_int (bg I q (by simp))
  | str j=>obtain⟨t',rfl⟩:=ry;exact PySem.EqNone.eq_none_str (bg I q (by simp))
  | _=>exact absurd (show false=true from hs) z13
 | bl i =>
  cases rx
  cases y with
  | non=>cases ry;exact PySem.EqNone.eq_bool_none (bg I q (by simp))
  | bl j=>cases ry;exact eq_bool (bg I q yee)
  | str j=>obtain⟨t',rfl⟩:=ry;exact PySem.EqMixed.eq_bool_str (bg I q (by simp))
  | _=>exact absurd (show false=true from hs) z13
 | int i =>
  obtain⟨t,rfl⟩:=rx
  cases y with
  | non=>cases ry;exact PySem.EqNone.eq_int_none (bg I q (by simp))
  | int j=>obtain⟨t',rfl⟩:=ry;exact eq_int (bg I q yf0)
  | str j=>obtain⟨t',rfl⟩:=ry;exact PySem.EqMixed.eq_int_str (bg I q (by simp))
  | _=>exact absurd (show false=true from hs) z13
 | str i =>
  obtain⟨t,rfl⟩:=rx
  cases y with
  | non=>cases ry;exact PySem.EqNone.eq_str_none (bg I q (by simp))
  | bl j=>cases ry;exact PySem.EqMixed.eq_str_bool (bg I q (by simp))
  | int j=>obtain⟨t',rfl⟩:=ry;exact PySem.EqMixed.eq_str_int (bg I q (by simp))
  | str j=>obtain⟨t',rfl⟩:=ry;exact eq_str (bg I q yf1)
  | _=>exact absurd (show false=true from hs) z13
 | byt i =>
  obtain⟨t,rfl⟩:=rx
  cases y with
  | byt j=>obtain⟨t',rfl⟩:=ry;exact W.eq_bytes (bg I q yef)
  | _=>exact absurd (show false=true from hs) z13
 | _=>cases y<;>exact absurd (show false=true from hs) z13
def rV:bT X (compareOp .NotEq) rNe:=by
 intro pins s σ H x y v u Q I rx ry h
 obtain⟨hs,q⟩:=h
 cases x with
 | non =>
  cases rx
  cases y with
  | non=>cases ry;exact PySem.EqNone.ne_none_none (bg I q (by simp))
  | bl j=>cases ry;exact PySem.EqNone.ne_none_bool (bg I q (by simp))
  | int j=>obtain⟨t',rfl⟩:=ry;exact PySem.EqNone.ne_none_int (bg I q (by simp))
  | str j=>obtain⟨t',rfl⟩:=ry;exact PySem.EqNone.ne_none_str (bg I q (by simp))
  | _=>exact absurd (show false=true from hs) z13
 | bl i =>
  cases rx
  cases y with
  | non=>cases ry;exact PySem.EqNone.ne_bool_none (bg I q (by simp))
  | bl j=>cases ry;exact ne_bool (bg I q (congrArg not yee))
  | str j=>obtain⟨t',rfl⟩:=ry;exact PySem.EqMixed.ne_bool_str (bg I q (by simp))
  | _=>exact absurd (show false=true from hs) z13
 | int i =>
  obtain⟨t,rfl⟩:=rx
  cases y with
  | non=>cases ry;exact PySem.EqNone.ne_int_none (bg I q (by simp))
  | int j=>obtain⟨t',rfl⟩:=ry;exact ne_int (bg I q (congrArg not yf0))
  | str j=>obtain⟨t',rfl⟩:=ry;exact PySem.EqMixed.ne_int_str (bg I q (by simp))
  | _=>exact absurd (show false=true from hs) z13
 | str i =>
  obtain⟨t,rfl⟩:=rx
  cases y with
  | non=>cases ry;exact PySem.EqNone.ne_str_none (bg I q (by simp))
  | bl j=>cases ry;exact PySem.EqMixed.ne_str_bool (bg I q (by simp))
  | int j=>obtain⟨t',rfl⟩:=ry;exact PySem.EqMixed.ne_str_int (bg I q (by simp))
  | str j=>obtain⟨t',rfl⟩:=ry;exact ne_str (bg I q (congrArg not yf1))
  | _=>exact absurd (show false=true from hs) z13
 | byt i =>
  obtain⟨t,rfl⟩:=rx
  cases y with
  | byt j=>obtain⟨t',rfl⟩:=ry;exact W.ne_bytes (bg I q (congrArg not yef))
  | _=>exact absurd (show false=true from hs) z13
 | _=>cases y<;>exact absurd (show false=true from hs) z13
def rW:bT X (compareOp .Lt) (ja λi j=>.bl (decide (i<j))):=nT λ_ _ _ _ _ _ _ q=>lt_int q
def rX:bT X (compareOp .Gt) (ja λi j=>.bl (decide (j<i))):=nT λ_ _ _ _ _ _ _ q=>gt_int q
def rY:bT X (compareOp .GtE) (ja λi j=>.bl (decide (j≤i))):=nT λ_ _ _ _ _ _ _ q=>ge_int q
def BN:bT X (compareOp .In) (λx y H Q=>∃i j,x=.str i/\y=.str j/\Q (.bl (!(Builtin.Str.occurrences j i 0 j.length 1).isEmpty)) H):=by
 intro pins s σ H x y v u Q I rx ry h
 obtain⟨i,j,rfl,rfl,q⟩:=h
 obtain⟨t,rfl⟩:=rx
 obtain⟨t',rfl⟩:=ry
 exact in_str (bg I q rfl)
def BO:bT X (compareOp .NotIn) (λx y H Q=>∃i j,x=.str i/\y=.str j/\Q (.bl (!(!(Builtin.Str.occurrences j i 0 j.length 1).isEmpty))) H):=by
 intro pins s σ H x y v u Q I rx ry h
 obtain⟨i,j,rfl,rfl,q⟩:=h
 obtain⟨t,rfl⟩:=rx
 obtain⟨t',rfl⟩:=ry
 exact notIn_str (bg I q rfl)
def bT.or{f:Value->Value->Sem Value}{r r':R2}(h:bT X f r)(h':bT X f r'):bT X f (λx y H Q=>r x y H Q∨r' x y H Q):=by
 intro pins s σ H x y v u Q I rx ry q
 rcases q with q|q
 ·exact h pins s σ H x y v u Q I rx ry q
 ·exact h' pins s σ H x y v u Q I rx ry q
def fQ(b:Expr){op:CmpOp}(h:op≠.In:=by decide)(h2:op≠.NotIn:=by decide):behindInMarks op b=false:=by
 have e1:(op == CmpOp.In)=false:=by cases op<;>first|rfl|exact absurd rfl h
 have e2:(op == CmpOp.NotIn)=false:=by cases op<;>first|rfl|exact absurd rfl h2
 cases b<;>simp [behindInMarks,e1,e2]
def rZ{op:CmpOp}{r:R2}(ho:bT X (compareOp op) r)(ha:PE X a ta)(hb:PE X b tb)(hm:behindInMarks op b=false):PE X (.Compare a [op] [b] pos) (kj r ta tb):=by
 intro pins s σ H Q I h
 exact wpAny_Compare1 (nR ha hb I h λv u s2 x y H2 I2 rx ry q=>ho pins s2 σ H2 x y v u Q I2 rx ry q) hm
abbrev r6(t:TE):TT:=λσ H Q=>t σ H λx H'=>∃k,x=.bl k/\Q k H'
def gP{op:CmpOp}{r:R2}(ho:bT X (compareOp op) r)(ha:PE X a ta)(hb:PE X b tb)(hm:behindInMarks op b=false):PT X (.Compare a [op] [b] pos) (r6 (kj r ta tb)):=by
 intro pins s σ H Q I h
 refine wpAny_isTrue_Compare1 (aN (ha pins s σ H _ I h) λv s1 ⟨x,H1,I1,r1,q1⟩=>aN (hb pins s1 σ H1 _ I1 q1) λu s2 ⟨y,H2,I2,r2,q2⟩ =>
  aN (ho pins s2 σ H2 x y v u _ I2 r1 r2 q2) λc s3 ⟨z,H3,I3,r3,k,e,q3⟩=>?_) hm
 subst e
 cases r3
 exact wpAny_truthy_bool ⟨H3,I3,q3⟩
abbrev nX(K:W.Frag)(x:V)(H:Hp)(k:Bool):Prop :=
 match x with
 | .non=>k=false
 | .bl b=>k=b
 | .int i=>k=(i != 0)
 | .str y=>y.length≤sizeLine/\k=((y.length:Int) != 0)
 | .byt y=>y.size≤sizeLine/\k=((y.size:Int) != 0)
 | .ref p=>(∃xs,bu K H p xs/\k=!xs.isEmpty)∨(∃xs,ba K H p xs/\k=!xs.isEmpty)∨∃kvs,H p=some (.dK kvs)/\k=!kvs.isEmpty
 | _=>False
def BP{κ:Type}{kvs:List (κ×V)}{vs:List (κ×Value)}(r:KV kvs vs):(!vs.isEmpty)=!kvs.isEmpty:=by
 cases r<;>rfl
def sd{xs:List V}{its:List Value}(r:au xs its):(!its.toArray.isEmpty)=!xs.isEmpty:=by
 cases r<;>simp
def gQ:(sizeLine:Nat)<2 ^ 63:=by rw [sizeLine_eq];decide
def nY:BG X (λx H Q=>∃k,nX X.K x H k/\Q k H):=by
 intro pins s σ H x v Q I rx h
 obtain⟨k,e,q⟩:=h
 have hl:=gQ
 have hs:sizeLine=16777216:=sizeLine_eq
 cases x with
 | non =>
  cases rx
  have e':k=false:=e
  subst e'
  exact truthy_none ⟨H,I,q⟩
 | bl b =>
  cases rx
  have e':k=b:=e
  subst e'
  exact wpAny_truthy_bool ⟨H,I,q⟩
 | int i =>
  obtain⟨t,rfl⟩:=rx
  have e':k=(i != 0):=e
  subst e'
  exact PySem.P.truthy_int ⟨H,I,q⟩
 | str y =>
  obtain⟨t,rfl⟩:=rx
  obtain⟨hy,e'⟩:y.length≤sizeLine/\k=((y.length:Int) != 0):=e
  subst e'
  exact PySem.P.truthy_str (by lia) ⟨H,I.tok _,q⟩
 | byt y =>
  obtain⟨t,rfl⟩:=rx
  obtain⟨hy,e'⟩:y.size≤sizeLine/\k=((y.size:Int) != 0):=e
  subst e'
  exact W.truthy_bytes (by lia) ⟨H,I.tok _,q⟩
 | ref p =>
  cases rx
  have e':(∃xs,bu X.K H p xs/\k=!xs.isEmpty)∨(∃xs,ba X.K H p xs/\k=!xs.isEmpty)∨∃kvs,H p=some (.dK kvs)/\k=!kvs.isEmpty:=e
  rcases e' with⟨xs,hx,e'⟩| ⟨xs,hx,e'⟩| ⟨kvs,hx,e'⟩
  ·subst e'
   obtain⟨its,r,pl,hz⟩:=I.list hx
   have hlen:=r.length
   exact wpAny_truthy_list pl.isList (by simp only [zf];lia) ⟨H,I.tok _,by rw [sd r];exact q⟩
  ·subst e'
   obtain⟨its,r,pl,hz⟩:=I.tuple hx
   have hlen:=r.length
   exact truthy_tuple pl (by simp only [zf];lia) ⟨H,I.tok _,by rw [sd r];exact q⟩
  ·subst e'
   obtain⟨hz,hS,vs,r,m⟩:kvs.length≤sizeLine/\(p == sysModules)=false/\∃vs,KV kvs vs/\s.heap.DictOf (cE X.prog X.w) p vs:=I.hok p _ hx
   have hlen:kvs.length=vs.length:=Paired.length r
   exact wpAny_truthy_dict hS m (by lia) ⟨H,I.tok _,by rw [BP r];exact q⟩
 | _=>exact (show False from e).elim
def BQ(ha:PE X a ta)(he:∀whole,isTrue a X.env whole=(do let v <- whole;standAt a.pos;holding [v] (truthy v))) :
  PT X a (λσ H Q=>ta σ H λx H'=>∃k,nX X.K x H' k/\Q k H'):=by
 intro pins s σ H Q I h
 exact isTrue_plain (aN (ha pins s σ H _ I h) λv s1 ⟨x,H1,I1,r1,q1⟩=>nY pins s1 σ H1 x v Q I1 r1 q1) (he _)
def BR:bT X (binaryOp .Add) (λx y H Q=>∃i j,x=.str i/\y=.str j/\i.length+j.length≤sizeLine/\Q (.str (i++j)) H):=by
 intro pins s σ H x y v u Q I rx ry h
 obtain⟨i,j,rfl,rfl,hz,q⟩:=h
 obtain⟨t,rfl⟩:=rx
 obtain⟨t',rfl⟩:=ry
 exact add_str (λt' tk=>⟨.str (i++j),H,I.tok _,⟨_,rfl⟩,q⟩) hz
def cb{x:V}{us:List Value}(r:au [x] us):∃u,us=[u]/\ay x u:=by
 cases r with
 | cons r1 r2=>cases r2;exact⟨_,rfl,r1⟩
def jo{x y:V}{us:List Value}(r:au [x,y] us):∃u w',us=[u,w']/\ay x u/\ay y w':=by
 cases r with
 | cons r1 r2 =>
  cases r2 with
  | cons r3 r4=>cases r4;exact⟨_,_,rfl,r1,r3⟩
def yac(hc:X.calm=true):y6 X (.builtin "max") (λxs H Q=>∃i j,xs=[.int i,.int j]/\Q (.int (if j>i then j else i)) H):=by
 intro pins s σ H xs us Q I r h
 obtain⟨i,j,rfl,q⟩:=h
 obtain⟨u,w',rfl,⟨t,rfl⟩,⟨t',rfl⟩⟩:=jo r
 refine max_two_ints (I.ok.hd hc) λh' tk k=>⟨_,H,I.kept k,?_,q⟩
 by_cases hj:j>i
 ·rw [if_pos hj,if_pos hj];exact⟨_,rfl⟩
 ·rw [if_neg hj,if_neg hj];exact⟨_,rfl⟩
def yad(hc:X.calm=true):y6 X (.builtin "min") (λxs H Q=>∃i j,xs=[.int i,.int j]/\Q (.int (if j<i then j else i)) H):=by
 intro pins s σ H xs us Q I r h
 obtain⟨i,j,rfl,q⟩:=h
 obtain⟨u,w',rfl,⟨t,rfl⟩,⟨t',rfl⟩⟩:=jo r
 refine min_two_ints (I.ok.hd hc) λh' tk k=>⟨_,H,I.kept k,?_,q⟩
 by_cases hj:j<i
 ·rw [if_pos hj,if_pos hj];exact⟨_,rfl⟩
 ·rw [if_neg hj,if_neg hj];exact⟨_,rfl⟩
def ya4:y6 X (.type "int") (λxs H Q=>(∃i,xs=[.int i]/\Q (.int i) H)∨∃k,xs=[.bl k]/\Q (.int (if k then 1 else 0)) H):=by
 intro pins s σ H xs us Q I r h
 rcases h with⟨i,rfl,q⟩| ⟨k,rfl,q⟩
 ·obtain⟨u,rfl,t,rfl⟩:=cb r
  exact call_int_int ⟨.int i,H,I,⟨_,rfl⟩,q⟩
 ·obtain⟨u,rfl,r1⟩:=cb r
  cases r1
  exact call_int_bool ⟨.int (if k then 1 else 0),H,I.tok _,⟨_,rfl⟩,q⟩
def yaf:y6 X (.type "str") (λxs H Q=>∃i,xs=[.int i]/\i.natAbs.log2<1920/\Q (.str (toString i)) H):=by
 intro pins s σ H xs us Q I r h
 obtain⟨i,rfl,hz,q⟩:=h
 obtain⟨u,rfl,t,rfl⟩:=cb r
 exact PySem.P.str_of_int hz ⟨.str _,H,I.tok _,⟨_,rfl⟩,q⟩
end
end
section
structure ObjM(h:Heap)(x dx C:Addr)(mA:Str->Option Value):Prop where
 obj:h.get? x=some (W.instObj C dx)
 ns:h.Ns1 dx mA
 ne:dx≠x
def kL{h:Heap}{dx:Addr}{mA:Str->Option Value}(n:h.Ns1 dx mA):∃od,h.get? dx=some od/\∀name,W.lookIn name od=some (mA name):=by
 obtain⟨o,es,ep,ho,hd,hk,_,hm⟩:=n
 refine⟨o,ho,λname=>?_⟩
 have e:=hm name
 unfold nsFind findBy at e
 rw [<- Array.find?_toList] at e
 unfold W.lookIn
 rw [hd]
 dsimp only
 split
 ·rename_i y q
  rw [q] at e
  exact congrArg some e
 ·rename_i q
  rw [q] at e
  have a:es.toList.any (·.refKey)=false:=by
   rw [List.any_eq_false]
   intro y hy
   obtain⟨z,t,hkey⟩:=hk y (Array.mem_toList_iff.mp hy)
   simp [DictEntry.refKey,hkey]
  have a':¬ es.toList.any (·.refKey)=true:=by rw [a];exact z13
  rw [if_neg a']
  exact congrArg some e
def ObjM.look{h:Heap}{x dx C:Addr}{mA:Str->Option Value}(I:ObjM h x dx C mA):∃od,W.InstAt h x (W.instObj C dx) C (some od)/\∀name,W.lookIn name od=some (mA name) :=
 let ⟨od,ho,hl⟩:=kL I.ns
 ⟨od,⟨I.obj,rfl,rfl,ho⟩,hl⟩
section
variable {prog:Program}{w:World}{A:Around}{E:Value->Shared->Prop}{s:Shared}{K:W.Frag}{x dx C f:Addr}{mA:Str->Option Value}{name:Str}{v:Value}
end
def ij.some_of{v:V}{o:Option Value}(r:ij (some v) o):∃u,o=some u/\ay v u:=by
 cases o with
 | none=>exact (show False from r).elim
 | some u=>exact⟨u,rfl,r⟩
def BS{v:V}{u:Value}(r:ay v u):W.handedIn u=true:=by
 cases v with
 | non=>cases (show u=Value.none from r);rfl
 | bl b=>cases (show u=Value.bool b from r);rfl
 | int i=>obtain⟨t,e⟩:=(show ∃t,u=Value.int i t from r);cases e;rfl
 | str x=>obtain⟨t,e⟩:=(show ∃t,u=Value.str x t from r);cases e;rfl
 | byt b=>obtain⟨t,e⟩:=(show ∃t,u=Value.bytes b t from r);cases e;rfl
 | flt b=>obtain⟨t,e⟩:=(show ∃t,u=Value.float b t from r);cases e;rfl
 | ref a=>cases (show u=Value.ref a from r);rfl
 | ty n=>cases (show u=Value.type n from r);rfl
section
variable {P:Program}{w:World}{H H':Hp}{h h':Heap}{a C dx:Addr}{fs fs':List (Str×V)}
def BU(hok:cA P w H h)(e:H a=some (.ins C dx fs)):∃mA,ObjM h a dx C mA/\(∀f,ij (fs.lookup f) (mA f))/\PySem.Within mA (fs.map (·.1))/\fs.length≤1000/\H dx=some (.own a):=by
 obtain⟨d,z,ne,ob,mA,n,r,q⟩:=(show c6 P w H h a (.ins C dx fs) from hok a _ e)
 exact⟨mA,⟨ob,n,ne⟩,r,q,z,d⟩
end
structure Cls(K:W.Frag)(C:Addr):Prop where
 pg:W.plainGet K C Str.empty=true
 hd:W.hasDictIn K C=true
 po:W.plainOver K C=true
 sa:W.findIn K (.ref C) "__setattr__" = some (some (.builtin "object.__setattr__"))
def Cls.get{K:W.Frag}{C:Addr}(c:Cls K C)(f:Str):W.plainGet K C f=true:=c.pg
abbrev kM(K:W.Frag)(C:Addr)(f:Str):Prop:=W.findIn K (.ref C) f=some none
structure Con(K:W.Frag)(C:Addr)(f:Str)(v:V)(u:Value):Prop where
 at_:W.findIn K (.ref C) f=some (some u)
 rel:ay v u
 get:W.specialIn K u "__get__" = some none
 cp:W.copiedNames.contains f=false
structure Meth(K:W.Frag)(C:Addr)(m:Str)(f:Addr):Prop where
 at_:W.findIn K (.ref C) m=some (some (.ref f))
 fn:W.isFn K (.ref f)=true
 kp:W.keepIn K (.ref f)=true
section
variable {X:Cx}{pins:List (Addr×Obj)}{σ:St}{H:Hp}{s:Shared}{a C dx:Addr}{fs:List (Str×V)}{f:Str}{v:V}{A:Around}{E:Value->Shared->Prop}
def y7f{prog:Program}{w:World}{env:Env}{e:Expr}{f:Str}{pos:Pos}{s:Shared}{Q:Value->Shared->Prop}(hb:attributeBase e f env (eval e env)=eval e env)
  (h:wpAny (model prog w) A (eval e env) (λo s₁=>wpAny (model prog w) A (getAttr o f true) Q E s₁) E s):wpAny (model prog w) A (eval (.Attribute e f pos) env) Q E s :=
 Attribute_any_ h (by rw [arm_eval_Attribute,hb])
end
section
variable {X:Cx}{o e value:Expr}{f:Str}{pos pos' tpos:Pos}{ta tv:TE}
end
section
variable {X:Cx}{pins:List (Addr×Obj)}{σ:St}{H:Hp}{s:Shared}{A:Around}{E:Value->Shared->Prop}{Q:Value->Shared->Prop}{c:Value}{b:Bool}
inductive y52(K:W.Frag)(H:Hp):V->Value->Prop where
 | non:y52 K H .non (.type "NoneType")
 | bl (x:Bool):y52 K H (.bl x) (.type "bool")
 | int (i:Int):y52 K H (.int i) (.type "int")
 | str (x:Str):y52 K H (.str x) (.type "str")
 | flt (x:UInt64):y52 K H (.flt x) (.type "float")
 | lst {a:Addr} {xs:List V} (e:H a=some (.lst xs)):y52 K H (.ref a) (.type "list")
 | frz {a:Addr} {o:Obj} {xs:List V} (e:H a=some (.frz o (.lst xs))):y52 K H (.ref a) (.type "list")
 | tup {a:Addr} {xs:List V} (e:H a=some (.tup xs)):y52 K H (.ref a) (.type "tuple")
 | dK {a:Addr} {kvs:List (aR×V)} (e:H a=some (.dK kvs)):y52 K H (.ref a) (.type "dict")
 | dT {a:Addr} {kvs:List (List aR×V)} (e:H a=some (.dT kvs)):y52 K H (.ref a) (.type "dict")
 | ins {a C dx:Addr} {fs:List (Str×V)} (e:H a=some (.ins C dx fs)) (cl:Cls K C) (ha:W.findIn K (.ref C) "__class__" = some (some (.builtin "object.__class__")))
   (hn:W.specialIn K (.builtin "object.__class__") "__get__" = some (some (.builtin "getset_descriptor.__get__"))) (htk:W.takesIn K (.builtin "object.__class__")=some true)
   (hm:W.mroIn K C (.type "object")=some true):y52 K H (.ref a) (.ref C)
def BV{x:V}{u t:Value}(I:Inv X pins σ H s)(rx:ay x u)(ty:y52 X.K H x t)(e:W.kitOne X.K t c=some b)(h:∀tk,Q (.bool b) { s with toks:=tk }) :
  wpAny (model X.prog X.w) A (call (.builtin "isinstance") [u,c]) Q E s:=by
 cases ty with
 | non=>cases (show u=Value.none from rx);exact W.kia_one W.kitx_none I.kIn True.intro e (λz=>nomatch z) h
 | bl y=>cases (show u=Value.bool y from rx);exact W.kia_one W.kitx_bool I.kIn True.intro e (λz=>nomatch z) h
 | int i=>obtain⟨t,q⟩:=(show ∃t,u=Value.int i t from rx);cases q;exact W.kia_one W.kitx_int I.kIn True.intro e (λz=>nomatch z) h
 | str y=>obtain⟨t,q⟩:=(show ∃t,u=Value.str y t from rx);cases q;exact W.kia_one W.kitx_str I.kIn True.intro e (λz=>nomatch z) h
 | flt y=>obtain⟨t,q⟩:=(show ∃t,u=Value.float y t from rx);cases q;exact W.kia_one W.kitx_float I.kIn True.intro e (λz=>nomatch z) h
 | @lst a xs ea =>
  cases (show u=Value.ref a from rx)
  obtain⟨_,_,n,_,h1⟩:=(show c6 X.prog X.w H s.heap a (.lst xs) from I.hok a _ ea)
  exact W.kia_one W.kitx_list I.kIn ⟨_,h1,rfl⟩ e (λz=>nomatch z) h
 | @frz a ob xs ea =>
  cases (show u=Value.ref a from rx)
  obtain⟨_,_,_,n,_,h1⟩:=(show c6 X.prog X.w H s.heap a (.frz ob (.lst xs)) from I.hok a _ ea)
  exact W.kia_one W.kitx_list I.kIn ⟨_,h1,rfl⟩ e (λz=>nomatch z) h
 | @tup a xs ea =>
  cases (show u=Value.ref a from rx)
  obtain⟨_,_,_,p⟩:=(show c6 X.prog X.w H s.heap a (.tup xs) from I.hok a _ ea)
  obtain⟨o,h1,h2,_⟩:=p
  exact W.kia_one W.kitx_tuple I.kIn ⟨o,h1,h2⟩ e (λz=>nomatch z) h
 | @dK a kvs ea =>
  cases (show u=Value.ref a from rx)
  obtain⟨_,_,vs,_,p⟩:=(show c6 X.prog X.w H s.heap a (.dK kvs) from I.hok a _ ea)
  obtain⟨o,es,ep,h1,h2,_⟩:=p
  exact W.kia_one W.kitx_dict I.kIn ⟨o,h1,h2.1⟩ e (λz=>nomatch z) h
 | @dT a kvs ea =>
  cases (show u=Value.ref a from rx)
  obtain⟨_,_,xs,_,o,es,ep,h1,h2,_⟩:=(show c6 X.prog X.w H s.heap a (.dT kvs) from I.hok a _ ea)
  exact W.kia_one W.kitx_dict I.kIn ⟨o,h1,h2.1⟩ e (λz=>nomatch z) h
 | @ins a C dx fs ea cl ha hn htk hm =>
  cases (show u=Value.ref a from rx)
  obtain⟨mA,O,_⟩:=BU I.hok ea
  obtain⟨od,J,_⟩:=O.look
  exact W.kia_one (W.kitx_own (cl.get _) cl.hd ha hn htk hm) I.kIn J e (λz=>nomatch z) h
end
end
section
structure y4d(k:Nat)(A:Around):Prop where
 hd:A.handled=none
 dp:A.depth+3*k+5<recursionLimit
 un:A.units+16*k+200<cLine
 gd:A.guards=some []
def y4d.mono{j k:Nat}{A:Around}(r:y4d k A)(h:j≤k):y4d j A:=⟨r.hd,by have:=r.dp;lia,by have:=r.un;lia,r.gd⟩
theorem y4d.deeper{k:Nat}{A:Around}(r:y4d (k+1) A)(env:Env):y4d k (A.deeper env) :=
 ⟨r.hd,by have:=r.dp;show A.depth+1+3*k+5<_;lia,by have:=r.un;show A.units+3+16*k+200<_;lia,r.gd⟩
def BW{A:Around}{C:Addr}{us:List Value}{kw:List (Str×Value)}:(A.under (.builtin "type.__call__" ⟨.ref C::us,kw⟩)).depth=A.depth+1:=by
 first|rfl|simp [Around.under,Code.weight,Code.isCreation,Code.isGuard,Code.isCaller,Code.frames,Code.isFrame,guardIds]
def BX{A:Around}{C:Addr}{us:List Value}{kw:List (Str×Value)}:(A.under (.builtin "type.__call__" ⟨.ref C::us,kw⟩)).units=A.units+1:=by
 first|rfl|simp [Around.under,Code.cUnits,Code.frames,Code.isFrame]
def y4d.make{k:Nat}{A:Around}(r:y4d (k+1) A)(C:Addr)(us:List Value)(kw:List (Str×Value)):y4d k (A.under (.builtin "type.__call__" ⟨.ref C::us,kw⟩)) :=
 ⟨r.hd,by have:=r.dp;rw [BW];lia,by have:=r.un;rw [BX];lia,by have:=r.gd;first|exact this|simpa [Around.under,Code.guards,Code.isGuard,guardIds,pushGuards] using this⟩
theorem y4d.depth{k:Nat}{A:Around}(r:y4d k A):A.depth<recursionLimit:=by have:=r.dp;lia
theorem y4d.units{k:Nat}{A:Around}(r:y4d k A):A.units+64<cLine:=by have:=r.un;lia
abbrev gR:TA:=λ_ H Q=>Q [] H
abbrev cR(ta:TE)(tr:TA):TA:=λσ H Q=>ta σ H λx H1=>tr σ H1 λxs H2=>Q (x::xs) H2
section
variable {X:Cx}{e:Expr}{es:List Expr}{te:TE}{t:TA}{pos:Pos}
def dJ:PA X [] gR:=λ_ _ _ _ H Q I h=>Calls.spliced_nil ⟨[],H,I,.nil,h⟩
def bU(ha:PE X e te)(hr:PA X es t)(hs:‹starEach (e::es) X.env=(false,eval e X.env)::starEach es X.env›):PA X (e::es) (cR te t):=by
 intro pos pins s σ H Q I h
 rw [hs]
 show wpAny _ _ (spliced ((false,eval e X.env)::backTo pos (starEach es X.env))) _ _ s
 refine Calls.spliced_cons (aN (ha pins s σ H _ I h) λu s1 zz=>?_)
 obtain⟨x,H1,I1,r1,q1⟩:=zz
 exact aN (hr pos pins s1 σ H1 _ I1 q1) λus s2 ⟨xs,H2,I2,r2,q2⟩=>⟨x::xs,H2,I2,.cons r1 r2,q2⟩
abbrev kN(t:TA):TE:=λσ H Q=>t σ H λxs H1=>xs.length≤sizeLine/\∀p,H1 p=none->Q (.ref p) (upd H1 p (.tup xs))
abbrev BY(t:TA):TE:=λσ H Q=>t σ H λxs H1=>xs.length≤sizeLine/\∀p,H1 p=none->Q (.ref p) (upd H1 p (.lst xs))
def jq{x1}(h:PA X es t):PE X (.Tuple es x1 pos) (kN t):=by
 intro pins s σ H Q I hq
 refine wpAny_Tuple_spliced (aN (h pos pins s σ H _ I hq) λus s1 ⟨xs,H1,I1,r,z,q⟩=>⟨by rw [<- r.length];exact z,?_⟩)
 have hf:H1 s1.heap.objs.size=none:=I1.hok.fresh (z12 _)
 refine⟨.ref s1.heap.objs.size,upd H1 s1.heap.objs.size (.tup xs),I1.laid (t':=s1.toks) (λb u e=>zd _ e) (z12 _) ?_,rfl,q _ hf⟩
 exact⟨z,us,r,kD.mk' _ _⟩
def BZ(h:PA X es t):PE X (.List es pos) (BY t):=by
 intro pins s σ H Q I hq
 refine wpAny_List_spliced (aN (h pos pins s σ H _ I hq) λus s1 ⟨xs,H1,I1,r,z,q⟩=>⟨by rw [<- r.length];exact z,?_⟩)
 have hf:H1 s1.heap.objs.size=none:=I1.hok.fresh (z12 _)
 refine⟨.ref s1.heap.objs.size,upd H1 s1.heap.objs.size (.lst xs),I1.laid (t':=s1.toks) (λb u e=>zd _ e) (z12 _) ?_,rfl,q _ hf⟩
 exact⟨z,us,0,r,z22 _ rfl⟩
end
noncomputable abbrev Sp:=List V->Hp->VK->XK->Prop
noncomputable abbrev gS:=List Env->Hp->Shared->XK->Value->Shared->Prop
structure y12(P:Program)(w:World)(K:W.Frag)(mg:Str->Option Value)(base:Heap)(A:Around)(outer:List Env)(s:Shared)(H:Hp):Prop where
 frames:A.frames=some outer
 mod:Mod K mg base
 bs:∀b o,base.get? b=some o->s.heap.get? b=some o/\H b=none
 bsz:base.objs.size≤s.heap.objs.size
 y170:s.heap.FunFrames base outer
 frf:∀b∈fL outer,H b=none
 hok:cA P w H s.heap
 bare:AllBare s.gens
abbrev CE(outer:List Env)(P:Program)(w:World)(H:Hp)(s:Shared)(Q:VK)(u:Value)(s':Shared):Prop :=
 ∃v H',s'.os=s.os/\AllBare s'.gens/\Un (fL outer) [] H H' s.heap s'.heap/\cA P w H' s'.heap/\ay v u/\Q v H'
abbrev CR(CX:gS)(outer:List Env)(P:Program)(w:World)(H:Hp)(s:Shared)(Q:VK)(E:XK)(r:Result)(s':Shared):Prop :=
 match r with
 | .ok (.ret u)=>CE outer P w H s Q u s'
 | .ok _=>False
 | .error e=>CX outer H s E e s'
structure y3f(P:Program)(w:World)(K:W.Frag)(mg:Str->Option Value)(base:Heap)(CX:gS)(k:Nat)(f:Addr)(fd:FuncData)(ps:List Str)(sp:Sp):Prop where
 len:∀vs H Q E,sp vs H Q E->vs.length=ps.length
 run:∀(A:Around) (outer:List Env) (s:Shared) (H:Hp) (args:Args) (us:List Value) (vs:List V) (Q:VK) (E:XK),y4d k A->y12 P w K mg base A outer s H->BindsTo s fd args (ps.zip us)->au vs us->sp vs H Q E ->
  codeAny (model P w) A (.call (.ref f) args) (CR CX outer P w H s Q E) s
def y3f.imp{P:Program}{w:World}{K:W.Frag}{mg:Str->Option Value}{base:Heap}{CX:gS}{k:Nat}{f:Addr}{fd:FuncData}{ps:List Str}{sp sp':Sp}(F:y3f P w K mg base CX k f fd ps sp)
  (h:∀vs H Q E,sp' vs H Q E->sp vs H Q E):y3f P w K mg base CX k f fd ps sp' :=
 ⟨λvs H Q E q=>F.len vs H Q E (h _ _ _ _ q),λA outer s H args us vs Q E hr he hb hv hs=>F.run A outer s H args us vs Q E hr he hb hv (h _ _ _ _ hs)⟩
def y12.make{P:Program}{w:World}{K:W.Frag}{mg:Str->Option Value}{base:Heap}{A:Around}{outer:List Env}{s:Shared}{H:Hp}(e:y12 P w K mg base A outer s H)(C:Addr)(us:List Value)(kw:List (Str×Value)) :
  y12 P w K mg base (A.under (.builtin "type.__call__" ⟨.ref C::us,kw⟩)) outer s H:=⟨by first|exact e.frames|(simpa [Around.under,Code.envs,Code.isFrame,pushEnvs] using e.frames),e.mod,e.bs,e.bsz,e.y170,e.frf,e.hok,e.bare⟩
section
variable {X:Cx}{pins:List (Addr×Obj)}{σ:St}{H:Hp}{s s':Shared}
def Inv.env0(I:Inv X pins σ H s):y12 X.prog X.w X.K X.mg X.base X.A X.stack s H :=
 ⟨I.ok.frames,I.ok.mod,I.bs,z1c I.ok.bsz I.sz,I.stack,I.y465,I.hok,I.bare⟩
def Inv.after{Q:VK}{u:Value}(I:Inv X pins σ H s)(h:CE X.stack X.prog X.w H s Q u s'):EP X pins σ Q u s':=by
 obtain⟨v,H',os,bare,un,hok,r,q⟩:=h
 obtain⟨hh,g,d,t,os'⟩:=s'
 obtain rfl:os'=s.os:=os
 exact⟨v,H',I.call (h':=hh) (g':=g) (d':=d) (t':=t) (ch:=[]) un hok bare (λb z=>absurd z (by simp)),r,q⟩
end
abbrev eV(sp:Sp)(dvs:List V)(E:XK)(t:TA):TE:=λσ H Q=>t σ H λvs H1=>sp (vs++dvs) H1 Q E
abbrev cP(K:W.Frag)(fd:FuncData)(ps:List Str)(ds:List Value):Prop :=
 ∀(s:Shared) (us:List Value),K.In s.heap->(us++ds).length=ps.length->BindsTo s fd ⟨us,[]⟩ (ps.zip (us++ds))
def cP.all{K:W.Frag}{fd:FuncData}{ps:List Str}(h:∀us:List Value,us.length=ps.length->bindArgs fd ⟨us,[]⟩=pure (ps.zip us)):cP K fd ps []:=λs us _ hl=>by
 rw [z10] at hl ⊢
 exact .of_eq (h us hl)
abbrev bN(CX:gS)(X:Cx)(E:XK):Prop:=∀(pins:List (Addr×Obj)) (σ:St) (H:Hp) (s:Shared) (e:Value) (s':Shared),Inv X pins σ H s->CX X.stack H s E e s'->X.xe e s'
section
variable {X:Cx}{CX:gS}{k:Nat}{f C:Addr}{fd:FuncData}{ps:List Str}{sp:Sp}{dvs:List V}{ds:List Value}{E:XK}{x m:Str}{p pos apos:Pos}{e o:Expr}{es:List Expr}{ta:TE}{t:TA}
def B1{pins:List (Addr×Obj)}{σ:St}{H:Hp}{s:Shared}{Q:VK}{us:List Value}{vs:List V}(F:y3f X.prog X.w X.K X.mg X.base CX k f fd ps sp)(hr:y4d k X.A)(hb:cP X.K fd ps ds)(hd:au dvs ds)(hx:bN CX X E)
  (I:Inv X pins σ H s) (r:au vs us) (h:sp (vs++dvs) H Q E):wpAny (model X.prog X.w) X.A (call (.ref f) us) (EP X pins σ Q) X.xe s:=by
 have r2:au (vs++dvs) (us++ds):=r.append hd
 have hl:(us++ds).length=ps.length:=by rw [<- r2.length];exact F.len _ _ _ _ h
 refine wpAny_call (codeAny_mono (F.run X.A X.stack s H ⟨us,[]⟩ (us++ds) (vs++dvs) Q E hr I.env0 (hb s us I.kIn hl) r2 h) λr s' hq=>?_)
 cases r with
 | error e=>exact hx pins σ H s e s' I hq
 | ok fl =>
  cases fl with
  | ret u=>exact I.after hq
  | next=>exact False.elim hq
  | brk=>exact False.elim hq
  | cont=>exact False.elim hq
noncomputable abbrev fM(X:Cx)(e:Expr)(es:List Expr):Prop:=starEach (e::es) X.env=(false,eval e X.env)::starEach es X.env
noncomputable abbrev eW(X:Cx)(pos:Pos)(es:List Expr):Prop:=(backTo pos (starEach es X.env)).any (·.1)=false
def nZ(F:y3f X.prog X.w X.K X.mg X.base CX k f fd ps sp)(hr:y4d k X.A)(hg:Gl X x)(hm:X.mg x=some (.ref f))(hk:W.keepIn X.K (.ref f)=true)(hb:cP X.K fd ps ds)(hd:au dvs ds)(hx:bN CX X E)
  (ha:PA X (e::es) t) (hdb:(x == ("__debug__" : Str))=false:=by decide) (he:‹fM X e es›) (hpl:‹eW X pos es›) :
  PE X (.Call (.Name x p) (e::es) [] pos) (eV sp dvs E t):=by
 intro pins s σ H Q I h
 refine wpAny_Call_Name_kw (jh I hg hm ?_ hdb)
 refine W.callWith_K (h₀:=X.base) I.ok.mod.kin hk (aN (ha pos pins s σ H _ I h) λus s1 ⟨vs,H1,I1,r,q⟩=>⟨I1.kIn,?_⟩) he hpl
 exact B1 F hr hb hd hx I1 r q
structure Mk(K:W.Frag)(C f:Addr):Prop where
 makes:W.makesIn K C=true
 init:W.findIn K (.ref C) "__init__" = some (some (.ref f))
 fn:W.isFn K (.ref f)=true
 kp:W.keepIn K (.ref C)=true
end
section
variable {X:Cx}{CX:gS}{k:Nat}{f C:Addr}{fd:FuncData}{ps ks:List Str}{sp:Sp}{E:XK}{x m:Str}{p pos apos kpos:Pos}{e o:Expr}{es:List Expr}{kws:List Keyword}{te ta:TE}{t tk:TA}{nm:Option Str}
structure KBinds(K:W.Frag)(fd:FuncData)(ps ks:List Str)(g:List Value->List Value->List Value)(gV:List V->List V->List V):Prop where
 to:∀(s:Shared) (us ws:List Value),K.In s.heap->(g us ws).length=ps.length->BindsTo s fd ⟨us,ks.zip ws⟩ (ps.zip (g us ws))
 rel:∀{vs:List V} {us:List Value} {zs:List V} {ws:List Value},au vs us->au zs ws->au (gV vs zs) (g us ws)
variable {g:List Value->List Value->List Value}{gV:List V->List V->List V}
end
structure y40(N P:List Str)(sc:Scope):Prop where
 kind:sc.kind=.function
 co:sc.isCoroutine=false
 gen:sc.isGenerator=false
 nd:N.Nodup
 pre:N.take P.length=P
 par:∀x∈P,sc.names.lookup x=some .local∨sc.names.lookup x=some .cell
 y294:∀y∈sc.names,y.2≠.free
theorem y8c{kindOf:Str->Option NameKind}{x:Str}:∀{binds:List (Str×Value)} {m:Str->Option Value},(∀v,(x,v)∉binds)->bindL kindOf binds m x=m x
 | [],_,_=>rfl
 | (n,v)::r,m,h=>by
  unfold bindL
  rw [y8c λw hw=>h w (z21 _ hw)]
  split
  ·have:x≠n:=by rintro rfl;exact h v List.mem_cons_self
   simp [this]
  ·rfl
theorem y8a{kindOf:Str->Option NameKind}{x:Str}:∀{binds:List (Str×Value)} {m:Str->Option Value},(∀v,(x,v)∉binds)->bindC kindOf binds m x=m x
 | [],_,_=>rfl
 | (n,v)::r,m,h=>by
  unfold bindC
  rw [y8a λw hw=>h w (z21 _ hw)]
  split
  ·rfl
  ·have:x≠n:=by rintro rfl;exact h v List.mem_cons_self
   simp [this]
theorem y8b{kindOf:Str->Option NameKind}{x:Str}{v:Value}:∀{P:List Str} {vs:List Value} {i:Nat} {m:Str->Option Value},P.Nodup->P[i]?=some x->vs[i]?=some v->kindOf x=some .local ->
  bindL kindOf (P.zip vs) m x=some v
 | [],_,_,_,_,h,_,_=>by simp at h
 | _::_,[],_,_,_,_,h,_=>by simp at h
 | p::P,w::vs,0,m,nd,h1,h2,hk=>by
  simp at h1 h2;subst h1;subst h2
  show bindL kindOf ((p,w)::P.zip vs) m p=_
  unfold bindL
  rw [y8c λv hv=>(List.nodup_cons.mp nd).1 (List.of_mem_zip hv).1,if_pos hk]
  simp
 | p::P,w::vs,i+1,m,nd,h1,h2,hk=>by
  show bindL kindOf ((p,w)::P.zip vs) m x=_
  unfold bindL
  exact y8b (i:=i) (List.nodup_cons.mp nd).2 (by simpa using h1) (by simpa using h2) hk
theorem y89{kindOf:Str->Option NameKind}{x:Str}{v:Value}:∀{P:List Str} {vs:List Value} {i:Nat} {m:Str->Option Value},P.Nodup->P[i]?=some x->vs[i]?=some v->kindOf x≠some .local ->
  bindC kindOf (P.zip vs) m x=some v
 | [],_,_,_,_,h,_,_=>by simp at h
 | _::_,[],_,_,_,_,h,_=>by simp at h
 | p::P,w::vs,0,m,nd,h1,h2,hk=>by
  simp at h1 h2;subst h1;subst h2
  show bindC kindOf ((p,w)::P.zip vs) m p=_
  unfold bindC
  rw [y8a λv hv=>(List.nodup_cons.mp nd).1 (List.of_mem_zip hv).1,if_neg hk]
  simp
 | p::P,w::vs,i+1,m,nd,h1,h2,hk=>by
  show bindC kindOf ((p,w)::P.zip vs) m x=_
  unfold bindC
  exact y89 (i:=i) (List.nodup_cons.mp nd).2 (by simpa using h1) (by simpa using h2) hk
abbrev start(N:List Str)(vs:List V):St:=vs.map some++List.replicate (N.length-vs.length) none
noncomputable def eh(CX:gS)(P:Program)(w:World)(K:W.Frag)(mg:Str->Option Value)(base:Heap)(N:List Str)(qual:Str)(scope:Scope)(f:Addr)(cd:Value)(A:Around)(outer:List Env)(s:Shared)(H:Hp)(E:XK):Cx where
 prog:=P
 w:=w
 K:=K
 mg:=mg
 base:=base
 A:=A.deeper (envOfC qual scope s.heap.objs.size f cd)
 N:=N
 s₀:=s
 H₀:=H
 env:=envOfC qual scope s.heap.objs.size f cd
 outer:=outer
 stack:=envOfC qual scope s.heap.objs.size f cd::outer
 ex:=[]
 calm:=true
 fn:=λ_=>true
 pn:=[]
 xe:=λe s'=>wpAny (model P w) (A.deeper (envOfC qual scope s.heap.objs.size f cd)) (leaving (envOfC qual scope s.heap.objs.size f cd) e) (λ_ s''=>CX outer H s E e s'') (λe' s''=>CX outer H s E e' s'') s'
def yb8{sc:Scope}{n:Nat}{x:Str}(h:sc.names.lookup x=some .cell):∃c,(cellsFrom n sc.names []).lookup x=some c:=by
 have q:=W.cellsFrom_some sc.names n [] (.inl h)
 exact Option.isSome_iff_exists.mp q
def se{CX:gS}{P:Program}{w:World}{K:W.Frag}{mg:Str->Option Value}{base:Heap}{N ps:List Str}{qual:Str}{scope:Scope}{f:Addr}{cd:Value}{A:Around}{outer:List Env}{s s1:Shared}{H:Hp}{E:XK}{us:List Value}{vs:List V}
  (S:y40 N ps scope) (hd:A.handled=none) (e0:y12 P w K mg base A outer s H) (hl:vs.length=ps.length) (r:au vs us)
  (x:InCallC s s.heap.objs.size (bindL (envOfC qual scope s.heap.objs.size f cd).kindOf (ps.zip us) λ_=>none) (cellsFrom (s.heap.objs.size+1) scope.names []) (bindC (envOfC qual scope s.heap.objs.size f cd).kindOf (ps.zip us) λ_=>none) s1) :
  Inv (eh CX P w K mg base N qual scope f cd A outer s H E) [] (start N vs) H s1:=by
 have hpl:ps.length≤N.length:=by have:=congrArg List.length S.pre;rw [z2b] at this;lia
 obtain⟨h1,tk,rfl,hk⟩:=x.done
 have noA:∀b:Addr,b∉(eh CX P w K mg base N qual scope f cd A outer s H E).ex:=λb z=>absurd (show b∈([]:List Addr) from z) (by simp)
 refine⟨⟨e0.mod,S.kind,rfl,rfl,z12 _,λy z c h1 h2=>?_,λy hy=>?_,λy c _ h=>?_,λ_=>hd,Around.frames_deeper e0.frames,.inr ⟨rfl,rfl⟩,λb z=>absurd z (noA b),e0.bs,e0.bsz,λb _ _=>noA b,λb z=>absurd z (noA b),e0.y170,e0.frf⟩,
  rfl,e0.bare,Un.kept hk,⟨_,x.toInCall.ns,λi y v h1 h2 h3=>?_⟩,λy c h=>⟨_,x.cell y c h⟩,e0.hok.fresh (z12 _),λy c h=>?_,λp hp=>absurd (show p∈([]:List (Addr×Obj)) from hp) (by simp),e0.hok.kept hk,?_⟩
 ·exact name_of_addr x.apart (PySem.mem_of_lookup h1) (PySem.mem_of_lookup h2)
 ·have hy:scope.names.lookup y=some .cell∨scope.names.lookup y=some .free:=hy
  rcases hy with hy|hy
  ·exact yb8 hy
  ·exact absurd rfl (S.y294 _ (PySem.mem_of_lookup hy))
 ·exact Nat.le_of_lt (x.above y c (PySem.mem_of_lookup h))
 ·have hi:i<vs.length:=by
   unfold start at h2
   by_cases hi:i<vs.length
   ·exact hi
   ·rw [z23 (by simpa using hi)] at h2
    rw [List.getElem?_replicate] at h2
    split at h2<;>cases h2
  have ha:vs[i]?=some v:=by
   unfold start at h2
   rw [z25 (by simpa using hi),List.getElem?_map] at h2
   cases e:vs[i]? with
   | none=>rw [e] at h2;cases h2
   | some a=>rw [e] at h2;cases h2;rfl
  obtain⟨u,hu,rv⟩:=r.get ha
  have hp:ps[i]?=some y:=by
   rw [<- S.pre,List.getElem?_take_of_lt (by lia)];exact h1
  have ndP:ps.Nodup:=by rw [<- S.pre];exact S.nd.sublist (List.take_sublist _ _)
  refine⟨u,rv,?_⟩
  rcases S.par y (z34 hp) with k|k
  ·exact .inl ⟨k,y8b ndP hp hu k⟩
  ·obtain⟨c,e⟩:=yb8 (n:=s.heap.objs.size+1) k
   refine .inr ⟨.inl k,c,e,?_⟩
   have q:=x.cell y c e
   rw [y89 ndP hp hu (by show scope.names.lookup y≠_;rw [k];decide)] at q
   exact q
 ·exact e0.hok.fresh (Nat.le_of_lt (x.above y c (PySem.mem_of_lookup h)))
 ·unfold start
  show _=N.length
  rw [zc,z11,List.length_replicate]
  lia
def sf{CX:gS}{P:Program}{w:World}{K:W.Frag}{mg:Str->Option Value}{base:Heap}{k:Nat}{f:Addr}{name qual:Str}{params:Arguments}{body:List Stmt}{scope:Scope}{dV kV doc pm cdv ct oc:Value}{an od:Option Addr}
  {osl:Array (Option Value)} {N ps:List Str} {sp:Sp} (lk:K.lookup f=some ⟨oc,od,.func (W.fnOf name qual params body scope dV kV doc pm an cdv ct),osl⟩) (hcd:W.codeIn K cdv qual=true) (S:y40 N ps scope)
  (len:∀vs H Q E,sp vs H Q E->vs.length=ps.length)
  (y1ab:∀(A:Around) (outer:List Env) (s:Shared) (H:Hp) (vs:List V) (Q:VK) (E:XK),y4d k (A.deeper (envOfC qual scope s.heap.objs.size f cdv))->sp vs H Q E ->
   ∃t,dH (eh CX P w K mg base N qual scope f cdv A outer s H E) body t/\t { nx:=λ_ H'=>Q .non H',rt:=Q } (start N vs) H) :
  y3f P w K mg base CX (k+1) f (W.fnOf name qual params body scope dV kV doc pm an cdv ct) ps sp:=by
 refine⟨len,λA outer s H args us vs Q E hr e0 hb r hsp=>?_⟩
 have hl:=len _ _ _ _ hsp
 have KX:K.In s.heap:=e0.mod.kin.keeps λb o e=>(e0.bs b o e).1
 have lim:s.heap.NoLimit:=e0.mod.nolimit.keeps λb o e=>(e0.bs b o e).1
 have y1b5:∀y∈ps.zip us,scope.names.lookup y.1=some .local∨(scope.names.lookup y.1=some .cell/\((cellsFrom (s.heap.objs.size+1) scope.names []).lookup y.1).isSome=true):=λzz hy=>by
  obtain⟨n,v⟩:=zz
  rcases S.par n (List.of_mem_zip hy).1 with q|q
  ·exact .inl q
  ·exact .inr ⟨q,W.cellsFrom_some _ _ _ (.inl q)⟩
 refine codeAny_call_function hr.depth (KX _ _ lk) rfl S.co S.gen rfl (W.codeRec_of KX hcd) (hb _ _ _ _ ?_)
 refine wpAny_newFunctionEnv_cells S.kind y1b5 λenv he s1 x=>?_
 subst he
 refine⟨lim.keeps x.toInCall.keep,codeAny_func ?_⟩
 obtain⟨t,ht,hq⟩:=y1ab A outer s H vs Q E (hr.deeper _) hsp
 have I:Inv (eh CX P w K mg base N qual scope f cdv A outer s H E) [] (start N vs) H s1:=se S hr.hd e0 hl r x
 refine wpAny_mono (ht [] s1 (start N vs) H _ I hq) (λfl s' hs=>?_) λe s' hs=>hs
 have fin:∀{σ':St} {H':Hp} {v:V} {u:Value},Inv (eh CX P w K mg base N qual scope f cdv A outer s H E) [] σ' H' s'->ay v u->Q v H'->CE outer P w H s Q u s' :=
  λ{σ' H' v u} J rv q=>⟨v,H',J.os,J.bare,J.base,J.hok,rv,q⟩
 cases fl with
 | ret u =>
  obtain⟨v,σ',H',J,rv,q⟩:=hs
  exact fin J rv q
 | next =>
  obtain⟨σ',H',J,q⟩:=hs
  exact fin (v:=V.non) (u:=Value.none) J rfl q
 | brk =>
  obtain⟨_,_,_,q⟩:=hs
  exact False.elim q
 | cont =>
  obtain⟨_,_,_,q⟩:=hs
  exact False.elim q
end
section
section
variable {X:Cx}{x:Str}{p pos:Pos}{e:Expr}{es:List Expr}{t:TA}{id T:String}{r:List V->Hp->VK->Prop}
abbrev As(r:List V->Hp->VK->Prop)(t:TA):TE:=λσ H Q=>t σ H λvs H1=>r vs H1 Q
def eX(hc:y6 X (.builtin id) r)(hg:Gl X x)(hm:X.mg x=none)(hv:bootBuiltins x=some (.builtin id))(ha:PA X (e::es) t)(hn:x≠"__name__":=by decide)(hdb:(x == ("__debug__" : Str))=false:=by decide)
  (he:‹fM X e es›) (hpl:‹eW X pos es›):PE X (.Call (.Name x p) (e::es) [] pos) (As r t):=by
 intro pins s σ H Q I h
 refine wpAny_Call_Name_kw (gN I hg hm hv ?_ hn hdb)
 exact PyProof.Rows.callWith_builtin1 (aN (ha pos pins s σ H _ I h) λus s1 ⟨vs,H1,I1,r1,q1⟩=>hc pins s1 σ H1 vs us Q I1 r1 q1) he hpl
def n5(hc:y6 X (.type T) r)(hg:Gl X x)(hm:X.mg x=none)(hv:bootBuiltins x=some (.type T))(ha:PA X (e::es) t)(hn:x≠"__name__":=by decide)(hdb:(x == ("__debug__" : Str))=false:=by decide)
  (he:‹fM X e es›) (hpl:‹eW X pos es›):PE X (.Call (.Name x p) (e::es) [] pos) (As r t):=by
 intro pins s σ H Q I h
 refine wpAny_Call_Name_kw (gN I hg hm hv ?_ hn hdb)
 exact PyProof.Rows.callWith_type1 (aN (ha pos pins s σ H _ I h) λus s1 ⟨vs,H1,I1,r1,q1⟩=>hc pins s1 σ H1 vs us Q I1 r1 q1) he hpl
end
end
section
section
variable {κ:Type}[DecidableEq κ]
abbrev cV(kvs:List (κ×V))(k:κ):Option V:=(kvs.find? λkv=>decide (kv.1=k)).map (·.2)
abbrev b5(kvs:List (κ×V))(k:κ)(v:V):List (κ×V) :=
 if (kvs.any λkv=>decide (kv.1=k))=true then kvs.map (λkv=>if kv.1=k then (kv.1,v) else kv) else kvs++[(k,v)]
def kO{p:κ×V}{r:List (κ×V)}{k:κ}(e:p.1=k):cV (p::r) k=some p.2:=by simp [cV,List.find?_cons,e]
def kP{p:κ×V}{r:List (κ×V)}{k:κ}(e:¬ p.1=k):cV (p::r) k=cV r k:=by simp [cV,List.find?_cons,e]
theorem sh(k:κ):∀kvs:List (κ×V),(kvs.any λkv=>decide (kv.1=k))=(cV kvs k).isSome
 | []=>rfl
 | p::r=>by
  rw [List.any_cons]
  by_cases e:p.1=k
  ·simp only [kO e,decide_eq_true e,Bool.true_or,Option.isSome_some]
  ·rw [kP e,decide_eq_false e,Bool.false_or];exact sh k r
def n8(kvs:List (κ×V))(k:κ)(v:V):(b5 kvs k v).length≤kvs.length+1:=by
 unfold b5
 split
 ·rw [z11];lia
 ·rw [zc,z18,List.length_nil];lia
def ij.y1dd{o:Option V}{u:Option Value}(r:ij o u):o.isSome=u.isSome:=by
 cases o with
 | none=>cases u with
  | none=>rfl
  | some _=>exact (show False from r).elim
 | some _=>cases u with
  | none=>exact (show False from r).elim
  | some _=>rfl
def KV.val{kvs:List (κ×V)}{vs:List (κ×Value)}(r:KV kvs vs)(k:κ):ij (cV kvs k) (valueAt vs k):=by
 unfold KV at r
 induction r with
 | nil=>exact True.intro
 | @cons p q ps qs h t ih =>
  obtain⟨h1,h2⟩:=h
  by_cases e:p.1=k
  ·have e':q.1=k:=h1.symm.trans e
   have b:valueAt (q::qs) k=some q.2:=by simp [valueAt,List.find?_cons,e']
   rw [kO e,b];exact h2
  ·have e':¬ q.1=k:=λz=>e (h1.trans z)
   have b:valueAt (q::qs) k=valueAt qs k:=by simp [valueAt,List.find?_cons,e']
   rw [kP e,b];exact ih
theorem KV.any{kvs:List (κ×V)}{vs:List (κ×Value)}(r:KV kvs vs)(k:κ):(kvs.any λkv=>decide (kv.1=k))=vs.any λkv=>decide (kv.1=k):=by
 unfold KV at r
 induction r with
 | nil=>rfl
 | cons h t ih=>rw [List.any_cons,List.any_cons,ih,h.1]
def KV.repl{kvs:List (κ×V)}{vs:List (κ×Value)}(r:KV kvs vs)(k:κ){y:V}{u:Value}(ry:ay y u) :
  KV (kvs.map λkv=>if kv.1=k then (kv.1,y) else kv) (vs.map λkv=>if kv.1=k then (kv.1,u) else kv):=by
 unfold KV at r ⊢
 induction r with
 | nil=>exact .nil
 | @cons p q ps qs h t ih =>
  rw [z19,z19]
  refine .cons ?_ ih
  obtain⟨h1,h2⟩:=h
  by_cases e:p.1=k
  ·rw [if_pos e,if_pos (h1.symm.trans e)];exact⟨h1,ry⟩
  ·rw [if_neg e,if_neg (λz=>e (h1.trans z))];exact⟨h1,h2⟩
def KV.put{kvs:List (κ×V)}{vs:List (κ×Value)}(r:KV kvs vs)(k:κ){y:V}{u:Value}(ry:ay y u):KV (b5 kvs k y) (stored vs k u):=by
 unfold b5 stored
 rw [r.any k]
 by_cases e:(vs.any λkv=>decide (kv.1=k))=true
 ·rw [if_pos e,if_pos e];exact r.repl k ry
 ·rw [if_neg e,if_neg e];exact Paired.snoc r ⟨rfl,ry⟩
theorem KV.length{kvs:List (κ×V)}{vs:List (κ×Value)}(r:KV kvs vs):kvs.length=vs.length:=Paired.length r
end
def iE{P:Program}{w:World}{k:aR}{u:Value}(r:ay (kV k) u):(cE P w).is k u=true:=by
 cases k with
 | inl i=>obtain⟨t,e⟩:=(show ∃t,u=Value.int i t from r);subst e;exact Be P w i t
 | inr x=>obtain⟨t,e⟩:=(show ∃t,u=Value.str x t from r);subst e;exact Bf P w x t
theorem sj{P:Program}{w:World}:∀{ks:List aR} {us:List Value},au (ks.map kV) us->ItemsAre (cE P w) ks us
 | [],_,r=>by rw [List.map_nil] at r;cases r;exact .nil
 | k::ks,_,r=>by
  rw [z19] at r
  cases r with
  | cons h t=>exact .cons (iE h) (sj t)
noncomputable abbrev KT(H:Hp):List (List aR×V)->List (List aR×Addr×Value)->Prop:=Paired λp q=>p.1=q.1/\H q.2.1=some (.tup (p.1.map kV))/\ay p.2 q.2.2
def KT.val{H:Hp}{kvs:List (List aR×V)}{xs:List (List aR×Addr×Value)}(r:KT H kvs xs)(k:List aR):ij (cV kvs k) ((atKey xs k).map (·.2)):=by
 induction r with
 | nil=>exact True.intro
 | @cons p q ps qs h t ih =>
  obtain⟨h1,_,h2⟩:=h
  by_cases e:p.1=k
  ·have e':q.1=k:=h1.symm.trans e
   have b:atKey (q::qs) k=some q.2:=by simp [atKey,List.find?_cons,e']
   rw [kO e,b];exact h2
  ·have e':¬ q.1=k:=λz=>e (h1.trans z)
   have b:atKey (q::qs) k=atKey qs k:=by simp [atKey,List.find?_cons,e']
   rw [kP e,b];exact ih
def KT.repl{H:Hp}{kvs:List (List aR×V)}{xs:List (List aR×Addr×Value)}(r:KT H kvs xs)(k:List aR){y:V}{u:Value}(ry:ay y u) :
  KT H (kvs.map λkv=>if kv.1=k then (kv.1,y) else kv) (xs.map (putAt k u)):=by
 induction r with
 | nil=>exact .nil
 | @cons p q ps qs h t ih =>
  rw [z19,z19]
  refine .cons ?_ ih
  obtain⟨h1,h2,h3⟩:=h
  unfold putAt
  by_cases e:p.1=k
  ·rw [if_pos e,if_pos (h1.symm.trans e)];exact⟨h1,h2,ry⟩
  ·rw [if_neg e,if_neg (λz=>e (h1.trans z))];exact⟨h1,h2,h3⟩
def KT.put{H:Hp}{kvs:List (List aR×V)}{xs:List (List aR×Addr×Value)}(r:KT H kvs xs)(k:List aR){b:Addr}{y:V}{u:Value}(hb:H b=some (.tup (k.map kV)))(ry:ay y u) :
  KT H (b5 kvs k y) (storedH xs k b u):=by
 have e:(kvs.any λkv=>decide (kv.1=k))=(atKey xs k).isSome:=by
  rw [sh,(r.val k).y1dd,Option.isSome_map]
 unfold b5 storedH
 rw [e]
 by_cases q:(atKey xs k).isSome=true
 ·rw [if_pos q,if_pos q];exact r.repl k ry
 ·rw [if_neg q,if_neg q];exact Paired.snoc r ⟨rfl,hb,ry⟩
def KT.keeps{H H':Hp}{kvs:List (List aR×V)}{xs:List (List aR×Addr×Value)}(r:KT H kvs xs)(ht:∀b ys,H b=some (.tup ys)->H' b=some (.tup ys)):KT H' kvs xs :=
 Paired.mapP r λ_ _ z=>⟨z.1,ht _ _ z.2.1,z.2.2⟩
section
variable {P:Program}{w:World}{H:Hp}{h:Heap}{a:Addr}
def su{u:HO}(ok:cA P w H h)(e:Rd H a u):c6 P w H h a u:=e.ok ok
def iF{kvs:List (aR×V)}(ok:cA P w H h)(e:Rd H a (.dK kvs)):kvs.length≤sizeLine/\(a == sysModules)=false/\∃vs,KV kvs vs/\h.DictOf (cE P w) a vs :=
 show c6 P w H h a (.dK kvs) from su ok e
def sv{kvs:List (aR×V)}(ok:cA P w H h)(e:H a=some (.dK kvs)):kvs.length≤sizeLine/\(a == sysModules)=false/\∃vs,KV kvs vs/\h.DictOf (cE P w) a vs:=iF ok (.inl e)
def jr{ks:List aR}(ok:cA P w H h)(e:H a=some (.tup (ks.map kV))):(tupleKind (cE P w)).is h ks a:=by
 obtain⟨_,its,r,o,h1,h2,_,n,h3⟩:=(show c6 P w H h a (.tup (ks.map kV)) from ok a _ e)
 exact⟨o,its.toArray,n,h1,h2,h3,by simpa using sj r⟩
def ju{kvs:List (List aR×V)}(ok:cA P w H h)(e:Rd H a (.dT kvs)):kvs.length≤sizeLine/\(a == sysModules)=false /\
  ∃xs,KT H kvs xs/\h.DictOfH (tupleKind (cE P w)) a xs:=by
 obtain⟨z,y,xs,r,o,es,ep,h1,h2,h3,h4,h5⟩:=(show c6 P w H h a (.dT kvs) from su ok e)
 refine⟨z,y,xs,r,o,es,ep,h1,h2,h3,h4,λx hx=>?_,h5⟩
 have all:∀{l:List (List aR×V)} {m:List (List aR×Addr×Value)},KT H l m->∀x∈m,(tupleKind (cE P w)).is h x.1 x.2.1:=by
  intro l m q
  induction q with
  | nil=>intro x hx;exact nomatch hx
  | @cons p q ps qs hq t ih =>
   intro x hx
   rcases z1d.mp hx with e|hx
   ·subst e
    exact jr ok (by rw [<- hq.1];exact hq.2.1)
   ·exact ih x hx
 exact all r x hx
def sA{kvs:List (List aR×V)}(ok:cA P w H h)(e:H a=some (.dT kvs)):kvs.length≤sizeLine/\(a == sysModules)=false /\
  ∃xs,KT H kvs xs/\h.DictOfH (tupleKind (cE P w)) a xs:=ju ok (.inl e)
end
abbrev ye(H:Hp)(a:Addr)(y:V)(r:Option V):Prop :=
 (∃kvs k,Rd H a (.dK kvs)/\y=kV k/\r=cV kvs k)∨∃kvs k b,Rd H a (.dT kvs)/\y=.ref b/\H b=some (.tup (k.map kV))/\r=cV kvs k
abbrev yf(H:Hp)(a:Addr)(y v:V)(H':Hp):Prop :=
 (∃kvs k,H a=some (.dK kvs)/\y=kV k/\kvs.length<sizeLine/\H'=upd H a (.dK (b5 kvs k v))) ∨
 ∃kvs k b,H a=some (.dT kvs)/\y=.ref b/\H b=some (.tup (k.map kV))/\kvs.length<sizeLine/\H'=upd H a (.dT (b5 kvs k v))
theorem ye.k{H:Hp}{a:Addr}{kvs:List (aR×V)}{k:aR}(e:H a=some (.dK kvs)):ye H a (kV k) (cV kvs k):=.inl ⟨kvs,k,.inl e,rfl,rfl⟩
def ye.t{H:Hp}{a b:Addr}{kvs:List (List aR×V)}{k:List aR}(e:H a=some (.dT kvs))(eb:H b=some (.tup (k.map kV))):ye H a (.ref b) (cV kvs k):=.inr ⟨kvs,k,b,.inl e,rfl,eb,rfl⟩
theorem yf.k{H:Hp}{a:Addr}{kvs:List (aR×V)}{k:aR}{v:V}(e:H a=some (.dK kvs))(hl:kvs.length<sizeLine):yf H a (kV k) v (upd H a (.dK (b5 kvs k v))):=.inl ⟨kvs,k,e,rfl,hl,rfl⟩
def yf.t{H:Hp}{a b:Addr}{kvs:List (List aR×V)}{k:List aR}{v:V}(e:H a=some (.dT kvs))(eb:H b=some (.tup (k.map kV)))(hl:kvs.length<sizeLine) :
  yf H a (.ref b) v (upd H a (.dT (b5 kvs k v))):=.inr ⟨kvs,k,b,e,rfl,eb,hl,rfl⟩
section
variable {X:Cx}{pins:List (Addr×Obj)}{σ:St}{H:Hp}{s:Shared}{a:Addr}{y v:V}{u r:Value}{o:Option V}{A:Around}{E:Value->Shared->Prop}
def Inv.big(I:Inv X pins σ H s):sysModules<s.heap.objs.size:=by
 have h:mainGlobals<s.heap.objs.size:=(I.mod.glob.keeps I.bk).lt
 exact z35 (by decide) h
def ye1{Q:Value->Shared->Prop}(hu:A.units+1<cLine)(I:Inv X pins σ H s)(g:ye H a y (some v))(ry:ay y u)(h:∀w' s',Inv X pins σ H s'->ay v w'->Q w' s') :
  wpAny (model X.prog X.w) A (getItem (.ref a) u) Q E s:=by
 rcases g with⟨kvs,k,e,ey,l⟩| ⟨kvs,k,b,e,ey,eb,l⟩
 ·subst ey
  obtain⟨z,hd,vs,rel,dd⟩:=iF I.hok e
  obtain⟨w',hw,rw'⟩:=ij.some_of (v:=v) (o:=valueAt vs k) (by rw [l];exact rel.val k)
  exact wpAny_getItem_of (iE ry) dd.mapOf hw (h w' _ (I.tok _) rw')
 ·subst ey
  cases (show u=Value.ref b from ry)
  obtain⟨z,hd,xs,rel,dd⟩:=ju I.hok e
  obtain⟨w',hw,rw'⟩:=ij.some_of (v:=v) (o:=(atKey xs k).map (·.2)) (by rw [l];exact rel.val k)
  obtain⟨p,hp,hp2⟩:=Option.map_eq_some_iff.mp hw
  refine wpAny_getItem_heap (tupleKind_room_in1 hu) (jr I.hok eb) dd hp ?_
  rw [hp2]
  exact h w' _ (I.tok _) rw'
def B2{Q:Value->Shared->Prop}(hu:A.units+1<cLine)(I:Inv X pins σ H s)(g:ye H a y o)(ry:ay y u)(h:∀s',Inv X pins σ H s'->Q (.bool o.isSome) s') :
  wpAny (model X.prog X.w) A (compareOp .In u (.ref a)) Q E s:=by
 rcases g with⟨kvs,k,e,ey,l⟩| ⟨kvs,k,b,e,ey,eb,l⟩
 ·subst ey
  obtain⟨z,hd,vs,rel,dd⟩:=iF I.hok e
  refine wpAny_in_of (iE ry) hd dd.mapOf ?_
  rw [<- (rel.val k).y1dd,<- l]
  exact h _ (I.tok _)
 ·subst ey
  cases (show u=Value.ref b from ry)
  obtain⟨z,hd,xs,rel,dd⟩:=ju I.hok e
  refine wpAny_in_heap (tupleKind_room_in1 hu) (jr I.hok eb) hd dd ?_
  have q:=(rel.val k).y1dd
  rw [Option.isSome_map] at q
  rw [<- q,<- l]
  exact h _ (I.tok _)
def ye2{Q:Value->Shared->Prop}(hu:A.units+1<cLine)(I:Inv X pins σ H s)(g:ye H a y o)(ry:ay y u)(h:∀s',Inv X pins σ H s'->Q (.bool (!o.isSome)) s') :
  wpAny (model X.prog X.w) A (compareOp .NotIn u (.ref a)) Q E s:=by
 rcases g with⟨kvs,k,e,ey,l⟩| ⟨kvs,k,b,e,ey,eb,l⟩
 ·subst ey
  obtain⟨z,hd,vs,rel,dd⟩:=iF I.hok e
  refine wpAny_notIn_of (iE ry) hd dd.mapOf ?_
  rw [<- (rel.val k).y1dd,<- l]
  exact h _ (I.tok _)
 ·subst ey
  cases (show u=Value.ref b from ry)
  obtain⟨z,hd,xs,rel,dd⟩:=ju I.hok e
  refine wpAny_notIn_heap (tupleKind_room_in1 hu) (jr I.hok eb) hd dd ?_
  have q:=(rel.val k).y1dd
  rw [Option.isSome_map] at q
  rw [<- q,<- l]
  exact h _ (I.tok _)
def B3{h':Heap}{t':Nat}{ob:HO}(I:Inv X pins σ H s)(mu:qY (H a))(hs:Heap.SameBut a s.heap h')(he:∃q,h'.get? a=some q)(new:c6 X.prog X.w (upd H a ob) h' a ob) :
  Inv X pins σ (upd H a ob) { s with heap:=h',toks:=t' } :=
 I.write (x:=a) (e:=a) mu (.inl rfl) (λb q hb z=>(hs.2 b hb).trans z) he new
def sC{P:Program}{w:World}{H':Hp}{h':Heap}{kvs:List (aR×V)}{vs:List (aR×Value)}(z:kvs.length≤sizeLine)(hd:(a == sysModules)=false)(rel:KV kvs vs)(dd:h'.DictOf (cE P w) a vs) :
  c6 P w H' h' a (.dK kvs):=⟨z,hd,vs,rel,dd⟩
def ye3{H':Hp}{Q:Unit->Shared->Prop}(hu:A.units+1<cLine)(I:Inv X pins σ H s)(g:yf H a y v H')(ry:ay y u)(rv:ay v r)(h:∀s',Inv X pins σ H' s'->Q () s') :
  wpAny (model X.prog X.w) A (setItem (.ref a) u r) Q E s:=by
 rcases g with⟨kvs,k,e,ey,l,eH⟩| ⟨kvs,k,b,e,ey,eb,l,eH⟩
 ·subst ey eH
  obtain⟨z,hd,vs,rel,dd⟩:=sv I.hok e
  have hz:vs.length≤sizeLine:=by rw [<- rel.length];exact z
  have hl:(b5 kvs k v).length≤sizeLine:=by have:=n8 kvs k v;lia
  refine wpAny_setItem_pairs (hsz:=hz) (iE ry) dd λh' dd' hs=>h _ ?_
  have he:∃q,h'.get? a=some q:=let ⟨q,_,_,hq,_⟩:=dd';⟨q,hq⟩
  exact B3 I (by rw [e];exact True.intro) hs he (sC hl hd (rel.put k rv) dd')
 ·subst ey eH
  cases (show u=Value.ref b from ry)
  obtain⟨z,hd,xs,rel,dd⟩:=sA I.hok e
  have hz:xs.length≤sizeLine:=by rw [<- Paired.length rel];exact z
  have hl:(b5 kvs k v).length≤sizeLine:=by have:=n8 kvs k v;lia
  refine wpAny_setItem_heap (hsz:=hz) (tupleKind_room_in1 hu) (jr I.hok eb) dd λh' dd' hs=>h _ ?_
  obtain⟨q,es,ep,hq,h2,h3,h4,_,h5⟩:=dd'
  refine B3 I (by rw [e];exact True.intro) hs ⟨q,hq⟩ ⟨hl,hd,_,(rel.put k eb rv).keeps λc ys ec=>?_,q,es,ep,hq,h2,h3,h4,h5⟩
  rw [aQ (nC ec e (λz=>nomatch z))]
  exact ec
end
section
variable {X:Cx}{pins:List (Addr×Obj)}{σ:St}{H:Hp}{s:Shared}{a:Addr}{kvs:List (aR×V)}{k:aR}{u:Value}{A:Around}{E:Value->Shared->Prop}
def sD{Q:Value->Shared->Prop}(I:Inv X pins σ H s)(e:Rd H a (.dK kvs))(h:∀t s',Inv X pins σ H s'->Q (.int kvs.length t) s'):wpAny (model X.prog X.w) A (call (.builtin "len") [.ref a]) Q E s:=by
 obtain⟨z,hd,vs,rel,dd⟩:=iF I.hok e
 refine call_len_dict hd dd (by rw [<- rel.length];rw [sizeLine_eq] at z;lia) ?_
 rw [<- rel.length]
 exact h _ _ (I.tok _)
end
abbrev sE(i:Expr):Prop:=∀ov iv,subscripted i false ov iv=operate [ov,iv] (getItem ov iv)
def B4{prog:Program}{w:World}{A:Around}{E:Value->Shared->Prop}{s:Shared}{env:Env}{value slice:Expr}{pos:Pos}{T id:String}{Q:Value->Shared->Prop}
  (hl:typeLookup (.type T) "__getitem__" = pure (some (.builtin id))) (hs:sE slice)
  (h:wpAny (model prog w) A (eval value env) (λo s₁=>wpAny (model prog w) A (eval slice env) (λi s₂=>s₂.TypeIs o T/\wpAny (model prog w) A (getItem o i) Q E s₂) E s₁) E s) :
  wpAny (model prog w) A (eval (.Subscript value slice pos) env) Q E s:=by
 refine Subscript_ (wpAny_mono h (λo s₁ h₁=>wpAny_mono h₁ (λi s₂ h₂=>?_) λ_ _ x=>x) λ_ _ x=>x)
 obtain⟨hT,h₂⟩:=h₂
 unfold subscriptTail
 refine za ?_
 rw [getitemInPython_of_ne hT.not_modules]
 refine za (wpAny_specialOf hT hl ?_)
 have fin:wpAny (model prog w) A (subscripted slice false o i) (λr s₃=>wpAny (model prog w) A (letTemporaryGo value o r >>= λ_=>pure r) Q E s₃) E s₂:=by
  rw [hs o i]
  exact wpAny_operating (wpAny_mono h₂ (λr s₃ h₃=>za (wpAny_letTemporaryGo (ze h₃))) λ_ _ x=>x)
 first
  | exact ze (za fin)
  | exact za (ze (za fin))
  | exact za fin
def B5{X:Cx}{pins:List (Addr×Obj)}{σ:St}{H:Hp}{s:Shared}{a:Addr}{y:V}{o:Option V}(I:Inv X pins σ H s)(g:ye H a y o):s.TypeIs (.ref a) "dict":=by
 rcases g with⟨kvs,k,e,_,_⟩| ⟨kvs,k,b,e,_,_,_⟩
 ·obtain⟨_,_,vs,_,dd⟩:=iF I.hok e
  exact dd.typeIs
 ·obtain⟨_,_,xs,_,dd⟩:=ju I.hok e
  exact dd.typeIs
abbrev sF(td ty:TE):TE:=λσ H Q=>td σ H λx H1=>ty σ H1 λy H2=>∃a v,x=.ref a/\ye H2 a y (some v)/\Q v H2
abbrev B6(ty td:TE):TE:=λσ H Q=>ty σ H λy H1=>td σ H1 λx H2=>∃a o,x=.ref a/\ye H2 a y o/\Q (.bl o.isSome) H2
abbrev B7(ty td:TE):TE:=λσ H Q=>ty σ H λy H1=>td σ H1 λx H2=>∃a o,x=.ref a/\ye H2 a y o/\Q (.bl (!o.isSome)) H2
abbrev sG(td ty tv:TE):TS:=λD σ H=>tv σ H λv H1=>td σ H1 λx H2=>ty σ H2 λy H3=>∃a H4,x=.ref a/\yf H3 a y v H4/\D.nx σ H4
section
variable {X:Cx}{o i e value:Expr}{pos pos' tpos:Pos}{td ty tv:TE}
def B8(hu:X.A.units+1<cLine)(ho:PE X o td)(hi:PE X i ty)(hs:sE i):PE X (.Subscript o i pos) (sF td ty):=by
 intro pins s σ H Q I h
 refine B4 PySem.F.slot_dict_getitem.lookup hs (aN (ho pins s σ H _ I h) λu s1 ⟨x,H1,I1,rx,q1⟩=>aN (hi pins s1 σ H1 _ I1 q1) λiv s2 zz=>?_)
 obtain⟨y,H2,I2,ry,a,v,ex,g,q2⟩:=zz
 subst ex
 obtain rfl:u=Value.ref a:=rx
 exact⟨B5 I2 g,ye1 hu I2 g ry λw' s3 I3 rw'=>⟨v,H2,I3,rw',q2⟩⟩
def sH(hu:X.A.units+1<cLine)(hi:PE X i ty)(ho:PE X o td):PC X .In i o (B6 ty td):=by
 intro pins s σ H Q I h
 refine aN (hi pins s σ H _ I h) λiv s1 ⟨y,H1,I1,ry,q1⟩=>aN (ho pins s1 σ H1 _ I1 q1) λu s2 zz=>?_
 obtain⟨x,H2,I2,rx,a,ov,ex,g,q2⟩:=zz
 subst ex
 obtain rfl:u=Value.ref a:=rx
 exact B2 hu I2 g ry λs3 I3=>⟨.bl ov.isSome,H2,I3,rfl,q2⟩
def B9(hu:X.A.units+1<cLine)(hi:PE X i ty)(ho:PE X o td):PC X .NotIn i o (B7 ty td):=by
 intro pins s σ H Q I h
 refine aN (hi pins s σ H _ I h) λiv s1 ⟨y,H1,I1,ry,q1⟩=>aN (ho pins s1 σ H1 _ I1 q1) λu s2 zz=>?_
 obtain⟨x,H2,I2,rx,a,ov,ex,g,q2⟩:=zz
 subst ex
 obtain rfl:u=Value.ref a:=rx
 exact ye2 hu I2 g ry λs3 I3=>⟨.bl (!ov.isSome),H2,I3,rfl,q2⟩
def Ca(hu:X.A.units+1<cLine)(ho:PE X o td)(hi:PE X i ty)(hv:PE X value tv)(hs:swapsWith value (some (.Subscript o i pos')) pos.line X.env=pure false) :
  PS X (.Assign [.Subscript o i pos'] value pos) (sG td ty tv):=by
 intro pins s σ H D I h
 refine wpAny_Assign_Subscript (aN (hv pins s σ H _ I h) λr s1 ⟨v,H1,I1,rv,q1⟩=>aN (ho pins s1 σ H1 _ I1 q1) λu s2 ⟨x,H2,I2,rx,q2⟩=>aN (hi pins s2 σ H2 _ I2 q2) λiv s3 ⟨y,H3,I3,ry,a,H4,ex,g,q3⟩=>?_) hs
 subst ex
 obtain rfl:u=Value.ref a:=rx
 exact ye3 hu I3 g ry rv λs4 I4=>⟨σ,H4,I4,q3⟩
end
def Cb{P:Program}{w:World}{H:Hp}(h:Heap)(hb:sysModules<h.objs.size):c6 P w H (h.push { cls:=.type "dict",data:=.dict #[] }) h.objs.size (.dK []) :=
 ⟨Nat.zero_le _,beq_eq_false_iff_ne.mpr (Ne.symm (z28 hb)),[],.nil,Heap.DictOf.new h⟩
section
variable {X:Cx}{pos:Pos}
end
abbrev kQ:List (TE×TE)->St->Hp->(List (V×V)->Hp->Prop)->Prop
 | [],_,H,Q=>Q [] H
 | (tk,tv)::r,σ,H,Q=>tk σ H λx H1=>tv σ H1 λy H2=>kQ r σ H2 λps H3=>Q ((x,y)::ps) H3
noncomputable abbrev VV:List (V×V)->List (Value×Value)->Prop:=Paired λp q=>ay p.1 q.1/\ay p.2 q.2
abbrev sI(X:Cx)(pos:Pos)(keys:List (Option Expr))(values:List Expr)(trs:List (TE×TE)):Prop :=
 ∀(pins:List (Addr×Obj)) (s:Shared) (σ:St) (H:Hp) (Q:List (V×V)->Hp->Prop),Inv X pins σ H s->kQ trs σ H Q ->
  wpAny (model X.prog X.w) X.A (evalPairs (pairTrees keys values X.env pos)) (λvs s'=>∃ps H',Inv X pins σ H' s'/\VV ps vs/\Q ps H') X.xe s
def Cc{X:Cx}{pos:Pos}:sI X pos [] [] []:=λpins s σ H Q I h=>pairTrees_nil_walk ⟨[],H,I,.nil,h⟩
def Cd{X:Cx}{pos:Pos}{k v:Expr}{ks:List (Option Expr)}{vs:List Expr}{tk tv:TE}{trs:List (TE×TE)}(hk:PE X k tk)(hv:PE X v tv)(hr:sI X pos ks vs trs) :
  sI X pos (some k::ks) (v::vs) ((tk,tv)::trs):=λpins s σ H Q I h =>
 pairTrees_cons_walk (aN (hk pins s σ H _ I h) λu s1 ⟨x,H1,I1,rx,q1⟩=>aN (hv pins s1 σ H1 _ I1 q1) λw2 s2 ⟨y,H2,I2,ry,q2⟩ =>
  aN (hr pins s2 σ H2 _ I2 q2) λws s3 ⟨ps,H3,I3,rel,q3⟩=>⟨(x,y)::ps,H3,I3,.cons ⟨rx,ry⟩ rel,q3⟩)
abbrev gT(kvs more:List (aR×V)):List (aR×V):=more.foldl (λacc kv=>b5 acc kv.1 kv.2) kvs
def KV.merge:∀{more:List (aR×V)} {rs:List (aR×Value)} {kvs:List (aR×V)} {vs:List (aR×Value)},KV more rs->KV kvs vs->KV (gT kvs more) (merged vs rs):=by
 intro more rs kvs vs r
 unfold KV at r
 induction r generalizing kvs vs with
 | nil=>intro q;exact q
 | @cons p q ps qs h t ih =>
  intro r0
  have e:KV (b5 kvs p.1 p.2) (stored vs q.1 q.2):=by
   have:=r0.put p.1 h.2
   rw [<- h.1];exact this
  exact ih e
theorem sJ:∀(more kvs:List (aR×V)),(gT kvs more).length≤kvs.length+more.length
 | [],kvs=>by show kvs.length≤kvs.length+0;lia
 | p::r,kvs=>by
  have h1:=sJ r (b5 kvs p.1 p.2)
  have h2:=n8 kvs p.1 p.2
  show (gT (b5 kvs p.1 p.2) r).length≤_
  rw [z18];lia
theorem yb0{P:Program}{w:World}:∀{kvs:List (aR×V)} {ws:List (Value×Value)},VV (kvs.map λkv=>(kV kv.1,kv.2)) ws->∃rs,Carries (cE P w) ws rs/\KV kvs rs
 | [],_,r=>by rw [List.map_nil] at r;cases r;exact⟨[],True.intro,.nil⟩
 | p::kvs,_,r=>by
  rw [z19] at r
  cases r with
  | @cons a b as bs h t =>
   obtain⟨rs,c,q⟩:=yb0 (P:=P) (w:=w) t
   obtain⟨b1,b2⟩:=b
   exact⟨(p.1,b2)::rs,⟨iE h.1,rfl,c⟩,.cons ⟨rfl,h.2⟩ q⟩
abbrev sL(trs:List (TE×TE)):TE:=λσ H Q=>∀p,H p=none->kQ trs σ (upd H p (.dK [])) λps H2=>H2 p=some (.dK [])/\∃kvs:List (aR×V),ps=kvs.map (λkv=>(kV kv.1,kv.2))/\kvs.length≤15/\Q (.ref p) (upd H2 p (.dK (gT [] kvs)))
def Ce{X:Cx}{pos:Pos}{keys:List (Option Expr)}{values:List Expr}{trs:List (TE×TE)}(h:sI X pos keys values trs)(y1a6:keys.all (·.isSome)=true)(hl:keys.length=values.length)(h0:keys≠[])
  (h15:keys.length≤15):PE X (.Dict keys values pos) (sL trs):=by
 intro pins s σ H Q I q
 have hn:=I.hok.fresh (z12 s.heap.objs.size)
 have I1:=I.laid (a:=s.heap.objs.size) (o:=.dK []) (h':=s.heap.push { cls:=.type "dict",data:=.dict #[] }) (t':=s.toks) (λ_ _ q=>zd _ q) (z12 _) (Cb s.heap I.big)
 refine wpAny_Dict_walk (knd:=cE X.prog X.w) y1a6 hl h0 h15 (aN (h pins _ σ _ _ I1 (q _ hn)) λws s2 zz=>?_)
 obtain⟨ps,H2,I2,rel,e,kvs,ep,lk,q2⟩:=zz
 subst ep
 obtain⟨rs,c,rk⟩:=yb0 (P:=X.prog) (w:=X.w) rel
 obtain⟨z,hd,vs0,r0,dd⟩:=sv I2.hok e
 cases r0
 refine⟨rs,c,dd,λh' dd' hs=>⟨.ref s.heap.objs.size,_,?_,rfl,q2⟩⟩
 have hz:(gT [] kvs).length≤sizeLine:=by
  have h1:=sJ kvs []
  rw [List.length_nil] at h1
  rw [sizeLine_eq];lia
 have he:∃q,h'.get? s.heap.objs.size=some q:=let ⟨q,_,_,hq,_⟩:=dd';⟨q,hq⟩
 exact B3 I2 (by rw [e];exact True.intro) hs he (sC hz hd (rk.merge .nil) dd')
structure M1(X:Cx)(o:Expr)(m:Str)(apos:Pos)(e:Expr)(yd2:Pos):Prop where
 base:attributeBase o m X.env (eval o X.env)=eval o X.env
 few:((backTo yd2 (starEach [e] X.env)).all (λx=>!x.1)&&(backToKw yd2 (keywordEach [] X.env)).all (λx=>x.1.isSome)
  && decide (([e]:List Expr).length+([]:List Keyword).length+(if ([]:List Keyword).isEmpty then 0 else 1)<30))=true
 line:(apos.endLine == yd2.line)=true
 trees:backTo yd2 (starEach [e] X.env)=[(false,eval e X.env)]
structure M2(X:Cx)(o:Expr)(m:Str)(apos:Pos)(e f:Expr)(yd2:Pos):Prop where
 base:attributeBase o m X.env (eval o X.env)=eval o X.env
 few:((backTo yd2 (starEach [e,f] X.env)).all (λx=>!x.1)&&(backToKw yd2 (keywordEach [] X.env)).all (λx=>x.1.isSome)
  && decide (([e,f]:List Expr).length+([]:List Keyword).length+(if ([]:List Keyword).isEmpty then 0 else 1)<30))=true
 line:(apos.endLine == yd2.line)=true
 trees:backTo yd2 (starEach [e,f] X.env)=[(false,eval e X.env),(false,eval f X.env)]
section
variable {X:Cx}{pins:List (Addr×Obj)}{σ:St}{H:Hp}{s:Shared}{a:Addr}{y d:V}{u r:Value}{o:Option V}{A:Around}{E:Value->Shared->Prop}
end
section
variable {X:Cx}{o e f:Expr}{apos yd2:Pos}{td ty tx:TE}
end
section
variable {X:Cx}{pins:List (Addr×Obj)}{σ:St}{H:Hp}{s:Shared}{a:Addr}{kvs:List (aR×V)}{A:Around}{E:Value->Shared->Prop}
end
section
variable {X:Cx}{pins:List (Addr×Obj)}{σ:St}{H:Hp}{s:Shared}{a:Addr}{y:V}{u:Value}{A:Around}{E:Value->Shared->Prop}
end
end
end L2
namespace HT
open PySem PyProof.Rows
section
open PySem.SeqAt
open PySem.AutoSeq1 (wpAny_loadPart')
open PySem.MeetsSeq PySem.MeetsSeq2 PySem.MeetsSeq3
end
section
variable {prog:Program}{w:World}{A:Around}{E:Value->Shared->Prop}{s:Shared}
def yb6{t b:Addr}{vs ws:List Value}{Q:Value->Shared->Prop}(ht:IsTup s.heap t vs.toArray)(hb:IsTup s.heap b ws.toArray)(hv:vs≠[])
  (h1:ws=[]->Q (.ref t) s) (h2:ws≠[]->Q (.ref s.heap.objs.size) { s with heap:=s.heap.push { cls:=.type "tuple",data:=.seq (vs++ws).toArray } })
  (hsz:vs.length+ws.length≤sizeLine):wpAny (model prog w) A (binaryOp .Add (.ref t) (.ref b)) Q E s:=by
 obtain⟨⟨cls,dd,data,sl⟩,ho,hc,n,hd⟩:=id ht
 obtain⟨⟨cls2,dd2,data2,sl2⟩,ho2,hc2,n2,hd2⟩:=id hb
 simp only at hc hd hc2 hd2
 subst hc hd hc2 hd2
 have e:vs.toArray++ws.toArray=(vs++ws).toArray:=by simp
 by_cases hw:ws=[]
 ·exact concat_meets ⟨_,ho,rfl⟩ ⟨_,ho2,rfl⟩ noFill_tuple_add seq_tuple_add PySem.F.slot_tuple_add PySem.F.entry_tuple_add (PySem.F.args_tuple_add_2 _ _)
   (tuple_addW1 t b vs.toArray ws.toArray n n2 dd dd2 sl sl2 (by simpa using hv) (by simp [hw])) ⟨ho,ho2,h1 hw⟩
 ·refine concat_meets ⟨_,ho,rfl⟩ ⟨_,ho2,rfl⟩ noFill_tuple_add seq_tuple_add PySem.F.slot_tuple_add PySem.F.entry_tuple_add (PySem.F.args_tuple_add_2 _ _)
   (tuple_addW2 t b vs.toArray ws.toArray n n2 dd dd2 sl sl2 (by simpa using hv) (by simpa using hw) (by rw [zf,zf];exact hsz)) ⟨ho,ho2,?_⟩
  rw [e]
  exact h2 hw
abbrev sIx(n d:Nat):Option Int->Nat
 | none=>d
 | some v=>if v<0 then (v+(n:Int)).toNat else min v.toNat n
def y3eb(n d:Nat):sIx n d none=d:=rfl
def y3ea(n d k:Nat):sIx n d (some (k:Int))=min k n:=by
 show (if (k:Int)<0 then ((k:Int)+(n:Int)).toNat else min (k:Int).toNat n)=min k n
 rw [if_neg (by lia),Int.toNat_natCast]
def Cf(n d:Nat)(hd:d≤n)(o:Option Int):sIx n d o≤n:=by
 cases o with
 | none=>exact hd
 | some v =>
  show (if v<0 then (v+(n:Int)).toNat else min v.toNat n)≤n
  by_cases hv:v<0
  ·rw [if_pos hv];lia
  ·rw [if_neg hv];exact Nat.min_le_right _ _
def yba(v:Int)(n d:Nat):(if v<0 then max (v+(n:Int)) 0 else min v (n:Int))=((sIx n d (some v):Nat):Int):=by
 show (if v<0 then max (v+(n:Int)) 0 else min v (n:Int))=(((if v<0 then (v+(n:Int)).toNat else min v.toNat n):Nat):Int)
 by_cases hv:v<0
 ·simp only [if_pos hv];lia
 ·simp only [if_neg hv];lia
def y5f(lo hi:Option Int)(n:Nat):Builtin.Slice.sliceAdjust lo hi 1 (n:Int)=(((sIx n 0 lo:Nat):Int),((sIx n n hi:Nat):Int)):=by
 have h1:¬ ((1:Int)<0):=by lia
 unfold Builtin.Slice.sliceAdjust
 simp only [h1,if_false]
 refine Prod.ext ?_ ?_
 ·cases lo with
  | none=>rfl
  | some v=>exact yba v n 0
 ·cases hi with
  | none=>rfl
  | some v=>exact yba v n n
def Cg(i j:Nat):Builtin.Slice.slicePlaces (i:Int) (j:Int) 1=j-i:=by
 unfold Builtin.Slice.slicePlaces
 have h1:(1:Int)>0:=by lia
 simp only [h1,if_true,Int.ediv_one]
 split<;>lia
def sM{v:Value}{o:Option Int}{Q:Option Int->Shared->Prop}(p:IsPart v o)(h:Q o s):wpAny (model prog w) A (Builtin.Slice.slicePartIndex v) Q E s:=by
 cases p with
 | none=>exact slicePart_none h
 | int i t=>exact slicePart_int h
def sN{sl:Addr}{vl vu:Value}{lo hi:Option Int}{n:Nat}{Q:Int×Int×Nat->Shared->Prop}(hs:s.heap.IsSliceOf sl vl vu .none)(pl:IsPart vl lo)(pu:IsPart vu hi)
  (h:Q (((sIx n 0 lo:Nat):Int),1,sIx n n hi-sIx n 0 lo) s):wpAny (model prog w) A (Builtin.Slice.sliceApplied (.ref sl) (pure (n:Int))) Q E s:=by
 obtain⟨os,hos,hcs,hds⟩:=id hs
 unfold Builtin.Slice.sliceApplied Builtin.Slice.sliceFields
 refine za (za (wpAny_field hos hds (x:=vl) rfl (za (wpAny_field hos hds (x:=vu) rfl (za (wpAny_field hos hds (x:=.none) rfl (ze ?_)))))))
 refine za (slicePart_none ?_)
 show wpAny _ _ (if ((1:Int) == 0)=true then _ else _) _ _ s
 rw [if_neg (by decide)]
 refine za (sM pl (za (sM pu (za (ze ?_)))))
 show wpAny _ _ (match Builtin.Slice.sliceAdjust lo hi 1 (n:Int) with|(lo,hi)=>pure (lo,(1:Int),Builtin.Slice.slicePlaces lo hi 1)) _ _ s
 rw [y5f lo hi n]
 show wpAny _ _ (pure (((sIx n 0 lo:Nat):Int),(1:Int),Builtin.Slice.slicePlaces ((sIx n 0 lo:Nat):Int) ((sIx n n hi:Nat):Int) 1)) _ _ s
 rw [Cg]
 exact ze h
def Ci(xs:Array Value)(i k:Nat):((List.range k).filterMap λ(m:Nat)=>xs[((i:Int)+(m:Int)*1).toNat]?).toArray=((xs.toList.drop i).take k).toArray:=by
 have e:(λ(m:Nat)=>xs[((i:Int)+(m:Int)*1).toNat]?)=λm=>xs[i+m]?:=by
  funext m
  have:((i:Int)+(m:Int)*1).toNat=i+m:=by lia
  rw [this]
 rw [e]
 have:=pick_run xs i k
 rw [List.filterMap_map] at this
 have e2:((λx=>xs[x]?) ∘ λx=>i+x)=λm=>xs[i+m]?:=rfl
 rw [e2] at this
 rw [this]
def y175{t sl:Addr}{items:Array Value}{vl vu:Value}{lo hi:Option Int}{Q:Value->Shared->Prop}(ht:IsTup s.heap t items)(hs:s.heap.IsSliceOf sl vl vu .none)(pl:IsPart vl lo)(pu:IsPart vu hi)
  (hw:¬ (sIx items.size 0 lo=0/\sIx items.size items.size hi=items.size))
  (h:Q (.ref s.heap.objs.size) { s with heap:=s.heap.push { cls:=.type "tuple",data:=.seq ((items.toList.drop (sIx items.size 0 lo)).take (sIx items.size items.size hi-sIx items.size 0 lo)).toArray } })
  (hsz:items.size≤sizeLine):wpAny (model prog w) A (getItem (.ref t) (.ref sl)) Q E s:=by
 have y1bb:sizeOk (.seq ((items.toList.drop (sIx items.size 0 lo)).take (sIx items.size items.size hi-sIx items.size 0 lo)).toArray):=by
  show ((items.toList.drop (sIx items.size 0 lo)).take (sIx items.size items.size hi-sIx items.size 0 lo)).toArray.size≤sizeLine
  rw [zf,z2b,z2d,Array.length_toList]
  lia
 have hj:sIx items.size items.size hi≤items.size:=Cf _ _ (z12 _) hi
 obtain⟨os,hos,hcs,hds⟩:=id hs
 have hTs:s.TypeIs (.ref sl) "slice":=⟨os,hos,hcs⟩
 unfold getItem
 try with_reducible refine wpAny_holding ?_
 first|refine za (ze ?_)|skip
 refine za (wpAny_sequenceKey ht.typeIs (by decide) ?_)
 refine za (wpAny_callSpecial?_slot (name:=Str.ofString "__getitem__") ht.typeIs PyProof.Rows.slot_tuple_getitem
  (wpAny_call_entry PyProof.Rows.slot_tuple_getitem ht.typeIs entry_tuple_getitem ?_ (args_tuple_getitem _ _)))
 show wpAny _ _ (Builtin.Tuple.tupleItemsOf (.ref t) >>= _) _ _ s
 refine za (tupleItemsOf_ ht ?_)
 refine za (wpAny_typeOf hTs ?_)
 rw [if_pos (by decide)]
 refine za (sN hs pl pu ?_)
 have hno:¬ ((((sIx items.size 0 lo:Nat):Int) == 0&&(1:Int) == 1&&(sIx items.size items.size hi-sIx items.size 0 lo) == items.size)=true):=by
  intro q
  rw [z1b,z1b] at q
  have q1:((sIx items.size 0 lo:Nat):Int)=0:=eq_of_beq q.1.1
  have q2:sIx items.size items.size hi-sIx items.size 0 lo=items.size:=eq_of_beq q.2
  exact hw ⟨by lia,by lia⟩
 show wpAny _ _ (if (((sIx items.size 0 lo:Nat):Int) == 0&&(1:Int) == 1&&(sIx items.size items.size hi-sIx items.size 0 lo) == items.size)=true then _ else _) _ _ s
 rw [if_neg hno,Ci]
 first
  | exact za (m:=Builtin.Tuple.tupleExact _) (z2a (ze ⟨_,rfl,ze h⟩) y1bb)
  | exact za (m:=Builtin.Tuple.tupleExact _) (z2a (za (ze (ze ⟨_,rfl,ze h⟩))) y1bb)
  | exact za (za (m:=Builtin.Tuple.tupleExact _) (z2a (ze (ze ⟨_,rfl,ze h⟩)) y1bb))
  | exact za (za (m:=Builtin.Tuple.tupleExact _) (z2a (ze ⟨_,rfl,ze h⟩) y1bb))
end
end HT
namespace L2
open PySem PySem.Spec PyProof.Rows
section
noncomputable abbrev TO:=St->Hp->(Option Int->Hp->Prop)->Prop
abbrev PO(X:Cx)(e:Option Expr)(t:TO):Prop :=
 ∀(pins:List (Addr×Obj)) (s:Shared) (σ:St) (H:Hp) (Q:Option Int->Hp->Prop),Inv X pins σ H s->t σ H Q ->
  wpAny (model X.prog X.w) X.A (evalPart e X.env) (λu s'=>∃o H',Inv X pins σ H' s'/\IsPart u o/\Q o H') X.xe s
abbrev n9:TO:=λ_ H Q=>Q none H
abbrev sO(t:TE):TO:=λσ H Q=>t σ H λx H1=>∃i,x=.int i/\Q (some i) H1
section
variable {X:Cx}{e:Expr}{te:TE}{lo hi:Option Expr}{tl th:TO}{pos p2:Pos}
def oa:PO X none n9:=by
 intro pins s σ H Q I h
 rw [evalPart_none]
 exact ze ⟨none,H,I,.none,h⟩
def sP(h:PE X e te):PO X (some e) (sO te):=by
 intro pins s σ H Q I hw
 rw [evalPart_some]
 refine aN (h pins s σ H _ I hw) λu s1 zz=>?_
 obtain⟨x,H1,I1,r1,q1⟩:=zz
 obtain⟨i,rfl,q⟩:=q1
 obtain⟨t,rfl⟩:=r1
 exact⟨some i,H1,I1,.int i t,q⟩
abbrev kR(X:Cx)(r:V->Option Int->Option Int->Hp->VK->Prop):Prop :=
 ∀(pins:List (Addr×Obj)) (s:Shared) (σ:St) (H:Hp) (x:V) (v vl vu:Value) (lo hi:Option Int) (sl:Addr) (Q:VK),Inv X pins σ H s->ay x v->s.heap.IsSliceOf sl vl vu .none->IsPart vl lo->IsPart vu hi->r x lo hi H Q ->
  ∃T id,typeLookup (.type T) "__getitem__" = pure (some (.builtin id))/\s.TypeIs v T/\wpAny (model X.prog X.w) X.A (getItem v (.ref sl)) (EP X pins σ Q) X.xe s
def kR.or{r r':V->Option Int->Option Int->Hp->VK->Prop}(h:kR X r)(h':kR X r'):kR X (λx lo hi H Q=>r x lo hi H Q∨r' x lo hi H Q):=by
 intro pins s σ H x v vl vu lo hi sl Q I rx hs pl pu q
 rcases q with q|q
 ·exact h pins s σ H x v vl vu lo hi sl Q I rx hs pl pu q
 ·exact h' pins s σ H x v vl vu lo hi sl Q I rx hs pl pu q
abbrev tSl(r:V->Option Int->Option Int->Hp->VK->Prop)(te:TE)(tl th:TO):TE:=λσ H Q=>te σ H λx H1=>tl σ H1 λl H2=>th σ H2 λu H3=>r x l u H3 Q
def Cj{r:V->Option Int->Option Int->Hp->VK->Prop}(hr:kR X r)(he:PE X e te)(hl:PO X lo tl)(hu:PO X hi th):PE X (.Subscript e (.Slice lo hi none p2) pos) (tSl r te tl th):=by
 intro pins s σ H Q I h
 refine Subscript_ (aN (he pins s σ H _ I h) λv s1 zz=>?_)
 obtain⟨x,H1,I1,r1,q1⟩:=zz
 refine wpAny_Slice (aN (hl pins s1 σ H1 _ I1 q1) λvl s2 ⟨l,H2,I2,pl,q2⟩=>aN (hu pins s2 σ H2 _ I2 q2) λvu s3 zz=>?_)
 obtain⟨u,H3,I3,pu,q3⟩:=zz
 rw [evalPart_none]
 refine ze ?_
 have I4:Inv X pins σ H3 { s3 with heap:=s3.heap.push { cls:=.type "slice",data:=.fields #[vl,vu,.none] } }:=I3.kept (t':=s3.toks) λb ob q=>zd _ q
 obtain⟨T,id,hT,ht,hg⟩:=hr pins { s3 with heap:=s3.heap.push { cls:=.type "slice",data:=.fields #[vl,vu,.none] } } σ H3 x v vl vu l u s3.heap.objs.size Q I4 r1 (Heap.IsSliceOf.new ..) pl pu q3
 show wpAny (model X.prog X.w) X.A (subscriptTail e (.Slice lo hi none p2) v (.ref s3.heap.objs.size)) (EP X pins σ Q) X.xe { s3 with heap:=s3.heap.push { cls:=.type "slice",data:=.fields #[vl,vu,.none] } }
 exact tail_any (ops:=[.ref s3.heap.objs.size,v]) ht hT hg (by with_unfolding_all rfl)
abbrev jv(xs:List V)(lo hi:Option Int):List V:=(xs.drop (HT.sIx xs.length 0 lo)).take (HT.sIx xs.length xs.length hi-HT.sIx xs.length 0 lo)
def yd5(xs:List V)(lo hi:Option Int):(jv xs lo hi).length≤xs.length:=by
 unfold jv
 rw [z2b,z2d]
 lia
abbrev Ck(K:W.Frag):V->Option Int->Option Int->Hp->VK->Prop:=λx lo hi H Q=>∃a xs,x=.ref a/\ba K H a xs /\
 ¬ (HT.sIx xs.length 0 lo=0/\HT.sIx xs.length xs.length hi=xs.length)/\∀p,H p=none->Q (.ref p) (upd H p (.tup (jv xs lo hi)))
def Cm:kR X (Ck X.K):=by
 intro pins s σ H x v vl vu lo hi sl Q I rx hs pl pu h
 obtain⟨a,xs,rfl,hx,hw,q⟩:=h
 cases rx
 obtain⟨its,r,ht,hz⟩:=I.tuple hx
 have hlen:its.toArray.size=xs.length:=by rw [zf];exact r.length.symm
 refine⟨"tuple",_,PyProof.Rows.slot_tuple_getitem.lookup,ht.typeIs,?_⟩
 refine HT.y175 ht hs pl pu (by rw [hlen];exact hw) ?_ (by rw [hlen];exact hz)
 rw [hlen]
 refine⟨.ref s.heap.objs.size,_,I.laid (t':=s.toks) (o:=.tup (jv xs lo hi)) (λb ob q=>zd _ q) (z12 _) ?_,rfl,q _ (I.hok.fresh (z12 _))⟩
 exact⟨z1c (yd5 xs lo hi) hz,_,(r.drop (HT.sIx xs.length 0 lo)).take (HT.sIx xs.length xs.length hi-HT.sIx xs.length 0 lo),kD.mk' _ _⟩
abbrev sQ(K:W.Frag):R2:=λx y H Q=>∃a b xs ys,x=.ref a/\y=.ref b/\ba K H a xs/\ba K H b ys/\xs≠[]/\xs.length+ys.length≤sizeLine /\
 (ys=[]->Q (.ref a) H)/\(ys≠[]->∀p,H p=none->Q (.ref p) (upd H p (.tup (xs++ys))))
def au.y28a{xs:List V}{us:List Value}(r:au xs us):us=[]↔xs=[]:=by
 cases r with
 | nil=>simp
 | cons _ _=>simp
def Cn:bT X (binaryOp .Add) (sQ X.K):=by
 intro pins s σ H x y v u Q I rx ry h
 obtain⟨a,b,xs,ys,rfl,rfl,ha,hb,hx,hz,q1,q2⟩:=h
 cases rx
 cases ry
 obtain⟨its,r1,p1,_⟩:=I.tuple ha
 obtain⟨y1e9,r2,p2,_⟩:=I.tuple hb
 refine HT.yb6 p1 p2 (λz=>hx (r1.y28a.mp z)) (λz=>⟨.ref a,H,I,rfl,q1 (r2.y28a.mp z)⟩) (λz=>?_) (by rw [<- r1.length,<- r2.length];exact hz)
 refine⟨.ref s.heap.objs.size,_,I.laid (t':=s.toks) (o:=.tup (xs++ys)) (λb ob q=>zd _ q) (z12 _) ?_,rfl,q2 (λw=>z (r2.y28a.mpr w)) _ (I.hok.fresh (z12 _))⟩
 exact⟨by rw [zc];exact hz,_,r1.append r2,kD.mk' _ _⟩
end
end
section
abbrev ei(n:Nat)(i:Int):Option Nat:=if 0≤i then (if i<n then some i.toNat else none) else if -(n:Int)≤i then some (i+n).toNat else none
abbrev cB{α:Type}(xs:List α)(i:Int):Option α:=(ei xs.length i).bind λj=>xs[j]?
def sR{n:Nat}{i:Int}{j:Nat}(h:ei n i=some j):seqIndex? i n=some j/\j<n/\-(n:Int)≤i/\i<n:=by
 unfold ei at h
 by_cases h0:0≤i
 ·rw [if_pos h0] at h
  by_cases h1:i<n
  ·rw [if_pos h1] at h
   have e:i.toNat=j:=z20 h
   exact⟨by rw [seqIndex_of h0 h1,e],by lia,by lia,h1⟩
  ·rw [if_neg h1] at h;cases h
 ·rw [if_neg h0] at h
  by_cases h1:-(n:Int)≤i
  ·rw [if_pos h1] at h
   have e:(i+n).toNat=j:=z20 h
   exact⟨by rw [seqIndex_neg (by lia) h1,e],by lia,h1,by lia⟩
  ·rw [if_neg h1] at h;cases h
def Co{α:Type}{xs:List α}{i:Int}{v:α}(h:cB xs i=some v):∃j,seqIndex? i xs.length=some j/\xs[j]?=some v/\j<xs.length/\-(xs.length:Int)≤i/\i<xs.length:=by
 unfold cB at h
 cases e:ei xs.length i with
 | none=>rw [e] at h;cases h
 | some j =>
  rw [e] at h
  obtain⟨h1,h2,h3,h4⟩:=sR e
  exact⟨j,h1,h,h2,h3,h4⟩
def jb{α:Type}{xs:List α}{j:Nat}{v:α}(h:xs[j]?=some v):cB xs (j:Int)=some v:=by
 have hj:j<xs.length:=(z1a.mp h).1
 have e:ei xs.length (j:Int)=some j:=by
  unfold ei
  rw [if_pos (by lia),if_pos (by lia)];simp
 unfold cB;rw [e];exact h
abbrev ik(b:Expr):Prop:=∀o i,subscripted b false o i=operate [o,i] (getItem o i)
abbrev kS(X:Cx)(r:R2):Prop :=
 ∀(value slice:Expr) (pins:List (Addr×Obj)) (s:Shared) (σ:St) (H:Hp) (x y:V) (v u:Value) (Q:VK),Inv X pins σ H s->ay x v->ay y u->r x y H Q ->
  subscripted slice false v u=operate [v,u] (getItem v u)->wpAny (model X.prog X.w) X.A (subscriptTail value slice v u) (EP X pins σ Q) X.xe s
abbrev sS(X:Cx)(id:String)(r:V->List V->Hp->VK->Prop):Prop :=
 ∀(pins:List (Addr×Obj)) (s:Shared) (σ:St) (H:Hp) (x:V) (xs:List V) (v:Value) (us:List Value) (Q:VK),Inv X pins σ H s->ay x v->au xs us->r x xs H Q ->
  wpAny (model X.prog X.w) X.A (call (.builtin id) (v::us)) (EP X pins σ Q) X.xe s
section
variable {X:Cx}{a b:Expr}{ta tb:TE}{pos:Pos}
def kS.or{r r':R2}(h:kS X r)(h':kS X r'):kS X (λx y H Q=>r x y H Q∨r' x y H Q):=by
 intro value slice pins s σ H x y v u Q I rx ry q hs
 rcases q with q|q
 ·exact h value slice pins s σ H x y v u Q I rx ry q hs
 ·exact h' value slice pins s σ H x y v u Q I rx ry q hs
def og{r:R2}(hr:kS X r)(ha:PE X a ta)(hb:PE X b tb)(hs:ik b):PE X (.Subscript a b pos) (kj r ta tb):=by
 intro pins s σ H Q I h
 exact Subscript_ (nR ha hb I h λv u s2 x y H2 I2 rx ry q=>hr a b pins s2 σ H2 x y v u Q I2 rx ry q (hs _ _))
abbrev sT(K:W.Frag):R2:=λx y H Q=>∃p xs i v,x=.ref p/\y=.int i/\bu K H p xs/\cB xs i=some v/\Q v H
abbrev sU(K:W.Frag):R2:=λx y H Q=>∃p xs i v,x=.ref p/\y=.int i/\ba K H p xs/\cB xs i=some v/\Q v H
abbrev sV:R2:=λx y H Q=>∃z i c,x=.str z/\y=.int i/\z.length≤sizeLine/\cB z.cps.toList i=some c/\Q (.str ⟨#[c]⟩) H
def Cp:kS X (sT X.K):=by
 intro value slice pins s σ H x y v u Q I rx ry h hs
 obtain⟨p,xs,i,z,rfl,rfl,hq,he,q⟩:=h
 cases rx
 obtain⟨t,rfl⟩:=ry
 obtain⟨its,r,pl,hz⟩:=I.list hq
 obtain⟨j,h1,h2,h3,h4,h5⟩:=Co he
 obtain⟨w,ew,rw'⟩:=r.get h2
 have hl:=r.length
 have hn:=gQ
 have fin:EP X pins σ Q w s:=⟨z,H,I,rw',q⟩
 by_cases h0:0≤i
 ·have hj:i.toNat=j:=by
   rw [seqIndex_of h0 h5] at h1
   exact z20 h1
  exact item_listR pl.isList h0 (by lia) (by rw [hj];simpa using ew) fin hs
 ·have hj:(i+(its.toArray.size:Int)).toNat=j:=by
   rw [seqIndex_neg (by lia) h4] at h1
   rw [zf,<- hl]
   exact z20 h1
  exact subscriptTail_builtinR (x:=w) pl.isList.typeIs slot_list_getitem.lookup
   (wpAny_getItem_list_neg (Q:=λr s'=>r=w/\EP X pins σ Q r s') pl.isList (by lia) (by rw [zf]<;>lia) (by lia) (by rw [hj];simpa using ew) ⟨rfl,fin⟩) hs
def Cq:kS X (sU X.K):=by
 intro value slice pins s σ H x y v u Q I rx ry h hs
 obtain⟨p,xs,i,z,rfl,rfl,hq,he,q⟩:=h
 cases rx
 obtain⟨t,rfl⟩:=ry
 obtain⟨its,r,pl,hz⟩:=I.tuple hq
 obtain⟨j,h1,h2,h3,h4,h5⟩:=Co he
 obtain⟨w,ew,rw'⟩:=r.get h2
 have hl:=r.length
 have hn:=gQ
 have fin:EP X pins σ Q w s:=⟨z,H,I,rw',q⟩
 exact subscriptTail_builtinR (x:=w) pl.typeIs slot_tuple_getitem.lookup
  (getItem_tuple (j:=j) (Q:=λr s'=>r=w/\EP X pins σ Q r s') pl (by lia) (by lia) (by rw [zf,<- hl];exact h1) (by simpa using ew) ⟨rfl,fin⟩) hs
def Cr:kS X sV:=by
 intro value slice pins s σ H x y v u Q I rx ry h hs
 obtain⟨z,i,c,rfl,rfl,hz,he,q⟩:=h
 obtain⟨t,rfl⟩:=rx
 obtain⟨t',rfl⟩:=ry
 obtain⟨j,h1,h2,h3,h4,h5⟩:=Co he
 have hl:z.cps.toList.length=z.length:=by simp [Str.length]
 rw [hl] at h1 h4 h5
 have hn:=gQ
 exact tail_any (typeIs_str s z t) slot_str_getitem.lookup (getItem_str (c:=c) (by
  have e1:decide (i < -(2 ^ 63:Int))=false:=decide_eq_false (by lia)
  have e2:decide (i ≥ 2 ^ 63)=false:=decide_eq_false (by lia)
  rw [e1,e2,Bool.or_false]) (by rw [h1];simpa using h2) ⟨.str ⟨#[c]⟩,H,I.tok _,⟨_,rfl⟩,q⟩) hs
abbrev sW(K:W.Frag):R2:=λx y H Q=>sT K x y H Q∨sU K x y H Q∨sV x y H Q
def oh:kS X (sW X.K):=Cp.or (Cq.or Cr)
def Cs(its:List Value)(n j:Nat)(u:Value):Obj.mapSeq (·.setIfInBounds j u) { cls:=.type "list",data:=.seq its.toArray n }={ cls:=.type "list",data:=.seq (its.set j u).toArray n }:=by
 simp [Obj.mapSeq]
theorem Inv.lst{pins:List (Addr×Obj)}{σ:St}{H:Hp}{s:Shared}{p:Addr}{xs:List V}(I:Inv X pins σ H s)(h:H p=some (.lst xs)) :
  ∃(its:List Value) (n:Nat),au xs its/\s.heap.get? p=some { cls:=.type "list",data:=.seq its.toArray n }/\xs.length≤sizeLine:=by
 obtain⟨z,its,n,r,e⟩:=I.hok p _ h
 exact⟨its,n,r,e,z⟩
def Inv.y24f{pins:List (Addr×Obj)}{σ:St}{H:Hp}{s:Shared}{p:Addr}{xs ys:List V}{its its':List Value}{n n':Nat}{f:Obj->Obj}(I:Inv X pins σ H s)(h:H p=some (.lst xs))
  (ho:s.heap.get? p=some { cls:=.type "list",data:=.seq its.toArray n }) (hf:f { cls:=.type "list",data:=.seq its.toArray n }={ cls:=.type "list",data:=.seq its'.toArray n' }) (r:au ys its') (hz:ys.length≤sizeLine) (t:Nat) :
  Inv X pins σ (upd H p (.lst ys)) { s with heap:=s.heap.update p f,toks:=t }:=by
 have e:(s.heap.update p f).get? p=some { cls:=.type "list",data:=.seq its'.toArray n' }:=by
  rw [Heap.get?_update_self f ho (by rw [hf]<;>rfl),hf]
 refine I.write (x:=p) (e:=p) (by rw [h];trivial) (.inl rfl) (λb u hb q=>(Heap.get?_update_other _ _ (Ne.symm hb)).trans q) ⟨_,e⟩ ?_
 exact⟨hz,its',n',r,e⟩
abbrev kT:V->V->V->Hp->(Hp->Prop)->Prop:=λo i v H Q=>∃p xs k j,o=.ref p/\i=.int k/\H p=some (.lst xs)/\ei xs.length k=some j/\Q (upd H p (.lst (xs.set j v)))
def dM:rE X kT:=by
 intro pins s σ H o i v ov iv u Q I ro ri rv h
 obtain⟨p,xs,k,j,rfl,rfl,hp,hj,q⟩:=h
 cases ro
 obtain⟨t,rfl⟩:=ri
 obtain⟨its,n,r,ho,hz⟩:=I.lst hp
 obtain⟨h1,h2,h3,h4⟩:=sR hj
 have hl:=r.length
 have hn:=gQ
 have I':Inv X pins σ (upd H p (.lst (xs.set j v))) { s with heap:=s.heap.update p (Obj.mapSeq (·.setIfInBounds j u)) } :=
  I.y24f hp ho (Cs its n j u) (r.set rv j) (by rw [z29];exact hz) s.toks
 by_cases h0:0≤k
 ·have hk:k.toNat=j:=by
   rw [seqIndex_of h0 h4] at h1
   exact z20 h1
  exact W.ki_setAt ho h0 (by lia) (by rw [zf,<- hl];exact h4) (by rw [hk];exact⟨_,I',q⟩)
 ·have hk:(k+(its.toArray.size:Int)).toNat=j:=by
   rw [seqIndex_neg (by lia) h3] at h1
   rw [zf,<- hl]
   exact z20 h1
  exact W.ki_setBack ho (by lia) (by rw [zf,<- hl];exact h3) (by lia) (by rw [hk];exact⟨_,I',q⟩)
def Ct(lo hi:Option Int)(n:Nat):(sliceBounds lo hi none n).1=((HT.sIx n 0 lo:Nat):Int)/\(sliceBounds lo hi none n).2.1=((HT.sIx n n hi:Nat):Int)/\(sliceBounds lo hi none n).2.2=1:=by
 refine⟨?_,?_,rfl⟩
 ·cases lo with
  | none=>simp [sliceBounds,HT.sIx]
  | some i =>
   simp only [sliceBounds,HT.sIx,Option.getD_none,show (1:Int)>0 by decide,if_true]
   by_cases h:i<0
   ·simp only [h,if_true]<;>lia
   ·simp only [h,if_false]<;>lia
 ·cases hi with
  | none=>simp [sliceBounds,HT.sIx]
  | some i =>
   simp only [sliceBounds,HT.sIx,Option.getD_none,show (1:Int)>0 by decide,if_true]
   by_cases h:i<0
   ·simp only [h,if_true]<;>lia
   ·simp only [h,if_false]<;>lia
def Cu(its:List Value)(lo hi:Option Int):slicePick its.toArray lo hi none=((its.drop (HT.sIx its.length 0 lo)).take (HT.sIx its.length its.length hi-HT.sIx its.length 0 lo)).toArray:=by
 obtain⟨h1,h2,h3⟩:=Ct lo hi its.toArray.size
 unfold slicePick
 rw [h1,h2,h3]
 simp only [sliceRange_one,pick_run,zf]<;>rfl
abbrev sX(K:W.Frag):V->Option Int->Option Int->Hp->VK->Prop:=λx lo hi H Q=>∃a xs,x=.ref a/\bu K H a xs/\∀p,H p=none->Q (.ref p) (upd H p (.lst (jv xs lo hi)))
def Cw:kR X (sX X.K):=by
 intro pins s σ H x v vl vu lo hi sl Q I rx hs pl pu h
 obtain⟨a,xs,rfl,hx,q⟩:=h
 cases rx
 obtain⟨its,r,ht,hz⟩:=I.list hx
 have hlen:=r.length
 refine⟨"list",_,slot_list_getitem.lookup,ht.isList.typeIs,?_⟩
 refine wpAny_getItem_list_slice ht.isList hs pl pu .none (by simp) ?_ (by rw [zf]<;>lia)
 rw [Cu,<- hlen]
 refine⟨.ref s.heap.objs.size,_,I.laid (t':=s.toks) (o:=.lst (jv xs lo hi)) (λb ob q=>zd _ q) (z12 _) ?_,rfl,q _ (I.hok.fresh (z12 _))⟩
 exact⟨z1c (yd5 xs lo hi) hz,_,0,(r.drop (HT.sIx xs.length 0 lo)).take (HT.sIx xs.length xs.length hi-HT.sIx xs.length 0 lo),z22 _ rfl⟩
abbrev bj:V->Bool
 | .non=>true
 | .bl _=>true
 | .int _=>true
 | .str _=>true
 | _=>false
abbrev gU:V->V->Bool
 | .non,.non=>true
 | .bl a,.bl b=>a == b
 | .bl a,.int b=>(if a then 1 else 0) == b
 | .int a,.bl b=>a == (if b then 1 else 0)
 | .int a,.int b=>a == b
 | .str a,.str b=>a == b
 | _,_=>false
def sY{A:Around}{s:Shared}{y x:V}{u v:Value}(ry:ay y u)(rx:ay x v)(fy:bj y=true)(fx:bj x=true):SeqAt.EqAt A s u v (gU y x):=by
 cases y with
 | non =>
  cases ry
  cases x with
  | non=>cases rx;exact SeqAt.EqAt.same _
  | bl b=>cases rx;exact SeqAt.EqAt.none_bool b
  | int b=>obtain⟨t,rfl⟩:=rx;exact SeqAt.EqAt.none_int b t
  | str b=>obtain⟨t,rfl⟩:=rx;exact SeqAt.EqAt.none_str b t
  | _=>exact absurd (show false=true from fx) z13
 | bl a =>
  cases ry
  cases x with
  | non=>cases rx;exact SeqAt.EqAt.bool_none a
  | bl b=>cases rx;exact SeqAt.EqAt.bool_bool a b
  | int b=>obtain⟨t,rfl⟩:=rx;exact SeqAt.EqAt.bool_int a b t
  | str b=>obtain⟨t,rfl⟩:=rx;exact SeqAt.EqAt.bool_str a b t
  | _=>exact absurd (show false=true from fx) z13
 | int a =>
  obtain⟨t',rfl⟩:=ry
  cases x with
  | non=>cases rx;exact SeqAt.EqAt.int_none a t'
  | bl b=>cases rx;exact SeqAt.EqAt.int_bool a t' b
  | int b=>obtain⟨t,rfl⟩:=rx;exact SeqAt.EqAt.int_int a t' b t
  | str b=>obtain⟨t,rfl⟩:=rx;exact SeqAt.EqAt.int_str a t' b t
  | _=>exact absurd (show false=true from fx) z13
 | str a =>
  obtain⟨t',rfl⟩:=ry
  cases x with
  | non=>cases rx;exact SeqAt.EqAt.str_none a t'
  | bl b=>cases rx;exact SeqAt.EqAt.str_bool a t' b
  | int b=>obtain⟨t,rfl⟩:=rx;exact SeqAt.EqAt.str_int a t' b t
  | str b=>obtain⟨t,rfl⟩:=rx;exact SeqAt.EqAt.str_str a t' b t
  | _=>exact absurd (show false=true from fx) z13
 | _=>exact absurd (show false=true from fy) z13
abbrev gW(x:V)(u:Value):Bool:=match u with
 | .none=>gU .non x
 | .bool b=>gU (.bl b) x
 | .int i _=>gU (.int i) x
 | .str z _=>gU (.str z) x
 | _=>false
def sZ{x y:V}{u:Value}(r:ay y u)(f:bj y=true):gW x u=gU y x:=by
 cases y with
 | non=>cases r;rfl
 | bl b=>cases r;rfl
 | int i=>obtain⟨t,rfl⟩:=r;rfl
 | str z=>obtain⟨t,rfl⟩:=r;rfl
 | _=>exact absurd (show false=true from f) z13
theorem tj{x:V}:∀{xs:List V} {us:List Value},au xs us->xs.all bj=true->us.any (gW x)=xs.any λy=>gU y x
 | _,_,.nil,_=>rfl
 | y::xs,u::us,.cons r t,f=>by
  rw [List.all_cons,z1b] at f
  rw [List.any_cons,List.any_cons,sZ r f.1,tj t f.2]
theorem jw{A:Around}{s:Shared}{x:V}{v:Value}(rx:ay x v)(fx:bj x=true):∀{xs:List V} {us:List Value},au xs us->xs.all bj=true->∀u∈us,SeqAt.EqAt A s u v (gW x u)
 | _,_,.nil,_=>λu hu=>by cases hu
 | y::xs,u::us,.cons r t,f=>λu' hu=>by
  rw [List.all_cons,z1b] at f
  rcases z1d.mp hu with rfl|hu
  ·rw [sZ r f.1];exact sY r rx f.1 fx
  ·exact jw rx fx t f.2 u' hu
abbrev inV(x:V)(xs:List V):Bool:=xs.any λy=>gU y x
abbrev Au(K:W.Frag)(neg:Bool):R2:=λx y H Q=>∃p xs,y=.ref p/\(bu K H p xs∨ba K H p xs)/\bj x=true/\xs.all bj=true/\Q (.bl (if neg then !inV x xs else inV x xs)) H
def kU:bT X (compareOp .In) (Au X.K false):=by
 intro pins s σ H x y v u Q I rx ry h
 obtain⟨p,xs,rfl,hq,fx,fs,q⟩:=h
 cases ry
 rcases hq with hq|hq
 ·obtain⟨its,r,pl,hz⟩:=I.list hq
  refine SeqAt.in_listAt (gW x) pl.isList (λw hw=>jw rx fx r fs w (by simpa using hw)) ⟨.bl _,H,I,rfl,?_⟩
  rw [show its.toArray.any (gW x)=its.any (gW x) by simp,tj r fs]
  exact q
 ·obtain⟨its,r,pl,hz⟩:=I.tuple hq
  refine SeqAt.in_tupleAt (gW x) pl (λw hw=>jw rx fx r fs w (by simpa using hw)) ⟨.bl _,H,I,rfl,?_⟩
  rw [show its.toArray.any (gW x)=its.any (gW x) by simp,tj r fs]
  exact q
def Cy:bT X (compareOp .NotIn) (Au X.K true):=by
 intro pins s σ H x y v u Q I rx ry h
 obtain⟨p,xs,rfl,hq,fx,fs,q⟩:=h
 cases ry
 rcases hq with hq|hq
 ·obtain⟨its,r,pl,hz⟩:=I.list hq
  refine SeqAt.notIn_listAt (gW x) pl.isList (λw hw=>jw rx fx r fs w (by simpa using hw)) ⟨.bl _,H,I,rfl,?_⟩
  rw [show its.toArray.any (gW x)=its.any (gW x) by simp,tj r fs]
  exact q
 ·obtain⟨its,r,pl,hz⟩:=I.tuple hq
  refine SeqAt.notIn_tupleAt (gW x) pl (λw hw=>jw rx fx r fs w (by simpa using hw)) ⟨.bl _,H,I,rfl,?_⟩
  rw [show its.toArray.any (gW x)=its.any (gW x) by simp,tj r fs]
  exact q
def ya9:y6 X (.builtin "len") (λxs H Q=>∃p ys,xs=[.ref p]/\(bu X.K H p ys∨ba X.K H p ys)/\Q (.int ys.length) H):=by
 intro pins s σ H xs us Q I r h
 obtain⟨p,ys,rfl,hq,q⟩:=h
 obtain⟨u,rfl,rx⟩:=cb r
 cases rx
 have hn:=gQ
 rcases hq with hq|hq
 ·obtain⟨its,r',pl,hz⟩:=I.list hq
  have hlen:=r'.length
  exact Calls.call_len_list pl.isList (by simp only [zf]<;>lia) ⟨.int ys.length,H,I.tok _,⟨s.toks+1,by rw [zf,hlen]⟩,q⟩
 ·obtain⟨its,r',pl,hz⟩:=I.tuple hq
  have hlen:=r'.length
  exact len_tuple pl (by simp only [zf]<;>lia) ⟨.int ys.length,H,I.tok _,⟨s.toks+1,by rw [zf,hlen]⟩,q⟩
def yaa:y6 X (.builtin "len") (λxs H Q=>∃z,xs=[.str z]/\z.length≤sizeLine/\Q (.int z.length) H):=by
 intro pins s σ H xs us Q I r h
 obtain⟨z,rfl,hz,q⟩:=h
 obtain⟨u,rfl,t,rfl⟩:=cb r
 have hn:=gQ
 exact len_str (by lia) ⟨.int z.length,H,I.tok _,⟨_,rfl⟩,q⟩
def y6.or{f:Value}{r r':List V->Hp->VK->Prop}(h:y6 X f r)(h':y6 X f r'):y6 X f (λxs H Q=>r xs H Q∨r' xs H Q):=by
 intro pins s σ H xs us Q I rs q
 rcases q with q|q
 ·exact h pins s σ H xs us Q I rs q
 ·exact h' pins s σ H xs us Q I rs q
abbrev tq(K:W.Frag)(T:String)(x:V)(H:Hp):Prop:=match x with
 | .str _=>T="str"
 | .int _=>T="int"
 | .ref p=>(T="list"/\∃xs,bu K H p xs)∨(T="tuple"/\∃o,K.lookup p=some o/\o.cls=.type "tuple"/\o.dict=none) ∨
   (T="dict"/\((∃kvs,H p=some (.dK kvs))∨∃kvs,H p=some (.dT kvs)))∨(T="set"/\∃S n,H p=some (.set S n))
 | _=>False
def jx{pins:List (Addr×Obj)}{σ:St}{H:Hp}{s:Shared}{T:String}{x:V}{v:Value}(I:Inv X pins σ H s)(r:ay x v)(ty:tq X.K T x H) :
  s.TypeIs v T/\∀a,v=.ref a->∃ob,s.heap.get? a=some ob/\ob.dict=none:=by
 cases x with
 | str z =>
  obtain⟨t,rfl⟩:=r
  cases (show T="str" from ty)
  exact⟨typeIs_str s z t,λ_ e=>nomatch e⟩
 | int i =>
  obtain⟨t,rfl⟩:=r
  cases (show T="int" from ty)
  exact⟨typeIs_int s i t,λ_ e=>nomatch e⟩
 | ref p =>
  cases r
  rcases ty with⟨rfl,xs,hq⟩| ⟨rfl,o,hk,hc,hd⟩| ⟨rfl,hk⟩| ⟨rfl,S,n,hk⟩
  ·obtain⟨its,_,pl,_⟩:=I.list hq
   refine⟨pl.isList.typeIs,λa e=>?_⟩
   cases e
   obtain⟨o,n,e,c,hd,_⟩:=pl
   exact⟨o,e,hd⟩
  ·refine⟨⟨o,I.kIn p o hk,hc⟩,λa e=>?_⟩
   cases e
   exact⟨o,I.kIn _ o hk,hd⟩
  ·have z:∃o,s.heap.get? p=some o/\o.ExactDict:=by
    rcases hk with⟨kvs,hk⟩| ⟨kvs,hk⟩
    ·obtain⟨_,_,_,_,o,_,_,e,ex,_⟩:=I.hok p _ hk
     exact⟨o,e,ex⟩
    ·obtain⟨_,_,_,_,o,_,_,e,ex,_⟩:=I.hok p _ hk
     exact⟨o,e,ex⟩
   obtain⟨o,e,ex⟩:=z
   refine⟨⟨o,e,ex.1⟩,λa e2=>?_⟩
   cases e2
   exact⟨o,e,ex.2.1⟩
  ·obtain⟨o,_,_,_,e,ex,_⟩:=I.hok p _ hk
   refine⟨⟨o,e,ex.1⟩,λa e2=>?_⟩
   cases e2
   exact⟨o,e,ex.2.1⟩
 | _=>exact False.elim ty
abbrev tu(K:W.Frag)(T:String)(r:V->List V->Hp->VK->Prop)(to:TE):TE:=λσ H Q=>to σ H λx H1=>tq K T x H1/\r x [] H1 Q
abbrev Cz(K:W.Frag)(T:String)(r:V->List V->Hp->VK->Prop)(to:TE)(t:TA):TE:=λσ H Q=>to σ H λx H1=>tq K T x H1/\t σ H1 λxs H2=>r x xs H2 Q
variable {o e:Expr}{es:List Expr}{to:TE}{t:TA}{name:Str}{apos yd2:Pos}{T id:String}{r:V->List V->Hp->VK->Prop}
def CA(pa:PlainAttrs T)(slot:Slot T name id)(hty:typeOf (.builtin id)=pure (.type "method_descriptor"))(hm:sS X id r)(ho:PE X o to)
  (y1aa:‹attributeBase o name X.env (eval o X.env)=eval o X.env›) (y1b6:‹(apos.endLine == yd2.line)=true›):PE X (.Call (.Attribute o name apos) [] [] yd2) (tu X.K T r to):=by
 intro pins s σ H Q I h
 refine wpAny_Call_method0_late y1aa y1b6 (aN (ho pins s σ H _ I h) λv s1 zz=>?_)
 obtain⟨x,H1,I1,r1,ty,q1⟩:=zz
 obtain⟨h1,h2⟩:=jx I1 r1 ty
 exact⟨T,id,pa,slot,hty,h1,h2,Calls.callWith_builtin rfl (PySem.evalArgs_none (hm pins s1 σ H1 x [] v [] Q I1 r1 .nil q1))⟩
def kW(pa:PlainAttrs T)(slot:Slot T name id)(hty:typeOf (.builtin id)=pure (.type "method_descriptor"))(hm:sS X id r)(ho:PE X o to)(ha:PA X (e::es) t)
  (y1aa:‹attributeBase o name X.env (eval o X.env)=eval o X.env›)
  (y1b0:‹((backTo yd2 (starEach (e::es) X.env)).all (λx=>!x.1)&&(backToKw yd2 (keywordEach [] X.env)).all (λx=>x.1.isSome)
   && decide ((e::es).length+([]:List Keyword).length+(if ([]:List Keyword).isEmpty then 0 else 1)<30))=true›)
  (y1b6:‹(apos.endLine == yd2.line)=true›) (hs:‹starEach (e::es) X.env=(false,eval e X.env)::starEach es X.env›) (y1b9:‹(backTo yd2 (starEach es X.env)).any (·.1)=false›) :
  PE X (.Call (.Attribute o name apos) (e::es) [] yd2) (Cz X.K T r to t):=by
 intro pins s σ H Q I h
 refine wpAny_Call_method_late y1aa y1b0 y1b6 rfl (aN (ho pins s σ H _ I h) λv s1 zz=>?_)
 obtain⟨x,H1,I1,r1,ty,q1⟩:=zz
 obtain⟨h1,h2⟩:=jx I1 r1 ty
 refine⟨T,id,pa,slot,hty,h1,h2,?_⟩
 have hA:=ha yd2 pins s1 σ H1 _ I1 q1
 rw [hs] at hA ⊢
 refine Calls.callWith_builtin (by show (false||(backTo yd2 (starEach es X.env)).any (·.1))=false;rw [y1b9]<;>rfl) (Calls.evalArgs_plain ?_)
 exact aN hA λus s2 ⟨vs,H2,I2,r2,q2⟩=>hm pins s2 σ H2 x vs v us Q I2 r1 r2 q2
end
end
section
abbrev CB(X:Cx)(id:String)(r:V->List V->Hp->VK->Prop):Prop :=
 ∀(pins:List (Addr×Obj)) (s:Shared) (σ:St) (H:Hp) (x:V) (xs:List V) (v:Value) (us:List Value) (Q:VK),Inv X pins σ H s->ay x v->au xs us->r x xs H Q ->
  wpAny (model X.prog X.w) X.A (call (.builtin id) (v::us)) (EP X pins σ Q) X.xe s
def au.one:∀{x:V} {us:List Value},au [x] us->∃u,us=[u]/\ay x u:=by
 intro x us h
 rcases h with _|⟨r,_|_⟩
 exact⟨_,rfl,r⟩
def au.zero:∀{us:List Value},au [] us->us=[]
 | _,.nil=>rfl
theorem au.dropLast{xs:List V}{us:List Value}(h:au xs us):au xs.dropLast us.dropLast:=by
 induction h with
 | nil=>exact .nil
 | cons r t ih =>
  cases t with
  | nil=>exact .nil
  | cons q t'=>exact .cons r ih
theorem au.reverse{xs:List V}{us:List Value}(h:au xs us):au xs.reverse us.reverse:=by
 induction h with
 | nil=>exact .nil
 | cons r t ih=>rw [List.reverse_cons,List.reverse_cons];exact au.append ih (.cons r .nil)
theorem au.rep{xs:List V}{us:List Value}(h:au xs us):∀k:Nat,au (List.replicate k xs).flatten (List.replicate k us).flatten
 | 0=>.nil
 | k+1=>by
  rw [List.replicate_succ,List.replicate_succ,List.flatten_cons,List.flatten_cons]
  exact au.append h (au.rep h k)
def CC{α:Type}(l:List α):l.eraseIdx (l.length-1)=l.dropLast:=by
 induction l with
 | nil=>rfl
 | cons a r ih =>
  cases r with
  | nil=>rfl
  | cons b r =>
   have e:(a::b::r).length-1=((b::r).length-1)+1:=by
    have h1:(a::b::r).length=r.length+2:=rfl
    have h2:(b::r).length=r.length+1:=rfl
    lia
   rw [e,List.eraseIdx_cons_succ,ih]
   all_goals rfl
theorem eN(its:List Value):∀(k:Nat) (acc:List Value),
  List.foldl (λx1 x2=>x1++x2) acc.toArray (List.replicate k its.toArray)=(acc++(List.replicate k its).flatten).toArray
 | 0,acc=>by simp
 | k+1,acc=>by
  have e:acc.toArray++its.toArray=(acc++its).toArray:=by simp
  have e2:(acc++its)++(List.replicate k its).flatten=acc++(List.replicate (k+1) its).flatten:=by
   rw [List.replicate_succ,List.flatten_cons,z2f]
  rw [<- e2,<- eN its k (acc++its),<- e,List.replicate_succ,List.foldl_cons]
section
variable {X:Cx}{pins:List (Addr×Obj)}{σ:St}{H:Hp}{s:Shared}{l b:Addr}{xs ys zs:List V}
def Inv.lset{its its':List Value}{n:Nat}{f:Array Value->Array Value}{t':Nat}(I:Inv X pins σ H s)(hH:H l=some (.lst xs))
  (e:s.heap.get? l=some { cls:=.type "list",data:=.seq its.toArray n }) (hf:f its.toArray=its'.toArray) (hv:au ys its') (hz:ys.length≤sizeLine) :
  Inv X pins σ (upd H l (.lst ys)) { s with heap:=s.heap.update l (Obj.mapSeq f),toks:=t' }:=by
 have q:=PySem.IsL.update e f
 rw [hf] at q
 refine I.write (x:=l) (e:=l) (by rw [hH];exact trivial) (.inl rfl) (λb' u hb hu=>(Heap.get?_update_other s.heap (Obj.mapSeq f) (Ne.symm hb)).trans hu) ⟨_,q⟩ ?_
 exact⟨hz,its',_,hv,q⟩
def Inv.lnew{its:List Value}{t':Nat}(I:Inv X pins σ H s)(hv:au ys its)(hz:ys.length≤sizeLine) :
  Inv X pins σ (upd H s.heap.objs.size (.lst ys)) { s with heap:=s.heap.push { cls:=.type "list",data:=.seq its.toArray },toks:=t' } :=
 I.laid (λ_ _ q=>zd _ q) (z12 _) ⟨hz,its,0,hv,z22 _ rfl⟩
theorem Inv.fresh(I:Inv X pins σ H s):H s.heap.objs.size=none:=I.hok.fresh (z12 _)
def Inv.y24e(I:Inv X pins σ H s)(hH:H l=some (.lst xs)):xs.length≤sizeLine/\∃(its:List Value) (n:Nat),au xs its/\xs.length=its.length/\s.heap.get? l=some { cls:=.type "list",data:=.seq its.toArray n }:=by
 obtain⟨z,its,n,r,e⟩:=I.hok l _ hH
 exact⟨z,its,n,r,r.length,e⟩
def tw{n:Nat}(h:n≤sizeLine):Builtin.List.listTooLong n=false:=by
 unfold Builtin.List.listTooLong
 exact decide_eq_false (by lia)
end
section
variable {X:Cx}
abbrev tE:V->List V->Hp->VK->Prop:=λx vs H Q=>∃l xs y,x=.ref l/\vs=[y]/\H l=some (.lst xs)/\xs.length<sizeLine/\Q .non (upd H l (.lst (xs++[y])))
def tF:CB X "list.append" tE:=by
 intro pins s σ H x vs v us Q I rx rv h
 obtain⟨l,xs,y,rfl,rfl,hH,hz,q⟩:=h
 cases rx
 obtain⟨u,rfl,ru⟩:=rv.one
 obtain⟨z,its,n,r,hl,e⟩:=I.y24e hH
 refine call_meets F.slot_list_append ⟨_,e,rfl⟩ F.entry_list_append (F.args_list_append_2 _ _) (PySem.list_append l its.toArray n u (by rw [zf];lia)) ⟨e,?_⟩
 refine⟨.non,_,I.lset (its':=its++[u]) hH e (by simp) (r.append (.cons ru .nil)) ?_,rfl,q⟩
 rw [zc,List.length_singleton]
 lia
abbrev CD:V->List V->Hp->VK->Prop:=λx vs H Q=>∃l b xs zs,x=.ref l/\vs=[.ref b]/\H l=some (.lst xs)/\H b=some (.lst zs)/\xs.length+zs.length≤sizeLine/\Q .non (upd H l (.lst (xs++zs)))
def Kv:CB X "list.extend" CD:=by
 intro pins s σ H x vs v us Q I rx rv h
 obtain⟨l,b,xs,zs,rfl,rfl,hH,hB,hz,q⟩:=h
 cases rx
 obtain⟨u,rfl,ru⟩:=rv.one
 cases ru
 obtain⟨z,its,n,r,hl,e⟩:=I.y24e hH
 obtain⟨z2,y1e9,n2,r2,hl2,e2⟩:=I.y24e hB
 have hsz:its.toArray.size+y1e9.toArray.size≤sizeLine:=by rw [zf,zf];lia
 have y1b7:¬ (!its.toArray.isEmpty&&Builtin.List.listTooLong (its.toArray.size+y1e9.toArray.size))=true:=by
  rw [tw hsz,Bool.and_false]
  exact z13
 refine call_meets F.slot_list_extend ⟨_,e,rfl⟩ F.entry_list_extend (F.args_list_extend_2 _ _)
  (AutoSeq1.list_extend_list_list_0 l its.toArray n b y1e9.toArray n2 y1b7 (by rw [zf];lia) (by lia)) ⟨e,e2,?_⟩
 refine⟨.non,_,I.lset (its':=its++y1e9) hH e (by simp) (r.append r2) ?_,rfl,q⟩
 rw [zc]
 lia
abbrev tG:V->List V->Hp->VK->Prop:=λx vs H Q=>∃l xs y,x=.ref l/\vs=[]/\H l=some (.lst xs)/\xs[xs.length-1]?=some y/\Q y (upd H l (.lst xs.dropLast))
def CF:CB X "list.pop" tG:=by
 intro pins s σ H x vs v us Q I rx rv h
 obtain⟨l,xs,y,rfl,rfl,hH,hy,q⟩:=h
 cases rx
 have hus:=rv.zero
 subst hus
 obtain⟨z,its,n,r,hl,e⟩:=I.y24e hH
 obtain⟨u,hu,ru⟩:=r.get hy
 have hy':its.toArray[its.toArray.size-1]?=some u:=by
  show its.toArray[its.length-1]?=some u
  rw [<- Array.getElem?_toList,<- hl]
  exact hu
 refine call_meets F.slot_list_pop ⟨_,e,rfl⟩ F.entry_list_pop (F.args_list_pop_1 _) (MeetsSeq.list_pop_last l its.toArray n u hy' (by rw [zf];lia)) ⟨e,?_⟩
 refine⟨y,_,I.lset (its':=its.dropLast) hH e ?_ r.dropLast ?_,ru,q⟩
 ·show its.toArray.eraseIdxIfInBounds (its.toArray.size-1)=its.dropLast.toArray
  rw [zf,List.eraseIdxIfInBounds_toArray,CC]
 ·rw [List.length_dropLast]
  lia
abbrev kX:R2:=λx y H Q=>∃l b xs zs,x=.ref l/\y=.ref b/\H l=some (.lst xs)/\H b=some (.lst zs)/\xs.length+zs.length≤sizeLine/\∀p,H p=none->Q (.ref p) (upd H p (.lst (xs++zs)))
def CG:bT X (binaryOp .Add) kX:=by
 intro pins s σ H x y v u Q I rx ry h
 obtain⟨l,b,xs,zs,rfl,rfl,hH,hB,hz,q⟩:=h
 cases rx
 cases ry
 obtain⟨z,its,n,r,hl,e⟩:=I.y24e hH
 obtain⟨z2,y1e9,n2,r2,hl2,e2⟩:=I.y24e hB
 refine PySem.P.add_list e e2 ?_ (by rw [zf,zf];lia)
 have ea:its.toArray++y1e9.toArray=(its++y1e9).toArray:=by simp
 rw [ea]
 exact⟨.ref _,_,I.lnew (t':=s.toks) (r.append r2) (by rw [zc];lia),rfl,q _ I.fresh⟩
abbrev kY:R2:=λx y H Q=>∃l k xs,x=.ref l/\y=.int k/\H l=some (.lst xs)/\-(2 ^ 63)≤k/\k<2 ^ 63/\xs.length*k.toNat≤sizeLine /\
 ∀p,H p=none->Q (.ref p) (upd H p (.lst (List.replicate k.toNat xs).flatten))
def kZ{α:Type}(xs:List α)(k:Nat):(List.replicate k xs).flatten.length=k*xs.length:=by
 induction k with
 | zero=>simp
 | succ k ih=>rw [List.replicate_succ,List.flatten_cons,zc,ih,Nat.succ_mul,Nat.add_comm]
def CH:bT X (binaryOp .Mult) kY:=by
 intro pins s σ H x y v u Q I rx ry h
 obtain⟨l,k,xs,rfl,rfl,hH,h1,h2,hz,q⟩:=h
 cases rx
 obtain⟨t,rfl⟩:=ry
 obtain⟨z,its,n,r,hl,e⟩:=I.y24e hH
 have hlen:its.toArray.size*k.toNat≤sizeLine:=by rw [zf,<- hl];exact hz
 have hcap:¬ its.toArray.size*k.toNat>(2 ^ 63-1) / 8:=by
  have:(sizeLine:Nat)≤(2 ^ 63-1) / 8:=by decide
  lia
 have hfit:¬ (!Builtin.List.listFitsIndex k)=true:=by
  rw [fitsIndex_both h1 h2]
  exact z13
 have y1b7:¬ Builtin.List.listTooLong (its.toArray.size*k.toNat)=true:=by
  rw [tw hlen]
  exact z13
 have hnew:List.foldl (λx1 x2=>x1++x2) #[] (List.replicate (if its.toArray.isEmpty=true then 0 else k.toNat) its.toArray)=(List.replicate k.toNat its).flatten.toArray:=by
  have f0:∀m:Nat,List.foldl (λx1 x2=>x1++x2) #[] (List.replicate m its.toArray)=(List.replicate m its).flatten.toArray:=λm=>by
   have:=eN its m []
   rw [List.nil_append] at this
   exact this
  rw [f0]
  cases its with
  | nil=>simp
  | cons a r'=>rw [if_neg (by simp)]
 refine wpAny_binaryOp_repeat_ref (T:="list") (U:="int") (by decide) ⟨_,e,rfl⟩ (λs'=>typeIs_int s' k t) noFill_list_mul F.fills_int_mul F.slot_int_rmul repeat_list F.slot_int_index.lookup
  (call_meets F.slot_int_rmul (typeIs_int s k t) F.entry_int_rmul (F.args_int_rmul_2 _ _) (int___rmul___int_list k t l its.toArray n)
   ⟨e,rfl,⟨_,e,rfl⟩,call_meets F.slot_list_mul ⟨_,e,rfl⟩ F.entry_list_mul (F.args_list_mul_2 _ _) (AutoListH.list___mul___list_int_3 l its.toArray n k t hfit hcap y1b7) ⟨e,?_⟩⟩)
 rw [hnew]
 exact⟨.ref _,_,I.lnew (t':=s.toks) (r.rep k.toNat) (by rw [kZ,Nat.mul_comm];exact hz),rfl,q _ I.fresh⟩
end
section
variable {prog:Program}{w:World}{A:Around}{E:Value->Shared->Prop}{s:Shared}
end
section
variable {X:Cx}
end
end
end L2
namespace Att
open PySem PySem.W PySem.Calls PyProof.Rows
def CI{P:Params}{h:Heap}:∀(ns:List Int) (vs:List Value),WellAll P h vs (ns.map WData.int)->IntsAre vs ns:=by
 intro ns
 induction ns with
 | nil =>
  intro vs w
  rw [List.map_nil] at w
  cases w
  exact .nil
 | cons n ns ih =>
  intro vs w
  rw [z19] at w
  cases w with
  | cons a b =>
   cases a
   exact .cons _ _ (ih _ b)
def CJ{l:OpenLaw}{n:Nat}(hn:l.most=some n){P:Params}{h:Heap}{args:List WData}{vals:List Value}
  (hpre:l.row.toRowW.claim.pre args=true) (hwl:WellAll P h vals args) :
  ∃a vs ns,vals=[Value.ref a]/\args=[WData.list (ns.map WData.int)]/\h.get? a=some { cls:=.type "list",data:=.seq vs.toArray }/\IntsAre vs ns/\ns.length≤n:=by
 have hsh:WShape.hasAll [] args [.list .int]=true:=(pre_splitW hpre).1
 have hc:l.pre.holds [] { args:=args }=true:=(pre_splitW hpre).2
 obtain⟨d,r,rfl,h1,h2⟩:=hasAllW_cons hsh
 obtain rfl:=hasAllW_nil h2
 obtain⟨xs,rfl,h3⟩:=hasW_list h1
 obtain⟨ns,rfl⟩:=items_int h3
 have hlen:ns.length≤n:=by
  unfold OpenLaw.pre at hc
  have h4:(WTm.not (.lt (.lit (.int (n:Int))) (.len (.arg 0)))).holds [] { args:=[.list (ns.map .int)] }=true:=by
   have h4:=(holds_andW hc).1
   rw [hn] at h4
   exact h4
  have h5:=condW_of h4 (w_not (w_lt w_lit (w_len_list (w_arg rfl))))
  rw [z11] at h5
  refine Nat.le_of_not_lt λq=>?_
  have q':(n:Int)<((ns.length:Nat):Int):=by lia
  first
   | (rw [decide_eq_true q'] at h5;exact absurd h5 (by decide))
   | (simp at h5;lia)
 cases hwl with
 | cons w1 w2 =>
  cases w2
  cases w1 with
  | list ho y1a6=>exact⟨_,_,ns,rfl,rfl,ho,CI ns _ y1a6,hlen⟩
def CK(l:OpenLaw)(args:List WData):l.row.toRowW.claim.post args (.bool true) args=true :=
 postW_of (r:=l.row.toRowW) (X:=(true == true))
  (show WShape.has [] (.bool true) .bool=true by first|rfl|decide|simp [WShape.has,WShape.arms,WShape.armsAll])
  (show (WTm.eq .res (.lit (.bool true))).value [] { args:=args,res:=some (.bool true),after:=args }=some (.bool (true == true)) from w_eq_bool (w_res rfl) w_lit) rfl
def y7e{l:OpenLaw}{n:Nat}{q:Program}{loose:List Str}{XP:(Str->Option Value)->Heap->Prop}{YP:World->Heap->Prop}{d:DefRec}
  (hn:l.most=some n) (hdf:d.params.defaults=[])
  (call:∀(w:World) (s₀ s₁:Shared) (mg mb:Str->Option Value) (fa:Addr) (o:Obj) (pm cd doc:Value) (a:Addr) (vs:List Value) (ns:List Int),
   Ground q loose [] XP w s₀ mg mb s₁.heap->YP w s₁.heap ->
   s₁.heap.get? fa=some o->o.data=.func (docDef d.name d.params d.body d.scope pm cd doc)->s₁.heap.CodeRec cd d.name->mg d.name=some (.ref fa) ->
   s₁.heap.get? a=some { cls:=.type "list",data:=.seq vs.toArray }->IntsAre vs ns->ns.length≤n->s₁.gens=#[] ->
   codeAny (model l.prog w) callerA (.call (.ref fa) ⟨[.ref a],[]⟩) (λr s'=>r=.ok (.ret (.bool true))/\OldK s₁.heap s'.heap/\s'.os=s₁.os/\AllBare s'.gens) s₁) :
  WalkO q loose XP YP l.row.toRowW d [] (λf vs=>PySem.call f vs):=by
 intro w s₀ s₁ mg mb G Y fa o pm cd doc dV kV ho hd hcd hD hmg hg args vals as hpre hlay hrd hwl hlo
 obtain rfl:dV=.none:=Dflts.none hD hdf
 obtain rfl:kV=.none:=Dflts.noKw hD
 obtain⟨a,vs,ns,rfl,rfl,hobj,hints,hlen⟩:=CJ hn hpre hwl
 refine enter_call (codeAny_mono (call w s₀ s₁ mg mb fa o pm cd doc a vs ns G Y ho (fd_plain hd) hcd hmg hobj hints hlen hg) λr s' hq=>?_)
 obtain⟨rfl,h2,h3,h4⟩:=hq
 exact⟨.inl ⟨.bool true,.bool true,[],rfl,λ_=>rfl,.bool true,CK l _,λ_=>⟨List.Pairwise.nil,λ_ hm=>(nomatch hm)⟩⟩,h2,h3,h4⟩
section
variable {prog:Program}{w:World}{A:Around}{E:Value->Shared->Prop}{s:Shared}{K:Frag}
end
end Att
namespace L2
open PySem PySem.Spec PyProof.Rows
section
theorem tH:∀{vs:List Value} {ns:List Int},IntsAre vs ns->au (ns.map V.int) vs
 | _,_,.nil=>.nil
 | _,_,.cons n t h=>.cons ⟨t,rfl⟩ (tH h)
abbrev k4(H:Hp):Prop:=∀b,H b=none∨∃o xs,H b=some (.frz o (.lst xs))
def CL{P:Program}{w:World}{K:W.Frag}{mg mb:Str->Option Value}{CX:gS}{k:Nat}{fa a:Addr}{fd:FuncData}{x:Str}{sp:Sp}{s₁:Shared}{vs:List Value}{ns:List Int}
  (KX:K.In s₁.heap) (hns:s₁.heap.Ns mainGlobals mg) (hb:s₁.heap.Ns builtinsNs mb) (hbb:∀x:Str,x≠"__name__"->mb x=bootBuiltins x) (hlim:s₁.heap.NoLimit) (hg:s₁.gens=#[])
  (ha:s₁.heap.get? a=some { cls:=.type "list",data:=.seq vs.toArray }) (hi:IntsAre vs ns) (hl:ns.length≤sizeLine) (hr:y4d k callerA)
  (F:∀base:Heap,K.In base->base.Ns mainGlobals mg->y3f P w K mg base CX k fa fd [x] sp) (hbind:∀(s:Shared) (u:Value),BindsTo s fd ⟨[u],[]⟩ [(x,u)])
  (hsp:∀H:Hp,k4 H->bu K H a (ns.map V.int)->sp [.ref a] H (λv _=>v=.bl true) λ_ _ _=>False)
  (hCX:∀H e s',CX [] H s₁ (λ_ _ _=>False) e s'->False) :
  codeAny (model P w) callerA (.call (.ref fa) ⟨[.ref a],[]⟩) (λr s'=>r=.ok (.ret (.bool true))/\OldK s₁.heap s'.heap/\s'.os=s₁.os/\AllBare s'.gens) s₁:=by
 have rv:=tH hi
 have lenV:=hi.length
 have core:∀H:Hp,k4 H->bu K H a (ns.map V.int)->cA P w H s₁.heap->(∀b,H b≠none->b=a)->(H a≠none->K.lookup a=none) ->
   codeAny (model P w) callerA (.call (.ref fa) ⟨[.ref a],[]⟩) (λr s'=>r=.ok (.ret (.bool true))/\OldK s₁.heap s'.heap/\s'.os=s₁.os/\AllBare s'.gens) s₁:=by
  intro H hO hS hok hA hK
  have y82:∀{b:Addr} {o:Obj},s₁.heap.get? b=some o->H b=none->(eU s₁.heap H).get? b=some o:=λe n=>Bh e n
  have noA:∀{b:Addr} {o:Obj} {es:Array DictEntry} {ep:Nat},s₁.heap.get? b=some o->o.data=.dict es ep->H b=none:=λ{b o es ep} e d=>by
   cases q:H b with
   | none=>rfl
   | some u =>
    have e':b=a:=hA b (by rw [q];simp)
    subst e'
    rw [ha] at e;cases e
    have d':Data.seq vs.toArray _=Data.dict es ep:=d
    cases d'
  have nsK:∀{b:Addr} {m:Str->Option Value},s₁.heap.Ns b m->(eU s₁.heap H).Ns b m:=λ{b m} ⟨o,es,ep,e,d,r⟩=>⟨o,es,ep,y82 e (noA e d),d,r⟩
  have hKb:K.In (eU s₁.heap H):=λb o e=>y82 (KX b o e) (by
   cases q:H b with
   | none=>rfl
   | some u =>
    have e':b=a:=hA b (by rw [q];simp)
    subst e'
    rw [hK (by rw [q];simp)] at e;cases e)
  have hM:Mod K mg (eU s₁.heap H):=⟨hKb,nsK hns,⟨mb,nsK hb,hbb⟩,let ⟨mc,h1,h2⟩:=hlim;⟨mc,nsK h1,h2⟩⟩
  have e0:y12 P w K mg (eU s₁.heap H) callerA [] s₁ H:=⟨rfl,hM,λb o e=>Bi e,Nat.le_of_eq (Bg _ _),trivial,λb hb=>absurd (show b∈([]:List Addr) from hb) (by simp),hok,.of_eq hg⟩
  refine codeAny_mono ((F _ hKb (nsK hns)).run callerA [] s₁ H ⟨[.ref a],[]⟩ [.ref a] [.ref a] _ _ hr e0 (hbind s₁ (.ref a)) (.cons rfl .nil) (hsp H hO hS)) λr s' h=>?_
  cases r with
  | error e=>exact (hCX H e s' h).elim
  | ok fl =>
   cases fl with
   | next=>exact False.elim h
   | brk=>exact False.elim h
   | cont=>exact False.elim h
   | ret u =>
    obtain⟨v,H',os,bare,un,hok',r',q⟩:=h
    have q':v=.bl true:=q
    subst q'
    obtain rfl:u=Value.bool true:=r'
    refine⟨rfl,OldK.of_keep λb o e=>?_,os,bare⟩
    cases q:H b with
    | none=>exact un.keep b o e q (by intro z;exact absurd (show b∈([]:List Addr) from z) (by simp)) (by simp)
    | some u =>
     rcases hO b with z|⟨ob,xs,z⟩
     ·rw [q] at z;cases z
     ·have z2:=un.y16e b ob _ z
      obtain⟨e1,_⟩:=hok b _ z
      obtain⟨e2,_⟩:=hok' b _ z2
      rw [e] at e1;cases e1
      exact e2
 cases hk:K.lookup a with
 | some o =>
  have e:=KX a o hk
  rw [ha] at e
  cases e
  refine core (λ_=>none) (λ_=>.inl rfl) (.inr ⟨_,vs.toArray,_,hk,rfl,rfl,rfl,by rw [zf,lenV];exact hl,by simpa using rv⟩) (λb u z=>by have z':(none:Option HO)=some u:=z;cases z') (λb z=>absurd rfl z) λz=>absurd rfl z
 | none =>
  refine core (λb=>if b=a then some (.frz { cls:=.type "list",data:=.seq vs.toArray } (.lst (ns.map V.int))) else none) (λb=>?_) (.inl (.inr ⟨{ cls:=.type "list",data:=.seq vs.toArray },if_pos rfl⟩)) (λb u z=>?_) (λb z=>?_) λ_=>hk
  ·by_cases hb:b=a
   ·exact .inr ⟨_,_,if_pos hb⟩
   ·exact .inl (if_neg hb)
  ·by_cases hb:b=a
   ·have z':=(if_pos hb).symm.trans z
    cases z'
    subst hb
    exact⟨ha,by rw [z11];exact hl,vs,_,rv,ha⟩
   ·have z':=(if_neg hb).symm.trans z
    cases z'
  ·by_cases hb:b=a
   ·exact hb
   ·exact absurd (if_neg hb) z
end
section
def y513{l:W.OpenLaw}{n k:Nat}{q:Program}{loose:List Str}{XP:(Str->Option Value)->Heap->Prop}{YP:World->Heap->Prop}{d:DefRec}{K:Params->W.Frag}{CX:World->gS}{sp:World->Sp}{x:Str}
  (hn:l.most=some n) (hn2:n≤sizeLine) (hdf:d.params.defaults=[]) (hr:y4d k callerA)
  (hY:∀(w:World) (h:Heap),YP w h->(K w.params).In h)
  (F:∀(w:World) (mg:Str->Option Value) (fa:Addr) (h:Heap),(K w.params).In h->h.Ns mainGlobals mg->mg d.name=some (.ref fa) ->
   ∃fd:FuncData,(∀(s:Shared) (u:Value),BindsTo s fd ⟨[u],[]⟩ [(x,u)]) /\
    ∀base:Heap,(K w.params).In base->base.Ns mainGlobals mg->y3f l.prog w (K w.params) mg base (CX w) k fa fd [x] (sp w))
  (hsp:∀(w:World) (H:Hp) (a:Addr) (ns:List Int),ns.length≤n->k4 H->bu (K w.params) H a (ns.map V.int)->sp w [.ref a] H (λv _=>v=.bl true) λ_ _ _=>False)
  (hCX:∀(w:World) (H:Hp) (s:Shared) (e:Value) (s':Shared),CX w [] H s (λ_ _ _=>False) e s'->False) :
  W.WalkO q loose XP YP l.row.toRowW d [] (λf vs=>PySem.call f vs):=by
 refine Att.y7e hn hdf λw s₀ s₁ mg mb fa o pm cd doc a vs ns G Y ho hd hcd hmg hobj hints hlen hg=>?_
 have KX:=hY w _ Y
 obtain⟨fd,hb,hF⟩:=F w mg fa _ KX G.T.g hmg
 exact CL KX G.T.g G.T.b G.T.builtins G.T.nolimit hg hobj hints (z1c hlen hn2) hr hF hb (λH hO hS=>hsp w H a ns hlen hO hS) λH e s'=>hCX w H s₁ e s'
end
section
abbrev eY(s:Stmt)(j:Nat):Stmt:=match s with
 | .ClassDef _ _ _ body _ _ _ _ _ _ _=>body.getD j (.Pass ⟨0,0,0,0⟩)
 | _=>.Pass ⟨0,0,0,0⟩
abbrev qE(s:Stmt):Arguments:=match s with
 | .FunctionDef _ a _ _ _ _ _ _ _ _=>a
 | _=>{ posonlyargs:=[],args:=[],vararg:=none,kwonlyargs:=[],kw_defaults:=[],kwarg:=none,defaults:=[] }
abbrev jy(s:Stmt):List Stmt:=match s with
 | .FunctionDef _ _ b _ _ _ _ _ _ _=>b
 | _=>[]
abbrev bo(s:Stmt):Scope:=match s with
 | .FunctionDef _ _ _ _ _ _ sc _ _ _=>sc
 | _=>{ kind:=.function,names:=[],isGenerator:=false,isCoroutine:=false }
noncomputable abbrev bG:gS:=λ_ _ _ _ _ _=>False
noncomputable abbrev E0:XK:=λ_ _ _=>False
def tJ{X:Cx}:bN bG X E0:=λ_ _ _ _ _ _ _ h=>h.elim
structure Fun(K:W.Frag)(x qual:Str)(st:Stmt)(f:Addr)(fd:FuncData):Prop where
 ex:∃(oc:Value) (od:Option Addr) (kV doc pm:Value) (an:Option Addr) (cdv ct:Value) (osl:Array (Option Value)),
  fd=W.fnOf x qual (qE st) (jy st) (bo st) .none kV doc pm an cdv ct/\K.lookup f=some ⟨oc,od,.func fd,osl⟩/\W.codeIn K cdv qual=true
 kp:W.keepIn K (.ref f)=true
section
variable {P:Program}{w:World}{K:W.Frag}{mg:Str->Option Value}{base:Heap}
def Fun.ok{x qual:Str}{st:Stmt}{f:Addr}{fd:FuncData}{N ps:List Str}{k:Nat}{sp:Sp}(F:Fun K x qual st f fd)(S:y40 N ps (bo st))(len:∀vs H Q E,sp vs H Q E->vs.length=ps.length)
  (y1ab:∀(cdv:Value) (A:Around) (outer:List Env) (s:Shared) (H:Hp) (vs:List V) (Q:VK) (E:XK),y4d k (A.deeper (envOfC qual (bo st) s.heap.objs.size f cdv))->sp vs H Q E ->
   ∃t,dH (eh bG P w K mg base N qual (bo st) f cdv A outer s H E).nox (jy st) t/\t { nx:=λ_ H'=>Q .non H',rt:=Q } (start N vs) H):y3f P w K mg base bG (k+1) f fd ps sp:=by
 obtain⟨oc,od,kV,doc,pm,an,cdv,ct,osl,rfl,lk,hcd⟩:=F.ex
 refine sf lk hcd S len λA outer s H vs Q E hr hsp=>?_
 obtain⟨t,h,q⟩:=y1ab cdv A outer s H vs Q E hr hsp
 exact⟨t,h.nox,q⟩
def Fun.binds{x qual:Str}{st:Stmt}{f:Addr}{fd:FuncData}{ps:List Str}(F:Fun K x qual st f fd)
  (h:∀(kV doc pm:Value) (an:Option Addr) (cdv ct:Value) (us:List Value),us.length=ps.length->bindArgs (W.fnOf x qual (qE st) (jy st) (bo st) .none kV doc pm an cdv ct) ⟨us,[]⟩=pure (ps.zip us)):cP K fd ps []:=by
 obtain⟨oc,od,kV,doc,pm,an,cdv,ct,osl,rfl,lk,hcd⟩:=F.ex
 exact .all (h kV doc pm an cdv ct)
def y16f{x qual:Str}{st:Stmt}{f:Addr}{oc:Value}{od an:Option Addr}{osl:Array (Option Value)}{kV doc pm cdv ct:Value}(l:K.lookup f=some ⟨oc,od,.func (W.fnOf x qual (qE st) (jy st) (bo st) .none kV doc pm an cdv ct),osl⟩)
  (c:W.codeIn K cdv qual=true) (k:W.keepIn K (.ref f)=true):Fun K x qual st f (W.fnOf x qual (qE st) (jy st) (bo st) .none kV doc pm an cdv ct):=⟨⟨oc,od,kV,doc,pm,an,cdv,ct,osl,rfl,l,c⟩,k⟩
end
def jA{A:Around}{k:Nat}(hr:y4d k A):A.units+1<cLine:=Nat.lt_of_le_of_lt (Nat.add_le_add_left (by decide:1≤64) _) hr.units
section
variable {X:Cx}
def pv(i:Nat){x:Str}{pos:Pos}(hN:‹X.N[i]?=some x›)(hv:Am X.env.scope x:=by first|exact Or.inl rfl|exact Or.inr (Or.inl rfl)|exact Or.inr (Or.inr rfl))(hd:(x == ("__debug__" : Str))=false:=by decide)
  (hcd:(x == ("__classdict__" : Str))=false:=by decide):PE X (.Name x pos) (cQ i):=eB hN hv hd hcd
def ya8:y6 X (.builtin "len") (λxs H Q=>∃a kvs,xs=[V.ref a]/\H a=some (.dK kvs)/\Q (.int kvs.length) H):=by
 intro pins s σ H xs us Q I r h
 obtain⟨a,kvs,rfl,ha,q⟩:=h
 obtain⟨u,rfl,ru⟩:=cb r
 cases ru
 exact sD I (.inl ha) λt s' I'=>⟨.int kvs.length,H,I',⟨t,rfl⟩,q⟩
end
def CM{A B:Prop}(h:B):if false=true then A else B:=by
 rw [if_neg z13]
 exact h
def CN{A B:Prop}(h:A):if true=true then A else B:=by
 rw [if_pos rfl]
 exact h
abbrev dz(H H':Hp):Prop:=∀b o,H b=some o->H' b=some o
def dz.free{H H':Hp}(e:dz H H'){l:Addr}(h:H' l=Option.none):H l=Option.none:=by
 cases q:H l with
 | none=>rfl
 | some o =>
  rw [e l o q] at h
  cases h
section
variable {κ:Type}[DecidableEq κ]
end
end
end L2
set_option maxHeartbeats 4000000
namespace PySem
abbrev oi(names:List (Str×NameKind))(env:Env):List (Str×Addr) :=
 names.foldl (λcs p=>if p.2 == NameKind.free then (p.1,(env.cells.lookup p.1).getD 0)::cs else cs) []
theorem ybc:∀(l:List (Str×NameKind)) (acc:List (Str×Addr)),(∀p∈l,p.2=.free->∃c,env.cells.lookup p.1=some c) ->
  (forIn l acc (λ(x:Str×NameKind) (cs:List (Str×Addr))=>match x with
   | (name,kind)=>if (kind == NameKind.free)=true then (do let a <- cellOf env name;pure (ForInStep.yield ((name,a)::cs)):Sem _) else pure (ForInStep.yield cs))) =
  (pure (l.foldl (λcs p=>if p.2 == NameKind.free then (p.1,(env.cells.lookup p.1).getD 0)::cs else cs) acc):Sem _)
 | [],acc,_=>by simp
 | (n,k)::r,acc,h=>by
  have ih:=λa=>ybc r a λp hp=>h p (z21 _ hp)
  rw [List.forIn_cons]
  by_cases hk:k=.free
  ·subst hk
   obtain⟨c,e⟩:=h (n,.free) List.mem_cons_self rfl
   have e':cellOf env n=pure c:=by unfold cellOf;rw [e]
   show (if (NameKind.free == NameKind.free)=true then (do let a <- cellOf env n;pure (ForInStep.yield ((n,a)::acc)):Sem _) else pure (ForInStep.yield acc)) >>= _=_
   rw [if_pos (by rfl),e',pure_bind,pure_bind]
   rw [List.foldl_cons]
   have e2:(if ((n,NameKind.free).2 == NameKind.free)=true then ((n,NameKind.free).1,(env.cells.lookup (n,NameKind.free).1).getD 0)::acc else acc)=(n,c)::acc:=by
    rw [if_pos (by rfl),e];rfl
   rw [e2]
   exact ih _
  ·have hb:(k == NameKind.free)=false:=by simpa using hk
   simp only [hb,Bool.false_eq_true,if_false,pure_bind,ih,List.foldl_cons]
def ybb (h:∀p∈scope.names,p.2=.free->∃c,env.cells.lookup p.1=some c):closureFor scope env=pure (oi scope.names env):=by
 unfold closureFor oi
 have:=ybc scope.names [] h
 simp only [bind_pure]
 exact this
theorem k6{env:Env}:∀{l:List (Str×NameKind)} {acc:List (Str×Addr)} {y:Str} {c:Addr},
  (y,c)∈l.foldl (λcs p=>if p.2 == NameKind.free then (p.1,(env.cells.lookup p.1).getD 0)::cs else cs) acc↔(y,c)∈acc∨((y,NameKind.free)∈l/\c=(env.cells.lookup y).getD 0)
 | [],acc,y,c=>by simp
 | (n,k)::r,acc,y,c=>by
  rw [List.foldl_cons,k6]
  by_cases hk:k=.free
  ·subst hk
   simp only [beq_self_eq_true,if_true,z1d,Prod.mk.injEq]
   constructor
   ·rintro ((⟨rfl,rfl⟩| h)|⟨h1,h2⟩)
    ·exact .inr ⟨.inl ⟨rfl,trivial⟩,rfl⟩
    ·exact .inl h
    ·exact .inr ⟨.inr h1,h2⟩
   ·rintro (h|⟨⟨rfl,_⟩| h1,h2⟩)
    ·exact .inl (.inr h)
    ·exact .inl (.inl ⟨rfl,h2⟩)
    ·exact .inr ⟨h1,h2⟩
  ·have hb:(k == NameKind.free)=false:=by simpa using hk
   simp only [hb,Bool.false_eq_true,if_false,z1d,Prod.mk.injEq]
   constructor
   ·rintro (h|⟨h1,h2⟩)
    ·exact .inl h
    ·exact .inr ⟨.inr h1,h2⟩
   ·rintro (h|⟨⟨_,h⟩| h1,h2⟩)
    ·exact .inl h
    ·exact absurd h.symm hk
    ·exact .inr ⟨h1,h2⟩
theorem fR{β:Type}:∀{l:List (Str×β)} {a:Str} {b:β},l.lookup a=some b->(a,b)∈l
 | [],_,_,h=>by simp at h
 | (k,v)::l,a,b,h=>by
  rw [List.lookup_cons] at h
  split at h
  ·rename_i e
   cases h
   have:a=k:=by simpa using e
   subst this
   exact List.mem_cons_self
  ·exact z21 _ (fR h)
theorem tK{β:Type}:∀{l:List (Str×β)} {a:Str} {b:β},(a,b)∈l->∃b',l.lookup a=some b'
 | [],_,_,h=>by simp at h
 | (k,v)::l,a,b,h=>by
  rw [List.lookup_cons]
  split
  ·exact⟨v,rfl⟩
  ·rename_i e
   rcases z1d.mp h with q|q
   ·cases q
    simp at e
   ·exact tK q
theorem k7{env:Env}:∀{names:List (Str×NameKind)} {y:Str} {k:NameKind},
  (names.map λ(n,k)=>if (k == NameKind.free&&env.scope.kind == .function&&env.kindOf n == some .cell) then (n,NameKind.cell) else (n,k)).lookup y=some k ->
  names.lookup y=some k∨(names.lookup y=some .free/\k=.cell)
 | [],_,_,h=>by simp at h
 | (n,k0)::r,y,k,h=>by
  rw [z19] at h
  by_cases hc:(k0 == NameKind.free&&env.scope.kind == .function&&env.kindOf n == some .cell)=true
  ·simp only [hc,if_true] at h
   rw [List.lookup_cons] at h ⊢
   cases hy:y == n with
   | true =>
    rw [hy] at h
    cases h
    have:k0=.free:=by
     rw [z1b,z1b] at hc
     simpa using hc.1.1
    subst this
    exact .inr ⟨rfl,rfl⟩
   | false =>
    rw [hy] at h
    exact k7 h
  ·rw [Bool.not_eq_true] at hc
   simp only [hc,Bool.false_eq_true,if_false] at h
   rw [List.lookup_cons] at h ⊢
   cases hy:y == n with
   | true =>
    rw [hy] at h
    exact .inl h
   | false =>
    rw [hy] at h
    exact k7 h
theorem tL{env:Env}:∀{names:List (Str×NameKind)} {y:Str},names.lookup y=some .free ->
  (names.map λ(n,k)=>if (k == NameKind.free&&env.scope.kind == .function&&env.kindOf n == some .cell) then (n,NameKind.cell) else (n,k)).lookup y=some .cell ∨
  (names.map λ(n,k)=>if (k == NameKind.free&&env.scope.kind == .function&&env.kindOf n == some .cell) then (n,NameKind.cell) else (n,k)).lookup y=some .free
 | [],_,h=>by simp at h
 | (n,k0)::r,y,h=>by
  rw [z19]
  rw [List.lookup_cons] at h
  cases hy:y == n with
  | true =>
   rw [hy] at h
   cases h
   by_cases hc:(NameKind.free == NameKind.free&&env.scope.kind == .function&&env.kindOf n == some .cell)=true
   ·left;simp only [hc,if_true,List.lookup_cons,hy]
   ·rw [Bool.not_eq_true] at hc
    right;simp only [hc,Bool.false_eq_true,if_false,List.lookup_cons,hy]
  | false =>
   rw [hy] at h
   have ih:=tL (env:=env) h
   by_cases hc:(k0 == NameKind.free&&env.scope.kind == .function&&env.kindOf n == some .cell)=true
   ·simp only [hc,if_true,List.lookup_cons,hy];exact ih
   ·rw [Bool.not_eq_true] at hc
    simp only [hc,Bool.false_eq_true,if_false,List.lookup_cons,hy];exact ih
section
abbrev y9(prog:Program)(w:World)(A:Around)(elt target:Expr)(ifs:List Expr)(env:Env)(it acc:Value)(last:Shared->Prop)(on:Shared->Prop):Shared->Prop :=
 let no:Value->Shared->Prop:=λ_ _=>False
 wpAny (model prog w) A (pyNext it) (λr s1=>match r with
  | none=>last s1
  | some v=>wpAny (model prog w) A (letOwnedTupleGo target it v) (λ_=>wpAny (model prog w) A (assign target env v) (λ_=>wpAny (model prog w) A
    (forIn ifs true λc r=>if r=true then do let ok <- isTrue c env (eval c env);pure (ForInStep.yield ok) else pure (ForInStep.yield r))
    (λok s4=>if ok=true then wpAny (model prog w) A (eval elt env) (λx=>wpAny (model prog w) A (call (.builtin "list.append") [acc,x]) (λ_=>on) no) no s4 else on s4) no) no) no s1) no
def ycc{last on:Shared->Prop}{s:Shared}(h:y9 prog w A elt target ifs env it acc last on s) :
  wpAny (model prog w) A (compTurn (.ListComp elt [⟨target,iter,ifs,0⟩] scope pos) 0 it acc env) (λr t=>r=.done .next/\last t∨r=.again (.compLoop (.ListComp elt [⟨target,iter,ifs,0⟩] scope pos) 0 it acc env)/\on t) (λ_ _=>False) s:=by
 have off:∀{R:Value->Shared->Prop} (e:Value) (t:Shared),False->R e t:=λ_ _ f=>f.elim
 rw [compTurn_list]
 refine za (wpAny_standAt (za (wpAny_mono h (λr s1 k=>?_) off)))
 match r,k with
 | none,k=>exact ze (.inl ⟨rfl,k⟩)
 | some v,k =>
  refine za (wpAny_mono k (λ_ _ k=>za (wpAny_mono k (λ_ _ k=>za (wpAny_mono k (λok s4 k=>?_) off)) off)) off)
  match ok,k with
  | false,k=>exact ze (.inr ⟨rfl,k⟩)
  | true,k=>exact za (za (wpAny_mono k (λ_ _ k=>za (wpAny_mono k (λ_ _ k=>ze (ze (.inr ⟨rfl,k⟩))) off)) off))
def yc0(I:Nat->Shared->Prop)(turn:∀n s,I n s->y9 prog w A elt target ifs env it acc (R (.ok .next)) (λt=>∃m,m<n/\I m t) s)(n:Nat)(h:I n s) :
  codeAny (model prog w) A (.compLoop (.ListComp elt [⟨target,iter,ifs,0⟩] scope pos) 0 it acc env) R s:=by
 refine codeAny_loop rfl I (λn s k=>wpAny_noted ?_) n h
 refine wpAny_mono (ycc (turn n s k)) (λr t k=>?_) λ_ _ f=>f.elim
 rcases k with⟨rfl,k⟩| ⟨rfl,k⟩
 ·exact k
 ·exact⟨rfl,k⟩
end
end PySem
namespace L2
open PySem PySem.Spec PyProof.Rows
section
structure ya where
 fp:List Addr
 s:Shared
 H:Hp
 C:Addr
 pins:List (Addr×Obj)
abbrev dN(X:Cx)(scope:Scope)(N:List Str)(z:ya):Cx :=
 { X with N:=N,s₀:=z.s,H₀:=z.H,env:=compEnvC scope (oi scope.names X.env) z.C X.env,outer:=X.stack,ex:=z.fp,fn:=λ_=>false,pn:=X.pn++z.pins,xe:=λ_ _=>False }
structure CompOk(X:Cx)(scope:Scope)(x:Str)(ys:List Str)(ix:List Nat):Prop where
 kind:scope.kind=.function
 hx:scope.names.lookup x=some .local
 y291:∀p∈scope.names,p.2≠.cell
 names:∀p∈scope.names,p.2=.local->scope.names.lookup p.1=some .local
 fr:∀p∈scope.names,p.2=.free->X.env.kindOf p.1=some .cell∨X.env.kindOf p.1=some .free
 len:ys.length=ix.length
 here:∀(j:Nat) (y:Str) (i:Nat),ys[j]?=some y->ix[j]?=some i->scope.names.lookup y=some .free/\X.N[i]?=some y
 nd:(x::ys).Nodup
abbrev nc(X:Cx)(ifs:List Expr)(t:TT):Prop :=
 ∀(pins:List (Addr×Obj)) (s:Shared) (σ:St) (H:Hp) (Q:Bool->Hp->Prop),Inv X pins σ H s->t σ H Q ->
  wpAny (model X.prog X.w) X.A (forIn ifs true λc r=>if r=true then do let ok <- isTrue c X.env (eval c X.env);pure (ForInStep.yield ok) else pure (ForInStep.yield r)) (TP X pins σ Q) X.xe s
abbrev tM:TT:=λ_ H Q=>Q true H
def CO:nc X [] tM:=λpins s σ H Q I h=>wpAny_tests_nil ⟨H,I,h⟩
def CP (h:PT X c t):nc X [c] t:=λpins s σ H Q I q=>wpAny_tests_one (h pins s σ H Q I q)
section
def ycd   (I:Inv X pins σ H s)(f:iC X pins H C)(hs:Heap.SameBut C s.heap h'):Inv X pins σ H { s with heap:=h' } :=
 I.turned (λb o hb e=>(hs.2 b hb).trans e) f.1 f.2.1 f.2.2.2.1 f.2.2.2.2.1 f.2.2.2.2.2
end
section
end
abbrev Av(z:Str):It:=⟨λi _=>i<z.cps.size,λi H x H'=>H'=H/\∃c,z.cps[i]?=some c/\x=.str ⟨#[c]⟩,λi _=>z.cps.size≤i⟩
def CQ{P:Program}{w:World}{K:W.Frag}{tg:Expr}{ty:String}(hty:ty="str_ascii_iterator"∨ty="str_iterator")(z:Str)(t:Tok)(it:Addr):Turn P w K tg (Av z) [it] it (λi h=>h.IsStrIter it ty z t i) where
 mem:=by simp
 obj:=λi h st b hb=>by
  have e:b=it:=by simpa using hb
  subst e
  obtain⟨o,e,c,d⟩:=st
  exact⟨o,e,λv q=>by rw [d] at q;cases q⟩
 keep:=λi h h' st k=>by
  obtain⟨o,e,r⟩:=st
  exact⟨o,k it (by simp) o e,r⟩
 item:=by
  intro X hP hw hK hc i pins s σ H E I hf st hg
  subst hP hw hK
  obtain⟨f0,f1,f2,f3,f4,f5⟩:=hf it (by simp)
  have hn:["enumerate","zip","dict_itemiterator","dict_reverseitemiterator","odict_iterator","itertools.zip_longest","itertools.pairwise"].contains ty=false:=by rcases hty with rfl|rfl<;>decide
  have fin:∀(v:Value) (h':Heap) (tk:Nat),SignAt z i v->h'.IsStrIter it ty z t (i+1)->(∀b o,b∉[it]->s.heap.get? b=some o->h'.get? b=some o) ->
    ∃u,some v=some u/\wpAny (model X.prog X.w) X.A (letOwnedTupleGo tg (.ref it) u) (λ_ s2=>∃x H',Inv X pins σ H' s2/\ay x u/\(Av z).yld i H x H'/\s2.heap.IsStrIter it ty z t (i+1)/\∀b∈[it],H' b=none) E { s with heap:=h',toks:=tk }:=by
   intro v h' tk hv st' kk
   obtain⟨c,u,hc',rfl⟩:=hv
   have I1:Inv X pins σ H { s with heap:=h',toks:=tk }:=I.turned (λb o hb e=>kk b o (by simpa using hb) e) f0 f1 f3 f4 f5
   obtain⟨o,e,c1,d⟩:=id st'
   exact⟨_,rfl,kJ e c1 d hn ⟨.str ⟨#[c]⟩,H,I1,⟨u,rfl⟩,⟨rfl,c,hc',rfl⟩,st',λb hb=>(hf b hb).1⟩⟩
  rcases hty with rfl|rfl
  ·exact (Walks.strAscii (I.ok.hd hc) it z t).item i s _ _ hg st fin
  ·exact (Walks.strWide (I.ok.hd hc) it z t).item i s _ _ hg st fin
 done:=by
  intro X hP hw hK hc i pins s σ H E I hf st hg
  subst hP hw hK
  obtain⟨f0,f1,f2,f3,f4,f5⟩:=hf it (by simp)
  have hx:z.cps[i]?=none:=Array.getElem?_eq_none hg
  rcases hty with rfl|rfl
  ·exact wpAny_pyNext_ascii_end (I.ok.hd hc) st hx λh' eb=>⟨rfl,I.turned (λb o hb e=>eb b o hb e) f0 f1 f3 f4 f5⟩
  ·exact wpAny_pyNext_wide_end (I.ok.hd hc) st hx λh' eb=>⟨rfl,I.turned (λb o hb e=>eb b o hb e) f0 f1 f3 f4 f5⟩
 self:=λ_ _ _ _ _ st h=>by
  rcases hty with rfl|rfl
  ·exact wpAny_pyIter_striter_ascii st h
  ·exact wpAny_pyIter_striter_wide st h
section
abbrev CS(tl:TE):TI:=λσ H R=>tl σ H λx H1=>∃z,x=.str z/\R (Av z) H1
def CT{l:Expr}{tl:TE}(hl:PE X l tl):PI X tg l (CS tl):=by
 intro pins s σ H R I h
 refine aN (hl pins s σ H _ I h) λv s1 zz=>?_
 obtain⟨x,H1,I1,r1,q1⟩:=zz
 obtain⟨z,e,q⟩:=q1
 subst e
 obtain⟨t,rfl⟩:=r1
 have fin:∀ty:String,(ty="str_ascii_iterator"∨ty="str_iterator")->Bx X pins σ tg R (.ref s1.heap.objs.size) { s1 with heap:=s1.heap.push { cls:=.type ty,data:=.fields #[.str z t,.int 0 0] } }:=λty hty=>by
  refine⟨s1.heap.objs.size,[s1.heap.objs.size],_,_,H1,rfl,I1.kept λb o e=>zd _ e,CQ hty z t _,⟨_,z22 _ rfl,rfl,rfl⟩,λb hb=>?_,q⟩
  have e:b=s1.heap.objs.size:=by simpa using hb
  subst e
  exact I1.y16b (z12 _) (I1.hok.fresh (z12 _))
 cases ha:z.cps.all (· < 128)
 ·exact wpAny_pyIter_wide ha (fin _ (.inr rfl))
 ·exact wpAny_pyIter_ascii ha (fin _ (.inl rfl))
end
section
end
end
end L2
namespace PySem
open PyProof.Rows
def CU:typeLookup (.type "list_reverseiterator") "__len__" = pure none:=by rw [typeLookup_type,builtinLookup_eq_fast];kernel_rfl
def CV:typeLookup (.type "list_reverseiterator") "__length_hint__" = pure (some (.builtin "list_reverseiterator.__length_hint__")):=by rw [typeLookup_type,builtinLookup_eq_fast];kernel_rfl
section
def tO(hT:s.TypeIs (.ref r) "list_reverseiterator")(h:Q false s):wpAny (model prog w) A (Builtin.List.listLengthHint (.ref r)) Q E s:=by
 have isa:isSubtype (.type "list_reverseiterator") (.type "list_reverseiterator")=pure true:=by rw [isSubtype_type];kernel_rfl
 have cut:splitId "list_reverseiterator.__length_hint__" = some ("list_reverseiterator","__length_hint__"):=by decide +kernel
 unfold Builtin.List.listLengthHint
 refine za (wpAny_specialOf hT CU (za (wpAny_specialOf hT CV ?_)))
 dsimp only
 rw [cut]
 refine za (wpAny_isInstance hT isa ?_)
 rw [if_neg (by decide),if_pos (by decide +kernel),if_neg (by decide +kernel)]
 exact ze h
abbrev y46(s:Shared):Value->Shared->Prop:=λv t=>v=.ref s.heap.objs.size/\t={ s with heap:=s.heap.push { cls:=.type "list",data:=.seq #[] } }
def yab (hh:A.handled=none)(hl:s.heap.IsList l items)(hne:l≠it)(hi:s.heap.IsRevIter it l ((items.size:Int)-1))(hn:items.size≤sizeLine)
  (hQ:∀h' tk acc c,(∀b o,b≠it->s.heap.get? b=some o->h'.get? b=some o)->h'.get? s.heap.objs.size=some { cls:=.type "list",dict:=none,data:=.seq acc c,slots:=#[] } ->
   ItemsOf (λi v=>items[items.size-1-i]?=some v) acc items.size->Q (.ref s.heap.objs.size) { s with heap:=h',toks:=tk }) :
  wpAny (model prog w) A (call (.type "list") [.ref it]) Q E s:=by
 refine callType_codes (Q₁:=y46 s) PySem.F.called_list (PySem.F.typeCall_list_1 _) PySem.F.entry_list_init (code_list_new _ ⟨rfl,rfl⟩) ?_
 rintro _ _ ⟨rfl,rfl⟩
 have hS:=z22 s.heap (o:={ cls:=.type "list",data:=.seq #[] }) rfl
 have below:∀{b o},s.heap.get? b=some o->b<s.heap.objs.size:=z14
 have hlt:l<s.heap.objs.size:=hl.elim λ_ q=>below q.1
 have hit:it<s.heap.objs.size:=hi.elim λ_ q=>below q.1
 refine⟨⟨_,hS,rfl⟩,PySem.F.args_list_init_2 _ _,?_⟩
 show wpAny _ _ (do let old <- Builtin.List.listItems (.ref s.heap.objs.size);Builtin.List.listUpdate (.ref s.heap.objs.size) (λ_=>#[]);letGo old.toList.reverse;Builtin.List.listExtendWith (.ref s.heap.objs.size) (.ref it) .none) _ _ _
 refine za ?_
 unfold Builtin.List.listItems
 refine za (wpAny_seqItems hS rfl (ze ?_))
 show wpAny _ _ (updateSeq s.heap.objs.size (λ_=>#[]) >>= λ_=>letGo (#[]:Array Value).toList.reverse >>= λ_=>Builtin.List.listExtendWith (.ref s.heap.objs.size) (.ref it) .none) _ _ _
 refine za (wpAny_updateSeq hS rfl ?_)
 have hS₂:=Heap.get?_update_self (Obj.mapSeq (λ_=>(#[]:Array Value))) hS rfl
 generalize hh2:(s.heap.push { cls:=.type "list",data:=.seq #[] }).update s.heap.objs.size (Obj.mapSeq (λ_=>(#[]:Array Value)))=h2 at hS₂ ⊢
 have oth:∀b o,s.heap.get? b=some o->h2.get? b=some o:=λb o e=>by
  rw [<- hh2]
  exact (Heap.get?_update_other _ _ (Nat.ne_of_gt (z14 e))).trans (zd _ e)
 refine za (wpAny_letGo ?_)
 have hl2:h2.IsList l items:=hl.at λo e=>oth l o e
 have hi2:h2.IsRevIter it l ((items.size:Int)-1):=hi.at λo e=>oth it o e
 have hSI:s.heap.objs.size≠it:=Nat.ne_of_gt hit
 have W:=Walks.listRev (prog:=prog) (w:=w) (A:=A.in1.in1) hh it l hne items
 have st:(λi (h:Heap)=>i≤items.size/\h.IsRevIter it l ((items.size:Int)-1-(i:Int))/\h.IsList l items) 0 h2:=⟨Nat.zero_le _,by simpa using hi2,hl2⟩
 unfold Builtin.List.listExtendWith
 have hT:({ s with heap:=h2 }:Shared).TypeIs (.ref it) "list_reverseiterator":=hi2.typeIs
 refine za (wpAny_typeOf hT ?_)
 have h1:Builtin.List.listSameRef (.ref s.heap.objs.size) (.ref it)=false:=by simp [Builtin.List.listSameRef,hSI]
 have h2':(Value.type "list_reverseiterator" == Value.type "list")=false:=by decide
 have h3:(Value.type "list_reverseiterator" == Value.type "tuple")=false:=by decide
 simp only [h1,h2',h3,Bool.or_false,Bool.false_eq_true,if_false]
 refine za (wpAny_pyIter_revIter hi2 ?_)
 refine za (wpAny_holding (tO hT ?_))
 have hSf:s.heap.objs.size∉[it,l]:=by simp only [z1d,List.not_mem_nil,or_false,not_or];exact⟨hSI,Nat.ne_of_gt hlt⟩
 have key:∀(h:Heap) (c₁:Nat),(λi (h:Heap)=>i≤items.size/\h.IsRevIter it l ((items.size:Int)-1-(i:Int))/\h.IsList l items) 0 h->(∀b o,s.heap.get? b=some o->h.get? b=some o) ->
   h.get? s.heap.objs.size=some { cls:=.type "list",data:=.seq #[] c₁ }->codeAny (model prog w) A.in1 (.builtin "list.extend.loop" ⟨[.ref s.heap.objs.size,.ref it,.none],[]⟩) (wants (λr s₂=>r=.none/\Q (.ref s.heap.objs.size) s₂) E) { s with heap:=h }:=by
  intro h c₁ hst hk hS₁
  refine codeAny_extend_loopS W.toS hn s.heap.objs.size hSf .none items.size 0 _ #[] c₁ rfl (Nat.zero_le _) hst hS₁ (ItemsOf.nil _) λs' y5b c' hm hS' y1a5=>?_
  rw [Moved.eq_with hm]
  refine⟨rfl,hQ s'.heap s'.toks y5b c' (λb o hb e=>hm.heap b o (λy1b8=>?_) (hk b o e)) hS' y1a5⟩
  rcases z1d.mp y1b8 with e'|y1b8
  ·exact absurd (z14 e) (by rw [e'];exact z2e _)
  ·exact hb (z15.mp y1b8)
 refine wpAny_ite_split (λ_=>?_) (λ_=>ze ⟨plainId_quiet PySem.F.plain_extend_loop _,key _ _ st oth hS₂⟩)
 refine za (wpAny_rule ?_)
 refine za ?_
 show wpAny _ _ (updateSeq s.heap.objs.size (·.push .none) >>= λ_=>updateSeq s.heap.objs.size (·.pop)) _ _ _
 refine za (wpAny_updateSeq hS₂ rfl ?_)
 have hS₃:=Heap.get?_update_self (Obj.mapSeq (·.push Value.none)) hS₂ rfl
 refine wpAny_updateSeq hS₃ rfl ?_
 have hS₄:=Heap.get?_update_self (Obj.mapSeq (·.pop)) hS₃ rfl
 have oth2:=((Heap.SameBut.update h2 s.heap.objs.size (Obj.mapSeq (·.push Value.none))).trans (Heap.SameBut.update _ _ (Obj.mapSeq (·.pop)))).extBut
 refine ze ⟨plainId_quiet PySem.F.plain_extend_loop _,key _ _ ?_ (λb o e=>oth2 b o (z28 (z14 e)) (oth b o e)) hS₄⟩
 exact W.frame 0 _ _ st λb hb o e=>oth2 b o (λz=>hSf (z ▸ hb)) e
end
end PySem
namespace L2
open PySem PySem.Spec PyProof.Rows
section
section
def CW(hc:X.calm=true)(gl:Gl X "list")(ml:X.mg "list" = none)(gr:Gl X "reversed")(mr:X.mg "reversed" = none)(he:PE X e te)
  (hs1:‹starEach [e] X.env=[(false,eval e X.env)]›)
  (hs2:‹starEach [.Call (.Name "reversed" p2) [e] [] q2] X.env=[(false,eval (.Call (.Name "reversed" p2) [e] [] q2) X.env)]›) :
  PE X (.Call (.Name "list" p1) [.Call (.Name "reversed" p2) [e] [] q2] [] q1) (λσ H Q=>te σ H λx H1=>∃l ys,x=.ref l/\bu X.K H1 l ys/\∀p,H1 p=none->Q (.ref p) (upd H1 p (.lst ys.reverse))):=by
 intro pins s σ H Q I h
 refine Call_ (gN I gl ml PyProof.Rows.boot_list (PyProof.Rows.callWith_type1 ?_ (by rw [hs2];rfl) rfl))
 rw [hs2]
 show wpAny _ _ (spliced ((false,eval (.Call (.Name "reversed" p2) [e] [] q2) X.env)::backTo q1 [])) _ _ s
 refine Calls.spliced_cons ?_
 refine Call_ (gN I gr mr PyProof.Rows.boot_reversed (PyProof.Rows.callWith_type1 ?_ (by rw [hs1];rfl) rfl))
 rw [hs1]
 show wpAny _ _ (spliced ((false,eval e X.env)::backTo q2 [])) _ _ s
 refine Calls.spliced_cons (aN (he pins s σ H _ I h) λu s1 ⟨x,H1,I1,r1,q1⟩=>Calls.spliced_nil ?_)
 obtain⟨l,ys,e1,hq,q⟩:=q1
 subst e1
 cases r1
 obtain⟨its,rv,p,hz⟩:=I1.list hq
 have hlen:=rv.length
 refine call_reversed_list p.isList (Calls.spliced_nil ?_)
 have hl1:(s1.heap.push (revObj l ((its.toArray.size:Int)-1))).IsList l its.toArray:=p.isList.push _
 have hlt:l<s1.heap.objs.size:=by obtain⟨_,e,_⟩:=p.isList;exact z14 e
 refine yab (I1.ok.hd hc) hl1 (z28 hlt) ⟨_,z22 _ rfl,rfl,rfl⟩ (by rw [zf,<- hlen];exact hz) λh' tk acc c hk hD y1a5=>?_
 have hk':∀b o,s1.heap.get? b=some o->h'.get? b=some o:=λb o e=>hk b o (z28 (z14 e)) (zd _ e)
 have hsz:s1.heap.objs.size≤(s1.heap.push (revObj l ((its.toArray.size:Int)-1))).objs.size:=by rw [Heap.size_push];exact Nat.le_succ _
 have hv:acc.toList=its.reverse:=by
  refine List.ext_getElem? λi=>?_
  by_cases hi:i<its.length
  ·have hi2:i<acc.size:=by rw [y1a5.1,zf];exact hi
   have e:=y1a5.2 i acc[i] (Array.getElem?_eq_getElem hi2)
   rw [List.getElem?_reverse hi,Array.getElem?_toList,Array.getElem?_eq_getElem hi2]
   simpa using e.symm
  ·rw [List.getElem?_eq_none (by rw [Array.length_toList,y1a5.1,zf];lia),List.getElem?_eq_none (by rw [z2c];lia)]
 refine⟨.ref _,_,I1.laid hk' hsz ?_,rfl,q _ (I1.hok.fresh hsz)⟩
 exact⟨by rw [z2c];exact hz,acc.toList,c,by rw [hv];exact rv.reverse,by rw [Array.toArray_toList];exact hD⟩
def CY:bT X (binaryOp .FloorDiv) (rI (λ_ j=>0<j/\j<2 ^ 200) λi j=>.int (i / j)):=rR λi j _ _ _ _ _ hc q=>by
 have h0:j≠0:=by lia
 refine floordiv_int h0 ?_ (.inl (PyProof.noPylong_of_log2 ?_))
 ·rw [Int.fdiv_eq_ediv_of_nonneg _ (by lia)];exact q
 ·have:j.natAbs<2 ^ 200:=by lia
  have h1:j.natAbs≠0:=by lia
  exact z35 ((Nat.log2_lt h1).mpr this) (by decide)
theorem y91:∀{bs:List Bool} {us:List Value},au (bs.map V.bl) us->us=bs.map Value.bool
 | [],_,r=>by rw [List.map_nil] at r;cases r;rfl
 | b::bs,_,r=>by
  rw [z19] at r
  cases r with
  | cons r1 r2=>rw [z19,<- y91 r2];cases (show _=Value.bool b from r1);rfl
def ya2(hc:X.calm=true):y6 X (.builtin "all") (λxs H Q=>∃(p:Addr) (bs:List Bool),xs=[.ref p]/\bu X.K H p (bs.map V.bl)/\Q (.bl (bs.all id)) H):=by
 intro pins s σ H xs us Q I r h
 obtain⟨p,bs,rfl,hq,q⟩:=h
 obtain⟨u,rfl,ru⟩:=cb r
 cases ru
 obtain⟨its,rv,pl,hz⟩:=I.list hq
 have hits:=y91 rv
 have hlt:p<s.heap.objs.size:=by obtain⟨_,e,_⟩:=pl.isList;exact z14 e
 refine call_all_walk (wpAny_pyIter_list pl.isList ?_)
 refine⟨s.heap.objs.size,[s.heap.objs.size,p],[s.heap.objs.size],its.toArray.size,_,_,λi=>(bs[i]?).getD true,rfl,Walks.list (A:=X.A.in1) (I.ok.hd hc) _ p (z28 hlt) its.toArray,
  ⟨⟨_,z22 _ rfl,rfl,rfl⟩,pl.isList.push _⟩,λi v s' Q' E' hP hQ=>?_,λh' tk hk=>?_⟩
 ·have e:(bs.map Value.bool)[i]?=some v:=by rw [<- hits];simpa using hP
  rw [List.getElem?_map] at e
  cases eb:bs[i]? with
  | none=>rw [eb] at e;cases e
  | some b =>
   rw [eb] at e
   cases (show Value.bool b=v from z20 e)
   simp only [eb,Option.getD_some] at hQ
   exact wpAny_truthy_bool hQ
 ·have e:((List.range its.toArray.size).all λi=>(bs[i]?).getD true)=bs.all id:=by
   rw [zf,hits,z11];exact PyProof.Rows.LSm.range_all bs
  rw [e]
  refine⟨.bl (bs.all id),H,I.kept λb o eo=>hk b o (λhm=>?_) (zd _ eo),rfl,q⟩
  rw [z15.mp hm] at eo
  exact z2e _ (z14 eo)
theorem tP:∀{ys:List Str} {us:List Value},au (ys.map V.str) us->StrsAre us ys
 | [],_,r=>by rw [List.map_nil] at r;cases r;exact .nil
 | y::ys,_,r=>by
  rw [z19] at r
  cases r with
  | cons r1 r2 =>
   obtain⟨t,rfl⟩:=r1
   exact .cons y t (tP r2)
abbrev ng(K:W.Frag):V->List V->Hp->VK->Prop:=λx vs H Q=>∃(z:Str) (p:Addr) (ys:List Str),x=.str z/\vs=[.ref p]/\bu K H p (ys.map V.str)/\(ys.map (·.length)).sum+ys.length*z.length≤16777216/\Q (.str (Txt.join z ys)) H
def CZ:sS X "str.join" (ng X.K):=by
 intro pins s σ H x xs v us Q I rx r h
 obtain⟨z,p,ys,rfl,rfl,hq,hz,q⟩:=h
 obtain⟨t,rfl⟩:=rx
 obtain⟨u,rfl,ru⟩:=cb r
 cases ru
 obtain⟨its,rv,pl,_⟩:=I.list hq
 exact join_list pl.isList (tP (by simpa using rv)) hz λt' k=>⟨.str (Txt.join z ys),H,I.tok _,⟨_,rfl⟩,q⟩
end
end
end L2
namespace L2
open PySem PySem.Spec PyProof.Rows Builtin.Str
section
section
abbrev tQ:V->Option Int->Option Int->Hp->VK->Prop:=λx lo hi H Q=>∃z,x=.str z/\z.length≤sizeLine/\Q (.str (Txt.slice z lo hi)) H
def C5:kR X tQ:=by
 intro pins s σ H x v vl vu lo hi sl Q I rx hs pl pu h
 obtain⟨z,rfl,hz,q⟩:=h
 obtain⟨t,rfl⟩:=rx
 refine⟨"str",_,PySem.F.slot_str_getitem.lookup,typeIs_str _ _ _,?_⟩
 cases pl with
 | none =>
  cases pu with
  | none=>exact wpAny_getItem_str_slice (l:=none) (u:=none) (st:=none) hs rfl (post_val_or_str ⟨z1c (Txt.slice_le z _ _) hz,λt' k=>⟨.str (Txt.slice z none none),H,I.tok _,⟨_,rfl⟩,q⟩⟩)
  | int j uj=>exact wpAny_getItem_str_slice (l:=none) (u:=some (j,uj)) (st:=none) hs rfl (post_val_or_str ⟨z1c (Txt.slice_le z _ _) hz,λt' k=>⟨.str (Txt.slice z none (some j)),H,I.tok _,⟨_,rfl⟩,q⟩⟩)
 | int i ui =>
  cases pu with
  | none=>exact wpAny_getItem_str_slice (l:=some (i,ui)) (u:=none) (st:=none) hs rfl (post_val_or_str ⟨z1c (Txt.slice_le z _ _) hz,λt' k=>⟨.str (Txt.slice z (some i) none),H,I.tok _,⟨_,rfl⟩,q⟩⟩)
  | int j uj=>exact wpAny_getItem_str_slice (l:=some (i,ui)) (u:=some (j,uj)) (st:=none) hs rfl (post_val_or_str ⟨z1c (Txt.slice_le z _ _) hz,λt' k=>⟨.str (Txt.slice z (some i) (some j)),H,I.tok _,⟨_,rfl⟩,q⟩⟩)
def C6:bT X (binaryOp .Mult) (λx y H Q=>∃z n,x=.str z/\y=.int n/\MulOk z n/\Q (.str (Txt.mul z n)) H):=by
 intro pins s σ H x y v u Q I rx ry h
 obtain⟨z,n,rfl,rfl,hm,q⟩:=h
 obtain⟨t,rfl⟩:=rx
 obtain⟨t',rfl⟩:=ry
 exact SB.mul hm λt' k=>⟨.str (Txt.mul z n),H,I.tok _,⟨_,rfl⟩,q⟩
def ya6:y6 X (.builtin "isinstance") (λxs H Q=>∃x t n b,xs=[x,.ty n]/\y52 X.K H x t/\W.kitOne X.K t (.type n)=some b/\Q (.bl b) H):=by
 intro pins s σ H xs us Q I r h
 obtain⟨x,t,n,b,rfl,ty,hk,q⟩:=h
 obtain⟨u,w',rfl,ru,rw'⟩:=jo r
 cases (show w'=Value.type n from rw')
 exact BV I ru ty hk λtk=>⟨.bl b,H,I.tok _,rfl,q⟩
abbrev oj:List V->List V->Bool
 | [],[]=>true
 | x::xs,y::ys=>gU x y&&oj xs ys
 | _,_=>false
def C7(n:Nat)(f:Nat->Bool):(List.range (n+1)).all f=(f 0&&(List.range n).all λj=>f (j+1)):=by
 rw [List.range_succ_eq_map,List.all_cons,List.all_map];rfl
abbrev Kx(K:W.Frag)(neg:Bool):R2:=λx y H Q=>∃a b xs ys,x=.ref a/\y=.ref b/\bu K H a xs/\bu K H b ys/\xs.all bj=true/\ys.all bj=true/\Q (.bl (if neg then !oj xs ys else oj xs ys)) H
end
abbrev bO(P:Program)(w:World)(K:W.Frag)(mg:Str->Option Value)(base:Heap)(x:Str)(k:Nat)(ps:List Str)(sp:Sp):Prop :=
 ∃(f:Addr) (fd:FuncData),mg x=some (.ref f)/\W.keepIn K (.ref f)=true/\cP K fd ps []/\y3f P w K mg base bG k f fd ps sp
def C8    (h:bO X.prog X.w X.K X.mg X.base x k ps sp)(hr:y4d k X.A)(hg:Gl X x)(ha:PA X (e::es) t)
  (hdb:(x == ("__debug__" : Str))=false:=by decide) (he:‹fM X e es›) (hpl:‹eW X pos es›) :
  PE X (.Call (.Name x p) (e::es) [] pos) (eV sp [] E0 t):=by
 obtain⟨f,fd,hm,hk,hb,G⟩:=h
 exact nZ G hr hg hm hk hb .nil tJ ha hdb he hpl
end
end L2
namespace L2
open PySem PySem.Spec PyProof.Rows
section
abbrev c8(n:Nat)(ix:List Nat)(σ:St):St:=List.replicate n none++ix.map λi=>(σ[i]?).getD none
structure yc(X:Cx)(scope:Scope)(xs ys:List Str)(ix:List Nat):Prop where
 kind:scope.kind=.function
 hx:∀x∈xs,scope.names.lookup x=some .local
 y291:∀p∈scope.names,p.2≠.cell
 names:∀p∈scope.names,p.2=.local->scope.names.lookup p.1=some .local
 fr:∀p∈scope.names,p.2=.free->X.env.kindOf p.1=some .cell∨X.env.kindOf p.1=some .free
 len:ys.length=ix.length
 here:∀(j:Nat) (y:Str) (i:Nat),ys[j]?=some y->ix[j]?=some i->scope.names.lookup y=some .free/\X.N[i]?=some y
 nd:(xs++ys).Nodup
abbrev C9(osc:Scope)(N:List Str)(scope:Scope)(xs ys:List Str)(ix:List Nat):Bool :=
 decide (scope.kind=.function)&&xs.all (λx=>decide (scope.names.lookup x=some .local))&&scope.names.all (λp=>decide (p.2≠.cell)) &&
 scope.names.all (λp=>decide (p.2=.local->scope.names.lookup p.1=some .local)) &&
 scope.names.all (λp=>decide (p.2=.free->osc.names.lookup p.1=some .cell∨osc.names.lookup p.1=some .free)) &&
 decide (ys.length=ix.length)&&(ys.zip ix).all (λp=>decide (scope.names.lookup p.1=some .free/\N[p.2]?=some p.1))&&decide ((xs++ys).Nodup)
def yc6  (hsc:X.env.scope=osc)(hN:X.N=N)(h:C9 osc N scope xs ys ix=true):yc X scope xs ys ix:=by
 unfold C9 at h
 simp only [z1b,z33,decide_eq_true_eq] at h
 obtain⟨⟨⟨⟨⟨⟨⟨h1,h2⟩,h3⟩,h4⟩,h5⟩,h6⟩,h7⟩,h8⟩:=h
 refine⟨h1,h2,h3,h4,λp hp hf=>?_,h6,λj y i e1 e2=>?_,h8⟩
 ·have:=h5 p hp hf
  unfold Env.kindOf
  rw [hsc]
  exact this
 ·rw [hN]
  refine h7 (y,i) ?_
  have:(ys.zip ix)[j]?=some (y,i):=by rw [List.getElem?_zip_eq_some];exact⟨e1,e2⟩
  exact z34 this
abbrev y45(n:Nat)(ix:List Nat)(σ σ':St):Prop:=σ'.length=n+ix.length/\∀(j:Nat) v,(c8 n ix σ)[j]?=some (some v)->σ'[j]?=some (some v)
def tR(n:Nat)(ix:List Nat)(σ:St):(c8 n ix σ).length=n+ix.length:=by
 unfold c8
 rw [zc,List.length_replicate,z11]
def Dc  (h:j<n)(v:V):(c8 n ix σ)[j]?≠some (some v):=by
 unfold c8
 rw [z25 (by rw [List.length_replicate];exact h),List.getElem?_replicate,if_pos h]
 intro e
 have:(none:Option V)=some v:=z20 e
 cases this
def yc9  (O:yc X scope xs ys ix)
  (I:Inv X pins σ H s) (hf:∀b∈fp,iC X pins H b) (hfl:∀b∈fp,b<s.heap.objs.size) (m:Str->Option Value)
  (hns:h'.Ns s.heap.objs.size m) (hk:∀b o,s.heap.get? b=some o->h'.get? b=some o) :
  Inv (dN X scope (xs++ys) ⟨fp,s,H,s.heap.objs.size,pins⟩) [] (c8 xs.length ix σ) H { s with heap:=h',toks:=t' }:=by
 have hC:H s.heap.objs.size=none:=I.hok.fresh (z12 _)
 have cl:∀y c,(oi scope.names X.env).lookup y=some c->X.env.cells.lookup y=some c:=λy c e=>by
  rcases (k6).mp (fR e) with z|⟨z,rfl⟩
  ·simp at z
  ·obtain⟨c',e'⟩:=I.ok.has y (O.fr _ z rfl)
   rw [e'];rfl
 have clh:∀y,(y,NameKind.free)∈scope.names->∃c,(oi scope.names X.env).lookup y=some c:=λy z=>tK ((k6).mpr (.inr ⟨z,rfl⟩))
 refine⟨⟨I.ok.mod,O.kind,I.ok.glob,I.ok.blt,z12 _,λy z c h1 h2=>I.ok.inj y z c (cl y c h1) (cl z c h2),λy hy=>?_,λy c h _=>?_,I.ok.hd,I.ok.frames,.inl rfl,
  λb hb=>⟨z28 (hfl b hb),λy c e=>(hf b hb).2.2.2.2.1 y c (cl y c e)⟩,I.bs,z1c I.ok.bsz I.sz,λb o e hb=>?_,λb hb hb2=>?_,I.stack,I.y465⟩,
  rfl,I.bare,Un.kept hk,⟨m,hns,λi y v e1 e2 vis=>?_⟩,λy c e=>?_,hC,λy c e=>I.y16c y c (cl y c e),λp hp=>?_,I.hok.kept hk,?_⟩
 ·rcases hy with h|h
  ·rcases k7 h with q|⟨q,_⟩
   ·exact absurd rfl (O.y291 _ (fR q))
   ·exact clh y (fR q)
  ·rcases k7 h with q|⟨q,e⟩
   ·exact clh y (fR q)
   ·cases e
 ·exact Bool.noConfusion (show false=true from h)
 ·rcases (hf b hb).2.2.2.1 with z|z
  ·exact I.ok.y293 b o e z
  ·exact absurd (z1f (z1f (z14 e) I.ok.bsz) z) (z2e _)
 ·exact (z1d.mp (I.y466 b hb2)).elim (λe=>(hf b hb).2.1 e) λz=>(hf b hb).2.2.1 z
 ·have hil:xs.length≤i:=Nat.le_of_not_lt λq=>Dc q v e2
  obtain⟨j,rfl⟩:=Nat.exists_eq_add_of_le hil
  have ey:ys[j]?=some y:=by
   have e1':(xs++ys)[xs.length+j]?=some y:=e1
   rw [z23 (Nat.le_add_right _ _),Nat.add_sub_cancel_left] at e1'
   exact e1'
  have e2':(ix.map λi=>(σ[i]?).getD none)[j]?=some (some v):=by
   have e2'':(c8 xs.length ix σ)[xs.length+j]?=some (some v):=e2
   unfold c8 at e2''
   rw [z23 (by rw [List.length_replicate];exact Nat.le_add_right _ _),List.length_replicate,Nat.add_sub_cancel_left] at e2''
   exact e2''
  rw [List.getElem?_map] at e2'
  cases hi:ix[j]? with
  | none=>rw [hi] at e2';cases e2'
  | some i =>
   rw [hi] at e2'
   have e3:(σ[i]?).getD none=some v:=z20 e2'
   obtain⟨y1b1,hN⟩:=O.here j y i ey hi
   have ev:σ[i]?=some (some v):=by
    cases h:σ[i]? with
    | none=>rw [h] at e3;cases e3
    | some q=>rw [h] at e3;exact congrArg some e3
   obtain⟨m',_,hl⟩:=I.loc
   have hkx:=O.fr (y,.free) (fR y1b1) rfl
   obtain⟨u,r,l⟩:=hl i y v hN ev (hkx.elim (λz=>.inr (.inl z)) λz=>.inr (.inr z))
   refine⟨u,r,.inr ⟨tL y1b1,?_⟩⟩
   obtain⟨c,ec⟩:=clh y (fR y1b1)
   rcases l with⟨k,_⟩| ⟨_,c',ec',z⟩
   ·rcases hkx with q|q
    ·rw [q] at k;cases k
    ·rw [q] at k;cases k
   ·have:c=c':=z20 ((cl y c ec).symm.trans ec')
    subst this
    exact⟨c,ec,z.keeps hk⟩
 ·obtain⟨v,z⟩:=I.cell y c (cl y c e)
  exact⟨v,z.keeps hk⟩
 ·have hp':p∈(X.pn++pins)++([]:List (Addr×Obj)):=hp
  rw [z10] at hp'
  obtain⟨e,n,ne,nf,d⟩:=I.pin p hp'
  exact⟨hk _ _ e,n,z28 (z14 e),λz=>(z1d.mp (I.y466 _ z)).elim ne nf,d⟩
 ·show (c8 xs.length ix σ).length=(xs++ys).length
  rw [tR,zc,O.len]
abbrev yd(n:Nat)(ix:List Nat)(J:It)(g:ya->TG)(tt:ya->TT)(te:ya->TE)(σ:St)(Q:VK)(H1:Hp):Prop :=
 ∀D,H1 D=none->∃W:Nat->Nat->List V->Hp->Prop,(∃m,W 0 m [] (upd H1 D (.lst [])))/\∀i m ys H2,W i m ys H2->H2 D=some (.lst ys) /\
  ((J.stop i H2/\Q (.ref D) H2)∨(J.go i H2/\ys.length<sizeLine/\∃N:List V->Hp->Prop,(∀ys' H',N ys' H'->∃m',m'<m/\W (i+1) m' ys' H') /\
   ∀x H3,J.yld i H2 x H3->∀z,g z x (c8 n ix σ) H3 λσ' H3'=>y45 n ix σ σ'/\tt z σ' H3' λb H4 =>
    if b=true then te z σ' H4 λy H5=>H5 D=some (.lst ys)/\N (ys++[y]) (upd H5 D (.lst (ys++[y]))) else N ys H4))
def yc7  (O:yc X scope xs ys ix)(hc:X.calm=true)  {g:ya->TG}{tt:ya->TT}{te:ya->TE}
  (hg:∀z,PG (dN X scope (xs++ys) z) tg (g z)) (hi:∀z,nc (dN X scope (xs++ys) z) ifs (tt z)) (he:∀z,PE (dN X scope (xs++ys) z) elt (te z))
  {σ:St} {H:Hp}   {tn:Nat->Heap->Prop} (I2:Inv X pins σ H s2) (T:Turn X.prog X.w X.K tg J fp it tn) (st:tn 0 s2.heap)
  (hf:∀b∈fp,iC X pins H b) {Q:VK} (hw:yd xs.length ix J g tt te σ Q H) {RR:Value->Addr->Result->Shared->Prop} {E:Value->Shared->Prop}
  (hRR:∀D C m' H' s',Inv X pins σ H' s'->s'.heap.Ns C m'->iC X pins H' C->Q (.ref D) H'->RR (.ref D) C (.ok .next) s') :
  wpAny (model X.prog X.w) X.A (newList []) (λacc s₃=>wpAny (model X.prog X.w) X.A (newFunctionEnv scope X.env.globals (oi scope.names X.env) [] X.env.qual none .none (some X.env)) (λcenv s₄ =>
   codeAny (model X.prog X.w) X.A (.compStart (.ListComp elt [⟨tg,iter,ifs,0⟩] scope pos) 0 (.ref it) acc { cenv with scope:=relabel scope X.env }) (RR acc cenv.locals) s₄) E s₃) E s2:=by
 refine z2a (wpAny_newFunctionEnv O.y291 (by intro y hy;simp at hy) (λh₁ hns₁ hsb₁=>?_) O.kind)
 dsimp only at hns₁ hsb₁ ⊢
 have hDn:H s2.heap.objs.size=none:=I2.hok.fresh (z12 _)
 obtain⟨W,⟨m0,w0⟩,turn⟩:=hw s2.heap.objs.size hDn
 have flt:∀b∈fp,b<s2.heap.objs.size:=λb hb=>by
  obtain⟨o,e,_⟩:=T.obj 0 _ st b hb
  exact z14 e
 obtain⟨s3,hs3⟩:∃s3:Shared,s3={ s2 with heap:=s2.heap.push { cls:=.type "list",data:=.seq ([]:List Value).toArray } }:=⟨_,rfl⟩
 have hh3:s3.heap=s2.heap.push { cls:=.type "list",data:=.seq ([]:List Value).toArray }:=by rw [hs3]
 have I3:Inv X pins σ (upd H s2.heap.objs.size (.lst [])) s3:=by
  rw [hs3]
  exact I2.laid (λb u e=>zd _ e) (z12 _) (show c6 X.prog X.w _ _ _ (.lst []) from ⟨Nat.zero_le _,[],0,.nil,z22 _ rfl⟩)
 have hns₂:h₁.Ns s3.heap.objs.size λx=>([]:List (Str×Value)).reverse.lookup x:=by rw [hh3];exact hns₁
 have hsb₂:Heap.SameBut s3.heap.objs.size (s3.heap.push { cls:=.type (if (some X.env).isSome then "dict" else "frame"),data:=.dict #[] }) h₁:=by rw [hh3];exact hsb₁
 have hf3:∀b∈fp,iC X pins (upd H s2.heap.objs.size (.lst [])) b:=λb hb=>⟨by rw [aQ (z28 (flt b hb))];exact (hf b hb).1,(hf b hb).2⟩
 have hsz:s3.heap.objs.size=s2.heap.objs.size+1:=by rw [hh3,Heap.size_push]
 have flt3:∀b∈fp,b<s3.heap.objs.size:=λb hb=>by rw [hsz];exact Nat.lt_succ_of_lt (flt b hb)
 have hk:∀b o,s3.heap.get? b=some o->h₁.get? b=some o:=λb o e=>hsb₂.extBut b o (z28 (z14 e)) (zd _ e)
 have hk2:∀b o,s2.heap.get? b=some o->h₁.get? b=some o:=λb o e=>hk b o (by rw [hh3];exact zd _ e)
 have st1:tn 0 h₁:=T.keep _ _ _ st λb hb o e=>hk2 b o e
 let z:ya:=⟨fp,s3,upd H s2.heap.objs.size (.lst []),s3.heap.objs.size,pins⟩
 have cl:∀y c,(oi scope.names X.env).lookup y=some c->X.env.cells.lookup y=some c:=λy c e=>by
  rcases (k6).mp (fR e) with q|⟨q,rfl⟩
  ·simp at q
  ·obtain⟨c',e'⟩:=I2.ok.has y (O.fr _ q rfl)
   rw [e'];rfl
 have fpy:∀{H':Hp},(∀b∈fp,H' b=none)->∀b∈fp,iC (dN X scope (xs++ys) z) [] H' b:=λhn b hb=>by
  refine⟨hn b hb,z28 (flt3 b hb),λhb2=>?_,.inl hb,λy c e=>(hf b hb).2.2.2.2.1 y c (cl y c e),λp hp=>?_⟩
  ·exact (z1d.mp (I3.y466 b hb2)).elim (λe=>(hf b hb).2.1 e) λq=>(hf b hb).2.2.1 q
  ·have hp':p∈(X.pn++pins)++([]:List (Addr×Obj)):=hp
   rw [z10] at hp'
   exact (hf b hb).2.2.2.2.2 p hp'
 have back:∀{pl:List (Addr×Obj)} {σ':St} {H':Hp} {s':Shared},Inv (dN X scope (xs++ys) z) pl σ' H' s'->Inv X pins σ H' s'/\iC X pins H' s3.heap.objs.size:=λ{pl σ' H' s'} IY=>by
  have I':Inv X pins σ H' s':=I3.y9f IY.os IY.base IY.hok IY.bare λb hb=>⟨(hf b hb).2.2.2.1,(hf b hb).2.1,(hf b hb).2.2.2.2.1,(hf b hb).2.2.2.2.2⟩
  exact⟨I',I3.y16b (z12 _) IY.free⟩
 have loop:∀t':Nat,codeAny (model X.prog X.w) X.A (.compLoop (.ListComp elt [⟨tg,iter,ifs,0⟩] scope pos) 0 (.ref it) (.ref s2.heap.objs.size) (dN X scope (xs++ys) z).env) (RR (.ref s2.heap.objs.size) s3.heap.objs.size) { s3 with heap:=h₁,toks:=t' }:=by
  intro t'
  have IY:=yc9 (t':=t') O I3 hf3 flt3 _ hns₂ hk
  refine yc0 (λn s'=>∃i vs H',Inv (dN X scope (xs++ys) z) [] (c8 xs.length ix σ) H' s'/\tn i s'.heap/\(∀b∈fp,H' b=none)/\W i n vs H') ?_ m0 ⟨0,[],_,IY,st1,λb hb=>(hf3 b hb).1,w0⟩
  rintro n s5 ⟨i,vs,H5,I5,st5,fr5,w5⟩
  obtain⟨hD,stop|go⟩:=turn i n vs H5 w5
  ·refine aN (T.done (dN X scope (xs++ys) z) rfl rfl rfl hc i [] s5 _ H5 _ I5 (fpy fr5) st5 stop.1) λr s6 zz=>?_
   obtain⟨hr,I6⟩:=zz
   subst hr
   obtain⟨m6,n6,_⟩:=I6.loc
   exact hRR _ _ m6 H5 s6 (back I6).1 n6 (back I6).2 stop.2
  ·obtain⟨hgo,hl,N,hN,step⟩:=go
   refine aN (T.item (dN X scope (xs++ys) z) rfl rfl rfl hc i [] s5 _ H5 _ I5 (fpy fr5) st5 hgo) λr s6 zz=>?_
   obtain⟨u,hr,h6⟩:=zz
   subst hr
   refine aN h6 λ_ s7 zz=>?_
   obtain⟨xv,H7,I7,r7,y7,st7,fr7⟩:=zz
   have I7':=I7.pinned (fpy fr7) (T.obj _ _ st7)
   have q7:=step xv H7 y7 z
   refine aN (hg z _ s7 _ H7 xv u _ I7' r7 q7) λ_ s8 q8=>?_
   obtain⟨σ8,H8,I8,k8,q8⟩:=q8
   have wk:∀{H':Hp} {s':Shared},Inv (dN X scope (xs++ys) z) ([]++jm fp s7.heap) σ8 H' s'->Inv (dN X scope (xs++ys) z) [] (c8 xs.length ix σ) H' s'/\tn (i+1) s'.heap/\∀b∈fp,H' b=none:=λ{H' s'} IW=>by
    refine⟨(IW.y4cb).weak (by rw [tR];exact k8.1.symm) k8.2,T.keep _ _ _ st7 λb hb o e=>(IW.pin (b,o) (z24 _ (z24 _ (kK hb e)))).1,λb hb=>?_⟩
    obtain⟨o,e,d⟩:=T.obj _ _ st7 b hb
    exact (IW.pin (b,o) (z24 _ (z24 _ (kK hb e)))).2.1
   refine aN (hi z _ s8 _ H8 _ I8 q8) λok s9 zz=>?_
   obtain⟨H9,I9,q9⟩:=zz
   cases ok with
   | false =>
    rw [if_neg z13] at q9
    rw [if_neg z13]
    obtain⟨m',hm,w9⟩:=hN _ _ q9
    exact⟨m',hm,i+1,vs,H9,(wk I9).1,(wk I9).2.1,(wk I9).2.2,w9⟩
   | true =>
    rw [if_pos rfl] at q9
    rw [if_pos rfl]
    refine aN (he z _ s9 _ H9 _ I9 q9) λyv s10 zz=>?_
    obtain⟨y,H10,I10,r10,hD10,n10⟩:=zz
    obtain⟨m',hm,w10⟩:=hN _ _ n10
    have ap:=tF _ s10 _ H10 (.ref s2.heap.objs.size) [y] (.ref s2.heap.objs.size) [yv] (λv H'=>H'=upd H10 s2.heap.objs.size (.lst (vs++[y]))) I10 rfl (.cons r10 .nil) ⟨s2.heap.objs.size,vs,y,rfl,rfl,hD10,hl,rfl⟩
    refine aN ap λ_ s11 zz=>?_
    obtain⟨_,H11,I11,_,e11⟩:=zz
    subst e11
    exact⟨m',hm,i+1,vs++[y],_,(wk I11).1,(wk I11).2.1,(wk I11).2.2,w10⟩
 subst hs3
 exact codeAny_compStart_list (loop _) (T.self X.A 0 _ _ _ st1 (loop _))
abbrev om(n:Nat)(ix:List Nat)(wi:TI)(g:ya->TG)(tt:ya->TT)(te:ya->TE):TE:=λσ H Q=>wi σ H λJ H1=>yd n ix J g tt te σ Q H1
section
variable {X:Cx}{scope:Scope}{xs ys:List Str}{ix:List Nat}{elt iter tg:Expr}{ifs:List Expr}{pos:Pos}{wi:TI}{g:ya->TG}{tt:ya->TT}{te:ya->TE}
def Dd(O:yc X scope xs ys ix)(hc:X.calm=true)(hit:PI X tg iter wi)(hg:∀z,PG (dN X scope (xs++ys) z) tg (g z))
  (hi:∀z,nc (dN X scope (xs++ys) z) ifs (tt z)) (he:∀z,PE (dN X scope (xs++ys) z) elt (te z)) (hs:∀v,foldedSetIterable iter X.env v=pure v:=by intro _;rfl) :
  PE X (.ListComp elt [⟨tg,iter,ifs,0⟩] scope pos) (om xs.length ix wi g tt te):=by
 intro pins s σ H Q I h
 rw [eval_ListComp]
 refine wpAny_comprehension_free rfl hs (ybb λp hp hf=>I.ok.has p.1 (O.fr p hp hf)) O.kind O.names (aN (hit pins s σ H _ I h) λv s1 h1=>aN h1 λitv s2 h2=>?_)
 obtain⟨it,fp,tn,J,H2,e,I2,T,st2,f2,hw⟩:=h2
 subst e
 refine yc7 O hc hg hi he I2 T st2 f2 hw ?_
 intro D C m' H' s' I' n' fC q
 exact⟨m',n',λh' hs'=>⟨.ref D,H',ycd I' fC hs',rfl,q⟩⟩
def tT  (O:yc X scope xs ys ix)(hi:xs[i]?=some x):PG (dN X scope (xs++ys) z) (.Name x p) (gO i):=by
 have hm:x∈xs:=z34 hi
 have hl:i<xs.length:=(z1a.mp hi).1
 exact jk O.nd (by show (xs++ys)[i]?=some x;rw [z25 hl];exact hi) (.inl (lookup_relabel_local (O.hx x hm))) (.inr (lookup_relabel_local (O.hx x hm)))
end
end
end L2
namespace PySem
open Sem
end PySem
namespace HT
open PySem PySem.Spec PyProof.Rows
section
variable {prog:Program}{w:World}{A:Around}{E:Value->Shared->Prop}{s:Shared}
def y60(n:Nat):Builtin.Slice.sliceAdjust none none (-1) (n:Int)=((n:Int)-1,-1):=rfl
def Df(n:Nat):Builtin.Slice.slicePlaces ((n:Int)-1) (-1) (-1)=n:=by
 unfold Builtin.Slice.slicePlaces
 rw [if_neg (by decide)]
 by_cases h:n=0
 ·subst h;decide
 ·rw [if_pos (by lia)]
  have:((n:Int)-1 - -1-1) / (- -1)=(n:Int)-1:=by
   have e:(- -1:Int)=1:=by decide
   rw [e,Int.ediv_one];lia
  rw [this];lia
def Dg{sl:Addr}{n:Nat}{t:Tok}{Q:Int×Int×Nat->Shared->Prop}(hs:s.heap.IsSliceOf sl .none .none (.int (-1) t))
  (h:Q ((n:Int)-1,-1,n) s):wpAny (model prog w) A (Builtin.Slice.sliceApplied (.ref sl) (pure (n:Int))) Q E s:=by
 obtain⟨os,hos,hcs,hds⟩:=id hs
 unfold Builtin.Slice.sliceApplied Builtin.Slice.sliceFields
 refine za (za (wpAny_field hos hds rfl (za (wpAny_field hos hds rfl (za (wpAny_field hos hds rfl (ze ?_)))))))
 refine za (slicePart_int ?_)
 show wpAny _ _ (if ((-1:Int) == 0)=true then _ else _) _ _ s
 rw [if_neg (by decide)]
 refine za (slicePart_none (za (slicePart_none (za (ze ?_)))))
 show wpAny _ _ (match Builtin.Slice.sliceAdjust none none (-1) (n:Int) with|(lo,hi)=>pure (lo,(-1:Int),Builtin.Slice.slicePlaces lo hi (-1))) _ _ s
 rw [y60 n]
 show wpAny _ _ (pure ((n:Int)-1,(-1:Int),Builtin.Slice.slicePlaces ((n:Int)-1) (-1) (-1))) _ _ s
 rw [Df]
 exact ze h
theorem tU{α β:Type}{f g:α->Option β}:∀{l:List α},(∀a∈l,f a=g a)->l.filterMap f=l.filterMap g
 | [],_=>rfl
 | a::r,h=>by
  rw [List.filterMap_cons,List.filterMap_cons,h a List.mem_cons_self,tU λb hb=>h b (z21 _ hb)]
def oq(xs:Array Value):((List.range xs.size).filterMap λ(m:Nat)=>xs[((xs.size:Int)-1+(m:Int) * -1).toNat]?).toArray=xs.toList.reverse.toArray:=by
 congr 1
 have e:∀m∈List.range xs.size,xs[((xs.size:Int)-1+(m:Int) * -1).toNat]?=xs.toList.reverse[m]?:=by
  intro m hm
  have hm':=List.mem_range.mp hm
  have:((xs.size:Int)-1+(m:Int) * -1).toNat=xs.size-1-m:=by lia
  rw [this,List.getElem?_reverse (by rw [Array.length_toList];exact hm'),Array.length_toList,Array.getElem?_toList]
 rw [tU e]
 have hl:xs.size=xs.toList.reverse.length:=by rw [z2c,Array.length_toList]
 rw [hl]
 generalize xs.toList.reverse=zs
 induction zs with
 | nil=>rfl
 | cons z r ih =>
  rw [z18,List.range_succ_eq_map,List.filterMap_cons]
  show z::_=_
  rw [List.filterMap_map]
  show z::List.filterMap (λm=>(z::r)[m+1]?) (List.range r.length)=_
  have:(λm=>(z::r)[m+1]?)=λm=>r[m]?:=by funext m;rfl
  rw [this,ih]
def y176  (ht:IsTup s.heap t items)(hs:s.heap.IsSliceOf sl .none .none (.int (-1) tk))
  (h:Q (.ref s.heap.objs.size) { s with heap:=s.heap.push { cls:=.type "tuple",data:=.seq items.toList.reverse.toArray } })
  (hsz:items.size≤sizeLine):wpAny (model prog w) A (getItem (.ref t) (.ref sl)) Q E s:=by
 have y1bb:sizeOk (.seq items.toList.reverse.toArray):=by
  show items.toList.reverse.toArray.size≤sizeLine
  rw [zf,z2c,Array.length_toList]
  exact hsz
 obtain⟨os,hos,hcs,hds⟩:=id hs
 have hTs:s.TypeIs (.ref sl) "slice":=⟨os,hos,hcs⟩
 unfold getItem
 try with_reducible refine wpAny_holding ?_
 first|refine za (ze ?_)|skip
 refine za (wpAny_sequenceKey ht.typeIs (by decide) ?_)
 refine za (wpAny_callSpecial?_slot ht.typeIs PyProof.Rows.slot_tuple_getitem
  (wpAny_call_entry PyProof.Rows.slot_tuple_getitem ht.typeIs entry_tuple_getitem ?_ (args_tuple_getitem _ _)))
 show wpAny _ _ (Builtin.Tuple.tupleItemsOf (.ref t) >>= _) _ _ s
 refine za (tupleItemsOf_ ht ?_)
 refine za (wpAny_typeOf hTs ?_)
 rw [if_pos (by decide)]
 refine za (Dg hs ?_)
 have hno:¬ ((((items.size:Int)-1) == 0&&(-1:Int) == 1&&items.size == items.size)=true):=by
  intro q
  rw [z1b,z1b] at q
  exact absurd q.1.2 (by decide)
 show wpAny _ _ (if (((items.size:Int)-1) == 0&&(-1:Int) == 1&&items.size == items.size)=true then _ else _) _ _ s
 rw [if_neg hno,oq]
 first
  | exact za (z2a (ze ⟨_,rfl,ze h⟩) y1bb)
  | exact za (z2a (za (ze (ze ⟨_,rfl,ze h⟩))) y1bb)
  | exact za (za (z2a (ze (ze ⟨_,rfl,ze h⟩)) y1bb))
  | exact za (za (z2a (ze ⟨_,rfl,ze h⟩) y1bb))
end
end HT
namespace L2
open PySem PySem.Spec PyProof.Rows
section
section
variable {X:Cx}{e st:Expr}{te:TE}{p2 pos:Pos}
abbrev tV(K:W.Frag)(te:TE):TE:=λσ H Q=>te σ H λx H1=>∃a xs,x=.ref a/\ba K H1 a xs/\∀p,H1 p=none->Q (.ref p) (upd H1 p (.tup xs.reverse))
def Dh{ts:TE}(he:PE X e te)(hst:PE X st ts)(hv:∀σ H Q,Q (.int (-1)) H->ts σ H Q):PE X (.Subscript e (.Slice none none (some st) p2) pos) (tV X.K te):=by
 intro pins s σ H Q I h
 refine Subscript_ (aN (he pins s σ H _ I h) λv s1 zz=>?_)
 obtain⟨x,H1,I1,r1,q1⟩:=zz
 obtain⟨a,xs,rfl,hq,q⟩:=q1
 cases r1
 refine wpAny_Slice ?_
 rw [evalPart_none]
 refine ze (ze ?_)
 rw [evalPart_some]
 refine aN (hst pins s1 σ H1 (λv H'=>v=.int (-1)/\H'=H1) I1 (hv _ _ _ ⟨rfl,rfl⟩)) λvs s2 zz=>?_
 obtain⟨y,H2,I2,r2,e2,e3⟩:=zz
 subst e2 e3
 obtain⟨tk,rfl⟩:=r2
 have I4:Inv X pins σ _ { s2 with heap:=s2.heap.push { cls:=.type "slice",data:=.fields #[.none,.none,.int (-1) tk] } }:=I2.kept λb ob q=>zd _ q
 obtain⟨its,r,ht,hz⟩:=I4.tuple hq
 have hlen:its.toArray.size=xs.length:=by rw [zf];exact r.length.symm
 show wpAny (model X.prog X.w) X.A (subscriptTail e (.Slice none none (some st) p2) (.ref a) (.ref s2.heap.objs.size)) (EP X pins σ Q) X.xe { s2 with heap:=s2.heap.push { cls:=.type "slice",data:=.fields #[.none,.none,.int (-1) tk] } }
 refine tail_any ht.typeIs PyProof.Rows.slot_tuple_getitem.lookup ?_ (by with_unfolding_all rfl)
 refine HT.y176 ht (Heap.IsSliceOf.new ..) ?_ (by rw [hlen];exact hz)
 refine⟨.ref _,_,I4.laid (λb ob q=>zd _ q) (z12 _) ?_,rfl,q _ (I4.hok.fresh (z12 _))⟩
 exact⟨by rw [z2c];exact hz,_,r.reverse,kD.mk' _ _⟩
end
end
section
end
end L2
namespace My
inductive F2{α β:Type}(R:α->β->Prop):List α->List β->Prop
 | nil:F2 R [] []
 | cons {a:α} {b:β} {as:List α} {bs:List β}:R a b->F2 R as bs->F2 R (a::as) (b::bs)
end My
namespace L2
open PySem PySem.Spec PyProof.Rows
section
section
end
end
end L2
namespace HT
open PySem PySem.Spec PyProof.Rows
section
def y177{t sl:Addr}{items:Array Value}{vl vu:Value}{lo hi:Option Int}{Q:Value->Shared->Prop}(ht:IsTup s.heap t items)(hs:s.heap.IsSliceOf sl vl vu .none)(pl:IsPart vl lo)(pu:IsPart vu hi)
  (hw:sIx items.size 0 lo=0/\sIx items.size items.size hi=items.size) (h:Q (.ref t) s):wpAny (model prog w) A (getItem (.ref t) (.ref sl)) Q E s:=by
 obtain⟨os,hos,hcs,hds⟩:=id hs
 have hTs:s.TypeIs (.ref sl) "slice":=⟨os,hos,hcs⟩
 unfold getItem
 try with_reducible refine wpAny_holding ?_
 first|refine za (ze ?_)|skip
 refine za (wpAny_sequenceKey ht.typeIs (by decide) ?_)
 refine za (wpAny_callSpecial?_slot ht.typeIs PyProof.Rows.slot_tuple_getitem
  (wpAny_call_entry PyProof.Rows.slot_tuple_getitem ht.typeIs entry_tuple_getitem ?_ (args_tuple_getitem _ _)))
 show wpAny _ _ (Builtin.Tuple.tupleItemsOf (.ref t) >>= _) _ _ s
 refine za (tupleItemsOf_ ht ?_)
 refine za (wpAny_typeOf hTs ?_)
 rw [if_pos (by decide)]
 refine za (sN hs pl pu ?_)
 have hyes:(((sIx items.size 0 lo:Nat):Int) == 0&&(1:Int) == 1&&(sIx items.size items.size hi-sIx items.size 0 lo) == items.size)=true:=by
  rw [hw.1,hw.2];simp
 show wpAny _ _ (if (((sIx items.size 0 lo:Nat):Int) == 0&&(1:Int) == 1&&(sIx items.size items.size hi-sIx items.size 0 lo) == items.size)=true then _ else _) _ _ s
 rw [if_pos hyes]
 unfold Builtin.Tuple.tupleIsExact
 refine za (za (wpAny_typeOf ht.typeIs (ze ?_)))
 rw [if_pos (by decide)]
 refine za (wpAny_rule ?_)
 exact ze ⟨_,rfl,ze h⟩
end
end HT
namespace L2
open PySem PySem.Spec PyProof.Rows
section
section
abbrev tW:V->Option Int->Option Int->Hp->VK->Prop:=λx lo hi H Q=>∃a xs,x=.ref a/\H a=some (.tup xs)/\∀(b:Addr) (H':Hp),H' b=some (.tup (jv xs lo hi))->(∀c o,H c=some o->H' c=some o)->Q (.ref b) H'
def Di:kR X tW:=by
 intro pins s σ H x v vl vu lo hi sl Q I rx hs pl pu h
 obtain⟨a,xs,rfl,hx,q⟩:=h
 by_cases hw:HT.sIx xs.length 0 lo=0/\HT.sIx xs.length xs.length hi=xs.length
 ·cases rx
  obtain⟨its,r,ht,hz⟩:=I.tuple (ba.of hx)
  have hlen:its.toArray.size=xs.length:=by rw [zf];exact r.length.symm
  refine⟨"tuple",_,PyProof.Rows.slot_tuple_getitem.lookup,ht.typeIs,?_⟩
  refine HT.y177 ht hs pl pu (by rw [hlen];exact hw) ⟨.ref a,H,I,rfl,q a H ?_ λ_ _ e=>e⟩
  have e:jv xs lo hi=xs:=by
   unfold jv
   rw [hw.1,hw.2];simp
  rw [e];exact hx
 ·exact Cm pins s σ H (.ref a) v vl vu lo hi sl Q I rx hs pl pu ⟨a,xs,rfl,ba.of hx,hw,λp hp=>q p _ bf λc o e=>by rw [aQ (gM e hp)];exact e⟩
end
end
section
section
end
section
end
end
section
abbrev fS(xs:List V)(lo hi st:Option Int):List V:=(sliceRange (sliceBounds lo hi st xs.length).1 (sliceBounds lo hi st xs.length).2.1 (sliceBounds lo hi st xs.length).2.2).filterMap (xs[·]?)
def au.y296{xs:List V}{us:List Value}(h:au xs us){j:Nat}(e:xs[j]?=none):us[j]?=none:=by
 rw [List.getElem?_eq_none_iff] at e ⊢
 rw [<- h.length];exact e
def au.some_of{xs:List V}{us:List Value}(h:au xs us):∀js:List Nat,au (js.filterMap (xs[·]?)) (js.filterMap (us[·]?)):=by
 intro js
 induction js with
 | nil=>exact .nil
 | cons j js ih =>
  cases e:xs[j]? with
  | none=>simp only [List.filterMap_cons,e,h.y296 e];exact ih
  | some x =>
   obtain⟨u,eu,r⟩:=h.get e
   simp only [List.filterMap_cons,e,eu]
   exact .cons r ih
section
variable {X:Cx}{e st:Expr}{te ts:TE}{lo hi:Option Expr}{tl th:TO}{p2 pos:Pos}
abbrev tX(K:W.Frag)(te:TE)(tl th tk:TO):TE:=λσ H Q=>te σ H λx H1=>tl σ H1 λl H2=>th σ H2 λu H3=>tk σ H3 λc H4 =>
 ∃a xs,x=.ref a/\bu K H4 a xs/\c≠some 0/\∀p,H4 p=none->Q (.ref p) (upd H4 p (.lst (fS xs l u c)))
def Dj(he:PE X e te)(hl:PO X lo tl)(hu:PO X hi th)(hst:PE X st ts):PE X (.Subscript e (.Slice lo hi (some st) p2) pos) (tX X.K te tl th (sO ts)):=by
 intro pins s σ H Q I h
 refine Subscript_ (aN (he pins s σ H _ I h) λv s1 zz=>?_)
 obtain⟨x,H1,I1,r1,q1⟩:=zz
 refine wpAny_Slice (aN (hl pins s1 σ H1 _ I1 q1) λvl s2 ⟨l,H2,I2,pl,q2⟩=>aN (hu pins s2 σ H2 _ I2 q2) λvu s3 ⟨u,H3,I3,pu,q3⟩=>aN (sP hst pins s3 σ H3 _ I3 q3) λvs s4 zz=>?_)
 obtain⟨c,H4,I4,ps,q4⟩:=zz
 obtain⟨a,xs,rfl,hq,hc0,q⟩:=q4
 cases r1
 have I5:Inv X pins σ H4 { s4 with heap:=s4.heap.push { cls:=.type "slice",data:=.fields #[vl,vu,vs] } }:=I4.kept λb ob q=>zd _ q
 obtain⟨its,r,pls,hz⟩:=I5.list hq
 show wpAny (model X.prog X.w) X.A (subscriptTail e (.Slice lo hi (some st) p2) (.ref a) (.ref s4.heap.objs.size)) (EP X pins σ Q) X.xe { s4 with heap:=s4.heap.push { cls:=.type "slice",data:=.fields #[vl,vu,vs] } }
 refine tail_any pls.isList.typeIs list_getitem_lookup ?_ (by with_unfolding_all rfl)
 have hn:=r.length
 refine wpAny_getItem_list_slice pls.isList (Heap.IsSliceOf.new ..) pl pu ps hc0 ?_ (by rw [zf,<- hn];exact hz)
 have le:=slicePick_size_le its.toArray l u c
 have ep:slicePick its.toArray l u c=((sliceRange (sliceBounds l u c xs.length).1 (sliceBounds l u c xs.length).2.1 (sliceBounds l u c xs.length).2.2).filterMap (its[·]?)).toArray:=by
  unfold slicePick
  rw [zf,hn]
  simp
 have rp:=au.some_of r (sliceRange (sliceBounds l u c xs.length).1 (sliceBounds l u c xs.length).2.1 (sliceBounds l u c xs.length).2.2)
 have lp:=rp.length
 rw [ep] at le ⊢
 refine⟨.ref _,_,I5.laid (λb ob q=>zd _ q) (z12 _) ?_,rfl,q _ (I5.hok.fresh (z12 _))⟩
 refine⟨?_,_,0,rp,z22 _ rfl⟩
 rw [zf,zf] at le
 show (fS xs l u c).length≤sizeLine
 unfold fS
 rw [lp]
 lia
end
section
variable {X:Cx}{tg:Expr}
end
end
end L2
namespace PySem
open Sem (wp)
open AutoSeq1 (wpAny_loadPart')
section
end
section
end
end PySem
namespace L2
open PySem PySem.Spec PyProof.Rows
section
section
end
end
section
section
variable   {elt iter tg:Expr}
abbrev Dk(n:Nat)(ix:List Nat)(i:Nat)(wi:TI)(g:ya->TG)(tt:ya->TT)(te:ya->TE):TS:=λD σ H=>om n ix wi g tt te σ H λv H1=>D.nx (σ.set i (some v)) H1
def Dl (O:yc X scope xs ys ix)(hc:X.calm=true)(hN:X.N.Nodup)(hy:X.N[i]?=some y)(hl:X.env.scope.names.lookup y=some .local)(hit:PI X tg iter wi)
  (hg:∀z,PG (dN X scope (xs++ys) z) tg (g z)) (hi:∀z,nc (dN X scope (xs++ys) z) ifs (tt z)) (he:∀z,PE (dN X scope (xs++ys) z) elt (te z))
  (hsw:‹swapsWith (.ListComp elt [⟨tg,iter,ifs,0⟩] scope pos) (some (.Name y py)) spos.line X.env=pure true›) (hs:∀v,foldedSetIterable iter X.env v=pure v:=by intro _;rfl) :
  PS X (.Assign [.Name y py] (.ListComp elt [⟨tg,iter,ifs,0⟩] scope pos) spos) (Dk xs.length ix i wi g tt te):=by
 intro pins s σ H D I h
 rw [exec_Assign_Name_used _ _ _ _ hsw]
 refine za (wpAny_standAt (za ?_))
 show wpAny _ _ (do let _ <- comprehension (.ListComp elt [⟨tg,iter,ifs,0⟩] scope pos) scope X.env _ (newList []) false (eval iter X.env) (some (assign (.Name y py) X.env))) _ _ s
 refine za (wpAny_mono (wpAny_comprehension_free rfl hs (ybb λp hp hf=>I.ok.has p.1 (O.fr p hp hf)) O.kind O.names (aN (hit pins s σ H _ I h) λv s1 h1=>aN h1 λitv s2 h2=>?_))
  (λ_ s' hq=>ze (ze hq)) λ_ _ e=>e)
 obtain⟨it,fp,tn,J,H2,e,I2,T,st2,f2,hw⟩:=h2
 subst e
 refine yc7 O hc hg hi he I2 T st2 f2 hw ?_
 intro E C m' H' s' I' n' fC q
 show wpAny _ _ (assign (.Name y py) X.env (.ref E)) _ _ s'
 refine wpAny_assign_Name (qZ (v:=.ref E) I' hN hy (.inl hl) rfl (λs'' I'' ⟨a,sb,ha⟩=>?_) (.inr hl))
 have hCa:C≠a:=by
  rcases ha with rfl|ha
  ·exact fC.2.1
  ·exact λz=>fC.2.2.2.2.1 _ _ ha z.symm
 exact⟨m',n'.sameBut sb hCa,λh' hs'=>⟨_,H',ycd I'' fC hs',q⟩⟩
end
theorem tY{α:Type}{xs:List α}{f:Nat->Nat}:∀{c:Nat},(∀k,k<c->f k<xs.length)->(((List.range c).map f).filterMap (xs[·]?)).length=c/\∀k,k<c->(((List.range c).map f).filterMap (xs[·]?))[k]?=xs[f k]?
 | 0,_=>⟨rfl,λk h=>absurd h (Nat.not_lt_zero _)⟩
 | c+1,h=>by
  obtain⟨h1,h2⟩:=tY λk hk=>h k (Nat.lt_succ_of_lt hk)
  have hc:=h c (z37 c)
  have e:((List.range (c+1)).map f).filterMap (xs[·]?)=((List.range c).map f).filterMap (xs[·]?)++[xs[f c]]:=by
   rw [List.range_succ,z27,List.filterMap_append]
   congr 1
   simp [hc]
  rw [e]
  refine⟨by rw [zc,h1];rfl,λk hk=>?_⟩
  by_cases q:k<c
  ·rw [z25 (by rw [h1];exact q)]
   exact h2 k q
  ·have q':k=c:=by lia
   subst q'
   rw [z23 (by rw [h1];exact z12 _),h1,Nat.sub_self,z16 hc]
   rfl
def Dm(xs:List V):(fS xs none none (some (-1))).length=xs.length/\∀k,k<xs.length->(fS xs none none (some (-1)))[k]?=xs[xs.length-1-k]?:=by
 have e:fS xs none none (some (-1))=((List.range xs.length).map λk=>xs.length-1-k).filterMap (xs[·]?):=by
  unfold fS sliceRange
  have c:(if (-1:Int)>0 then (if (xs.length:Int)-1 < -1 then (-1-((xs.length:Int)-1) + -1-1) / -1 else 0) else (if (xs.length:Int)-1 > -1 then ((xs.length:Int)-1 - -1 - -1-1) / (- -1) else 0)).toNat=xs.length:=by
   rw [if_neg (by decide)]
   split
   ·rw [show (- -1:Int)=1 from rfl,Int.ediv_one];lia
   ·lia
  show ((List.range (if (-1:Int)>0 then (if (xs.length:Int)-1 < -1 then (-1-((xs.length:Int)-1) + -1-1) / -1 else 0) else (if (xs.length:Int)-1 > -1 then ((xs.length:Int)-1 - -1 - -1-1) / (- -1) else 0)).toNat).map λ(k:Nat)=>((xs.length:Int)-1 + -1*(k:Int)).toNat).filterMap (xs[·]?)=_
  rw [c]
  congr 2
  funext k
  lia
 rw [e]
 exact tY λk hk=>by lia
end
end L2
namespace B
open PySem L2
section
inductive I where
 | non|bl (b:Bool)|int (i:Int)|str (x:Str)|ty (n:String)|tup (xs:List I)|ref (k:Nat)|fro (xs:List I)|con (xs:List I)
inductive M where
 | lst (xs:List I)|dic (kvs:List (aR×I))|dit (kvs:List (List aR×I))|fdi (kvs:List (aR×I))|obj (c:Str) (fs:List (Str×I))
inductive Vl where
 | im (d:I)|ow (m:M)
abbrev ot(K:W.Frag)(H:Hp)(a:Addr)(vs:List V):Prop:=(∃o,H a=some (.frz o (.lst vs)))∨bu K (λ_=>none) a vs
mutual
inductive RpI(K:W.Frag)(ι:List Addr)(H:Hp):V->I->Prop
 | non:RpI K ι H .non .non
 | bl (b:Bool):RpI K ι H (.bl b) (.bl b)
 | int (i:Int):RpI K ι H (.int i) (.int i)
 | str (x:Str):RpI K ι H (.str x) (.str x)
 | ty (n:String):RpI K ι H (.ty n) (.ty n)
 | ref {a:Addr} {k:Nat}:ι[k]?=some a->RpI K ι H (.ref a) (.ref k)
 | tup {a:Addr} {vs:List V} {xs:List I}:H a=some (.tup vs)->y4e K ι H vs xs->RpI K ι H (.ref a) (.tup xs)
 | con {a:Addr} {vs:List V} {xs:List I}:ba K (λ_=>none) a vs->y4e K ι H vs xs->RpI K ι H (.ref a) (.con xs)
 | fro {a:Addr} {vs:List V} {xs:List I}:ot K H a vs->y4e K ι H vs xs->RpI K ι H (.ref a) (.fro xs)
inductive y4e(K:W.Frag)(ι:List Addr)(H:Hp):List V->List I->Prop
 | nil:y4e K ι H [] []
 | cons {v:V} {d:I} {vs:List V} {ds:List I}:RpI K ι H v d->y4e K ι H vs ds->y4e K ι H (v::vs) (d::ds)
end
def cF(r:RpI K ι H v (.int i)):v=.int i:=by cases r;rfl
def bJ(r:RpI K ι H v (.str i)):v=.str i:=by cases r;rfl
def k9(r:RpI K ι H v (.bl i)):v=.bl i:=by cases r;rfl
def jB(r:RpI K ι H v .non):v=.non:=by cases r;rfl
def Dn(r:RpI K ι H v (.ty i)):v=.ty i:=by cases r;rfl
def lh(r:RpI K ι H v (.tup xs)):∃a vs,v=.ref a/\H a=some (.tup vs)/\y4e K ι H vs xs:=by cases r with|tup h q=>exact⟨_,_,rfl,h,q⟩
def tZ(r:RpI K ι H v (.con xs)):∃a vs,v=.ref a/\ba K (λ_=>none) a vs/\y4e K ι H vs xs:=by cases r with|con h q=>exact⟨_,_,rfl,h,q⟩
def t6(r:RpI K ι H v (.fro xs)):∃a vs,v=.ref a/\ot K H a vs/\y4e K ι H vs xs:=by cases r with|fro h q=>exact⟨_,_,rfl,h,q⟩
abbrev bV(ι ι':List Addr):Prop:=∀(k:Nat) (a:Addr),ι[k]?=some a->ι'[k]?=some a
structure Kp(H H':Hp):Prop where
 tup:∀a xs,H a=some (.tup xs)->H' a=some (.tup xs)
 frz:∀a o u,H a=some (.frz o u)->H' a=some (.frz o u)
def Kp.refl(H:Hp):Kp H H:=⟨λ_ _ h=>h,λ_ _ _ h=>h⟩
def Kp.trans(x:Kp H H1)(y:Kp H1 H2):Kp H H2:=⟨λa xs h=>y.tup a xs (x.tup a xs h),λa o u h=>y.frz a o u (x.frz a o u h)⟩
def Kp.same(h:dz H H'):Kp H H':=⟨λa xs e=>h _ _ e,λa o u e=>h _ _ e⟩
def bV.refl(ι:List Addr):bV ι ι:=λ_ _ h=>h
def bV.trans(x:bV ι ι1)(y:bV ι1 ι2):bV ι ι2:=λk a h=>y k a (x k a h)
def bV.snoc(ι:List Addr)(b:List Addr):bV ι (ι++b):=λk a h=>by
 have:k<ι.length:=(z1a.mp h).1
 rw [z25 this];exact h
def Kp.frL  (k:Kp H H')(h:ot K H a vs):ot K H' a vs:=by
 rcases h with⟨o,h⟩| h
 ·exact .inl ⟨o,k.frz _ _ _ h⟩
 ·exact .inr h
def ba.kon  (h:ba K (λ_=>none) a vs):ba K H a vs:=by
 rcases h with (h|⟨o,h⟩)|h
 ·cases h
 ·cases h
 ·exact .inr h
def ot.sq  (h:ot K H a vs):bu K H a vs:=by
 rcases h with⟨o,h⟩| h
 ·exact .inl (.inr ⟨o,h⟩)
 ·rcases h with (h|⟨o,h⟩)|h
  ·cases h
  ·cases h
  ·exact .inr h
section
mutual
theorem RpI.mono (p:bV ι ι')(k:Kp H H'):RpI K ι H v d->RpI K ι' H' v d
 | .non=>.non
 | .bl b=>.bl b
 | .int i=>.int i
 | .str x=>.str x
 | .ty n=>.ty n
 | .ref h=>.ref (p _ _ h)
 | .tup h r=>.tup (k.tup _ _ h) (y4e.mono p k r)
 | .con h r=>.con h (y4e.mono p k r)
 | .fro h r=>.fro (k.frL h) (y4e.mono p k r)
theorem y4e.mono (p:bV ι ι')(k:Kp H H'):y4e K ι H vs ds->y4e K ι' H' vs ds
 | .nil=>.nil
 | .cons h r=>.cons (RpI.mono p k h) (y4e.mono p k r)
end
theorem y4e.len:∀{vs:List V} {ds:List I},y4e K ι H vs ds->vs.length=ds.length
 | _,_,.nil=>rfl
 | _,_,.cons _ r=>by rw [z18,z18,r.len]
theorem y4e.get:∀{vs:List V} {ds:List I} {i:Nat} {d:I},y4e K ι H vs ds->ds[i]?=some d->∃v,vs[i]?=some v/\RpI K ι H v d
 | _,_,_,_,.nil,e=>by simp at e
 | _,_,0,_,.cons h _,e=>by simp at e;subst e;exact⟨_,rfl,h⟩
 | _,_,i+1,d,.cons _ r,e=>by
  obtain⟨v,h1,h2⟩:=y4e.get r (by simpa using e)
  exact⟨v,by simpa using h1,h2⟩
theorem y4e.app:∀{vs ws:List V} {ds es:List I},y4e K ι H vs ds->y4e K ι H ws es->y4e K ι H (vs++ws) (ds++es)
 | _,_,_,_,.nil,s=>s
 | _,_,_,_,.cons h r,s=>.cons h (y4e.app r s)
theorem y4e.take:∀{vs:List V} {ds:List I} (n:Nat),y4e K ι H vs ds->y4e K ι H (vs.take n) (ds.take n)
 | _,_,0,_=>.nil
 | _,_,_+1,.nil=>.nil
 | _,_,n+1,.cons h r=>.cons h (y4e.take n r)
theorem y4e.drop:∀{vs:List V} {ds:List I} (n:Nat),y4e K ι H vs ds->y4e K ι H (vs.drop n) (ds.drop n)
 | _,_,0,r=>r
 | _,_,_+1,.nil=>.nil
 | _,_,n+1,.cons _ r=>y4e.drop n r
theorem y4e.set:∀{vs:List V} {ds:List I} {v:V} {d:I} (i:Nat),y4e K ι H vs ds->RpI K ι H v d->y4e K ι H (vs.set i v) (ds.set i d)
 | _,_,_,_,_,.nil,_=>.nil
 | _,_,_,_,0,.cons _ r,h=>.cons h r
 | _,_,_,_,i+1,.cons g r,h=>.cons g (y4e.set i r h)
theorem y4e.rev:∀{vs:List V} {ds:List I},y4e K ι H vs ds->y4e K ι H vs.reverse ds.reverse
 | _,_,.nil=>.nil
 | _,_,.cons h r=>by rw [List.reverse_cons,List.reverse_cons];exact r.rev.app (.cons h .nil)
abbrev c9(K:W.Frag)(κ:Str->Addr)(ι:List Addr)(H:Hp)(a:Addr):M->Prop
 | .lst xs=>∃vs,H a=some (.lst vs)/\y4e K ι H vs xs
 | .dic kvs=>∃ws,H a=some (.dK ws)/\ws.map (·.1)=kvs.map (·.1)/\y4e K ι H (ws.map (·.2)) (kvs.map (·.2))
 | .dit kvs=>∃ws,H a=some (.dT ws)/\ws.map (·.1)=kvs.map (·.1)/\y4e K ι H (ws.map (·.2)) (kvs.map (·.2))
 | .fdi kvs=>∃o ws,H a=some (.frz o (.dK ws))/\ws.map (·.1)=kvs.map (·.1)/\y4e K ι H (ws.map (·.2)) (kvs.map (·.2))
 | .obj c fs=>∃dx ws,H a=some (.ins (κ c) dx ws)/\ws.map (·.1)=fs.map (·.1)/\y4e K ι H (ws.map (·.2)) (fs.map (·.2))
theorem c9.mono (p:bV ι ι')(k:Kp H H')(e:H' a=H a)(h:c9 K κ ι H a m):c9 K κ ι' H' a m:=by
 cases m with
 | lst xs=>obtain⟨vs,h1,h2⟩:=h;exact⟨vs,by rw [e];exact h1,h2.mono p k⟩
 | dic xs=>obtain⟨vs,h1,h2,h3⟩:=h;exact⟨vs,by rw [e];exact h1,h2,h3.mono p k⟩
 | dit xs=>obtain⟨vs,h1,h2,h3⟩:=h;exact⟨vs,by rw [e];exact h1,h2,h3.mono p k⟩
 | obj c xs=>obtain⟨dx,vs,h1,h2,h3⟩:=h;exact⟨dx,vs,by rw [e];exact h1,h2,h3.mono p k⟩
 | fdi xs=>obtain⟨o,vs,h1,h2,h3⟩:=h;exact⟨o,vs,by rw [e];exact h1,h2,h3.mono p k⟩
abbrev lq:HO->Bool
 | .lst _ | .dK _ | .dT _ | .ins _ _ _=>true
 | .frz _ (.dK _)=>true
 | _=>false
abbrev t7:M->Bool
 | .fdi _=>true
 | _=>false
def c9.nf (h:c9 K κ ι H a m)(hf:t7 m=false):∀o u,H a≠some (.frz o u):=λo u e=>by
 cases m with
 | lst xs=>obtain⟨vs,h1,h2⟩:=h;rw [h1] at e;cases e
 | dic xs=>obtain⟨vs,h1,h2,h3⟩:=h;rw [h1] at e;cases e
 | dit xs=>obtain⟨vs,h1,h2,h3⟩:=h;rw [h1] at e;cases e
 | obj c xs=>obtain⟨dx,vs,h1,h2,h3⟩:=h;rw [h1] at e;cases e
 | fdi xs=>cases hf
def c9.mu (h:c9 K κ ι H a m):∃o,H a=some o/\lq o=true:=by
 cases m with
 | lst xs=>obtain⟨vs,h1,h2⟩:=h;exact⟨_,h1,rfl⟩
 | dic xs=>obtain⟨vs,h1,h2,h3⟩:=h;exact⟨_,h1,rfl⟩
 | dit xs=>obtain⟨vs,h1,h2,h3⟩:=h;exact⟨_,h1,rfl⟩
 | obj c xs=>obtain⟨dx,vs,h1,h2,h3⟩:=h;exact⟨_,h1,rfl⟩
 | fdi xs=>obtain⟨o,vs,h1,h2,h3⟩:=h;exact⟨_,h1,rfl⟩
inductive RpE(K:W.Frag)(κ:Str->Addr)(ι:List Addr)(H:Hp):Option V->Option Vl->Prop
 | no (x:Option V):RpE K κ ι H x none
 | im {v:V} {d:I}:RpI K ι H v d->RpE K κ ι H (some v) (some (.im d))
 | ow {a:Addr} {m:M}:c9 K κ ι H a m->RpE K κ ι H (some (.ref a)) (some (.ow m))
abbrev bw:Option V->Option Vl->List Addr
 | some (.ref a),some (.ow _)=>[a]
 | _,_=>[]
abbrev own:List (Option V)->List (Option Vl)->List Addr
 | v::σ,x::Z=>bw v x++own σ Z
 | _,_=>[]
theorem bQ:∀{σ:List (Option V)} {Z:List (Option Vl)} (τ:List (Option V)) (θ:List (Option Vl)),σ.length=Z.length->own (σ++τ) (Z++θ)=own σ Z++own τ θ
 | [],[],_,_,_=>rfl
 | [],_::_,_,_,h=>by cases h
 | _::_,[],_,_,h=>by cases h
 | v::σ,x::Z,τ,θ,h=>by
  show bw v x++own (σ++τ) (Z++θ)=bw v x++own σ Z++own τ θ
  rw [bQ τ θ (by simpa using h),z2f]
noncomputable abbrev bp(a:Addr)(l:List Addr):Nat:=List.count a l
structure SR(K:W.Frag)(κ:Str->Addr)(ι:List Addr)(H:Hp)(σ:St)(Z:List (Option Vl))(G:List M):Prop where
 sl:Paired (RpE K κ ι H) σ Z
 gs:Paired (c9 K κ ι H) ι G
 nd:∀a,bp a (own σ Z)+bp a ι≤1
structure Step(ι fp:List Addr)(H:Hp)(ι' fp':List Addr)(H':Hp):Prop where
 pre:bV ι ι'
 src:∀a,a∈fp'->a∈fp∨H a=none
 keep:∀a o,H a=some o->a∉fp->H' a=some o
 dom:∀a,H' a=none->H a=none
 kp:Kp H H'
theorem Step.refl(ι fp:List Addr)(H:Hp):Step ι fp H ι fp H:=⟨bV.refl _,λ_ h=>.inl h,λ_ _ h _=>h,λ_ h=>h,Kp.refl _⟩
theorem Step.trans (x:Step ι fp H ι1 fp1 H1)(y:Step ι1 fp1 H1 ι2 fp2 H2):Step ι fp H ι2 fp2 H2 where
 pre:=x.pre.trans y.pre
 src:=λa h=>by
  rcases y.src a h with q|q
  ·exact x.src a q
  ·exact .inr (x.dom a q)
 keep:=λa o h n=>y.keep a o (x.keep a o h n) λq=>by
  rcases x.src a q with z|z
  ·exact n z
  ·rw [z] at h;cases h
 dom:=λa h=>x.dom a (y.dom a h)
 kp:=x.kp.trans y.kp
def Step.sub (x:Step ι fp H ι1 fp1 H1)(h:∀a,a∈fp2->a∈fp1):Step ι fp H ι1 fp2 H1:=⟨x.pre,λa q=>x.src a (h a q),x.keep,x.dom,x.kp⟩
def Step.wide (x:Step ι fp H ι1 fp1 H1)(h:∀a,a∈fp->a∈fq):Step ι fq H ι1 fp1 H1:=⟨x.pre,λa q=>(x.src a q).imp (h a) id,λa o q n=>x.keep a o q λz=>n (h a z),x.dom,x.kp⟩
def Step.y87 (x:Step ι fp H ι1 fp1 H1):Step ι (t++fp) H ι1 (t++fp1) H1 where
 pre:=x.pre
 src:=λa h=>by
  rcases z1e.mp h with q|q
  ·exact .inl (List.mem_append_left _ q)
  ·exact (x.src a q).imp (z24 _) id
 keep:=λa o h n=>x.keep a o h λq=>n (z24 _ q)
 dom:=x.dom
 kp:=x.kp
def gX  : a∈l↔0<bp a l:=List.count_pos_iff.symm
theorem RpE.mono (p:bV ι ι')(k:Kp H H')(e:∀a,a∈bw v x->H' a=H a)(h:RpE K κ ι H v x):RpE K κ ι' H' v x:=by
 cases h with
 | no=>exact .no _
 | im h=>exact .im (h.mono p k)
 | ow h=>exact .ow (h.mono p k (e _ (by unfold bw;exact z15.mpr rfl)))
theorem iG(p:bV ι ι')(k:Kp H H'):∀{σ:St} {Z:List (Option Vl)},(∀a,a∈own σ Z->H' a=H a)->Paired (RpE K κ ι H) σ Z->Paired (RpE K κ ι' H') σ Z
 | _,_,_,.nil=>.nil
 | _,_,e,.cons h r=>.cons (h.mono p k λa q=>e a (List.mem_append_left _ q)) (iG p k (λa q=>e a (z24 _ q)) r)
theorem lr(p:bV ι ι')(k:Kp H H'):∀{as:List Addr} {G:List M},(∀a,a∈as->H' a=H a)->Paired (c9 K κ ι H) as G->Paired (c9 K κ ι' H') as G
 | _,_,_,.nil=>.nil
 | _,_,e,.cons h r=>.cons (h.mono p k (e _ List.mem_cons_self)) (lr p k (λa q=>e a (z21 _ q)) r)
def jC(v:Option V):bw v none=[]:=by
 cases v with
 | none=>rfl
 | some v=>cases v<;>rfl
def fT(v:Option V)(d:I):bw v (some (.im d))=[]:=by
 cases v with
 | none=>rfl
 | some v=>cases v<;>rfl
theorem lA:∀{σ:St} {Z:List (Option Vl)} {a:Addr},Paired (RpE K κ ι H) σ Z->a∈own σ Z->∃o,H a=some o/\lq o=true
 | _,_,_,.nil,h=>by cases h
 | _,_,a,.cons h r,q=>by
  rcases z1e.mp q with z|z
  ·cases h with
   | no=>rw [jC] at z;cases z
   | im h=>rw [fT] at z;cases z
   | ow h=>obtain rfl:=z15.mp z;exact h.mu
  ·exact lA r z
theorem ou:∀{as:List Addr} {G:List M} {a:Addr},Paired (c9 K κ ι H) as G->a∈as->∃o,H a=some o/\lq o=true
 | _,_,_,.nil,h=>by cases h
 | _,_,a,.cons h r,q=>by
  rcases z1d.mp q with rfl|z
  ·exact h.mu
  ·exact ou r z
def SR.len (h:SR K κ ι H σ Z G):σ.length=Z.length:=Paired.length h.sl
def SR.mu  (h:SR K κ ι H σ Z G)(q:a∈own σ Z++ι):∃o,H a=some o/\lq o=true:=by
 rcases z1e.mp q with z|z
 ·exact lA h.sl z
 ·exact ou h.gs z
theorem de{α β:Type}{F:α->β->Prop}:∀{a:List α} {b:List β} {c:List α} {d:List β},Paired F a b->Paired F c d->Paired F (a++c) (b++d)
 | _,_,_,_,.nil,h=>h
 | _,_,_,_,.cons h r,q=>.cons h (de r q)
theorem cc{α β:Type}{F:α->β->Prop}:∀{a:List α} {b:List β} {c:List α} {d:List β},a.length=b.length->Paired F (a++c) (b++d)->Paired F a b/\Paired F c d
 | [],[],_,_,_,h=>⟨.nil,h⟩
 | [],_::_,_,_,l,_=>by cases l
 | _::_,[],_,_,l,_=>by cases l
 | x::a,y::b,c,d,l,h=>by
  cases h with
  | cons h r =>
   obtain⟨p,q⟩:=cc (by simpa using l) r
   exact⟨.cons h p,q⟩
def SR.join  (h1:SR K κ ι1 H1 (σ0++τ) (Z1++θ) G1)(l1:σ0.length=Z1.length)(h2:SR K κ ι2 H2 (σ++τ2) (Z2++θ2) G2)(l2:σ.length=Z2.length)
  (st:Step ι1 (own σ0 Z1++ι1) H1 ι2 (own (σ++τ2) (Z2++θ2)++ι2) H2):SR K κ ι2 H2 (σ++(τ++τ2)) (Z2++(θ++θ2)) G2/\Step ι1 (own (σ0++τ) (Z1++θ)++ι1) H1 ι2 (own (σ++(τ++τ2)) (Z2++(θ++θ2))++ι2) H2:=by
 obtain⟨a1,b1⟩:=cc l1 h1.sl
 obtain⟨a2,b2⟩:=cc l2 h2.sl
 have lt:=Paired.length b1
 have n1:=h1.nd
 have n2:=h2.nd
 rw [bQ _ _ l1] at n1
 rw [bQ _ _ l2] at n2
 have st':=st
 rw [bQ _ _ l2] at st'
 have apart:∀a,a∈own τ θ->a∉own σ0 Z1++ι1:=λa q z=>by
  have:=n1 a
  rw [bp,z17] at this
  have p1:0<bp a (own τ θ):=gX.mp q
  rcases z1e.mp z with z|z
  ·have:=gX.mp z;unfold bp at *;lia
  ·have:=gX.mp z;unfold bp at *;lia
 have y447:∀a,a∈own τ θ->∃o,H1 a=some o:=λa q=>let ⟨o,e,_⟩:=lA b1 q;⟨o,e⟩
 have e2:own (σ++(τ++τ2)) (Z2++(θ++θ2))=own σ Z2++(own τ θ++own τ2 θ2):=by rw [bQ _ _ l2,bQ _ _ lt]
 refine⟨⟨de a2 (de (iG st.pre st.kp (λa q=>?_) b1) b2),h2.gs,λa=>?_⟩,?_⟩
 ·obtain⟨o,e⟩:=y447 a q
  rw [e,st.keep a o e (apart a q)]
 ·rw [e2]
  have m2:=n2 a
  have m1:=n1 a
  simp only [bp,z17] at m1 m2 ⊢
  by_cases q:a∈own τ θ
  ·obtain⟨o,e⟩:=y447 a q
   have z:a∉own σ Z2++own τ2 θ2++ι2:=λz=>by
    rcases st'.src a z with y|y
    ·exact apart a q y
    ·rw [e] at y;cases y
   have:bp a (own σ Z2++own τ2 θ2++ι2)=0:=List.count_eq_zero.mpr z
   simp only [bp,z17] at this
   lia
  ·have:bp a (own τ θ)=0:=List.count_eq_zero.mpr q
   unfold bp at this
   lia
 ·rw [e2,bQ _ _ l1]
  have s:=(Step.y87 (t:=own τ θ) st')
  refine (s.sub λa h=>?_).wide λa h=>?_
  ·simp only [z1e] at h ⊢
   rcases h with (h|h|h)|h
   ·exact .inr (.inl (.inl h))
   ·exact .inl h
   ·exact .inr (.inl (.inr h))
   ·exact .inr (.inr h)
  ·simp only [z1e] at h ⊢
   rcases h with h|h|h
   ·exact .inl (.inr h)
   ·exact .inl (.inl h)
   ·exact .inr h
end
end
section
section
def lB(a:Addr)(m:M):bw (some (.ref a)) (some (.ow m))=[a]:=rfl
theorem Aw:∀{σ:St} {Z:List (Option Vl)} {i:Nat} {v w:Option V} {x y:Option Vl} (a:Addr),σ[i]?=some v->Z[i]?=some x ->
  bp a (own (σ.set i w) (Z.set i y))+bp a (bw v x)=bp a (own σ Z)+bp a (bw w y)
 | [],_,_,_,_,_,_,_,h,_=>by simp at h
 | _::_,[],_,_,_,_,_,_,_,h=>by simp at h
 | v0::σ,x0::Z,0,v,w,x,y,a,h1,h2=>by
  simp at h1 h2
  subst h1;subst h2
  show bp a (bw w y++own σ Z)+bp a (bw v0 x0)=bp a (bw v0 x0++own σ Z)+bp a (bw w y)
  simp only [bp,z17]
  lia
 | v0::σ,x0::Z,i+1,v,w,x,y,a,h1,h2=>by
  have:=Aw (w:=w) (y:=y) a (by simpa using h1) (by simpa using h2)
  show bp a (bw v0 x0++own (σ.set i w) (Z.set i y))+bp a (bw v x)=bp a (bw v0 x0++own σ Z)+bp a (bw w y)
  simp only [bp,z17] at this ⊢
  lia
def t8{α:Type}{l:List α}{i:Nat}{v:α}(h:l[i]?=some v):l.set i v=l:=by
 refine List.ext_getElem? λj=>?_
 by_cases e:i=j
 ·subst e
  rw [List.getElem?_set_self (z1a.mp h).1,h]
 ·rw [z26 e]
def t9 (a:Addr)(h1:σ[i]?=some v)(h2:Z[i]?=some x) :
  bp a (own σ (Z.set i y))+bp a (bw v x)=bp a (own σ Z)+bp a (bw v y):=by
 have:=Aw (w:=v) (y:=y) a h1 h2
 rw [t8 h1] at this
 exact this
theorem lC{α β:Type}{F:α->β->Prop}:∀{l:List α} {r:List β} {i:Nat} {y:β},Paired F l r->r[i]?=some y->∃x,l[i]?=some x/\F x y
 | _,_,_,_,.nil,h=>by simp at h
 | _,_,0,_,.cons h _,e=>by simp at e;subst e;exact⟨_,rfl,h⟩
 | _,_,i+1,y,.cons _ r,e=>by
  obtain⟨x,h1,h2⟩:=lC r (by simpa using e)
  exact⟨x,by simpa using h1,h2⟩
theorem oy{α β:Type}{F:α->β->Prop}{x:α}{y:β}:∀{l:List α} {r:List β} (i:Nat),Paired F l r->F x y->Paired F (l.set i x) (r.set i y)
 | _,_,_,.nil,_=>.nil
 | _,_,0,.cons _ r,q=>.cons q r
 | _,_,i+1,.cons h r,q=>.cons h (oy i r q)
def lD{α β:Type}{F:α->β->Prop}{x:α}{y:β}{l:List α}{r:List β}{i:Nat}(h:Paired F l r)(e:l[i]?=some x)(q:F x y):Paired F l (r.set i y):=by
 have:=oy i h q
 rw [t8 e] at this
 exact this
def SR.y179(h:SR K κ ι H σ Z G){i:Nat}{d:I}(e:Z[i]?=some (some (.im d))):∃v,σ[i]?=some (some v)/\RpI K ι H v d:=by
 obtain⟨x,e1,q⟩:=lC h.sl e
 cases q with
 | im q=>exact⟨_,e1,q⟩
def SR.y17a(h:SR K κ ι H σ Z G){i:Nat}{m:M}(e:Z[i]?=some (some (.ow m))):∃a,σ[i]?=some (some (.ref a))/\c9 K κ ι H a m:=by
 obtain⟨x,e1,q⟩:=lC h.sl e
 cases q with
 | ow q=>exact⟨_,e1,q⟩
def SR.y178(h:SR K κ ι H σ Z G){k:Nat}{m:M}(e:G[k]?=some m):∃a,ι[k]?=some a/\c9 K κ ι H a m:=lC h.gs e
theorem ua:∀{σ:St} {Z:List (Option Vl)} {i:Nat} {a:Addr} {m:M},σ[i]?=some (some (.ref a))->Z[i]?=some (some (.ow m))->a∈own σ Z
 | [],_,_,_,_,h,_=>by simp at h
 | _::_,[],_,_,_,_,h=>by simp at h
 | v0::σ,x0::Z,0,a,m,h1,h2=>by
  simp at h1 h2
  subst h1;subst h2
  exact List.mem_append_left _ (z15.mpr rfl)
 | v0::σ,x0::Z,i+1,a,m,h1,h2=>z24 _ (ua (by simpa using h1) (by simpa using h2))
theorem SR.same(h:SR K κ ι H σ Z G)(s:dz H H'):SR K κ ι H' σ Z G where
 sl:=iG (bV.refl _) (Kp.same s) (λa q=>by obtain⟨o,e,_⟩:=lA h.sl q;rw [e,s _ _ e]) h.sl
 gs:=lr (bV.refl _) (Kp.same s) (λa q=>by obtain⟨o,e,_⟩:=ou h.gs q;rw [e,s _ _ e]) h.gs
 nd:=h.nd
theorem Step.same(s:dz H H'):Step ι fp H ι fp H':=⟨bV.refl _,λ_ h=>.inl h,λa o e _=>s _ _ e,λa e=>s.free e,Kp.same s⟩
def dz.lay (hp:H p=none):dz H (upd H p o):=λb u e=>by rw [aQ (gM e hp)];exact e
def SR.pop(h:SR K κ ι H (σ++τ) (Z++θ) G)(l:σ.length=Z.length):SR K κ ι H σ Z G:=by
 obtain⟨a,b⟩:=cc l h.sl
 refine⟨a,h.gs,λx=>?_⟩
 have:=h.nd x
 rw [bQ _ _ l] at this
 simp only [bp,z17] at this ⊢
 lia
def cf(l:σ.length=Z.length)(h:a∈own σ Z++ι):a∈own (σ++τ) (Z++θ)++ι:=by
 rw [bQ _ _ l]
 simp only [z1e] at h ⊢
 rcases h with h|h
 ·exact .inl (.inl h)
 ·exact .inr h
def SR.push_im (h:SR K κ ι H σ Z G)(r:RpI K ι H v d):SR K κ ι H (σ++[some v]) (Z++[some (.im d)]) G:=by
 refine⟨de h.sl (.cons (.im r) .nil),h.gs,λx=>?_⟩
 have e:own [some v] [some (.im d)]=[]:=by show bw _ _++[]=[];rw [fT];rfl
 rw [bQ _ _ h.len,e,z10]
 exact h.nd x
def dO (l:σ.length=Z.length):own (σ++[some v]) (Z++[some (.im d)])=own σ Z:=by
 rw [bQ _ _ l]
 show own σ Z++(bw _ _++[])=_
 rw [fT];simp
def eZ (l:σ.length=Z.length):own (σ++[some (.ref a)]) (Z++[some (.ow m)])=own σ Z++[a]:=by
 rw [bQ _ _ l];rfl
def SR.y3ae (h:SR K κ ι H σ Z G)(hp:H p=none)(r:c9 K κ ι (upd H p o) p m):SR K κ ι (upd H p o) (σ++[some (.ref p)]) (Z++[some (.ow m)]) G:=by
 have h':=h.same (dz.lay (o:=o) hp)
 refine⟨de h'.sl (.cons (.ow r) .nil),h'.gs,λx=>?_⟩
 rw [eZ h.len]
 have:=h.nd x
 simp only [bp,z17] at this ⊢
 by_cases e:p=x
 ·subst e
  have n:p∉own σ Z++ι:=λq=>by obtain⟨o,e,_⟩:=h.mu q;rw [hp] at e;cases e
  have:bp p (own σ Z++ι)=0:=List.count_eq_zero.mpr n
  simp only [bp,z17] at this
  simp
  lia
 ·have:List.count x [p]=0:=List.count_eq_zero.mpr (by simp;exact λz=>e z.symm)
  lia
def Step.y233 (l:σ.length=Z.length)(hp:H p=none):Step ι (own σ Z++ι) H ι (own (σ++[some (.ref p)]) (Z++[some (.ow m)])++ι) (upd H p o) where
 pre:=bV.refl _
 src:=λa h=>by
  rw [eZ l] at h
  simp only [z1e,z15] at h ⊢
  rcases h with (h|h)|h
  ·exact .inl (.inl h)
  ·subst h;exact .inr hp
  ·exact .inl (.inr h)
 keep:=λa u e _=>dz.lay hp _ _ e
 dom:=λa e=>(dz.lay hp).free e
 kp:=Kp.same (dz.lay hp)
def SR.store (h:SR K κ ι H (σ++[some v]) (Z++[some x]) G)(l:σ.length=Z.length):SR K κ ι H (σ.set i (some v)) (Z.set i (some x)) G:=by
 obtain⟨a,b⟩:=cc l h.sl
 cases b with
 | cons b _ =>
  refine⟨oy i a b,h.gs,λy=>?_⟩
  have n:=h.nd y
  rw [bQ _ _ l] at n
  have e1:own [some v] [some x]=bw (some v) (some x):=z10 _
  rw [e1] at n
  by_cases hi:i<σ.length
  ·have:=Aw (Z:=Z) (w:=some v) (y:=some x) y (z16 hi) (z16 (by lia))
   simp only [bp,z17] at this n ⊢
   lia
  ·rw [List.set_eq_of_length_le (by lia),List.set_eq_of_length_le (by lia)]
   simp only [bp,z17] at n ⊢
   lia
def Dp  (l:σ.length=Z.length)(h:a∈own (σ.set i (some v)) (Z.set i (some x))++ι):a∈own (σ++[some v]) (Z++[some x])++ι:=by
 rw [bQ _ _ l]
 have e1:own [some v] [some x]=bw (some v) (some x):=z10 _
 rw [e1]
 rw [gX] at h ⊢
 by_cases hi:i<σ.length
 ·have:=Aw (Z:=Z) (w:=some v) (y:=some x) a (z16 hi) (z16 (by lia))
  simp only [bp,z17] at this h ⊢
  lia
 ·rw [List.set_eq_of_length_le (by lia),List.set_eq_of_length_le (by lia)] at h
  simp only [bp,z17] at h ⊢
  lia
def SR.take{i:Nat}{a:Addr}{m:M}(h:SR K κ ι H σ Z G)(e1:σ[i]?=some (some (.ref a)))(e2:Z[i]?=some (some (.ow m))) :
  SR K κ ι H (σ++[some (.ref a)]) (Z.set i none++[some (.ow m)]) G/\Step ι (own σ Z++ι) H ι (own (σ++[some (.ref a)]) (Z.set i none++[some (.ow m)])++ι) H:=by
 have l:σ.length=(Z.set i none).length:=by rw [z29];exact h.len
 obtain⟨a',e1',r⟩:=h.y17a e2
 rw [e1] at e1';cases e1'
 have q:∀x,bp x (own σ (Z.set i none))+bp x [a]=bp x (own σ Z):=λx=>by
  have:=t9 (y:=none) x e1 e2
  rw [lB,jC] at this
  exact this
 refine⟨⟨de (lD h.sl e1 (.no _)) (.cons (.ow r) .nil),h.gs,λx=>?_⟩,(Step.refl _ _ _).sub λx hx=>?_⟩
 ·rw [eZ l]
  have:=h.nd x
  have:=q x
  simp only [bp,z17] at *
  lia
 ·rw [eZ l,gX] at hx
  rw [gX]
  have:=q x
  simp only [bp,z17] at *
  lia
def SR.gl(h:SR K κ ι H σ Z G):ι.length=G.length:=Paired.length h.gs
def SR.box (h:SR K κ ι H (σ++[some (.ref a)]) (Z++[some (.ow m)]) G)(l:σ.length=Z.length) :
  SR K κ (ι++[a]) H σ Z (G++[m])/\RpI K (ι++[a]) H (.ref a) (.ref G.length)/\Step ι (own (σ++[some (.ref a)]) (Z++[some (.ow m)])++ι) H (ι++[a]) (own σ Z++(ι++[a])) H:=by
 obtain⟨p,q⟩:=cc l h.sl
 have pr:=bV.snoc ι [a]
 cases q with
 | cons q _ =>
  cases q with
  | ow q =>
   refine⟨⟨iG pr (Kp.refl _) (λ_ _=>rfl) p,de (lr pr (Kp.refl _) (λ_ _=>rfl) h.gs) (.cons (q.mono pr (Kp.refl _) rfl) .nil),λx=>?_⟩,?_,⟨pr,λx hx=>.inl ?_,λ_ _ e _=>e,λ_ e=>e,Kp.refl _⟩⟩
   ·have:=h.nd x
    rw [eZ l] at this
    simp only [bp,z17] at this ⊢
    lia
   ·refine .ref ?_
    have e:=h.gl
    rw [<- e,z23 (z12 _),Nat.sub_self];rfl
   ·rw [eZ l]
    simp only [z1e] at hx ⊢
    rcases hx with hx|hx|hx
    ·exact .inl (.inl hx)
    ·exact .inr hx
    ·exact .inl (.inr hx)
def SR.poke{i:Nat}{a:Addr}{m m':M}{o:HO}(h:SR K κ ι H σ Z G)(e1:σ[i]?=some (some (.ref a)))(e2:Z[i]?=some (some (.ow m)))(r:∀(ρ:c9 K κ ι H a m),Kp H (upd H a o)->c9 K κ ι (upd H a o) a m')(hf:‹t7 m=false›) :
  SR K κ ι (upd H a o) σ (Z.set i (some (.ow m'))) G/\Step ι (own σ Z++ι) H ι (own σ (Z.set i (some (.ow m')))++ι) (upd H a o):=by
 obtain⟨a',e1',rm⟩:=h.y17a e2
 rw [e1] at e1';cases e1'
 obtain⟨u,hu,mu⟩:=rm.mu
 have kp:Kp H (upd H a o):=⟨λb xs e=>by rw [aQ (nC e hu (by rintro rfl;cases mu))];exact e,λb o' u' e=>by rw [aQ (λz=>by subst z;exact rm.nf hf _ _ e)];exact e⟩
 have q:∀x,bp x (own σ (Z.set i (some (.ow m'))))=bp x (own σ Z):=λx=>by
  have:=t9 (y:=some (.ow m')) x e1 e2
  rw [lB,lB] at this
  lia
 have mem:=ua e1 e2
 have na:∀x,x∈own σ (Z.set i none)->x≠a:=λx hx z=>by
  subst z
  have:=t9 (y:=none) x e1 e2
  rw [lB,jC] at this
  have n:=h.nd x
  have:=gX.mp hx
  have z1:bp x [x]=1:=by simp [bp]
  have z0:bp x []=0:=rfl
  lia
 have ni:∀x,x∈ι->x≠a:=λx hx z=>by
  subst z
  have n:=h.nd x
  have:=gX.mp hx
  have:=gX.mp mem
  lia
 have p1:=iG (bV.refl ι) kp (λx hx=>aQ (na x hx)) (lD h.sl e1 (.no _))
 refine⟨⟨?_,lr (bV.refl ι) kp (λx hx=>aQ (ni x hx)) h.gs,λx=>by rw [q];exact h.nd x⟩,⟨bV.refl _,λx hx=>.inl ?_,λx u e n=>?_,λx e=>?_,kp⟩⟩
 ·have:=lD p1 e1 (.ow (r rm kp))
  rw [List.set_set] at this
  exact this
 ·rw [gX] at hx ⊢
  have:=q x
  simp only [bp,z17] at *
  lia
 ·rw [aQ (λz=>n (by rw [z];exact List.mem_append_left _ mem))];exact e
 ·by_cases z:x=a
  ·subst z;rw [bf] at e;cases e
  ·rw [aQ z] at e;exact e
def SR.pokeG{k:Nat}{a:Addr}{m m':M}{o:HO}(h:SR K κ ι H σ Z G)(e1:ι[k]?=some a)(e2:G[k]?=some m)(r:∀(ρ:c9 K κ ι H a m),Kp H (upd H a o)->c9 K κ ι (upd H a o) a m')(hf:‹t7 m=false›) :
  SR K κ ι (upd H a o) σ Z (G.set k m')/\Step ι (own σ Z++ι) H ι (own σ Z++ι) (upd H a o):=by
 obtain⟨a',e1',rm⟩:=h.y178 e2
 rw [e1] at e1';cases e1'
 obtain⟨u,hu,mu⟩:=rm.mu
 have kp:Kp H (upd H a o):=⟨λb xs e=>by rw [aQ (nC e hu (by rintro rfl;cases mu))];exact e,λb o' u' e=>by rw [aQ (λz=>by subst z;exact rm.nf hf _ _ e)];exact e⟩
 have mem:a∈ι:=z34 e1
 have na:∀x,x∈own σ Z->x≠a:=λx hx z=>by
  subst z
  have n:=h.nd x
  have:=gX.mp hx
  have:=gX.mp mem
  lia
 have inj:∀j,ι[j]?=some a->j=k:=λj ej=>by
  have n:=h.nd a
  have c1:bp a ι≤1:=by lia
  by_cases z:j=k
  ·exact z
  ·exfalso
   have:2≤bp a ι:=by
    have hj:=(z1a.mp ej)
    have hk:=(z1a.mp e1)
    obtain⟨hj,vj⟩:=hj
    obtain⟨hk,vk⟩:=hk
    have two:∀(l:List Addr) (i j:Nat) (hi:i<l.length) (hj:j<l.length),i<j->l[i]=a->l[j]=a->2≤List.count a l:=by
     intro l i j hi hj hij e1 e2
     have e:l=l.take j++l.drop j:=(List.take_append_drop j l).symm
     rw [e,z17]
     have p1:0<List.count a (l.take j):=List.count_pos_iff.mpr (by rw [List.mem_take_iff_getElem];exact⟨i,by lia,e1⟩)
     have p2:0<List.count a (l.drop j):=List.count_pos_iff.mpr (by rw [List.mem_drop_iff_getElem];exact⟨0,by lia,by simpa using e2⟩)
     lia
    rcases Nat.lt_or_gt_of_ne z with z|z
    ·exact two ι j k hj hk z vj vk
    ·exact two ι k j hk hj z vk vj
   lia
 have objs:∀(as:List Addr) (Gs:List M) (b:Nat),(∀j x,as[j]?=some x->x=a->b+j=k)->Paired (c9 K κ ι H) as Gs->(∀j,b+j=k->j<as.length->as[j]?=some a)->Paired (c9 K κ ι (upd H a o)) as (if b≤k then Gs.set (k-b) m' else Gs):=by
  intro as Gs b hj p hk
  induction p generalizing b with
  | nil=>by_cases z:b≤k<;>simp [z]<;>exact .nil
  | @cons x y l r hx hr ih =>
   have ih':=ih (b+1) (λj x e z=>by have:=hj (j+1) x (by simpa using e) z;lia) (λj e l=>by have:=hk (j+1) (by lia) (by simp;lia);simpa using this)
   by_cases z:b=k
   ·subst z
    have xa:x=a:=by have:=hk 0 rfl (by simp);simpa using this
    subst xa
    rw [if_neg (by lia)] at ih'
    rw [if_pos (z12 _),Nat.sub_self]
    exact .cons (r rm kp) ih'
   ·have xa:x≠a:=λe=>z (by have:=hj 0 x rfl e;lia)
    by_cases w:b≤k
    ·rw [if_pos (by lia)] at ih'
     rw [if_pos w]
     obtain⟨n,hn⟩:∃n,k-b=n+1:=⟨k-b-1,by lia⟩
     have hn':k-(b+1)=n:=by lia
     rw [hn];rw [hn'] at ih'
     exact .cons (hx.mono (bV.refl _) kp (aQ xa)) ih'
    ·rw [if_neg (by lia)] at ih'
     rw [if_neg w]
     exact .cons (hx.mono (bV.refl _) kp (aQ xa)) ih'
 have p2:=objs ι G 0 (λj x e z=>by subst z;have:=inj j e;lia) h.gs (λj e _=>(show j=k by lia) ▸ e1)
 rw [if_pos (Nat.zero_le _),Nat.sub_zero] at p2
 refine⟨⟨iG (bV.refl ι) kp (λx hx=>aQ (na x hx)) h.sl,p2,h.nd⟩,⟨bV.refl _,λx hx=>.inl hx,λx u e n=>?_,λx e=>?_,kp⟩⟩
 ·rw [aQ (λz=>n (by rw [z];exact z24 _ mem))];exact e
 ·by_cases z:x=a
  ·subst z;rw [bf] at e;cases e
  ·rw [aQ z] at e;exact e
end
end
section
inductive Ev where
 | v (x:Vl)|s (i:Nat)
noncomputable abbrev De:=List (Option Vl)
noncomputable abbrev Mo(α:Type):=De->List M->Option (α×De×List M)
abbrev bd{α β:Type}(m:Mo α)(f:α->Mo β):Mo β:=λZ G=>match m Z G with
 | some (a,Z1,G1)=>f a Z1 G1
 | none=>none
abbrev rt{α:Type}(a:α):Mo α:=λZ G=>some (a,Z,G)
def bY{α β:Type}{m:Mo α}{f:α->Mo β}{Z:De}{G:List M}{r:β×De×List M}(h:bd m f Z G=some r):∃a Z1 G1,m Z G=some (a,Z1,G1)/\f a Z1 G1=some r:=by
 unfold bd at h
 split at h
 ·exact⟨_,_,_,by assumption,h⟩
 ·cases h
def nh{α β:Type}{m:Mo α}{f:α->Mo β}{Z Z1:De}{G G1:List M}{a:α}(h:m Z G=some (a,Z1,G1)):bd m f Z G=f a Z1 G1:=by
 unfold bd;rw [h]
abbrev tS:List Ev->List V->St
 | .v _::es,v::vs=>some v::tS es vs
 | .s _::es,_::vs=>tS es vs
 | _,_=>[]
abbrev tD:List Ev->De
 | .v x::es=>some x::tD es
 | .s _::es=>tD es
 | []=>[]
theorem oz:∀{es:List Ev} {vs:List V} (fs:List Ev) (ws:List V),es.length=vs.length->tS (es++fs) (vs++ws)=tS es vs++tS fs ws
 | [],[],_,_,_=>rfl
 | [],_::_,_,_,h=>by cases h
 | _::_,[],_,_,h=>by cases h
 | .v x::es,v::vs,fs,ws,h=>by
  show some v::tS (es++fs) (vs++ws)=some v::(tS es vs++tS fs ws)
  rw [oz fs ws (by simpa using h)]
 | .s i::es,v::vs,fs,ws,h=>by
  show tS (es++fs) (vs++ws)=tS es vs++tS fs ws
  rw [oz fs ws (by simpa using h)]
theorem oA:∀(es fs:List Ev),tD (es++fs)=tD es++tD fs
 | [],_=>rfl
 | .v x::es,fs=>by
  show some x::tD (es++fs)=some x::(tD es++tD fs)
  rw [oA]
 | .s i::es,fs=>by
  show tD (es++fs)=tD es++tD fs
  rw [oA]
structure Args(K:W.Frag)(κ:Str->Addr)(ι:List Addr)(H:Hp)(σ:St)(Z:De)(G:List M)(es:List Ev)(vs:List V):Prop where
 l:σ.length=Z.length
 sr:SR K κ ι H (σ++tS es vs) (Z++tD es) G
 al:Paired (λ(e:Ev) (v:V)=>∀i,e=.s i->σ[i]?=some (some v)) es vs
structure After(K:W.Frag)(κ:Str->Addr)(σ:St)(ι fp:List Addr)(H:Hp)(es:List Ev)(Z':De)(G':List M)(vs:List V)(ι':List Addr)(H':Hp):Prop where
 ar:Args K κ ι' H' σ Z' G' es vs
 st:Step ι fp H ι' (own (σ++tS es vs) (Z'++tD es)++ι') H'
def bI(h:some (x,Z,G)=some (e,Z',G'))(a:After K κ σ ι fp H [x] Z G vs ι' H'):After K κ σ ι fp H [e] Z' G' vs ι' H':=by cases h;exact a
abbrev aY(K:W.Frag)(κ:Str->Addr)(f:Mo Ev):TE:=λσ H Q=>∃ι Z G e Z' G',SR K κ ι H σ Z G/\f Z G=some (e,Z',G')/\∀v ι' H',After K κ σ ι (own σ Z++ι) H [e] Z' G' [v] ι' H'->Q v H'
abbrev fU(K:W.Frag)(κ:Str->Addr)(f:Mo (List Ev)):TA:=λσ H Q=>∃ι Z G es Z' G',SR K κ ι H σ Z G/\f Z G=some (es,Z',G')/\∀vs ι' H',After K κ σ ι (own σ Z++ι) H es Z' G' vs ι' H'->Q vs H'
section
variable {κ:Str->Addr}{H H1 H2:Hp}{σ:St}{Z Z1 Z2:De}
def Args.base(h:Args K κ ι H σ Z G es vs):SR K κ ι H σ Z G:=h.sr.pop h.l
def Dq (h:n=vs.length)(e:‹n=0›):vs=[]:=by subst e;cases vs with|nil=>rfl|cons _ _=>cases h
def bP (h:n=vs.length)(e:‹n=1›):∃a,vs=[a]:=by
 subst e
 cases vs with
 | nil=>cases h
 | cons a r=>exact⟨a,by rw [Dq (Nat.succ.inj h)]⟩
def bH (h:n=vs.length)(e:‹n=2›):∃a b,vs=[a,b]:=by
 subst e
 cases vs with
 | nil=>cases h
 | cons a r=>obtain⟨b,e⟩:=bP (Nat.succ.inj h);exact⟨a,b,by rw [e]⟩
def oB (h:n=vs.length)(e:‹n=3›):∃a b c,vs=[a,b,c]:=by
 subst e
 cases vs with
 | nil=>cases h
 | cons a r=>obtain⟨b,c,e⟩:=bH (Nat.succ.inj h);exact⟨a,b,c,by rw [e]⟩
def Args.len(h:Args K κ ι H σ Z G es vs):es.length=vs.length:=Paired.length h.al
def After.app(a:After K κ σ ι fp H es Z1 G1 vs ι1 H1)(b:After K κ σ ι1 (own σ Z1++ι1) H1 fs Z2 G2 ws ι2 H2):After K κ σ ι fp H (es++fs) Z2 G2 (vs++ws) ι2 H2:=by
 obtain⟨s,t⟩:=SR.join a.ar.sr a.ar.l b.ar.sr b.ar.l b.st
 have e1:=oz fs ws a.ar.len
 have e2:=oA es fs
 refine⟨⟨b.ar.l,by rw [e1,e2];exact s,de a.ar.al b.ar.al⟩,?_⟩
 rw [e1,e2]
 exact a.st.trans t
theorem After.nil(h:SR K κ ι H σ Z G):After K κ σ ι (own σ Z++ι) H [] Z G [] ι H:=by
 refine⟨⟨h.len,?_,.nil⟩,?_⟩
 ·show SR K κ ι H (σ++[]) (Z++[]) G
  rw [z10,z10];exact h
 ·show Step ι _ H ι (own (σ++[]) (Z++[])++ι) H
  rw [z10,z10];exact Step.refl _ _ _
abbrev ae:Mo (List Ev):=rt []
abbrev af(fa:Mo Ev)(fr:Mo (List Ev)):Mo (List Ev):=bd fa λe=>bd fr λes=>rt (e::es)
def Dr(h:fU K κ ae σ H Q):gR σ H Q:=by
 obtain⟨ι,Z,G,es,Z',G',s,e,k⟩:=h
 cases e
 exact k _ _ _ (After.nil s)
def Ds (h:fU K κ (af fa fr) σ H Q):cR (aY K κ fa) (fU K κ fr) σ H Q:=by
 obtain⟨ι,Z,G,es,Z',G',s,e,k⟩:=h
 obtain⟨x,Z1,G1,e1,e⟩:=bY e
 obtain⟨xs,Z2,G2,e2,e⟩:=bY e
 cases e
 refine⟨ι,Z,G,x,Z1,G1,s,e1,λv ι1 H1 a=>?_⟩
 refine⟨ι1,Z1,G1,xs,_,_,a.ar.base,e2,λvs ι2 H2 b=>?_⟩
 exact k _ _ _ (a.app b)
abbrev aD(K:W.Frag)(κ:Str->Addr)(r:List V->Hp->VK->Prop)(p:List Ev->Mo Ev):Prop :=
 ∀(ι:List Addr) (H:Hp) (σ:St) (Z:De) (G:List M) (es:List Ev) (vs:List V) (e:Ev) (Z':De) (G':List M) (Q:VK),Args K κ ι H σ Z G es vs->p es Z G=some (e,Z',G') ->
  (∀v ι' H',After K κ σ ι (own (σ++tS es vs) (Z++tD es)++ι) H [e] Z' G' [v] ι' H'->Q v H')->r vs H Q
def After.then (a:After K κ σ ι fp H es Z1 G1 vs ι1 H1)(b:After K κ σ ι1 (own (σ++tS es vs) (Z1++tD es)++ι1) H1 es' Z2 G2 vs' ι2 H2):After K κ σ ι fp H es' Z2 G2 vs' ι2 H2:=⟨b.ar,a.st.trans b.st⟩
def dP  (hp:aD K κ r p)(h:aY K κ (bd fa p) σ H Q):fU K κ fa σ H λvs H1=>r vs H1 Q:=by
 obtain⟨ι,Z,G,e,Z',G',s,eq,k⟩:=h
 obtain⟨xs,Z1,G1,e1,e2⟩:=bY eq
 refine⟨ι,Z,G,xs,Z1,G1,s,e1,λvs ι1 H1 a=>?_⟩
 exact hp _ _ _ _ _ _ _ _ _ _ _ a.ar e2 λv ι2 H2 b=>k _ _ _ (a.then b)
abbrev r2(r:R2):List V->Hp->VK->Prop:=λvs H Q=>∃x y,vs=[x,y]/\r x y H Q
abbrev r1(r:V->Hp->VK->Prop):List V->Hp->VK->Prop:=λvs H Q=>∃x,vs=[x]/\r x H Q
abbrev ai(p:List Ev->Mo Ev)(fa fb:Mo Ev):Mo Ev:=bd fa λx=>bd fb λy=>p [x,y]
abbrev a6(p:List Ev->Mo Ev)(fa:Mo Ev):Mo Ev:=bd fa λx=>p [x]
def gY  (hp:aD K κ (r2 r) p)(h:aY K κ (ai p fa fb) σ H Q):kj r (aY K κ fa) (aY K κ fb) σ H Q:=by
 obtain⟨ι,Z,G,e,Z',G',s,eq,k⟩:=h
 obtain⟨x,Z1,G1,e1,eq⟩:=bY eq
 obtain⟨y,Z2,G2,e2,eq⟩:=bY eq
 refine⟨ι,Z,G,x,Z1,G1,s,e1,λv ι1 H1 a=>?_⟩
 refine⟨ι1,Z1,G1,y,Z2,G2,a.ar.base,e2,λw ι2 H2 b=>?_⟩
 have c:=a.app b
 obtain⟨x',y',e',q⟩:=hp _ _ _ _ _ _ _ _ _ _ Q c.ar eq λv ι3 H3 d=>k _ _ _ (c.then d)
 cases e'
 exact q
def gZ  (hp:aD K κ (r1 r) p)(h:aY K κ (a6 p fa) σ H Q):tUn r (aY K κ fa) σ H Q:=by
 obtain⟨ι,Z,G,e,Z',G',s,eq,k⟩:=h
 obtain⟨x,Z1,G1,e1,eq⟩:=bY eq
 refine⟨ι,Z,G,x,Z1,G1,s,e1,λv ι1 H1 a=>?_⟩
 obtain⟨x',e',q⟩:=hp _ _ _ _ _ _ _ _ _ _ Q a.ar eq λv ι3 H3 d=>k _ _ _ (a.then d)
 cases e'
 exact q
theorem qF:∀{es:List Ev} {vs:List V} {j:Nat} {x:Vl} {v:V},Paired (RpE K κ ι H) (tS es vs) (tD es)->es[j]?=some (.v x)->vs[j]?=some v->RpE K κ ι H (some v) (some x)
 | [],_,_,_,_,_,h,_=>by simp at h
 | _::_,[],_,_,_,_,_,h=>by simp at h
 | .v y::es,w::vs,0,x,v,p,h1,h2=>by
  simp at h1 h2
  subst h1;subst h2
  cases p with
  | cons q _=>exact q
 | .s i::es,w::vs,0,x,v,p,h1,h2=>by simp at h1
 | .v y::es,w::vs,j+1,x,v,p,h1,h2=>by
  cases p with
  | cons _ p=>exact qF p (by simpa using h1) (by simpa using h2)
 | .s i::es,w::vs,j+1,x,v,p,h1,h2=>qF (vs:=vs) p (by simpa using h1) (by simpa using h2)
theorem Args.im{j:Nat}{d:I}{v:V}(a:Args K κ ι H σ Z G es vs)(h1:es[j]?=some (.v (.im d)))(h2:vs[j]?=some v):RpI K ι H v d:=by
 have:=qF (cc a.l a.sr.sl).2 h1 h2
 cases this with
 | im r=>exact r
abbrev pk(Z:De)(G:List M):Ev->Option M
 | .v (.ow m)=>some m
 | .v (.im (.ref k))=>G[k]?
 | .v (.im _)=>none
 | .s i=>match Z[i]? with
  | some (some (.ow m))=>some m
  | _=>none
theorem Args.pk{j:Nat}{e:Ev}{m:M}{v:V}(a:Args K κ ι H σ Z G es vs)(h1:es[j]?=some e)(h2:vs[j]?=some v)(h:B.pk Z G e=some m):∃b,v=.ref b/\c9 K κ ι H b m:=by
 cases e with
 | v x =>
  have q:=qF (cc a.l a.sr.sl).2 h1 h2
  cases x with
  | ow m'=>cases h;cases q with
   | ow r=>exact⟨_,rfl,r⟩
  | im d =>
   cases q with
   | im r =>
    cases r with
    | ref e =>
     obtain⟨b,e',r⟩:=a.base.y178 h
     rw [e] at e';cases e'
     exact⟨_,rfl,r⟩
    | _=>cases h
 | s i =>
  have h:(match Z[i]? with|some (some (.ow m))=>some m|_=>none)=some m:=h
  obtain⟨v',e1,al⟩:∃v',vs[j]?=some v'/\σ[i]?=some (some v'):=by
   have:∀{es:List Ev} {vs:List V} {j:Nat},Paired (λ(e:Ev) (v:V)=>∀i,e=.s i->σ[i]?=some (some v)) es vs->es[j]?=some (.s i)->∃v',vs[j]?=some v'/\σ[i]?=some (some v'):=by
    intro es vs j p
    induction p generalizing j with
    | nil=>intro h;simp at h
    | cons q _ ih =>
     intro h
     cases j with
     | zero=>simp at h;exact⟨_,rfl,q i h⟩
     | succ j=>obtain⟨v',e,z⟩:=ih (by simpa using h);exact⟨v',by simpa using e,z⟩
   exact this a.al h1
  rw [h2] at e1;cases e1
  split at h
  ·rename_i m' e
   cases h
   obtain⟨b,e',r⟩:=a.base.y17a e
   rw [al] at e';cases e'
   exact⟨_,rfl,r⟩
  ·cases h
abbrev sq(Z:De)(G:List M):Ev->Option (List I)
 | .v (.im (.tup xs))=>some xs
 | .v (.im (.fro xs))=>some xs
 | .v (.im (.con xs))=>some xs
 | e=>match pk Z G e with
  | some (.lst xs)=>some xs
  | _=>none
theorem Args.sq{j:Nat}{e:Ev}{xs:List I}{v:V}(a:Args K κ ι H σ Z G es vs)(h1:es[j]?=some e)(h2:vs[j]?=some v)(h:B.sq Z G e=some xs):∃b ys,v=.ref b/\(bu K H b ys∨ba K H b ys)/\y4e K ι H ys xs:=by
 have y16d:(match B.pk Z G e with|some (.lst xs)=>some xs|_=>none)=some xs->∃b ys,v=.ref b/\(bu K H b ys∨ba K H b ys)/\y4e K ι H ys xs:=λq=>by
  split at q
  ·rename_i xs' e'
   cases q
   obtain⟨b,e1,ys,h3,r⟩:=a.pk h1 h2 e'
   exact⟨b,ys,e1,.inl (bu.of h3),r⟩
  ·cases q
 cases e with
 | s i=>exact y16d h
 | v x =>
  cases x with
  | ow m=>exact y16d h
  | im d =>
   have r:=a.im h1 h2
   cases r with
   | tup q r=>cases h;exact⟨_,_,rfl,.inr (ba.of q),r⟩
   | con q r=>cases h;exact⟨_,_,rfl,.inr (ba.kon q),r⟩
   | fro q r=>cases h;exact⟨_,_,rfl,.inl q.sq,r⟩
   | ref q=>exact y16d h
   | non=>exact y16d h
   | bl=>exact y16d h
   | int=>exact y16d h
   | str=>exact y16d h
   | ty=>exact y16d h
def aS (a:Args K κ ι H σ Z G es vs)(r:RpI K ι H v d):After K κ σ ι (own (σ++tS es vs) (Z++tD es)++ι) H [.v (.im d)] Z G [v] ι H:=by
 refine⟨⟨a.l,a.base.push_im r,.cons (λ_ h=>by cases h) .nil⟩,(Step.refl _ _ _).sub λx h=>?_⟩
 have h:x∈own (σ++[some v]) (Z++[some (.im d)])++ι:=h
 rw [dO a.l] at h
 exact cf a.l h
def ub (a:Args K κ ι H σ Z G es vs)(s:dz H H')(r:RpI K ι H' v d):After K κ σ ι (own (σ++tS es vs) (Z++tD es)++ι) H [.v (.im d)] Z G [v] ι H':=by
 refine⟨⟨a.l,(a.base.same s).push_im r,.cons (λ_ h=>by cases h) .nil⟩,(Step.same s).sub λx h=>?_⟩
 have h:x∈own (σ++[some v]) (Z++[some (.im d)])++ι:=h
 rw [dO a.l] at h
 exact cf a.l h
def oC (a:Args K κ ι H σ Z G es vs)(hp:H p=none)(r:y4e K ι H ys xs):After K κ σ ι (own (σ++tS es vs) (Z++tD es)++ι) H [.v (.im (.tup xs))] Z G [.ref p] ι (upd H p (.tup ys)) :=
 ub a (dz.lay hp) (.tup bf (r.mono (bV.refl _) (Kp.same (dz.lay hp))))
def Dt (a:Args K κ ι H σ Z G es vs)(hp:H p=none)(r:c9 K κ ι (upd H p o) p m):After K κ σ ι (own (σ++tS es vs) (Z++tD es)++ι) H [.v (.ow m)] Z G [.ref p] ι (upd H p o) :=
 ⟨⟨a.l,a.base.y3ae hp r,.cons (λ_ h=>by cases h) .nil⟩,(Step.y233 a.l hp).wide λx h=>cf a.l h⟩
def fV (a:Args K κ ι H σ Z G es vs)(hp:H p=none)(r:y4e K ι H ys xs):After K κ σ ι (own (σ++tS es vs) (Z++tD es)++ι) H [.v (.ow (.lst xs))] Z G [.ref p] ι (upd H p (.lst ys)) :=
 Dt a hp ⟨ys,bf,r.mono (bV.refl _) (Kp.same (dz.lay hp))⟩
abbrev il(Z:De)(G:List M)(m':M):Ev->De×List M
 | .v (.im (.ref k))=>(Z,G.set k m')
 | .v _=>(Z,G)
 | .s i=>(Z.set i (some (.ow m')),G)
theorem oE:∀{es:List Ev} {vs:List V} {j:Nat} {x:Vl} {v:V},es[j]?=some (.v x)->vs[j]?=some v->es.length=vs.length->∃n:Nat,(tS es vs)[n]?=some (some v)/\(tD es)[n]?=some (some x)
 | [],_,_,_,_,h,_,_=>by simp at h
 | _::_,[],_,_,_,_,h,_=>by simp at h
 | .v y::es,w::vs,0,x,v,h1,h2,_=>by
  simp at h1 h2
  subst h1;subst h2
  exact⟨0,rfl,rfl⟩
 | .s i::es,w::vs,0,x,v,h1,h2,_=>by simp at h1
 | .v y::es,w::vs,j+1,x,v,h1,h2,l=>by
  obtain⟨n,p,q⟩:=oE (by simpa using h1) (by simpa using h2) (by simpa using l)
  exact⟨n+1,by simpa [tS] using p,by simpa [tD] using q⟩
 | .s i::es,w::vs,j+1,x,v,h1,h2,l=>by
  obtain⟨n,p,q⟩:=oE (by simpa using h1) (by simpa using h2) (by simpa using l)
  exact⟨n,p,q⟩
def Ax{i:Nat}:∀{es:List Ev} {vs:List V} {j:Nat} {v:V},Paired (λ(e:Ev) (v:V)=>∀i,e=.s i->σ[i]?=some (some v)) es vs->es[j]?=some (.s i)->vs[j]?=some v->σ[i]?=some (some v):=by
 intro es vs j v p
 induction p generalizing j with
 | nil=>intro h;simp at h
 | cons q _ ih =>
  intro h h2
  cases j with
  | zero=>simp at h h2;subst h2;exact q i h
  | succ j=>exact ih (by simpa using h) (by simpa using h2)
def lE{j:Nat}{e:Ev}{m m':M}{b:Addr}{o:HO}{v:V}{d:I}(a:Args K κ ι H σ Z G es vs)(h1:es[j]?=some e)(h2:vs[j]?=some (.ref b))(h:pk Z G e=some m)
  (r:c9 K κ ι H b m->Kp H (upd H b o)->c9 K κ ι (upd H b o) b m') (rv:RpI K ι H v d) (hf:‹t7 m=false›) :
  After K κ σ ι (own (σ++tS es vs) (Z++tD es)++ι) H [.v (.im d)] (il Z G m' e).1 (il Z G m' e).2 [v] ι (upd H b o):=by
 have fin:∀{Z':De} {G':List M},SR K κ ι (upd H b o) σ Z' G'->Step ι (own (σ++tS es vs) (Z++tD es)++ι) H ι (own σ Z'++ι) (upd H b o)->After K κ σ ι (own (σ++tS es vs) (Z++tD es)++ι) H [.v (.im d)] Z' G' [v] ι (upd H b o):=λs st=>by
  refine⟨⟨s.len,s.push_im (rv.mono (bV.refl _) st.kp),.cons (λ_ h=>by cases h) .nil⟩,st.sub λx h=>?_⟩
  have h:x∈own (σ++[some v]) (_++[some (.im d)])++ι:=h
  rw [dO s.len] at h
  exact h
 cases e with
 | s i =>
  have al:=Ax a.al h1 h2
  have h:(match Z[i]? with|some (some (.ow m))=>some m|_=>none)=some m:=h
  split at h
  ·rename_i m0 e
   cases h
   obtain⟨p,q⟩:=a.base.poke al e r hf
   exact fin p (q.wide λx h=>cf a.l h)
  ·cases h
 | v x =>
  cases x with
  | im d =>
   cases d with
   | ref k =>
    have rr:=a.im h1 h2
    cases rr with
    | ref e =>
     obtain⟨p,q⟩:=a.base.pokeG e h r hf
     exact fin p (q.wide λx h=>cf a.l h)
   | _=>cases h
  | ow m0 =>
   cases h
   obtain⟨n,p1,p2⟩:=oE h1 h2 a.len
   have e1:(σ++tS es vs)[σ.length+n]?=some (some (.ref b)):=by rw [z23 (by lia)];simpa using p1
   have e2:(Z++tD es)[σ.length+n]?=some (some (.ow m)):=by rw [a.l,z23 (by lia)];simpa using p2
   obtain⟨p,q⟩:=a.sr.poke e1 e2 r hf
   have e3:(Z++tD es).set (σ.length+n) (some (.ow m'))=Z++(tD es).set n (some (.ow m')):=by rw [a.l,List.set_append_right _ _ (by lia)];simp
   rw [e3] at p q
   exact fin (p.pop a.l) (q.sub λx h=>cf a.l h)
end
end
section
section
abbrev aa(i:Nat):Mo Ev:=λZ G=>match Z[i]? with
 | some (some (.im d))=>some (.v (.im d),Z,G)
 | some (some (.ow _))=>some (.s i,Z,G)
 | _=>none
def Du (h:aY K κ (aa i) σ H Q):cQ i σ H Q:=by
 obtain⟨ι,Z,G,e,Z',G',s,eq,k⟩:=h
 unfold aa at eq
 split at eq
 ·rename_i d hd
  cases eq
  obtain⟨v,e1,r⟩:=s.y179 hd
  refine⟨v,e1,k v ι H ⟨⟨s.len,s.push_im r,.cons (λ_ h=>by cases h) .nil⟩,(Step.refl _ _ _).sub λx h=>?_⟩⟩
  have h:x∈own (σ++[some v]) (Z++[some (.im d)])++ι:=h
  rw [dO s.len] at h
  exact h
 ·rename_i m hd
  cases eq
  obtain⟨a,e1,r⟩:=s.y17a hd
  have n:=After.nil s
  exact⟨_,e1,k _ ι H ⟨⟨s.len,n.ar.sr,.cons (λj h=>by cases h;exact e1) .nil⟩,n.st⟩⟩
 ·cases eq
abbrev ag(d:I):Mo Ev:=rt (.v (.im d))
def iH (r:∀ι H,RpI K ι H v d)(h:aY K κ (ag d) σ H Q):tC v σ H Q:=by
 obtain⟨ι,Z,G,e,Z',G',s,eq,k⟩:=h
 cases eq
 have a:=aS (After.nil s).ar (r ι H)
 exact k _ _ _ ⟨a.ar,(After.nil s).st.trans a.st⟩
abbrev oF:Ev->Mo Ev
 | .v (.im d)=>rt (.v (.im d))
 | .v (.ow m)=>λZ G=>some (.v (.im (.ref G.length)),Z,G++[m])
 | .s i=>λZ G=>match Z[i]? with
  | some (some (.ow m))=>some (.v (.im (.ref G.length)),Z.set i (some (.im (.ref G.length))),G++[m])
  | _=>none
abbrev nj:Ev->Mo Ev
 | .v x=>rt (.v x)
 | .s i=>λZ G=>match Z[i]? with
  | some (some (.ow m))=>some (.v (.ow m),Z.set i none,G)
  | _=>none
abbrev bb(f:Mo Ev):Mo Ev:=bd f oF
abbrev iI(f:Mo Ev):Mo Ev:=bd f nj
def y62  (a:After K κ σ ι fp H [e] Z1 G1 [v] ι1 H1)(h:nj e Z1 G1=some (e',Z',G')):After K κ σ ι fp H [e'] Z' G' [v] ι1 H1/\∃x,e'=.v x:=by
 cases e with
 | v x=>cases h;exact⟨a,_,rfl⟩
 | s i =>
  unfold nj at h
  dsimp only at h
  split at h
  ·rename_i m hm
   cases h
   have al:=Ax (j:=0) a.ar.al rfl rfl
   obtain⟨b,e1,r⟩:=a.ar.base.y17a hm
   rw [al] at e1;cases e1
   obtain⟨p,q⟩:=a.ar.base.take al hm
   refine⟨⟨⟨by rw [z29];exact a.ar.l,p,.cons (λ_ h=>by cases h) .nil⟩,?_⟩,_,rfl⟩
   have st:=a.st
   have e0:own (σ++tS [.s i] [.ref b]) (Z1++tD [.s i])=own σ Z1:=by
    show own (σ++[]) (Z1++[])=_
    rw [z10,z10]
   rw [e0] at st
   exact st.trans q
  ·cases h
def y61  (a:After K κ σ ι fp H [e] Z1 G1 [v] ι1 H1)(h:oF e Z1 G1=some (e',Z',G')):∃ι2,After K κ σ ι fp H [e'] Z' G' [v] ι2 H1:=by
 have go:∀{Z3:De} {b:Addr} {m:M},σ.length=Z3.length->After K κ σ ι fp H [.v (.ow m)] Z3 G1 [.ref b] ι1 H1->After K κ σ ι fp H [.v (.im (.ref G1.length))] Z3 (G1++[m]) [.ref b] (ι1++[b]) H1:=λ{Z3 b m} l a=>by
  obtain⟨p,r,q⟩:=SR.box a.ar.sr l
  refine⟨⟨l,p.push_im r,.cons (λ_ h=>by cases h) .nil⟩,a.st.trans (q.sub λx h=>?_)⟩
  have h:x∈own (σ++[some (.ref b)]) (Z3++[some (.im (.ref G1.length))])++(ι1++[b]):=h
  rw [dO l] at h
  exact h
 cases e with
 | v x =>
  cases x with
  | im d=>cases h;exact⟨_,a⟩
  | ow m =>
   cases h
   have r:=qF (cc a.ar.l a.ar.sr.sl).2 (j:=0) rfl rfl
   cases r
   exact⟨_,go a.ar.l a⟩
 | s i =>
  unfold oF at h
  dsimp only at h
  split at h
  ·rename_i m hm
   cases h
   have al:=Ax (j:=0) a.ar.al rfl rfl
   have hm':nj (.s i) Z1 G1=some (.v (.ow m),Z1.set i none,G1):=by unfold nj;dsimp only;rw [hm]
   obtain⟨a',_⟩:=y62 a hm'
   obtain⟨b,e1,r⟩:=a.ar.base.y17a hm
   rw [al] at e1;cases e1
   have c:=go (by rw [z29];exact a.ar.l) a'
   have hr:RpI K (ι1++[b]) H1 (.ref b) (.ref G1.length):=c.ar.im (j:=0) rfl rfl
   have s0:=c.ar.base
   have l:σ.length=(Z1.set i (some (.im (.ref G1.length)))).length:=by rw [z29];exact a.ar.l
   have eo:∀x,bp x (own σ (Z1.set i (some (.im (.ref G1.length)))))=bp x (own σ (Z1.set i none)):=λx=>by
    have h1:=t9 (y:=some (.im (.ref G1.length))) x al hm
    have h2:=t9 (y:=none) x al hm
    rw [fT] at h1;rw [jC] at h2
    lia
   have sr:SR K κ (ι1++[b]) H1 σ (Z1.set i (some (.im (.ref G1.length)))) (G1++[m]):=by
    refine⟨?_,s0.gs,λx=>by rw [eo];exact s0.nd x⟩
    have:=lD s0.sl al (.im hr)
    rw [List.set_set] at this
    exact this
   refine⟨_,⟨l,sr.push_im hr,.cons (λ_ h=>by cases h) .nil⟩,c.st.sub λx h=>?_⟩
   have h:x∈own (σ++[some (.ref b)]) (Z1.set i (some (.im (.ref G1.length)))++[some (.im (.ref G1.length))])++(ι1++[b]):=h
   rw [dO l] at h
   show x∈own (σ++[some (.ref b)]) (Z1.set i none++[some (.im (.ref G1.length))])++(ι1++[b])
   rw [dO (by rw [z29];exact a.ar.l)]
   simp only [z1e] at h ⊢
   rcases h with h|h
   ·left;rw [gX] at h ⊢;rw [<- eo];exact h
   ·exact .inr h
  ·cases h
def Dv (h:aY K κ (bb f) σ H Q):aY K κ f σ H Q:=by
 obtain⟨ι,Z,G,e,Z',G',s,eq,k⟩:=h
 obtain⟨x,Z1,G1,e1,eq⟩:=bY eq
 refine⟨ι,Z,G,x,Z1,G1,s,e1,λv ι1 H1 a=>?_⟩
 obtain⟨ι2,b⟩:=y61 a eq
 exact k _ _ _ b
def uc (h:aY K κ (iI f) σ H Q):aY K κ f σ H Q:=by
 obtain⟨ι,Z,G,e,Z',G',s,eq,k⟩:=h
 obtain⟨x,Z1,G1,e1,eq⟩:=bY eq
 refine⟨ι,Z,G,x,Z1,G1,s,e1,λv ι1 H1 a=>?_⟩
 obtain⟨b,_⟩:=y62 a eq
 exact k _ _ _ b
abbrev dQ:Ev->Option I
 | .v (.im d)=>some d
 | _=>none
abbrev jc:List Ev->Option (List I)
 | []=>some []
 | e::es=>match dQ e,jc es with
  | some d,some ds=>some (d::ds)
  | _,_=>none
theorem y72:∀{es:List Ev} {vs:List V} {ds:List I},Paired (RpE K κ ι H) (tS es vs) (tD es)->es.length=vs.length->jc es=some ds->y4e K ι H vs ds
 | [],[],_,_,_,h=>by cases h;exact .nil
 | [],_::_,_,_,l,_=>by cases l
 | _::_,[],_,_,l,_=>by cases l
 | e::es,v::vs,ds,p,l,h=>by
  unfold jc at h
  split at h
  ·rename_i d ds' h1 h2
   cases h
   cases e with
   | s i=>cases h1
   | v x =>
    cases x with
    | ow m=>cases h1
    | im d' =>
     cases h1
     cases p with
     | cons q p =>
      cases q with
      | im r=>exact .cons r (y72 p (by simpa using l) h2)
  ·cases h
def Args.ims(a:Args K κ ι H σ Z G es vs)(h:jc es=some ds):y4e K ι H vs ds:=y72 (cc a.l a.sr.sl).2 a.len h
abbrev b8:List Ev->Mo Ev:=λes Z G=>match jc es with
 | some ds=>if ds.length≤1000 then some (.v (.im (.tup ds)),Z,G) else none
 | none=>none
abbrev aL:List Ev->Mo Ev:=λes Z G=>match jc es with
 | some ds=>if ds.length≤1000 then some (.v (.ow (.lst ds)),Z,G) else none
 | none=>none
def ud:1000≤sizeLine:=by decide
def Dw:aD K κ (λvs H Q=>vs.length≤sizeLine/\∀p,H p=none->Q (.ref p) (upd H p (.tup vs))) b8:=by
 intro ι H σ Z G es vs e Z' G' Q a h k
 unfold b8 at h
 split at h
 ·rename_i ds hd
  split at h
  ·have r:=a.ims hd
   exact⟨by rw [r.len];exact z1c (by assumption) ud,λp hp=>k _ _ _ (bI h (oC a hp r))⟩
  ·cases h
 ·cases h
def Dx:aD K κ (λvs H Q=>vs.length≤sizeLine/\∀p,H p=none->Q (.ref p) (upd H p (.lst vs))) aL:=by
 intro ι H σ Z G es vs e Z' G' Q a h k
 unfold aL at h
 split at h
 ·rename_i ds hd
  split at h
  ·have r:=a.ims hd
   exact⟨by rw [r.len];exact z1c (by assumption) ud,λp hp=>k _ _ _ (bI h (fV a hp r))⟩
  ·cases h
 ·cases h
abbrev c7(K:W.Frag)(κ:Str->Addr)(f:Mo Bool):TT:=λσ H Q=>∃ι Z G b Z' G',SR K κ ι H σ Z G/\f Z G=some (b,Z',G')/\∀ι' H',SR K κ ι' H' σ Z' G'->Step ι (own σ Z++ι) H ι' (own σ Z'++ι') H'->Q b H'
abbrev Dy:Ev->Mo Bool
 | .v (.im (.bl b))=>rt b
 | _=>λ_ _=>none
abbrev ao(f:Mo Ev):Mo Bool:=bd f Dy
def After.drop (a:After K κ σ ι fp H [e] Z1 G1 [v] ι1 H1):SR K κ ι1 H1 σ Z1 G1/\Step ι fp H ι1 (own σ Z1++ι1) H1:=⟨a.ar.base,a.st.sub λx h=>cf a.ar.l h⟩
def g5 (h:c7 K κ (ao f) σ H Q):r6 (aY K κ f) σ H Q:=by
 obtain⟨ι,Z,G,b,Z',G',s,eq,k⟩:=h
 obtain⟨x,Z1,G1,e1,eq⟩:=bY eq
 refine⟨ι,Z,G,x,Z1,G1,s,e1,λv ι1 H1 a=>?_⟩
 unfold Dy at eq
 split at eq
 ·rename_i b'
  cases eq
  have r:=a.ar.im (j:=0) rfl rfl
  cases k9 (r)
  obtain⟨p,q⟩:=a.drop
  exact⟨_,rfl,k _ _ p q⟩
 ·cases eq
abbrev eO(c d:Mo Bool):Mo Bool:=bd c λb=>if b then d else rt false
abbrev dA(c d:Mo Bool):Mo Bool:=bd c λb=>if b then rt true else d
abbrev lF(c:Mo Bool):Mo Bool:=bd c λb=>rt (!b)
def c7.go{Q Q':Bool->Hp->Prop} (s:SR K κ ι1 H1 σ Z1 G1)(st:Step ι fp H ι1 (own σ Z1++ι1) H1)(e:f Z1 G1=some (b,Z2,G2))
  (k:∀ι' H',SR K κ ι' H' σ Z2 G2->Step ι fp H ι' (own σ Z2++ι') H'->Q b H'):c7 K κ f σ H1 Q:=⟨ι1,Z1,G1,b,Z2,G2,s,e,λι' H' s' st'=>k ι' H' s' (st.trans st')⟩
def Dz (h:c7 K κ (eO c d) σ H Q):rl (c7 K κ c) (c7 K κ d) σ H Q:=by
 obtain⟨ι,Z,G,b,Z',G',s,eq,k⟩:=h
 obtain⟨x,Z1,G1,e1,eq⟩:=bY eq
 refine⟨ι,Z,G,x,Z1,G1,s,e1,λι1 H1 s1 st=>?_⟩
 cases x with
 | true=>rw [if_pos rfl] at eq ⊢;exact c7.go (Q':=Q) s1 st eq k
 | false=>rw [if_neg z13] at eq ⊢;cases eq;exact k _ _ s1 st
def ue (h:c7 K κ (dA c d) σ H Q):tOr (c7 K κ c) (c7 K κ d) σ H Q:=by
 obtain⟨ι,Z,G,b,Z',G',s,eq,k⟩:=h
 obtain⟨x,Z1,G1,e1,eq⟩:=bY eq
 refine⟨ι,Z,G,x,Z1,G1,s,e1,λι1 H1 s1 st=>?_⟩
 cases x with
 | true=>rw [if_pos rfl] at eq ⊢;cases eq;exact k _ _ s1 st
 | false=>rw [if_neg z13] at eq ⊢;exact c7.go (Q':=Q) s1 st eq k
def DA (h:c7 K κ (lF c) σ H Q):rn (c7 K κ c) σ H Q:=by
 obtain⟨ι,Z,G,b,Z',G',s,eq,k⟩:=h
 obtain⟨x,Z1,G1,e1,eq⟩:=bY eq
 cases eq
 exact⟨ι,Z,G,x,_,_,s,e1,λι1 H1 s1 st=>k _ _ s1 st⟩
abbrev ifE(c:Mo Bool)(fa fb:Mo Ev):Mo Ev:=bd c λb=>if b then fa else fb
def aY.go  (s:SR K κ ι1 H1 σ Z1 G1)(st:Step ι fp H ι1 (own σ Z1++ι1) H1)(eq:f Z1 G1=some (e,Z2,G2))
  (k:∀v ι' H',After K κ σ ι fp H [e] Z2 G2 [v] ι' H'->Q v H'):aY K κ f σ H1 Q:=⟨ι1,Z1,G1,e,Z2,G2,s,eq,λv ι' H' a=>k v ι' H' ⟨a.ar,st.trans a.st⟩⟩
inductive Fl where
 | nx (Z:De) (G:List M)|rt (x:Vl) (G:List M)|bk (Z:De) (G:List M)|ct (Z:De) (G:List M)
noncomputable abbrev SF:=De->List M->Option Fl
abbrev oG(K:W.Frag)(κ:Str->Addr)(ι fp:List Addr)(H:Hp)(D:Ends):Fl->Prop
 | .nx Z' G'=>∀σ' ι' H',SR K κ ι' H' σ' Z' G'->Step ι fp H ι' (own σ' Z'++ι') H'->D.nx σ' H'
 | .bk Z' G'=>∀σ' ι' H',SR K κ ι' H' σ' Z' G'->Step ι fp H ι' (own σ' Z'++ι') H'->D.bk σ' H'
 | .ct Z' G'=>∀σ' ι' H',SR K κ ι' H' σ' Z' G'->Step ι fp H ι' (own σ' Z'++ι') H'->D.ct σ' H'
 | .rt x G'=>∀v ι' H',SR K κ ι' H' [some v] [some x] G'->Step ι fp H ι' (own [some v] [some x]++ι') H'->D.rt v H'
abbrev cS(K:W.Frag)(κ:Str->Addr)(f:SF):TS:=λD σ H=>∃ι Z G fl,SR K κ ι H σ Z G/\f Z G=some fl/\oG K κ ι (own σ Z++ι) H D fl
def oG.step (st:Step ι fp H ι1 fq H1)(h:oG K κ ι fp H D fl):oG K κ ι1 fq H1 D fl:=by
 cases fl with
 | nx Z' G'=>exact λσ' ι' H' s t=>h σ' ι' H' s (st.trans t)
 | bk Z' G'=>exact λσ' ι' H' s t=>h σ' ι' H' s (st.trans t)
 | ct Z' G'=>exact λσ' ι' H' s t=>h σ' ι' H' s (st.trans t)
 | rt x G'=>exact λv ι' H' s t=>h v ι' H' s (st.trans t)
def cS.of (s:SR K κ ι1 H1 σ Z1 G1)(st:Step ι fp H ι1 (own σ Z1++ι1) H1)(eq:f Z1 G1=some fl)(k:oG K κ ι fp H D fl):cS K κ f D σ H1:=⟨ι1,Z1,G1,fl,s,eq,k.step st⟩
abbrev aO:SF:=λZ G=>some (.nx Z G)
abbrev ak(a b:SF):SF:=λZ G=>match a Z G with
 | some (.nx Z1 G1)=>b Z1 G1
 | r=>r
def DB(h:cS K κ aO D σ H):rA D σ H:=by
 obtain⟨ι,Z,G,fl,s,eq,k⟩:=h
 cases eq
 exact k _ _ _ s (Step.refl _ _ _)
def uf (h:cS K κ (ak a b) D σ H):kG (cS K κ a) (cS K κ b) D σ H:=by
 obtain⟨ι,Z,G,fl,s,eq,k⟩:=h
 unfold ak at eq
 split at eq
 ·rename_i Z1 G1 e1
  exact⟨ι,Z,G,_,s,e1,λσ' ι' H' s' t=>cS.of s' t eq k⟩
 ·rename_i r hn
  cases fl with
  | nx Z' G'=>exact absurd eq (hn Z' G')
  | bk Z' G'=>exact⟨ι,Z,G,_,s,eq,k⟩
  | ct Z' G'=>exact⟨ι,Z,G,_,s,eq,k⟩
  | rt x G'=>exact⟨ι,Z,G,_,s,eq,k⟩
abbrev aE(c:Mo Bool)(a b:SF):SF:=λZ G=>match c Z G with
 | some (true,Z1,G1)=>a Z1 G1
 | some (false,Z1,G1)=>b Z1 G1
 | none=>none
def ug (h:cS K κ (aE c a b) D σ H):nK (c7 K κ c) (cS K κ a) (cS K κ b) D σ H:=by
 obtain⟨ι,Z,G,fl,s,eq,k⟩:=h
 unfold aE at eq
 split at eq
 ·rename_i Z1 G1 e1
  exact⟨ι,Z,G,true,Z1,G1,s,e1,λι' H' s' t=>by dsimp only;rw [if_pos rfl];exact cS.of s' t eq k⟩
 ·rename_i Z1 G1 e1
  exact⟨ι,Z,G,false,Z1,G1,s,e1,λι' H' s' t=>by dsimp only;rw [if_neg z13];exact cS.of s' t eq k⟩
 ·cases eq
abbrev cW(f:Mo Ev):SF:=λZ G=>match f Z G with
 | some (_,Z1,G1)=>some (.nx Z1 G1)
 | none=>none
def DD (h:cS K κ (cW f) D σ H):nJ (aY K κ f) D σ H:=by
 obtain⟨ι,Z,G,fl,s,eq,k⟩:=h
 unfold cW at eq
 split at eq
 ·rename_i e Z1 G1 e1
  cases eq
  refine⟨ι,Z,G,e,Z1,G1,s,e1,λv ι' H' a=>?_⟩
  obtain⟨p,q⟩:=a.drop
  exact k _ _ _ p q
 ·cases eq
def SR.last (h:SR K κ ι H (σ++[some v]) (Z++[some x]) G)(l:σ.length=Z.length):SR K κ ι H [some v] [some x] G/\∀a,a∈own [some v] [some x]++ι->a∈own (σ++[some v]) (Z++[some x])++ι:=by
 obtain⟨p,q⟩:=cc l h.sl
 refine⟨⟨q,h.gs,λa=>?_⟩,λa ha=>?_⟩
 ·have:=h.nd a
  rw [bQ _ _ l] at this
  simp only [bp,z17] at this ⊢
  lia
 ·rw [bQ _ _ l]
  simp only [z1e] at ha ⊢
  rcases ha with ha|ha
  ·exact .inl (.inr ha)
  ·exact .inr ha
abbrev ax(f:Mo Ev):SF:=λZ G=>match iI f Z G with
 | some (.v x,_,G1)=>some (.rt x G1)
 | _=>none
def uh (h:cS K κ (ax f) D σ H):rB (aY K κ f) D σ H:=by
 obtain⟨ι,Z,G,fl,s,eq,k⟩:=h
 unfold ax at eq
 split at eq
 ·rename_i x Z1 G1 e1
  cases eq
  refine uc ⟨ι,Z,G,_,Z1,G1,s,e1,λv ι' H' a=>?_⟩
  obtain⟨p,q⟩:=SR.last a.ar.sr a.ar.l
  exact k _ _ _ p (a.st.sub q)
 ·cases eq
abbrev DE:SF:=λ_ G=>some (.rt (.im .non) G)
noncomputable abbrev GF:=Vl->De->List M->Option (De×List M)
abbrev nq(K:W.Frag)(κ:Str->Addr)(g:GF):TG:=λv σ H Q=>∃ι Z G x Z' G',σ.length=Z.length/\SR K κ ι H (σ++[some v]) (Z++[some x]) G/\g x Z G=some (Z',G') /\
 ∀σ' ι' H',SR K κ ι' H' σ' Z' G'->Step ι (own (σ++[some v]) (Z++[some x])++ι) H ι' (own σ' Z'++ι') H'->Q σ' H'
abbrev aF(i:Nat):GF:=λx Z G=>some (Z.set i (some x),G)
def oH (h:nq K κ (aF i) v σ H Q):gO i v σ H Q:=by
 obtain⟨ι,Z,G,x,Z',G',l,s,eq,k⟩:=h
 cases eq
 exact k _ _ _ (s.store l) ((Step.refl _ _ _).sub λa ha=>Dp l ha)
abbrev aM(f:Mo Ev)(g:GF):SF:=λZ G=>match iI f Z G with
 | some (.v x,Z1,G1)=>match g x Z1 G1 with
  | some (Z2,G2)=>some (.nx Z2 G2)
  | none=>none
 | _=>none
def oI (h:cS K κ (aM f g) D σ H):fP (aY K κ f) (nq K κ g) D σ H:=by
 obtain⟨ι,Z,G,fl,s,eq,k⟩:=h
 unfold aM at eq
 split at eq
 ·rename_i x Z1 G1 e1
  split at eq
  ·rename_i Z2 G2 e2
   cases eq
   refine uc ⟨ι,Z,G,_,Z1,G1,s,e1,λv ι' H' a=>?_⟩
   exact⟨ι',Z1,G1,x,Z2,G2,a.ar.l,a.ar.sr,e2,λσ' ι2 H2 s2 st=>k _ _ _ s2 (a.st.trans st)⟩
  ·cases eq
 ·cases eq
end
end
section
section
abbrev fW(c:Mo Bool)(b:SF):Nat->SF
 | 0,_,_=>none
 | n+1,Z,G=>match c Z G with
  | some (true,Z1,G1)=>match b Z1 G1 with
   | some (.nx Z2 G2)=>fW c b n Z2 G2
   | some (.ct Z2 G2)=>fW c b n Z2 G2
   | some (.bk Z2 G2)=>some (.nx Z2 G2)
   | some (.rt x G2)=>some (.rt x G2)
   | none=>none
  | some (false,Z1,G1)=>some (.nx Z1 G1)
  | none=>none
theorem oJ  : ∀{n:Nat} {Z:De} {G:List M} {fl:Fl},fW c b n Z G=some fl->fW c b (n+1) Z G=some fl
 | 0,_,_,_,h=>by cases h
 | n+1,Z,G,fl,h=>by
  unfold fW at h ⊢
  cases e:c Z G with
  | none=>rw [e] at h;cases h
  | some r =>
   obtain⟨t,Z1,G1⟩:=r
   rw [e] at h
   cases t with
   | false=>exact h
   | true =>
    cases e2:b Z1 G1 with
    | none=>dsimp only at h;rw [e2] at h;cases h
    | some fl2 =>
     dsimp only at h
     rw [e2] at h
     dsimp only
     rw [e2]
     cases fl2 with
     | nx Z2 G2=>exact oJ h
     | ct Z2 G2=>exact oJ h
     | bk Z2 G2=>exact h
     | rt x G2=>exact h
def uk   (h:fW c b n Z G=some fl)(l:n≤m):fW c b m Z G=some fl:=by
 induction l with
 | refl=>exact h
 | step _ ih=>exact oJ ih
open Classical in
abbrev gF(c:Mo Bool)(b:SF):SF:=λZ G=>if h:∃n fl,fW c b n Z G=some fl then some (choose (choose_spec h)) else none
def oK   (h:fW c b n Z G=some fl):gF c b Z G=some fl:=by
 have ex:∃n fl,fW c b n Z G=some fl:=⟨n,fl,h⟩
 unfold gF
 rw [dif_pos ex]
 have q:=Classical.choose_spec (Classical.choose_spec ex)
 have h1:=uk h (Nat.le_max_left n (Classical.choose ex))
 have h2:=uk q (Nat.le_max_right n (Classical.choose ex))
 rw [h1] at h2
 exact h2.symm
def oM  (h:gF c b Z G=some fl):∃n,fW c b n Z G=some fl:=by
 unfold gF at h
 split at h
 ·rename_i ex
  have q:=Classical.choose_spec (Classical.choose_spec ex)
  cases h
  exact⟨_,q⟩
 ·cases h
def um  (h1:c Z G=some (true,Z1,G1))(h2:b Z1 G1=some (.nx Z2 G2)):gF c b Z G=gF c b Z2 G2:=by
 cases e:gF c b Z2 G2 with
 | some fl =>
  obtain⟨n,hn⟩:=oM e
  refine oK (n:=n+1) ?_
  unfold fW
  rw [h1];dsimp only;rw [h2];exact hn
 | none =>
  cases e':gF c b Z G with
  | none=>rfl
  | some fl =>
   obtain⟨n,hn⟩:=oM e'
   cases n with
   | zero=>cases hn
   | succ n =>
    unfold fW at hn
    rw [h1] at hn;dsimp only at hn;rw [h2] at hn
    have:=oK hn
    rw [e] at this;cases this
def oN  (h1:c Z G=some (false,Z1,G1)):gF c b Z G=some (.nx Z1 G1):=by
 refine oK (n:=1) ?_
 unfold fW
 rw [h1]
def DF (h:cS K κ (gF c b) D σ H):rJ (c7 K κ c) (cS K κ b) D σ H:=by
 obtain⟨ι,Z,G,fl,s,eq,k⟩:=h
 obtain⟨n,hn⟩:=oM eq
 refine⟨λm σ' H'=>∃ι' Z' G',SR K κ ι' H' σ' Z' G'/\Step ι (own σ Z++ι) H ι' (own σ' Z'++ι') H'/\fW c b m Z' G'=some fl,⟨n,ι,Z,G,s,Step.refl _ _ _,hn⟩,?_⟩
 rintro m σ' H' ⟨ι',Z',G',s',st,e⟩
 cases m with
 | zero=>cases e
 | succ m =>
  unfold fW at e
  split at e
  ·rename_i Z1 G1 e1
   refine⟨ι',Z',G',true,Z1,G1,s',e1,λι1 H1 s1 st1=>?_⟩
   dsimp only
   rw [if_pos rfl]
   refine⟨λσ2 H2=>∃ι2 Z2 G2,SR K κ ι2 H2 σ2 Z2 G2/\Step ι (own σ Z++ι) H ι2 (own σ2 Z2++ι2) H2/\fW c b m Z2 G2=some fl,λσ2 H2 q=>⟨m,z37 _,q⟩,?_⟩
   split at e
   ·rename_i Z2 G2 e2
    exact⟨ι1,Z1,G1,_,s1,e2,λσ2 ι2 H2 s2 st2=>⟨ι2,Z2,G2,s2,(st.trans st1).trans st2,e⟩⟩
   ·rename_i Z2 G2 e2
    exact⟨ι1,Z1,G1,_,s1,e2,λσ2 ι2 H2 s2 st2=>⟨ι2,Z2,G2,s2,(st.trans st1).trans st2,e⟩⟩
   ·rename_i Z2 G2 e2
    cases e
    exact⟨ι1,Z1,G1,_,s1,e2,λσ2 ι2 H2 s2 st2=>k _ _ _ s2 ((st.trans st1).trans st2)⟩
   ·rename_i x G2 e2
    cases e
    exact⟨ι1,Z1,G1,_,s1,e2,λv ι2 H2 s2 st2=>k _ _ _ s2 ((st.trans st1).trans st2)⟩
   ·cases e
  ·rename_i Z1 G1 e1
   cases e
   refine⟨ι',Z',G',false,Z1,G1,s',e1,λι1 H1 s1 st1=>?_⟩
   dsimp only
   rw [if_neg z13]
   exact k _ _ _ s1 (st.trans st1)
  ·cases e
structure Wk where
 n:Nat
 at_:Nat->De->List M->Option I
 fin:De->List M->Bool
structure Walks(K:W.Frag)(κ:Str->Addr)(J:It)(τ:St)(θ:De)(w:Wk):Prop where
 go:∀{i:Nat} {d:I} {ι:List Addr} {H:Hp} {σ:St} {Z:De} {G:List M},i<w.n->w.at_ i Z G=some d->σ.length=Z.length->SR K κ ι H (σ++τ) (Z++θ) G->J.go i H/\∀x H',J.yld i H x H'->dz H H'/\RpI K ι H' x d
 stop:∀{ι:List Addr} {H:Hp} {σ:St} {Z:De} {G:List M},w.fin Z G=true->σ.length=Z.length->SR K κ ι H (σ++τ) (Z++θ) G->J.stop w.n H
abbrev bB(w:Wk)(g:GF)(b:SF):Nat->Nat->SF
 | i,0,Z,G=>if w.fin Z G then some (.nx Z G) else none
 | i,r+1,Z,G=>match w.at_ i Z G with
  | some d=>match g (.im d) Z G with
   | some (Z1,G1)=>match b Z1 G1 with
    | some (.nx Z2 G2)=>bB w g b (i+1) r Z2 G2
    | some (.ct Z2 G2)=>bB w g b (i+1) r Z2 G2
    | some (.bk Z2 G2)=>some (.nx Z2 G2)
    | some (.rt x G2)=>some (.rt x G2)
    | none=>none
   | none=>none
  | none=>none
noncomputable abbrev IF:=De->List M->Option (Wk×List Ev×De×List M)
abbrev nr(K:W.Frag)(κ:Str->Addr)(f:IF):TI:=λσ H R=>∃ι Z G w es Z' G',SR K κ ι H σ Z G/\f Z G=some (w,es,Z',G') /\
 ∀J vs ι' H',After K κ σ ι (own σ Z++ι) H es Z' G' vs ι' H'->Walks K κ J (tS es vs) (tD es) w->R J H'
abbrev df(f:IF)(g:GF)(b:SF):SF:=λZ G=>match f Z G with
 | some (w,_,Z1,G1)=>bB w g b 0 w.n Z1 G1
 | none=>none
def DH  (h:cS K κ (df f g b) D σ H):nQ (nr K κ f) (nq K κ g) (cS K κ b) D σ H:=by
 obtain⟨ι,Z,G,fl,s,eq,k⟩:=h
 unfold df at eq
 split at eq
 ·rename_i w es Z1 G1 e1
  refine⟨ι,Z,G,w,es,Z1,G1,s,e1,λJ vs ι1 H1 a wk=>?_⟩
  refine⟨λi m σ' H'=>i+m=w.n/\∃ι' Z' G',σ'.length=Z'.length/\SR K κ ι' H' (σ'++tS es vs) (Z'++tD es) G'/\Step ι (own σ Z++ι) H ι' (own (σ'++tS es vs) (Z'++tD es)++ι') H'/\bB w g b i m Z' G'=some fl,
   ⟨w.n,by lia,ι1,Z1,G1,a.ar.l,a.ar.sr,a.st,eq⟩,?_⟩
  rintro i m σ' H' ⟨him,ι',Z',G',l,s',st,e⟩
  have sub:∀a,a∈own σ' Z'++ι'->a∈own (σ'++tS es vs) (Z'++tD es)++ι':=λa ha=>cf l ha
  cases m with
  | zero =>
   have hi:i=w.n:=by lia
   subst hi
   unfold bB at e
   split at e
   ·rename_i hf
    cases e
    exact .inl ⟨wk.stop hf l s',k _ _ _ (s'.pop l) (st.sub sub)⟩
   ·cases e
  | succ m =>
   unfold bB at e
   split at e
   ·rename_i d hd
    obtain⟨go,yl⟩:=wk.go (by lia) hd l s'
    refine .inr ⟨go,λσ2 H2=>∃ι2 Z2 G2,σ2.length=Z2.length/\SR K κ ι2 H2 (σ2++tS es vs) (Z2++tD es) G2/\Step ι (own σ Z++ι) H ι2 (own (σ2++tS es vs) (Z2++tD es)++ι2) H2/\bB w g b (i+1) m Z2 G2=some fl,
     λσ2 H2 q=>⟨m,z37 _,by lia,q⟩,λx H3 hy=>?_⟩
    obtain⟨sm,rx⟩:=yl x H3 hy
    have s3:=s'.same sm
    have st3:=st.trans (Step.same sm)
    split at e
    ·rename_i Z4 G4 e4
     have p:=(s3.pop l).push_im rx
     refine⟨ι',Z',G',.im d,Z4,G4,l,p,e4,λσ4 ι4 H4 s4 st4=>?_⟩
     rw [dO l] at st4
     have jn:∀{σ5:St} {Z5:De} {G5:List M} {ι5:List Addr} {H5:Hp},SR K κ ι5 H5 σ5 Z5 G5->Step ι4 (own σ4 Z4++ι4) H4 ι5 (own σ5 Z5++ι5) H5 ->
       SR K κ ι5 H5 (σ5++tS es vs) (Z5++tD es) G5/\Step ι (own σ Z++ι) H ι5 (own (σ5++tS es vs) (Z5++tD es)++ι5) H5:=λ{σ5 Z5 G5 ι5 H5} s5 st5=>by
      have j:=SR.join s3 l (by rw [z10,z10];exact s5) s5.len (by rw [z10,z10];exact st4.trans st5)
      rw [z10,z10] at j
      exact⟨j.1,st3.trans j.2⟩
     split at e
     ·rename_i Z5 G5 e5
      exact⟨ι4,Z4,G4,_,s4,e5,λσ5 ι5 H5 s5 st5=>⟨ι5,Z5,G5,s5.len,(jn s5 st5).1,(jn s5 st5).2,e⟩⟩
     ·rename_i Z5 G5 e5
      exact⟨ι4,Z4,G4,_,s4,e5,λσ5 ι5 H5 s5 st5=>⟨ι5,Z5,G5,s5.len,(jn s5 st5).1,(jn s5 st5).2,e⟩⟩
     ·rename_i Z5 G5 e5
      cases e
      exact⟨ι4,Z4,G4,_,s4,e5,λσ5 ι5 H5 s5 st5=>k _ _ _ s5 ((jn s5 st5).2.sub λa ha=>cf s5.len ha)⟩
     ·rename_i x5 G5 e5
      cases e
      refine⟨ι4,Z4,G4,_,s4,e5,λv ι5 H5 s5 st5=>k _ _ _ s5 ((jn s5 st5).2.sub λa ha=>cf s5.len ha)⟩
     ·cases e
    ·cases e
   ·cases e
 ·cases eq
end
end
section
section
def uo(l:σ.length=Z.length)(l2:τ.length=θ.length):bp a (own (τ++σ) (θ++Z))=bp a (own (σ++τ) (Z++θ)):=by
 rw [bQ _ _ l,bQ _ _ l2]
 simp only [bp,z17]
 lia
def SR.swap(h:SR K κ ι H (σ++τ) (Z++θ) G)(l:σ.length=Z.length):SR K κ ι H (τ++σ) (θ++Z) G:=by
 obtain⟨p,q⟩:=cc l h.sl
 exact⟨de q p,h.gs,λa=>by rw [uo l (Paired.length q)];exact h.nd a⟩
def iJ (l:σ.length=Z.length)(l2:τ.length=θ.length)(h:a∈own (τ++σ) (θ++Z)++l1):a∈own (σ++τ) (Z++θ)++l1:=by
 simp only [z1e] at h ⊢
 rcases h with h|h
 ·left;rw [gX] at h ⊢;rw [<- uo l l2];exact h
 ·exact .inr h
noncomputable abbrev FF:=List Vl->List M->Option (Vl×List M)
abbrev aP(K:W.Frag)(κ:Str->Addr)(n:Nat)(fn:FF):Sp:=λvs H Q _=>∃ι xs G x G',xs.length=n/\SR K κ ι H (vs.map some) (xs.map some) G/\fn xs G=some (x,G') /\
 ∀v ι' H',SR K κ ι' H' [some v] [some x] G'->Step ι (own (vs.map some) (xs.map some)++ι) H ι' (own [some v] [some x]++ι') H'->Q v H'
abbrev nt:List Ev->Option (List Vl)
 | []=>some []
 | .v x::es=>(nt es).map (x::·)
 | .s _::_=>none
abbrev aA(n:Nat)(fn:FF):List Ev->Mo Ev:=λes Z G=>match nt es with
 | some xs=>if xs.length=n then match fn xs G with
  | some (x,G')=>some (.v x,Z,G')
  | none=>none
  else none
 | none=>none
theorem oO:∀{es:List Ev} {vs:List V} {xs:List Vl},nt es=some xs->es.length=vs.length->tS es vs=vs.map some/\tD es=xs.map some
 | [],[],_,h,_=>by cases h;exact⟨rfl,rfl⟩
 | [],_::_,_,_,l=>by cases l
 | _::_,[],_,_,l=>by cases l
 | .s i::_,_::_,_,h,_=>by cases h
 | .v x::es,v::vs,xs,h,l=>by
  have h:(nt es).map (x::·)=some xs:=h
  cases e:nt es with
  | none=>rw [e] at h;cases h
  | some ys =>
   rw [e] at h;cases h
   obtain⟨p,q⟩:=oO e (by simpa using l)
   exact⟨by show some v::tS es vs=_;rw [p];rfl,by show some x::tD es=_;rw [q];rfl⟩
def DI  : aD K κ (λvs H Q=>aP K κ n fn vs H Q E) (aA n fn):=by
 intro ι H σ Z G es vs e Z' G' Q a h k
 unfold aA at h
 split at h
 ·rename_i xs hx
  split at h
  ·rename_i hl
   split at h
   ·rename_i x G1 e1
    cases h
    obtain⟨t1,t2⟩:=oO hx a.len
    have sr:=a.sr
    rw [t1,t2] at sr k
    have sw:=sr.swap a.l
    have lt:(vs.map some).length=(xs.map some).length:=Paired.length (cc a.l sr.sl).2
    refine⟨ι,xs,G,x,_,hl,sw.pop lt,e1,λv ι' H' s st=>?_⟩
    have s':SR K κ ι' H' ([some v]++[]) ([some x]++[]) _:=s
    obtain⟨j1,j2⟩:=SR.join sw lt s' rfl st
    rw [z10,z10] at j1 j2
    refine k v ι' H' ⟨⟨a.l,j1.swap rfl,.cons (λ_ h=>by cases h) .nil⟩,(j2.wide λy hy=>iJ a.l lt hy).sub λy hy=>?_⟩
    exact iJ rfl a.l hy
   ·cases h
  ·cases h
 ·cases h
abbrev aT(n r:Nat)(body:SF):FF:=λxs G=>if xs.length=n then match body (xs.map some++List.replicate r none) G with
 | some (.rt x G')=>some (x,G')
 | some (.nx _ G')=>some (.im .non,G')
 | _=>none
 else none
theorem uq:∀(r:Nat),Paired (RpE K κ ι H) (List.replicate r none) (List.replicate r none)
 | 0=>.nil
 | r+1=>.cons (.no _) (uq r)
theorem ur:∀(r:Nat),own (List.replicate r none) (List.replicate r none)=[]
 | 0=>rfl
 | r+1=>ur r
def SR.y299(h:SR K κ ι H σ Z G)(r:Nat):SR K κ ι H (σ++List.replicate r none) (Z++List.replicate r none) G/\own (σ++List.replicate r none) (Z++List.replicate r none)=own σ Z:=by
 have e:own (σ++List.replicate r none) (Z++List.replicate r none)=own σ Z:=by rw [bQ _ _ h.len,ur,z10]
 exact⟨⟨de h.sl (uq r),h.gs,λa=>by rw [e];exact h.nd a⟩,e⟩
def lG  (h:aP K κ n (aT n r body) vs H Q E):vs.length=n/\cS K κ body { nx:=λ_ H'=>Q .non H',rt:=Q } (vs.map some++List.replicate r none) H:=by
 obtain⟨ι,xs,G,x,G',hl,s,eq,k⟩:=h
 have lv:vs.length=n:=by have:=s.len;rw [z11,z11] at this;lia
 refine⟨lv,?_⟩
 unfold aT at eq
 rw [if_pos hl] at eq
 obtain⟨s0,e0⟩:=s.y299 r
 split at eq
 ·rename_i x' G1 e1
  cases eq
  refine⟨ι,_,G,_,s0,e1,?_⟩
  rw [e0]
  exact λv ι' H' s' st=>k v ι' H' s' st
 ·rename_i Z1 G1 e1
  cases eq
  refine⟨ι,_,G,_,s0,e1,?_⟩
  rw [e0]
  intro σ' ι' H' s' st
  obtain⟨p,q⟩:=SR.last (s'.push_im .non) s'.len
  refine k _ _ _ p (st.sub λa ha=>?_)
  have:=q a ha
  rw [dO s'.len] at this
  exact this
 ·cases eq
abbrev uu(K:W.Frag)(κ:Str->Addr)(r:List V->Hp->(It->Hp->Prop)->Prop)(p:List Ev->De->List M->Option Wk):Prop :=
 ∀(ι:List Addr) (H:Hp) (σ:St) (Z:De) (G:List M) (es:List Ev) (vs:List V) (w:Wk) (R:It->Hp->Prop),Args K κ ι H σ Z G es vs->p es Z G=some w ->
  (∀J,Walks K κ J (tS es vs) (tD es) w->R J H)->r vs H R
abbrev cG(fa:Mo (List Ev))(p:List Ev->De->List M->Option Wk):IF:=λZ G=>match fa Z G with
 | some (es,Z1,G1)=>(p es Z1 G1).map λw=>(w,es,Z1,G1)
 | none=>none
def lI  (hp:uu K κ r p)(h:nr K κ (cG fa p) σ H R):fU K κ fa σ H λvs H1=>r vs H1 R:=by
 obtain⟨ι,Z,G,w,es,Z',G',s,eq,k⟩:=h
 unfold cG at eq
 split at eq
 ·rename_i es1 Z1 G1 e1
  cases q:p es1 Z1 G1 with
  | none=>rw [q] at eq;cases eq
  | some w' =>
   rw [q] at eq
   cases eq
   exact⟨ι,Z,G,_,_,_,s,e1,λvs ι1 H1 a=>hp _ _ _ _ _ _ _ _ _ a.ar q λJ wk=>k J vs ι1 H1 a wk⟩
 ·cases eq
abbrev one(f:Mo Ev):Mo (List Ev):=bd f λe=>rt [e]
def lJ (h:fU K κ (one f) σ H λvs H1=>∃v,vs=[v]/\Q v H1):aY K κ f σ H Q:=by
 obtain⟨ι,Z,G,es,Z',G',s,eq,k⟩:=h
 obtain⟨x,Z1,G1,e1,eq⟩:=bY eq
 cases eq
 refine⟨ι,Z,G,x,_,_,s,e1,λv ι1 H1 a=>?_⟩
 obtain⟨v',e',q⟩:=k _ _ _ a
 cases e'
 exact q
abbrev ff:List Ev->De->List M->Option Wk:=λes _ _=>match es with
 | [.v (.im (.int j))]=>if j<2 ^ 62/\-(2 ^ 62)≤j then some ⟨j.toNat,λi _ _=>some (.int i),λ_ _=>true⟩ else none
 | _=>none
def DJ   : Walks K κ (rK lo n) τ θ ⟨n,λi _ _=>some (.int (lo+i)),λ_ _=>true⟩ where
 go:=λhi hd _ _=>by
  cases hd
  refine⟨hi,λx H' y=>?_⟩
  obtain⟨e1,e2⟩:=y
  subst e1;subst e2
  exact⟨(λ_ _ h=>h),.int _⟩
 stop:=λ_ _ _=>z12 _
def DK:uu K κ (λvs H R=>∃j:Int,vs=[.int j]/\-(2 ^ 62)≤j/\j<2 ^ 62/\R (rK 0 j.toNat) H) ff:=by
 intro ι H σ Z G es vs w R a h k
 unfold ff at h
 split at h
 ·rename_i j
  split at h
  ·rename_i hj
   cases h
   obtain⟨v,rfl⟩:=bP a.len
   have r:=a.im (j:=0) rfl rfl
   cases cF (r)
   refine⟨j,rfl,hj.2,hj.1,k _ ?_⟩
   have:=DJ (K:=K) (κ:=κ) (lo:=0) (n:=j.toNat) (τ:=tS [.v (.im (.int j))] [.int j]) (θ:=tD [.v (.im (.int j))])
   simpa using this
  ·cases h
 ·cases h
abbrev cj(e:Ev)(n:Nat):Wk:=⟨n,λi Z G=>(sq Z G e).bind (·[i]?),λZ G=>match sq Z G e with|some xs=>decide (xs.length≤n)|none=>false⟩
abbrev oP(Z:De)(G:List M):Ev->Bool
 | .v (.im (.fro _))=>true
 | .v (.im (.ref _))=>true
 | .v (.ow (.lst _))=>true
 | _=>false
abbrev uv:List Ev->De->List M->Option Wk:=λes Z G=>match es with
 | [e]=>if oP Z G e then (sq Z G e).map λxs=>cj e xs.length else none
 | _=>none
abbrev DL:List Ev->De->List M->Option Wk:=λes Z G=>match es with
 | [.v (.im (.tup xs))]=>some (cj (.v (.im (.tup xs))) xs.length)
 | [.v (.im (.con xs))]=>some (cj (.v (.im (.con xs))) xs.length)
 | _=>none
def Ay (he:e=.v x)(l:σ.length=Z.length)(h:SR K κ ι H (σ++tS [e] [v]) (Z++tD [e]) G):Args K κ ι H σ Z G [e] [v]:=⟨l,h,.cons (λi q=>by rw [he] at q;cases q) .nil⟩
def oQ (a:Args K κ ι H σ Z G [e] [v])(hl:oP Z G e=true)(h:sq Z G e=some xs):∃b ys,v=.ref b/\bu K H b ys/\y4e K ι H ys xs:=by
 cases e with
 | s i=>cases hl
 | v x =>
  cases x with
  | ow m =>
   cases m with
   | lst ys =>
    cases h
    obtain⟨b,e1,zs,h3,r⟩:=a.pk (j:=0) rfl rfl rfl
    exact⟨b,zs,e1,bu.of h3,r⟩
   | _=>cases hl
  | im d =>
   cases d with
   | fro ys =>
    cases h
    have r:=a.im (j:=0) rfl rfl
    obtain⟨_,_,rfl,q,r9⟩:=t6 r
    exact⟨_,_,rfl,q.sq,r9⟩
   | ref k =>
    have h:(match pk Z G (.v (.im (.ref k))) with|some (.lst xs)=>some xs|_=>none)=some xs:=h
    split at h
    ·rename_i ys e1
     cases h
     obtain⟨b,e1,zs,h3,r⟩:=a.pk (j:=0) rfl rfl e1
     exact⟨b,zs,e1,bu.of h3,r⟩
    ·cases h
   | _=>cases hl
def uw(h:oP Z G e=true):∃x,e=.v x:=by
 cases e with
 | v x=>exact⟨x,rfl⟩
 | s i=>cases h
def ux(h:oP Z G e=true):oP Z1 G1 e=true:=by
 cases e with
 | s i=>cases h
 | v x =>
  cases x with
  | ow m=>cases m<;>first|rfl|cases h
  | im d=>cases d<;>first|rfl|cases h
def DM (hl:oP Z G e=true):Walks K κ (Ao K b) (tS [e] [.ref b]) (tD [e]) (cj e n) where
 go:=λ{i d ι H σ Z' G'} hi hd l s=>by
  obtain⟨x,hx⟩:=uw hl
  have hd:(sq Z' G' e).bind (·[i]?)=some d:=hd
  cases q:sq Z' G' e with
  | none=>rw [q] at hd;cases hd
  | some xs =>
   rw [q] at hd
   obtain⟨b',ys,e1,h1,r⟩:=oQ (Ay hx l s) (ux hl) q
   cases e1
   obtain⟨v,hv,rv⟩:=r.get hd
   refine⟨⟨ys,v,h1,hv⟩,λx H' y=>?_⟩
   obtain⟨e2,e3⟩:=y
   subst e2
   have:=e3 ys h1
   rw [hv] at this;cases this
   exact⟨(λ_ _ h=>h),rv⟩
 stop:=λ{ι H σ Z' G'} hf l s=>by
  obtain⟨x,hx⟩:=uw hl
  have hf:(match sq Z' G' e with|some xs=>decide (xs.length≤n)|none=>false)=true:=hf
  cases q:sq Z' G' e with
  | none=>rw [q] at hf;cases hf
  | some xs =>
   rw [q] at hf
   obtain⟨b',ys,e1,h1,r⟩:=oQ (Ay hx l s) (ux hl) q
   cases e1
   exact⟨ys,h1,by rw [r.len];exact of_decide_eq_true hf⟩
def DN:uu K κ (λvs H R=>∃v,vs=[v]/\∃a,v=.ref a/\(∃xs,bu K H a xs)/\R (Ao K a) H) uv:=by
 intro ι H σ Z G es vs w R a h k
 unfold uv at h
 split at h
 ·rename_i e
  split at h
  ·rename_i hl
   cases q:sq Z G e with
   | none=>rw [q] at h;cases h
   | some xs =>
    rw [q] at h
    cases h
    obtain⟨v,rfl⟩:=bP a.len
    obtain⟨b,ys,e1,h1,r⟩:=oQ a hl q
    subst e1
    exact⟨_,rfl,b,rfl,⟨ys,h1⟩,k _ (DM hl)⟩
  ·cases h
 ·cases h
def DO:uu K κ (λvs H R=>∃v,vs=[v]/\∃a,v=.ref a/\(∃xs,ba K H a xs)/\R (Ap K a) H) DL:=by
 intro ι H σ Z G es vs w R a h k
 unfold DL at h
 have go:∀{x:I} {xs:List I},(x=.tup xs∨x=.con xs)->Args K κ ι H σ Z G [.v (.im x)] vs->sq Z G (.v (.im x))=some xs->(∀J,Walks K κ J (tS [.v (.im x)] vs) (tD [.v (.im x)]) (cj (.v (.im x)) xs.length)->R J H) ->
   ∃v,vs=[v]/\∃a,v=.ref a/\(∃xs,ba K H a xs)/\R (Ap K a) H:=λ{x xs} hx a hq k=>by
  have tv:∀{ι:List Addr} {H:Hp} {v:V},RpI K ι H v x->∃b ys,v=.ref b/\ba K H b ys/\y4e K ι H ys xs:=λr=>by
   rcases hx with rfl|rfl
   ·obtain⟨_,_,rfl,h,r9⟩:=lh r
    exact⟨_,_,rfl,ba.of h,r9⟩
   ·obtain⟨_,_,rfl,h,r9⟩:=tZ r
    exact⟨_,_,rfl,ba.kon h,r9⟩
  have sx:∀(Z:De) (G:List M),sq Z G (.v (.im x))=some xs:=λZ G=>by rcases hx with rfl|rfl<;>rfl
  obtain⟨v,rfl⟩:=bP a.len
  obtain⟨b,ys,e1,h1,r⟩:=tv (a.im (j:=0) rfl rfl)
  subst e1
  refine⟨_,rfl,b,rfl,⟨ys,h1⟩,k _ ⟨λ{i d ι' H' σ' Z' G'} hi hd l s=>?_,λ{ι' H' σ' Z' G'} hf l s=>?_⟩⟩
  ·obtain⟨b',zs,e2,h2,r2⟩:=tv ((Ay rfl l s).im (j:=0) rfl rfl)
   cases e2
   have hd:(sq Z' G' (.v (.im x))).bind (·[i]?)=some d:=hd
   rw [sx] at hd
   have hd:xs[i]?=some d:=hd
   obtain⟨v,hv,rv⟩:=r2.get hd
   refine⟨⟨zs,v,h2,hv⟩,λx H' y=>?_⟩
   obtain⟨e2,e3⟩:=y
   subst e2
   have:=e3 zs h2
   rw [hv] at this;cases this
   exact⟨(λ_ _ h=>h),rv⟩
  ·obtain⟨b',zs,e2,h2,r2⟩:=tv ((Ay rfl l s).im (j:=0) rfl rfl)
   cases e2
   exact⟨zs,h2,by rw [r2.len];exact z12 _⟩
 split at h
 ·cases h
  exact go (.inl rfl) a rfl k
 ·cases h
  exact go (.inr rfl) a rfl k
 ·cases h
end
end
section
section
abbrev qG:List Nat->Mo Unit
 | []=>rt ()
 | i::is=>λZ G=>match Z[i]? with
  | some (some (.ow m))=>qG is (Z.set i (some (.im (.ref G.length)))) (G++[m])
  | _=>qG is Z G
theorem DP:∀{ix:List Nat} {Z Z':De} {G G':List M} {ι:List Addr} {u:Unit},qG ix Z G=some (u,Z',G')->SR K κ ι H σ Z G->∃ι',SR K κ ι' H σ Z' G'/\Step ι (own σ Z++ι) H ι' (own σ Z'++ι') H
 | [],_,_,_,_,ι,_,h,s=>by cases h;exact⟨ι,s,Step.refl _ _ _⟩
 | i::is,Z,Z',G,G',ι,u,h,s=>by
  unfold qG at h
  split at h
  ·rename_i m hm
   obtain⟨a,e1,r⟩:=s.y17a hm
   have n:=After.nil s
   have a1:After K κ σ ι (own σ Z++ι) H [.s i] Z G [.ref a] ι H:=⟨⟨s.len,n.ar.sr,.cons (λj h=>by cases h;exact e1) .nil⟩,n.st⟩
   have hb:oF (.s i) Z G=some (.v (.im (.ref G.length)),Z.set i (some (.im (.ref G.length))),G++[m]):=by unfold oF;dsimp only;rw [hm]
   obtain⟨ι2,a2⟩:=y61 a1 hb
   obtain⟨s2,st2⟩:=a2.drop
   obtain⟨ι3,s3,st3⟩:=DP h s2
   exact⟨ι3,s3,st2.trans st3⟩
  ·exact DP h s
abbrev lK(Z:De)(i:Nat):Option Vl:=match Z[i]? with
 | some (some (.im d))=>some (.im d)
 | _=>none
abbrev jD(ix:List Nat)(Z:De):De:=ix.map (lK Z)
abbrev inV(ix:List Nat)(σ:St):St:=ix.map λi=>(σ[i]?).getD none
theorem nu(h:SR K κ ι H σ Z G):∀(ix:List Nat),Paired (RpE K κ ι H) (inV ix σ) (jD ix Z)/\own (inV ix σ) (jD ix Z)=[]
 | []=>⟨.nil,rfl⟩
 | i::ix=>by
  obtain⟨p,q⟩:=nu h ix
  have one:RpE K κ ι H ((σ[i]?).getD none) (lK Z i)/\bw ((σ[i]?).getD none) (lK Z i)=[]:=by
   unfold lK
   split
   ·rename_i d hd
    obtain⟨v,e,r⟩:=h.y179 hd
    rw [e]
    exact⟨.im r,fT _ _⟩
   ·exact⟨.no _,jC _⟩
  refine⟨.cons one.1 p,?_⟩
  show bw _ _++own (inV ix σ) (jD ix Z)=[]
  rw [one.2,q];rfl
theorem uy:∀{xs:List V} {ds:List I},y4e K ι H xs ds->Paired (RpE K κ ι H) (xs.map some) (ds.map λd=>some (Vl.im d))/\own (xs.map some) (ds.map λd=>some (Vl.im d))=[]
 | _,_,.nil=>⟨.nil,rfl⟩
 | _,_,.cons r rs=>by
  obtain⟨p,q⟩:=uy rs
  refine⟨.cons (.im r) p,?_⟩
  show bw _ _++own _ _=[]
  rw [fT,q];rfl
abbrev eD(w:Wk)(c:I->Option (List I))(tt:Mo Bool)(te:Mo Ev)(di:De):Nat->Nat->List I->De->List M->Option (List I×List M)
 | i,0,acc,Z,G=>if w.fin Z G then some (acc,G) else none
 | i,r+1,acc,Z,G=>match w.at_ i Z G with
  | some d=>match c d with
   | some ds=>match tt ((ds.map λd=>some (Vl.im d))++di) G with
    | some (true,Za,Ga)=>match te Za Ga with
     | some (.v (.im y),_,Gb)=>eD w c tt te di (i+1) r (acc++[y]) Z Gb
     | _=>none
    | some (false,_,Ga)=>eD w c tt te di (i+1) r acc Z Ga
    | none=>none
   | none=>none
  | none=>none
abbrev Tgt(K:W.Frag)(g:TG)(n:Nat)(c:I->Option (List I)):Prop:=∀(ι:List Addr) (H:Hp) (x:V) (d:I) (ds:List I) (σ':St) (Q:St->Hp->Prop),RpI K ι H x d->c d=some ds ->
 ds.length=n/\((∀xs,y4e K ι H xs ds->Q (xs.map some++σ') H)->g x (List.replicate n none++σ') H Q)
abbrev c1:I->Option (List I):=λd=>some [d]
def uz:Tgt K (gO 0) 1 c1:=by
 intro ι H x d ds σ' Q r h
 cases h
 exact⟨rfl,λk=>k [x] (.cons r .nil)⟩
abbrev fg(fi:IF)(ix:List Nat)(c:I->Option (List I))(tt:Mo Bool)(te:Mo Ev):Mo Ev:=λZ G=>match qG ix Z G with
 | some (_,Z0,G0)=>match fi Z0 G0 with
  | some (w,_,Z1,G1)=>if w.n≤100000 then match eD w c tt te (jD ix Z1) 0 w.n [] Z1 G1 with
   | some (ds,G2)=>some (.v (.ow (.lst ds)),Z1,G2)
   | none=>none
   else none
  | none=>none
 | none=>none
def DQ:100000<sizeLine:=by decide
def uA    (hg:∀z,Tgt K (g z) n c)(h:aY K κ (fg fi ix c tt te) σ H Q) :
  om n ix (nr K κ fi) g (λ_=>c7 K κ tt) (λ_=>aY K κ te) σ H Q:=by
 obtain⟨ι,Z,G,e,Z',G',s,eq,k⟩:=h
 unfold fg at eq
 split at eq
 ·rename_i u Z0 G0 e0
  split at eq
  ·rename_i w es Z1 G1 e1
   split at eq
   ·rename_i hn
    split at eq
    ·rename_i ds G2 e2
     obtain⟨ι0,s0,st0⟩:=DP e0 s
     refine⟨ι0,Z0,G0,w,es,Z1,G1,s0,e1,λJ vs ι1 H1 a wk=>?_⟩
     intro D hD
     have lo:(σ++tS es vs).length=(Z1++tD es).length:=by
      have:=a.ar.sr.len;exact this
     refine⟨λi m ys H'=>i+m=w.n/\H' D=some (.lst ys)/\∃ι' G' acc,SR K κ ι' H' ((σ++tS es vs)++[some (.ref D)]) ((Z1++tD es)++[some (.ow (.lst acc))]) G' /\
      Step ι (own σ Z++ι) H ι' (own ((σ++tS es vs)++[some (.ref D)]) ((Z1++tD es)++[some (.ow (.lst acc))])++ι') H'/\acc.length≤i/\acc.length=ys.length/\eD w c tt te (jD ix Z1) i m acc Z1 G'=some (ds,G2),⟨w.n,by lia,bf,ι1,G1,[],?_,?_,z12 _,rfl,e2⟩,?_⟩
     ·exact a.ar.sr.y3ae hD ⟨[],bf,.nil⟩
     ·exact (st0.trans a.st).trans (Step.y233 lo hD)
     ·rintro i m ys H' ⟨him,hys,ι',G',acc,s',st,hac,hay,et⟩
      refine⟨hys,?_⟩
      have sb:=s'.pop lo
      cases m with
      | zero =>
       unfold eD at et
       split at et
       ·rename_i hf
        cases et
        have hi:i=w.n:=by lia
        subst hi
        refine .inl ⟨wk.stop hf a.ar.l sb,?_⟩
        have l1:=a.ar.l
        obtain⟨pa,pc⟩:=cc lo s'.sl
        obtain⟨pa,pb⟩:=cc l1 pa
        have lt:=Paired.length pb
        have e3:own ((σ++tS es vs)++[some (.ref D)]) ((Z1++tD es)++[some (.ow (.lst ds))])=own σ Z1++own (tS es vs) (tD es)++[D]:=by rw [eZ lo,bQ _ _ l1]
        have e4:own (σ++[some (.ref D)]) (Z1++[some (.ow (.lst ds))])=own σ Z1++[D]:=eZ l1
        refine k _ ι' H' (bI eq ⟨⟨l1,⟨de pa pc,s'.gs,λx=>?_⟩,.cons (λ_ h=>by cases h) .nil⟩,st.sub λx hx=>?_⟩)
        ·have n':=s'.nd x
         rw [e3] at n'
         show bp x (own (σ++[some (.ref D)]) (Z1++[some (.ow (.lst ds))]))+bp x ι'≤1
         rw [e4]
         simp only [bp,z17] at n' ⊢
         lia
        ·have hx:x∈own (σ++[some (.ref D)]) (Z1++[some (.ow (.lst ds))])++ι':=hx
         rw [e4] at hx
         rw [e3]
         simp only [z1e] at hx ⊢
         rcases hx with (hx|hx)|hx
         ·exact .inl (.inl (.inl hx))
         ·exact .inl (.inr hx)
         ·exact .inr hx
       ·cases et
      | succ m =>
       unfold eD at et
       split at et
       ·rename_i d hd
        obtain⟨go,yl⟩:=wk.go (by lia) hd a.ar.l sb
        refine .inr ⟨go,by have:=DQ;lia,λys' H5=>i+1+m=w.n/\H5 D=some (.lst ys')/\∃ι5 G5 y5c,SR K κ ι5 H5 ((σ++tS es vs)++[some (.ref D)]) ((Z1++tD es)++[some (.ow (.lst y5c))]) G5 /\
         Step ι (own σ Z++ι) H ι5 (own ((σ++tS es vs)++[some (.ref D)]) ((Z1++tD es)++[some (.ow (.lst y5c))])++ι5) H5/\y5c.length≤i+1/\y5c.length=ys'.length/\eD w c tt te (jD ix Z1) (i+1) m y5c Z1 G5=some (ds,G2),λys' H5 q=>⟨m,z37 _,q⟩,λx H3 hy z=>?_⟩
        obtain⟨sm,rx⟩:=yl x H3 hy
        split at et
        ·rename_i dd hc
         obtain⟨hl,tg⟩:=hg z ι' H3 x d dd (inV ix σ) _ rx hc
         refine tg λxs rs=>?_
         have s3:=s'.same sm
         have st3:=st.trans (Step.same (ι:=ι') (fp:=own ((σ++tS es vs)++[some (.ref D)]) ((Z1++tD es)++[some (.ow (.lst acc))])++ι') sm)
         obtain⟨p1,o1⟩:=uy (κ:=κ) rs
         obtain⟨p2,o2⟩:=nu ((s3.pop lo).pop a.ar.l) ix
         have lx:=Paired.length p1
         have oin:own (xs.map some++inV ix σ) (dd.map (λd=>some (Vl.im d))++jD ix Z1)=[]:=by rw [bQ _ _ lx,o1,o2];rfl
         have sin:SR K κ ι' H3 (xs.map some++inV ix σ) (dd.map (λd=>some (Vl.im d))++jD ix Z1) G':=⟨de p1 p2,s3.gs,λy=>by
          rw [oin];have:=s3.nd y;simp only [bp,List.count_nil] at *;lia⟩
         have lin:=sin.len
         have both:SR K κ ι' H3 ((xs.map some++inV ix σ)++((σ++tS es vs)++[some (.ref D)])) ((dd.map (λd=>some (Vl.im d))++jD ix Z1)++((Z1++tD es)++[some (.ow (.lst acc))])) G':=⟨de sin.sl s3.sl,s3.gs,λy=>by
          rw [bQ _ _ lin,oin];have:=s3.nd y;simpa using this⟩
         have kn:y45 n ix σ (xs.map some++inV ix σ):=by
          have lxs:xs.length=n:=by rw [z11,z11] at lx;lia
          refine⟨by rw [zc,z11];unfold inV;rw [z11,lxs],λj v hj=>?_⟩
          unfold c8 at hj
          by_cases hjn:j<n
          ·rw [z25 (by simpa using hjn),List.getElem?_replicate,if_pos hjn] at hj
           cases hj
          ·rw [z23 (by simp;lia)] at hj
           rw [z23 (by simp;lia)]
           simp only [List.length_replicate,z11,lxs] at hj ⊢
           exact hj
         refine⟨kn,?_⟩
         have jn:∀{σ5:St} {Z5:De} {θ5:De} {τ5:St} {G5:List M} {ι5:List Addr} {H5:Hp},σ5.length=Z5.length->SR K κ ι5 H5 (σ5++τ5) (Z5++θ5) G5->Step ι' (own (xs.map some++inV ix σ) (dd.map (λd=>some (Vl.im d))++jD ix Z1)++ι') H3 ι5 (own (σ5++τ5) (Z5++θ5)++ι5) H5 ->
           SR K κ ι5 H5 (((σ++tS es vs)++[some (.ref D)])++τ5) (((Z1++tD es)++[some (.ow (.lst acc))])++θ5) G5/\Step ι (own σ Z++ι) H ι5 (own (((σ++tS es vs)++[some (.ref D)])++τ5) (((Z1++tD es)++[some (.ow (.lst acc))])++θ5)++ι5) H5/\H5 D=some (.lst ys):=λ{σ5 Z5 θ5 τ5 G5 ι5 H5} l5 s5 st5=>by
          obtain⟨j1,j2⟩:=SR.join both lin s5 l5 st5
          have lT:((σ++tS es vs)++[some (V.ref D)]).length=((Z1++tD es)++[some (Vl.ow (.lst acc))]).length:=s3.len
          have lj:(((σ++tS es vs)++[some (V.ref D)])++τ5).length=(((Z1++tD es)++[some (Vl.ow (.lst acc))])++θ5).length:=by
           have:=j1.len;rw [zc,zc (as:=Z5)] at this;lia
          refine⟨(j1.swap l5).pop lj,?_,?_⟩
          ·refine (st3.trans (j2.wide λy hy=>?_)).sub λy hy=>?_
           ·rw [bQ _ _ lin,oin] at hy;exact hy
           ·exact iJ (σ:=σ5) (Z:=Z5) l5 lj (cf lj hy)
          ·have q:=sm _ _ hys
           refine st5.keep D _ q λhm=>?_
           rw [oin] at hm
           have n':=s3.nd D
           rw [eZ lo] at n'
           have:=gX.mp (show D∈ι' from hm)
           have c1:List.count D [D]=1:=by simp
           simp only [bp,z17] at *
           lia
         split at et
         ·rename_i Za Ga ea
          refine⟨ι',_,G',true,Za,Ga,sin,ea,λι4 H4 s4 st4=>?_⟩
          dsimp only
          rw [if_pos rfl]
          split at et
          ·rename_i y Zb Gb eb
           refine⟨ι4,Za,Ga,_,Zb,Gb,s4,eb,λyv ι5 H5 a5=>?_⟩
           obtain⟨j1,j2,j3⟩:=jn a5.ar.l a5.ar.sr (st4.trans a5.st)
           refine⟨j3,by lia,bf,ι5,Gb,acc++[y],?_⟩
           have ry:RpI K ι5 H5 yv y:=a5.ar.im (j:=0) rfl rfl
           have lT:((σ++tS es vs)++[some (V.ref D)]).length=((Z1++tD es)++[some (Vl.ow (.lst acc))]).length:=s3.len
           have s6:=j1.pop lT
           have i1:((σ++tS es vs)++[some (V.ref D)])[(σ++tS es vs).length]?=some (some (.ref D)):=by rw [z23 (z12 _),Nat.sub_self];rfl
           have i2:((Z1++tD es)++[some (Vl.ow (.lst acc))])[(σ++tS es vs).length]?=some (some (.ow (.lst acc))):=by rw [lo,z23 (z12 _),Nat.sub_self];rfl
           obtain⟨q1,q2⟩:=s6.poke i1 i2 (m':=.lst (acc++[y])) (o:=.lst (ys++[yv])) (λρ kp=>by
            obtain⟨zs,h1,h2⟩:=ρ
            rw [j3] at h1;cases h1
            exact⟨_,bf,(h2.app (.cons ry .nil)).mono (bV.refl _) kp⟩)
           have e5:((Z1++tD es)++[some (Vl.ow (.lst acc))]).set (σ++tS es vs).length (some (.ow (.lst (acc++[y]))))=(Z1++tD es)++[some (.ow (.lst (acc++[y])))]:=by rw [lo,List.set_append_right _ _ (z12 _),Nat.sub_self];rfl
           rw [e5] at q1 q2
           refine⟨q1,(j2.sub λw hw=>cf lT hw).trans q2,by rw [zc];simp;lia,by rw [zc,zc];simp;lia,et⟩
          ·cases et
         ·rename_i Za Ga ea
          refine⟨ι',_,G',false,Za,Ga,sin,ea,λι4 H4 s4 st4=>?_⟩
          dsimp only
          rw [if_neg z13]
          have s4':SR K κ ι4 H4 ((xs.map some++inV ix σ)++[]) (Za++[]) Ga:=by rw [z10,z10];exact s4
          obtain⟨j1,j2,j3⟩:=jn (τ5:=[]) (θ5:=[]) s4.len s4' (by rw [z10,z10];exact st4)
          rw [z10,z10] at j1 j2
          exact⟨by lia,j3,ι4,Ga,acc,j1,j2,by lia,hay,et⟩
         ·cases et
        ·cases et
       ·cases et
    ·cases eq
   ·cases eq
  ·cases eq
 ·cases eq
end
end
section
section
variable {κ:Str->Addr}
abbrev uB(f:Str)(d:I):List (Str×I)->List (Str×I)
 | []=>[(f,d)]
 | (g,x)::r=>if g=f then (g,d)::r else (g,x)::uB f d r
abbrev DR(c f:Str):List Ev->Mo Ev:=λes Z G=>match es with
 | [.v (.im (.ref k))]=>match G[k]? with
  | some (.obj c' fs)=>if c'=c then match fs.lookup f with
   | some d=>some (.v (.im d),Z,G)
   | none=>none
   else none
  | _=>none
 | _=>none
abbrev DS(c f:Str)(fo fv:Mo Ev):SF:=λZ G=>match fv Z G with
 | some (.v (.im d),Z1,G1)=>match fo Z1 G1 with
  | some (.v (.im (.ref k)),Z2,G2)=>match G2[k]? with
   | some (.obj c' fs)=>if c'=c/\fs.length<1000 then some (.nx Z2 (G2.set k (.obj c (uB f d fs)))) else none
   | _=>none
  | _=>none
 | _=>none
abbrev uC(c m:Str)(n:Nat)(fn:FF)(fo:Mo Ev)(fa:Mo (List Ev)):Mo Ev:=bd fo λe=>λZ G=>match e with
 | .v (.im (.ref k))=>match G[k]? with
  | some (.obj c' fs)=>if c'=c/\(fs.lookup m).isNone then bd fa (λes=>aA n fn (.v (.im (.ref k))::es)) Z G else none
  | _=>none
 | _=>none
abbrev uD(c:Str)(n:Nat)(fn:FF):List Ev->Mo Ev:=λes Z G=>match nt es with
 | some xs=>if xs.length+1=n then match fn (.im (.ref G.length)::xs) (G++[.obj c []]) with
  | some (.im .non,G')=>some (.v (.im (.ref G.length)),Z,G')
  | _=>none
  else none
 | none=>none
end
end
end B
namespace B
open PySem PySem.Spec PyProof.Rows L2
section
section
variable {X:Cx}{e:Expr}{es:List Expr}{st:Stmt}{sts:List Stmt}
def aW(h:PE X e t)(k:∀σ H Q,t' σ H Q->t σ H Q):PE X e t':=λpins s σ H Q I q=>h pins s σ H Q I (k σ H Q q)
def fj(h:PT X e t)(k:∀σ H Q,t' σ H Q->t σ H Q):PT X e t':=λpins s σ H Q I q=>h pins s σ H Q I (k σ H Q q)
def jE(h:PW X e t)(k:∀σ H Q,t' σ H Q->t σ H Q):PW X e t':=λw pins s σ H Q I q=>h w pins s σ H Q I (k σ H Q q)
def uE(h:PA X es t)(k:∀σ H Q,t' σ H Q->t σ H Q):PA X es t':=λpos pins s σ H Q I q=>h pos pins s σ H Q I (k σ H Q q)
def cT{t t':TS}(h:PS X st t)(k:∀D σ H,t' D σ H->t D σ H):PS X st t':=λpins s σ H D I q=>h pins s σ H D I (k D σ H q)
def lL(h:dH X sts t)(k:∀D σ H,t' D σ H->t D σ H):dH X sts t':=λpins s σ H D I q=>h pins s σ H D I (k D σ H q)
def oR (h:PI X tg iter t)(k:∀σ H R,t' σ H R->t σ H R):PI X tg iter t':=λpins s σ H R I q=>h pins s σ H R I (k σ H R q)
def DT (h:PG X tg t)(k:∀v σ H Q,t' v σ H Q->t v σ H Q):PG X tg t':=λpins s σ H v u Q I r q=>h pins s σ H v u Q I r (k v σ H Q q)
def jj(h:PE X e t)(h':PE X e t'):PE X e (λσ H Q=>t σ H Q∨t' σ H Q):=λpins s σ H Q I q=>q.elim (h pins s σ H Q I) (h' pins s σ H Q I)
def lM(h:PT X e t)(h':PT X e t'):PT X e (λσ H Q=>t σ H Q∨t' σ H Q):=λpins s σ H Q I q=>q.elim (h pins s σ H Q I) (h' pins s σ H Q I)
def uF{t t':TS}(h:PS X st t)(h':PS X st t'):PS X st (λD σ H=>t D σ H∨t' D σ H):=λpins s σ H D I q=>q.elim (h pins s σ H D I) (h' pins s σ H D I)
def uG (h:PI X tg iter t)(h':PI X tg iter t'):PI X tg iter (λσ H R=>t σ H R∨t' σ H R):=λpins s σ H R I q=>q.elim (h pins s σ H R I) (h' pins s σ H R I)
end
section
variable {X:Cx}{κ:Str->Addr}{a b c:Expr}{fa fb fv:Mo Ev}{fc fd:Mo Bool}{fs:Mo (List Ev)}{es:List Expr}{pos:Pos}
@[irreducible] noncomputable def LE(X:Cx)(κ:Str->Addr)(e:Expr)(f:Mo Ev):Prop:=PE X e (aY X.K κ f)
def LE.mk  (h:PE X e (aY X.K κ f)):LE X κ e f:=by unfold LE;exact h
def LE.pe  (h:LE X κ e f):PE X e (aY X.K κ f):=by unfold LE at h;exact h
@[irreducible] noncomputable def LT(X:Cx)(κ:Str->Addr)(e:Expr)(f:Mo Bool):Prop:=PT X e (c7 X.K κ f)
def LT.mk  (h:PT X e (c7 X.K κ f)):LT X κ e f:=by unfold LT;exact h
def LT.pe  (h:LT X κ e f):PT X e (c7 X.K κ f):=by unfold LT at h;exact h
@[irreducible] noncomputable def LW(X:Cx)(κ:Str->Addr)(e:Expr)(f:Mo Bool):Prop:=PW X e (c7 X.K κ f)
def LW.mk  (h:PW X e (c7 X.K κ f)):LW X κ e f:=by unfold LW;exact h
def LW.pe  (h:LW X κ e f):PW X e (c7 X.K κ f):=by unfold LW at h;exact h
@[irreducible] noncomputable def LA(X:Cx)(κ:Str->Addr)(es:List Expr)(f:Mo (List Ev)):Prop:=PA X es (fU X.K κ f)
def LA.mk  (h:PA X es (fU X.K κ f)):LA X κ es f:=by unfold LA;exact h
def LA.pe  (h:LA X κ es f):PA X es (fU X.K κ f):=by unfold LA at h;exact h
@[irreducible] noncomputable def LS(X:Cx)(κ:Str->Addr)(s:Stmt)(f:SF):Prop:=PS X s (cS X.K κ f)
def LS.mk  (h:PS X s (cS X.K κ f)):LS X κ s f:=by unfold LS;exact h
def LS.pe  (h:LS X κ s f):PS X s (cS X.K κ f):=by unfold LS at h;exact h
@[irreducible] noncomputable def fX(X:Cx)(κ:Str->Addr)(s:List Stmt)(f:SF):Prop:=dH X s (cS X.K κ f)
def fX.mk  (h:dH X s (cS X.K κ f)):fX X κ s f:=by unfold fX;exact h
def fX.pe  (h:fX X κ s f):dH X s (cS X.K κ f):=by unfold fX at h;exact h
@[irreducible] noncomputable def LI(X:Cx)(κ:Str->Addr)(tg e:Expr)(f:IF):Prop:=PI X tg e (nr X.K κ f)
def LI.mk  (h:PI X tg e (nr X.K κ f)):LI X κ tg e f:=by unfold LI;exact h
def LI.pe  (h:LI X κ tg e f):PI X tg e (nr X.K κ f):=by unfold LI at h;exact h
@[irreducible] noncomputable def LG(X:Cx)(κ:Str->Addr)(tg:Expr)(f:GF):Prop:=PG X tg (nq X.K κ f)
def LG.mk  (h:PG X tg (nq X.K κ f)):LG X κ tg f:=by unfold LG;exact h
def LG.pe  (h:LG X κ tg f):PG X tg (nq X.K κ f):=by unfold LG at h;exact h
def jF(i:Nat)(hN:‹X.N[i]?=some x›)(hv:Am X.env.scope x:=by first|exact Or.inl rfl|exact Or.inr (Or.inl rfl)|exact Or.inr (Or.inr rfl))(hd:(x == ("__debug__" : Str))=false:=by decide)
  (hcd:(x == ("__classdict__" : Str))=false:=by decide):LE X κ (.Name x pos) (aa i):=.mk (aW (eB hN hv hd hcd) λ_ _ _=>Du)
def uH{j pos}:LE X κ (.Constant (.int i) j pos) (ag (.int i)):=.mk (aW nF λ_ _ _=>iH λ_ _=>.int _)
def DU{j pos}:LE X κ (.Constant (.bool i) j pos) (ag (.bl i)):=.mk (aW rf λ_ _ _=>iH λ_ _=>.bl _)
def uI{j pos}:LE X κ (.Constant .none j pos) (ag .non):=.mk (aW Bk λ_ _ _=>iH λ_ _=>.non)
def uJ{j pos}:LE X κ (.Constant (.str x) j pos) (ag (.str x)):=.mk (aW rg λ_ _ _=>iH λ_ _=>.str _)
def oS  (hg:Gl X x)(hm:X.mg x=some u)(r:ay v u)(rd:∀ι H,RpI X.K ι H v d)(hd:(x == ("__debug__" : Str))=false:=by decide):LE X κ (.Name x pos) (ag d):=.mk (aW (ji hg hm r hd) λ_ _ _=>iH rd)
def uK(h:LE X κ a fa):LE X κ a (bb fa):=.mk (aW h.pe λ_ _ _=>Dv)
def DV:LA X κ [] ae:=.mk (uE dJ λ_ _ _=>Dr)
def Az(h:LE X κ a fa)(r:LA X κ es fs)(hs:‹starEach (a::es) X.env=(false,eval a X.env)::starEach es X.env›):LA X κ (a::es) (af fa fs):=.mk (uE (bU h.pe r.pe hs) λ_ _ _=>Ds)
def iK (ho:bT X (binaryOp op) r)(hp:aD X.K κ (r2 r) p)(ha:LE X κ a fa)(hb:LE X κ b fb):LE X κ (.BinOp a op b pos) (ai p fa fb):=.mk (aW (rQ ho ha.pe hb.pe) λ_ _ _=>gY hp)
def DW (ho:Aq X (unaryOp op) r)(hp:aD X.K κ (r1 r) p)(ha:LE X κ a fa):LE X κ (.UnaryOp op a pos) (a6 p fa):=.mk (aW (nS ho ha.pe) λ_ _ _=>gZ hp)
def lN (ho:bT X (compareOp op) r)(hp:aD X.K κ (r2 r) p)(ha:LE X κ a fa)(hb:LE X κ b fb)(hm:behindInMarks op b=false):LE X κ (.Compare a [op] [b] pos) (ai p fa fb):=.mk (aW (rZ ho ha.pe hb.pe hm) λ_ _ _=>gY hp)
def g6 (ho:bT X (compareOp op) r)(hp:aD X.K κ (r2 r) p)(ha:LE X κ a fa)(hb:LE X κ b fb)(hm:behindInMarks op b=false):LT X κ (.Compare a [op] [b] pos) (ao (ai p fa fb)):=.mk (fj (gP ho ha.pe hb.pe hm) λσ H Q h=>gY hp (g5 h))
def uL{x1}(h:LA X κ es fs):LE X κ (.Tuple es x1 pos) (bd fs b8):=.mk (aW (jq h.pe) λ_ _ _ q=>dP Dw q)
def uM(h:LA X κ es fs):LE X κ (.List es pos) (bd fs aL):=.mk (aW (BZ h.pe) λ_ _ _ q=>dP Dx q)
def t_w(h:LW X κ a fc):LT X κ a fc:=.mk (h.pe.pt)
def DX(h:LT X κ a fc):LW X κ (.BoolOp .And [a] pos) fc:=.mk (kF h.pe)
def uN(h:LT X κ a fc):LW X κ (.BoolOp .Or [a] pos) fc:=.mk (nH h.pe)
def uO{aG:List Expr}(h:LT X κ a fc)(k:LW X κ (.BoolOp .And (b::aG) pos) fd):LW X κ (.BoolOp .And (a::b::aG) pos) (eO fc fd):=.mk (jE (nI h.pe k.pe) λ_ _ _=>Dz)
def uP{aG:List Expr}(h:LT X κ a fc)(k:LW X κ (.BoolOp .Or (b::aG) pos) fd):LW X κ (.BoolOp .Or (a::b::aG) pos) (dA fc fd):=.mk (jE (rq h.pe k.pe) λ_ _ _=>ue)
def uQ(h:LT X κ a fc):LT X κ (.UnaryOp .Not a pos) (lF fc):=.mk (fj (Bq h.pe) λ_ _ _=>DA)
abbrev cH:Ev->Mo Bool:=λe Z G=>match e with
 | .v (.im .non)=>some (false,Z,G)
 | .v (.im (.bl b))=>some (b,Z,G)
 | .v (.im (.int i))=>some (i != 0,Z,G)
 | .v (.im (.str y))=>if y.length≤1000000 then some ((y.length:Int) != 0,Z,G) else none
 | e=>match pk Z G e with
  | some (.dic kvs)=>some (!kvs.isEmpty,Z,G)
  | _=>match sq Z G e with
   | some xs=>some (!xs.isEmpty,Z,G)
   | none=>none
def isE{K:W.Frag}{ι:List Addr}{H:Hp}{vs:List V}{xs:List I}(r:y4e K ι H vs xs):(!xs.isEmpty)=!vs.isEmpty:=by cases r<;>rfl
def jG{K:W.Frag}{e:Ev}{c:Bool}(a:Args K κ ι H σ Z G [e] [v])(h:cH e Z G=some (c,Z',G')):nX K v H c/\Z'=Z/\G'=G:=by
 have seqs:∀{xs:List I},sq Z G e=some xs->nX K v H (!xs.isEmpty):=λhx=>by
  obtain⟨b,ys,e2,h2,r⟩:=a.sq (j:=0) rfl rfl hx
  subst e2
  rw [isE r]
  rcases h2 with h2|h2
  ·exact .inl ⟨ys,h2,rfl⟩
  ·exact .inr (.inl ⟨ys,h2,rfl⟩)
 unfold cH at h
 split at h
 ·cases h;cases jB (a.im (j:=0) rfl rfl);exact⟨rfl,rfl,rfl⟩
 ·cases h;cases k9 (a.im (j:=0) rfl rfl);exact⟨rfl,rfl,rfl⟩
 ·cases h;cases cF (a.im (j:=0) rfl rfl);exact⟨rfl,rfl,rfl⟩
 ·split at h
  ·rename_i y hy
   cases h;cases bJ (a.im (j:=0) rfl rfl)
   exact⟨⟨z1c hy (by decide),rfl⟩,rfl,rfl⟩
  ·cases h
 ·split at h
  ·rename_i kvs hp
   cases h
   obtain⟨b,e2,ws,h1,h2,h3⟩:=a.pk (j:=0) rfl rfl hp
   subst e2
   refine⟨.inr (.inr ⟨ws,h1,?_⟩),rfl,rfl⟩
   have:=congrArg List.length h2
   simp at this
   cases kvs<;>cases ws<;>simp_all
  ·split at h
   ·rename_i xs hx
    cases h
    exact⟨seqs hx,rfl,rfl⟩
   ·cases h
def DY{K:W.Frag}{f:Mo Ev}{σ:L2.St}{H:Hp}{Q:Bool->Hp->Prop}(h:c7 K κ (bd f cH) σ H Q):aY K κ f σ H λx H'=>∃k,nX K x H' k/\Q k H':=by
 obtain⟨ι,Z,G,t,Z',G',s,eq,k⟩:=h
 obtain⟨x,Z1,G1,e1,eq⟩:=bY eq
 refine⟨ι,Z,G,x,Z1,G1,s,e1,λv ι1 H1 a=>?_⟩
 obtain⟨p,q⟩:=a.drop
 obtain⟨h1,rfl,rfl⟩:=jG a.ar eq
 exact⟨_,h1,k _ _ p q⟩
def uR(h:LE X κ a fa)(he:∀whole,isTrue a X.env whole=(do let v <- whole;standAt a.pos;holding [v] (truthy v)):=by intro _;rfl):LT X κ a (bd fa cH):=.mk (fj (BQ h.pe he) λ_ _ _ q=>DY q)
abbrev isP:List Ev->Mo Ev:=λes Z G=>match es with
 | [.v (.im .non)]=>some (.v (.im (.bl true)),Z,G)
 | [_]=>some (.v (.im (.bl false)),Z,G)
 | _=>none
def Args.nn{K:W.Frag}{ι:List Addr}{H:Hp}{σ:L2.St}{Z:De}{G:List M}{e:Ev}{v:V}(a:Args K κ ι H σ Z G [e] [v])(h:e≠.v (.im .non))(hs:∀i,e=.s i->∃m,Z[i]?=some (some (.ow m))):v≠.non:=by
 cases e with
 | s i =>
  obtain⟨m,hm⟩:=hs i rfl
  obtain⟨b,e1,r⟩:=a.base.y17a hm
  have al:=Ax (j:=0) a.al rfl rfl
  rw [al] at e1;cases e1
  intro z;cases z
 | v x =>
  cases x with
  | ow m =>
   have r:=qF (cc a.l a.sr.sl).2 (j:=0) rfl rfl
   cases r
   intro z;cases z
  | im d =>
   have r:=a.im (j:=0) rfl rfl
   cases r<;>first|exact absurd rfl h|(intro z;cases z)
abbrev lO(Z:De):Ev->Bool
 | .s i=>match Z[i]? with
  | some (some (.ow _))=>true
  | _=>false
 | _=>true
def uS (h:lO Z e=true):∀i,e=.s i->∃m,Z[i]?=some (some (.ow m)):=by
 intro i hi
 subst hi
 unfold lO at h
 dsimp only at h
 split at h
 ·rename_i m hm;exact⟨m,hm⟩
 ·cases h
abbrev eP(pos:Bool):List Ev->Mo Ev:=λes Z G=>match es with
 | [.v (.im .non)]=>some (.v (.im (.bl pos)),Z,G)
 | [e]=>if lO Z e then some (.v (.im (.bl (!pos))),Z,G) else none
 | _=>none
def DZ{K:W.Frag}:aD K κ (r1 λx H1 Q=>Q (.bl (decide (x=.non))) H1) (eP true):=by
 intro ι H σ Z G es vs e Z' G' Q a h k
 unfold eP at h
 split at h
 ·obtain⟨v,rfl⟩:=bP a.len
  cases jB (a.im (j:=0) rfl rfl)
  exact⟨_,rfl,k _ _ _ (bI h (aS a (.bl _)))⟩
 ·rename_i e0 hne
  split at h
  ·rename_i hs
   obtain⟨v,rfl⟩:=bP a.len
   have n:=a.nn (λz=>hne (by rw [z])) (uS hs)
   refine⟨_,rfl,?_⟩
   dsimp only
   rw [decide_eq_false n]
   exact k _ _ _ (bI h (aS a (.bl _)))
  ·cases h
 ·cases h
def D6{K:W.Frag}:aD K κ (r1 λx H1 Q=>Q (.bl (!decide (x=.non))) H1) (eP false):=by
 intro ι H σ Z G es vs e Z' G' Q a h k
 unfold eP at h
 split at h
 ·obtain⟨v,rfl⟩:=bP a.len
  cases jB (a.im (j:=0) rfl rfl)
  exact⟨_,rfl,k _ _ _ (bI h (aS a (.bl _)))⟩
 ·rename_i e0 hne
  split at h
  ·rename_i hs
   obtain⟨v,rfl⟩:=bP a.len
   have n:=a.nn (λz=>hne (by rw [z])) (uS hs)
   refine⟨_,rfl,?_⟩
   dsimp only
   rw [decide_eq_false n]
   exact k _ _ _ (bI h (aS a (.bl _)))
  ·cases h
 ·cases h
def Ea{j pos'}(h:LE X κ a fa):LT X κ (.Compare a [.Is] [.Constant .none j pos'] pos) (ao (a6 (eP true) fa)):=.mk (fj (kE (Bm h.pe)) λ_ _ _ q=>gZ DZ (g5 q))
def uT{j pos'}(h:LE X κ a fa):LT X κ (.Compare a [.IsNot] [.Constant .none j pos'] pos) (ao (a6 (eP false) fa)):=.mk (fj (kE (Bo h.pe)) λ_ _ _ q=>gZ D6 (g5 q))
variable {s:Stmt}{ss ss2:List Stmt}{f g:SF}
def Eb:fX X κ [] aO:=.mk (lL Bs λ_ _ _=>DB)
def uU(h:LS X κ s f):fX X κ [s] f:=.mk (iA h.pe)
def Ec(h:LS X κ s f)(r:fX X κ ss g):fX X κ (s::ss) (ak f g):=.mk (lL (iz h.pe r.pe) λ_ _ _=>uf)
def uV(h:LE X κ a fa):LS X κ (.Return (some a) pos) (ax fa):=.mk (cT (rC h.pe) λ_ _ _=>uh)
def Ed(h:LE X κ a fa)(hs:‹swapsWith a none pos.line X.env=pure false›):LS X κ (.Expr a pos) (cW fa):=.mk (cT (kH h.pe hs) λ_ _ _=>DD)
def Ee(hc:LT X κ c fc)(ha:fX X κ ss f)(hb:fX X κ ss2 g):LS X κ (.If c ss ss2 pos) (aE fc f g):=.mk (cT (rD hc.pe ha.pe hb.pe) λ_ _ _=>ug)
def Ef(hc:LT X κ c fc)(hb:fX X κ ss f)(hp:PassesOwn (model X.prog X.w) X.A X.env X.xe:=by exact PassesOwn.never):LS X κ (.While c ss [] pos) (gF fc f):=.mk (cT (Bw hp hc.pe hb.pe) λ_ _ _=>DF)
def uW (hi:LI X κ tg it fi)(hg:LG X κ tg gf)(hb:fX X κ ss f)(hc:‹X.calm=true›)(hp:PassesOwn (model X.prog X.w) X.A X.env X.xe:=by exact PassesOwn.never)(hs:∀x,foldedSetIterable it X.env x=pure x:=by intro _;rfl):LS X κ (.For tg it ss [] pos) (df fi gf f):=.mk (cT (rP hp hc hi.pe hg.pe hb.pe hs) λ_ _ _=>DH)
def uX (hN:X.N.Nodup)(hi:‹X.N[i]?=some x›)(hx:qD X.env.scope x:=by first|exact Or.inl rfl|exact Or.inr rfl)(hf:X.fn x=true∨X.env.scope.names.lookup x=some .local:=by first|exact .inl rfl|exact .inr rfl|assumption):LG X κ (.Name x p) (aF i):=.mk (DT (jk hN hi hx hf) λ_ _ _ _=>oH)
end
end
section
section
variable {X:Cx}{K:W.Frag}{κ:Str->Addr}
abbrev bC(f:Int->Int->Option I):List Ev->Mo Ev:=λes Z G=>match es with
 | [.v (.im (.int i)),.v (.im (.int j))]=>match f i j with
  | some d=>some (.v (.im d),Z,G)
  | none=>none
 | _=>none
def jH{C:Int->Int->Prop}{g:Int->Int->V}{f:Int->Int->Option I}(hf:∀i j d,f i j=some d->C i j/\∀ι H,RpI K ι H (g i j) d):aD K κ (r2 (rI C g)) (bC f):=by
 intro ι H σ Z G es vs e Z' G' Q a h k
 unfold bC at h
 split at h
 ·rename_i i j
  split at h
  ·rename_i d hd
   obtain⟨v,u,rfl⟩:=bH a.len
   cases cF (a.im (j:=0) rfl rfl)
   cases cF (a.im (j:=1) rfl rfl)
   obtain⟨c,r⟩:=hf i j d hd
   exact⟨_,_,rfl,i,j,rfl,rfl,c,k _ _ _ (bI h (aS a (r ι H)))⟩
  ·cases h
 ·cases h
def fY{g:Int->Int->V}{f:Int->Int->Option I}(hf:∀i j d,f i j=some d->∀ι H,RpI K ι H (g i j) d):aD K κ (r2 (ja g)) (bC f):=by
 intro ι H σ Z G es vs e Z' G' Q a h k
 obtain⟨x,y,e1,i,j,e2,e3,_,q⟩:=jH (λi j d hd=>⟨trivial,hf i j d hd⟩) ι H σ Z G es vs e Z' G' Q a h k
 exact⟨x,y,e1,i,j,e2,e3,q⟩
def aD.or{r r':R2}{p p':List Ev->Mo Ev}(h:aD K κ (r2 r) p)(h':aD K κ (r2 r') p'):aD K κ (r2 λx y H Q=>r x y H Q∨r' x y H Q) (λes Z G=>match p es Z G with|some z=>some z|none=>p' es Z G):=by
 intro ι H σ Z G es vs e Z' G' Q a hp k
 dsimp only at hp
 split at hp
 ·rename_i z hz
  cases hp
  obtain⟨x,y,e1,q⟩:=h ι H σ Z G es vs _ _ _ Q a hz k
  exact⟨x,y,e1,.inl q⟩
 ·obtain⟨x,y,e1,q⟩:=h' ι H σ Z G es vs _ _ _ Q a hp k
  exact⟨x,y,e1,.inr q⟩
abbrev bR(p p':List Ev->Mo Ev):List Ev->Mo Ev:=λes Z G=>match p es Z G with|some z=>some z|none=>p' es Z G
abbrev jd:List Ev->Mo Ev:=λes Z G=>match es with
 | [.v (.im (.str x)),.v (.im (.str y))]=>if x.length+y.length≤1000000 then some (.v (.im (.str (x++y))),Z,G) else none
 | _=>none
def Eg:aD K κ (r2 λx y H Q=>∃i j,x=.str i/\y=.str j/\i.length+j.length≤sizeLine/\Q (.str (i++j)) H) jd:=by
 intro ι H σ Z G es vs e Z' G' Q a h k
 unfold jd at h
 split at h
 ·rename_i i j
  split at h
  ·rename_i hl
   obtain⟨v,u,rfl⟩:=bH a.len
   cases bJ (a.im (j:=0) rfl rfl)
   cases bJ (a.im (j:=1) rfl rfl)
   exact⟨_,_,rfl,i,j,rfl,rfl,z1c hl (by decide),k _ _ _ (bI h (aS a (.str _)))⟩
  ·cases h
 ·cases h
abbrev lP(K:W.Frag):R2:=λx y H Q=>∃a b xs ys,x=.ref a/\y=.ref b/\ba K H a xs/\ba K H b ys/\xs.length+ys.length≤sizeLine /\
 (xs=[]->Q (.ref b) H)/\(xs≠[]->ys=[]->Q (.ref a) H)/\(xs≠[]->ys≠[]->∀p,H p=none->Q (.ref p) (upd H p (.tup (xs++ys))))
def Eh:bT X (binaryOp .Add) (lP X.K):=by
 intro pins s σ H x y v u Q I rx ry h
 obtain⟨a,b,xs,ys,rfl,rfl,ha,hb,hz,q0,q1,q2⟩:=h
 by_cases hx:xs=[]
 ·cases rx
  cases ry
  obtain⟨its,r1,p1,_⟩:=I.tuple ha
  obtain⟨y1e9,r2,p2,_⟩:=I.tuple hb
  have hi:its=[]:=r1.y28a.mpr hx
  obtain⟨⟨cls,dd,data,sl⟩,ho,hc,n,hd⟩:=id p1
  obtain⟨⟨cls2,dd2,data2,sl2⟩,ho2,hc2,n2,hd2⟩:=id p2
  simp only at hc hd hc2 hd2
  subst hc hd hc2 hd2
  exact concat_meets ⟨_,ho,rfl⟩ ⟨_,ho2,rfl⟩ noFill_tuple_add seq_tuple_add PySem.F.slot_tuple_add PySem.F.entry_tuple_add (PySem.F.args_tuple_add_2 _ _)
   (tuple_addW0 a b its.toArray y1e9.toArray n n2 dd dd2 sl sl2 (by simp [hi])) ⟨ho,ho2,⟨.ref b,H,I,rfl,q0 hx⟩⟩
 ·exact Cn pins s σ H _ _ v u Q I rx ry ⟨a,b,xs,ys,rfl,rfl,ha,hb,hx,hz,q1 hx,q2 hx⟩
abbrev oT:List Ev->Mo Ev:=λes Z G=>match es with
 | [.v (.im (.tup xs)),.v (.im (.tup ys))]=>if xs.length+ys.length≤1000000 then some (.v (.im (.tup (xs++ys))),Z,G) else none
 | _=>none
def Ei:aD K κ (r2 (lP K)) oT:=by
 intro ι H σ Z G es vs e Z' G' Q a h k
 unfold oT at h
 split at h
 ·rename_i xs ys
  split at h
  ·rename_i hl
   obtain⟨v,u,rfl⟩:=bH a.len
   have ra:=a.im (j:=0) rfl rfl
   have rb:=a.im (j:=1) rfl rfl
   cases ra with
   | @tup p vs1 _ h1 r1 =>
    cases rb with
    | @tup q vs2 _ h2 r2 =>
     have l1:=r1.len
     have l2:=r2.len
     refine⟨_,_,rfl,p,q,vs1,vs2,rfl,rfl,ba.of h1,ba.of h2,z1c (by lia) (show 1000000≤sizeLine by decide),λe=>?_,λ_ e=>?_,λ_ _ p' hp=>?_⟩
     ·subst e
      cases r1
      exact k _ _ _ (bI h (aS a (.tup h2 r2)))
     ·subst e
      cases r2
      exact k _ _ _ (bI h (aS a (by rw [z10];exact .tup h1 r1)))
     ·exact k _ _ _ (bI h (oC a hp (r1.app r2)))
  ·cases h
 ·cases h
abbrev lQ:List Ev->Mo Ev:=λes Z G=>match es with
 | [a,b]=>match pk Z G a,pk Z G b with
  | some (.lst xs),some (.lst ys)=>if xs.length+ys.length≤1000000 then some (.v (.ow (.lst (xs++ys))),Z,G) else none
  | _,_=>none
 | _=>none
def Ej:aD K κ (r2 kX) lQ:=by
 intro ι H σ Z G es vs e Z' G' Q a h k
 unfold lQ at h
 split at h
 ·rename_i x y
  split at h
  ·rename_i xs ys hx hy
   split at h
   ·rename_i hl
    obtain⟨v,u,rfl⟩:=bH a.len
    obtain⟨p,e1,vs1,h1,r1⟩:=a.pk (j:=0) rfl rfl hx
    obtain⟨q,e2,vs2,h2,r2⟩:=a.pk (j:=1) rfl rfl hy
    subst e1;subst e2
    have l1:=r1.len
    have l2:=r2.len
    exact⟨_,_,rfl,p,q,vs1,vs2,rfl,rfl,h1,h2,z1c (by lia) (show 1000000≤sizeLine by decide),λp' hp=>k _ _ _ (bI h (fV a hp (r1.app r2)))⟩
   ·cases h
  ·cases h
 ·cases h
abbrev km:List Ev->Mo Ev:=bC λi j=>some (.int (i+j))
abbrev aC:List Ev->Mo Ev:=bR km (bR jd (bR oT lQ))
def uY (hr:y4d k A):bT X (binaryOp .Add) (λx y H Q=>ja (λi j=>.int (i+j)) x y H Q∨((∃i j,x=.str i/\y=.str j/\i.length+j.length≤sizeLine/\Q (.str (i++j)) H)∨(lP X.K x y H Q∨kX x y H Q))) :=
 BI.or (BR.or (Eh.or CG))
def uZ:aD K κ (r2 λx y H Q=>ja (λi j=>.int (i+j)) x y H Q∨((∃i j,x=.str i/\y=.str j/\i.length+j.length≤sizeLine/\Q (.str (i++j)) H)∨(lP K x y H Q∨kX x y H Q))) aC :=
 aD.or (fY λi j d h ι H=>by cases h;exact .int _) (aD.or Eg (aD.or Ei Ej))
abbrev ft:List Ev->Mo Ev:=bC λi j=>some (.int (i-j))
def u4 (hr:y4d k A):bT X (binaryOp .Sub) (ja λi j=>.int (i-j)):=BJ
def u5:aD K κ (r2 (ja λi j=>.int (i-j))) ft:=fY λi j d h ι H=>by cases h;exact .int _
abbrev oU:List Ev->Mo Ev:=bC λi j=>if (-(2 ^ 64)<i/\i<2 ^ 64)∨(-(2 ^ 64)<j/\j<2 ^ 64) then some (.int (i*j)) else none
abbrev lR:List Ev->Mo Ev:=λes Z G=>match es with
 | [a,.v (.im (.int j))]=>match pk Z G a with
  | some (.lst xs)=>if 0≤j/\j≤1000/\xs.length≤1000 then some (.v (.ow (.lst (List.replicate j.toNat xs).flatten)),Z,G) else none
  | _=>none
 | _=>none
theorem y4e.rep{ι:List Addr}{H:Hp}{vs:List V}{xs:List I}(r:y4e K ι H vs xs):∀n:Nat,y4e K ι H (List.replicate n vs).flatten (List.replicate n xs).flatten
 | 0=>.nil
 | n+1=>by rw [List.replicate_succ,List.replicate_succ,List.flatten_cons,List.flatten_cons];exact r.app (y4e.rep r n)
def Ek:aD K κ (r2 kY) lR:=by
 intro ι H σ Z G es vs e Z' G' Q a h k
 unfold lR at h
 split at h
 ·rename_i x j
  split at h
  ·rename_i xs hx
   split at h
   ·rename_i hl
    obtain⟨v,u,rfl⟩:=bH a.len
    obtain⟨p,e1,vs1,h1,r1⟩:=a.pk (j:=0) rfl rfl hx
    cases cF (a.im (j:=1) rfl rfl)
    subst e1
    have l1:=r1.len
    refine⟨_,_,rfl,p,j,vs1,rfl,rfl,h1,by lia,by lia,z1c (Nat.mul_le_mul (show vs1.length≤1000 by lia) (show j.toNat≤1000 by lia)) (show 1000*1000≤sizeLine by decide),λp' hp=>k _ _ _ (bI h (fV a hp (r1.rep _)))⟩
   ·cases h
  ·cases h
 ·cases h
abbrev lS:List Ev->Mo Ev:=λes Z G=>match es with
 | [.v (.im (.str z)),.v (.im (.int j))]=>if 0≤j/\j≤1000/\z.length≤1000 then some (.v (.im (.str (PySem.Txt.mul z j))),Z,G) else none
 | _=>none
abbrev oV:R2:=λx y H Q=>∃z n,x=.str z/\y=.int n/\MulOk z n/\Q (.str (PySem.Txt.mul z n)) H
def jI (h:0≤j/\j≤1000/\z.length≤1000):MulOk z j:=by
  obtain⟨h0,h1,h2⟩:=h
  have hb:(z.length:Int)*j≤1000*1000:=Int.mul_le_mul (by lia) h1 h0 (by lia)
  have hn:z.length*j.toNat≤1000*1000:=Nat.mul_le_mul h2 (by lia)
  refine⟨by simp only [Bool.or_eq_false_iff,decide_eq_false_iff_not];lia,λh3 _ h4=>?_,λ_ _=>?_⟩
  · have:=(Int.le_ediv_iff_mul_le (c:=j) (a:=(z.length:Int)) (b:=2 ^ 63-1) (by lia)).mpr (by lia)
    lia
  · exact decide_eq_false (by have:(1000*1000:Nat)≤sizeLine:=by decide
                              lia)
def El:aD K κ (r2 oV) lS:=by
 intro ι H σ Z G es vs e Z' G' Q a h k
 unfold lS at h
 split at h
 ·rename_i z j
  split at h
  ·rename_i hl
   obtain⟨v,u,rfl⟩:=bH a.len
   cases bJ (a.im (j:=0) rfl rfl)
   cases cF (a.im (j:=1) rfl rfl)
   exact⟨_,_,rfl,z,j,rfl,rfl,jI hl,k _ _ _ (bI h (aS a (.str _)))⟩
  ·cases h
 ·cases h
abbrev cI:List Ev->Mo Ev:=bR oU (bR lR lS)
def u6 (hr:y4d k A):bT X (binaryOp .Mult) (λx y H Q=>rI y4 (λi j=>.int (i*j)) x y H Q∨(kY x y H Q∨oV x y H Q)):=BK.or (CH.or C6)
def u7:aD K κ (r2 λx y H Q=>rI y4 (λi j=>.int (i*j)) x y H Q∨(kY x y H Q∨oV x y H Q)) cI:=aD.or (jH λi j d h=>by
 split at h
 ·rename_i c;cases h;exact⟨c,λι H=>.int _⟩
 ·cases h) (aD.or Ek El)
abbrev jJ:List Ev->Mo Ev:=bC λi j=>if 0<j/\j<2 ^ 200 then some (.int (i / j)) else none
def Em (hr:y4d k A):bT X (binaryOp .FloorDiv) (rI (λ_ j=>0<j/\j<2 ^ 200) λi j=>.int (i / j)):=CY
def Eo:aD K κ (r2 (rI (λ_ j=>0<j/\j<2 ^ 200) λi j=>.int (i / j))) jJ:=jH λi j d h=>by
 split at h
 ·rename_i c;cases h;exact⟨c,λι H=>.int _⟩
 ·cases h
abbrev dh:List Ev->Mo Ev:=bC λi j=>if 0<j then some (.int (i % j)) else none
def u9 (hr:y4d k A):bT X (binaryOp .Mod) (rI (λ_ j=>0<j) λi j=>.int (i % j)):=BL
def vc:aD K κ (r2 (rI (λ_ j=>0<j) λi j=>.int (i % j))) dh:=jH λi j d h=>by
 split at h
 ·rename_i c;cases h;exact⟨c,λι H=>.int _⟩
 ·cases h
abbrev g7:List Ev->Mo Ev:=bC λi j=>if 0≤j/\j≤1000000/\i.natAbs<2 ^ 64 then some (.int (i ^ j.toNat)) else none
def vd (hr:y4d k A):bT X (binaryOp .Pow) (rI nV λi j=>.int (i ^ j.toNat)):=BM
def ve:aD K κ (r2 (rI nV λi j=>.int (i ^ j.toNat))) g7:=jH λi j d h=>by
 split at h
 ·rename_i c;cases h;exact⟨c,λι H=>.int _⟩
 ·cases h
abbrev Ep:List Ev->Mo Ev:=bC λi j=>if 0≤j/\j≤1000000/\i.natAbs<2 ^ 64 then some (.int (i*2 ^ j.toNat)) else none
abbrev Er:List Ev->Mo Ev:=bC λi j=>if 0≤j then some (.int (i / 2 ^ j.toNat)) else none
abbrev cX:List Ev->Mo Ev:=λes Z G=>match es with
 | [.v (.im (.int i))]=>some (.v (.im (.int (-i))),Z,G)
 | _=>none
def Es:aD K κ (r1 (rU λi=>.int (-i))) cX:=by
 intro ι H σ Z G es vs e Z' G' Q a h k
 unfold cX at h
 split at h
 ·rename_i i
  obtain⟨v,rfl⟩:=bP a.len
  cases cF (a.im (j:=0) rfl rfl)
  exact⟨_,rfl,i,rfl,k _ _ _ (bI h (aS a (.int _)))⟩
 ·cases h
def vf (h:LE X κ a fa):LE X κ (.UnaryOp .USub a pos) (a6 cX fa):=DW nW Es h
abbrev dR:List Ev->Mo Ev:=bC λi j=>some (.bl (decide (i<j)))
abbrev leP:List Ev->Mo Ev:=bC λi j=>some (.bl (decide (i≤j)))
abbrev fN:List Ev->Mo Ev:=bC λi j=>some (.bl (decide (j<i)))
abbrev gG:List Ev->Mo Ev:=bC λi j=>some (.bl (decide (j≤i)))
end
end
set_option maxHeartbeats 400000
section
section
abbrev lU(K:W.Frag)(H:Hp)(x:V):Prop:=∃a xs,x=.ref a/\ba K H a xs
abbrev nv(K:W.Frag)(H:Hp)(x y:V)(b:Bool):Prop:=(bj x=true/\bj y=true/\b=gU x y)∨(lU K H x/\bj y=true/\b=false)∨(bj x=true/\lU K H y/\b=false)
abbrev jK(K:W.Frag)(H:Hp):Nat->V->V->Bool->Prop
 | 0,x,y,b=>nv K H x y b
 | n+1,x,y,b=>nv K H x y b∨∃a c xs ys e,x=.ref a/\y=.ref c/\ba K H a xs/\ba K H c ys/\(∀(j:Nat) u w,xs[j]?=some u->ys[j]?=some w->jK K H n u w (e j))/\b=((List.range (min xs.length ys.length)).all e&&xs.length == ys.length)
def Et(h:bj x=true):gU x x=true:=by
 cases x with
 | non=>rfl
 | bl b=>exact beq_self_eq_true b
 | int i=>exact beq_self_eq_true i
 | str z=>exact beq_self_eq_true z
 | _=>cases h
def nv.refl  (I:Inv X pins σ H s)(h:nv X.K H x x b):b=true:=by
 rcases h with⟨h1,_,rfl⟩| ⟨⟨a,xs,rfl,_⟩,h2,_⟩| ⟨h2,⟨a,xs,rfl,_⟩,_⟩
 ·exact Et h1
 ·cases h2
 ·cases h2
theorem jK.refl (I:Inv X pins σ H s):∀{n:Nat} {x:V} {b:Bool},jK X.K H n x x b->b=true
 | 0,_,_,h=>nv.refl I h
 | n+1,x,b,h=>by
  rcases h with h|⟨a,c,xs,ys,e,e1,e2,h1,h2,he,rfl⟩
  ·exact nv.refl I h
  ·subst e1;cases e2
   have:=I.y4bb h1 h2
   subst this
   rw [Nat.min_self]
   have:(List.range xs.length).all e=true:=by
    rw [z33]
    intro j hj
    have hj:j<xs.length:=by simpa using hj
    exact jK.refl I (he j _ _ (z16 hj) (z16 hj))
   rw [this];simp
def iL (r:au xs us)(h:j<us.toArray.size):∃x,xs[j]?=some x/\ay x us.toArray[j]:=by
 have l:=r.length
 have h':j<xs.length:=by rw [l];simpa using h
 obtain⟨u,eu,ru⟩:=r.get (z16 h')
 refine⟨_,z16 h',?_⟩
 have:us.toArray[j]?=some u:=by simpa using eu
 rw [Array.getElem?_eq_getElem h] at this
 rw [z20 this]
 exact ru
def vg   (I:Inv X pins σ H s)(h:nv X.K H x y b)(ru:ay x u)(rw':ay y w)(hu:A.units<cLine):SeqAt.EqAt A s u w b:=by
 rcases h with⟨h1,h2,rfl⟩| ⟨⟨a,xs,rfl,ht⟩,h2,rfl⟩| ⟨h2,⟨a,xs,rfl,ht⟩,rfl⟩
 ·exact sY ru rw' h1 h2
 ·cases ru
  obtain⟨its,r1,p1,_⟩:=I.tuple ht
  have p1:s.heap.IsTuple a its.toArray:=p1
  cases y with
  | non=>cases rw';exact SeqAt.EqAt.tuple_none p1 hu
  | bl c=>cases rw';exact SeqAt.EqAt.tuple_bool _ p1 hu
  | int i=>obtain⟨t,rfl⟩:=rw';exact SeqAt.EqAt.tuple_int _ _ p1 hu
  | str z=>obtain⟨t,rfl⟩:=rw';exact SeqAt.EqAt.tuple_str _ _ p1 hu
  | _=>cases h2
 ·cases rw'
  obtain⟨its,r1,p1,_⟩:=I.tuple ht
  have p1:s.heap.IsTuple a its.toArray:=p1
  cases x with
  | non=>cases ru;exact SeqAt.EqAt.none_tuple p1 hu
  | bl c=>cases ru;exact SeqAt.EqAt.bool_tuple _ p1 hu
  | int i=>obtain⟨t,rfl⟩:=ru;exact SeqAt.EqAt.int_tuple _ _ p1 hu
  | str z=>obtain⟨t,rfl⟩:=ru;exact SeqAt.EqAt.str_tuple _ _ p1 hu
  | _=>cases h2
theorem oW:∀{n:Nat} {A:Around} {pins:List (Addr×Obj)} {σ:L2.St} {s:Shared} {x y:V} {u w:Value} {b:Bool},Inv X pins σ H s->jK X.K H n x y b->ay x u->ay y w->A.units+n<cLine->SeqAt.EqAt A s u w b
 | 0,_,_,_,_,_,_,_,_,_,I,h,ru,rw',hu=>vg I h ru rw' hu
 | n+1,A,_,_,s,_,_,_,_,_,I,h,ru,rw',hu=>by
  rcases h with h|⟨a,c,xs,ys,e,e1,e2,h1,h2,he,rfl⟩
  ·exact vg I h ru rw' (by lia)
  ·subst e1;subst e2
   cases ru;cases rw'
   by_cases hac:a=c
   ·subst hac
    have:=jK.refl (n:=n+1) I (.inr ⟨a,a,xs,ys,e,rfl,rfl,h1,h2,he,rfl⟩)
    rw [this]
    exact SeqAt.EqAt.same _
   ·obtain⟨its,r1,p1,_⟩:=I.tuple h1
    obtain⟨y1e9,r2,p2,_⟩:=I.tuple h2
    have q:=SeqAt.RcAt.tuples (A:=A) (show s.heap.IsTuple a its.toArray from p1) (show s.heap.IsTuple c y1e9.toArray from p2) (by lia) (λj z1 z2=>by
     obtain⟨x,ex,rx⟩:=iL r1 z1
     obtain⟨y,ey,ry⟩:=iL r2 z2
     exact oW I (he j x y ex ey) rx ry (by show A.units+1+n<cLine;lia))
    rw [zf,zf,<- r1.length,<- r2.length] at q
    exact SeqAt.EqAt.of_refs hac q
end
end
section
section
abbrev EqL(K:W.Frag)(H:Hp)(n:Nat)(x y:V)(b:Bool):Prop:=∃a c xs ys,x=.ref a/\y=.ref c/\bu K H a xs/\bu K H c ys/\((xs.length≠ys.length/\b=false)∨(xs.length=ys.length/\∃e,(∀(j:Nat) u w,xs[j]?=some u->ys[j]?=some w->jK K H n u w (e j))/\b=(List.range xs.length).all e))
abbrev qH(K:W.Frag)(H:Hp)(x y:V)(b:Bool):Prop:=(iD x y=true/\b=decide (x=y))∨(lU K H x/\bj y=true/\b=false)∨(bj x=true/\lU K H y/\b=false) ∨
 (∃a c xs ys e,x=.ref a/\y=.ref c/\ba K H a xs/\ba K H c ys/\(∀(j:Nat) u w,xs[j]?=some u->ys[j]?=some w->jK K H 40 u w (e j))/\b=((List.range (min xs.length ys.length)).all e&&xs.length == ys.length))∨EqL K H 40 x y b
def vh(hu:X.A.units+50<cLine):bT X (compareOp .Eq) (λx y H Q=>∃b,qH X.K H x y b/\Q (.bl b) H):=by
 intro pins s σ H x y v u Q I rx ry h
 obtain⟨b,h,q⟩:=h
 have hu0:X.A.units<cLine:=by lia
 have hel:∀{xs ys:List V} {us ws:List Value} {e:Nat->Bool},au xs us->au ys ws->(∀(j:Nat) u w,xs[j]?=some u->ys[j]?=some w->jK X.K H 40 u w (e j))->∀j (z1:j<us.toArray.size) (z2:j<ws.toArray.size),SeqAt.EqAt X.A.in1 s us.toArray[j] ws.toArray[j] (e j):=λr1 r2 he j z1 z2=>by
  obtain⟨x,ex,rx⟩:=iL r1 z1
  obtain⟨y,ey,ry⟩:=iL r2 z2
  exact oW I (he j x y ex ey) rx ry (by show X.A.units+1+40<cLine;lia)
 rcases h with⟨hs,rfl⟩| ⟨⟨a,xs,rfl,ht⟩,h2,rfl⟩| ⟨h2,⟨a,xs,rfl,ht⟩,rfl⟩| ⟨a,c,xs,ys,e,rfl,rfl,h1,h2,he,rfl⟩| ⟨a,c,xs,ys,rfl,rfl,h1,h2,h3⟩
 ·exact rT pins s σ H x y v u Q I rx ry ⟨hs,q⟩
 ·cases rx
  obtain⟨its,r1,p1,_⟩:=I.tuple ht
  have p1:s.heap.IsTuple a its.toArray:=p1
  have fin:EP X pins σ Q (.bool false) s:=⟨.bl false,H,I,rfl,q⟩
  cases y with
  | non=>cases ry;exact SeqAt.RcAt.tuple_none p1 hu0 _ _ _ _ fin
  | bl c=>cases ry;exact SeqAt.RcAt.tuple_bool _ p1 hu0 _ _ _ _ fin
  | int i=>obtain⟨t,rfl⟩:=ry;exact SeqAt.RcAt.tuple_int _ _ p1 hu0 _ _ _ _ fin
  | str z=>obtain⟨t,rfl⟩:=ry;exact SeqAt.RcAt.tuple_str _ _ p1 hu0 _ _ _ _ fin
  | _=>cases h2
 ·cases ry
  obtain⟨its,r1,p1,_⟩:=I.tuple ht
  have p1:s.heap.IsTuple a its.toArray:=p1
  have fin:EP X pins σ Q (.bool false) s:=⟨.bl false,H,I,rfl,q⟩
  cases x with
  | non=>cases rx;exact SeqAt.RcAt.none_tuple p1 hu0 _ _ _ _ fin
  | bl c=>cases rx;exact SeqAt.RcAt.bool_tuple _ p1 hu0 _ _ _ _ fin
  | int i=>obtain⟨t,rfl⟩:=rx;exact SeqAt.RcAt.int_tuple _ _ p1 hu0 _ _ _ _ fin
  | str z=>obtain⟨t,rfl⟩:=rx;exact SeqAt.RcAt.str_tuple _ _ p1 hu0 _ _ _ _ fin
  | _=>cases h2
 ·cases rx;cases ry
  obtain⟨its,r1,p1,_⟩:=I.tuple h1
  obtain⟨y1e9,r2,p2,_⟩:=I.tuple h2
  refine SeqAt.RcAt.tuples (show s.heap.IsTuple a its.toArray from p1) (show s.heap.IsTuple c y1e9.toArray from p2) hu0 (hel r1 r2 he) _ _ _ _ ?_
  rw [zf,zf,<- r1.length,<- r2.length]
  exact⟨.bl _,H,I,rfl,q⟩
 ·cases rx;cases ry
  obtain⟨its,r1,p1,_⟩:=I.list h1
  obtain⟨y1e9,r2,p2,_⟩:=I.list h2
  have l1:=r1.length
  have l2:=r2.length
  rcases h3 with⟨hn,rfl⟩| ⟨hn,e,he,rfl⟩
  ·exact SeqAt.RcAt.lists_lengths p1.isList p2.isList (by simp;lia) hu0 X.prog X.w X.xe _ ⟨.bl _,H,I,rfl,q⟩
  ·refine SeqAt.eq_listAt p1.isList p2.isList (by simp;lia) hu0 (hel r1 r2 he) ?_
   rw [zf,<- l1]
   exact⟨.bl _,H,I,rfl,q⟩
end
end
section
section
def Eu(hu:X.A.units+50<cLine):bT X (compareOp .NotEq) (λx y H Q=>∃b,qH X.K H x y b/\Q (.bl (!b)) H):=by
 intro pins s σ H x y v u Q I rx ry h
 obtain⟨b,h,q⟩:=h
 have hu0:X.A.units<cLine:=by lia
 have hel:∀{xs ys:List V} {us ws:List Value} {e:Nat->Bool},au xs us->au ys ws->(∀(j:Nat) u w,xs[j]?=some u->ys[j]?=some w->jK X.K H 40 u w (e j))->∀j (z1:j<us.toArray.size) (z2:j<ws.toArray.size),SeqAt.EqAt X.A.in1 s us.toArray[j] ws.toArray[j] (e j):=λr1 r2 he j z1 z2=>by
  obtain⟨x,ex,rx⟩:=iL r1 z1
  obtain⟨y,ey,ry⟩:=iL r2 z2
  exact oW I (he j x y ex ey) rx ry (by show X.A.units+1+40<cLine;lia)
 rcases h with⟨hs,rfl⟩| ⟨⟨a,xs,rfl,ht⟩,h2,rfl⟩| ⟨h2,⟨a,xs,rfl,ht⟩,rfl⟩| ⟨a,c,xs,ys,e,rfl,rfl,h1,h2,he,rfl⟩| ⟨a,c,xs,ys,rfl,rfl,h1,h2,h3⟩
 ·exact rV pins s σ H x y v u Q I rx ry ⟨hs,q⟩
 ·cases rx
  obtain⟨its,r1,p1,_⟩:=I.tuple ht
  have p1:s.heap.IsTuple a its.toArray:=p1
  have fin:EP X pins σ Q (.bool true) s:=⟨.bl true,H,I,rfl,q⟩
  cases y with
  | non=>cases ry;exact SeqAt.RcNeAt.tuple_none p1 hu0 _ _ _ _ fin
  | bl c=>cases ry;exact SeqAt.RcNeAt.tuple_bool _ p1 hu0 _ _ _ _ fin
  | int i=>obtain⟨t,rfl⟩:=ry;exact SeqAt.RcNeAt.tuple_int _ _ p1 hu0 _ _ _ _ fin
  | str z=>obtain⟨t,rfl⟩:=ry;exact SeqAt.RcNeAt.tuple_str _ _ p1 hu0 _ _ _ _ fin
  | _=>cases h2
 ·cases ry
  obtain⟨its,r1,p1,_⟩:=I.tuple ht
  have p1:s.heap.IsTuple a its.toArray:=p1
  have fin:EP X pins σ Q (.bool true) s:=⟨.bl true,H,I,rfl,q⟩
  cases x with
  | non=>cases rx;exact SeqAt.RcNeAt.none_tuple p1 hu0 _ _ _ _ fin
  | bl c=>cases rx;exact SeqAt.RcNeAt.bool_tuple _ p1 hu0 _ _ _ _ fin
  | int i=>obtain⟨t,rfl⟩:=rx;exact SeqAt.RcNeAt.int_tuple _ _ p1 hu0 _ _ _ _ fin
  | str z=>obtain⟨t,rfl⟩:=rx;exact SeqAt.RcNeAt.str_tuple _ _ p1 hu0 _ _ _ _ fin
  | _=>cases h2
 ·cases rx;cases ry
  obtain⟨its,r1,p1,_⟩:=I.tuple h1
  obtain⟨y1e9,r2,p2,_⟩:=I.tuple h2
  refine SeqAt.RcNeAt.tuples (show s.heap.IsTuple a its.toArray from p1) (show s.heap.IsTuple c y1e9.toArray from p2) hu0 (hel r1 r2 he) _ _ _ _ ?_
  rw [zf,zf,<- r1.length,<- r2.length]
  exact⟨.bl _,H,I,rfl,q⟩
 ·cases rx;cases ry
  obtain⟨its,r1,p1,_⟩:=I.list h1
  obtain⟨y1e9,r2,p2,_⟩:=I.list h2
  have l1:=r1.length
  have l2:=r2.length
  rcases h3 with⟨hn,rfl⟩| ⟨hn,e,he,rfl⟩
  ·exact SeqAt.RcNeAt.lists_lengths p1.isList p2.isList (by simp;lia) hu0 X.prog X.w X.xe _ ⟨.bl _,H,I,rfl,q⟩
  ·refine SeqAt.RcNeAt.lists p1.isList p2.isList (by simp;lia) hu0 (hel r1 r2 he) X.prog X.w X.xe _ ?_
   rw [zf,<- l1]
   exact⟨.bl _,H,I,rfl,q⟩
end
end
section
section
variable {X:Cx}{K:W.Frag}{κ:Str->Addr}{H:Hp}
abbrev oX(f:I->I->Option Bool):List I->List I->Option Bool
 | [],[]=>some true
 | x::xs,y::ys=>match f x y,oX f xs ys with
  | some b,some c=>some (b&&c)
  | _,_=>none
 | [],_::_=>some false
 | _::_,[]=>some false
abbrev ko:I->Option (List I)
 | .tup xs=>some xs
 | .con xs=>some xs
 | _=>none
abbrev bK:I->Bool
 | .non=>true
 | .bl _=>true
 | .int _=>true
 | .str _=>true
 | _=>false
abbrev bq:I->I->Bool
 | .non,.non=>true
 | .bl a,.bl b=>a == b
 | .bl a,.int b=>(if a then 1 else 0) == b
 | .int a,.bl b=>a == (if b then 1 else 0)
 | .int a,.int b=>a == b
 | .str a,.str b=>a == b
 | _,_=>false
abbrev dI:Nat->I->I->Option Bool
 | 0,x,y=>if bK x&&bK y then some (bq x y) else if ((ko x).isSome&&bK y)||(bK x&&(ko y).isSome) then some false else none
 | n+1,x,y=>if bK x&&bK y then some (bq x y) else if ((ko x).isSome&&bK y)||(bK x&&(ko y).isSome) then some false else match ko x,ko y with
  | some xs,some ys=>oX (dI n) xs ys
  | _,_=>none
variable {ι:List Addr}
def eE{v:V}{x:I}(r:RpI K ι H v x)(h:bK x=true):bj v=true:=by cases r<;>first|rfl|cases h
abbrev vi:V->I
 | .bl b=>.bl b
 | .int i=>.int i
 | .str x=>.str x
 | _=>.non
def lV(r:RpI K ι H v x)(h:bj v=true):x=vi v:=by
 cases r<;>first|rfl|cases h
def Ew(h:bj v=true)(h':bj w=true):bq (vi v) (vi w)=gU v w:=by
 cases v<;>first|cases h;done|(cases w<;>first|rfl|cases h')
def vm(r:RpI K ι H v x)(r':RpI K ι H w y)(h:bK x=true)(h':bK y=true):bq x y=gU v w:=by
 have h:=eE r h
 have h':=eE r' h'
 rw [lV r h,lV r' h',Ew h h']
def lW{v:V}{x:I}{xs:List I}(r:RpI K ι H v x)(h:ko x=some xs):∃a vs,v=.ref a/\ba K H a vs/\y4e K ι H vs xs:=by
 cases r with
 | tup h1 h2=>cases h;exact⟨_,_,rfl,ba.of h1,h2⟩
 | con h1 h2=>cases h;exact⟨_,_,rfl,ba.kon h1,h2⟩
 | _=>cases h
theorem oY{f:I->I->Option Bool}{E:V->V->Bool->Prop}(hf:∀{v w x y b},RpI K ι H v x->RpI K ι H w y->f x y=some b->E v w b):∀{vs ws:List V} {xs ys:List I} {b:Bool},y4e K ι H vs xs->y4e K ι H ws ys->oX f xs ys=some b ->
  ∃e:Nat->Bool,(∀(j:Nat) u w,vs[j]?=some u->ws[j]?=some w->E u w (e j))/\b=((List.range (min vs.length ws.length)).all e&&vs.length == ws.length)
 | [],[],_,_,b,.nil,.nil,h=>by cases h;exact⟨λ_=>true,λj u w e=>by simp at e,rfl⟩
 | [],_::_,_,_,b,.nil,.cons _ _,h=>by cases h;exact⟨λ_=>true,λj u w e=>by simp at e,by simp⟩
 | _::_,[],_,_,b,.cons _ _,.nil,h=>by cases h;exact⟨λ_=>true,λj u w _ e=>by simp at e,by simp⟩
 | v::vs,w::ws,_,_,b,.cons r rs,.cons r' rs',h=>by
  unfold oX at h
  split at h
  ·rename_i b0 c h0 h1
   cases h
   obtain⟨e',he,rfl⟩:=oY hf rs rs' h1
   refine⟨λj=>match j with|0=>b0|j+1=>e' j,λj u w' e1 e2=>?_,?_⟩
   ·cases j with
    | zero=>simp at e1 e2;subst e1;subst e2;exact hf r r' h0
    | succ j=>exact he j u w' (by simpa using e1) (by simpa using e2)
   ·have e3:min (v::vs).length (w::ws).length=min vs.length ws.length+1:=by simp only [z18];lia
    rw [e3,C7]
    have e4:((v::vs).length == (w::ws).length)=(vs.length == ws.length):=by simp
    rw [e4,Bool.and_assoc]
  ·cases h
def vn:∀{n:Nat} {v w:V} {x y:I} {b:Bool},RpI K ι H v x->RpI K ι H w y->dI n x y=some b->jK K H n v w b:=by
 have base:∀{v w:V} {x y:I} {b:Bool} {o:Option Bool},RpI K ι H v x->RpI K ι H w y->(if bK x&&bK y then some (bq x y) else if ((ko x).isSome&&bK y)||(bK x&&(ko y).isSome) then some false else o)=some b->nv K H v w b∨o=some b:=λ{v w x y b o} r r' h=>by
  split at h
  ·rename_i hf
   rw [z1b] at hf
   cases h
   exact .inl (.inl ⟨eE r hf.1,eE r' hf.2,vm r r' hf.1 hf.2⟩)
  ·split at h
   ·rename_i hf
    cases h
    rw [Bool.or_eq_true,z1b,z1b] at hf
    rcases hf with⟨h1,h2⟩| ⟨h1,h2⟩
    ·obtain⟨xs,hx⟩:=Option.isSome_iff_exists.mp h1
     obtain⟨a,vs,e1,h3,_⟩:=lW r hx
     exact .inl (.inr (.inl ⟨⟨a,vs,e1,h3⟩,eE r' h2,rfl⟩))
    ·obtain⟨xs,hx⟩:=Option.isSome_iff_exists.mp h2
     obtain⟨a,vs,e1,h3,_⟩:=lW r' hx
     exact .inl (.inr (.inr ⟨eE r h1,⟨a,vs,e1,h3⟩,rfl⟩))
   ·exact .inr h
 intro n
 induction n with
 | zero =>
  intro v w x y b r r' h
  unfold dI at h
  rcases base r r' h with q|q
  ·exact q
  ·cases q
 | succ n ih =>
  intro v w x y b r r' h
  unfold dI at h
  rcases base r r' h with q|q
  ·exact .inl q
  ·split at q
   ·rename_i xs ys hx hy
    obtain⟨a,vs,e1,h1,r1⟩:=lW r hx
    obtain⟨c,ws,e2,h2,r2⟩:=lW r' hy
    obtain⟨e,he,hb⟩:=oY (λr r' h=>ih r r' h) r1 r2 q
    exact .inr ⟨a,c,vs,ws,e,e1,e2,h1,h2,he,hb⟩
   ·cases q
def Ey(h:iD x y=true)(hf:bj x=true):gU x y=decide (x=y):=by
 cases x<;>first|exact Bool.noConfusion hf|(cases y<;>first|rfl|exact Bool.noConfusion h|skip)
 ·rename_i a b
  show (a == b)=_
  by_cases e:a=b
  ·subst e;simp
  ·rw [beq_eq_false_iff_ne.mpr e,decide_eq_false (λz=>e (by injection z))]
 ·rename_i a b
  show (a == b)=_
  by_cases e:a=b
  ·subst e;simp
  ·rw [beq_eq_false_iff_ne.mpr e,decide_eq_false (λz=>e (by injection z))]
 ·rename_i a b
  show (a == b)=_
  by_cases e:a=b
  ·subst e;simp
  ·rw [beq_eq_false_iff_ne.mpr e,decide_eq_false (λz=>e (by injection z))]
abbrev b9:I->I->Bool
 | .bl _,.int _=>true
 | .int _,.bl _=>true
 | _,_=>false
abbrev eQ(Z:De)(G:List M)(a b:Ev):Option Bool :=
 match dQ a,dQ b with
 | some x,some y=>if b9 x y then none else match dI 41 x y with
  | some r=>some r
  | none=>match pk Z G a,pk Z G b with
   | some (.lst xs),some (.lst ys)=>oX (dI 40) xs ys
   | _,_=>none
 | _,_=>match pk Z G a,pk Z G b with
  | some (.lst xs),some (.lst ys)=>oX (dI 40) xs ys
  | _,_=>none
abbrev a8:List Ev->Mo Ev:=λes Z G=>match es with
 | [a,b]=>match eQ Z G a b with
  | some r=>some (.v (.im (.bl r)),Z,G)
  | none=>none
 | _=>none
abbrev gH:List Ev->Mo Ev:=λes Z G=>match es with
 | [a,b]=>match eQ Z G a b with
  | some r=>some (.v (.im (.bl (!r))),Z,G)
  | none=>none
 | _=>none
def Ez(h:bj v=true)(h':bj u=true)(hm:¬ b9 (vi v) (vi u)=true):iD v u=true:=by
 cases v<;>first|cases h;done|(cases u<;>first|rfl|cases h';done|exact absurd rfl hm)
def EA(r:RpI K ι H v x)(r':RpI K ι H u y)(h:bj v=true)(h':bj u=true)(hm:¬ b9 x y=true):iD v u=true:=by
 rw [lV r h,lV r' h'] at hm
 exact Ez h h' hm
def vo{σ:L2.St}{Z:De}{G:List M}{a b:Ev}{v u:V}{r:Bool}(A:Args K κ ι H σ Z G [a,b] [v,u])(h:eQ Z G a b=some r):qH K H v u r:=by
 have lists:(match pk Z G a,pk Z G b with|some (.lst xs),some (.lst ys)=>oX (dI 40) xs ys|_,_=>none)=some r->qH K H v u r:=λh=>by
  split at h
  ·rename_i xs ys hx hy
   obtain⟨p,e1,vs,h1,r1⟩:=A.pk (j:=0) rfl rfl hx
   obtain⟨q,e2,ws,h2,r2⟩:=A.pk (j:=1) rfl rfl hy
   obtain⟨e,he,hb⟩:=oY (λr r' h=>vn r r' h) r1 r2 h
   refine .inr (.inr (.inr (.inr ⟨p,q,vs,ws,e1,e2,bu.of h1,bu.of h2,?_⟩)))
   by_cases hl:vs.length=ws.length
   ·refine .inr ⟨hl,e,he,?_⟩
    rw [hb,<- hl,Nat.min_self];simp
   ·refine .inl ⟨hl,?_⟩
    rw [hb]
    have:(vs.length == ws.length)=false:=by simpa using hl
    rw [this,Bool.and_false]
  ·cases h
 unfold eQ at h
 split at h
 ·rename_i x y hx hy
  split at h
  ·cases h
  ·rename_i hm
   split at h
   ·rename_i r' hr
    cases h
    have ra:RpI K ι H v x:=by
     cases a with
     | s i=>cases hx
     | v z=>cases z with
      | ow m=>cases hx
      | im d=>cases hx;exact A.im (j:=0) rfl rfl
    have rb:RpI K ι H u y:=by
     cases b with
     | s i=>cases hy
     | v z=>cases z with
      | ow m=>cases hy
      | im d=>cases hy;exact A.im (j:=1) rfl rfl
    rcases vn ra rb hr with q|⟨a',c,xs,ys,e,e1,e2,h1,h2,he,hb⟩
    ·rcases q with⟨h1,h2,rfl⟩| ⟨h1,h2,rfl⟩| ⟨h1,h2,rfl⟩
     ·have sc:=EA ra rb h1 h2 hm
      exact .inl ⟨sc,Ey sc h1⟩
     ·exact .inr (.inl ⟨h1,h2,rfl⟩)
     ·exact .inr (.inr (.inl ⟨h1,h2,rfl⟩))
    ·exact .inr (.inr (.inr (.inl ⟨a',c,xs,ys,e,e1,e2,h1,h2,he,hb⟩)))
   ·exact lists h
 ·exact lists h
def vp:aD K κ (r2 λx y H Q=>∃b,qH K H x y b/\Q (.bl b) H) a8:=by
 intro ι H σ Z G es vs e Z' G' Q a h k
 unfold a8 at h
 split at h
 ·split at h
  ·rename_i r hr
   obtain⟨v,u,rfl⟩:=bH a.len
   exact⟨_,_,rfl,r,vo a hr,k _ _ _ (bI h (aS a (.bl _)))⟩
  ·cases h
 ·cases h
def EB:aD K κ (r2 λx y H Q=>∃b,qH K H x y b/\Q (.bl (!b)) H) gH:=by
 intro ι H σ Z G es vs e Z' G' Q a h k
 unfold gH at h
 split at h
 ·split at h
  ·rename_i r hr
   obtain⟨v,u,rfl⟩:=bH a.len
   exact⟨_,_,rfl,r,vo a hr,k _ _ _ (bI h (aS a (.bl _)))⟩
  ·cases h
 ·cases h
end
section
variable {X:Cx}{κ:Str->Addr}{a b:Expr}{fa fb:Mo Ev}{pos:Pos}{k:Nat}
def iM(hr:y4d k X.A):X.A.units+50<cLine:=by have:=hr.units;lia
def vq(hr:y4d k X.A)(ha:LE X κ a fa)(hb:LE X κ b fb):LE X κ (.Compare a [.Eq] [b] pos) (ai a8 fa fb):=lN (vh (iM hr)) vp ha hb (fQ _)
def EC(hr:y4d k X.A)(ha:LE X κ a fa)(hb:LE X κ b fb):LT X κ (.Compare a [.Eq] [b] pos) (ao (ai a8 fa fb)):=g6 (vh (iM hr)) vp ha hb (fQ _)
def ED(hr:y4d k X.A)(ha:LE X κ a fa)(hb:LE X κ b fb):LT X κ (.Compare a [.NotEq] [b] pos) (ao (ai gH fa fb)):=g6 (Eu (iM hr)) EB ha hb (fQ _)
def EE(hr:y4d k X.A)(ha:LE X κ a fa)(hb:LE X κ b fb):LE X κ (.Compare a [.Lt] [b] pos) (ai dR fa fb):=lN rW (fY λi j d h ι H=>by cases h;exact .bl _) ha hb (fQ _)
def EF(hr:y4d k X.A)(ha:LE X κ a fa)(hb:LE X κ b fb):LE X κ (.Compare a [.GtE] [b] pos) (ai gG fa fb):=lN rY (fY λi j d h ι H=>by cases h;exact .bl _) ha hb (fQ _)
def EG(hr:y4d k X.A)(ha:LE X κ a fa)(hb:LE X κ b fb):LT X κ (.Compare a [.Lt] [b] pos) (ao (ai dR fa fb)):=g6 rW (fY λi j d h ι H=>by cases h;exact .bl _) ha hb (fQ _)
def EH(hr:y4d k X.A)(ha:LE X κ a fa)(hb:LE X κ b fb):LT X κ (.Compare a [.Gt] [b] pos) (ao (ai fN fa fb)):=g6 rX (fY λi j d h ι H=>by cases h;exact .bl _) ha hb (fQ _)
def EI(hr:y4d k X.A)(ha:LE X κ a fa)(hb:LE X κ b fb):LT X κ (.Compare a [.GtE] [b] pos) (ao (ai gG fa fb)):=g6 rY (fY λi j d h ι H=>by cases h;exact .bl _) ha hb (fQ _)
end
end
section
section
variable {X:Cx}{K:W.Frag}{κ:Str->Addr}{ι:List Addr}{H:Hp}
theorem y4e.at{vs:List V}{xs:List I}{i:Int}{d:I}(r:y4e K ι H vs xs)(h:cB xs i=some d):∃v,cB vs i=some v/\RpI K ι H v d:=by
 unfold cB at h ⊢
 rw [r.len]
 cases q:ei xs.length i with
 | none=>rw [q] at h;cases h
 | some j =>
  rw [q] at h
  obtain⟨v,hv,rv⟩:=r.get h
  exact⟨v,hv,rv⟩
abbrev eF:List Ev->Mo Ev:=λes Z G=>match es with
 | [a,.v (.im (.int i))]=>match sq Z G a with
  | some xs=>match cB xs i with
   | some d=>some (.v (.im d),Z,G)
   | none=>none
  | none=>match a with
   | .v (.im (.str z))=>match cB z.cps.toList i with
    | some c=>if z.length≤1000000 then some (.v (.im (.str ⟨#[c]⟩)),Z,G) else none
    | none=>none
   | _=>none
 | _=>none
def EJ:aD K κ (r2 (sW K)) eF:=by
 intro ι H σ Z G es vs e Z' G' Q a h k
 unfold eF at h
 split at h
 ·rename_i x i
  split at h
  ·rename_i xs hx
   split at h
   ·rename_i d hd
    obtain⟨v,u,rfl⟩:=bH a.len
    obtain⟨p,ys,e1,h1,r⟩:=a.sq (j:=0) rfl rfl hx
    cases cF (a.im (j:=1) rfl rfl)
    subst e1
    obtain⟨w,hw,rw'⟩:=r.at hd
    rcases h1 with h1|h1
    ·exact⟨_,_,rfl,.inl ⟨p,ys,i,w,rfl,rfl,h1,hw,k _ _ _ (bI h (aS a rw'))⟩⟩
    ·exact⟨_,_,rfl,.inr (.inl ⟨p,ys,i,w,rfl,rfl,h1,hw,k _ _ _ (bI h (aS a rw'))⟩)⟩
   ·cases h
  ·split at h
   ·rename_i z _
    split at h
    ·rename_i c hc
     split at h
     ·rename_i hz
      obtain⟨v,u,rfl⟩:=bH a.len
      cases bJ (a.im (j:=0) rfl rfl)
      cases cF (a.im (j:=1) rfl rfl)
      exact⟨_,_,rfl,.inr (.inr ⟨z,i,c,rfl,rfl,z1c hz (by decide),hc,k _ _ _ (bI h (aS a (.str _)))⟩)⟩
     ·cases h
    ·cases h
   ·cases h
 ·cases h
abbrev fZ:I->Option aR
 | .int i=>some (.inl i)
 | .str x=>some (.inr x)
 | _=>none
abbrev jL:List I->Option (List aR)
 | []=>some []
 | x::xs=>match fZ x,jL xs with
  | some k,some ks=>some (k::ks)
  | _,_=>none
abbrev jM:I->Option (List aR)
 | .tup xs=>jL xs
 | _=>none
def lX{v:V}{x:I}{k:aR}(r:RpI K ι H v x)(h:fZ x=some k):v=kV k:=by
 cases r<;>first|(cases h;rfl)|cases h
theorem vt:∀{vs:List V} {xs:List I} {ks:List aR},y4e K ι H vs xs->jL xs=some ks->vs=ks.map kV
 | [],[],_,.nil,h=>by cases h;rfl
 | v::vs,x::xs,ks,.cons r rs,h=>by
  unfold jL at h
  split at h
  ·rename_i k ks' h1 h2
   cases h
   rw [z19,lX r h1,vt rs h2]
  ·cases h
def vw{v:V}{x:I}{ks:List aR}(r:RpI K ι H v x)(h:jM x=some ks):∃b,v=.ref b/\H b=some (.tup (ks.map kV)):=by
 cases r with
 | tup h1 h2=>exact⟨_,rfl,by rw [h1,vt h2 h]⟩
 | _=>cases h
abbrev cY{κ':Type}[DecidableEq κ']:List (κ'×I)->κ'->Option I
 | [],_=>none
 | (g,x)::r,k=>if g=k then some x else cY r k
abbrev jN{κ':Type}[DecidableEq κ'](kvs:List (κ'×I))(k:κ'):Bool:=kvs.any λkv=>decide (kv.1=k)
abbrev dj{κ':Type}[DecidableEq κ'](kvs:List (κ'×I))(k:κ')(d:I):List (κ'×I):=if jN kvs k then kvs.map (λkv=>if kv.1=k then (kv.1,d) else kv) else kvs++[(k,d)]
theorem oZ{κ':Type}[DecidableEq κ']{k:κ'}:∀{ws:List (κ'×V)} {kvs:List (κ'×I)},ws.map (·.1)=kvs.map (·.1)->y4e K ι H (ws.map (·.2)) (kvs.map (·.2)) ->
  (∀d,cY kvs k=some d->∃v,cV ws k=some v/\RpI K ι H v d)/\(cY kvs k=none->cV ws k=none)
 | [],[],_,_=>⟨λd h=>(by cases h),λ_=>rfl⟩
 | [],_::_,e,_=>by cases e
 | _::_,[],e,_=>by cases e
 | (g,v)::ws,(g',x)::kvs,e,r=>by
  simp only [z19,List.cons.injEq] at e
  obtain⟨e1,e2⟩:=e
  subst e1
  cases r with
  | cons r rs =>
   obtain⟨p,q⟩:=oZ e2 rs
   by_cases hg:g=k
   ·rw [kO hg]
    unfold cY
    rw [if_pos hg]
    exact⟨λd h=>(by cases h;exact⟨v,rfl,r⟩),λh=>(by cases h)⟩
   ·rw [kP hg]
    unfold cY
    rw [if_neg hg]
    exact⟨p,q⟩
theorem gc{κ' α β:Type}[DecidableEq κ']{k:κ'}:∀{ws:List (κ'×α)} {kvs:List (κ'×β)},ws.map (·.1)=kvs.map (·.1)->(ws.any λkv=>decide (kv.1=k))=(kvs.any λkv=>decide (kv.1=k))
 | [],[],_=>rfl
 | [],_::_,e=>by cases e
 | _::_,[],e=>by cases e
 | (g,v)::ws,(g',x)::kvs,e=>by
  simp only [z19,List.cons.injEq] at e
  obtain⟨e1,e2⟩:=e
  subst e1
  rw [List.any_cons,List.any_cons,gc e2]
theorem vx{κ':Type}[DecidableEq κ']{k:κ'}{v:V}{d:I}(rv:RpI K ι H v d):∀{ws:List (κ'×V)} {kvs:List (κ'×I)},ws.map (·.1)=kvs.map (·.1)->y4e K ι H (ws.map (·.2)) (kvs.map (·.2)) ->
  (ws.map λkv=>if kv.1=k then (kv.1,v) else kv).map (·.1)=(kvs.map λkv=>if kv.1=k then (kv.1,d) else kv).map (·.1)/\y4e K ι H ((ws.map λkv=>if kv.1=k then (kv.1,v) else kv).map (·.2)) ((kvs.map λkv=>if kv.1=k then (kv.1,d) else kv).map (·.2))
 | [],[],_,_=>⟨rfl,.nil⟩
 | [],_::_,e,_=>by cases e
 | _::_,[],e,_=>by cases e
 | (g,w)::ws,(g',x)::kvs,e,r=>by
  simp only [z19,List.cons.injEq] at e
  obtain⟨e1,e2⟩:=e
  subst e1
  cases r with
  | cons r rs =>
   obtain⟨p,q⟩:=vx rv e2 rs
   by_cases hg:g=k
   ·simp only [z19,if_pos hg]
    exact⟨by rw [p],.cons rv q⟩
   ·simp only [z19,if_neg hg]
    exact⟨by rw [p],.cons r q⟩
def o5{κ':Type}[DecidableEq κ']{k:κ'}{v:V}{d:I}{ws:List (κ'×V)}{kvs:List (κ'×I)}(rv:RpI K ι H v d)(e:ws.map (·.1)=kvs.map (·.1))(r:y4e K ι H (ws.map (·.2)) (kvs.map (·.2))) :
  (b5 ws k v).map (·.1)=(dj kvs k d).map (·.1)/\y4e K ι H ((b5 ws k v).map (·.2)) ((dj kvs k d).map (·.2)):=by
 unfold b5 dj jN
 rw [gc e]
 split
 ·exact vx rv e r
 ·rw [z27,z27,z27,z27,e]
  exact⟨rfl,r.app (.cons rv .nil)⟩
abbrev jO(Z:De)(G:List M)(a:Ev)(x:I):Option (Option I):=match pk Z G a with
 | some (.dic kvs)=>(fZ x).map λk=>cY kvs k
 | some (.dit kvs)=>(jM x).map λk=>cY kvs k
 | _=>none
def o6{σ:L2.St}{Z:De}{G:List M}{es:List Ev}{vs:List V}{j j':Nat}{a:Ev}{x:I}{v u:V}{o:Option I}(A:Args K κ ι H σ Z G es vs)(h1:es[j]?=some a)(h2:vs[j]?=some v)(h3:es[j']?=some (.v (.im x)))(h4:vs[j']?=some u)
  (h:jO Z G a x=some o):∃b ov,v=.ref b/\ye H b u ov/\(∀d,o=some d->∃w,ov=some w/\RpI K ι H w d)/\(o=none->ov=none):=by
 have ru:=A.im h3 h4
 unfold jO at h
 split at h
 ·rename_i kvs hp
  obtain⟨b,e1,ws,hw,e2,r⟩:=A.pk h1 h2 hp
  cases hk:fZ x with
  | none=>rw [hk] at h;cases h
  | some k =>
   rw [hk] at h
   cases h
   have eu:=lX ru hk
   subst eu
   obtain⟨p,q⟩:=oZ e2 r
   exact⟨b,_,e1,ye.k hw,p,q⟩
 ·rename_i kvs hp
  obtain⟨b,e1,ws,hw,e2,r⟩:=A.pk h1 h2 hp
  cases hk:jM x with
  | none=>rw [hk] at h;cases h
  | some k =>
   rw [hk] at h
   cases h
   obtain⟨c,eu,hc⟩:=vw ru hk
   subst eu
   obtain⟨p,q⟩:=oZ e2 r
   exact⟨b,_,e1,ye.t hw hc,p,q⟩
 ·cases h
abbrev vy:List Ev->Mo Ev:=λes Z G=>match es with
 | [a,.v (.im x)]=>match jO Z G a x with
  | some (some d)=>some (.v (.im d),Z,G)
  | _=>none
 | _=>none
def EK:aD K κ (r2 λx y H2 Q=>∃a v,x=.ref a/\ye H2 a y (some v)/\Q v H2) vy:=by
 intro ι H σ Z G es vs e Z' G' Q a h k
 unfold vy at h
 split at h
 ·split at h
  ·rename_i d hd
   obtain⟨v,u,rfl⟩:=bH a.len
   obtain⟨b,ov,e1,g,p,_⟩:=o6 a (j:=0) (j':=1) rfl rfl rfl rfl hd
   obtain⟨w,rfl,rw'⟩:=p d rfl
   exact⟨_,_,rfl,b,w,e1,g,k _ _ _ (bI h (aS a rw'))⟩
  ·cases h
 ·cases h
abbrev aI:List Ev->Mo Ev:=bR eF vy
def vz{fo fi:Mo Ev}{σ:L2.St}{Q:VK}(h:aY K κ (ai aI fo fi) σ H Q):kj (sW K) (aY K κ fo) (aY K κ fi) σ H Q∨sF (aY K κ fo) (aY K κ fi) σ H Q:=by
 obtain⟨ι,Z,G,e,Z',G',s,eq,k⟩:=h
 obtain⟨x,Z1,G1,e1,eq1⟩:=bY eq
 obtain⟨y,Z2,G2,e2,eq2⟩:=bY eq1
 have eq2:bR eF vy [x,y] Z2 G2=some (e,Z',G'):=eq2
 unfold bR at eq2
 split at eq2
 ·rename_i z hz
  cases eq2
  refine .inl (gY EJ ⟨ι,Z,G,_,_,_,s,?_,k⟩)
  unfold ai
  rw [nh e1,nh e2];exact hz
 ·refine .inr (gY EK ⟨ι,Z,G,_,_,_,s,?_,k⟩)
  unfold ai
  rw [nh e1,nh e2];exact eq2
abbrev ip(neg:Bool):List Ev->Mo Ev:=λes Z G=>match es with
 | [.v (.im x),b]=>match sq Z G b with
  | some xs=>if bK x&&xs.all bK then some (.v (.im (.bl (if neg then !(xs.any λy=>bq y x) else xs.any λy=>bq y x))),Z,G) else none
  | none=>none
 | _=>none
abbrev iN(neg:Bool):List Ev->Mo Ev:=λes Z G=>match es with
 | [.v (.im x),b]=>match jO Z G b x with
  | some o=>some (.v (.im (.bl (if neg then !o.isSome else o.isSome))),Z,G)
  | none=>none
 | _=>none
def vA:aD K κ (r2 λy x H2 Q=>∃a o,x=.ref a/\ye H2 a y o/\Q (.bl o.isSome) H2) (iN false):=by
 intro ι H σ Z G es vs e Z' G' Q a h k
 unfold iN at h
 split at h
 ·split at h
  ·rename_i o ho
   obtain⟨v,u,rfl⟩:=bH a.len
   obtain⟨b,ov,e1,g,p,q⟩:=o6 a (j:=1) (j':=0) rfl rfl rfl rfl ho
   have:ov.isSome=o.isSome:=by
    cases o with
    | none=>rw [q rfl];rfl
    | some d=>obtain⟨w,rfl,_⟩:=p d rfl;rfl
   refine⟨_,_,rfl,b,ov,e1,g,?_⟩
   rw [this]
   exact k _ _ _ (bI h (aS a (.bl _)))
  ·cases h
 ·cases h
def EL:aD K κ (r2 λy x H2 Q=>∃a o,x=.ref a/\ye H2 a y o/\Q (.bl (!o.isSome)) H2) (iN true):=by
 intro ι H σ Z G es vs e Z' G' Q a h k
 unfold iN at h
 split at h
 ·split at h
  ·rename_i o ho
   obtain⟨v,u,rfl⟩:=bH a.len
   obtain⟨b,ov,e1,g,p,q⟩:=o6 a (j:=1) (j':=0) rfl rfl rfl rfl ho
   have:ov.isSome=o.isSome:=by
    cases o with
    | none=>rw [q rfl];rfl
    | some d=>obtain⟨w,rfl,_⟩:=p d rfl;rfl
   refine⟨_,_,rfl,b,ov,e1,g,?_⟩
   rw [this]
   exact k _ _ _ (bI h (aS a (.bl _)))
  ·cases h
 ·cases h
end
section
variable {X:Cx}{κ:Str->Addr}{a b:Expr}{fa fb:Mo Ev}{pos:Pos}{k:Nat}
def EM(hr:y4d k X.A)(ha:LE X κ a fa)(hb:LE X κ b fb)(hs:ik b:=by exact (λ_ _=>rfl)):LE X κ (.Subscript a b pos) (ai aI fa fb):=.mk (aW (jj (og oh ha.pe hb.pe hs) (B8 (jA hr) ha.pe hb.pe hs)) λ_ _ _=>vz)
end
end
section
section
variable {X:Cx}{K:W.Frag}{κ:Str->Addr}{ι:List Addr}{H:Hp}
theorem pd{v:V}{x:I}(r:RpI K ι H v x)(hx:bK x=true):∀{vs:List V} {xs:List I},y4e K ι H vs xs->xs.all bK=true->vs.all bj=true/\(xs.any λy=>bq y x)=vs.any λy=>gU y v
 | [],[],.nil,_=>⟨rfl,rfl⟩
 | w::vs,y::xs,.cons r' rs,h=>by
  rw [List.all_cons,z1b] at h
  obtain⟨p,q⟩:=pd r hx rs h.2
  rw [List.all_cons,List.any_cons,List.any_cons,p,q,vm r' r h.1 hx,eE r' h.1]
  exact⟨rfl,rfl⟩
def lY:aD K κ (r2 (Au K false)) (ip false):=by
 intro ι H σ Z G es vs e Z' G' Q a h k
 unfold ip at h
 split at h
 ·rename_i x b
  split at h
  ·rename_i xs hx
   split at h
   ·rename_i hf
    rw [z1b] at hf
    obtain⟨v,u,rfl⟩:=bH a.len
    obtain⟨p,ys,e1,h1,r⟩:=a.sq (j:=1) rfl rfl hx
    have rx:=a.im (j:=0) rfl rfl
    obtain⟨p1,p2⟩:=pd rx hf.1 r hf.2
    refine⟨_,_,rfl,p,ys,e1,h1,eE rx hf.1,p1,?_⟩
    have:L2.inV v ys=xs.any λy=>bq y x:=p2.symm
    rw [this]
    exact k _ _ _ (bI h (aS a (.bl _)))
   ·cases h
  ·cases h
 ·cases h
def EN:aD K κ (r2 (Au K true)) (ip true):=by
 intro ι H σ Z G es vs e Z' G' Q a h k
 unfold ip at h
 split at h
 ·rename_i x b
  split at h
  ·rename_i xs hx
   split at h
   ·rename_i hf
    rw [z1b] at hf
    obtain⟨v,u,rfl⟩:=bH a.len
    obtain⟨p,ys,e1,h1,r⟩:=a.sq (j:=1) rfl rfl hx
    have rx:=a.im (j:=0) rfl rfl
    obtain⟨p1,p2⟩:=pd rx hf.1 r hf.2
    refine⟨_,_,rfl,p,ys,e1,h1,eE rx hf.1,p1,?_⟩
    have:L2.inV v ys=xs.any λy=>bq y x:=p2.symm
    rw [this]
    exact k _ _ _ (bI h (aS a (.bl _)))
   ·cases h
  ·cases h
 ·cases h
abbrev eR:List Ev->Mo Ev:=bR (ip false) (iN false)
abbrev jP:List Ev->Mo Ev:=bR (ip true) (iN true)
def jQ{p p':List Ev->Mo Ev}{r r':R2}{fo fi:Mo Ev}{σ:L2.St}{Q:VK}(h1:aD K κ (r2 r) p)(h2:aD K κ (r2 r') p')(h:aY K κ (ai (bR p p') fo fi) σ H Q):kj r (aY K κ fo) (aY K κ fi) σ H Q∨kj r' (aY K κ fo) (aY K κ fi) σ H Q:=by
 obtain⟨ι,Z,G,e,Z',G',s,eq,k⟩:=h
 obtain⟨x,Z1,G1,e1,eq1⟩:=bY eq
 obtain⟨y,Z2,G2,e2,eq2⟩:=bY eq1
 have eq2:bR p p' [x,y] Z2 G2=some (e,Z',G'):=eq2
 unfold bR at eq2
 split at eq2
 ·rename_i z hz
  cases eq2
  refine .inl (gY h1 ⟨ι,Z,G,_,_,_,s,?_,k⟩)
  unfold ai
  rw [nh e1,nh e2];exact hz
 ·refine .inr (gY h2 ⟨ι,Z,G,_,_,_,s,?_,k⟩)
  unfold ai
  rw [nh e1,nh e2];exact eq2
end
section
variable {X:Cx}{κ:Str->Addr}{a b:Expr}{fa fb:Mo Ev}{pos:Pos}{k:Nat}
def EO(hr:y4d k X.A)(ha:LE X κ a fa)(hb:LE X κ b fb)(hm:‹behindInMarks .In b=false›):LE X κ (.Compare a [.In] [b] pos) (ai eR fa fb):=.mk (aW (jj (rZ kU ha.pe hb.pe hm) (Bp (sH (jA hr) ha.pe hb.pe) hm)) λ_ _ _=>jQ lY vA)
def ER(hr:y4d k X.A)(ha:LE X κ a fa)(hb:LE X κ b fb)(hm:‹behindInMarks .In b=false›):LT X κ (.Compare a [.In] [b] pos) (ao (ai eR fa fb)):=.mk (fj (lM (gP kU ha.pe hb.pe hm) (kE (sH (jA hr) ha.pe hb.pe) hm)) λ_ _ _ h=>jQ lY vA (g5 h))
def vB(hr:y4d k X.A)(ha:LE X κ a fa)(hb:LE X κ b fb)(hm:‹behindInMarks .NotIn b=false›):LT X κ (.Compare a [.NotIn] [b] pos) (ao (ai jP fa fb)):=.mk (fj (lM (gP Cy ha.pe hb.pe hm) (kE (B9 (jA hr) ha.pe hb.pe) hm)) λ_ _ _ h=>jQ EN EL (g5 h))
end
section
variable {K:W.Frag}{κ:Str->Addr}
abbrev aH:List Ev->Mo Ev:=λes Z G=>match es with
 | [a]=>match sq Z G a with
  | some xs=>some (.v (.im (.int xs.length)),Z,G)
  | none=>match a with
   | .v (.im (.str z))=>if z.length≤1000000 then some (.v (.im (.int z.length)),Z,G) else none
   | a=>match pk Z G a with
    | some (.dic kvs)=>some (.v (.im (.int kvs.length)),Z,G)
    | _=>none
 | _=>none
def ES:aD K κ (λxs H Q=>(∃p ys,xs=[.ref p]/\(bu K H p ys∨ba K H p ys)/\Q (.int ys.length) H)∨((∃z,xs=[.str z]/\z.length≤sizeLine/\Q (.int z.length) H)∨(∃a kvs,xs=[V.ref a]/\H a=some (.dK kvs)/\Q (.int kvs.length) H))) aH:=by
 intro ι H σ Z G es vs e Z' G' Q a h k
 unfold aH at h
 split at h
 ·rename_i x
  split at h
  ·rename_i xs hx
   obtain⟨v,rfl⟩:=bP a.len
   obtain⟨p,ys,e1,h1,r⟩:=a.sq (j:=0) rfl rfl hx
   subst e1
   exact .inl ⟨p,ys,rfl,h1,by rw [r.len];exact k _ _ _ (bI h (aS a (.int _)))⟩
  ·split at h
   ·split at h
    ·rename_i hz
     obtain⟨v,rfl⟩:=bP a.len
     cases bJ (a.im (j:=0) rfl rfl)
     exact .inr (.inl ⟨_,rfl,z1c hz (by decide),k _ _ _ (bI h (aS a (.int _)))⟩)
    ·cases h
   ·split at h
    ·rename_i kvs hp
     obtain⟨v,rfl⟩:=bP a.len
     obtain⟨b,e1,ws,hw,e2,r⟩:=a.pk (j:=0) rfl rfl hp
     subst e1
     have e3:kvs.length=ws.length:=by have:=congrArg List.length e2;simpa using this.symm
     exact .inr (.inr ⟨b,ws,rfl,hw,by rw [<- e3];exact k _ _ _ (bI h (aS a (.int _)))⟩)
    ·cases h
 ·cases h
abbrev ET:List Ev->Mo Ev:=λes Z G=>match es with
 | [.v (.im (.tup xs))]=>some (.v (.im (.tup xs)),Z,G)
 | [.v (.im (.con xs))]=>some (.v (.im (.con xs)),Z,G)
 | [a]=>match sq Z G a with
  | some xs=>some (.v (.im (.tup xs)),Z,G)
  | none=>none
 | _=>none
def EU{ι:List Addr}{H:Hp}{σ:L2.St}{Z:De}{G:List M}{e:Ev}{v:V}{xs:List I}(a:Args K κ ι H σ Z G [e] [v])(h:sq Z G e=some xs)(n1:∀ys,e≠.v (.im (.tup ys)))(n2:∀ys,e≠.v (.im (.con ys))):∃b ys,v=.ref b/\bu K H b ys/\y4e K ι H ys xs:=by
 have y16d:(match B.pk Z G e with|some (.lst xs)=>some xs|_=>none)=some xs->∃b ys,v=.ref b/\bu K H b ys/\y4e K ι H ys xs:=λq=>by
  split at q
  ·rename_i xs' e'
   cases q
   obtain⟨b,e1,ys,h3,r⟩:=a.pk (j:=0) rfl rfl e'
   exact⟨b,ys,e1,bu.of h3,r⟩
  ·cases q
 cases e with
 | s i=>exact y16d h
 | v x =>
  cases x with
  | ow m=>exact y16d h
  | im d =>
   have r:=a.im (j:=0) rfl rfl
   cases r with
   | tup q r=>exact absurd rfl (n1 _)
   | con q r=>exact absurd rfl (n2 _)
   | fro q r=>cases h;exact⟨_,_,rfl,q.sq,r⟩
   | ref q=>exact y16d h
   | non=>exact y16d h
   | bl=>exact y16d h
   | int=>exact y16d h
   | str=>exact y16d h
   | ty=>exact y16d h
abbrev dS:List Ev->Mo Ev:=bC λi j=>some (.int (if j>i then j else i))
abbrev pf:List Ev->Mo Ev:=bC λi j=>some (.int (if j<i then j else i))
def vC{g:Int->Int->Int}:aD K κ (λxs H Q=>∃i j,xs=[.int i,.int j]/\Q (.int (g i j)) H) (bC λi j=>some (.int (g i j))):=by
 intro ι H σ Z G es vs e Z' G' Q a h k
 obtain⟨x,y,e1,i,j,e2,e3,q⟩:=fY (λi j d h ι H=>by cases h;exact .int _) ι H σ Z G es vs e Z' G' Q a h k
 exact⟨i,j,by rw [e1,e2,e3],q⟩
abbrev eG:Ev->Bool
 | .v (.im (.tup _))=>false
 | .v (.im (.con _))=>false
 | _=>true
abbrev iO:List Ev->Mo Ev:=λes Z G=>match es with
 | [a]=>if eG a then match sq Z G a with
  | some xs=>some (.v (.ow (.lst xs.reverse)),Z,G)
  | none=>none
  else none
 | _=>none
def EV:aD K κ (r1 λx H1 Q=>∃l ys,x=.ref l/\bu K H1 l ys/\∀p,H1 p=none->Q (.ref p) (upd H1 p (.lst ys.reverse))) iO:=by
 intro ι H σ Z G es vs e Z' G' Q a h k
 unfold iO at h
 split at h
 ·rename_i x
  split at h
  ·rename_i hl
   split at h
   ·rename_i xs hx
    obtain⟨v,rfl⟩:=bP a.len
    obtain⟨p,ys,e1,h1,r⟩:=EU a hx (λys z=>by subst z;cases hl) (λys z=>by subst z;cases hl)
    subst e1
    exact⟨_,rfl,p,ys,rfl,h1,λl hl=>k _ _ _ (bI h (fV a hl r.rev))⟩
   ·cases h
  ·cases h
 ·cases h
end
section
variable {X:Cx}{κ:Str->Addr}{a b e:Expr}{es:List Expr}{fa fb:Mo Ev}{fs:Mo (List Ev)}{p pos:Pos}{k:Nat}
def vD(hr:y4d k X.A)(hm:X.mg "len" = none)(ha:LA X κ (e::es) fs)(hg:‹Gl X "len"›)(he:‹fM X e es›)(hpl:‹eW X pos es›):LE X κ (.Call (.Name "len" p) (e::es) [] pos) (bd fs aH):=.mk (aW (eX (ya9.or (yaa.or ya8)) hg hm PySem.boot_len ha.pe (by decide) (by decide) he hpl) λ_ _ _ q=>dP ES q)
def EW(hr:y4d k X.A)(hm:X.mg "max" = none)(ha:LA X κ (e::es) fs)(hg:‹Gl X "max"›)(hc:‹X.calm=true›)(he:‹fM X e es›)(hpl:‹eW X pos es›):LE X κ (.Call (.Name "max" p) (e::es) [] pos) (bd fs dS):=.mk (aW (eX (yac hc) hg hm PyProof.Rows.boot_max ha.pe (by decide) (by decide) he hpl) λ_ _ _ q=>dP vC q)
def EX(hr:y4d k X.A)(hm:X.mg "min" = none)(ha:LA X κ (e::es) fs)(hg:‹Gl X "min"›)(hc:‹X.calm=true›)(he:‹fM X e es›)(hpl:‹eW X pos es›):LE X κ (.Call (.Name "min" p) (e::es) [] pos) (bd fs pf):=.mk (aW (eX (yad hc) hg hm PyProof.Rows.boot_min ha.pe (by decide) (by decide) he hpl) λ_ _ _ q=>dP vC q)
def EY(hl:X.mg "list" = none)(hv:X.mg "reversed" = none)(h:LE X κ e fa)(hc:‹X.calm=true›)(gl:‹Gl X "list"›)(gr:‹Gl X "reversed"›)(hs1:‹starEach [e] X.env=[(false,eval e X.env)]›)
  (hs2:‹starEach [.Call (.Name "reversed" p2) [e] [] q2] X.env=[(false,eval (.Call (.Name "reversed" p2) [e] [] q2) X.env)]›):LE X κ (.Call (.Name "list" p1) [.Call (.Name "reversed" p2) [e] [] q2] [] q1) (a6 iO fa):=.mk (aW (CW hc gl hl gr hv h.pe hs1 hs2) λ_ _ _ q=>gZ EV q)
end
end
section
section
variable {X:Cx}{K:W.Frag}{κ:Str->Addr}{ι:List Addr}{H:Hp}{σ:L2.St}
abbrev aB:Mo (List Ev):=rt []
abbrev av(f:Mo Ev):Mo (List Ev):=one f
abbrev ph:List Ev->Option (Option Int)
 | []=>some none
 | [.v (.im (.int i))]=>some (some i)
 | _=>none
abbrev qI(K:W.Frag)(κ:Str->Addr)(f:Mo (List Ev)):TO:=λσ H Q=>∃ι Z G es o Z' G',SR K κ ι H σ Z G/\f Z G=some (es,Z',G')/\ph es=some o/\∀vs ι' H',After K κ σ ι (own σ Z++ι) H es Z' G' vs ι' H'->Q o H'
def EZ:PO X none (qI X.K κ aB):=λpins s σ H Q I h=>oa pins s σ H Q I (by
 obtain⟨ι,Z,G,es,o,Z',G',s,e,p,k⟩:=h
 cases e;cases p
 exact k _ _ _ (After.nil s))
def E1 (h:LE X κ e f):PO X (some e) (qI X.K κ (av f)):=λpins s σ H Q I q=>sP h.pe pins s σ H Q I (by
 obtain⟨ι,Z,G,es,o,Z',G',s,e,p,k⟩:=q
 obtain⟨x,Z1,G1,e1,e2⟩:=bY e
 cases e2
 refine⟨ι,Z,G,x,_,_,s,e1,λv ι1 H1 a=>?_⟩
 unfold ph at p
 split at p
 ·rename_i hq;cases hq
 ·rename_i i hq
  cases p
  cases hq
  have r:=a.ar.im (j:=0) rfl rfl
  cases cF (r)
  exact⟨i,rfl,k _ _ _ a⟩
 ·cases p)
abbrev eS(xs:List I)(lo hi:Option Int):List I:=(xs.drop (HT.sIx xs.length 0 lo)).take (HT.sIx xs.length xs.length hi-HT.sIx xs.length 0 lo)
def y4e.cut{vs:List V}{xs:List I}(r:y4e K ι H vs xs)(lo hi:Option Int):y4e K ι H (jv vs lo hi) (eS xs lo hi):=by
 unfold jv eS
 rw [r.len]
 exact (r.drop _).take _
abbrev ck(lo hi:Option Int):List Ev->Mo Ev:=λes Z G=>match es with
 | .v (.im (.tup xs))::_=>some (.v (.im (.tup (eS xs lo hi))),Z,G)
 | .v (.im (.str z))::_=>if z.length≤1000000 then some (.v (.im (.str (Txt.slice z lo hi))),Z,G) else none
 | a::_=>if eG a then match sq Z G a with
  | some xs=>some (.v (.ow (.lst (eS xs lo hi))),Z,G)
  | none=>none
  else none
 | _=>none
abbrev az(fe:Mo Ev)(fl fh:Mo (List Ev)):Mo Ev:=bd fe λx=>bd fl λls=>bd fh λhs=>λZ G=>match ph ls,ph hs with
 | some lo,some hi=>ck lo hi (x::(ls++hs)) Z G
 | _,_=>none
def vE{Z:De}{G:List M}{e:Ev}{es:List Ev}{v:V}{vs:List V}{xs:List I}(a:Args K κ ι H σ Z G (e::es) (v::vs))(h:sq Z G e=some xs)(n:eG e=true):∃b ys,v=.ref b/\bu K H b ys/\y4e K ι H ys xs:=by
 have y16d:(match B.pk Z G e with|some (.lst xs)=>some xs|_=>none)=some xs->∃b ys,v=.ref b/\bu K H b ys/\y4e K ι H ys xs:=λq=>by
  split at q
  ·rename_i xs' e'
   cases q
   obtain⟨b,e1,ys,h3,r⟩:=a.pk (j:=0) rfl rfl e'
   exact⟨b,ys,e1,bu.of h3,r⟩
  ·cases q
 cases e with
 | s i=>exact y16d h
 | v x =>
  cases x with
  | ow m=>exact y16d h
  | im d =>
   have r:=a.im (j:=0) rfl rfl
   cases r with
   | tup q r=>cases n
   | con q r=>cases n
   | fro q r=>cases h;exact⟨_,_,rfl,q.sq,r⟩
   | ref q=>exact y16d h
   | non=>exact y16d h
   | bl=>exact y16d h
   | int=>exact y16d h
   | str=>exact y16d h
   | ty=>exact y16d h
abbrev E2(K:W.Frag):V->Option Int->Option Int->Hp->VK->Prop:=λx lo hi H Q=>sX K x lo hi H Q∨(tW x lo hi H Q∨tQ x lo hi H Q)
def E3{fe:Mo Ev}{fl fh:Mo (List Ev)}{Q:VK}(h:aY K κ (az fe fl fh) σ H Q):tSl (E2 K) (aY K κ fe) (qI K κ fl) (qI K κ fh) σ H Q:=by
 obtain⟨ι,Z,G,e,Z',G',s,eq,k⟩:=h
 obtain⟨x,Z1,G1,e1,eq1⟩:=bY eq
 obtain⟨ls,Z2,G2,e2,eq2⟩:=bY eq1
 obtain⟨hs,Z3,G3,e3,eq3⟩:=bY eq2
 split at eq3
 ·rename_i lo hi hlo hhi
  refine⟨ι,Z,G,x,Z1,G1,s,e1,λv ι1 H1 a1=>?_⟩
  refine⟨ι1,Z1,G1,ls,lo,Z2,G2,a1.ar.base,e2,hlo,λvs ι2 H2 a2=>?_⟩
  refine⟨ι2,Z2,G2,hs,hi,Z3,G3,a2.ar.base,e3,hhi,λws ι3 H3 a3=>?_⟩
  have a23:=a2.app a3
  have a:=a1.app a23
  have fin:∀{v':V} {ι':List Addr} {H':Hp},After K κ σ ι3 (own (σ++tS ([x]++(ls++hs)) ([v]++(vs++ws))) (Z3++tD ([x]++(ls++hs)))++ι3) H3 [e] Z' G' [v'] ι' H'->Q v' H':=λb=>k _ _ _ (a.then b)
  have ar:Args K κ ι3 H3 σ Z3 G3 (x::(ls++hs)) (v::(vs++ws)):=a.ar
  unfold ck at eq3
  split at eq3
  ·rename_i xs aG hq
   cases hq
   have r:=ar.im (j:=0) rfl rfl
   obtain⟨_,_,rfl,h1,h2⟩:=lh r
   refine .inr (.inl ⟨_,_,rfl,h1,λb H' hb kp=>?_⟩)
   exact fin (bI eq3 (ub a.ar kp (.tup hb ((h2.cut lo hi).mono (bV.refl _) (Kp.same kp)))))
  ·rename_i z aG hq
   cases hq
   split at eq3
   ·rename_i hz
    cases bJ (ar.im (j:=0) rfl rfl)
    exact .inr (.inr ⟨z,rfl,z1c hz (by decide),fin (bI eq3 (aS a.ar (.str _)))⟩)
   ·cases eq3
  ·rename_i a0 aG _ _ hq
   cases hq
   split at eq3
   ·rename_i hn
    split at eq3
    ·rename_i xs hx
     obtain⟨b,ys,e4,h1,r⟩:=vE ar hx hn
     exact .inl ⟨b,ys,e4,h1,λp hp=>fin (bI eq3 (fV a.ar hp (r.cut lo hi)))⟩
    ·cases eq3
   ·cases eq3
  ·cases eq3
 ·cases eq3
abbrev gh:List Ev->Mo Ev:=λes Z G=>match es with
 | [.v (.im (.tup xs))]=>some (.v (.im (.tup xs.reverse)),Z,G)
 | [a]=>if eG a then match sq Z G a with
  | some xs=>some (.v (.ow (.lst xs.reverse)),Z,G)
  | none=>none
  else none
 | _=>none
def oq(xs:List V):fS xs none none (some (-1))=xs.reverse:=by
 obtain⟨h1,h2⟩:=Dm xs
 refine List.ext_getElem? λj=>?_
 by_cases hj:j<xs.length
 ·rw [h2 j hj,List.getElem?_reverse hj]
 ·rw [List.getElem?_eq_none_iff.mpr (by lia),List.getElem?_eq_none_iff.mpr (by rw [z2c];lia)]
def E4{fe:Mo Ev}{tk:TO}{Q:VK}(htk:∀σ H Q,Q (some (-1)) H->tk σ H Q)(h:aY K κ (a6 gh fe) σ H Q):tV K (aY K κ fe) σ H Q∨tX K (aY K κ fe) n9 n9 tk σ H Q:=by
 obtain⟨ι,Z,G,e,Z',G',s,eq,k⟩:=h
 obtain⟨x,Z1,G1,e1,eq1⟩:=bY eq
 unfold gh at eq1
 split at eq1
 ·rename_i xs hq
  cases hq
  refine .inl ⟨ι,Z,G,_,_,_,s,e1,λv ι1 H1 a=>?_⟩
  have r:=a.ar.im (j:=0) rfl rfl
  obtain⟨_,_,rfl,h1,h2⟩:=lh r
  exact⟨_,_,rfl,ba.of h1,λp hp=>k _ _ _ (bI eq1 (a.then (oC a.ar hp h2.rev)))⟩
 ·rename_i a0 _ hq
  cases hq
  split at eq1
  ·rename_i hn
   split at eq1
   ·rename_i xs hx
    refine .inr ⟨ι,Z,G,_,_,_,s,e1,λv ι1 H1 a=>?_⟩
    refine htk _ _ _ ?_
    obtain⟨b,ys,e6,h1,r⟩:=vE a.ar hx hn
    refine⟨b,ys,e6,h1,(by decide),λp hp=>?_⟩
    rw [oq]
    exact k _ _ _ (bI eq1 (a.then (fV a.ar hp r.rev)))
   ·cases eq1
  ·cases eq1
 ·cases eq1
end
section
variable {X:Cx}{κ:Str->Addr}{a b e st:Expr}{fa fb:Mo Ev}{fl fh:Mo (List Ev)}{lo hi:Option Expr}{pos p2:Pos}{k:Nat}
def vF(h:LE X κ e fa)(hl:PO X lo (qI X.K κ fl))(hh:PO X hi (qI X.K κ fh)):LE X κ (.Subscript e (.Slice lo hi none p2) pos) (az fa fl fh):=.mk (aW (Cj (Cw.or (Di.or C5)) h.pe hl hh) λ_ _ _=>E3)
def vG{pu pc:Pos}{j}(h:LE X κ e fa):LE X κ (.Subscript e (.Slice none none (some (.UnaryOp .USub (.Constant (.int 1) j pc) pu)) p2) pos) (a6 gh fa):=.mk (aW (jj (Dh h.pe (nS nW nF) λ_ _ _ q=>⟨1,rfl,q⟩) (Dj h.pe oa oa (nS nW nF))) λ_ _ _ q=>E4 (λ_ _ _ q=>⟨1,rfl,⟨_,rfl,q⟩⟩) q)
end
end
section
section
variable {X:Cx}{K:W.Frag}{κ:Str->Addr}{ι:List Addr}{H:Hp}{σ:L2.St}
abbrev fu(Z:De)(G:List M)(e:Ev):Bool:=match pk Z G e with
 | some (.lst _)=>true
 | _=>false
abbrev iP(p:List Ev->Mo Ev)(fo:Mo Ev)(fa:Mo (List Ev)):Mo Ev:=bd fo λe=>λZ G=>if fu Z G e then bd fa (λes=>p (e::es)) Z G else none
abbrev rM(r:V->List V->Hp->VK->Prop):List V->Hp->VK->Prop:=λvs H Q=>∃x xs,vs=x::xs/\r x xs H Q
def vH{Z:De}{G:List M}{e:Ev}{v:V}{fp:List Addr}{H0:Hp}{ι0:List Addr}(a:After K κ σ ι0 fp H0 [e] Z G [v] ι H)(h:fu Z G e=true):tq K "list" v H:=by
 unfold fu at h
 split at h
 ·rename_i xs hp
  obtain⟨b,e1,ys,h1,r⟩:=a.ar.pk (j:=0) rfl rfl hp
  subst e1
  exact .inl ⟨rfl,ys,bu.of h1⟩
 ·cases h
def vI{p:List Ev->Mo Ev}{fo:Mo Ev}{fa:Mo (List Ev)}{r:V->List V->Hp->VK->Prop}{Q:VK}(hp:aD K κ (rM r) p)(h:aY K κ (iP p fo fa) σ H Q):Cz K "list" r (aY K κ fo) (fU K κ fa) σ H Q:=by
 obtain⟨ι,Z,G,e,Z',G',s,eq,k⟩:=h
 obtain⟨x,Z1,G1,e1,eq1⟩:=bY eq
 split at eq1
 ·rename_i hl
  obtain⟨es,Z2,G2,e2,eq2⟩:=bY eq1
  refine⟨ι,Z,G,x,Z1,G1,s,e1,λv ι1 H1 a1=>⟨vH a1 hl,?_⟩⟩
  refine⟨ι1,Z1,G1,es,Z2,G2,a1.ar.base,e2,λvs ι2 H2 a2=>?_⟩
  have a:=a1.app a2
  obtain⟨y,ys,ey,q⟩:=hp _ _ _ _ _ _ _ _ _ _ Q a.ar eq2 λv ι3 H3 d=>k _ _ _ (a.then d)
  cases ey
  exact q
 ·cases eq1
def E5{p:List Ev->Mo Ev}{fo:Mo Ev}{r:V->List V->Hp->VK->Prop}{Q:VK}(hp:aD K κ (rM r) p)(hl:∀e Z G z,p [e] Z G=some z->fu Z G e=true)(h:aY K κ (a6 p fo) σ H Q):tu K "list" r (aY K κ fo) σ H Q:=by
 obtain⟨ι,Z,G,e,Z',G',s,eq,k⟩:=h
 obtain⟨x,Z1,G1,e1,eq1⟩:=bY eq
 refine⟨ι,Z,G,x,Z1,G1,s,e1,λv ι1 H1 a1=>⟨vH a1 (hl _ _ _ _ eq1),?_⟩⟩
 obtain⟨y,ys,ey,q⟩:=hp _ _ _ _ _ _ _ _ _ _ Q a1.ar eq1 λv ι3 H3 d=>k _ _ _ (a1.then d)
 cases ey
 exact q
abbrev g8:List Ev->Mo Ev:=λes Z G=>match es with
 | [a,.v (.im d)]=>match pk Z G a with
  | some (.lst xs)=>if xs.length<1000000 then some (.v (.im .non),(il Z G (.lst (xs++[d])) a).1,(il Z G (.lst (xs++[d])) a).2) else none
  | _=>none
 | _=>none
def E6:aD K κ (rM tE) g8:=by
 intro ι H σ Z G es vs e Z' G' Q a h k
 unfold g8 at h
 split at h
 ·rename_i x d
  split at h
  ·rename_i xs hx
   split at h
   ·rename_i hl
    obtain⟨v,u,rfl⟩:=bH a.len
    obtain⟨b,e1,ys,h1,r⟩:=a.pk (j:=0) rfl rfl hx
    subst e1
    have ru:=a.im (j:=1) rfl rfl
    have l1:=r.len
    refine⟨_,_,rfl,b,ys,u,rfl,rfl,h1,z1f (by lia) (show 1000000≤sizeLine by decide),k _ _ _ (bI h (lE a (j:=0) rfl rfl hx (λ_ kp=>⟨_,bf,(r.app (.cons ru .nil)).mono (bV.refl _) kp⟩) .non))⟩
   ·cases h
  ·cases h
 ·cases h
abbrev fw:List Ev->Mo Ev:=λes Z G=>match es with
 | [a]=>match pk Z G a with
  | some (.lst xs)=>match xs[xs.length-1]? with
   | some d=>some (.v (.im d),(il Z G (.lst xs.dropLast) a).1,(il Z G (.lst xs.dropLast) a).2)
   | none=>none
  | _=>none
 | _=>none
theorem y4e.dropLast{vs:List V}{xs:List I}(r:y4e K ι H vs xs):y4e K ι H vs.dropLast xs.dropLast:=by
 rw [List.dropLast_eq_take,List.dropLast_eq_take,r.len]
 exact r.take _
def E7:aD K κ (rM tG) fw:=by
 intro ι H σ Z G es vs e Z' G' Q a h k
 unfold fw at h
 split at h
 ·rename_i x
  split at h
  ·rename_i xs hx
   split at h
   ·rename_i d hd
    obtain⟨v,rfl⟩:=bP a.len
    obtain⟨b,e1,ys,h1,r⟩:=a.pk (j:=0) rfl rfl hx
    subst e1
    obtain⟨w,hw,rw'⟩:=r.get hd
    refine⟨_,_,rfl,b,ys,w,rfl,rfl,h1,by rw [r.len];exact hw,k _ _ _ (bI h (lE a (j:=0) rfl rfl hx (λ_ kp=>⟨_,bf,r.dropLast.mono (bV.refl _) kp⟩) rw'))⟩
   ·cases h
  ·cases h
 ·cases h
def E8(e:Ev)(Z:De)(G:List M)(z:Ev×De×List M)(h:fw [e] Z G=some z):fu Z G e=true:=by
 unfold fw at h
 dsimp only at h
 unfold fu
 split at h
 ·rfl
 ·cases h
abbrev iQ:List Ev->De->List M->Option (De×List M):=λes Z G=>match es with
 | [.v (.im d),a,.v (.im x)]=>match pk Z G a with
  | some (.lst xs)=>match x with
   | .int i=>match ei xs.length i with
    | some j=>some (il Z G (.lst (xs.set j d)) a)
    | none=>none
   | _=>none
  | some (.dic kvs)=>match fZ x with
   | some k=>if kvs.length<1000000 then some (il Z G (.dic (dj kvs k d)) a) else none
   | none=>none
  | some (.dit kvs)=>match jM x with
   | some k=>if kvs.length<1000000 then some (il Z G (.dit (dj kvs k d)) a) else none
   | none=>none
  | _=>none
 | _=>none
abbrev dU(fo fi fv:Mo Ev):SF:=λZ G=>match bd fv (λv=>bd fo λo=>bd fi λi=>rt [v,o,i]) Z G with
 | some (es,Z1,G1)=>match iQ es Z1 G1 with
  | some (Z2,G2)=>some (.nx Z2 G2)
  | none=>none
 | none=>none
def E9{fo fi fv:Mo Ev}{D:Ends}(h:cS K κ (dU fo fi fv) D σ H):fP (aY K κ fv) (kI (aY K κ fo) (aY K κ fi) kT) D σ H∨sG (aY K κ fo) (aY K κ fi) (aY K κ fv) D σ H:=by
 obtain⟨ι,Z,G,fl,s,eq,k⟩:=h
 unfold dU at eq
 split at eq
 ·rename_i es Ze Ge ee
  obtain⟨v,Z1,G1,e1,ee⟩:=bY ee
  obtain⟨o,Z2,G2,e2,ee⟩:=bY ee
  obtain⟨i,Z3,G3,e3,ee⟩:=bY ee
  cases ee
  split at eq
  ·rename_i Z4 G4 e4
   cases eq
   have go:∀{vv ov iv:V} {ι3:List Addr} {H3:Hp},After K κ σ ι (own σ Z++ι) H [v,o,i] Ze Ge [vv,ov,iv] ι3 H3 ->
     (∃p xs kk j,ov=.ref p/\iv=.int kk/\H3 p=some (.lst xs)/\ei xs.length kk=some j/\D.nx σ (upd H3 p (.lst (xs.set j vv))))∨(∃a H4,ov=.ref a/\yf H3 a iv vv H4/\D.nx σ H4):=λ{vv ov iv ι3 H3} a=>by
    unfold iQ at e4
    split at e4
    ·rename_i d a0 x hq
     cases hq
     have rv:=a.ar.im (j:=0) rfl rfl
     have rx:=a.ar.im (j:=2) rfl rfl
     have nxt:∀{m m':M} {b:Addr} {ob:HO},t7 m=false->pk Ze Ge o=some m->ov=.ref b->(c9 K κ ι3 H3 b m->Kp H3 (upd H3 b ob)->c9 K κ ι3 (upd H3 b ob) b m')->(il Ze Ge m' o=(Z4,G4))->D.nx σ (upd H3 b ob):=λhf hp eo hr he=>by
      subst eo
      have f:=lE a.ar (j:=1) rfl rfl hp hr (RpI.non) hf
      obtain⟨p,q⟩:=(a.then f).drop
      rw [he] at p q
      exact k _ _ _ p q
     split at e4
     ·rename_i xs hp
      cases rx with
      | int kk =>
       dsimp only at e4
       split at e4
       ·rename_i j hj
        obtain⟨b,eb,ys,h1,r⟩:=a.ar.pk (j:=1) rfl rfl hp
        have l:=r.len
        exact .inl ⟨b,ys,kk,j,eb,rfl,h1,by rw [l];exact hj,nxt (m':=.lst (xs.set j d)) rfl hp eb (λ_ kp=>⟨_,bf,(r.set j rv).mono (bV.refl _) kp⟩) (z20 e4)⟩
       ·cases e4
      | _=>cases e4
     ·rename_i kvs hp
      split at e4
      ·rename_i kk hk
       split at e4
       ·rename_i hl
        obtain⟨b,eb,ws,h1,h2,r⟩:=a.ar.pk (j:=1) rfl rfl hp
        have ek:=lX rx hk
        subst ek
        have l:ws.length=kvs.length:=by have:=congrArg List.length h2;simpa using this
        refine .inr ⟨b,_,eb,yf.k h1 (z1f (by lia) (show 1000000≤sizeLine by decide)),nxt rfl hp eb (λ_ kp=>?_) (z20 e4)⟩
        obtain⟨p,q⟩:=o5 rv h2 r
        exact⟨_,bf,p,q.mono (bV.refl _) kp⟩
       ·cases e4
      ·cases e4
     ·rename_i kvs hp
      split at e4
      ·rename_i kk hk
       split at e4
       ·rename_i hl
        obtain⟨b,eb,ws,h1,h2,r⟩:=a.ar.pk (j:=1) rfl rfl hp
        obtain⟨c,ek,hc⟩:=vw rx hk
        subst ek
        have l:ws.length=kvs.length:=by have:=congrArg List.length h2;simpa using this
        refine .inr ⟨b,_,eb,yf.t h1 hc (z1f (by lia) (show 1000000≤sizeLine by decide)),nxt rfl hp eb (λ_ kp=>?_) (z20 e4)⟩
        obtain⟨p,q⟩:=o5 (k:=kk) rv h2 r
        exact⟨_,bf,p,q.mono (bV.refl _) kp⟩
       ·cases e4
      ·cases e4
     ·cases e4
    ·cases e4
   by_cases hl:∃xs,pk Ze Ge o=some (.lst xs)
   ·left
    refine⟨ι,Z,G,v,Z1,G1,s,e1,λvv ι1 H1 a1=>?_⟩
    refine⟨ι1,Z1,G1,o,Z2,G2,a1.ar.base,e2,λov ι2 H2 a2=>?_⟩
    refine⟨ι2,Z2,G2,i,_,_,a2.ar.base,e3,λiv ι3 H3 a3=>?_⟩
    have a:=a1.app (a2.app a3)
    rcases go a with q|⟨a',H4,ea,dp,q⟩
    ·exact q
    ·exfalso
     obtain⟨xs,hx⟩:=hl
     obtain⟨b,eb,ys,h1,r⟩:=a.ar.pk (j:=1) rfl rfl hx
     rw [ea] at eb;cases eb
     rcases dp with⟨_,_,h2,_⟩| ⟨_,_,_,h2,_⟩<;>(rw [h1] at h2;cases h2)
   ·right
    refine⟨ι,Z,G,v,Z1,G1,s,e1,λvv ι1 H1 a1=>?_⟩
    refine⟨ι1,Z1,G1,o,Z2,G2,a1.ar.base,e2,λov ι2 H2 a2=>?_⟩
    refine⟨ι2,Z2,G2,i,_,_,a2.ar.base,e3,λiv ι3 H3 a3=>?_⟩
    have a:=a1.app (a2.app a3)
    rcases go a with⟨p,xs,kk,j,eo,_,h1,_,_⟩| q
    ·exfalso
     unfold iQ at e4
     split at e4
     ·rename_i d a0 x hq
      cases hq
      split at e4
      ·rename_i ys hp;exact hl ⟨ys,hp⟩
      ·rename_i kvs hp
       obtain⟨b,eb,ws,h2,_⟩:=a.ar.pk (j:=1) rfl rfl hp
       rw [eo] at eb;cases eb
       rw [h1] at h2;cases h2
      ·rename_i kvs hp
       obtain⟨b,eb,ws,h2,_⟩:=a.ar.pk (j:=1) rfl rfl hp
       rw [eo] at eb;cases eb
       rw [h1] at h2;cases h2
      ·cases e4
     ·cases e4
    ·exact q
  ·cases eq
 ·cases eq
end
section
variable {X:Cx}{κ:Str->Addr}{a b e o:Expr}{es:List Expr}{fa fb fv:Mo Ev}{fs:Mo (List Ev)}{pos apos yd2 pos':Pos}{k:Nat}
def Fb(hr:y4d k X.A)(ho:LE X κ o fa)(ha:LA X κ (e::es) fs)(y1aa:‹attributeBase o "append" X.env (eval o X.env)=eval o X.env›)
  (y1b0:‹((backTo yd2 (starEach (e::es) X.env)).all (λx=>!x.1)&&(backToKw yd2 (keywordEach [] X.env)).all (λx=>x.1.isSome)&&decide ((e::es).length+([]:List Keyword).length+(if ([]:List Keyword).isEmpty then 0 else 1)<30))=true›)
  (y1b6:‹(apos.endLine == yd2.line)=true›) (hs:‹starEach (e::es) X.env=(false,eval e X.env)::starEach es X.env›) (y1b9:‹(backTo yd2 (starEach es X.env)).any (·.1)=false›):LE X κ (.Call (.Attribute o "append" apos) (e::es) [] yd2) (iP g8 fa fs):=.mk (aW (kW PySem.F.plainAttrs_list PySem.F.slot_list_append PySem.F.type_list_append tF ho.pe ha.pe y1aa y1b0 y1b6 hs y1b9) λ_ _ _=>vI E6)
def Fc(ho:LE X κ o fa)(y1aa:‹attributeBase o "pop" X.env (eval o X.env)=eval o X.env›)(y1b6:‹(apos.endLine == yd2.line)=true›):LE X κ (.Call (.Attribute o "pop" apos) [] [] yd2) (a6 fw fa):=.mk (aW (CA PySem.F.plainAttrs_list PySem.F.slot_list_pop PySem.F.type_list_pop CF ho.pe y1aa y1b6) λ_ _ _=>E5 E7 E8)
def vJ(hr:y4d k X.A)(ho:LE X κ o fa)(hi:LE X κ e fb)(hv:LE X κ a fv)(hs:‹swapsWith a (some (.Subscript o e pos')) pos.line X.env=pure false›)(hs1:‹swapsWithSole [.Subscript o e pos'] a pos.line X.env=pure false›)
  (hw:‹swappedStores [.Subscript o e pos'] a X.env=pure none›) (h1:‹(assignEach [.Subscript o e pos'] X.env).map (·.2)=[assign (.Subscript o e pos') X.env]›)
  (ha:∀v,assign (.Subscript o e pos') X.env v=(do
   let ov <- holding [v] (eval o X.env)
   let iv <- holding [v,ov] (eval e X.env)
   standAt pos'
   holding [v,ov,iv] (setItem ov iv v)
   release [v,ov,iv] []):=by intro _;rfl):LS X κ (.Assign [.Subscript o e pos'] a pos) (dU fa fb fv):=.mk (cT (uF (iB hv.pe (nP ho.pe hi.pe dM ha) hs1 hw h1) (Ca (jA hr) ho.pe hi.pe hv.pe hs)) λ_ _ _=>E9)
end
end
section
section
variable {X:Cx}{K:W.Frag}{κ:Str->Addr}{ι:List Addr}{H:Hp}{σ:L2.St}
abbrev Fd:Mo Ev:=rt (.v (.ow (.dic [])))
abbrev Fe:Mo Ev:=rt (.v (.ow (.dit [])))
abbrev vK(K:W.Frag)(κ:Str->Addr)(trs:List (TE×TE))(f:Mo (List Ev)):Prop:=∀σ H Q,fU K κ f σ H (λvs H1=>∀ps:List (V×V),vs=ps.flatMap (λp=>[p.1,p.2])->Q ps H1)->kQ trs σ H Q
abbrev pj:Mo (List Ev):=rt []
abbrev jR(fk fv:Mo Ev)(r:Mo (List Ev)):Mo (List Ev):=bd fk λa=>bd fv λb=>bd r λes=>rt (a::b::es)
def Ff:vK K κ [] pj:=λσ H Q h=>by
 obtain⟨ι,Z,G,es,Z',G',s,e,k⟩:=h
 cases e
 exact k _ _ _ (After.nil s) [] rfl
def Fg{fk fv:Mo Ev}{r:Mo (List Ev)}{trs:List (TE×TE)}(hr:vK K κ trs r):vK K κ ((aY K κ fk,aY K κ fv)::trs) (jR fk fv r):=λσ H Q h=>by
 obtain⟨ι,Z,G,es,Z',G',s,e,k⟩:=h
 obtain⟨x,Z1,G1,e1,e⟩:=bY e
 obtain⟨y,Z2,G2,e2,e⟩:=bY e
 obtain⟨zs,Z3,G3,e3,e⟩:=bY e
 cases e
 refine⟨ι,Z,G,x,Z1,G1,s,e1,λv ι1 H1 a1=>?_⟩
 refine⟨ι1,Z1,G1,y,Z2,G2,a1.ar.base,e2,λw ι2 H2 a2=>?_⟩
 refine hr _ _ _ ⟨ι2,Z2,G2,zs,_,_,a2.ar.base,e3,λvs ι3 H3 a3 ps hps=>?_⟩
 exact k _ _ _ (a1.app (a2.app a3)) ((v,w)::ps) (by rw [hps];rfl)
abbrev iR:List Ev->Option (List (aR×I))
 | []=>some []
 | .v (.im x)::.v (.im d)::r=>match fZ x,iR r with
  | some k,some ps=>some ((k,d)::ps)
  | _,_=>none
 | _=>none
abbrev iS(ps:List (aR×I)):List (aR×I):=ps.foldl (λacc kv=>dj acc kv.1 kv.2) []
abbrev pq(f:Mo (List Ev)):Mo Ev:=bd f λes Z G=>match iR es with
 | some ps=>if ps.length≤15 then some (.v (.ow (.dic (iS ps))),Z,G) else none
 | none=>none
theorem vL:∀{es:List Ev} {vs:List V} {ps:List (aR×I)},Paired (RpE K κ ι H) (tS es vs) (tD es)->es.length=vs.length->iR es=some ps ->
  ∃kvs:List (aR×V),vs=(kvs.map λkv=>(kV kv.1,kv.2)).flatMap (λp=>[p.1,p.2])/\kvs.map (·.1)=ps.map (·.1)/\y4e K ι H (kvs.map (·.2)) (ps.map (·.2))
 | [],[],_,_,_,h=>by cases h;exact⟨[],rfl,rfl,.nil⟩
 | [],_::_,_,_,l,_=>by cases l
 | _::_,[],_,_,l,_=>by cases l
 | [_],[_],_,_,_,h=>by
  unfold iR at h
  split at h
  ·rename_i hq;cases hq
  ·rename_i hq;cases hq
  ·cases h
 | [_],_::_::_,_,_,l,_=>by cases l
 | _::_::_,[_],_,_,l,_=>by cases l
 | a::b::es,v::w::vs,ps,p,l,h=>by
  unfold iR at h
  split at h
  ·rename_i hq;cases hq
  ·rename_i x d r hq
   cases hq
   split at h
   ·rename_i kk ps' hk hps
    cases h
    cases p with
    | cons p1 p =>
     cases p with
     | cons p2 p =>
      cases p1 with
      | im r1 =>
       cases p2 with
       | im r2 =>
        obtain⟨kvs,e1,e2,e3⟩:=vL p (by simpa using l) hps
        refine⟨(kk,w)::kvs,?_,?_,.cons r2 e3⟩
        ·rw [lX r1 hk,e1];rfl
        ·rw [z19,z19,e2]
   ·cases h
  ·cases h
theorem vM:∀{kvs:List (aR×V)} {ps:List (aR×I)} {acc:List (aR×V)} {ac:List (aR×I)},kvs.map (·.1)=ps.map (·.1)->y4e K ι H (kvs.map (·.2)) (ps.map (·.2))->acc.map (·.1)=ac.map (·.1)->y4e K ι H (acc.map (·.2)) (ac.map (·.2)) ->
  (gT acc kvs).map (·.1)=(ps.foldl (λacc kv=>dj acc kv.1 kv.2) ac).map (·.1)/\y4e K ι H ((gT acc kvs).map (·.2)) ((ps.foldl (λacc kv=>dj acc kv.1 kv.2) ac).map (·.2))
 | [],[],_,_,_,_,e,r=>⟨e,r⟩
 | [],_::_,_,_,e,_,_,_=>by cases e
 | _::_,[],_,_,e,_,_,_=>by cases e
 | (k,v)::kvs,(k',d)::ps,acc,ac,e,r,e',r'=>by
  simp only [z19,List.cons.injEq] at e
  obtain⟨e1,e2⟩:=e
  subst e1
  cases r with
  | cons r rs =>
   obtain⟨p,q⟩:=o5 r e' r'
   have:=vM e2 rs p q
   exact this
def Fh{trs:List (TE×TE)}{f:Mo (List Ev)}{Q:VK}(hf:vK K κ trs f)(h:aY K κ (pq f) σ H Q):sL trs σ H Q:=by
 obtain⟨ι,Z,G,e,Z',G',s,eq,k⟩:=h
 obtain⟨es,Z1,G1,e1,eq1⟩:=bY eq
 intro p hp
 split at eq1
 ·rename_i ps hps
  split at eq1
  ·rename_i hl
   cases eq1
   have sp:=s.y3ae (m:=.dic []) hp ⟨[],bf,rfl,.nil⟩
   have st0:=Step.y233 (ι:=ι) (Z:=Z) (o:=.dK []) (m:=.dic []) s.len hp
   refine hf _ _ _ ⟨ι,Z,G,es,_,_,sp.pop s.len,e1,λvs ι1 H1 a qs hqs=>?_⟩
   obtain⟨j1,j2⟩:=SR.join (Z1:=Z) sp s.len a.ar.sr a.ar.l a.st
   have hp1:H1 p=some (.dK []):=by
    refine a.st.keep p _ bf λhm=>?_
    obtain⟨o,ho,_⟩:=s.mu hm
    rw [hp] at ho;cases ho
   obtain⟨kvs,ev,ek,rk⟩:=vL (cc a.ar.l a.ar.sr.sl).2 a.ar.len hps
   have hq:qs=kvs.map λkv=>(kV kv.1,kv.2):=by
    rw [ev] at hqs
    have inj:∀{l1 l2:List (V×V)},l1.flatMap (λp=>[p.1,p.2])=l2.flatMap (λp=>[p.1,p.2])->l1=l2:=by
     intro l1
     induction l1 with
     | nil=>intro l2 h;cases l2 with
      | nil=>rfl
      | cons x l2=>simp at h
     | cons x l1 ih=>intro l2 h;cases l2 with
      | nil=>simp at h
      | cons y l2 =>
       simp only [List.flatMap_cons,z36,List.nil_append,List.cons.injEq] at h
       obtain⟨h1,h2,h3⟩:=h
       rw [ih h3,Prod.ext h1 h2]
    exact (inj hqs).symm
   have hkl:kvs.length≤15:=by have:=congrArg List.length ek;simp at this;lia
   refine⟨hp1,kvs,hq,hkl,?_⟩
   have l1:=a.ar.l
   have i1:(σ++([some (V.ref p)]++tS es vs))[σ.length]?=some (some (.ref p)):=by rw [z23 (z12 _),Nat.sub_self];rfl
   have i2:(Z'++([some (Vl.ow (.dic []))]++tD es))[σ.length]?=some (some (.ow (.dic []))):=by rw [l1,z23 (z12 _),Nat.sub_self];rfl
   obtain⟨q1,q2⟩:=j1.poke i1 i2 (m':=.dic (iS ps)) (λ_ kp=>by
    obtain⟨z1,z2⟩:=vM (acc:=[]) (ac:=[]) ek rk rfl .nil
    exact⟨_,bf,z1,z2.mono (bV.refl _) kp⟩)
   have e5:∀(Zx:De),σ.length=Zx.length->(Zx++([some (Vl.ow (.dic []))]++tD es)).set σ.length (some (.ow (.dic (iS ps))))=(Zx++[some (.ow (.dic (iS ps)))])++tD es:=λZx l=>by
    rw [l,List.set_append_right _ _ (z12 _),Nat.sub_self];simp
   rw [e5 _ l1,<- z2f σ] at q1
   rw [e5 _ l1,<- z2f σ] at q2
   rw [<- z2f σ] at j2
   have l2:(σ++[some (V.ref p)]).length=(Z'++[some (Vl.ow (.dic (iS ps)))]).length:=by rw [zc,zc,l1];rfl
   refine k _ _ _ ⟨⟨l1,q1.pop l2,.cons (λ_ h=>by cases h) .nil⟩,?_⟩
   exact ((st0.trans j2).trans q2).sub λx hx=>cf l2 hx
  ·cases eq1
 ·cases eq1
abbrev vN(fa fb:Mo Ev):Mo Ev:=bd fa λe=>λZ G=>match cH e Z G with
 | some (true,_,_)=>some (e,Z,G)
 | some (false,_,_)=>fb Z G
 | none=>none
abbrev vO(K:W.Frag)(ta tb:TE):TE:=λσ H Q=>ta σ H λx H1=>∃c,nX K x H1 c/\if c=true then Q x H1 else tb σ H1 Q
def Fi{a b:Expr}{aG:List Expr}{pos:Pos}{ta tb:TE}(ha:PE X a ta)(hb:PE X (.BoolOp .Or (b::aG) pos) tb):PE X (.BoolOp .Or (a::b::aG) pos) (vO X.K ta tb):=by
 intro pins s σ H Q I h
 refine BoolOp_or (aN (ha pins s σ H _ I h) λv s1 zz=>?_)
 obtain⟨x,H1,I1,r1,c,hc,q1⟩:=zz
 refine aN (nY pins s1 σ H1 x v (λb H'=>H'=H1/\b=c) I1 r1 ⟨c,hc,rfl,rfl⟩) λb s2 zz=>?_
 obtain⟨H2,I2,e1,e2⟩:=zz
 subst e1;subst e2
 cases b with
 | true=>rw [if_pos rfl] at q1;exact⟨x,_,I2,r1,q1⟩
 | false=>rw [if_neg z13] at q1;exact hb pins s2 σ _ Q I2 q1
def Fj{fa fb:Mo Ev}{Q:VK}(h:aY K κ (vN fa fb) σ H Q):vO K (aY K κ fa) (aY K κ fb) σ H Q:=by
 obtain⟨ι,Z,G,e,Z',G',s,eq,k⟩:=h
 obtain⟨x,Z1,G1,e1,eq1⟩:=bY eq
 refine⟨ι,Z,G,x,Z1,G1,s,e1,λv ι1 H1 a=>?_⟩
 split at eq1
 ·rename_i d1 d2 ht
  cases eq1
  obtain⟨t,_,_⟩:=jG a.ar ht
  exact⟨true,t,by rw [if_pos rfl];exact k _ _ _ a⟩
 ·rename_i d1 d2 ht
  obtain⟨t,_,_⟩:=jG a.ar ht
  obtain⟨p,q⟩:=a.drop
  exact⟨false,t,by rw [if_neg z13];exact aY.go p q eq1 k⟩
 ·cases eq1
end
section
variable {X:Cx}{κ:Str->Addr}{a b e o:Expr}{es:List Expr}{fa fb fv:Mo Ev}{fs:Mo (List Ev)}{p pos apos:Pos}{k n:Nat}
abbrev LP(X:Cx)(κ:Str->Addr)(pos:Pos)(keys:List (Option Expr))(vals:List Expr)(f:Mo (List Ev)):Prop:=∃trs,sI X pos keys vals trs/\vK X.K κ trs f
def vP:LP X κ pos [] [] pj:=⟨[],Cc,Ff⟩
def ye0 (hk:LE X κ a fa)(hv:LE X κ b fb)(hr:LP X κ pos ks vs fs):LP X κ pos (some a::ks) (b::vs) (jR fa fb fs):=let ⟨trs,h1,h2⟩:=hr;⟨_,Cd hk.pe hv.pe h1,Fg h2⟩
def vQ (hr:y4d k X.A)(h:LP X κ pos ks vs fs)(y1a6:‹ks.all (·.isSome)=true›)(hl:‹ks.length=vs.length›)(h0:ks≠[]:=by exact (λz=>nomatch z))(h15:ks.length≤15:=by decide):LE X κ (.Dict ks vs pos) (pq fs):=.mk (by
 obtain⟨trs,h1,h2⟩:=h
 exact aW (Ce h1 y1a6 hl h0 h15) λ_ _ _=>Fh h2)
def vR{op}(h:LE X κ a fa):LE X κ (.BoolOp op [a] pos) fa:=.mk (L2.y331 h.pe)
def Fm{aG:List Expr}(ha:LE X κ a fa)(hb:LE X κ (.BoolOp .Or (b::aG) pos) fb):LE X κ (.BoolOp .Or (a::b::aG) pos) (vN fa fb):=.mk (aW (Fi ha.pe hb.pe) λ_ _ _=>Fj)
def Fo{K:W.Frag}{σ:L2.St}{H:Hp}{fn:FF}{Q:VK}(h:aY K κ (bd fs (aA n fn)) σ H Q):eV (aP K κ n fn) [] E0 (fU K κ fs) σ H Q:=by
 have:=dP (DI (E:=E0)) h
 unfold eV
 simpa only [z10] using this
def vS (h:bO X.prog X.w X.K X.mg X.base x k ps (aP X.K κ n fn))(hr:y4d k X.A)(ha:LA X κ (e::es) fs)(hg:‹Gl X x›)
  (hdb:(x == ("__debug__" : Str))=false:=by decide) (he:‹fM X e es›) (hpl:‹eW X pos es›):LE X κ (.Call (.Name x p) (e::es) [] pos) (bd fs (aA n fn)):=.mk (aW (C8 h hr hg ha.pe hdb he hpl) λ_ _ _=>Fo)
def vT (hN:X.N.Nodup)(h:LE X κ a fa)(hi:‹X.N[i]?=some x›)(hx:qD X.env.scope x:=by first|exact Or.inl rfl|exact Or.inr rfl)(hs:‹swapsWith a (some (.Name x pos')) pos.line X.env=pure false›)(hf:X.fn x=true∨X.env.scope.names.lookup x=some .local:=by first|exact .inl rfl|exact .inr rfl|assumption):LS X κ (.Assign [.Name x pos'] a pos) (aM fa (aF i)):=.mk (cT (Bv hN hi hx h.pe hs hf) λD σ H q=>by
 obtain⟨ι,Z,G,e,Z',G',s,eq,kk⟩:=oI q
 exact⟨ι,Z,G,e,Z',G',s,eq,λv ι' H' a=>oH (kk v ι' H' a)⟩)
end
end
section
section
variable {X:Cx}{K:W.Frag}{κ:Str->Addr}{ι:List Addr}{H:Hp}{σ:L2.St}
abbrev cJ:List Ev->De->List M->Option Wk:=λes Z G=>match uv es Z G with
 | some w=>some w
 | none=>DL es Z G
def vU    (h:cG fa p Z G=some (w,es,Z1,G1))(hpq:p es Z1 G1=some w->q es Z1 G1=some w):cG fa q Z G=some (w,es,Z1,G1):=by
 unfold cG at h ⊢
 split at h
 ·rename_i es' Z' G' e
  cases hp:p es' Z' G' with
  | none=>rw [hp] at h;cases h
  | some w' =>
   rw [hp] at h
   cases h
   rw [hpq hp];rfl
 ·cases h
def Fp{f:Mo Ev}{R:It->Hp->Prop}(h:nr K κ (cG (one f) cJ) σ H R):rL K (aY K κ f) σ H R∨rN K (aY K κ f) σ H R:=by
 obtain⟨ι,Z,G,w,es,Z',G',s,eq,k⟩:=h
 by_cases hq:uv es Z' G'=some w
 ·left
  refine lJ (lI DN ⟨ι,Z,G,w,es,Z',G',s,vU eq λ_=>hq,k⟩)
 ·right
  refine lJ (lI DO ⟨ι,Z,G,w,es,Z',G',s,vU eq λhs=>?_,k⟩)
  unfold cJ at hs
  split at hs
  ·rename_i w' hw
   exact absurd (hw.trans hs) hq
  ·exact hs
abbrev bS:Mo Bool:=rt true
def Fq{Q:Bool->Hp->Prop}(h:c7 K κ bS σ H Q):tM σ H Q:=by
 obtain⟨ι,Z,G,b,Z',G',s,eq,k⟩:=h
 cases eq
 exact k _ _ s (Step.refl _ _ _)
end
section
variable {X:Cx}{κ:Str->Addr}{a b c e tg:Expr}{es:List Expr}{fa fb:Mo Ev}{fs:Mo (List Ev)}{fc:Mo Bool}{p pos p0:Pos}{k k0:Nat}{elts:List Expr}
def vV(h:LE X κ a fa):LI X κ tg a (cG (one fa) cJ):=.mk (oR (uG (BB h.pe) (BC h.pe)) λ_ _ _=>Fp)
def Fs(hm:X.mg "range" = none)(ha:LA X κ [a] fs)(hg:‹Gl X "range"›)(hs:‹starEach [a] X.env=[(false,eval a X.env)]›):LI X κ tg (.Call (.Name "range" p) [a] [] pos) (cG fs ff):=.mk (oR (BE hg hm ha.pe hs) λ_ _ _ q=>lI DK q)
@[irreducible] noncomputable def kq(X:Cx)(κ:Str->Addr)(ifs:List Expr)(f:Mo Bool):Prop:=nc X ifs (c7 X.K κ f)
def kq.mk  (h:nc X ifs (c7 X.K κ f)):kq X κ ifs f:=by unfold kq;exact h
def kq.pe  (h:kq X κ ifs f):nc X ifs (c7 X.K κ f):=by unfold kq at h;exact h
def vW:kq X κ [] bS:=.mk (λpins s σ H Q I h=>CO pins s σ H Q I (Fq h))
def vX(h:LT X κ c fc):kq X κ [c] fc:=.mk (CP h.pe)
variable {scope:Scope}{x y:Str}{ys:List Str}{ix:List Nat}{ifs:List Expr}{fi:IF}{px py:Pos}
def Ft(O:yc X scope [x] ys ix)(hi:LI X κ (.Name x px) a fi)(hf:∀z,kq (dN X scope ([x]++ys) z) κ ifs fc)(he:∀z,LE (dN X scope ([x]++ys) z) κ e fb)(hc:‹X.calm=true›)(hs:∀v,foldedSetIterable a X.env v=pure v:=by intro _;rfl):LE X κ (.ListComp e [⟨.Name x px,a,ifs,0⟩] scope pos) (fg fi ix c1 fc fb):=.mk (aW (Dd O hc hi.pe (λz=>tT O rfl) (λz=>(hf z).pe) (λz=>(he z).pe) hs) λ_ _ _=>uA (λ_=>uz))
def Fu (O:yc X scope [x] ys ix)(hi:LI X κ (.Name x px) a fi)(hf:∀z,kq (dN X scope ([x]++ys) z) κ ifs fc)(he:∀z,LE (dN X scope ([x]++ys) z) κ e fb)(hN:X.N.Nodup)(hy:‹X.N[i]?=some y›)(hl:‹X.env.scope.names.lookup y=some .local›)(hc:‹X.calm=true›)
  (hsw:‹swapsWith (.ListComp e [⟨.Name x px,a,ifs,0⟩] scope pos) (some (.Name y py)) spos.line X.env=pure true›) (hs:∀v,foldedSetIterable a X.env v=pure v:=by intro _;rfl):LS X κ (.Assign [.Name y py] (.ListComp e [⟨.Name x px,a,ifs,0⟩] scope pos) spos) (aM (fg fi ix c1 fc fb) (aF i)):=.mk (cT (Dl O hc hN hy hl hi.pe (λz=>tT O rfl) (λz=>(hf z).pe) (λz=>(he z).pe) hsw hs) λD σ H q=>by
  obtain⟨ι,Z,G,e,Z',G',s,eq,kk⟩:=oI q
  exact uA (λ_=>uz) ⟨ι,Z,G,e,Z',G',s,eq,λv ι' H' a=>oH (kk v ι' H' a)⟩)
end
section
variable {P:Program}{w:World}{K:W.Frag}{mg:Str->Option Value}{base:Heap}{κ:Str->Addr}
def bz{x qual:Str}{st:Stmt}{f:Addr}{fd:FuncData}{N ps:List Str}{k n r:Nat}{body:SF}(F:Fun K x qual st f fd)(S:y40 N ps (bo st))(hn:ps.length=n)(hN:N.length=n+r)
  (hb:∀(cdv:Value) (A:Around) (outer:List Env) (s:Shared) (H:Hp) (E:XK),y4d k (A.deeper (envOfC qual (bo st) s.heap.objs.size f cdv))->fX (eh bG P w K mg base N qual (bo st) f cdv A outer s H E).nox κ (jy st) body) :
  y3f P w K mg base bG (k+1) f fd ps (aP K κ n (aT n r body)):=by
 refine F.ok S (λvs H Q E h=>by rw [(lG h).1,hn]) (λcdv A outer s H vs Q E hr h=>⟨_,(hb cdv A outer s H E hr).pe,?_⟩)
 obtain⟨l,q⟩:=lG h
 unfold L2.start
 have e:N.length-vs.length=r:=by lia
 rw [e]
 exact q
def lZ{f:Addr}{fd:FuncData}{ps:List Str}{k n:Nat}:y3f P w K mg base bG k f fd ps (aP K κ n λ_ _=>none) :=
 ⟨λvs H Q E h=>(by obtain⟨_,_,_,_,_,_,_,e,_⟩:=h;cases e),λ_ _ _ _ _ _ _ _ _ _ _ _ _ h=>(by obtain⟨_,_,_,_,_,_,_,e,_⟩:=h;cases e)⟩
end
end
section
section
variable {K:W.Frag}{κ:Str->Addr}{ι:List Addr}{H:Hp}
abbrev vY:List I->Option (List Int)
 | []=>some []
 | .int i::r=>(vY r).map (i::·)
 | _=>none
abbrev dB:List I->Option (List Str)
 | []=>some []
 | .str i::r=>(dB r).map (i::·)
 | _=>none
theorem l6:∀ns:List Str,dB (ns.map I.str)=some ns
 | []=>rfl
 | n::ns=>by rw [z19,dB,l6 ns];rfl
theorem pw:∀{xs:List I} {vs:List V} {ns:List Str},y4e K ι H vs xs->dB xs=some ns->vs=ns.map V.str
 | [],_,_,r,h=>by cases r;cases h;rfl
 | x::xs,_,_,r,h=>by
  cases r with
  | cons r1 r2 =>
   cases r1 with
   | str i =>
    rw [dB] at h
    cases e:dB xs with
    | none=>rw [e] at h;cases h
    | some ms=>rw [e] at h;cases h;rw [z19,<- pw r2 e]
   | _=>cases h
abbrev Ky:List Ev->Mo Ev:=λes Z G=>match es with
 | [a]=>if eG a then match sq Z G a with
  | some xs=>match vY xs with
   | some ns=>some (.v (.im (.int ns.sum)),Z,G)
   | none=>none
  | none=>none
  else none
 | _=>none
abbrev dC:List Ev->Mo Ev:=λes Z G=>match es with
 | [.v (.im (.bl b))]=>some (.v (.im (.int (if b then 1 else 0))),Z,G)
 | [.v (.im (.int i))]=>some (.v (.im (.int i)),Z,G)
 | _=>none
def Fv:aD K κ (λxs H Q=>(∃i,xs=[.int i]/\Q (.int i) H)∨∃k,xs=[.bl k]/\Q (.int (if k then 1 else 0)) H) dC:=by
 intro ι H σ Z G es vs e Z' G' Q a h k
 unfold dC at h
 split at h
 ·obtain⟨v,rfl⟩:=bP a.len
  cases k9 (a.im (j:=0) rfl rfl)
  exact .inr ⟨_,rfl,k _ _ _ (bI h (aS a (.int _)))⟩
 ·obtain⟨v,rfl⟩:=bP a.len
  cases cF (a.im (j:=0) rfl rfl)
  exact .inl ⟨_,rfl,k _ _ _ (bI h (aS a (.int _)))⟩
 ·cases h
abbrev pz:List I->Option (List Bool)
 | []=>some []
 | .bl i::r=>(pz r).map (i::·)
 | _=>none
theorem Fw:∀ns:List Bool,pz (ns.map I.bl)=some ns
 | []=>rfl
 | n::ns=>by rw [z19,pz,Fw ns];rfl
theorem y8f:∀{xs:List I} {vs:List V} {ns:List Bool},y4e K ι H vs xs->pz xs=some ns->vs=ns.map V.bl
 | [],_,_,r,h=>by cases r;cases h;rfl
 | x::xs,_,_,r,h=>by
  cases r with
  | cons r1 r2 =>
   cases r1 with
   | bl i =>
    rw [pz] at h
    cases e:pz xs with
    | none=>rw [e] at h;cases h
    | some ms=>rw [e] at h;cases h;rw [z19,<- y8f r2 e]
   | _=>cases h
abbrev je:List Ev->Mo Ev:=λes Z G=>match es with
 | [a]=>match pk Z G a with
  | some (.lst xs)=>match pz xs with
   | some bs=>some (.v (.im (.bl (bs.all id))),Z,G)
   | none=>none
  | _=>none
 | _=>none
def Fx:aD K κ (λxs H Q=>∃(p:Addr) (bs:List Bool),xs=[.ref p]/\bu K H p (bs.map V.bl)/\Q (.bl (bs.all id)) H) je:=by
 intro ι H σ Z G es vs e Z' G' Q a h k
 unfold je at h
 split at h
 ·rename_i x
  split at h
  ·rename_i xs hx
   split at h
   ·rename_i ns hn
    obtain⟨v,rfl⟩:=bP a.len
    obtain⟨p,e1,ys,h1,r⟩:=a.pk (j:=0) rfl rfl hx
    subst e1
    exact⟨p,ns,rfl,by rw [<- y8f r hn];exact bu.of h1,k _ _ _ (bI h (aS a (.bl _)))⟩
   ·cases h
  ·cases h
 ·cases h
abbrev AA:Ev->Bool
 | .v (.im (.str _))=>true
 | _=>false
abbrev fO(p:List Ev->Mo Ev)(fo:Mo Ev)(fa:Mo (List Ev)):Mo Ev:=bd fo λe=>λZ G=>if AA e then bd fa (λes=>p (e::es)) Z G else none
def l7{σ:L2.St}{p:List Ev->Mo Ev}{fo:Mo Ev}{fa:Mo (List Ev)}{r:V->List V->Hp->VK->Prop}{Q:VK}(hp:aD K κ (rM r) p)(h:aY K κ (fO p fo fa) σ H Q):Cz K "str" r (aY K κ fo) (fU K κ fa) σ H Q:=by
 obtain⟨ι,Z,G,e,Z',G',s,eq,k⟩:=h
 obtain⟨x,Z1,G1,e1,eq1⟩:=bY eq
 split at eq1
 ·rename_i hl
  obtain⟨es,Z2,G2,e2,eq2⟩:=bY eq1
  refine⟨ι,Z,G,x,Z1,G1,s,e1,λv ι1 H1 a1=>⟨?_,?_⟩⟩
  ·unfold AA at hl
   split at hl
   ·cases bJ (a1.ar.im (j:=0) rfl rfl);rfl
   ·cases hl
  refine⟨ι1,Z1,G1,es,Z2,G2,a1.ar.base,e2,λvs ι2 H2 a2=>?_⟩
  have a:=a1.app a2
  obtain⟨y,ys,ey,q⟩:=hp _ _ _ _ _ _ _ _ _ _ Q a.ar eq2 λv ι3 H3 d=>k _ _ _ (a.then d)
  cases ey
  exact q
 ·cases eq1
abbrev dk:List Ev->Mo Ev:=λes Z G=>match es with
 | [.v (.im (.str z)),a]=>match pk Z G a with
  | some (.lst xs)=>match dB xs with
   | some ys=>if (ys.map (·.length)).sum+ys.length*z.length≤1000000 then some (.v (.im (.str (PySem.Txt.join z ys))),Z,G) else none
   | none=>none
  | _=>none
 | _=>none
def Fy:aD K κ (rM (ng K)) dk:=by
 intro ι H σ Z G es vs e Z' G' Q a h k
 unfold dk at h
 split at h
 ·rename_i z x
  split at h
  ·rename_i xs hx
   split at h
   ·rename_i ys hn
    split at h
    ·rename_i hz
     obtain⟨v,u,rfl⟩:=bH a.len
     cases bJ (a.im (j:=0) rfl rfl)
     obtain⟨p,e1,us,h1,r⟩:=a.pk (j:=1) rfl rfl hx
     subst e1
     exact⟨_,_,rfl,z,p,ys,rfl,rfl,by rw [<- pw r hn];exact bu.of h1,z1c hz (by decide),k _ _ _ (bI h (aS a (.str _)))⟩
    ·cases h
   ·cases h
  ·cases h
 ·cases h
end
section
variable {X:Cx}{K:W.Frag}{κ:Str->Addr}{ι:List Addr}{H:Hp}{pins:List (Addr×Obj)}{σ:L2.St}{s:Shared}
end
section
variable {X:Cx}{κ:Str->Addr}{a b e o:Expr}{es:List Expr}{fa fb:Mo Ev}{fs:Mo (List Ev)}{p pos apos yd2:Pos}{k:Nat}
def vZ(hr:y4d k X.A)(hm:X.mg "all" = none)(ha:LA X κ (e::es) fs)(hg:‹Gl X "all"›)(hc:‹X.calm=true›)(he:‹fM X e es›)(hpl:‹eW X pos es›):LE X κ (.Call (.Name "all" p) (e::es) [] pos) (bd fs je):=.mk (aW (eX (ya2 hc) hg hm PyProof.Rows.boot_all ha.pe (by decide) (by decide) he hpl) λ_ _ _ q=>dP Fx q)
def Fz(hr:y4d k X.A)(hm:X.mg "int" = none)(ha:LA X κ (e::es) fs)(hg:‹Gl X "int"›)(he:‹fM X e es›)(hpl:‹eW X pos es›):LE X κ (.Call (.Name "int" p) (e::es) [] pos) (bd fs dC):=.mk (aW (n5 ya4 hg hm PyProof.Rows.boot_int ha.pe (by decide) (by decide) he hpl) λ_ _ _ q=>dP Fv q)
def FC(hr:y4d k X.A)(ho:LE X κ o fa)(ha:LA X κ (e::es) fs)(y1aa:‹attributeBase o "join" X.env (eval o X.env)=eval o X.env›)
  (y1b0:‹((backTo yd2 (starEach (e::es) X.env)).all (λx=>!x.1)&&(backToKw yd2 (keywordEach [] X.env)).all (λx=>x.1.isSome)&&decide ((e::es).length+([]:List Keyword).length+(if ([]:List Keyword).isEmpty then 0 else 1)<30))=true›)
  (y1b6:‹(apos.endLine == yd2.line)=true›) (hs:‹starEach (e::es) X.env=(false,eval e X.env)::starEach es X.env›) (y1b9:‹(backTo yd2 (starEach es X.env)).any (·.1)=false›):LE X κ (.Call (.Attribute o "join" apos) (e::es) [] yd2) (fO dk fa fs):=.mk (aW (kW PySem.F.plainAttrs_str PySem.F.slot_str_join PySem.F.type_str_join CZ ho.pe ha.pe y1aa y1b0 y1b6 hs y1b9) λ_ _ _=>l7 Fy)
end
end
end B
set_option maxHeartbeats 4000000
namespace PySem
open PySem.Spec PyProof.Rows
section
variable {prog:Program}{w:World}{K:Type}[DecidableEq K]{knd:KeyKind prog w K}{A:Around}{E:Value->Shared->Prop}{R:Result->Shared->Prop}
end
end PySem
set_option maxHeartbeats 400000
namespace L2
open PySem PySem.Spec PyProof.Rows
section
section
variable {X:Cx}{pins:List (Addr×Obj)}{σ:L2.St}{H:Hp}{s:Shared}
end
end
end L2
namespace B
open PySem PySem.Spec PyProof.Rows L2
section
section
variable {K:W.Frag}{κ:Str->Addr}{ι:List Addr}{H:Hp}
end
section
variable {X:Cx}{κ:Str->Addr}{e:Expr}{es:List Expr}{fs:Mo (List Ev)}{p pos:Pos}{k:Nat}
end
def rm (r:y4d k A)(h:j≤k:=by first|decide|lia):y4d j A:=r.mono h
end
end B
set_option maxHeartbeats 4000000
namespace PySem
open PySem.Spec PyProof.Rows
section
variable {prog:Program}{w:World}{K:Type}[DecidableEq K]{knd:KeyKind prog w K}{A:Around}{E:Value->Shared->Prop}{R:Result->Shared->Prop}
end
end PySem
set_option maxHeartbeats 400000
namespace L2
open PySem PySem.Spec PyProof.Rows
section
section
variable {X:Cx}{pins:List (Addr×Obj)}{σ:L2.St}{H:Hp}{s:Shared}
end
end
end L2
namespace B
open PySem PySem.Spec PyProof.Rows L2
section
section
variable {K:W.Frag}{κ:Str->Addr}{ι:List Addr}{H:Hp}
end
section
variable {X:Cx}{κ:Str->Addr}{a b e o:Expr}{es:List Expr}{fa fb:Mo Ev}{fs:Mo (List Ev)}{p pos apos yd2:Pos}{k:Nat}
def FD (hg:Gl X x)(hm:X.mg x=none)(hv:bootBuiltins x=some (.type n))(hn:x≠"__name__":=by decide)(hd:(x == ("__debug__" : Str))=false:=by decide):LE X κ (.Name x pos) (ag (.ty n)):=.mk (aW (nG (v:=.ty n) hg hm hv rfl hn hd) λ_ _ _=>iH λ_ _=>.ty _)
end
def a9 (h1:‹sc.kind=.function›)(h2:‹sc.isCoroutine=false›)(h3:‹sc.isGenerator=false›)(h4:N.Nodup:=by decide +kernel)(h5:‹N.take P.length=P›)(h6:∀x∈P,sc.names.lookup x=some .local∨sc.names.lookup x=some .cell:=by decide +kernel)(h7:∀y∈sc.names,y.2≠.free:=by decide +kernel):y40 N P sc:=⟨h1,h2,h3,h4,h5,h6,h7⟩
section
variable {P:Program}{w:World}{K:W.Frag}{mg:Str->Option Value}{base:Heap}{k:Nat}{ps:List Str}{sp:Sp}{f:Addr}{fd:FuncData}{C:Addr}{x q m:Str}{st:Stmt}
end
def yc2  (hsc:X.env.scope=osc)(hN:X.N=N)(h:C9 osc N scope xs (ix.map λi=>N.getD i "") ix=true):yc X scope xs (ix.map λi=>N.getD i "") ix:=yc6 hsc hN h
end
section
section
end
noncomputable abbrev nOf{N P:List Str}{sc:Scope}(_:y40 N P sc):List Str:=N
noncomputable abbrev wa{N P:List Str}{sc:Scope}(_:y40 N P sc):Scope:=sc
end
end B
set_option maxHeartbeats 4000000
namespace PySem
open PySem.Spec PyProof.Rows
section
variable {prog:Program}{w:World}{K:Type}[DecidableEq K]{knd:HeapKind prog w K}{A:Around}{E:Value->Shared->Prop}{s:Shared}
end
section
variable {K:Type}[DecidableEq K]
end
section
variable {prog:Program}{w:World}{K:Type}[DecidableEq K]{knd:HeapKind prog w K}{A:Around}{E:Value->Shared->Prop}{R:Result->Shared->Prop}
end
section
variable {prog:Program}{w:World}{K:Type}[DecidableEq K]{knd:HeapKind prog w K}{A:Around}{E:Value->Shared->Prop}{s:Shared}
end
section
variable {prog:Program}{w:World}{K:Type}[DecidableEq K]{knd:HeapKind prog w K}{A:Around}{E:Value->Shared->Prop}{s:Shared}
end
section
variable {prog:Program}{w:World}{K:Type}[DecidableEq K]{knd:KeyKind prog w K}{A:Around}{E:Value->Shared->Prop}{s:Shared}
end
end PySem
set_option maxHeartbeats 400000
namespace L2
open PySem PySem.Spec PyProof.Rows
section
section
abbrev FE(kvs more:List (List aR×V)):List (List aR×V):=more.foldl (λacc kv=>b5 acc kv.1 kv.2) kvs
abbrev FG(w:World)(k:List aR):Int:=reduceHash (Builtin.Tuple.tupleHashOf (k.map (qW w)))
abbrev Kz(w:World):V->List V->Hp->VK->Prop:=λx vs H Q=>∃(a b:Addr) (kvs more:List (List aR×V)),x=.ref a/\vs=[.ref b]/\a≠b/\H a=some (.dT kvs)/\H b=some (.dT more)/\(kvs=[]->(more.map λp=>FG w p.1).Nodup)/\kvs.length+more.length≤1000000/\Q .non (upd H a (.dT (FE kvs more)))
end
end
end L2
namespace PySem
end PySem
namespace L2
open PySem PySem.Spec PyProof.Rows
section
section
variable {X:Cx}{pins:List (Addr×Obj)}{σ:L2.St}{H:Hp}{s:Shared}
end
end
end L2
namespace B
open PySem PySem.Spec PyProof.Rows L2
section
variable {X:Cx}{K:W.Frag}{κ:Str->Addr}{ι:List Addr}{H H':Hp}{σ:L2.St}{Z:De}{G:List M}
structure Kw(H H':Hp):Prop where
 tup:∀a xs,H a=some (.tup xs)->H' a=some (.tup xs)
 frz:∀a o u,(∀ws,u≠HO.dK ws)->H a=some (.frz o u)->H' a=some (.frz o u)
end
end B
namespace L2
open PySem PySem.Spec PyProof.Rows
section
section
end
end
end L2
namespace B
open PySem PySem.Spec PyProof.Rows L2
section
section
variable {X:Cx}{K:W.Frag}{κ:Str->Addr}{ι:List Addr}{H:Hp}{σ:L2.St}
abbrev fz(fa fb:Mo Ev):Mo Ev:=bd fa λe=>λZ G=>match cH e Z G with
 | some (false,_,_)=>some (e,Z,G)
 | some (true,_,_)=>fb Z G
 | none=>none
abbrev wb(K:W.Frag)(ta tb:TE):TE:=λσ H Q=>ta σ H λx H1=>∃c,nX K x H1 c/\if c=true then tb σ H1 Q else Q x H1
def FH{a b:Expr}{aG:List Expr}{pos:Pos}{ta tb:TE}(ha:PE X a ta)(hb:PE X (.BoolOp .And (b::aG) pos) tb):PE X (.BoolOp .And (a::b::aG) pos) (wb X.K ta tb):=by
 intro pins s σ H Q I h
 refine BoolOp_and (aN (ha pins s σ H _ I h) λv s1 zz=>?_)
 obtain⟨x,H1,I1,r1,c,hc,q1⟩:=zz
 refine aN (nY pins s1 σ H1 x v (λb H'=>H'=H1/\b=c) I1 r1 ⟨c,hc,rfl,rfl⟩) λb s2 zz=>?_
 obtain⟨H2,I2,e1,e2⟩:=zz
 subst e1;subst e2
 cases b with
 | false=>rw [if_neg z13] at q1;exact⟨x,_,I2,r1,q1⟩
 | true=>rw [if_pos rfl] at q1;exact hb pins s2 σ _ Q I2 q1
def FI{fa fb:Mo Ev}{Q:VK}(h:aY K κ (fz fa fb) σ H Q):wb K (aY K κ fa) (aY K κ fb) σ H Q:=by
 obtain⟨ι,Z,G,e,Z',G',s,eq,k⟩:=h
 obtain⟨x,Z1,G1,e1,eq1⟩:=bY eq
 refine⟨ι,Z,G,x,Z1,G1,s,e1,λv ι1 H1 a=>?_⟩
 split at eq1
 ·rename_i d1 d2 ht
  cases eq1
  obtain⟨t,_,_⟩:=jG a.ar ht
  exact⟨false,t,by rw [if_neg z13];exact k _ _ _ a⟩
 ·rename_i d1 d2 ht
  obtain⟨t,_,_⟩:=jG a.ar ht
  obtain⟨p,q⟩:=a.drop
  exact⟨true,t,by rw [if_pos rfl];exact aY.go p q eq1 k⟩
 ·cases eq1
end
section
variable {X:Cx}{κ:Str->Addr}{a b e o:Expr}{es:List Expr}{ss:List Stmt}{fa fb fv:Mo Ev}{f:SF}{gf:GF}{fs:Mo (List Ev)}{p pos pos' apos yd2:Pos}{k:Nat}
def wc{aG:List Expr}(ha:LE X κ a fa)(hb:LE X κ (.BoolOp .And (b::aG) pos) fb):LE X κ (.BoolOp .And (a::b::aG) pos) (fz fa fb):=.mk (aW (FH ha.pe hb.pe) λ_ _ _=>FI)
def FJ (hg:Gl X x)(hm:∃t,X.mg x=some (.int i t))(hd:(x == ("__debug__" : Str))=false:=by decide):LE X κ (.Name x pos) (ag (.int i)):=by
 obtain⟨t,hm⟩:=hm
 exact oS (v:=.int i) hg hm ⟨t,rfl⟩ (λ_ _=>.int _) hd
end
end
end B
namespace PySem.W
open PySem PySem.Calls PyProof.Rows PySem.Spec
end PySem.W
namespace L2
open PySem PySem.Spec PyProof.Rows
section
section
variable {X:Cx}{pins:List (Addr×Obj)}{σ:L2.St}{H:Hp}{s:Shared}
end
end
end L2
namespace B
open PySem PySem.Spec PyProof.Rows L2
section
section
variable {X:Cx}{K:W.Frag}{κ:Str->Addr}{ι:List Addr}{H:Hp}{σ:L2.St}
end
section
variable {X:Cx}{κ:Str->Addr}{a b e o:Expr}{es:List Expr}{fa fb:Mo Ev}{fs:Mo (List Ev)}{p pos apos yd2:Pos}{k:Nat}
end
end
end B
set_option maxHeartbeats 4000000
namespace L2
open PySem PySem.Spec PyProof.Rows
section
section
variable {X:Cx}
abbrev we:V->List V->Hp->VK->Prop:=λx ys H Q=>∃(z y:Str) (i:Nat) (r:List Nat),x=.str z/\ys=[.str y]/\Builtin.Str.occurrences z y 0 z.length 1=i::r/\Q (.int i) H
def FK:sS X "str.index" we:=by
 intro pins s σ H x xs v us Q I rx r h
 obtain⟨z,y,i,aG,rfl,rfl,ho,q⟩:=h
 obtain⟨t,rfl⟩:=rx
 obtain⟨u,rfl,t',rfl⟩:=cb r
 exact call_gives PySem.F.slot_str_index (typeIs_str _ _ _) PySem.F.entry_str_index (PySem.F.args_str_index_2 _ _) (gives_str_index z y t t' i aG ho) ⟨.int i,H,I.tok _,⟨_,rfl⟩,q⟩
def yae:y6 X (.type "str") (λxs H Q=>(∃i:Int,xs=[.int i]/\i.natAbs.log2<1920/\Q (.str (toString i)) H)∨∃x,xs=[.str x]/\Q (.str x) H):=by
 intro pins s σ H xs us Q I r h
 rcases h with h|⟨x,rfl,q⟩
 ·exact yaf pins s σ H xs us Q I r h
 ·obtain⟨u,rfl,t,rfl⟩:=cb r
  exact PySem.P.str_of_str ⟨.str x,H,I,⟨_,rfl⟩,q⟩
abbrev qJ(K:W.Frag)(H:Hp)(x:V):Prop:=x=.non∨∃a ys,x=.ref a/\ba K H a ys
abbrev wg:V->Bool
 | .non=>true
 | _=>false
abbrev nU:Value->Bool
 | .none=>true
 | _=>false
def wj{H:Hp}{x:V}{u:Value}(r:ay x u)(h:qJ X.K H x):nU u=wg x:=by
 rcases h with rfl|⟨a,ys,rfl,_⟩
 ·cases r;rfl
 ·cases r;rfl
theorem y6d{H:Hp}:∀{xs:List V} {us:List Value},au xs us->(∀x∈xs,qJ X.K H x)->us.any nU=xs.any wg
 | _,_,.nil,_=>rfl
 | _,_,.cons r t,f=>by rw [List.any_cons,List.any_cons,wj r (f _ List.mem_cons_self),y6d t λy hy=>f y (z21 _ hy)]
def FL(hu:X.A.in1.units<cLine):bT X (compareOp .In) (λx y H Q=>x=.non/\∃p xs,y=.ref p/\bu X.K H p xs/\(∀z∈xs,qJ X.K H z)/\Q (.bl (xs.any wg)) H):=by
 intro pins s σ H x y v u Q I rx ry h
 obtain⟨rfl,p,xs,rfl,hq,fs,q⟩:=h
 cases rx;cases ry
 obtain⟨its,r,pl,hz⟩:=I.list hq
 have go:∀{xs:List V} {us:List Value},au xs us->(∀z∈xs,qJ X.K H z)->∀u∈us,SeqAt.EqAt X.A.in1 s u .none (nU u):=λ{xs us} r=>by
  induction r with
  | nil=>intro _ u hu;cases hu
  | cons r1 r2 ih =>
   intro f u hu'
   rcases z1d.mp hu' with rfl|hu'
   ·rcases f _ List.mem_cons_self with rfl|⟨a,ys,rfl,ht⟩
    ·cases r1;exact SeqAt.EqAt.same _
    ·cases r1
     obtain⟨is,_,pt,_⟩:=I.tuple ht
     exact SeqAt.EqAt.tuple_none pt hu
   ·exact ih (λy hy=>f y (z21 _ hy)) u hu'
 refine SeqAt.in_listAt nU pl.isList (λw hw=>go r fs w (by simpa using hw)) ⟨.bl _,H,I,rfl,?_⟩
 rw [show its.toArray.any nU=its.any nU by simp,y6d r fs]
 exact q
end
end
end L2
namespace PySem
open Builtin Builtin.Str PyProof.Rows
section
def yc1 (hh:A.handled=none)(hl:s.heap.IsList l items)(hne:l≠it)(hi:s.heap.IsRevIter it l ((items.size:Int)-1))(hn:items.size≤sizeLine)
  (hQ:∀h' tk acc,(∀b o,b≠it->s.heap.get? b=some o->h'.get? b=some o)->ItemsOf (λi v=>items[items.size-1-i]?=some v) acc items.size->Q acc.toList { s with heap:=h',toks:=tk }) :
  wpAny (model prog w) A (collect (.ref it)) Q E s:=by
 have hlt:l<s.heap.objs.size:=by obtain⟨_,e,_⟩:=hl;exact z14 e
 have hit:it<s.heap.objs.size:=by obtain⟨_,e,_⟩:=hi;exact z14 e
 have hSI:s.heap.objs.size≠it:=Nat.ne_of_gt hit
 unfold collect
 refine za (wpAny_runValue (codeAny_builtin PySem.F.entry_proto_collect ?_))
 rw [Around.under_plainId PySem.F.plain_proto_collect _]
 refine za (m:=newList []) (z2a (ze ⟨plainId_quiet PySem.F.plain_list_iadd _,codeAny_builtin PySem.F.entry_list_iadd ?_⟩))
 rw [Around.under_plainId PySem.F.plain_list_iadd _]
 have hS:=z22 s.heap (o:={ cls:=.type "list",data:=.seq ([]:List Value).toArray }) rfl
 have hl2:(s.heap.push { cls:=.type "list",data:=.seq ([]:List Value).toArray }).IsList l items:=hl.push _
 have hi2:(s.heap.push { cls:=.type "list",data:=.seq ([]:List Value).toArray }).IsRevIter it l ((items.size:Int)-1):=hi.at λo e=>zd _ e
 have W:=Walks.listRev (prog:=prog) (w:=w) (A:=A.in1) hh it l hne items
 have st:(λi (h:Heap)=>i≤items.size/\h.IsRevIter it l ((items.size:Int)-1-(i:Int))/\h.IsList l items) 0 (s.heap.push { cls:=.type "list",data:=.seq ([]:List Value).toArray }):=⟨Nat.zero_le _,by simpa using hi2,hl2⟩
 have h1:Builtin.List.listSameRef (.ref s.heap.objs.size) (.ref it)=false:=by simp [Builtin.List.listSameRef,hSI]
 have h2':(Value.type "list_reverseiterator" == Value.type "list")=false:=by decide
 have h3:(Value.type "list_reverseiterator" == Value.type "tuple")=false:=by decide
 show wpAny _ A.in1 (Builtin.List.listExtendWith (.ref s.heap.objs.size) (.ref it) (.ref s.heap.objs.size)) _ _ _
 unfold Builtin.List.listExtendWith
 have hT:({ s with heap:=s.heap.push { cls:=.type "list",data:=.seq ([]:List Value).toArray } }:Shared).TypeIs (.ref it) "list_reverseiterator":=hi2.typeIs
 refine za (wpAny_typeOf hT ?_)
 simp only [h1,h2',h3,Bool.or_false,Bool.false_eq_true,if_false]
 refine za (wpAny_pyIter_revIter hi2 ?_)
 refine za (wpAny_holding (tO hT ?_))
 have hSf:s.heap.objs.size∉[it,l]:=by simp only [z1d,List.not_mem_nil,or_false,not_or];exact⟨hSI,Nat.ne_of_gt hlt⟩
 refine wpAny_ite_split (λhab=>absurd hab (by decide)) (λ_=>?_)
 refine ze ⟨plainId_quiet PySem.F.plain_extend_loop _,codeAny_extend_loopS W.toS hn s.heap.objs.size hSf _ items.size 0 _ #[] 0 rfl (Nat.zero_le _) st hS (ItemsOf.nil _) λs' y5b c' hm hS' y1a5=>?_⟩
 show wpAny _ A (load s.heap.objs.size >>= _) _ _ s'
 refine za (wpAny_load hS' ?_)
 refine ze ?_
 rw [Moved.eq_with hm]
 refine hQ s'.heap s'.toks y5b (λb o hb e=>hm.heap b o (λy1b8=>?_) (zd _ e)) y1a5
 rcases z1d.mp y1b8 with e'|y1b8
 ·exact absurd (z14 e) (by rw [e'];exact z2e _)
 ·exact hb (z15.mp y1b8)
def FN{l it:Addr}{items:Array Value}{x:Str}{t:Tok}{Q:Value->Shared->Prop}(hh:A.handled=none)(hl:s.heap.IsList l items)(hne:l≠it)(hi:s.heap.IsRevIter it l ((items.size:Int)-1))(hn:items.size≤sizeLine)
  {ys:List Str} (hs:∀(i:Nat) (y:Str),ys[i]?=some y->∃u:Tok,items[i]?=some (Value.str y u)) (hsz:ys.length=items.size) (hf:(ys.map (·.length)).sum+ys.length*x.length≤16777216)
  (hQ:∀h' tk t',(∀b o,b≠it->s.heap.get? b=some o->h'.get? b=some o)->Q (.str (Txt.join x ys.reverse) t') { s with heap:=h',toks:=tk }) :
  wpAny (model prog w) A (call (.builtin "str.join") [.str x t,.ref it]) Q E s:=by
 refine wpAny_call (codeAny_call_builtin PySem.F.slot_str_join.plain PySem.F.entry_str_join (PySem.F.slot_str_join.check _ _ _ _ _ _ _ _ (typeIs_str _ _ _) (PySem.F.args_str_join_2 _ _) ?_))
 rw [join_tree_other]
 refine za (wpAny_typeOf hi.typeIs ?_)
 show wpAny _ A.in1 ((pyIter (.ref it)).tryCatch _ >>= λit=>collect it >>= λitems=>joinTail x items) _ _ s
 refine za (wpAny_tryCatch (wpAny_pyIter_revIter hi ?_))
 refine za (yc1 hh hl hne hi hn λh' tk acc hk y1a5=>?_)
 have el:∃l:List (Str×Tok),strValues l=acc.toList/\l.map (·.1)=ys.reverse:=by
  have ex:∀v∈acc.toList,∃y u,v=Value.str y u:=λv hv=>by
   obtain⟨j,hj,rfl⟩:=Array.mem_iff_getElem.mp (Array.mem_toList_iff.mp hv)
   have q:items[items.size-1-j]?=some acc[j]:=y1a5.2 j _ (Array.getElem?_eq_getElem hj)
   have hj':items.size-1-j<ys.length:=by have:=y1a5.1;lia
   obtain⟨u,hu⟩:=hs _ _ (z16 hj')
   rw [hu] at q
   exact⟨_,_,(z20 q).symm⟩
  obtain⟨l,e⟩:=exists_strValues acc.toList ex
  refine⟨l,e,List.ext_getElem? λi=>?_⟩
  have ll:l.length=items.size:=by
   have:=congrArg List.length e
   simp only [strValues,z11,Array.length_toList] at this
   rw [this,y1a5.1]
  by_cases hi':i<items.size
  ·have hi2:i<acc.size:=by rw [y1a5.1];exact hi'
   have q:items[items.size-1-i]?=some acc[i]:=y1a5.2 i _ (Array.getElem?_eq_getElem hi2)
   have hj':items.size-1-i<ys.length:=by lia
   obtain⟨u,hu⟩:=hs _ _ (z16 hj')
   rw [hu] at q
   have q2:acc.toList[i]?=some (.str (ys[items.size-1-i]) u):=by
    rw [Array.getElem?_toList,Array.getElem?_eq_getElem hi2];exact q.symm
   rw [<- e,strValues,List.getElem?_map] at q2
   cases e3:l[i]? with
   | none=>rw [e3] at q2;cases q2
   | some p =>
    rw [e3] at q2
    have:p.1=ys[items.size-1-i]:=by
     obtain⟨p1,p2⟩:=p
     have:=z20 q2
     cases this;rfl
    rw [List.getElem?_map,e3,Option.map_some,this,List.getElem?_reverse (by lia),z16 (by lia)]
    congr 2
    lia
  ·rw [List.getElem?_eq_none (by rw [z11];lia),List.getElem?_eq_none (by rw [z2c];lia)]
 obtain⟨l,e,e2⟩:=el
 rw [<- e]
 have hok:tooLong ((l.map (·.1)).toArray.foldl (· + ·.length+x.length) 0)=false:=by
  rw [StrLaws.joinTotal,e2]
  have h1:(ys.reverse.map (·.length)).sum=(ys.map (·.length)).sum:=by rw [List.map_reverse,List.sum_reverse]
  rw [h1,z2c]
  unfold tooLong sizeLine
  exact decide_eq_false (by lia)
 have g:Gives (joinTail x (strValues l)) (joinMade x l):=by
  have made:=gives_joinTail x l hok
  rcases l with _|⟨p,_|⟨q,r⟩⟩<;>exact made
 refine g prog w A (wants Q E) { s with heap:=h',toks:=tk } (post_join l ⟨joinFit_length hok,λt' k=>?_⟩)
 rw [e2]
 exact hQ h' k t' hk
end
end PySem
namespace L2
open PySem PySem.Spec PyProof.Rows
section
section
abbrev wm(K:W.Frag)(to te:TE):TE:=λσ H Q=>to σ H λx H1=>∃z:Str,x=.str z/\te σ H1 λy H2=>∃(l:Addr) (ys:List Str),y=.ref l/\bu K H2 l (ys.map V.str)/\(ys.map (·.length)).sum+ys.length*z.length≤16777216/\Q (.str (Txt.join z ys.reverse)) H2
theorem wo:∀{ys:List Str} {us:List Value},au (ys.map V.str) us->∀(i:Nat) (y:Str),ys[i]?=some y->∃u:Tok,us[i]?=some (Value.str y u)
 | [],_,_,i,y,e=>by simp at e
 | z::ys,us,r,i,y,e=>by
  rw [z19] at r
  cases r with
  | cons r1 r2 =>
   obtain⟨t,rfl⟩:=r1
   cases i with
   | zero=>simp at e;subst e;exact⟨t,rfl⟩
   | succ i=>simpa using wo r2 i y (by simpa using e)
def FO (hc:X.calm=true)(gr:Gl X "reversed")(mr:X.mg "reversed" = none)(ho:PE X o to)(he:PE X e te)
  (y1aa:‹attributeBase o "join" X.env (eval o X.env)=eval o X.env›)
  (y1b0:‹((backTo yd2 (starEach [.Call (.Name "reversed" p2) [e] [] q2] X.env)).all (λx=>!x.1)&&(backToKw yd2 (keywordEach [] X.env)).all (λx=>x.1.isSome)
   && decide ([Expr.Call (.Name "reversed" p2) [e] [] q2].length+([]:List Keyword).length+(if ([]:List Keyword).isEmpty then 0 else 1)<30))=true›)
  (y1b6:‹(apos.endLine == yd2.line)=true›) (hs1:‹starEach [e] X.env=[(false,eval e X.env)]›)
  (hs2:‹starEach [.Call (.Name "reversed" p2) [e] [] q2] X.env=[(false,eval (.Call (.Name "reversed" p2) [e] [] q2) X.env)]›) :
  PE X (.Call (.Attribute o "join" apos) [.Call (.Name "reversed" p2) [e] [] q2] [] yd2) (wm X.K to te):=by
 intro pins s σ H Q I h
 refine wpAny_Call_method_late y1aa y1b0 y1b6 rfl (aN (ho pins s σ H _ I h) λv s1 zz=>?_)
 obtain⟨x,H1,I1,r1,z,e1,q1⟩:=zz
 subst e1
 obtain⟨h1,h2⟩:=jx I1 r1 rfl
 refine⟨"str","str.join",PySem.F.plainAttrs_str,PySem.F.slot_str_join,PySem.F.type_str_join,h1,h2,?_⟩
 obtain⟨t,rfl⟩:=r1
 rw [hs2]
 refine Calls.callWith_builtin rfl (Calls.evalArgs_plain ?_)
 show wpAny _ _ (spliced ((false,eval (.Call (.Name "reversed" p2) [e] [] q2) X.env)::backTo yd2 [])) _ _ s1
 refine Calls.spliced_cons ?_
 refine Call_ (gN I1 gr mr PyProof.Rows.boot_reversed (PyProof.Rows.callWith_type1 ?_ (by rw [hs1];rfl) rfl))
 rw [hs1]
 show wpAny _ _ (spliced ((false,eval e X.env)::backTo q2 [])) _ _ s1
 refine Calls.spliced_cons (aN (he pins s1 σ H1 _ I1 q1) λu s2 ⟨y,H2,I2,r2,l,ys,e2,hq,hz,q⟩=>Calls.spliced_nil ?_)
 subst e2
 cases r2
 obtain⟨its,rv,p,hsz⟩:=I2.list hq
 have hlen:=rv.length
 refine call_reversed_list p.isList (Calls.spliced_nil ?_)
 have hl1:(s2.heap.push (revObj l ((its.toArray.size:Int)-1))).IsList l its.toArray:=p.isList.push _
 have hlt:l<s2.heap.objs.size:=by obtain⟨_,e,_⟩:=p.isList;exact z14 e
 have hle:ys.length=its.length:=by rw [z11] at hlen;exact hlen
 refine FN (I2.ok.hd hc) hl1 (z28 hlt) ⟨_,z22 _ rfl,rfl,rfl⟩ (by rw [zf,<- hle];rw [z11] at hsz;exact hsz)
  (λi y e=>by obtain⟨u,hu⟩:=wo rv i y e;exact⟨u,by simpa using hu⟩) (by rw [zf];exact hle) hz λh' tk t' hk=>?_
 exact⟨.str _,H2,I2.kept λb o e=>hk b o (z28 (z14 e)) (zd _ e),⟨_,rfl⟩,q⟩
abbrev FP(tv:TE):TE:=λσ H Q=>tv σ H λx H1=>∃y:Str,x=.str y/\y.length≤sizeLine/\Q (.str y) H1
def FQ (he:PE X e te):PE X (.FormattedValue e (-1) none pos) (FP te):=by
 intro pins s σ H Q I h
 refine wpAny_FormattedValue_plain (aN (he pins s σ H _ I h) λv s1 zz=>?_)
 obtain⟨x,H1,I1,r1,y,e1,hy,q⟩:=zz
 subst e1
 obtain⟨t,rfl⟩:=r1
 exact wpAny_formatField_str ⟨.str y,H1,I1,⟨_,rfl⟩,q⟩ ⟨.str y,H1,I1.tok _,⟨_,rfl⟩,q⟩ hy
abbrev AB:List TE->Str->TE
 | [],acc=>λσ H Q=>acc.length≤sizeLine/\Q (.str acc) H
 | t::ts,acc=>λσ H Q=>t σ H λx H1=>∃y:Str,x=.str y/\(acc++y).length≤sizeLine/\AB ts (acc++y) σ H1 Q
inductive PJs(X:Cx):List Expr->List TE->Prop
 | nil:PJs X [] []
 | cons {e:Expr} {es:List Expr} {t:TE} {ts:List TE}:PE X e t->PJs X es ts->PJs X (e::es) (t::ts)
def PJs.go (h:PJs X es ts):∀{acc:Str} {pins:List (Addr×Obj)} {s:Shared} {σ:St} {H:Hp} {Q:VK},Inv X pins σ H s->AB ts acc σ H Q ->
  Joins (model X.prog X.w) X.A X.xe (evalEach es X.env) acc (λout s1=>out.length≤sizeLine/\EP X pins σ Q (.str out s1.toks) { s1 with toks:=s1.toks+1 }) s:=by
 induction h with
 | nil =>
  intro acc pins s σ H Q I q
  exact⟨q.1,.str acc,H,I.tok _,⟨_,rfl⟩,q.2⟩
 | cons he hr ih =>
  intro acc pins s σ H Q I q
  show wpAny _ _ _ _ _ _
  refine aN (he pins s σ H _ I q) λv s1 zz=>?_
  obtain⟨x,H1,I1,r1,y,e1,hz,q1⟩:=zz
  subst e1
  obtain⟨t,rfl⟩:=r1
  exact⟨y,t,rfl,hz,ih I1 q1⟩
def FR  (h:PJs X (a::b::es) ts):PE X (.JoinedStr (a::b::es) pos) (AB ts Str.empty):=by
 intro pins s σ H Q I q
 exact wpAny_JoinedStr (h.go I q)
end
end
section
section
theorem wq:∀(tk:Nat) (ys:List Str),au (ys.map V.str) (strsFrom tk ys)
 | _,[]=>.nil
 | tk,y::ys=>by rw [z19];exact .cons ⟨_,rfl⟩ (wq (tk+1) ys)
abbrev l8:V->List V->Hp->VK->Prop:=λx ys H Q=>∃(z y:Str),x=.str z/\ys=[.str y]/\(y.length == 0)=false/\z.length≤1000000/\∀p,H p=none->Q (.ref p) (upd H p (.lst ((Txt.split z y).map V.str)))
def wt:sS X "str.split" l8:=by
 intro pins s σ H x xs v us Q I rx r h
 obtain⟨z,y,rfl,rfl,hy,hz,q⟩:=h
 obtain⟨t,rfl⟩:=rx
 obtain⟨u,rfl,t',rfl⟩:=cb r
 have hz':z.length≤sizeLine:=by rw [sizeLine_eq];lia
 have one:∀(e:Txt.split z y=[z]),EP X pins σ Q (.ref s.heap.objs.size) { s with heap:=s.heap.push { cls:=.type "list",data:=.seq [Value.str z t].toArray } }:=λe=>by
  refine⟨.ref s.heap.objs.size,_,I.laid (λb o e=>zd _ e) (z12 _) ?_,rfl,q _ (I.hok.fresh (z12 _))⟩
  rw [e]
  exact⟨by show 1≤sizeLine;decide,[Value.str z t],_,.cons ⟨_,rfl⟩ .nil,z22 _ rfl⟩
 cases h1:(decide (z.length<y.length)||decide (Builtin.Str.strKind z<Builtin.Str.strKind y))
 ·cases hf:(Builtin.Str.occurrences z y 0 z.length (z.length+1)).isEmpty
  ·have e:Txt.split z y=Builtin.Str.partsBetween z (Builtin.Str.occurrences z y 0 z.length (z.length+1)) y.length:=by
    unfold Txt.split;rw [h1,hf];rfl
   have hn:(Builtin.Str.partsBetween z (Builtin.Str.occurrences z y 0 z.length (z.length+1)) y.length).length≤sizeLine:=by
    have h2:=StrLaws.occ_length_le z y 0 z.length (z.length+1)
    rw [StrLaws.partsBetween_eq]
    have h3:∀(w a:Nat) (l:List Nat),(StrLaws.partsFrom z w a l).length=l.length+1:=λw a l=>by
     induction l generalizing a with
     | nil=>rfl
     | cons b l ih=>show (StrLaws.partsFrom z w _ l).length+1=_;rw [ih];rfl
    rw [h3,sizeLine_eq];lia
   refine call_meets PySem.F.slot_str_split (typeIs_str _ _ _) PySem.F.entry_str_split (PySem.F.args_str_split_2 _ _) (meets_str_split_sep z y t t' h1 hy hf hz' hn) ?_
   refine⟨.ref s.heap.objs.size,_,I.laid (λb o e=>zd _ e) (z12 _) ?_,rfl,q _ (I.hok.fresh (z12 _))⟩
   rw [e]
   exact⟨by rw [z11];exact hn,_,_,wq _ _,z22 _ rfl⟩
  ·refine call_meets PySem.F.slot_str_split (typeIs_str _ _ _) PySem.F.entry_str_split (PySem.F.args_str_split_2 _ _) (meets_str_split_not_found z y t t' h1 hy hf) ?_
   exact one (by unfold Txt.split;rw [h1,hf];rfl)
 ·refine call_meets PySem.F.slot_str_split (typeIs_str _ _ _) PySem.F.entry_str_split (PySem.F.args_str_split_2 _ _) (meets_str_split_cannot_occur z y t t' h1) ?_
  exact one (by unfold Txt.split;rw [h1];rfl)
abbrev kr(X:Cx)(e:Expr)(t:TE):Prop:=∀(pins:List (Addr×Obj)) (s:Shared) (σ:St) (H:Hp) (Q:VK),1≤s.toks->Inv X pins σ H s->t σ H Q->wpAny (model X.prog X.w) X.A (eval e X.env) (EP X pins σ Q) X.xe s
def kr.of (h:PE X e t):kr X e t:=λpins s σ H Q _ I q=>h pins s σ H Q I q
abbrev wu(y z:Str)(to:TE):TE:=λσ H Q=>to σ H λx H1=>∃w:Str,x=.str w/\w.length+(w.length+1)*z.length≤1000000/\Q (.str (Txt.replace w y z)) H1
def FT  (ho:kr X o to)(hyz:(y == z)=false)
  (y1aa:‹attributeBase o "replace" X.env (eval o X.env)=eval o X.env›)
  (y1b6:‹(apos.endLine == yd2.line)=true›) :
  kr X (.Call (.Attribute o "replace" apos) [.Constant (.str y) k1 p1,.Constant (.str z) k2 p2] [] yd2) (wu y z to):=by
 intro pins s σ H Q hn I h
 refine wpAny_Call_method_late y1aa rfl y1b6 rfl (wpAny_mono (wpAny_toks_of hn (ho pins s σ H _ hn I h)) (λv s1 ⟨hn1,x,H1,I1,r1,w,e1,hz,q⟩=>?_) λ_ _ x=>x.2)
 subst e1
 obtain⟨h1,h2⟩:=jx I1 r1 rfl
 refine⟨"str","str.replace",PySem.F.plainAttrs_str,PySem.F.slot_str_replace,PySem.F.type_str_replace,h1,h2,?_⟩
 obtain⟨t,rfl⟩:=r1
 refine Calls.callWith_builtin rfl (Calls.evalArgs_plain ?_)
 show wpAny _ _ (spliced [(false,_),(false,_)]) _ _ s1
 refine Calls.spliced_cons ?_
 refine Calls.Constant_str (k:=k1) (pos:=p1) ?_
 refine Calls.spliced_cons ?_
 refine Calls.Constant_str (k:=k2) (pos:=p2) ?_
 refine Calls.spliced_nil ?_
 refine SC.replace (by show s1.toks≠0;lia) (by show s1.toks+1≠0;lia) (by show s1.toks≠s1.toks+1;lia) hyz (by lia) λt' k=>?_
 exact⟨.str _,H1,I1.tok _,⟨_,rfl⟩,q⟩
def FU  (ho:kr X o to)
  (y1aa:‹attributeBase o "split" X.env (eval o X.env)=eval o X.env›)
  (y1b6:‹(apos.endLine == yd2.line)=true›) :
  kr X (.Call (.Attribute o "split" apos) [.Constant (.str y) k1 p1] [] yd2) (λσ H Q=>to σ H λx H1=>l8 x [.str y] H1 Q):=by
 intro pins s σ H Q hn I h
 refine wpAny_Call_method_late y1aa rfl y1b6 rfl (aN (ho pins s σ H _ hn I h) λv s1 zz=>?_)
 obtain⟨x,H1,I1,r1,q⟩:=zz
 have ty:tq X.K "str" x H1:=by obtain⟨z,_,e,_⟩:=id q;subst e;rfl
 obtain⟨h1,h2⟩:=jx I1 r1 ty
 refine⟨"str","str.split",PySem.F.plainAttrs_str,PySem.F.slot_str_split,PySem.F.type_str_split,h1,h2,?_⟩
 refine Calls.callWith_builtin rfl (Calls.evalArgs_plain ?_)
 show wpAny _ _ (spliced [(false,_)]) _ _ s1
 refine Calls.spliced_cons ?_
 refine Calls.Constant_str (k:=k1) (pos:=p1) ?_
 refine Calls.spliced_nil ?_
 exact wt pins _ σ H1 x [.str y] v [.str y s1.toks] Q (I1.tok _) r1 (.cons ⟨_,rfl⟩ .nil) q
end
section
def FV{s₀ s:Shared}{L:Addr}{m m' cm:Str->Option Value}{cs:List (Str×Addr)}{h':Heap}(x:InCallC s₀ L m cs cm s)(q:h'.Ns L m')(sb:Heap.SameBut L s.heap h')(t:Nat):InCallC s₀ L m' cs cm { s with heap:=h',toks:=t } where
 toInCall:={ same:=x.toInCall.same.elim λ_ e=>e.elim λ_ e=>⟨h',t,by rw [e]⟩,ns:=q,fresh:=x.toInCall.fresh,keep:=λb o e=>(sb.2 b λz=>absurd (z14 e) (by rw [z];exact Nat.not_lt.mpr x.toInCall.fresh)).trans (x.toInCall.keep b o e) }
 cell:=λk c e=>by
  obtain⟨o,q1,r⟩:=x.cell k c e
  exact⟨o,(sb.2 c λz=>z2e c (by have:=x.above k c (mem_of_lookup e);rw [<- z] at this;exact this)).trans q1,r⟩
 apart:=x.apart
 above:=x.above
def FW{scope:Scope}{globals:Addr}{binds:List (Str×Value)}{qual:Str}{func:Option Addr}{code:Value}{builtins:Addr} :
  newFunctionEnv scope globals [] binds qual func code none builtins=(newFunctionEnv scope globals [] [] qual func code none builtins >>= λenv=>(forIn binds PUnit.unit λx _=>storeName env x.1 x.2 >>= λ_=>pure (ForInStep.yield PUnit.unit)) >>= λ_=>pure env):=by
 simp only [newFunctionEnv,bind_assoc,List.forIn_nil,pure_bind]
def FX{scope:Scope}{globals:Addr}{n0:Str}{v0:Value}{aG:List (Str×Value)}{qual:Str}{func:Option Addr}{code:Value}{builtins:Addr}{Q:Env->Shared->Prop}
  (hk:scope.kind=.function) (h0:scope.names.lookup n0=some .local)
  (hr:∀x∈(n0,v0)::aG,scope.names.lookup x.1=some .local∨(scope.names.lookup x.1=some .cell/\((cellsFrom (s.heap.objs.size+1) scope.names []).lookup x.1).isSome=true))
  (k:∀env,env=newEnv scope s.heap.objs.size globals (cellsFrom (s.heap.objs.size+1) scope.names []) qual func code none builtins ->
   ∀t,InCallC s env.locals (bindL env.kindOf ((n0,v0)::aG) λ_=>none) env.cells (bindC env.kindOf ((n0,v0)::aG) λ_=>none) t->1≤t.toks->Q env t) :
  wpAny M A (newFunctionEnv scope globals [] ((n0,v0)::aG) qual func code none builtins) Q E s:=by
 rw [FW]
 refine za (wpAny_newFunctionEnv_cells (binds:=[]) hk (λx m=>absurd m List.not_mem_nil) λenv e s0 x0=>?_)
 have k:=k env e
 have hk:env.scope.kind=.function:=by rw [e];exact hk
 have h0:env.kindOf n0=some .local:=by rw [e];exact h0
 have hr:∀x∈aG,env.kindOf x.1=some .local∨(env.kindOf x.1=some .cell/\(env.cells.lookup x.1).isSome=true):=λx m=>by rw [e];exact hr x (.tail _ m)
 refine za ?_
 rw [List.forIn_cons]
 refine za (za (wpAny_storeName_local h0 x0.toInCall.ns (λh' q sb=>ze ?_) (by rw [hk];rfl)))
 have x1:=FV x0 q sb (s0.toks+1)
 refine wpAny_with_toks (n:=1) (Nat.succ_le_succ (Nat.zero_le _)) ?_
 refine wpAny_bindParams _ (by intros;rfl) hk aG _ _ _ _ x1 hr λt x2 t2=>ze (k t ?_ t2)
 unfold bindL bindC
 rw [if_pos h0,if_pos h0]
 exact x2
end
end
end L2
set_option maxHeartbeats 400000
namespace B
open PySem PySem.Spec PyProof.Rows L2
section
section
variable {K:W.Frag}{κ:Str->Addr}{ι:List Addr}{H:Hp}{σ:L2.St}
abbrev gj(j i:Str):Bool:=!(Builtin.Str.occurrences j i 0 j.length 1).isEmpty
abbrev dm(neg:Bool):List Ev->Mo Ev:=λes Z G=>match es with
 | [.v (.im (.str i)),.v (.im (.str j))]=>some (.v (.im (.bl (if neg then !(gj j i) else gj j i))),Z,G)
 | _=>none
def FY:aD K κ (r2 λx y H Q=>∃i j,x=.str i/\y=.str j/\Q (.bl (!(Builtin.Str.occurrences j i 0 j.length 1).isEmpty)) H) (dm false):=by
 intro ι H σ Z G es vs e Z' G' Q a h k
 unfold dm at h
 split at h
 ·obtain⟨v,u,rfl⟩:=bH a.len
  cases bJ (a.im (j:=0) rfl rfl)
  cases bJ (a.im (j:=1) rfl rfl)
  exact⟨_,_,rfl,_,_,rfl,rfl,k _ _ _ (bI h (aS a (.bl _)))⟩
 ·cases h
def FZ:aD K κ (r2 λx y H Q=>∃i j,x=.str i/\y=.str j/\Q (.bl (!(!(Builtin.Str.occurrences j i 0 j.length 1).isEmpty))) H) (dm true):=by
 intro ι H σ Z G es vs e Z' G' Q a h k
 unfold dm at h
 split at h
 ·obtain⟨v,u,rfl⟩:=bH a.len
  cases bJ (a.im (j:=0) rfl rfl)
  cases bJ (a.im (j:=1) rfl rfl)
  exact⟨_,_,rfl,_,_,rfl,rfl,k _ _ _ (bI h (aS a (.bl _)))⟩
 ·cases h
abbrev cL(z:Str):Wk:=⟨z.cps.size,λi _ _=>(z.cps[i]?).map λc=>.str ⟨#[c]⟩,λ_ _=>true⟩
abbrev eI:List Ev->De->List M->Option Wk:=λes _ _=>match es with
 | [.v (.im (.str z))]=>some (cL z)
 | _=>none
def F0:uu K κ (λvs H R=>∃v,vs=[v]/\∃z,v=.str z/\R (Av z) H) eI:=by
 intro ι H σ Z G es vs w R a h k
 unfold eI at h
 split at h
 ·rename_i z
  cases h
  obtain⟨v,rfl⟩:=bP a.len
  cases bJ (a.im (j:=0) rfl rfl)
  refine⟨_,rfl,z,rfl,k _ ⟨λ{i d ι' H' σ' Z' G'} hi hd l s=>⟨hi,λx H2 y=>?_⟩,λ{ι' H' σ' Z' G'} hf l s=>z12 _⟩⟩
  obtain⟨e1,c,e2,e3⟩:=y
  subst e1;subst e3
  have hd:(z.cps[i]?).map (λc=>I.str ⟨#[c]⟩)=some d:=hd
  rw [e2] at hd
  cases hd
  exact⟨λ_ _ h=>h,.str _⟩
 ·cases h
abbrev iT:List Ev->Mo Ev:=λes Z G=>match es with
 | [.v (.im (.str z)),.v (.im (.str y))]=>match Builtin.Str.occurrences z y 0 z.length 1 with
  | i::_=>some (.v (.im (.int i)),Z,G)
  | []=>none
 | _=>none
def F1:aD K κ (rM we) iT:=by
 intro ι H σ Z G es vs e Z' G' Q a h k
 unfold iT at h
 split at h
 ·rename_i z y
  split at h
  ·rename_i i r hi
   obtain⟨v,u,rfl⟩:=bH a.len
   cases bJ (a.im (j:=0) rfl rfl)
   cases bJ (a.im (j:=1) rfl rfl)
   exact⟨_,_,rfl,z,y,i,r,rfl,rfl,hi,k _ _ _ (bI h (aS a (.int _)))⟩
  ·cases h
 ·cases h
abbrev iU:List Ev->Mo Ev:=λes Z G=>match es with
 | [.v (.im (.int i))]=>if i.natAbs.log2<1920 then some (.v (.im (.str (toString i))),Z,G) else none
 | [.v (.im (.str x))]=>some (.v (.im (.str x)),Z,G)
 | _=>none
def F3:aD K κ (λxs H Q=>(∃i:Int,xs=[.int i]/\i.natAbs.log2<1920/\Q (.str (toString i)) H)∨∃x,xs=[.str x]/\Q (.str x) H) iU:=by
 intro ι H σ Z G es vs e Z' G' Q a h k
 unfold iU at h
 split at h
 ·split at h
  ·rename_i hz
   obtain⟨v,rfl⟩:=bP a.len
   cases cF (a.im (j:=0) rfl rfl)
   exact .inl ⟨_,rfl,hz,k _ _ _ (bI h (aS a (.str _)))⟩
  ·cases h
 ·obtain⟨v,rfl⟩:=bP a.len
  cases bJ (a.im (j:=0) rfl rfl)
  exact .inr ⟨_,rfl,k _ _ _ (bI h (aS a (.str _)))⟩
 ·cases h
abbrev l9:Ev->Option String
 | .v (.im .non)=>some "NoneType"
 | .v (.im (.bl _))=>some "bool"
 | .v (.im (.int _))=>some "int"
 | .v (.im (.str _))=>some "str"
 | .v (.im (.tup _))=>some "tuple"
 | _=>none
abbrev eK:String->String->Option Bool
 | "int","int"=>some true
 | "int","bool"=>some false
 | "int","tuple"=>some false
 | "int","str"=>some false
 | "tuple","tuple"=>some true
 | "tuple","str"=>some false
 | "tuple","int"=>some false
 | "str","str"=>some true
 | "str","tuple"=>some false
 | "str","int"=>some false
 | "NoneType","str"=>some false
 | "NoneType","tuple"=>some false
 | "NoneType","int"=>some false
 | _,_=>none
def F4{t n:String}{b:Bool}(h:eK t n=some b):W.kitOne K (.type t) (.type n)=some b:=by
 unfold eK at h
 split at h<;>cases h<;>first|(unfold W.kitOne;rw [if_pos (by simp)];done)|with_unfolding_all rfl
abbrev dD:List Ev->Mo Ev:=λes Z G=>match es with
 | [a,.v (.im (.ty n))]=>match l9 a with
  | some t=>match eK t n with
   | some b=>some (.v (.im (.bl b)),Z,G)
   | none=>none
  | none=>none
 | _=>none
def F5:aD K κ (λxs H Q=>∃x t n b,xs=[x,.ty n]/\y52 K H x t/\W.kitOne K t (.type n)=some b/\Q (.bl b) H) dD:=by
 intro ι H σ Z G es vs e Z' G' Q a h k
 unfold dD at h
 split at h
 ·rename_i x n
  split at h
  ·rename_i t ht
   split at h
   ·rename_i b hb
    obtain⟨v,u,rfl⟩:=bH a.len
    cases Dn (a.im (j:=1) rfl rfl)
    have ty:y52 K H v (.type t):=by
     unfold l9 at ht
     split at ht
     ·cases ht;cases jB (a.im (j:=0) rfl rfl);exact .non
     ·cases ht;cases k9 (a.im (j:=0) rfl rfl);exact .bl _
     ·cases ht;cases cF (a.im (j:=0) rfl rfl);exact .int _
     ·cases ht;cases bJ (a.im (j:=0) rfl rfl);exact .str _
     ·cases ht
      obtain⟨_,_,rfl,e,_⟩:=lh (a.im (j:=0) rfl rfl)
      exact .tup e
     ·cases ht
    exact⟨_,_,n,b,rfl,ty,F4 hb,k _ _ _ (bI h (aS a (.bl _)))⟩
   ·cases h
  ·cases h
 ·cases h
abbrev AD:I->Bool
 | .non=>true
 | .tup _=>true
 | .con _=>true
 | _=>false
abbrev jS:I->Bool
 | .non=>true
 | _=>false
theorem wx:∀{xs:List I} {vs:List V},y4e K ι H vs xs->xs.all AD=true->(∀z∈vs,qJ K H z)/\vs.any wg=xs.any jS
 | [],_,r,_=>by cases r;exact⟨λ_ h=>(by cases h),rfl⟩
 | x::xs,_,r,h=>by
  cases r with
  | cons r1 r2 =>
   rw [List.all_cons,z1b] at h
   obtain⟨p,q⟩:=wx r2 h.2
   have h1:=h.1
   rw [List.any_cons,List.any_cons,q]
   cases r1 with
   | non=>exact⟨λz hz=>(z1d.mp hz).elim (λe=>.inl e) (p z),rfl⟩
   | tup e rr=>exact⟨λz hz=>(z1d.mp hz).elim (λe'=>.inr ⟨_,_,e',ba.of e⟩) (p z),rfl⟩
   | con e rr=>exact⟨λz hz=>(z1d.mp hz).elim (λe'=>.inr ⟨_,_,e',ba.kon e⟩) (p z),rfl⟩
   | _=>cases h1
abbrev jT:List Ev->Mo Ev:=λes Z G=>match es with
 | [.v (.im .non),b]=>match pk Z G b with
  | some (.lst xs)=>if xs.all AD then some (.v (.im (.bl (xs.any jS))),Z,G) else none
  | _=>none
 | _=>none
def F6:aD K κ (r2 λx y H Q=>x=.non/\∃p xs,y=.ref p/\bu K H p xs/\(∀z∈xs,qJ K H z)/\Q (.bl (xs.any wg)) H) jT:=by
 intro ι H σ Z G es vs e Z' G' Q a h k
 unfold jT at h
 split at h
 ·rename_i b
  split at h
  ·rename_i xs hx
   split at h
   ·rename_i ha
    obtain⟨v,u,rfl⟩:=bH a.len
    cases jB (a.im (j:=0) rfl rfl)
    obtain⟨p,e1,ys,h1,r⟩:=a.pk (j:=1) rfl rfl hx
    subst e1
    obtain⟨q1,q2⟩:=wx r ha
    exact⟨_,_,rfl,rfl,p,ys,rfl,bu.of h1,q1,by rw [q2];exact k _ _ _ (bI h (aS a (.bl _)))⟩
   ·cases h
  ·cases h
 ·cases h
abbrev iV:List Ev->Mo Ev:=λes Z G=>match es with
 | [.v (.im (.str z)),a]=>match pk Z G a with
  | some (.lst xs)=>match dB xs with
   | some ys=>if (ys.map (·.length)).sum+ys.length*z.length≤1000000 then some (.v (.im (.str (PySem.Txt.join z ys.reverse))),Z,G) else none
   | none=>none
  | _=>none
 | _=>none
abbrev F7(K:W.Frag):V->List V->Hp->VK->Prop:=λx vs H Q=>∃(z:Str) (p:Addr) (ys:List Str),x=.str z/\vs=[.ref p]/\bu K H p (ys.map V.str)/\(ys.map (·.length)).sum+ys.length*z.length≤16777216/\Q (.str (Txt.join z ys.reverse)) H
def F8:aD K κ (rM (F7 K)) iV:=by
 intro ι H σ Z G es vs e Z' G' Q a h k
 unfold iV at h
 split at h
 ·rename_i z x
  split at h
  ·rename_i xs hx
   split at h
   ·rename_i ys hn
    split at h
    ·rename_i hz
     obtain⟨v,u,rfl⟩:=bH a.len
     cases bJ (a.im (j:=0) rfl rfl)
     obtain⟨p,e1,us,h1,r⟩:=a.pk (j:=1) rfl rfl hx
     subst e1
     exact⟨_,_,rfl,z,p,ys,rfl,rfl,by rw [<- pw r hn];exact bu.of h1,z1c hz (by decide),k _ _ _ (bI h (aS a (.str _)))⟩
    ·cases h
   ·cases h
  ·cases h
 ·cases h
def F9{fo fe:Mo Ev}{Q:VK}(h:aY K κ (fO iV fo (one fe)) σ H Q):wm K (aY K κ fo) (aY K κ fe) σ H Q:=by
 obtain⟨ι,Z,G,e,Z',G',s,eq,k⟩:=l7 F8 h
 refine⟨ι,Z,G,e,Z',G',s,eq,λv ι1 H1 a=>?_⟩
 obtain⟨ty,ι2,Z2,G2,es,Z3,G3,s2,eq2,k2⟩:=k v ι1 H1 a
 cases v with
 | str z =>
  refine⟨z,rfl,lJ ⟨ι2,Z2,G2,es,Z3,G3,s2,eq2,λvs ι3 H3 a3=>?_⟩⟩
  obtain⟨z',p,ys,e1,e2,h1,h2,q⟩:=k2 vs ι3 H3 a3
  cases e1
  exact⟨_,e2,p,ys,rfl,h1,h2,q⟩
 | int _=>exact absurd (show ("str" : String)="int" from ty) (by decide)
 | ref p=>rcases ty with⟨e,_⟩| ⟨e,_⟩| ⟨e,_⟩| ⟨e,_⟩<;>exact absurd e (by decide)
 | _=>exact False.elim ty
abbrev dW:List Ev->Mo Ev:=λes Z G=>match es with
 | [.v (.im (.str y))]=>if y.length≤1000000 then some (.v (.im (.str y)),Z,G) else none
 | _=>none
def Gd:aD K κ (r1 λx H1 Q=>∃y:Str,x=.str y/\y.length≤sizeLine/\Q (.str y) H1) dW:=by
 intro ι H σ Z G es vs e Z' G' Q a h k
 unfold dW at h
 split at h
 ·rename_i y
  split at h
  ·rename_i hy
   obtain⟨v,rfl⟩:=bP a.len
   cases bJ (a.im (j:=0) rfl rfl)
   exact⟨_,rfl,y,rfl,z1c hy (by decide),k _ _ _ (bI h (aS a (.str _)))⟩
  ·cases h
 ·cases h
abbrev gI:List (Mo Ev)->Str->Mo Ev
 | [],acc=>λZ G=>if acc.length≤1000000 then some (.v (.im (.str acc)),Z,G) else none
 | f::fs,acc=>bd f λe=>match e with
  | .v (.im (.str y))=>λZ G=>if (acc++y).length≤1000000 then gI fs (acc++y) Z G else none
  | _=>λ_ _=>none
theorem wy:∀{fs:List (Mo Ev)} {acc:Str} {H:Hp} {Q:VK},aY K κ (gI fs acc) σ H Q->AB (fs.map (aY K κ)) acc σ H Q
 | [],acc,H,Q,h=>by
  obtain⟨ι,Z,G,e,Z',G',s,eq,k⟩:=h
  unfold gI at eq
  split at eq
  ·rename_i hz
   cases eq
   have a:=aS (After.nil s).ar (RpI.str acc)
   exact⟨z1c hz (by decide),k _ _ _ ⟨a.ar,(After.nil s).st.trans a.st⟩⟩
  ·cases eq
 | f::fs,acc,H,Q,h=>by
  obtain⟨ι,Z,G,e,Z',G',s,eq,k⟩:=h
  unfold gI at eq
  obtain⟨x,Z1,G1,e1,eq1⟩:=bY eq
  refine⟨ι,Z,G,x,Z1,G1,s,e1,λv ι1 H1 a=>?_⟩
  split at eq1
  ·rename_i y
   split at eq1
   ·rename_i hz
    cases bJ (a.ar.im (j:=0) rfl rfl)
    obtain⟨p,q⟩:=a.drop
    exact⟨y,rfl,z1c hz (by decide),wy (aY.go p q eq1 k)⟩
   ·cases eq1
  ·cases eq1
abbrev cM(y z:Str):List Ev->Mo Ev:=λes Z G=>match es with
 | [.v (.im (.str w))]=>if w.length+(w.length+1)*z.length≤1000000 then some (.v (.im (.str (Txt.replace w y z))),Z,G) else none
 | _=>none
def Gf{y z:Str}:aD K κ (r1 λx H1 Q=>∃w:Str,x=.str w/\w.length+(w.length+1)*z.length≤1000000/\Q (.str (Txt.replace w y z)) H1) (cM y z):=by
 intro ι H σ Z G es vs e Z' G' Q a h k
 unfold cM at h
 split at h
 ·rename_i w
  split at h
  ·rename_i hz
   obtain⟨v,rfl⟩:=bP a.len
   cases bJ (a.im (j:=0) rfl rfl)
   exact⟨_,rfl,w,rfl,hz,k _ _ _ (bI h (aS a (.str _)))⟩
  ·cases h
 ·cases h
theorem ma:∀(ys:List Str),y4e K ι H (ys.map V.str) (ys.map I.str)
 | []=>.nil
 | y::ys=>.cons (.str y) (ma ys)
abbrev gk(y:Str):List Ev->Mo Ev:=λes Z G=>match es with
 | [.v (.im (.str w))]=>if (y.length == 0)=false/\w.length≤1000000 then some (.v (.ow (.lst ((Txt.split w y).map I.str))),Z,G) else none
 | _=>none
def Gg{y:Str}:aD K κ (r1 λx H1 Q=>l8 x [.str y] H1 Q) (gk y):=by
 intro ι H σ Z G es vs e Z' G' Q a h k
 unfold gk at h
 split at h
 ·rename_i w
  split at h
  ·rename_i hz
   obtain⟨v,rfl⟩:=bP a.len
   cases bJ (a.im (j:=0) rfl rfl)
   exact⟨_,rfl,w,y,rfl,rfl,hz.1,hz.2,λl hl=>k _ _ _ (bI h (fV a hl (ma _)))⟩
  ·cases h
 ·cases h
abbrev wz:SF:=λ_ _=>none
end
section
variable {X:Cx}{κ:Str->Addr}{a b e o:Expr}{es:List Expr}{fa fb:Mo Ev}{fs:Mo (List Ev)}{fl:List (Mo Ev)}{p pos apos yd2:Pos}{k:Nat}{st:Stmt}
def Gh:LS X κ st wz:=.mk λpins s σ H D I h=>by obtain⟨_,_,_,_,_,eq,_⟩:=h;cases eq
def Gi(hg:Gl X x)(hm:∃t,X.mg x=some (.str y t))(hd:(x == ("__debug__" : Str))=false:=by decide):LE X κ (.Name x pos) (ag (.str y)):=by
 obtain⟨t,hm⟩:=hm
 exact oS (v:=.str y) hg hm ⟨t,rfl⟩ (λ_ _=>.str _) hd
def Gj{x:Str}{ys:List Str}(hg:Gl X x)(hm:∃a,X.mg x=some (.ref a)/\ba X.K (λ_=>none) a (ys.map V.str))(hd:(x == ("__debug__" : Str))=false:=by decide):LE X κ (.Name x pos) (ag (.con (ys.map I.str))):=by
 obtain⟨a,hm,hs⟩:=hm
 exact oS (v:=.ref a) hg hm rfl (λ_ _=>.con hs (ma _)) hd
def wA(hr:y4d k X.A)(ha:LE X κ a fa)(hb:LE X κ b fb)(hm:‹behindInMarks .In b=false›):LE X κ (.Compare a [.In] [b] pos) (ai (dm false) fa fb):=lN BN FY ha hb hm
def Gk(hr:y4d k X.A)(ha:LE X κ a fa)(hb:LE X κ b fb)(hm:‹behindInMarks .NotIn b=false›):LT X κ (.Compare a [.NotIn] [b] pos) (ao (ai (dm true) fa fb)):=g6 BO FZ ha hb hm
def wB(hr:y4d k X.A)(ha:LE X κ a fa)(hb:LE X κ b fb)(hm:‹behindInMarks .In b=false›):LT X κ (.Compare a [.In] [b] pos) (ao (ai jT fa fb)):=g6 (FL (by have:=iM hr;show X.A.units+1<cLine;lia)) F6 ha hb hm
def wC(h:LE X κ a fa):LI X κ tg a (cG (one fa) eI):=.mk (oR (CT h.pe) λ_ _ _ q=>lJ (lI F0 q))
def Gm(hr:y4d k X.A)(ho:LE X κ o fa)(ha:LA X κ (e::es) fs)(y1aa:‹attributeBase o "index" X.env (eval o X.env)=eval o X.env›)
  (y1b0:‹((backTo yd2 (starEach (e::es) X.env)).all (λx=>!x.1)&&(backToKw yd2 (keywordEach [] X.env)).all (λx=>x.1.isSome)&&decide ((e::es).length+([]:List Keyword).length+(if ([]:List Keyword).isEmpty then 0 else 1)<30))=true›)
  (y1b6:‹(apos.endLine == yd2.line)=true›) (hs:‹starEach (e::es) X.env=(false,eval e X.env)::starEach es X.env›) (y1b9:‹(backTo yd2 (starEach es X.env)).any (·.1)=false›):LE X κ (.Call (.Attribute o "index" apos) (e::es) [] yd2) (fO iT fa fs):=.mk (aW (kW PySem.F.plainAttrs_str PySem.F.slot_str_index PySem.F.type_str_index FK ho.pe ha.pe y1aa y1b0 y1b6 hs y1b9) λ_ _ _=>l7 F1)
def Gn(hr:y4d k X.A)(hm:X.mg "str" = none)(ha:LA X κ (e::es) fs)(hg:‹Gl X "str"›)(he:‹fM X e es›)(hpl:‹eW X pos es›):LE X κ (.Call (.Name "str" p) (e::es) [] pos) (bd fs iU):=.mk (aW (n5 yae hg hm PyProof.Rows.boot_str ha.pe (by decide) (by decide) he hpl) λ_ _ _ q=>dP F3 q)
def Gp(hr:y4d k X.A)(hm:X.mg "isinstance" = none)(ha:LA X κ (e::es) fs)(hg:‹Gl X "isinstance"›)(he:‹fM X e es›)(hpl:‹eW X pos es›):LE X κ (.Call (.Name "isinstance" p) (e::es) [] pos) (bd fs dD):=.mk (aW (eX ya6 hg hm PyProof.Rows.boot_isinstance ha.pe (by decide) (by decide) he hpl) λ_ _ _ q=>dP F5 q)
def Gq(hv:X.mg "reversed" = none)(ho:LE X κ o fa)(he:LE X κ e fb)(hc:‹X.calm=true›)(gr:‹Gl X "reversed"›)(y1aa:‹attributeBase o "join" X.env (eval o X.env)=eval o X.env›)
  (y1b0:‹((backTo yd2 (starEach [.Call (.Name "reversed" p2) [e] [] q2] X.env)).all (λx=>!x.1)&&(backToKw yd2 (keywordEach [] X.env)).all (λx=>x.1.isSome)
   && decide ([Expr.Call (.Name "reversed" p2) [e] [] q2].length+([]:List Keyword).length+(if ([]:List Keyword).isEmpty then 0 else 1)<30))=true›)
  (y1b6:‹(apos.endLine == yd2.line)=true›) (hs1:‹starEach [e] X.env=[(false,eval e X.env)]›)
  (hs2:‹starEach [.Call (.Name "reversed" p2) [e] [] q2] X.env=[(false,eval (.Call (.Name "reversed" p2) [e] [] q2) X.env)]›) :
  LE X κ (.Call (.Attribute o "join" apos) [.Call (.Name "reversed" p2) [e] [] q2] [] yd2) (fO iV fa (one fb)):=.mk (aW (FO hc gr hv ho.pe he.pe y1aa y1b0 y1b6 hs1 hs2) λ_ _ _=>F9)
def wD(h:LE X κ a fa):LE X κ (.FormattedValue a (-1) none pos) (a6 dW fa):=.mk (aW (FQ h.pe) λ_ _ _ q=>gZ Gd q)
@[irreducible] noncomputable def LJ(X:Cx)(κ:Str->Addr)(es:List Expr)(fl:List (Mo Ev)):Prop:=PJs X es (fl.map (aY X.K κ))
def wF:LJ X κ [] []:=by unfold LJ;exact .nil
def Gr(h:LE X κ a fa)(r:LJ X κ es fl):LJ X κ (a::es) (fa::fl):=by unfold LJ at r ⊢;exact .cons h.pe r
def Gu(h:LJ X κ (a::b::es) fl):LE X κ (.JoinedStr (a::b::es) pos) (gI fl Str.empty):=.mk (by unfold LJ at h;exact aW (FR h) λ_ _ _=>wy)
@[irreducible] noncomputable def LK(X:Cx)(κ:Str->Addr)(e:Expr)(f:Mo Ev):Prop:=kr X e (aY X.K κ f)
def LK.mk(h:kr X a (aY X.K κ fa)):LK X κ a fa:=by unfold LK;exact h
def LK.pe(h:LK X κ a fa):kr X a (aY X.K κ fa):=by unfold LK at h;exact h
def wG(h:LE X κ a fa):LK X κ a fa:=.mk (kr.of h.pe)
def md (ho:LK X κ o fa)(hyz:(y == z)=false:=by decide +kernel)(y1aa:‹attributeBase o "replace" X.env (eval o X.env)=eval o X.env›)(y1b6:‹(apos.endLine == yd2.line)=true›) :
  LK X κ (.Call (.Attribute o "replace" apos) [.Constant (.str y) k1 p1,.Constant (.str z) k2 p2] [] yd2) (a6 (cM y z) fa):=.mk λpins s σ H Q hn I q=>FT ho.pe hyz y1aa y1b6 pins s σ H Q hn I (gZ Gf q)
def wH (ho:LK X κ o fa)(y1aa:‹attributeBase o "split" X.env (eval o X.env)=eval o X.env›)(y1b6:‹(apos.endLine == yd2.line)=true›) :
  LK X κ (.Call (.Attribute o "split" apos) [.Constant (.str y) k1 p1] [] yd2) (a6 (gk y) fa):=.mk λpins s σ H Q hn I q=>FU ho.pe y1aa y1b6 pins s σ H Q hn I (gZ Gg q)
@[irreducible] noncomputable def qK(X:Cx)(κ:Str->Addr)(ss:List Stmt)(f:SF):Prop:=∀(pins:List (Addr×Obj)) (s:Shared) (σ:L2.St) (H:Hp) (D:Ends),1≤s.toks->Inv X pins σ H s->cS X.K κ f D σ H->wpAny (model X.prog X.w) X.A (execs ss X.env) (SP X pins D) X.xe s
def wJ(h:LK X κ a fa):qK X κ [.Return (some a) pos] (ax fa):=by
 unfold qK
 intro pins s σ H D hn I q
 refine wpAny_execs_cons (wpAny_Return_some (aN (h.pe pins s σ H _ hn I (uh q)) λv s1 zz=>?_))
 obtain⟨x,H1,I1,r1,q1⟩:=zz
 exact⟨x,σ,H1,I1,r1,q1⟩
end
section
variable {P:Program}{w:World}{K:W.Frag}{mg:Str->Option Value}{base:Heap}{κ:Str->Addr}
def wK{x qual:Str}{st:Stmt}{f:Addr}{fd:FuncData}{N ps0:List Str}{p0:Str}{k n r:Nat}{body:SF}(F:Fun K x qual st f fd)(S:y40 N (p0::ps0) (bo st))(h0:(bo st).names.lookup p0=some .local)(hn:(p0::ps0).length=n)(hN:N.length=n+r)
  (hb:∀(cdv:Value) (A:Around) (outer:List Env) (s:Shared) (H:Hp) (E:XK),y4d k (A.deeper (envOfC qual (bo st) s.heap.objs.size f cdv))->qK (eh bG P w K mg base N qual (bo st) f cdv A outer s H E).nox κ (jy st) body) :
  y3f P w K mg base bG (k+1) f fd (p0::ps0) (aP K κ n (aT n r body)):=by
 obtain⟨oc,od,kV,doc,pm,an,cdv,ct,osl,rfl,lk,hcd⟩:=F.ex
 refine⟨λvs H Q E h=>by rw [(lG h).1,hn],λA outer s H args us vs Q E hr e0 hbd rv hsp=>?_⟩
 obtain⟨hl,q⟩:=lG hsp
 have hl':vs.length=(p0::ps0).length:=by rw [hl,hn]
 have KX:K.In s.heap:=e0.mod.kin.keeps λb o e=>(e0.bs b o e).1
 have lim:s.heap.NoLimit:=e0.mod.nolimit.keeps λb o e=>(e0.bs b o e).1
 have hlu:us.length=(p0::ps0).length:=by rw [<- rv.length];exact hl'
 obtain⟨u0,us0,rfl⟩:∃u0 us0,us=u0::us0:=by cases us with
  | nil=>cases hlu
  | cons u0 us0=>exact⟨_,_,rfl⟩
 have y1b5:∀y∈(p0::ps0).zip (u0::us0),(bo st).names.lookup y.1=some .local∨((bo st).names.lookup y.1=some .cell/\((cellsFrom (s.heap.objs.size+1) (bo st).names []).lookup y.1).isSome=true):=λzz hy=>by
  obtain⟨n,v⟩:=zz
  rcases S.par n (List.of_mem_zip hy).1 with q|q
  ·exact .inl q
  ·exact .inr ⟨q,W.cellsFrom_some _ _ _ (.inl q)⟩
 refine codeAny_call_function hr.depth (KX _ _ lk) rfl S.co S.gen rfl (W.codeRec_of KX hcd) (hbd _ _ _ _ ?_)
 refine FX S.kind h0 y1b5 λenv he s1 xx tk=>?_
 subst he
 refine⟨lim.keeps xx.toInCall.keep,codeAny_func ?_⟩
 have I:Inv (eh bG P w K mg base N qual (bo st) f cdv A outer s H E) [] (L2.start N vs) H s1:=se S hr.hd e0 hl' rv xx
 have hq:cS K κ body { nx:=λ_ H'=>Q .non H',rt:=Q } (L2.start N vs) H:=by
  unfold L2.start
  have e:N.length-vs.length=r:=by lia
  rw [e];exact q
 have hb':=hb cdv A outer s H E (hr.deeper _)
 unfold qK at hb'
 refine wpAny_mono (hb' [] s1 (L2.start N vs) H _ tk (I.y51c _) hq) (λfl s' hs=>?_) λe s' hs=>False.elim hs
 have hs:=hs.y4cd
 have fin:∀{σ':L2.St} {H':Hp} {v:V} {u:Value},Inv (eh bG P w K mg base N qual (bo st) f cdv A outer s H E) [] σ' H' s'->ay v u->Q v H'->CE outer P w H s Q u s' :=
  λ{σ' H' v u} J rv q=>⟨v,H',J.os,J.bare,J.base,J.hok,rv,q⟩
 cases fl with
 | ret u =>
  obtain⟨v,σ',H',J,rv,q⟩:=hs
  exact fin J rv q
 | next =>
  obtain⟨σ',H',J,q⟩:=hs
  exact fin (v:=V.non) J rfl q
 | brk =>
  obtain⟨_,_,_,q⟩:=hs
  exact False.elim q
 | cont =>
  obtain⟨_,_,_,q⟩:=hs
  exact False.elim q
end
end
section
section
variable {K:W.Frag}{κ:Str->Addr}{ι:List Addr}{H:Hp}{σ:L2.St}
abbrev iW:List Ev->Mo Ev:=λes Z G=>match es with
 | [.v (.im (.str w)),.v (.im (.str y))]=>if (y.length == 0)=false/\w.length≤1000000 then some (.v (.ow (.lst ((Txt.split w y).map I.str))),Z,G) else none
 | _=>none
def Gv:aD K κ (rM l8) iW:=by
 intro ι H σ Z G es vs e Z' G' Q a h k
 unfold iW at h
 split at h
 ·rename_i w y
  split at h
  ·rename_i hz
   obtain⟨v,u,rfl⟩:=bH a.len
   cases bJ (a.im (j:=0) rfl rfl)
   cases bJ (a.im (j:=1) rfl rfl)
   exact⟨_,_,rfl,w,y,rfl,rfl,hz.1,hz.2,λl hl=>k _ _ _ (bI h (fV a hl (ma _)))⟩
  ·cases h
 ·cases h
end
section
variable {X:Cx}{κ:Str->Addr}{a b e o:Expr}{es:List Expr}{fa fb:Mo Ev}{fs:Mo (List Ev)}{p pos apos yd2:Pos}{k:Nat}
def Gw(hr:y4d k X.A)(ho:LE X κ o fa)(ha:LA X κ (e::es) fs)(y1aa:‹attributeBase o "split" X.env (eval o X.env)=eval o X.env›)
  (y1b0:‹((backTo yd2 (starEach (e::es) X.env)).all (λx=>!x.1)&&(backToKw yd2 (keywordEach [] X.env)).all (λx=>x.1.isSome)&&decide ((e::es).length+([]:List Keyword).length+(if ([]:List Keyword).isEmpty then 0 else 1)<30))=true›)
  (y1b6:‹(apos.endLine == yd2.line)=true›) (hs:‹starEach (e::es) X.env=(false,eval e X.env)::starEach es X.env›) (y1b9:‹(backTo yd2 (starEach es X.env)).any (·.1)=false›):LE X κ (.Call (.Attribute o "split" apos) (e::es) [] yd2) (fO iW fa fs):=.mk (aW (kW PySem.F.plainAttrs_str PySem.F.slot_str_split PySem.F.type_str_split wt ho.pe ha.pe y1aa y1b0 y1b6 hs y1b9) λ_ _ _=>l7 Gv)
end
end
end B
namespace L2
open PySem PySem.Spec PyProof.Rows
section
section
variable {X:Cx}
def wL(hu:X.A.in1.units<cLine):bT X (compareOp .In) (λx y H Q=>∃a ys p xs,x=.ref a/\ba X.K H a ys/\y=.ref p/\ba X.K H p xs/\xs.all bj=true/\Q (.bl false) H):=by
 intro pins s σ H x y v u Q I rx ry h
 obtain⟨a,ys,p,xs,rfl,ha,rfl,hq,fs,q⟩:=h
 cases rx;cases ry
 obtain⟨as,_,pa,_⟩:=I.tuple ha
 obtain⟨its,r,pl,hz⟩:=I.tuple hq
 have pa:s.heap.IsTuple a as.toArray:=pa
 have go:∀{xs:List V} {us:List Value},au xs us->xs.all bj=true->∀u∈us,SeqAt.EqAt X.A.in1 s u (.ref a) false:=λ{xs us} r=>by
  induction r with
  | nil=>exact λ_ u hu=>by cases hu
  | cons r1 r2 ih =>
   intro f
   rw [List.all_cons,z1b] at f
   intro u hu'
   rcases z1d.mp hu' with rfl|hu'
   ·rename_i x _ _
    have hf:=f.1
    cases x with
    | non=>cases r1;exact SeqAt.EqAt.none_tuple pa hu
    | bl b=>cases r1;exact SeqAt.EqAt.bool_tuple _ pa hu
    | int i=>obtain⟨t,rfl⟩:=r1;exact SeqAt.EqAt.int_tuple _ _ pa hu
    | str z=>obtain⟨t,rfl⟩:=r1;exact SeqAt.EqAt.str_tuple _ _ pa hu
    | _=>cases hf
   ·exact ih f.2 u hu'
 refine SeqAt.in_tupleAt (λ_=>false) (show s.heap.IsTuple p its.toArray from pl) (λw hw=>go r fs w (by simpa using hw)) ⟨.bl _,H,I,rfl,?_⟩
 rw [show its.toArray.any (λ_=>false)=false by simp]
 exact q
end
end
end L2
namespace B
open PySem PySem.Spec PyProof.Rows L2
section
section
variable {X:Cx}{K:W.Frag}{κ:Str->Addr}{ι:List Addr}{H:Hp}{σ:L2.St}
abbrev pE:List Ev->Mo Ev:=λes Z G=>match es with
 | [.v (.im (.tup _)),.v (.im (.tup xs))]=>if xs.all bK then some (.v (.im (.bl false)),Z,G) else none
 | _=>none
abbrev Gx:List Ev->Mo Ev:=bR (ip false) pE
def wM{vs:List V}{xs:List I}(r:y4e K ι H vs xs)(h:xs.all bK=true):vs.all bj=true:=by
 induction xs generalizing vs with
 | nil=>cases r;rfl
 | cons x xs ih =>
  cases r with
  | cons r1 r2 =>
   rw [List.all_cons,z1b] at h
   rw [List.all_cons,eE r1 h.1,ih r2 h.2];rfl
def Gy:aD K κ (r2 λx y H Q=>∃a ys p xs,x=.ref a/\ba K H a ys/\y=.ref p/\ba K H p xs/\xs.all bj=true/\Q (.bl false) H) pE:=by
 intro ι H σ Z G es vs e Z' G' Q a h k
 unfold pE at h
 split at h
 ·rename_i ys xs
  split at h
  ·rename_i hf
   cases h
   obtain⟨v,u,rfl⟩:=bH a.len
   have r1:=a.im (j:=0) rfl rfl
   have r2:=a.im (j:=1) rfl rfl
   cases r1 with
   | tup h1 h2=>cases r2 with
    | tup g1 g2=>exact⟨_,_,rfl,_,_,_,_,rfl,ba.of h1,rfl,ba.of g1,wM g2 hf,k _ _ _ (aS a (.bl _))⟩
  ·cases h
 ·cases h
end
section
variable {X:Cx}{κ:Str->Addr}{a b o v:Expr}{c f:Str}{fa fb:Mo Ev}{apos yd2 tpos pos:Pos}{k:Nat}
def Ku(hr:y4d k X.A)(ha:LE X κ a fa)(hb:LE X κ b fb)(hm:‹behindInMarks .In b=false›):LT X κ (.Compare a [.In] [b] pos) (ao (ai Gx fa fb)):=.mk (fj (lM (gP kU ha.pe hb.pe hm) (gP (wL (by have:=iM hr;show X.A.units+1<cLine;lia)) ha.pe hb.pe hm)) λ_ _ _ h=>jQ lY Gy (g5 h))
end
end
end B
namespace L2
open PySem PySem.Spec PyProof.Rows
section
def ya5{X:Cx}:y6 X (.type "int") (λxs H Q=>∃x n,xs=[.str x]/\PySem.intText? x=some n/\x.length≤640/\Q (.int n) H):=by
 intro pins s σ H xs us Q I r h
 obtain⟨x,n,rfl,hn,hl,q⟩:=h
 obtain⟨u,rfl,t,rfl⟩:=cb r
 exact W.KIN.call_text hn hl ⟨.int n,H,I.tok _,⟨_,rfl⟩,q⟩
end
end L2
namespace B
open PySem PySem.Spec PyProof.Rows L2
section
theorem mf{α β:Type}{F:α->β->Prop}:∀{a:List α} {b:List β} {i:Nat} {y:β},Paired F a b->b[i]?=some y->∃x,a[i]?=some x/\F x y
 | _,_,_,_,.nil,e=>by simp at e
 | _,_,0,_,.cons h _,e=>by simp at e;subst e;exact⟨_,rfl,h⟩
 | _,_,i+1,y,.cons _ r,e=>by
  obtain⟨x,h1,h2⟩:=mf r (by simpa using e)
  exact⟨x,by simpa using h1,h2⟩
section
variable {K:W.Frag}{κ:Str->Addr}{ι:List Addr}{H:Hp}{D:Ends}{σ:L2.St}
abbrev gm:List Ev->Mo Ev:=λes Z G=>match es with
 | [.v (.im (.str x))]=>match PySem.intText? x with
  | some n=>if x.length≤640 then some (.v (.im (.int n)),Z,G) else none
  | none=>none
 | _=>none
def Gz:aD K κ (λxs H Q=>∃x n,xs=[.str x]/\PySem.intText? x=some n/\x.length≤640/\Q (.int n) H) gm:=by
 intro ι H σ Z G es vs e Z' G' Q a h k
 unfold gm at h
 split at h
 ·rename_i x
  split at h
  ·rename_i n hn
   split at h
   ·rename_i hl
    obtain⟨v,rfl⟩:=bP a.len
    cases bJ (a.im (j:=0) rfl rfl)
    exact⟨x,n,rfl,hn,hl,k _ _ _ (bI h (aS a (.int _)))⟩
   ·cases h
  ·cases h
 ·cases h
abbrev pF:List Ev->Mo Ev:=λes Z G=>match es with
 | [.v (.im (.tup _)),.v (.im (.con xs))]=>if xs.all bK then some (.v (.im (.bl false)),Z,G) else none
 | _=>none
abbrev gn:List Ev->Mo Ev:=bR (ip false) pF
def GA:aD K κ (r2 λx y H Q=>∃a ys p xs,x=.ref a/\ba K H a ys/\y=.ref p/\ba K H p xs/\xs.all bj=true/\Q (.bl false) H) pF:=by
 intro ι H σ Z G es vs e Z' G' Q a h k
 unfold pF at h
 split at h
 ·rename_i ys xs
  split at h
  ·rename_i hf
   cases h
   obtain⟨v,u,rfl⟩:=bH a.len
   have r1:=a.im (j:=0) rfl rfl
   have r2:=a.im (j:=1) rfl rfl
   cases r1 with
   | tup h1 h2=>cases r2 with
    | con g1 g2=>exact⟨_,_,rfl,_,_,_,_,rfl,ba.of h1,rfl,ba.kon g1,wM g2 hf,k _ _ _ (aS a (.bl _))⟩
  ·cases h
 ·cases h
abbrev iX(w i j:Nat):SF:=λZ G=>match (Z[w]?:Option (Option Vl)),(Z[i]?:Option (Option Vl)),(Z[j]?:Option (Option Vl)) with
 | some (some (.ow (.lst xs))),some (some (.im (.int a))),some (some (.im (.int b)))=>match ei xs.length a,ei xs.length b with
  | some ia,some ib=>match xs[ia]?,xs[ib]? with
   | some da,some db=>some (.nx (Z.set w (some (.ow (.lst ((xs.set ia db).set ib da))))) G)
   | _,_=>none
  | _,_=>none
 | _,_,_=>none
def y7b{α:Type}{xs:List α}{a:Int}{j:Nat}{v:α}(h:ei xs.length a=some j)(hv:xs[j]?=some v):cB xs a=some v:=by
 unfold cB;rw [h];exact hv
def GB{w i j:Nat}(h:cS K κ (iX w i j) D σ H):fP (kN (cR (kj (sW K) (cQ w) (cQ j)) (cR (kj (sW K) (cQ w) (cQ i)) gR))) (rH K 2 (nN (kI (cQ w) (cQ i) kT) (nN (kI (cQ w) (cQ j) kT) rF))) D σ H:=by
 obtain⟨ι,Z,G,fl,s,eq,k⟩:=h
 unfold iX at eq
 split at eq
 ·rename_i xs a b e1 e2 e3
  split at eq
  ·rename_i ia ib h1 h2
   split at eq
   ·rename_i da db h3 h4
    cases eq
    obtain⟨xw,w1,w2⟩:=mf s.sl e1
    obtain⟨xi,i1,i2⟩:=mf s.sl e2
    obtain⟨xj,j1,j2⟩:=mf s.sl e3
    cases i2 with
    | im i2 =>
    cases j2 with
    | im j2 =>
    cases cF i2
    cases cF j2
    cases w2 with
    | @ow c m hm =>
    obtain⟨vs,hc,r⟩:=hm
    have l:=r.len
    obtain⟨va,a1,r1⟩:=r.at (y7b h1 h3)
    obtain⟨vb,a2,r2⟩:=r.at (y7b h2 h4)
    refine⟨_,w1,_,j1,.inl ⟨_,_,_,vb,rfl,rfl,bu.of hc,a2,?_⟩⟩
    refine⟨_,w1,_,i1,.inl ⟨_,_,_,va,rfl,rfl,bu.of hc,a1,?_⟩⟩
    refine⟨(show (2:Nat)≤sizeLine by decide),λp hp=>?_⟩
    have sm:dz H (upd H p (.tup [vb,va])):=dz.lay hp
    have hc1:upd H p (.tup [vb,va]) c=some (.lst vs):=sm _ _ hc
    refine⟨p,[vb,va],rfl,ba.of bf,rfl,vb,[va],rfl,_,w1,_,i1,c,vs,a,ia,rfl,rfl,hc1,by rw [l];exact h1,va,[],rfl,_,w1,_,j1,c,vs.set ia vb,b,ib,rfl,rfl,bf,by rw [z29,l];exact h2,rfl,?_⟩
    rw [qX]
    have s1:=s.same sm
    have ar:Args K κ ι (upd H p (.tup [vb,va])) σ Z G [.s w] [.ref c]:=⟨s.len,by show SR K κ ι _ (σ++[]) (Z++[]) G;rw [z10,z10];exact s1,.cons (λi h=>by cases h;exact w1) .nil⟩
    have f:=lE (m:=.lst xs) (m':=.lst ((xs.set ia db).set ib da)) (b:=c) (o:=.lst ((vs.set ia vb).set ib va)) ar (j:=0) rfl rfl (by unfold B.pk;dsimp only;rw [e1]) (λ_ kp=>⟨_,bf,(((r.mono (bV.refl _) (Kp.same sm)).set ia (r2.mono (bV.refl _) (Kp.same sm))).set ib (r1.mono (bV.refl _) (Kp.same sm))).mono (bV.refl _) kp⟩) RpI.non
    obtain⟨z1,z2⟩:=f.drop
    refine k _ _ _ z1 ((Step.same sm).trans (z2.wide λy hy=>?_))
    have hy:y∈own (σ++[]) (Z++[])++ι:=hy
    rw [z10,z10] at hy
    exact hy
   ·cases eq
  ·cases eq
 ·cases eq
end
section
variable {X:Cx}{κ:Str->Addr}{a b e:Expr}{es:List Expr}{fa fb:Mo Ev}{fs:Mo (List Ev)}{p pos:Pos}{k:Nat}{f:SF}{g:GF}{ss:List Stmt}{tg:Expr}
def GC(hr:y4d k X.A)(hm:X.mg "int" = none)(ha:LA X κ (e::es) fs)(hg:‹Gl X "int"›)(he:‹fM X e es›)(hpl:‹eW X pos es›):LE X κ (.Call (.Name "int" p) (e::es) [] pos) (bd fs gm):=.mk (aW (n5 ya5 hg hm PyProof.Rows.boot_int ha.pe (by decide) (by decide) he hpl) λ_ _ _ q=>dP Gz q)
def wN(hr:y4d k X.A)(ha:LE X κ a fa)(hb:LE X κ b fb)(hm:‹behindInMarks .In b=false›):LT X κ (.Compare a [.In] [b] pos) (ao (ai gn fa fb)):=.mk (fj (lM (gP kU ha.pe hb.pe hm) (gP (wL (by have:=iM hr;show X.A.units+1<cLine;lia)) ha.pe hb.pe hm)) λ_ _ _ h=>jQ lY GA (g5 h))
def wO{w i j:Nat}{xw xi xj:Str}{p1 p2 p3 p4 p5 p6 p7 p8 p9 pA pB pC pD:Pos}{kt k2:Nat}(h1:‹X.N[w]?=some xw›)(h2:‹X.N[i]?=some xi›)(h3:‹X.N[j]?=some xj›)(n1:(xw == ("__debug__" : Str))=false:=by decide)(n2:(xi == ("__debug__" : Str))=false:=by decide)(n3:(xj == ("__debug__" : Str))=false:=by decide)(m1:(xw == ("__classdict__" : Str))=false:=by decide)(m2:(xi == ("__classdict__" : Str))=false:=by decide)(m3:(xj == ("__classdict__" : Str))=false:=by decide)
  (v1:‹X.env.scope.names.lookup xw=some .local›) (v2:‹X.env.scope.names.lookup xi=some .local›) (v3:‹X.env.scope.names.lookup xj=some .local›) (hc:‹X.calm=true›)
  (hs:‹swapsWithSole [.Tuple [.Subscript (.Name xw p1) (.Name xi p2) p3,.Subscript (.Name xw p4) (.Name xj p5) p6] kt p7] (.Tuple [.Subscript (.Name xw p8) (.Name xj p9) pA,.Subscript (.Name xw pB) (.Name xi pC) pD] k2 p) pos.line X.env=pure false›)
  (hw:‹swappedStores [.Tuple [.Subscript (.Name xw p1) (.Name xi p2) p3,.Subscript (.Name xw p4) (.Name xj p5) p6] kt p7] (.Tuple [.Subscript (.Name xw p8) (.Name xj p9) pA,.Subscript (.Name xw pB) (.Name xi pC) pD] k2 p) X.env=pure none›) :
  LS X κ (.Assign [.Tuple [.Subscript (.Name xw p1) (.Name xi p2) p3,.Subscript (.Name xw p4) (.Name xj p5) p6] kt p7] (.Tuple [.Subscript (.Name xw p8) (.Name xj p9) pA,.Subscript (.Name xw pB) (.Name xi pC) pD] k2 p) pos) (iX w i j) :=
 .mk (cT (iB (jq (bU (og oh (eB h1 (.inl v1) n1 m1) (eB h3 (.inl v3) n3 m3) (λ_ _=>rfl)) (bU (og oh (eB h1 (.inl v1) n1 m1) (eB h2 (.inl v2) n2 m2) (λ_ _=>rfl)) dJ)))
  (Bu hc (rG (nP (eB h1 (.inl v1) n1 m1) (eB h2 (.inl v2) n2 m2) dM) (rG (nP (eB h1 (.inl v1) n1 m1) (eB h3 (.inl v3) n3 m3) dM) Bt))) hs hw) λ_ _ _=>GB)
def wQ(h:LK X κ a fa)(hg:LG X κ tg g)(hr:fX X κ ss f)(hs:‹swapsWithSole [tg] a pos.line X.env=pure false›)(hw:‹swappedStores [tg] a X.env=pure none›)
  (h1:‹(assignEach [tg] X.env).map (·.2)=[assign tg X.env]›):qK X κ (.Assign [tg] a pos::ss) (ak (aM fa g) f):=by
 unfold qK
 intro pins s σ H D hn I q
 have q1:=oI (uf q)
 refine wpAny_execs_cons (wpAny_Assign_stores (aN (h.pe pins s σ H _ hn I q1) λv s1 ⟨x,H1,I1,r1,q2⟩=>?_) hs hw)
 rw [h1]
 refine aN (hg.pe pins s1 σ H1 x v _ I1 r1 q2) λ_ s2 q3=>?_
 obtain⟨σ',H',I',q4⟩:=q3
 exact hr.pe pins s2 σ' H' D I' q4
end
end
end B
namespace PySem
abbrev iY(h:Heap)(C:Addr)(newId:String)(bm:List Value)(mN:Str->Option Value):Prop :=
 ∃nm q N bs y1af sn sub ab col dd k0 k1 k2 k3 k5,h.get? C=some (excClassObj nm q C N bs bm y1af sn sub ab col dd k0 k1 k2 k3 k5 newId)/\h.Ns N mN
abbrev mh(h:Heap)(C:Addr)(bm:List Value):Prop:=∃nm q N bs y1af sn sub ab col dd k0 k1 k2 k3 k5 newId,h.get? C=some (excClassObj nm q C N bs bm y1af sn sub ab col dd k0 k1 k2 k3 k5 newId)
abbrev fA(h:Heap)(C:Addr)(aG:List Value):Heap:=(h.push { cls:=.type "tuple",data:=.seq aG.toArray }).push { cls:=.ref C,data:=.fields #[.ref h.objs.size,.none,.none,.none,.bool false,.none] }
section
variable {P:Program}{w:World}{A:Around}{E:Value->Shared->Prop}{h h':Heap}{g:Array GenState}{d:Drawn}{t:Nat}{os:OsState}
variable {C f x:Addr}{bm bl:List Value}{mN:Str->Option Value}{newId:String}{us:List Value}{of ox:Obj}
def wR{b:Addr}{o:Obj}(q:h.get? b=some o):(fA h C us).get? b=some o:=zd _ (zd _ q)
def wU:(fA h C us).get? (h.objs.size+1)=some { cls:=.ref C,data:=.fields #[.ref h.objs.size,.none,.none,.none,.bool false,.none] }:=by unfold fA;heap_get
def iY.keeps(c:iY h C newId bm mN)(k:∀b o,h.get? b=some o->h'.get? b=some o):iY h' C newId bm mN :=
 let ⟨nm,q,N,bs,y1af,sn,sub,ab,col,dd,k0,k1,k2,k3,k5,hC,on,es,ep,e,r⟩:=c
 ⟨nm,q,N,bs,y1af,sn,sub,ab,col,dd,k0,k1,k2,k3,k5,k _ _ hC,on,es,ep,k _ _ e,r⟩
def iY.finds{n:Str}{v:Value}{Q:Option Value->Shared->Prop}(c:iY h C newId bm mN)(hv:mN n=some v)(k:Q (some v) ⟨h,g,d,t,os⟩):wpAny (model P w) A (typeLookup (.ref C) n) Q E ⟨h,g,d,t,os⟩:=by
 obtain⟨nm,q,N,bs,y1af,sn,sub,ab,col,dd,k0,k1,k2,k3,k5,hC,hn⟩:=c
 rw [typeLookup_eq]
 refine za (wpAny_mroOf_exc hC ?_)
 rw [lookupAlong_cons]
 exact za (wpAny_classOwn_exc hC hn (by rw [hv];exact ze k))
def iY.isOne{Q:Bool->Shared->Prop}(c:iY h C newId bm mN)(hx:h.get? x=some ox)(hc:ox.cls=.ref C)(k:Q true ⟨h,g,d,t,os⟩):wpAny (model P w) A (isInstance (.ref x) (.ref C)) Q E ⟨h,g,d,t,os⟩:=by
 obtain⟨nm,q,N,bs,y1af,sn,sub,ab,col,dd,k0,k1,k2,k3,k5,hC,hn⟩:=c
 have own:(Value.ref C::bm).contains (.ref C)=true:=by rw [List.contains_cons];simp
 unfold isInstance
 repeat (first|with_reducible refine wpAny_loadPart_at hx ?_|wp_step)
 rw [hc]
 refine wpAny_isSubtype_exc hC ?_
 rw [own];exact k
def iY.inits{Q:Option Value->Shared->Prop}(c:iY h C newId bm mN)(hi:mN "__init__" = some (.ref f))(hf:h.get? f=some of)(hff:of.cls=.type "function")(hx:h.get? x=some ox)(hc:ox.cls=.ref C)
  (k:codeAny (model P w) A (.call (.ref f) ⟨.ref x::us,[]⟩) (λr s'=>match r with | .ok (.ret v)=>Q (some v) s' | .error e=>E e s'|_=>False) ⟨h,g,d,t,os⟩) :
  wpAny (model P w) A (callSpecial? (.ref x) "__init__" us []) Q E ⟨h,g,d,t,os⟩:=by
 unfold callSpecial?
 repeat (first|with_reducible refine wpAny_loadPart_at hx ?_|wp_step)
 rw [hc]
 refine c.finds hi (wpAny_holding (za (wpAny_bindSpecial_def (s:=⟨h,g,d,t,os⟩) hf hff (za (wpAny_call (codeAny_mono k λr s' z=>?_))))))
 match r,z with
 | .error _,z=>exact z
 | .ok (.ret _),z=>exact ze z
def iY.makes{Bn B nid y1cb inN:String}{bmN:List Value}(Fn:ExcBaseFacts Bn newId inN bmN)(hB:bl.contains (.type Bn)=true)(F:ExcBaseFacts B nid y1cb bl)(T:OwnTail h bl bm)(c:iY h C newId bm mN)(hi:mN "__init__" = some (.ref f))
  (hf:h.get? f=some of) (hff:of.cls=.type "function") (hz:us.length≤sizeLine) {Q:Value->Shared->Prop}
  (k:codeAny (model P w) (A.under (.builtin "type.__call__" ⟨.ref C::us,[]⟩)) (.call (.ref f) ⟨.ref (h.objs.size+1)::us,[]⟩) (λr s'=>match r with | .ok (.ret v)=>v=.none/\Q (.ref (h.objs.size+1)) s' | .error e=>E e s'|_=>False) ⟨fA h C us,g,d,t,os⟩) :
  wpAny (model P w) A (call (.ref C) us) Q E ⟨h,g,d,t,os⟩:=by
 have c2:iY (fA h C us) C newId bm mN:=c.keeps λb o q=>wR q
 obtain⟨nm,q,N,bs,y1af,sn,sub,ab,col,dd,k0,k1,k2,k3,k5,hC,hn⟩:=c
 have l1:=tc_lookup
 have l2:=tc_bind (.ref C)
 refine wpAny_call (codeAny_of_tree ?_)
 have ty:(⟨h,g,d,t,os⟩:Shared).TypeIs (.ref C) "type":=⟨_,hC,rfl⟩
 show wpAny _ _ (callAny (.ref C) _) _ _ _
 repeat (any_goals (first|assumption|with_reducible refine wpAny_loadPart_at hC ?_|wp_step))
 refine⟨rfl,codeAny_call_builtin_at (Code.quiet_builtin _ (by decide +kernel)) entry_typeCall (wpAny_check_type_call_sub hC ?_)⟩
 repeat (first|with_reducible refine wpAny_loadPart_at hC ?_|with_reducible refine wpAny_madeBy_exc hC ?_|wp_step)
 refine codeAny_call_builtin_code (Code.quiet_builtin _ Fn.quiet) (wpAny_check_new_subU Fn hB T hC (codeAny_exc_new_subU (hrest:=hz) Fn hB F T hC ?_))
 refine za (c2.isOne wU rfl ?_)
 refine za (wpAny_holding (c2.inits hi (wR hf) hff wU rfl (codeAny_mono k λr s' z=>?_)))
 match r,z with
 | .error _,z=>exact z
 | .ok (.ret _),⟨rfl,z⟩=>exact ze z
end
end PySem
namespace PySem
def GD(o:Obj)(f):(o.mapFields f).dict=o.dict:=by obtain⟨c,d,dt,sl⟩:=o;cases dt<;>rfl
abbrev Ch(cs fs:List Addr)(h h':Heap):Prop:=∀b o,h.get? b=some o->b∉cs->∃sl,h'.get? b=some { o with slots:=sl }/\(b∉fs->sl=o.slots)
namespace Ch
variable {cs ds fs:List Addr}{h h1 h2:Heap}
def same(k:∀b o,h.get? b=some o->b∉cs->h1.get? b=some o):Ch cs fs h h1:=λb o q n=>⟨o.slots,k b o q n,λ_=>rfl⟩
theorem slots(k:Heap.SlotsOnly fs h h1):Ch cs fs h h1:=λb o q _=>by
 by_cases m:b∈fs
 ·obtain⟨sl,r⟩:=k.2.2 b o q;exact⟨sl,r,λn=>absurd m n⟩
 ·exact⟨o.slots,(k.2.1 b m).trans q,λ_=>rfl⟩
theorem push(o:Obj):Ch cs fs h (h.push o):=same λ_ _ q _=>zd o q
def upd{a:Addr}(f:Obj->Obj)(m:a∈cs):Ch cs fs h (h.update a f):=same λb _ q n=>(Heap.get?_update_other h f (a:=a) (b:=b) λz=>n (by rw [<- z];exact m)).trans q
theorem trans(x:Ch cs fs h h1)(y:Ch cs fs h1 h2):Ch cs fs h h2:=λb o q n=>by
 obtain⟨s1,r1,k1⟩:=x b o q n
 obtain⟨s2,r2,k2⟩:=y b _ r1 n
 exact⟨s2,r2,λz=>(k2 z).trans (k1 z)⟩
def mono(x:Ch cs fs h h1)(k:∀b∈cs,b∈ds):Ch ds fs h h1:=λb o q n=>x b o q λz=>n (k b z)
end Ch
abbrev Ex(h:Heap)(e:Addr)(c:Value)(dct:Option Addr)(a0 hd:Value):Prop:=∃vs sl,h.get? e=some { cls:=c,dict:=dct,data:=.fields vs,slots:=sl }/\vs[0]?=some a0/\vs[1]?=some hd
abbrev En(h:Heap)(T:Addr)(fl:Value):Prop:=∃o ts,h.get? T=some o/\o.data=.fields ts/\ts[3]?=some fl
section
variable {M:Model}{A:Around}{E:Value->Shared->Prop}{s:Shared}{h h1:Heap}{cs fs:List Addr}{e T:Addr}{c a0 hd v:Value}{dct:Option Addr}
def Ex.ch(x:Ex h e c dct a0 hd)(k:Ch cs fs h h1)(n:e∉cs):Ex h1 e c dct a0 hd:=let ⟨_,_,q,r⟩:=x;let ⟨sl,q1,_⟩:=k e _ q n;⟨_,sl,q1,r⟩
def En.ch(x:En h T v)(k:Ch cs fs h h1)(n:T∉cs):En h1 T v:=let ⟨_,ts,q,r⟩:=x;let ⟨_,q1,_⟩:=k T _ q n;⟨_,ts,q1,r⟩
def Ex.put(x:Ex h e c dct a0 hd)(w:Value):Ex (h.update e (Obj.mapFields λa=>a.setIfInBounds 1 w)) e c dct a0 w:=by
 obtain⟨vs,sl,q,q0,q1⟩:=x
 have l1:1<vs.size:=by rcases Array.getElem?_eq_some_iff.mp q1 with⟨l,_⟩;exact l
 exact⟨vs.setIfInBounds 1 w,sl,Heap.get?_update_self _ q rfl,by rw [Array.getElem?_setIfInBounds];simpa using q0,by rw [Array.getElem?_setIfInBounds];simp [l1]⟩
def En.put(x:En h T v)(w:Value):En (h.update T (Obj.mapFields λa=>a.setIfInBounds 3 w)) T w:=by
 obtain⟨⟨oc,od,_,os⟩,ts,q,rfl,q3⟩:=x
 have l3:3<ts.size:=by rcases Array.getElem?_eq_some_iff.mp q3 with⟨l,_⟩;exact l
 exact⟨_,ts.setIfInBounds 3 w,Heap.get?_update_self _ q rfl,rfl,by rw [Array.getElem?_setIfInBounds];simp [l3]⟩
def Ex.get{Q:Value->Shared->Prop}(x:Ex s.heap e c dct a0 hd)(k:Q hd s):wpAny M A (field (.ref e) 1) Q E s:=let ⟨_,_,q,_,q1⟩:=x;wpAny_field q rfl q1 k
def En.get{Q:Value->Shared->Prop}(x:En s.heap T v)(k:Q v s):wpAny M A (field (.ref T) 3) Q E s:=let ⟨_,_,q,d,q3⟩:=x;wpAny_field q d q3 k
def Ex.set{Q:Unit->Shared->Prop}{w:Value}(x:Ex s.heap e c dct a0 hd)(k:∀h',Ch [e] fs s.heap h'->Ex h' e c dct a0 w->Q () { s with heap:=h' }):wpAny M A (setField (.ref e) 1 w) Q E s:=by
 have k:=k _ (.upd _ (z15.mpr rfl)) (x.put w)
 obtain⟨_,_,q,_,q1⟩:=x
 exact wpAny_setField q rfl (by rcases Array.getElem?_eq_some_iff.mp q1 with⟨l,_⟩;exact l) k
def En.set{Q:Unit->Shared->Prop}{w:Value}(x:En s.heap T v)(k:∀h',Ch [T] fs s.heap h'->h'.objs.size=s.heap.objs.size->En h' T w->Q () { s with heap:=h' }):wpAny M A (setField (.ref T) 3 w) Q E s:=by
 have k:=k _ (.upd _ (z15.mpr rfl)) (Heap.size_update _ _ _) (x.put w)
 obtain⟨_,_,q,d,q3⟩:=x
 exact wpAny_setField q d (by rcases Array.getElem?_eq_some_iff.mp q3 with⟨l,_⟩;exact l) k
variable {base:Heap}{env:Env}{outer:List Env}{L:Addr}
noncomputable abbrev iZ(l:List Env):List Addr:=l.filterMap λx=>x.frame
def wV{hn:Bool}{w:Value}{Q:Unit->Shared->Prop}(hfr:A.frames=some (env::outer))(hl:s.heap.FunFrames base (env::outer))(hf:env.frame=some L)(x:Ex s.heap e c dct a0 hd)
  (k:∀h',Ch [e] (iZ (env::outer)) s.heap h'->Ex h' e c dct a0 (.ref s.heap.objs.size)->En h' s.heap.objs.size (rawInt L)->s.heap.objs.size≠e->Q () { s with heap:=h' }) :
  wpAny M A (frameOf env >>= λa=>entryPlaceOf L hn >>= λpl=>EntryCells.newEntry w a .none (rawInt L) .none pl >>= λb=>setField (.ref e) 1 b) Q E s:=by
 refine za (wpAny_frameOf_fun hfr hl hf λg1 so=>za (wpAny_entryPlaceOf λpl isp=>za ?_))
 have c1:Ch [e] (iZ (env::outer)) s.heap g1:=.slots so
 have x1:=x.ch (cs:=[]) (Ch.slots so) (by simp)
 rw [<- so.1] at k
 have ne:g1.objs.size≠e:=let ⟨_,_,q,_⟩:=x1;Nat.ne_of_gt (z14 q)
 refine z2a ?_ (isp.sizeOk5 _ _ _ _ _)
 generalize hO:({ cls:=.type "traceback",dict:=none,data:=_ }:Obj)=O
 have n2:En (g1.push O) g1.objs.size (rawInt L):=⟨O,_,z22 _ (by rw [<- hO];rfl),by rw [<- hO],by rcases isp with rfl|⟨_,_,_,_,_,_,_,rfl⟩<;>simp⟩
 refine (x1.ch (cs:=[]) (fs:=[]) (Ch.push O) (by simp)).set (fs:=iZ (env::outer)) λg3 c3 x3=>k g3 ((c1.trans (.push O)).trans c3) x3 (n2.ch c3 λm=>ne (z15.mp m)) ne
def GG{Q:Unit->Shared->Prop}(hfr:A.frames=some (env::outer))(hl:s.heap.FunFrames base (env::outer))(hf:env.frame=some L)(x:Ex s.heap e c dct a0 hd)(hh:hd=.none∨∃T∈cs,hd=.ref T/\T≠e/\En s.heap T .none)(me:e∈cs)
  (k:∀h',Ch cs (iZ (env::outer)) s.heap h'->Ex h' e c dct a0 (.ref s.heap.objs.size)->En h' s.heap.objs.size (rawInt L)->s.heap.objs.size≠e->Q () { s with heap:=h' }) :
  wpAny M A (noteFrame (.ref e) env) Q E s:=by
 have up:∀{a b:Heap},Ch [e] (iZ (env::outer)) a b->Ch cs (iZ (env::outer)) a b:=λz=>z.mono λb m=>by rw [z15.mp m];exact me
 unfold noteFrame
 simp only [hf]
 refine za (x.get ?_)
 rcases hh with rfl|⟨T,mT,rfl,ne,n⟩
 ·exact wV hfr hl hf x λh' z=>k h' (up z)
 ·refine za (n.get ?_)
  refine za (n.set (fs:=iZ (env::outer)) λg1 c1 z1 n1=>?_)
  have off:∀{b o},s.heap.get? b=some o->(∀vs,o.data≠.fields vs)->b∉[T]:=λ{b o} q d m=>by
   obtain⟨_,ts,q',d',_⟩:=n
   cases q.symm.trans ((congrArg _ (z15.mp m)).trans q')
   exact d ts d'
  rw [<- z1] at k
  refine wV (s:={ s with heap:=g1 }) hfr (hl.of_keeps λb o q d=>let ⟨_,r,_⟩:=c1 b o q (off q d);⟨_,r,rfl⟩) hf (x.ch c1 λm=>ne (z15.mp m).symm) λh' z=>k h' (.trans (c1.mono λb m=>by rw [z15.mp m];exact mT) (up z))
def GH{Q:Unit->Shared->Prop}(x:Ex s.heap e c dct a0 (.ref T))(n:En s.heap T v)(ne:T≠e)(k:∀h',Ch [T] fs s.heap h'->Ex h' e c dct a0 (.ref T)->En h' T .none->Q () { s with heap:=h' }):wpAny M A (setFlight (.ref e) none) Q E s:=by
 unfold setFlight
 exact za (x.get (n.set λh' z _ n'=>k h' z (x.ch z λm=>ne (z15.mp m).symm) n'))
end
abbrev bW(e:Addr)(p:Addr->Prop)(fs:List Addr)(h h':Heap):Prop:=∀b o,h.get? b=some o->(b≠e/\¬ p b)->(∃sl,h'.get? b=some { o with slots:=sl })/\(b∉fs->h'.get? b=some o)
section
variable {e:Addr}{p:Addr->Prop}{cs fs fs':List Addr}{h h1 h2:Heap}
def bW.of(x:Ch cs fs h h1)(k:∀b∈cs,b=e∨p b):bW e p fs h h1:=λb o q n=>by
 obtain⟨sl,r,z⟩:=x b o q λm=>(k b m).elim n.1 n.2
 exact⟨⟨sl,r⟩,λm=>by rw [r,z m]⟩
def bW.refl(e:Addr)(p:Addr->Prop)(fs:List Addr)(h:Heap):bW e p fs h h:=λ_ o q _=>⟨⟨o.slots,q⟩,λ_=>q⟩
def bW.trans(x:bW e p fs h h1)(y:bW e p fs h1 h2):bW e p fs h h2:=λb o q n =>
 let ⟨⟨_,q1⟩,r1⟩:=x b o q n
 let ⟨⟨sl,q2⟩,r2⟩:=y b _ q1 n
 ⟨⟨sl,q2⟩,λnf=>(y b o (r1 nf) n).2 nf⟩
def bW.mono(x:bW e p fs h h1)(k:∀b∈fs,b∈fs'):bW e p fs' h h1:=λb o q n=>let ⟨a,c⟩:=x b o q n;⟨a,λnf=>c λz=>nf (k b z)⟩
end
structure Fly(base:Heap)(l:List Env)(e:Addr)(c:Value)(dct:Option Addr)(p:Addr->Prop)(v:Value)(h:Heap):Prop where
 stays:base.StaysIn h
 new:base.get? e=none
 frames:h.FunFrames base l
 ex:∃a0 T,Ex h e c dct a0 (.ref T)/\En h T v/\T≠e/\base.get? T=none/\p T
section
variable {M:Model}{A:Around}{E:Value->Shared->Prop}{s:Shared}{h h1 base:Heap}{cs fs:List Addr}{e T L:Addr}{c a0 hd v w:Value}{dct:Option Addr}{p p':Addr->Prop}{l outer:List Env}{env:Env}{Q:Unit->Shared->Prop}
def Fly.imp(f:Fly base l e c dct p v h)(k:∀T,T≠e->p T->p' T):Fly base l e c dct p' v h:=let ⟨a,T,x,n,ne,nb,q⟩:=f.ex;⟨f.stays,f.new,f.frames,a,T,x,n,ne,nb,k T ne q⟩
def kept(st:base.StaysIn h)(hl:h.FunFrames base l)(z:Ch cs (iZ l) h h1)(k:∀b∈cs,base.get? b=none/\∃o vs,h.get? b=some o/\o.data=.fields vs):base.StaysIn h1/\h1.FunFrames base l:=by
 refine⟨λb o q=>?_,hl.of_keeps λb o q d=>?_⟩
 ·have nf:∀{fs:List Addr},(∀a∈fs,base.get? a=none)->b∉fs:=λy m=>by rw [y b m] at q;cases q
  obtain⟨sl,r,y⟩:=z b o (st b o q) (nf λa m=>(k a m).1)
  rw [r,y (nf λa m=>(hl.mem m).1)]
 ·obtain⟨sl,r,_⟩:=z b o q λm=>by
   obtain⟨_,o',vs,q',d'⟩:=k b m
   cases q.symm.trans q'
   exact d vs d'
  exact⟨_,r,rfl⟩
def GI(st:base.StaysIn h):base.get? h.objs.size=none:=by
 cases q:base.get? h.objs.size with
 | none=>rfl
 | some o=>exact absurd (z14 (st _ o q)) (z2e _)
def wW(hp:∀T,s.heap.objs.size≤T->p T)(hfr:A.frames=some (env::outer))(hf:env.frame=some L)(st:base.StaysIn s.heap)(hl:s.heap.FunFrames base (env::outer))(new:base.get? e=none)(x:Ex s.heap e c dct a0 hd)
  (hh:hd=.none∨∃T,hd=.ref T/\T≠e/\En s.heap T .none/\base.get? T=none/\p T) (k:∀h',Fly base (env::outer) e c dct p (rawInt L) h'->bW e p (iZ (env::outer)) s.heap h'->Q () { s with heap:=h' }):wpAny M A (noteFrame (.ref e) env) Q E s:=by
 obtain⟨cs,me,hc,ih⟩:∃cs:List Addr,e∈cs/\(∀b∈cs,(b=e∨p b)/\base.get? b=none/\∃o vs,s.heap.get? b=some o/\o.data=.fields vs)/\(hd=.none∨∃T∈cs,hd=.ref T/\T≠e/\En s.heap T .none):=by
  have he:(e=e∨p e)/\base.get? e=none/\∃o vs,s.heap.get? e=some o/\o.data=.fields vs:=let ⟨_,_,q,_⟩:=x;⟨.inl rfl,new,_,_,q,rfl⟩
  rcases hh with hh|⟨T,ht,ne,n,nb,q⟩
  ·exact⟨[e],.head _,λb m=>by rw [z15.mp m];exact he,.inl hh⟩
  ·refine⟨[e,T],.head _,λb m=>?_,.inr ⟨T,.tail _ (.head _),ht,ne,n⟩⟩
   rcases z1d.mp m with rfl|m
   ·exact he
   ·rw [z15.mp m]
    obtain⟨o,ts,a1,a2,_⟩:=n
    exact⟨.inr q,nb,o,ts,a1,a2⟩
 refine GG hfr hl hf x ih me λh' z x' n' ne=>?_
 obtain⟨st',hl'⟩:=kept st hl z λb m=>(hc b m).2
 exact k h' ⟨st',new,hl',a0,_,x',n',ne,GI st,hp _ (z12 _)⟩ (.of z λb m=>(hc b m).1)
def Fly.land(f:Fly base l e c dct p v s.heap)(k:∀h',Fly base l e c dct p .none h'->bW e p [] s.heap h'->Q () { s with heap:=h' }):wpAny M A (setFlight (.ref e) none) Q E s:=by
 obtain⟨a0,T,x,n,ne,nb,q⟩:=f.ex
 refine GH (fs:=[]) x n ne λh' z x' n'=>?_
 have z':Ch [T] (iZ l) s.heap h':=λb o g m=>let ⟨sl,r,y⟩:=z b o g m;⟨sl,r,λ_=>y (List.not_mem_nil)⟩
 obtain⟨st,hl⟩:=kept f.stays f.frames z' λb m=>by rw [z15.mp m];obtain⟨o,ts,a1,a2,_⟩:=n;exact⟨nb,o,ts,a1,a2⟩
 exact k h' ⟨st,f.new,hl,a0,T,x',n',ne,nb,q⟩ (.of z λb m=>.inr (by rw [z15.mp m];exact q))
def Fly.look(hp:∀T,s.heap.objs.size≤T->p T)(hfr:A.frames=some (env::outer))(hf:env.frame=some L)(f:Fly base (env::outer) e c dct p .none s.heap)
  (k:∀h',Fly base (env::outer) e c dct p (rawInt L) h'->bW e p (iZ (env::outer)) s.heap h'->Q () { s with heap:=h' }):wpAny M A (noteFrame (.ref e) env) Q E s :=
 let ⟨_,T,x,n,ne,nb,q⟩:=f.ex;wW hp hfr hf f.stays f.frames f.new x (.inr ⟨T,rfl,ne,n,nb,q⟩) k
def Fly.out(f:Fly base (env::outer) e c dct p v h):Fly base outer e c dct p v h:=⟨f.stays,f.new,f.frames.2.2,f.ex⟩
def wX(m:∀{Q:Unit->Shared->Prop},(∀h',Fly base (env::outer) e c dct p (rawInt L) h'->bW e p (iZ (env::outer)) s.heap h'->Q () { s with heap:=h' })->wpAny M A (noteFrame (.ref e) env) Q E s)
  (k:∀h',Fly base outer e c dct p .none h'->bW e p (iZ (env::outer)) s.heap h'->Q () { s with heap:=h' }):wpAny M A (leaving env (.ref e)) Q E s:=by
 unfold leaving
 exact za (m λ_ f u=>f.land λh' f' u'=>k h' f'.out (u.trans (u'.mono λ_ z=>absurd z List.not_mem_nil)))
end
end PySem
namespace L2
open PySem PySem.Spec PyProof.Rows
section
abbrev iq(x C:Addr)(dct:Option Addr)(new:Bool):Heap->Prop:=λh=>∃o vs a0,h.get? x=some o/\o.cls=.ref C/\o.dict=dct/\o.data=.fields vs/\vs[0]?=some a0/\1<vs.size/\(new=true->vs[1]?=some .none)
noncomputable abbrev cD(x C:Addr)(dct:Option Addr)(new:Bool):HO:=.ext (iq x C dct new)
def mi{P:Program}{w:World}{H:Hp}{h:Heap}{x C:Addr}{dct:Option Addr}{new:Bool}(e:iq x C dct new h):c6 P w H h x (cD x C dct new):=by
 obtain⟨o,vs,a0,h1,h2⟩:=id e
 exact⟨e,⟨o,h1⟩,λa b ⟨o',vs',a0',q1,q2⟩ k=>⟨o',vs',a0',k _ q1,q2⟩⟩
structure y54(K:W.Frag)(C f:Addr)(B newId nid y1cb inN:String)(bmB bmN:List Value):Prop where
 fn:ExcBaseFacts B newId inN bmN
 hB:bmB.contains (.type B)=true
 fb:ExcBaseFacts B nid y1cb bmB
 cls:∀h:Heap,K.In h->∃nm q N bs bm y1af sn sub ab col dd k0 k1 k2 k3 k5 mN,h.get? C=some (excClassObj nm q C N bs bm y1af sn sub ab col dd k0 k1 k2 k3 k5 newId)/\h.Ns N mN/\mN "__init__" = some (.ref f)/\OwnTail h bmB bm
 fun_:∀h:Heap,K.In h->∃o,h.get? f=some o/\o.cls=.type "function"
section
variable {X:Cx}{CX:gS}{k:Nat}{f C:Addr}{fd:FuncData}{ps:List Str}{sp:Sp}{dvs:List V}{ds:List Value}{E:XK}{B newId nid y1cb inN:String}{bmB bmN:List Value}
def Inv.exNew{pins:List (Addr×Obj)}{σ:St}{H:Hp}{s:Shared}(I:Inv X pins σ H s)(us:List Value):Inv X pins σ (upd H (s.heap.objs.size+1) (cD (s.heap.objs.size+1) C none true)) { s with heap:=fA s.heap C us }:=by
 have:=I.laid (h':=fA s.heap C us) (a:=s.heap.objs.size+1) (o:=cD (s.heap.objs.size+1) C none true) (t':=s.toks) (λb u e=>zd _ (zd _ e)) (Nat.le_succ _)
  (mi ⟨_,_,_,(by unfold fA;heap_get:(fA s.heap C us).get? (s.heap.objs.size+1)=some { cls:=.ref C,data:=.fields #[.ref s.heap.objs.size,.none,.none,.none,.bool false,.none] }),rfl,rfl,rfl,rfl,by simp,λ_=>rfl⟩)
 exact this
def GJ{pins:List (Addr×Obj)}{σ:St}{H:Hp}{s:Shared}{Q:VK}{us:List Value}{vs:List V}(M:y54 X.K C f B newId nid y1cb inN bmB bmN)(F:y3f X.prog X.w X.K X.mg X.base CX k f fd ps sp)(hr:y4d (k+1) X.A)(hb:cP X.K fd ps ds)(hd:au dvs ds)
  (hx:bN CX X E) (I:Inv X pins σ H s) (r:au vs us) (hz:us.length≤sizeLine)
  (h:∀x,H x=none->sp (.ref x::(vs++dvs)) (upd H x (cD x C none true)) (λv H2=>v=.non/\Q (.ref x) H2) E) :
  wpAny (model X.prog X.w) X.A (call (.ref C) us) (EP X pins σ Q) X.xe s:=by
 have hq:=h (s.heap.objs.size+1) (I.hok.fresh (Nat.le_succ _))
 have I2:=Inv.exNew (C:=C) I us
 have r2:au (V.ref (s.heap.objs.size+1)::(vs++dvs)) (Value.ref (s.heap.objs.size+1)::(us++ds)):=.cons rfl (r.append hd)
 have hl:(Value.ref (s.heap.objs.size+1)::us++ds).length=ps.length:=by
  have e:=r2.length
  rw [F.len _ _ _ _ hq] at e
  exact e.symm
 obtain⟨nm,q,N,bs,bm,y1af,sn,sub,ab,col,dd,k0,k1,k2,k3,k5,mN,hC,hn,hi,T⟩:=M.cls _ I.kIn
 have hc:=F.run _ X.stack _ _ ⟨Value.ref (s.heap.objs.size+1)::us,[]⟩ (Value.ref (s.heap.objs.size+1)::(us++ds)) _ _ E (hr.make C us [])
  (I2.env0.make C us []) (hb _ (Value.ref (s.heap.objs.size+1)::us) I2.kIn hl) r2 hq
 obtain⟨hh,g,d,t,os⟩:=s
 obtain⟨of,hof,hcf⟩:=M.fun_ _ I.kIn
 refine iY.makes M.fn M.hB M.fb T ⟨nm,q,N,bs,y1af,sn,sub,ab,col,dd,k0,k1,k2,k3,k5,hC,hn⟩ hi hof hcf hz (codeAny_mono hc λr s' hq'=>?_)
 cases r with
 | error e=>exact hx pins σ _ _ e s' I2 hq'
 | ok fl =>
  cases fl with
  | ret u =>
   obtain⟨v,H',I3,rv,ev,q3⟩:=I2.after hq'
   subst ev
   exact⟨rv,⟨V.ref (hh.objs.size+1),H',I3,rfl,q3⟩⟩
  | next=>exact False.elim hq'
  | brk=>exact False.elim hq'
  | cont=>exact False.elim hq'
end
end
end L2
namespace PySem
section
variable {prog:Program}{w:World}{A:Around}{E:Value->Shared->Prop}{h:Heap}{g:Array GenState}{d:Drawn}{t:Nat}{os:OsState}
variable {C:Addr}{bm bl:List Value}{B nid y1cb:String}
def GK(F:ExcBaseFacts B nid y1cb bl)(T:OwnTail h bl bm){x:Addr}{oe:Obj}{vs:Array Value}{aG:List Value}{Q:Value->Shared->Prop}
  (hC:mh h C bm) (he:h.get? x=some oe) (y1ad:oe.cls=.ref C) (hd:oe.data=.fields vs) (hz:0<vs.size) (hrest:aG.length≤sizeLine)
  (hq:Q .none ⟨(h.push { cls:=.type "tuple",data:=.seq aG.toArray }).update x (Obj.mapFields (·.setIfInBounds 0 (.ref h.objs.size))),g,d,t,os⟩) :
  wpAny (model prog w) A (call (.builtin y1cb) (.ref x::aG)) Q E ⟨h,g,d,t,os⟩:=by
 obtain⟨nm,q,N,bs,y1af,sn,sub,ab,col,dd,k0,k1,k2,k3,k5,newId,hC⟩:=hC
 refine wpAny_call (codeAny_call_builtin F.init.plain F.initEntry (wpAny_check_init_subU F T hC he y1ad ?_))
 wp_walk
 rw [hd]
 refine ze ?_
 obtain⟨y,hy⟩:∃y,vs[0]?=some y:=⟨_,Array.getElem?_eq_getElem hz⟩
 rw [hy]
 refine ze ?_
 have he₁:(h.push { cls:=.type "tuple",data:=.seq aG.toArray }).get? x=some oe:=zd _ he
 refine za (wpAny_setField he₁ hd hz ?_)
 have key:wpAny (model prog w) A.in1 (match y with | .ref _=>letGo [y]|_=>pure ()) (λ_ s'=>s'=⟨(h.push { cls:=.type "tuple",data:=.seq aG.toArray }).update x (Obj.mapFields (·.setIfInBounds 0 (.ref h.objs.size))),g,d,t,os⟩) E ⟨(h.push { cls:=.type "tuple",data:=.seq aG.toArray }).update x (Obj.mapFields (·.setIfInBounds 0 (.ref h.objs.size))),g,d,t,os⟩:=by
  cases y<;>first|exact ze rfl|exact wpAny_letGo rfl
 refine wpAny_mono key (λ_ s' e=>?_) λ_ _ z=>z
 subst e
 exact ze hq
end
end PySem
namespace L2
open PySem PySem.Spec PyProof.Rows
section
abbrev pG(dx:Addr)(fs:List (Str×V)):Heap->Prop:=λh=>fs.length≤1000/\∃mA,h.Ns1 dx mA/\(∀f,ij (fs.lookup f) (mA f))/\PySem.Within mA (fs.map (·.1))
noncomputable abbrev g9(dx:Addr)(fs:List (Str×V)):HO:=.ext (pG dx fs)
def wY{P:Program}{w:World}{H:Hp}{h:Heap}{dx:Addr}{fs:List (Str×V)}(e:pG dx fs h):c6 P w H h dx (g9 dx fs):=by
 obtain⟨_,_,⟨o,_,_,q,_⟩,_⟩:=id e
 exact⟨e,⟨o,q⟩,λa b ⟨l,mA,⟨o',es,ep,q1,q2⟩,r⟩ k=>⟨l,mA,⟨o',es,ep,k _ q1,q2⟩,r⟩⟩
structure XA(K:W.Frag)(C:Addr):Prop where
 ga:W.findIn K (.ref C) "__getattribute__" = some (some (.builtin "BaseException.__getattribute__"))
 gt:W.findIn K (.ref C) "__getattr__" = some none
 sa:W.findIn K (.ref C) "__setattr__" = some (some (.builtin "object.__setattr__"))
 cd:∃cd,W.clsIn K C=some cd/\cd.hasDict=true/\cd.mro.contains (.type "object")=true/\cd.mro.contains (.type "BaseException")=true/\∀self,refuseLoop self "__setattr__" cd.mro=pure ()
section
variable {prog:Program}{w:World}{A:Around}{E:Value->Shared->Prop}{s:Shared}{K:W.Frag}{x C:Addr}{name:Str}{v:Value}{ox:Obj}{od:Option Obj}
open PySem.W in
def wZ{cd:ClassData}{v:Value}(hc:clsIn K C=some cd)(m:cd.mro.contains v=true):mroIn K C v=some true:=by
 unfold mroIn
 rw [hc]
 match q:cd.mro,m with
 | [],m=>cases m
 | a::l,m=>simp only [Option.bind_some,q];rw [m];rfl
open PySem.W in
def XA.isa(c:XA K C)(X:K.In s.heap)(I:InstAt s.heap x ox C od):Looks (model prog w) s.heap (isInstance (.ref x) (.type "object")) true/\Looks (model prog w) s.heap (isInstance (.ref x) (.type "BaseException")) true :=
 let ⟨_,hc,_,m,m',_⟩:=c.cd;⟨I.type.andThen (looks_mroIn X (wZ hc m)),I.type.andThen (looks_mroIn X (wZ hc m'))⟩
open PySem.W in
def GL{tk:Tok}{R:Result->Shared->Prop}(X:K.In s.heap)(I:InstAt s.heap x ox C od)(c:XA K C)(n:kM K C name)
  (h:wpAny (model prog w) A.in1 (Builtin.ObjectAttr.storeInOwnDict (.ref x) (.ref C) (.str name tk) name v false) (λr s1=>∃f,r=.done f/\R (.ok f) s1) (λe=>R (.error e)) s) :
  codeAny (model prog w) A (.call (.builtin "object.__setattr__") ⟨[.ref x,.str name tk,v],[]⟩) R s:=by
 have F:=PySem.F.store_object
 refine codeAny_call_builtin F.slot.plain F.entry (@check_slot (model prog w) _ _ s "object.__setattr__" "object" "__setattr__" (.ref x) [.str name tk,v] [] _ F.kind F.split (c.isa X I).1 (F.args (.ref x) (.str name tk) v) ?_)
 obtain⟨cd,hc,_,_,_,free⟩:=c.cd
 have line:Looks (model prog w) s.heap (mroOf (.ref C)) cd.mro:=(looks_clsIn X hc).andThen .now
 rw [osa_eq,refuse_eq]
 refine za (za (I.type.here (za (line.here ?_))))
 rw [free (.ref x)]
 refine ze (za (I.type.here (za ((looks_findIn X n).here (za (ze (wpAny_mono h (λr s1 z=>?_) λ_ _ z=>z)))))))
 obtain⟨f,rfl,z⟩:=z
 exact z
def GN{dx:Addr}{tk:Tok}{mA:Str->Option Value}{ns:List Str}{Q:Fin->Shared->Prop}(hm:s.heap.Ns1 dx mA)(hw:PySem.Within mA ns)(hsz:ns.length≤sizeLine)
  (k:∀h',h'.Ns1 dx (λy=>if y=name then some v else mA y)->Heap.SameBut dx s.heap h'->Q (.done (.ret .none)) { s with heap:=h',toks:=s.toks+1 }) :
  wpAny (model prog w) A (Builtin.ObjectAttr.storeInDict dx (.str name tk) name v) Q E s:=by
 unfold Builtin.ObjectAttr.storeInDict Builtin.ObjectAttr.newKeyGuard
 refine za (ze ?_)
 refine za (wpAny_nsSet1 hm λg1 n1 s1=>?_)
 obtain⟨o,_,_,q,dt,le⟩:=n1.count (PySem.Within.cons name v hw)
 rw [z18] at le
 exact za (wpAny_lookBehind q (by rw [dt];exact pastItsLine_dict (by lia)) (ze (k g1 n1 s1)))
open PySem.W in
def w4{vs:Array Value}{Q:Unit->Shared->Prop}(X:K.In s.heap)(hx:s.heap.get? x=some ox)(hc:ox.cls=.ref C)(hd:ox.data=.fields vs)(hn:ox.dict=none)(c:XA K C)(n:kM K C name)
  (h:∀h',h'.Ns1 s.heap.objs.size (λy=>if y=name then some v else none)->h'.get? x=some { ox with dict:=some s.heap.objs.size } ->
   (∀b o,b≠x->s.heap.get? b=some o->h'.get? b=some o)->Q () { s with heap:=h',toks:=s.toks+2 }) :
  wpAny (model prog w) A (setAttr (.ref x) name v) Q E s:=by
 obtain⟨oc,odi,oda,osl⟩:=ox
 dsimp only at hc hd hn
 subst hc hd hn
 have I:InstAt s.heap x ⟨.ref C,none,.fields vs,osl⟩ C none:=⟨hx,rfl,rfl,trivial⟩
 refine set_plain X I c.sa (GL (s:={ s with toks:=s.toks+1 }) X I c n ?_)
 obtain⟨cd,hcl,hd',_⟩:=c.cd
 have far:∀{b o},s.heap.get? b=some o->b≠s.heap.objs.size:=λq=>z28 (z14 q)
 refine za (ze (za (za (wpAny_loadPart hx (za (Looks.here (s:={ s with toks:=s.toks+1 }) (looks_clsIn X hcl) ?_))))))
 rw [hd']
 refine za (wpAny_alloc' (za (wpAny_update' (zd _ hx) (ze ?_))))
 have empty:((s.heap.push { cls:=.type "dict",data:=.dict #[] }).update x λo=>{ o with dict:=some s.heap.objs.size }).Ns1 s.heap.objs.size (λ_=>none) :=
  Heap.Ns1.of_empty ⟨{ cls:=.type "dict",data:=.dict #[] },#[],0,(Heap.get?_update_other _ _ (far hx)).trans (Heap.get?_push_at rfl rfl),rfl,λe he=>by simp at he,λ_=>rfl⟩
 refine GN (s:={ s with heap:=_,toks:=s.toks+1 }) (ns:=[]) empty PySem.Within.nil (Nat.zero_le _) λg1 n1 sb=>⟨_,rfl,h g1 n1 ?_ λb o ne q=>?_⟩
 ·exact (sb.2 x (far hx)).trans (Heap.get?_update_self _ (zd _ hx) rfl)
 ·exact (sb.2 b (far q)).trans ((Heap.get?_update_other _ _ ne.symm).trans (zd _ q))
open PySem.W in
def GO{vs:Array Value}{dx:Addr}{mA:Str->Option Value}{b:Bool}{Q:Value->Shared->Prop}(X:K.In s.heap)(hx:s.heap.get? x=some ox)(hc:ox.cls=.ref C)(hd:ox.data=.fields vs)(hn:ox.dict=some dx)(hm:s.heap.Ns1 dx mA)
  (c:XA K C) (n:kM K C name) (hv:mA name=some v) (hh:handedIn v=true) (h:Q v { s with toks:=s.toks+1 }) :
  wpAny (model prog w) A (getAttr (.ref x) name b) Q E s:=by
 obtain⟨oc,odi,oda,osl⟩:=ox
 dsimp only at hc hd hn
 subst hc hd hn
 obtain⟨oo,hoo,hl⟩:=kL hm
 have I:InstAt s.heap x ⟨.ref C,some dx,.fields vs,osl⟩ C (some oo):=⟨hx,rfl,rfl,hoo⟩
 obtain⟨cd,hcl,hd',_⟩:=c.cd
 have hf:findObj K C (some oo) name=some (.value v):=findObj_own (attr:=none) (by unfold hasDictIn;rw [hcl];exact hd') n rfl (by rw [hl,hv])
 have L0:=I.type (M:=model prog w)
 have L1:=looks_findIn (M:=model prog w) X c.ga
 have L2:=looks_findIn (M:=model prog w) X c.gt
 have L3:=looks_find (M:=model prog w) X I hf
 have sub:=(c.isa (prog:=prog) (w:=w) X I).2
 obtain⟨hh',g,d,t,os⟩:=s
 unfold getAttr getAttrBy
 refine za (wpAny_mkText (wpAny_holding (za (L0.at (za (L1.at ?_))))))
 show wpAny _ _ (getAttrByItsOwn _ _ _ _ _ _) _ _ _
 refine za (L2.at (za ?_))
 have hx0:(b&&onTheHeap (Value.builtin "BaseException.__getattribute__"))=false:=by cases b<;>rfl
 have hk:builtinKind "BaseException.__getattribute__" = some .slot:=by decide +kernel
 have y1ba:splitId "BaseException.__getattribute__" = some ("BaseException","__getattribute__"):=by decide +kernel
 have FA:=PySem.F.excAttr_ValueError.ga
 refine wpAny_attempt (wpAny_holding ?_)
 unfold callGetattribute
 rw [if_neg (by rw [hx0];decide)]
 unfold boundAndCalled
 rw [FA.bind]
 refine za (ze (wpAny_call (codeAny_call_builtin FA.plain F.entry_bexc_ga (@check_slot (model prog w) _ _ _ "BaseException.__getattribute__" "BaseException" "__getattribute__" (.ref x) [.str name t] [] _ hk y1ba sub (F.args_bexc_ga _ _) ?_))))
 refine za (ze (za (ze (za (L0.at (za (L3.at ?_)))))))
 refine ze ?_
 show wpAny _ _ (handedOut v) _ _ _
 rw [handedOut_of hh];exact ze h
end
end
section
section
variable {X:Cx}{pins:List (Addr×Obj)}{σ:St}{H:Hp}{s:Shared}{a C dx:Addr}{fs:List (Str×V)}{f:Str}{v:V}{A:Around}{E:Value->Shared->Prop}{new:Bool}
def gp{P:Program}{w:World}{h:Heap}{dct:Option Addr}(hok:cA P w H h)(e:H a=some (cD a C dct new)):iq a C dct new h:=(hok a _ e).1
def pH{P:Program}{w:World}{h:Heap}(hok:cA P w H h)(e:H dx=some (g9 dx fs)):pG dx fs h:=(hok dx _ e).1
def GP{b:Bool}{Q:Value->Shared->Prop}(I:Inv X pins σ H s)(e:H a=some (cD a C (some dx) new))(ed:H dx=some (g9 dx fs))(c:XA X.K C)(n:kM X.K C f)(l:fs.lookup f=some v)
  (h:∀u s',Inv X pins σ H s'->ay v u->Q u s'):wpAny (model X.prog X.w) A (getAttr (.ref a) f b) Q E s:=by
 obtain⟨o,vs,a0,h1,h2,h3,h4,_⟩:=gp I.hok e
 obtain⟨_,mA,hm,r,_⟩:=pH I.hok ed
 obtain⟨u,hu,ru⟩:=ij.some_of (v:=v) (o:=mA f) (by rw [<- l];exact r f)
 exact GO I.kIn h1 h2 h4 h3 hm c n hu (BS ru) (h u _ (I.tok _) ru)
def GQ{y:V}{u:Value}{Q:Unit->Shared->Prop}(I:Inv X pins σ H s)(e:H a=some (cD a C none new))(c:XA X.K C)(n:kM X.K C f)(ry:ay y u)
  (h:∀dx s',H dx=none->Inv X pins σ (upd (upd H dx (g9 dx [(f,y)])) a (cD a C (some dx) new)) s'->Q () s'):wpAny (model X.prog X.w) A (setAttr (.ref a) f u) Q E s:=by
 obtain⟨o,vs,a0,h1,h2,h3,h4,h5,h6,h7⟩:=gp I.hok e
 refine w4 I.kIn h1 h2 h4 h3 c n λh' O' hx' sb=>?_
 have fr:=I.hok.fresh (z12 s.heap.objs.size)
 have hne:s.heap.objs.size≠a:=λz=>by rw [<- z,fr] at e;cases e
 refine h s.heap.objs.size _ fr ?_
 obtain⟨oD,es,ep,g1,g2⟩:=id O'
 have gf:oD.isFreed=false:=(Heap.get?_some_iff.mp g1).2
 have q1:(s.heap.push oD).get? s.heap.objs.size=some oD:=Heap.get?_push_at rfl gf
 have I1:=I.laid (h':=s.heap.push oD) (a:=s.heap.objs.size) (o:=g9 s.heap.objs.size [(f,y)]) (t':=s.toks) (λb u q=>zd _ q) (z12 _)
  (wY ⟨by simp,_,⟨oD,es,ep,q1,g2⟩,λg=>(by
   show ij (List.lookup g [(f,y)]) (if g=f then some u else none)
   by_cases q:g=f
   ·have hb:(g == f)=true:=beq_iff_eq.mpr q
    rw [if_pos q];simp only [List.lookup,hb];exact ry
   ·have hb:(g == f)=false:=beq_eq_false_iff_ne.mpr q
    rw [if_neg q];simp only [List.lookup,hb];trivial),λg hg=>(by
   by_cases q:g=f
   ·rw [q];simp
   ·exact absurd (show (if g=f then some u else none)=none from if_neg q) hg)⟩)
 have e1:upd H s.heap.objs.size (g9 s.heap.objs.size [(f,y)]) a=some (cD a C none new):=by rw [aQ hne.symm];exact e
 refine I1.write (x:=a) (e:=a) (by rw [e1];exact True.intro) (.inl rfl) (λb q hb z=>?_) ⟨_,hx'⟩ (mi ⟨_,vs,a0,hx',h2,rfl,h4,h5,h6,h7⟩)
 by_cases q2:b=s.heap.objs.size
 ·subst q2;rw [q1] at z;cases z;exact g1
 ·refine sb b q hb ?_
  have:(s.heap.push oD).get? b=s.heap.get? b:=Heap.get?_push_ne _ _ _ q2
  rw [<- this];exact z
end
abbrev GR(K:W.Frag)(ta:TE)(f:Str):TE:=λσ H Q=>ta σ H λx H1=>∃a C dx fs v new,x=.ref a/\H1 a=some (cD a C (some dx) new)/\H1 dx=some (g9 dx fs)/\XA K C/\kM K C f/\fs.lookup f=some v/\Q v H1
abbrev GS(K:W.Frag)(ta tv:TE)(f:Str):TS:=λD σ H=>tv σ H λy H1=>ta σ H1 λx H2=>∃a C new,x=.ref a/\H2 a=some (cD a C none new)/\XA K C/\kM K C f /\
 ∀dx,H2 dx=none->D.nx σ (upd (upd H2 dx (g9 dx [(f,y)])) a (cD a C (some dx) new))
section
variable {X:Cx}{o e value:Expr}{f:Str}{pos pos' tpos:Pos}{ta tv:TE}
def w6(he:PE X e ta)(hb:attributeBase e f X.env (eval e X.env)=eval e X.env):PE X (.Attribute e f pos) (GR X.K ta f):=by
 intro pins s σ H Q I h
 refine y7f hb (aN (he pins s σ H _ I h) λu s1 zz=>?_)
 obtain⟨x,H1,I1,rx,a,C,dx,fs,v,new,ex,ea,ed,c,n,l,q⟩:=zz
 subst ex
 obtain rfl:u=Value.ref a:=rx
 exact GP I1 ea ed c n l λu' s2 I2 ru=>⟨v,H1,I2,ru,q⟩
def GU(ha:PE X o ta)(hv:PE X value tv)(hs:swapsWith value (some (.Attribute o f pos')) pos.line X.env=pure false):PS X (.Assign [.Attribute o f pos'] value pos) (GS X.K ta tv f):=by
 intro pins s σ H D I h
 refine plainObj_wpAny_Assign_Attribute (aN (hv pins s σ H _ I h) λu s1 ⟨y,H1,I1,ry,q⟩=>aN (ha pins s1 σ H1 _ I1 q) λov s2 ⟨x,H2,I2,rx,a,C,new,ex,ea,c,n,q2⟩=>?_) hs
 subst ex
 obtain rfl:ov=Value.ref a:=rx
 exact GQ I2 ea c n ry λdx s3 hd I3=>⟨σ,_,I3,q2 dx hd⟩
end
end
section
def pI{H:Hp}{a:Addr}{o:HO}(e:H a=some o):upd H a o=H:=by
 funext b;unfold upd;split
 ·rename_i q;rw [q,e]
 ·rfl
structure y14(K:W.Frag)(B0:Addr)(y1cb:String):Prop where
 rd:W.readsIn K B0 (.type "type")=true
 fd:W.findCls K (.ref B0) (.type "type") "__init__" = some (.val (.builtin y1cb))
 ga:W.specialIn K (.ref B0) "__getattribute__" = some (some (.builtin "type.__getattribute__"))
 hh:W.handedIn (.builtin y1cb)=true
abbrev tXI(C:Addr)(t:TA):TE:=λσ H Q=>t σ H λvs H1=>∃a aG new dct,vs=.ref a::aG/\aG.length≤sizeLine/\H1 a=some (cD a C dct new)/\Q .non H1
section
variable {X:Cx}{f C B0:Addr}{B newId nid y1cb inN:String}{bmB bmN:List Value}{x:Str}{p pos apos:Pos}{e:Expr}{es:List Expr}{t:TA}
def GV{pins:List (Addr×Obj)}{σ:St}{H:Hp}{s:Shared}{a:Addr}{dct:Option Addr}{new:Bool}{us:List Value}{A:Around}{E:Value->Shared->Prop}{Q:Value->Shared->Prop}(M:y54 X.K C f B newId nid y1cb inN bmB bmN)
  (I:Inv X pins σ H s) (e:H a=some (cD a C dct new)) (hz:us.length≤sizeLine) (h:∀s',Inv X pins σ H s'->Q .none s'):wpAny (model X.prog X.w) A (call (.builtin y1cb) (.ref a::us)) Q E s:=by
 obtain⟨o,vs,a0,h1,h2,h3,h4,h5,h6,h7⟩:=gp I.hok e
 obtain⟨nm,q,N,bs,bm,y1af,sn,sub,ab,col,dd,k0,k1,k2,k3,k5,mN,hC,hn,hi,T⟩:=M.cls _ I.kIn
 have I1:=I.kept (h':=s.heap.push { cls:=.type "tuple",data:=.seq us.toArray }) (t':=s.toks) (λb u q=>zd _ q)
 have he₁:(s.heap.push { cls:=.type "tuple",data:=.seq us.toArray }).get? a=some o:=zd _ h1
 have hd₃:=Obj.data_mapFields h4 (·.setIfInBounds 0 (Value.ref s.heap.objs.size))
 have he₃:=Heap.get?_update_self (Obj.mapFields (·.setIfInBounds 0 (Value.ref s.heap.objs.size))) he₁ (Obj.isFreed_of_fields hd₃)
 have I2:=I1.write (x:=a) (e:=a) (o:=cD a C dct new) (t':=s.toks) (by rw [e];exact True.intro) (.inl rfl) (λb u hb q=>(Heap.get?_update_other _ _ (Ne.symm hb)).trans q) ⟨_,he₃⟩
  (mi ⟨_,_,.ref s.heap.objs.size,he₃,(Obj.cls_mapFields _ _).trans h2,(GD _ _).trans h3,hd₃,by rw [Array.getElem?_setIfInBounds_self_of_lt (z35 Nat.zero_lt_one h6)],by rw [Array.size_setIfInBounds];exact h6,λz=>by rw [Array.getElem?_setIfInBounds_ne (by decide)];exact h7 z⟩)
 rw [pI e] at I2
 obtain⟨hh,g,d,tk,os⟩:=s
 exact GK M.fb T ⟨nm,q,N,bs,y1af,sn,sub,ab,col,dd,k0,k1,k2,k3,k5,_,hC⟩ h1 h2 h4 (z35 Nat.zero_lt_one h6) hz (h _ I2)
def GW{pl:Sem Bool}(hg:Gl X x)(hm:X.mg x=some (.ref B0))(hi:y14 X.K B0 y1cb)(M:y54 X.K C f B newId nid y1cb inN bmB bmN)(ha:PA X (e::es) t)(hdb:(x == ("__debug__" : Str))=false:=by decide)
  (hst:‹starEach (e::es) X.env=(false,eval e X.env)::starEach es X.env›) (hpl:‹eW X pos es›)
  (ht:‹eval (.Call (.Attribute (.Name x p) "__init__" apos) (e::es) [] pos) X.env=(do
   let ov <- eval (.Name x p) X.env
   standAt apos.atName
   let (f,first) <- holding [ov] (getMethod ov "__init__" pl)
   callWith pos f first (backTo pos (starEach (e::es) X.env)) (backToKw pos (keywordEach [] X.env)))›) :
  PE X (.Call (.Attribute (.Name x p) "__init__" apos) (e::es) [] pos) (tXI C t):=by
 intro pins s σ H Q I h
 refine W.methodCall_KW (pl:=pl) (jh I hg hm ?_ hdb) ht
 refine W.method_cls I.kIn hi.ga (W.cls_value I.kIn hi.rd hi.fd hi.hh ?_)
 refine PyProof.Rows.callWith_builtin1 (aN (ha pos pins _ σ H _ (I.tok _) h) λus s1 ⟨vs,H1,I1,r1,a,aG,new,dct,ev,hz,ea,q⟩=>?_) hst hpl
 subst ev
 cases r1 with
 | @cons _ u _ us' ru r2 =>
  obtain rfl:u=Value.ref a:=ru
  exact GV M I1 ea (by rw [<- r2.length];exact hz) λs' I2=>⟨.non,H1,I2,rfl,q⟩
end
end
section
abbrev pJ(n:Nat)(H:Hp):Addr->Prop:=λT=>n≤T/\H T=none
section
variable {h':Heap}{x C:Addr}{dct:Option Addr}{nw:Bool}{fl:Value}{p:Addr->Prop}{base:Heap}
def GX{l:List Env}(t:Fly base l x (.ref C) dct p fl h'):iq x C dct false h':=by
 obtain⟨a0,T,⟨vs,sl,q,q0,q1⟩,_⟩:=t.ex
 exact⟨_,vs,a0,q,rfl,rfl,rfl,q0,(Array.getElem?_eq_some_iff.mp q1).1,λz=>by cases z⟩
def pK{P:Program}{w:World}{H H':Hp}{h0 h:Heap}{fs fs':List Addr}{l:List Env}(un:Un fs [] H H' h0 h)(hok:cA P w H' h)(ex:H' x=some (cD x C dct nw))(hf:∀b∈fs',H' b=none)(hsub:∀b∈fs',b∈fs∨h0.get? b=none)
  (up:bW x (pJ h0.objs.size H') fs' h h') (tr:Fly base l x (.ref C) dct p fl h') :
  Un fs [] H (upd H' x (cD x C dct false)) h0 h'/\cA P w (upd H' x (cD x C dct false)) h':=by
 have nl:∀b:Addr,b∉([]:List Addr):=λb z=>by simp at z
 have hxe:=GX tr
 have hex:∃o,h'.get? x=some o:=let ⟨o,_,_,q,_⟩:=hxe;⟨o,q⟩
 have kp:∀b o,b≠x->H' b=some o->∀u,h.get? b=some u->h'.get? b=some u:=λb o nb e u q =>
  (up b u q ⟨nb,λz=>by rw [z.2] at e;cases e⟩).2 λz=>by rw [hf b z] at e;cases e
 have ni:∀b o,h0.get? b=some o->H b=none->b≠x:=λb o q e z=>by
  have:=un.free b o q e (nl b);rw [z,ex] at this;cases this
 have old:∀b o,h0.get? b=some o->¬ pJ h0.objs.size H' b:=λb o q z=>absurd (z14 q) (Nat.not_lt.mpr z.1)
 refine⟨⟨λb o q e nb _=>?_,λb o q e nb _=>?_,λb o q e _=>?_,λb o q _=>?_,λb xs e=>?_,λb o u e=>?_,λb ps e=>?_⟩,λb o e=>?_⟩
 ·refine (up b o (un.keep b o q e nb (nl b)) ⟨ni b o q e,old b o q⟩).2 λz=>?_
  rcases hsub b z with z|z
  ·exact nb z
  ·rw [q] at z;cases z
 ·obtain⟨sl,q1⟩:=un.slot b o q e nb (nl b)
  obtain⟨sl2,q2⟩:=(up b _ q1 ⟨ni b o q e,old b o q⟩).1
  exact⟨sl2,q2⟩
 ·rw [aQ (ni b o q e)];exact un.free b o q e (nl b)
 ·obtain⟨o',q1⟩:=un.there b o q (nl b)
  by_cases hb:b=x
  ·rw [hb];exact hex
  ·obtain⟨sl,q2⟩:=(up b o' q1 ⟨hb,old b o q⟩).1
   exact⟨_,q2⟩
 ·have e1:=un.y4bc b xs e
  rw [aQ λz=>by rw [z,ex] at e1;cases e1];exact e1
 ·have e1:=un.y16e b o u e
  rw [aQ λz=>by rw [z,ex] at e1;cases e1];exact e1
 ·obtain⟨more,e1⟩:=un.y49d b ps e
  exact⟨more,by rw [aQ λz=>by rw [z,ex] at e1;cases e1];exact e1⟩
 ·by_cases hb:b=x
  ·subst hb
   rw [bf] at e;cases e
   exact mi hxe
  ·rw [aQ hb] at e
   refine (hok b o e).y464 (λc u hc q=>?_) (λc e2=>?_) λc xs e2=>?_
   ·rcases hc with rfl|hc
    ·exact kp c o hb e u q
    ·exact kp c _ (λz=>by rw [z,ex] at hc;cases hc) hc u q
   ·rw [aQ λz=>by rw [z,ex] at e2;cases e2];exact e2
   ·rw [aQ λz=>by rw [z,ex] at e2;cases e2];exact e2
end
abbrev dw(P:Program)(w:World)(base:Heap):gS:=λouter H s E e s'=>∃x C dct H',e=.ref x/\s'.os=s.os/\AllBare s'.gens/\Un (fL outer) [] H H' s.heap s'.heap/\cA P w H' s'.heap /\
 Fly base outer x (.ref C) dct (pJ s.heap.objs.size H') .none s'.heap/\H' x=some (cD x C dct false)/\E (.ref C) (some x) H'
abbrev fB(X:Cx)(E:XK):Prop:=∀(pins:List (Addr×Obj)) (σ:St) (H:Hp) (s:Shared) (x C:Addr) (dct:Option Addr),Inv X pins σ H s->H x=some (cD x C dct true) ->
 E (.ref C) (some x) (upd H x (cD x C dct false))->X.xe (.ref x) s
section
variable {P:Program}{w:World}{K:W.Frag}{mg:Str->Option Value}{base:Heap}{N:List Str}{qual:Str}{scope:Scope}{f:Addr}{cd:Value}{A:Around}{outer:List Env}{s:Shared}{H:Hp}{E:XK}
def w8{X:Cx}{pins:List (Addr×Obj)}{σ:St}{H1:Hp}{s1:Shared}(I:Inv X pins σ H1 s1):∀b∈fL X.stack,b∈X.fs∨X.s₀.heap.get? b=none:=λb hb=>by
 rcases z1d.mp (I.y466 b hb) with e|hb
 ·exact .inr (by rw [e];exact Heap.get?_none_of_le I.ok.above)
 ·exact .inl hb
def GY:fB (eh (dw P w base) P w K mg base N qual scope f cd A outer s H E) E:=by
 intro pins σ H1 s1 x C dct I ex hE
 obtain⟨o,vs,a0,h1,h2,h3,h4,h5,h6,h7⟩:=gp I.hok ex
 have hxb:base.get? x=none:=by
  cases q:base.get? x with
  | none=>rfl
  | some o=>have:=(I.bs x o q).2;rw [ex] at this;cases this
 have hn:s.heap.objs.size≤s1.heap.objs.size:=I.sz
 obtain⟨oc,od,oda,osl⟩:=o
 dsimp only at h2 h3 h4
 subst h2 h3 h4
 refine wX (base:=base) (p:=pJ s.heap.objs.size H1) (wW (λT z=>⟨z1c hn z,I.hok.fresh z⟩) I.ok.frames rfl I.bk I.stack hxb ⟨vs,osl,h1,h5,h7 rfl⟩ (.inl rfl)) λh' fy up=>?_
 obtain⟨u,k⟩:=pK (fs':=fL (eh (dw P w base) P w K mg base N qual scope f cd A outer s H E).stack) I.base I.hok ex I.y465 (w8 I) up fy
 exact⟨x,C,od,_,rfl,I.os,I.bare,u,k,fy.imp λT ne z=>⟨z.1,by rw [aQ ne];exact z.2⟩,bf,hE⟩
def GZ:bN (dw P w base) (eh (dw P w base) P w K mg base N qual scope f cd A outer s H E) E:=by
 rintro pins σ H1 s1 e s' I ⟨x,C,dct,H',rfl,os,bare,un,hok,fl,ex,q⟩
 obtain⟨hh,g,d,t,os'⟩:=s'
 obtain rfl:os'=s1.os:=os
 have J:=I.call (h':=hh) (g':=g) (d':=d) (t':=t) (ch:=[]) un hok bare (λb z=>absurd z (by simp))
 have hn:s.heap.objs.size≤hh.objs.size:=J.sz
 have hn1:s.heap.objs.size≤s1.heap.objs.size:=I.sz
 refine wX (base:=base) (p:=pJ s.heap.objs.size H') (Fly.look (λT z=>⟨z1c hn z,hok.fresh z⟩) J.ok.frames rfl (fl.imp λT _ z=>⟨z1c hn1 z.1,z.2⟩)) λh' f2 up=>?_
 obtain⟨u,k⟩:=pK (fs':=fL (eh (dw P w base) P w K mg base N qual scope f cd A outer s H E).stack) J.base J.hok ex J.y465 (w8 J) up f2
 rw [pI ex] at u k
 exact⟨x,C,dct,H',rfl,J.os,J.bare,u,k,f2,ex,q⟩
end
end
end L2
namespace PySem
section
variable {M:Model}{A:Around}{E:Value->Shared->Prop}{env:Env}
def Ha{s:Shared}{x:Sem Value}{Q:Flow->Shared->Prop}(hh:A.handled=none)
  (h:wpAny M A x (λv s₁=>∃e oe vs C bm,v=.ref e/\bm.contains (.type "BaseException")=true/\mh s₁.heap C bm /\
   s₁.heap.get? e=some oe/\oe.cls=.ref C/\oe.data=.fields vs/\vs[1]?=some .none/\E (.ref e) s₁) E s) :
  wpAny M A (raiseStmt env (some x) none) Q E s:=by
 unfold raiseStmt
 refine za (wpAny_mono h (λv s₁ h₁=>?_) λ_ _ x=>x)
 obtain⟨e,oe,vs,C,bm,rfl,y1aa,⟨nm,q,N,bs,y1af,sn,sub,ab,col,dd,k0,k1,k2,k3,k5,newId,hC⟩,he,hc,hd,h1,hE⟩:=h₁
 have hcB:(Value.ref C::bm).contains (.type "BaseException")=true:=by rw [List.contains_cons,y1aa,Bool.or_true]
 obtain⟨oc,odi,oda,osl⟩:=oe
 dsimp only at hc hd
 subst hc hd
 obtain⟨hp,g,d,tk,os⟩:=s₁
 repeat (first|with_reducible refine wpAny_field he rfl h1 ?_|with_reducible refine wpAny_loadPart_at he ?_|with_reducible refine wpAny_loadPart_at hC ?_|(with_reducible refine wpAny_isSubtype_exc hC ?_;rw [hcB])|wp_step)
 exact wpAny_raiseNew_none hh hE
end
end PySem
namespace L2
open PySem PySem.Spec PyProof.Rows
section
abbrev qL(K:W.Frag)(C:Addr):Prop:=∀h:Heap,K.In h->∃nm q N bs bm y1af sn sub ab col dd k0 k1 k2 k3 k5 newId,h.get? C=some (excClassObj nm q C N bs bm y1af sn sub ab col dd k0 k1 k2 k3 k5 newId)/\bm.contains (.type "BaseException")=true
def y54.is{K:W.Frag}{C f:Addr}{B newId nid y1cb inN:String}{bmB bmN:List Value}(M:y54 K C f B newId nid y1cb inN bmB bmN):qL K C:=λh x=>by
 obtain⟨nm,q,N,bs,bm,y1af,sn,sub,ab,col,dd,k0,k1,k2,k3,k5,mN,hC,hn,hi,T⟩:=M.cls h x
 exact⟨nm,q,N,bs,bm,y1af,sn,sub,ab,col,dd,k0,k1,k2,k3,k5,_,hC,T.hasType M.fb.hasBase⟩
abbrev xb(K:W.Frag)(te:TE)(E:XK):TS:=λ_ σ H=>te σ H λv H1=>∃x C dct,v=.ref x/\H1 x=some (cD x C dct true)/\qL K C/\E (.ref C) (some x) (upd H1 x (cD x C dct false))
abbrev xc(C:Addr)(sp:Sp)(dvs:List V)(E:XK)(t:TA):TE:=λσ H Q=>t σ H λvs H1=>∀x,H1 x=none->sp (.ref x::(vs++dvs)) (upd H1 x (cD x C none true)) (λv H2=>v=.non/\Q (.ref x) H2) E
section
variable {X:Cx}{CX:gS}{k:Nat}{f C:Addr}{fd:FuncData}{ps:List Str}{sp:Sp}{dvs:List V}{ds:List Value}{E:XK}{x:Str}{p pos:Pos}{e:Expr}{es:List Expr}{te:TE}{t:TA}{B newId nid y1cb inN:String}{bmB bmN:List Value}
def Hb(hc:X.calm=true)(he:PE X e te)(hr:fB X E):PS X (.Raise (some e) none pos) (xb X.K te E):=by
 intro pins s σ H D I h
 rw [arm_exec_Raise]
 refine za (wpAny_standAt (Ha (I.ok.hd hc) (za (wpAny_mono (he pins s σ H _ I h) (λv s1 ⟨v',H1,I1,rv,x,C,dct,ev,ex,ic,q⟩=>za (wpAny_standAt (ze ?_))) λ_ _ z=>z))))
 subst ev
 obtain rfl:v=Value.ref x:=rv
 obtain⟨nm,qn,N,bs,bm,y1af,sn,sub,ab,col,dd,k0,k1,k2,k3,k5,newId,hC,hb⟩:=ic _ I1.kIn
 obtain⟨o,vs,a0,h1,h2,h3,h4,h5,h6,h7⟩:=gp I1.hok ex
 exact⟨x,o,vs,C,bm,rfl,hb,⟨nm,qn,N,bs,y1af,sn,sub,ab,col,dd,k0,k1,k2,k3,k5,newId,hC⟩,h1,h2,h4,h7 rfl,hr pins σ H1 s1 x C dct I1 ex q⟩
def Hc(M:y54 X.K C f B newId nid y1cb inN bmB bmN)(hk:W.keepIn X.K (.ref C)=true)(F:y3f X.prog X.w X.K X.mg X.base CX k f fd ps sp)(hr:y4d (k+1) X.A)(hg:Gl X x)(hm:X.mg x=some (.ref C))(hb:cP X.K fd ps ds)(hd:au dvs ds)(hx:bN CX X E)(hz:ps.length≤1000)
  (ha:PA X (e::es) t) (hdb:(x == ("__debug__" : Str))=false:=by decide) (he:‹fM X e es›) (hpl:‹eW X pos es›) :
  PE X (.Call (.Name x p) (e::es) [] pos) (xc C sp dvs E t):=by
 intro pins s σ H Q I h
 refine wpAny_Call_Name_kw (jh I hg hm ?_ hdb)
 refine W.callWith_K (h₀:=X.base) I.ok.mod.kin hk (aN (ha pos pins s σ H _ I h) λus s1 ⟨vs,H1,I1,r,q⟩=>⟨I1.kIn,?_⟩) he hpl
 refine GJ M F hr hb hd hx I1 r ?_ q
 have l:=F.len _ _ _ _ (q _ (I1.hok.fresh (z12 _)))
 rw [z18,zc] at l
 show us.length≤sizeLine
 rw [<- r.length,sizeLine_eq]
 lia
end
end
end L2
namespace PySem
section
variable {M:Model}{A:Around}{E:Value->Shared->Prop}{h:Heap}{g:Array GenState}{d:Drawn}{t:Nat}{os:OsState}
variable {C T:Addr}{bm bm':List Value}
def Hd{e:Addr}{oe:Obj}{b:Bool}{Q:Bool->Shared->Prop}
  (hC:mh h C bm) (hT:mh h T bm') (he:h.get? e=some oe) (y1ad:oe.cls=.ref C)
  (hbT:bm'.contains (.type "BaseException")=true) (hb:(Value.ref C::bm).contains (.ref T)=b) (hq:Q b ⟨h,g,d,t,os⟩):wpAny M A (excMatches (.ref e) (.ref T)) Q E ⟨h,g,d,t,os⟩:=by
 obtain⟨nm,q,N,bs,y1af,sn,sub,ab,col,dd,k0,k1,k2,k3,k5,newId,hC⟩:=hC
 obtain⟨nm',q,N,bs,y1af,sn,sub,ab,col,dd,k0,k1,k2,k3,k5,newId,hT⟩:=hT
 have hcB:(Value.ref T::bm').contains (.type "BaseException")=true:=by rw [List.contains_cons,hbT,Bool.or_true]
 have f:=tc_notTuple
 unfold excMatches
 repeat (first|(with_reducible refine wpAny_loadPart_at he ?_;rw [y1ad])|with_reducible refine wpAny_loadPart_at hT ?_|(with_reducible refine wpAny_isSubtype_exc hT ?_;rw [hcB])|(with_reducible refine wpAny_isSubtype_exc hC ?_;rw [hb])|wp_step)
 cases b<;>(wp_walk;exact hq)
end
end PySem
namespace L2
open PySem PySem.Spec PyProof.Rows
section
section
variable {X:Cx}{pins:List (Addr×Obj)}{σ:St}{H:Hp}{s:Shared}
def mj{M:Model}{A:Around}{E:Value->Shared->Prop}{i:Nat}{n:Str}{pos:Pos}{Q:Unit->Shared->Prop}(I:Inv X pins σ H s)(hN:X.N.Nodup)(hi:X.N[i]?=some n)(hk:X.env.scope.names.lookup n=some .local)
  (h:∀s',Inv X pins (σ.set i none) H s'->Q () s'):wpAny M A (do bindName X.env n .none;unbindBehindTheSuite X.env n pos) Q E s:=by
 obtain⟨m,hn,hl⟩:=id I.loc
 have y1ad:(X.env.scope.kind == .class||(X.env.scope.kind == .module&&X.env.locals != X.env.globals))=false:=by rw [I.ok.kind];rfl
 have hiσ:i<σ.length:=by rw [I.len];exact (z1a.mp hi).1
 refine wpAny_nameGoes_keeps hk hn y1ad λh' v hn' hs=>h _ ?_
 have nl:∀b o,X.s₀.heap.get? b=some o->b≠X.env.locals:=λb o e=>z28 (z1f (z14 e) I.ok.above)
 have cK:∀y c w',X.env.cells.lookup y=some c->s.heap.IsCell c w'->h'.IsCell c w':=λy c w' e ⟨o,ho,hd⟩=>⟨o,(hs.2 c (I.cne y c e)).trans ho,hd⟩
 refine⟨I.ok,I.os,I.bare,⟨λb o e n hb hx=>(hs.2 b (nl b o e)).trans (I.base.keep b o e n hb hx),λb o e n hb hx=>?_,I.base.free,λb o e hx=>?_,I.base.y4bc,I.base.y16e,I.base.y49d⟩,⟨_,hn',λj y v' e1 e2 e3=>?_⟩,λy c e=>?_,I.free,I.y16c,λp hp=>?_,λb ob e=>?_,by simpa using I.len⟩
 ·obtain⟨sl,e1⟩:=I.base.slot b o e n hb hx
  exact⟨sl,(hs.2 b (nl b o e)).trans e1⟩
 ·obtain⟨o',e1⟩:=I.base.there b o e hx
  exact⟨o',(hs.2 b (nl b o e)).trans e1⟩
 ·by_cases hj:j=i
  ·subst hj
   rw [List.getElem?_set_self hiσ] at e2
   cases e2
  ·rw [z26 (Ne.symm hj)] at e2
   obtain⟨u',r',q⟩:=hl j y v' e1 e2 e3
   refine⟨u',r',?_⟩
   rcases q with⟨k,e⟩| ⟨k,c,e,z⟩
   ·refine .inl ⟨k,?_⟩
    have hy:y≠n:=λz=>hj (nD hN e1 (z ▸ hi))
    show (if y=n then v else m y)=some u'
    rw [if_neg hy];exact e
   ·exact .inr ⟨k,c,e,cK y c _ e z⟩
 ·obtain⟨w',z⟩:=I.cell y c e
  exact⟨w',cK y c w' e z⟩
 ·obtain⟨e,n1,n2,n3,n4⟩:=I.pin p hp
  exact⟨(hs.2 p.1 n2).trans e,n1,n2,n3,n4⟩
 ·have fr:=I.free
  refine (I.hok b ob e).y464 (λc w' hc q=>(hs.2 c ?_).trans q) (λ_ q=>q) λ_ _ q=>q
  rintro rfl
  rcases hc with rfl|hc
  ·rw [fr] at e;cases e
  ·rw [fr] at hc;cases hc
end
end
section
noncomputable abbrev jU(X:Cx):St:=List.replicate X.N.length none
structure y8(X:Cx)(pins:List (Addr×Obj))(x C:Addr)(dct:Option Addr)(H:Hp)(s:Shared):Prop where
 ok:X.Ok
 ex:H x=some (cD x C dct false)
 st:∃p,Fly X.base X.stack x (.ref C) dct p .none s.heap/\∀h',Fly X.base X.stack x (.ref C) dct p .none h'->bW x p [] s.heap h'->Inv X pins (jU X) H { s with heap:=h' }
abbrev pL(K:W.Frag)(C c:Addr)(b:Bool):Prop:=∀h:Heap,K.In h->∃nm q N bs bm y1af sn sub ab col dd k0 k1 k2 k3 k5 newId,h.get? C=some (excClassObj nm q C N bs bm y1af sn sub ab col dd k0 k1 k2 k3 k5 newId)/\(Value.ref C::bm).contains (.ref c)=b
noncomputable abbrev TH:=Addr->Addr->Ends->Hp->Prop
abbrev PH(X:Cx)(hs:List ExceptHandler)(th:TH):Prop :=
 ∀(pins:List (Addr×Obj)) (s:Shared) (x C:Addr) (dct:Option Addr) (H1:Hp) (D:Ends),y8 X pins x C dct H1 s->th x C D H1 ->
  wpAny (model X.prog X.w) X.A (handleBy (.ref x) X.env hs) (SP X pins D) X.xe s
noncomputable abbrev Cx.inX(X:Cx)(x:Addr):Cx:={ X with A:=X.A.mark (some (.ref x)),calm:=false,xe:=λ_ _=>False }
abbrev Ends.drop(D:Ends)(i:Nat):Ends:=⟨λσ H=>D.nx (σ.set i none) H,D.rt,λσ H=>D.bk (σ.set i none) H,λσ H=>D.ct (σ.set i none) H⟩
abbrev hAs(X:Cx)(c:Addr)(i:Nat)(ts:TS)(th:TH):TH:=λx C D H=>∃b,pL X.K C c b/\if b=true then ts (D.drop i) ((jU X).set i (some (.ref x))) H else th x C D H
section
variable {X:Cx}{pins:List (Addr×Obj)}{σ:St}{H:Hp}{s:Shared}
theorem Cx.Ok.inX{x:Addr}(o:X.Ok):(X.inX x).Ok:=⟨o.mod,o.kind,o.glob,o.blt,o.above,o.inj,o.has,o.cab,(λz=>by cases z),o.frames,o.stk,o.exf,o.bs,o.bsz,o.y293,o.y142,o.y170,o.frf⟩
theorem Inv.inX{x:Addr}(I:Inv X pins σ H s):Inv (X.inX x) pins σ H s:=⟨I.ok.inX,I.os,I.bare,I.base,I.loc,I.cell,I.free,I.y16c,I.pin,I.hok,I.len⟩
def Inv.outX{x:Addr}(o:X.Ok)(I:Inv (X.inX x) pins σ H s):Inv X pins σ H s:=⟨o,I.os,I.bare,I.base,I.loc,I.cell,I.free,I.y16c,I.pin,I.hok,I.len⟩
def y8.now{x C:Addr}{dct:Option Addr}(c:y8 X pins x C dct H s):Inv X pins (jU X) H s:=by
 obtain⟨n,f,k⟩:=c.st
 exact k s.heap f (.refl _ _ _ _)
def xf{c:Addr}{i:Nat}{cn n:Str}{p pos:Pos}{b₀:Stmt}{y479:List Stmt}{aG:List ExceptHandler}{ts:TS}{th:TH}(hg:Gl X cn)(hm:X.mg cn=some (.ref c))(hc:qL X.K c)(hN:X.N.Nodup)(hi:X.N[i]?=some n)
  (hk:X.env.scope.names.lookup n=some .local) (hb:∀x,dH (X.inX x) (b₀::y479) ts) (hr:PH X aG th) (hdb:(cn == ("__debug__" : Str))=false:=by decide) :
  PH X (.ExceptHandler (some (.Name cn p)) (some n) (b₀::y479) pos::aG) (hAs X c i ts th):=by
 intro pins s x C dct H1 D cg h
 have I:=cg.now
 obtain⟨b,hs,hq⟩:=h
 obtain⟨o,vs,a0,h1,h2,_⟩:=gp I.hok cg.ex
 obtain⟨nm,q,N,bs,bm,y1af,sn,sub,ab,col,dd,k0,k1,k2,k3,k5,newId,hC,hcon⟩:=hs _ I.kIn
 obtain⟨nm',q',N',bs',bm',hdct',sn',sub',ab',col',dd',k0',k1',k2',k3',k5',y287,hT,hbT⟩:=hc _ I.kIn
 refine wpAny_handleBy_cons (codeAny_handlers_test ?_) (by intro q;cases q)
 refine jh (X:=X.inX x) I.inX hg hm ?_ hdb
 obtain⟨hh,g,d,t,os⟩:=s
 refine Hd ⟨nm,q,N,bs,y1af,sn,sub,ab,col,dd,k0,k1,k2,k3,k5,newId,hC⟩ ⟨nm',q',N',bs',hdct',sn',sub',ab',col',dd',k0',k1',k2',k3',k5',y287,hT⟩ h1 h2 hbT hcon ?_
 cases b with
 | false=>exact hr pins _ x C dct H1 D cg hq
 | true =>
  refine codeAny_handlers_suite_as ?_
  obtain⟨n0,fl,k⟩:=cg.st
  refine fl.land λh' fl' up=>?_
  have I3:=k h' fl' up
  refine nE (X:=X.inX x) I3.inX hN hi (.inl hk) (v:=.ref x) rfl (λs4 I4=>?_) (.inr hk)
  refine wpAny_mono (hb x pins s4 _ H1 (D.drop i) I4 hq) (λf s5 hsp=>?_) (λe s5 z=>z.elim)
  cases f with
  | next=>obtain⟨σ',H',J,q⟩:=hsp;exact mj (X:=X) (J.outX cg.ok) hN hi hk λs6 J6=>⟨_,_,J6,q⟩
  | brk=>obtain⟨σ',H',J,q⟩:=hsp;exact mj (X:=X) (J.outX cg.ok) hN hi hk λs6 J6=>⟨_,_,J6,q⟩
  | cont=>obtain⟨σ',H',J,q⟩:=hsp;exact mj (X:=X) (J.outX cg.ok) hN hi hk λs6 J6=>⟨_,_,J6,q⟩
  | ret u=>obtain⟨v,σ',H',J,r,q⟩:=hsp;exact mj (X:=X) (J.outX cg.ok) hN hi hk λs6 J6=>⟨v,_,H',J6,r,q⟩
end
end
section
abbrev He(tb:XK->TS)(th:TH):TS:=λD σ H=>tb (λCv xo H'=>∀x C dct,Cv=.ref C->xo=some x->H' x=some (cD x C dct false)->th x C D H') D σ H
section
variable {X:Cx}{pins:List (Addr×Obj)}{σ:St}{H:Hp}{s:Shared}
noncomputable abbrev Cx.y4b6(X:Cx)(pn:List (Addr×Obj))(xe:Value->Shared->Prop):Cx:={ X with pn:=pn,xe:=xe }
theorem Cx.Ok.y4b6{pn:List (Addr×Obj)}{xe:Value->Shared->Prop}(o:X.Ok):(X.y4b6 pn xe).Ok:=⟨o.mod,o.kind,o.glob,o.blt,o.above,o.inj,o.has,o.cab,o.hd,o.frames,o.stk,o.exf,o.bs,o.bsz,o.y293,o.y142,o.y170,o.frf⟩
theorem Inv.y4b6{xe:Value->Shared->Prop}(I:Inv X pins σ H s):Inv (X.y4b6 (X.pn++pins) xe) [] σ H s :=
 ⟨I.ok.y4b6,I.os,I.bare,I.base,I.loc,I.cell,I.free,I.y16c,λp hp=>I.pin p (by simpa using hp),I.hok,I.len⟩
def Inv.y4cc{xe:Value->Shared->Prop}{y353:List (Addr×Obj)}(o:X.Ok)(I:Inv (X.y4b6 (X.pn++pins) xe) y353 σ H s):Inv X pins σ H s :=
 ⟨o,I.os,I.bare,I.base,I.loc,I.cell,I.free,I.y16c,λp hp=>I.pin p (List.mem_append_left _ hp),I.hok,I.len⟩
def Hf{body:List Stmt}{h₀:ExceptHandler}{hs:List ExceptHandler}{pos:Pos}{tb:XK->TS}{th:TH}(hst:X.stack=X.env::X.outer)(hfr:X.env.frame=some X.env.locals)
  (hb:∀E pn xe,bN (dw X.prog X.w X.base) (X.y4b6 pn xe) E->dH (X.y4b6 pn xe) body (tb E)) (hh:PH X (h₀::hs) th):PS X (.Try body (h₀::hs) [] [] pos) (He tb th):=by
 intro pins s σ H D I h
 refine wpAny_Try_except ?_
 have o:=I.ok
 have ps:bN (dw X.prog X.w X.base) (X.y4b6 (X.pn++pins) λe s1=>∃σ H s0,Inv X pins σ H s0/\dw X.prog X.w X.base X.stack H s0 (λCv xo H'=>∀x C dct,Cv=.ref C->xo=some x->H' x=some (cD x C dct false)->th x C D H') e s1)
   (λCv xo H'=>∀x C dct,Cv=.ref C->xo=some x->H' x=some (cD x C dct false)->th x C D H') :=
  λy353 σ' H' s0 e s' J cx=>⟨σ',H',s0,J.y4cc o,cx⟩
 refine wpAny_mono (hb _ _ _ ps [] s σ H D I.y4b6 h) (λf s1 hsp=>?_) λe s1 hx=>?_
 ·cases f with
  | next=>obtain⟨σ',H',J,q⟩:=hsp;exact ze ⟨σ',H',J.y4cc o,q⟩
  | brk=>obtain⟨σ',H',J,q⟩:=hsp;exact⟨σ',H',J.y4cc o,q⟩
  | cont=>obtain⟨σ',H',J,q⟩:=hsp;exact⟨σ',H',J.y4cc o,q⟩
  | ret u=>obtain⟨v,σ',H',J,r,q⟩:=hsp;exact⟨v,σ',H',J.y4cc o,r,q⟩
 ·obtain⟨σ',H',s0,J,x,C,dct,H1,rfl,os,bare,un,hok,fl,ex,q⟩:=hx
  have hn:s0.heap.objs.size≤s1.heap.objs.size:=by
   obtain⟨_,T,_,⟨_,_,hT,_⟩,_,_,hnn⟩:=fl.ex
   exact z1c hnn.1 (Nat.le_of_lt (z14 hT))
  have hf1:∀b∈fL X.stack,H1 b=none:=λb hb=>by
   obtain⟨_,ob,ho,_⟩:=J.stack.mem hb
   exact un.free b ob ho (J.y465 b hb) (by simp)
  refine Fly.look (base:=X.base) (p:=pJ s0.heap.objs.size H1) (λT z=>⟨z1c hn z,hok.fresh z⟩) (o.frames.trans (congrArg some hst)) hfr (hst ▸ fl) λh2 hl up2=>?_
  refine hl.land λh3 f3 up3=>?_
  have up23:bW x (pJ s0.heap.objs.size H1) (fL X.stack) s1.heap h3:=(up2.mono λb hb=>by rw [hst];exact hb).trans (up3.mono λb hb=>by simp at hb)
  refine hh pins _ x C dct H1 D ⟨o,ex,_,hst ▸ f3,λh' f' up'=>?_⟩ (q x C dct rfl rfl ex)
  obtain⟨u,k⟩:=pK (fs':=fL X.stack) un hok ex hf1 (λb hb=>.inl hb) (up23.trans (up'.mono λb hb=>by simp at hb)) f'
  rw [pI ex] at u k
  have K1:=J.y9f (s':={ s1 with heap:=h' }) (ch:=[]) os u k bare (λb z=>absurd z (by simp))
  exact K1.weak (by rw [K1.len];simp) λi v z=>by
   rw [List.getElem?_replicate] at z
   split at z<;>cases z
end
end
end L2
namespace L2
open PySem PySem.Spec PyProof.Rows PySem.W
section
abbrev VE:List Value:=[.type "ValueError",.type "Exception",.type "BaseException",.type "object"]
abbrev jV(K:Frag)(N:Addr):Bool:=match K.lookup N with
 | some ⟨_,_,.dict es _,_⟩=>es.toList.all λe=>match e.key with | .str _ _=>true|_=>false
 | _=>false
def xg{K:Frag}{h:Heap}{N:Addr}(x:K.In h)(e:jV K N=true):∃m,h.Ns N m/\∀name r,nsIn K N name=some r->m name=r:=by
 unfold jV at e
 split at e
 ·rename_i c d es ep sl q
  refine⟨nsFind es,⟨_,es,ep,x _ _ q,rfl,λen he=>?_,λ_=>rfl⟩,λname r z=>?_⟩
  ·have:=z33.mp e en (Array.mem_toList_iff.mpr he)
   split at this
   ·rename_i n t hk;exact⟨n,t,hk⟩
   ·cases this
  ·unfold nsIn at z
   rw [q] at z
   dsimp only at z
   unfold nsFind findBy
   rw [<- Array.find?_toList]
   split at z
   ·rename_i en he;rw [he];exact z20 z
   ·rename_i he;rw [he]
    split at z
    ·cases z
    ·exact z20 z
 ·cases e
abbrev dq(K:Frag):List Value->Bool
 | .ref A::r=>(match K.lookup A with|some ⟨_,_,.cls cd,_⟩=>jV K cd.ns&&decide (nsIn K cd.ns "__init__" = some none)|_=>false)&&dq K r
 | l=>decide (l=VE)
def Hg{K:Frag}{h:Heap}(x:K.In h):∀{l:List Value},dq K l=true->OwnTail h VE l:=by
 intro l
 induction l with
 | nil=>intro e;exact absurd (of_decide_eq_true (show decide (([]:List Value)=VE)=true from e)) (by intro z;cases z)
 | cons a r ih =>
  intro e
  cases a with
  | ref A =>
   have e:((match K.lookup A with|some ⟨_,_,.cls cd,_⟩=>jV K cd.ns&&decide (nsIn K cd.ns "__init__" = some none)|_=>false)&&dq K r)=true:=e
   obtain⟨e1,e2⟩:=z38.mp e
   split at e1
   ·rename_i c0 dd cd sl q
    obtain⟨e3,e4⟩:=z38.mp e1
    obtain⟨m,hn,hm⟩:=xg x e3
    exact .own (x _ _ q) hn (hm _ _ (of_decide_eq_true e4)) (ih e2)
   ·cases e1
  | _=>rw [of_decide_eq_true e];exact .base
abbrev fD(K:Frag)(C:Addr):Bool:=match K.lookup C with
 | some ⟨t,_,.cls cd,sl⟩=>decide (t=.type "type")&&decide (cd.mro.head?=some (.ref C))&&dq K cd.mro.tail && !cd.hasDel&&decide (sl.size=6)&&decide (sl[4]?=some (some (.builtin "ValueError.__new__")))&&jV K cd.ns
 | _=>false
def pM{K:Frag}{h:Heap}{C:Addr}(x:K.In h)(e:fD K C=true):∃nm q N bs bm y1af sn sub ab col dd k0 k1 k2 k3 k5 mN cd,h.get? C=some (excClassObj nm q C N bs bm y1af sn sub ab col dd k0 k1 k2 k3 k5 "ValueError.__new__")/\h.Ns N mN /\
  OwnTail h VE bm/\clsIn K C=some cd/\cd.ns=N/\cd.mro=.ref C::bm/\∀name r,nsIn K N name=some r->mN name=r:=by
 unfold fD at e
 split at e
 ·rename_i t dd cd sl q
  have qc:clsIn K C=some cd:=by unfold clsIn;rw [q]
  obtain⟨nm,bs,mro,N,qn,y1af,sn,sub,ab,col,hdel⟩:=cd
  simp only [z1b,decide_eq_true_eq,Bool.not_eq_true'] at e
  obtain⟨⟨⟨⟨⟨⟨e1,e2⟩,e3⟩,e4⟩,e5⟩,e6⟩,e7⟩:=e
  obtain⟨m,hn,hm⟩:=xg x e7
  cases mro with
  | nil=>cases e2
  | cons m0 mr =>
   obtain rfl:m0=.ref C:=z20 e2
   obtain⟨l⟩:=sl
   obtain⟨k0,k1,k2,k3,k5,rfl⟩:=six_places (l:=l) (by simpa using e5) (by simpa using e6)
   subst e1 e4
   exact⟨nm,qn,N,bs,mr,y1af,sn,sub,ab,col,dd,k0,k1,k2,k3,k5,m,_,x _ _ q,hn,Hg x e3,qc,rfl,rfl,hm⟩
 ·cases e
abbrev xh(K:Frag)(C f:Addr):Bool:=(clsIn K C).any (λcd=>decide (nsIn K cd.ns "__init__" = some (some (.ref f))))&&decide (typeIn K (.ref f)=some (.type "function"))
def xk{K:Frag}{C f:Addr}(e:fD K C=true)(i:xh K C f=true):y54 K C f "ValueError" "ValueError.__new__" "ValueError.__new__" "ValueError.__init__" "ValueError.__init__" VE VE:=by
 obtain⟨i1,i2⟩:=z38.mp i
 have F:=PySem.F.excBase_ValueError
 refine⟨F,by decide,F,λh x=>?_,λh x=>?_⟩
 ·obtain⟨nm,q,N,bs,bm,y1af,sn,sub,ab,col,dd,k0,k1,k2,k3,k5,mN,cd,h1,h2,h3,h4,h5,h6,h7⟩:=pM x e
  rw [h4] at i1
  subst h5
  exact⟨nm,q,_,bs,bm,y1af,sn,sub,ab,col,dd,k0,k1,k2,k3,k5,mN,h1,h2,h7 _ _ (of_decide_eq_true i1),h3⟩
 ·have z:=of_decide_eq_true i2
  unfold typeIn at z
  obtain⟨o,q,c⟩:=Option.map_eq_some_iff.mp z
  exact⟨o,x _ _ q,c⟩
def Hh{K:Frag}{C:Addr}(e:fD K C=true):qL K C:=λh x=>by
 obtain⟨nm,q,N,bs,bm,y1af,sn,sub,ab,col,dd,k0,k1,k2,k3,k5,mN,cd,h1,h2,h3,_⟩:=pM x e
 exact⟨nm,q,N,bs,bm,y1af,sn,sub,ab,col,dd,k0,k1,k2,k3,k5,_,h1,h3.hasType (by decide)⟩
def Hi{K:Frag}{C c:Addr}{b:Bool}(e:fD K C=true)(s:(clsIn K C).map (λcd=>cd.mro.contains (.ref c))=some b):pL K C c b:=λh x=>by
 obtain⟨nm,q,N,bs,bm,y1af,sn,sub,ab,col,dd,k0,k1,k2,k3,k5,mN,cd,h1,h2,h3,h4,h5,h6,_⟩:=pM x e
 rw [h4] at s
 refine⟨nm,q,N,bs,bm,y1af,sn,sub,ab,col,dd,k0,k1,k2,k3,k5,_,h1,?_⟩
 rw [<- h6]
 exact z20 s
end
section
def xl{K:Frag}{p:List Value->Prop}(b:p VE)(s:∀A r,p r->p (.ref A::r)):∀{l:List Value},dq K l=true->p l:=by
 intro l
 induction l with
 | nil=>intro e;exact absurd (of_decide_eq_true (show decide (([]:List Value)=VE)=true from e)) (by intro z;cases z)
 | cons a r ih =>
  intro e
  cases a with
  | ref A=>exact s A r (ih (z38.mp e).2)
  | _=>rw [of_decide_eq_true e];exact b
def xm{K:Frag}{C:Addr}(e:fD K C=true):∃cd bm,clsIn K C=some cd/\cd.mro=.ref C::bm/\dq K bm=true:=by
 unfold fD at e
 split at e
 ·rename_i t dd cd sl q
  have qc:clsIn K C=some cd:=by unfold clsIn;rw [q]
  simp only [z1b,decide_eq_true_eq,Bool.not_eq_true'] at e
  obtain⟨⟨⟨⟨⟨⟨e1,e2⟩,e3⟩,e4⟩,e5⟩,e6⟩,e7⟩:=e
  cases hm:cd.mro with
  | nil=>rw [hm] at e2;cases e2
  | cons m0 mr =>
   rw [hm] at e2 e3
   obtain rfl:m0=.ref C:=z20 e2
   exact⟨cd,mr,qc,hm,e3⟩
 ·cases e
abbrev jW(K:Frag)(C:Addr):Bool:=fD K C&&hasDictIn K C&&decide (findIn K (.ref C) "__getattribute__" = some (some (.builtin "BaseException.__getattribute__")))&&decide (findIn K (.ref C) "__getattr__" = some none)&&decide (findIn K (.ref C) "__setattr__" = some (some (.builtin "object.__setattr__")))
def xn{K:Frag}{C:Addr}(e:jW K C=true):XA K C:=by
 unfold jW at e
 simp only [z1b,decide_eq_true_eq] at e
 obtain⟨⟨⟨⟨e1,e2⟩,e3⟩,e4⟩,e5⟩:=e
 obtain⟨cd,bm,h1,h2,h3⟩:=xm e1
 have has:∀t,VE.contains (.type t)=true->cd.mro.contains (.type t)=true:=λt z=>by
  rw [h2,List.contains_cons,xl (p:=λl=>l.contains (.type t)=true) z (λA r q=>by rw [List.contains_cons,q,Bool.or_true]) h3,Bool.or_true]
 refine⟨e3,e4,e5,cd,h1,?_,has "object" (by decide),has "BaseException" (by decide),λself=>?_⟩
 ·unfold hasDictIn at e2;rw [h1] at e2;exact e2
 ·rw [h2,refuseLoop_ref]
  exact xl (p:=λl=>refuseLoop self "__setattr__" l=pure ()) (PySem.F.store_ValueError.passes self) (λA r q=>by rw [refuseLoop_ref];exact q) h3
section
variable {P:Program}{w:World}{K:W.Frag}{mg:Str->Option Value}{base:Heap}
def Fun.okX{x qual:Str}{st:Stmt}{f:Addr}{fd:FuncData}{N ps:List Str}{k:Nat}{sp:Sp}(F:Fun K x qual st f fd)(S:y40 N ps (bo st))(len:∀vs H Q E,sp vs H Q E->vs.length=ps.length)
  (y1ab:∀(cdv:Value) (A:Around) (outer:List Env) (s:Shared) (H:Hp) (vs:List V) (Q:VK) (E:XK),y4d k (A.deeper (envOfC qual (bo st) s.heap.objs.size f cdv))->sp vs H Q E ->
   ∃t,dH (eh (dw P w base) P w K mg base N qual (bo st) f cdv A outer s H E) (jy st) t/\t { nx:=λ_ H'=>Q .non H',rt:=Q } (start N vs) H):y3f P w K mg base (dw P w base) (k+1) f fd ps sp:=by
 obtain⟨oc,od,kV,doc,pm,an,cdv,ct,osl,rfl,lk,hcd⟩:=F.ex
 exact sf lk hcd S len λA outer s H vs Q E hr hsp=>y1ab cdv A outer s H vs Q E hr hsp
end
end
end L2
namespace L2
open PySem PySem.Spec PyProof.Rows
section
structure XI(K:W.Frag)(D:Addr):Prop where
 ha:W.findIn K (.ref D) "__class__" = some (some (.builtin "object.__class__"))
 hn:W.specialIn K (.builtin "object.__class__") "__get__" = some (some (.builtin "getset_descriptor.__get__"))
 htk:W.takesIn K (.builtin "object.__class__")=some true
 hm:W.mroIn K D (.type "object")=some true
section
variable {K:W.Frag}{x D:Addr}
open PySem.W in
def Hj{prog:Program}{w:World}{A:Around}{E:Value->Shared->Prop}{Q:Option Value->Shared->Prop}{s:Shared}{ox od:Obj}(c:XA K D)(i:XI K D)(X:K.In s.heap)(I:InstAt s.heap x ox D (some od))(h:Q (some (.ref D)) { s with toks:=s.toks+1 }) :
  wpAny (model prog w) A (getAttr? (.ref x) "__class__") Q E s:=by
 obtain⟨cd,hcl,_⟩:=c.cd
 have hf:findObj K D (some od) "__class__" = some (.bind (.builtin "getset_descriptor.__get__") (.builtin "object.__class__")):=findObj_data (by rw [hcl];rfl) i.ha i.hn i.htk
 have L0:=I.type (M:=model prog w)
 have L1:=looks_findIn (M:=model prog w) X c.ga
 have L2:=looks_findIn (M:=model prog w) X c.gt
 have L3:=looks_find (M:=model prog w) X I hf
 have sub:=(c.isa (prog:=prog) (w:=w) X I).2
 obtain⟨hh',g,d,t,os⟩:=s
 have hx0:(false&&onTheHeap (Value.builtin "BaseException.__getattribute__"))=false:=rfl
 have hk:builtinKind "BaseException.__getattribute__" = some .slot:=by decide +kernel
 have y1ba:splitId "BaseException.__getattribute__" = some ("BaseException","__getattribute__"):=by decide +kernel
 have FA:=PySem.F.excAttr_ValueError.ga
 unfold getAttr? getAttrBy? getAttrBy
 refine za (wpAny_mkText (za (wpAny_attempt (wpAny_holding (za (L0.at (za (L1.at ?_))))))))
 show wpAny _ _ (getAttrByItsOwn _ _ _ _ _ _) _ _ _
 refine za (L2.at (za ?_))
 refine wpAny_attempt (wpAny_holding ?_)
 unfold callGetattribute
 rw [if_neg (by rw [hx0];decide)]
 unfold boundAndCalled
 rw [FA.bind]
 refine za (ze (wpAny_call (codeAny_call_builtin FA.plain F.entry_bexc_ga (@check_slot (model prog w) _ _ _ "BaseException.__getattribute__" "BaseException" "__getattribute__" (.ref x) [.str "__class__" t] [] _ hk y1ba sub (F.args_bexc_ga _ _) ?_))))
 refine za (ze (za (ze (za (L0.at (za (L3.at ?_)))))))
 show wpAny _ _ (holding [.builtin "object.__class__"] (call (.builtin "getset_descriptor.__get__") [.builtin "object.__class__",.ref x,.ref D]) >>= PySem.ret) _ _ _
 refine za (wpAny_holding (wpAny_call (class_get (s:=⟨hh',g,d,t+1,os⟩) (ox:=ox) (od:=some od) X I i.hm ?_)))
 refine ze ?_
 show wpAny _ _ (handedOut (.ref D)) _ _ _
 rw [handedOut_of (v:=.ref D) rfl]
 exact ze (ze h)
open PySem.W in
theorem XA.lies(c:XA K D):∃t dd cd sl,∀h:Heap,K.In h->h.get? D=some ⟨t,dd,.cls cd,sl⟩:=by
 obtain⟨_,q,_⟩:=c.cd
 unfold clsIn at q
 split at q
 ·rename_i lies
  exact⟨_,_,_,_,λ_ X=>X _ _ lies⟩
 ·cases q
open PySem.W in
def xp{ox od:Obj}(c:XA K D)(i:XI K D):KitX K (.ref x) (.ref D) (λh=>InstAt h x ox D (some od)):=by
 obtain⟨t,dd,cd,sl,lies⟩:=c.lies
 refine⟨λ_ _ _ z=>z.type,λ_ _ X _ _ _ _ _ k z=>?_,λh tp _ _ _ _ X q=>?_,λX z k=>Hj c i X z k⟩
 ·unfold isType loadHead
  exact za (wpAny_loadPart (k _ _ (lies _ X)) (ze z))
 ·cases z:(Value.ref D == Value.ref tp) with
  | false=>rfl
  | true =>
   cases eq_of_beq z
   cases (lies h X).symm.trans q
def Hk{X:Cx}{b new:Bool}{c:Value}{dx:Addr}{fs:List (Str×V)}(xa:XA X.K D)(xi:XI X.K D)(e:W.kitOne X.K (.ref D) c=some b){pins:List (Addr×Obj)}{σ:St}{H:Hp}{s:Shared}{A:Around}{E:Value->Shared->Prop}{Q:Value->Shared->Prop}
  (I:Inv X pins σ H s) (ex:H x=some (cD x D (some dx) new)) (ed:H dx=some (g9 dx fs)) (h:∀tk,Q (.bool b) { s with toks:=tk }):wpAny (model X.prog X.w) A (call (.builtin "isinstance") [.ref x,c]) Q E s:=by
 obtain⟨o,vs,a0,h1,h2,h3,h4,_⟩:=gp I.hok ex
 obtain⟨_,mA,hm,_⟩:=pH I.hok ed
 obtain⟨od,hod,_⟩:=kL hm
 obtain⟨oc,odi,oda,osl⟩:=o
 dsimp only at h2 h3 h4
 subst h2 h3 h4
 exact W.kia_one (xp (ox:=⟨.ref D,some dx,.fields vs,osl⟩) (od:=od) xa xi) I.kIn ⟨h1,rfl,rfl,hod⟩ e (λz=>nomatch z) h
end
end
end L2
namespace B
open PySem PySem.Spec PyProof.Rows L2
section
section
variable {K:W.Frag}{κ:Str->Addr}{ι ι1 fp fq:List Addr}{H H1:Hp}{D:Ends}{E:XK}{σ:L2.St}
abbrev XP(K:W.Frag)(κ:Str->Addr)(E:XK)(ι fp:List Addr)(H:Hp)(c:Str)(fs:List (Str×I))(G':List M):Prop :=
 ∀x dx fvs ι' H',H' x=some (cD x (κ c) (some dx) false)->H' dx=some (g9 dx fvs)->fvs.map (·.1)=fs.map (·.1)->y4e K ι' H' (fvs.map (·.2)) (fs.map (·.2))->SR K κ ι' H' [] [] G'->Step ι fp H ι' ι' H'->E (.ref (κ c)) (some x) H'
abbrev xo:Fl->Option (Str×List (Str×I)×List M)
 | .rt (.ow (.obj c fs)) G=>some (c,fs,G)
 | _=>none
abbrev ku(K:W.Frag)(κ:Str->Addr)(E:XK)(ι fp:List Addr)(H:Hp)(D:Ends)(fl:Fl):Prop:=match xo fl with
 | some (c,fs,G')=>XP K κ E ι fp H c fs G'
 | none=>oG K κ ι fp H D fl
abbrev bW(K:W.Frag)(κ:Str->Addr)(E:XK)(f:SF):TS:=λD σ H=>∃ι Z G fl,SR K κ ι H σ Z G/\f Z G=some fl/\ku K κ E ι (own σ Z++ι) H D fl
def XP.step{c:Str}{fs:List (Str×I)}{G':List M}(st:Step ι fp H ι1 fq H1)(h:XP K κ E ι fp H c fs G'):XP K κ E ι1 fq H1 c fs G':=λx dx fvs ι' H' a b c d e t=>h x dx fvs ι' H' a b c d e (st.trans t)
theorem ku.step{fl:Fl}(st:Step ι fp H ι1 fq H1)(h:ku K κ E ι fp H D fl):ku K κ E ι1 fq H1 D fl:=by
 unfold ku at h ⊢
 split
 ·rename_i c fs G' e
  rw [e] at h
  exact h.step st
 ·rename_i e
  rw [e] at h
  exact oG.step st h
def bW.of{f:SF}{fl:Fl}{Z1:De}{G1:List M}(s:SR K κ ι1 H1 σ Z1 G1)(st:Step ι fp H ι1 (own σ Z1++ι1) H1)(eq:f Z1 G1=some fl)(k:ku K κ E ι fp H D fl):bW K κ E f D σ H1:=⟨ι1,Z1,G1,fl,s,eq,k.step st⟩
abbrev fE(f:SF):SF:=λZ G=>match f Z G with
 | some fl=>if (xo fl).isNone then some fl else none
 | none=>none
def xq{f:SF}(h:bW K κ E (fE f) D σ H):cS K κ f D σ H:=by
 obtain⟨ι,Z,G,fl,s,eq,k⟩:=h
 unfold fE at eq
 split at eq
 ·rename_i fl' e1
  split at eq
  ·rename_i hx
   have e:xo fl'=none:=Option.isNone_iff_eq_none.mp hx
   cases eq
   unfold ku at k
   rw [e] at k
   exact⟨ι,Z,G,_,s,e1,k⟩
  ·cases eq
 ·cases eq
def Hl{a b:SF}(h:bW K κ E (ak a b) D σ H):kG (bW K κ E a) (bW K κ E b) D σ H:=by
 obtain⟨ι,Z,G,fl,s,eq,k⟩:=h
 unfold ak at eq
 split at eq
 ·rename_i Z1 G1 e1
  refine⟨ι,Z,G,_,s,e1,?_⟩
  exact λσ' ι' H' s' t=>bW.of s' t eq k
 ·rename_i r hn
  refine⟨ι,Z,G,_,s,eq,?_⟩
  unfold ku at k ⊢
  cases fl with
  | nx Z' G'=>exact absurd eq (hn Z' G')
  | bk Z' G'=>exact k
  | ct Z' G'=>exact k
  | rt x G'=>exact k
def Hm{c:Mo Bool}{a b:SF}(h:bW K κ E (aE c a b) D σ H):nK (c7 K κ c) (bW K κ E a) (bW K κ E b) D σ H:=by
 obtain⟨ι,Z,G,fl,s,eq,k⟩:=h
 unfold aE at eq
 split at eq
 ·rename_i Z1 G1 e1
  exact⟨ι,Z,G,true,Z1,G1,s,e1,λι' H' s' t=>by dsimp only;rw [if_pos rfl];exact bW.of s' t eq k⟩
 ·rename_i Z1 G1 e1
  exact⟨ι,Z,G,false,Z1,G1,s,e1,λι' H' s' t=>by dsimp only;rw [if_neg z13];exact bW.of s' t eq k⟩
 ·cases eq
def Hn{f:IF}{g:GF}{b:SF}(h:bW K κ E (df f g b) D σ H):nQ (nr K κ f) (nq K κ g) (bW K κ E b) D σ H:=by
 obtain⟨ι,Z,G,fl,s,eq,k⟩:=h
 unfold df at eq
 split at eq
 ·rename_i w es Z1 G1 e1
  refine⟨ι,Z,G,w,es,Z1,G1,s,e1,λJ vs ι1 H1 a wk=>?_⟩
  refine⟨λi m σ' H'=>i+m=w.n/\∃ι' Z' G',σ'.length=Z'.length/\SR K κ ι' H' (σ'++tS es vs) (Z'++tD es) G'/\Step ι (own σ Z++ι) H ι' (own (σ'++tS es vs) (Z'++tD es)++ι') H'/\bB w g b i m Z' G'=some fl,
   ⟨w.n,by lia,ι1,Z1,G1,a.ar.l,a.ar.sr,a.st,eq⟩,?_⟩
  rintro i m σ' H' ⟨him,ι',Z',G',l,s',st,e⟩
  have sub:∀a,a∈own σ' Z'++ι'->a∈own (σ'++tS es vs) (Z'++tD es)++ι':=λa ha=>cf l ha
  cases m with
  | zero =>
   have hi:i=w.n:=by lia
   subst hi
   unfold bB at e
   split at e
   ·rename_i hf
    cases e
    exact .inl ⟨wk.stop hf l s',k _ _ _ (s'.pop l) (st.sub sub)⟩
   ·cases e
  | succ m =>
   unfold bB at e
   split at e
   ·rename_i d hd
    obtain⟨go,yl⟩:=wk.go (by lia) hd l s'
    refine .inr ⟨go,λσ2 H2=>∃ι2 Z2 G2,σ2.length=Z2.length/\SR K κ ι2 H2 (σ2++tS es vs) (Z2++tD es) G2/\Step ι (own σ Z++ι) H ι2 (own (σ2++tS es vs) (Z2++tD es)++ι2) H2/\bB w g b (i+1) m Z2 G2=some fl,
     λσ2 H2 q=>⟨m,z37 _,by lia,q⟩,λx H3 hy=>?_⟩
    obtain⟨sm,rx⟩:=yl x H3 hy
    have s3:=s'.same sm
    have st3:=st.trans (Step.same sm)
    split at e
    ·rename_i Z4 G4 e4
     have p:=(s3.pop l).push_im rx
     refine⟨ι',Z',G',.im d,Z4,G4,l,p,e4,λσ4 ι4 H4 s4 st4=>?_⟩
     rw [dO l] at st4
     have jn:∀{σ5:L2.St} {Z5:De} {G5:List M} {ι5:List Addr} {H5:Hp},SR K κ ι5 H5 σ5 Z5 G5->Step ι4 (own σ4 Z4++ι4) H4 ι5 (own σ5 Z5++ι5) H5 ->
       SR K κ ι5 H5 (σ5++tS es vs) (Z5++tD es) G5/\Step ι (own σ Z++ι) H ι5 (own (σ5++tS es vs) (Z5++tD es)++ι5) H5:=λ{σ5 Z5 G5 ι5 H5} s5 st5=>by
      have j:=SR.join s3 l (by rw [z10,z10];exact s5) s5.len (by rw [z10,z10];exact st4.trans st5)
      rw [z10,z10] at j
      exact⟨j.1,st3.trans j.2⟩
     have wide4:Step ι (own σ Z++ι) H ι4 (own σ4 Z4++ι4) H4:=st3.trans ((st4.wide λy hy=>cf l hy))
     split at e
     ·rename_i Z5 G5 e5
      exact⟨ι4,Z4,G4,_,s4,e5,λσ5 ι5 H5 s5 st5=>⟨ι5,Z5,G5,s5.len,(jn s5 st5).1,(jn s5 st5).2,e⟩⟩
     ·rename_i Z5 G5 e5
      exact⟨ι4,Z4,G4,_,s4,e5,λσ5 ι5 H5 s5 st5=>⟨ι5,Z5,G5,s5.len,(jn s5 st5).1,(jn s5 st5).2,e⟩⟩
     ·rename_i Z5 G5 e5
      cases e
      exact⟨ι4,Z4,G4,_,s4,e5,λσ5 ι5 H5 s5 st5=>k _ _ _ s5 ((jn s5 st5).2.sub λa ha=>cf s5.len ha)⟩
     ·rename_i x5 G5 e5
      cases e
      refine⟨ι4,Z4,G4,_,s4,e5,?_⟩
      unfold ku at k ⊢
      split at k
      ·rename_i c fs G' ex
       exact XP.step wide4 k
      ·rename_i ex
       exact λv ι5 H5 s5 st5=>k _ _ _ s5 ((jn s5 st5).2.sub λa ha=>cf s5.len ha)
     ·cases e
    ·cases e
   ·cases e
 ·cases eq
abbrev mm(K:W.Frag)(κ:Str->Addr)(ι fp:List Addr)(H:Hp)(Q:VK)(E:XK)(x:Vl)(G':List M):Prop:=match x with
 | .ow (.obj c fs)=>XP K κ E ι fp H c fs G'
 | x=>∀v ι' H',SR K κ ι' H' [some v] [some x] G'->Step ι fp H ι' (own [some v] [some x]++ι') H'->Q v H'
abbrev jX(K:W.Frag)(κ:Str->Addr)(n:Nat)(fn:FF):Sp:=λvs H Q E=>∃ι xs G x G',xs.length=n/\SR K κ ι H (vs.map some) (xs.map some) G/\fn xs G=some (x,G')/\mm K κ ι (own (vs.map some) (xs.map some)++ι) H Q E x G'
def Ho{Q:VK}{x:Vl}{G':List M}(h:mm K κ ι fp H Q E x G')(v:V)(ι':List Addr)(H':Hp)(e:xo (.rt x G')=none)(s:SR K κ ι' H' [some v] [some x] G')(t:Step ι fp H ι' (own [some v] [some x]++ι') H'):Q v H':=by
 unfold mm at h
 split at h
 ·cases e
 ·exact h v ι' H' s t
def xr{n r:Nat}{body:SF}{vs:List V}{Q:VK}(h:jX K κ n (aT n r body) vs H Q E):vs.length=n/\bW K κ E body { nx:=λ_ H'=>Q .non H',rt:=Q } (vs.map some++List.replicate r none) H:=by
 obtain⟨ι,xs,G,x,G',hl,s,eq,k⟩:=h
 have lv:vs.length=n:=by have:=s.len;rw [z11,z11] at this;lia
 refine⟨lv,?_⟩
 unfold aT at eq
 rw [if_pos hl] at eq
 obtain⟨s0,e0⟩:=s.y299 r
 split at eq
 ·rename_i x' G1 e1
  cases eq
  refine⟨ι,_,G,_,s0,e1,?_⟩
  rw [e0]
  unfold ku
  split
  ·rename_i c fs G2 ex
   unfold xo at ex
   split at ex
   ·rename_i c2 fs2 G3 ez
    cases ex
    cases ez
    exact k
   ·cases ex
  ·rename_i ex
   exact λv ι' H' s' st=>Ho k v ι' H' ex s' st
 ·rename_i Z1 G1 e1
  cases eq
  refine⟨ι,_,G,_,s0,e1,?_⟩
  rw [e0]
  intro σ' ι' H' s' st
  obtain⟨p,q⟩:=SR.last (s'.push_im .non) s'.len
  refine k _ _ _ p (st.sub λa ha=>?_)
  have:=q a ha
  rw [dO s'.len] at this
  exact this
 ·cases eq
end
end
section
abbrev pN(f:Mo Ev):SF:=λZ G=>match f Z G with
 | some (.v (.ow (.obj c fs)),_,G1)=>some (.rt (.ow (.obj c fs)) G1)
 | some (_,Z1,G1)=>some (.nx Z1 G1)
 | none=>none
abbrev pO(f:Mo Ev)(g:GF):SF:=λZ G=>match f Z G with
 | some (.v (.ow (.obj c fs)),_,G1)=>some (.rt (.ow (.obj c fs)) G1)
 | some (.v x,Z1,G1)=>match g x Z1 G1 with
  | some (Z2,G2)=>some (.nx Z2 G2)
  | none=>none
 | _=>none
abbrev mn(c:Str)(fns:List Str)(fa:Mo (List Ev)):SF:=λZ G=>match fa Z G with
 | some (es,_,G1)=>match jc es with
  | some ds=>if ds.length=fns.length then some (.rt (.ow (.obj c (fns.zip ds))) G1) else none
  | none=>none
 | none=>none
abbrev Hq(C:Addr)(fns:List Str):Sp:=λvs H Q _=>∃x us,vs=.ref x::us/\us.length=fns.length/\H x=some (cD x C none true)/\∀dx,H dx=none->Q .non (upd (upd H dx (g9 dx (fns.zip us))) x (cD x C (some dx) true))
structure ClN(P:Program)(w:World)(K:W.Frag)(mg:Str->Option Value)(base:Heap)(x:Str)(C:Addr)(fns:List Str):Prop where
 ex:∃f fd,y54 K C f "ValueError" "ValueError.__new__" "ValueError.__new__" "ValueError.__init__" "ValueError.__init__" VE VE/\y3f P w K mg base bG 1 f fd ("self"::fns) (Hq C fns)/\cP K fd ("self"::fns) []/\mg x=some (.ref C)/\W.keepIn K (.ref C)=true
 ln:fns.length≤100
abbrev xt(P:Program)(w:World)(K:W.Frag)(mg:Str->Option Value)(base:Heap)(x:Str)(k:Nat)(ps:List Str)(sp:Sp):Prop :=
 ∃(f:Addr) (fd:FuncData),mg x=some (.ref f)/\W.keepIn K (.ref f)=true/\cP K fd ps []/\y3f P w K mg base (dw P w base) k f fd ps sp
section
variable {K:W.Frag}{κ:Str->Addr}{ι:List Addr}{H:Hp}{D:Ends}{E:XK}{σ:L2.St}{n:Nat}{fn:FF}{es:List Ev}{vs:List V}{Z Z':De}{G G':List M}{Q:VK}{fa:Mo (List Ev)}
def mq{x:Vl}(a:Args K κ ι H σ Z G es vs)(h:aA n fn es Z G=some (.v x,Z',G'))
  (k:(∀c fs,x≠.ow (.obj c fs))->∀v ι' H',After K κ σ ι (own (σ++tS es vs) (Z++tD es)++ι) H [.v x] Z' G' [v] ι' H'->Q v H')
  (kx:∀c fs,x=.ow (.obj c fs)->XP K κ E ι (own (σ++tS es vs) (Z++tD es)++ι) H c fs G'):jX K κ n fn vs H Q E:=by
 unfold aA at h
 split at h
 ·rename_i xs hx
  split at h
  ·rename_i hl
   split at h
   ·rename_i x' G1 e1
    cases h
    obtain⟨t1,t2⟩:=oO hx a.len
    have sr:=a.sr
    rw [t1,t2] at sr k kx
    have sw:=sr.swap a.l
    have lt:(vs.map some).length=(xs.map some).length:=Paired.length (cc a.l sr.sl).2
    refine⟨ι,xs,G,x,_,hl,sw.pop lt,e1,?_⟩
    unfold mm
    split
    ·rename_i c fs
     exact (kx c fs rfl).step ((Step.refl _ _ _).sub λy hy=>iJ a.l lt (cf lt hy))
    ·rename_i hne
     intro v ι' H' s st
     have s':SR K κ ι' H' ([some v]++[]) ([some x]++[]) _:=s
     obtain⟨j1,j2⟩:=SR.join sw lt s' rfl st
     rw [z10,z10] at j1 j2
     refine k (λc fs z=>hne c fs z) v ι' H' ⟨⟨a.l,j1.swap rfl,.cons (λ_ h=>by cases h) .nil⟩,(j2.wide λy hy=>iJ a.l lt hy).sub λy hy=>?_⟩
     exact iJ rfl a.l hy
   ·cases h
  ·cases h
 ·cases h
def ya1{e:Ev}(h:aA n fn es Z G=some (e,Z',G')):∃x,e=.v x:=by
 unfold aA at h
 split at h
 ·split at h
  ·split at h
   ·cases h;exact⟨_,rfl⟩
   ·cases h
  ·cases h
 ·cases h
def xu{sp:Sp}{ta:TA}(h:ta σ H λvs H1=>sp vs H1 Q E):eV sp [] E ta σ H Q:=by
 unfold eV
 simpa only [z10] using h
def Hr(h:bW K κ E (pN (bd fa (aA n fn))) D σ H):nJ (eV (jX K κ n fn) [] E (fU K κ fa)) D σ H:=by
 obtain⟨ι,Z,G,fl,s,eq,k⟩:=h
 refine xu ?_
 unfold pN at eq
 split at eq
 ·rename_i c fs Z1 G1 e0
  cases eq
  obtain⟨es,Z2,G2,e1,e2⟩:=bY e0
  refine⟨ι,Z,G,es,Z2,G2,s,e1,λvs ι1 H1 a=>mq a.ar e2 (λz=>absurd rfl (z c fs)) λc' fs' z=>?_⟩
  cases z
  exact XP.step a.st k
 ·rename_i e Z1 G1 hn e0
  cases eq
  obtain⟨es,Z2,G2,e1,e2⟩:=bY e0
  obtain⟨x,rfl⟩:=ya1 e2
  refine⟨ι,Z,G,es,Z2,G2,s,e1,λvs ι1 H1 a=>mq a.ar e2 (λ_ v ι2 H2 b=>?_) λc' fs' z=>?_⟩
  ·obtain⟨p,q⟩:=(a.then b).drop
   exact k _ _ _ p q
  ·cases z
   exact absurd rfl (hn c' fs')
 ·cases eq
def Hs{g:GF}(h:bW K κ E (pO (bd fa (aA n fn)) g) D σ H):fP (eV (jX K κ n fn) [] E (fU K κ fa)) (nq K κ g) D σ H:=by
 obtain⟨ι,Z,G,fl,s,eq,k⟩:=h
 refine xu ?_
 unfold pO at eq
 split at eq
 ·rename_i c fs Z1 G1 e0
  cases eq
  obtain⟨es,Z2,G2,e1,e2⟩:=bY e0
  refine⟨ι,Z,G,es,Z2,G2,s,e1,λvs ι1 H1 a=>mq a.ar e2 (λz=>absurd rfl (z c fs)) λc' fs' z=>?_⟩
  cases z
  exact XP.step a.st k
 ·rename_i x Z1 G1 hn e0
  split at eq
  ·rename_i Z2 G2 eg
   cases eq
   obtain⟨es,Z3,G3,e1,e2⟩:=bY e0
   refine⟨ι,Z,G,es,Z3,G3,s,e1,λvs ι1 H1 a=>mq a.ar e2 (λ_ v ι2 H2 b=>?_) λc' fs' z=>?_⟩
   ·have ab:=a.then b
    exact⟨ι2,Z1,G1,x,Z2,G2,ab.ar.l,ab.ar.sr,eg,λσ' ι3 H3 s3 st=>k _ _ _ s3 (ab.st.trans st)⟩
   ·cases z
    exact absurd rfl (hn c' fs')
  ·cases eq
 ·cases eq
def Ht{H:Hp}{a b:Addr}{o o' o2 u:HO}(ne:b≠a):upd (upd (upd (upd H a o) b u) a o') a o2=upd (upd H b u) a o2:=by
 rw [qX]
 funext c;unfold upd
 by_cases h1:c=a
 ·simp [h1]
 ·by_cases h2:c=b<;>simp [h1,h2]
theorem pP{α β:Type}:∀{a:List α} {b:List β},b.length=a.length->(a.zip b).map (·.1)=a/\(a.zip b).map (·.2)=b
 | [],[],_=>⟨rfl,rfl⟩
 | x::a,y::b,h=>by
  obtain⟨p,q⟩:=pP (a:=a) (b:=b) (by simpa using h)
  exact⟨by rw [List.zip_cons_cons,z19,p],by rw [List.zip_cons_cons,z19,q]⟩
def SR.bare{H':Hp}(s:SR K κ ι H σ Z G)(sm:dz H H'):SR K κ ι H' [] [] G/\Step ι (own σ Z++ι) H ι ι H':=by
 have z:=s.same sm
 refine⟨⟨.nil,z.gs,λx=>?_⟩,(Step.same sm).sub λa ha=>z24 _ ha⟩
 have:=z.nd x
 have h0:bp x (own ([]:L2.St) ([]:De))=0:=rfl
 lia
def Hu{c:Str}{fns:List Str}(ic:qL K (κ c))(h:bW K κ E (mn c fns fa) D σ H):xb K (xc (κ c) (Hq (κ c) fns) [] E0 (fU K κ fa)) E D σ H:=by
 obtain⟨ι,Z,G,fl,s,eq,k⟩:=h
 unfold mn at eq
 split at eq
 ·rename_i es Z1 G1 e1
  split at eq
  ·rename_i ds hd
   split at eq
   ·rename_i hl
    cases eq
    refine⟨ι,Z,G,es,Z1,G1,s,e1,λvs ι1 H1 a x hx=>?_⟩
    have r:=a.ar.ims hd
    have lv:vs.length=fns.length:=by rw [r.len];exact hl
    refine⟨x,vs,by rw [z10],lv,bf,λdx hdx=>⟨rfl,x,κ c,some dx,rfl,bf,ic,?_⟩⟩
    have ne:dx≠x:=λz=>by rw [z,bf] at hdx;cases hdx
    rw [aQ ne] at hdx
    rw [Ht ne]
    have s1:dz H1 (upd H1 dx (g9 dx (fns.zip vs))):=dz.lay hdx
    have hx2:upd H1 dx (g9 dx (fns.zip vs)) x=none:=by rw [aQ ne.symm];exact hx
    have s2:dz H1 (upd (upd H1 dx (g9 dx (fns.zip vs))) x (cD x (κ c) (some dx) false)):=λb o e=>dz.lay hx2 b o (s1 b o e)
    obtain⟨z1,z2⟩:=a.ar.sr.bare s2
    obtain⟨f1,f2⟩:=pP (a:=fns) (b:=vs) lv
    obtain⟨g1,g2⟩:=pP (a:=fns) (b:=ds) hl
    refine k x dx (fns.zip vs) ι1 _ bf (by rw [aQ ne];exact bf) (by rw [f1,g1]) ?_ z1 (a.st.trans z2)
    rw [f2,g2]
    exact r.mono (bV.refl _) (Kp.same s2)
   ·cases eq
  ·cases eq
 ·cases eq
end
end
section
@[irreducible] noncomputable def LX(X:Cx)(κ:Str->Addr)(E:XK)(s:Stmt)(f:SF):Prop:=PS X s (bW X.K κ E f)
@[irreducible] noncomputable def ir(X:Cx)(κ:Str->Addr)(E:XK)(s:List Stmt)(f:SF):Prop:=dH X s (bW X.K κ E f)
section
variable {X:Cx}{κ:Str->Addr}{E:XK}{s:Stmt}{ss ss2:List Stmt}{f g:SF}{pos p y3e3:Pos}{x:Str}{k n:Nat}{ps:List Str}{fn:FF}{e c tg it:Expr}{es:List Expr}{fs:Mo (List Ev)}{fc:Mo Bool}{fi:IF}{gf:GF}
def LX.mk(h:PS X s (bW X.K κ E f)):LX X κ E s f:=by unfold LX;exact h
def LX.pe(h:LX X κ E s f):PS X s (bW X.K κ E f):=by unfold LX at h;exact h
def ir.mk(h:dH X ss (bW X.K κ E f)):ir X κ E ss f:=by unfold ir;exact h
def ir.pe(h:ir X κ E ss f):dH X ss (bW X.K κ E f):=by unfold ir at h;exact h
def xy(h:LS X κ s f):LX X κ E s (fE f):=.mk (cT h.pe λ_ _ _=>xq)
def Hv(h:fX X κ ss f):ir X κ E ss (fE f):=.mk (lL h.pe λ_ _ _=>xq)
def Hw(h:LX X κ E s f)(r:ir X κ E ss g):ir X κ E (s::ss) (ak f g):=.mk (lL (iz h.pe r.pe) λ_ _ _=>Hl)
def Hx(h:LX X κ E s f):ir X κ E [s] f:=.mk (iA h.pe)
def Hy(hc:LT X κ c fc)(ha:ir X κ E ss f)(hb:ir X κ E ss2 g):LX X κ E (.If c ss ss2 pos) (aE fc f g):=.mk (cT (rD hc.pe ha.pe hb.pe) λ_ _ _=>Hm)
def xA(hp:PassesOwn (model X.prog X.w) X.A X.env X.xe)(hi:LI X κ tg it fi)(hg:LG X κ tg gf)(hb:ir X κ E ss f)(hc:‹X.calm=true›)(hs:∀x,foldedSetIterable it X.env x=pure x:=by intro _;rfl):LX X κ E (.For tg it ss [] pos) (df fi gf f):=.mk (cT (rP hp hc hi.pe hg.pe hb.pe hs) λ_ _ _=>Hn)
def xB(h:xt X.prog X.w X.K X.mg X.base x k ps (jX X.K κ n fn))(hx:bN (dw X.prog X.w X.base) X E)(hr:y4d k X.A)(ha:LA X κ (e::es) fs)(hg:‹Gl X x›)
  (hdb:(x == ("__debug__" : Str))=false:=by decide) (he:‹fM X e es›) (hpl:‹eW X pos es›):PE X (.Call (.Name x p) (e::es) [] pos) (eV (jX X.K κ n fn) [] E (fU X.K κ fs)):=by
 obtain⟨f,fd,hm,hk,hb,G⟩:=h
 exact nZ G hr hg hm hk hb .nil hx ha.pe hdb he hpl
def pQ(h:xt X.prog X.w X.K X.mg X.base x k ps (jX X.K κ n fn))(hx:bN (dw X.prog X.w X.base) X E)(hr:y4d k X.A)(ha:LA X κ (e::es) fs)(hg:‹Gl X x›)
  (hdb:(x == ("__debug__" : Str))=false:=by decide) (he:‹fM X e es›) (hpl:‹eW X pos es›)
  (hs:‹swapsWith (.Call (.Name x p) (e::es) [] pos) none y3e3.line X.env=pure false›):LX X κ E (.Expr (.Call (.Name x p) (e::es) [] pos) y3e3) (pN (bd fs (aA n fn))) :=
 .mk (cT (kH (xB h hx hr ha hg hdb he hpl) hs) λ_ _ _=>Hr)
def xC(h:xt X.prog X.w X.K X.mg X.base x k ps (jX X.K κ n fn))(hx:bN (dw X.prog X.w X.base) X E)(hr:y4d k X.A)(ha:LA X κ (e::es) fs)(htg:LG X κ tg gf)(hg:‹Gl X x›)
  (hdb:(x == ("__debug__" : Str))=false:=by decide) (he:‹fM X e es›) (hpl:‹eW X pos es›)
  (hs:‹swapsWithSole [tg] (.Call (.Name x p) (e::es) [] pos) y3e3.line X.env=pure false›) (hw:‹swappedStores [tg] (.Call (.Name x p) (e::es) [] pos) X.env=pure none›)
  (h1:‹(assignEach [tg] X.env).map (·.2)=[assign tg X.env]›):LX X κ E (.Assign [tg] (.Call (.Name x p) (e::es) [] pos) y3e3) (pO (bd fs (aA n fn)) gf) :=
 .mk (cT (iB (xB h hx hr ha hg hdb he hpl) htg.pe hs hw h1) λ_ _ _=>Hs)
def xD{fns:List Str}(h:ClN X.prog X.w X.K X.mg X.base x (κ x) fns)(hx:fB X E)(hr:y4d (1+1) X.A)(ha:LA X κ (e::es) fs)(hg:‹Gl X x›)(hc:‹X.calm=true›)
  (hdb:(x == ("__debug__" : Str))=false:=by decide) (he:‹fM X e es›) (hpl:‹eW X pos es›) :
  LX X κ E (.Raise (some (.Call (.Name x p) (e::es) [] pos)) none y3e3) (mn x fns fs):=by
 obtain⟨f,fd,c1,c2,c3,c4,c5⟩:=h.ex
 have ln:=h.ln
 exact .mk (cT (Hb hc (Hc c1 c5 c2 hr hg c4 c3 .nil tJ (by rw [z18];lia) ha.pe hdb he hpl) hx) λ_ _ _=>Hu c1.is)
end
section
variable {P:Program}{w:World}{K:W.Frag}{mg:Str->Option Value}{base:Heap}{κ:Str->Addr}
def Hz{N:List Str}{qual:Str}{scope:Scope}{f:Addr}{cd:Value}{A:Around}{outer:List Env}{s:Shared}{H:Hp}{E:XK}{X:Cx}(e:X=eh (dw P w base) P w K mg base N qual scope f cd A outer s H E):PassesOwn (model X.prog X.w) X.A X.env X.xe:=by
 subst e
 exact PassesOwn.leaving (Q₁:=λe s''=>dw P w base outer H s E e s'')
def xE{x qual:Str}{st:Stmt}{f:Addr}{fd:FuncData}{N ps:List Str}{k n r:Nat}{body:SF}(F:Fun K x qual st f fd)(S:y40 N ps (bo st))(hn:ps.length=n)(hN:N.length=n+r)
  (hb:∀(cdv:Value) (A:Around) (outer:List Env) (s:Shared) (H:Hp) (E:XK),y4d k (A.deeper (envOfC qual (bo st) s.heap.objs.size f cdv))->PassesOwn (model P w) (eh (dw P w base) P w K mg base N qual (bo st) f cdv A outer s H E).A (eh (dw P w base) P w K mg base N qual (bo st) f cdv A outer s H E).env (eh (dw P w base) P w K mg base N qual (bo st) f cdv A outer s H E).xe->bN (dw P w base) (eh (dw P w base) P w K mg base N qual (bo st) f cdv A outer s H E) E ->
   fB (eh (dw P w base) P w K mg base N qual (bo st) f cdv A outer s H E) E->ir (eh (dw P w base) P w K mg base N qual (bo st) f cdv A outer s H E) κ E (jy st) body) :
  y3f P w K mg base (dw P w base) (k+1) f fd ps (jX K κ n (aT n r body)):=by
 refine F.okX S (λvs H Q E h=>by rw [(xr h).1,hn]) (λcdv A outer s H vs Q E hr h=>⟨_,(hb cdv A outer s H E hr (Hz rfl) GZ GY).pe,?_⟩)
 obtain⟨l,q⟩:=xr h
 unfold L2.start
 have e:N.length-vs.length=r:=by lia
 rw [e]
 exact q
end
end
end B
namespace L2
open PySem PySem.Spec PyProof.Rows
section
abbrev mv:V->Option Value
 | .ref a=>some (.ref a)
 | .ty n=>some (.type n)
 | _=>none
abbrev AE:List V->Option (List Value)
 | []=>some []
 | v::vs=>match mv v,AE vs with
  | some u,some us=>some (u::us)
  | _,_=>none
def ydc{v:V}{u c:Value}(h:mv v=some c)(r:ay v u):u=c:=by
 cases v<;>simp [mv] at h
 ·subst h;exact r
 ·subst h;exact r
theorem yde:∀{vs:List V} {us cs:List Value},AE vs=some cs->au vs us->us=cs
 | [],_,_,h,.nil=>by cases h;rfl
 | v::vs,_,cs,h,.cons r rs=>by
  unfold AE at h
  split at h
  ·rename_i u us h1 h2
   cases h
   rw [ydc h1 r,yde h2 rs]
  ·cases h
abbrev xF(K:W.Frag):List V->Hp->VK->Prop:=λvs H Q=>∃x D dx fs new cv b,vs=[.ref x,cv]/\H x=some (cD x D (some dx) new)/\H dx=some (g9 dx fs)/\XA K D/\XI K D/\Q (.bl b) H /\
 ((∃c,mv cv=some c/\W.kitOne K (.ref D) c=some b)∨∃tp cvs cs,cv=.ref tp/\H tp=some (.tup cvs)/\AE cvs=some cs/\W.kitAny K (.ref D) cs=some b)
def HA{X:Cx}:y6 X (.builtin "isinstance") (xF X.K):=by
 intro pins s σ H xs us Q I r ⟨x,D,dx,fs,new,cv,b,e,ex,ed,xa,xi,q,h⟩
 subst e
 cases r with
 | @cons _ u _ us' ru r2 =>
  obtain rfl:u=Value.ref x:=ru
  cases r2 with
  | @cons _ u2 _ AY ru2 r3 =>
   cases r3
   rcases h with⟨c,ec,k⟩| ⟨tp,cvs,cs,rfl,et,ec,k⟩
   ·obtain rfl:=ydc ec ru2
    exact Hk xa xi k I ex ed λtk=>⟨.bl b,H,I.tok tk,rfl,q⟩
   ·obtain rfl:u2=Value.ref tp:=ru2
    obtain⟨_,its,rv,o,ho,hc,hdn,n,hdt⟩:=I.hok tp _ et
    obtain rfl:=yde ec rv
    obtain⟨oc,odi,oda,osl⟩:=o
    dsimp only at hc hdn hdt
    subst hc hdn hdt
    obtain⟨o,vs,a0,h1,h2,h3,h4,_⟩:=gp I.hok ex
    obtain⟨_,mA,hm,_⟩:=pH I.hok ed
    obtain⟨od,hod,_⟩:=kL hm
    obtain⟨oc,odi,oda,osl2⟩:=o
    dsimp only at h2 h3 h4
    subst h2 h3 h4
    exact W.kia_tup (xp (ox:=⟨.ref D,some dx,.fields vs,osl2⟩) (od:=od) xa xi) I.kIn ⟨h1,rfl,rfl,hod⟩ ho k (λz=>nomatch z) λtk=>⟨.bl b,H,I.tok tk,rfl,q⟩
def HB{X:Cx}{hs:List ExceptHandler}:PH X hs (λ_ _ _ _=>False):=λ_ _ _ _ _ _ _ _ h=>h.elim
end
end L2
set_option maxHeartbeats 4000000
namespace Q
open PySem PySem.Spec PyProof.Rows L2 B
abbrev top(i:Nat):Stmt:=PySem.Challenge.pw_stepcourt_k06_terms_amiss.main.body.getD i (.Pass ⟨0,0,0,0⟩)
section
variable {P:Program}{w:World}{K:W.Frag}{mg:Str->Option Value}{base:Heap}{C C0 f:Addr}{fd:FuncData}
def HC:y40 ["self","row"] ["self","row"] (bo (eY (top 2) 0)):=a9
def HD(F:Fun K "__init__" "NoText.__init__" (eY (top 2) 0) f fd)(hC:y54 K C f "ValueError" "ValueError.__new__" "ValueError.__new__" "ValueError.__init__" "ValueError.__init__" VE VE)(hA:XA K C)(n:kM K C "row")(h0:y14 K C0 "ValueError.__init__")(g0:mg "CourtError" = some (.ref C0)):y3f P w K mg base bG 1 f fd ["self","row"] (Hq C ["row"]):=by
 refine F.ok HC (λvs H Q E zz=>by obtain⟨x,us,e,l,_⟩:=zz;rw [e,z18,l];rfl) λcdv A outer s H vs Q E hr zz=>?_
 obtain⟨x,us,e,l,ex,k⟩:=zz
 subst e
 match us,l with
 | [v],_ =>
 refine⟨_,iz (kH (GW (by rfl) g0 h0 hC (bU (pv 0) (bU (pv 1) dJ)))) (iA (GU (pv 0) (pv 1) (by rfl))),?_⟩
 exact⟨_,rfl,_,rfl,x,[v],true,none,rfl,(show (1:Nat)≤sizeLine by decide),ex,_,rfl,_,rfl,x,C,true,rfl,ex,hA,n,λdx hd=>k dx hd⟩
end
end Q
namespace Q
open PySem L2 B
noncomputable section
abbrev AF:SF :=
 (aM (ai dh (ai aC (ai cI (aa 3) (ag (.int 48271))) (ai dh (aa 4) (ag (.int 2147483629)))) (ag (.int 2147483647))) (aF 3))
abbrev xG:FF:=aT 2 3
 (ak (aM (fg (cG (one (az (aa 0) (av (aa 1)) (av (ag (.int 63))))) cJ) [] c1 bS (bd (af (aa 0) (af (ai ft (ag (.int 0)) (aa 0)) ae)) dS)) (aF 2))
 (ak (aM (ai aC (ag (.int 7919)) (aa 1)) (aF 3))
 (ak (df (cG (one (bb (aa 2))) cJ) (aF 4)
 AF)
 (ax (pq (jR (ag (.str "seed")) (aa 3) (jR (ag (.str "number")) (ag (.int 0)) (jR (ag (.str "left")) (bb (a6 iO (fg (cG (one (bb (aa 2))) cJ) [] c1 (ao (ai gG (aa 0) (ai g7 (ag (.int 10)) (ag (.int 18))))) (aa 0)))) pj))))))))
abbrev pR:Mo Bool:=(eO (ao (ai a8 (ai aI (aa 0) (ag (.str "number"))) (ag (.int 0)))) (ao (ai fN (bd (af (ai aI (aa 0) (ag (.str "left"))) ae) aH) (ag (.int 0)))))
abbrev xH:SF :=
 (dU (aa 0) (ag (.str "number")) (a6 fw (ai aI (aa 0) (ag (.str "left")))))
abbrev bt:FF:=aT 2 3
 (ak (gF pR
 xH)
 (ak (aM (ai aI (aa 0) (ag (.str "number"))) (aF 2))
 (ak (aE (ao (ai fN (aa 2) (ag (.int 0))))
 (ak (dU (aa 0) (ag (.str "number")) (ai jJ (aa 2) (aa 1)))
 (ax (ai dh (aa 2) (aa 1))))
 aO)
 (ak (aM (ai dh (ai aC (ai cI (ai aI (aa 0) (ag (.str "seed"))) (ag (.int 48271))) (ag (.int 7919))) (ag (.int 2147483647))) (aF 3))
 (ak (dU (aa 0) (ag (.str "seed")) (ai dh (ai aC (ai cI (aa 3) (ag (.int 40692))) (ag (.int 104729))) (ag (.int 2147483399))))
 (ak (aM (ai dh (ai cI (ai aI (aa 0) (ag (.str "seed"))) (ai aI (aa 0) (ag (.str "seed")))) (ag (.int 2147483563))) (aF 4))
 (ax (ai dh (ai aC (ai cI (ai dh (ai cI (aa 3) (aa 3)) (ag (.int 2147483629))) (ag (.int 2147483563))) (aa 4)) (aa 1)))))))))
abbrev AG:SF :=
 (ak (aM (ai aC (ai aI (aa 2) (ai dh (ai aC (aa 5) (ai cI (ag (.int 7)) (aa 7))) (ag (.int 26)))) (az (aa 3) (av (aa 4)) aB)) (aF 8))
 (cW (iP g8 (aa 6) (af (ai aC (ai aC (az (aa 3) aB (av (aa 4))) (aa 8)) (ai aI (bd (af (ag (.str "")) (af (ag (.str "z")) ae)) aL) (ai jJ (ai dh (aa 7) (ag (.int 5))) (ag (.int 4))))) ae))))
abbrev xI:FF:=aT 2 10
 (ak (aM (ag (.str "abcdefghijklmnopqrstuvwxyz")) (aF 2))
 (ak (aM (fO dk (ag (.str "")) (af (fg (cG (af (bd (af (aa 0) (af (ag (.int 5)) ae)) (aA 2 bt)) ae) ff) [2,0] c1 bS (ai aI (aa 1) (bd (af (aa 2) (af (ag (.int 26)) ae)) (aA 2 bt)))) ae)) (aF 3))
 (ak (aM (bd (af (aa 0) (af (ai aC (bd (af (aa 3) ae) aH) (ag (.int 1))) ae)) (aA 2 bt)) (aF 4))
 (ak (aM (bd (af (aa 0) (af (ag (.int 26)) ae)) (aA 2 bt)) (aF 5))
 (ak (aM (bd ae aL) (aF 6))
 (ak (df (cG (af (aa 1) ae) ff) (aF 7)
 AG)
 (ak (aM (bd (af (ag (.str "cells")) (af (ag (.str "de")) (af (ag (.str "mains")) (af (ag (.str "setx")) (af (ag (.str "ends")) (af (ag (.str "atx")) (af (ag (.str "i")) (af (ag (.str "calls")) ae)))))))) aL) (aF 9))
 (ak (aM (bd (af (ag (.str "cell")) (af (ag (.str "row")) (af (ag (.str "def")) (af (ag (.str "main")) (af (ag (.str "set")) (af (ag (.str "put")) (af (ag (.str "while")) (af (ag (.str "if")) (af (ag (.str "else")) (af (ag (.str "call")) (af (ag (.str "end")) (af (ag (.str "at")) ae)))))))))))) b8) (aF 10))
 (ak (aM (fg (cG (one (bb (aa 6))) cJ) [10] c1 bS (ai aC (aa 0) (ai cI (ag (.str "q")) (bd (af (ai eR (aa 0) (aa 1)) ae) dC)))) (aF 6))
 (ak (aM (ai aI (aa 9) (bd (af (aa 0) (af (ag (.int 8)) ae)) (aA 2 bt))) (aF 11))
 (ak (aE (eO (ao (ai a8 (bd (af (aa 0) (af (ag (.int 3)) ae)) (aA 2 bt)) (ag (.int 1)))) (ao (ai jP (aa 11) (aa 6))))
 (dU (aa 6) (bd (af (aa 0) (af (aa 1) ae)) (aA 2 bt)) (aa 11))
 aO)
 (ax (aa 6)))))))))))))
abbrev jY:Nat->FF
 | 0=>λ_ _=>none
 | n+1=>aT 1 0
   (ak (aE (ao (ai a8 (ai aI (aa 0) (ag (.int 0))) (ag (.str "op"))))
   (ax (ai aC (ai aC (ag (.str "(")) (fO dk (ag (.str " ")) (af (bd (af (ai aI (aa 0) (ag (.int 1))) (af (bd (af (ai aI (aa 0) (ag (.int 2))) ae) (aA 1 (jY n))) (af (bd (af (ai aI (aa 0) (ag (.int 3))) ae) (aA 1 (jY n))) ae))) aL) ae))) (ag (.str ")"))))
   aO)
   (ak (aE (ao (ai a8 (ai aI (aa 0) (ag (.int 0))) (ag (.str "at"))))
   (ax (ai aC (ai aC (ai aC (ai aC (ag (.str "(at ")) (ai aI (aa 0) (ag (.int 1)))) (ag (.str " "))) (bd (af (ai aI (aa 0) (ag (.int 2))) ae) (aA 1 (jY n)))) (ag (.str ")"))))
   aO)
   (ax (bd (af (ai aI (aa 0) (ag (.int 1))) ae) iU))))
abbrev qM:FF:=aT 2 0
 (ax (ai aI (aa 1) (bd (af (aa 0) (af (bd (af (aa 1) ae) aH) ae)) (aA 2 bt))))
abbrev pS:FF:=aT 1 1
 (ak (aM (bd (af (aa 0) (af (ag (.int 6)) ae)) (aA 2 bt)) (aF 1))
 (ak (aE (ao (ai dR (aa 1) (ag (.int 4))))
 (ax (bd (af (aa 0) (af (ai aI (bd (af (ag (.int 2)) (af (ag (.int 5)) (af (ag (.int 5)) (af (ag (.int 10)) ae)))) aL) (aa 1)) ae)) (aA 2 bt)))
 aO)
 (ax (ai aI (bd (af (bd (af (aa 0) (af (ag (.int 4294967296)) ae)) (aA 2 bt)) (af (ai ft (ag (.int 4294967295)) (bd (af (aa 0) (af (ag (.int 3)) ae)) (aA 2 bt))) ae)) aL) (ai ft (aa 1) (ag (.int 4)))))))
abbrev jZ:Nat->FF
 | 0=>λ_ _=>none
 | n+1=>aT 4 3
   (ak (aM (bd (af (aa 0) (af (ag (.int 6)) ae)) (aA 2 bt)) (aF 4))
   (ak (aE (dA (ao (ai dR (ai aI (aa 2) (ag (.int 0))) (ag (.int 1)))) (dA (ao (ai fN (aa 3) (ag (.int 3)))) (ao (ai dR (aa 4) (ag (.int 2))))))
   (ak (aE (ao (ai a8 (bd (af (aa 0) (af (ag (.int 2)) ae)) (aA 2 bt)) (ag (.int 0))))
   (ax (bd (af (ag (.str "cell")) (af (bd (af (aa 0) (af (aa 1) ae)) (aA 2 qM)) ae)) b8))
   aO)
   (ax (bd (af (ag (.str "num")) (af (bd (af (aa 0) ae) (aA 1 pS)) ae)) b8)))
   aO)
   (ak (dU (aa 2) (ag (.int 0)) (ai ft (ai aI (aa 2) (ag (.int 0))) (ag (.int 1))))
   (ak (aE (ao (ai a8 (aa 4) (ag (.int 2))))
   (ak (aM (bd (af (aa 0) (af (aa 1) ae)) (aA 2 qM)) (aF 5))
   (ax (bd (af (ag (.str "at")) (af (aa 5) (af (bd (af (aa 0) (af (aa 1) (af (aa 2) (af (ai aC (aa 3) (ag (.int 1))) ae)))) (aA 4 (jZ n))) ae))) b8)))
   aO)
   (ak (aM (bd (af (aa 0) (af (aa 1) (af (aa 2) (af (ai aC (aa 3) (ag (.int 1))) ae)))) (aA 4 (jZ n))) (aF 6))
   (ax (bd (af (ag (.str "op")) (af (ai aI (ag (.str "+-*<=")) (bd (af (aa 0) (af (ag (.int 5)) ae)) (aA 2 bt))) (af (aa 6) (af (bd (af (aa 0) (af (aa 1) (af (aa 2) (af (ai aC (aa 3) (ag (.int 1))) ae)))) (aA 4 (jZ n))) ae)))) b8)))))))
abbrev pT:FF:=aT 2 1
 (ak (aM (bd (af (ag (.str "")) (af (ag (.str "(")) (af (ag (.str ")")) (af (ag (.str "(at")) (af (ag (.str "(+")) (af (ag (.str "(<")) (af (ag (.str "(=")) (af (ag (.str "()")) (af (ag (.str "0)")) (af (ag (.str "0")) (af (ag (.str "00")) (af (ag (.str "07")) (af (ag (.str "-1")) (af (ag (.str "1.5")) (af (ag (.str "1_0")) (af (ag (.str "+1")) ae)))))))))))))))) aL) (aF 2))
 (ak (aM (ai aC (aa 2) (bd (af (ag (.str "4294967296")) (af (ag (.str "4294967295")) (af (ag (.str "42949672950")) (af (ag (.str "at")) (af (ag (.str "end")) (af (ag (.str "cell")) (af (ag (.str "+")) (af (ag (.str "-")) (af (ag (.str "*")) (af (ag (.str "/")) (af (ag (.str "(-")) ae))))))))))) aL)) (aF 2))
 (ak (aM (ai aC (aa 2) (bd (af (ag (.str "(*")) (af (ag (.str "a1")) (af (ag (.str "Ab")) (af (ag (.str "(+)")) ae)))) aL)) (aF 2))
 (ax (ai aI (ai aC (aa 2) (az (aa 1) aB (av (ag (.int 8))))) (bd (af (aa 0) (af (ai aC (bd (af (aa 2) ae) aH) (bd (af (ag (.int 8)) (af (bd (af (aa 1) ae) aH) ae)) pf)) ae)) (aA 2 bt)))))))
abbrev qN:FF:=aT 1 1
 (ak (aM (ag (.str " !\"#$&'()*+,-./0123456789:;<=>?\x40[\\]^_`{|}~")) (aF 1))
 (ak (aM (ai aC (aa 1) (ag (.str "abcdefghijklmnopqrstuvwxyzABCDEFGHIJKLMNOPQRSTUVWXYZ"))) (aF 1))
 (ax (ai aI (aa 1) (bd (af (aa 0) (af (bd (af (aa 1) ae) aH) ae)) (aA 2 bt))))))
abbrev AH:FF:=aT 3 8
 (ak (aM (fO iW (aa 1) (af (ag (.str " ")) ae)) (aF 3))
 (ak (aM (bd (af (aa 0) (af (bd (af (aa 3) ae) aH) ae)) (aA 2 bt)) (aF 4))
 (ak (aM (bd (af (aa 0) (af (bd (af (aa 3) ae) aH) ae)) (aA 2 bt)) (aF 5))
 (ak (aM (bd (af (aa 0) (af (aa 2) ae)) (aA 2 pT)) (aF 6))
 (ak (aM (bd (af (aa 0) (af (ag (.int 9)) ae)) (aA 2 bt)) (aF 7))
 (ak (aE (ao (ai dR (aa 7) (ag (.int 5))))
 (ak (aM (bd (af (bb (ai aC (az (aa 3) aB (av (aa 4))) (az (aa 3) (av (ai aC (aa 4) (ag (.int 1)))) aB))) (af (bb (ai aC (az (aa 3) aB (av (ai aC (aa 4) (ag (.int 1))))) (az (aa 3) (av (aa 4)) aB))) (af (bb (ai aC (ai aC (az (aa 3) aB (av (aa 4))) (bd (af (aa 6) ae) aL)) (az (aa 3) (av (ai aC (aa 4) (ag (.int 1)))) aB))) ae))) aL) (aF 8))
 (ak (aM (ai aC (aa 8) (bd (af (bb (ai aC (ai aC (az (aa 3) aB (av (aa 4))) (bd (af (aa 6) ae) aL)) (az (aa 3) (av (aa 4)) aB))) (af (bb (ai aC (ai aC (az (aa 3) aB (av (aa 4))) (a6 gh (az (aa 3) (av (aa 4)) (av (ai aC (aa 4) (ag (.int 2))))))) (az (aa 3) (av (ai aC (aa 4) (ag (.int 2)))) aB))) ae)) aL)) (aF 8))
 (ax (fO dk (ag (.str " ")) (af (ai aI (aa 8) (aa 7)) ae)))))
 aO)
 (ak (aE (ao (ai a8 (aa 7) (ag (.int 5))))
 (ak (iX 3 4 5)
 (ax (fO dk (ag (.str " ")) (af (aa 3) ae))))
 aO)
 (ak (aM (bd (af (aa 0) (af (ai aC (bd (af (aa 1) ae) aH) (ag (.int 1))) ae)) (aA 2 bt)) (aF 9))
 (ak (aM (ai aI (ag (.str " ()+-*<=a0A_\n")) (bd (af (aa 0) (af (ag (.int 13)) ae)) (aA 2 bt))) (aF 10))
 (ak (aE (ao (ai a8 (bd (af (aa 0) (af (ag (.int 2)) ae)) (aA 2 bt)) (ag (.int 0))))
 (aM (bd (af (aa 0) ae) (aA 1 qN)) (aF 10))
 aO)
 (ak (aE (ao (ai a8 (aa 7) (ag (.int 6))))
 (ax (az (aa 1) aB (av (aa 9))))
 aO)
 (ak (aE (ao (ai a8 (aa 7) (ag (.int 7))))
 (ax (ai aC (ai aC (az (aa 1) aB (av (aa 9))) (aa 10)) (az (aa 1) (av (aa 9)) aB)))
 aO)
 (ax (ai aC (ai aC (az (aa 1) aB (av (aa 9))) (ai aI (bd (af (ag (.str "")) (af (aa 10) ae)) aL) (bd (af (aa 0) (af (ag (.int 2)) ae)) (aA 2 bt)))) (az (aa 1) (av (ai aC (aa 9) (ag (.int 1)))) aB)))))))))))))))
abbrev AI:FF:=aT 1 1
 (ak (aM (bd (af (ag (.str "")) (af (ag (.str " ")) (af (ag (.str "a b")) (af (ag (.str "0 1")) (af (ag (.str "(+ 1 2) 3")) (af (ag (.str "((+ 1 2))")) (af (ag (.str "( + 1 2)")) (af (ag (.str "(+ 1 2 )")) (af (ag (.str "(+ 1)")) (af (ag (.str "(+ 1 2 3)")) ae)))))))))) aL) (aF 1))
 (ak (aM (ai aC (aa 1) (bd (af (ag (.str "(at a)")) (af (ag (.str "(at 1)")) (af (ag (.str "(at a 1 2)")) (af (ag (.str "(at 1 a)")) (af (ag (.str "(at at 1)")) (af (ag (.str "(/ 1 2)")) (af (ag (.str "(a 1 2)")) (af (ag (.str "()")) ae)))))))) aL)) (aF 1))
 (ak (aM (ai aC (aa 1) (bd (af (ag (.str "a\n")) (af (ag (.str "\na")) (af (ag (.str "(+ 1 2")) (af (ag (.str "+ 1 2")) ae)))) aL)) (aF 1))
 (ax (ai aI (aa 1) (bd (af (aa 0) (af (bd (af (aa 1) ae) aH) ae)) (aA 2 bt)))))))
abbrev gJ:FF:=aT 2 0
 (ax (ai aI (ai aC (az (aa 0) (av (aa 1)) (av (ai aC (aa 1) (ag (.int 1))))) (bd (af (ag (.str "")) ae) aL)) (ag (.int 0))))
abbrev mw:FF:=aT 1 1
 (ak (aM (bd (af (ag (.str "cell")) (af (ag (.str "row")) (af (ag (.str "def")) (af (ag (.str "main")) (af (ag (.str "set")) (af (ag (.str "put")) (af (ag (.str "while")) (af (ag (.str "if")) (af (ag (.str "else")) (af (ag (.str "call")) (af (ag (.str "end")) (af (ag (.str "at")) ae)))))))))))) aL) (aF 1))
 (ak (aE (dA (ao (ai dR (bd (af (aa 0) ae) aH) (ag (.int 1)))) (dA (ao (ai fN (bd (af (aa 0) ae) aH) (ag (.int 6)))) (ao (ai eR (aa 0) (aa 1)))))
 (ax (ag (.bl false)))
 aO)
 (ax (bd (af (fg (cG (one (aa 0)) eI) [] c1 bS (ai (dm false) (aa 0) (ag (.str "abcdefghijklmnopqrstuvwxyz")))) ae) je))))
abbrev qO:FF:=aT 1 0
 (ak (aE (dA (ao (ai dR (bd (af (aa 0) ae) aH) (ag (.int 1)))) (eO (ao (ai a8 (ai aI (aa 0) (ag (.int 0))) (ag (.str "0")))) (ao (ai fN (bd (af (aa 0) ae) aH) (ag (.int 1))))))
 (ax (ag (.bl false)))
 aO)
 (ax (bd (af (fg (cG (one (aa 0)) eI) [] c1 bS (ai (dm false) (aa 0) (ag (.str "0123456789")))) ae) je)))
abbrev qP:FF:=aT 1 0
 (ax (fz (bd (af (aa 0) ae) (aA 1 qO)) (fz (ai dR (bd (af (aa 0) ae) aH) (ag (.int 11))) (ai dR (bd (af (aa 0) ae) gm) (ag (.int 4294967296))))))
abbrev gK:Nat->FF
 | 0=>λ_ _=>none
 | n+1=>aT 2 2
   (ak (aM (bd (af (bb (aa 0)) (af (aa 1) ae)) (aA 2 gJ)) (aF 2))
   (ak (aE (ao (ai gH (aa 2) (ag (.str "("))))
   (ax (ai aI (bd (af (a6 cX (ag (.int 1))) (af (ai aC (aa 1) (ag (.int 1))) ae)) aL) (bd (af (vN (bd (af (aa 2) ae) (aA 1 mw)) (bd (af (aa 2) ae) (aA 1 qP))) ae) dC)))
   aO)
   (ak (aM (bd (af (bb (aa 0)) (af (ai aC (aa 1) (ag (.int 1))) ae)) (aA 2 gJ)) (aF 3))
   (ak (aE (eO (ao (ai a8 (aa 3) (ag (.str "at")))) (bd (bd (af (bd (af (bb (aa 0)) (af (ai aC (aa 1) (ag (.int 2))) ae)) (aA 2 gJ)) ae) (aA 1 mw)) cH))
   (aM (bd (af (bb (aa 0)) (af (ai aC (aa 1) (ag (.int 3))) ae)) (aA 2 (gK n))) (aF 1))
   (aE (ao (ai eR (aa 3) (bd (af (ag (.str "+")) (af (ag (.str "-")) (af (ag (.str "*")) (af (ag (.str "<")) (af (ag (.str "=")) ae))))) b8)))
   (ak (aM (bd (af (bb (aa 0)) (af (ai aC (aa 1) (ag (.int 2))) ae)) (aA 2 (gK n))) (aF 1))
   (aE (ao (ai gG (aa 1) (ag (.int 0))))
   (aM (bd (af (bb (aa 0)) (af (aa 1) ae)) (aA 2 (gK n))) (aF 1))
   aO))
   (ax (a6 cX (ag (.int 1))))))
   (ax (ai aI (bd (af (a6 cX (ag (.int 1))) (af (ai aC (aa 1) (ag (.int 1))) ae)) aL) (bd (af (fz (ai gG (aa 1) (ag (.int 0))) (ai a8 (bd (af (bb (aa 0)) (af (bd (af (aa 1) (af (ag (.int 0)) ae)) dS) ae)) (aA 2 gJ)) (ag (.str ")")))) ae) dC)))))))
abbrev xJ:FF:=aT 1 1
 (ak (aM (a6 (gk " ") (a6 (cM ")" " )") (a6 (cM "(" "( ") (aa 0)))) (aF 1))
 (ax (ai a8 (bd (af (bb (aa 1)) (af (ag (.int 0)) ae)) (aA 2 (gK 150))) (bd (af (aa 1) ae) aH))))
abbrev qQ:FF:=aT 1 0
 (ak (aE (dA (ao (ai dR (bd (af (aa 0) ae) aH) (ag (.int 1)))) (dA (ao (ai fN (bd (af (aa 0) ae) aH) (ag (.int 6)))) (ao (ai eR (aa 0) (ag (.con (List.map I.str ["cell","row","def","main","set","put","while","if","else","call","end","at"])))))))
 (ax (ag (.bl false)))
 aO)
 (ax (bd (af (fg (cG (one (aa 0)) eI) [] c1 bS (ai (dm false) (aa 0) (ag (.str "abcdefghijklmnopqrstuvwxyz")))) ae) je)))
abbrev xK:SF :=
 (ak (aE (ao (ai (dm true) (aa 2) (ag (.str "0123456789"))))
 (ax (ag .non))
 aO)
 (aM (ai aC (ai cI (ag (.int 10)) (aa 1)) (fO iT (ag (.str "0123456789")) (af (aa 2) ae))) (aF 1)))
abbrev AJ:FF:=aT 1 2
 (ak (aE (dA (ao (ai a8 (aa 0) (ag (.str "")))) (eO (ao (ai a8 (ai aI (aa 0) (ag (.int 0))) (ag (.str "0")))) (ao (ai gH (aa 0) (ag (.str "0"))))))
 (ax (ag .non))
 aO)
 (ak (aM (ag (.int 0)) (aF 1))
 (ak (df (cG (one (aa 0)) eI) (aF 2)
 xK)
 (ax (aa 1)))))
abbrev pU:FF:=aT 1 1
 (ak (aM (bd (af (aa 0) ae) (aA 1 AJ)) (aF 1))
 (ak (aE (dA (ao (a6 (eP true) (aa 1))) (ao (ai gG (aa 1) (ag (.int 4294967296)))))
 (ax (ag .non))
 aO)
 (ax (aa 1))))
abbrev fF:FF:=aT 1 1
 (ak (aE (lF (bd (bd (af (aa 0) (af (ag (.ty "str")) ae)) dD) cH))
 (ax (aa 0))
 aO)
 (ak (aE (bd (bd (af (aa 0) ae) (aA 1 qQ)) cH)
 (ax (bd (af (ag (.str "cell")) (af (aa 0) ae)) b8))
 aO)
 (ak (aM (bd (af (aa 0) ae) (aA 1 pU)) (aF 1))
 (ak (aE (ao (a6 (eP true) (aa 1)))
 (ax (ag .non))
 aO)
 (ax (bd (af (ag (.str "num")) (af (aa 1) ae)) b8))))))
abbrev ky:FF:=aT 1 0
 (ax (fz (bd (af (aa 0) (af (ag (.ty "str")) ae)) dD) (bd (af (aa 0) ae) (aA 1 qQ))))
abbrev xM:FF:=aT 1 2
 (ak (aE (ao (ai gH (bd (af (aa 0) ae) aH) (ag (.int 3))))
 (ax (ag .non))
 aO)
 (ak (aM (bd (af (ai aI (aa 0) (ag (.int 2))) ae) (aA 1 fF)) (aF 1))
 (ak (aE (ao (a6 (eP true) (aa 1)))
 (ax (ag .non))
 aO)
 (ak (aE (eO (ao (ai a8 (ai aI (aa 0) (ag (.int 0))) (ag (.str "at")))) (bd (bd (af (ai aI (aa 0) (ag (.int 1))) ae) (aA 1 ky)) cH))
 (ax (bd (af (ag (.str "at")) (af (ai aI (aa 0) (ag (.int 1))) (af (aa 1) ae))) b8))
 aO)
 (ak (aM (bd (af (ai aI (aa 0) (ag (.int 1))) ae) (aA 1 fF)) (aF 2))
 (ak (aE (eO (ao (ai gn (ai aI (aa 0) (ag (.int 0))) (ag (.con (List.map I.str ["+","-","*","<","="]))))) (ao (a6 (eP false) (aa 2))))
 (ax (bd (af (ag (.str "op")) (af (ai aI (aa 0) (ag (.int 0))) (af (aa 2) (af (aa 1) ae)))) b8))
 aO)
 (ax (ag .non))))))))
abbrev ny:SF :=
 (aE (ao (ai a8 (aa 2) (ag (.str "("))))
 (cW (iP g8 (aa 1) (af (bb (bd ae aL)) ae)))
 (aE (ao (ai a8 (aa 2) (ag (.str ")"))))
 (ak (aM (bd (af (a6 fw (aa 1)) ae) (aA 1 xM)) (aF 3))
 (ak (aE (dA (ao (a6 (eP true) (aa 3))) (ao (ai a8 (bd (af (aa 1) ae) aH) (ag (.int 0)))))
 (ax (ag .non))
 aO)
 (cW (iP g8 (ai aI (aa 1) (a6 cX (ag (.int 1)))) (af (aa 3) ae)))))
 (cW (iP g8 (ai aI (aa 1) (a6 cX (ag (.int 1)))) (af (aa 2) ae)))))
abbrev xN:FF:=aT 1 4
 (ak (aM (bd (af (bb (bd ae aL)) ae) aL) (aF 1))
 (ak (df (cG (one (bb (aa 0))) cJ) (aF 2)
 ny)
 (ak (aM (fg (cG (one (ai aI (aa 1) (ag (.int 0)))) cJ) [] c1 bS (bd (af (aa 0) ae) (aA 1 fF))) (aF 4))
 (ak (aE (dA (ao (ai fN (bd (af (aa 1) ae) aH) (ag (.int 1)))) (ao (ai jT (ag .non) (aa 4))))
 (ax (ag .non))
 aO)
 (ax (aa 4))))))
abbrev nz:FF:=aT 1 1
 (ak (aM (bd (af (bb (aa 0)) ae) (aA 1 xN)) (aF 1))
 (ak (aE (dA (ao (a6 (eP true) (aa 1))) (ao (ai gH (bd (af (aa 1) ae) aH) (ag (.int 1)))))
 (ax (ag .non))
 aO)
 (ax (ai aI (aa 1) (ag (.int 0))))))
abbrev nA:FF:=aT 1 0
 (ax (a6 (gk " ") (a6 (cM ")" " )") (a6 (cM "(" "( ") (aa 0)))))
abbrev AK:FF:=aT 1 1
 (ak (aM (bd (af (bd (af (aa 0) ae) (aA 1 nA)) ae) (aA 1 nz)) (aF 1))
 (ak (aE (ao (a6 (eP true) (aa 1)))
 wz
 aO)
 (ax (aa 1))))
abbrev AL:FF:=aT 1 1
 (ak (fE (aM (bd (af (bd (af (aa 0) ae) (aA 1 nA)) ae) (aA 1 nz)) (aF 1)))
 (ak (aE (ao (a6 (eP true) (aa 1)))
 (mn "NoText" ["row"] (af (ag (.int 0)) ae))
 (fE aO))
 (fE (ax (aa 1)))))
abbrev qR:FF:=λxs G=>match AL xs G with
 | some (.ow (.obj c [(n1,.int k)]),G')=>if c="NoText"/\n1="row" then some (.im (.tup [.bl true,.bl true,.bl false,.int k]),G') else none
 | some (.im _,G')=>some (.im (.tup [.str "read"]),G')
 | _=>none
abbrev AM:Mo Bool:=(ao (ai fN (aa 0) (ag (.int 9))))
abbrev HE:SF :=
 (ak (cW (iP g8 (aa 1) (af (ai aI (ag (.str "0123456789")) (ai dh (aa 0) (ag (.int 10)))) ae)))
 (aM (ai jJ (aa 0) (ag (.int 10))) (aF 0)))
abbrev AN:FF:=aT 1 1
 (ak (aM (bd ae aL) (aF 1))
 (ak (gF AM
 HE)
 (ak (cW (iP g8 (aa 1) (af (ai aI (ag (.str "0123456789")) (aa 0)) ae)))
 (ax (fO iV (ag (.str "")) (one (aa 1)))))))
abbrev j0:Nat->FF
 | 0=>λ_ _=>none
 | n+1=>aT 1 5
   (ak (aE (ao (ai a8 (ai aI (aa 0) (ag (.int 0))) (ag (.str "num"))))
   (ax (bd (af (ai aI (aa 0) (ag (.int 1))) ae) (aA 1 AN)))
   aO)
   (ak (aE (ao (ai a8 (ai aI (aa 0) (ag (.int 0))) (ag (.str "cell"))))
   (ax (ai aI (aa 0) (ag (.int 1))))
   aO)
   (ak (aE (ao (ai a8 (ai aI (aa 0) (ag (.int 0))) (ag (.str "at"))))
   (ak (aM (ai aI (aa 0) (ag (.int 1))) (aF 1))
   (ak (aM (bd (af (ai aI (aa 0) (ag (.int 2))) ae) (aA 1 (j0 n))) (aF 2))
   (ax (gI [(ag (.str "(at ")),(a6 dW (aa 1)),(ag (.str " ")),(a6 dW (aa 2)),(ag (.str ")"))] Str.empty))))
   aO)
   (ak (aM (ai aI (aa 0) (ag (.int 1))) (aF 3))
   (ak (aM (bd (af (ai aI (aa 0) (ag (.int 2))) ae) (aA 1 (j0 n))) (aF 4))
   (ak (aM (bd (af (ai aI (aa 0) (ag (.int 3))) ae) (aA 1 (j0 n))) (aF 5))
   (ax (gI [(ag (.str "(")),(a6 dW (aa 3)),(ag (.str " ")),(a6 dW (aa 4)),(ag (.str " ")),(a6 dW (aa 5)),(ag (.str ")"))] Str.empty))))))))
abbrev xO:FF:=aT 1 0
 (ak (aE (bd (bd (af (aa 0) ae) (aA 1 xJ)) cH)
 (ax (ai a8 (bd (af (bd (af (aa 0) ae) (aA 1 AK)) ae) (aA 1 (j0 150))) (aa 0)))
 aO)
 (ax (ai a8 (bd (af (aa 0) ae) (aA 1 qR)) (bd (af (ag (.bl true)) (af (ag (.bl true)) (af (ag (.bl false)) (af (ag (.int 0)) ae)))) b8))))
abbrev HF:SF :=
 (aM (bd (af (bb (aa 1)) (af (aa 4) (af (bb (aa 2)) ae))) (aA 3 AH)) (aF 4))
abbrev HG:FF:=aT 1 6
 (ak (aM (bd (af (aa 0) (af (ag (.int 0)) ae)) (aA 2 xG)) (aF 1))
 (ak (aM (bd (af (bb (aa 1)) (af (ag (.int 12)) ae)) (aA 2 xI)) (aF 2))
 (ak (aM (bd (af (bd (af (bb (aa 1)) (af (bb (aa 2)) (af (bb (bd (af (ag (.int 7)) ae) aL)) (af (ag (.int 0)) ae)))) (aA 4 (jZ 9))) ae) (aA 1 (jY 9))) (aF 3))
 (ak (aM (aa 3) (aF 4))
 (ak (df (cG (af (ai aC (ag (.int 1)) (bd (af (bb (aa 1)) (af (ag (.int 3)) ae)) (aA 2 bt))) ae) ff) (aF 5)
 HF)
 (ak (aM (bd (af (aa 3) (af (aa 4) (af (bd (af (bb (aa 1)) ae) (aA 1 AI)) (af (bd (af (bb (aa 1)) (af (bb (aa 2)) ae)) (aA 2 pT)) ae)))) aL) (aF 6))
 (ax (bd (af (fg (cG (one (bb (ai aC (aa 6) (aa 6)))) cJ) [] c1 bS (bd (af (aa 0) ae) (aA 1 xO))) ae) je))))))))
end
end Q
namespace Q
open PySem PySem.Spec PyProof.Rows L2 B
structure Kt(K:W.Frag)(mg:Str->Option Value)(C0 C1 C2 C3 C4:Addr):Prop where
 i:qL K C1
 g:mg "CourtError" = some (.ref C0)
 g1:mg "NoText" = some (.ref C1)
 g2:mg "NoProgram" = some (.ref C2)
 g3:mg "TooLong" = some (.ref C3)
 g4:mg "NoRecord" = some (.ref C4)
 gi:mg "isinstance" = none
 gv:mg "ValueError" = none
 gb:mg "bool" = none
 sb:pL K C1 C1 true
 xa:XA K C1
 xi:XI K C1
 k2:W.kitOne K (.ref C1) (.ref C0)=some true
 kv:W.kitOne K (.ref C1) (.type "ValueError")=some true
 ka:W.kitAny K (.ref C1) [.ref C2,.ref C3,.ref C4]=some false
 kb:W.kitOne K (.type "int") (.type "bool")=some false
 n1:kM K C1 "row"
def xP{K:W.Frag}{κ:Str->Addr}{ι ι' fp:List Addr}{H H':Hp}{G':List M}{v:V}{d:I}(s:SR K κ ι' H' [] [] G')(t:Step ι fp H ι' ι' H')(r:RpI K ι' H' v d):SR K κ ι' H' [some v] [some (.im d)] G'/\Step ι fp H ι' (own [some v] [some (.im d)]++ι') H':=by
 have e:own [some v] [some (Vl.im d)]=[]:=by show bw _ _++[]=[];rw [fT];rfl
 exact⟨s.push_im r,by rw [e];exact t⟩
def pV{H H':Hp}{p:Addr}{o:HO}(s:dz H H')(hp:H' p=none):dz H (upd H' p o)/\H p=none:=by
 have e:=s.free hp
 exact⟨λb q z=>by rw [aQ (λy=>by rw [y,e] at z;cases z)];exact s b q z,e⟩
section
variable {P:Program}{w:World}{K:W.Frag}{mg:Str->Option Value}{base:Heap}{κ:Str->Addr}{f C0 C2 C3 C4:Addr}{fd:FuncData}
def HH:y40 ["_law_text","_law_found","_law_other","e"] ["_law_text"] (bo (top 44)):=a9
noncomputable abbrev tI(K:W.Frag)(t:TE):TE:=As (xF K) (cR (cQ 3) (cR t gR))
noncomputable abbrev HI(K:W.Frag):List V->Hp->VK->Prop:=λxs H Q=>∃x t n b,xs=[x,.ty n]/\y52 K H x t/\W.kitOne K t (.type n)=some b/\Q (.bl b) H
def HJ(F:Fun K "_law_refused" "_law_refused" (top 44) f fd)(hL:xt P w K mg base "read_term" 7 ["text"] (jX K κ 1 AL))(C:Kt K mg C0 (κ "NoText") C2 C3 C4) :
  y3f P w K mg base bG 8 f fd ["_law_text"] (aP K κ 1 qR):=by
 refine F.ok (k:=7) HH (λvs H Q E zz=>by obtain⟨ι,xs,G,x,G',hl,sr,_⟩:=zz;have:=sr.len;rw [z11,z11] at this;rw [this,hl];rfl) λcdv A outer s H vs Q E hr zz=>?_
 obtain⟨ι,xs,G,x,G',hl,sr,eq,k⟩:=zz
 have lv:vs.length=1:=by have:=sr.len;rw [z11,z11] at this;lia
 match vs,lv with
 | [v],_ =>
 obtain⟨fl,fdl,gl,kl,bl,ol⟩:=hL
 have nd:(["_law_text","_law_found","_law_other","e"]:List Str).Nodup:=by decide +kernel
 refine⟨_,iz (iB (jq (bU rg dJ)) (jk (i:=1) nd rfl (.inl rfl))) (iz (Hf rfl rfl
   (λE pn xe hp=>iA (kH (nZ ol hr (by rfl) gl kl bl .nil hp (bU (pv 0) dJ))))
   (xf (i:=3) (ts:=kG (fP (rz (tI K (kN (cR (tC (.ref C2)) (cR (tC (.ref C3)) (cR (tC (.ref C4)) gR))))) (As (HI K) (cR (GR K (cQ 3) "row") (cR (tC (.ty "bool")) gR)))) (gO 2))
     (fP (kN (cR (tI K (tC (.ref C0))) (cR (tI K (tC (.ty "ValueError"))) (cR (cQ 2) (cR (GR K (cQ 3) "row") gR))))) (gO 1)))
    (by rfl) C.g1 C.i nd rfl rfl (λx =>
     iz (iB (jj (eX HA (by rfl) C.gi rfl (bU (pv 3) (bU (jq (bU (ji (by rfl) C.g2 rfl) (bU (ji (by rfl) C.g3 rfl) (bU (ji (by rfl) C.g4 rfl) dJ)))) dJ)))
       (y331 (eX ya6 (by rfl) C.gi rfl (bU (w6 (pv 3) (by rfl)) (bU (nG (by rfl) C.gb rfl rfl) dJ))))) (jk nd rfl (.inl rfl)))
      (iA (iB (jq (bU (eX HA (by rfl) C.gi rfl (bU (pv 3) (bU (ji (by rfl) C.g rfl) dJ))) (bU (eX HA (by rfl) C.gi rfl (bU (pv 3) (bU (nG (by rfl) C.gv rfl rfl) dJ))) (bU (pv 2) (bU (w6 (pv 3) (by rfl)) dJ))))) (jk nd rfl (.inl rfl)))))
   HB)) (iA (rC (pv 1)))),?_⟩
 refine⟨(show (1:Nat)≤sizeLine by decide),λp0 hp0=>?_⟩
 have s0:=pV (o:=.tup [.str "read"]) (λ_ _ e=>e) hp0
 refine⟨v,rfl,?_⟩
 have sr0:=sr.same s0.1
 unfold qR at eq
 split at eq
 ·rename_i c n1 kk G1 e1
  split at eq
  ·rename_i hc
   obtain⟨rfl,rfl⟩:=hc
   cases eq
   refine⟨ι,xs,G,_,_,hl,sr0,e1,?_⟩
   intro x0 dx fvs ι' H' hX hD hn hr' s' st
   intro x' C' dct' eC ex' e'
   obtain rfl:C'=κ "NoText":=(Value.ref.inj eC).symm
   obtain rfl:x'=x0:=(z20 ex').symm
   match fvs,hn,hr' with
   | [(m1,va)],hn,.cons ra .nil =>
   simp only [z19,List.map_nil,List.cons.injEq,and_true] at hn
   subst hn
   cases cF ra
   refine⟨true,C.sb,CN ⟨.ref x',rfl,(show (3:Nat)≤sizeLine by decide),λp2 hp2=>?_⟩⟩
   have s2:=pV (o:=.tup [.ref C2,.ref C3,.ref C4]) (λ_ _ e=>e) hp2
   generalize hH2:upd H' p2 (.tup [.ref C2,.ref C3,.ref C4])=H2 at s2 ⊢
   have hp2':H2 p2=some (.tup [.ref C2,.ref C3,.ref C4]):=by rw [<- hH2];exact bf
   have X2:=s2.1 _ _ hX
   have D2:=s2.1 _ _ hD
   refine⟨x',κ "NoText",dx,_,false,.ref p2,false,rfl,X2,D2,C.xa,C.xi,⟨false,rfl,CM ⟨.ref x',rfl,x',κ "NoText",dx,_,.int kk,false,rfl,X2,D2,C.xa,C.n1,rfl,.int kk,.type "int","bool",false,rfl,?_,C.kb,?_⟩⟩,.inr ⟨p2,_,_,rfl,hp2',rfl,C.ka⟩⟩
   ·first|exact rfl|exact .int _|trivial
   refine⟨.ref x',rfl,x',κ "NoText",dx,_,false,.ref C0,true,rfl,X2,D2,C.xa,C.xi,⟨.ref x',rfl,x',κ "NoText",dx,_,false,.ty "ValueError",true,rfl,X2,D2,C.xa,C.xi,⟨_,rfl,.ref x',rfl,x',κ "NoText",dx,_,.int kk,false,rfl,X2,D2,C.xa,C.n1,rfl,(show (4:Nat)≤sizeLine by decide),λp3 hp3=>⟨.ref p3,rfl,?_⟩⟩,.inl ⟨_,rfl,C.kv⟩⟩,.inl ⟨_,rfl,C.k2⟩⟩
   have s3:=pV (o:=.tup [.bl true,.bl true,.bl false,.int kk]) s2.1 hp3
   obtain⟨z1,z2⟩:=s'.bare s3.1
   obtain⟨y1,y2⟩:=xP (v:=.ref p3) (d:=.tup [.bl true,.bl true,.bl false,.int kk]) z1 (((Step.same s0.1).trans st).trans z2) (.tup bf (.cons (.bl _) (.cons (.bl _) (.cons (.bl _) (.cons (.int _) .nil)))))
   exact k _ _ _ y1 y2
  ·cases eq
 ·rename_i d G1 e1
  cases eq
  refine⟨ι,xs,G,_,_,hl,sr0,e1,?_⟩
  intro v' ι' H' s' st
  obtain⟨z1,z2⟩:=s'.bare (λ_ _ e=>e)
  have kp:=(st.trans z2).kp
  refine⟨.ref p0,rfl,?_⟩
  have ht:H' p0=some (.tup [.str "read"]):=kp.tup _ _ bf
  obtain⟨y1,y2⟩:=xP (v:=.ref p0) (d:=.tup [.str "read"]) z1 (((Step.same s0.1).trans st).trans z2) (.tup ht (.cons (.str _) .nil))
  exact k _ _ _ y1 y2
 ·cases eq
end
end Q
set_option maxHeartbeats 400000
namespace Q
open PySem L2 B
def aJ  (hl:xs.length=n)(h:body (xs.map some++List.replicate r none) G=some (.rt x G')):aT n r body xs G=some (x,G'):=by
 unfold aT;rw [if_pos hl,h]
def aj  (h:a Z G=some (.nx Z1 G1))(k:b Z1 G1=r):ak a b Z G=r:=by
 unfold ak;rw [h];exact k
def aZ  (h:a Z G=some (.rt x G1)):ak a b Z G=some (.rt x G1):=by
 unfold ak;rw [h]
def aU  (h:c Z G=some (true,Z1,G1))(k:a Z1 G1=r):aE c a b Z G=r:=by
 unfold aE;rw [h];exact k
def aK  (h:c Z G=some (false,Z1,G1))(k:b Z1 G1=r):aE c a b Z G=r:=by
 unfold aE;rw [h];exact k
def bA  (h:f Z G=some (.v x,Z1,G1))(k:g x Z1 G1=some (Z2,G2)):aM f g Z G=some (.nx Z2 G2):=by
 unfold aM iI bd;rw [h];show (match nj (.v x) Z1 G1 with|_=>_)=_
 unfold nj rt;dsimp only;rw [k]
def aV  (h:f Z G=some (.v x,Z1,G1)):ax f Z G=some (.rt x G1):=by
 unfold ax iI bd;rw [h];rfl
def pW  (h:f Z G=some (e,Z1,G1)):cW f Z G=some (.nx Z1 G1):=by
 unfold cW;rw [h]
def aq{α β:Type}{m:Mo α}{f:α->Mo β}{Z Z1:De}{G G1:List M}{a:α}{r:Option (β×De×List M)}(h:m Z G=some (a,Z1,G1))(k:f a Z1 G1=r):bd m f Z G=r:=by
 unfold bd;rw [h];exact k
def fG (h:c Z G=some (true,Z1,G1)):dA c d Z G=some (true,Z1,G1):=by
 unfold dA bd;rw [h];rfl
def b6  (h:c Z G=some (false,Z1,G1))(k:d Z1 G1=r):dA c d Z G=r:=by
 unfold dA bd;rw [h];exact k
def pX (h:c Z G=some (false,Z1,G1)):eO c d Z G=some (false,Z1,G1):=by
 unfold eO bd;rw [h];rfl
def kz  (h:c Z G=some (true,Z1,G1))(k:d Z1 G1=r):eO c d Z G=r:=by
 unfold eO bd;rw [h];exact k
def aX  (h:f Z G=some (.v (.im (.bl b)),Z1,G1)):ao f Z G=some (b,Z1,G1):=by
 unfold ao bd;rw [h];rfl
def aw   (h:f Z G=some (x,Z1,G1))(h2:g Z1 G1=some (y,Z2,G2))(k:p [x,y] Z2 G2=r):ai p f g Z G=r:=by
 unfold ai bd;rw [h];dsimp only;rw [h2];exact k
def hG   (h:f Z G=some (x,Z1,G1))(k:p [x] Z1 G1=r):a6 p f Z G=r:=by
 unfold a6 bd;rw [h];exact k
def bX   (h:nt es=some xs)(hl:xs.length=n)(k:fn xs G=some (x,G')):aA n fn es Z G=some (.v x,Z,G'):=by
 unfold aA;rw [h];dsimp only;rw [if_pos hl,k]
def HK    (h:fo Z G=some (e,Z1,G1))(hl:fu Z1 G1 e=true)(ha:fa Z1 G1=some (es,Z2,G2))(k:p (e::es) Z2 G2=r):iP p fo fa Z G=r:=by
 unfold iP bd;rw [h];dsimp only;rw [if_pos hl,ha];exact k
def nB     (hb:qG ix Z G=some ((),Z0,G0))(hi:fi Z0 G0=some (w,es,Z1,G1))(hn:w.n≤100000)(hc:eD w c tt te (jD ix Z1) 0 w.n [] Z1 G1=some (ds,G2)):fg fi ix c tt te Z G=some (.v (.ow (.lst ds)),Z1,G2):=by
 unfold fg;rw [hb];dsimp only;rw [hi];dsimp only;rw [if_pos hn,hc]
def gq    (hi:f Z G=some (w,es,Z1,G1))(h:bB w g b 0 w.n Z1 G1=r):df f g b Z G=r:=by
 unfold df;rw [hi];exact h
def j4   (h:fa Z G=some (es,Z1,G1))(k:p es Z1 G1=some w):cG fa p Z G=some (w,es,Z1,G1):=by
 unfold cG;rw [h];dsimp only;rw [k];rfl
abbrev my(n:Nat):Wk:=⟨n,λi _ _=>some (.int i),λ_ _=>true⟩
def mz(n:Nat):(my n).n=n:=rfl
def HL{n:Nat}{j:Int}{Z:De}{G:List M}(h:j=n)(hn:n≤1000000):ff [.v (.im (.int j))] Z G=some (my n):=by
 subst h
 unfold ff
 dsimp only
 rw [if_pos (by lia)]
 rfl
def pY{n:Nat}{fa:Mo (List Ev)}{j:Int}{Z Z1:De}{G G1:List M}(h:fa Z G=some ([.v (.im (.int j))],Z1,G1))(e:j=n)(hn:n≤1000000):cG fa ff Z G=some (my n,[.v (.im (.int j))],Z1,G1):=j4 h (HL e hn)
end Q
namespace Q
open PySem L2 B
local macro_rules | `(tactic| simp! [$xs,*])=>do
 let a:=("aT ak aE dA eO lF ao ai a6 bd aa ag rt af ae DR aH sq pk il Dy dR leP fN gG bC ax DE iI bb oF nj aO cW aM aF aI bR eF vy jO ft aC km cI oU jJ dh g7 Ep Er cX aA nt uC uD b8 aL jc dQ iP fu g8 fw DS dU iQ fZ jM jL cY ifE eP lO cH a8 gH eQ b9 dI bK bq ko Fd Fe one".splitOn " ").toArray.map fun s=>Lean.mkIdent s.toName
 `(tactic|simp [$[$a:ident],*,$xs,*])
local macro_rules | `(↑$x)=>`(some (.im $x))
local macro_rules | `(⇑$x)=>`(.v (.im $x))
local macro_rules | `(↥$x)=>`(some (.ow (.lst $x)))
section
def xQ:¬ (("seed" : Str)="number"):=by decide +kernel
def HM:¬ (("seed" : Str)="left"):=by decide +kernel
def xR:¬ (("number" : Str)="left"):=by decide +kernel
def xS:¬ (("number" : Str)="seed"):=by decide +kernel
def HN:¬ (("left" : Str)="seed"):=by decide +kernel
def HP:¬ (("left" : Str)="number"):=by decide +kernel
def HQ:((Sum.inr ("seed" : Str):aR)=Sum.inr ("number" : Str))=False:=by simp;decide +kernel
def HR:((Sum.inr ("seed" : Str):aR)=Sum.inr ("left" : Str))=False:=by simp;decide +kernel
def HS:((Sum.inr ("number" : Str):aR)=Sum.inr ("left" : Str))=False:=by simp;decide +kernel
abbrev dy(a n:Int)(l:Nat):List (aR×I):=[(.inr "seed",.int a),(.inr "number",.int n),(.inr "left",.ref l)]
def yec(a n:Int)(l:Nat):cY (dy a n l) (Sum.inr ("seed" : Str))=some (.int a):=by simp [dy,cY]
def xT(a n:Int)(l:Nat):cY (dy a n l) (Sum.inr ("number" : Str))=some (.int n):=by simp only [dy,cY,HQ,if_false,if_true]
def AO(a n:Int)(l:Nat):cY (dy a n l) (Sum.inr ("left" : Str))=some (.ref l):=by simp only [dy,cY,HR,HS,if_false,if_true]
def xU(a n m:Int)(l:Nat):dj (dy a n l) (Sum.inr ("number" : Str)) (.int m)=dy a m l:=by simp [dj,jN,dy,xQ,HP,xR,xS]
def xV(a n m:Int)(l:Nat):dj (dy a n l) (Sum.inr ("seed" : Str)) (.int m)=dy m n l:=by simp [dj,jN,dy,xS,HN]
def HU(a n:Int)(l:Nat):(dy a n l).length<1000000:=by show 3<1000000;decide
structure DC(G:List M)(d l:Nat)(a n:Int)(ms:List Int):Prop where
 dc:G[d]?=some (.dic (dy a n l))
 lc:G[l]?=some (.lst (ms.map I.int))
 ne:d≠l
 a0:0≤a
 a1:a<2147483647
 n0:0≤n
 m0:∀m∈ms,0≤m
abbrev DG(G:List M)(d l:Nat):Prop:=∃a n ms,DC G d l a n ms
structure Oth(d l:Nat)(G G':List M):Prop where
 len:G'.length=G.length
 at_:∀k,k≠d->k≠l->G'[k]?=G[k]?
def Oth.refl(d l:Nat)(G:List M):Oth d l G G:=⟨rfl,λ_ _ _=>rfl⟩
theorem Oth.trans{d l:Nat}{G G1 G2:List M}(x:Oth d l G G1)(y:Oth d l G1 G2):Oth d l G G2:=⟨y.len.trans x.len,λk h1 h2=>(y.at_ k h1 h2).trans (x.at_ k h1 h2)⟩
def Oth.setD{d l:Nat}{G:List M}{m:M}:Oth d l G (G.set d m):=⟨z29,λk h1 _=>z26 (Ne.symm h1)⟩
def Oth.setL{d l:Nat}{G:List M}{m:M}:Oth d l G (G.set l m):=⟨z29,λk _ h1=>z26 (Ne.symm h1)⟩
def j5{G:List M}{k:Nat}{m m':M}(h:G[k]?=some m'):(G.set k m)[k]?=some m:=List.getElem?_set_self (z1a.mp h).1
abbrev kA(d:Nat)(many:Int):De:=[↑(.ref d),↑(.int many),none,none,none]
def pZ{G:List M}{d l:Nat}{a n:Int}{ms:List Int}{many:Int}(D:DC G d l a n ms):pR (kA d many) G=some (decide (n=0)&&decide (0<ms.length),kA d many,G):=by
 by_cases h:n=0
 ·by_cases h2:0<ms.length
  ·simp! [pR,kA,D.dc,D.lc,xT,AO,h,h2]
  ·simp! [pR,kA,D.dc,D.lc,xT,AO,h,h2]
 ·simp! [pR,kA,D.dc,D.lc,xT,AO,h]
def HV{G:List M}{d l:Nat}{a n:Int}{ms:List Int}{many y:Int}(D:DC G d l a n ms)(hy:ms[ms.length-1]?=some y):∃G',xH (kA d many) G=some (.nx (kA d many) G')/\DC G' d l a y ms.dropLast/\Oth d l G G':=by
 have h1:(G.set l (.lst (ms.map I.int).dropLast))[d]?=some (.dic (dy a n l)):=by rw [z26 D.ne.symm];exact D.dc
 refine⟨(G.set l (.lst (ms.map I.int).dropLast)).set d (.dic (dy a y l)),?_,⟨j5 h1,?_,D.ne,D.a0,D.a1,D.m0 y (z34 hy),λm hm=>D.m0 m (List.dropLast_subset _ hm)⟩,Oth.setL.trans Oth.setD⟩
 ·simp! [xH,kA,D.dc,D.lc,AO,hy,h1,HU,xU]
 ·rw [z26 D.ne,j5 D.lc,List.map_dropLast]
def HW{d l:Nat}{a:Int}{many:Int}:∀(k:Nat) {G:List M} {n:Int} {ms:List Int},ms.length=k->DC G d l a n ms->∃G' n' ms',gF pR xH (kA d many) G=some (.nx (kA d many) G')/\DC G' d l a n' ms'/\Oth d l G G':=by
 intro k
 induction k with
 | zero =>
  intro G n ms hk D
  refine⟨G,n,ms,oN ?_,D,Oth.refl _ _ _⟩
  rw [pZ D]
  simp [hk]
 | succ k ih =>
  intro G n ms hk D
  by_cases h:n=0
  ·obtain⟨y,hy⟩:∃y,ms[ms.length-1]?=some y:=⟨_,z16 (by lia)⟩
   obtain⟨G1,e1,D1,o1⟩:=HV (many:=many) D hy
   obtain⟨G2,n2,ms2,e2,D2,o2⟩:=ih (by rw [List.length_dropLast];lia) D1
   refine⟨G2,n2,ms2,?_,D2,o1.trans o2⟩
   rw [um (by rw [pZ D];simp [h,hk]) e1]
   exact e2
  ·refine⟨G,n,ms,oN ?_,D,Oth.refl _ _ _⟩
   rw [pZ D]
   simp [h]
def dr{G:List M}{d l:Nat}{many:Int}(D:DG G d l)(h0:0<many)(h1:many<2 ^ 100):∃r G',bt [.im (.ref d),.im (.int many)] G=some (.im (.int r),G')/\0≤r/\r<many/\DG G' d l/\Oth d l G G':=by
 obtain⟨a,n,ms,D⟩:=D
 obtain⟨G1,n1,ms1,e1,D1,o1⟩:=HW (many:=many) _ rfl D
 have e1':gF pR xH [↑(.ref d),↑(.int many),none,none,none] G=some (.nx [↑(.ref d),↑(.int many),none,none,none] G1):=e1
 by_cases hn:0<n1
 ·refine⟨n1 % many,G1.set d (.dic (dy a (n1 / many) l)),?_,Int.emod_nonneg _ (by lia),Int.emod_lt_of_pos _ h0,⟨a,n1 / many,ms1,j5 D1.dc,by rw [z26 D1.ne];exact D1.lc,D1.ne,D1.a0,D1.a1,Int.ediv_nonneg D1.n0 (by lia),D1.m0⟩,o1.trans Oth.setD⟩
  have h2:many<2 ^ 200:=Int.lt_trans h1 (by decide)
  have h3:(many<1606938044258990275541962092341162602522202993782792835301376):=h2
  simp! [bt,e1',D1.dc,xT,hn,h0,h3,HU,xU]
 ·have q1:0≤(a*48271+7919) % 2147483647:=Int.emod_nonneg _ (by decide)
  have q2:(a*48271+7919) % 2147483647<2147483647:=Int.emod_lt_of_pos _ (by decide)
  have q3:0≤((a*48271+7919) % 2147483647*40692+104729) % 2147483399:=Int.emod_nonneg _ (by decide)
  have q4:((a*48271+7919) % 2147483647*40692+104729) % 2147483399<2147483399:=Int.emod_lt_of_pos _ (by decide)
  obtain⟨o,ho⟩:∃o,(a*48271+7919) % 2147483647=o:=⟨_,rfl⟩
  rw [ho] at q1 q2 q3 q4
  obtain⟨b,hb⟩:∃b,(o*40692+104729) % 2147483399=b:=⟨_,rfl⟩
  rw [hb] at q3 q4
  have D2:(G1.set d (.dic (dy b n1 l)))[d]?=some (.dic (dy b n1 l)):=j5 D1.dc
  have c1:-18446744073709551616<b/\b<18446744073709551616:=⟨by lia,by lia⟩
  have c2:-18446744073709551616<o/\o<18446744073709551616:=⟨by lia,by lia⟩
  refine⟨(o*o % 2147483629*2147483563+b*b % 2147483563) % many,G1.set d (.dic (dy b n1 l)),?_,Int.emod_nonneg _ (by lia),Int.emod_lt_of_pos _ h0,⟨b,n1,ms1,D2,by rw [z26 D1.ne];exact D1.lc,D1.ne,q3,by lia,D1.n0,D1.m0⟩,o1.trans Oth.setD⟩
  simp! [bt,e1',D1.dc,D2,xT,yec,hn,h0,HU,xV,ho,hb,c1,c2]
theorem qa{w:Wk}{c:I->Option (List I)}{tt:Mo Bool}{te:Mo Ev}{di Z:De}(P:Nat->List I->List M->Prop)
  (step:∀i acc G,i<w.n->P i acc G->∃d ds Za Ga y Zb Gb,w.at_ i Z G=some d/\c d=some ds/\tt ((ds.map λd=>some (Vl.im d))++di) G=some (true,Za,Ga)/\te Za Ga=some (⇑y,Zb,Gb)/\P (i+1) (acc++[y]) Gb)
  (fin:∀acc G,P w.n acc G->w.fin Z G=true):∀(r i:Nat) (acc:List I) (G:List M),i+r=w.n->P i acc G->∃ds G',eD w c tt te di i r acc Z G=some (ds,G')/\P w.n ds G'
 | 0,i,acc,G,h,p=>by
  have:i=w.n:=by lia
  subst this
  exact⟨acc,G,by unfold eD;rw [fin acc G p];rfl,p⟩
 | r+1,i,acc,G,h,p=>by
  obtain⟨d,ds,Za,Ga,y,Zb,Gb,h1,h2,h3,h4,p'⟩:=step i acc G (by lia) p
  obtain⟨ds',G',e,q⟩:=qa P step fin r (i+1) (acc++[y]) Gb (by lia) p'
  refine⟨ds',G',?_,q⟩
  unfold eD
  rw [h1];dsimp only;rw [h2];dsimp only;rw [h3];dsimp only;rw [h4]
  exact e
theorem mB{w:Wk}{g:GF}{b:SF}(P:Nat->De->List M->Prop)
  (step:∀i Z G,i<w.n->P i Z G->∃d Z1 G1 Z2 G2,w.at_ i Z G=some d/\g (.im d) Z G=some (Z1,G1)/\b Z1 G1=some (.nx Z2 G2)/\P (i+1) Z2 G2)
  (fin:∀Z G,P w.n Z G->w.fin Z G=true):∀(r i:Nat) (Z:De) (G:List M),i+r=w.n->P i Z G->∃Z' G',bB w g b i r Z G=some (.nx Z' G')/\P w.n Z' G'
 | 0,i,Z,G,h,p=>by
  have:i=w.n:=by lia
  subst this
  exact⟨Z,G,by unfold bB;rw [fin Z G p];rfl,p⟩
 | r+1,i,Z,G,h,p=>by
  obtain⟨d,Z1,G1,Z2,G2,h1,h2,h3,p'⟩:=step i Z G (by lia) p
  obtain⟨Z',G',e,q⟩:=mB P step fin r (i+1) Z2 G2 (by lia) p'
  refine⟨Z',G',?_,q⟩
  unfold bB
  rw [h1];dsimp only;rw [h2];dsimp only;rw [h3]
  exact e
structure Mor(g s:Nat)(G G':List M):Prop where
 len:G.length≤G'.length
 at_:∀k,k<G.length->k≠g->k≠s->G'[k]?=G[k]?
theorem Mor.trans{g s:Nat}{G G1 G2:List M}(x:Mor g s G G1)(y:Mor g s G1 G2):Mor g s G G2:=⟨z1c x.len y.len,λk h h1 h2=>(y.at_ k (z1f h x.len) h1 h2).trans (x.at_ k h h1 h2)⟩
def Oth.mor{g s:Nat}{G G':List M}(o:Oth g s G G'):Mor g s G G':=⟨by rw [o.len];exact z12 _,λk _ h1 h2=>o.at_ k h1 h2⟩
def Mor.app{g s:Nat}{G:List M}(T:List M):Mor g s G (G++T):=⟨by rw [zc];lia,λk h _ _=>z25 h⟩
def yd9{xs:List I}{m:Nat}:eS xs none (some (m:Int))=xs.take m:=by
 unfold eS
 rw [HT.y3eb,HT.y3ea,List.drop_zero,Nat.sub_zero]
 by_cases h:m≤xs.length
 ·rw [Nat.min_eq_left h]
 ·rw [Nat.min_eq_right (by lia),z30 (z12 _),z30 (by lia)]
def yd7{xs:List I}{m:Nat}(h:m≤xs.length):eS xs (some (m:Int)) none=xs.drop m:=by
 unfold eS
 rw [HT.y3eb,HT.y3ea,Nat.min_eq_left h]
 rw [z30 (by rw [z2d];lia)]
def ydb{xs:List I}{m k:Nat}(h:m+k≤xs.length):eS xs (some (m:Int)) (some ((m+k:Nat):Int))=(xs.drop m).take k:=by
 unfold eS
 rw [HT.y3ea,HT.y3ea,Nat.min_eq_left h,Nat.min_eq_left (by lia)]
 congr 1;lia
def Oth.dg{d l g s:Nat}{G G':List M}(o:Oth g s G G')(D:DG G d l)(h1:d≠g)(h2:d≠s)(h3:l≠g)(h4:l≠s):DG G' d l:=by
 obtain⟨a,n,ms,D⟩:=D
 exact⟨a,n,ms,by rw [o.at_ d h1 h2];exact D.dc,by rw [o.at_ l h3 h4];exact D.lc,D.ne,D.a0,D.a1,D.n0,D.m0⟩
def DG.lt{d l:Nat}{G:List M}(D:DG G d l):d<G.length/\l<G.length:=by
 obtain⟨a,n,ms,D⟩:=D
 exact⟨(z1a.mp D.dc).1,(z1a.mp D.lc).1⟩
def DG.app{d l:Nat}{G:List M}(D:DG G d l)(T:List M):DG (G++T) d l:=by
 obtain⟨l1,l2⟩:=D.lt
 obtain⟨a,n,ms,D⟩:=D
 exact⟨a,n,ms,by rw [z25 l1];exact D.dc,by rw [z25 l2];exact D.lc,D.ne,D.a0,D.a1,D.n0,D.m0⟩
theorem HX{w:Wk}{c:I->Option (List I)}{tt:Mo Bool}{te:Mo Ev}{di Z:De}(P:Nat->List I->List M->Prop)
  (step:∀i acc G,i<w.n->P i acc G->∃d ds Za Ga,w.at_ i Z G=some d/\c d=some ds/\((tt ((ds.map λd=>some (Vl.im d))++di) G=some (false,Za,Ga)/\P (i+1) acc Ga)∨∃y Zb Gb,tt ((ds.map λd=>some (Vl.im d))++di) G=some (true,Za,Ga)/\te Za Ga=some (⇑y,Zb,Gb)/\P (i+1) (acc++[y]) Gb))
  (fin:∀acc G,P w.n acc G->w.fin Z G=true):∀(r i:Nat) (acc:List I) (G:List M),i+r=w.n->P i acc G->∃ds G',eD w c tt te di i r acc Z G=some (ds,G')/\P w.n ds G'
 | 0,i,acc,G,h,p=>by
  have:i=w.n:=by lia
  subst this
  exact⟨acc,G,by unfold eD;rw [fin acc G p];rfl,p⟩
 | r+1,i,acc,G,h,p=>by
  obtain⟨d,ds,Za,Ga,h1,h2,z⟩:=step i acc G (by lia) p
  rcases z with⟨h3,p'⟩| ⟨y,Zb,Gb,h3,h4,p'⟩
  ·obtain⟨ds',G',e,q⟩:=HX P step fin r (i+1) acc Ga (by lia) p'
   refine⟨ds',G',?_,q⟩
   unfold eD
   rw [h1];dsimp only;rw [h2];dsimp only;rw [h3]
   exact e
  ·obtain⟨ds',G',e,q⟩:=HX P step fin r (i+1) (acc++[y]) Gb (by lia) p'
   refine⟨ds',G',?_,q⟩
   unfold eD
   rw [h1];dsimp only;rw [h2];dsimp only;rw [h3];dsimp only;rw [h4]
   exact e
def yda(ns:List Int)(lo hi:Option Int):∃ms:List Int,eS (ns.map I.int) lo hi=ms.map I.int/\ms.length≤ns.length:=by
 refine⟨(ns.drop (HT.sIx ns.length 0 lo)).take (HT.sIx ns.length ns.length hi-HT.sIx ns.length 0 lo),?_,?_⟩
 ·unfold eS;rw [z11,List.map_take,List.map_drop]
 ·rw [z2b,z2d];lia
def yed{ms:List Int}{Z:De}{G:List M}:∃so:List Int,eD (cj (.v (.ow (.lst (ms.map I.int)))) ms.length) c1 bS (bd (af (aa 0) (af (ai ft (ag (.int 0)) (aa 0)) ae)) dS) [] 0 ms.length [] Z G=some (so.map I.int,G)/\so.length=ms.length/\∀m∈so,0≤m:=by
 obtain⟨ds,G',e,so,ed,ls,hp,eg⟩:=qa (w:=cj (.v (.ow (.lst (ms.map I.int)))) ms.length) (c:=c1) (tt:=bS) (te:=bd (af (aa 0) (af (ai ft (ag (.int 0)) (aa 0)) ae)) dS) (di:=[]) (Z:=Z)
  (λi acc G'=>∃so:List Int,acc=so.map I.int/\so.length=i/\(∀m∈so,0≤m)/\G'=G)
  (λi acc G1 hi zz=>by
   obtain⟨so,ea,ls,hp,o⟩:=zz
   have hi:i<ms.length:=hi
   subst o
   obtain⟨y,hy⟩:∃y,(if 0-ms[i]>ms[i] then 0-ms[i] else ms[i])=y:=⟨_,rfl⟩
   refine⟨.int ms[i],[.int ms[i]],_,_,.int y,[↑(.int ms[i])],G1,?_,rfl,rfl,?_,so++[y],by rw [ea,z27];rfl,by rw [zc,ls];rfl,λm hm=>?_,rfl⟩
   ·simp [cj,sq,pk,hi]
   ·subst hy;simp! [dS]
   ·rcases z1e.mp hm with z|z
    ·exact hp m z
    ·have:m=y:=by simpa using z
     subst this;subst hy;split<;>lia)
  (λ_ _ _=>by simp [cj,sq,pk]) ms.length 0 [] G (by simp [cj]) ⟨[],rfl,rfl,λ_ h=>(by cases h),rfl⟩
 exact⟨so,by rw [ed,eg] at e;exact e,ls,hp⟩
def ye8{so:List Int}{Z:De}{G:List M}{k:Nat}(hk:G[k]?=some (.lst (so.map I.int)))(hp:∀m∈so,0≤m):∃le:List Int,eD (cj ⇑(.ref k) so.length) c1 (ao (ai gG (aa 0) (ai g7 (ag (.int 10)) (ag (.int 18))))) (aa 0) [] 0 so.length [] Z G=some (le.map I.int,G)/\∀m∈le,0≤m:=by
 obtain⟨ds,G',e,so',ed,hp,eg⟩:=HX (w:=cj ⇑(.ref k) so.length) (c:=c1) (tt:=ao (ai gG (aa 0) (ai g7 (ag (.int 10)) (ag (.int 18))))) (te:=aa 0) (di:=[]) (Z:=Z)
  (λi acc G'=>∃le:List Int,acc=le.map I.int/\(∀m∈le,0≤m)/\G'=G)
  (λi acc G1 hi zz=>by
   obtain⟨le,ea,hp',o⟩:=zz
   have hi:i<so.length:=hi
   subst o
   refine⟨.int so[i],[.int so[i]],[↑(.int so[i])],G1,by simp [cj,sq,pk,hk,hi],rfl,?_⟩
   by_cases z:(1000000000000000000:Int)≤so[i]
   ·refine .inr ⟨.int so[i],[↑(.int so[i])],G1,by simp! [z],by simp! [],le++[so[i]],by rw [ea,z27];rfl,λm hm=>?_,rfl⟩
    rcases z1e.mp hm with y|y
    ·exact hp' m y
    ·have:m=so[i]:=by simpa using y
     subst this;exact hp _ (z31 hi)
   ·exact .inl ⟨by simp! [];lia,le,ea,hp',rfl⟩)
  (λ_ G1 zz=>by obtain⟨_,_,_,eg⟩:=zz;subst eg;simp [cj,sq,pk,hk]) so.length 0 [] G (by simp [cj]) ⟨[],rfl,λ_ h=>(by cases h),rfl⟩
 exact⟨so',by rw [ed,eg] at e;exact e,hp⟩
def ye6{so:List Int}{s1 s2 s3 v:Option Vl}{G:List M}{k:Nat}{a:Int}(hk:G[k]?=some (.lst (so.map I.int)))(h0:0≤a)(h1:a<2147483647):∃a' v',bB (cj ⇑(.ref k) so.length) (aF 4) AF 0 so.length [s1,s2,s3,↑(.int a),v] G=some (.nx [s1,s2,s3,↑(.int a'),v'] G)/\0≤a'/\a'<2147483647:=by
 obtain⟨Z',G',e,a',v',ed,p0,p1,eg⟩:=mB (w:=cj ⇑(.ref k) so.length) (g:=aF 4) (b:=AF)
  (λi Z G'=>∃(a:Int) (v:Option Vl),Z=[s1,s2,s3,↑(.int a),v]/\0≤a/\a<2147483647/\G'=G)
  (λi Z G1 hi zz=>by
   obtain⟨a,v,ea,p0,p1,o⟩:=zz
   have hi:i<so.length:=hi
   subst o
   subst ea
   refine⟨.int so[i],[s1,s2,s3,↑(.int a),↑(.int so[i])],G1,[s1,s2,s3,↑(.int ((a*48271+so[i] % 2147483629) % 2147483647)),↑(.int so[i])],G1,by simp [cj,sq,pk,hk,hi],rfl,?_,_,_,rfl,Int.emod_nonneg _ (by decide),Int.emod_lt_of_pos _ (by decide),rfl⟩
   simp! [AF])
  (λ_ G1 zz=>by obtain⟨_,_,_,_,_,eg⟩:=zz;subst eg;simp [cj,sq,pk,hk]) so.length 0 [s1,s2,s3,↑(.int a),v] G (by simp [cj]) ⟨a,v,rfl,h0,h1,rfl⟩
 exact⟨a',v',by rw [ed,eg] at e;exact e,p0,p1⟩
def hI{fe:Mo Ev}{e:Ev}{xs:List I}{n:Nat}{Z Z1:De}{G G1:List M}(h:fe Z G=some (e,Z1,G1))(hl:oP Z1 G1 e=true)(hs:sq Z1 G1 e=some xs)(hn:xs.length=n):cG (one fe) cJ Z G=some (cj e n,[e],Z1,G1):=by
 subst hn
 refine j4 (aq h rfl) ?_
 unfold cJ uv
 dsimp only
 rw [if_pos hl,hs]
 rfl
def yeb{ns:List Int}{b:Nat}{G:List M}(h:ns.length≤63)(hb:b≤1000):∃(a:Int) (so le:List Int),xG [.im (.fro (ns.map I.int)),.im (.int b)] G=some (.ow (.dic (dy a 0 (G.length+1))),G++[.lst (so.map I.int),.lst (le.map I.int)])/\0≤a/\a<2147483647/\∀m∈le,0≤m:=by
 obtain⟨ms,hc,lm⟩:=yda ns (some (b:Int)) (some 63)
 obtain⟨so,e1,l1,p1⟩:=yed (ms:=ms) (Z:=[↑(.fro (ns.map I.int)),↑(.int b),none,none,none]) (G:=G)
 have hk:(G++[M.lst (so.map I.int)])[G.length]?=some (.lst (so.map I.int)):=by simp
 obtain⟨a,v,e2,a0,a1⟩:=ye6 (s1:=↑(.fro (ns.map I.int))) (s2:=↑(.int b)) (s3:=↑(.ref G.length)) (v:=none) (a:=7919+(b:Int)) hk (by lia) (by lia)
 obtain⟨le,e3,p3⟩:=ye8 (Z:=[↑(.fro (ns.map I.int)),↑(.int b),↑(.ref G.length),↑(.int a),v]) hk p1
 refine⟨a,so,le.reverse,?_,a0,a1,λm hm=>p3 m (List.mem_reverse.mp hm)⟩
 refine aJ rfl ?_
 refine aj (bA (nB (Z0:=[↑(.fro (ns.map I.int)),↑(.int b),none,none,none]) (by rfl) (hI (e:=.v (.ow (.lst (ms.map I.int)))) (n:=ms.length) (Z1:=[↑(.fro (ns.map I.int)),↑(.int b),none,none,none]) (G1:=G) ?_ rfl rfl (by simp)) (by show ms.length≤100000;lia) e1) rfl) ?_
 ·simp! [az,av,ph,ck,eG,hc]
 refine aj (bA (x:=.im (.int (7919+(b:Int)))) (Z1:=[↑(.fro (ns.map I.int)),↑(.int b),↥(so.map I.int),none,none]) (G1:=G) (by simp! []) rfl) ?_
 refine aj (gq (hI (e:=⇑(.ref G.length)) (n:=so.length) (Z1:=[↑(.fro (ns.map I.int)),↑(.int b),↑(.ref G.length),↑(.int (7919+(b:Int))),none]) (G1:=G++[M.lst (so.map I.int)]) (xs:=so.map I.int) (by simp! []) rfl (by simp [sq,pk]) (by simp)) e2) ?_
 refine aV (Z1:=[↑(.fro (ns.map I.int)),↑(.int b),↑(.ref G.length),↑(.int a),v]) ?_
 have e4:fg (cG (one (bb (aa 2))) cJ) [] c1 (ao (ai gG (aa 0) (ai g7 (ag (.int 10)) (ag (.int 18))))) (aa 0) [↑(.fro (ns.map I.int)),↑(.int b),↑(.ref G.length),↑(.int a),v] (G++[M.lst (so.map I.int)])=some (.v (.ow (.lst (le.map I.int))),[↑(.fro (ns.map I.int)),↑(.int b),↑(.ref G.length),↑(.int a),v],G++[M.lst (so.map I.int)]):=by
  refine nB (by rfl) (hI (e:=⇑(.ref G.length)) (n:=so.length) (Z1:=[↑(.fro (ns.map I.int)),↑(.int b),↑(.ref G.length),↑(.int a),v]) (G1:=G++[M.lst (so.map I.int)]) (xs:=so.map I.int) (by simp! []) rfl (by simp [sq,pk]) (by simp)) (by show so.length≤100000;lia) e3
 have e5:bb (a6 iO (fg (cG (one (bb (aa 2))) cJ) [] c1 (ao (ai gG (aa 0) (ai g7 (ag (.int 10)) (ag (.int 18))))) (aa 0))) [↑(.fro (ns.map I.int)),↑(.int b),↑(.ref G.length),↑(.int a),v] (G++[M.lst (so.map I.int)])=some (⇑(.ref (G.length+1)),[↑(.fro (ns.map I.int)),↑(.int b),↑(.ref G.length),↑(.int a),v],G++[M.lst (so.map I.int),M.lst (le.reverse.map I.int)]):=by
  refine aq (hG e4 (r:=some (.v (.ow (.lst (le.reverse.map I.int))),[↑(.fro (ns.map I.int)),↑(.int b),↑(.ref G.length),↑(.int a),v],G++[M.lst (so.map I.int)])) (by simp [iO,eG,sq,pk])) ?_
  simp [oF]
 refine aq (a:=[⇑(.str "seed"),⇑(.int a),⇑(.str "number"),⇑(.int 0),⇑(.str "left"),⇑(.ref (G.length+1))]) (Z1:=[↑(.fro (ns.map I.int)),↑(.int b),↑(.ref G.length),↑(.int a),v]) (G1:=G++[M.lst (so.map I.int),M.lst (le.reverse.map I.int)]) ?_ ?_
 ·refine aq rfl (aq rfl (aq (a:=[⇑(.str "number"),⇑(.int 0),⇑(.str "left"),⇑(.ref (G.length+1))]) (aq rfl (aq rfl (aq (a:=[⇑(.str "left"),⇑(.ref (G.length+1))]) (aq rfl (aq e5 (aq rfl rfl))) rfl))) rfl))
 ·simp [iR,fZ,iS,dj,jN,xQ,HM,xR,dy]
end
section
abbrev ah(l:List Nat):Str:=⟨l.toArray⟩
def dX(l:List Nat):(ah l).cps.toList=l:=rfl
def hR(x:Str):ah x.cps.toList=x:=by cases x;simp [ah]
def bE(l:List Nat):(ah l).length=l.length:=by simp [ah,Str.length]
def j6(a b:List Nat):ah a++ah b=ah (a++b):=by
 refine Str.ext' ?_
 rw [Str.cps_append]
 simp [ah]
def HY{a b:List Nat}(h:ah a=ah b):a=b:=by have:=congrArg (λs:Str=>s.cps.toList) h;simpa [ah] using this
def hV{x:Str}{l:List Nat}(h:x.cps.toList=l):x=ah l:=by rw [<- h,hR]
abbrev bZ(c:Nat):List Nat->List (List Nat)
 | []=>[[]]
 | d::r=>if d=c then []::bZ c r else match bZ c r with
  | p::ps=>(d::p)::ps
  | []=>[[d]]
abbrev jn(c:Nat):List (List Nat)->List Nat
 | []=>[]
 | [p]=>p
 | p::q::r=>p++c::jn c (q::r)
def gu(c:Nat)(p:List Nat){r:List (List Nat)}(h:r≠[]):jn c (p::r)=p++c::jn c r:=by
 cases r with
 | nil=>exact absurd rfl h
 | cons q r=>rfl
theorem i0(c:Nat):∀{a b:List (List Nat)},a≠[]->b≠[]->jn c (a++b)=jn c a++c::jn c b
 | [],_,h,_=>absurd rfl h
 | [p],b,_,hb=>gu c p hb
 | p::q::r,b,_,hb=>by
  have ih:=i0 c (a:=q::r) (b:=b) (by simp) hb
  show jn c (p::((q::r)++b))=_
  rw [gu c p (by simp),ih,gu c p (by simp)]
  simp
theorem xW(c:Nat):∀{p:List Nat},c∉p->bZ c p=[p]
 | [],_=>rfl
 | d::p,h=>by
  have h1:d≠c:=λe=>h (by rw [e];exact List.mem_cons_self)
  have h2:c∉p:=λe=>h (z21 _ e)
  rw [bZ,if_neg h1,xW c h2]
theorem xX(c:Nat):∀{p:List Nat} (r:List Nat),c∉p->bZ c (p++c::r)=p::bZ c r
 | [],r,_=>by rw [List.nil_append,bZ,if_pos rfl]
 | d::p,r,h=>by
  have h1:d≠c:=λe=>h (by rw [e];exact List.mem_cons_self)
  have h2:c∉p:=λe=>h (z21 _ e)
  rw [z36,bZ,if_neg h1,xX c r h2]
theorem xY(c:Nat):∀{ps:List (List Nat)},ps≠[]->(∀p∈ps,c∉p)->bZ c (jn c ps)=ps
 | [],h,_=>absurd rfl h
 | [p],_,h=>xW c (h p List.mem_cons_self)
 | p::q::r,_,h=>by
  rw [gu c p (by simp),xX c _ (h p List.mem_cons_self),xY c (by simp) λy hy=>h y (z21 _ hy)]
theorem xZ(c:Nat):∀ps:List Str,(Str.join ⟨#[c]⟩ ps).cps.toList=jn c (ps.map λp=>p.cps.toList)
 | []=>rfl
 | [p]=>rfl
 | p::q::r=>by
  show (p++⟨#[c]⟩++Str.join ⟨#[c]⟩ (q::r)).cps.toList=_
  rw [Str.cps_append,Str.cps_append,Array.toList_append,Array.toList_append,xZ c (q::r)]
  show (p.cps.toList++[c])++jn c ((q::r).map λp=>p.cps.toList)=_
  rw [z19 (a:=p),gu c _ (by simp)]
  simp
def HZ(x:Str)(c:Nat):Txt.split x ⟨#[c]⟩≠[]:=by
 unfold Txt.split
 split
 ·simp
 ·split
  ·simp
  ·rw [StrLaws.partsBetween_eq]
   obtain⟨p,r,e⟩:=StrLaws.partsFrom_ne x (⟨#[c]⟩:Str).length 0 (Builtin.Str.occurrences x ⟨#[c]⟩ 0 x.length (x.length+1))
   rw [e];simp
def qb(x:Str)(c:Nat):Txt.split x ⟨#[c]⟩=(bZ c x.cps.toList).map ah:=by
 have h1:=StrLaws.join_split x ⟨#[c]⟩
 have h2:=StrLaws.split_free x c
 have h3:=HZ x c
 have h4:(Str.join ⟨#[c]⟩ (Txt.split x ⟨#[c]⟩)).cps.toList=x.cps.toList:=congrArg (λs:Str=>s.cps.toList) h1
 rw [xZ] at h4
 rw [<- h4,xY c (by simpa using h3) (λp hp=>by obtain⟨q,hq,rfl⟩:=List.mem_map.mp hp;exact h2 q hq),z32]
 have:(ah ∘ λp:Str=>p.cps.toList)=id:=by funext p;exact hR p
 rw [this,List.map_id]
abbrev jz(z:List Nat):List (List Nat)->List Nat
 | []=>[]
 | [p]=>p
 | p::q::r=>p++z++jz z (q::r)
theorem mC(z:List Nat):∀ps:List (List Nat),(Str.join (ah z) (ps.map ah)).cps.toList=jz z ps
 | []=>rfl
 | [p]=>rfl
 | p::q::r=>by
  show (ah p++ah z++Str.join (ah z) ((q::r).map ah)).cps.toList=_
  rw [Str.cps_append,Str.cps_append,Array.toList_append,Array.toList_append,mC z (q::r)]
  rfl
def i3(c:Nat):∀l:List Nat,bZ c l≠[]
 | []=>by simp [bZ]
 | d::r=>by
  rw [bZ]
  split
  ·simp
  ·split<;>simp
def qd(z:List Nat)(p:List Nat){r:List (List Nat)}(h:r≠[]):jz z (p::r)=p++z++jz z r:=by
 cases r with
 | nil=>exact absurd rfl h
 | cons q r=>rfl
theorem qe(c:Nat)(z:List Nat):∀l:List Nat,jz z (bZ c l)=l.flatMap λd=>if d=c then z else [d]
 | []=>rfl
 | d::r=>by
  rw [bZ,List.flatMap_cons,<- qe c z r]
  split
  ·rw [qd z [] (i3 c r)];rfl
  ·cases e:bZ c r with
   | nil=>exact absurd e (i3 c r)
   | cons p ps =>
    cases ps with
    | nil=>rfl
    | cons q ps=>rfl
def mD(x:Str)(c:Nat)(z:List Nat):(Txt.replace x ⟨#[c]⟩ (ah z)).cps.toList=x.cps.toList.flatMap λd=>if d=c then z else [d]:=by
 rw [StrLaws.replace_one,qb,mC,qe]
abbrev dg(n:Nat):List Nat:=(Nat.toDigits 10 n).map Char.toNat
def j7{n:Nat}(h:n<10):dg n=[48+n]:=by
 unfold dg
 rw [Nat.toDigits_of_lt_base h]
 show [(Nat.digitChar n).toNat]=_
 rw [Nat.toNat_digitChar_of_lt_ten h]
def mE{n:Nat}(h:10≤n):dg n=dg (n / 10)++[48+n % 10]:=by
 have hm:n % 10<10:=Nat.mod_lt n (by decide)
 have t:Nat.toDigits 10 (n / 10)++Nat.toDigits 10 (n % 10)=Nat.toDigits 10 (10*(n / 10)+n % 10):=Nat.toDigits_append_toDigits (by decide) (by lia) hm
 rw [Nat.div_add_mod] at t
 unfold dg
 rw [<- t,z27]
 have:=j7 hm
 unfold dg at this
 rw [this]
def x4(n:Nat):(toString (n:Int):Str)=ah (dg n):=hV (W.KIN.signs_num n)
def j8(n:Nat):∀c∈dg n,48≤c/\c≤57:=by
 induction n using Nat.strongRecOn with
 | _ n ih =>
  by_cases h:n<10
  ·rw [j7 h];intro c hc;rw [z15.mp hc];lia
  ·rw [mE (by lia)]
   intro c hc
   rcases z1e.mp hc with hc|hc
   ·exact ih (n / 10) (by lia) c hc
   ·rw [z15.mp hc];lia
def qS(n:Nat):dg n≠[]:=by
 by_cases h:n<10
 ·rw [j7 h];simp
 ·rw [mE (by lia)];simp
def yf9(n:Nat):∀r,dg n=48::r->n=0:=by
 induction n using Nat.strongRecOn with
 | _ n ih =>
  intro r e
  by_cases h:n<10
  ·rw [j7 h] at e;injection e with e1 _;lia
  ·rw [mE (by lia)] at e
   cases e2:dg (n / 10) with
   | nil=>exact absurd e2 (qS _)
   | cons d t =>
    rw [e2] at e
    injection e with e3 _
    have:=ih (n / 10) (by lia) t (by rw [e2,e3])
    lia
abbrev vl(a:Nat)(l:List Nat):Nat:=l.foldl (λa c=>10*a+(c-48)) a
def x6(n:Nat):vl 0 (dg n)=n:=by
 induction n using Nat.strongRecOn with
 | _ n ih =>
  by_cases h:n<10
  ·rw [j7 h];show 10*0+(48+n-48)=n;lia
  ·rw [mE (by lia)]
   unfold vl at ih ⊢
   rw [List.foldl_append,ih (n / 10) (by lia)]
   show 10*(n / 10)+(48+n % 10-48)=n
   lia
def Ia(n k:Nat)(h:n<10 ^ (k+1)):(dg n).length≤k+1:=by
 induction k generalizing n with
 | zero=>rw [j7 (by lia)];simp
 | succ k ih =>
  by_cases h1:n<10
  ·rw [j7 h1];simp
  ·rw [mE (by lia),zc]
   have:n / 10<10 ^ (k+1):=by rw [Nat.div_lt_iff_lt_mul (by decide)];rw [Nat.pow_succ] at h;exact h
   have:=ih (n / 10) this
   simp
   lia
inductive Tm where
 | num (w:Nat)|cell (x:List Nat)|at_ (r:List Nat) (t:Tm)|op (s:Nat) (a b:Tm)
abbrev Tm.i:Tm->I
 | .num w=>.tup [.str "num",.int w]
 | .cell x=>.tup [.str "cell",.str (ah x)]
 | .at_ r t=>.tup [.str "at",.str (ah r),t.i]
 | .op s a b=>.tup [.str "op",.str (ah [s]),a.i,b.i]
abbrev Tm.deep:Tm->Nat
 | .num _=>1
 | .cell _=>1
 | .at_ _ t=>t.deep+1
 | .op _ a b=>max a.deep b.deep+1
abbrev Tm.size:Tm->Nat
 | .num _=>1
 | .cell _=>1
 | .at_ _ t=>1+t.size
 | .op _ a b=>1+a.size+b.size
abbrev i4(s:Nat):Prop:=s=43∨s=45∨s=42∨s=60∨s=61
abbrev bL:List Str:=["cell","row","def","main","set","put","while","if","else","call","end","at"]
structure Nm(x:List Nat):Prop where
 lo:1≤x.length
 hi:x.length≤6
 ab:∀c∈x,97≤c/\c≤122
 nk:ah x∉bL
abbrev Tm.ok:Tm->Prop
 | .num w=>w<4294967296
 | .cell x=>Nm x
 | .at_ r t=>Nm r/\t.ok
 | .op s a b=>i4 s/\a.ok/\b.ok
abbrev Tm.tx:Tm->List Nat
 | .num w=>dg w
 | .cell x=>x
 | .at_ r t=>[40,97,116,32]++r++[32]++t.tx++[41]
 | .op s a b=>[40]++([s]++[32]++a.tx++[32]++b.tx)++[41]
abbrev Tm.tk:Tm->List (List Nat)
 | .num w=>[dg w]
 | .cell x=>[x]
 | .at_ r t=>[[40],[97,116],r]++t.tk++[[41]]
 | .op s a b=>[[40],[s]]++a.tk++b.tk++[[41]]
def Tm.y4ab:∀t:Tm,t.tk≠[]
 | .num _=>by simp [tk]
 | .cell _=>by simp [tk]
 | .at_ _ _=>by simp [tk]
 | .op _ _ _=>by simp [tk]
abbrev gg(d:Nat):List Nat:=if d=40 then [40,32] else if d=41 then [32,41] else [d]
theorem j9:∀{l:List Nat},(∀c∈l,c≠40/\c≠41)->l.flatMap gg=l
 | [],_=>rfl
 | d::l,h=>by
  have h1:=h d List.mem_cons_self
  rw [List.flatMap_cons,j9 λc hc=>h c (z21 _ hc)]
  unfold gg
  rw [if_neg h1.1,if_neg h1.2]
  rfl
def x8(n:Nat):∀c∈dg n,c≠40/\c≠41/\c≠32:=λc hc=>by have:=j8 n c hc;lia
def Nm.plain{x:List Nat}(h:Nm x):∀c∈x,c≠40/\c≠41/\c≠32:=λc hc=>by have:=h.ab c hc;lia
def i4.plain{s:Nat}(h:i4 s):s≠40/\s≠41/\s≠32:=by unfold i4 at h;lia
theorem Tm.sx:∀{t:Tm},t.ok->t.tx.flatMap gg=jn 32 t.tk
 | .num w,_=>j9 λc hc=>⟨(x8 w c hc).1,(x8 w c hc).2.1⟩
 | .cell x,h=>j9 λc hc=>⟨(Nm.plain h c hc).1,(Nm.plain h c hc).2.1⟩
 | .at_ r t,h=>by
  rw [tx,tk,List.flatMap_append,List.flatMap_append,List.flatMap_append,List.flatMap_append,t.sx h.2,j9 (l:=r) λc hc=>⟨(h.1.plain c hc).1,(h.1.plain c hc).2.1⟩]
  rw [i0 32 (by simp) (by simp),i0 32 (by simp) t.y4ab]
  simp [gg,jn]
 | .op s a b,h=>by
  have hs:=h.1.plain
  rw [tx,tk,List.flatMap_append,List.flatMap_append,List.flatMap_append,List.flatMap_append,List.flatMap_append,List.flatMap_append,a.sx h.2.1,b.sx h.2.2,j9 (l:=[s]) λc hc=>by rw [z15.mp hc];exact⟨hs.1,hs.2.1⟩]
  rw [i0 32 (by simp) (by simp),i0 32 (by simp) b.y4ab,i0 32 (by simp) a.y4ab]
  simp [gg,jn]
def qf(l:List Nat):(l.flatMap λd=>if d=40 then [40,32] else [d]).flatMap (λd=>if d=41 then [32,41] else [d])=l.flatMap gg:=by
 rw [List.flatMap_assoc]
 congr 1
 funext d
 unfold gg
 by_cases h:d=40
 ·subst h;rfl
 ·rw [if_neg h,if_neg h];simp
def x9:("(" : Str)=⟨#[40]⟩:=by decide +kernel
def yg:("( " : Str)=ah [40,32]:=by decide +kernel
def yh:(")" : Str)=⟨#[41]⟩:=by decide +kernel
def yi:(" )" : Str)=ah [32,41]:=by decide +kernel
def yj:(" " : Str)=⟨#[32]⟩:=by decide +kernel
theorem Tm.y4c5:∀{t:Tm},t.ok->t.tx.length≤20*t.size
 | .num w,h=>by
  have:=Ia w 9 (z35 h (by decide))
  show (dg w).length≤20*1
  lia
 | .cell x,h=>by have:=Nm.hi h;show x.length≤20*1;lia
 | .at_ r t,h=>by
  have h1:=t.y4c5 h.2
  have h2:=h.1.hi
  simp only [tx,size,zc,z18,List.length_nil]
  lia
 | .op s a b,h=>by
  have h1:=a.y4c5 h.2.1
  have h2:=b.y4c5 h.2.2
  simp only [tx,size,zc,z18,List.length_nil]
  lia
theorem Tm.size_le:∀t:Tm,t.size+1≤2 ^ t.deep
 | .num _=>by simp [size,deep]
 | .cell _=>by simp [size,deep]
 | .at_ _ t=>by have:=t.size_le;simp only [size,deep,Nat.pow_succ];lia
 | .op _ a b=>by
  have h1:=a.size_le
  have h2:=b.size_le
  have h3:2 ^ a.deep≤2 ^ max a.deep b.deep:=Nat.pow_le_pow_right (by decide) (Nat.le_max_left _ _)
  have h4:2 ^ b.deep≤2 ^ max a.deep b.deep:=Nat.pow_le_pow_right (by decide) (Nat.le_max_right _ _)
  simp only [size,deep,Nat.pow_succ]
  lia
def Tm.y42c{t:Tm}(h:t.deep≤6):t.size≤63:=by
 have h1:=t.size_le
 have h2:2 ^ t.deep≤2 ^ 6:=Nat.pow_le_pow_right (by decide) h
 lia
end
section
variable {d l:Nat}
def cN{α:Type}(x:α)(r:List α):cB (x::r) 0=some x:=jb (j:=0) rfl
def iu{α:Type}(x y:α)(r:List α):cB (x::y::r) 1=some y:=jb (j:=1) rfl
def qT{α:Type}(x y z:α)(r:List α):cB (x::y::z::r) 2=some z:=jb (j:=2) rfl
def Ib{α:Type}(x y z u:α)(r:List α):cB (x::y::z::u::r) 3=some u:=jb (j:=3) rfl
def Ic{G:List M}{d l:Nat}(D:DG G d l):∃w G',pS [.im (.ref d)] G=some (.im (.int w),G')/\0≤w/\w<4294967296/\DG G' d l/\Oth d l G G':=by
 obtain⟨r1,G1,e1,p0,p1,D1,o1⟩:=dr (many:=6) D (by decide) (by decide)
 by_cases h:r1<4
 ·obtain⟨k,hk,k0,k1⟩:∃k,cB [I.int 2,I.int 5,I.int 5,I.int 10] r1=some (.int k)/\0<k/\k≤10:=by
   rcases (show r1=0∨r1=1∨r1=2∨r1=3 by lia) with z|z|z|z<;>subst z
   ·exact⟨2,cN _ _,by decide,by decide⟩
   ·exact⟨5,iu _ _ _,by decide,by decide⟩
   ·exact⟨5,qT _ _ _ _,by decide,by decide⟩
   ·exact⟨10,Ib _ _ _ _ _,by decide,by decide⟩
  obtain⟨r2,G2,e2,q0,q1,D2,o2⟩:=dr (many:=k) D1 k0 (Int.lt_of_le_of_lt k1 (by decide))
  refine⟨r2,G2,?_,q0,by lia,D2,o1.trans o2⟩
  simp! [pS,e1,h,hk,e2]
 ·obtain⟨r2,G2,e2,q0,q1,D2,o2⟩:=dr (many:=4294967296) D1 (by decide) (by decide)
  obtain⟨r3,G3,e3,s0,s1,D3,o3⟩:=dr (many:=3) D2 (by decide) (by decide)
  have o:=(o1.trans o2).trans o3
  rcases (show r1=4∨r1=5 by lia) with z|z<;>subst z
  ·exact⟨r2,G3,by simp! [pS,e1,e2,e3,cN],q0,q1,D3,o⟩
  ·exact⟨4294967295-r3,G3,by simp! [pS,e1,e2,e3,iu],by lia,by lia,D3,o⟩
def mF{xs:List Str}{r:Int}(h0:0≤r)(h1:r<xs.length):∃x,cB (xs.map I.str) r=some (.str x)/\x∈xs:=by
 obtain⟨j,rfl⟩:=Int.eq_ofNat_of_zero_le h0
 have hj:j<xs.length:=by lia
 exact⟨xs[j],jb (by simp [hj]),z31 hj⟩
def mG{α:Type}{xs:List α}{r:Int}(h0:0≤r)(h1:r<xs.length):∃x,cB xs r=some x/\x∈xs:=by
 obtain⟨j,rfl⟩:=Int.eq_ofNat_of_zero_le h0
 have hj:j<xs.length:=by lia
 exact⟨xs[j],jb (by simp [hj]),z31 hj⟩
abbrev fH(s:Str):Prop:=∀c∈s.cps.toList,97≤c/\c≤122
def fH.app{a b:Str}(x:fH a)(y:fH b):fH (a++b):=λc hc=>by
 rw [Str.cps_append,Array.toList_append,z1e] at hc
 exact hc.elim (x c) (y c)
def y5a:∀c∈("abcdefghijklmnopqrstuvwxyz" : Str).cps.toList,97≤c/\c≤122:=by decide +kernel
def yk(x:Str){a:Nat}(h:a≤x.length):Txt.slice x none (some (a:Int))=ah (x.cps.toList.take a):=by
 have:=StrLaws.sliceText_to (x:=x) (j:=a) ⟨by lia,by simp [Str.length] at h ⊢;lia⟩
 rw [show Txt.slice x none (some (a:Int))=StrLaws.sliceText x none (some (a:Int)) from rfl,this]
 simp [ah]
def qg(x:Str){a:Nat}(h:a≤x.length):Txt.slice x (some (a:Int)) none=ah (x.cps.toList.drop a):=by
 have:=StrLaws.sliceText_from (x:=x) (i:=a) ⟨by lia,by simp [Str.length] at h ⊢;lia⟩
 rw [show Txt.slice x (some (a:Int)) none=StrLaws.sliceText x (some (a:Int)) none from rfl,this]
 simp [ah]
 exact z30 (by simp)
def qh{m:Nat}{zs:List Str}(h:∀z∈zs,z.length≤m):(Txt.join "" zs).length≤zs.length*m:=by
 unfold Txt.join
 rw [StrLaws.glued_eq_join]
 have h1:=StrLaws.join_length_le "" zs
 have h2:(zs.map (·.length)).sum≤zs.length*m:=by
  clear h1
  induction zs with
  | nil=>simp
  | cons z zs ih =>
   rw [z19,List.sum_cons,z18,Nat.add_mul]
   have:=h z List.mem_cons_self
   have:=ih λy hy=>h y (z21 _ hy)
   lia
 have h3:("" : Str).length=0:=by decide +kernel
 rw [h3,Nat.mul_zero] at h1
 lia
def ym{m:Nat}{zs:List Str}(h:∀z∈zs,z.length≤m):(zs.map (·.length)).sum≤zs.length*m:=by
 induction zs with
 | nil=>simp
 | cons z zs ih =>
  rw [z19,List.sum_cons,z18,Nat.add_mul]
  have:=h z List.mem_cons_self
  have:=ih λy hy=>h y (z21 _ hy)
  lia
def yn{r:Int}{Z:De}{G:List M}(h0:0≤r)(h1:r<26):∃s:Str,aI [⇑(.str "abcdefghijklmnopqrstuvwxyz"),⇑(.int r)] Z G=some (⇑(.str s),Z,G)/\s.length=1/\fH s:=by
 obtain⟨c,hc,hm⟩:=mG (xs:=("abcdefghijklmnopqrstuvwxyz" : Str).cps.toList) h0 (by rw [show ("abcdefghijklmnopqrstuvwxyz" : Str).cps.toList.length=26 by decide +kernel];exact h1)
 refine⟨⟨#[c]⟩,?_,rfl,λe he=>by rw [show e=c by simpa using he];exact y5a c hm⟩
 have hl:("abcdefghijklmnopqrstuvwxyz" : Str).length≤1000000:=by rw [show ("abcdefghijklmnopqrstuvwxyz" : Str).length=26 by decide +kernel];lia
 generalize ("abcdefghijklmnopqrstuvwxyz" : Str)=z at hc hl ⊢
 simp [aI,bR,eF,sq,pk,hc,hl]
def yd1{G:List M}{N:Nat}{Z:De}(D:DG G d l):∃(zs:List Str) (G':List M),eD (my N) c1 bS (ai aI (aa 1) (bd (af (aa 2) (af (ag (.int 26)) ae)) (aA 2 bt))) [↑(.str "abcdefghijklmnopqrstuvwxyz"),↑(.ref d)] 0 N [] Z G=some (zs.map I.str,G')/\zs.length=N/\(∀z∈zs,z.length=1/\fH z)/\DG G' d l/\Oth d l G G':=by
 obtain⟨ds,G',e,zs,ed,lz,hz,D',o⟩:=qa (w:=my N) (c:=c1) (tt:=bS) (te:=ai aI (aa 1) (bd (af (aa 2) (af (ag (.int 26)) ae)) (aA 2 bt))) (di:=[↑(.str "abcdefghijklmnopqrstuvwxyz"),↑(.ref d)]) (Z:=Z)
  (λi acc G'=>∃zs:List Str,acc=zs.map I.str/\zs.length=i/\(∀z∈zs,z.length=1/\fH z)/\DG G' d l/\Oth d l G G')
  (λi acc g hi zz=>by
   obtain⟨zs,ea,lz,hz,D,o⟩:=zz
   obtain⟨r,g1,e1,p0,p1,D1,o1⟩:=dr (many:=26) D (by decide) (by decide)
   obtain⟨s,es,ls⟩:=yn (Z:=[↑(.int i),↑(.str "abcdefghijklmnopqrstuvwxyz"),↑(.ref d)]) (G:=g1) p0 p1
   refine⟨.int i,[.int i],_,_,.str s,[↑(.int i),↑(.str "abcdefghijklmnopqrstuvwxyz"),↑(.ref d)],g1,rfl,rfl,rfl,?_,zs++[s],by rw [ea,z27];rfl,by rw [zc,lz];rfl,λz hm=>?_,D1,o.trans o1⟩
   ·exact aw rfl (aq (a:=[⇑(.ref d),⇑(.int 26)]) rfl (bX (xs:=[.im (.ref d),.im (.int 26)]) rfl rfl e1)) es
   ·rcases z1e.mp hm with q|q
    ·exact hz z q
    ·have:z=s:=by simpa using q
     subst this;exact ls)
  (λ_ _ _=>rfl) N 0 [] G (by rw [mz];lia) ⟨[],rfl,rfl,λ_ h=>(by cases h),D,Oth.refl _ _ _⟩
 exact⟨zs,G',by rw [ed] at e;exact e,lz,hz,D',o⟩
def qi:("" : Str).length=0:=by decide +kernel
def yo:("z" : Str).length=1:=by decide +kernel
def Ie:fH ("z" : Str):=by unfold fH;decide +kernel
def yp:fH ("" : Str):=by unfold fH;decide +kernel
def Ig{zs:List Str}(h:∀z∈zs,z.length=1/\fH z):fH (Txt.join "" zs):=by
 unfold Txt.join
 rw [StrLaws.glued_eq_join]
 induction zs with
 | nil=>exact λc hc=>by cases hc
 | cons z zs ih =>
  have h1:=(h z List.mem_cons_self).2
  have h2:=ih λy hy=>h y (z21 _ hy)
  cases zs with
  | nil=>exact h1
  | cons y r=>exact (h1.app yp).app h2
structure Nm0(y:Str):Prop where
 lo:1≤y.length
 hi:y.length≤6
 lt:fH y
def Ih{G:List M}{core:Str}{a:Nat}{t:Int}{ys:List Str}{v1 v8 v9 v10 v11:Option Vl}{v0:Option Vl}{i:Nat}(hc:core.length≤4)(hlt:fH core)(ha:a≤core.length)(h0:0≤t)(hl:ys.length≤1000) :
  ∃(y:Str) (v8':Option Vl),AG [v0,v1,↑(.str "abcdefghijklmnopqrstuvwxyz"),↑(.str core),↑(.int a),↑(.int t),↥(ys.map I.str),↑(.int i),v8,v9,v10,v11] G=some (.nx [v0,v1,↑(.str "abcdefghijklmnopqrstuvwxyz"),↑(.str core),↑(.int a),↑(.int t),↥((ys++[y]).map I.str),↑(.int i),v8',v9,v10,v11] G)/\Nm0 y:=by
 have r0:0≤(t+7*(i:Int)) % 26:=Int.emod_nonneg _ (by decide)
 have r1:(t+7*(i:Int)) % 26<26:=Int.emod_lt_of_pos _ (by decide)
 obtain⟨s,es,ls,lts⟩:=yn (Z:=[v0,v1,↑(.str "abcdefghijklmnopqrstuvwxyz"),↑(.str core),↑(.int a),↑(.int t),↥(ys.map I.str),↑(.int i),v8,v9,v10,v11]) (G:=G) r0 r1
 obtain⟨e,ee,le,lte⟩:∃e:Str,cB [I.str "",I.str "z"] ((i:Int) % 5 / 4)=some (.str e)/\e.length≤1/\fH e:=by
  rcases (show (i:Int) % 5 / 4=0∨(i:Int) % 5 / 4=1 by lia) with z|z<;>rw [z]
  ·exact⟨_,cN _ _,by rw [qi];lia,yp⟩
  ·exact⟨_,iu _ _ _,by rw [yo];lia,Ie⟩
 have ap:∀x y:Str,(x++y).length=x.length+y.length:=λx y=>strLen_append x y
 have hcl:core.cps.toList.length=core.length:=by simp [Str.length]
 have s1:=yk core ha
 have s2:=qg core ha
 have l1:(Txt.slice core none (some (a:Int))).length=a:=by rw [s1,bE,z2b,hcl];lia
 have l2:(Txt.slice core (some (a:Int)) none).length=core.length-a:=by rw [s2,bE,z2d,hcl]
 have t1:fH (Txt.slice core none (some (a:Int))):=λc hc=>by rw [s1,dX] at hc;exact hlt c (List.mem_of_mem_take hc)
 have t2:fH (Txt.slice core (some (a:Int)) none):=λc hc=>by rw [s2,dX] at hc;exact hlt c (List.mem_of_mem_drop hc)
 have hc':core.length≤1000000:=by lia
 have c1:s.length+(Txt.slice core (some (a:Int)) none).length≤1000000:=by lia
 have c2:(Txt.slice core none (some (a:Int))).length+(s++Txt.slice core (some (a:Int)) none).length≤1000000:=by rw [ap];lia
 have c3:(Txt.slice core none (some (a:Int))++(s++Txt.slice core (some (a:Int)) none)).length+e.length≤1000000:=by rw [ap,ap];lia
 have hn:ys.length<1000000:=by lia
 refine⟨Txt.slice core none (some (a:Int))++(s++Txt.slice core (some (a:Int)) none)++e,↑(.str (s++Txt.slice core (some (a:Int)) none)),?_,by rw [ap,ap,ap];lia,by rw [ap,ap,ap];lia,(t1.app (lts.app t2)).app lte⟩
 refine aj (bA (x:=.im (.str (s++Txt.slice core (some (a:Int)) none))) (Z1:=[v0,v1,↑(.str "abcdefghijklmnopqrstuvwxyz"),↑(.str core),↑(.int a),↑(.int t),↥(ys.map I.str),↑(.int i),v8,v9,v10,v11]) (G1:=G) (aw (x:=⇑(.str s)) (Z1:=[v0,v1,↑(.str "abcdefghijklmnopqrstuvwxyz"),↑(.str core),↑(.int a),↑(.int t),↥(ys.map I.str),↑(.int i),v8,v9,v10,v11]) (G1:=G) (aw rfl (r:=some (⇑(.str s),_,G)) (y:=⇑(.int ((t+7*(i:Int)) % 26))) (by simp! []) es) (y:=⇑(.str (Txt.slice core (some (a:Int)) none))) (Z2:=[v0,v1,↑(.str "abcdefghijklmnopqrstuvwxyz"),↑(.str core),↑(.int a),↑(.int t),↥(ys.map I.str),↑(.int i),v8,v9,v10,v11]) (G2:=G) (by simp! [az,av,aB,ph,ck,hc']) (by simp [aC,bR,km,bC,jd,c1])) rfl) ?_
 simp! [az,av,aB,ph,ck,jd,hc',c1,c2,c3,ee,hn]
end
section
variable {d l:Nat}
abbrev kB(y:Str):Prop:=Nm y.cps.toList
abbrev AQ(z:Str):Bool:=decide (1≤z.length)&&decide (z.length≤6)&&z.cps.toList.all (λc=>decide (97≤c)&&decide (c≤122)) && !(bL.contains z)
def yq{z:Str}(h:AQ z=true):kB z:=by
 unfold AQ at h
 rw [z1b,z1b,z1b,z33,decide_eq_true_eq,decide_eq_true_eq] at h
 obtain⟨⟨⟨h1,h2⟩,h3⟩,h4⟩:=h
 refine⟨by simpa [Str.length] using h1,by simpa [Str.length] using h2,λc hc=>by simpa using h3 c hc,λhm=>?_⟩
 rw [hR] at hm
 rw [List.contains_iff_mem.mpr hm] at h4
 cases h4
def Ii:∀y∈bL,AQ (y++Txt.mul "q" 1)=true:=by decide +kernel
def Ij:∀y∈([("cells" : Str),"de","mains","setx","ends","atx","i","calls"]:List Str),AQ y=true:=by decide +kernel
def Ik:Txt.mul "q" 0=Str.empty:=by decide +kernel
def Nm0.nm{y:Str}(h:Nm0 y)(hk:y∉bL):kB y:=⟨by simpa [Str.length] using h.lo,by simpa [Str.length] using h.hi,h.lt,by rw [hR];exact hk⟩
abbrev bM:List I:=[.str "cell",.str "row",.str "def",.str "main",.str "set",.str "put",.str "while",.str "if",.str "else",.str "call",.str "end",.str "at"]
abbrev cU:List I:=[.str "cells",.str "de",.str "mains",.str "setx",.str "ends",.str "atx",.str "i",.str "calls"]
def Il:bM.all bK=true:=rfl
def yr:("q" : Str).length≤1000:=by decide +kernel
def Im:(Txt.mul "q" 0).length≤1:=by decide +kernel
def Io:(Txt.mul "q" 1).length≤1:=by decide +kernel
def yt(y:Str):(bM.any λz=>bq z (.str y))=bL.contains y:=by
 have:bM=bL.map I.str:=rfl
 rw [this,List.any_map]
 induction bL with
 | nil=>rfl
 | cons k ks ih =>
  rw [List.any_cons,ih,List.contains_cons]
  show ((k == y)||_)=_
  rw [Bool.beq_comm]
def yu{y:Str}{G:List M}(hy:Nm0 y):∃z:Str,ai aC (aa 0) (ai cI (ag (.str "q")) (bd (af (ai eR (aa 0) (aa 1)) ae) dC)) [↑(.str y),↑(.tup bM)] G=some (⇑(.str z),[↑(.str y),↑(.tup bM)],G)/\kB z:=by
 have hlen:=hy.hi
 obtain⟨b,hb,eb⟩:∃b,b=bL.contains y/\ai eR (aa 0) (aa 1) [↑(.str y),↑(.tup bM)] G=some (⇑(.bl b),[↑(.str y),↑(.tup bM)],G):=by
  refine⟨_,(yt y),aw rfl rfl ?_⟩
  have h:(bK (.str y)&&bM.all bK)=true:=by rw [Il];rfl
  simp [eR,bR,ip,sq,h]
 have e1:bd (af (ai eR (aa 0) (aa 1)) ae) dC [↑(.str y),↑(.tup bM)] G=some (⇑(.int (if b then 1 else 0)),[↑(.str y),↑(.tup bM)],G):=aq (aq eb rfl) rfl
 obtain⟨j,hj,hl,hnm⟩:∃j:Int,(if b then (1:Int) else 0)=j/\((0≤j/\j≤1000)/\(Txt.mul "q" j).length≤1)/\kB (y++Txt.mul "q" j):=by
  cases b
  ·refine⟨0,rfl,⟨⟨by decide,by decide⟩,Im⟩,?_⟩
   rw [Ik,Str.append_empty]
   exact hy.nm λhm=>by rw [List.contains_iff_mem.mpr hm] at hb;cases hb
  ·exact⟨1,rfl,⟨⟨by decide,by decide⟩,Io⟩,yq (Ii y (List.contains_iff_mem.mp hb.symm))⟩
 rw [hj] at e1
 have e2:ai cI (ag (.str "q")) (bd (af (ai eR (aa 0) (aa 1)) ae) dC) [↑(.str y),↑(.tup bM)] G=some (⇑(.str (Txt.mul "q" j)),[↑(.str y),↑(.tup bM)],G):=by
  refine aw rfl e1 ?_
  have q:=yr
  generalize ("q" : Str)=qs at q ⊢
  simp [cI,bR,oU,bC,lR,lS,pk,hl.1.1,hl.1.2,q]
 refine⟨y++Txt.mul "q" j,aw rfl e2 ?_,hnm⟩
 have hs:y.length+(Txt.mul "q" j).length≤1000000:=by lia
 generalize Txt.mul "q" j=zz at hs
 simp [aC,bR,km,bC,jd,hs]
def Ip{G:List M}{core:Str}{a:Nat}{t:Int}{v0 v1 v7 v8 v9 v10 v11:Option Vl}{N:Nat}(hc:core.length≤4)(hlt:fH core)(ha:a≤core.length)(h0:0≤t)(hN:N≤1000) :
  ∃(ys:List Str) (v7' v8':Option Vl),bB (my N) (aF 7) AG 0 N [v0,v1,↑(.str "abcdefghijklmnopqrstuvwxyz"),↑(.str core),↑(.int a),↑(.int t),↥[],v7,v8,v9,v10,v11] G=some (.nx [v0,v1,↑(.str "abcdefghijklmnopqrstuvwxyz"),↑(.str core),↑(.int a),↑(.int t),↥(ys.map I.str),v7',v8',v9,v10,v11] G)/\ys.length=N/\∀y∈ys,Nm0 y:=by
 obtain⟨Z',G',e,ys,v7',v8',ed,ly,hy,eg⟩:=mB (w:=my N) (g:=aF 7) (b:=AG) (λi Z G'=>∃(ys:List Str) (v7 v8:Option Vl),Z=[v0,v1,↑(.str "abcdefghijklmnopqrstuvwxyz"),↑(.str core),↑(.int a),↑(.int t),↥(ys.map I.str),v7,v8,v9,v10,v11]/\ys.length=i/\(∀y∈ys,Nm0 y)/\G'=G)
  (λi Z g hi p=>by
   obtain⟨ys,v7,v8,rfl,ly,hy,rfl⟩:=p
   have hi:i<N:=hi
   obtain⟨y,v8',e,h⟩:=Ih (G:=g) (core:=core) (a:=a) (t:=t) (ys:=ys) (v0:=v0) (v1:=v1) (v8:=v8) (v9:=v9) (v10:=v10) (v11:=v11) (i:=i) hc hlt ha h0 (by lia)
   refine⟨.int i,_,g,_,g,rfl,rfl,e,ys++[y],_,_,rfl,by rw [zc,ly];rfl,λz hz=>?_,rfl⟩
   rcases z1e.mp hz with q|q
   ·exact hy z q
   ·have:z=y:=by simpa using q
    subst this;exact h)
  (λZ g p=>rfl) N 0 [v0,v1,↑(.str "abcdefghijklmnopqrstuvwxyz"),↑(.str core),↑(.int a),↑(.int t),↥[],v7,v8,v9,v10,v11] G (by rw [mz];lia) ⟨[],_,_,rfl,rfl,λ_ h=>(by cases h),rfl⟩
 exact⟨ys,v7',v8',by rw [ed,eg] at e;exact e,ly,hy⟩
def Iq{G:List M}{ys:List Str}{Z:De}{k:Nat}(hk:G[k]?=some (.lst (ys.map I.str)))(hy:∀y∈ys,Nm0 y) :
  ∃zs:List Str,eD (cj ⇑(.ref k) ys.length) c1 bS (ai aC (aa 0) (ai cI (ag (.str "q")) (bd (af (ai eR (aa 0) (aa 1)) ae) dC))) [↑(.tup bM)] 0 ys.length [] Z G=some (zs.map I.str,G)/\zs.length=ys.length/\∀z∈zs,kB z:=by
 obtain⟨ds,G',e,zs,ed,lz,hz,eg⟩:=qa (w:=cj ⇑(.ref k) ys.length) (c:=c1) (tt:=bS) (te:=ai aC (aa 0) (ai cI (ag (.str "q")) (bd (af (ai eR (aa 0) (aa 1)) ae) dC))) (di:=[↑(.tup bM)]) (Z:=Z)
  (λi acc G'=>∃zs:List Str,acc=zs.map I.str/\zs.length=i/\(∀z∈zs,kB z)/\G'=G)
  (λi acc g hi zz=>by
   obtain⟨zs,ea,lz,hz,eg⟩:=zz
   have hi:i<ys.length:=hi
   subst eg
   obtain⟨z,ez,hzz⟩:=yu (G:=g) (y:=ys[i]) (hy ys[i] (z31 hi))
   refine⟨.str ys[i],[.str ys[i]],_,_,.str z,_,g,?_,rfl,rfl,ez,zs++[z],by rw [ea,z27];rfl,by rw [zc,lz];rfl,(λy hm=>by rcases z1e.mp hm with q|q;exact hz y q;rw [show y=z by simpa using q];exact hzz),rfl⟩
   simp [cj,sq,pk,hk,hi])
  (λ_ _ p=>by obtain⟨_,_,_,_,rfl⟩:=p;simp [cj,sq,pk,hk]) ys.length 0 [] G (by simp [cj]) ⟨[],rfl,rfl,λ_ h=>(by cases h),rfl⟩
 exact⟨zs,by rw [ed,eg] at e;exact e,lz,hz⟩
def qj{p:List Ev->Mo Ev}{fo:Mo Ev}{fa:Mo (List Ev)}{Z Z1 Z2:De}{G G1 G2:List M}{e:Ev}{es:List Ev}{r:Option (Ev×De×List M)}(h:fo Z G=some (e,Z1,G1))(hs:AA e=true)(ha:fa Z1 G1=some (es,Z2,G2))(k:p (e::es) Z2 G2=r):fO p fo fa Z G=r:=by
 unfold fO bd;rw [h];dsimp only;rw [if_pos hs,ha];exact k
def qk{n j:Nat}(h:j<n):ei n (j:Int)=some j:=by
 unfold ei
 rw [if_pos (by lia)]
 first|(rw [if_pos (by lia)];simp)|simp [h]
noncomputable abbrev er:Str:="abcdefghijklmnopqrstuvwxyz"
def Ir(zs:List Str):(zs.map I.str).all bK=true:=by
 induction zs with
 | nil=>rfl
 | cons z zs ih=>rw [z19,List.all_cons,ih];rfl
def Iu{G:List M}(D:DG G d l):∃(ys:List Str) (G':List M),xI [.im (.ref d),.im (.int 12)] G=some (.ow (.lst (ys.map I.str)),G')/\ys.length=12/\(∀y∈ys,kB y)/\DG G' d l/\Mor d l G G':=by
 obtain⟨r1,G1,e1,p0,p1,D1,o1⟩:=dr (many:=5) D (by decide) (by decide)
 obtain⟨N,hN⟩:=Int.eq_ofNat_of_zero_le p0
 obtain⟨zs,G2,e2,lz,hz,D2,o2⟩:=yd1 (N:=N) (Z:=[↑(.ref d),↑(.int 12),↑(.str er),none,none,none,none,none,none,none,none,none]) D1
 have jl:=qh (m:=1) λz hm=>Nat.le_of_eq (hz z hm).1
 have sl:=ym (m:=1) λz hm=>Nat.le_of_eq (hz z hm).1
 have jt:=Ig hz
 obtain⟨core,y1ae⟩:∃core,core=Txt.join "" zs:=⟨_,rfl⟩
 rw [<- y1ae] at jl jt
 have hc:core.length≤4:=by lia
 obtain⟨r3,G3,e3,u3,w3,D3,o3⟩:=dr (many:=(core.length:Int)+1) D2 (by lia) (by lia)
 obtain⟨a,rfl⟩:=Int.eq_ofNat_of_zero_le u3
 have ha:a≤core.length:=by lia
 obtain⟨r4,G4,e4,q0,q1,D4,o4⟩:=dr (many:=26) D3 (by decide) (by decide)
 obtain⟨ys,v7,v8,e5,ly,hy⟩:=Ip (G:=G4) (core:=core) (a:=a) (t:=r4) (v0:=↑(.ref d)) (v1:=↑(.int 12)) (v7:=none) (v8:=none) (v9:=none) (v10:=none) (v11:=none) (N:=12) hc jt ha q0 (by decide)
 have hk:(G4++[M.lst (ys.map I.str)])[G4.length]?=some (.lst (ys.map I.str)):=by simp
 have D5:=D4.app [M.lst (ys.map I.str)]
 obtain⟨ws,e6,lw,hw⟩:=Iq (Z:=[↑(.ref d),↑(.int 12),↑(.str er),↑(.str core),↑(.int (a:Int)),↑(.int r4),↑(.ref G4.length),v7,v8,↥cU,↑(.tup bM),none]) hk hy
 obtain⟨r7,G7,e7,u0,u1,D7,o7⟩:=dr (many:=8) D5 (by decide) (by decide)
 obtain⟨nm,en,hnm⟩:∃nm:Str,cB cU r7=some (.str nm)/\kB nm:=by
  have:cU=[("cells" : Str),"de","mains","setx","ends","atx","i","calls"].map I.str:=rfl
  rw [this]
  obtain⟨x,hx,hm⟩:=mF (xs:=[("cells" : Str),"de","mains","setx","ends","atx","i","calls"]) u0 u1
  exact⟨x,hx,yq (Ij x hm)⟩
 obtain⟨r8,G8,e8,_,_,D8,o8⟩:=dr (many:=3) D7 (by decide) (by decide)
 have mo:Mor d l G G8:=((((((o1.trans o2).trans o3).trans o4).mor).trans (Mor.app _)).trans (o7.trans o8).mor)
 have head:∀{z:Vl} {G':List M},ak (aE (eO (ao (ai a8 (bd (af (aa 0) (af (ag (.int 3)) ae)) (aA 2 bt)) (ag (.int 1)))) (ao (ai jP (aa 11) (aa 6))))
   (dU (aa 6) (bd (af (aa 0) (af (aa 1) ae)) (aA 2 bt)) (aa 11)) aO) (ax (aa 6))
   [↑(.ref d),↑(.int 12),↑(.str er),↑(.str core),↑(.int (a:Int)),↑(.int r4),↥(ws.map I.str),v7,v8,↥cU,↑(.tup bM),↑(.str nm)] G7=some (.rt z G')->xI [.im (.ref d),.im (.int 12)] G=some (z,G'):=by
  intro z G' hq
  refine aJ rfl ?_
  refine aj (bA (x:=.im (.str er)) (Z1:=[↑(.ref d),↑(.int 12),none,none,none,none,none,none,none,none,none,none]) (G1:=G) rfl rfl) ?_
  refine aj (bA (x:=.im (.str core)) (Z1:=[↑(.ref d),↑(.int 12),↑(.str er),none,none,none,none,none,none,none,none,none]) (G1:=G2) ?_ rfl) ?_
  ·refine qj (e:=⇑(.str "")) (Z1:=[↑(.ref d),↑(.int 12),↑(.str er),none,none,none,none,none,none,none,none,none]) (G1:=G) rfl rfl (aq (nB (by rfl) (pY (n:=N) (j:=r1) (Z1:=[↑(.ref d),↑(.int 12),↑(.str er),none,none,none,none,none,none,none,none,none]) (G1:=G1) (by simp! [e1]) hN (by lia)) (by rw [mz];lia) e2) rfl) ?_
   have h1:(zs.map (·.length)).sum+zs.length*("" : Str).length≤1000000:=by rw [qi];lia
   rw [y1ae]
   simp [dk,pk,l6,h1]
  refine aj (bA (x:=.im (.int (a:Int))) (Z1:=[↑(.ref d),↑(.int 12),↑(.str er),↑(.str core),none,none,none,none,none,none,none,none]) (G1:=G3) ?_ rfl) ?_
  ·have h1:core.length≤1000000:=by lia
   simp! [h1,e3]
  refine aj (bA (x:=.im (.int r4)) (Z1:=[↑(.ref d),↑(.int 12),↑(.str er),↑(.str core),↑(.int (a:Int)),none,none,none,none,none,none,none]) (G1:=G4) (by simp! [e4]) rfl) ?_
  refine aj (bA (x:=.ow (.lst [])) (Z1:=[↑(.ref d),↑(.int 12),↑(.str er),↑(.str core),↑(.int (a:Int)),↑(.int r4),none,none,none,none,none,none]) (G1:=G4) (by simp! []) rfl) ?_
  refine aj (gq (pY (n:=12) (j:=12) (Z1:=[↑(.ref d),↑(.int 12),↑(.str er),↑(.str core),↑(.int (a:Int)),↑(.int r4),↥[],none,none,none,none,none]) (G1:=G4) rfl rfl (by decide)) e5) ?_
  refine aj (bA (x:=.ow (.lst cU)) (Z1:=[↑(.ref d),↑(.int 12),↑(.str er),↑(.str core),↑(.int (a:Int)),↑(.int r4),↥(ys.map I.str),v7,v8,none,none,none]) (G1:=G4) rfl rfl) ?_
  refine aj (bA (x:=.im (.tup bM)) (Z1:=[↑(.ref d),↑(.int 12),↑(.str er),↑(.str core),↑(.int (a:Int)),↑(.int r4),↥(ys.map I.str),v7,v8,↥cU,none,none]) (G1:=G4) rfl rfl) ?_
  refine aj (bA (x:=.ow (.lst (ws.map I.str))) (Z1:=[↑(.ref d),↑(.int 12),↑(.str er),↑(.str core),↑(.int (a:Int)),↑(.int r4),↑(.ref G4.length),v7,v8,↥cU,↑(.tup bM),none]) (G1:=G4++[M.lst (ys.map I.str)]) ?_ rfl) ?_
  ·exact nB (by rfl) (hI (e:=⇑(.ref G4.length)) (n:=ys.length) (Z1:=[↑(.ref d),↑(.int 12),↑(.str er),↑(.str core),↑(.int (a:Int)),↑(.int r4),↑(.ref G4.length),v7,v8,↥cU,↑(.tup bM),none]) (G1:=G4++[M.lst (ys.map I.str)]) (xs:=ys.map I.str) (by simp! []) rfl (by simp [sq,pk]) (by simp)) (by show ys.length≤100000;lia) e6
  refine aj (bA (x:=.im (.str nm)) (Z1:=[↑(.ref d),↑(.int 12),↑(.str er),↑(.str core),↑(.int (a:Int)),↑(.int r4),↥(ws.map I.str),v7,v8,↥cU,↑(.tup bM),none]) (G1:=G7) ?_ rfl) hq
  simp! [e7,en]
 by_cases h8:r8=1
 ·subst h8
  obtain⟨b,hb⟩:∃b,b=!((ws.map I.str).any λy=>bq y (.str nm)):=⟨_,rfl⟩
  have et:eO (ao (ai a8 (bd (af (aa 0) (af (ag (.int 3)) ae)) (aA 2 bt)) (ag (.int 1)))) (ao (ai jP (aa 11) (aa 6))) [↑(.ref d),↑(.int 12),↑(.str er),↑(.str core),↑(.int (a:Int)),↑(.int r4),↥(ws.map I.str),v7,v8,↥cU,↑(.tup bM),↑(.str nm)] G7=some (b,[↑(.ref d),↑(.int 12),↑(.str er),↑(.str core),↑(.int (a:Int)),↑(.int r4),↥(ws.map I.str),v7,v8,↥cU,↑(.tup bM),↑(.str nm)],G8):=by
   refine kz (Z1:=[↑(.ref d),↑(.int 12),↑(.str er),↑(.str core),↑(.int (a:Int)),↑(.int r4),↥(ws.map I.str),v7,v8,↥cU,↑(.tup bM),↑(.str nm)]) (G1:=G8) (by simp! [e8]) (aX (aw rfl rfl ?_))
   have h:(bK (.str nm)&&(ws.map I.str).all bK)=true:=by rw [Ir];rfl
   rw [hb]
   unfold jP bR ip
   dsimp only
   rw [show sq [↑(.ref d),↑(.int 12),↑(.str er),↑(.str core),↑(.int (a:Int)),↑(.int r4),↥(ws.map I.str),v7,v8,↥cU,↑(.tup bM),↑(.str nm)] G8 (.s 6)=some (ws.map I.str) from rfl]
   dsimp only
   rw [if_pos h]
   rfl
  cases b with
  | false=>exact⟨ws,G8,head (aj (aK et rfl) rfl),by lia,hw,D8,mo⟩
  | true =>
   obtain⟨r9,G9,e9,w0,w1,D9,o9⟩:=dr (many:=12) D8 (by decide) (by decide)
   obtain⟨j,rfl⟩:=Int.eq_ofNat_of_zero_le w0
   have hj:ei ws.length (j:Int)=some j:=qk (by lia)
   refine⟨ws.set j nm,G9,head (aj (Z1:=[↑(.ref d),↑(.int 12),↑(.str er),↑(.str core),↑(.int (a:Int)),↑(.int r4),↥((ws.set j nm).map I.str),v7,v8,↥cU,↑(.tup bM),↑(.str nm)]) (G1:=G9) (aU et ?_) rfl),by rw [z29];lia,(λy hy=>by rcases List.mem_or_eq_of_mem_set hy with q|q;exact hw y q;rw [q];exact hnm),D9,mo.trans o9.mor⟩
   simp! [e9,hj,List.map_set]
 ·have h8b:(r8 == 1)=false:=beq_eq_false_iff_ne.mpr h8
  refine⟨ws,G8,head (aj (aK (Z1:=[↑(.ref d),↑(.int 12),↑(.str er),↑(.str core),↑(.int (a:Int)),↑(.int r4),↥(ws.map I.str),v7,v8,↥cU,↑(.tup bM),↑(.str nm)]) (G1:=G8) (pX (by simp! [e8,h8b])) rfl) rfl),by lia,hw,D8,mo⟩
end
section
variable {d l w rm:Nat}{ys:List Str}
structure Sn(G:List M)(d l w rm:Nat)(ys:List Str):Prop where
 D:DG G d l
 hw:G[w]?=some (.lst (ys.map I.str))
 r:∃r:Int,G[rm]?=some (.lst [.int r])
 nd:d≠w/\d≠rm
 nl:l≠w/\l≠rm
 nw:w≠rm
 c0:0<ys.length
 c1:ys.length≤1000
 nm:∀y∈ys,kB y
def Sn.oth{G G':List M}(s:Sn G d l w rm ys)(D:DG G' d l)(o:Oth d l G G'):Sn G' d l w rm ys :=
 ⟨D,(o.at_ _ s.nd.1.symm s.nl.1.symm).trans s.hw,by obtain⟨r,h⟩:=s.r;exact⟨r,(o.at_ _ s.nd.2.symm s.nl.2.symm).trans h⟩,s.nd,s.nl,s.nw,s.c0,s.c1,s.nm⟩
def Sn.draw{G:List M}{many:Int}(s:Sn G d l w rm ys)(h0:0<many)(h1:many<2 ^ 100):∃r G',bt [.im (.ref d),.im (.int many)] G=some (.im (.int r),G')/\0≤r/\r<many/\Sn G' d l w rm ys/\G'.length=G.length:=by
 obtain⟨r,G',e,p0,p1,D,o⟩:=dr s.D h0 h1
 exact⟨r,G',e,p0,p1,s.oth D o,o.len⟩
def Sn.put{G:List M}(s:Sn G d l w rm ys)(r:Int):Sn (G.set rm (.lst [.int r])) d l w rm ys:=by
 obtain⟨r0,h⟩:=s.r
 have o:Oth rm rm G (G.set rm (.lst [.int r])):=Oth.setD
 exact⟨o.dg s.D s.nd.2 s.nd.2 s.nl.2 s.nl.2,(o.at_ _ s.nw s.nw).trans s.hw,⟨r,j5 h⟩,s.nd,s.nl,s.nw,s.c0,s.c1,s.nm⟩
def Sn.name{G:List M}(s:Sn G d l w rm ys):∃(x:List Nat) (G':List M),qM [.im (.ref d),.im (.ref w)] G=some (.im (.str (ah x)),G')/\Nm x/\Sn G' d l w rm ys/\G'.length=G.length:=by
 obtain⟨r,G',e,p0,p1,s',le⟩:=s.draw (many:=ys.length) (by have:=s.c0;lia) (by have:=s.c1;lia)
 obtain⟨x,ex,hx⟩:=mF p0 p1
 refine⟨x.cps.toList,G',?_,s.nm x hx,s',le⟩
 rw [hR]
 have hl:(ys.map I.str).length=ys.length:=z11 _
 simp! [qM,s.hw,s'.hw,e,ex,hl]
def Iv:∀c∈("+-*<=" : Str).cps.toList,c=43∨c=45∨c=42∨c=60∨c=61:=by decide +kernel
def Iw{r:Int}{Z:De}{G:List M}(h0:0≤r)(h1:r<5):∃c:Nat,aI [⇑(.str "+-*<="),⇑(.int r)] Z G=some (⇑(.str (ah [c])),Z,G)/\i4 c:=by
 obtain⟨c,hc,hm⟩:=mG (xs:=("+-*<=" : Str).cps.toList) h0 (by rw [show ("+-*<=" : Str).cps.toList.length=5 by decide +kernel];exact h1)
 refine⟨c,?_,Iv c hm⟩
 have hl:("+-*<=" : Str).length≤1000000:=by rw [show ("+-*<=" : Str).length=5 by decide +kernel];lia
 simp [aI,bR,eF,sq,pk,hc,hl,ah]
abbrev cq(d w rm dn:Nat)(v4 v5 v6:Option Vl):De:=[↑(.ref d),↑(.ref w),↑(.ref rm),↑(.int dn),v4,v5,v6]
theorem AR:∀(n dn:Nat) {G:List M},5≤n+dn->dn≤4->Sn G d l w rm ys->∃(t:Tm) (G':List M),jZ n [.im (.ref d),.im (.ref w),.im (.ref rm),.im (.int dn)] G=some (.im t.i,G')/\t.ok/\t.deep+dn≤5/\Sn G' d l w rm ys/\G'.length=G.length
 | 0,dn,G,h,h2,_=>by lia
 | n+1,dn,G,h,h2,s=>by
  obtain⟨fm,G1,e1,p0,p1,s1,l1⟩:=s.draw (many:=6) (by decide) (by decide)
  obtain⟨r,hr⟩:=s1.r
  have st:aM (bd (af (aa 0) (af (ag (.int 6)) ae)) (aA 2 bt)) (aF 4) (cq d w rm dn none none none) G=some (.nx (cq d w rm dn ↑(.int fm) none none) G1):=by
   simp! [cq,e1]
  by_cases hs:r<1∨3<(dn:Int)∨fm<2
  ·have hc:dA (ao (ai dR (ai aI (aa 2) (ag (.int 0))) (ag (.int 1)))) (dA (ao (ai fN (aa 3) (ag (.int 3)))) (ao (ai dR (aa 4) (ag (.int 2))))) (cq d w rm dn ↑(.int fm) none none) G1=some (true,cq d w rm dn ↑(.int fm) none none,G1):=by
    by_cases h3:r<1
    ·simp! [cq,hr,cN,h3]
    ·by_cases h4:3<(dn:Int)
     ·simp! [cq,hr,cN,h3,h4]
     ·have h5:fm<2:=(hs.resolve_left h3).resolve_left h4
      simp! [cq,hr,cN,h3,h4,h5]
   obtain⟨y,G2,e2,_,_,s2,l2⟩:=s1.draw (many:=2) (by decide) (by decide)
   by_cases hy:y=0
   ·subst hy
    obtain⟨x,G3,e3,hx,s3,l3⟩:=s2.name
    refine⟨.cell x,G3,?_,hx,by show 1+dn≤5;lia,s3,by lia⟩
    refine aJ rfl (aj st (aZ (aU hc (aZ (aU (Z1:=cq d w rm dn ↑(.int fm) none none) (G1:=G2) (by simp! [cq,e2]) (aV (Z1:=cq d w rm dn ↑(.int fm) none none) ?_))))))
    simp! [cq,e3,Tm.i]
   ·have yb:(y == 0)=false:=beq_eq_false_iff_ne.mpr hy
    obtain⟨wd,G3,e3,w0,w1,D3,o3⟩:=Ic s2.D
    obtain⟨wn,rfl⟩:=Int.eq_ofNat_of_zero_le w0
    refine⟨.num wn,G3,?_,show wn<4294967296 by lia,by show 1+dn≤5;lia,s2.oth D3 o3,by rw [o3.len];lia⟩
    refine aJ rfl (aj st (aZ (aU hc (aj (Z1:=cq d w rm dn ↑(.int fm) none none) (G1:=G2) (aK (Z1:=cq d w rm dn ↑(.int fm) none none) (G1:=G2) (by simp! [cq,e2,yb]) rfl) (aV (Z1:=cq d w rm dn ↑(.int fm) none none) ?_)))))
    simp! [cq,e3,Tm.i]
  ·have h3:¬ r<1:=λz=>hs (.inl z)
   have h4:¬ 3<(dn:Int):=λz=>hs (.inr (.inl z))
   have h5:¬ fm<2:=λz=>hs (.inr (.inr z))
   have hc:dA (ao (ai dR (ai aI (aa 2) (ag (.int 0))) (ag (.int 1)))) (dA (ao (ai fN (aa 3) (ag (.int 3)))) (ao (ai dR (aa 4) (ag (.int 2))))) (cq d w rm dn ↑(.int fm) none none) G1=some (false,cq d w rm dn ↑(.int fm) none none,G1):=by
    simp! [cq,hr,cN,h3,h4,h5]
   have s1':=s1.put (r-1)
   have l1':(G1.set rm (M.lst [.int (r-1)])).length=G1.length:=z29
   have hp:dU (aa 2) (ag (.int 0)) (ai ft (ai aI (aa 2) (ag (.int 0))) (ag (.int 1))) (cq d w rm dn ↑(.int fm) none none) G1=some (.nx (cq d w rm dn ↑(.int fm) none none) (G1.set rm (.lst [.int (r-1)]))):=by
    have:ei 1 0=some 0:=by decide
    simp! [cq,hr,cN,this]
   have ed:((dn+1:Nat):Int)=(dn:Int)+1:=by lia
   by_cases hf:fm=2
   ·subst hf
    obtain⟨x,G2,e2,hx,s2,l2⟩:=s1'.name
    obtain⟨t,G3,e3,t1,t2,s3,l3⟩:=AR n (dn+1) (by lia) (by lia) s2
    rw [ed] at e3
    refine⟨.at_ x t,G3,?_,⟨hx,t1⟩,by show t.deep+1+dn≤5;lia,s3,by lia⟩
    refine aJ rfl (aj st (aj (aK hc rfl) (aj hp (aZ (aU (Z1:=cq d w rm dn ↑(.int 2) none none) (G1:=G1.set rm (.lst [.int (r-1)])) (by simp! [cq]) (aj (bA (x:=.im (.str (ah x))) (Z1:=cq d w rm dn ↑(.int 2) none none) (G1:=G2) (by simp! [cq,e2]) rfl) (aV (Z1:=cq d w rm dn ↑(.int 2) ↑(.str (ah x)) none) ?_)))))))
    simp! [cq,e3,Tm.i]
   ·have fb:(fm == 2)=false:=beq_eq_false_iff_ne.mpr hf
    obtain⟨ta,G2,e2,a1,a2,s2,l2⟩:=AR n (dn+1) (by lia) (by lia) s1'
    rw [ed] at e2
    obtain⟨y,G3,e3,y0,y1,s3,l3⟩:=s2.draw (many:=5) (by decide) (by decide)
    obtain⟨tb,G4,e4,b1,b2,s4,l4⟩:=AR n (dn+1) (by lia) (by lia) s3
    rw [ed] at e4
    obtain⟨sg,es,ls⟩:=Iw (Z:=cq d w rm dn ↑(.int fm) none ↑ta.i) (G:=G3) y0 y1
    refine⟨.op sg ta tb,G4,?_,⟨ls,a1,b1⟩,by show max ta.deep tb.deep+1+dn≤5;lia,s4,by lia⟩
    refine aJ rfl (aj st (aj (aK hc rfl) (aj hp (aj (Z1:=cq d w rm dn ↑(.int fm) none none) (G1:=G1.set rm (.lst [.int (r-1)])) (aK (Z1:=cq d w rm dn ↑(.int fm) none none) (G1:=G1.set rm (.lst [.int (r-1)])) (by simp! [cq,fb]) rfl) (aj (bA (x:=.im ta.i) (Z1:=cq d w rm dn ↑(.int fm) none none) (G1:=G2) (by simp! [cq,e2]) rfl) (aV (Z1:=cq d w rm dn ↑(.int fm) none ↑ta.i) ?_))))))
    refine aq (aq rfl (aq (aq (aw rfl (aq (a:=[⇑(.ref d),⇑(.int 5)]) rfl (bX (xs:=[.im (.ref d),.im (.int 5)]) rfl rfl e3)) es) (aq (aq rfl (aq (aq (aq (a:=[⇑(.ref d),⇑(.ref w),⇑(.ref rm),⇑(.int ((dn:Int)+1))]) rfl (bX (xs:=[.im (.ref d),.im (.ref w),.im (.ref rm),.im (.int ((dn:Int)+1))]) rfl rfl e4)) rfl) rfl)) rfl)) rfl)) ?_
    simp! [cq,Tm.i]
end
section
def Iy:∀r,r<10->("0123456789" : Str).cps.toList[r]?=some (48+r):=by decide +kernel
def yw{r:Nat}{Z:De}{G:List M}(h:r<10):aI [⇑(.str "0123456789"),⇑(.int (r:Int))] Z G=some (⇑(.str (ah [48+r])),Z,G):=by
 have hc:cB ("0123456789" : Str).cps.toList (r:Int)=some (48+r):=jb (Iy r h)
 have hl:("0123456789" : Str).length≤1000000:=by rw [show ("0123456789" : Str).length=10 by decide +kernel];lia
 simp [aI,bR,eF,sq,pk,hc,hl,ah]
abbrev fI(l:List Nat):List I:=l.map λc=>I.str (ah [c])
def Iz:∀l:List Nat,Txt.join "" (l.map λc=>ah [c])=ah l:=λl=>by
 unfold Txt.join
 rw [StrLaws.glued_eq_join,show ("" : Str)=ah [] by decide +kernel]
 have:(l.map λc=>ah [c])=(l.map λc=>[c]).map ah:=by rw [z32];rfl
 rw [this]
 refine hV ((mC [] _).trans ?_)
 induction l with
 | nil=>rfl
 | cons c l ih =>
  cases l with
  | nil=>rfl
  | cons c' l=>rw [z19,qd [] _ (by simp),ih (by rw [z32];rfl)];rfl
def IA{m:Nat}{acc:List Nat}{G:List M}(h:10≤m)(hl:acc.length≤1000):HE [↑(.int (m:Int)),↥(fI acc)] G=some (.nx [↑(.int ((m / 10:Nat):Int)),↥(fI (acc++[48+m % 10]))] G):=by
 have e1:((m:Int) % 10)=((m % 10:Nat):Int):=by lia
 have e2:((m:Int) / 10)=((m / 10:Nat):Int):=by lia
 have h1:=yw (r:=m % 10) (Z:=[↑(.int (m:Int)),↥(fI acc)]) (G:=G) (by lia)
 have hn:(fI acc).length<1000000:=by unfold fI;rw [z11];lia
 refine aj (Z1:=[↑(.int (m:Int)),↥(fI (acc++[48+m % 10]))]) (G1:=G) (pW (e:=⇑.non) (HK (e:=.s 1) rfl rfl (aq (aw rfl (y:=⇑(.int ((m % 10:Nat):Int))) (by rw [<- e1];simp! []) h1) rfl) ?_)) ?_
 ·unfold fI at hn ⊢
  have hn':acc.length<1000000:=by lia
  simp [g8,pk,il,jc,dQ,iQ,hn']
 ·rw [<- e2];simp! []
def IB(G:List M):∀(m:Nat) (acc:List Nat),acc.length+(dg m).length≤1000->∃(k:Nat) (y5b:List Nat),gF AM HE [↑(.int (m:Int)),↥(fI acc)] G=some (.nx [↑(.int (k:Int)),↥(fI y5b)] G)/\k<10/\dg m++acc.reverse=(48+k)::y5b.reverse:=by
 intro m
 induction m using Nat.strongRecOn with
 | _ m ih =>
  intro acc hl
  by_cases h:m<10
  ·refine⟨m,acc,oN ?_,h,by rw [j7 h];rfl⟩
   have:¬ (9:Int)<m:=by lia
   simp! [AM,this]
  ·have hg:(9:Int)<m:=by lia
   rw [mE (by lia),zc] at hl
   obtain⟨k,y5b,e,hk,q⟩:=ih (m / 10) (by lia) (acc++[48+m % 10]) (by simp at hl ⊢;lia)
   refine⟨k,y5b,?_,hk,?_⟩
   ·rw [um (Z1:=[↑(.int (m:Int)),↥(fI acc)]) (G1:=G) (by simp! [AM,hg]) (IA (by lia) (by simp at hl;lia))]
    exact e
   ·rw [mE (by lia),<- q];simp
def IC(l:List Nat):dB (fI l)=some (l.map λc=>ah [c]):=by
 have:fI l=(l.map λc=>ah [c]).map I.str:=by unfold fI;rw [z32];rfl
 rw [this,l6]
def ID{n:Nat}{G:List M}(h:n<4294967296):AN [.im (.int (n:Int))] G=some (.im (.str (ah (dg n))),G):=by
 have hd:=Ia n 9 (z35 h (by decide))
 obtain⟨k,acc,e,hk,q⟩:=IB G n [] (by simp;lia)
 have hlen:acc.length+1≤10:=by have:=congrArg List.length q;simp at this;lia
 have hn:(fI acc).length<1000000:=by unfold fI;rw [z11];lia
 have ej:Txt.join "" (((acc++[48+k]).map λc=>ah [c]).reverse)=ah (dg n):=by
  rw [<- List.map_reverse,Iz,List.reverse_append]
  simp only [List.reverse_nil,z10] at q
  rw [q];rfl
 have es:=IC (acc++[48+k])
 have hz:(((acc++[48+k]).map λc=>ah [c]).map (·.length)).sum+((acc++[48+k]).map λc=>ah [c]).length*("" : Str).length≤1000000:=by
  have h1:=ym (m:=1) (zs:=(acc++[48+k]).map λc=>ah [c]) (λz hz=>by obtain⟨c,_,rfl⟩:=List.mem_map.mp hz;exact z12 _)
  rw [qi]
  simp only [z11,zc,z18,List.length_nil] at h1 ⊢
  lia
 refine aJ rfl (aj (bA (x:=.ow (.lst [])) (Z1:=[↑(.int (n:Int)),none]) (G1:=G) rfl rfl) (aj e (aj (Z1:=[↑(.int (k:Int)),↥(fI (acc++[48+k]))]) (G1:=G) (pW (e:=⇑.non) (HK (e:=.s 1) rfl rfl (aq (aw rfl rfl (yw hk)) rfl) ?_)) (aV (Z1:=[↑(.int (k:Int)),↥(fI (acc++[48+k]))]) ?_))))
 ·unfold fI at hn ⊢
  have hn':acc.length<1000000:=by lia
  simp [g8,pk,il,jc,dQ,iQ,hn']
 ·refine qj (e:=⇑(.str "")) rfl rfl (aq rfl rfl) ?_
  rw [<- ej]
  simp only [iV,pk]
  show (match dB (fI (acc++[48+k])) with|some ys=>_|none=>none)=_
  rw [es]
  dsimp only
  rw [if_pos hz]
end
section
def IE:(("cell" : Str) == "num")=false:=by decide +kernel
def IG:(("at" : Str) == "num")=false:=by decide +kernel
def IH:(("op" : Str) == "num")=false:=by decide +kernel
def II:(("at" : Str) == "cell")=false:=by decide +kernel
def IJ:(("op" : Str) == "cell")=false:=by decide +kernel
def IK:(("op" : Str) == "at")=false:=by decide +kernel
def IL:(("num" : Str) == "op")=false:=by decide +kernel
def IM:(("cell" : Str) == "op")=false:=by decide +kernel
def IP:(("at" : Str) == "op")=false:=by decide +kernel
def IQ:(("num" : Str) == "at")=false:=by decide +kernel
def IS:(("cell" : Str) == "at")=false:=by decide +kernel
def yx:("(at " : Str)=ah [40,97,116,32]:=by decide +kernel
def i5:(" " : Str)=ah [32]:=by decide +kernel
def hZ:(")" : Str)=ah [41]:=by decide +kernel
def i6:("(" : Str)=ah [40]:=by decide +kernel
def yy:Str.empty=ah []:=by decide +kernel
def h9{y acc:List Nat}{fs:List (Mo Ev)}{Z:De}{G:List M}(h:acc.length+y.length≤1000000):gI (ag (.str (ah y))::fs) (ah acc) Z G=gI fs (ah (acc++y)) Z G:=by
 have h':(ah acc++ah y).length≤1000000:=by rw [j6,bE,zc];exact h
 rw [<- j6]
 show (if (ah acc++ah y).length≤1000000 then gI fs (ah acc++ah y) Z G else none)=_
 rw [if_pos h']
def kc{i:Nat}{y acc:List Nat}{fs:List (Mo Ev)}{Z:De}{G:List M}(hv:aa i Z G=some (⇑(.str (ah y)),Z,G))(h:acc.length+y.length≤1000000):gI (a6 dW (aa i)::fs) (ah acc) Z G=gI fs (ah (acc++y)) Z G:=by
 have h':(ah acc++ah y).length≤1000000:=by rw [j6,bE,zc];exact h
 have h2:(ah y).length≤1000000:=by rw [bE];lia
 rw [<- j6]
 have e:a6 dW (aa i) Z G=some (⇑(.str (ah y)),Z,G):=hG hv (by simp [dW,h2])
 rw [gI,aq e rfl]
 show (if (ah acc++ah y).length≤1000000 then gI fs (ah acc++ah y) Z G else none)=_
 rw [if_pos h']
def yz{acc:List Nat}{Z:De}{G:List M}(h:acc.length≤1000000):gI [] (ah acc) Z G=some (⇑(.str (ah acc)),Z,G):=by
 have h':(ah acc).length≤1000000:=by rw [bE];exact h
 rw [gI]
 show (if (ah acc).length≤1000000 then _ else none)=_
 rw [if_pos h']
def Tm.kid{t:Tm}{n:Nat}:t.size≤n->t.ok->t.tx.length≤20*n:=λh k=>z1c (t.y4c5 k) (by lia)
theorem mH:∀(n:Nat) {t:Tm} {G:List M},t.deep≤n->t.ok->t.size≤20000->j0 n [.im t.i] G=some (.im (.str (ah t.tx)),G)
 | 0,t,G,h,_,_=>by cases t<;>simp [Tm.deep] at h
 | n+1,.num w,G,h,k,hz=>by
  have e:=ID (G:=G) k
  refine aJ rfl (aZ (aU (Z1:=[↑(Tm.num w).i,none,none,none,none,none]) (G1:=G) (by simp! [Tm.i,cN]) (aV (Z1:=[↑(Tm.num w).i,none,none,none,none,none]) ?_)))
  simp! [Tm.i,iu,e,Tm.tx]
 | n+1,.cell x,G,h,k,hz=>by
  refine aJ rfl (aj (Z1:=[↑(Tm.cell x).i,none,none,none,none,none]) (G1:=G) (aK (Z1:=[↑(Tm.cell x).i,none,none,none,none,none]) (G1:=G) (by simp! [Tm.i,cN,IE]) rfl) (aZ (aU (Z1:=[↑(Tm.cell x).i,none,none,none,none,none]) (G1:=G) (by simp! [Tm.i,cN]) (aV (Z1:=[↑(Tm.cell x).i,none,none,none,none,none]) ?_))))
  simp! [Tm.i,iu,Tm.tx]
 | n+1,.at_ r t,G,h,k,hz=>by
  have hz1:t.size+1≤20000:=by simp only [Tm.size] at hz;lia
  have e:=mH n (t:=t) (G:=G) (by simp only [Tm.deep] at h;lia) k.2 (by lia)
  have l1:=Tm.kid (n:=20000) (t:=t) (by lia) k.2
  have l2:=k.1.hi
  refine aJ rfl (aj (Z1:=[↑(Tm.at_ r t).i,none,none,none,none,none]) (G1:=G) (aK (Z1:=[↑(Tm.at_ r t).i,none,none,none,none,none]) (G1:=G) (by simp! [Tm.i,cN,IG]) rfl) (aj (Z1:=[↑(Tm.at_ r t).i,none,none,none,none,none]) (G1:=G) (aK (Z1:=[↑(Tm.at_ r t).i,none,none,none,none,none]) (G1:=G) (by simp! [Tm.i,cN,II]) rfl) (aZ (aU (Z1:=[↑(Tm.at_ r t).i,none,none,none,none,none]) (G1:=G) (by simp! [Tm.i,cN]) (aj (bA (x:=.im (.str (ah r))) (Z1:=[↑(Tm.at_ r t).i,none,none,none,none,none]) (G1:=G) (by simp! [Tm.i,iu]) rfl) (aj (bA (x:=.im (.str (ah t.tx))) (Z1:=[↑(Tm.at_ r t).i,↑(.str (ah r)),none,none,none,none]) (G1:=G) (by simp! [Tm.i,qT,e]) rfl) (aV (Z1:=[↑(Tm.at_ r t).i,↑(.str (ah r)),↑(.str (ah t.tx)),none,none,none]) ?_)))))))
  rw [yx,i5,hZ,yy,h9 (by simp),kc (y:=r) rfl (by simp;lia),h9 (by simp;lia),kc (y:=t.tx) rfl (by simp;lia),h9 (by simp;lia),yz (by simp;lia)]
  simp [Tm.tx]
 | n+1,.op s a b,G,h,k,hz=>by
  have hz1:a.size+b.size+1≤20000:=by simp only [Tm.size] at hz;lia
  have ea:=mH n (t:=a) (G:=G) (by simp only [Tm.deep] at h;lia) k.2.1 (by lia)
  have eb:=mH n (t:=b) (G:=G) (by simp only [Tm.deep] at h;lia) k.2.2 (by lia)
  have l1:=Tm.kid (n:=20000) (t:=a) (by lia) k.2.1
  have l2:=Tm.kid (n:=20000) (t:=b) (by lia) k.2.2
  refine aJ rfl (aj (Z1:=[↑(Tm.op s a b).i,none,none,none,none,none]) (G1:=G) (aK (Z1:=[↑(Tm.op s a b).i,none,none,none,none,none]) (G1:=G) (by simp! [Tm.i,cN,IH]) rfl) (aj (Z1:=[↑(Tm.op s a b).i,none,none,none,none,none]) (G1:=G) (aK (Z1:=[↑(Tm.op s a b).i,none,none,none,none,none]) (G1:=G) (by simp! [Tm.i,cN,IJ]) rfl) (aj (Z1:=[↑(Tm.op s a b).i,none,none,none,none,none]) (G1:=G) (aK (Z1:=[↑(Tm.op s a b).i,none,none,none,none,none]) (G1:=G) (by simp! [Tm.i,cN,IK]) rfl) (aj (bA (x:=.im (.str (ah [s]))) (Z1:=[↑(Tm.op s a b).i,none,none,none,none,none]) (G1:=G) (by simp! [Tm.i,iu]) rfl) (aj (bA (x:=.im (.str (ah a.tx))) (Z1:=[↑(Tm.op s a b).i,none,none,↑(.str (ah [s])),none,none]) (G1:=G) (by simp! [Tm.i,qT,ea]) rfl) (aj (bA (x:=.im (.str (ah b.tx))) (Z1:=[↑(Tm.op s a b).i,none,none,↑(.str (ah [s])),↑(.str (ah a.tx)),none]) (G1:=G) (by simp! [Tm.i,Ib,eb]) rfl) (aV (Z1:=[↑(Tm.op s a b).i,none,none,↑(.str (ah [s])),↑(.str (ah a.tx)),↑(.str (ah b.tx))]) ?_)))))))
  rw [i6,i5,hZ,yy,h9 (by simp),kc (y:=[s]) rfl (by simp),h9 (by simp),kc (y:=a.tx) rfl (by simp;lia),h9 (by simp;lia),kc (y:=b.tx) rfl (by simp;lia),h9 (by simp;lia),yz (by simp;lia)]
  simp [Tm.tx]
def yA(z:List Nat)(ps:List (List Nat)):Txt.join (ah z) (ps.map ah)=ah (jz z ps):=by
 unfold Txt.join
 rw [StrLaws.glued_eq_join]
 exact hV (mC z ps)
def kC{a b:List Nat}{Z:De}{G:List M}(h:a.length+b.length≤1000000):aC [⇑(.str (ah a)),⇑(.str (ah b))] Z G=some (⇑(.str (ah (a++b))),Z,G):=by
 have h':(ah a).length+(ah b).length≤1000000:=by rw [bE,bE];exact h
 rw [<- j6]
 simp [aC,bR,km,bC,jd,h']
def IT{w:Nat}(h:w<4294967296):((w:Int)).natAbs.log2<1920:=by
 rw [Int.natAbs_natCast]
 by_cases h0:w=0
 ·subst h0;decide
 ·rw [Nat.log2_lt h0];exact z1f h (Nat.pow_le_pow_right (n:=2) (i:=32) (by decide) (by decide))
theorem mI:∀(n:Nat) {t:Tm} {G:List M},t.deep≤n->t.ok->t.size≤100->jY n [.im t.i] G=some (.im (.str (ah t.tx)),G)
 | 0,t,G,h,_,_=>by cases t<;>simp [Tm.deep] at h
 | n+1,.num w,G,h,k,hz=>by
  have e:=IT k
  refine aJ rfl (aj (Z1:=[↑(Tm.num w).i]) (G1:=G) (aK (Z1:=[↑(Tm.num w).i]) (G1:=G) (by simp! [Tm.i,cN,IL]) rfl) (aj (Z1:=[↑(Tm.num w).i]) (G1:=G) (aK (Z1:=[↑(Tm.num w).i]) (G1:=G) (by simp! [Tm.i,cN,IQ]) rfl) (aV (Z1:=[↑(Tm.num w).i]) ?_)))
  rw [show (Tm.num w).tx=dg w from rfl,<- x4]
  refine aq (a:=[⇑(.int (w:Int))]) (Z1:=[↑(Tm.num w).i]) (G1:=G) (by simp! [Tm.i,iu]) ?_
  unfold iU
  dsimp only
  rw [if_pos e]
 | n+1,.cell x,G,h,k,hz=>by
  refine aJ rfl (aj (Z1:=[↑(Tm.cell x).i]) (G1:=G) (aK (Z1:=[↑(Tm.cell x).i]) (G1:=G) (by simp! [Tm.i,cN,IM]) rfl) (aj (Z1:=[↑(Tm.cell x).i]) (G1:=G) (aK (Z1:=[↑(Tm.cell x).i]) (G1:=G) (by simp! [Tm.i,cN,IS]) rfl) (aV (Z1:=[↑(Tm.cell x).i]) ?_)))
  simp! [Tm.i,iu,iU,Tm.tx]
 | n+1,.at_ r t,G,h,k,hz=>by
  have hz1:t.size+1≤100:=by simp only [Tm.size] at hz;lia
  have e:=mI n (t:=t) (G:=G) (by simp only [Tm.deep] at h;lia) k.2 (by lia)
  have l1:=Tm.kid (n:=100) (t:=t) (by lia) k.2
  have l2:=k.1.hi
  refine aJ rfl (aj (Z1:=[↑(Tm.at_ r t).i]) (G1:=G) (aK (Z1:=[↑(Tm.at_ r t).i]) (G1:=G) (by simp! [Tm.i,cN,IP]) rfl) (aZ (aU (Z1:=[↑(Tm.at_ r t).i]) (G1:=G) (by simp! [Tm.i,cN]) (aV (Z1:=[↑(Tm.at_ r t).i]) ?_))))
  rw [yx,i5,hZ]
  refine aw (aw (aw (aw rfl (y:=⇑(.str (ah r))) (Z2:=[↑(Tm.at_ r t).i]) (G2:=G) (by simp! [Tm.i,iu]) (kC (by simp;lia))) rfl (kC (by simp;lia))) (y:=⇑(.str (ah t.tx))) (Z2:=[↑(Tm.at_ r t).i]) (G2:=G) (by simp! [Tm.i,qT,e]) (kC (by simp;lia))) rfl ?_
  rw [kC (by simp;lia)]
  simp [Tm.tx]
 | n+1,.op s a b,G,h,k,hz=>by
  have hz1:a.size+b.size+1≤100:=by simp only [Tm.size] at hz;lia
  have ea:=mI n (t:=a) (G:=G) (by simp only [Tm.deep] at h;lia) k.2.1 (by lia)
  have eb:=mI n (t:=b) (G:=G) (by simp only [Tm.deep] at h;lia) k.2.2 (by lia)
  have l1:=Tm.kid (n:=100) (t:=a) (by lia) k.2.1
  have l2:=Tm.kid (n:=100) (t:=b) (by lia) k.2.2
  have ej:=yA [32] [[s],a.tx,b.tx]
  refine aJ rfl (aZ (aU (Z1:=[↑(Tm.op s a b).i]) (G1:=G) (by simp! [Tm.i,cN]) (aV (Z1:=[↑(Tm.op s a b).i]) ?_)))
  rw [i6,i5,hZ]
  refine aw (aw rfl (y:=⇑(.str (ah ([s]++[32]++a.tx++[32]++b.tx)))) (Z2:=[↑(Tm.op s a b).i]) (G2:=G) (qj (e:=⇑(.str (ah [32]))) rfl rfl (es:=[.v (.ow (.lst [.str (ah [s]),.str (ah a.tx),.str (ah b.tx)]))]) (Z2:=[↑(Tm.op s a b).i]) (G2:=G) (by simp! [Tm.i,iu,qT,Ib,ea,eb]) ?_) (kC (by simp;lia))) rfl ?_
  ·have hz2:((([[s],a.tx,b.tx].map ah)).map (·.length)).sum+([[s],a.tx,b.tx].map ah).length*(ah [32]).length≤1000000:=by simp [bE];lia
   unfold dk
   dsimp only [pk]
   rw [show dB [I.str (ah [s]),I.str (ah a.tx),I.str (ah b.tx)]=some ([[s],a.tx,b.tx].map ah) from rfl]
   dsimp only
   rw [if_pos hz2,ej]
   simp [jz]
  ·rw [kC (by simp;lia)]
   simp [Tm.tx]
end
section
def mJ(x:Str)(c:Nat):gj x (ah [c])=decide (c∈x.cps.toList):=StrLaws.found_one x c
def yca{x:List Nat}{te:Mo Ev}{f:Nat->I}{Z:De}{G:List M}(h:∀c∈x,te [↑(.str (ah [c]))] G=some (⇑(f c),[↑(.str (ah [c]))],G)) :
  eD (cL (ah x)) c1 bS te [] 0 x.length [] Z G=some (x.map f,G):=by
 have hn:(cL (ah x)).n=x.length:=by simp [cL,ah]
 obtain⟨ds,G',e,ed,eg⟩:=qa (w:=cL (ah x)) (c:=c1) (tt:=bS) (te:=te) (di:=[]) (Z:=Z) (λi acc G'=>acc=(x.take i).map f/\G'=G)
  (λi acc g hi zz=>by
   obtain⟨ea,eg⟩:=zz
   rw [hn] at hi
   subst eg
   refine⟨.str (ah [x[i]]),[.str (ah [x[i]])],_,_,f x[i],_,g,?_,rfl,rfl,h x[i] (z31 hi),?_,rfl⟩
   ·show ((ah x).cps[i]?).map (λc=>I.str ⟨#[c]⟩)=_
    have:(ah x).cps[i]?=some x[i]:=by simp [ah,hi]
    rw [this];rfl
   ·rw [ea,List.take_add_one,z16 hi,z27];rfl)
  (λ_ _ _=>rfl) x.length 0 [] G (by rw [hn];lia) ⟨by simp,rfl⟩
 rw [hn,List.take_length] at ed
 rw [ed,eg] at e
 exact e
def yB(y:Str):((List.map I.str bL).any λz=>bq z (.str y))=bL.contains y:=yt y
def ycf:(List.map I.str bL).all bK=true:=rfl
abbrev bF(x:List Nat):Bool:=if x.length<1∨6<x.length∨bL.contains (ah x)=true then false else x.all λc=>decide (c∈("abcdefghijklmnopqrstuvwxyz" : Str).cps.toList)
def yC{x:List Nat}{G:List M}(hx:x.length≤100000):qQ [.im (.str (ah x))] G=some (.im (.bl (bF x)),G):=by
 have hl:(ah x).length=x.length:=bE x
 have h1:(ah x).length≤1000000:=by lia
 have hin:ai eR (aa 0) (ag (.con (List.map I.str ["cell","row","def","main","set","put","while","if","else","call","end","at"]))) [↑(.str (ah x))] G=some (⇑(.bl (bL.contains (ah x))),[↑(.str (ah x))],G):=by
  refine aw rfl rfl ?_
  have h:(bK (.str (ah x))&&(List.map I.str bL).all bK)=true:=by rw [ycf];rfl
  have e:=yB (ah x)
  show eR [⇑(.str (ah x)),⇑(.con (List.map I.str bL))] _ G=_
  unfold eR bR ip
  dsimp only [sq]
  rw [if_pos h]
  dsimp only
  rw [e];rfl
 unfold bF
 by_cases hc:x.length<1∨6<x.length∨bL.contains (ah x)=true
 ·rw [if_pos hc]
  refine aJ rfl (aZ (aU (Z1:=[↑(.str (ah x))]) (G1:=G) ?_ (aV rfl)))
  by_cases h2:x.length<1
  ·have:((ah x).length:Int)<1:=by lia
   exact fG (aX (by simp! [h1,this]))
  ·have n2:¬ ((ah x).length:Int)<1:=by lia
   refine b6 (Z1:=[↑(.str (ah x))]) (G1:=G) (aX (by simp! [h1,n2])) ?_
   by_cases h3:6<x.length
   ·have:(6:Int)<(ah x).length:=by lia
    exact fG (aX (by simp! [h1,this]))
   ·have n3:¬ (6:Int)<(ah x).length:=by lia
    refine b6 (Z1:=[↑(.str (ah x))]) (G1:=G) (aX (by simp! [h1,n3])) (aX ?_)
    rw [hin,(hc.resolve_left h2).resolve_left h3]
 ·rw [if_neg hc]
  have h2:¬ x.length<1:=λz=>hc (.inl z)
  have h3:¬ 6<x.length:=λz=>hc (.inr (.inl z))
  have h4:bL.contains (ah x)=false:=by cases e:bL.contains (ah x) with
   | false=>rfl
   | true=>exact absurd (.inr (.inr e)) hc
  have n2:¬ ((ah x).length:Int)<1:=by lia
  have n3:¬ (6:Int)<(ah x).length:=by lia
  refine aJ rfl (aj (Z1:=[↑(.str (ah x))]) (G1:=G) (aK (Z1:=[↑(.str (ah x))]) (G1:=G) (b6 (Z1:=[↑(.str (ah x))]) (G1:=G) (aX (by simp! [h1,n2])) (b6 (Z1:=[↑(.str (ah x))]) (G1:=G) (aX (by simp! [h1,n3])) (aX (by rw [hin,h4])))) rfl) (aV (Z1:=[↑(.str (ah x))]) ?_))
  have hcm:=yca (x:=x) (te:=ai (dm false) (aa 0) (ag (.str "abcdefghijklmnopqrstuvwxyz"))) (f:=λc=>I.bl (decide (c∈("abcdefghijklmnopqrstuvwxyz" : Str).cps.toList))) (Z:=[↑(.str (ah x))]) (G:=G) (λc _=>by
   refine aw rfl rfl ?_
   show some (Ev.v (.im (.bl (gj ("abcdefghijklmnopqrstuvwxyz" : Str) (ah [c])))),_,G)=_
   rw [mJ])
  have hn:(cL (ah x)).n=x.length:=by simp [cL,ah]
  refine aq (aq (nB (by rfl) (j4 (es:=[⇑(.str (ah x))]) (w:=cL (ah x)) rfl rfl) (by rw [hn];lia) (by rw [hn];exact hcm)) rfl) ?_
  show je [.v (.ow (.lst (x.map λc=>I.bl (decide (c∈("abcdefghijklmnopqrstuvwxyz" : Str).cps.toList)))))] _ G=_
  have e2:(x.map λc=>I.bl (decide (c∈("abcdefghijklmnopqrstuvwxyz" : Str).cps.toList)))=(x.map λc=>decide (c∈("abcdefghijklmnopqrstuvwxyz" : Str).cps.toList)).map I.bl:=by rw [z32];rfl
  rw [e2]
  unfold je
  dsimp only [pk]
  rw [Fw]
  dsimp only
  rw [List.all_map]
  rfl
def y57:∀k,k<26->(97+k)∈("abcdefghijklmnopqrstuvwxyz" : Str).cps.toList:=by decide +kernel
def Nm.is{x:List Nat}(h:Nm x):bF x=true:=by
 unfold bF
 have h1:=h.lo
 have h2:=h.hi
 rw [if_neg (by
  intro z
  rcases z with z|z|z
  ·lia
  ·lia
  ·exact h.nk (List.contains_iff_mem.mp z))]
 rw [z33]
 intro c hc
 have:=h.ab c hc
 obtain⟨k,rfl⟩:∃k,c=97+k:=⟨c-97,by lia⟩
 exact decide_eq_true (y57 k (by lia))
def y58:∀k,k<10->(48+k)∉("abcdefghijklmnopqrstuvwxyz" : Str).cps.toList:=by decide +kernel
def yfa(w:Nat):bF (dg w)=false:=by
 unfold bF
 split
 ·rfl
 ·rw [List.all_eq_false]
  cases e:dg w with
  | nil=>exact absurd e (qS w)
  | cons c r =>
   refine⟨c,List.mem_cons_self,?_⟩
   have:=j8 w c (by rw [e];exact List.mem_cons_self)
   obtain⟨k,rfl⟩:∃k,c=48+k:=⟨c-48,by lia⟩
   simpa using y58 k (by lia)
def yD:∀k,k<10->(48+k)∈("0123456789" : Str).cps.toList:=by decide +kernel
def IU:∀k,k<10->Builtin.Str.occurrences "0123456789" (ah [48+k]) 0 ("0123456789" : Str).length 1=[k]:=by decide +kernel
def IV{x:I}{a c:Nat}{G:List M}(hc:48≤c/\c≤57):xK [↑x,↑(.int (a:Int)),↑(.str (ah [c]))] G=some (.nx [↑x,↑(.int ((10*a+(c-48):Nat):Int)),↑(.str (ah [c]))] G):=by
 obtain⟨k,rfl⟩:∃k,c=48+k:=⟨c-48,by lia⟩
 have hk:k<10:=by lia
 have e1:gj ("0123456789" : Str) (ah [48+k])=true:=by rw [mJ];exact decide_eq_true (yD k hk)
 have e2:=IU k hk
 have e3:((10*a+(48+k-48):Nat):Int)=10*(a:Int)+(k:Int):=by lia
 rw [e3]
 refine aj (Z1:=[↑x,↑(.int (a:Int)),↑(.str (ah [48+k]))]) (G1:=G) (aK (Z1:=[↑x,↑(.int (a:Int)),↑(.str (ah [48+k]))]) (G1:=G) (aX (aw rfl rfl ?_)) rfl) (bA (x:=.im (.int (10*(a:Int)+(k:Int)))) (Z1:=[↑x,↑(.int (a:Int)),↑(.str (ah [48+k]))]) (G1:=G) (aw (x:=⇑(.int (10*(a:Int)))) (Z1:=[↑x,↑(.int (a:Int)),↑(.str (ah [48+k]))]) (G1:=G) (by simp! []) (y:=⇑(.int (k:Int))) (Z2:=[↑x,↑(.int (a:Int)),↑(.str (ah [48+k]))]) (G2:=G) (qj rfl rfl (aq rfl rfl) ?_) (by simp! [])) rfl)
 ·show some (Ev.v (.im (.bl (!(gj ("0123456789" : Str) (ah [48+k]))))),_,G)=_
  rw [e1];rfl
 ·show iT [⇑(.str "0123456789"),⇑(.str (ah [48+k]))] _ G=some (⇑(.int (k:Int)),_,G)
  unfold iT
  dsimp only
  rw [e2]
def mK:("" : Str)=ah []:=by decide +kernel
def mL:("0" : Str)=ah [48]:=by decide +kernel
def dE(a b:List Nat):(ah a == ah b)=decide (a=b):=by
 by_cases h:a=b
 ·subst h;simp
 ·rw [decide_eq_false h]
  exact beq_eq_false_iff_ne.mpr λe=>h (HY e)
abbrev Tm.th:Tm->I
 | .num w=>.str (ah (dg w))
 | .cell x=>.str (ah x)
 | .at_ r t=>(Tm.at_ r t).i
 | .op s a b=>(Tm.op s a b).i
end
section
def Tm.y1c0(t:Tm):∃xs,t.i=.tup xs:=by cases t<;>exact⟨_,rfl⟩
def IX:("at" : Str)=ah [97,116]:=by decide +kernel
def y7d(ps:List I)(x:I):cB (ps++[x]) (-1)=some x:=by
 have h1:(1:Int)≤(ps.length:Int)+1:=by lia
 have e:(-1+((ps.length:Int)+1)).toNat=ps.length:=by lia
 unfold cB ei
 simp [h1,e]
def IZ{v0 v3 v4:Option Vl}{ns:List I}{G:List M}(hn:ns.length<100000):ny [v0,↥ns,↑(.str (ah [40])),v3,v4] G=some (.nx [v0,↥(ns++[.ref G.length]),↑(.str (ah [40])),v3,v4] (G++[M.lst []])):=by
 have h:ns.length<1000000:=by lia
 refine aU (Z1:=[v0,↥ns,↑(.str (ah [40])),v3,v4]) (G1:=G) (by rw [i6];simp! []) ?_
 simp! [h]
def I0{v0 v3 v4:Option Vl}{ps xs:List I}{top:Nat}{x:List Nat}{G:List M}(h1:x≠[40])(h2:x≠[41])(ht:G[top]?=some (.lst xs))(hx:xs.length<100000):ny [v0,↥(ps++[.ref top]),↑(.str (ah x)),v3,v4] G=some (.nx [v0,↥(ps++[.ref top]),↑(.str (ah x)),v3,v4] (G.set top (.lst (xs++[.str (ah x)])))):=by
 have h:xs.length<1000000:=by lia
 have q1:(ah x == ah [40])=false:=by rw [dE];simp [h1]
 have q2:(ah x == ah [41])=false:=by rw [dE];simp [h2]
 have al:=y7d ps (.ref top)
 refine aK (Z1:=[v0,↥(ps++[.ref top]),↑(.str (ah x)),v3,v4]) (G1:=G) (by rw [i6];simp! [q1]) (aK (Z1:=[v0,↥(ps++[.ref top]),↑(.str (ah x)),v3,v4]) (G1:=G) (by rw [hZ];simp! [q2]) ?_)
 simp! [al,ht,h]
end
section
abbrev wI(x:List Nat):I:=.str (ah x)
def Nm.ne{x:List Nat}(h:Nm x):x≠[40]/\x≠[41]:=by
 constructor<;>(intro e;subst e;have:=h.ab _ (z15.mpr rfl);lia)
def Ja(w:Nat):dg w≠[40]/\dg w≠[41]:=by
 constructor<;>(intro e;have:=j8 w _ (by rw [e];exact z15.mpr rfl);lia)
def i4.ne{s:Nat}(h:i4 s):[s]≠[40]/\[s]≠[41]:=by
 have:=h.plain
 constructor<;>(intro e;injection e with e1 _;lia)
theorem ql(c:Nat)(z:List Nat)(hz:z.length≤2)(h1:1≤z.length):∀l:List Nat,(l.flatMap λd=>if d=c then z else [d]).length≤2*l.length
 | []=>by simp
 | d::l=>by
  have:=ql c z hz h1 l
  rw [List.flatMap_cons,zc,z18]
  split
  ·lia
  ·simp only [z18,List.length_nil];lia
abbrev b7(x:List Nat):List (List Nat):=bZ 32 (x.flatMap gg)
def Jb(x:List Nat):Txt.split (Txt.replace (Txt.replace (ah x) "(" "( ") ")" " )") " " = (b7 x).map ah:=by
 have e1:Txt.replace (ah x) "(" "( " = ah (x.flatMap λd=>if d=40 then [40,32] else [d]):=by rw [x9,yg];exact hV (by rw [mD,dX])
 have e2:Txt.replace (Txt.replace (ah x) "(" "( ") ")" " )" = ah (x.flatMap gg):=by rw [e1,yh,yi];exact hV (by rw [mD,dX,qf])
 rw [e2,yj,qb,dX];rfl
def yE{x:List Nat}{v:Option Vl}{r:De}{G:List M}(hl:x.length≤100000):a6 (gk " ") (a6 (cM ")" " )") (a6 (cM "(" "( ") (aa 0))) (↑(.str (ah x))::r) G=some (.v (.ow (.lst ((b7 x).map wI))),↑(.str (ah x))::r,G):=by
 have e1:Txt.replace (ah x) "(" "( " = ah (x.flatMap λd=>if d=40 then [40,32] else [d]):=by rw [x9,yg];exact hV (by rw [mD,dX])
 have l1:=ql 40 [40,32] (by simp) (by simp) x
 have e2:Txt.replace (Txt.replace (ah x) "(" "( ") ")" " )" = ah (x.flatMap gg):=by rw [e1,yh,yi];exact hV (by rw [mD,dX,qf])
 have l2:=ql 41 [32,41] (by simp) (by simp) (x.flatMap λd=>if d=40 then [40,32] else [d])
 rw [qf] at l2
 have e3:=Jb x
 have z1:("( " : Str).length=2:=by decide +kernel
 have z2:(" )" : Str).length=2:=by decide +kernel
 have z3:((" " : Str).length == 0)=false:=by decide +kernel
 have s1:a6 (cM "(" "( ") (aa 0) (↑(.str (ah x))::r) G=some (⇑(.str (Txt.replace (ah x) "(" "( ")),↑(.str (ah x))::r,G):=by
  refine hG rfl ?_
  unfold cM
  dsimp only
  rw [if_pos (by rw [bE,z1];lia)]
 have s2:a6 (cM ")" " )") (a6 (cM "(" "( ") (aa 0)) (↑(.str (ah x))::r) G=some (⇑(.str (Txt.replace (Txt.replace (ah x) "(" "( ") ")" " )")),↑(.str (ah x))::r,G):=by
  refine hG s1 ?_
  unfold cM
  dsimp only
  rw [if_pos (by rw [e1,bE,z2];lia)]
 refine hG s2 ?_
 unfold gk
 dsimp only
 rw [if_pos ⟨z3,by rw [e2,bE];lia⟩,e3,z32]
 rfl
def Jc{x:List Nat}{G:List M}(hl:x.length≤100000):nA [.im (.str (ah x))] G=some (.ow (.lst ((b7 x).map wI)),G):=aJ rfl (aV (yE (v:=none) (r:=[]) hl))
end
section
def y59:∀c∈("abcdefghijklmnopqrstuvwxyz" : Str).cps.toList,97≤c/\c≤122:=by decide +kernel
def mM{x:List Nat}(h:bF x=true):Nm x:=by
 unfold bF at h
 split at h
 ·cases h
 ·rename_i hc
  have h1:¬ x.length<1:=λz=>hc (.inl z)
  have h2:¬ 6<x.length:=λz=>hc (.inr (.inl z))
  refine⟨by lia,by lia,λc hm=>?_,λhm=>hc (.inr (.inr (List.contains_iff_mem.mpr hm)))⟩
  exact y59 c (of_decide_eq_true (z33.mp h c hm))
abbrev cO(x:List Nat):Bool:=match x with
 | []=>false
 | c::r=>(c != 48||r.isEmpty)&&(c::r).all λc=>decide (48≤c)&&decide (c≤57)
def yF(l:List Nat)(c:Nat):vl 0 (l++[c])=10*vl 0 l+(c-48):=by unfold vl;rw [List.foldl_append];rfl
def yG:∀(n:Nat) (x:List Nat),x.length=n->cO x=true->dg (vl 0 x)=x:=by
 intro n
 induction n using Nat.strongRecOn with
 | _ n ih =>
  intro x hn hb
  rcases List.eq_nil_or_concat x with rfl|⟨l,c,hx⟩
  ·cases hb
  ·rw [List.concat_eq_append] at hx
   subst hx
   have hc:48≤c/\c≤57:=by
    cases l with
    | nil=>simp [cO] at hb;exact hb
    | cons a r=>simp [cO] at hb;exact hb.2.2.2
   rw [yF]
   cases l with
   | nil =>
    rw [show 10*vl 0 []+(c-48)=c-48 from by simp [vl],j7 (by lia)]
    simp;lia
   | cons a r =>
    have hb':cO (a::r)=true:=by
     simp [cO] at hb ⊢
     exact⟨.inl hb.1,hb.2.1,hb.2.2.1⟩
    have e:=ih (a::r).length (by rw [<- hn];simp) (a::r) rfl hb'
    have hp:1≤vl 0 (a::r):=by
     rcases Nat.eq_zero_or_pos (vl 0 (a::r)) with h0|h0
     ·rw [h0,j7 (by decide)] at e
      simp [cO] at hb
      have:a=48:=by have:=congrArg List.head? e;simpa using this.symm
      exact absurd this hb.1
     ·exact h0
    rw [mE (by lia)]
    have d1:(10*vl 0 (a::r)+(c-48)) / 10=vl 0 (a::r):=by lia
    have d2:(10*vl 0 (a::r)+(c-48)) % 10=c-48:=by lia
    rw [d1,d2,e]
    congr 2;lia
def Jd(w:Nat):cO (dg w)=true:=by
 cases e:dg w with
 | nil=>exact absurd e (qS w)
 | cons c r =>
  have h1:=j8 w
  rw [e] at h1
  unfold cO
  dsimp only
  rw [z1b]
  constructor
  ·by_cases hc:c=48
   ·subst hc
    have:=yf9 w r e
    subst this
    rw [j7 (by decide)] at e
    cases e
    rfl
   ·rw [Bool.or_eq_true]
    left
    exact bne_iff_ne.mpr hc
  ·rw [z33]
   intro d hd
   have:=h1 d hd
   rw [z1b,decide_eq_true_eq,decide_eq_true_eq]
   exact this
abbrev gx(x:List Nat):Option Nat:=if cO x=true/\vl 0 x<4294967296 then some (vl 0 x) else none
def yH{w:Nat}(h:w<4294967296):gx (dg w)=some w:=by
 unfold gx
 rw [x6,if_pos ⟨Jd w,h⟩]
def yI{x:List Nat}{w:Nat}(h:gx x=some w):x=dg w/\w<4294967296:=by
 unfold gx at h
 split at h
 ·rename_i hc
  cases h
  exact⟨(yG _ x rfl hc.1).symm,hc.2⟩
 ·cases h
inductive Th where
 | wd (x:List Nat)|tm (t:Tm)
abbrev Th.i:Th->I
 | .wd x=>.str (ah x)
 | .tm t=>t.i
abbrev Th.fl:Th->List (List Nat)
 | .wd x=>[x]
 | .tm t=>t.tk
abbrev Th.ok:Th->Prop
 | .wd x=>x≠[40]/\x≠[41]
 | .tm t=>t.ok
abbrev cz:Th->Option Tm
 | .wd x=>if bF x=true then some (.cell x) else (gx x).map Tm.num
 | .tm t=>some t
def Je{h:Th}{t:Tm}(e:cz h=some t)(k:h.ok):t.ok/\t.tk=h.fl:=by
 cases h with
 | wd x =>
  unfold cz at e
  dsimp only at e
  split at e
  ·rename_i hn
   cases e
   exact⟨mM hn,rfl⟩
  ·cases hv:gx x with
   | none=>rw [hv] at e;cases e
   | some w =>
    rw [hv] at e
    cases e
    obtain⟨h1,h2⟩:=yI hv
    exact⟨h2,by rw [Tm.tk,<- h1];rfl⟩
 | tm t=>cases e;exact⟨k,rfl⟩
abbrev dY:Th->Option (List Nat)
 | .wd x=>if bF x=true then some x else none
 | .tm _=>none
abbrev qU(s:Nat):Bool:=s == 43||s == 45||s == 42||s == 60||s == 61
def mO(s:Nat):qU s=true↔i4 s:=by unfold qU i4;simp [or_assoc]
abbrev cC:Th->Option Nat
 | .wd [s]=>if qU s=true then some s else none
 | _=>none
abbrev du:Th->Bool
 | .wd x=>x == [97,116]
 | .tm _=>false
abbrev gy:List Th->Option Tm
 | [a,b,c]=>match cz c with
  | none=>none
  | some last=>match (if du a then dY b else none) with
   | some x=>some (.at_ x last)
   | none=>match cC a,cz b with
    | some s,some first=>some (.op s first last)
    | _,_=>none
 | _=>none
abbrev ie(f:List Th):List (List Nat):=f.flatMap Th.fl
def y99{f:List Th}{t:Tm}(e:gy f=some t)(k:∀h∈f,h.ok):t.ok/\t.tk=[40]::(ie f++[[41]]):=by
 unfold gy at e
 split at e
 ·rename_i a b c
  split at e
  ·cases e
  ·rename_i last hl
   obtain⟨l1,l2⟩:=Je hl (k c (by simp))
   split at e
   ·rename_i x hx
    cases e
    split at hx
    ·rename_i ha
     cases a with
     | tm _=>cases ha
     | wd y =>
      have hy:y=[97,116]:=eq_of_beq ha
      cases b with
      | tm _=>cases hx
      | wd z =>
       unfold dY at hx
       dsimp only at hx
       split at hx
       ·rename_i hz
        cases hx
        refine⟨⟨mM hz,l1⟩,?_⟩
        rw [Tm.tk,l2,hy]
        simp [ie,Th.fl]
       ·cases hx
    ·cases hx
   ·split at e
    ·rename_i s first hs hf
     cases e
     obtain⟨f1,f2⟩:=Je hf (k b (by simp))
     cases a with
     | tm _=>cases hs
     | wd y =>
      unfold cC at hs
      split at hs
      ·rename_i s' hy
       split at hs
       ·rename_i hz
        cases hs
        cases hy
        refine⟨⟨(mO _).mp hz,f1,l1⟩,?_⟩
        rw [Tm.tk,l2,f2]
        simp [ie,Th.fl]
       ·cases hs
      ·cases hs
    ·cases e
 ·cases e
abbrev i7(w:List Nat):List (List Th)->Option (List (List Th))
 | []=>none
 | f::r=>if w=[40] then some ([]::f::r) else if w=[41] then (match r with
   | []=>none
   | g::r'=>(gy f).map λt=>(g++[.tm t])::r')
  else some ((f++[.wd w])::r)
abbrev cZ:List (List Nat)->List (List Th)->Option (List (List Th))
 | [],st=>some st
 | w::ws,st=>match i7 w st with
  | some st'=>cZ ws st'
  | none=>none
abbrev jf:List (List Th)->List (List Nat)
 | []=>[]
 | [f]=>ie f
 | f::r=>jf r++[40]::ie f
def i8(f:List Th){r:List (List Th)}(h:r≠[]):jf (f::r)=jf r++[40]::ie f:=by
 cases r with
 | nil=>exact absurd rfl h
 | cons g r=>rfl
abbrev AS(st:List (List Th)):Prop:=∀f∈st,∀h∈f,h.ok
def Jf{w:List Nat}{st st':List (List Th)}(e:i7 w st=some st')(k:AS st):AS st'/\jf st'=jf st++[w]/\st'≠[]:=by
 cases st with
 | nil=>cases e
 | cons f r =>
  unfold i7 at e
  dsimp only at e
  split at e
  ·rename_i hw
   cases e
   subst hw
   refine⟨λx hx=>?_,?_,by simp⟩
   ·rcases z1d.mp hx with rfl|hx
    ·intro h hh;cases hh
    ·exact k x hx
   ·rw [i8 [] (by simp)];simp [ie]
  ·rename_i hw
   split at e
   ·rename_i hw2
    subst hw2
    cases r with
    | nil=>cases e
    | cons g r' =>
     dsimp only at e
     cases hb:gy f with
     | none=>rw [hb] at e;cases e
     | some t =>
      rw [hb] at e
      cases e
      obtain⟨t1,t2⟩:=y99 hb (k f (by simp))
      refine⟨λx hx=>?_,?_,by simp⟩
      ·rcases z1d.mp hx with rfl|hx
       ·intro h hh
        rcases z1e.mp hh with hh|hh
        ·exact k g (by simp) h hh
        ·rw [z15.mp hh];exact t1
       ·exact k x (by simp [hx])
      ·rw [i8 f (by simp)]
       cases r' with
       | nil=>show ie (g++[.tm t])=_;simp [ie,jf,Th.fl,t2]
       | cons y r2=>rw [i8 _ (by simp),i8 g (by simp)];simp [ie,Th.fl,t2]
   ·rename_i hw2
    cases e
    refine⟨λx hx=>?_,?_,by simp⟩
    ·rcases z1d.mp hx with rfl|hx
     ·intro h hh
      rcases z1e.mp hh with hh|hh
      ·exact k f (by simp) h hh
      ·rw [z15.mp hh];exact⟨hw,hw2⟩
     ·exact k x (by simp [hx])
    ·cases r with
     | nil=>show ie (f++[.wd w])=_;simp [ie,jf,Th.fl]
     | cons y r2=>rw [i8 _ (by simp),i8 f (by simp)];simp [ie,Th.fl]
theorem yJ:∀(ws:List (List Nat)) {st st':List (List Th)},cZ ws st=some st'->AS st->st≠[]->AS st'/\jf st'=jf st++ws/\st'≠[]
 | [],st,st',e,k,n=>by cases e;exact⟨k,by simp,n⟩
 | w::ws,st,st',e,k,n=>by
  unfold cZ at e
  cases hs:i7 w st with
  | none=>rw [hs] at e;cases e
  | some st1 =>
   rw [hs] at e
   obtain⟨k1,f1,n1⟩:=Jf hs k
   obtain⟨k2,f2,n2⟩:=yJ ws e k1 n1
   exact⟨k2,by rw [f2,f1];simp,n2⟩
abbrev i9(ws:List (List Nat)):Option Tm:=match cZ ws [[]] with
 | some [[h]]=>cz h
 | _=>none
def Jg{ws:List (List Nat)}{t:Tm}(e:i9 ws=some t):t.ok/\t.tk=ws:=by
 unfold i9 at e
 split at e
 ·rename_i h hr
  obtain⟨k,f,_⟩:=yJ ws hr (λf hf h hh=>by rw [z15.mp hf] at hh;cases hh) (by simp)
  obtain⟨t1,t2⟩:=Je e (k [h] (by simp) h (by simp))
  refine⟨t1,?_⟩
  rw [t2]
  have:jf [[h]]=h.fl:=by simp [jf,ie]
  rw [<- this,f];simp [jf,ie]
 ·cases e
abbrev qm:Tm->Th
 | .num w=>.wd (dg w)
 | .cell x=>.wd x
 | t=>.tm t
def AU{t:Tm}(h:t.ok):cz (qm t)=some t:=by
 cases t with
 | num w=>show (if bF (dg w)=true then _ else _)=_;rw [yfa,if_neg (by decide),yH h];rfl
 | cell x=>show (if bF x=true then _ else _)=_;rw [if_pos (Nm.is h)]
 | at_ r t=>rfl
 | op s a b=>rfl
def kd{w:List Nat}{ws:List (List Nat)}{f:List Th}{r:List (List Th)}(h1:w≠[40])(h2:w≠[41]):cZ (w::ws) (f::r)=cZ ws ((f++[.wd w])::r):=by
 have e:i7 w (f::r)=some ((f++[.wd w])::r):=by unfold i7;dsimp only;rw [if_neg h1,if_neg h2]
 rw [cZ,e]
def yK{ws:List (List Nat)}{f:List Th}{r:List (List Th)}:cZ ([40]::ws) (f::r)=cZ ws ([]::f::r):=by
 have e:i7 [40] (f::r)=some ([]::f::r):=by unfold i7;dsimp only;rw [if_pos rfl]
 rw [cZ,e]
def yL{ws:List (List Nat)}{f g:List Th}{r:List (List Th)}{t:Tm}(h:gy f=some t):cZ ([41]::ws) (f::g::r)=cZ ws ((g++[.tm t])::r):=by
 have e:i7 [41] (f::g::r)=some ((g++[.tm t])::r):=by unfold i7;dsimp only;rw [if_neg (by decide),if_pos rfl,h];rfl
 rw [cZ,e]
def y98{x:List Nat}{t:Tm}(hx:Nm x)(ht:t.ok):gy [.wd [97,116],.wd x,qm t]=some (.at_ x t):=by
 unfold gy
 dsimp only
 rw [AU ht]
 dsimp only
 have:(if du (.wd [97,116]) then dY (.wd x) else none)=some x:=by
  rw [if_pos (by decide)];show (if bF x=true then _ else _)=_;rw [if_pos (Nm.is hx)]
 rw [this]
def yM{s:Nat}:([s] == ([97,116]:List Nat))=false:=by simp
def y9a{s:Nat}{a b:Tm}(hs:i4 s)(ha:a.ok)(hb:b.ok):gy [.wd [s],qm a,qm b]=some (.op s a b):=by
 unfold gy
 dsimp only
 rw [AU hb]
 dsimp only
 have:(if du (.wd [s])=true then dY (qm a) else none)=none:=if_neg (by show ¬ (([s] == ([97,116]:List Nat))=true);rw [yM];decide)
 rw [this]
 dsimp only
 have:cC (.wd [s])=some s:=by show (if qU s=true then _ else _)=_;rw [if_pos ((mO s).mpr hs)]
 rw [this,AU ha]
theorem mP:∀{t:Tm},t.ok->∀(ws:List (List Nat)) (f:List Th) (r:List (List Th)),cZ (t.tk++ws) (f::r)=cZ ws ((f++[qm t])::r)
 | .num w,h,ws,f,r=>kd (Ja w).1 (Ja w).2
 | .cell x,h,ws,f,r=>kd (Nm.ne h).1 (Nm.ne h).2
 | .at_ x t,h,ws,f,r=>by
  rw [Tm.tk]
  show cZ ([40]::([97,116]::(x::(t.tk++[[41]]++ws)))) (f::r)=_
  rw [yK,kd (by decide) (by decide),kd (Nm.ne h.1).1 (Nm.ne h.1).2,z2f,mP h.2]
  exact yL (y98 h.1 h.2)
 | .op s a b,h,ws,f,r=>by
  rw [Tm.tk]
  show cZ ([40]::([s]::(a.tk++b.tk++[[41]]++ws))) (f::r)=_
  rw [yK,kd (i4.ne h.1).1 (i4.ne h.1).2,z2f,z2f,mP h.2.1,mP h.2.2]
  exact yL (y9a h.1 h.2.1 h.2.2)
def Jh{t:Tm}(h:t.ok):i9 t.tk=some t:=by
 have e:=mP h [] [] []
 rw [z10] at e
 unfold i9
 rw [e]
 show cz (qm t)=some t
 exact AU h
end
section
variable {G:List M}
def qo{w:Wk}{g:GF}{b:SF}{i r:Nat}{Z Z1 Z2:De}{G G1 G2:List M}{d:I}{R:Option Fl}(h1:w.at_ i Z G=some d)(h2:g (.im d) Z G=some (Z1,G1))(h3:b Z1 G1=some (.nx Z2 G2))(h4:bB w g b (i+1) r Z2 G2=R):bB w g b i (r+1) Z G=R:=by
 unfold bB
 rw [h1];dsimp only;rw [h2];dsimp only;rw [h3];exact h4
def yN{w:Wk}{g:GF}{b:SF}{i r:Nat}{Z Z1:De}{G G1 G2:List M}{d:I}{x:Vl}(h1:w.at_ i Z G=some d)(h2:g (.im d) Z G=some (Z1,G1))(h3:b Z1 G1=some (.rt x G2)):bB w g b i (r+1) Z G=some (.rt x G2):=by
 unfold bB
 rw [h1];dsimp only;rw [h2];dsimp only;rw [h3]
def yO{w:Wk}{g:GF}{b:SF}{i:Nat}{Z:De}{G:List M}(h:w.fin Z G=true):bB w g b i 0 Z G=some (.nx Z G):=by
 unfold bB;rw [h];rfl
def Ji:∀c∈("0123456789" : Str).cps.toList,48≤c/\c≤57:=by decide +kernel
abbrev ig(c:Nat):Bool:=decide (48≤c)&&decide (c≤57)
def Jj{c:Nat}:ig c=true↔48≤c/\c≤57:=by unfold ig;rw [z1b,decide_eq_true_eq,decide_eq_true_eq]
def yfd(c:Nat):decide (c∈("0123456789" : Str).cps.toList)=ig c:=by
 by_cases h:48≤c/\c≤57
 ·obtain⟨k,rfl⟩:∃k,c=48+k:=⟨c-48,by lia⟩
  rw [decide_eq_true (yD k (by lia)),Jj.mpr h]
 ·have:ig c=false:=Bool.eq_false_iff.mpr λz=>h (Jj.mp z)
  rw [this]
  exact decide_eq_false λz=>h (Ji c z)
def Jk{x:I}{a c:Nat}(hc:ig c=false):xK [↑x,↑(.int (a:Int)),↑(.str (ah [c]))] G=some (.rt (.im .non) G):=by
 refine aZ (aU (Z1:=[↑x,↑(.int (a:Int)),↑(.str (ah [c]))]) (G1:=G) (aX (aw rfl rfl ?_)) rfl)
 show some (Ev.v (.im (.bl (!(gj ("0123456789" : Str) (ah [c]))))),_,G)=_
 rw [mJ,yfd,hc];rfl
theorem yP{x:List Nat}:∀(post pre:List Nat) (v2:Option Vl),x=pre++post->∃v2',bB (cL (ah x)) (aF 2) xK pre.length post.length [↑(.str (ah x)),↑(.int (vl 0 pre:Int)),v2] G=if post.all ig=true then some (.nx [↑(.str (ah x)),↑(.int (vl 0 x:Int)),v2'] G) else some (.rt (.im .non) G)
 | [],pre,v2,hx=>⟨v2,by rw [hx,z10];exact yO rfl⟩
 | c::post,pre,v2,hx=>by
  have ha:(cL (ah x)).at_ pre.length [↑(.str (ah x)),↑(.int (vl 0 pre:Int)),v2] G=some (.str (ah [c])):=by
   show ((ah x).cps[pre.length]?).map (λc=>I.str ⟨#[c]⟩)=_
   have:(ah x).cps[pre.length]?=some c:=by rw [hx];simp [ah]
   rw [this];rfl
  rw [List.all_cons]
  cases hc:ig c with
  | false=>exact⟨v2,by rw [Bool.false_and,if_neg (by decide)];exact yN (d:=.str (ah [c])) ha rfl (Jk hc)⟩
  | true =>
   obtain⟨v2',e⟩:=yP (x:=x) post (pre++[c]) ↑(.str (ah [c])) (by rw [hx];simp)
   refine⟨v2',?_⟩
   rw [Bool.true_and,<- e,zc,List.length_singleton]
   refine qo (d:=.str (ah [c])) ha rfl (IV (a:=vl 0 pre) (Jj.mp hc)) ?_
   rw [yF]
abbrev qp(x:List Nat):I:=if cO x=true then .int (vl 0 x:Int) else .non
def Jl{x:List Nat}(hl:x.length≤100000):AJ [.im (.str (ah x))] G=some (.im (qp x),G):=by
 have hn:(cL (ah x)).n=x.length:=by simp [cL,ah]
 have hl':(ah x).length≤1000000:=by rw [bE];lia
 cases x with
 | nil =>
  refine aJ rfl (aZ (aU (Z1:=[↑(.str (ah [])),none,none]) (G1:=G) (fG (aX (aw rfl rfl ?_))) rfl))
  rw [mK];simp! []
 | cons c r =>
  have n1:(ah (c::r) == ah [])=false:=by rw [dE];simp
  have ix:aI [⇑(.str (ah (c::r))),⇑(.int 0)] [↑(.str (ah (c::r))),none,none] G=some (⇑(.str (ah [c])),[↑(.str (ah (c::r))),none,none],G):=by
   have hc:cB (ah (c::r)).cps.toList 0=some c:=cN c r
   rw [show ah [c]=(⟨#[c]⟩:Str) from rfl]
   simp [aI,bR,eF,sq,pk,hc,hl']
  have t1:ao (ai a8 (aa 0) (ag (.str ""))) [↑(.str (ah (c::r))),none,none] G=some (false,[↑(.str (ah (c::r))),none,none],G):=aX (aw rfl rfl (by rw [mK];simp! [n1]))
  have t2:eO (ao (ai a8 (ai aI (aa 0) (ag (.int 0))) (ag (.str "0")))) (ao (ai gH (aa 0) (ag (.str "0")))) [↑(.str (ah (c::r))),none,none] G=some (!(c != 48||r.isEmpty),[↑(.str (ah (c::r))),none,none],G):=by
   by_cases hc:c=48
   ·subst hc
    refine kz (Z1:=[↑(.str (ah (48::r))),none,none]) (G1:=G) (aX (aw (aw rfl rfl ix) rfl (by rw [mL];simp! []))) (aX (aw rfl rfl ?_))
    rw [mL]
    cases r with
    | nil=>simp! []
    | cons a r' =>
     have n4:(ah (48::a::r') == ah [48])=false:=by rw [dE];simp
     simp! [n4]
   ·have n3:(ah [c] == ah [48])=false:=by rw [dE];simp [hc]
    have:(!(c != 48||r.isEmpty))=false:=by
     have:(c != 48)=true:=bne_iff_ne.mpr hc
     rw [this];rfl
    rw [this]
    exact pX (aX (aw (aw rfl rfl ix) rfl (by rw [mL];simp! [n3])))
  obtain⟨v2,ef⟩:=yP (x:=c::r) (G:=G) (c::r) [] none rfl
  have hb:cO (c::r)=((c != 48||r.isEmpty)&&(c::r).all ig):=rfl
  unfold qp
  cases h1:(c != 48||r.isEmpty) with
  | false =>
   rw [hb,h1,Bool.false_and,if_neg (by decide)]
   rw [h1] at t2
   exact aJ rfl (aZ (aU (b6 t1 t2) rfl))
  | true =>
   rw [h1] at t2
   rw [hb,h1,Bool.true_and]
   have sk:aE (dA (ao (ai a8 (aa 0) (ag (.str "")))) (eO (ao (ai a8 (ai aI (aa 0) (ag (.int 0))) (ag (.str "0")))) (ao (ai gH (aa 0) (ag (.str "0")))))) (ax (ag .non)) aO [↑(.str (ah (c::r))),none,none] G=some (.nx [↑(.str (ah (c::r))),none,none] G):=aK (b6 t1 t2) rfl
   have fo:=gq (f:=cG (one (aa 0)) eI) (g:=aF 2) (b:=xK) (r:=if (c::r).all ig=true then some (.nx [↑(.str (ah (c::r))),↑(.int (vl 0 (c::r):Int)),v2] G) else some (.rt (.im .non) G)) (j4 (fa:=one (aa 0)) (Z:=[↑(.str (ah (c::r))),↑(.int 0),none]) (G:=G) (Z1:=[↑(.str (ah (c::r))),↑(.int 0),none]) (G1:=G) (es:=[⇑(.str (ah (c::r)))]) (w:=cL (ah (c::r))) (p:=eI) rfl rfl) (by rw [hn];exact ef)
   cases h2:(c::r).all ig with
   | false =>
    rw [h2,if_neg (by decide)] at fo
    rw [if_neg (by decide)]
    exact aJ rfl (aj sk (aj (Z1:=[↑(.str (ah (c::r))),↑(.int 0),none]) (G1:=G) rfl (aZ fo)))
   | true =>
    rw [h2,if_pos rfl] at fo
    rw [if_pos rfl]
    exact aJ rfl (aj sk (aj (Z1:=[↑(.str (ah (c::r))),↑(.int 0),none]) (G1:=G) rfl (aj fo rfl)))
abbrev br{α:Type}(f:α->I):Option α->I
 | none=>.non
 | some a=>f a
def Jm{x:List Nat}(hl:x.length≤100000):pU [.im (.str (ah x))] G=some (.im (br (λw:Nat=>.int (w:Int)) (gx x)),G):=by
 have e:=Jl (G:=G) hl
 unfold qp at e
 unfold gx
 by_cases hb:cO x=true
 ·rw [if_pos hb] at e
  by_cases hv:vl 0 x<4294967296
  ·rw [if_pos ⟨hb,hv⟩]
   have h:¬ (4294967296:Int)≤(vl 0 x:Int):=by lia
   simp! [pU,e,h,br]
  ·rw [if_neg (λz=>hv z.2)]
   have h:(4294967296:Int)≤(vl 0 x:Int):=by lia
   simp! [pU,e,h,br]
 ·rw [if_neg hb] at e
  rw [if_neg (λz=>hb z.1)]
  simp! [pU,e,br]
abbrev Th.len:Th->Prop
 | .wd x=>x.length≤100000
 | .tm _=>True
def Jn{h:Th}(hl:h.len):fF [.im h.i] G=some (.im (br Tm.i (cz h)),G):=by
 cases h with
 | tm t =>
  show fF [.im t.i] G=some (.im t.i,G)
  obtain⟨xs,hx⟩:=t.y1c0
  rw [hx]
  simp! [fF,dD,l9,eK]
 | wd x =>
  have e1:=yC (x:=x) (G:=G) hl
  have e2:=Jm (x:=x) (G:=G) hl
  show fF [.im (.str (ah x))] G=_
  unfold cz
  dsimp only
  cases hn:bF x with
  | true =>
   rw [hn] at e1
   simp! [fF,dD,l9,eK,e1,br,Tm.i]
  | false =>
   rw [hn] at e1
   cases hv:gx x with
   | none =>
    rw [hv] at e2
    simp! [fF,dD,l9,eK,e1,e2,br]
   | some w =>
    rw [hv] at e2
    simp! [fF,dD,l9,eK,e1,e2,br,Tm.i]
def Jo{h:Th}(hl:h.len):ky [.im h.i] G=some (.im (.bl (dY h).isSome),G):=by
 cases h with
 | tm t =>
  obtain⟨xs,hx⟩:=t.y1c0
  show ky [.im t.i] G=_
  rw [hx]
  simp! [ky,dD,l9,eK,fz,dY]
 | wd x =>
  have e1:=yC (x:=x) (G:=G) hl
  show ky [.im (.str (ah x))] G=_
  cases hn:bF x with
  | true =>
   rw [hn] at e1
   simp! [ky,dD,l9,eK,fz,dY,hn,e1]
  | false =>
   rw [hn] at e1
   simp! [ky,dD,l9,eK,fz,dY,hn,e1]
end
section
variable {G:List M}
def yQ{Z:De}(a:Th):a8 [⇑a.i,⇑(.str "at")] Z G=some (⇑(.bl (du a)),Z,G):=by
 cases a with
 | wd x =>
  show a8 [⇑(.str (ah x)),_] Z G=_
  have:(ah x == ah [97,116])=(x == [97,116]):=by rw [dE];by_cases h:x=[97,116]<;>simp [h]
  rw [IX]
  simp only [a8,eQ,dQ,b9,dI,bK,bq,du,this];rfl
 | tm t =>
  obtain⟨xs,hx⟩:=t.y1c0
  show a8 [⇑t.i,_] Z G=_
  rw [hx];rfl
def Jp:([("+" : Str),"-","*","<","="]:List Str)=[ah [43],ah [45],ah [42],ah [60],ah [61]]:=by decide +kernel
def yR(x:List Nat):((List.map I.str ["+","-","*","<","="]).any λz=>bq z (.str (ah x)))=(cC (.wd x)).isSome:=by
 rw [Jp]
 simp only [z19,List.map_nil,List.any_cons,List.any_nil,bq,dE]
 match x with
 | []=>rfl
 | [s] =>
  unfold cC qU
  by_cases h1:s=43
  ·subst h1;rfl
  ·by_cases h2:s=45
   ·subst h2;rfl
   ·by_cases h3:s=42
    ·subst h3;rfl
    ·by_cases h4:s=60
     ·subst h4;rfl
     ·by_cases h5:s=61
      ·subst h5;rfl
      ·have n:∀k:Nat,s≠k->decide (([k]:List Nat)=[s])=false:=λk hk=>decide_eq_false λz=>hk (by cases z;rfl)
       have m:∀k:Nat,s≠k->(s == k)=false:=λk hk=>beq_eq_false_iff_ne.mpr hk
       dsimp only
       rw [n 43 h1,n 45 h2,n 42 h3,n 60 h4,n 61 h5,m 43 h1,m 45 h2,m 42 h3,m 60 h4,m 61 h5];rfl
 | a::b::r=>simp [cC]
def yS{Z:De}(a:Th):gn [⇑a.i,⇑(.con (List.map I.str ["+","-","*","<","="]))] Z G=some (⇑(.bl (cC a).isSome),Z,G):=by
 cases a with
 | wd x =>
  show gn [⇑(.str (ah x)),_] Z G=_
  unfold gn bR ip
  dsimp only [sq]
  rw [if_pos (show (bK (.str (ah x))&&(List.map I.str [("+" : Str),"-","*","<","="]).all bK)=true from rfl)]
  dsimp only
  rw [yR];rfl
 | tm t =>
  obtain⟨xs,hx⟩:=t.y1c0
  show gn [⇑t.i,_] Z G=_
  rw [hx];rfl
abbrev b3(k:Nat)(v1 v2:Option Vl):De:=[↑(.ref k),v1,v2]
def ke(o:Option Tm):(o=none/\br Tm.i o=.non)∨∃t xs,o=some t/\br Tm.i o=.tup xs/\t.i=.tup xs:=by
 cases o with
 | none=>exact .inl ⟨rfl,rfl⟩
 | some t =>
  obtain⟨xs,hx⟩:=t.y1c0
  exact .inr ⟨t,xs,rfl,hx,hx⟩
def y97{k:Nat}{f:List Th}(hk:G[k]?=some (.lst (f.map Th.i)))(hl:∀h∈f,h.len)(hn:f.length≤100000):xM [.im (.ref k)] G=some (.im (br Tm.i (gy f)),G):=by
 have tl:ao (ai gH (bd (af (aa 0) ae) aH) (ag (.int 3))) (b3 k none none) G=some (!decide (f.length=3),b3 k none none,G):=by
  refine aX (aw (x:=⇑(.int f.length)) (y:=⇑(.int 3)) (Z1:=b3 k none none) (G1:=G) (aq (a:=[⇑(.ref k)]) (Z1:=b3 k none none) (G1:=G) (aq rfl rfl) (by simp [aH,sq,pk,hk])) rfl ?_)
  by_cases h:f.length=3
  ·rw [h];rfl
  ·have h':((f.length:Int) == 3)=false:=beq_eq_false_iff_ne.mpr (by lia)
   rw [decide_eq_false h]
   simp [gH,eQ,dQ,b9,dI,bK,bq,h']
 by_cases h3:f.length=3
 ·rw [decide_eq_true h3] at tl
  match f,h3 with
  | [a,b,c],_ =>
  have la:=hl a (by simp)
  have lb:=hl b (by simp)
  have lc:=hl c (by simp)
  have ea:=Jn (G:=G) lc
  have eb:=Jn (G:=G) lb
  have en:=Jo (G:=G) lb
  have x0:∀v1 v2,ai aI (aa 0) (ag (.int 0)) (b3 k v1 v2) G=some (⇑a.i,b3 k v1 v2,G):=λv1 v2=>aw (x:=⇑(.ref k)) (y:=⇑(.int 0)) rfl rfl (by
   have:=cN a.i [b.i,c.i]
   simp [aI,bR,eF,sq,pk,hk,this])
  have x1:∀v1 v2,ai aI (aa 0) (ag (.int 1)) (b3 k v1 v2) G=some (⇑b.i,b3 k v1 v2,G):=λv1 v2=>aw (x:=⇑(.ref k)) (y:=⇑(.int 1)) rfl rfl (by
   have:=iu a.i b.i [c.i]
   simp [aI,bR,eF,sq,pk,hk,this])
  have x2:∀v1 v2,ai aI (aa 0) (ag (.int 2)) (b3 k v1 v2) G=some (⇑c.i,b3 k v1 v2,G):=λv1 v2=>aw (x:=⇑(.ref k)) (y:=⇑(.int 2)) rfl rfl (by
   have:=qT a.i b.i c.i []
   simp [aI,bR,eF,sq,pk,hk,this])
  have s2:aM (bd (af (ai aI (aa 0) (ag (.int 2))) ae) (aA 1 fF)) (aF 1) (b3 k none none) G=some (.nx (b3 k ↑(br Tm.i (cz c)) none) G):=bA (aq (aq (x2 none none) rfl) (bX (xs:=[.im c.i]) rfl rfl ea)) rfl
  unfold gy
  dsimp only
  rcases ke (cz c) with⟨o1,o2⟩| ⟨last,ls,o1,o2,o3⟩
  ·rw [o2] at s2
   rw [o1]
   exact aJ rfl (aj (aK tl rfl) (aj s2 (aZ (aU (Z1:=b3 k ↑.non none) (G1:=G) rfl rfl))))
  ·rw [o2] at s2
   rw [o1]
   dsimp only
   have t3:aE (ao (a6 (eP true) (aa 1))) (ax (ag .non)) aO (b3 k ↑(.tup ls) none) G=some (.nx (b3 k ↑(.tup ls) none) G):=aK (Z1:=b3 k ↑(.tup ls) none) (G1:=G) rfl rfl
   have c1:ao (ai a8 (ai aI (aa 0) (ag (.int 0))) (ag (.str "at"))) (b3 k ↑(.tup ls) none) G=some (du a,b3 k ↑(.tup ls) none,G):=aX (aw (x0 _ _) rfl (yQ a))
   have c2:bd (bd (af (ai aI (aa 0) (ag (.int 1))) ae) (aA 1 ky)) cH (b3 k ↑(.tup ls) none) G=some ((dY b).isSome,b3 k ↑(.tup ls) none,G):=aq (aq (aq (x1 _ _) rfl) (bX (xs:=[.im b.i]) rfl rfl en)) rfl
   have s5:aM (bd (af (ai aI (aa 0) (ag (.int 1))) ae) (aA 1 fF)) (aF 2) (b3 k ↑(.tup ls) none) G=some (.nx (b3 k ↑(.tup ls) ↑(br Tm.i (cz b))) G):=bA (aq (aq (x1 _ _) rfl) (bX (xs:=[.im b.i]) rfl rfl eb)) rfl
   have aG:ak (aM (bd (af (ai aI (aa 0) (ag (.int 1))) ae) (aA 1 fF)) (aF 2))
     (ak (aE (eO (ao (ai gn (ai aI (aa 0) (ag (.int 0))) (ag (.con (List.map I.str ["+","-","*","<","="]))))) (ao (a6 (eP false) (aa 2))))
      (ax (bd (af (ag (.str "op")) (af (ai aI (aa 0) (ag (.int 0))) (af (aa 2) (af (aa 1) ae)))) b8)) aO) (ax (ag .non))) (b3 k ↑(.tup ls) none) G=some (.rt (.im (br Tm.i (match cC a,cz b with|some s,some first=>some (Tm.op s first last)|_,_=>none))) G):=by
    refine aj s5 ?_
    have c3:∀v2,ao (ai gn (ai aI (aa 0) (ag (.int 0))) (ag (.con (List.map I.str ["+","-","*","<","="])))) (b3 k ↑(.tup ls) v2) G=some ((cC a).isSome,b3 k ↑(.tup ls) v2,G):=λv2=>aX (aw (x0 _ _) rfl (yS a))
    rcases ke (cz b) with⟨p1,p2⟩| ⟨first,fs,p1,p2,p3⟩
    ·rw [p2,p1]
     cases hs:cC a with
     | none =>
      have c3:=c3 ↑.non;rw [hs] at c3
      exact aj (aK (pX c3) rfl) rfl
     | some s =>
      have c3:=c3 ↑.non;rw [hs] at c3
      exact aj (aK (kz c3 (Z1:=b3 k ↑(.tup ls) ↑.non) (G1:=G) rfl) rfl) rfl
    ·rw [p2,p1]
     cases hs:cC a with
     | none =>
      have c3:=c3 ↑(.tup fs);rw [hs] at c3
      exact aj (aK (pX c3) rfl) rfl
     | some s =>
      have c3:=c3 ↑(.tup fs);rw [hs] at c3
      have hai:a.i=.str (ah [s]):=by
       cases a with
       | tm t=>cases hs
       | wd x =>
        unfold cC at hs
        split at hs
        ·rename_i s' hx
         split at hs
         ·cases hs;cases hx;rfl
         ·cases hs
        ·cases hs
      have x0':=x0 ↑(.tup ls) ↑(.tup fs)
      rw [hai] at x0'
      refine aZ (aU (kz c3 (Z1:=b3 k ↑(.tup ls) ↑(.tup fs)) (G1:=G) rfl) (aV (Z1:=b3 k ↑(.tup ls) ↑(.tup fs)) ?_))
      show bd _ b8 _ G=some (⇑(.tup [.str "op",.str (ah [s]),first.i,last.i]),_,G)
      rw [p3,o3]
      exact aq (aq (a:=⇑(.str "op")) rfl (aq (aq x0' (aq (a:=[⇑(.tup fs),⇑(.tup ls)]) rfl rfl)) rfl)) rfl
   cases hA:du a with
   | false =>
    rw [hA] at c1
    rw [if_neg (by decide)]
    exact aJ rfl (aj (aK tl rfl) (aj s2 (aj t3 (aj (aK (pX c1) rfl) aG))))
   | true =>
    rw [hA] at c1
    rw [if_pos rfl]
    cases hN:dY b with
    | none =>
     rw [hN] at c2
     exact aJ rfl (aj (aK tl rfl) (aj s2 (aj t3 (aj (aK (kz c1 c2) rfl) aG))))
    | some x =>
     rw [hN] at c2
     have hbi:b.i=.str (ah x):=by
      cases b with
      | tm t=>cases hN
      | wd y =>
       unfold dY at hN
       dsimp only at hN
       split at hN
       ·cases hN;rfl
       ·cases hN
     have x1':=x1 ↑(.tup ls) none
     rw [hbi] at x1'
     refine aJ rfl (aj (aK tl rfl) (aj s2 (aj t3 (aZ (aU (kz c1 c2) (aV (Z1:=b3 k ↑(.tup ls) none) ?_))))))
     show bd _ b8 _ G=some (⇑(.tup [.str "at",.str (ah x),last.i]),_,G)
     rw [o3]
     exact aq (aq (a:=⇑(.str "at")) rfl (aq (aq x1' (aq (a:=[⇑(.tup ls)]) rfl rfl)) rfl)) rfl
 ·rw [decide_eq_false h3] at tl
  have:gy f=none:=by
   unfold gy
   split
   ·exact absurd rfl h3
   ·rfl
  rw [this]
  exact aJ rfl (aZ (aU tl rfl))
end
section
abbrev Rl(G:List M):List Nat->List (List Th)->Prop
 | [],[]=>True
 | k::ks,f::st=>G[k]?=some (.lst (f.map Th.i))/\Rl G ks st
 | _,_=>False
theorem Rl.mono{G G':List M}:∀{ks:List Nat} {st:List (List Th)},Rl G ks st->(∀k∈ks,G'[k]?=G[k]?)->Rl G' ks st
 | [],[],_,_=>trivial
 | k::ks,f::st,h,e=>⟨(e k List.mem_cons_self).trans h.1,h.2.mono λj hj=>e j (z21 _ hj)⟩
 | [],_::_,h,_=>h.elim
 | _::_,[],h,_=>h.elim
theorem Rl.lt{G:List M}:∀{ks:List Nat} {st:List (List Th)},Rl G ks st->∀k∈ks,k<G.length
 | [],[],_,k,h=>by cases h
 | j::ks,f::st,r,k,h=>by
  rcases z1d.mp h with rfl|h
  ·exact (z1a.mp r.1).1
  ·exact r.2.lt k h
 | [],_::_,r,_,_=>r.elim
 | _::_,[],r,_,_=>r.elim
abbrev jg(st:List (List Th)):Nat:=(st.map List.length).sum
abbrev Jq(st:List (List Th)):Prop:=∀f∈st,∀h∈f,h.len
abbrev dF(B G:List M):Prop:=B.length≤G.length/\∀k,k<B.length->G[k]?=B[k]?
def dF.refl(B:List M):dF B B:=⟨z12 _,λ_ _=>rfl⟩
theorem dF.trans{A B C:List M}(x:dF A B)(y:dF B C):dF A C:=⟨z1c x.1 y.1,λk h=>(y.2 k (z1f h x.1)).trans (x.2 k h)⟩
def dF.app{B G:List M}(x:dF B G)(T:List M):dF B (G++T):=⟨by rw [zc];have:=x.1;lia,λk h=>by rw [z25 (z1f h x.1)];exact x.2 k h⟩
theorem dF.set{B G:List M}(x:dF B G){k:Nat}(h:B.length≤k)(m:M):dF B (G.set k m):=⟨by rw [z29];exact x.1,λj hj=>by rw [z26 (by lia)];exact x.2 j hj⟩
structure Sk(B:List M)(G:List M)(kw:Nat)(W:List (List Nat))(ks:List Nat)(st:List (List Th)):Prop where
 r:Rl G ks st
 nd:ks.Nodup
 nw:kw∉ks
 w:G[kw]?=some (.lst (W.map wI))
 l:Jq st
 fr:dF B G
 ge:∀k∈ks,B.length≤k
abbrev fJ(ks:List Nat):List I:=ks.reverse.map I.ref
def kf(k:Nat)(ks:List Nat):fJ (k::ks)=fJ ks++[.ref k]:=by simp [fJ]
def qq(ks:List Nat):(fJ ks).length=ks.length:=by simp [fJ]
abbrev t5(kw:Nat)(ks:List Nat)(v2 v3 v4:Option Vl):De:=[↑(.ref kw),↥(fJ ks),v2,v3,v4]
theorem Rl.len{G:List M}:∀{ks:List Nat} {st:List (List Th)},Rl G ks st->ks.length=st.length
 | [],[],_=>rfl
 | k::ks,f::st,h=>by rw [z18,z18,h.2.len]
 | [],_::_,h=>h.elim
 | _::_,[],h=>h.elim
def Jr{B G:List M}{kw:Nat}{W:List (List Nat)}{ks:List Nat}{st:List (List Th)}{w:List Nat}{v3 v4:Option Vl}(s:Sk B G kw W ks st)(hw:w.length≤100000)(hn:st.length+jg st≤50000)(ne:st≠[]) :
  ∃(ks':List Nat) (v3':Option Vl) (G':List M),(match i7 w st with
   | some st'=>ny (t5 kw ks ↑(.str (ah w)) v3 v4) G=some (.nx (t5 kw ks' ↑(.str (ah w)) v3' v4) G')/\Sk B G' kw W ks' st'/\st'.length+jg st'≤st.length+jg st+1/\st'≠[]
   | none=>ny (t5 kw ks ↑(.str (ah w)) v3 v4) G=some (.rt (.im .non) G')/\dF B G'):=by
 have hlen:=s.r.len
 match ks,st,s with
 | [],[],_=>exact absurd rfl ne
 | [],_::_,s=>exact s.r.elim
 | _::_,[],s=>exact s.r.elim
 | k::ks,f::r,s =>
  have hf:f.length≤50000:=by simp [jg] at hn;lia
  unfold i7
  dsimp only
  by_cases h1:w=[40]
  ·subst h1
   rw [if_pos rfl]
   refine⟨G.length::k::ks,v3,G++[M.lst []],?_,?_,?_,by simp⟩
   ·have:=IZ (v0:=↑(.ref kw)) (v3:=v3) (v4:=v4) (ns:=fJ (k::ks)) (G:=G) (by rw [qq,hlen];lia)
    rw [<- kf] at this
    exact this
   ·have lt:=s.r.lt
    have kl:=(z1a.mp s.w).1
    refine⟨⟨by simp,s.r.mono λj hj=>z25 (lt j hj)⟩,List.nodup_cons.mpr ⟨λhm=>absurd (lt _ hm) (by lia),s.nd⟩,λhm=>?_,by rw [z25 kl];exact s.w,λx hx=>?_,?_,λx hx=>?_⟩
    ·rcases z1d.mp hm with z|z
     ·lia
     ·exact s.nw z
    ·rcases z1d.mp hx with rfl|hx
     ·intro h hh;cases hh
     ·exact s.l x hx
    ·exact s.fr.app _
    ·rcases z1d.mp hx with rfl|hx
     ·exact s.fr.1
     ·exact s.ge x hx
   ·simp [jg];lia
  ·rw [if_neg h1]
   by_cases h2:w=[41]
   ·subst h2
    rw [if_pos rfl]
    have hb:=y97 (G:=G) (k:=k) (f:=f) s.r.1 (s.l f (by simp)) (by lia)
    have q1:(ah [41] == ah [40])=false:=by rw [dE];simp
    have hp:(fJ (k::ks))[(fJ (k::ks)).length-1]?=some (.ref k):=by rw [kf];simp
    have hd:(fJ (k::ks)).dropLast=fJ ks:=by rw [kf];exact List.dropLast_concat
    have pop:aM (bd (af (a6 fw (aa 1)) ae) (aA 1 xM)) (aF 3) (t5 kw (k::ks) ↑(.str (ah [41])) v3 v4) G=some (.nx (t5 kw ks ↑(.str (ah [41])) ↑(br Tm.i (gy f)) v4) G):=by
     refine bA (x:=.im (br Tm.i (gy f))) (Z1:=t5 kw ks ↑(.str (ah [41])) v3 v4) (G1:=G) (aq (aq (a:=⇑(.ref k)) (Z1:=t5 kw ks ↑(.str (ah [41])) v3 v4) (G1:=G) (hG rfl ?_) rfl) (bX (xs:=[.im (.ref k)]) rfl rfl hb)) rfl
     unfold t5
     generalize fJ (k::ks)=zs at hp hd ⊢
     show (match zs[zs.length-1]? with|some d=>some (Ev.v (.im d),([some (Vl.im (.ref kw)),some (Vl.ow (.lst zs.dropLast)),some (Vl.im (.str (ah [41]))),v3,v4]:De),G)|none=>none)=_
     rw [hp,hd]
    have head:∀{R:Option Fl},ak (aE (dA (ao (a6 (eP true) (aa 3))) (ao (ai a8 (bd (af (aa 1) ae) aH) (ag (.int 0))))) (ax (ag .non)) aO) (cW (iP g8 (ai aI (aa 1) (a6 cX (ag (.int 1)))) (af (aa 3) ae))) (t5 kw ks ↑(.str (ah [41])) ↑(br Tm.i (gy f)) v4) G=R->ny (t5 kw (k::ks) ↑(.str (ah [41])) v3 v4) G=R:=λ{R} h =>
     aK (Z1:=t5 kw (k::ks) ↑(.str (ah [41])) v3 v4) (G1:=G) (aX (aw (x:=⇑(.str (ah [41]))) (y:=⇑(.str "(")) rfl rfl (by rw [i6];simp [a8,eQ,dQ,b9,dI,bK,bq,q1]))) (aU (Z1:=t5 kw (k::ks) ↑(.str (ah [41])) v3 v4) (G1:=G) (aX (aw (x:=⇑(.str (ah [41]))) (y:=⇑(.str ")")) rfl rfl (by rw [hZ];simp [a8,eQ,dQ,b9,dI,bK,bq]))) (aj pop h))
    rcases ke (gy f) with⟨o1,o2⟩| ⟨t,xs,o1,o2,o3⟩
    ·rw [o1]
     rw [o2] at head
     have hh:=head (aZ (aU (Z1:=t5 kw ks ↑(.str (ah [41])) ↑.non v4) (G1:=G) (fG (aX rfl)) rfl))
     cases r with
     | nil=>exact⟨ks,v3,G,hh,s.fr⟩
     | cons g r'=>exact⟨ks,v3,G,hh,s.fr⟩
    ·rw [o1]
     rw [o2] at head
     have tn:ao (a6 (eP true) (aa 3)) (t5 kw ks ↑(.str (ah [41])) ↑(.tup xs) v4) G=some (false,t5 kw ks ↑(.str (ah [41])) ↑(.tup xs) v4,G):=rfl
     have tl:ao (ai a8 (bd (af (aa 1) ae) aH) (ag (.int 0))) (t5 kw ks ↑(.str (ah [41])) ↑(.tup xs) v4) G=some (decide (ks.length=0),t5 kw ks ↑(.str (ah [41])) ↑(.tup xs) v4,G):=by
      refine aX (aw (x:=⇑(.int ks.length)) (y:=⇑(.int 0)) (Z1:=t5 kw ks ↑(.str (ah [41])) ↑(.tup xs) v4) (G1:=G) (aq (aq (a:=.s 1) rfl rfl) ?_) rfl ?_)
      ·have:=qq ks
       unfold t5
       generalize fJ ks=zs at this
       simp [aH,sq,pk,this]
      ·by_cases hz:ks.length=0
       ·rw [hz];rfl
       ·have hz':((ks.length:Int) == 0)=false:=beq_eq_false_iff_ne.mpr (by lia)
        rw [decide_eq_false hz]
        simp [a8,eQ,dQ,b9,dI,bK,bq,hz']
     match r,ks,s with
     | [],[],s=>exact⟨[],v3,G,head (aZ (aU (b6 tn tl) rfl)),s.fr⟩
     | [],_::_,s=>exact s.r.2.elim
     | _::_,[],s=>exact s.r.2.elim
     | g::r',k2::ks',s =>
      have hg:g.length≤50000:=by simp [jg] at hn;lia
      have al:=y7d (fJ ks') (.ref k2)
      rw [<- kf] at al
      have hgl:(g.map Th.i).length<1000000:=by rw [z11];lia
      have kk:k2<G.length:=(z1a.mp s.r.2.1).1
      have nd2:=(List.nodup_cons.mp s.nd).2
      have ap:cW (iP g8 (ai aI (aa 1) (a6 cX (ag (.int 1)))) (af (aa 3) ae)) (t5 kw (k2::ks') ↑(.str (ah [41])) ↑(.tup xs) v4) G=some (.nx (t5 kw (k2::ks') ↑(.str (ah [41])) ↑(.tup xs) v4) (G.set k2 (.lst (g.map Th.i++[.tup xs])))):=by
       refine pW (e:=⇑.non) (HK (e:=⇑(.ref k2)) (Z1:=t5 kw (k2::ks') ↑(.str (ah [41])) ↑(.tup xs) v4) (G1:=G) (aw (x:=.s 1) (y:=⇑(.int (-1))) rfl rfl ?_) (by simp [fu,pk,s.r.2.1]) (aq (a:=⇑(.tup xs)) rfl rfl) ?_)
       ·unfold t5
        generalize fJ (k2::ks')=zs at al
        simp [aI,bR,eF,sq,pk,al]
       ·have h0:=s.r.2.1
        generalize g.map Th.i=zs at h0 hgl
        simp [g8,pk,il,h0,hgl]
      refine⟨k2::ks',_,_,head (aj (aK (b6 tn tl) rfl) ap),?_,?_,by simp⟩
      ·refine⟨⟨?_,s.r.2.2.mono λj hj=>z26 (λz=>(List.nodup_cons.mp nd2).1 (by rw [z];exact hj))⟩,nd2,λhm=>s.nw (z21 _ hm),?_,λx hx=>?_,s.fr.set (s.ge _ (by simp)) _,λj hj=>s.ge j (z21 _ hj)⟩
       ·rw [List.getElem?_set_self kk,z27]
        show some (M.lst (g.map Th.i++[.tup xs]))=some (M.lst (g.map Th.i++[t.i]))
        rw [o3]
       ·rw [z26 (λz=>s.nw (by rw [<- z];simp))];exact s.w
       ·rcases z1d.mp hx with rfl|hx
        ·intro h hh
         rcases z1e.mp hh with hh|hh
         ·exact s.l g (by simp) h hh
         ·rw [z15.mp hh];trivial
        ·exact s.l x (by simp [hx])
      ·simp [jg];lia
   ·rw [if_neg h2]
    have kk:k<G.length:=(z1a.mp s.r.1).1
    refine⟨k::ks,v3,G.set k (.lst (f.map Th.i++[.str (ah w)])),?_,?_,?_,by simp⟩
    ·have:=I0 (v0:=↑(.ref kw)) (v3:=v3) (v4:=v4) (ps:=fJ ks) (xs:=f.map Th.i) (top:=k) (x:=w) (G:=G) h1 h2 s.r.1 (by rw [z11];lia)
     rw [<- kf] at this
     exact this
    ·refine⟨⟨?_,s.r.2.mono λj hj=>z26 (λz=>(List.nodup_cons.mp s.nd).1 (by rw [z];exact hj))⟩,s.nd,s.nw,?_,λx hx=>?_,s.fr.set (s.ge _ (by simp)) _,s.ge⟩
     ·rw [List.getElem?_set_self kk,z27];rfl
     ·rw [z26 (λz=>s.nw (by rw [<- z];simp))];exact s.w
     ·rcases z1d.mp hx with rfl|hx
      ·intro h hh
       rcases z1e.mp hh with hh|hh
       ·exact s.l f (by simp) h hh
       ·rw [z15.mp hh];exact hw
      ·exact s.l x (by simp [hx])
    ·simp [jg];lia
theorem yT{B:List M}{kw:Nat}{W:List (List Nat)}(hW:∀w∈W,w.length≤100000):∀(post pre:List (List Nat)) {ks:List Nat} {st:List (List Th)} {v2 v3:Option Vl} {G:List M},W=pre++post->Sk B G kw W ks st->st.length+jg st+post.length≤50000->st≠[] ->
  ∃(ks':List Nat) (v2' v3':Option Vl) (G':List M),(match cZ post st with
   | some st'=>bB (cj ⇑(.ref kw) W.length) (aF 2) ny pre.length post.length (t5 kw ks v2 v3 none) G=some (.nx (t5 kw ks' v2' v3' none) G')/\Sk B G' kw W ks' st'/\st'.length+jg st'≤50000/\st'≠[]
   | none=>bB (cj ⇑(.ref kw) W.length) (aF 2) ny pre.length post.length (t5 kw ks v2 v3 none) G=some (.rt (.im .non) G')/\dF B G')
 | [],pre,ks,st,v2,v3,G,hx,s,hn,ne=>⟨ks,v2,v3,G,yO (by simp [cj,sq,pk,s.w]),s,by simpa using hn,ne⟩
 | w::post,pre,ks,st,v2,v3,G,hx,s,hn,ne=>by
  have ha:(cj ⇑(.ref kw) W.length).at_ pre.length (t5 kw ks v2 v3 none) G=some (.str (ah w)):=by
   have:sq (t5 kw ks v2 v3 none) G ⇑(.ref kw)=some (W.map wI):=by simp [sq,pk,s.w]
   show (sq _ G _).bind (·[pre.length]?)=_
   rw [this]
   show (W.map wI)[pre.length]?=_
   rw [hx];simp [wI]
  rw [z18] at hn
  obtain⟨ks',v3',G',ht⟩:=Jr (v3:=v3) (v4:=none) s (hW w (by rw [hx];simp)) (by lia) ne
  rw [cZ]
  cases hs:i7 w st with
  | none =>
   rw [hs] at ht
   exact⟨ks,v2,v3,G',yN (d:=.str (ah w)) ha rfl ht.1,ht.2⟩
  | some st' =>
   rw [hs] at ht
   obtain⟨e1,s1,n1,ne1⟩:=ht
   obtain⟨ks2,w2,w3,G2,h2⟩:=yT hW post (pre++[w]) (v2:=↑(.str (ah w))) (v3:=v3') (by rw [hx];simp) s1 (by lia) ne1
   refine⟨ks2,w2,w3,G2,?_⟩
   dsimp only
   rw [zc,List.length_singleton] at h2
   cases hr:cZ post st' with
   | none =>
    rw [hr] at h2
    exact⟨qo (d:=.str (ah w)) ha rfl e1 h2.1,h2.2⟩
   | some st2 =>
    rw [hr] at h2
    exact⟨qo (d:=.str (ah w)) ha rfl e1 h2.1,h2.2⟩
end
section
abbrev dG:List (List Th)->Option (List I)
 | [f]=>if f.all (λh=>(cz h).isSome)=true then some (f.map λh=>br Tm.i (cz h)) else none
 | _=>none
abbrev AV:Option (List I)->Vl
 | none=>.im .non
 | some ys=>.ow (.lst ys)
def ycb{G:List M}{k:Nat}{f:List Th}{Z:De}(hk:G[k]?=some (.lst (f.map Th.i)))(hl:∀h∈f,h.len):eD (cj ⇑(.ref k) f.length) c1 bS (bd (af (aa 0) ae) (aA 1 fF)) [] 0 f.length [] Z G=some (f.map λh=>br Tm.i (cz h),G):=by
 obtain⟨ds,G',e2,ed,eg⟩:=qa (w:=cj ⇑(.ref k) f.length) (c:=c1) (tt:=bS) (te:=bd (af (aa 0) ae) (aA 1 fF)) (di:=[]) (Z:=Z) (λi acc G'=>acc=(f.take i).map (λh=>br Tm.i (cz h))/\G'=G)
  (λi acc g hi zz=>by
   obtain⟨ea,eg⟩:=zz
   have hi:i<f.length:=hi
   subst eg
   refine⟨f[i].i,[f[i].i],_,_,br Tm.i (cz f[i]),[↑f[i].i],g,by simp [cj,sq,pk,hk,hi],rfl,rfl,aq (aq rfl rfl) (bX (xs:=[.im f[i].i]) rfl rfl (Jn (hl _ (z31 hi)))),?_,rfl⟩
   rw [ea,List.take_add_one,z16 hi,z27];rfl)
  (λ_ _ p=>by obtain⟨_,rfl⟩:=p;simp [cj,sq,pk,hk]) f.length 0 [] G (by show 0+f.length=f.length;lia) ⟨by simp,rfl⟩
 have ed:ds=(f.take f.length).map λh=>br Tm.i (cz h):=ed
 rw [List.take_length] at ed
 rw [ed,eg] at e2
 exact e2
theorem Rl.last{G:List M}:∀{ks:List Nat} {st:List (List Th)},Rl G ks st->st≠[]->∃k ki f si,ks=ki++[k]/\st=si++[f]/\G[k]?=some (.lst (f.map Th.i))/\ki.length=si.length
 | [],[],_,n=>absurd rfl n
 | [k],[f],h,_=>⟨k,[],f,[],rfl,rfl,h.1,rfl⟩
 | k::k2::ks,f::g::st,h,_=>by
  obtain⟨a,ki,b,si,h1,h2,h3,h4⟩:=Rl.last (ks:=k2::ks) (st:=g::st) h.2 (by simp)
  exact⟨a,k::ki,b,f::si,by rw [h1];rfl,by rw [h2];rfl,h3,by simp [h4]⟩
 | [],_::_,h,_=>h.elim
 | _::_,[],h,_=>h.elim
 | [_],_::_::_,h,_=>h.2.elim
 | _::_::_,[_],h,_=>h.2.elim
def y6e(f:List Th):((f.map λh=>br Tm.i (cz h)).any jS)=!(f.all λh=>(cz h).isSome):=by
 induction f with
 | nil=>rfl
 | cons h f ih =>
  rw [z19,List.any_cons,ih,List.all_cons]
  rcases ke (cz h) with⟨o1,o2⟩| ⟨t,xs,o1,o2,_⟩
  ·rw [o2,o1];rfl
  ·rw [o2,o1];simp [jS]
def y67(f:List Th):((f.map λh=>br Tm.i (cz h)).all AD)=true:=by
 induction f with
 | nil=>rfl
 | cons h f ih =>
  rw [z19,List.all_cons,ih]
  rcases ke (cz h) with⟨o1,o2⟩| ⟨t,xs,o1,o2,_⟩<;>rw [o2]<;>rfl
def Js{W:List (List Nat)}{G:List M}{kw:Nat}(hW:∀w∈W,w.length≤100000)(hl:W.length≤40000)(hk:G[kw]?=some (.lst (W.map wI))):∃G',xN [.im (.ref kw)] G=some (AV ((cZ W [[]]).bind dG),G')/\dF G G':=by
 have kl:kw<G.length:=(z1a.mp hk).1
 have hk1:(G++[M.lst []])[kw]?=some (.lst (W.map wI)):=by rw [z25 kl];exact hk
 have hn1:(G++[M.lst []])[G.length]?=some (.lst []):=by simp
 have s0:Sk G (G++[M.lst []]) kw W [G.length] [[]]:=⟨⟨hn1,trivial⟩,by simp,λh=>by rw [z15.mp h] at kl;lia,hk1,λf hf h hh=>(by rw [z15.mp hf] at hh;cases hh),(dF.refl G).app _,λk hk=>by rw [z15.mp hk];exact z12 _⟩
 obtain⟨ks,v2,v3,G2,h2⟩:=yT hW W [] (v2:=none) (v3:=none) rfl s0 (by simp [jg];lia) (by simp)
 have a1:aM (bd (af (bb (bd ae aL)) ae) aL) (aF 1) [↑(.ref kw),none,none,none,none] G=some (.nx (t5 kw [G.length] none none none) (G++[M.lst []])):=rfl
 have it:cG (one (bb (aa 0))) cJ (t5 kw [G.length] none none none) (G++[M.lst []])=some (cj ⇑(.ref kw) W.length,[⇑(.ref kw)],t5 kw [G.length] none none none,G++[M.lst []]):=hI (e:=⇑(.ref kw)) (n:=W.length) (xs:=W.map wI) rfl rfl (by simp [sq,pk,hk1]) (by simp)
 cases hr:cZ W [[]] with
 | none =>
  rw [hr] at h2
  exact⟨G2,aJ rfl (aj a1 (aZ (gq it h2.1))),h2.2⟩
 | some st =>
  rw [hr] at h2
  obtain⟨e2,s2,n2,ne2⟩:=h2
  obtain⟨k0,ki,f0,si,hks,hst,hk0,hki⟩:=s2.r.last ne2
  have hf0:f0.length≤50000:=by rw [hst] at n2;simp [jg] at n2;lia
  have lf0:∀h∈f0,h.len:=s2.l f0 (by rw [hst];simp)
  have h0:cB (fJ ks) 0=some (.ref k0):=by rw [hks];show cB ((ki++[k0]).reverse.map I.ref) 0=_;rw [List.reverse_append];exact cN _ _
  obtain⟨ys,hys⟩:∃ys,ys=f0.map λh=>br Tm.i (cz h):=⟨_,rfl⟩
  have ec:=ycb (Z:=t5 kw ks v2 v3 none) hk0 lf0
  rw [<- hys] at ec
  have a3:aM (fg (cG (one (ai aI (aa 1) (ag (.int 0)))) cJ) [] c1 bS (bd (af (aa 0) ae) (aA 1 fF))) (aF 4) (t5 kw ks v2 v3 none) G2=some (.nx (t5 kw ks v2 v3 ↥ys) G2):=by
   refine bA (x:=.ow (.lst ys)) (Z1:=t5 kw ks v2 v3 none) (G1:=G2) (nB (by rfl) (hI (e:=⇑(.ref k0)) (n:=f0.length) (Z1:=t5 kw ks v2 v3 none) (G1:=G2) (xs:=f0.map Th.i) (aw (x:=.s 1) (y:=⇑(.int 0)) rfl rfl ?_) rfl (by simp [sq,pk,hk0]) (by simp)) (by show f0.length≤100000;lia) ec) rfl
   unfold t5
   generalize fJ ks=zs at h0
   simp [aI,bR,eF,sq,pk,h0]
  have tl:ao (ai fN (bd (af (aa 1) ae) aH) (ag (.int 1))) (t5 kw ks v2 v3 ↥ys) G2=some (decide (1<ks.length),t5 kw ks v2 v3 ↥ys,G2):=by
   refine aX (aw (x:=⇑(.int ks.length)) (y:=⇑(.int 1)) (Z1:=t5 kw ks v2 v3 ↥ys) (G1:=G2) (aq (aq (a:=.s 1) rfl rfl) ?_) rfl ?_)
   ·have:=qq ks
    unfold t5
    generalize fJ ks=zs at this
    simp [aH,sq,pk,this]
   ·have e:decide ((1:Int)<(ks.length:Int))=decide (1<ks.length):=decide_eq_decide.mpr (by lia)
    show some (Ev.v (.im (.bl (decide ((1:Int)<(ks.length:Int))))),_,G2)=_
    rw [e]
  have tn:ao (ai jT (ag .non) (aa 4)) (t5 kw ks v2 v3 ↥ys) G2=some (!(f0.all λh=>(cz h).isSome),t5 kw ks v2 v3 ↥ys,G2):=by
   refine aX (aw (x:=⇑.non) (y:=.s 4) rfl rfl ?_)
   show (if ys.all AD then some (Ev.v (.im (.bl (ys.any jS))),t5 kw ks v2 v3 ↥ys,G2) else none)=_
   rw [hys,y67,y6e];rfl
  by_cases h1:1<ks.length
  ·have:dG st=none:=by
    have l1:=s2.r.len
    match st,l1 with
    | [f],l1=>simp at l1;lia
    | [],_=>rfl
    | _::_::_,_=>rfl
   show ∃G',_=some (AV (dG st),G')/\_
   rw [this]
   rw [decide_eq_true h1] at tl
   exact⟨G2,aJ rfl (aj a1 (aj (gq it e2) (aj a3 (aZ (aU (fG tl) rfl))))),s2.fr⟩
  ·rw [decide_eq_false h1] at tl
   have l1:=s2.r.len
   have hsi:si=[]:=by
    rw [hks,zc,List.length_singleton] at h1
    exact List.eq_nil_of_length_eq_zero (by lia)
   have hst2:st=[f0]:=by rw [hst,hsi];rfl
   show ∃G',_=some (AV (dG st),G')/\_
   rw [hst2]
   have ht:dG [f0]=if (f0.all λh=>(cz h).isSome)=true then some ys else none:=by rw [hys];rfl
   rw [ht]
   cases ha:f0.all λh=>(cz h).isSome with
   | false =>
    rw [ha] at tn
    rw [if_neg z13]
    exact⟨G2,aJ rfl (aj a1 (aj (gq it e2) (aj a3 (aZ (aU (b6 tl tn) rfl))))),s2.fr⟩
   | true =>
    rw [ha] at tn
    rw [if_pos rfl]
    exact⟨G2,aJ rfl (aj a1 (aj (gq it e2) (aj a3 (aj (aK (b6 tl tn) rfl) rfl)))),s2.fr⟩
def Jt(W:List (List Nat)):i9 W=match (cZ W [[]]).bind dG with
  | some [_]=>(match cZ W [[]] with|some [[h]]=>cz h|_=>none)
  | _=>none:=by
 unfold i9
 cases hr:cZ W [[]] with
 | none=>rfl
 | some st =>
  match st with
  | []=>rfl
  | [[]]=>rfl
  | [[h]] =>
   show cz h=match dG [[h]] with|some [_]=>cz h|_=>none
   unfold dG
   cases ha:cz h with
   | none=>simp [ha]
   | some t=>simp [ha]
  | [h::h2::f] =>
   show none=match dG [h::h2::f] with|some [_]=>none|_=>none
   split<;>rfl
  | []::g::r=>rfl
  | [h]::g::r=>rfl
  | (h::h2::f)::g::r=>rfl
def Ju{W:List (List Nat)}{G:List M}(hW:∀w∈W,w.length≤100000)(hl:W.length≤40000):∃G',nz [.ow (.lst (W.map wI))] G=some (.im (br Tm.i (i9 W)),G')/\dF G G':=by
 obtain⟨G',e,fr⟩:=Js (G:=G++[M.lst (W.map wI)]) (kw:=G.length) hW hl (by simp)
 have a1:aM (bd (af (bb (aa 0)) ae) (aA 1 xN)) (aF 1) [↥(W.map wI),none] G=some (.nx [↑(.ref G.length),some (AV ((cZ W [[]]).bind dG))] G'):=bA (aq (aq (a:=⇑(.ref G.length)) (Z1:=[↑(.ref G.length),none]) (G1:=G++[M.lst (W.map wI)]) rfl rfl) (bX (xs:=[.im (.ref G.length)]) rfl rfl e)) rfl
 refine⟨G',?_,((dF.refl G).app _).trans fr⟩
 rw [Jt]
 cases hb:(cZ W [[]]).bind dG with
 | none =>
  rw [hb] at a1
  exact aJ rfl (aj a1 (aZ (aU (Z1:=[↑(.ref G.length),↑.non]) (G1:=G') (fG (aX rfl)) rfl)))
 | some ys =>
  rw [hb] at a1
  have tn:ao (a6 (eP true) (aa 1)) [↑(.ref G.length),↥ys] G'=some (false,[↑(.ref G.length),↥ys],G'):=rfl
  have tl:ao (ai gH (bd (af (aa 1) ae) aH) (ag (.int 1))) [↑(.ref G.length),↥ys] G'=some (!decide (ys.length=1),[↑(.ref G.length),↥ys],G'):=by
   refine aX (aw (x:=⇑(.int ys.length)) (y:=⇑(.int 1)) (Z1:=[↑(.ref G.length),↥ys]) (G1:=G') (aq (aq (a:=.s 1) rfl rfl) rfl) rfl ?_)
   by_cases h:ys.length=1
   ·rw [h];rfl
   ·have h':((ys.length:Int) == 1)=false:=beq_eq_false_iff_ne.mpr (by lia)
    rw [decide_eq_false h]
    simp [gH,eQ,dQ,b9,dI,bK,bq,h']
  match ys,tl,a1,hb with
  | [],tl,a1,hb=>exact aJ rfl (aj a1 (aZ (aU (b6 tn tl) rfl)))
  | _::_::_,tl,a1,hb=>exact aJ rfl (aj a1 (aZ (aU (b6 tn tl) rfl)))
  | [y],tl,a1,hb =>
   have hy:y=br Tm.i (match cZ W [[]] with|some [[h]]=>cz h|_=>none):=by
    cases hr:cZ W [[]] with
    | none=>rw [hr] at hb;cases hb
    | some st =>
     rw [hr] at hb
     have hb:dG st=some [y]:=hb
     match st,hb with
     | [],hb=>cases hb
     | f::g::r,hb=>exact absurd (show (none:Option (List I))=some [y] from hb) (by simp)
     | [f],hb =>
      have hb':(if (f.all λh=>(cz h).isSome)=true then some (f.map λh=>br Tm.i (cz h)) else none)=some [y]:=hb
      split at hb'
      ·have hm:=z20 hb'
       match f,hm with
       | [],hm=>cases hm
       | [h],hm=>cases hm;rfl
       | _::_::_,hm=>cases hm
      ·cases hb'
   refine aJ rfl (aj a1 (aj (aK (b6 tn tl) rfl) (aV (Z1:=[↑(.ref G.length),↥[y]]) (aw (x:=.s 1) (y:=⇑(.int 0)) rfl rfl ?_))))
   have:=cN y []
   rw [<- hy]
   simp [aI,bR,eF,sq,pk,this]
end
section
variable {G:List M}
def qr{x:List Nat}{Z:De}(h:aa 0 Z G=some (⇑(.str (ah x)),Z,G))(hl:x.length≤100000):bd (af (aa 0) ae) aH Z G=some (⇑(.int x.length),Z,G):=by
 refine aq (aq h rfl) ?_
 have e:=bE x
 have h1:(ah x).length≤1000000:=by lia
 show (match (if (ah x).length≤1000000 then some (Ev.v (.im (.int (ah x).length)),Z,G) else none) with|r=>r)=_
 rw [if_pos h1,e]
def y66{x:List Nat}{z:Str}{Z:De}(h:aa 0 Z G=some (⇑(.str (ah x)),Z,G))(hl:x.length≤100000):bd (af (fg (cG (one (aa 0)) eI) [] c1 bS (ai (dm false) (aa 0) (ag (.str z)))) ae) je Z G=some (⇑(.bl (x.all λc=>decide (c∈z.cps.toList))),Z,G):=by
 have hcm:=yca (x:=x) (te:=ai (dm false) (aa 0) (ag (.str z))) (f:=λc=>I.bl (decide (c∈z.cps.toList))) (Z:=Z) (G:=G) (λc _=>by
  refine aw rfl rfl ?_
  show some (Ev.v (.im (.bl (gj z (ah [c])))),_,G)=_
  rw [mJ])
 have hn:(cL (ah x)).n=x.length:=by simp [cL,ah]
 refine aq (aq (nB (by rfl) (j4 (es:=[⇑(.str (ah x))]) (w:=cL (ah x)) (aq h rfl) rfl) (by rw [hn];lia) (by rw [hn];exact hcm)) rfl) ?_
 show je [.v (.ow (.lst (x.map λc=>I.bl (decide (c∈z.cps.toList)))))] _ G=_
 have e2:(x.map λc=>I.bl (decide (c∈z.cps.toList)))=(x.map λc=>decide (c∈z.cps.toList)).map I.bl:=by rw [z32];rfl
 rw [e2]
 unfold je
 dsimp only [pk]
 rw [Fw]
 dsimp only
 rw [List.all_map]
 rfl
def yU{f:Mo Ev}{Z:De}{n m:Int}(h:f Z G=some (⇑(.int n),Z,G)):ao (ai dR f (ag (.int m))) Z G=some (decide (n<m),Z,G):=aX (aw h rfl rfl)
def yV{f:Mo Ev}{Z:De}{n m:Int}(h:f Z G=some (⇑(.int n),Z,G)):ao (ai fN f (ag (.int m))) Z G=some (decide (m<n),Z,G):=aX (aw h rfl rfl)
def yW{x:List Nat}(hl:x.length≤100000):mw [.im (.str (ah x))] G=some (.im (.bl (bF x)),G):=by
 obtain⟨D,hD⟩:∃D:De,D=[↑(.str (ah x)),↥(bL.map I.str)]:=⟨_,rfl⟩
 have v0:aa 0 D G=some (⇑(.str (ah x)),D,G):=by rw [hD];rfl
 have ln:=qr v0 hl
 have t1:ao (ai dR (bd (af (aa 0) ae) aH) (ag (.int 1))) D G=some (decide ((x.length:Int)<1),D,G):=yU ln
 have t2:ao (ai fN (bd (af (aa 0) ae) aH) (ag (.int 6))) D G=some (decide ((6:Int)<x.length),D,G):=yV ln
 have t3:ao (ai eR (aa 0) (aa 1)) D G=some (bL.contains (ah x),D,G):=by
  rw [hD]
  refine aX (aw (x:=⇑(.str (ah x))) (y:=.s 1) rfl rfl ?_)
  have h:(bK (.str (ah x))&&(List.map I.str bL).all bK)=true:=by rw [ycf];rfl
  unfold eR bR ip
  dsimp only
  rw [show sq [some (Vl.im (I.str (ah x))),some (Vl.ow (M.lst (bL.map I.str)))] G (.s 1)=some (bL.map I.str) from rfl]
  dsimp only
  rw [if_pos h]
  dsimp only
  rw [yB];rfl
 have s0:aM (bd (af (ag (.str "cell")) (af (ag (.str "row")) (af (ag (.str "def")) (af (ag (.str "main")) (af (ag (.str "set")) (af (ag (.str "put")) (af (ag (.str "while")) (af (ag (.str "if")) (af (ag (.str "else")) (af (ag (.str "call")) (af (ag (.str "end")) (af (ag (.str "at")) ae)))))))))))) aL) (aF 1) [↑(.str (ah x)),none] G=some (.nx D G):=by rw [hD];rfl
 unfold bF
 by_cases hc:x.length<1∨6<x.length∨bL.contains (ah x)=true
 ·rw [if_pos hc]
  refine aJ rfl (aj s0 (aZ (aU (Z1:=D) (G1:=G) ?_ rfl)))
  by_cases h2:x.length<1
  ·rw [decide_eq_true (by lia)] at t1
   exact fG t1
  ·rw [decide_eq_false (by lia)] at t1
   refine b6 t1 ?_
   by_cases h3:6<x.length
   ·rw [decide_eq_true (by lia)] at t2
    exact fG t2
   ·rw [decide_eq_false (by lia)] at t2
    refine b6 t2 ?_
    rw [t3,(hc.resolve_left h2).resolve_left h3]
 ·rw [if_neg hc]
  have h2:¬ x.length<1:=λz=>hc (.inl z)
  have h3:¬ 6<x.length:=λz=>hc (.inr (.inl z))
  have h4:bL.contains (ah x)=false:=by cases e:bL.contains (ah x) with
   | false=>rfl
   | true=>exact absurd (.inr (.inr e)) hc
  rw [decide_eq_false (by lia)] at t1
  rw [decide_eq_false (by lia)] at t2
  rw [h4] at t3
  exact aJ rfl (aj s0 (aj (aK (b6 t1 (b6 t2 t3)) rfl) (aV (y66 v0 hl))))
def Jv{x:List Nat}(hl:x.length≤100000):qO [.im (.str (ah x))] G=some (.im (.bl (cO x)),G):=by
 obtain⟨D,hD⟩:∃D:De,D=[↑(.str (ah x))]:=⟨_,rfl⟩
 have v0:aa 0 D G=some (⇑(.str (ah x)),D,G):=by rw [hD];rfl
 have ln:=qr v0 hl
 have t1:ao (ai dR (bd (af (aa 0) ae) aH) (ag (.int 1))) D G=some (decide ((x.length:Int)<1),D,G):=yU ln
 have t2:ao (ai fN (bd (af (aa 0) ae) aH) (ag (.int 1))) D G=some (decide ((1:Int)<x.length),D,G):=yV ln
 have run:∀{body:SF} {z:Vl},body D G=some (.rt z G)->aT 1 0 body [.im (.str (ah x))] G=some (z,G):=λ{body z} h=>aJ rfl (by rw [hD] at h;exact h)
 cases x with
 | nil =>
  refine run (aZ (aU (Z1:=D) (G1:=G) (fG t1) rfl))
 | cons c r =>
  rw [decide_eq_false (by simp only [z18];lia)] at t1
  have hl':(ah (c::r)).length≤1000000:=by rw [bE];lia
  have ix:ai aI (aa 0) (ag (.int 0)) D G=some (⇑(.str (ah [c])),D,G):=by
   refine aw v0 (y:=⇑(.int 0)) rfl ?_
   have hc:cB (ah (c::r)).cps.toList 0=some c:=cN c r
   rw [show ah [c]=(⟨#[c]⟩:Str) from rfl]
   simp [aI,bR,eF,sq,pk,hc,hl']
  have t0:ao (ai a8 (ai aI (aa 0) (ag (.int 0))) (ag (.str "0"))) D G=some (decide (c=48),D,G):=by
   refine aX (aw ix (y:=⇑(.str "0")) rfl ?_)
   have:(ah [c] == ah [48])=decide (c=48):=by rw [dE];by_cases h:c=48<;>simp [h]
   rw [mL]
   simp only [a8,eQ,dQ,b9,dI,bK,bq,this];rfl
  have al:=y66 (z:="0123456789") v0 hl
  have ea:((c::r).all λc=>decide (c∈("0123456789" : Str).cps.toList))=(c::r).all ig:=by congr 1;funext d;exact yfd d
  rw [ea] at al
  have hb:cO (c::r)=((c != 48||r.isEmpty)&&(c::r).all ig):=rfl
  rw [hb]
  by_cases h0:c=48
  ·rw [decide_eq_true h0] at t0
   cases r with
   | nil =>
    have tt:ao (ai fN (bd (af (aa 0) ae) aH) (ag (.int 1))) D G=some (false,D,G):=t2
    rw [show ((c != 48||([]:List Nat).isEmpty) && [c].all ig)=[c].all ig by simp]
    exact run (aj (aK (b6 t1 (kz t0 tt)) rfl) (aV al))
   | cons a r' =>
    have tt:ao (ai fN (bd (af (aa 0) ae) aH) (ag (.int 1))) D G=some (true,D,G):=by rw [t2,decide_eq_true (by simp;lia)]
    rw [show ((c != 48||(a::r').isEmpty)&&(c::a::r').all ig)=false by subst h0;rfl]
    exact run (aZ (aU (b6 t1 (kz t0 tt)) rfl))
  ·rw [decide_eq_false h0] at t0
   have hne:(c != 48)=true:=bne_iff_ne.mpr h0
   rw [hne,Bool.true_or,Bool.true_and]
   exact run (aj (aK (b6 t1 (pX t0)) rfl) (aV al))
def Jw{w:Nat}(h:(dg w).length<11):w<10 ^ 10:=by
 rcases Nat.lt_or_ge w (10 ^ 10) with h1|h1
 ·exact h1
 ·exfalso
  have key:∀(k n:Nat),10 ^ k≤n->k<(dg n).length:=by
   intro k
   induction k with
   | zero=>intro n _;have:=qS n;exact List.length_pos_iff.mpr this
   | succ k ih =>
    intro n hn
    have h10:10≤n:=z1c (by rw [Nat.pow_succ];have:=Nat.one_le_pow k 10 (by decide);lia) hn
    rw [mE h10,zc,List.length_singleton]
    have:=ih (n / 10) (by rw [Nat.pow_succ] at hn;lia)
    lia
  have:=key 10 w h1
  lia
def Jx{x:List Nat}(hl:x.length≤100000):qP [.im (.str (ah x))] G=some (.im (.bl (gx x).isSome),G):=by
 have e1:=Jv (G:=G) hl
 have ln:=qr (G:=G) (Z:=[↑(.str (ah x))]) rfl hl
 have c1:bd (af (aa 0) ae) (aA 1 qO) [↑(.str (ah x))] G=some (⇑(.bl (cO x)),[↑(.str (ah x))],G):=aq (aq rfl rfl) (bX (xs:=[.im (.str (ah x))]) rfl rfl e1)
 have c2:ai dR (bd (af (aa 0) ae) aH) (ag (.int 11)) [↑(.str (ah x))] G=some (⇑(.bl (decide ((x.length:Int)<11))),[↑(.str (ah x))],G):=aw ln rfl rfl
 refine aJ rfl (aV (Z1:=[↑(.str (ah x))]) ?_)
 unfold gx
 cases hb:cO x with
 | false =>
  rw [hb] at c1
  rw [if_neg (by simp)]
  unfold fz
  exact aq c1 rfl
 | true =>
  rw [hb] at c1
  have hx:=yG _ x rfl hb
  have step:∀{fb:Mo Ev} {z:Option (Ev×De×List M)},fb [↑(.str (ah x))] G=z->fz (bd (af (aa 0) ae) (aA 1 qO)) fb [↑(.str (ah x))] G=z:=λ{fb z} h=>by
   unfold fz
   exact aq c1 h
  refine step ?_
  by_cases h11:x.length<11
  ·rw [decide_eq_true (by lia)] at c2
   have ht:vl 0 x<10 ^ 10:=Jw (by rw [hx];exact h11)
   have hi:intText? (ah x)=some ((vl 0 x:Nat):Int):=by
    have:=W.KIN.num_reads (n:=((vl 0 x:Nat):Int)) (by lia) (by lia)
    have e2:=x4 (vl 0 x)
    rw [hx] at e2
    rw [<- e2]
    exact this
   have c3:ai dR (bd (af (aa 0) ae) gm) (ag (.int 4294967296)) [↑(.str (ah x))] G=some (⇑(.bl (decide (((vl 0 x:Nat):Int)<4294967296))),[↑(.str (ah x))],G):=by
    refine aw (x:=⇑(.int ((vl 0 x:Nat):Int))) (aq (aq rfl rfl) ?_) rfl rfl
    show gm [⇑(.str (ah x))] _ G=_
    unfold gm
    dsimp only
    rw [hi]
    dsimp only
    rw [if_pos (by rw [bE];lia)]
   unfold fz
   refine aq c2 ?_
   show ai dR (bd (af (aa 0) ae) gm) (ag (.int 4294967296)) _ G=_
   rw [c3]
   by_cases hv:vl 0 x<4294967296
   ·rw [if_pos ⟨rfl,hv⟩,decide_eq_true (by lia)];rfl
   ·rw [if_neg (λz=>hv z.2),decide_eq_false (by lia)];rfl
  ·rw [decide_eq_false (by lia)] at c2
   have hv:¬ vl 0 x<4294967296:=λhv=>h11 (by
    have:=Ia (vl 0 x) 9 (z35 hv (by decide))
    rw [hx] at this;lia)
   rw [if_neg (λz=>hv z.2)]
   unfold fz
   exact aq c2 rfl
end
section
abbrev gw(W:List (List Nat))(a:Nat):List Nat:=(W[a]?).getD []
abbrev gL(W:List (List Nat))(b:Nat):Option Nat:=if gw W b=[41] then some (b+1) else none
abbrev bh(W:List (List Nat)):Nat->Nat->Option Nat
  | 0,_=>none
  | n+1,a=>if gw W a=[40] then
      (if (du (.wd (gw W (a+1)))&&bF (gw W (a+2)))=true then (bh W n (a+3)).bind (gL W)
       else if (cC (.wd (gw W (a+1)))).isSome=true then (bh W n (a+2)).bind λb=>(bh W n b).bind (gL W) else none)
    else if (bF (gw W a)||(gx (gw W a)).isSome)=true then some (a+1) else none
def fK{W:List (List Nat)}{a:Nat}{x:List Nat}{r:List (List Nat)}(h:W.drop a=x::r):gw W a=x/\W.drop (a+1)=r/\a<W.length:=by
 have hl:a<W.length:=by
  rcases Nat.lt_or_ge a W.length with h1|h1
  ·exact h1
  ·rw [List.drop_eq_nil_of_le h1] at h;cases h
 rw [List.drop_eq_getElem_cons hl] at h
 injection h with h1 h2
 refine⟨?_,h2,hl⟩
 unfold gw
 rw [z16 hl,h1];rfl
def gz{W:List (List Nat)}{a:Nat}{x:List Nat}(h:gw W a=x)(hx:x≠[]):W.drop a=x::W.drop (a+1)/\a<W.length:=by
 have hl:a<W.length:=by
  rcases Nat.lt_or_ge a W.length with h1|h1
  ·exact h1
  ·unfold gw at h;rw [List.getElem?_eq_none h1] at h;exact absurd h.symm hx
 refine⟨?_,hl⟩
 rw [List.drop_eq_getElem_cons hl]
 unfold gw at h
 rw [z16 hl] at h
 rw [<- h];rfl
def yX{x:List Nat}(h:bF x=true):x≠[]:=λz=>by rw [z] at h;cases h
def y88{W:List (List Nat)}:∀(n a b:Nat),bh W n a=some b->a<b/\b≤W.length/\∃t:Tm,t.ok/\W.drop a=t.tk++W.drop b:=by
 have cl:∀{c b:Nat},gL W c=some b->W.drop c=[41]::W.drop b/\b=c+1/\c<W.length:=λ{c b} h=>by
  unfold gL at h
  split at h
  ·rename_i hg
   cases h
   obtain⟨h1,h2⟩:=gz hg (by simp)
   exact⟨h1,rfl,h2⟩
  ·cases h
 intro n
 induction n with
 | zero=>intro a b h;cases h
 | succ n ih =>
  intro a b h
  rw [bh] at h
  split at h
  ·rename_i h0
   obtain⟨d0,l0⟩:=gz h0 (by simp)
   split at h
   ·rename_i hc
    rw [z1b] at hc
    have h1:gw W (a+1)=[97,116]:=eq_of_beq hc.1
    obtain⟨d1,l1⟩:=gz h1 (by simp)
    obtain⟨d2,l2⟩:=gz (x:=gw W (a+2)) rfl (yX hc.2)
    cases hb:bh W n (a+3) with
    | none=>rw [hb] at h;cases h
    | some c =>
     rw [hb] at h
     obtain⟨c1,c2,c3⟩:=cl (show gL W c=some b from h)
     obtain⟨i1,i2,t,ht,e⟩:=ih _ _ hb
     refine⟨by lia,by lia,.at_ (gw W (a+2)) t,⟨mM hc.2,ht⟩,?_⟩
     rw [d0,d1,d2,Tm.tk,e,c1];simp
   ·split at h
    ·rename_i hs
     obtain⟨s,hs⟩:=Option.isSome_iff_exists.mp hs
     have h1:gw W (a+1)=[s]/\i4 s:=by
      unfold cC at hs
      split at hs
      ·rename_i s' hx
       split at hs
       ·rename_i hz
        cases hs
        injection hx with hx
        exact⟨hx,(mO _).mp hz⟩
       ·cases hs
      ·cases hs
     obtain⟨d1,l1⟩:=gz h1.1 (by simp)
     cases hb:bh W n (a+2) with
     | none=>rw [hb] at h;cases h
     | some c =>
      rw [hb] at h
      have h:(bh W n c).bind (gL W)=some b:=h
      cases hb2:bh W n c with
      | none=>rw [hb2] at h;cases h
      | some e =>
       rw [hb2] at h
       obtain⟨c1,c2,c3⟩:=cl (show gL W e=some b from h)
       obtain⟨i1,i2,t,ht,e1⟩:=ih _ _ hb
       obtain⟨j1,j2,u,hu,e2⟩:=ih _ _ hb2
       refine⟨by lia,by lia,.op s t u,⟨h1.2,ht,hu⟩,?_⟩
       rw [d0,d1,Tm.tk,e1,e2,c1];simp
    ·cases h
  ·split at h
   ·rename_i hw
    cases h
    rw [Bool.or_eq_true] at hw
    rcases hw with hw|hw
    ·obtain⟨d0,l0⟩:=gz (x:=gw W a) rfl (yX hw)
     exact⟨by lia,by lia,.cell (gw W a),mM hw,by rw [d0];rfl⟩
    ·obtain⟨w,hw⟩:=Option.isSome_iff_exists.mp hw
     obtain⟨e,hlt⟩:=yI hw
     obtain⟨d0,l0⟩:=gz e (qS w)
     exact⟨by lia,by lia,.num w,hlt,by rw [d0];rfl⟩
   ·cases h
abbrev nO(V:List (List Nat)):Nat:=V.count [40]
def eL(a b:List (List Nat)):nO (a++b)=nO a+nO b:=z17
def gA(x:List Nat)(b:List (List Nat)):nO (x::b)=nO b+if x=[40] then 1 else 0:=by
 unfold nO;rw [List.count_cons];by_cases h:x=[40]<;>simp [h]
def yY{W:List (List Nat)}:∀(n a:Nat) {t:Tm} {R:List (List Nat)},t.ok->W.drop a=t.tk++R->nO t.tk<n->bh W n a=some (a+t.tk.length)/\W.drop (a+t.tk.length)=R:=by
 intro n
 induction n with
 | zero=>intro a t R _ _ h;lia
 | succ n ih =>
  intro a t R ht e hn
  have hdrop:W.drop (a+t.tk.length)=R:=by rw [<- List.drop_drop,e,List.drop_left]
  refine⟨?_,hdrop⟩
  cases t with
  | num w =>
   obtain⟨g0,d0,_⟩:=fK (show W.drop a=dg w::R from e)
   rw [bh,g0,if_neg (Ja w).1,yH ht,if_pos (by simp)];rfl
  | cell x =>
   obtain⟨g0,d0,_⟩:=fK (show W.drop a=x::R from e)
   rw [bh,g0,if_neg (Nm.ne ht).1,Nm.is ht,if_pos (by simp)];rfl
  | at_ x t =>
   have e':W.drop a=[40]::[97,116]::x::(t.tk++([41]::R)):=by rw [e,Tm.tk];simp
   obtain⟨g0,d0,_⟩:=fK e'
   obtain⟨g1,d1,_⟩:=fK d0
   obtain⟨g2,d2,_⟩:=fK d1
   have hn':nO t.tk<n:=by
    rw [Tm.tk,eL,eL] at hn
    have h1:nO ([[40],[97,116],x]:List (List Nat)) ≥ 1:=by rw [gA,if_pos rfl];lia
    lia
   obtain⟨i1,i2⟩:=ih (a+3) ht.2 d2 hn'
   obtain⟨g3,_,_⟩:=fK i2
   rw [bh,g0,if_pos rfl,g1,g2,Nm.is ht.1]
   rw [show (du (.wd [97,116])&&true)=true from rfl,if_pos rfl,i1]
   show gL W _=_
   unfold gL
   rw [g3,if_pos rfl,Tm.tk]
   simp;lia
  | op s p q =>
   have e':W.drop a=[40]::[s]::(p.tk++(q.tk++([41]::R))):=by rw [e,Tm.tk];simp
   obtain⟨g0,d0,_⟩:=fK e'
   obtain⟨g1,d1,_⟩:=fK d0
   have hn':nO p.tk<n/\nO q.tk<n:=by
    rw [Tm.tk,eL,eL,eL] at hn
    have h1:nO ([[40],[s]]:List (List Nat)) ≥ 1:=by rw [gA,if_pos rfl];lia
    lia
   obtain⟨i1,i2⟩:=ih (a+2) ht.2.1 d1 hn'.1
   obtain⟨j1,j2⟩:=ih _ ht.2.2 i2 hn'.2
   obtain⟨g3,_,_⟩:=fK j2
   have hs:cC (.wd [s])=some s:=by show (if qU s=true then _ else _)=_;rw [if_pos ((mO s).mpr ht.1)]
   have hA:du (.wd [s])=false:=yM
   rw [bh,g0,if_pos rfl,g1,hA,Bool.false_and,if_neg (by decide),hs,if_pos (show (some s).isSome=true from rfl),i1]
   show (bh W n _).bind (gL W)=_
   rw [j1]
   show gL W _=_
   unfold gL
   rw [g3,if_pos rfl,Tm.tk]
   simp;lia
variable {G:List M}
def Jy{W:List (List Nat)}{kw a:Nat}(hk:G[kw]?=some (.lst (W.map wI)))(hl:W.length≤100000):gJ [.im (.ref kw),.im (.int a)] G=some (.im (.str (ah (gw W a))),G):=by
 have s1:az (aa 0) (av (aa 1)) (av (ai aC (aa 1) (ag (.int 1)))) [↑(.ref kw),↑(.int a)] G=some (.v (.ow (.lst (eS (W.map wI) (some (a:Int)) (some ((a:Int)+1))))),[↑(.ref kw),↑(.int a)],G):=by
  refine aq (m:=aa 0) (a:=⇑(.ref kw)) rfl (aq (m:=av (aa 1)) (a:=[⇑(.int a)]) rfl (aq (m:=av (ai aC (aa 1) (ag (.int 1)))) (a:=[⇑(.int ((a:Int)+1))]) rfl ?_))
  show ck (some (a:Int)) (some ((a:Int)+1)) [⇑(.ref kw),⇑(.int a),⇑(.int ((a:Int)+1))] _ G=_
  have:sq [↑(.ref kw),↑(.int a)] G ⇑(.ref kw)=some (W.map wI):=by simp [sq,pk,hk]
  unfold ck
  dsimp only
  rw [if_pos (show eG ⇑(.ref kw)=true from rfl),this]
 have ec:eS (W.map wI) (some (a:Int)) (some ((a:Int)+1))=((W.drop a).take 1).map wI:=by
  unfold eS
  rw [show ((a:Int)+1)=((a+1:Nat):Int) by lia,HT.y3ea,HT.y3ea,List.map_take,List.map_drop,z11]
  by_cases h:a+1≤W.length
  ·rw [Nat.min_eq_left h,Nat.min_eq_left (by lia)]
   congr 1;lia
  ·rw [Nat.min_eq_right (by lia:W.length≤a+1),Nat.min_eq_right (by lia:W.length≤a),Nat.sub_self,List.take_zero,List.drop_eq_nil_of_le (by rw [z11];lia)];rfl
 rw [ec] at s1
 obtain⟨ys,hys⟩:∃ys,ys=((W.drop a).take 1).map wI:=⟨_,rfl⟩
 have ly:ys.length≤1:=by rw [hys,z11,z2b];lia
 have h0:cB (ys++[.str ""]) 0=some (.str (ah (gw W a))):=by
  rw [hys]
  rcases Nat.lt_or_ge a W.length with h|h
  ·have hd:=List.drop_eq_getElem_cons h
   rw [hd]
   have:gw W a=W[a]:=by unfold gw;rw [z16 h];rfl
   rw [this]
   exact cN _ _
  ·rw [List.drop_eq_nil_of_le h]
   have:gw W a=[]:=by unfold gw;rw [List.getElem?_eq_none h];rfl
   rw [this,<- mK]
   exact cN _ _
 rw [<- hys] at s1
 refine aJ rfl (aV (Z1:=[↑(.ref kw),↑(.int a)]) (aw (x:=.v (.ow (.lst (ys++[.str ""])))) (y:=⇑(.int 0)) (Z1:=[↑(.ref kw),↑(.int a)]) (G1:=G) (aw s1 (y:=.v (.ow (.lst [.str ""]))) rfl ?_) rfl ?_))
 ·have h1:ys.length+1≤1000000:=by lia
  simp [aC,bR,km,bC,jd,oT,lQ,pk,h1]
 ·simp [aI,bR,eF,sq,pk,h0]
end
section
variable {G:List M}
abbrev eA:Option Nat->Int
 | none=>-1
 | some j=>j
abbrev bD(kw:Nat)(a:Int)(v2 v3:Option Vl):De:=[↑(.ref kw),↑(.int a),v2,v3]
def qt{a:Int}(b:Bool){Z:De}:aI [.v (.ow (.lst [.int (-1),.int a])),⇑(.int (if b then 1 else 0))] Z G=some (⇑(.int (if b then a else -1)),Z,G):=by
 cases b with
 | true=>have:=iu (I.int (-1)) (.int a) [];simp [aI,bR,eF,sq,pk,this]
 | false=>have:=cN (I.int (-1)) [.int a];simp [aI,bR,eF,sq,pk,this]
def qu{W:List (List Nat)}(hW:∀w∈W,w.length≤100000)(a:Nat):(gw W a).length≤100000:=by
 unfold gw
 rcases Nat.lt_or_ge a W.length with h|h
 ·rw [z16 h];exact hW _ (z31 h)
 ·rw [List.getElem?_eq_none h];simp
def qv{W:List (List Nat)}{a b:Nat}(h:a≤b):nO (W.drop b)≤nO (W.drop a):=by
 have:W.drop b=(W.drop a).drop (b-a):=by rw [List.drop_drop];congr 1;lia
 rw [this]
 exact (List.drop_sublist _ _).count_le _
def y86{W:List (List Nat)}{kw:Nat}(hk:G[kw]?=some (.lst (W.map wI)))(hW:∀w∈W,w.length≤100000)(hl:W.length≤100000):∀(n a:Nat),nO (W.drop a)<n->gK n [.im (.ref kw),.im (.int a)] G=some (.im (.int (eA (bh W n a))),G):=by
 intro n
 induction n with
 | zero=>intro a h;lia
 | succ n ih =>
  intro a hn
  have seen:∀{f:Mo Ev} {Z:De} {c:Nat},aa 0 Z G=some (⇑(.ref kw),Z,G)->f Z G=some (⇑(.int c),Z,G)->bd (af (bb (aa 0)) (af f ae)) (aA 2 gJ) Z G=some (⇑(.str (ah (gw W c))),Z,G):=λ{f Z c} h0 hf =>
   aq (aq (aq h0 rfl) (aq (aq hf rfl) rfl)) (bX (xs:=[.im (.ref kw),.im (.int c)]) rfl rfl (Jy hk hl))
  have rcc:∀{f:Mo Ev} {Z:De} {c:Nat},aa 0 Z G=some (⇑(.ref kw),Z,G)->f Z G=some (⇑(.int c),Z,G)->nO (W.drop c)<n->bd (af (bb (aa 0)) (af f ae)) (aA 2 (gK n)) Z G=some (⇑(.int (eA (bh W n c))),Z,G):=λ{f Z c} h0 hf hc =>
   aq (aq (aq h0 rfl) (aq (aq hf rfl) rfl)) (bX (xs:=[.im (.ref kw),.im (.int c)]) rfl rfl (ih c hc))
  rw [gK]
  have s1:aM (bd (af (bb (aa 0)) (af (aa 1) ae)) (aA 2 gJ)) (aF 2) (bD kw a none none) G=some (.nx (bD kw a ↑(.str (ah (gw W a))) none) G):=bA (seen rfl rfl) rfl
  have t2:ao (ai gH (aa 2) (ag (.str "("))) (bD kw a ↑(.str (ah (gw W a))) none) G=some (!decide (gw W a=[40]),bD kw a ↑(.str (ah (gw W a))) none,G):=by
   refine aX (aw (x:=⇑(.str (ah (gw W a)))) (y:=⇑(.str "(")) rfl rfl ?_)
   have:=dE (gw W a) [40]
   rw [i6]
   simp only [gH,eQ,dQ,b9,dI,bK,bq,this];rfl
  rw [bh]
  by_cases h0:gw W a=[40]
  ·rw [if_pos h0]
   rw [decide_eq_true h0] at t2
   obtain⟨d0,l0⟩:=gz h0 (by simp)
   have hc1:nO (W.drop (a+1))<n:=by rw [d0,gA,if_pos rfl] at hn;lia
   have hc2:nO (W.drop (a+2))<n:=Nat.lt_of_le_of_lt (qv (by lia)) hc1
   have hc3:nO (W.drop (a+3))<n:=Nat.lt_of_le_of_lt (qv (by lia)) hc1
   obtain⟨w0,hw0⟩:∃w0:Option Vl,w0=↑(.str (ah (gw W a))):=⟨_,rfl⟩
   rw [<- hw0] at s1 t2
   have add:∀{v3:Option Vl} (k:Nat),ai aC (aa 1) (ag (.int k)) (bD kw a w0 v3) G=some (⇑(.int ((a+k:Nat):Int)),bD kw a w0 v3,G):=λ{v3} k=>aw (x:=⇑(.int a)) (y:=⇑(.int k)) rfl rfl rfl
   have s3:aM (bd (af (bb (aa 0)) (af (ai aC (aa 1) (ag (.int 1))) ae)) (aA 2 gJ)) (aF 3) (bD kw a w0 none) G=some (.nx (bD kw a w0 ↑(.str (ah (gw W (a+1))))) G):=bA (seen rfl (add 1)) rfl
   obtain⟨B,hB⟩:∃B,B=bD kw a w0 ↑(.str (ah (gw W (a+1)))):=⟨_,rfl⟩
   rw [<- hB] at s3
   have b0:aa 0 B G=some (⇑(.ref kw),B,G):=by rw [hB];rfl
   have b3:aa 3 B G=some (⇑(.str (ah (gw W (a+1)))),B,G):=by rw [hB];rfl
   have addB:∀(k:Nat),ai aC (aa 1) (ag (.int k)) B G=some (⇑(.int ((a+k:Nat):Int)),B,G):=λk=>by rw [hB];exact add k
   have tA:ao (ai a8 (aa 3) (ag (.str "at"))) B G=some (du (.wd (gw W (a+1))),B,G):=aX (aw b3 rfl (yQ (.wd (gw W (a+1)))))
   have tN:bd (bd (af (bd (af (bb (aa 0)) (af (ai aC (aa 1) (ag (.int 2))) ae)) (aA 2 gJ)) ae) (aA 1 mw)) cH B G=some (bF (gw W (a+2)),B,G):=aq (aq (aq (seen b0 (addB 2)) rfl) (bX (xs:=[.im (.str (ah (gw W (a+2))))]) rfl rfl (yW (qu hW _)))) rfl
   have tS:ao (ai eR (aa 3) (bd (af (ag (.str "+")) (af (ag (.str "-")) (af (ag (.str "*")) (af (ag (.str "<")) (af (ag (.str "=")) ae))))) b8)) B G=some ((cC (.wd (gw W (a+1)))).isSome,B,G):=by
    refine aX (aw b3 (y:=⇑(.tup (List.map I.str ["+","-","*","<","="]))) rfl ?_)
    have hfl:(bK (.str (ah (gw W (a+1))))&&(List.map I.str [("+" : Str),"-","*","<","="]).all bK)=true:=rfl
    unfold eR bR ip
    dsimp only [sq]
    rw [if_pos hfl]
    dsimp only
    rw [yR];rfl
   have last:∀(j:Option Nat),ax (ai aI (bd (af (a6 cX (ag (.int 1))) (af (ai aC (aa 1) (ag (.int 1))) ae)) aL) (bd (af (fz (ai gG (aa 1) (ag (.int 0))) (ai a8 (bd (af (bb (aa 0)) (af (bd (af (aa 1) (af (ag (.int 0)) ae)) dS) ae)) (aA 2 gJ)) (ag (.str ")")))) ae) dC)) (bD kw (eA j) w0 ↑(.str (ah (gw W (a+1))))) G=some (.rt (.im (.int (eA (j.bind (gL W))))) G):=λj=>by
    obtain⟨L,hL⟩:∃L,L=bD kw (eA j) w0 ↑(.str (ah (gw W (a+1)))):=⟨_,rfl⟩
    rw [<- hL]
    have l0:aa 0 L G=some (⇑(.ref kw),L,G):=by rw [hL];rfl
    have l1:aa 1 L G=some (⇑(.int (eA j)),L,G):=by rw [hL];rfl
    have lg:ai gG (aa 1) (ag (.int 0)) L G=some (⇑(.bl (decide ((0:Int)≤eA j))),L,G):=aw l1 rfl rfl
    have ls:bd (af (a6 cX (ag (.int 1))) (af (ai aC (aa 1) (ag (.int 1))) ae)) aL L G=some (.v (.ow (.lst [.int (-1),.int (eA j+1)])),L,G):=aq (aq (a:=⇑(.int (-1))) rfl (aq (aq (aw l1 (y:=⇑(.int 1)) rfl rfl) rfl) rfl)) rfl
    cases j with
    | none =>
     have lt:fz (ai gG (aa 1) (ag (.int 0))) (ai a8 (bd (af (bb (aa 0)) (af (bd (af (aa 1) (af (ag (.int 0)) ae)) dS) ae)) (aA 2 gJ)) (ag (.str ")"))) L G=some (⇑(.bl false),L,G):=by unfold fz;exact aq lg rfl
     exact aV (Z1:=L) (aw ls (y:=⇑(.int 0)) (aq (aq lt rfl) rfl) (qt false))
    | some c =>
     have mx:bd (af (aa 1) (af (ag (.int 0)) ae)) dS L G=some (⇑(.int c),L,G):=by
      refine aq (aq l1 (aq (a:=[⇑(.int 0)]) rfl rfl)) ?_
      show some (Ev.v (.im (.int (if (0:Int)>(c:Int) then 0 else (c:Int)))),L,G)=_
      rw [if_neg (by lia)]
     have le:ai a8 (bd (af (bb (aa 0)) (af (bd (af (aa 1) (af (ag (.int 0)) ae)) dS) ae)) (aA 2 gJ)) (ag (.str ")")) L G=some (⇑(.bl (decide (gw W c=[41]))),L,G):=by
      refine aw (seen l0 mx) (y:=⇑(.str ")")) rfl ?_
      have:=dE (gw W c) [41]
      rw [hZ]
      simp only [a8,eQ,dQ,b9,dI,bK,bq,this];rfl
     have lt:fz (ai gG (aa 1) (ag (.int 0))) (ai a8 (bd (af (bb (aa 0)) (af (bd (af (aa 1) (af (ag (.int 0)) ae)) dS) ae)) (aA 2 gJ)) (ag (.str ")"))) L G=some (⇑(.bl (decide (gw W c=[41]))),L,G):=by
      unfold fz
      refine aq lg ?_
      have:decide ((0:Int)≤eA (some c))=true:=decide_eq_true (by show (0:Int)≤(c:Int);lia)
      rw [this]
      exact le
     have hp:=qt (G:=G) (a:=(c:Int)+1) (decide (gw W c=[41])) (Z:=L)
     have hr:(if decide (gw W c=[41])=true then (c:Int)+1 else -1)=eA ((some c).bind (gL W)):=by
      show _=eA (gL W c)
      unfold gL
      by_cases h:gw W c=[41]
      ·rw [if_pos h,decide_eq_true h];rfl
      ·rw [if_neg h,decide_eq_false h];rfl
     rw [hr] at hp
     exact aV (Z1:=L) (aw ls (aq (aq lt rfl) rfl) hp)
   have setB:∀(j:Option Nat),aF 1 (.im (.int (eA j))) B G=some (bD kw (eA j) w0 ↑(.str (ah (gw W (a+1)))),G):=λj=>by rw [hB];rfl
   cases hA:du (.wd (gw W (a+1)))&&bF (gw W (a+2)) with
   | true =>
    rw [if_pos rfl]
    rw [z1b] at hA
    rw [hA.1] at tA
    rw [hA.2] at tN
    exact aJ rfl (aj s1 (aj (aK t2 rfl) (aj s3 (aj (aU (kz tA tN) (bA (rcc b0 (addB 3) hc3) (setB _))) (last _)))))
   | false =>
    rw [if_neg (by decide)]
    have tt:eO (ao (ai a8 (aa 3) (ag (.str "at")))) (bd (bd (af (bd (af (bb (aa 0)) (af (ai aC (aa 1) (ag (.int 2))) ae)) (aA 2 gJ)) ae) (aA 1 mw)) cH) B G=some (false,B,G):=by
     cases h1:du (.wd (gw W (a+1))) with
     | false=>rw [h1] at tA;exact pX tA
     | true =>
      rw [h1] at tA hA
      rw [Bool.true_and] at hA
      rw [hA] at tN
      exact kz tA tN
    cases hS:(cC (.wd (gw W (a+1)))).isSome with
    | false =>
     rw [hS] at tS
     rw [if_neg (by decide)]
     exact aJ rfl (aj s1 (aj (aK t2 rfl) (aj s3 (aZ (aK tt (aK tS rfl))))))
    | true =>
     rw [hS] at tS
     rw [if_pos rfl]
     have g1:aM (bd (af (bb (aa 0)) (af (ai aC (aa 1) (ag (.int 2))) ae)) (aA 2 (gK n))) (aF 1) B G=some (.nx (bD kw (eA (bh W n (a+2))) w0 ↑(.str (ah (gw W (a+1))))) G):=bA (rcc b0 (addB 2) hc2) (setB _)
     cases hb:bh W n (a+2) with
     | none =>
      rw [hb] at g1
      exact aJ rfl (aj s1 (aj (aK t2 rfl) (aj s3 (aj (aK tt (aU tS (aj g1 (aK (Z1:=bD kw (eA none) w0 ↑(.str (ah (gw W (a+1))))) (G1:=G) rfl rfl)))) (last none)))))
     | some c =>
      rw [hb] at g1
      have hac:=(y88 n _ _ hb).1
      have hcc:nO (W.drop c)<n:=Nat.lt_of_le_of_lt (qv (by lia)) hc2
      have tg:ao (ai gG (aa 1) (ag (.int 0))) (bD kw (eA (some c)) w0 ↑(.str (ah (gw W (a+1))))) G=some (true,bD kw (eA (some c)) w0 ↑(.str (ah (gw W (a+1)))),G):=by
       refine aX (aw (x:=⇑(.int c)) (y:=⇑(.int 0)) rfl rfl ?_)
       have:decide ((0:Int)≤(c:Int))=true:=decide_eq_true (by lia)
       show some (Ev.v (.im (.bl (decide ((0:Int)≤(c:Int))))),_,G)=_
       rw [this]
      have g2:aM (bd (af (bb (aa 0)) (af (aa 1) ae)) (aA 2 (gK n))) (aF 1) (bD kw (eA (some c)) w0 ↑(.str (ah (gw W (a+1))))) G=some (.nx (bD kw (eA (bh W n c)) w0 ↑(.str (ah (gw W (a+1))))) G):=bA (rcc (c:=c) rfl rfl hcc) rfl
      exact aJ rfl (aj s1 (aj (aK t2 rfl) (aj s3 (aj (aK tt (aU tS (aj g1 (aU tg g2)))) (last (bh W n c))))))
  ·rw [if_neg h0]
   rw [decide_eq_false h0] at t2
   obtain⟨B,hB⟩:∃B,B=bD kw a ↑(.str (ah (gw W a))) none:=⟨_,rfl⟩
   rw [<- hB] at t2 s1
   have b2:aa 2 B G=some (⇑(.str (ah (gw W a))),B,G):=by rw [hB];rfl
   have b1:aa 1 B G=some (⇑(.int a),B,G):=by rw [hB];rfl
   have cn:bd (af (aa 2) ae) (aA 1 mw) B G=some (⇑(.bl (bF (gw W a))),B,G):=aq (aq b2 rfl) (bX (xs:=[.im (.str (ah (gw W a)))]) rfl rfl (yW (qu hW _)))
   have cw:bd (af (aa 2) ae) (aA 1 qP) B G=some (⇑(.bl (gx (gw W a)).isSome),B,G):=aq (aq b2 rfl) (bX (xs:=[.im (.str (ah (gw W a)))]) rfl rfl (Jx (qu hW _)))
   have co:vN (bd (af (aa 2) ae) (aA 1 mw)) (bd (af (aa 2) ae) (aA 1 qP)) B G=some (⇑(.bl (bF (gw W a)||(gx (gw W a)).isSome)),B,G):=by
    unfold vN
    refine aq cn ?_
    cases h:bF (gw W a) with
    | true=>rfl
    | false=>rw [Bool.false_or];exact cw
   have ls:bd (af (a6 cX (ag (.int 1))) (af (ai aC (aa 1) (ag (.int 1))) ae)) aL B G=some (.v (.ow (.lst [.int (-1),.int ((a:Int)+1)])),B,G):=aq (aq (a:=⇑(.int (-1))) rfl (aq (aq (aw b1 (y:=⇑(.int 1)) rfl rfl) rfl) rfl)) rfl
   have hp:=qt (G:=G) (a:=(a:Int)+1) (bF (gw W a)||(gx (gw W a)).isSome) (Z:=B)
   have hr:(if (bF (gw W a)||(gx (gw W a)).isSome)=true then (a:Int)+1 else -1)=eA (if (bF (gw W a)||(gx (gw W a)).isSome)=true then some (a+1) else none):=by
    split<;>rfl
   rw [hr] at hp
   exact aJ rfl (aj s1 (aZ (aU t2 (aV (Z1:=B) (aw ls (aq (aq co rfl) rfl) hp)))))
end
section
variable {G:List M}
theorem mQ(c:Nat):∀ps:List (List Nat),jz [c] ps=jn c ps
 | []=>rfl
 | [p]=>rfl
 | p::q::r=>by rw [qd [c] p (by simp),gu c p (by simp),mQ c (q::r)];simp
def qw(c:Nat)(l:List Nat):jn c (bZ c l)=l:=by
 rw [<- mQ,qe]
 induction l with
 | nil=>rfl
 | cons d l ih=>rw [List.flatMap_cons,ih];by_cases h:d=c<;>simp [h]
def Jz:∀{x y:List Nat},x.flatMap gg=y.flatMap gg->x=y:=by
 have hd:∀d:Nat,∃r,gg d=(if d=41 then 32 else d)::r/\((d=40/\r=[32])∨(d=41/\r=[41])∨(d≠40/\d≠41/\r=[])):=λd=>by
  unfold gg
  by_cases h:d=40
  ·subst h;exact⟨_,rfl,.inl ⟨rfl,rfl⟩⟩
  ·by_cases h':d=41
   ·subst h';exact⟨_,rfl,.inr (.inl ⟨rfl,rfl⟩)⟩
   ·rw [if_neg h,if_neg h',if_neg h'];exact⟨_,rfl,.inr (.inr ⟨h,h',rfl⟩)⟩
 have h41:∀(y r:List Nat),y.flatMap gg≠41::r:=λy r e=>by
  cases y with
  | nil=>cases e
  | cons d y =>
   obtain⟨q,e1,h1⟩:=hd d
   rw [List.flatMap_cons,e1,z36] at e
   injection e with e2 e3
   split at e2<;>lia
 intro x
 induction x with
 | nil =>
  intro y h
  cases y with
  | nil=>rfl
  | cons d y=>obtain⟨r,e,_⟩:=hd d;rw [List.flatMap_cons,e] at h;cases h
 | cons c x ih =>
  intro y h
  obtain⟨r,e,hr⟩:=hd c
  cases y with
  | nil=>rw [List.flatMap_cons,e] at h;cases h
  | cons d y =>
   obtain⟨q,e',hq⟩:=hd d
   rw [List.flatMap_cons,List.flatMap_cons,e,e',z36,z36] at h
   injection h with h1 h2
   rcases hr with⟨hc,rfl⟩| ⟨hc,rfl⟩| ⟨hc,hc',rfl⟩
   ·rcases hq with⟨hq1,rfl⟩| ⟨hq1,rfl⟩| ⟨hq1,hq2,rfl⟩
    ·rw [hc,hq1,ih (List.append_cancel_left h2)]
    ·rw [hc,hq1] at h1;simp at h1
    ·rw [hc,if_neg (by decide),if_neg hq2] at h1;lia
   ·rcases hq with⟨hq1,rfl⟩| ⟨hq1,rfl⟩| ⟨hq1,hq2,rfl⟩
    ·rw [hc,hq1] at h1;simp at h1
    ·rw [hc,hq1,ih (List.append_cancel_left h2)]
    ·exact absurd (show y.flatMap gg=41::_ from h2.symm) (h41 _ _)
   ·rcases hq with⟨hq1,rfl⟩| ⟨hq1,rfl⟩| ⟨hq1,hq2,rfl⟩
    ·rw [hq1,if_neg hc',if_neg (by decide)] at h1;lia
    ·exact absurd (show x.flatMap gg=41::_ from h2) (h41 _ _)
    ·rw [if_neg hc',if_neg hq2] at h1
     rw [h1,ih h2]
theorem yZ:∀x:List Nat,(x.flatMap gg).length≤2*x.length
 | []=>by simp
 | d::x=>by
  have:=yZ x
  rw [List.flatMap_cons,zc,z18]
  have:(gg d).length≤2:=by unfold gg;split<;>(try split)<;>simp
  lia
theorem zg:∀x:List Nat,(x.flatMap gg).count 40=x.count 40
 | []=>rfl
 | d::x=>by
  rw [List.flatMap_cons,z17,zg x,List.count_cons]
  unfold gg
  by_cases h:d=40
  ·subst h;simp;lia
  ·by_cases h':d=41
   ·subst h';simp
   ·rw [if_neg h,if_neg h'];simp [h]
theorem mR(c:Nat):∀l:List Nat,(bZ c l).length≤l.length+1/\∀w∈bZ c l,w.length≤l.length
 | []=>by simp [bZ]
 | d::l=>by
  obtain⟨h1,h2⟩:=mR c l
  rw [bZ]
  split
  ·refine⟨by simp;lia,λw hw=>?_⟩
   rcases z1d.mp hw with e|e
   ·subst e;simp
   ·have:=h2 w e;rw [z18];lia
  ·cases hs:bZ c l with
   | nil=>exact absurd hs (i3 c l)
   | cons p ps =>
    rw [hs] at h1 h2
    refine⟨by rw [z18] at h1 ⊢;rw [z18];lia,λw hw=>?_⟩
    rcases z1d.mp hw with e|e
    ·subst e;have:=h2 p List.mem_cons_self;rw [z18,z18];lia
    ·have:=h2 w (z21 _ e);rw [z18];lia
theorem zh(c:Nat):∀l:List Nat,nO (bZ c l)≤l.count 40
 | []=>by simp [bZ,nO]
 | d::l=>by
  have ih:=zh c l
  rw [bZ]
  split
  ·rw [gA,if_neg (by simp),List.count_cons];lia
  ·cases hs:bZ c l with
   | nil=>exact absurd hs (i3 c l)
   | cons p ps =>
    rw [hs,gA] at ih
    show nO ((d::p)::ps)≤_
    rw [gA,List.count_cons]
    by_cases h:d=40
    ·subst h
     simp only [beq_self_eq_true,if_true]
     split<;>lia
    ·rw [if_neg (by intro e;injection e with e1;exact h e1)];lia
def qx{x:List Nat}(hx:x.length≤19000):(b7 x).length≤40000/\(∀w∈b7 x,w.length≤100000)/\nO (b7 x)≤x.count 40:=by
 have h1:=yZ x
 obtain⟨h2,h3⟩:=mR 32 (x.flatMap gg)
 have h4:=zh 32 (x.flatMap gg)
 rw [zg] at h4
 exact⟨by unfold b7;lia,λw hw=>by have:=h3 w hw;lia,h4⟩
def JA{x:List Nat}{t:Tm}(k:t.ok)(h:b7 x=t.tk):x=t.tx:=by
 refine Jz ?_
 rw [t.sx k,<- h,b7,qw]
theorem Tm.y42b:∀{t:Tm},t.ok->t.size≤t.tx.length
 | .num w,_=>by
  have:=List.length_pos_iff.mpr (qS w)
  show 1≤(dg w).length
  lia
 | .cell x,h=>Nm.lo h
 | .at_ r t,h=>by
  have:=t.y42b h.2
  simp only [size,tx,zc,z18,List.length_nil];lia
 | .op s a b,h=>by
  have:=a.y42b h.2.1
  have:=b.y42b h.2.2
  simp only [size,tx,zc,z18,List.length_nil];lia
theorem Tm.yf2:∀t:Tm,t.deep≤nO t.tk+1
 | .num w=>by simp [deep]
 | .cell x=>by simp [deep]
 | .at_ r t=>by
  have:=t.yf2
  have h1:nO ([[40],[97,116],r]:List (List Nat)) ≥ 1:=by rw [gA,if_pos rfl];lia
  rw [deep,tk,eL,eL];lia
 | .op s a b=>by
  have:=a.yf2
  have:=b.yf2
  have h1:nO ([[40],[s]]:List (List Nat)) ≥ 1:=by rw [gA,if_pos rfl];lia
  rw [deep,tk,eL,eL,eL];lia
def JB{x:List Nat}(hx:x.length≤19000)(hc:x.count 40<150):∃G',xJ [.im (.str (ah x))] G=some (.im (.bl (decide (bh (b7 x) 150 0=some (b7 x).length))),G')/\dF G G':=by
 obtain⟨h1,h2,h3⟩:=qx hx
 refine⟨G++[M.lst ((b7 x).map wI)],?_,(dF.refl G).app _⟩
 have s1:aM (a6 (gk " ") (a6 (cM ")" " )") (a6 (cM "(" "( ") (aa 0)))) (aF 1) [↑(.str (ah x)),none] G=some (.nx [↑(.str (ah x)),↥((b7 x).map wI)] G):=bA (yE (v:=none) (r:=[none]) (by lia)) rfl
 have hk:(G++[M.lst ((b7 x).map wI)])[G.length]?=some (.lst ((b7 x).map wI)):=by simp
 have hb:=y86 (W:=b7 x) hk h2 (by lia) 150 0 (by rw [List.drop_zero];lia)
 have s2:bd (af (bb (aa 1)) (af (ag (.int 0)) ae)) (aA 2 (gK 150)) [↑(.str (ah x)),↥((b7 x).map wI)] G=some (⇑(.int (eA (bh (b7 x) 150 0))),[↑(.str (ah x)),↑(.ref G.length)],G++[M.lst ((b7 x).map wI)]):=aq (aq (a:=⇑(.ref G.length)) rfl (aq (a:=[⇑(.int 0)]) rfl rfl)) (bX (xs:=[.im (.ref G.length),.im (.int 0)]) rfl rfl hb)
 have s3:bd (af (aa 1) ae) aH [↑(.str (ah x)),↑(.ref G.length)] (G++[M.lst ((b7 x).map wI)])=some (⇑(.int (b7 x).length),[↑(.str (ah x)),↑(.ref G.length)],G++[M.lst ((b7 x).map wI)]):=by
  refine aq (aq (a:=⇑(.ref G.length)) rfl rfl) ?_
  simp [aH,sq,pk]
 refine aJ rfl (aj s1 (aV (Z1:=[↑(.str (ah x)),↑(.ref G.length)]) (aw s2 s3 ?_)))
 have:(eA (bh (b7 x) 150 0) == ((b7 x).length:Int))=decide (bh (b7 x) 150 0=some (b7 x).length):=by
  cases bh (b7 x) 150 0 with
  | none =>
   rw [decide_eq_false (by simp)]
   exact beq_eq_false_iff_ne.mpr (show (-1:Int)≠_ by lia)
  | some j =>
   by_cases h:j=(b7 x).length
   ·rw [decide_eq_true (by rw [h]),h];exact beq_self_eq_true _
   ·rw [decide_eq_false (by simpa using h)]
    exact beq_eq_false_iff_ne.mpr (show ((j:Int))≠_ by lia)
 simp only [a8,eQ,dQ,b9,dI,bK,bq,this];rfl
def zi{x:List Nat}(hx:x.length≤19000):∃G',bd (af (bd (af (aa 0) ae) (aA 1 nA)) ae) (aA 1 nz) [↑(.str (ah x)),none] G=some (⇑(br Tm.i (i9 (b7 x))),[↑(.str (ah x)),none],G')/\dF G G':=by
 obtain⟨h1,h2,h3⟩:=qx hx
 obtain⟨G',e,fr⟩:=Ju (G:=G) h2 h1
 exact⟨G',aq (aq (aq (aq (a:=⇑(.str (ah x))) rfl rfl) (bX (xs:=[.im (.str (ah x))]) rfl rfl (Jc (by lia)))) rfl) (bX (xs:=[.ow (.lst ((b7 x).map wI))]) rfl rfl e),fr⟩
def JC{x:List Nat}{t:Tm}(hx:x.length≤19000)(h:i9 (b7 x)=some t):∃G',AK [.im (.str (ah x))] G=some (.im t.i,G')/\dF G G':=by
 obtain⟨G',e,fr⟩:=zi (G:=G) hx
 rw [h] at e
 obtain⟨ys,hi⟩:=t.y1c0
 refine⟨G',?_,fr⟩
 rw [show br Tm.i (some t)=t.i from rfl] at e
 rw [hi] at e ⊢
 exact aJ rfl (aj (bA e rfl) (aj (aK (Z1:=[↑(.str (ah x)),↑(.tup ys)]) (G1:=G') rfl rfl) rfl))
def JD{x:List Nat}(hx:x.length≤19000)(h:i9 (b7 x)=none):∃G',qR [.im (.str (ah x))] G=some (.im (.tup [.bl true,.bl true,.bl false,.int 0]),G')/\dF G G':=by
 obtain⟨G',e,fr⟩:=zi (G:=G) hx
 rw [h] at e
 rw [show br Tm.i none=.non from rfl] at e
 refine⟨G',?_,fr⟩
 have a1:fE (aM (bd (af (bd (af (aa 0) ae) (aA 1 nA)) ae) (aA 1 nz)) (aF 1)) [↑(.str (ah x)),none] G=some (.nx [↑(.str (ah x)),↑.non] G'):=by
  unfold fE
  rw [bA e rfl]
  rfl
 have:AL [.im (.str (ah x))] G=some (.ow (.obj "NoText" [("row",.int 0)]),G'):=aJ rfl (aj a1 (aZ (aU (Z1:=[↑(.str (ah x)),↑.non]) (G1:=G') rfl rfl)))
 unfold qR
 rw [this]
 rfl
def JE{x:List Nat}(hx:x.length≤19000)(hc:x.count 40<150):∃G',xO [.im (.str (ah x))] G=some (.im (.bl true),G')/\dF G G':=by
 obtain⟨G1,e1,f1⟩:=JB (G:=G) hx hc
 obtain⟨h1,h2,h3⟩:=qx hx
 have c1:bd (bd (af (aa 0) ae) (aA 1 xJ)) cH [↑(.str (ah x))] G=some (decide (bh (b7 x) 150 0=some (b7 x).length),[↑(.str (ah x))],G1):=aq (aq (aq (a:=⇑(.str (ah x))) rfl rfl) (bX (xs:=[.im (.str (ah x))]) rfl rfl e1)) rfl
 by_cases hb:bh (b7 x) 150 0=some (b7 x).length
 ·rw [decide_eq_true hb] at c1
  obtain⟨_,_,t,ht,e⟩:=y88 150 0 _ hb
  rw [List.drop_zero,List.drop_length,z10] at e
  have hxt:=JA ht e
  have hp:i9 (b7 x)=some t:=by rw [e];exact Jh ht
  obtain⟨G2,e2,f2⟩:=JC (G:=G1) hx hp
  have hs:=Tm.y42b ht
  have hd:=Tm.yf2 t
  rw [e] at h3
  rw [<- hxt] at hs
  have e3:=mH 150 (t:=t) (G:=G2) (by lia) ht (by lia)
  rw [<- hxt] at e3
  refine⟨G2,aJ rfl (aZ (aU c1 (aV (Z1:=[↑(.str (ah x))]) (aw (x:=⇑(.str (ah x))) (y:=⇑(.str (ah x))) (Z1:=[↑(.str (ah x))]) (G1:=G2) (aq (aq (aq (aq (a:=⇑(.str (ah x))) rfl rfl) (bX (xs:=[.im (.str (ah x))]) rfl rfl e2)) rfl) (bX (xs:=[.im t.i]) rfl rfl e3)) rfl ?_)))),f1.trans f2⟩
  have:=dE x x
  rw [decide_eq_true rfl] at this
  simp only [a8,eQ,dQ,b9,dI,bK,bq,this];rfl
 ·rw [decide_eq_false hb] at c1
  have hp:i9 (b7 x)=none:=by
   cases h:i9 (b7 x) with
   | none=>rfl
   | some t =>
    obtain⟨ht,e⟩:=Jg h
    obtain⟨i1,_⟩:=yY (W:=b7 x) 150 0 (t:=t) (R:=[]) ht (by rw [List.drop_zero,e,z10]) (by rw [e];lia)
    rw [e,Nat.zero_add] at i1
    exact absurd i1 hb
  obtain⟨G2,e2,f2⟩:=JD (G:=G1) hx hp
  exact⟨G2,aJ rfl (aj (aK c1 rfl) (aV (Z1:=[↑(.str (ah x))]) (aw (x:=⇑(.tup [.bl true,.bl true,.bl false,.int 0])) (y:=⇑(.tup [.bl true,.bl true,.bl false,.int 0])) (Z1:=[↑(.str (ah x))]) (G1:=G2) (aq (aq (a:=⇑(.str (ah x))) rfl rfl) (bX (xs:=[.im (.str (ah x))]) rfl rfl e2)) rfl rfl))),f1.trans f2⟩
end
section
variable {G:List M}{d l w:Nat}{ys:List Str}
abbrev sm(f:List Nat->Nat)(L:List (List Nat)):Nat:=(L.map f).sum
def qy(f:List Nat->Nat)(a b:List (List Nat)):sm f (a++b)=sm f a+sm f b:=by unfold sm;rw [z27,List.sum_append]
def mS(f:List Nat->Nat)(k:Nat)(L:List (List Nat)):sm f (L.take k)+sm f (L.drop k)=sm f L:=by rw [<- qy,List.take_append_drop]
def mU(f:List Nat->Nat)(p:List Nat):sm f [p]=f p:=by simp [sm]
def gD(f:List Nat->Nat)(p:List Nat)(L:List (List Nat)):sm f (p::L)=f p+sm f L:=by simp [sm]
theorem zj(f:List Nat->Nat):∀L:List (List Nat),sm f L.reverse=sm f L
 | []=>rfl
 | p::L=>by rw [List.reverse_cons,qy,zj f L,mU,gD];lia
theorem qz(f:List Nat->Nat):∀(L:List (List Nat)) (i:Nat) (h:i<L.length) (v:List Nat),sm f (L.set i v)+f L[i]=sm f L+f v
 | [],i,h,v=>absurd h (by simp)
 | p::L,0,h,v=>by rw [List.set_cons_zero,gD,gD,List.getElem_cons_zero];lia
 | p::L,i+1,h,v=>by
  have:=qz f L i (by simpa using h) v
  rw [List.set_cons_succ,gD,gD,List.getElem_cons_succ];lia
abbrev l1(p:List Nat):Nat:=p.length+1
abbrev c40(p:List Nat):Nat:=p.count 40
theorem qA:∀{L:List (List Nat)},L≠[]->(jn 32 L).length+1=sm l1 L
 | [],h=>absurd rfl h
 | [p],_=>by rw [mU];rfl
 | p::q::r,_=>by
  have:=qA (L:=q::r) (by simp)
  rw [gu 32 p (by simp),gD,zc,z18]
  unfold l1 at this ⊢
  lia
def zk(L:List (List Nat)):(jn 32 L).length≤sm l1 L:=by
 cases L with
 | nil=>simp [jn]
 | cons p L=>have:=qA (L:=p::L) (by simp);lia
theorem mV:∀L:List (List Nat),(jn 32 L).count 40=sm c40 L
 | []=>rfl
 | [p]=>by rw [mU];rfl
 | p::q::r=>by
  rw [gu 32 p (by simp),gD,z17,List.count_cons,mV (q::r)]
  simp [c40]
def zl(x:List Nat):sm l1 (bZ 32 x)=x.length+1:=by rw [<- qA (i3 32 x),qw]
def zm(x:List Nat):sm c40 (bZ 32 x)=x.count 40:=by rw [<- mV,qw]
def yd6{xs:List I}{m:Nat}:eS xs (some (m:Int)) none=xs.drop m:=by
 rcases Nat.le_total m xs.length with h|h
 ·exact yd7 h
 ·unfold eS
  rw [HT.y3eb,HT.y3ea,Nat.min_eq_right h,List.drop_eq_nil_of_le (z12 _),List.drop_eq_nil_of_le h,List.take_nil]
def yd8{xs:List I}{m k:Nat}:eS xs (some (m:Int)) (some ((m+k:Nat):Int))=(xs.drop m).take k:=by
 rcases Nat.le_total (m+k) xs.length with h|h
 ·exact ydb h
 ·unfold eS
  rw [HT.y3ea,HT.y3ea,Nat.min_eq_right h]
  rcases Nat.le_total m xs.length with h1|h1
  ·rw [Nat.min_eq_left h1,z30 (by rw [z2d];lia),z30 (by rw [z2d];lia)]
  ·rw [Nat.min_eq_right h1,List.drop_eq_nil_of_le (z12 _),List.drop_eq_nil_of_le h1];simp
def JF(x:List Nat)(a:Nat):Txt.slice (ah x) (some (a:Int)) none=ah (x.drop a):=by
 rcases Nat.le_total a x.length with h|h
 ·rw [qg (ah x) (by rw [bE];exact h),dX]
 ·have h1:Txt.slice (ah x) (some (a:Int)) none=Txt.slice (ah x) (some (x.length:Int)) none:=by
   have hi:Builtin.Str.strSliceIndices (some (a:Int)) none 1 (ah x).length=Builtin.Str.strSliceIndices (some (x.length:Int)) none 1 (ah x).length:=by
    rw [bE]
    unfold Builtin.Str.strSliceIndices
    dsimp only
    rw [if_neg (by lia:¬ (a:Int)<0),if_neg (by lia:¬ (x.length:Int)<0),Int.min_eq_right (by lia:(x.length:Int)≤a),Int.min_eq_right (Int.le_refl (x.length:Int))]
    rfl
   unfold Txt.slice
   rw [hi]
  rw [h1,qg (ah x) (by rw [bE];exact z12 _),dX,List.drop_eq_nil_of_le (z12 _),List.drop_eq_nil_of_le h]
def zo{z:List Nat}{ps:List (List Nat)}{e:Ev}{Z:De}(hp:pk Z G e=some (.lst (ps.map wI)))(h:sm l1 ps≤1000000)(hz:z.length=1):dk [⇑(.str (ah z)),e] Z G=some (⇑(.str (ah (jz z ps))),Z,G):=by
 have e1:dB (ps.map wI)=some (ps.map ah):=by
  have:ps.map wI=(ps.map ah).map I.str:=by rw [z32];rfl
  rw [this,l6]
 have hz:(((ps.map ah)).map (·.length)).sum+(ps.map ah).length*(ah z).length≤1000000:=by
  rw [z32,z11,bE,hz]
  have:((λx:Str=>x.length) ∘ ah)=λp:List Nat=>p.length:=by funext p;exact bE p
  rw [this]
  have h2:∀L:List (List Nat),(L.map λp=>p.length).sum+L.length*1=sm l1 L:=λL=>by
   induction L with
   | nil=>rfl
   | cons p L ih=>rw [gD,<- ih,z19,List.sum_cons,z18];unfold l1;lia
  rw [h2];exact h
 unfold dk
 dsimp only
 rw [hp]
 dsimp only
 rw [e1]
 dsimp only
 rw [if_pos hz,yA]
structure Nd(G:List M)(d l w:Nat)(ys:List Str):Prop where
 D:DG G d l
 hw:G[w]?=some (.lst (ys.map I.str))
 nd:w≠d
 nl:w≠l
 n:ys.length=12
 nm:∀y∈ys,kB y
def Nd.mor{G':List M}(s:Nd G d l w ys)(D:DG G' d l)(o:Mor d l G G'):Nd G' d l w ys :=
 ⟨D,(o.at_ _ (z1a.mp s.hw).1 s.nd s.nl).trans s.hw,s.nd,s.nl,s.n,s.nm⟩
theorem Nd.app(s:Nd G d l w ys)(T:List M):Nd (G++T) d l w ys:=s.mor (s.D.app T) (Mor.app T)
def Nd.draw{many:Int}(s:Nd G d l w ys)(h0:0<many)(h1:many<2 ^ 100):∃r G',bt [.im (.ref d),.im (.int many)] G=some (.im (.int r),G')/\0≤r/\r<many/\Nd G' d l w ys:=by
 obtain⟨r,G',e,p0,p1,D,o⟩:=dr s.D h0 h1
 exact⟨r,G',e,p0,p1,s.mor D o.mor⟩
def Nd.y10b{many:Nat}(s:Nd G d l w ys)(h0:0<many)(h1:many≤1000000):∃(r:Nat) (G':List M),bt [.im (.ref d),.im (.int many)] G=some (.im (.int r),G')/\r<many/\Nd G' d l w ys:=by
 have hm:(many:Int)<2 ^ 100:=Int.lt_of_le_of_lt (show (many:Int)≤1000000 by lia) (by decide)
 obtain⟨r,G',e,p0,p1,s'⟩:=s.draw (many:=many) (by lia) hm
 obtain⟨j,rfl⟩:=Int.eq_ofNat_of_zero_le p0
 exact⟨j,G',e,by lia,s'⟩
def mW{e:Ev}{xs:List I}{r:Int}{i:I}{Z:De}(h:sq Z G e=some xs)(hi:cB xs r=some i):aI [e,⇑(.int r)] Z G=some (⇑i,Z,G):=by
 unfold aI bR eF
 dsimp only
 rw [h]
 dsimp only
 rw [hi]
def zp{z:Str}{r:Int}{c:Nat}{Z:De}(hi:cB z.cps.toList r=some c)(hl:z.length≤1000000):aI [⇑(.str z),⇑(.int r)] Z G=some (⇑(.str (ah [c])),Z,G):=by
 unfold aI bR eF
 dsimp only [sq,pk]
 rw [hi]
 dsimp only
 rw [if_pos hl]
 rfl
abbrev dv:List Str:=["","(",")","(at","(+","(<","(=","()","0)","0","00","07","-1","1.5","1_0","+1","4294967296","4294967295","42949672950","at","end","cell","+","-","*","/","(-","(*","a1","Ab","(+)"]
def zq:∀z∈dv,z.cps.toList.length≤12/\z.cps.toList.count 40≤1:=by decide +kernel
def Nm.c40{x:List Nat}(h:Nm x):x.count 40=0:=List.count_eq_zero.mpr λhm=>by have:=h.ab _ hm;lia
def zr(s:Nd G d l w ys):∃(z:List Nat) (G':List M),pT [.im (.ref d),.im (.ref w)] G=some (.im (.str (ah z)),G')/\z.length≤12/\z.count 40≤1/\Nd G' d l w ys:=by
 obtain⟨r,G1,e1,p1,s1⟩:=s.y10b (many:=39) (by decide) (by decide)
 have hl:(dv++ys.take 8).length=39:=by rw [zc,z2b,s.n];rfl
 obtain⟨z,ez,hz⟩:=mF (xs:=dv++ys.take 8) (r:=(r:Int)) (by lia) (by lia)
 refine⟨z.cps.toList,G1,?_,?_,?_,s1⟩
 ·rw [hR]
  obtain⟨D,hD⟩:∃D:De,D=[↑(.ref d),↑(.ref w),↥(dv.map I.str)]:=⟨_,rfl⟩
  have v0:∀g,aa 0 D g=some (⇑(.ref d),D,g):=λg=>by rw [hD];rfl
  have v1:∀g,aa 1 D g=some (⇑(.ref w),D,g):=λg=>by rw [hD];rfl
  have v2:∀g,aa 2 D g=some (.s 2,D,g):=λg=>by rw [hD];rfl
  have k2:∀g,pk D g (.s 2)=some (.lst (dv.map I.str)):=λg=>by rw [hD];rfl
  have a1:az (aa 1) aB (av (ag (.int 8))) D G=some (.v (.ow (.lst ((ys.take 8).map I.str))),D,G):=by
   refine aq (v1 G) (aq (m:=aB) (a:=[]) rfl (aq (m:=av (ag (.int 8))) (a:=[⇑(.int 8)]) rfl ?_))
   show ck none (some ((8:Nat):Int)) [⇑(.ref w),⇑(.int 8)] _ G=_
   have:sq D G ⇑(.ref w)=some (ys.map I.str):=by simp [sq,pk,s.hw]
   unfold ck
   dsimp only
   rw [if_pos (show eG ⇑(.ref w)=true from rfl),this]
   dsimp only
   rw [yd9,List.map_take]
  have a2:ai aC (aa 2) (az (aa 1) aB (av (ag (.int 8)))) D G=some (.v (.ow (.lst ((dv++ys.take 8).map I.str))),D,G):=by
   refine aw (v2 G) a1 ?_
   have hn:(dv.map I.str).length+((ys.take 8).map I.str).length≤1000000:=by rw [z11,z11];rw [zc] at hl;lia
   show lQ [.s 2,.v (.ow (.lst ((ys.take 8).map I.str)))] D G=_
   unfold lQ
   dsimp only
   rw [k2]
   dsimp only [pk]
   rw [if_pos hn,z27]
  have a3:bd (af (aa 2) ae) aH D G=some (⇑(.int 31),D,G):=by
   refine aq (aq (v2 G) rfl) ?_
   unfold aH
   have:sq D G (.s 2)=some (dv.map I.str):=by rw [hD];rfl
   dsimp only
   rw [this];rfl
  have a4:bd (af (aa 1) ae) aH D G=some (⇑(.int 12),D,G):=by
   refine aq (aq (v1 G) rfl) ?_
   unfold aH
   have:sq D G ⇑(.ref w)=some (ys.map I.str):=by simp [sq,pk,s.hw]
   dsimp only
   rw [this]
   dsimp only
   rw [z11,s.n];rfl
  have a5:bd (af (aa 0) (af (ai aC (bd (af (aa 2) ae) aH) (bd (af (ag (.int 8)) (af (bd (af (aa 1) ae) aH) ae)) pf)) ae)) (aA 2 bt) D G=some (⇑(.int r),D,G1) :=
   aq (aq (v0 G) (aq (aq (aw a3 (aq (aq (a:=⇑(.int 8)) rfl (aq (aq a4 rfl) rfl)) (r:=some (⇑(.int 8),D,G)) rfl) (r:=some (⇑(.int 39),D,G)) rfl) rfl) rfl)) (bX (xs:=[.im (.ref d),.im (.int 39)]) rfl rfl e1)
  refine aJ rfl (aj (bA (x:=.ow (.lst ((dv.take 16).map I.str))) (Z1:=[↑(.ref d),↑(.ref w),none]) (G1:=G) rfl rfl) (aj (bA (x:=.ow (.lst ((dv.take 27).map I.str))) (Z1:=[↑(.ref d),↑(.ref w),↥((dv.take 16).map I.str)]) (G1:=G) rfl rfl) (aj (Z1:=D) (G1:=G) (bA (x:=.ow (.lst (dv.map I.str))) (Z1:=[↑(.ref d),↑(.ref w),↥((dv.take 27).map I.str)]) (G1:=G) rfl (by rw [hD];rfl)) (aV (Z1:=D) (aw a2 a5 ?_)))))
  exact mW rfl ez
 ·rcases z1e.mp hz with h|h
  ·exact (zq z h).1
  ·have:=(s.nm z (List.mem_of_mem_take h)).hi;lia
 ·rcases z1e.mp hz with h|h
  ·exact (zq z h).2
  ·rw [Nm.c40 (s.nm z (List.mem_of_mem_take h))];lia
abbrev dZ:Str:=" !\"#$&'()*+,-./0123456789:;<=>?\x40[\\]^_`{|}~"
abbrev gE:Str:="abcdefghijklmnopqrstuvwxyzABCDEFGHIJKLMNOPQRSTUVWXYZ"
def JG:(dZ++gE).cps.toList.length=94/\dZ.length+gE.length≤1000000/\(dZ++gE).length=94:=by decide +kernel
def y6f(s:Nd G d l w ys):∃(c:Nat) (G':List M),qN [.im (.ref d)] G=some (.im (.str (ah [c])),G')/\Nd G' d l w ys:=by
 obtain⟨h1,h2,h3⟩:=JG
 obtain⟨r,G1,e1,p1,s1⟩:=s.y10b (many:=94) (by decide) (by decide)
 obtain⟨c,ec,_⟩:=mG (xs:=(dZ++gE).cps.toList) (r:=(r:Int)) (by lia) (by lia)
 refine⟨c,G1,?_,s1⟩
 have a0:aC [⇑(.str dZ),⇑(.str gE)] [↑(.ref d),↑(.str dZ)] G=some (⇑(.str (dZ++gE)),[↑(.ref d),↑(.str dZ)],G):=by
  simp [aC,bR,km,bC,jd,h2]
 obtain⟨z,hz⟩:∃z,z=dZ++gE:=⟨_,rfl⟩
 rw [<- hz] at a0 ec h3
 have a1:bd (af (aa 1) ae) aH [↑(.ref d),↑(.str z)] G=some (⇑(.int 94),[↑(.ref d),↑(.str z)],G):=by
  refine aq (aq (a:=⇑(.str z)) rfl rfl) ?_
  show (if z.length≤1000000 then some (Ev.v (.im (.int z.length)),_,G) else none)=_
  rw [if_pos (by lia),h3];rfl
 refine aJ rfl (aj (bA (x:=.im (.str dZ)) (Z1:=[↑(.ref d),none]) (G1:=G) rfl rfl) (aj (bA (aw (x:=⇑(.str dZ)) (y:=⇑(.str gE)) rfl rfl a0) rfl) (aV (Z1:=[↑(.ref d),↑(.str z)]) (aw (x:=⇑(.str z)) (y:=⇑(.int r)) (Z2:=[↑(.ref d),↑(.str z)]) (G2:=G1) rfl (aq (aq (a:=⇑(.ref d)) rfl (aq (aq a1 rfl) rfl)) (bX (xs:=[.im (.ref d),.im (.int 94)]) rfl rfl e1)) (zp ec (by lia))))))
abbrev eM:List Str:=[""," ","a b","0 1","(+ 1 2) 3","((+ 1 2))","( + 1 2)","(+ 1 2 )","(+ 1)","(+ 1 2 3)","(at a)","(at 1)","(at a 1 2)","(at 1 a)","(at at 1)","(/ 1 2)","(a 1 2)","()","a\n","\na","(+ 1 2","+ 1 2"]
def zt:∀z∈eM,z.cps.toList.length≤12/\z.cps.toList.count 40≤2:=by decide +kernel
def JH(s:Nd G d l w ys):∃(z:List Nat) (G':List M),AI [.im (.ref d)] G=some (.im (.str (ah z)),G')/\z.length≤12/\z.count 40≤2/\Nd G' d l w ys:=by
 obtain⟨r,G1,e1,p1,s1⟩:=s.y10b (many:=22) (by decide) (by decide)
 have hl:eM.length=22:=rfl
 obtain⟨z,ez,hz⟩:=mF (xs:=eM) (r:=(r:Int)) (by lia) (by lia)
 refine⟨z.cps.toList,G1,?_,(zt z hz).1,(zt z hz).2,s1⟩
 rw [hR]
 refine aJ rfl (aj (bA (x:=.ow (.lst ((eM.take 10).map I.str))) (Z1:=[↑(.ref d),none]) (G1:=G) rfl rfl) (aj (bA (x:=.ow (.lst ((eM.take 18).map I.str))) (Z1:=[↑(.ref d),↥((eM.take 10).map I.str)]) (G1:=G) rfl rfl) (aj (bA (x:=.ow (.lst (eM.map I.str))) (Z1:=[↑(.ref d),↥((eM.take 18).map I.str)]) (G1:=G) rfl rfl) (aV (Z1:=[↑(.ref d),↥(eM.map I.str)]) (aw (x:=.s 1) (y:=⇑(.int r)) (Z2:=[↑(.ref d),↥(eM.map I.str)]) (G2:=G1) rfl (aq (a:=[⇑(.ref d),⇑(.int 22)]) rfl (bX (xs:=[.im (.ref d),.im (.int 22)]) rfl rfl e1)) (mW rfl ez))))))
end
section
variable {G:List M}{d l w:Nat}{ys:List Str}
abbrev Sm(x y:List Nat):Prop:=y.length≤2*x.length+20/\y.count 40≤2*x.count 40+2
def JI{e e':Ev}{xs zs:List I}{Z:De}(h:pk Z G e=some (.lst xs))(h':pk Z G e'=some (.lst zs))(n1:AA e=false)(hi:∀i,e≠⇑(.int i))(ht:∀q,e≠⇑(.tup q))(hl:xs.length+zs.length≤1000000):aC [e,e'] Z G=some (.v (.ow (.lst (xs++zs))),Z,G):=by
 cases e with
 | v x =>
  cases x with
  | ow m =>
   have:m=.lst xs:=z20 h
   subst this
   simp [aC,bR,km,bC,jd,oT,lQ,h,h',hl]
  | im i =>
   cases i with
   | ref k=>simp [aC,bR,km,bC,jd,oT,lQ,h,h',hl]
   | int j=>exact absurd rfl (hi j)
   | str z=>cases n1
   | tup q=>exact absurd rfl (ht q)
   | _=>cases h
 | s i=>simp [aC,bR,km,bC,jd,oT,lQ,h,h',hl]
abbrev pD(d w:Nat)(x:List Nat)(ws:List (List Nat))(a o:Nat)(one:List Nat)(f:Nat)(v8 v9 v10:Option Vl):De :=
 [↑(.ref d),↑(.str (ah x)),↑(.ref w),↥(ws.map wI),↑(.int a),↑(.int o),↑(.str (ah one)),↑(.int f),v8,v9,v10]
section
variable {x:List Nat}{W:List (List Nat)}{a o f:Nat}{one:List Nat}{v8 v9 v10:Option Vl}
def qB{lo hi:Option Int}{r:List Ev}{L:List (List Nat)}(h:eS (W.map wI) lo hi=L.map wI):ck lo hi (.s 3::r) (pD d w x W a o one f v8 v9 v10) G=some (.v (.ow (.lst (L.map wI))),(pD d w x W a o one f v8 v9 v10),G):=by
 unfold ck
 dsimp only
 rw [if_pos (show eG (.s 3)=true from rfl),show sq (pD d w x W a o one f v8 v9 v10) G (.s 3)=some (W.map wI) from rfl,<- h]
def mX{g:Mo Ev}{k:Nat}(h:g (pD d w x W a o one f v8 v9 v10) G=some (⇑(.int k),(pD d w x W a o one f v8 v9 v10),G)):az (aa 3) aB (av g) (pD d w x W a o one f v8 v9 v10) G=some (.v (.ow (.lst ((W.take k).map wI))),(pD d w x W a o one f v8 v9 v10),G):=by
 refine aq (m:=aa 3) (a:=.s 3) rfl (aq (m:=aB) (a:=[]) rfl (aq (m:=av g) (a:=[⇑(.int k)]) (aq h rfl) ?_))
 show ck none (some (k:Int)) (.s 3::_) _ G=_
 exact qB (by rw [yd9,List.map_take])
def kg{g:Mo Ev}{k:Nat}(h:g (pD d w x W a o one f v8 v9 v10) G=some (⇑(.int k),(pD d w x W a o one f v8 v9 v10),G)):az (aa 3) (av g) aB (pD d w x W a o one f v8 v9 v10) G=some (.v (.ow (.lst ((W.drop k).map wI))),(pD d w x W a o one f v8 v9 v10),G):=by
 refine aq (m:=aa 3) (a:=.s 3) rfl (aq (m:=av g) (a:=[⇑(.int k)]) (aq h rfl) (aq (m:=aB) (a:=[]) rfl ?_))
 show ck (some (k:Int)) none (.s 3::_) _ G=_
 exact qB (by rw [yd6,List.map_drop])
def zu{g g':Mo Ev}{k j:Nat}(h:g (pD d w x W a o one f v8 v9 v10) G=some (⇑(.int k),(pD d w x W a o one f v8 v9 v10),G))(h':g' (pD d w x W a o one f v8 v9 v10) G=some (⇑(.int ((k+j:Nat):Int)),(pD d w x W a o one f v8 v9 v10),G)):az (aa 3) (av g) (av g') (pD d w x W a o one f v8 v9 v10) G=some (.v (.ow (.lst (((W.drop k).take j).map wI))),(pD d w x W a o one f v8 v9 v10),G):=by
 refine aq (m:=aa 3) (a:=.s 3) rfl (aq (m:=av g) (a:=[⇑(.int k)]) (aq h rfl) (aq (m:=av g') (a:=[⇑(.int ((k+j:Nat):Int))]) (aq h' rfl) ?_))
 show ck (some (k:Int)) (some ((k+j:Nat):Int)) (.s 3::_) _ G=_
 exact qB (by rw [yd8,List.map_take,List.map_drop])
def qV:aa 4 (pD d w x W a o one f v8 v9 v10) G=some (⇑(.int a),(pD d w x W a o one f v8 v9 v10),G):=rfl
def zw(k:Nat):ai aC (aa 4) (ag (.int k)) (pD d w x W a o one f v8 v9 v10) G=some (⇑(.int ((a+k:Nat):Int)),(pD d w x W a o one f v8 v9 v10),G):=aw (x:=⇑(.int a)) (y:=⇑(.int k)) rfl rfl rfl
def qC{g g':Mo Ev}{A B:List (List Nat)}(h:g (pD d w x W a o one f v8 v9 v10) G=some (.v (.ow (.lst (A.map wI))),(pD d w x W a o one f v8 v9 v10),G))(h':g' (pD d w x W a o one f v8 v9 v10) G=some (.v (.ow (.lst (B.map wI))),(pD d w x W a o one f v8 v9 v10),G))(hl:A.length+B.length≤1000000):ai aC g g' (pD d w x W a o one f v8 v9 v10) G=some (.v (.ow (.lst ((A++B).map wI))),(pD d w x W a o one f v8 v9 v10),G):=by
 rw [z27]
 exact aw h h' (JI rfl rfl rfl (by simp) (by simp) (by rw [z11,z11];exact hl))
def zx:bd (af (aa 6) ae) aL (pD d w x W a o one f v8 v9 v10) G=some (.v (.ow (.lst ([one].map wI))),(pD d w x W a o one f v8 v9 v10),G):=rfl
def zy{g:Mo Ev}{A:List (List Nat)}(h:g (pD d w x W a o one f v8 v9 v10) G=some (.v (.ow (.lst (A.map wI))),(pD d w x W a o one f v8 v9 v10),G)):a6 gh g (pD d w x W a o one f v8 v9 v10) G=some (.v (.ow (.lst (A.reverse.map wI))),(pD d w x W a o one f v8 v9 v10),G):=by
 rw [List.map_reverse]
 exact hG h rfl
def zA{g:Mo Ev}{A:List (List Nat)}(h:g (pD d w x W a o one f v8 v9 v10) G=some (.v (.ow (.lst (A.map wI))),(pD d w x W a o one f v8 v9 v10),G)):bb g (pD d w x W a o one f v8 v9 v10) G=some (⇑(.ref G.length),(pD d w x W a o one f v8 v9 v10),G++[M.lst (A.map wI)]):=aq h rfl
end
end
section
set_option maxHeartbeats 1000000
variable {G:List M}{d l w:Nat}{ys:List Str}
def zB(f:List Nat->Nat)(W:List (List Nat))(a:Nat)(p:List Nat) :
  sm f (W.take a++W.drop (a+1))≤sm f W/\sm f (W.take (a+1)++W.drop a)≤2*sm f W/\sm f (W.take a++[p]++W.drop (a+1))≤sm f W+f p/\sm f (W.take a++[p]++W.drop a)≤sm f W+f p/\sm f (W.take a++((W.drop a).take 2).reverse++W.drop (a+2))≤sm f W:=by
 have h0:=mS f a W
 have h1:=mS f (a+1) W
 have h2:=mS f 2 (W.drop a)
 have h3:=mS f 1 (W.drop a)
 rw [List.drop_drop] at h2 h3
 simp only [qy,mU,zj]
 lia
def JJ(W:List (List Nat))(a:Nat):(W.take a).length≤W.length/\(W.drop a).length≤W.length:=by
 rw [z2b,z2d];lia
def JK{x:List Nat}{a o:Nat}{one:List Nat}{f:Nat}(hx:x.length≤6000)(ho:one.length≤12/\one.count 40≤1)(hf:f<5)(s:Nd G d l w ys):∃(y:List Nat) (G':List M),
  (ak (aM (bd (af (bb (ai aC (az (aa 3) aB (av (aa 4))) (az (aa 3) (av (ai aC (aa 4) (ag (.int 1)))) aB))) (af (bb (ai aC (az (aa 3) aB (av (ai aC (aa 4) (ag (.int 1))))) (az (aa 3) (av (aa 4)) aB))) (af (bb (ai aC (ai aC (az (aa 3) aB (av (aa 4))) (bd (af (aa 6) ae) aL)) (az (aa 3) (av (ai aC (aa 4) (ag (.int 1)))) aB))) ae))) aL) (aF 8))
 (ak (aM (ai aC (aa 8) (bd (af (bb (ai aC (ai aC (az (aa 3) aB (av (aa 4))) (bd (af (aa 6) ae) aL)) (az (aa 3) (av (aa 4)) aB))) (af (bb (ai aC (ai aC (az (aa 3) aB (av (aa 4))) (a6 gh (az (aa 3) (av (aa 4)) (av (ai aC (aa 4) (ag (.int 2))))))) (az (aa 3) (av (ai aC (aa 4) (ag (.int 2)))) aB))) ae)) aL)) (aF 8))
 (ax (fO dk (ag (.str " ")) (af (ai aI (aa 8) (aa 7)) ae))))) (pD d w x (bZ 32 x) a o one f none none none) G=some (.rt (.im (.str (ah y))) G')/\Sm x y/\Nd G' d l w ys:=by
 obtain⟨W,hW⟩:∃W,W=bZ 32 x:=⟨_,rfl⟩
 have n1:=(mR 32 x).1
 have m1:=zl x
 have m2:=zm x
 rw [<- hW] at n1 m1 m2
 rw [<- hW]
 have pn:=JJ W
 obtain⟨b0,b1,b2,b3,b4⟩:=zB l1 W a one
 obtain⟨c0,c1,c2,c3,c4⟩:=zB c40 W a one
 have o1:l1 one≤13:=by unfold l1;lia
 have o2:c40 one≤1:=ho.2
 obtain⟨L0,h0⟩:∃L,L=W.take a++W.drop (a+1):=⟨_,rfl⟩
 obtain⟨L1,h1⟩:∃L,L=W.take (a+1)++W.drop a:=⟨_,rfl⟩
 obtain⟨L2,h2⟩:∃L,L=W.take a++[one]++W.drop (a+1):=⟨_,rfl⟩
 obtain⟨L3,h3⟩:∃L,L=W.take a++[one]++W.drop a:=⟨_,rfl⟩
 obtain⟨L4,h4⟩:∃L,L=W.take a++((W.drop a).take 2).reverse++W.drop (a+2):=⟨_,rfl⟩
 have p0:∀{v8 v9 v10:Option Vl} {g:List M},ai aC (az (aa 3) aB (av (aa 4))) (az (aa 3) (av (ai aC (aa 4) (ag (.int 1)))) aB) (pD d w x W a o one f v8 v9 v10) g=some (.v (.ow (.lst (L0.map wI))),pD d w x W a o one f v8 v9 v10,g):=λ{_ _ _ _}=>by
  rw [h0];exact qC (mX qV) (kg (zw 1)) (by have:=(pn a).1;have:=(pn (a+1)).2;lia)
 have p1:∀{v8 v9 v10:Option Vl} {g:List M},ai aC (az (aa 3) aB (av (ai aC (aa 4) (ag (.int 1))))) (az (aa 3) (av (aa 4)) aB) (pD d w x W a o one f v8 v9 v10) g=some (.v (.ow (.lst (L1.map wI))),pD d w x W a o one f v8 v9 v10,g):=λ{_ _ _ _}=>by
  rw [h1];exact qC (mX (zw 1)) (kg qV) (by have:=(pn (a+1)).1;have:=(pn a).2;lia)
 have q1:∀{v8 v9 v10:Option Vl} {g:List M},ai aC (az (aa 3) aB (av (aa 4))) (bd (af (aa 6) ae) aL) (pD d w x W a o one f v8 v9 v10) g=some (.v (.ow (.lst ((W.take a++[one]).map wI))),pD d w x W a o one f v8 v9 v10,g):=λ{_ _ _ _}=>qC (mX qV) zx (by have:=(pn a).1;rw [List.length_singleton];lia)
 have p2:∀{v8 v9 v10:Option Vl} {g:List M},ai aC (ai aC (az (aa 3) aB (av (aa 4))) (bd (af (aa 6) ae) aL)) (az (aa 3) (av (ai aC (aa 4) (ag (.int 1)))) aB) (pD d w x W a o one f v8 v9 v10) g=some (.v (.ow (.lst (L2.map wI))),pD d w x W a o one f v8 v9 v10,g):=λ{_ _ _ _}=>by
  rw [h2];exact qC q1 (kg (zw 1)) (by have:=(pn a).1;have:=(pn (a+1)).2;rw [zc,List.length_singleton];lia)
 have p3:∀{v8 v9 v10:Option Vl} {g:List M},ai aC (ai aC (az (aa 3) aB (av (aa 4))) (bd (af (aa 6) ae) aL)) (az (aa 3) (av (aa 4)) aB) (pD d w x W a o one f v8 v9 v10) g=some (.v (.ow (.lst (L3.map wI))),pD d w x W a o one f v8 v9 v10,g):=λ{_ _ _ _}=>by
  rw [h3];exact qC q1 (kg qV) (by have:=(pn a).1;have:=(pn a).2;rw [zc,List.length_singleton];lia)
 have p4:∀{v8 v9 v10:Option Vl} {g:List M},ai aC (ai aC (az (aa 3) aB (av (aa 4))) (a6 gh (az (aa 3) (av (aa 4)) (av (ai aC (aa 4) (ag (.int 2))))))) (az (aa 3) (av (ai aC (aa 4) (ag (.int 2)))) aB) (pD d w x W a o one f v8 v9 v10) g=some (.v (.ow (.lst (L4.map wI))),pD d w x W a o one f v8 v9 v10,g):=λ{_ _ _ _}=>by
  rw [h4]
  have t1:=(pn a).1
  have t2:=(pn a).2
  have t3:=(pn (a+2)).2
  have t4:((W.drop a).take 2).reverse.length≤2:=by rw [z2c,z2b];lia
  exact qC (qC (mX qV) (zy (zu qV (zw 2))) (by lia)) (kg (zw 2)) (by rw [zc];lia)
 obtain⟨m0,e0⟩:∃m,m=M.lst (L0.map wI):=⟨_,rfl⟩
 obtain⟨m1',e1⟩:∃m,m=M.lst (L1.map wI):=⟨_,rfl⟩
 obtain⟨m2',e2⟩:∃m,m=M.lst (L2.map wI):=⟨_,rfl⟩
 obtain⟨m3,e3⟩:∃m,m=M.lst (L3.map wI):=⟨_,rfl⟩
 obtain⟨m4,e4⟩:∃m,m=M.lst (L4.map wI):=⟨_,rfl⟩
 have s1:aM (bd (af (bb (ai aC (az (aa 3) aB (av (aa 4))) (az (aa 3) (av (ai aC (aa 4) (ag (.int 1)))) aB))) (af (bb (ai aC (az (aa 3) aB (av (ai aC (aa 4) (ag (.int 1))))) (az (aa 3) (av (aa 4)) aB))) (af (bb (ai aC (ai aC (az (aa 3) aB (av (aa 4))) (bd (af (aa 6) ae) aL)) (az (aa 3) (av (ai aC (aa 4) (ag (.int 1)))) aB))) ae))) aL) (aF 8) (pD d w x W a o one f none none none) G=some (.nx (pD d w x W a o one f ↥[.ref G.length,.ref (G.length+1),.ref (G.length+2)] none none) (G++[m0,m1',m2'])):=by
  refine bA (x:=.ow (.lst [.ref G.length,.ref (G.length+1),.ref (G.length+2)])) (Z1:=pD d w x W a o one f none none none) (G1:=G++[m0,m1',m2']) (aq (aq (zA p0) (aq (aq (zA p1) (aq (aq (zA p2) rfl) rfl)) rfl)) ?_) rfl
  rw [e0,e1,e2]
  simp [aL,jc,dQ]
 obtain⟨H,hH⟩:∃H,H=G++[m0,m1',m2']:=⟨_,rfl⟩
 have lH:H.length=G.length+3:=by rw [hH];simp
 rw [<- hH] at s1
 obtain⟨V8,hV8⟩:∃V:List I,V=[.ref G.length,.ref (G.length+1),.ref (G.length+2)]:=⟨_,rfl⟩
 rw [<- hV8] at s1
 have s2:aM (ai aC (aa 8) (bd (af (bb (ai aC (ai aC (az (aa 3) aB (av (aa 4))) (bd (af (aa 6) ae) aL)) (az (aa 3) (av (aa 4)) aB))) (af (bb (ai aC (ai aC (az (aa 3) aB (av (aa 4))) (a6 gh (az (aa 3) (av (aa 4)) (av (ai aC (aa 4) (ag (.int 2))))))) (az (aa 3) (av (ai aC (aa 4) (ag (.int 2)))) aB))) ae)) aL)) (aF 8) (pD d w x W a o one f ↥V8 none none) H=some (.nx (pD d w x W a o one f ↥(V8++[.ref (G.length+3),.ref (G.length+4)]) none none) (H++[m3,m4])):=by
  refine bA (x:=.ow (.lst (V8++[.ref (G.length+3),.ref (G.length+4)]))) (Z1:=pD d w x W a o one f ↥V8 none none) (G1:=H++[m3,m4]) (aw (x:=.s 8) (y:=.v (.ow (.lst [.ref (G.length+3),.ref (G.length+4)]))) (Z2:=pD d w x W a o one f ↥V8 none none) (G2:=H++[m3,m4]) rfl (aq (aq (zA p3) (aq (aq (zA p4) rfl) rfl)) ?_) (JI rfl rfl rfl (by simp) (by simp) (by rw [hV8];simp))) rfl
  rw [e3,e4]
  simp [aL,jc,dQ,lH]
 obtain⟨J,hJ⟩:∃J,J=H++[m3,m4]:=⟨_,rfl⟩
 rw [<- hJ] at s2
 have SJ:Nd J d l w ys:=by rw [hJ,hH];exact (s.app _).app _
 have y1f2:J=G++[m0,m1',m2',m3,m4]:=by rw [hJ,hH];simp
 have pick:∃(L:List (List Nat)) (k:Nat),cB (V8++[.ref (G.length+3),.ref (G.length+4)]) (f:Int)=some (.ref k)/\J[k]?=some (.lst (L.map wI))/\sm l1 L≤2*x.length+15/\sm c40 L≤2*x.count 40+2:=by
  rw [hV8]
  rcases (show f=0∨f=1∨f=2∨f=3∨f=4 by lia) with z|z|z|z|z<;>subst z
  ·exact⟨L0,G.length,jb (j:=0) rfl,by rw [y1f2,<- e0];simp,by rw [h0];lia,by rw [h0];lia⟩
  ·exact⟨L1,G.length+1,jb (j:=1) rfl,by rw [y1f2,<- e1];simp,by rw [h1];lia,by rw [h1];lia⟩
  ·exact⟨L2,G.length+2,jb (j:=2) rfl,by rw [y1f2,<- e2];simp,by rw [h2];lia,by rw [h2];lia⟩
  ·exact⟨L3,G.length+3,jb (j:=3) rfl,by rw [y1f2,<- e3];simp,by rw [h3];lia,by rw [h3];lia⟩
  ·exact⟨L4,G.length+4,jb (j:=4) rfl,by rw [y1f2,<- e4];simp,by rw [h4];lia,by rw [h4];lia⟩
 obtain⟨L,k,ek,eJ,bl,bc⟩:=pick
 obtain⟨U,hU⟩:∃U:List I,U=V8++[.ref (G.length+3),.ref (G.length+4)]:=⟨_,rfl⟩
 rw [<- hU] at s2 ek
 refine⟨jz [32] L,J,aj s1 (aj s2 (aV (Z1:=pD d w x W a o one f ↥U none none) ?_)),?_,SJ⟩
 ·rw [i5]
  exact qj (e:=⇑(.str (ah [32]))) rfl rfl (es:=[⇑(.ref k)]) (Z2:=pD d w x W a o one f ↥U none none) (G2:=J) (aq (aw (x:=.s 8) (y:=⇑(.int f)) (Z2:=pD d w x W a o one f ↥U none none) (G2:=J) rfl rfl (mW rfl ek)) rfl) (zo (show pk _ J ⇑(.ref k)=_ from eJ) (by lia) rfl)
 ·rw [mQ]
  have:=zk L
  have:=mV L
  exact⟨by lia,by lia⟩
end
section
variable {G:List M}{d l w:Nat}{ys:List Str}
def JL{x:List Nat}{W:List (List Nat)}{a o f:Nat}{one:List Nat}{v8 v9 v10:Option Vl}(ha:a<W.length)(ho:o<W.length):iX 3 4 5 (pD d w x W a o one f v8 v9 v10) G=some (.nx (pD d w x ((W.set a W[o]).set o W[a]) a o one f v8 v9 v10) G):=by
 have e1:ei (W.map wI).length (a:Int)=some a:=by rw [z11];exact qk ha
 have e2:ei (W.map wI).length (o:Int)=some o:=by rw [z11];exact qk ho
 have e3:(W.map wI)[a]?=some (wI W[a]):=by rw [List.getElem?_map,z16 ha];rfl
 have e4:(W.map wI)[o]?=some (wI W[o]):=by rw [List.getElem?_map,z16 ho];rfl
 have e5:((W.set a W[o]).set o W[a]).map wI=((W.map wI).set a (wI W[o])).set o (wI W[a]):=by rw [List.map_set,List.map_set]
 show (match ei (W.map wI).length (a:Int),ei (W.map wI).length (o:Int) with
  | some ia,some ib=>match (W.map wI)[ia]?,(W.map wI)[ib]? with
   | some da,some db=>some (Fl.nx ((pD d w x W a o one f v8 v9 v10).set 3 ↥(((W.map wI).set ia db).set ib da)) G)
   | _,_=>none
  | _,_=>none)=_
 rw [e1,e2]
 dsimp only
 rw [e3,e4]
 dsimp only
 rw [<- e5]
 rfl
def zC(f:List Nat->Nat)(W:List (List Nat)){a o:Nat}(ha:a<W.length)(ho:o<W.length):sm f ((W.set a W[o]).set o W[a])=sm f W:=by
 have h1:=qz f W a ha W[o]
 have h2:=qz f (W.set a W[o]) o (by rw [z29];exact ho) W[a]
 have h3:(W.set a W[o])[o]'(by rw [z29];exact ho)=W[o]:=by
  rw [List.getElem_set];split
  ·rfl
  ·rfl
 rw [h3] at h2
 lia
def JM{x:List Nat}{a o:Nat}{one:List Nat}{f:Nat}(hx:x.length≤6000)(ha:a<(bZ 32 x).length)(ho:o<(bZ 32 x).length):∃y:List Nat,
  ak (iX 3 4 5) (ax (fO dk (ag (.str " ")) (af (aa 3) ae))) (pD d w x (bZ 32 x) a o one f none none none) G=some (.rt (.im (.str (ah y))) G)/\Sm x y:=by
 have m1:=zl x
 have m2:=zm x
 have b1:=zC l1 (bZ 32 x) ha ho
 have b2:=zC c40 (bZ 32 x) ha ho
 obtain⟨L,hL⟩:∃L,L=((bZ 32 x).set a (bZ 32 x)[o]).set o (bZ 32 x)[a]:=⟨_,rfl⟩
 have e:=JL (G:=G) (d:=d) (w:=w) (x:=x) (one:=one) (f:=f) (v8:=none) (v9:=none) (v10:=none) ha ho
 rw [<- hL] at e b1 b2
 refine⟨jz [32] L,aj e (aV (Z1:=pD d w x L a o one f none none none) ?_),?_⟩
 ·rw [i5]
  exact qj (e:=⇑(.str (ah [32]))) rfl rfl (es:=[.s 3]) (Z2:=pD d w x L a o one f none none none) (G2:=G) rfl (zo rfl (by lia) rfl)
 ·rw [mQ]
  have:=zk L
  have:=mV L
  exact⟨by lia,by lia⟩
def zD{x:List Nat}{Z:De}{g:Mo Ev}{p:Nat}(h1:aa 1 Z G=some (⇑(.str (ah x)),Z,G))(hg:g Z G=some (⇑(.int p),Z,G))(hp:p≤x.length)(hx:x.length≤6000):az (aa 1) aB (av g) Z G=some (⇑(.str (ah (x.take p))),Z,G):=by
 refine aq h1 (aq (m:=aB) (a:=[]) rfl (aq (m:=av g) (a:=[⇑(.int p)]) (aq hg rfl) ?_))
 show ck none (some (p:Int)) [⇑(.str (ah x)),⇑(.int p)] _ G=_
 unfold ck
 dsimp only
 rw [if_pos (by rw [bE];lia),yk (ah x) (by rw [bE];exact hp),dX]
def zE{x:List Nat}{Z:De}{g:Mo Ev}{p:Nat}(h1:aa 1 Z G=some (⇑(.str (ah x)),Z,G))(hg:g Z G=some (⇑(.int p),Z,G))(hx:x.length≤6000):az (aa 1) (av g) aB Z G=some (⇑(.str (ah (x.drop p))),Z,G):=by
 refine aq h1 (aq (m:=av g) (a:=[⇑(.int p)]) (aq hg rfl) (aq (m:=aB) (a:=[]) rfl ?_))
 show ck (some (p:Int)) none [⇑(.str (ah x)),⇑(.int p)] _ G=_
 unfold ck
 dsimp only
 rw [if_pos (by rw [bE];lia),JF]
abbrev mY:Str:=" ()+-*<=a0A_\n"
def JN:mY.cps.toList.length=13/\mY.length≤1000000:=by decide +kernel
def JO{x:List Nat}{a o:Nat}{one:List Nat}{f:Nat}(hx:x.length≤6000)(hf:6≤f/\f<9)(s:Nd G d l w ys):∃(y:List Nat) (G':List M),
 (ak (aM (bd (af (aa 0) (af (ai aC (bd (af (aa 1) ae) aH) (ag (.int 1))) ae)) (aA 2 bt)) (aF 9))
 (ak (aM (ai aI (ag (.str " ()+-*<=a0A_\n")) (bd (af (aa 0) (af (ag (.int 13)) ae)) (aA 2 bt))) (aF 10))
 (ak (aE (ao (ai a8 (bd (af (aa 0) (af (ag (.int 2)) ae)) (aA 2 bt)) (ag (.int 0))))
 (aM (bd (af (aa 0) ae) (aA 1 qN)) (aF 10))
 aO)
 (ak (aE (ao (ai a8 (aa 7) (ag (.int 6))))
 (ax (az (aa 1) aB (av (aa 9))))
 aO)
 (ak (aE (ao (ai a8 (aa 7) (ag (.int 7))))
 (ax (ai aC (ai aC (az (aa 1) aB (av (aa 9))) (aa 10)) (az (aa 1) (av (aa 9)) aB)))
 aO)
 (ax (ai aC (ai aC (az (aa 1) aB (av (aa 9))) (ai aI (bd (af (ag (.str "")) (af (aa 10) ae)) aL) (bd (af (aa 0) (af (ag (.int 2)) ae)) (aA 2 bt)))) (az (aa 1) (av (ai aC (aa 9) (ag (.int 1)))) aB)))))))) (pD d w x (bZ 32 x) a o one f none none none) G=some (.rt (.im (.str (ah y))) G')/\Sm x y/\Nd G' d l w ys:=by
 obtain⟨W,hW⟩:∃W,W=bZ 32 x:=⟨_,rfl⟩
 rw [<- hW]
 obtain⟨p,G1,e1,hp,s1⟩:=s.y10b (many:=x.length+1) (by lia) (by lia)
 obtain⟨r,G2,e2,hr,s2⟩:=s1.y10b (many:=13) (by decide) (by decide)
 obtain⟨t1,t2⟩:=JN
 obtain⟨c,ec,_⟩:=mG (xs:=mY.cps.toList) (r:=(r:Int)) (by lia) (by lia)
 obtain⟨q,G3,e3,hq,s3⟩:=s2.y10b (many:=2) (by decide) (by decide)
 have a1:aM (bd (af (aa 0) (af (ai aC (bd (af (aa 1) ae) aH) (ag (.int 1))) ae)) (aA 2 bt)) (aF 9) (pD d w x W a o one f none none none) G=some (.nx (pD d w x W a o one f none ↑(.int p) none) G1):=by
  refine bA (x:=.im (.int p)) (Z1:=pD d w x W a o one f none none none) (G1:=G1) (aq (a:=[⇑(.ref d),⇑(.int ((x.length+1:Nat):Int))]) (Z1:=pD d w x W a o one f none none none) (G1:=G) (aq (a:=⇑(.ref d)) rfl (aq (aq (aw (x:=⇑(.int x.length)) (y:=⇑(.int 1)) (aq (aq (a:=⇑(.str (ah x))) rfl rfl) ?_) rfl rfl) rfl) rfl)) (bX (xs:=[.im (.ref d),.im (.int ((x.length+1:Nat):Int))]) rfl rfl e1)) rfl
  show (if (ah x).length≤1000000 then some (Ev.v (.im (.int (ah x).length)),_,G) else none)=_
  rw [if_pos (by rw [bE];lia),bE]
 have a2:aM (ai aI (ag (.str " ()+-*<=a0A_\n")) (bd (af (aa 0) (af (ag (.int 13)) ae)) (aA 2 bt))) (aF 10) (pD d w x W a o one f none ↑(.int p) none) G1=some (.nx (pD d w x W a o one f none ↑(.int p) ↑(.str (ah [c]))) G2) :=
  bA (aw (x:=⇑(.str mY)) (y:=⇑(.int r)) rfl (aq (a:=[⇑(.ref d),⇑(.int 13)]) rfl (bX (xs:=[.im (.ref d),.im (.int 13)]) rfl rfl e2)) (zp ec t2)) rfl
 have eq0:ao (ai a8 (bd (af (aa 0) (af (ag (.int 2)) ae)) (aA 2 bt)) (ag (.int 0))) (pD d w x W a o one f none ↑(.int p) ↑(.str (ah [c]))) G2=some (decide (q=0),pD d w x W a o one f none ↑(.int p) ↑(.str (ah [c])),G3):=by
  refine aX (aw (x:=⇑(.int q)) (y:=⇑(.int 0)) (aq (a:=[⇑(.ref d),⇑(.int 2)]) rfl (bX (xs:=[.im (.ref d),.im (.int 2)]) rfl rfl e3)) rfl ?_)
  by_cases h:q=0
  ·subst h;rfl
  ·have h':((q:Int) == 0)=false:=beq_eq_false_iff_ne.mpr (by lia)
   rw [decide_eq_false h]
   simp [a8,eQ,dQ,b9,dI,bK,bq,h']
 have a3:∃(c':Nat) (G4:List M),aE (ao (ai a8 (bd (af (aa 0) (af (ag (.int 2)) ae)) (aA 2 bt)) (ag (.int 0)))) (aM (bd (af (aa 0) ae) (aA 1 qN)) (aF 10)) aO (pD d w x W a o one f none ↑(.int p) ↑(.str (ah [c]))) G2=some (.nx (pD d w x W a o one f none ↑(.int p) ↑(.str (ah [c']))) G4)/\Nd G4 d l w ys:=by
  by_cases h:q=0
  ·rw [decide_eq_true h] at eq0
   obtain⟨c',G4,e4,s4⟩:=y6f s3
   exact⟨c',G4,aU eq0 (bA (aq (a:=[⇑(.ref d)]) rfl (bX (xs:=[.im (.ref d)]) rfl rfl e4)) rfl),s4⟩
  ·rw [decide_eq_false h] at eq0
   exact⟨c,G3,aK eq0 rfl,s3⟩
 obtain⟨c',G4,a3,s4⟩:=a3
 obtain⟨D,hD⟩:∃D,D=pD d w x W a o one f none ↑(.int p) ↑(.str (ah [c'])):=⟨_,rfl⟩
 rw [<- hD] at a3
 have v0:∀g,aa 0 D g=some (⇑(.ref d),D,g):=λg=>by rw [hD];rfl
 have v1:∀g,aa 1 D g=some (⇑(.str (ah x)),D,g):=λg=>by rw [hD];rfl
 have v7:∀g,aa 7 D g=some (⇑(.int f),D,g):=λg=>by rw [hD];rfl
 have v9:∀g,aa 9 D g=some (⇑(.int p),D,g):=λg=>by rw [hD];rfl
 have v10:∀g,aa 10 D g=some (⇑(.str (ah [c'])),D,g):=λg=>by rw [hD];rfl
 have v9p:∀g,ai aC (aa 9) (ag (.int 1)) D g=some (⇑(.int ((p+1:Nat):Int)),D,g):=λg=>aw (v9 g) (y:=⇑(.int 1)) rfl rfl
 have tf:∀k:Nat,ao (ai a8 (aa 7) (ag (.int k))) D G4=some (decide (f=k),D,G4):=λk=>by
  refine aX (aw (v7 G4) (y:=⇑(.int k)) rfl ?_)
  by_cases h:f=k
  ·subst h
   have h':((f:Int) == f)=true:=beq_self_eq_true _
   rw [decide_eq_true rfl]
   simp [a8,eQ,dQ,b9,dI,bK,bq]
  ·have h':((f:Int) == k)=false:=beq_eq_false_iff_ne.mpr (by lia)
   rw [decide_eq_false h]
   simp [a8,eQ,dQ,b9,dI,bK,bq,h']
 have ct:(x.take p).count 40+(x.drop p).count 40=x.count 40:=by rw [<- z17,List.take_append_drop]
 have cd:(x.drop (p+1)).count 40≤(x.drop p).count 40:=by
  have:x.drop (p+1)=(x.drop p).drop 1:=by rw [List.drop_drop]
  rw [this];exact (List.drop_sublist _ _).count_le _
 have c1:∀c:Nat,([c]:List Nat).count 40≤1:=λc=>List.count_le_length
 have lt:(x.take p).length≤x.length:=by rw [z2b];lia
 have ld:(x.take p).length+(x.drop p).length=x.length:=by rw [<- zc,List.take_append_drop]
 have ld1:(x.drop (p+1)).length≤x.length-p:=by rw [z2d];lia
 have lp:(x.take p).length≤p:=by rw [z2b];lia
 have tk:=λg=>zD (G:=g) (v1 g) (v9 g) (by lia:p≤x.length) hx
 have hd:=λg=>zE (G:=g) (v1 g) (v9 g) hx
 have hd1:=λg=>zE (G:=g) (v1 g) (v9p g) hx
 have pre:∀{y:List Nat} {G':List M},(ak (aE (ao (ai a8 (aa 7) (ag (.int 6))))
 (ax (az (aa 1) aB (av (aa 9))))
 aO)
 (ak (aE (ao (ai a8 (aa 7) (ag (.int 7))))
 (ax (ai aC (ai aC (az (aa 1) aB (av (aa 9))) (aa 10)) (az (aa 1) (av (aa 9)) aB)))
 aO)
 (ax (ai aC (ai aC (az (aa 1) aB (av (aa 9))) (ai aI (bd (af (ag (.str "")) (af (aa 10) ae)) aL) (bd (af (aa 0) (af (ag (.int 2)) ae)) (aA 2 bt)))) (az (aa 1) (av (ai aC (aa 9) (ag (.int 1)))) aB))))) D G4=some (.rt (.im (.str (ah y))) G')->_:=λ{y G'} h=>aj a1 (aj a2 (aj a3 h))
 rcases (show f=6∨f=7∨f=8 by lia) with z|z|z
 ·have h6:=tf 6
  rw [decide_eq_true z] at h6
  exact⟨x.take p,G4,pre (aZ (aU h6 (aV (tk G4)))),⟨by lia,by lia⟩,s4⟩
 ·have h6:=tf 6
  rw [decide_eq_false (by lia)] at h6
  have h7:=tf 7
  rw [decide_eq_true z] at h7
  have:=c1 c'
  refine⟨x.take p++[c']++x.drop p,G4,pre (aj (aK h6 rfl) (aZ (aU h7 (aV (Z1:=D) (aw (aw (tk G4) (v10 G4) (kC (by rw [List.length_singleton];lia))) (hd G4) (kC (by rw [zc,List.length_singleton];lia))))))),⟨?_,?_⟩,s4⟩
  ·rw [zc,zc,List.length_singleton];lia
  ·rw [z17,z17];lia
 ·have h6:=tf 6
  rw [decide_eq_false (by lia)] at h6
  have h7:=tf 7
  rw [decide_eq_false (by lia)] at h7
  obtain⟨q5,G5,e5,h5,s5⟩:=s4.y10b (many:=2) (by decide) (by decide)
  have pk5:∃u:List Nat,cB [I.str "",I.str (ah [c'])] (q5:Int)=some (.str (ah u))/\u.length≤1:=by
   rcases (show q5=0∨q5=1 by lia) with z|z<;>subst z
   ·exact⟨[],by rw [mK];exact cN _ _,by simp⟩
   ·exact⟨[c'],iu _ _ _,by simp⟩
  obtain⟨u,eu,lu⟩:=pk5
  have cu:u.count 40≤u.length:=List.count_le_length
  have ls:bd (af (ag (.str "")) (af (aa 10) ae)) aL D G4=some (.v (.ow (.lst [.str "",.str (ah [c'])])),D,G4):=aq (aq (a:=⇑(.str "")) rfl (aq (aq (v10 G4) rfl) rfl)) rfl
  have ix:ai aI (bd (af (ag (.str "")) (af (aa 10) ae)) aL) (bd (af (aa 0) (af (ag (.int 2)) ae)) (aA 2 bt)) D G4=some (⇑(.str (ah u)),D,G5):=aw ls (aq (aq (v0 G4) (aq (a:=[⇑(.int 2)]) rfl rfl)) (bX (xs:=[.im (.ref d),.im (.int 2)]) rfl rfl e5)) (mW rfl eu)
  refine⟨x.take p++u++x.drop (p+1),G5,pre (aj (aK h6 rfl) (aj (aK h7 rfl) (aV (Z1:=D) (aw (aw (tk G4) ix (kC (by lia))) (hd1 G5) (kC (by rw [zc];lia)))))),⟨?_,?_⟩,s5⟩
  ·rw [zc,zc];lia
  ·rw [z17,z17];lia
def JP{x:List Nat}(hx:x.length≤6000)(s:Nd G d l w ys):∃(y:List Nat) (G':List M),AH [.im (.ref d),.im (.str (ah x)),.im (.ref w)] G=some (.im (.str (ah y)),G')/\Sm x y/\Nd G' d l w ys:=by
 have n0:=List.length_pos_iff.mpr (i3 32 x)
 have n1:=(mR 32 x).1
 obtain⟨W,hW⟩:∃W,W=bZ 32 x:=⟨_,rfl⟩
 obtain⟨a,G1,e1,ha,s1⟩:=s.y10b (many:=W.length) (by rw [hW];lia) (by rw [hW];lia)
 obtain⟨o,G2,e2,ho,s2⟩:=s1.y10b (many:=W.length) (by rw [hW];lia) (by rw [hW];lia)
 obtain⟨one,G3,e3,l3,c3,s3⟩:=zr s2
 obtain⟨f,G4,e4,hf,s4⟩:=s3.y10b (many:=9) (by decide) (by decide)
 have t1:aM (fO iW (aa 1) (af (ag (.str " ")) ae)) (aF 3) [↑(.ref d),↑(.str (ah x)),↑(.ref w),none,none,none,none,none,none,none,none] G=some (.nx [↑(.ref d),↑(.str (ah x)),↑(.ref w),↥(W.map wI),none,none,none,none,none,none,none] G):=by
  refine bA (x:=.ow (.lst (W.map wI))) (Z1:=[↑(.ref d),↑(.str (ah x)),↑(.ref w),none,none,none,none,none,none,none,none]) (G1:=G) (qj (e:=⇑(.str (ah x))) rfl rfl (es:=[⇑(.str " ")]) rfl ?_) rfl
  have z3:((" " : Str).length == 0)=false:=by decide +kernel
  have:(Txt.split (ah x) " ").map I.str=W.map wI:=by rw [yj,qb,dX,hW,z32];rfl
  unfold iW
  dsimp only
  rw [if_pos ⟨z3,by rw [bE];lia⟩,this]
 have ln:∀{Z:De} {g:List M},Z[3]?=some ↥(W.map wI)->Z[0]?=some ↑(.ref d)->bd (af (aa 0) (af (bd (af (aa 3) ae) aH) ae)) (rt) Z g=some ([⇑(.ref d),⇑(.int W.length)],Z,g):=λ{Z g} h h0=>by
  have v3:aa 3 Z g=some (.s 3,Z,g):=by unfold aa;rw [h]
  have v0:aa 0 Z g=some (⇑(.ref d),Z,g):=by unfold aa;rw [h0]
  refine aq (aq v0 (aq (aq (aq (aq v3 rfl) ?_) rfl) rfl)) rfl
  unfold aH
  dsimp only
  rw [show sq Z g (.s 3)=some (W.map wI) from by simp [sq,pk,h]]
  dsimp only
  rw [z11]
 have oB:∀{Z:De} {g:List M},Z[3]?=some ↥(W.map wI)->bd (af (aa 3) ae) aH Z g=some (⇑(.int W.length),Z,g):=λ{Z g} h=>by
  have v3:aa 3 Z g=some (.s 3,Z,g):=by unfold aa;rw [h]
  refine aq (aq v3 rfl) ?_
  unfold aH
  dsimp only
  rw [show sq Z g (.s 3)=some (W.map wI) from by simp [sq,pk,h]]
  dsimp only
  rw [z11]
 have t2:aM (bd (af (aa 0) (af (bd (af (aa 3) ae) aH) ae)) (aA 2 bt)) (aF 4) [↑(.ref d),↑(.str (ah x)),↑(.ref w),↥(W.map wI),none,none,none,none,none,none,none] G=some (.nx [↑(.ref d),↑(.str (ah x)),↑(.ref w),↥(W.map wI),↑(.int a),none,none,none,none,none,none] G1) :=
  bA (aq (aq (a:=⇑(.ref d)) rfl (aq (aq (oB rfl) rfl) rfl)) (bX (xs:=[.im (.ref d),.im (.int W.length)]) rfl rfl e1)) rfl
 have t3:aM (bd (af (aa 0) (af (bd (af (aa 3) ae) aH) ae)) (aA 2 bt)) (aF 5) [↑(.ref d),↑(.str (ah x)),↑(.ref w),↥(W.map wI),↑(.int a),none,none,none,none,none,none] G1=some (.nx [↑(.ref d),↑(.str (ah x)),↑(.ref w),↥(W.map wI),↑(.int a),↑(.int o),none,none,none,none,none] G2) :=
  bA (aq (aq (a:=⇑(.ref d)) rfl (aq (aq (oB rfl) rfl) rfl)) (bX (xs:=[.im (.ref d),.im (.int W.length)]) rfl rfl e2)) rfl
 have t4:aM (bd (af (aa 0) (af (aa 2) ae)) (aA 2 pT)) (aF 6) [↑(.ref d),↑(.str (ah x)),↑(.ref w),↥(W.map wI),↑(.int a),↑(.int o),none,none,none,none,none] G2=some (.nx [↑(.ref d),↑(.str (ah x)),↑(.ref w),↥(W.map wI),↑(.int a),↑(.int o),↑(.str (ah one)),none,none,none,none] G3) :=
  bA (aq (a:=[⇑(.ref d),⇑(.ref w)]) rfl (bX (xs:=[.im (.ref d),.im (.ref w)]) rfl rfl e3)) rfl
 have t5:aM (bd (af (aa 0) (af (ag (.int 9)) ae)) (aA 2 bt)) (aF 7) [↑(.ref d),↑(.str (ah x)),↑(.ref w),↥(W.map wI),↑(.int a),↑(.int o),↑(.str (ah one)),none,none,none,none] G3=some (.nx (pD d w x W a o one f none none none) G4) :=
  bA (aq (a:=[⇑(.ref d),⇑(.int 9)]) rfl (bX (xs:=[.im (.ref d),.im (.int 9)]) rfl rfl e4)) rfl
 have q1:ao (ai dR (aa 7) (ag (.int 5))) (pD d w x W a o one f none none none) G4=some (decide ((f:Int)<5),pD d w x W a o one f none none none,G4):=aX (aw (x:=⇑(.int f)) (y:=⇑(.int 5)) rfl rfl rfl)
 have q2:ao (ai a8 (aa 7) (ag (.int 5))) (pD d w x W a o one f none none none) G4=some (decide (f=5),pD d w x W a o one f none none none,G4):=by
  refine aX (aw (x:=⇑(.int f)) (y:=⇑(.int 5)) rfl rfl ?_)
  by_cases h:f=5
  ·subst h;rfl
  ·have h':((f:Int) == 5)=false:=beq_eq_false_iff_ne.mpr (by lia)
   rw [decide_eq_false h]
   simp [a8,eQ,dQ,b9,dI,bK,bq,h']
 by_cases h5:f<5
 ·rw [decide_eq_true (by lia)] at q1
  obtain⟨y,G',e,hy,s'⟩:=JK (x:=x) (a:=a) (o:=o) (one:=one) (f:=f) hx ⟨l3,c3⟩ h5 s4
  rw [<- hW] at e
  exact⟨y,G',aJ rfl (aj t1 (aj t2 (aj t3 (aj t4 (aj t5 (aZ (aU q1 e))))))),hy,s'⟩
 ·rw [decide_eq_false (by lia)] at q1
  by_cases h6:f=5
  ·rw [decide_eq_true h6] at q2
   obtain⟨y,e,hy⟩:=JM (G:=G4) (d:=d) (w:=w) (x:=x) (a:=a) (o:=o) (one:=one) (f:=f) hx (by rw [<- hW];exact ha) (by rw [<- hW];exact ho)
   rw [<- hW] at e
   exact⟨y,G4,aJ rfl (aj t1 (aj t2 (aj t3 (aj t4 (aj t5 (aj (aK q1 rfl) (aZ (aU q2 e)))))))),hy,s4⟩
  ·rw [decide_eq_false h6] at q2
   obtain⟨y,G',e,hy,s'⟩:=JO (x:=x) (a:=a) (o:=o) (one:=one) (f:=f) hx ⟨by lia,hf⟩ s4
   rw [<- hW] at e
   exact⟨y,G',aJ rfl (aj t1 (aj t2 (aj t3 (aj t4 (aj t5 (aj (aK q1 rfl) (aj (aK q2 rfl) e))))))),hy,s'⟩
end
section
def yf7(w:Nat):(dg w).count 40=0:=List.count_eq_zero.mpr λh=>by have:=j8 w _ h;lia
theorem Tm.c40:∀{t:Tm},t.ok->2*(t.tx.count 40+1)≤2 ^ t.deep
 | .num w,_=>by rw [tx,yf7,deep];decide
 | .cell x,h=>by rw [tx,Nm.c40 h,deep];decide
 | .at_ r t,h=>by
  have h1:=t.c40 h.2
  have h2:=Nm.c40 h.1
  have:(tx (.at_ r t)).count 40=t.tx.count 40+1:=by
   rw [tx];simp [z17,h2]
  rw [this,deep,Nat.pow_succ];lia
 | .op s a b,h=>by
  have h1:=a.c40 h.2.1
  have h2:=b.c40 h.2.2
  have h3:2 ^ a.deep≤2 ^ max a.deep b.deep:=Nat.pow_le_pow_right (by decide) (Nat.le_max_left _ _)
  have h4:2 ^ b.deep≤2 ^ max a.deep b.deep:=Nat.pow_le_pow_right (by decide) (Nat.le_max_right _ _)
  have h5:s≠40:=h.1.plain.1
  have:(tx (.op s a b)).count 40=a.tx.count 40+b.tx.count 40+1:=by
   rw [tx];simp [z17,List.count_cons,h5]
  rw [this,deep,Nat.pow_succ];lia
abbrev gB(i:Nat):Nat:=1280*2 ^ i
abbrev gC(i:Nat):Nat:=18*2 ^ i
def JQ{d l w:Nat}{ys:List Str}{v0 v3 v6:Option Vl}{N:Nat}{x:List Nat}{G:List M}(hN:N≤3)(hx:x.length+20≤1280)(hc:x.count 40+2≤18)(s:Nd G d l w ys){v5:Option Vl} :
  ∃(y:List Nat) (v5':Option Vl) (G':List M),bB (my N) (aF 5) HF 0 N [v0,↑(.ref d),↑(.ref w),v3,↑(.str (ah x)),v5,v6] G=some (.nx [v0,↑(.ref d),↑(.ref w),v3,↑(.str (ah y)),v5',v6] G')/\y.length≤19000/\y.count 40<150/\Nd G' d l w ys:=by
 obtain⟨Z',G',e,y,v5',ed,ly,cy,sy⟩:=mB (w:=my N) (g:=aF 5) (b:=HF) (λi Z G'=>∃(y:List Nat) (v5:Option Vl),Z=[v0,↑(.ref d),↑(.ref w),v3,↑(.str (ah y)),v5,v6]/\y.length+20≤gB i/\y.count 40+2≤gC i/\Nd G' d l w ys)
  (λi Z g hi p=>by
   obtain⟨y,v5,rfl,ly,cy,sy⟩:=p
   have hi:i<N:=hi
   have hB:gB i≤5120/\gB (i+1)=2*gB i/\gC (i+1)=2*gC i:=by
    rcases (show i=0∨i=1∨i=2 by lia) with z|z|z<;>subst z<;>decide
   obtain⟨z,g',e,hz,s'⟩:=JP (x:=y) (by lia) sy
   refine⟨.int i,_,g,_,g',rfl,rfl,bA (aq (a:=[⇑(.ref d),⇑(.str (ah y)),⇑(.ref w)]) rfl (bX (xs:=[.im (.ref d),.im (.str (ah y)),.im (.ref w)]) rfl rfl e)) rfl,z,_,rfl,?_,?_,s'⟩
   ·have:=hz.1;lia
   ·have:=hz.2;lia)
  (λ_ _ _=>rfl) N 0 [v0,↑(.ref d),↑(.ref w),v3,↑(.str (ah x)),v5,v6] G (by rw [mz];lia) ⟨x,_,rfl,hx,hc,s⟩
 have hb:gB N≤10240/\gC N≤144:=by
  rcases (show N=0∨N=1∨N=2∨N=3 by lia) with z|z|z|z<;>subst z<;>decide
 have ly:y.length+20≤gB N:=ly
 have cy:y.count 40+2≤gC N:=cy
 exact⟨y,v5',G',by rw [ed] at e;exact e,by lia,by lia,sy⟩
def JR(ns:List Int)(h:ns.length≤63):∃G,HG [.im (.fro (ns.map I.int))] []=some (.im (.bl true),G):=by
 obtain⟨a,so,le,e1,a0,a1,hle⟩:=yeb (b:=0) (G:=[]) h (by lia)
 have e1':xG [.im (.fro (ns.map I.int)),.im (.int 0)] []=some (.ow (.dic (dy a 0 1)),[M.lst (so.map I.int),M.lst (le.map I.int)]):=e1
 obtain⟨sc,hsc⟩:∃sc,sc=I.fro (ns.map I.int):=⟨_,rfl⟩
 rw [<- hsc] at e1' ⊢
 have D0:DG [M.lst (so.map I.int),M.lst (le.map I.int),M.dic (dy a 0 1)] 2 1:=⟨a,0,le,rfl,rfl,by decide,a0,a1,Int.le_refl _,hle⟩
 obtain⟨ys,G1,e2,ly,hy,D1,mo⟩:=Iu D0
 have l1:3≤G1.length:=mo.len
 have S1:Sn (G1++[M.lst (ys.map I.str)]++[M.lst [.int 7]]) 2 1 G1.length (G1.length+1) ys :=
  ⟨(D1.app _).app _,by simp,⟨7,by simp⟩,⟨by lia,by lia⟩,⟨by lia,by lia⟩,by lia,by lia,by lia,hy⟩
 obtain⟨t,G2,e3,k1,d1,S2,l2⟩:=AR 9 0 (by decide) (by decide) S1
 have hsz:=Tm.y42c (t:=t) (by lia)
 have hln:=t.y4c5 k1
 have hct:=t.c40 k1
 have h64:2 ^ t.deep≤2 ^ 5:=Nat.pow_le_pow_right (by decide) (by lia)
 have e4:=mI 9 (t:=t) (G:=G2) (by lia) k1 (by lia)
 have N2:Nd G2 2 1 G1.length ys:=⟨S2.D,S2.hw,by lia,by lia,ly,hy⟩
 obtain⟨r,G3,e5,hr,N3⟩:=N2.y10b (many:=3) (by decide) (by decide)
 obtain⟨y,v5,G4,e6,y1,y2,N4⟩:=JQ (v0:=↑sc) (v3:=↑(.str (ah t.tx))) (v5:=none) (v6:=none) (N:=1+r) (x:=t.tx) (by lia) (by lia) (by lia) N3
 obtain⟨z1,G5,e7,b1,c1',N5⟩:=JH N4
 obtain⟨z2,G6,e8,b2,c2,N6⟩:=zr N5
 obtain⟨Ts,hTs⟩:∃Ts,Ts=[t.tx,y,z1,z2]:=⟨_,rfl⟩
 have ok:∀x∈Ts++Ts,x.length≤19000/\x.count 40<150:=λx hx=>by
  have hx:x∈Ts:=by rcases z1e.mp hx with h|h<;>exact h
  rw [hTs] at hx
  simp only [z1d,List.not_mem_nil,or_false] at hx
  rcases hx with e|e|e|e<;>subst e<;>constructor<;>lia
 have lT:(Ts++Ts).length=8:=by rw [hTs];rfl
 obtain⟨D,hD⟩:∃D:De,D=[↑sc,↑(.ref 2),↑(.ref G1.length),↑(.str (ah t.tx)),↑(.str (ah y)),v5,↥(Ts.map wI)]:=⟨_,rfl⟩
 have hk:(G6++[M.lst ((Ts++Ts).map wI)])[G6.length]?=some (.lst ((Ts++Ts).map wI)):=by simp
 obtain⟨ds,G7,e9,ed,_⟩:=qa (w:=cj ⇑(.ref G6.length) 8) (c:=c1) (tt:=bS) (te:=bd (af (aa 0) ae) (aA 1 xO)) (di:=[]) (Z:=D) (λi acc G'=>acc=(List.replicate i true).map I.bl/\G'[G6.length]?=some (.lst ((Ts++Ts).map wI)))
  (λi acc g hi zz=>by
   obtain⟨ea,eg⟩:=zz
   have hi:i<(Ts++Ts).length:=by rw [lT];exact hi
   obtain⟨p,q⟩:=ok _ (z31 hi)
   obtain⟨g',e,fr⟩:=JE (G:=g) p q
   refine⟨wI (Ts++Ts)[i],[wI (Ts++Ts)[i]],_,_,.bl true,[↑(wI (Ts++Ts)[i])],g',?_,rfl,rfl,aq (aq rfl rfl) (bX (xs:=[.im (wI (Ts++Ts)[i])]) rfl rfl e),by rw [ea,List.replicate_succ',z27];rfl,(fr.2 _ (z1a.mp eg).1).trans eg⟩
   show (sq D g ⇑(.ref G6.length)).bind (·[i]?)=_
   rw [show sq D g ⇑(.ref G6.length)=some ((Ts++Ts).map wI) from by simp only [sq,pk,eg]]
   show ((Ts++Ts).map wI)[i]?=_
   rw [List.getElem?_map,z16 hi];rfl)
  (λacc g p=>by
   have:sq D g ⇑(.ref G6.length)=some ((Ts++Ts).map wI):=by simp only [sq,pk,p.2]
   simp only [cj,this,z11,lT];rfl) 8 0 [] (G6++[M.lst ((Ts++Ts).map wI)]) rfl ⟨rfl,hk⟩
 have ed:ds=(List.replicate 8 true).map I.bl:=ed
 refine⟨G7,aJ rfl ?_⟩
 refine aj (bA (x:=.ow (.dic (dy a 0 1))) (Z1:=[↑sc,none,none,none,none,none,none]) (G1:=[M.lst (so.map I.int),M.lst (le.map I.int)]) (aq (a:=[⇑sc,⇑(.int 0)]) rfl (bX (xs:=[.im sc,.im (.int 0)]) rfl rfl e1')) rfl) ?_
 refine aj (bA (x:=.ow (.lst (ys.map I.str))) (Z1:=[↑sc,↑(.ref 2),none,none,none,none,none]) (G1:=G1) (aq (a:=[⇑(.ref 2),⇑(.int 12)]) (Z1:=[↑sc,↑(.ref 2),none,none,none,none,none]) (G1:=[M.lst (so.map I.int),M.lst (le.map I.int),M.dic (dy a 0 1)]) rfl (bX (xs:=[.im (.ref 2),.im (.int 12)]) rfl rfl e2)) rfl) ?_
 refine aj (bA (x:=.im (.str (ah t.tx))) (Z1:=[↑sc,↑(.ref 2),↑(.ref G1.length),none,none,none,none]) (G1:=G2) (aq (a:=[⇑t.i]) (Z1:=[↑sc,↑(.ref 2),↑(.ref G1.length),none,none,none,none]) (G1:=G2) (aq (aq (a:=[⇑(.ref 2),⇑(.ref G1.length),⇑(.ref (G1.length+1)),⇑(.int 0)]) (Z1:=[↑sc,↑(.ref 2),↑(.ref G1.length),none,none,none,none]) (G1:=G1++[M.lst (ys.map I.str)]++[M.lst [.int 7]]) (by simp! []) (bX (xs:=[.im (.ref 2),.im (.ref G1.length),.im (.ref (G1.length+1)),.im (.int 0)]) rfl rfl e3)) rfl) (bX (xs:=[.im t.i]) rfl rfl e4)) rfl) ?_
 refine aj (bA (x:=.im (.str (ah t.tx))) (Z1:=[↑sc,↑(.ref 2),↑(.ref G1.length),↑(.str (ah t.tx)),none,none,none]) (G1:=G2) rfl rfl) ?_
 refine aj (gq (pY (n:=1+r) (j:=((1+r:Nat):Int)) (Z1:=[↑sc,↑(.ref 2),↑(.ref G1.length),↑(.str (ah t.tx)),↑(.str (ah t.tx)),none,none]) (G1:=G3) (aq (aw (x:=⇑(.int 1)) (y:=⇑(.int r)) rfl (aq (a:=[⇑(.ref 2),⇑(.int 3)]) rfl (bX (xs:=[.im (.ref 2),.im (.int 3)]) rfl rfl e5)) rfl) rfl) rfl (by lia)) e6) ?_
 refine aj (Z1:=D) (G1:=G6) (bA (x:=.ow (.lst (Ts.map wI))) (Z1:=[↑sc,↑(.ref 2),↑(.ref G1.length),↑(.str (ah t.tx)),↑(.str (ah y)),v5,none]) (G1:=G6) (aq (a:=[⇑(.str (ah t.tx)),⇑(.str (ah y)),⇑(.str (ah z1)),⇑(.str (ah z2))]) (Z1:=[↑sc,↑(.ref 2),↑(.ref G1.length),↑(.str (ah t.tx)),↑(.str (ah y)),v5,none]) (G1:=G6) (aq (a:=⇑(.str (ah t.tx))) rfl (aq (aq (a:=⇑(.str (ah y))) rfl (aq (aq (aq (a:=[⇑(.ref 2)]) rfl (bX (xs:=[.im (.ref 2)]) rfl rfl e7)) (aq (aq (aq (a:=[⇑(.ref 2),⇑(.ref G1.length)]) rfl (bX (xs:=[.im (.ref 2),.im (.ref G1.length)]) rfl rfl e8)) rfl) rfl)) rfl)) rfl)) (by rw [hTs];rfl)) (by rw [hD];rfl)) ?_
 have v6:aa 6 D G6=some (.s 6,D,G6):=by rw [hD];rfl
 have p6:pk D G6 (.s 6)=some (.lst (Ts.map wI)):=by rw [hD];rfl
 have bx:bb (ai aC (aa 6) (aa 6)) D G6=some (⇑(.ref G6.length),D,G6++[M.lst ((Ts++Ts).map wI)]):=by
  rw [z27]
  exact aq (aw v6 v6 (JI p6 p6 rfl (by simp) (by simp) (by rw [z11,<- zc,lT];decide))) rfl
 refine aV (Z1:=D) (aq (aq (nB (by rfl) (hI (e:=⇑(.ref G6.length)) (n:=8) (xs:=(Ts++Ts).map wI) bx rfl (by simp only [sq,pk,hk]) (by rw [z11];exact lT)) (show 8≤100000 by decide) e9) rfl) ?_)
 rw [ed]
 rfl
end
end Q
set_option maxHeartbeats 4000000
namespace Q
open PySem PySem.Spec PyProof.Rows L2 B
noncomputable abbrev iw:List Str:=["_law_deal_here","_law_many"]
noncomputable abbrev zF:List Str:=["_law_deal_here","_law_words","_law_room","_law_down"]
noncomputable abbrev mZ:List Str:=["_law_words","_law_at"]
noncomputable abbrev kh:List Str:=["_law_word_here"]
noncomputable abbrev nL5:List Str:=["cell","row","def","main","set","put","while","if","else","call","end","at"]
noncomputable abbrev m5:List Str:=["_law_deal_here"]
noncomputable abbrev JS:List Str:=["_law_deal_here","_law_text","_law_names_here"]
noncomputable abbrev AW:List Str:=["_law_deal_here","_law_names_here"]
noncomputable abbrev AX:List Str:=["_law_deal_here","_law_words"]
structure Tx(K:W.Frag)(mg:Str->Option Value)(κ:Str->Addr):Prop where
 y208:∃t,mg "FIGURES" = some (.str "0123456789" t)
 y209:∃t,mg "LETTERS" = some (.str "abcdefghijklmnopqrstuvwxyz" t)
 y20a:∃t,mg "LONGEST_NAME" = some (.int 6 t)
 k_SIGNS:∃a,mg "SIGNS" = some (.ref a)/\ba K (λ_=>none) a (List.map V.str ["+","-","*","<","="])
 k_TAKEN:∃a,mg "TAKEN" = some (.ref a)/\ba K (λ_=>none) a (List.map V.str nL5)
 k_WIDE:∃t,mg "WIDE" = some (.int 4294967296 t)
 b_all:mg "all" = none
 b_int:mg "int" = none
 y80:mg "isinstance" = none
 b_len:mg "len" = none
 b_list:mg "list" = none
 b_max:mg "max" = none
 b_min:mg "min" = none
 b_range:mg "range" = none
 y81:mg "reversed" = none
 b_str:mg "str" = none
local macro_rules | `(tactic| solve_by_elim [$s:term,$h:term,$e:term])=>do
 let f(w:String):Lean.MacroM (Lean.TSyntax `tactic):=let q:=w.splitOn ",";let i(n:Nat):=Lean.mkIdent q[n]!.toName;match q[0]! with
 |"a"=>`(tactic|refine $(i 1) ?_ ?_)
 |"b"=>`(tactic|exact jF _)
 |"c"=>`(tactic|exact $(i 1))
 |"d"=>`(tactic|refine $(i 1) ?_)
 |"e"=>`(tactic|refine vS $e (rm $h) ?_)
 |"f"=>`(tactic|refine vT ($s).nd ?_)
 |"g"=>`(tactic|refine $(i 1) $h ?_ ?_)
 |"h"=>`(tactic|refine iK ($(i 1) $h) $(i 2) ?_ ?_)
 |"i"=>`(tactic|refine $(i 1) ?_ ?_ ?_)
 |"j"=>`(tactic|refine $(i 1) $h $e ?_)
 |"k"=>`(tactic|refine t_w ($(i 1) ?_ ?_))
 |"l"=>`(tactic|refine Ft (yc2 (osc:=wa $s) (N:=nOf $s) rfl rfl (by decide +kernel)) ?_ (λ_=>?_) (λ_=>?_))
 |"m"=>`(tactic|exact uX ($s).nd)
 |"n"=>`(tactic|refine vJ $h ?_ ?_ ?_)
 |"o"=>`(tactic|exact $(i 1) (by rfl) $e)
 |"p"=>`(tactic|refine Fu (yc2 (osc:=wa $s) (N:=nOf $s) rfl rfl (by decide +kernel)) ?_ (λ_=>?_) (λ_=>?_) ($s).nd)
 |"q"=>`(tactic|refine Fs $e ?_)
 |"r"=>`(tactic|exact FD (by rfl) $e PyProof.Rows.boot_str)
 |"s"=>`(tactic|refine EY $e $e ?_)
 |"t"=>`(tactic|refine vQ $h ?_)
 |_=>`(tactic|refine Gq $e ?_ ?_)
 let mut t←`(tactic|fail)
 for w in ("a,Az b c,DV c,uJ c,uH a,Ec d,uU e f d,uV g,EM h,uY,uZ i,Ee c,Eb d,uM d,E1 i,vF g,EC j,vD c,EZ a,Gr h,u9,vc d,uL c,uI h,u6,u7 d,uN k,uP c,vW g,EH d,vV d,DX k,uO g,EG l g,Fb d,Ed c,DU d,Ea m i,uW n d,vf o,Gi d,wD h,u4,u5 g,FC d,wC j,vZ d,vR a,wc g,ED p g,EI i,ye0 h,Em,Eo q j,Fz a,uP g,ER g,wA g,vq j,EW d,Fc a,Ef g,EE o,FJ o,Gj r j,Gp c,wF d,Gu h,vd,ve d,vX s c,vP t g,EO g,vB j,Gn j,EX g,Gw d,vG c,wO j,GC a,Fm g,EF g,Gk g,Gm d,uQ g,wN d,uT g,wB c,Gh u d,uK d,uR".splitOn " ").reverse do
  let u←f w
  t←`(tactic|first|$u:tactic|$t:tactic)
 `(tactic|repeat' $t:tactic)
section
variable {P:Program}{w:World}{K:W.Frag}{mg:Str->Option Value}{base:Heap}{κ:Str->Addr}
def zG:y40 ["_law_script","_law_base","_law_some","_law_number","_law_one"] ["_law_script","_law_base"] (bo (top 28)):=a9
def JT{f:Addr}{fd:FuncData}(F:Fun K "_law_deal" "_law_deal" (top 28) f fd)(E:Tx K mg κ):y3f P w K mg base bG 1 f fd ["_law_script","_law_base"] (aP K κ 2 xG) :=
 bz F zG rfl rfl λcdv A outer s H _ hr=>by cases E;solve_by_elim [zG,hr,by assumption]
def zH:y40 ["_law_deal_here","_law_many","_law_number","_law_one","_law_other"] iw (bo (top 29)):=a9
def JU{f:Addr}{fd:FuncData}(F:Fun K "_law_draw" "_law_draw" (top 29) f fd)(E:Tx K mg κ):y3f P w K mg base bG 1 f fd iw (aP K κ 2 bt) :=
 bz F zH rfl rfl λcdv A outer s H _ hr=>by cases E;solve_by_elim [zH,hr,by assumption]
def zI:y40 ["_law_deal_here","_law_many","_law_letters","_law_core","_law_at","_law_turn","_law_found","_law_k","_law_own","_law_spare","_law_kept","_law_name"] iw (bo (top 30)):=a9
def JV{f:Addr}{fd:FuncData}(F:Fun K "_law_names" "_law_names" (top 30) f fd)(E:Tx K mg κ)(y18a:bO P w K mg base "_law_draw" 1 iw (aP K κ 2 bt)):y3f P w K mg base bG 2 f fd iw (aP K κ 2 xI) :=
 bz F zI rfl rfl λcdv A outer s H _ hr=>by cases E;solve_by_elim [zI,hr,by assumption]
def zJ:y40 ["_law_term"] ["_law_term"] (bo (top 34)):=a9
def JW{f:Addr}{fd:FuncData}{n:Nat}(F:Fun K "_law_term_text" "_law_term_text" (top 34) f fd)(E:Tx K mg κ)(y196:bO P w K mg base "_law_term_text" (1+n) ["_law_term"] (aP K κ 1 (jY n))):y3f P w K mg base bG (1+n+1) f fd ["_law_term"] (aP K κ 1 (jY (n+1))):=by
 unfold jY
 exact bz F zJ rfl rfl λcdv A outer s H _ hr=>by cases E;solve_by_elim [zJ,hr,by assumption]
def zK:y40 AX AX (bo (top 32)):=a9
def JX{f:Addr}{fd:FuncData}(F:Fun K "_law_any_name" "_law_any_name" (top 32) f fd)(E:Tx K mg κ)(y18a:bO P w K mg base "_law_draw" 1 iw (aP K κ 2 bt)):y3f P w K mg base bG 2 f fd AX (aP K κ 2 qM) :=
 bz F zK rfl rfl λcdv A outer s H _ hr=>by cases E;solve_by_elim [zK,hr,by assumption]
def zL:y40 ["_law_deal_here","_law_form"] m5 (bo (top 31)):=a9
def JY{f:Addr}{fd:FuncData}(F:Fun K "_law_word" "_law_word" (top 31) f fd)(E:Tx K mg κ)(y18a:bO P w K mg base "_law_draw" 1 iw (aP K κ 2 bt)):y3f P w K mg base bG 2 f fd m5 (aP K κ 1 pS) :=
 bz F zL rfl rfl λcdv A outer s H _ hr=>by cases E;solve_by_elim [zL,hr,by assumption]
def zM:y40 ["_law_deal_here","_law_words","_law_room","_law_down","_law_form","_law_name","_law_one"] zF (bo (top 33)):=a9
def JZ{f:Addr}{fd:FuncData}{n:Nat}(F:Fun K "_law_any_term" "_law_any_term" (top 33) f fd)(E:Tx K mg κ)(y187:bO P w K mg base "_law_any_term" (3+n) zF (aP K κ 4 (jZ n)))(y18a:bO P w K mg base "_law_draw" 1 iw (aP K κ 2 bt))(y185:bO P w K mg base "_law_any_name" 2 AX (aP K κ 2 qM))(y197:bO P w K mg base "_law_word" 2 m5 (aP K κ 1 pS)):y3f P w K mg base bG (3+n+1) f fd zF (aP K κ 4 (jZ (n+1))):=by
 unfold jZ
 exact bz F zM rfl rfl λcdv A outer s H _ hr=>by cases E;solve_by_elim [zM,hr,by assumption]
def zN:y40 ["_law_deal_here","_law_names_here","_law_some"] AW (bo (top 41)):=a9
def J0{f:Addr}{fd:FuncData}(F:Fun K "_law_odd_word" "_law_odd_word" (top 41) f fd)(E:Tx K mg κ)(y18a:bO P w K mg base "_law_draw" 1 iw (aP K κ 2 bt)):y3f P w K mg base bG 2 f fd AW (aP K κ 2 pT) :=
 bz F zN rfl rfl λcdv A outer s H _ hr=>by cases E;solve_by_elim [zN,hr,by assumption]
def zO:y40 ["_law_deal_here","_law_some"] m5 (bo (top 42)):=a9
def J1{f:Addr}{fd:FuncData}(F:Fun K "_law_any_sign" "_law_any_sign" (top 42) f fd)(E:Tx K mg κ)(y18a:bO P w K mg base "_law_draw" 1 iw (aP K κ 2 bt)):y3f P w K mg base bG 2 f fd m5 (aP K κ 1 qN) :=
 bz F zO rfl rfl λcdv A outer s H _ hr=>by cases E;solve_by_elim [zO,hr,by assumption]
def zP:y40 ["_law_deal_here","_law_text","_law_names_here","_law_words","_law_at","_law_other","_law_one","_law_form","_law_some","_law_spot","_law_sign"] JS (bo (top 43)):=a9
def J2{f:Addr}{fd:FuncData}(F:Fun K "_law_spoilt" "_law_spoilt" (top 43) f fd)(E:Tx K mg κ)(y18a:bO P w K mg base "_law_draw" 1 iw (aP K κ 2 bt))(y186:bO P w K mg base "_law_any_sign" 2 m5 (aP K κ 1 qN))(y191:bO P w K mg base "_law_odd_word" 2 AW (aP K κ 2 pT)):y3f P w K mg base bG 3 f fd JS (aP K κ 3 AH) :=
 bz F zP rfl rfl λcdv A outer s H _ hr=>by cases E;solve_by_elim [zP,hr,by assumption]
def zQ:y40 ["_law_deal_here","_law_found"] m5 (bo (top 46)):=a9
def J3{f:Addr}{fd:FuncData}(F:Fun K "_law_odd" "_law_odd" (top 46) f fd)(E:Tx K mg κ)(y18a:bO P w K mg base "_law_draw" 1 iw (aP K κ 2 bt)):y3f P w K mg base bG 2 f fd m5 (aP K κ 1 AI) :=
 bz F zQ rfl rfl λcdv A outer s H _ hr=>by cases E;solve_by_elim [zQ,hr,by assumption]
def zR:y40 mZ mZ (bo (top 38)):=a9
def J4{f:Addr}{fd:FuncData}(F:Fun K "_law_seen" "_law_seen" (top 38) f fd)(E:Tx K mg κ):y3f P w K mg base bG 1 f fd mZ (aP K κ 2 gJ) :=
 bz F zR rfl rfl λcdv A outer s H _ hr=>by cases E;solve_by_elim [zR,hr,by assumption]
def zS:y40 ["_law_word_here","_law_kept"] kh (bo (top 35)):=a9
def J5{f:Addr}{fd:FuncData}(F:Fun K "_law_is_name" "_law_is_name" (top 35) f fd)(E:Tx K mg κ):y3f P w K mg base bG 1 f fd kh (aP K κ 1 mw) :=
 bz F zS rfl rfl λcdv A outer s H _ hr=>by cases E;solve_by_elim [zS,hr,by assumption]
def zT:y40 kh kh (bo (top 36)):=a9
def J7{f:Addr}{fd:FuncData}(F:Fun K "_law_is_number" "_law_is_number" (top 36) f fd)(E:Tx K mg κ):y3f P w K mg base bG 1 f fd kh (aP K κ 1 qO) :=
 bz F zT rfl rfl λcdv A outer s H _ hr=>by cases E;solve_by_elim [zT,hr,by assumption]
def zU:y40 kh kh (bo (top 37)):=a9
def J8{f:Addr}{fd:FuncData}(F:Fun K "_law_is_word" "_law_is_word" (top 37) f fd)(E:Tx K mg κ)(y18c:bO P w K mg base "_law_is_number" 1 kh (aP K κ 1 qO)):y3f P w K mg base bG 2 f fd kh (aP K κ 1 qP) :=
 bz F zU rfl rfl λcdv A outer s H _ hr=>by cases E;solve_by_elim [zU,hr,by assumption]
def zV:y40 ["_law_words","_law_at","_law_word_here","_law_head"] mZ (bo (top 39)):=a9
def J9{f:Addr}{fd:FuncData}{n:Nat}(F:Fun K "_law_behind" "_law_behind" (top 39) f fd)(E:Tx K mg κ)(y194:bO P w K mg base "_law_seen" 1 mZ (aP K κ 2 gJ))(y18b:bO P w K mg base "_law_is_name" 1 kh (aP K κ 1 mw))(y188:bO P w K mg base "_law_behind" (3+n) mZ (aP K κ 2 (gK n)))(y18e:bO P w K mg base "_law_is_word" 2 kh (aP K κ 1 qP)):y3f P w K mg base bG (3+n+1) f fd mZ (aP K κ 2 (gK (n+1))):=by
 unfold gK
 exact bz F zV rfl rfl λcdv A outer s H _ hr=>by cases E;solve_by_elim [zV,hr,by assumption]
def zW:y40 ["_law_text","_law_words"] ["_law_text"] (bo (top 40)):=a9
def Ka{f:Addr}{fd:FuncData}(F:Fun K "_law_is_term" "_law_is_term" (top 40) f fd)(E:Tx K mg κ)(y188:bO P w K mg base "_law_behind" 153 mZ (aP K κ 2 (gK 150))):y3f P w K mg base bG 154 f fd ["_law_text"] (aP K κ 1 xJ) :=
 wK F zW rfl rfl rfl λcdv A outer s H _ hr=>(wQ (wH (md (md (wG (jF 0))))) (uX (i:=1) zW.nd) (uU (uV (vq hr (vS y188 (rm hr) (Az (uK (jF 1)) (Az uH DV))) (vD hr E.b_len (Az (jF 1) DV))))))
def zX:y40 ["text"] ["text"] (bo (top 13)):=a9
def Kb{f:Addr}{fd:FuncData}(F:Fun K "is_name" "is_name" (top 13) f fd)(E:Tx K mg κ):y3f P w K mg base bG 1 f fd ["text"] (aP K κ 1 qQ) :=
 bz F zX rfl rfl λcdv A outer s H _ hr=>by cases E;solve_by_elim [zX,hr,by assumption]
def zY:y40 ["text","number","sign"] ["text"] (bo (top 14)):=a9
def Kc{f:Addr}{fd:FuncData}(F:Fun K "number_in" "number_in" (top 14) f fd)(E:Tx K mg κ):y3f P w K mg base bG 1 f fd ["text"] (aP K κ 1 AJ) :=
 bz F zY rfl rfl λcdv A outer s H _ hr=>by cases E;solve_by_elim [zY,hr,by assumption]
def zZ:y40 ["text","number"] ["text"] (bo (top 18)):=a9
def Kd{f:Addr}{fd:FuncData}(F:Fun K "word_from" "word_from" (top 18) f fd)(E:Tx K mg κ)(y19d:bO P w K mg base "number_in" 1 ["text"] (aP K κ 1 AJ)):y3f P w K mg base bG 2 f fd ["text"] (aP K κ 1 pU) :=
 bz F zZ rfl rfl λcdv A outer s H _ hr=>by cases E;solve_by_elim [zZ,hr,by assumption]
def Aa:y40 ["thing","word"] ["thing"] (bo (top 19)):=a9
def Ke{f:Addr}{fd:FuncData}(F:Fun K "as_term" "as_term" (top 19) f fd)(E:Tx K mg κ)(y1a4:bO P w K mg base "word_from" 2 ["text"] (aP K κ 1 pU))(y19b:bO P w K mg base "is_name" 1 ["text"] (aP K κ 1 qQ)):y3f P w K mg base bG 3 f fd ["thing"] (aP K κ 1 fF) :=
 bz F Aa rfl rfl λcdv A outer s H _ hr=>by cases E;solve_by_elim [Aa,hr,by assumption]
def Ab:y40 ["thing"] ["thing"] (bo (top 20)):=a9
def Kf{f:Addr}{fd:FuncData}(F:Fun K "is_name_thing" "is_name_thing" (top 20) f fd)(E:Tx K mg κ)(y19b:bO P w K mg base "is_name" 1 ["text"] (aP K κ 1 qQ)):y3f P w K mg base bG 2 f fd ["thing"] (aP K κ 1 ky) :=
 bz F Ab rfl rfl λcdv A outer s H _ hr=>by cases E;solve_by_elim [Ab,hr,by assumption]
def Ac:y40 ["things","last","first"] ["things"] (bo (top 21)):=a9
def Kg{f:Addr}{fd:FuncData}(F:Fun K "bracketed" "bracketed" (top 21) f fd)(E:Tx K mg κ)(y198:bO P w K mg base "as_term" 3 ["thing"] (aP K κ 1 fF))(y19c:bO P w K mg base "is_name_thing" 2 ["thing"] (aP K κ 1 ky)):y3f P w K mg base bG 4 f fd ["things"] (aP K κ 1 xM) :=
 bz F Ac rfl rfl λcdv A outer s H _ hr=>by cases E;solve_by_elim [Ac,hr,by assumption]
def Ad:y40 ["words","nest","word","made","terms"] ["words"] (bo (top 22)):=a9
def Kh{f:Addr}{fd:FuncData}(F:Fun K "terms_from" "terms_from" (top 22) f fd)(E:Tx K mg κ)(y198:bO P w K mg base "as_term" 3 ["thing"] (aP K κ 1 fF))(y199:bO P w K mg base "bracketed" 4 ["things"] (aP K κ 1 xM)):y3f P w K mg base bG 5 f fd ["words"] (aP K κ 1 xN) :=
 bz F Ad rfl rfl λcdv A outer s H _ hr=>by cases E;solve_by_elim [Ad,hr,by assumption]
def Ae:y40 ["words","terms"] ["words"] (bo (top 23)):=a9
def Ki{f:Addr}{fd:FuncData}(F:Fun K "one_term" "one_term" (top 23) f fd)(E:Tx K mg κ)(y1a3:bO P w K mg base "terms_from" 5 ["words"] (aP K κ 1 xN)):y3f P w K mg base bG 6 f fd ["words"] (aP K κ 1 nz) :=
 bz F Ae rfl rfl λcdv A outer s H _ hr=>by cases E;solve_by_elim [Ae,hr,by assumption]
def Kj:y40 ["row"] ["row"] (bo (top 17)):=a9
def Kk{f:Addr}{fd:FuncData}(F:Fun K "spread" "spread" (top 17) f fd)(E:Tx K mg κ):y3f P w K mg base bG 1 f fd ["row"] (aP K κ 1 nA) :=
 wK F Kj rfl rfl rfl λcdv A outer s H _ hr=>(wJ (wH (md (md (wG (jF 0))))))
def m7:y40 ["text","term"] ["text"] (bo (top 24)):=a9
def Kl{f:Addr}{fd:FuncData}(F:Fun K "read_term" "read_term" (top 24) f fd)(E:Tx K mg κ)(y1a2:bO P w K mg base "spread" 1 ["row"] (aP K κ 1 nA))(y19e:bO P w K mg base "one_term" 6 ["words"] (aP K κ 1 nz)):y3f P w K mg base bG 7 f fd ["text"] (aP K κ 1 AK) :=
 bz F m7 rfl rfl λcdv A outer s H _ hr=>by cases E;solve_by_elim [m7,hr,by assumption]
def Km{f:Addr}{fd:FuncData}(F:Fun K "read_term" "read_term" (top 24) f fd)(E:Tx K mg κ)(h_NoText:ClN P w K mg base "NoText" (κ "NoText") ["row"])(y1a2:bO P w K mg base "spread" 1 ["row"] (aP K κ 1 nA))(y19e:bO P w K mg base "one_term" 6 ["words"] (aP K κ 1 nz)):y3f P w K mg base (dw P w base) 7 f fd ["text"] (jX K κ 1 AL) :=
 xE (k:=6) F m7 rfl rfl λcdv A outer s H _ hr hp hx hq=>by cases E;(repeat' first|refine Hw ?_ ?_|refine Hv ?_|refine Hx ?_|refine xy ?_|refine Hy ?_ ?_ ?_|refine xA hp ?_ ?_ ?_|refine pQ (by assumption) hx (rm hr) ?_|refine xC (by assumption) hx (rm hr) ?_ ?_|refine xD (by assumption) hq (rm hr) ?_);all_goals solve_by_elim [m7,hr,by assumption]
def Af:y40 ["number","figures"] ["number"] (bo (top 15)):=a9
def Kn{f:Addr}{fd:FuncData}(F:Fun K "figures_of" "figures_of" (top 15) f fd)(E:Tx K mg κ):y3f P w K mg base bG 1 f fd ["number"] (aP K κ 1 AN) :=
 bz F Af rfl rfl λcdv A outer s H _ hr=>by cases E;solve_by_elim [Af,hr,by assumption]
def Ag:y40 ["term","row","place","sign","first","last"] ["term"] (bo (top 26)):=a9
def Ko{f:Addr}{fd:FuncData}{n:Nat}(F:Fun K "show_term" "show_term" (top 26) f fd)(E:Tx K mg κ)(y1a1:bO P w K mg base "show_term" (2+n) ["term"] (aP K κ 1 (j0 n)))(y19a:bO P w K mg base "figures_of" 1 ["number"] (aP K κ 1 AN)):y3f P w K mg base bG (2+n+1) f fd ["term"] (aP K κ 1 (j0 (n+1))):=by
 unfold j0
 exact bz F Ag rfl rfl λcdv A outer s H _ hr=>by cases E;solve_by_elim [Ag,hr,by assumption]
def Ah:y40 ["_law_text"] ["_law_text"] (bo (top 45)):=a9
def Kq{f:Addr}{fd:FuncData}(F:Fun K "_law_right" "_law_right" (top 45) f fd)(E:Tx K mg κ)(y192:bO P w K mg base "_law_refused" 8 ["_law_text"] (aP K κ 1 qR))(y18d:bO P w K mg base "_law_is_term" 154 ["_law_text"] (aP K κ 1 xJ))(y19f:bO P w K mg base "read_term" 7 ["text"] (aP K κ 1 AK))(y1a1:bO P w K mg base "show_term" 152 ["term"] (aP K κ 1 (j0 150))):y3f P w K mg base bG 155 f fd ["_law_text"] (aP K κ 1 xO) :=
 bz F Ah rfl rfl λcdv A outer s H _ hr=>by cases E;solve_by_elim [Ah,hr,by assumption]
def Ai:y40 ["_law_script","_law_deal_here","_law_names_here","_law_good","_law_text","_law_k","_law_texts"] ["_law_script"] (bo (top 47)):=a9
def Kr{f:Addr}{fd:FuncData}(F:Fun K "law" "law" (top 47) f fd)(E:Tx K mg κ)(y193:bO P w K mg base "_law_right" 155 ["_law_text"] (aP K κ 1 xO))(y191:bO P w K mg base "_law_odd_word" 2 AW (aP K κ 2 pT))(y190:bO P w K mg base "_law_odd" 2 m5 (aP K κ 1 AI))(y18a:bO P w K mg base "_law_draw" 1 iw (aP K κ 2 bt))(y195:bO P w K mg base "_law_spoilt" 3 JS (aP K κ 3 AH))(y187:bO P w K mg base "_law_any_term" 12 zF (aP K κ 4 (jZ 9)))(y196:bO P w K mg base "_law_term_text" 10 ["_law_term"] (aP K κ 1 (jY 9)))(y18f:bO P w K mg base "_law_names" 2 iw (aP K κ 2 xI))(y189:bO P w K mg base "_law_deal" 1 ["_law_script","_law_base"] (aP K κ 2 xG)):y3f P w K mg base bG 156 f fd ["_law_script"] (aP K κ 1 HG) :=
 bz F Ai rfl rfl λcdv A outer s H _ hr=>by cases E;solve_by_elim [Ai,hr,by assumption]
end
end Q
namespace Q
open PySem PySem.Spec PyProof.Rows L2 B
abbrev m8(K:W.Frag):Sp:=λvs H Q _=>∃(a:Addr) (ns:List Int),vs=[.ref a]/\k4 H/\bu K H a (ns.map V.int)/\ns.length≤63/\∀H',Q (.bl true) H'
theorem Aj{K:W.Frag}{ι:List Addr}{H:Hp}:∀ns:List Int,y4e K ι H (ns.map V.int) (ns.map I.int)
 | []=>.nil
 | n::ns=>.cons (.int n) (Aj ns)
def Ks{P:Program}{w:World}{K:W.Frag}{mg:Str->Option Value}{base:Heap}{κ:Str->Addr}{f:Addr}{fd:FuncData}(h:y3f P w K mg base bG 156 f fd ["_law_script"] (aP K κ 1 HG)):y3f P w K mg base bG 156 f fd ["_law_script"] (m8 K):=by
 refine h.imp λvs H Q E q=>?_
 obtain⟨a,ns,rfl,ho,hs,hl,k⟩:=q
 have fr:ot K H a (ns.map V.int):=by
  rcases hs with (z|⟨o,z⟩)|z
  ·rcases ho a with e|⟨o,xs,e⟩<;>(rw [z] at e;cases e)
  ·exact .inl ⟨o,z⟩
  ·exact .inr (.inr z)
 obtain⟨G,e⟩:=JR ns hl
 refine⟨[],[.im (.fro (ns.map I.int))],[],_,G,rfl,⟨.cons (.im (.fro fr (Aj ns))) .nil,.nil,λx=>?_⟩,e,λv ι' H' s st=>?_⟩
 ·have:own (List.map some [V.ref a]) (List.map some [Vl.im (.fro (ns.map I.int))])=[]:=by show bw _ _++[]=[];rw [fT];rfl
  rw [this];simp
 ·have:=s.sl
  cases this with
  | cons q _=>cases q with
   | im r=>cases r;exact k _
def us1:∀(us:List Value),us.length=1->∃x0,us=[x0]
 | [x0],_=>⟨x0,rfl⟩
def AY:∀(us:List Value),us.length=2->∃x0 x1,us=[x0,x1]
 | [x0,x1],_=>⟨x0,x1,rfl⟩
def us3:∀(us:List Value),us.length=3->∃x0 x1 x2,us=[x0,x1,x2]
 | [x0,x1,x2],_=>⟨x0,x1,x2,rfl⟩
def us4:∀(us:List Value),us.length=4->∃x0 x1 x2 x3,us=[x0,x1,x2,x3]
 | [x0,x1,x2,x3],_=>⟨x0,x1,x2,x3,rfl⟩
abbrev y3(x q:Str)(st:Stmt)(ps:List Str):Prop:=∀(kV doc pm:Value) (an:Option Addr) (cdv ct:Value) (us:List Value),us.length=ps.length->bindArgs (W.fnOf x q (qE st) (jy st) (bo st) .none kV doc pm an cdv ct) ⟨us,[]⟩=pure (ps.zip us)
noncomputable abbrev NF(K:W.Frag)(x q:Str)(st:Stmt)(f:Addr)(d:FuncData):Prop:=W.nsIn K mainGlobals x=some (some (.ref f))/\Fun K x q st f d
section
variable {K:W.Frag}{mg:Str->Option Value}{h:Heap}{k:Nat}{ps:List Str}{sp:Sp}{f:Addr}{fd:FuncData}{C:Addr}{x q m:Str}{st:Stmt}(P:Program)(w:World)(base:Heap)
def a7(X:K.In h)(G:h.Ns mainGlobals mg)(A:NF K x q st f fd)(o:y3f P w K mg base bG k f fd ps sp)(hb:y3 x q st ps:=by intro _ _ _ _ _ _ us hl;first|(obtain⟨_,rfl⟩:=us1 us hl;rfl)|(obtain⟨_,_,rfl⟩:=AY us hl;rfl)|(obtain⟨_,_,_,rfl⟩:=us3 us hl;rfl)|(obtain⟨_,_,_,_,rfl⟩:=us4 us hl;rfl)):bO P w K mg base x k ps sp:=⟨f,fd,W.mg_of X G A.1,A.2.kp,A.2.binds hb,o⟩
def Ak(X:K.In h)(G:h.Ns mainGlobals mg)(A:NF K x q st f fd)(o:y3f P w K mg base (dw P w base) k f fd ps sp)(hb:y3 x q st ps:=by intro _ _ _ _ _ _ us hl;first|(obtain⟨_,rfl⟩:=us1 us hl;rfl)|(obtain⟨_,_,rfl⟩:=AY us hl;rfl)|(obtain⟨_,_,_,rfl⟩:=us3 us hl;rfl)|(obtain⟨_,_,_,_,rfl⟩:=us4 us hl;rfl)):xt P w K mg base x k ps sp:=⟨f,fd,W.mg_of X G A.1,A.2.kp,A.2.binds hb,o⟩
end
noncomputable abbrev NM(K:W.Frag)(C:Addr)(x q:Str)(st:Stmt)(f:Addr)(d:FuncData):Prop:=W.findIn K (.ref C) x=some (some (.ref f))/\W.isFn K (.ref f)=true/\Fun K x q st f d
def m9{K:W.Frag}{C:Addr}(h:jW K C=true):fD K C=true:=by
 unfold jW at h
 simp only [z1b] at h
 exact h.1.1.1.1
def all_mk{l:W.OpenLaw}{w:World}{K:W.Frag}{h:Heap}{mg:Str->Option Value}{fa  f1 f2 f3 f4 f5 f6 f7 f8 f9 f10 f11 f12 f13 f14 f15 f16 f17 f18 f19 f20 f21 f22 f23 f24 f25 f26 f27 f28 f29 f30 f31 f32 g1 C0 C1 C2 C3 C4:Addr}(X:K.In h)(G:h.Ns mainGlobals mg)(hfa:mg "law" = some (.ref fa))
  {d1 d2 d3 d4 d5 d6 d7 d8 d9 d10 d11 d12 d13 d14 d15 d16 d17 d18 d19 d20 d21 d22 d23 d24 d25 d26 d27 d28 d29 d30 d31 d32 e1:FuncData}
  (A1:NF K "_law_deal" "_law_deal" (top 28) f1 d1)
  (A2:NF K "_law_draw" "_law_draw" (top 29) f2 d2)
  (A3:NF K "_law_names" "_law_names" (top 30) f3 d3)
  (A4:NF K "_law_term_text" "_law_term_text" (top 34) f4 d4)
  (A5:NF K "_law_any_name" "_law_any_name" (top 32) f5 d5)
  (A6:NF K "_law_word" "_law_word" (top 31) f6 d6)
  (A7:NF K "_law_any_term" "_law_any_term" (top 33) f7 d7)
  (A8:NF K "_law_odd_word" "_law_odd_word" (top 41) f8 d8)
  (A9:NF K "_law_any_sign" "_law_any_sign" (top 42) f9 d9)
  (A10:NF K "_law_spoilt" "_law_spoilt" (top 43) f10 d10)
  (A11:NF K "_law_odd" "_law_odd" (top 46) f11 d11)
  (A12:NF K "_law_seen" "_law_seen" (top 38) f12 d12)
  (A13:NF K "_law_is_name" "_law_is_name" (top 35) f13 d13)
  (A14:NF K "_law_is_number" "_law_is_number" (top 36) f14 d14)
  (A15:NF K "_law_is_word" "_law_is_word" (top 37) f15 d15)
  (A16:NF K "_law_behind" "_law_behind" (top 39) f16 d16)
  (A17:NF K "_law_is_term" "_law_is_term" (top 40) f17 d17)
  (A18:NF K "is_name" "is_name" (top 13) f18 d18)
  (A19:NF K "number_in" "number_in" (top 14) f19 d19)
  (A20:NF K "word_from" "word_from" (top 18) f20 d20)
  (A21:NF K "as_term" "as_term" (top 19) f21 d21)
  (A22:NF K "is_name_thing" "is_name_thing" (top 20) f22 d22)
  (A23:NF K "bracketed" "bracketed" (top 21) f23 d23)
  (A24:NF K "terms_from" "terms_from" (top 22) f24 d24)
  (A25:NF K "one_term" "one_term" (top 23) f25 d25)
  (A26:NF K "spread" "spread" (top 17) f26 d26)
  (A27:NF K "read_term" "read_term" (top 24) f27 d27)
  (A28:NF K "_law_refused" "_law_refused" (top 44) f28 d28)
  (A29:NF K "figures_of" "figures_of" (top 15) f29 d29)
  (A30:NF K "show_term" "show_term" (top 26) f30 d30)
  (A31:NF K "_law_right" "_law_right" (top 45) f31 d31)
  (A32:NF K "law" "law" (top 47) f32 d32)
  {y4a7:Tok} (y20d:W.nsIn K mainGlobals "FIGURES" = some (some (.str "0123456789" y4a7)))
  {y4a8:Tok} (y20e:W.nsIn K mainGlobals "LETTERS" = some (some (.str "abcdefghijklmnopqrstuvwxyz" y4a8)))
  {y4a9:Tok} (y20f:W.nsIn K mainGlobals "LONGEST_NAME" = some (some (.int 6 y4a9)))
  {y499:Addr} {y49e:Option Addr} {y4a5:Array Value} {y4ae:Nat} {y4b7:Array (Option Value)} (y210:W.nsIn K mainGlobals "SIGNS" = some (some (.ref y499))) (y229:K.lookup y499=some ⟨.type "tuple",y49e,.seq y4a5 y4ae,y4b7⟩) (y22b:au (List.map V.str ["+","-","*","<","="]) y4a5.toList)
  {y49a:Addr} {y49f:Option Addr} {y4a6:Array Value} {y4af:Nat} {y4b8:Array (Option Value)} (y211:W.nsIn K mainGlobals "TAKEN" = some (some (.ref y49a))) (y22a:K.lookup y49a=some ⟨.type "tuple",y49f,.seq y4a6 y4af,y4b8⟩) (y22c:au (List.map V.str nL5) y4a6.toList)
  {y4aa:Tok} (y212:W.nsIn K mainGlobals "WIDE" = some (some (.int 4294967296 y4aa)))
  (z0:W.nsIn K mainGlobals "all" = some none)
  (z1:W.nsIn K mainGlobals "int" = some none)
  (z2:W.nsIn K mainGlobals "isinstance" = some none)
  (z3:W.nsIn K mainGlobals "len" = some none)
  (z4:W.nsIn K mainGlobals "list" = some none)
  (z5:W.nsIn K mainGlobals "max" = some none)
  (z6:W.nsIn K mainGlobals "min" = some none)
  (z7:W.nsIn K mainGlobals "range" = some none)
  (z8:W.nsIn K mainGlobals "reversed" = some none)
  (z9:W.nsIn K mainGlobals "str" = some none)
  (zb:W.nsIn K mainGlobals "bool" = some none)
  (zv:W.nsIn K mainGlobals "ValueError" = some none)
  (a0:W.nsIn K mainGlobals "CourtError" = some (some (.ref C0)))
  (a1:W.nsIn K mainGlobals "NoText" = some (some (.ref C1)))
  (a2:W.nsIn K mainGlobals "NoProgram" = some (some (.ref C2)))
  (a3:W.nsIn K mainGlobals "TooLong" = some (some (.ref C3)))
  (a4:W.nsIn K mainGlobals "NoRecord" = some (some (.ref C4)))
  (M1:NM K C1 "__init__" "NoText.__init__" (eY (top 2) 0) g1 e1)
  (x1:jW K C1=true) (i1:xh K C1 g1=true) (k1:W.keepIn K (.ref C1)=true)
  (n1:W.findIn K (.ref C1) "row" = some none)
  (r0:W.readsIn K C0 (.type "type")=true) (r1:W.findCls K (.ref C0) (.type "type") "__init__" = some (.val (.builtin "ValueError.__init__"))) (r2:W.specialIn K (.ref C0) "__getattribute__" = some (some (.builtin "type.__getattribute__")))
  (s1:(W.clsIn K C1).map (λcd=>cd.mro.contains (.ref C1))=some true)
  (t1:W.kitOne K (.ref C1) (.ref C0)=some true) (tv:W.kitOne K (.ref C1) (.type "ValueError")=some true) (ta:W.kitAny K (.ref C1) [.ref C2,.ref C3,.ref C4]=some false) (tb:W.kitOne K (.type "int") (.type "bool")=some false)
  (c1:W.findIn K (.ref C1) "__class__" = some (some (.builtin "object.__class__"))) (o1:W.mroIn K C1 (.type "object")=some true)
  (p1:W.specialIn K (.builtin "object.__class__") "__get__" = some (some (.builtin "getset_descriptor.__get__"))) (p2:W.takesIn K (.builtin "object.__class__")=some true)
  : ∃fd:FuncData,(∀(s:Shared) (v:Value),BindsTo s fd ⟨[v],[]⟩ [("_law_script",v)])/\∀base:Heap,K.In base->base.Ns mainGlobals mg->y3f l.prog w K mg base bG 156 fa fd ["_law_script"] (m8 K):=by
 have e:=hfa.symm.trans (W.mg_of X G A32.1)
 cases e
 obtain⟨κ,hκ⟩:∃κ:Str->Addr,κ "NoText" = C1:=⟨λc:Str=>C1,rfl⟩
 have E:Tx K mg κ:=⟨⟨_,W.mg_of X G y20d⟩,⟨_,W.mg_of X G y20e⟩,⟨_,W.mg_of X G y20f⟩,⟨_,W.mg_of X G y210,.inr ⟨_,_,_,y229,rfl,rfl,(by have q:=y22b.length;have q2:y4a5.toList.length=y4a5.size:=Array.length_toList;rw [<- q2,<- q];exact Nat.le_of_ble_eq_true rfl),y22b⟩⟩,⟨_,W.mg_of X G y211,.inr ⟨_,_,_,y22a,rfl,rfl,(by have q:=y22c.length;have q2:y4a6.toList.length=y4a6.size:=Array.length_toList;rw [<- q2,<- q];exact Nat.le_of_ble_eq_true rfl),y22c⟩⟩,⟨_,W.mg_of X G y212⟩,W.mg_none_of X G z0,W.mg_none_of X G z1,W.mg_none_of X G z2,W.mg_none_of X G z3,W.mg_none_of X G z4,W.mg_none_of X G z5,W.mg_none_of X G z6,W.mg_none_of X G z7,W.mg_none_of X G z8,W.mg_none_of X G z9⟩
 obtain⟨_,_,kV,dc,pm,an,cd,ct,_,rfl,_,_⟩:=A32.2.ex
 refine⟨W.fnOf "law" "law" (qE (top 47)) (jy (top 47)) (bo (top 47)) .none kV dc pm an cd ct,λs v=>.of_eq rfl,λbase _ _=>?_⟩
 have y189:=a7 l.prog w base X G A1 (JT A1.2 E )
 have y18a:=a7 l.prog w base X G A2 (JU A2.2 E )
 have y18f:=a7 l.prog w base X G A3 (JV A3.2 E y18a)
 have y3c2:∀n:Nat,y3f l.prog w K mg base bG (1+n) f4 _ ["_law_term"] (aP K κ 1 (jY n)):=λn=>by
  induction n with
  | zero=>exact (by unfold jY;exact lZ)
  | succ n ih=>exact JW A4.2 E (a7 l.prog w base X G A4 (ih))
 have y196:=(a7 l.prog w base X G A4 ((y3c2 9)))
 have y185:=a7 l.prog w base X G A5 (JX A5.2 E y18a)
 have y197:=a7 l.prog w base X G A6 (JY A6.2 E y18a)
 have y3c0:∀n:Nat,y3f l.prog w K mg base bG (3+n) f7 _ zF (aP K κ 4 (jZ n)):=λn=>by
  induction n with
  | zero=>exact (by unfold jZ;exact lZ)
  | succ n ih=>exact JZ A7.2 E (a7 l.prog w base X G A7 (ih)) y18a y185 y197
 have y187:=(a7 l.prog w base X G A7 ((y3c0 9)))
 have y191:=a7 l.prog w base X G A8 (J0 A8.2 E y18a)
 have y186:=a7 l.prog w base X G A9 (J1 A9.2 E y18a)
 have y195:=a7 l.prog w base X G A10 (J2 A10.2 E y18a y186 y191)
 have y190:=a7 l.prog w base X G A11 (J3 A11.2 E y18a)
 have y194:=a7 l.prog w base X G A12 (J4 A12.2 E )
 have y18b:=a7 l.prog w base X G A13 (J5 A13.2 E )
 have y18c:=a7 l.prog w base X G A14 (J7 A14.2 E )
 have y18e:=a7 l.prog w base X G A15 (J8 A15.2 E y18c)
 have y3c1:∀n:Nat,y3f l.prog w K mg base bG (3+n) f16 _ mZ (aP K κ 2 (gK n)):=λn=>by
  induction n with
  | zero=>exact (by unfold gK;exact lZ)
  | succ n ih=>exact J9 A16.2 E y194 y18b (a7 l.prog w base X G A16 (ih)) y18e
 have y188:=(a7 l.prog w base X G A16 ((y3c1 150)))
 have y18d:=a7 l.prog w base X G A17 (Ka A17.2 E y188)
 have y19b:=a7 l.prog w base X G A18 (Kb A18.2 E )
 have y19d:=a7 l.prog w base X G A19 (Kc A19.2 E )
 have y1a4:=a7 l.prog w base X G A20 (Kd A20.2 E y19d)
 have y198:=a7 l.prog w base X G A21 (Ke A21.2 E y1a4 y19b)
 have y19c:=a7 l.prog w base X G A22 (Kf A22.2 E y19b)
 have y199:=a7 l.prog w base X G A23 (Kg A23.2 E y198 y19c)
 have y1a3:=a7 l.prog w base X G A24 (Kh A24.2 E y198 y199)
 have y19e:=a7 l.prog w base X G A25 (Ki A25.2 E y1a3)
 have y1a2:=a7 l.prog w base X G A26 (Kk A26.2 E )
 have y0:=W.mg_of X G a0
 have xi:y14 K C0 "ValueError.__init__":=⟨r0,r1,r2,by decide⟩
 have hCl:ClN l.prog w K mg base "NoText" (κ "NoText") ["row"]:=by
  rw [hκ]
  exact⟨⟨g1,e1,xk (m9 x1) i1,HD M1.2.2 (xk (m9 x1) i1) (xn x1) n1 xi y0,M1.2.2.binds (λ_ _ _ _ _ _ us hl=>by obtain⟨_,_,rfl⟩:=AY us hl;rfl),W.mg_of X G a1,k1⟩,by decide⟩
 have hKt:Kt K mg C0 (κ "NoText") C2 C3 C4:=by
  rw [hκ]
  exact⟨Hh (m9 x1),y0,W.mg_of X G a1,W.mg_of X G a2,W.mg_of X G a3,W.mg_of X G a4,W.mg_none_of X G z2,W.mg_none_of X G zv,W.mg_none_of X G zb,Hi (m9 x1) s1,xn x1,⟨c1,p1,p2,o1⟩,t1,tv,ta,tb,n1⟩
 have y1a0:=Ak l.prog w base X G A27 (Km A27.2 E hCl y1a2 y19e)
 have y19f:=a7 l.prog w base X G A27 (Kl A27.2 E y1a2 y19e)
 have y192:=a7 l.prog w base X G A28 (HJ A28.2 y1a0 hKt)
 have y19a:=a7 l.prog w base X G A29 (Kn A29.2 E )
 have y3c3:∀n:Nat,y3f l.prog w K mg base bG (2+n) f30 _ ["term"] (aP K κ 1 (j0 n)):=λn=>by
  induction n with
  | zero=>exact (by unfold j0;exact lZ)
  | succ n ih=>exact Ko A30.2 E (a7 l.prog w base X G A30 (ih)) y19a
 have y1a1:=(a7 l.prog w base X G A30 ((y3c3 150)))
 have y193:=a7 l.prog w base X G A31 (Kq A31.2 E y192 y18d y19f y1a1)
 exact Ks (κ:=κ) (Kr A32.2 E y193 y191 y190 y18a y195 y187 y196 y18f y189)
def walk{l:W.OpenLaw}{q:Program}{loose:List Str}{XP:(Str->Option Value)->Heap->Prop}{YP:World->Heap->Prop}{d:DefRec}{K:Params->W.Frag}(hn:l.most=some 63)(hdf:d.params.defaults=[])
  (hY:∀(w:World) (h:Heap),YP w h->(K w.params).In h)
  (F:∀(w:World) (mg:Str->Option Value) (fa:Addr) (h:Heap),(K w.params).In h->h.Ns mainGlobals mg->mg d.name=some (.ref fa) ->
   ∃fd:FuncData,(∀(s:Shared) (u:Value),BindsTo s fd ⟨[u],[]⟩ [("_law_script",u)])/\∀base:Heap,(K w.params).In base->base.Ns mainGlobals mg->y3f l.prog w (K w.params) mg base bG 156 fa fd ["_law_script"] (m8 (K w.params))) :
  W.WalkO q loose XP YP l.row.toRowW d [] (λf vs=>PySem.call f vs) :=
 L2.y513 (n:=63) (k:=156) (x:="_law_script") (CX:=λ_=>bG) (sp:=λw=>m8 (K w.params)) hn (by decide) hdf ⟨rfl,by decide,by decide,rfl⟩ hY F (λ_ _ a ns hl ho hS=>⟨a,ns,rfl,ho,hS,hl,λ_=>rfl⟩) λ_ _ _ _ _ z=>z
end Q
open PySem PySem.W PyProof.Rows
set_option maxRecDepth 100000 in
set_option maxHeartbeats 0 in
theorem PySem.Challenge.cw_stepcourt_k06_terms_amiss_holds : PySem.Challenge.rw_stepcourt_k06_terms_amiss.Holds := by
 refine zTop ?_
 k_fill
 refine Q.walk (l:=PySem.Challenge.rw_stepcourt_k06_terms_amiss) rfl rfl (λw h Y=>W.kIn_of Y) ?F
 case F =>
  intro w mg fa h KX G hmg
  refine' Q.all_mk KX G hmg ..
  all_goals first|k_is|(refine' ⟨?a,L2.y16f ?l ?c ?k⟩;case a|l|c|k=>k_is)|(refine' ⟨?a,?i,L2.y16f ?l ?c ?k⟩;case a|i|l|c|k=>k_is)|kernel_rfl|(repeat (first|exact .nil|refine .cons ⟨_,rfl⟩ ?_))
