import PyProof.Rows.All
import Wide.All
import OpenK.AllK
import Wide.FinOn
import Lean
import PyProof.EqAt
import PyProof.EqKinds
import PyProof.TupleCall
import PyProof.CompFree
import PyProof.NeKinds
import PyProof.Rows.RegReprOcc
import PyProof.Rows.StrCase
import PyProof.ZipIter
import PyProof.EnumMake
import PyProof.Draws
import PyProof.Rows.Range3
import KE.BitLaws
import KE.KDictOf
import PyProof.AttrMissSeq
import PyProof.DictUpdate
import PyProof.Rows.Tup
import PyProof.ReprRoads
import PyProof.DictRoadsH
import PyProof.DictItemsLoops
import PyProof.DictWalks
import PyProof.Rows.SetFrom
import PyProof.ListRange
import KE.KDictSum
import PyProof.StrCalls6
import PyProof.JoinWalk
import PyProof.FString
import PyProof.ToksMono
import PyProof.StrLawsReplace
import PyProof.StrLawsIdx
import KE.KIntText
import PySem.Challenge.RW_stepcourt_k49_records_written_and_read
set_option Elab.async false
set_option bootstrap.genMatcherCode false
set_option genSizeOf false
set_option compiler.extract_closed false
set_option genSizeOfSpec false
set_option linter.all false
set_option maxRecDepth 100000
section
open PySem PySem.W PyProof.Rows
set_option maxRecDepth 100000
set_option maxHeartbeats 0
theorem PySem.W.Fast.tw13177264999580132443 : True := trivial
theorem PySem.W.Fast.tw13638273989886456347 : True := trivial
theorem PySem.W.Fast.tw4913874936065851510 : True := trivial
theorem PySem.W.Fast.tw12011196191432785860 : True := trivial
theorem PySem.W.Fast.tw12139618748732529427 : True := trivial
theorem PySem.W.Fast.tw5468358046449670168 : True := trivial
theorem PySem.W.Fast.tw13517386116148219264 : True := trivial
theorem PySem.W.Fast.tw8173342533510925691 : True := trivial
theorem PySem.W.Fast.tw2039021167682550033 : True := trivial
theorem PySem.W.Fast.tw3334697274000590232 : True := trivial
theorem PySem.W.Fast.tw17670924839892621899 : True := trivial
theorem PySem.W.Fast.tw3674723386575743575 : True := trivial
theorem PySem.W.Fast.tw9246042815031778251 : True := trivial
theorem PySem.W.Fast.tw2559591591876971366 : True := trivial
theorem PySem.W.Fast.tw16875821286577732651 : True := trivial
theorem PySem.W.Fast.tw12383037539652737636 : True := trivial
theorem PySem.W.Fast.tw11665483865751864086 : True := trivial
theorem PySem.W.Fast.tw1557308491709785217 : True := trivial
theorem PySem.W.Fast.tw14778731080828919925 : True := trivial
theorem PySem.W.Fast.tw6572183223852449591 : True := trivial
theorem PySem.W.Fast.tw15010142700156670087 : True := trivial
theorem PySem.W.Fast.tw13851172441453474682 : True := trivial
theorem PySem.W.Fast.tw7458513109189904703 : True := trivial
theorem PySem.W.Fast.tw10859353349828001586 : True := trivial
theorem PySem.W.Fast.tw13584122695382047704 : True := trivial
theorem PySem.W.Fast.tw7554348544075112114 : True := trivial
theorem PySem.W.Fast.tw13326254705172177044 : True := trivial
theorem PySem.W.Fast.tw3556271462575995999 : True := trivial
theorem PySem.W.Fast.tw7684820258534166126 : True := trivial
theorem PySem.W.Fast.tw17640097914544317085 : True := trivial
theorem PySem.W.Fast.tw5796264939018378432 : True := trivial
theorem PySem.W.Fast.tw13258880383493924464 : True := trivial
theorem PySem.W.Fast.tw10433280577727032565 : True := trivial
theorem PySem.W.Fast.tw1932877244679011316 : True := trivial
theorem PySem.W.Fast.tw2132911524444663084 : True := trivial
theorem PySem.W.Fast.tw6551363156116692338 : True := trivial
theorem PySem.W.Fast.tw15269304584810771261 : True := trivial
theorem PySem.W.Fast.tw18147634735016505190 : True := trivial
theorem PySem.W.Fast.tw13960732369908283787 : True := trivial
theorem PySem.W.Fast.tw7683413027814144735 : True := trivial
theorem PySem.W.Fast.tw10066518851503769785 : True := trivial
theorem PySem.W.Fast.tw4859382036187964949 : True := trivial
theorem PySem.W.Fast.tw9777197614727144175 : True := trivial
theorem PySem.W.Fast.tw395463464014435128 : True := trivial
theorem PySem.W.Fast.tw17957213987017164864 : True := trivial
theorem PySem.W.Fast.tw12895141016737387816 : True := trivial
theorem PySem.W.Fast.tw2159904894631376396 : True := trivial
theorem PySem.W.Fast.tw11795361339884293948 : True := trivial
theorem PySem.W.Fast.tw9103119445637474416 : True := trivial
theorem PySem.W.Fast.tw11557810936667447398 : True := trivial
theorem PySem.W.Fast.tw7516292785299593844 : True := trivial
theorem PySem.W.Fast.tw15059244593977572530 : True := trivial
theorem PySem.W.Fast.tw17333969059378165701 : True := trivial
theorem PySem.W.Fast.tw7994059539151220853 : True := trivial
theorem PySem.W.Fast.tw16825475289437841240 : True := trivial
theorem PySem.W.Fast.tw402589287291379651 : True := trivial
theorem PySem.W.Fast.tw6309199330136857025 : True := trivial
theorem PySem.W.Fast.tw5012060888362952607 : True := trivial
theorem PySem.W.Fast.tw12527932441913330492 : True := trivial
theorem PySem.W.Fast.tw16816273894564161636 : True := trivial
theorem PySem.W.Fast.tw16164742765154920294 : True := trivial
theorem PySem.W.Fast.tw13531072599024866878 : True := trivial
theorem PySem.W.Fast.tw7818694283519239022 : True := trivial
theorem PySem.W.Fast.tw3323801378846934992 : True := trivial
theorem PySem.W.Fast.tw12739315805854635703 : True := trivial
theorem PySem.W.Fast.tw13624088146746367526 : True := trivial
theorem PySem.W.Fast.tw8150494483434907230 : True := trivial
theorem PySem.W.Fast.tw12826190686245647101 : True := trivial
theorem PySem.W.Fast.tw7007947654843055435 : True := trivial
theorem PySem.W.Fast.tw408116314839106180 : True := trivial
theorem PySem.W.Fast.tw17584295557712985996 : True := trivial
theorem PySem.W.Fast.tw9741452579756193282 : True := trivial
theorem PySem.W.Fast.tw10206417300154522750 : True := trivial
theorem PySem.W.Fast.tw6482800158057863147 : True := trivial
theorem PySem.W.Fast.tw1900983005641360863 : True := trivial
theorem PySem.W.Fast.tw11927128370144072366 : True := trivial
theorem PySem.W.Fast.tw4014571982205427880 : True := trivial
theorem PySem.W.Fast.tw6170276861338412234 : True := trivial
theorem PySem.W.Fast.tw15891456575636753283 : True := trivial
theorem PySem.W.Fast.tw686153749093854041 : True := trivial
theorem PySem.W.Fast.tw3334508581009267082 : True := trivial
theorem PySem.W.Fast.tw14787167811812044494 : True := trivial
theorem PySem.W.Fast.tw2056797189884044599 : True := trivial
theorem PySem.W.Fast.tw2862075135094338141 : True := trivial
theorem PySem.W.Fast.tw6045546531790125783 : True := trivial
theorem PySem.W.Fast.tw15881245120926960385 : True := trivial
theorem PySem.W.Fast.tw14637833151740015803 : True := trivial
theorem PySem.W.Fast.tw13840965562835220424 : True := trivial
theorem PySem.W.Fast.tw13774134766051585876 : True := trivial
theorem PySem.W.Fast.tw662210430688134060 : True := trivial
theorem PySem.W.Fast.tw9607922358650955176 : True := trivial
theorem PySem.W.Fast.tw5930245222610895174 : True := trivial
theorem PySem.W.Fast.tw727531471020722372 : True := trivial
theorem PySem.W.Fast.tw6798638055086111401 : True := trivial
theorem PySem.W.Fast.tw18173385211141234565 : True := trivial
theorem PySem.W.Fast.tw17236398780377943071 : True := trivial
theorem PySem.W.Fast.tw7263475903725682877 : True := trivial
theorem PySem.W.Fast.tw14287529356680542429 : True := trivial
theorem PySem.W.Fast.tw9639980338403056850 : True := trivial
theorem PySem.W.Fast.tw15755600195435188709 : True := trivial
theorem PySem.W.Fast.tw13587052777431275356 : True := trivial
theorem PySem.W.Fast.tw8083423483217949915 : True := trivial
open_top zTop for PySem.Challenge.rw_stepcourt_k49_records_written_and_read
end
noncomputable abbrev zb:=@List.mem_cons
noncomputable abbrev zc:=@PySem.Heap.get?_push_of_some
noncomputable abbrev zd:=@PySem.wpAny_bind
noncomputable abbrev ze:=@List.size_toArray
noncomputable abbrev zf:=@Bool.false_ne_true
noncomputable abbrev z13:=@Nat.le_refl
noncomputable abbrev z14:=@List.length_map
noncomputable abbrev z15:=@List.getElem?_eq_getElem
noncomputable abbrev z16:=@PySem.Heap.lt_size
noncomputable abbrev z17:=@List.append_nil
noncomputable abbrev z18:=@List.length_append
noncomputable abbrev z19:=@List.map_cons
noncomputable abbrev z1a:=@List.mem_append
noncomputable abbrev z1b:=@PySem.wpAny_pure
noncomputable abbrev z1c:=@PySem.Heap.get?_push_size
noncomputable abbrev z1d:=@List.mem_cons_of_mem
noncomputable abbrev z1e:=@Nat.lt_of_lt_of_le
noncomputable abbrev z1f:=@List.getElem?_eq_some_iff
noncomputable abbrev z20:=@List.length_cons
noncomputable abbrev z21:=@Nat.le_trans
noncomputable abbrev z22:=@List.mem_singleton
noncomputable abbrev z23:=@List.count_append
noncomputable abbrev z24:=@Bool.and_eq_true
noncomputable abbrev z25:=@Option.some.inj
noncomputable abbrev z26:=@List.mem_append_right
noncomputable abbrev z27:=@Nat.ne_of_lt
noncomputable abbrev z28:=@List.getElem?_append_right
noncomputable abbrev z29:=@List.map_append
noncomputable abbrev z2a:=@List.getElem?_append_left
noncomputable abbrev z2b:=@List.mem_map
noncomputable abbrev z2c:=@Nat.lt_irrefl
noncomputable abbrev z2d:=@List.getElem?_set_ne
noncomputable abbrev z2e:=@List.getElem_mem
noncomputable abbrev z2f:=@List.map_map
noncomputable abbrev z30:=@List.mem_of_getElem?
noncomputable abbrev z31:=@List.append_assoc
noncomputable abbrev z32:=@List.length_set
noncomputable abbrev z33:=@PySem.wpAny_newObj_type
noncomputable abbrev z34:=@List.take_of_length_le
noncomputable abbrev z35:=@Nat.lt_succ_self
noncomputable abbrev z36:=@List.all_eq_true
noncomputable abbrev z37:=@List.length_reverse
noncomputable abbrev z38:=@List.length_take
noncomputable abbrev z39:=@List.length_drop
namespace L2
open PySem PySem.Spec PyProof.Rows
section
noncomputable abbrev aW:=Sum Int Str
noncomputable def jg:aW->Value->Bool
 | .inl k,v=>Value.isInt k v
 | .inr x,v=>Value.isStrOf x v
noncomputable def rW(w:World):aW->Int
 | .inl k=>hashInt k
 | .inr x=>hashStr w x
theorem gC:∀{k:aW} {v:Value},jg k v=true->(∃i t,k=Sum.inl i/\v=Value.int i t)∨(∃x t,k=Sum.inr x/\v=Value.str x t)
 | .inl i,v,h=>by
  obtain⟨t,e⟩:=Value.isInt_shape (k:=i) (v:=v) h
  exact .inl ⟨i,t,rfl,e⟩
 | .inr x,v,h=>by
  obtain⟨t,e⟩:=Value.isStrOf_shape (x:=x) (v:=v) h
  exact .inr ⟨x,t,rfl,e⟩
theorem zI(i:Int)(t:Tok):jg (.inl i) (.int i t)=true:=by simp [jg,Value.isInt]
theorem zJ(x:Str)(t:Tok):jg (.inr x) (.str x t)=true:=by simp [jg,Value.isStrOf]
theorem zK(a b:Int):decide ((Sum.inl a:aW)=Sum.inl b)=(a == b):=by
 by_cases e:a=b
 ·subst e;simp
 ·have h:¬ (Sum.inl a:aW)=Sum.inl b:=λq=>e (Sum.inl.inj q)
  rw [decide_eq_false h]
  exact (beq_eq_false_iff_ne.mpr e).symm
theorem zL(a b:Str):decide ((Sum.inr a:aW)=Sum.inr b)=decide (a=b):=by
 by_cases e:a=b
 ·subst e;simp
 ·have h:¬ (Sum.inr a:aW)=Sum.inr b:=λq=>e (Sum.inr.inj q)
  rw [decide_eq_false h,decide_eq_false e]
theorem zM(a:Int)(b:Str):decide ((Sum.inl a:aW)=Sum.inr b)=false:=decide_eq_false (λq=>nomatch q)
theorem zN(a:Str)(b:Int):decide ((Sum.inr a:aW)=Sum.inl b)=false:=decide_eq_false (λq=>nomatch q)
noncomputable def dm(prog:Program)(w:World):PySem.KeyKind prog w aW where
 is:=jg
 hash:=rW w
 inj:=λv a b ha hb=>by
  rcases gC ha with⟨i,t,rfl,rfl⟩| ⟨x,t,rfl,rfl⟩
  ·rcases gC hb with⟨j,u,rfl,e⟩| ⟨y,u,rfl,e⟩
   ·injection e with e1 _;rw [e1]
   ·exact nomatch e
  ·rcases gC hb with⟨j,u,rfl,e⟩| ⟨y,u,rfl,e⟩
   ·exact nomatch e
   ·injection e with e1 _;rw [e1]
 byValue:=λk v h=>by
  rcases gC h with⟨i,t,rfl,rfl⟩| ⟨x,t,rfl,rfl⟩<;>rfl
 pyHash:=λhv h=>by
  rcases gC hv with⟨i,t,rfl,rfl⟩| ⟨x,t,rfl,rfl⟩
  ·exact wpAny_pyHash_int h
  ·exact wpAny_pyHash_str h
 eqBool:=λhu hv h=>by
  rcases gC hu with⟨i,t,rfl,rfl⟩| ⟨x,t,rfl,rfl⟩
  ·rcases gC hv with⟨j,u,rfl,rfl⟩| ⟨y,u,rfl,rfl⟩
   ·rw [zK] at h;exact wpAny_eqBool_int h
   ·rw [zM] at h;exact SeqAt.EqAt.int_str i t y u _ _ _ _ h
  ·rcases gC hv with⟨j,u,rfl,rfl⟩| ⟨y,u,rfl,rfl⟩
   ·rw [zN] at h;exact SeqAt.EqAt.str_int x t j u _ _ _ _ h
   ·rw [zL] at h;exact wpAny_eqBool_str h
 «strs»:=λk x t v h=>by
  rcases gC h with⟨i,u,rfl,e⟩| ⟨y,u,rfl,e⟩
  ·exact nomatch e
  ·injection e with e1 _
   subst e1
   cases v<;>rfl
theorem zO(prog:Program)(w:World)(i:Int)(t:Tok):(dm prog w).is (.inl i) (.int i t)=true:=zI i t
theorem zP(prog:Program)(w:World)(x:Str)(t:Tok):(dm prog w).is (.inr x) (.str x t)=true:=zJ x t
end
section
inductive V where
 | non|bl (b:Bool)|int (i:Int)|str (x:Str)|byt (b:Array UInt8)|flt (b:UInt64)|ref (a:Addr)|ty (n:String)
 deriving DecidableEq
noncomputable def aC:V->Value->Prop
 | .non,u=>u=Value.none
 | .bl b,u=>u=Value.bool b
 | .int i,u=>∃t,u=Value.int i t
 | .str x,u=>∃t,u=Value.str x t
 | .byt b,u=>∃t,u=Value.bytes b t
 | .flt b,u=>∃t,u=Value.float b t
 | .ref a,u=>u=Value.ref a
 | .ty n,u=>u=Value.type n
noncomputable abbrev az:List V->List Value->Prop:=Paired aC
theorem az.length{xs:List V}{us:List Value}(r:az xs us):xs.length=us.length:=Paired.length r
theorem az.get:∀{xs:List V} {us:List Value} {i:Nat} {x:V},az xs us->xs[i]?=some x->∃u,us[i]?=some u/\aC x u
 | _,_,_,_,.nil,e=>by simp at e
 | _,_,0,_,.cons r _,e=>by simp at e;subst e;exact⟨_,rfl,r⟩
 | _,_,i+1,x,.cons _ t,e=>by
  obtain⟨u,h1,h2⟩:=az.get (i:=i) (x:=x) t (by simpa using e)
  exact⟨u,by simpa using h1,h2⟩
theorem az.set{x:V}{u:Value}(r:aC x u):∀{xs:List V} {us:List Value} (i:Nat),az xs us->az (xs.set i x) (us.set i u)
 | _,_,_,.nil=>.nil
 | _,_,0,.cons _ t=>.cons r t
 | _,_,i+1,.cons q t=>.cons q (az.set r i t)
theorem az.append:∀{xs ys:List V} {us ws:List Value},az xs us->az ys ws->az (xs++ys) (us++ws)
 | _,_,_,_,.nil,s=>s
 | _,_,_,_,.cons r t,s=>.cons r (az.append t s)
theorem az.take:∀{xs:List V} {us:List Value} (n:Nat),az xs us->az (xs.take n) (us.take n)
 | _,_,0,_=>.nil
 | _,_,_+1,.nil=>.nil
 | _,_,n+1,.cons r t=>.cons r (az.take n t)
theorem az.drop:∀{xs:List V} {us:List Value} (n:Nat),az xs us->az (xs.drop n) (us.drop n)
 | _,_,0,r=>r
 | _,_,_+1,.nil=>.nil
 | _,_,n+1,.cons _ t=>az.drop n t
noncomputable def iB:Option V->Option Value->Prop
 | some v,some u=>aC v u
 | none,none=>True
 | _,_=>False
noncomputable def KV{κ:Type}:List (κ×V)->List (κ×Value)->Prop:=Paired λ(p:κ×V) (q:κ×Value)=>p.1=q.1/\aC p.2 q.2
noncomputable def kV:aW->V
 | .inl i=>.int i
 | .inr x=>.str x
inductive HO where
 | lst (xs:List V)
 | tup (xs:List V)
 | dK (kvs:List (aW×V))|dT (kvs:List (List aW×V))
 | set (S:Int->Bool) (n:Nat)
 | ins (C dx:Addr) (fs:List (Str×V))
 | own (x:Addr)
 | xd (fs:List (Str×V))
 | met (f x:Addr)
 | rng (lo hi:Int)
 | frz (o:Obj) (u:HO)
 | tbl (ps:Array Value)
 | ext (φ:Heap->Prop)
noncomputable abbrev Hp:=Addr->Option HO
noncomputable def aP(H:Hp)(a:Addr)(o:HO):Hp:=λb=>if b=a then some o else H b
theorem b4{H:Hp}{a:Addr}{o:HO}:aP H a o a=some o:=by unfold aP;rw [if_pos rfl]
theorem aX{H:Hp}{a b:Addr}{o:HO}(h:b≠a):aP H a o b=H b:=by unfold aP;rw [if_neg h]
theorem oh{H:Hp}{a b:Addr}{o u:HO}(h:H a=some o)(h':H b=some u)(d:o≠u):a≠b:=by
 intro e;subst e;rw [h] at h';exact d (z25 h')
theorem dM{H:Hp}{a b:Addr}{o:HO}(h:H a=some o)(h':H b=none):a≠b:=by
 intro e;subst e;rw [h] at h';cases h'
noncomputable def i9(h:Heap)(a:Addr)(items:Array Value):Prop:=∃o,h.get? a=some o/\o.cls=.type "tuple"/\o.dict=none/\∃n,o.data=.seq items n
theorem i9.tup{h:Heap}{a:Addr}{items:Array Value}(x:i9 h a items):IsTup h a items:=let ⟨o,e,c,_,n,d⟩:=x;⟨o,e,c,n,d⟩
theorem i9.keep{h h':Heap}{a:Addr}{items:Array Value}(x:i9 h a items)(k:∀o,h.get? a=some o->h'.get? a=some o):i9 h' a items:=let ⟨o,e,r⟩:=x;⟨o,k o e,r⟩
theorem i9.mk'(h:Heap)(items:Array Value):i9 (h.push { cls:=.type "tuple",data:=.seq items }) h.objs.size items:=⟨_,z1c _ rfl,rfl,rfl,_,rfl⟩
section
variable (P:Program)(w:World)
noncomputable def eh(H:Hp)(h:Heap)(a:Addr):HO->Prop
 | .lst xs=>xs.length≤sizeLine/\∃(its:List Value) (n:Nat),az xs its/\h.get? a=some { cls:=.type "list",data:=.seq its.toArray n }
 | .tup xs=>xs.length≤sizeLine/\∃its:List Value,az xs its/\i9 h a its.toArray
 | .dK kvs=>kvs.length≤sizeLine/\(a == sysModules)=false/\∃vs,KV kvs vs/\h.DictOf (dm P w) a vs
 | .dT kvs=>kvs.length≤sizeLine/\(a == sysModules)=false/\∃xs:List (List aW×Addr×Value),
   Paired (λ(p:List aW×V) (q:List aW×Addr×Value)=>p.1=q.1/\H q.2.1=some (.tup (p.1.map kV))/\aC p.2 q.2.2) kvs xs /\
   ∃o es ep,h.get? a=some o/\o.ExactDict/\o.data=.dict es ep/\es.toList=xs.map (entryOfKey (tupleKind (dm P w)))/\(xs.map (·.1)).Nodup
 | .set S n=>h.SetOf (intKind P w) a S n
 | .ins C dx fs=>H dx=some (.own a)/\fs.length≤1000/\dx≠a/\h.get? a=some (W.instObj C dx) /\
   ∃mA,h.Ns1 dx mA/\(∀f,iB (fs.lookup f) (mA f))/\PySem.Within mA (fs.map (·.1))
 | .own _=>∃o,h.get? a=some o
 | .xd fs=>∃mA,h.Ns1 a mA/\∀f,iB (fs.lookup f) (mA f)
 | .rng lo hi=>∃t u v,h.get? a=some { cls:=.type "range",data:=.fields #[.int lo t,.int hi u,.int 1 v] }
 | .frz o u=>h.get? a=some o/\eh H h a u
 | .tbl ps=>h.get? a=some { cls:=.none,data:=.fields ps }
 | .met f x=>h.get? a=some (W.methodObj (.ref f) (.ref x))
 | .ext φ=>φ h/\(∃o,h.get? a=some o)/\∀h1 h2:Heap,φ h1->(∀o,h1.get? a=some o->h2.get? a=some o)->φ h2
noncomputable def dI(H:Hp)(h:Heap):Prop:=∀a o,H a=some o->eh P w H h a o
end
section
variable {P:Program}{w:World}{H H':Hp}{h h':Heap}{a:Addr}{o:HO}
theorem eh.lt(x:eh P w H h a o):a<h.objs.size:=by
 cases o with
 | lst xs=>obtain⟨_,_,_,_,e⟩:=x;exact z16 e
 | tup xs=>obtain⟨_,_,_,p⟩:=x;exact p.tup.lt
 | dK kvs=>obtain⟨_,_,_,_,o,_,_,e,_⟩:=x;exact z16 e
 | dT kvs=>obtain⟨_,_,_,_,o,_,_,e,_⟩:=x;exact z16 e
 | set S n=>obtain⟨o,_,_,_,e,_⟩:=x;exact z16 e
 | ins C dx fs=>obtain⟨_,_,_,e,_⟩:=x;exact z16 e
 | own y=>obtain⟨_,e⟩:=x;exact z16 e
 | xd fs=>obtain⟨_,⟨_,_,_,e,_⟩,_⟩:=x;exact z16 e
 | rng lo hi=>obtain⟨_,_,_,e⟩:=x;exact z16 e
 | frz ob u=>obtain⟨e,_⟩:=x;exact z16 e
 | tbl ps=>exact z16 (show h.get? a=some _ from x)
 | met f y=>exact z16 (show h.get? a=some _ from x)
 | ext φ=>obtain⟨_,⟨_,e⟩,_⟩:=x;exact z16 e
theorem Paired.mapP{α β:Type}{F G:α->β->Prop}:∀{l₁:List α} {l₂:List β},Paired F l₁ l₂->(∀a b,F a b->G a b)->Paired G l₁ l₂
 | _,_,.nil,_=>.nil
 | _,_,.cons r t,f=>.cons (f _ _ r) (Paired.mapP t f)
theorem eh.y488(x:eh P w H h a o)(k:∀b u,(b=a∨H b=some (.own a))->h.get? b=some u->h'.get? b=some u)
  (ho:∀b,H b=some (.own a)->H' b=some (.own a)) (ht:∀b xs,H b=some (.tup xs)->H' b=some (.tup xs)):eh P w H' h' a o:=by
 induction o with
 | lst xs=>obtain⟨z,its,n,r,e⟩:=x;exact⟨z,its,n,r,k _ _ (.inl rfl) e⟩
 | tup xs=>obtain⟨z,its,r,ob,e,c⟩:=x;exact⟨z,its,r,ob,k _ _ (.inl rfl) e,c⟩
 | dK kvs=>obtain⟨z,y,vs,r,ob,es,ep,e,c⟩:=x;exact⟨z,y,vs,r,ob,es,ep,k _ _ (.inl rfl) e,c⟩
 | dT kvs =>
  obtain⟨z,y,xs,r,ob,es,ep,e,c⟩:=x
  exact⟨z,y,xs,Paired.mapP r λp q z=>⟨z.1,ht _ _ z.2.1,z.2.2⟩,ob,es,ep,k _ _ (.inl rfl) e,c⟩
 | set S n=>obtain⟨ob,es,ep,t,e,c⟩:=x;exact⟨ob,es,ep,t,k _ _ (.inl rfl) e,c⟩
 | ins C dx fs =>
  obtain⟨d,z,ne,e,mA,⟨od,es,ep,e2,c⟩,r⟩:=x
  exact⟨ho _ d,z,ne,k _ _ (.inl rfl) e,mA,⟨od,es,ep,k _ _ (.inr d) e2,c⟩,r⟩
 | own y=>obtain⟨ob,e⟩:=x;exact⟨ob,k _ _ (.inl rfl) e⟩
 | xd fs=>obtain⟨mA,⟨od,es,ep,e,c⟩,r⟩:=x;exact⟨mA,⟨od,es,ep,k _ _ (.inl rfl) e,c⟩,r⟩
 | rng lo hi=>obtain⟨t,u,v,e⟩:=x;exact⟨t,u,v,k _ _ (.inl rfl) e⟩
 | frz ob u ih=>obtain⟨e,q⟩:=x;exact⟨k _ _ (.inl rfl) e,ih q⟩
 | tbl ps =>
  have e:h.get? a=some { cls:=.none,data:=.fields ps }:=x
  show h'.get? a=some { cls:=.none,data:=.fields ps }
  exact k a _ (.inl rfl) e
 | met f y =>
  have e:h.get? a=some (W.methodObj (.ref f) (.ref y)):=x
  show h'.get? a=some (W.methodObj (.ref f) (.ref y))
  exact k a _ (.inl rfl) e
 | ext φ=>obtain⟨p,⟨o,e⟩,st⟩:=x;exact⟨st _ _ p λo q=>k _ _ (.inl rfl) q,⟨o,k _ _ (.inl rfl) e⟩,st⟩
theorem dI.lt(x:dI P w H h)(e:H a=some o):a<h.objs.size:=(x a o e).lt
theorem dI.fresh(x:dI P w H h)(e:h.objs.size≤a):H a=none:=by
 cases q:H a with
 | none=>rfl
 | some u=>exact absurd (z1e (x.lt q) e) (z2c _)
theorem dI.kept(x:dI P w H h)(k:∀b u,h.get? b=some u->h'.get? b=some u):dI P w H h':=λa o e =>
 (x a o e).y488 (λb u _ q=>k b u q) (λ_ q=>q) λ_ _ q=>q
theorem dI.laid(x:dI P w H h)(k:∀b u,h.get? b=some u->h'.get? b=some u)(hp:h.objs.size≤a)(new:eh P w (aP H a o) h' a o):dI P w (aP H a o) h':=λb u e=>by
 have hn:=x.fresh hp
 by_cases hb:b=a
 ·subst hb;rw [b4] at e;cases e;exact new
 ·rw [aX hb] at e
  exact (x b u e).y488 (λc v _ q=>k c v q) (λc q=>by rw [aX (dM q hn)];exact q) λc xs q=>by rw [aX (dM q hn)];exact q
end
noncomputable def Rd(H:Hp)(a:Addr)(u:HO):Prop:=H a=some u∨∃o,H a=some (.frz o u)
theorem Rd.ok{P:Program}{w:World}{H:Hp}{h:Heap}{a:Addr}{u:HO}(r:Rd H a u)(x:dI P w H h):eh P w H h a u:=by
 rcases r with r|⟨o,r⟩
 ·exact x a u r
 ·obtain⟨_,q⟩:=x a _ r
  exact q
noncomputable def rX:Option HO->Prop
 | some (.lst _)=>True
 | some (.dK _)=>True
 | some (.dT _)=>True
 | some (.set _ _)=>True
 | some (.ins _ _ _)=>True
 | some (.ext _)=>True
 | _=>False
section
variable {P:Program}{w:World}{H:Hp}{h h':Heap}{x e:Addr}{o':HO}
theorem dI.write(ok:dI P w H h)(mu:rX (H x))(he:e=x∨H e=some (.own x))(k:∀b u,b≠e->h.get? b=some u->h'.get? b=some u)(heo:∃u,h'.get? e=some u)
  (new:eh P w (aP H x o') h' x o'):dI P w (aP H x o') h':=λb u q=>by
 have nown:∀c y,H c=some (.own y)->c≠x:=λc y r z=>by subst z;rw [r] at mu;exact mu
 have ntup:∀c xs,H c=some (.tup xs)->c≠x:=λc xs r z=>by subst z;rw [r] at mu;exact mu
 by_cases hb:b=x
 ·subst hb;rw [b4] at q;cases q;exact new
 ·rw [aX hb] at q
  by_cases hbe:b=e
  ·have q':H b=some (.own x):=by
    rcases he with z|z
    ·exact absurd (hbe.trans z) hb
    ·rw [hbe];exact z
   rw [q] at q';cases q'
   obtain⟨v,hv⟩:=heo
   exact⟨v,by rw [hbe];exact hv⟩
  ·refine (ok b u q).y488 (λc v hc r=>k c v ?_ r) (λc r=>by rw [aX (nown c b r)];exact r) λc xs r=>by rw [aX (ntup c xs r)];exact r
   rcases hc with rfl|hc
   ·exact hbe
   ·rintro rfl
    rcases he with z|z
    ·exact nown c b hc z
    ·rw [hc] at z;cases z;exact hb rfl
end
structure Un(fs ex:List Addr)(H H':Hp)(h h':Heap):Prop where
 keep:∀b o,h.get? b=some o->H b=none->b∉fs->b∉ex->h'.get? b=some o
 slot:∀b o,h.get? b=some o->H b=none->b∈fs->b∉ex->∃sl,h'.get? b=some { o with slots:=sl }
 free:∀b o,h.get? b=some o->H b=none->b∉ex->H' b=none
 there:∀b o,h.get? b=some o->b∉ex->∃o',h'.get? b=some o'
 y4e4:∀b xs,H b=some (.tup xs)->H' b=some (.tup xs)
 y182:∀b o u,H b=some (.frz o u)->H' b=some (.frz o u)
 y4cb:∀b ps,H b=some (.tbl ps)->∃more,H' b=some (.tbl (ps++more))
section
variable {fs fs' ex ex':List Addr}{H H1 H2:Hp}{h h1 h2 h':Heap}{a x e:Addr}{o:HO}
theorem Un.any(u:Un fs ex H H1 h h1){b:Addr}{ob:Obj}(q:h.get? b=some ob)(n:H b=none)(hx:b∉ex):∃sl,h1.get? b=some { ob with slots:=sl }:=by
 by_cases hb:b∈fs
 ·exact u.slot b ob q n hb hx
 ·exact⟨ob.slots,u.keep b ob q n hb hx⟩
theorem Un.kept(k:∀b u,h.get? b=some u->h'.get? b=some u):Un fs ex H H h h' :=
 ⟨λb ob q _ _ _=>k b ob q,λb ob q _ _ _=>⟨ob.slots,k b ob q⟩,λ_ _ _ n _=>n,λb ob q _=>⟨ob,k b ob q⟩,λ_ _ q=>q,λ_ _ _ q=>q,λ_ ps q=>⟨#[],by rw [q];simp⟩⟩
theorem Un.refl:Un fs ex H H h h:=Un.kept λ_ _ q=>q
theorem Un.laid(k:∀b u,h.get? b=some u->h'.get? b=some u)(hp:h.objs.size≤a)(hn:H a=none):Un fs ex H (aP H a o) h h' where
 keep:=λb u q _ _ _=>k b u q
 slot:=λb u q _ _ _=>⟨u.slots,k b u q⟩
 free:=λb u q n _=>by rw [aX (z27 (z1e (z16 q) hp))];exact n
 there:=λb u q _=>⟨u,k b u q⟩
 y4e4:=λb xs q=>by rw [aX (dM q hn)];exact q
 y182:=λb u xs q=>by rw [aX (dM q hn)];exact q
 y4cb:=λb ps q=>⟨#[],by rw [aX (dM q hn),q];simp⟩
theorem Un.write(mu:rX (H x))(he:e=x∨H e=some (.own x))(k:∀b u,b≠e->h.get? b=some u->h'.get? b=some u)(heo:∃u,h'.get? e=some u):Un fs ex H (aP H x o) h h':=by
 have hx:∀b,H b=none->b≠x:=λb n z=>by subst z;rw [n] at mu;exact mu
 have hb:∀b,H b=none->b≠e:=λb n z=>by
  subst z
  rcases he with r|r
  ·exact hx b n r
  ·rw [n] at r;cases r
 have hm:∀b u,H b=some u->¬ rX (some u)->b≠x:=λb u q nm z=>by subst z;rw [q] at mu;exact nm mu
 refine⟨λb u q n _ _=>k b u (hb b n) q,λb u q n _ _=>⟨u.slots,k b u (hb b n) q⟩,λb u q n _=>by rw [aX (hx b n)];exact n,λb u q _=>?_,
  λb xs q=>by rw [aX (hm b _ q λz=>z)];exact q,λb u xs q=>by rw [aX (hm b _ q λz=>z)];exact q,λb ps q=>⟨#[],by rw [aX (hm b _ q λz=>z),q];simp⟩⟩
 by_cases hbe:b=e
 ·subst hbe;exact heo
 ·exact⟨u,k b u hbe q⟩
end
noncomputable def yR(h:Heap)(H:Hp):List Addr:=(List.range h.objs.size).filter λa=>(H a).isSome
noncomputable def gD(h:Heap)(H:Hp):Heap:=W.hideAll h (yR h H)
theorem zQ(h:Heap)(H:Hp):(gD h H).objs.size=h.objs.size:=W.hideAll_size _ _
theorem zR{h:Heap}{H:Hp}{b:Addr}{o:Obj}(e:h.get? b=some o)(n:H b=none):(gD h H).get? b=some o :=
 W.hideAll_get _ e λhm=>by
  have q:(H b).isSome=true:=(List.mem_filter.mp hm).2
  rw [n] at q;simp at q
theorem zS{h:Heap}{H:Hp}{b:Addr}{o:Obj}(e:(gD h H).get? b=some o):h.get? b=some o/\H b=none:=by
 have e':h.get? b=some o:=W.of_hideAll (yR h H) e
 refine⟨e',?_⟩
 cases q:H b with
 | none=>rfl
 | some x =>
  have hm:b∈yR h H:=List.mem_filter.mpr ⟨List.mem_range.mpr (z16 e'),by simp [q]⟩
  have z:(gD h H).get? b=none:=W.hideAll_none (yR h H) hm
  rw [z] at e;cases e
noncomputable def y75(g h:Heap)(L:Addr):List (Addr×Obj):=(List.range h.objs.size).filterMap λa=>if a=L∨(g.get? a).isSome=true then none else (h.get? a).map λo=>(a,o)
noncomputable def bA(g h:Heap)(L d:Addr):List (Addr×Obj):=(y75 g h L).filter λp=>decide (p.1≠d)
end
section
structure Mod(K:W.Frag)(mg:Str->Option Value)(base:Heap):Prop where
 kin:K.In base
 glob:base.Ns mainGlobals mg
 blt:∃mb,base.Ns builtinsNs mb/\∀x:Str,x≠"__name__"->mb x=bootBuiltins x
 nolimit:base.NoLimit
structure Cx where
 prog:Program
 w:World
 K:W.Frag
 mg:Str->Option Value
 base:Heap
 A:Around
 N:List Str
 s₀:Shared
 H₀:Hp
 env:Env
 outer:List Env
 stack:List Env
 ex:List Addr
 fn:Str->Bool
 calm:Bool
 pn:List (Addr×Obj)
 xe:Value->Shared->Prop
noncomputable def kg(l:List Env):List Addr:=l.filterMap (·.frame)
noncomputable abbrev Cx.fs(X:Cx):List Addr:=kg X.outer
noncomputable def zT(sc:Scope)(x:Str):Prop:=sc.names.lookup x=some .local∨sc.names.lookup x=some .cell∨sc.names.lookup x=some .free
noncomputable def oi(sc:Scope)(x:Str):Prop:=sc.names.lookup x=some .local∨sc.names.lookup x=some .cell
noncomputable def zU(env:Env)(h:Heap)(m:Str->Option Value)(x:Str)(u:Value):Prop :=
 (env.kindOf x=some .local/\m x=some u)∨((env.kindOf x=some .cell∨env.kindOf x=some .free)/\∃c,env.cells.lookup x=some c/\h.IsCell c (some u))
structure Cx.Ok(X:Cx):Prop where
 mod:Mod X.K X.mg X.base
 kind:X.env.scope.kind=.function
 glob:X.env.globals=mainGlobals
 blt:X.env.builtins=builtinsNs
 above:X.s₀.heap.objs.size≤X.env.locals
 inj:∀x y c,X.env.cells.lookup x=some c->X.env.cells.lookup y=some c->x=y
 has:∀x,(X.env.kindOf x=some .cell∨X.env.kindOf x=some .free)->∃c,X.env.cells.lookup x=some c
 cab:∀x c,X.fn x=true->X.env.cells.lookup x=some c->X.s₀.heap.objs.size≤c
 hd:X.calm=true->X.A.handled=none
 frames:X.A.frames=some X.stack
 stk:X.stack=X.outer∨(X.stack=X.env::X.outer/\X.env.frame=some X.env.locals)
 exf:∀b∈X.ex,b≠X.env.locals/\∀x c,X.env.cells.lookup x=some c->c≠b
 bs:∀b o,X.base.get? b=some o->X.s₀.heap.get? b=some o/\X.H₀ b=none
 bsz:X.base.objs.size≤X.s₀.heap.objs.size
 y29d:∀b o,X.base.get? b=some o->b∉X.ex
 exfs:∀b∈X.ex,b∉X.fs
 y185:X.s₀.heap.FunFrames X.base X.outer
 frf:∀b∈X.fs,X.H₀ b=none
structure Inv(X:Cx)(pins:List (Addr×Obj))(σ:List (Option V))(H:Hp)(s:Shared):Prop where
 ok:X.Ok
 os:s.os=X.s₀.os
 bare:AllBare s.gens
 base:Un X.fs X.ex X.H₀ H X.s₀.heap s.heap
 loc:∃m,s.heap.Ns X.env.locals m/\∀(i:Nat) (x:Str) (v:V),X.N[i]?=some x->σ[i]?=some (some v)->zT X.env.scope x->∃u,aC v u/\zU X.env s.heap m x u
 cell:∀x c,X.env.cells.lookup x=some c->∃v,s.heap.IsCell c v
 free:H X.env.locals=none
 y180:∀x c,X.env.cells.lookup x=some c->H c=none
 pin:∀p∈X.pn++pins,s.heap.get? p.1=some p.2/\H p.1=none/\p.1≠X.env.locals/\p.1∉X.fs/\∀v,p.2.data≠.cell v
 hok:dI X.prog X.w H s.heap
 len:σ.length=X.N.length
section
variable {X:Cx}{pins:List (Addr×Obj)}{σ:List (Option V)}{H H':Hp}{s:Shared}{h':Heap}
theorem Cx.Ok.nofr(ok:X.Ok){b:Addr}{o:Obj}(e:X.base.get? b=some o):b∉X.fs:=λhb=>by
 have:=(ok.y185.mem hb).1
 rw [e] at this;cases this
theorem Inv.bs(I:Inv X pins σ H s):∀b o,X.base.get? b=some o->s.heap.get? b=some o/\H b=none:=λb o e =>
 ⟨I.base.keep b o (I.ok.bs b o e).1 (I.ok.bs b o e).2 (I.ok.nofr e) (I.ok.y29d b o e),I.base.free b o (I.ok.bs b o e).1 (I.ok.bs b o e).2 (I.ok.y29d b o e)⟩
theorem Inv.bk(I:Inv X pins σ H s):∀b o,X.base.get? b=some o->s.heap.get? b=some o:=λb o e=>(I.bs b o e).1
theorem Inv.mod(I:Inv X pins σ H s):Mod X.K X.mg X.base:=I.ok.mod
theorem Inv.kIn(I:Inv X pins σ H s):X.K.In s.heap:=I.ok.mod.kin.keeps I.bk
theorem Inv.fr(I:Inv X pins σ H s):∃m,Fr X.base X.env.locals s.heap m :=
 let ⟨m,hn,_⟩:=I.loc
 ⟨m,hn,I.bk,z21 I.ok.bsz I.ok.above⟩
theorem Inv.lt(I:Inv X pins σ H s):X.env.locals<s.heap.objs.size:=let ⟨_,hn,_⟩:=I.loc;hn.lt
theorem Inv.sz(I:Inv X pins σ H s):X.s₀.heap.objs.size≤s.heap.objs.size:=z21 I.ok.above (Nat.le_of_lt I.lt)
theorem Inv.nofs(I:Inv X pins σ H s){a:Addr}(h:s.heap.objs.size≤a):a∉X.fs:=λhb=>by
 obtain⟨_,o,ho,_⟩:=I.ok.y185.mem hb
 exact absurd (z1e (z16 ho) (z21 I.sz h)) (z2c _)
theorem Inv.cne(I:Inv X pins σ H s):∀x c,X.env.cells.lookup x=some c->c≠X.env.locals:=λx c e z=>by
 obtain⟨v,o,ho,hd⟩:=I.cell x c e
 obtain⟨m,⟨o',es,ep,ho',hd',_⟩,_⟩:=I.loc
 rw [z,ho'] at ho;cases ho;rw [hd'] at hd;cases hd
theorem Inv.y185(I:Inv X pins σ H s):s.heap.FunFrames X.base X.outer:=by
 have all:∀(l:List Env),(∀b∈kg l,b∈X.fs)->X.s₀.heap.FunFrames X.base l->s.heap.FunFrames X.base l:=by
  intro l
  induction l with
  | nil=>intro _ _;trivial
  | cons env r ih =>
   intro hs hl
   obtain⟨hk,⟨L,o,hf,hn,ho,hd⟩,hr⟩:=hl
   have hL:L∈X.fs:=hs L (by unfold kg;rw [List.filterMap_cons,hf];exact List.mem_cons_self)
   obtain⟨sl,e⟩:=I.base.slot L o ho (I.ok.frf L hL) hL λz=>I.ok.exfs L z hL
   exact⟨hk,⟨L,_,hf,hn,e,hd⟩,ih (λb hb=>hs b (by unfold kg;rw [List.filterMap_cons,hf];exact z1d _ hb)) hr⟩
 exact all X.outer (λ_ hb=>hb) I.ok.y185
theorem Inv.stack(I:Inv X pins σ H s):s.heap.FunFrames X.base X.stack:=by
 rcases I.ok.stk with e|⟨e,hf⟩
 ·rw [e];exact I.y185
 ·rw [e]
  obtain⟨m,hn,_⟩:=I.loc
  refine .cons (by rw [I.ok.kind];decide) hf hn ?_ I.y185
  exact Heap.get?_none_of_le (z21 I.ok.bsz I.ok.above)
theorem Inv.y48b(I:Inv X pins σ H s):∀b∈kg X.stack,b∈X.env.locals::X.fs:=λb hb=>by
 rcases I.ok.stk with e|⟨e,hf⟩
 ·rw [e] at hb;exact z1d _ hb
 ·rw [e] at hb
  unfold kg at hb
  rw [List.filterMap_cons,hf] at hb
  exact hb
theorem Inv.y48a(I:Inv X pins σ H s):∀b∈kg X.stack,H b=none:=λb hb=>by
 rcases zb.mp (I.y48b b hb) with e|hb
 ·rw [e];exact I.free
 ·obtain⟨_,o,ho,_⟩:=I.ok.y185.mem hb
  exact I.base.free b o ho (I.ok.frf b hb) λz=>I.ok.exfs b z hb
theorem Inv.step{g':Array GenState}{t':Nat}{d':Drawn}{ch:List Addr}(I:Inv X pins σ H s)
  (hch:∀b∈ch,(b∈X.ex∨X.s₀.heap.objs.size≤b)/\b≠X.env.locals/\(∀x c,X.env.cells.lookup x=some c->c≠b)/\∀p∈X.pn++pins,p.1≠b)
  (keep:∀b o,b≠X.env.locals->b∉X.fs->b∉ch->s.heap.get? b=some o->H b=none->h'.get? b=some o)
  (slot:∀b o,b≠X.env.locals->b∈X.fs->b∉ch->s.heap.get? b=some o->H b=none->∃sl,h'.get? b=some { o with slots:=sl }) (free:∀b o,b∉ch->s.heap.get? b=some o->H b=none->H' b=none)
  (there:∀b o,b∉ch->s.heap.get? b=some o->∃o',h'.get? b=some o')
  (y4e4:∀b xs,H b=some (.tup xs)->H' b=some (.tup xs)) (y182:∀b o u,H b=some (.frz o u)->H' b=some (.frz o u)) (y4cb:∀b ps,H b=some (.tbl ps)->∃more,H' b=some (.tbl (ps++more)))
  (ns:∀m,s.heap.Ns X.env.locals m->h'.Ns X.env.locals m) (hok:dI X.prog X.w H' h') (hg:AllBare g') :
  Inv X pins σ H' { s with heap:=h',gens:=g',drawn:=d',toks:=t' }:=by
 have neL:∀b o,X.s₀.heap.get? b=some o->b≠X.env.locals:=λb o e=>z27 (z1e (z16 e) I.ok.above)
 have neC:∀b o,X.s₀.heap.get? b=some o->b∉X.ex->b∉ch:=λb o e hx hb=>by
  rcases (hch b hb).1 with z|z
  ·exact hx z
  ·exact absurd (z1e (z16 e) z) (z2c _)
 have cellK:∀x c,X.env.cells.lookup x=some c->∀v,s.heap.IsCell c v->h'.IsCell c v:=λx c e v ⟨o,ho,hd⟩=>by
  have nch:c∉ch:=λz=>(hch c z).2.2.1 x c e rfl
  by_cases hc:c∈X.fs
  ·obtain⟨sl,q⟩:=slot c o (I.cne x c e) hc nch ho (I.y180 x c e)
   exact⟨_,q,hd⟩
  ·exact⟨o,keep c o (I.cne x c e) hc nch ho (I.y180 x c e),hd⟩
 refine⟨I.ok,I.os,hg,⟨λb o e n hb hx=>?_,λb o e n hb hx=>?_,λb o e n hx=>?_,λb o e hx=>?_,λb xs e=>y4e4 b xs (I.base.y4e4 b xs e),λb o xs e=>y182 b o xs (I.base.y182 b o xs e),λb ps e=>?_⟩,?_,λx c e=>?_,?_,λx c e=>?_,λp hp=>?_,hok,I.len⟩
 ·exact keep b o (neL b o e) hb (neC b o e hx) (I.base.keep b o e n hb hx) (I.base.free b o e n hx)
 ·obtain⟨sl,e1⟩:=I.base.slot b o e n hb hx
  obtain⟨sl',e2⟩:=slot b _ (neL b o e) hb (neC b o e hx) e1 (I.base.free b o e n hx)
  exact⟨sl',e2⟩
 ·obtain⟨o',e1⟩:=I.base.there b o e hx
  exact free b o' (neC b o e hx) e1 (I.base.free b o e n hx)
 ·obtain⟨o',e1⟩:=I.base.there b o e hx
  exact there b o' (neC b o e hx) e1
 ·obtain⟨m1,e1⟩:=I.base.y4cb b ps e
  obtain⟨m2,e2⟩:=y4cb b _ e1
  exact⟨m1++m2,by rw [e2,Array.append_assoc]⟩
 ·obtain⟨m,hn,hl⟩:=I.loc
  refine⟨m,ns m hn,λi x v e1 e2 e3=>?_⟩
  obtain⟨u,r,l⟩:=hl i x v e1 e2 e3
  refine⟨u,r,?_⟩
  rcases l with l|⟨k,c,e,z⟩
  ·exact .inl l
  ·exact .inr ⟨k,c,e,cellK x c e _ z⟩
 ·obtain⟨v,z⟩:=I.cell x c e
  exact⟨v,cellK x c e v z⟩
 ·obtain⟨m,⟨o,_,_,ho,_⟩,_⟩:=I.loc
  exact free _ o (λz=>(hch _ z).2.1 rfl) ho I.free
 ·obtain⟨v,o,ho,hd⟩:=I.cell x c e
  exact free c o (λz=>(hch c z).2.2.1 x c e rfl) ho (I.y180 x c e)
 ·obtain⟨e,n,ne,nf,d⟩:=I.pin p hp
  have nch:p.1∉ch:=λz=>(hch p.1 z).2.2.2 p hp rfl
  exact⟨keep p.1 p.2 ne nf nch e n,free p.1 p.2 nch e n,ne,nf,d⟩
theorem Inv.un{t':Nat}(I:Inv X pins σ H s)(u:Un X.fs [] H H' s.heap h')(hok:dI X.prog X.w H' h'):Inv X pins σ H' { s with heap:=h',toks:=t' }:=by
 obtain⟨m,⟨o,es,ep,ho,r⟩,_⟩:=id I.loc
 obtain⟨sl,hL⟩:=u.any ho I.free (by simp)
 exact I.step (g':=s.gens) (d':=s.drawn) (ch:=[]) (λ_ z=>nomatch z) (λb o _ hb _ e n=>u.keep b o e n hb (by simp)) (λb o _ hb _ e n=>u.slot b o e n hb (by simp)) (λb o _ e n=>u.free b o e n (by simp)) (λb o _ e=>u.there b o e (by simp)) u.y4e4 u.y182 u.y4cb (λm' hm=>by
  obtain⟨o',es',ep',ho',r'⟩:=hm
  rw [ho] at ho';cases ho'
  exact⟨_,es',ep',hL,r'⟩) hok I.bare
theorem Inv.call{g':Array GenState}{t':Nat}{d':Drawn}{ch:List Addr}(I:Inv X pins σ H s)(u:Un (kg X.stack) ch H H' s.heap h')(hok:dI X.prog X.w H' h')(hg:AllBare g')
  (hch:∀b∈ch,(b∈X.ex∨X.s₀.heap.objs.size≤b)/\b≠X.env.locals/\(∀x c,X.env.cells.lookup x=some c->c≠b)/\∀p∈X.pn++pins,p.1≠b) :
  Inv X pins σ H' { s with heap:=h',gens:=g',drawn:=d',toks:=t' }:=by
 obtain⟨m,⟨o,es,ep,ho,r⟩,_⟩:=id I.loc
 obtain⟨sl,hL⟩:=u.any ho I.free λz=>(hch _ z).2.1 rfl
 exact I.step (ch:=ch) hch (λb o hL hb hc e n=>u.keep b o e n (λz=>(zb.mp (I.y48b b z)).elim hL hb) hc) (λb o _ _ hc e n=>u.any e n hc) (λb o hc e n=>u.free b o e n hc) (λb o hc e=>u.there b o e hc) u.y4e4 u.y182 u.y4cb (λm' hm=>by
  obtain⟨o',es',ep',ho',r'⟩:=hm
  rw [ho] at ho';cases ho'
  exact⟨_,es',ep',hL,r'⟩) hok hg
theorem Inv.turned{t':Nat}{it:Addr}(I:Inv X pins σ H s)(k:∀b o,b≠it->s.heap.get? b=some o->h'.get? b=some o)(hn:H it=none)(hL:it≠X.env.locals)
  (h1:it∈X.ex∨X.s₀.heap.objs.size≤it) (h2:∀x c,X.env.cells.lookup x=some c->c≠it) (h3:∀p∈X.pn++pins,p.1≠it):Inv X pins σ H { s with heap:=h',toks:=t' }:=by
 have nit:∀b u,H b=some u->b≠it:=λb u e z=>by rw [z,hn] at e;cases e
 refine I.step (g':=s.gens) (d':=s.drawn) (ch:=[it]) (λb hb=>?_) (λb o _ _ hc e _=>k b o (λz=>hc (by simp [z])) e) (λb o _ _ hc e _=>⟨o.slots,k b o (λz=>hc (by simp [z])) e⟩) (λ_ _ _ _ n=>n)
  (λb o hc e=>⟨o,k b o (λz=>hc (by simp [z])) e⟩) (λ_ _ e=>e) (λ_ _ _ e=>e) (λb ps e=>⟨#[],by rw [e];simp⟩) (λm hm=>?_) (λb u e=>?_) I.bare
 ·have e:b=it:=by simpa using hb
  subst e
  exact⟨h1,hL,h2,h3⟩
 ·obtain⟨o,es,ep,ho,r⟩:=hm
  exact⟨o,es,ep,k _ o (Ne.symm hL) ho,r⟩
 ·refine (I.hok b u e).y488 (λc v hc q=>k c v ?_ q) (λ_ q=>q) λ_ _ q=>q
  rcases hc with z|z
  ·rw [z];exact nit b u e
  ·exact nit c _ z
theorem Inv.tok(I:Inv X pins σ H s)(t:Nat):Inv X pins σ H { s with toks:=t }:=I.un (h':=s.heap) (t':=t) Un.refl I.hok
theorem Inv.kept{t':Nat}(I:Inv X pins σ H s)(k:∀b u,s.heap.get? b=some u->h'.get? b=some u):Inv X pins σ H { s with heap:=h',toks:=t' }:=I.un (Un.kept k) (I.hok.kept k)
theorem Inv.laid{a:Addr}{o:HO}{t':Nat}(I:Inv X pins σ H s)(k:∀b u,s.heap.get? b=some u->h'.get? b=some u)(hp:s.heap.objs.size≤a)(new:eh X.prog X.w (aP H a o) h' a o) :
  Inv X pins σ (aP H a o) { s with heap:=h',toks:=t' }:=I.un (Un.laid k hp (I.hok.fresh hp)) (I.hok.laid k hp new)
theorem Inv.write{x e:Addr}{o:HO}{t':Nat}(I:Inv X pins σ H s)(mu:rX (H x))(he:e=x∨H e=some (.own x))(k:∀b u,b≠e->s.heap.get? b=some u->h'.get? b=some u)(heo:∃u,h'.get? e=some u)
  (new:eh X.prog X.w (aP H x o) h' x o):Inv X pins σ (aP H x o) { s with heap:=h',toks:=t' }:=I.un (Un.write mu he k heo) (I.hok.write mu he k heo new)
theorem Inv.weak{σ':List (Option V)}(I:Inv X pins σ H s)(hl:σ'.length=σ.length)(w:∀(i:Nat) v,σ'[i]?=some (some v)->σ[i]?=some (some v)):Inv X pins σ' H s :=
 ⟨I.ok,I.os,I.bare,I.base,let ⟨m,hn,hl'⟩:=I.loc;⟨m,hn,λi x v e1 e2 e3=>hl' i x v e1 (w i v e2) e3⟩,I.cell,I.free,I.y180,I.pin,I.hok,hl.trans I.len⟩
theorem Inv.y369{y367:List (Addr×Obj)}(I:Inv X pins σ H s)(h:∀p∈y367,s.heap.get? p.1=some p.2/\H p.1=none/\p.1≠X.env.locals/\p.1∉X.fs/\∀v,p.2.data≠.cell v):Inv X y367 σ H s :=
 ⟨I.ok,I.os,I.bare,I.base,I.loc,I.cell,I.free,I.y180,λp hp=>(z1a.mp hp).elim (λz=>I.pin p (List.mem_append_left _ z)) (h p),I.hok,I.len⟩
theorem rY{N:List Str}(hN:N.Nodup){i j:Nat}{x:Str}(a:N[i]?=some x)(b:N[j]?=some x):i=j:=by
 obtain⟨h1,e1⟩:=z1f.mp a
 obtain⟨h2,e2⟩:=z1f.mp b
 exact (List.getElem_inj hN).mp (e1.trans e2.symm)
theorem rZ{M:Model}{A:Around}{E:Value->Shared->Prop}{i:Nat}{x:Str}{v:V}{u:Value}{Q:Unit->Shared->Prop}(I:Inv X pins σ H s)(hN:X.N.Nodup)(hi:X.N[i]?=some x)(hx:oi X.env.scope x)(r:aC v u)
  (h:∀s',Inv X pins (σ.set i (some v)) H s'->(∃a,Heap.SameBut a s.heap s'.heap/\(a=X.env.locals∨X.env.cells.lookup x=some a))->Q () s') (hf:X.fn x=true∨X.env.scope.names.lookup x=some .local:=by first|exact .inl rfl|exact .inr rfl|assumption):wpAny M A (storeName X.env x u) Q E s:=by
 obtain⟨m,hn,hl⟩:=id I.loc
 have hcls:(X.env.scope.kind == .class||(X.env.scope.kind == .module&&X.env.locals != X.env.globals))=false:=by rw [I.ok.kind];rfl
 have hiσ:i<σ.length:=by rw [I.len];exact (z1f.mp hi).1
 have cne:=I.cne
 have tracked:∀{a:Addr} {h':Heap},(∃o,s.heap.get? a=some o/\H a=none)->Heap.SameBut a s.heap h'->dI X.prog X.w H h':=λ{a h'} ha hs b ob e=>by
  obtain⟨_,_,y1ca⟩:=ha
  refine (I.hok b ob e).y488 (λc w' hc q=>(hs.2 c ?_).trans q) (λ_ q=>q) λ_ _ q=>q
  rintro rfl
  rcases hc with rfl|hc
  ·rw [y1ca] at e;cases e
  ·rw [y1ca] at hc;cases hc
 rcases hx with hk|hk
 ·refine wpAny_storeName_local hk hn (λh' hn' hs=>?_) hcls
  obtain⟨oL,_,_,hoL,_⟩:=id hn
  refine h _ ⟨I.ok,I.os,I.bare,⟨λb o e n hb hx=>?_,λb o e n hb hx=>?_,I.base.free,λb o e hx=>?_,I.base.y4e4,I.base.y182,I.base.y4cb⟩,⟨_,hn',λj y v' e1 e2 e3=>?_⟩,λy c e=>?_,I.free,I.y180,λp hp=>?_,tracked ⟨oL,hoL,I.free⟩ hs,by simpa using I.len⟩ ⟨_,hs,.inl rfl⟩
  ·exact (hs.2 b (z27 (z1e (z16 e) I.ok.above))).trans (I.base.keep b o e n hb hx)
  ·obtain⟨sl,e1⟩:=I.base.slot b o e n hb hx
   exact⟨sl,(hs.2 b (z27 (z1e (z16 e) I.ok.above))).trans e1⟩
  ·obtain⟨o',e1⟩:=I.base.there b o e hx
   exact⟨o',(hs.2 b (z27 (z1e (z16 e) I.ok.above))).trans e1⟩
  ·by_cases hj:j=i
   ·subst hj
    rw [hi] at e1;cases e1
    rw [List.getElem?_set_self hiσ] at e2
    cases e2
    exact⟨u,r,.inl ⟨hk,by simp⟩⟩
   ·rw [z2d (Ne.symm hj)] at e2
    obtain⟨u',r',q⟩:=hl j y v' e1 e2 e3
    refine⟨u',r',?_⟩
    rcases q with⟨k,e⟩| ⟨k,c,e,z⟩
    ·refine .inl ⟨k,?_⟩
     have:y≠x:=λe=>hj (rY hN e1 (e ▸ hi))
     simp [this,e]
    ·exact .inr ⟨k,c,e,z.sameBut hs (cne y c e)⟩
  ·obtain⟨w',z⟩:=I.cell y c e
   exact⟨w',z.sameBut hs (cne y c e)⟩
  ·obtain⟨e,n,ne,nf,d⟩:=I.pin p hp
   exact⟨(hs.2 p.1 ne).trans e,n,ne,nf,d⟩
 ·have hfn:X.fn x=true:=by
   rcases hf with z|z
   ·exact z
   ·rw [z] at hk;cases hk
  obtain⟨c,hc⟩:=I.ok.has x (.inl hk)
  obtain⟨w',z⟩:=I.cell x c hc
  refine wpAny_storeName_cell I.ok.kind hk hc z (λh' hc' hs=>?_)
  obtain⟨oc,hoc,hocd⟩:=id z
  refine h { s with heap:=h' } ⟨I.ok,I.os,I.bare,⟨λb o e n hb hx=>?_,λb o e n hb hx=>?_,I.base.free,λb o e hx=>?_,I.base.y4e4,I.base.y182,I.base.y4cb⟩,⟨m,hn.sameBut hs (Ne.symm (cne x c hc)),λj y v' e1 e2 e3=>?_⟩,λy c' e=>?_,I.free,I.y180,λp hp=>?_,tracked ⟨oc,hoc,I.y180 x c hc⟩ hs,by simpa using I.len⟩ ⟨c,hs,.inr hc⟩
  ·exact (hs.2 b (z27 (z1e (z16 e) (I.ok.cab x c hfn hc)))).trans (I.base.keep b o e n hb hx)
  ·obtain⟨sl,e1⟩:=I.base.slot b o e n hb hx
   exact⟨sl,(hs.2 b (z27 (z1e (z16 e) (I.ok.cab x c hfn hc)))).trans e1⟩
  ·obtain⟨o',e1⟩:=I.base.there b o e hx
   exact⟨o',(hs.2 b (z27 (z1e (z16 e) (I.ok.cab x c hfn hc)))).trans e1⟩
  ·by_cases hj:j=i
   ·subst hj
    rw [hi] at e1;cases e1
    rw [List.getElem?_set_self hiσ] at e2
    cases e2
    exact⟨u,r,.inr ⟨.inl hk,c,hc,hc'⟩⟩
   ·rw [z2d (Ne.symm hj)] at e2
    obtain⟨u',r',q⟩:=hl j y v' e1 e2 e3
    refine⟨u',r',?_⟩
    rcases q with q|⟨k,c',e,z'⟩
    ·exact .inl q
    ·refine .inr ⟨k,c',e,z'.sameBut hs ?_⟩
     rintro rfl
     exact hj (rY hN e1 (I.ok.inj _ _ _ e hc ▸ hi))
  ·by_cases hcc:c'=c
   ·subst hcc;exact⟨_,hc'⟩
   ·obtain⟨w2,z2⟩:=I.cell y c' e
    exact⟨w2,z2.sameBut hs hcc⟩
  ·obtain⟨e,n,ne,nf,d⟩:=I.pin p hp
   refine⟨(hs.2 p.1 ?_).trans e,n,ne,nf,d⟩
   intro q
   rw [q,hoc] at e
   have q':oc=p.2:=z25 e
   exact d w' (by rw [<- q'];exact hocd)
theorem lM{M:Model}{A:Around}{E:Value->Shared->Prop}{i:Nat}{x:Str}{v:V}{u:Value}{Q:Unit->Shared->Prop}(I:Inv X pins σ H s)(hN:X.N.Nodup)(hi:X.N[i]?=some x)(hx:oi X.env.scope x)(r:aC v u)
  (h:∀s',Inv X pins (σ.set i (some v)) H s'->Q () s') (hf:X.fn x=true∨X.env.scope.names.lookup x=some .local:=by first|exact .inl rfl|exact .inr rfl|assumption):wpAny M A (storeName X.env x u) Q E s :=
 rZ I hN hi hx r (λs' I' _=>h s' I') hf
theorem Inv.call'{s':Shared}{ch:List Addr}(I:Inv X pins σ H s)(ho:s'.os=s.os)(u:Un (kg X.stack) ch H H' s.heap s'.heap)(hok:dI X.prog X.w H' s'.heap)(hg:AllBare s'.gens)
  (hch:∀b∈ch,(b∈X.ex∨X.s₀.heap.objs.size≤b)/\b≠X.env.locals/\(∀x c,X.env.cells.lookup x=some c->c≠b)/\∀p∈X.pn++pins,p.1≠b):Inv X pins σ H' s':=by
 obtain⟨h',g',d',t',o'⟩:=s'
 have e:o'=s.os:=ho
 subst e
 exact I.call (g':=g') (t':=t') (d':=d') u hok hg hch
end
noncomputable abbrev XK:=Value->Option Addr->Hp->Prop
noncomputable abbrev St:=List (Option V)
noncomputable abbrev VK:=V->Hp->Prop
noncomputable abbrev TE:=St->Hp->VK->Prop
noncomputable abbrev TT:=St->Hp->(Bool->Hp->Prop)->Prop
noncomputable abbrev TA:=St->Hp->(List V->Hp->Prop)->Prop
structure Ends where
 nx:St->Hp->Prop
 rt:VK
 bk:St->Hp->Prop:=λ_ _=>False
 ct:St->Hp->Prop:=λ_ _=>False
noncomputable abbrev TS:=Ends->St->Hp->Prop
noncomputable def EP(X:Cx)(pins:List (Addr×Obj))(σ:St)(Q:VK)(u:Value)(s':Shared):Prop:=∃v H',Inv X pins σ H' s'/\aC v u/\Q v H'
noncomputable def TP(X:Cx)(pins:List (Addr×Obj))(σ:St)(Q:Bool->Hp->Prop)(b:Bool)(s':Shared):Prop:=∃H',Inv X pins σ H' s'/\Q b H'
noncomputable def AP(X:Cx)(pins:List (Addr×Obj))(σ:St)(Q:List V->Hp->Prop)(us:List Value)(s':Shared):Prop:=∃vs H',Inv X pins σ H' s'/\az vs us/\Q vs H'
noncomputable def SP(X:Cx)(pins:List (Addr×Obj))(D:Ends)(f:Flow)(s':Shared):Prop :=
 match f with
 | .next=>∃σ' H',Inv X pins σ' H' s'/\D.nx σ' H'
 | .brk=>∃σ' H',Inv X pins σ' H' s'/\D.bk σ' H'
 | .cont=>∃σ' H',Inv X pins σ' H' s'/\D.ct σ' H'
 | .ret u=>∃v σ' H',Inv X pins σ' H' s'/\aC v u/\D.rt v H'
noncomputable def PE(X:Cx)(e:Expr)(t:TE):Prop :=
 ∀(pins:List (Addr×Obj)) (s:Shared) (σ:St) (H:Hp) (Q:VK),Inv X pins σ H s->t σ H Q->wpAny (model X.prog X.w) X.A (eval e X.env) (EP X pins σ Q) X.xe s
noncomputable def PT(X:Cx)(e:Expr)(t:TT):Prop :=
 ∀(pins:List (Addr×Obj)) (s:Shared) (σ:St) (H:Hp) (Q:Bool->Hp->Prop),Inv X pins σ H s->t σ H Q->wpAny (model X.prog X.w) X.A (isTrue e X.env (eval e X.env)) (TP X pins σ Q) X.xe s
noncomputable def PW(X:Cx)(e:Expr)(t:TT):Prop :=
 ∀(whole:Sem Value) (pins:List (Addr×Obj)) (s:Shared) (σ:St) (H:Hp) (Q:Bool->Hp->Prop),Inv X pins σ H s->t σ H Q->wpAny (model X.prog X.w) X.A (isTrue e X.env whole) (TP X pins σ Q) X.xe s
theorem PW.pt{X:Cx}{e:Expr}{t:TT}(h:PW X e t):PT X e t:=h _
noncomputable def PA(X:Cx)(es:List Expr)(t:TA):Prop :=
 ∀(pos:Pos) (pins:List (Addr×Obj)) (s:Shared) (σ:St) (H:Hp) (Q:List V->Hp->Prop),Inv X pins σ H s->t σ H Q->wpAny (model X.prog X.w) X.A (spliced (backTo pos (starEach es X.env))) (AP X pins σ Q) X.xe s
noncomputable def PS(X:Cx)(st:Stmt)(t:TS):Prop :=
 ∀(pins:List (Addr×Obj)) (s:Shared) (σ:St) (H:Hp) (D:Ends),Inv X pins σ H s->t D σ H->wpAny (model X.prog X.w) X.A (exec st X.env) (SP X pins D) X.xe s
noncomputable def gY(X:Cx)(st:List Stmt)(t:TS):Prop :=
 ∀(pins:List (Addr×Obj)) (s:Shared) (σ:St) (H:Hp) (D:Ends),Inv X pins σ H s->t D σ H->wpAny (model X.prog X.w) X.A (execs st X.env) (SP X pins D) X.xe s
theorem aS{α:Type}{t:Sem α}{Q Q':α->Shared->Prop}{M:Model}{A:Around}{E:Value->Shared->Prop}{s:Shared}(h:wpAny M A t Q E s)(hQ:∀a s,Q a s->Q' a s):wpAny M A t Q' E s:=wpAny_mono h hQ λ_ _ x=>x
end
section
section
variable {X:Cx}
theorem bin{a b:Expr}{ta tb:TE}(ha:PE X a ta)(hb:PE X b tb){pins:List (Addr×Obj)}{s:Shared}{σ:St}{H:Hp}{R:V->V->Hp->Prop}(I:Inv X pins σ H s)(h:ta σ H λx H1=>tb σ H1 λy H2=>R x y H2)
  {α:Type} {Q:α->Shared->Prop} {f:Value->Value->Sem α}
  (hf:∀v u s2 x y H2,Inv X pins σ H2 s2->aC x v->aC y u->R x y H2->wpAny (model X.prog X.w) X.A (f v u) Q X.xe s2) :
  wpAny (model X.prog X.w) X.A (eval a X.env) (λv s₁=>wpAny (model X.prog X.w) X.A (eval b X.env) (λu s₂=>wpAny (model X.prog X.w) X.A (f v u) Q X.xe s₂) X.xe s₁) X.xe s:=by
 refine aS (ha pins s σ H _ I h) λv s1 ⟨x,H1,I1,r1,q1⟩=>?_
 refine aS (hb pins s1 σ H1 _ I1 q1) λu s2 ⟨y,H2,I2,r2,q2⟩=>?_
 exact hf v u s2 x y H2 I2 r1 r2 q2
noncomputable def sd(i:Nat):TE:=λσ H Q=>∃v,σ[i]?=some (some v)/\Q v H
noncomputable def tC(v:V):TE:=λ_ H Q=>Q v H
theorem zV{i:Nat}{x:Str}{pos:Pos}(hN:X.N[i]?=some x)(hv:zT X.env.scope x)(hd:(x == ("__debug__" : Str))=false:=by decide)(hcd:(x == ("__classdict__" : Str))=false:=by decide):PE X (.Name x pos) (sd i):=by
 intro pins s σ H Q I h
 obtain⟨v,e,h⟩:=h
 obtain⟨m,hn,hl⟩:=I.loc
 obtain⟨u,r,l⟩:=hl i x v hN e hv
 have fin:EP X pins σ Q u s:=⟨v,H,I,r,h⟩
 rcases l with⟨hk,hm⟩| ⟨hk,c,hc,y1c7⟩
 ·exact wpAny_Name (wpAny_loadName_local I.ok.kind hk hn hm fin) hd
 ·rcases hk with hk|hk
  ·exact wpAny_Name (wpAny_loadName_cell I.ok.kind hk hc y1c7 fin) hd
  ·exact wpAny_Name (wpAny_loadName_free I.ok.kind hk hc y1c7 fin hcd) hd
theorem zW{i j pos}:PE X (.Constant (.int i) j pos) (tC (.int i)):=λ_ _ _ H _ I h=>wpAny_Constant_int ⟨.int i,H,I.tok _,⟨_,rfl⟩,h⟩
theorem se{b j pos}:PE X (.Constant (.bool b) j pos) (tC (.bl b)):=λ_ _ _ H _ I h=>Constant_bool ⟨.bl b,H,I,rfl,h⟩
theorem zX{j pos}:PE X (.Constant .none j pos) (tC .non):=λ_ _ _ H _ I h=>Constant_none ⟨.non,H,I,rfl,h⟩
theorem zY{x j pos}:PE X (.Constant (.str x) j pos) (tC (.str x)):=λ_ _ _ H _ I h=>Calls.Constant_str ⟨.str x,H,I.tok _,⟨_,rfl⟩,h⟩
noncomputable def Gl(X:Cx)(x:Str):Prop:=X.env.kindOf x=some .globalImplicit
theorem oj{E:Value->Shared->Prop}{pins:List (Addr×Obj)}{s:Shared}{σ:St}{H:Hp}{x:Str}{u:Value}{pos:Pos}{Q:Value->Shared->Prop}(I:Inv X pins σ H s)(hg:Gl X x)(hm:X.mg x=some u)(h:Q u s)
  (hd:(x == ("__debug__" : Str))=false:=by decide):wpAny (model X.prog X.w) X.A (eval (.Name x pos) X.env) Q E s :=
 Calls.Name_function_global I.ok.kind hg (Calls.loadGlobal_global (by rw [I.ok.glob];exact I.mod.glob.keeps I.bk) hm h) hd
theorem gE{E:Value->Shared->Prop}{pins:List (Addr×Obj)}{s:Shared}{σ:St}{H:Hp}{x:Str}{u:Value}{pos:Pos}{Q:Value->Shared->Prop}(I:Inv X pins σ H s)(hg:Gl X x)(hm:X.mg x=none)(hv:bootBuiltins x=some u)(h:Q u s)
  (hn:x≠"__name__":=by decide) (hd:(x == ("__debug__" : Str))=false:=by decide):wpAny (model X.prog X.w) X.A (eval (.Name x pos) X.env) Q E s:=by
 obtain⟨mb,h1,h2⟩:=I.mod.blt
 exact Calls.Name_function_global I.ok.kind hg (Calls.loadGlobal_builtin (by rw [I.ok.glob];exact I.mod.glob.keeps I.bk) hm (by rw [I.ok.blt];exact h1.keeps I.bk) ((h2 x hn).trans hv) h) hd
theorem om{x:Str}{v:V}{u:Value}{pos:Pos}(hg:Gl X x)(hm:X.mg x=some u)(r:aC v u)(hd:(x == ("__debug__" : Str))=false:=by decide):PE X (.Name x pos) (tC v) :=
 λ_ _ _ H _ I h=>oj I hg hm ⟨v,H,I,r,h⟩ hd
theorem zZ{x:Str}{v:V}{u:Value}{pos:Pos}(hg:Gl X x)(hm:X.mg x=none)(hv:bootBuiltins x=some u)(r:aC v u)(hn:x≠"__name__":=by decide)(hd:(x == ("__debug__" : Str))=false:=by decide):PE X (.Name x pos) (tC v) :=
 λ_ _ _ H _ I h=>gE I hg hm hv ⟨v,H,I,r,h⟩ hn hd
variable {a b:Expr}{ta tb:TE}{pos:Pos}
noncomputable def PC(X:Cx)(op:CmpOp)(a b:Expr)(t:TE):Prop :=
 ∀(pins:List (Addr×Obj)) (s:Shared) (σ:St) (H:Hp) (Q:VK),Inv X pins σ H s->t σ H Q ->
  wpAny (model X.prog X.w) X.A (eval a X.env) (λv s₁=>wpAny (model X.prog X.w) X.A (eval b X.env) (λu s₂=>wpAny (model X.prog X.w) X.A (compareOp op v u) (EP X pins σ Q) X.xe s₂) X.xe s₁) X.xe s
theorem sf(b:Expr){op:CmpOp}(h:op≠.In)(h2:op≠.NotIn):behindInMarks op b=false:=by
 have e1:(op == CmpOp.In)=false:=by cases op<;>first|rfl|exact absurd rfl h
 have e2:(op == CmpOp.NotIn)=false:=by cases op<;>first|rfl|exact absurd rfl h2
 cases b<;>simp [behindInMarks,e1,e2]
noncomputable def Aa(ta:TE):TE:=λσ H Q=>ta σ H λx H1=>Q (.bl (decide (x=.non))) H1
noncomputable def sg(ta:TE):TE:=λσ H Q=>ta σ H λx H1=>Q (.bl (!decide (x=.non))) H1
theorem aC.y2a3{x:V}{v:Value}(r:aC x v):(v == Value.none)=decide (x=.non):=by
 cases x with
 | non=>cases r;rfl
 | bl _=>cases r;rfl
 | int _=>obtain⟨t,rfl⟩:=r;rfl
 | str _=>obtain⟨t,rfl⟩:=r;rfl
 | byt _=>obtain⟨t,rfl⟩:=r;rfl
 | flt _=>obtain⟨t,rfl⟩:=r;rfl
 | ref _=>cases r;rfl
 | ty _=>cases r;rfl
theorem sh{j pos'}(ha:PE X a ta):PC X .Is a (.Constant .none j pos') (Aa ta):=by
 intro pins s σ H Q I h
 refine aS (ha pins s σ H _ I h) λv s1 ⟨x,H1,I1,r1,q1⟩=>?_
 exact Constant_none (is_none_gen ⟨.bl _,H1,I1,by rw [r1.y2a3];rfl,q1⟩)
theorem si{j pos'}(ha:PE X a ta):PC X .IsNot a (.Constant .none j pos') (sg ta):=by
 intro pins s σ H Q I h
 refine aS (ha pins s σ H _ I h) λv s1 ⟨x,H1,I1,r1,q1⟩=>?_
 exact Constant_none (isnot_none_gen ⟨.bl _,H1,I1,by rw [r1.y2a3];rfl,q1⟩)
noncomputable def tB(t:TE):TT:=λσ H Q=>t σ H λx H1=>∃c,x=.bl c/\Q c H1
theorem oo{op:CmpOp}{t:TE}(h:PC X op a b t)(h1:behindInMarks op b=false:=by first|exact sf _ (by decide) (by decide)|rfl):PE X (.Compare a [op] [b] pos) t:=λpins s σ H Q I hw=>wpAny_Compare1 (h pins s σ H Q I hw) h1
theorem oq{op:CmpOp}{t:TE}(h:PC X op a b t)(h1:behindInMarks op b=false:=by first|exact sf _ (by decide) (by decide)|rfl):PT X (.Compare a [op] [b] pos) (tB t):=by
 intro pins s σ H Q I hw
 refine wpAny_isTrue_Compare1 (aS (h pins s σ H _ I hw) λv s1 h1=>aS h1 λu s2 h2=>aS h2 λc s3 ⟨x,H1,I1,r1,q1⟩=>?_) h1
 obtain⟨d,rfl,q⟩:=q1
 cases r1
 exact wpAny_truthy_bool ⟨H1,I1,q⟩
variable {tA tB':TT}{bA:List Expr}
noncomputable def sj(t u:TT):TT:=λσ H Q=>t σ H λc H1=>if c=true then u σ H1 Q else Q false H1
noncomputable def tOr(t u:TT):TT:=λσ H Q=>t σ H λc H1=>if c=true then Q true H1 else u σ H1 Q
noncomputable def sk(t:TT):TT:=λσ H Q=>t σ H λc H1=>Q (!c) H1
theorem lN(ha:PT X a tA):PW X (.BoolOp .And [a] pos) tA:=by
 intro wh pins s σ H Q I h
 refine isTrue_and (aS (ha pins s σ H Q I h) λc s1 e=>?_)
 cases c with
 | true=>exact isTrue_and_nil e
 | false=>exact e
theorem ou(ha:PT X a tA):PW X (.BoolOp .Or [a] pos) tA:=by
 intro wh pins s σ H Q I h
 refine isTrue_or (aS (ha pins s σ H Q I h) λc s1 e=>?_)
 cases c with
 | false=>exact isTrue_or_nil e
 | true=>exact e
theorem ox(ha:PT X a tA)(hb:PW X (.BoolOp .And (b::bA) pos) tB'):PW X (.BoolOp .And (a::b::bA) pos) (sj tA tB'):=by
 intro wh pins s σ H Q I h
 refine isTrue_and (aS (ha pins s σ H _ I h) λc s1 ⟨H1,I1,q1⟩=>?_)
 cases c with
 | true=>exact hb wh pins s1 σ H1 Q I1 q1
 | false=>exact⟨H1,I1,q1⟩
theorem su(ha:PT X a tA)(hb:PW X (.BoolOp .Or (b::bA) pos) tB'):PW X (.BoolOp .Or (a::b::bA) pos) (tOr tA tB'):=by
 intro wh pins s σ H Q I h
 refine isTrue_or (aS (ha pins s σ H _ I h) λc s1 ⟨H1,I1,q1⟩=>?_)
 cases c with
 | true=>exact⟨H1,I1,q1⟩
 | false=>exact hb wh pins s1 σ H1 Q I1 q1
theorem Ab(ha:PT X a tA):PT X (.UnaryOp .Not a pos) (sk tA):=by
 intro pins s σ H Q I h
 exact isTrue_not (ha pins s σ H (λc H1=>Q (!c) H1) I h)
noncomputable def Ac(ta tb:TE):TE:=λσ H Q=>ta σ H λx H1=>∃c,x=.bl c/\if c=true then Q (.bl true) H1 else tb σ H1 Q
theorem y34b{op}{t:TE}(h:PE X a t):PE X (.BoolOp op [a] pos) t:=λpins s σ H Q I hw=>BoolOp_one (h pins s σ H Q I hw)
theorem oy(ha:PE X a ta)(hb:PE X (.BoolOp .Or (b::bA) pos) tb):PE X (.BoolOp .Or (a::b::bA) pos) (Ac ta tb):=by
 intro pins s σ H Q I h
 refine BoolOp_or (aS (ha pins s σ H _ I h) λv s1 ⟨x,H1,I1,r1,q1⟩=>?_)
 obtain⟨c,rfl,q1⟩:=q1
 cases r1
 refine wpAny_truthy_bool ?_
 cases c with
 | false=>exact hb pins s1 σ H1 Q I1 q1
 | true=>exact⟨.bl true,H1,I1,rfl,q1⟩
noncomputable def tIf(t:TT)(ta tb:TE):TE:=λσ H Q=>t σ H λc H1=>if c=true then ta σ H1 Q else tb σ H1 Q
theorem Ad{c:Expr}(hc:PT X c tA)(ha:PE X a ta)(hb:PE X b tb):PE X (.IfExp c a b pos) (tIf tA ta tb):=by
 intro pins s σ H Q I h
 refine wpAny_IfExp (aS (hc pins s σ H _ I h) λd s1 ⟨H1,I1,q1⟩=>?_)
 cases d with
 | true=>exact ha pins s1 σ H1 Q I1 q1
 | false=>exact hb pins s1 σ H1 Q I1 q1
end
end
section
noncomputable def bB(K:W.Frag)(H:Hp)(a:Addr)(xs:List V):Prop :=
 Rd H a (.lst xs) ∨
  ∃(o:Obj) (its:Array Value) (n:Nat),K.lookup a=some o/\o.cls=.type "list"/\o.dict=none/\o.data=.seq its n/\its.size≤sizeLine/\az xs its.toList
noncomputable def bt(K:W.Frag)(H:Hp)(a:Addr)(xs:List V):Prop :=
 Rd H a (.tup xs) ∨
  ∃(o:Obj) (its:Array Value) (n:Nat),K.lookup a=some o/\o.cls=.type "tuple"/\o.data=.seq its n/\its.size≤sizeLine/\az xs its.toList
noncomputable def Ae:Value->Option V
 | .none=>some .non
 | .bool b=>some (.bl b)
 | .int i _=>some (.int i)
 | .str x _=>some (.str x)
 | .bytes b _=>some (.byt b)
 | .float b _=>some (.flt b)
 | .ref a=>some (.ref a)
 | .type n=>some (.ty n)
 | _=>none
theorem aC.abs{x:V}{u:Value}(r:aC x u):Ae u=some x:=by
 cases x with
 | non=>cases r;rfl
 | bl _=>cases r;rfl
 | int _=>obtain⟨t,rfl⟩:=r;rfl
 | str _=>obtain⟨t,rfl⟩:=r;rfl
 | byt _=>obtain⟨t,rfl⟩:=r;rfl
 | flt _=>obtain⟨t,rfl⟩:=r;rfl
 | ref _=>cases r;rfl
 | ty _=>cases r;rfl
theorem aC.inj{x y:V}{u:Value}(r:aC x u)(q:aC y u):x=y:=z25 (r.abs.symm.trans q.abs)
theorem az.inj:∀{xs ys:List V} {us:List Value},az xs us->az ys us->xs=ys
 | _,_,_,.nil,.nil=>rfl
 | _,_,_,.cons r t,.cons r' t'=>by rw [r.inj r',az.inj t t']
section
variable {X:Cx}{pins:List (Addr×Obj)}{σ:St}{H:Hp}{s:Shared}{a:Addr}{xs ys:List V}
theorem bB.of{K:W.Frag}(h:H a=some (.lst xs)):bB K H a xs:=.inl (.inl h)
theorem bt.of{K:W.Frag}(h:H a=some (.tup xs)):bt K H a xs:=.inl (.inl h)
theorem Inv.list(I:Inv X pins σ H s)(h:bB X.K H a xs):∃its:List Value,az xs its/\PlainL s.heap a its.toArray/\xs.length≤sizeLine:=by
 rcases h with h|⟨o,its,n,hk,hc,hd,hs,hz,r⟩
 ·obtain⟨z,its,n,r,e⟩:=h.ok I.hok
  exact⟨its,r,⟨_,n,e,rfl,rfl,rfl⟩,z⟩
 ·refine⟨its.toList,r,⟨o,n,I.kIn a o hk,hc,hd,by simpa using hs⟩,?_⟩
  have e:=r.length
  simp only [Array.length_toList] at e
  lia
theorem Inv.tuple(I:Inv X pins σ H s)(h:bt X.K H a xs):∃its:List Value,az xs its/\IsTup s.heap a its.toArray/\xs.length≤sizeLine:=by
 rcases h with h|⟨o,its,n,hk,hc,hs,hz,r⟩
 ·obtain⟨z,its,r,p⟩:=h.ok I.hok
  exact⟨its,r,p.tup,z⟩
 ·refine⟨its.toList,r,⟨o,I.kIn a o hk,hc,n,by simpa using hs⟩,?_⟩
  have e:=r.length
  simp only [Array.length_toList] at e
  lia
theorem Inv.y248(I:Inv X pins σ H s)(h:bB X.K H a xs)(h':bB X.K H a ys):xs=ys:=by
 obtain⟨its,r,⟨o,n,e,_,_,d⟩,_⟩:=I.list h
 obtain⟨its',r',⟨o',n',e',_,_,d'⟩,_⟩:=I.list h'
 rw [e] at e';cases e'
 rw [d] at d'
 injection d' with d1 _
 have:its=its':=by simpa using congrArg Array.toList d1
 subst this
 exact r.inj r'
theorem Inv.y4e2(I:Inv X pins σ H s)(h:bt X.K H a xs)(h':bt X.K H a ys):xs=ys:=by
 obtain⟨its,r,⟨o,e,_,n,d⟩,_⟩:=I.tuple h
 obtain⟨its',r',⟨o',e',_,n',d'⟩,_⟩:=I.tuple h'
 rw [e] at e';cases e'
 rw [d] at d'
 injection d' with d1 _
 have:its=its':=by simpa using congrArg Array.toList d1
 subst this
 exact r.inj r'
end
noncomputable abbrev Cx.y5af(X:Cx)(E:Value->Shared->Prop):Cx:={ X with xe:=E }
noncomputable abbrev Cx.nox(X:Cx):Cx:=X.y5af λ_ _=>False
theorem Cx.Ok.y5af{X:Cx}(ok:X.Ok)(E:Value->Shared->Prop):(X.y5af E).Ok :=
 ⟨ok.mod,ok.kind,ok.glob,ok.blt,ok.above,ok.inj,ok.has,ok.cab,ok.hd,ok.frames,ok.stk,ok.exf,ok.bs,ok.bsz,ok.y29d,ok.exfs,ok.y185,ok.frf⟩
theorem Cx.Ok.y55f{X:Cx}{E:Value->Shared->Prop}(ok:(X.y5af E).Ok):X.Ok :=
 ⟨ok.mod,ok.kind,ok.glob,ok.blt,ok.above,ok.inj,ok.has,ok.cab,ok.hd,ok.frames,ok.stk,ok.exf,ok.bs,ok.bsz,ok.y29d,ok.exfs,ok.y185,ok.frf⟩
section
variable {X:Cx}{pins:List (Addr×Obj)}{σ:St}{H:Hp}{s:Shared}{E:Value->Shared->Prop}
theorem Inv.y5af(I:Inv X pins σ H s)(E:Value->Shared->Prop):Inv (X.y5af E) pins σ H s:=⟨I.ok.y5af E,I.os,I.bare,I.base,I.loc,I.cell,I.free,I.y180,I.pin,I.hok,I.len⟩
theorem Inv.y55f(I:Inv (X.y5af E) pins σ H s):Inv X pins σ H s:=⟨I.ok.y55f,I.os,I.bare,I.base,I.loc,I.cell,I.free,I.y180,I.pin,I.hok,I.len⟩
theorem SP.y55f{D:Ends}{f:Flow}{s':Shared}(h:SP (X.y5af E) pins D f s'):SP X pins D f s':=by
 cases f with
 | next=>obtain⟨σ',H',I,q⟩:=h;exact⟨σ',H',I.y55f,q⟩
 | brk=>obtain⟨σ',H',I,q⟩:=h;exact⟨σ',H',I.y55f,q⟩
 | cont=>obtain⟨σ',H',I,q⟩:=h;exact⟨σ',H',I.y55f,q⟩
 | ret u=>obtain⟨v,σ',H',I,r,q⟩:=h;exact⟨v,σ',H',I.y55f,r,q⟩
theorem gY.nox{st:List Stmt}{t:TS}(h:gY X.nox st t):gY X st t:=λpins s σ H D I hw =>
 wpAny_mono (h pins s σ H D (I.y5af _) hw) (λ_ _ q=>q.y55f) λ_ _ z=>False.elim z
end
section
variable {X:Cx}{st:Stmt}{bA:List Stmt}{t u:TS}{e:Expr}{te:TE}{pos:Pos}
noncomputable def sv:TS:=λD σ H=>D.nx σ H
noncomputable def sy(t u:TS):TS:=λD σ H=>t { D with nx:=u D } σ H
theorem Af:gY X [] sv:=λ_ _ σ H _ I h=>wpAny_execs_nil ⟨σ,H,I,h⟩
theorem Ag(h1:PS X st t)(h2:gY X bA u):gY X (st::bA) (sy t u):=by
 intro pins s σ H D I h
 refine wpAny_execs_cons (aS (h1 pins s σ H { D with nx:=u D } I h) λf s1 q=>?_)
 cases f with
 | next =>
  obtain⟨σ',H',I',q⟩:=q
  exact h2 pins s1 σ' H' D I' q
 | ret v=>exact q
 | brk=>exact q
 | cont=>exact q
theorem Ah(h1:PS X st t):gY X [st] t:=by
 intro pins s σ H D I h
 refine wpAny_execs_cons (aS (h1 pins s σ H D I h) λf s1 q=>?_)
 cases f with
 | next=>exact wpAny_execs_nil q
 | ret v=>exact q
 | brk=>exact q
 | cont=>exact q
theorem Inv.quiet{pins:List (Addr×Obj)}{σ:St}{H:Hp}{s:Shared}(I:Inv X pins σ H s):interactive X.env=false:=by simp [interactive,I.ok.kind]
noncomputable def sA(te:TE):TS:=λD σ H=>te σ H λ_ H1=>D.nx σ H1
theorem Ai(he:PE X e te)(hs:swapsWith e none pos.line X.env=pure false:=by rfl):PS X (.Expr e pos) (sA te):=by
 intro pins s σ H D I h
 exact wpAny_Expr_any (aS (he pins s σ H _ I h) λv s1 ⟨x,H1,I1,r1,q1⟩=>⟨σ,H1,I1,q1⟩) I.quiet hs
noncomputable def sC(te:TE):TS:=λD σ H=>te σ H D.rt
theorem Aj(he:PE X e te):PS X (.Return (some e) pos) (sC te):=by
 intro pins s σ H D I h
 exact wpAny_Return_some (aS (he pins s σ H _ I h) λv s1 ⟨x,H1,I1,r1,q1⟩=>⟨x,σ,H1,I1,r1,q1⟩)
noncomputable def sD(c:TT)(t u:TS):TS:=λD σ H=>c σ H λb H1=>if b=true then t D σ H1 else u D σ H1
theorem sE{c:Expr}{a b:List Stmt}{tc:TT}(hc:PT X c tc)(ha:gY X a t)(hb:gY X b u):PS X (.If c a b pos) (sD tc t u):=by
 intro pins s σ H D I h
 refine wpAny_If (aS (hc pins s σ H _ I h) λd s1 ⟨H1,I1,q1⟩=>?_)
 cases d with
 | true=>exact ha pins s1 σ H1 D I1 q1
 | false=>exact hb pins s1 σ H1 D I1 q1
end
noncomputable abbrev TG:=V->St->Hp->(St->Hp->Prop)->Prop
noncomputable abbrev nQ:=List V->St->Hp->(St->Hp->Prop)->Prop
noncomputable def PG(X:Cx)(target:Expr)(t:TG):Prop :=
 ∀(pins:List (Addr×Obj)) (s:Shared) (σ:St) (H:Hp) (v:V) (u:Value) (Q:St->Hp->Prop),Inv X pins σ H s->aC v u->t v σ H Q ->
  wpAny (model X.prog X.w) X.A (assign target X.env u) (λ_ s'=>∃σ' H',Inv X pins σ' H' s'/\Q σ' H') X.xe s
noncomputable def sF(X:Cx)(ts:List Expr)(t:nQ):Prop :=
 ∀(pins:List (Addr×Obj)) (s:Shared) (σ:St) (H:Hp) (vs:List V) (us:List Value) (Q:St->Hp->Prop),Inv X pins σ H s->az vs us->t vs σ H Q ->
  wpAny (model X.prog X.w) X.A (assignInOrder ((assignEach ts X.env).map (·.2)) us) (λ_ s'=>∃σ' H',Inv X pins σ' H' s'/\Q σ' H') X.xe s
noncomputable abbrev oz:=V->V->V->Hp->(Hp->Prop)->Prop
noncomputable def sG(X:Cx)(t:oz):Prop :=
 ∀(pins:List (Addr×Obj)) (s:Shared) (σ:St) (H:Hp) (o i v:V) (ov iv u:Value) (Q:Hp->Prop),Inv X pins σ H s->aC o ov->aC i iv->aC v u->t o i v H Q ->
  wpAny (model X.prog X.w) X.A (setItem ov iv u) (λ_ s'=>∃H',Inv X pins σ H' s'/\Q H') X.xe s
section
variable {X:Cx}{pos:Pos}
noncomputable def jh(i:Nat):TG:=λv σ H Q=>Q (σ.set i (some v)) H
theorem oA{i:Nat}{x:Str}(hN:X.N.Nodup)(hi:X.N[i]?=some x)(hx:oi X.env.scope x)(hf:X.fn x=true∨X.env.scope.names.lookup x=some .local:=by first|exact .inl rfl|exact .inr rfl|assumption):PG X (.Name x pos) (jh i):=by
 intro pins s σ H v u Q I r h
 exact wpAny_assign_Name (lM I hN hi hx r (λs' I'=>⟨_,H,I',h⟩) hf)
noncomputable def sH:nQ:=λvs σ H Q=>vs=[]/\Q σ H
noncomputable def sJ(t:TG)(u:nQ):nQ:=λvs σ H Q=>∃v r,vs=v::r/\t v σ H λσ' H'=>u r σ' H' Q
theorem sL:sF X [] sH:=by
 intro pins s σ H vs us Q I r h
 obtain⟨e,h⟩:=h
 subst e
 cases r
 exact assignInOrder_nil ⟨σ,H,I,h⟩
theorem oB{e:Expr}{es:List Expr}{t:TG}{u:nQ}(h1:PG X e t)(h2:sF X es u)
  (hs:(assignEach (e::es) X.env).map (·.2)=assign e X.env::(assignEach es X.env).map (·.2):=by rfl):sF X (e::es) (sJ t u):=by
 intro pins s σ H vs us Q I r h
 obtain⟨v,vr,e1,h⟩:=h
 subst e1
 cases r with
 | cons r rr =>
  rw [hs]
  refine assignInOrder_cons (aS (h1 pins s σ H _ _ _ I r h) λ_ s1 ⟨σ1,H1,I1,q1⟩=>?_)
  exact h2 pins s1 σ1 H1 _ _ Q I1 rr q1
noncomputable def lO(K:W.Frag)(n:Nat)(t:nQ):TG:=λv σ H Q=>∃a xs,v=.ref a/\bt K H a xs/\xs.length=n/\t xs σ H Q
theorem sM{es:List Expr}{k:Nat}{t:nQ}{n:Nat}(hc:X.calm=true)(h:sF X es t)
  (hn:(assignEach es X.env).length=n:=by rfl) (hst:(assignEach es X.env).findIdx? (·.1)=none:=by rfl):PG X (.Tuple es k pos) (lO X.K n t):=by
 intro pins s σ H v u Q I r hw
 obtain⟨a,xs,e1,hq,hl,hw⟩:=hw
 subst e1
 cases r
 obtain⟨its,rv,ht,hz⟩:=I.tuple hq
 refine assign_Tuple_tuple (I.ok.hd hc) ht (by simp [hn,<- hl,rv.length]) hst λh' hx=>?_
 have I1:Inv X pins σ H { s with heap:=h' }:=I.kept (t':=s.toks) λb o e=>hx b o (z27 (z16 e)) e
 exact h pins _ σ H xs _ Q I1 (by simpa using rv) hw
noncomputable def sN(to ti:TE)(t:oz):TG:=λv σ H Q=>to σ H λo H1=>ti σ H1 λi H2=>t o i v H2 λH3=>Q σ H3
theorem Ak{o i:Expr}{to ti:TE}{t:oz}(ho:PE X o to)(hi:PE X i ti)(hs:sG X t)
  (ha:∀v,assign (.Subscript o i pos) X.env v=(do
   let ov <- holding [v] (eval o X.env)
   let iv <- holding [v,ov] (eval i X.env)
   standAt pos
   holding [v,ov,iv] (setItem ov iv v)
   release [v,ov,iv] []):=by intro _;rfl):PG X (.Subscript o i pos) (sN to ti t):=by
 intro pins s σ H v u Q I r h
 rw [ha]
 refine zd (wpAny_holding (aS (ho pins s σ H _ I h) λov s1 ⟨x,H1,I1,r1,q1⟩=>?_))
 refine zd (wpAny_holding (aS (hi pins s1 σ H1 _ I1 q1) λiv s2 ⟨y,H2,I2,r2,q2⟩=>?_))
 refine zd (wpAny_standAt (zd (wpAny_holding (aS (hs pins s2 σ H2 x y v ov iv u _ I2 r1 r2 r q2) λ_ s3 ⟨H3,I3,q3⟩=>?_))))
 exact wpAny_release ⟨σ,H3,I3,q3⟩
noncomputable def lP(te:TE)(g:TG):TS:=λD σ H=>te σ H λx H1=>g x σ H1 D.nx
theorem sO{tg e:Expr}{te:TE}{g:TG}(he:PE X e te)(hg:PG X tg g)(hs:swapsWithSole [tg] e pos.line X.env=pure false:=by rfl)(hw:swappedStores [tg] e X.env=pure none:=by rfl)
  (h1:(assignEach [tg] X.env).map (·.2)=[assign tg X.env]:=by rfl):PS X (.Assign [tg] e pos) (lP te g):=by
 intro pins s σ H D I h
 refine wpAny_Assign_stores (aS (he pins s σ H _ I h) λv s1 ⟨x,H1,I1,r1,q1⟩=>?_) hs hw
 rw [h1]
 exact aS (hg pins s1 σ H1 x v _ I1 r1 q1) λ_ s2 q=>q
theorem Al{i:Nat}{x:Str}{e:Expr}{te:TE}{pos':Pos}(hN:X.N.Nodup)(hi:X.N[i]?=some x)(hx:oi X.env.scope x)(he:PE X e te)(hs:swapsWith e (some (.Name x pos')) pos.line X.env=pure false:=by rfl)(hf:X.fn x=true∨X.env.scope.names.lookup x=some .local:=by first|exact .inl rfl|exact .inr rfl|assumption) :
  PS X (.Assign [.Name x pos'] e pos) (lP te (jh i)):=by
 intro pins s σ H D I h
 refine wpAny_Assign_Name (aS (he pins s σ H _ I h) λv s1 ⟨y,H1,I1,r1,q1⟩=>?_) hs
 exact lM I1 hN hi hx r1 (λs2 I2=>⟨_,H1,I2,q1⟩) hf
noncomputable def sP(i j:Nat)(ta:TA):TS:=λD σ H=>ta σ H λvs H1=>∃v w,vs=[v,w]/\D.nx ((σ.set i (some v)).set j (some w)) H1
theorem Am{i j:Nat}{x y:Str}{a b:Expr}{ta:TA}{px py pt:Pos}{kt k2 pt2}(hc:X.calm=true)(hN:X.N.Nodup)(hi:X.N[i]?=some x)(hj:X.N[j]?=some y)(hij:i≠j)
  (hx:X.env.scope.names.lookup x=some .local) (hy:X.env.scope.names.lookup y=some .local) (ha:PA X [a,b] ta)
  (hw:swappedStores [.Tuple [.Name x px,.Name y py] kt pt] (.Tuple [a,b] k2 pt2) X.env=pure (some [x,y]))
  (hs:swapsWithSole [.Tuple [.Name x px,.Name y py] kt pt] (.Tuple [a,b] k2 pt2) pos.line X.env=pure false:=by rfl) :
  PS X (.Assign [.Tuple [.Name x px,.Name y py] kt pt] (.Tuple [a,b] k2 pt2) pos) (sP i j ta):=by
 intro pins s σ H D I h
 rw [exec_Assign_arm]
 refine zd (wpAny_standAt ?_)
 rw [hs]
 refine zd (z1b ?_)
 rw [if_neg (by decide)]
 refine zd (Tuple_ (aS (ha _ pins s σ H _ I h) λus s1 ⟨vs,H1,I1,r1,q1⟩=>?_))
 obtain⟨v,w,e1,q1⟩:=q1
 subst e1
 obtain⟨u1,u2,rfl,rv,rw'⟩:∃u1 u2,us=[u1,u2]/\aC v u1/\aC w u2:=by
  cases r1 with
  | cons p q =>
   cases q with
   | cons p' q' =>
    cases q'
    exact⟨_,_,rfl,p,p'⟩
 refine z33 ?_ (by show 2≤sizeLine;decide)
 have I2:Inv X pins σ H1 { s1 with heap:=s1.heap.push { cls:=.type "tuple",data:=.seq [u1,u2].toArray } }:=I1.kept (t':=s1.toks) λb o e=>zc _ e
 rw [hw]
 refine zd (z1b ?_)
 show wpAny (model X.prog X.w) X.A (do rule "assign.swapped-stores";let items <- unpackItems (.ref s1.heap.objs.size) 2 none;assignInOrder [λv=>bindName X.env y v,λv=>bindName X.env x v] items.reverse;pure Flow.next) _ _ _
 refine zd (wpAny_rule (zd (unpackItems_tuple (items:=#[u1,u2]) (I.ok.hd hc) (IsTup.new s1.heap _) λh' hx'=>?_)))
 have I3:=I2.kept (h':=h') (t':=s1.toks) λb o e=>hx' b o (z27 (z16 e)) e
 show wpAny _ _ (assignInOrder [λv=>bindName X.env y v,λv=>bindName X.env x v] [u2,u1] >>= λ_=>pure Flow.next) _ _ _
 refine zd (assignInOrder_cons (wpAny_bindName (lM I3 hN hj (.inl hy) rw' (λs2 I4=>?_) (.inr hy))))
 refine assignInOrder_cons (wpAny_bindName (lM I4 hN hi (.inl hx) rv (λs3 I5=>assignInOrder_nil (z1b ?_)) (.inr hx)))
 rw [List.set_comm _ _ (Ne.symm hij)] at I5
 exact⟨_,H1,I5,q1⟩
end
section
variable {X:Cx}{pos:Pos}
noncomputable def sQ(c:TT)(tb:TS):TS:=λD σ H=>∃W:Nat->St->Hp->Prop,(∃m,W m σ H)/\∀m σ H,W m σ H ->
 c σ H λb H1=>if b=true then ∃N:St->Hp->Prop,(∀σ' H',N σ' H'->∃m',m'<m/\W m' σ' H')/\tb { D with nx:=N,ct:=N,bk:=D.nx } σ H1 else D.nx σ H1
theorem Ao{c:Expr}{body:List Stmt}{tc:TT}{tb:TS}(hp:PassesOwn (model X.prog X.w) X.A X.env X.xe)(hc:PT X c tc)(hb:gY X body tb):PS X (.While c body [] pos) (sQ tc tb):=by
 intro pins s σ H D I h
 obtain⟨W,⟨m0,w0⟩,turn⟩:=h
 refine wpAny_While (codeAny_whileLoop (λn s'=>∃σ' H',Inv X pins σ' H' s'/\W n σ' H') ?_ m0 ⟨σ,H,I,w0⟩)
 rintro n s1 ⟨σ1,H1,I1,w1⟩
 refine wpAny_passesOwn hp (aS (hc pins s1 σ1 H1 _ I1 (turn n σ1 H1 w1)) λb s2 ⟨H2,I2,q2⟩=>?_)
 cases b with
 | true =>
  obtain⟨N,hN,q2⟩:=q2
  rw [if_pos rfl]
  refine wpAny_passesOwn hp (aS (hb pins s2 σ1 H2 _ I2 q2) λf s3 q3=>?_)
  cases f with
  | next =>
   obtain⟨σ3,H3,I3,n3⟩:=q3
   obtain⟨m',hm,w3⟩:=hN σ3 H3 n3
   exact⟨m',hm,σ3,H3,I3,w3⟩
  | cont =>
   obtain⟨σ3,H3,I3,n3⟩:=q3
   obtain⟨m',hm,w3⟩:=hN σ3 H3 n3
   exact⟨m',hm,σ3,H3,I3,w3⟩
  | brk=>exact q3
  | ret v=>exact q3
 | false =>
  rw [if_neg zf]
  exact wpAny_execs_nil ⟨σ1,H2,I2,q2⟩
end
structure It where
 go:Nat->Hp->Prop
 yld:Nat->Hp->V->Hp->Prop
 stop:Nat->Hp->Prop
noncomputable def iH(X:Cx)(pins:List (Addr×Obj))(H:Hp)(b:Addr):Prop :=
 H b=none/\b≠X.env.locals/\b∉X.fs/\(b∈X.ex∨X.s₀.heap.objs.size≤b)/\(∀x c,X.env.cells.lookup x=some c->c≠b)/\∀p∈X.pn++pins,p.1≠b
theorem Inv.y17f{X:Cx}{pins:List (Addr×Obj)}{σ:St}{H H':Hp}{s:Shared}{b:Addr}(I:Inv X pins σ H s)(hb:s.heap.objs.size≤b)(hn:H' b=none):iH X pins H' b:=by
 refine⟨hn,Nat.ne_of_gt (z1e I.lt hb),I.nofs hb,.inr (z21 I.sz hb),λx c e z=>?_,λp hp z=>?_⟩
 ·obtain⟨v,q⟩:=I.cell x c e
  exact absurd (z1e q.lt (by rw [z];exact hb)) (z2c _)
 ·exact absurd (z1e (z16 (I.pin p hp).1) (by rw [z];exact hb)) (z2c _)
structure Turn(P:Program)(w:World)(K:W.Frag)(tg:Expr)(J:It)(fp:List Addr)(it:Addr)(tn:Nat->Heap->Prop):Prop where
 mem:it∈fp
 obj:∀i h,tn i h->∀b∈fp,∃o,h.get? b=some o/\∀v,o.data≠.cell v
 keep:∀i h h',tn i h->(∀b∈fp,∀o,h.get? b=some o->h'.get? b=some o)->tn i h'
 item:∀(X:Cx),X.prog=P->X.w=w->X.K=K->X.calm=true->∀(i:Nat) (pins:List (Addr×Obj)) (s:Shared) (σ:St) (H:Hp) (E:Value->Shared->Prop),Inv X pins σ H s->(∀b∈fp,iH X pins H b)->tn i s.heap->J.go i H ->
  wpAny (model P w) X.A (pyNext (.ref it)) (λr s1=>∃u,r=some u /\
   wpAny (model P w) X.A (letOwnedTupleGo tg (.ref it) u) (λ_ s2=>∃x H',Inv X pins σ H' s2/\aC x u/\J.yld i H x H'/\tn (i+1) s2.heap/\∀b∈fp,H' b=none) E s1) E s
 done:∀(X:Cx),X.prog=P->X.w=w->X.K=K->X.calm=true->∀(i:Nat) (pins:List (Addr×Obj)) (s:Shared) (σ:St) (H:Hp) (E:Value->Shared->Prop),Inv X pins σ H s->(∀b∈fp,iH X pins H b)->tn i s.heap->J.stop i H ->
  wpAny (model P w) X.A (pyNext (.ref it)) (λr s1=>r=none/\Inv X pins σ H s1) E s
 self:∀(A:Around) (i:Nat) (s:Shared) (Q:Value->Shared->Prop) (E:Value->Shared->Prop),tn i s.heap->Q (.ref it) s->wpAny (model P w) A (pyIter (.ref it)) Q E s
noncomputable abbrev TI:=St->Hp->(It->Hp->Prop)->Prop
noncomputable def Ap(X:Cx)(pins:List (Addr×Obj))(σ:St)(tg:Expr)(R:It->Hp->Prop)(itv:Value)(s2:Shared):Prop :=
 ∃(it:Addr) (fp:List Addr) (tn:Nat->Heap->Prop) (J:It) (H':Hp),itv=.ref it/\Inv X pins σ H' s2/\Turn X.prog X.w X.K tg J fp it tn/\tn 0 s2.heap/\(∀b∈fp,iH X pins H' b)/\R J H'
noncomputable def PI(X:Cx)(tg iter:Expr)(wi:TI):Prop :=
 ∀(pins:List (Addr×Obj)) (s:Shared) (σ:St) (H:Hp) (R:It->Hp->Prop),Inv X pins σ H s->wi σ H R ->
  wpAny (model X.prog X.w) X.A (eval iter X.env) (λv s1=>wpAny (model X.prog X.w) X.A (pyIter v) (Ap X pins σ tg R) X.xe s1) X.xe s
theorem lQ{M:Model}{A:Around}{E:Value->Shared->Prop}{s:Shared}{tg:Expr}{it:Addr}{u:Value}{o:Obj}{n:String}{vs:Array Value}{Q:Unit->Shared->Prop}(ho:s.heap.get? it=some o)(hc:o.cls=.type n)(hd:o.data=.fields vs)
  (hn:["enumerate","zip","dict_itemiterator","dict_reverseitemiterator","odict_iterator","itertools.zip_longest","itertools.pairwise"].contains n=false) (hQ:Q () s):wpAny M A (letOwnedTupleGo tg (.ref it) u) Q E s:=by
 unfold letOwnedTupleGo
 cases tg<;>first
  | exact z1b hQ
  | (cases u<;>first
    | exact z1b hQ
    | (refine zd (wpAny_load ho ?_);rw [hc,hd];show wpAny M A (if (["enumerate","zip","dict_itemiterator","dict_reverseitemiterator","odict_iterator","itertools.zip_longest","itertools.pairwise"].contains n&&vs[0]? == some (rawInt _))=true then _ else _) Q E s;rw [if_neg (by intro h;rw [hn,Bool.false_and] at h;cases h)];exact z1b hQ))
noncomputable def yS(K:W.Frag)(a:Addr):It :=
 ⟨λi H=>∃xs x,bB K H a xs/\xs[i]?=some x,λi H x H'=>H'=H/\∀xs,bB K H a xs->xs[i]?=some x,λi H=>∃xs,bB K H a xs/\xs.length≤i⟩
noncomputable def yT(K:W.Frag)(a:Addr):It :=
 ⟨λi H=>∃xs x,bt K H a xs/\xs[i]?=some x,λi H x H'=>H'=H/\∀xs,bt K H a xs->xs[i]?=some x,λi H=>∃xs,bt K H a xs/\xs.length≤i⟩
noncomputable def sR(lo:Int)(n:Nat):It:=⟨λi _=>i<n,λi H x H'=>H'=H/\x=.int (lo+i),λi _=>n≤i⟩
theorem Aq{P:Program}{w:World}{K:W.Frag}{tg:Expr}(a it:Addr):Turn P w K tg (yS K a) [it] it (λi h=>h.IsListIter it a i) where
 mem:=by simp
 obj:=λi h st b hb=>by
  have e:b=it:=by simpa using hb
  subst e
  obtain⟨o,e,c,d⟩:=st
  exact⟨o,e,λv z=>by rw [d] at z;cases z⟩
 keep:=λi h h' st k=>st.at λo e=>k it (by simp) o e
 item:=by
  intro X hP hw hK hc i pins s σ H E I hf st hg
  subst hP hw hK
  obtain⟨xs,x,hq,hx⟩:=hg
  obtain⟨its,rv,p,hz⟩:=I.list hq
  obtain⟨u,hu,ru⟩:=rv.get hx
  obtain⟨f0,f1,f2,f3,f4,f5⟩:=hf it (by simp)
  refine wpAny_pyNext_list_item st p.isList (x:=u) (by simpa using hu) λh' st' sb=>?_
  have I1:Inv X pins σ H { s with heap:=h' }:=I.turned (t':=s.toks) (λb o hb e=>(sb.2 b hb).trans e) f0 f1 f3 f4 f5
  obtain⟨o,e,c,d⟩:=id st'
  exact⟨u,rfl,lQ (s:={ s with heap:=h' }) e c d (by decide) ⟨x,H,I1,ru,⟨rfl,λys hy=>by rw [I.y248 hy hq];exact hx⟩,st',λb hb=>(hf b hb).1⟩⟩
 done:=by
  intro X hP hw hK hc i pins s σ H E I hf st hg
  subst hP hw hK
  obtain⟨xs,hq,hx⟩:=hg
  obtain⟨its,rv,p,hz⟩:=I.list hq
  obtain⟨f0,f1,f2,f3,f4,f5⟩:=hf it (by simp)
  have hl:=rv.length
  exact wpAny_pyNext_list_end (I.ok.hd hc) st p.isList (by simp;lia) λh' eb=>⟨rfl,I.turned (t':=s.toks) (λb o hb e=>eb b o hb e) f0 f1 f3 f4 f5⟩
 self:=λ_ _ _ _ _ st h=>wpAny_pyIter_listiter st h
theorem Ar{P:Program}{w:World}{K:W.Frag}{tg:Expr}(a it:Addr):Turn P w K tg (yT K a) [it] it (λi h=>h.IsTupleIter it a i) where
 mem:=by simp
 obj:=λi h st b hb=>by
  have e:b=it:=by simpa using hb
  subst e
  obtain⟨o,e,c,d⟩:=st
  exact⟨o,e,λv z=>by rw [d] at z;cases z⟩
 keep:=λi h h' st k=>st.at λo e=>k it (by simp) o e
 item:=by
  intro X hP hw hK hc i pins s σ H E I hf st hg
  subst hP hw hK
  obtain⟨xs,x,hq,hx⟩:=hg
  obtain⟨its,rv,p,hz⟩:=I.tuple hq
  obtain⟨u,hu,ru⟩:=rv.get hx
  obtain⟨f0,f1,f2,f3,f4,f5⟩:=hf it (by simp)
  refine wpAny_pyNext_tuple_item st (show s.heap.IsTuple a its.toArray from p) (x:=u) (by simpa using hu) λh' st' sb=>?_
  have I1:Inv X pins σ H { s with heap:=h' }:=I.turned (t':=s.toks) (λb o hb e=>(sb.2 b hb).trans e) f0 f1 f3 f4 f5
  obtain⟨o,e,c,d⟩:=id st'
  exact⟨u,rfl,lQ (s:={ s with heap:=h' }) e c d (by decide) ⟨x,H,I1,ru,⟨rfl,λys hy=>by rw [I.y4e2 hy hq];exact hx⟩,st',λb hb=>(hf b hb).1⟩⟩
 done:=by
  intro X hP hw hK hc i pins s σ H E I hf st hg
  subst hP hw hK
  obtain⟨xs,hq,hx⟩:=hg
  obtain⟨its,rv,p,hz⟩:=I.tuple hq
  obtain⟨f0,f1,f2,f3,f4,f5⟩:=hf it (by simp)
  have hl:=rv.length
  exact wpAny_pyNext_tuple_end (I.ok.hd hc) st (show s.heap.IsTuple a its.toArray from p) (by simp;lia) λh' eb=>⟨rfl,I.turned (t':=s.toks) (λb o hb e=>eb b o hb e) f0 f1 f3 f4 f5⟩
 self:=λ_ _ _ _ _ st h=>wpAny_pyIter_tupleiter st h
theorem As{P:Program}{w:World}{K:W.Frag}{tg:Expr}(it:Addr)(lo:Int)(n:Nat):Turn P w K tg (sR lo n) [it] it (λi h=>IsRangeIter h it (lo+(i:Nat)*1) ((n:Int)-(i:Nat)) 1) where
 mem:=by simp
 obj:=λi h st b hb=>by
  have e:b=it:=by simpa using hb
  subst e
  exact⟨_,st,λv z=>by
   have z':Data.fields _=Data.cell v:=z
   cases z'⟩
 keep:=λi h h' st k=>k it (by simp) _ st
 item:=by
  intro X hP hw hK hc i pins s σ H E I hf st hg
  subst hP hw hK
  obtain⟨f0,f1,f2,f3,f4,f5⟩:=hf it (by simp)
  have W:=Walks.range (prog:=X.prog) (w:=X.w) (I.ok.hd hc) it lo 1 n
  refine W.item i s _ _ hg st λv h' tk hv st' kk=>?_
  obtain⟨t,rfl⟩:=hv
  have I1:Inv X pins σ H { s with heap:=h',toks:=tk }:=I.turned (λb o hb e=>kk b o (by simpa using hb) e) f0 f1 f3 f4 f5
  refine⟨_,rfl,lQ (s:={ s with heap:=h',toks:=tk }) (n:="range_iterator") st' rfl rfl (by decide) ⟨.int (lo+i),H,I1,⟨t,?_⟩,⟨rfl,rfl⟩,st',λb hb=>(hf b hb).1⟩⟩
  rw [Int.mul_one]
 done:=by
  intro X hP hw hK hc i pins s σ H E I hf st hg
  subst hP hw hK
  obtain⟨f0,f1,f2,f3,f4,f5⟩:=hf it (by simp)
  exact wpAny_pyNext_range_end (I.ok.hd hc) st (by have:n≤i:=hg;lia) λh' eb=>⟨rfl,I.turned (t':=s.toks) (λb o hb e=>eb b o hb e) f0 f1 f3 f4 f5⟩
 self:=λ_ _ _ _ _ st h=>wpAny_pyIter_rangeiter st h
end
section
section
variable {X:Cx}{tg:Expr}
noncomputable def sS(K:W.Frag)(tl:TE):TI:=λσ H R=>tl σ H λx H1=>∃a,x=.ref a/\(∃xs,bB K H1 a xs)/\R (yS K a) H1
noncomputable def sT(K:W.Frag)(tl:TE):TI:=λσ H R=>tl σ H λx H1=>∃a,x=.ref a/\(∃xs,bt K H1 a xs)/\R (yT K a) H1
theorem Au{l:Expr}{tl:TE}(hl:PE X l tl):PI X tg l (sS X.K tl):=by
 intro pins s σ H R I h
 refine aS (hl pins s σ H _ I h) λv s1 ⟨x,H1,I1,r1,q1⟩=>?_
 obtain⟨a,e,⟨xs,hq⟩,q⟩:=q1
 subst e
 cases r1
 obtain⟨its,rv,p,hz⟩:=I1.list hq
 refine wpAny_pyIter_list p.isList ?_
 refine⟨s1.heap.objs.size,[s1.heap.objs.size],_,_,H1,rfl,I1.kept (t':=s1.toks) λb o e=>zc _ e,Aq a _,⟨_,z1c _ rfl,rfl,rfl⟩,λb hb=>?_,q⟩
 have e:b=s1.heap.objs.size:=by simpa using hb
 subst e
 exact I1.y17f (z13 _) (I1.hok.fresh (z13 _))
theorem Av{l:Expr}{tl:TE}(hl:PE X l tl):PI X tg l (sT X.K tl):=by
 intro pins s σ H R I h
 refine aS (hl pins s σ H _ I h) λv s1 ⟨x,H1,I1,r1,q1⟩=>?_
 obtain⟨a,e,⟨xs,hq⟩,q⟩:=q1
 subst e
 cases r1
 obtain⟨its,rv,p,hz⟩:=I1.tuple hq
 refine wpAny_pyIter_tuple (show s1.heap.IsTuple a its.toArray from p) ?_
 refine⟨s1.heap.objs.size,[s1.heap.objs.size],_,_,H1,rfl,I1.kept (t':=s1.toks) λb o e=>zc _ e,Ar a _,⟨_,z1c _ rfl,rfl,rfl⟩,λb hb=>?_,q⟩
 have e:b=s1.heap.objs.size:=by simpa using hb
 subst e
 exact I1.y17f (z13 _) (I1.hok.fresh (z13 _))
theorem Aw{pins:List (Addr×Obj)}{σ:St}{H:Hp}{s:Shared}{R:It->Hp->Prop}{E:Value->Shared->Prop}{lo hi:Int}{t u v:Tok}{tk:Nat}(I:Inv X pins σ H s)(h1:-(2 ^ 62)≤lo)(h2:lo<2 ^ 62)(h3:-(2 ^ 62)≤hi)(h4:hi<2 ^ 62)
  (q:R (sR lo (hi-lo).toNat) H):wpAny (model X.prog X.w) X.A (pyIter (.ref s.heap.objs.size)) (Ap X pins σ tg R) E { s with heap:=s.heap.push { cls:=.type "range",data:=.fields #[.int lo t,.int hi u,.int 1 v] },toks:=tk }:=by
 refine wpAny_pyIter_range (IsRange.new ..) (small_one h1 h2 h3 h4) ?_
 have I1:Inv X pins σ H { s with heap:=s.heap.push { cls:=.type "range",data:=.fields #[.int lo t,.int hi u,.int 1 v] },toks:=tk }:=I.kept λb o e=>zc _ e
 refine⟨(s.heap.push { cls:=.type "range",data:=.fields #[.int lo t,.int hi u,.int 1 v] }).objs.size,[(s.heap.push { cls:=.type "range",data:=.fields #[.int lo t,.int hi u,.int 1 v] }).objs.size],_,_,H,rfl,
  I1.kept (t':=tk) λb o e=>zc _ e,As _ lo (hi-lo).toNat,?_,λb hb=>?_,q⟩
 ·have e1:lo+((0:Nat):Int)*1=lo:=by simp
  have e2:(((hi-lo).toNat:Nat):Int)-((0:Nat):Int)=Builtin.Range.rangeSize lo hi 1:=by rw [rangeSize_one];split<;>lia
  show IsRangeIter _ _ (lo+((0:Nat):Int)*1) ((((hi-lo).toNat:Nat):Int)-((0:Nat):Int)) 1
  rw [e1,e2]
  exact z1c _ rfl
 ·have e:b=(s.heap.push { cls:=.type "range",data:=.fields #[.int lo t,.int hi u,.int 1 v] }).objs.size:=by simpa using hb
  subst e
  exact I1.y17f (z13 _) (I1.hok.fresh (z13 _))
noncomputable def sU(ta:TA):TI:=λσ H R=>ta σ H λvs H1=>∃j:Int,vs=[.int j]/\-(2 ^ 62)≤j/\j<2 ^ 62/\R (sR 0 j.toNat) H1
theorem Ax{a:Expr}{ta:TA}{p pos:Pos}(hg:Gl X "range")(hm:X.mg "range" = none)(ha:PA X [a] ta)(hs:starEach [a] X.env=[(false,eval a X.env)]:=by rfl):PI X tg (.Call (.Name "range" p) [a] [] pos) (sU ta):=by
 intro pins s σ H R I h
 refine Call_ (gE I hg hm boot_range (PyProof.Rows.callWith_type1 (aS (ha pos pins s σ H _ I h) λus s1 ⟨vs,H1,I1,r1,q1⟩=>?_) hs rfl))
 obtain⟨j,e,q1,q2,q⟩:=q1
 subst e
 cases r1 with
 | cons r rr =>
  cases rr
  obtain⟨t,rfl⟩:=r
  exact call_range_1 (Aw I1 (by lia) (by lia) q1 q2 (by simpa using q))
noncomputable def sV(wi:TI)(g:TG)(tb:TS):TS:=λD σ H=>wi σ H λJ H1=>∃W:Nat->Nat->St->Hp->Prop,(∃m,W 0 m σ H1)/\∀i m σ H,W i m σ H ->
 (J.stop i H/\D.nx σ H)∨(J.go i H/\∃N:St->Hp->Prop,(∀σ' H',N σ' H'->∃m',m'<m/\W (i+1) m' σ' H')/\∀x H',J.yld i H x H'->g x σ H' λσ2 H2=>tb { D with nx:=N,ct:=N,bk:=D.nx } σ2 H2)
noncomputable def kh(fp:List Addr)(h:Heap):List (Addr×Obj):=fp.filterMap λb=>(h.get? b).map λo=>(b,o)
theorem lR{fp:List Addr}{h:Heap}{b:Addr}{o:Obj}(hb:b∈fp)(e:h.get? b=some o):(b,o)∈kh fp h:=List.mem_filterMap.mpr ⟨b,hb,by rw [e];rfl⟩
theorem Ay{fp:List Addr}{h:Heap}{p:Addr×Obj}(hp:p∈kh fp h):p.1∈fp/\h.get? p.1=some p.2:=by
 obtain⟨b,hb,e⟩:=List.mem_filterMap.mp hp
 cases q:h.get? b with
 | none=>rw [q] at e;cases e
 | some o =>
  rw [q] at e
  have e':(b,o)=p:=z25 e
  subst e'
  exact⟨hb,q⟩
theorem Inv.pinned{pins:List (Addr×Obj)}{σ:St}{H:Hp}{s:Shared}{fp:List Addr}(I:Inv X pins σ H s)(hf:∀b∈fp,iH X pins H b)(ho:∀b∈fp,∃o,s.heap.get? b=some o/\∀v,o.data≠.cell v):Inv X (pins++kh fp s.heap) σ H s :=
 I.y369 λp hp=>(z1a.mp hp).elim (λz=>I.pin p (z26 _ z)) λz=>by
  obtain⟨hb,e⟩:=Ay z
  obtain⟨f0,f1,f2,_⟩:=hf p.1 hb
  obtain⟨o,e',d⟩:=ho p.1 hb
  rw [e] at e';cases e'
  exact⟨e,f0,f1,f2,d⟩
theorem Inv.y55e{pins pl:List (Addr×Obj)}{σ:St}{H:Hp}{s:Shared}(I:Inv X (pins++pl) σ H s):Inv X pins σ H s:=I.y369 λp hp=>I.pin p (z26 _ (List.mem_append_left _ hp))
theorem Az{iter:Expr}{body:List Stmt}{wi:TI}{g:TG}{tb:TS}{pos:Pos}(hp:PassesOwn (model X.prog X.w) X.A X.env X.xe)(hc:X.calm=true)(hi:PI X tg iter wi)(hg:PG X tg g)(hb:gY X body tb)
  (hs:∀x,foldedSetIterable iter X.env x=pure x:=by intro _;rfl):PS X (.For tg iter body [] pos) (sV wi g tb):=by
 intro pins s σ H D I h
 refine wpAny_For (aS (hi pins s σ H _ I h) λv s1 h1=>aS h1 λitv s2 h2=>?_) hs
 obtain⟨it,fp,tn,J,H2,e,I2,T,st2,f2,W,⟨m0,w0⟩,turn⟩:=h2
 subst e
 have stat:∀{H':Hp},(∀b∈fp,H' b=none)->∀b∈fp,iH X pins H' b:=λhn b hb=>⟨hn b hb,(f2 b hb).2⟩
 refine codeAny_forLoop_any (λn s'=>∃i σ' H',Inv X pins σ' H' s'/\tn i s'.heap/\(∀b∈fp,H' b=none)/\W i n σ' H') ?_ m0 ⟨0,σ,H2,I2,st2,λb hb=>(f2 b hb).1,w0⟩
 rintro n s3 ⟨i,σ3,H3,I3,st3,fr3,w3⟩
 rcases turn i n σ3 H3 w3 with⟨stop,qn⟩| ⟨go,N,hN,step⟩
 ·refine wpAny_passesOwn hp (aS (T.done X rfl rfl rfl hc i pins s3 σ3 H3 X.xe I3 (stat fr3) st3 stop) λr s4 ⟨hr,I4⟩=>?_)
  subst hr
  exact wpAny_execs_nil ⟨σ3,H3,I4,qn⟩
 ·refine wpAny_passesOwn hp (aS (T.item X rfl rfl rfl hc i pins s3 σ3 H3 X.xe I3 (stat fr3) st3 go) λr s4 ⟨u,hr,h4⟩=>?_)
  subst hr
  refine wpAny_passesOwn hp (aS h4 λ_ s5 ⟨x,H5,I5,r5,y5,st5,fr5⟩=>?_)
  have I5':=I5.pinned (stat fr5) (T.obj _ _ st5)
  refine wpAny_passesOwn hp (aS (hg _ s5 σ3 H5 x u _ I5' r5 (step x H5 y5)) λ_ s6 ⟨σ6,H6,I6,q6⟩=>?_)
  refine wpAny_passesOwn hp (aS (hb _ s6 σ6 H6 _ I6 q6) λf s7 q7=>?_)
  have again:∀{σ7:St} {H7:Hp},Inv X (pins++kh fp s5.heap) σ7 H7 s7->N σ7 H7->∃m,m<n/\∃i σ' H',Inv X pins σ' H' s7/\tn i s7.heap/\(∀b∈fp,H' b=none)/\W i m σ' H':=λ{σ7 H7} I7 n7=>by
   obtain⟨m',hm,w7⟩:=hN σ7 H7 n7
   refine⟨m',hm,i+1,σ7,H7,I7.y55e,T.keep _ _ _ st5 λb hb o e=>(I7.pin (b,o) (z26 _ (z26 _ (lR hb e)))).1,λb hb=>?_,w7⟩
   obtain⟨o,e,d⟩:=T.obj _ _ st5 b hb
   exact (I7.pin (b,o) (z26 _ (z26 _ (lR hb e)))).2.1
  cases f with
  | next=>obtain⟨σ7,H7,I7,n7⟩:=q7;exact again I7 n7
  | cont=>obtain⟨σ7,H7,I7,n7⟩:=q7;exact again I7 n7
  | brk=>obtain⟨σ7,H7,I7,q7⟩:=q7;exact⟨σ7,H7,I7.y55e,q7⟩
  | ret v=>obtain⟨x7,σ7,H7,I7,r7,q7⟩:=q7;exact⟨x7,σ7,H7,I7.y55e,r7,q7⟩
end
end
section
noncomputable abbrev R2:=V->V->Hp->VK->Prop
noncomputable def cx(X:Cx)(f:Value->Value->Sem Value)(r:R2):Prop :=
 ∀(pins:List (Addr×Obj)) (s:Shared) (σ:St) (H:Hp) (x y:V) (v u:Value) (Q:VK),Inv X pins σ H s->aC x v->aC y u->r x y H Q ->
  wpAny (model X.prog X.w) X.A (f v u) (EP X pins σ Q) X.xe s
noncomputable def yU(X:Cx)(f:Value->Sem Value)(r:V->Hp->VK->Prop):Prop :=
 ∀(pins:List (Addr×Obj)) (s:Shared) (σ:St) (H:Hp) (x:V) (v:Value) (Q:VK),Inv X pins σ H s->aC x v->r x H Q ->
  wpAny (model X.prog X.w) X.A (f v) (EP X pins σ Q) X.xe s
noncomputable def y9(X:Cx)(f:Value)(r:List V->Hp->VK->Prop):Prop :=
 ∀(pins:List (Addr×Obj)) (s:Shared) (σ:St) (H:Hp) (xs:List V) (us:List Value) (Q:VK),Inv X pins σ H s->az xs us->r xs H Q ->
  wpAny (model X.prog X.w) X.A (call f us) (EP X pins σ Q) X.xe s
noncomputable def AA(X:Cx)(r:V->Hp->(Bool->Hp->Prop)->Prop):Prop :=
 ∀(pins:List (Addr×Obj)) (s:Shared) (σ:St) (H:Hp) (x:V) (v:Value) (Q:Bool->Hp->Prop),Inv X pins σ H s->aC x v->r x H Q ->
  wpAny (model X.prog X.w) X.A (truthy v) (TP X pins σ Q) X.xe s
noncomputable def lS(r:R2)(ta tb:TE):TE:=λσ H Q=>ta σ H λx H1=>tb σ H1 λy H2=>r x y H2 Q
noncomputable def tUn(r:V->Hp->VK->Prop)(ta:TE):TE:=λσ H Q=>ta σ H λx H1=>r x H1 Q
noncomputable def rI(C:Int->Int->Prop)(g:Int->Int->V):R2:=λx y H Q=>∃i j,x=.int i/\y=.int j/\C i j/\Q (g i j) H
noncomputable def j9(g:Int->Int->V):R2:=λx y H Q=>∃i j,x=.int i/\y=.int j/\Q (g i j) H
noncomputable def rU(g:Int->V):V->Hp->VK->Prop:=λx H Q=>∃i,x=.int i/\Q (g i) H
section
variable {X:Cx}{a b c:Expr}{ta tb tc:TE}{pos:Pos}
theorem lU(ha:PE X a ta)(hb:PE X b tb){pins:List (Addr×Obj)}{s:Shared}{σ:St}{H:Hp}{R:V->V->Hp->Prop}(I:Inv X pins σ H s)
  (h:ta σ H λx H1=>tb σ H1 λy H2=>R x y H2) {Q:Value->Shared->Prop} {f:Value->Value->Sem Value}
  (hf:∀v u s2 x y H2,Inv X pins σ H2 s2->aC x v->aC y u->R x y H2->wpAny (model X.prog X.w) X.A (f v u) Q X.xe s2) :
  wpAny (model X.prog X.w) X.A (eval a X.env) (λv s₁=>wpAny (model X.prog X.w) X.A (eval b X.env) (λu s₂=>wpAny (model X.prog X.w) X.A (f v u) Q X.xe s₂) X.xe s₁) X.xe s:=by
 refine aS (ha pins s σ H _ I h) λv s1 ⟨x,H1,I1,r1,q1⟩=>?_
 refine aS (hb pins s1 σ H1 _ I1 q1) λu s2 ⟨y,H2,I2,r2,q2⟩=>?_
 exact hf v u s2 x y H2 I2 r1 r2 q2
theorem sW{op:Operator}{r:R2}(ho:cx X (binaryOp op) r)(ha:PE X a ta)(hb:PE X b tb):PE X (.BinOp a op b pos) (lS r ta tb):=by
 intro pins s σ H Q I h
 exact wpAny_BinOp (lU ha hb I h λv u s2 x y H2 I2 rx ry q=>ho pins s2 σ H2 x y v u Q I2 rx ry q)
theorem sX{op:UnaryOp}{r:V->Hp->VK->Prop}(ho:yU X (unaryOp op) r)(ha:PE X a ta):PE X (.UnaryOp op a pos) (tUn r ta):=by
 intro pins s σ H Q I h
 exact UnaryOp_ (aS (ha pins s σ H _ I h) λv s1 ⟨x,H1,I1,r1,q1⟩=>ho pins s1 σ H1 x v Q I1 r1 q1)
theorem sY{f:Value->Value->Sem Value}{C:Int->Int->Prop}{g:Int->Int->Int}
  (rule:∀(i j:Int) (t u:Tok) (s:Shared) (Q:Value->Shared->Prop) (E:Value->Shared->Prop),C i j->Q (.int (g i j) s.toks) { s with toks:=s.toks+1 }->wpAny (model X.prog X.w) X.A (f (.int i t) (.int j u)) Q E s) :
  cx X f (rI C λi j=>.int (g i j)):=by
 intro pins s σ H x y v u Q I rx ry h
 obtain⟨i,j,rfl,rfl,hc,q⟩:=h
 obtain⟨t,rfl⟩:=rx
 obtain⟨t',rfl⟩:=ry
 exact rule i j t t' s _ _ hc ⟨.int (g i j),H,I.tok _,⟨_,rfl⟩,q⟩
theorem sZ{f:Value->Value->Sem Value}{g:Int->Int->Int}
  (rule:∀(i j:Int) (t u:Tok) (s:Shared) (Q:Value->Shared->Prop) (E:Value->Shared->Prop),Q (.int (g i j) s.toks) { s with toks:=s.toks+1 }->wpAny (model X.prog X.w) X.A (f (.int i t) (.int j u)) Q E s) :
  cx X f (j9 λi j=>.int (g i j)):=by
 intro pins s σ H x y v u Q I rx ry h
 obtain⟨i,j,rfl,rfl,q⟩:=h
 obtain⟨t,rfl⟩:=rx
 obtain⟨t',rfl⟩:=ry
 exact rule i j t t' s _ _ ⟨.int (g i j),H,I.tok _,⟨_,rfl⟩,q⟩
theorem oC{f:Value->Value->Sem Value}{g:Int->Int->Bool}
  (rule:∀(i j:Int) (t u:Tok) (s:Shared) (Q:Value->Shared->Prop) (E:Value->Shared->Prop),Q (.bool (g i j)) s->wpAny (model X.prog X.w) X.A (f (.int i t) (.int j u)) Q E s) :
  cx X f (j9 λi j=>.bl (g i j)):=by
 intro pins s σ H x y v u Q I rx ry h
 obtain⟨i,j,rfl,rfl,q⟩:=h
 obtain⟨t,rfl⟩:=rx
 obtain⟨t',rfl⟩:=ry
 exact rule i j t t' s _ _ ⟨.bl (g i j),H,I,rfl,q⟩
noncomputable def AB(i j:Int):Prop:=0<j/\j<1073741824
noncomputable def oE(i j:Int):Prop:=0≤j/\j≤1000000/\i.natAbs<2 ^ 64
noncomputable def y6(i j:Int):Prop:=(-(2 ^ 64)<i/\i<2 ^ 64)∨(-(2 ^ 64)<j/\j<2 ^ 64)
theorem y6.ok{i j:Int}(h:y6 i j):IntMulOk i j:=by
 rcases h with⟨h1,h2⟩| ⟨h1,h2⟩
 ·exact .of_left (intBits_le_64 h1 h2)
 ·exact .of_right (intBits_le_64 h1 h2)
theorem AD:cx X (binaryOp .Add) (j9 λi j=>.int (i+j)):=sZ λ_ _ _ _ _ _ _ q=>add_int q
theorem AE:cx X (binaryOp .Sub) (j9 λi j=>.int (i-j)):=sZ λ_ _ _ _ _ _ _ q=>sub_int q
theorem AF:cx X (binaryOp .Mult) (rI y6 λi j=>.int (i*j)):=sY λ_ _ _ _ _ _ _ hc q=>mul_int q hc.ok
theorem yV:cx X (binaryOp .FloorDiv) (rI AB λi j=>.int (i / j)):=sY λi j _ _ _ _ _ hc q=>by
 have h1:(0:Int)<j:=hc.1
 have h2:j<1073741824:=hc.2
 exact floordiv_int (by lia) (by rw [Int.fdiv_eq_ediv_of_nonneg i (by lia)];exact q) (.inl (PyProof.noPylong_small (by lia)))
theorem AG:cx X (binaryOp .Mod) (rI (λ_ j=>0<j) λi j=>.int (i % j)):=sY λi j _ _ _ _ _ hc q=>by
 have h1:(0:Int)<j:=hc
 exact mod_int' (by lia) (by rw [Int.fmod_eq_emod_of_nonneg i (by lia)];exact q)
theorem AH:cx X (binaryOp .Pow) (rI oE λi j=>.int (i ^ j.toNat)):=sY λ_ _ _ _ _ _ _ hc q=>pow_int_small hc.1 hc.2.1 hc.2.2 q
theorem unI{f:Value->Sem Value}{g:Int->Int}
  (rule:∀(i:Int) (t:Tok) (s:Shared) (Q:Value->Shared->Prop) (E:Value->Shared->Prop),Q (.int (g i) s.toks) { s with toks:=s.toks+1 }->wpAny (model X.prog X.w) X.A (f (.int i t)) Q E s) :
  yU X f (rU λi=>.int (g i)):=by
 intro pins s σ H x v Q I rx h
 obtain⟨i,rfl,q⟩:=h
 obtain⟨t,rfl⟩:=rx
 exact rule i t s _ _ ⟨.int (g i),H,I.tok _,⟨_,rfl⟩,q⟩
theorem AI:yU X (unaryOp .USub) (rU λi=>.int (-i)):=unI λ_ _ _ _ _ q=>neg_int q
end
noncomputable def ji:V->V->Bool
 | .non,.non=>true | .non,.int _=>true | .int _,.non=>true | .non,.bl _=>true | .bl _,.non=>true | .non,.str _=>true | .str _,.non=>true
 | .int _,.int _=>true | .bl _,.bl _=>true | .str _,.str _=>true | .byt _,.byt _=>true
 | .int _,.str _=>true | .str _,.int _=>true | .bl _,.str _=>true | .str _,.bl _=>true
 | _,_=>false
noncomputable def rEq:R2:=λx y H Q=>ji x y=true/\Q (.bl (decide (x=y))) H
noncomputable def rNe:R2:=λx y H Q=>ji x y=true/\Q (.bl (!decide (x=y))) H
theorem tf{i j:Int}:decide (V.int i=V.int j)=(i == j):=by
 rw [Bool.eq_iff_iff]
 simp
theorem yfe{i j:Bool}:decide (V.bl i=V.bl j)=(i == j):=by
 rw [Bool.eq_iff_iff]
 simp
theorem tj{i j:Str}:decide (V.str i=V.str j)=(i == j):=by
 rw [Bool.eq_iff_iff]
 simp
theorem yff{i j:Array UInt8}:decide (V.byt i=V.byt j)=(i.toList == j.toList):=by
 rw [Bool.eq_iff_iff]
 cases i
 cases j
 simp
section
variable {X:Cx}{a b c:Expr}{ta tb tc:TE}{pos:Pos}
theorem bI{pins:List (Addr×Obj)}{σ:St}{H:Hp}{s:Shared}{Q:VK}{k k':Bool}(I:Inv X pins σ H s)(q:Q (.bl k) H)(e:k=k'):EP X pins σ Q (.bool k') s:=by
 subst e
 exact⟨.bl k,H,I,rfl,q⟩
theorem tm:cx X (compareOp .Eq) rEq:=by
 intro pins s σ H x y v u Q I rx ry h
 obtain⟨hs,q⟩:=h
 cases x with
 | non =>
  cases rx
  cases y with
  | non=>cases ry;exact PySem.EqNone.eq_none_none (bI I q (by simp))
  | bl j=>cases ry;exact PySem.EqNone.eq_none_bool (bI I q (by simp))
  | int j=>obtain⟨t',rfl⟩:=ry;exact PySem.EqNone.eq_none_int (bI I q (by simp))
  | str j=>obtain⟨t',rfl⟩:=ry;exact PySem.EqNone.eq_none_str (bI I q (by simp))
  | _=>exact absurd (show false=true from hs) zf
 | bl i =>
  cases rx
  cases y with
  | non=>cases ry;exact PySem.EqNone.eq_bool_none (bI I q (by simp))
  | bl j=>cases ry;exact eq_bool (bI I q yfe)
  | str j=>obtain⟨t',rfl⟩:=ry;exact PySem.EqMixed.eq_bool_str (bI I q (by simp))
  | _=>exact absurd (show false=true from hs) zf
 | int i =>
  obtain⟨t,rfl⟩:=rx
  cases y with
  | non=>cases ry;exact PySem.EqNone.eq_int_none (bI I q (by simp))
  | int j=>obtain⟨t',rfl⟩:=ry;exact eq_int (bI I q tf)
  | str j=>obtain⟨t',rfl⟩:=ry;exact PySem.EqMixed.eq_int_str (bI I q (by simp))
  | _=>exact absurd (show false=true from hs) zf
 | str i =>
  obtain⟨t,rfl⟩:=rx
  cases y with
  | non=>cases ry;exact PySem.EqNone.eq_str_none (bI I q (by simp))
  | bl j=>cases ry;exact PySem.EqMixed.eq_str_bool (bI I q (by simp))
  | int j=>obtain⟨t',rfl⟩:=ry;exact PySem.EqMixed.eq_str_int (bI I q (by simp))
  | str j=>obtain⟨t',rfl⟩:=ry;exact eq_str (bI I q tj)
  | _=>exact absurd (show false=true from hs) zf
 | byt i =>
  obtain⟨t,rfl⟩:=rx
  cases y with
  | byt j=>obtain⟨t',rfl⟩:=ry;exact W.eq_bytes (bI I q yff)
  | _=>exact absurd (show false=true from hs) zf
 | _=>cases y<;>exact absurd (show false=true from hs) zf
theorem tp:cx X (compareOp .NotEq) rNe:=by
 intro pins s σ H x y v u Q I rx ry h
 obtain⟨hs,q⟩:=h
 cases x with
 | non =>
  cases rx
  cases y with
  | non=>cases ry;exact PySem.EqNone.ne_none_none (bI I q (by simp))
  | bl j=>cases ry;exact PySem.EqNone.ne_none_bool (bI I q (by simp))
  | int j=>obtain⟨t',rfl⟩:=ry;exact PySem.EqNone.ne_none_int (bI I q (by simp))
  | str j=>obtain⟨t',rfl⟩:=ry;exact PySem.EqNone.ne_none_str (bI I q (by simp))
  | _=>exact absurd (show false=true from hs) zf
 | bl i =>
  cases rx
  cases y with
  | non=>cases ry;exact PySem.EqNone.ne_bool_none (bI I q (by simp))
  | bl j=>cases ry;exact ne_bool (bI I q (congrArg not yfe))
  | str j=>obtain⟨t',rfl⟩:=ry;exact PySem.EqMixed.ne_bool_str (bI I q (by simp))
  | _=>exact absurd (show false=true from hs) zf
 | int i =>
  obtain⟨t,rfl⟩:=rx
  cases y with
  | non=>cases ry;exact PySem.EqNone.ne_int_none (bI I q (by simp))
  | int j=>obtain⟨t',rfl⟩:=ry;exact ne_int (bI I q (congrArg not tf))
  | str j=>obtain⟨t',rfl⟩:=ry;exact PySem.EqMixed.ne_int_str (bI I q (by simp))
  | _=>exact absurd (show false=true from hs) zf
 | str i =>
  obtain⟨t,rfl⟩:=rx
  cases y with
  | non=>cases ry;exact PySem.EqNone.ne_str_none (bI I q (by simp))
  | bl j=>cases ry;exact PySem.EqMixed.ne_str_bool (bI I q (by simp))
  | int j=>obtain⟨t',rfl⟩:=ry;exact PySem.EqMixed.ne_str_int (bI I q (by simp))
  | str j=>obtain⟨t',rfl⟩:=ry;exact ne_str (bI I q (congrArg not tj))
  | _=>exact absurd (show false=true from hs) zf
 | byt i =>
  obtain⟨t,rfl⟩:=rx
  cases y with
  | byt j=>obtain⟨t',rfl⟩:=ry;exact W.ne_bytes (bI I q (congrArg not yff))
  | _=>exact absurd (show false=true from hs) zf
 | _=>cases y<;>exact absurd (show false=true from hs) zf
theorem tq:cx X (compareOp .Lt) (j9 λi j=>.bl (decide (i<j))):=oC λ_ _ _ _ _ _ _ q=>lt_int q
theorem tu:cx X (compareOp .Gt) (j9 λi j=>.bl (decide (j<i))):=oC λ_ _ _ _ _ _ _ q=>gt_int q
theorem tw:cx X (compareOp .GtE) (j9 λi j=>.bl (decide (j≤i))):=oC λ_ _ _ _ _ _ _ q=>ge_int q
theorem AJ:cx X (compareOp .In) (λx y H Q=>∃i j,x=.str i/\y=.str j/\Q (.bl (!(Builtin.Str.occurrences j i 0 j.length 1).isEmpty)) H):=by
 intro pins s σ H x y v u Q I rx ry h
 obtain⟨i,j,rfl,rfl,q⟩:=h
 obtain⟨t,rfl⟩:=rx
 obtain⟨t',rfl⟩:=ry
 exact in_str (bI I q rfl)
theorem AK:cx X (compareOp .NotIn) (λx y H Q=>∃i j,x=.str i/\y=.str j/\Q (.bl (!(!(Builtin.Str.occurrences j i 0 j.length 1).isEmpty))) H):=by
 intro pins s σ H x y v u Q I rx ry h
 obtain⟨i,j,rfl,rfl,q⟩:=h
 obtain⟨t,rfl⟩:=rx
 obtain⟨t',rfl⟩:=ry
 exact notIn_str (bI I q rfl)
theorem cx.or{f:Value->Value->Sem Value}{r r':R2}(h:cx X f r)(h':cx X f r'):cx X f (λx y H Q=>r x y H Q∨r' x y H Q):=by
 intro pins s σ H x y v u Q I rx ry q
 rcases q with q|q
 ·exact h pins s σ H x y v u Q I rx ry q
 ·exact h' pins s σ H x y v u Q I rx ry q
theorem jj(b:Expr){op:CmpOp}(h:op≠.In:=by decide)(h2:op≠.NotIn:=by decide):behindInMarks op b=false:=by
 have e1:(op == CmpOp.In)=false:=by cases op<;>first|rfl|exact absurd rfl h
 have e2:(op == CmpOp.NotIn)=false:=by cases op<;>first|rfl|exact absurd rfl h2
 cases b<;>simp [behindInMarks,e1,e2]
theorem tE{op:CmpOp}{r:R2}(ho:cx X (compareOp op) r)(ha:PE X a ta)(hb:PE X b tb)(hm:behindInMarks op b=false):PE X (.Compare a [op] [b] pos) (lS r ta tb):=by
 intro pins s σ H Q I h
 exact wpAny_Compare1 (lU ha hb I h λv u s2 x y H2 I2 rx ry q=>ho pins s2 σ H2 x y v u Q I2 rx ry q) hm
noncomputable def tF(t:TE):TT:=λσ H Q=>t σ H λx H'=>∃k,x=.bl k/\Q k H'
theorem oF{op:CmpOp}{r:R2}(ho:cx X (compareOp op) r)(ha:PE X a ta)(hb:PE X b tb)(hm:behindInMarks op b=false):PT X (.Compare a [op] [b] pos) (tF (lS r ta tb)):=by
 intro pins s σ H Q I h
 refine wpAny_isTrue_Compare1 (aS (ha pins s σ H _ I h) λv s1 ⟨x,H1,I1,r1,q1⟩=>aS (hb pins s1 σ H1 _ I1 q1) λu s2 ⟨y,H2,I2,r2,q2⟩ =>
  aS (ho pins s2 σ H2 x y v u _ I2 r1 r2 q2) λc s3 ⟨z,H3,I3,r3,k,e,q3⟩=>?_) hm
 subst e
 cases r3
 exact wpAny_truthy_bool ⟨H3,I3,q3⟩
noncomputable def oG(K:W.Frag)(x:V)(H:Hp)(k:Bool):Prop :=
 match x with
 | .non=>k=false
 | .bl b=>k=b
 | .int i=>k=(i != 0)
 | .str y=>y.length≤sizeLine/\k=((y.length:Int) != 0)
 | .byt y=>y.size≤sizeLine/\k=((y.size:Int) != 0)
 | .ref p=>(∃xs,bB K H p xs/\k=!xs.isEmpty)∨(∃xs,bt K H p xs/\k=!xs.isEmpty)∨∃kvs,H p=some (.dK kvs)/\k=!kvs.isEmpty
 | _=>False
theorem AL{κ:Type}{kvs:List (κ×V)}{vs:List (κ×Value)}(r:KV kvs vs):(!vs.isEmpty)=!kvs.isEmpty:=by
 cases r<;>rfl
theorem tG{xs:List V}{its:List Value}(r:az xs its):(!its.toArray.isEmpty)=!xs.isEmpty:=by
 cases r<;>simp
theorem iI:(sizeLine:Nat)<2 ^ 63:=by rw [sizeLine_eq];decide
theorem oH:AA X (λx H Q=>∃k,oG X.K x H k/\Q k H):=by
 intro pins s σ H x v Q I rx h
 obtain⟨k,e,q⟩:=h
 have hl:=iI
 have hs:sizeLine=16777216:=sizeLine_eq
 cases x with
 | non =>
  cases rx
  have e':k=false:=e
  subst e'
  exact truthy_none ⟨H,I,q⟩
 | bl b =>
  cases rx
  have e':k=b:=e
  subst e'
  exact wpAny_truthy_bool ⟨H,I,q⟩
 | int i =>
  obtain⟨t,rfl⟩:=rx
  have e':k=(i != 0):=e
  subst e'
  exact PySem.P.truthy_int ⟨H,I,q⟩
 | str y =>
  obtain⟨t,rfl⟩:=rx
  obtain⟨hy,e'⟩:y.length≤sizeLine/\k=((y.length:Int) != 0):=e
  subst e'
  exact PySem.P.truthy_str (by lia) ⟨H,I.tok _,q⟩
 | byt y =>
  obtain⟨t,rfl⟩:=rx
  obtain⟨hy,e'⟩:y.size≤sizeLine/\k=((y.size:Int) != 0):=e
  subst e'
  exact W.truthy_bytes (by lia) ⟨H,I.tok _,q⟩
 | ref p =>
  cases rx
  have e':(∃xs,bB X.K H p xs/\k=!xs.isEmpty)∨(∃xs,bt X.K H p xs/\k=!xs.isEmpty)∨∃kvs,H p=some (.dK kvs)/\k=!kvs.isEmpty:=e
  rcases e' with⟨xs,hx,e'⟩| ⟨xs,hx,e'⟩| ⟨kvs,hx,e'⟩
  ·subst e'
   obtain⟨its,r,pl,hz⟩:=I.list hx
   have hlen:=r.length
   exact wpAny_truthy_list pl.isList (by simp only [ze];lia) ⟨H,I.tok _,by rw [tG r];exact q⟩
  ·subst e'
   obtain⟨its,r,pl,hz⟩:=I.tuple hx
   have hlen:=r.length
   exact truthy_tuple pl (by simp only [ze];lia) ⟨H,I.tok _,by rw [tG r];exact q⟩
  ·subst e'
   obtain⟨hz,hS,vs,r,m⟩:kvs.length≤sizeLine/\(p == sysModules)=false/\∃vs,KV kvs vs/\s.heap.DictOf (dm X.prog X.w) p vs:=I.hok p _ hx
   have hlen:kvs.length=vs.length:=Paired.length r
   exact wpAny_truthy_dict hS m (by lia) ⟨H,I.tok _,by rw [AL r];exact q⟩
 | _=>exact (show False from e).elim
theorem AM(ha:PE X a ta)(he:∀whole,isTrue a X.env whole=(do let v <- whole;standAt a.pos;holding [v] (truthy v))) :
  PT X a (λσ H Q=>ta σ H λx H'=>∃k,oG X.K x H' k/\Q k H'):=by
 intro pins s σ H Q I h
 exact isTrue_plain (aS (ha pins s σ H _ I h) λv s1 ⟨x,H1,I1,r1,q1⟩=>oH pins s1 σ H1 x v Q I1 r1 q1) (he _)
theorem AN:cx X (binaryOp .Add) (λx y H Q=>∃i j,x=.str i/\y=.str j/\i.length+j.length≤sizeLine/\Q (.str (i++j)) H):=by
 intro pins s σ H x y v u Q I rx ry h
 obtain⟨i,j,rfl,rfl,hz,q⟩:=h
 obtain⟨t,rfl⟩:=rx
 obtain⟨t',rfl⟩:=ry
 exact add_str (λt' tk=>⟨.str (i++j),H,I.tok _,⟨_,rfl⟩,q⟩) hz
theorem cX{x:V}{us:List Value}(r:az [x] us):∃u,us=[u]/\aC x u:=by
 cases r with
 | cons r1 r2=>cases r2;exact⟨_,rfl,r1⟩
theorem ki{x y:V}{us:List Value}(r:az [x,y] us):∃u w',us=[u,w']/\aC x u/\aC y w':=by
 cases r with
 | cons r1 r2 =>
  cases r2 with
  | cons r3 r4=>cases r4;exact⟨_,_,rfl,r1,r3⟩
theorem yc1(hc:X.calm=true):y9 X (.builtin "max") (λxs H Q=>∃i j,xs=[.int i,.int j]/\Q (.int (if j>i then j else i)) H):=by
 intro pins s σ H xs us Q I r h
 obtain⟨i,j,rfl,q⟩:=h
 obtain⟨u,w',rfl,⟨t,rfl⟩,⟨t',rfl⟩⟩:=ki r
 refine max_two_ints (I.ok.hd hc) λh' tk k=>⟨_,H,I.kept k,?_,q⟩
 by_cases hj:j>i
 ·rw [if_pos hj,if_pos hj];exact⟨_,rfl⟩
 ·rw [if_neg hj,if_neg hj];exact⟨_,rfl⟩
theorem yc4:y9 X (.type "str") (λxs H Q=>∃i,xs=[.int i]/\i.natAbs.log2<1920/\Q (.str (toString i)) H):=by
 intro pins s σ H xs us Q I r h
 obtain⟨i,rfl,hz,q⟩:=h
 obtain⟨u,rfl,t,rfl⟩:=cX r
 exact PySem.P.str_of_int hz ⟨.str _,H,I.tok _,⟨_,rfl⟩,q⟩
end
end
section
structure y52(h:Heap)(x dx C:Addr)(mA:Str->Option Value):Prop where
 obj:h.get? x=some (W.instObj C dx)
 ns:h.Ns1 dx mA
 ne:dx≠x
theorem AO{h:Heap}{dx:Addr}{mA:Str->Option Value}(n:h.Ns1 dx mA):∃od,h.get? dx=some od/\∀name,W.lookIn name od=some (mA name):=by
 obtain⟨o,es,ep,ho,hd,hk,_,hm⟩:=n
 refine⟨o,ho,λname=>?_⟩
 have e:=hm name
 unfold nsFind findBy at e
 rw [<- Array.find?_toList] at e
 unfold W.lookIn
 rw [hd]
 dsimp only
 split
 ·rename_i y q
  rw [q] at e
  exact congrArg some e
 ·rename_i q
  rw [q] at e
  have a:es.toList.any (·.refKey)=false:=by
   rw [List.any_eq_false]
   intro y hy
   obtain⟨z,t,hkey⟩:=hk y (Array.mem_toList_iff.mp hy)
   simp [DictEntry.refKey,hkey]
  have a':¬ es.toList.any (·.refKey)=true:=by rw [a];exact zf
  rw [if_neg a']
  exact congrArg some e
theorem y52.look{h:Heap}{x dx C:Addr}{mA:Str->Option Value}(I:y52 h x dx C mA):∃od,W.InstAt h x (W.instObj C dx) C (some od)/\∀name,W.lookIn name od=some (mA name) :=
 let ⟨od,ho,hl⟩:=AO I.ns
 ⟨od,⟨I.obj,rfl,rfl,ho⟩,hl⟩
section
variable {prog:Program}{w:World}{A:Around}{E:Value->Shared->Prop}{s:Shared}{K:W.Frag}{x dx C f:Addr}{mA:Str->Option Value}{name:Str}{v:Value}
theorem lV{expr:Bool}{Q:Value->Shared->Prop}(X:K.In s.heap)(I:y52 s.heap x dx C mA)(hg:W.plainGet K C name=true)(hh:W.hasDictIn K C=true)
  (ha:W.findIn K (.ref C) name=some none) (hv:mA name=some v) (hv':W.handedIn v=true) (h:Q v { s with toks:=s.toks+1 }) :
  wpAny (model prog w) A (getAttr (.ref x) name expr) Q E s:=by
 obtain⟨od,J,hl⟩:=I.look
 exact W.get_value X J (W.plainGet_of hg).1 (W.findObj_own hh ha rfl (by rw [hl,hv])) hv' h
theorem AQ{pl:Sem Bool}{Q:Value×List Value->Shared->Prop}(X:K.In s.heap)(I:y52 s.heap x dx C mA)(hg:W.plainGet K C name=true)
  (hf:W.findIn K (.ref C) name=some (some (.ref f))) (ht:W.isFn K (.ref f)=true) (hv:mA name=none) (h:Q (.ref f,[.ref x]) s) :
  wpAny (model prog w) A (getMethod (.ref x) name pl) Q E s:=by
 obtain⟨od,J,hl⟩:=I.look
 exact W.method_fn X J (W.plainGet_of hg).1 (W.plainGet_of hg).2 hf (beq_iff_eq.mp ht) (by show (W.lookIn name od).map (·.isSome)=some false;rw [hl,hv];rfl) h
theorem AR{ns:List Str}{Q:Unit->Shared->Prop}(X:K.In s.heap)(I:y52 s.heap x dx C mA)
  (hs:W.findIn K (.ref C) "__setattr__" = some (some (.builtin "object.__setattr__"))) (hp:W.plainOver K C=true) (ht:W.takerIn K C name=some none) (hh:W.hasDictIn K C=true)
  (hw:PySem.Within mA ns) (hsz:ns.length≤sizeLine)
  (h:∀h',y52 h' x dx C (λy=>if y=name then some v else mA y)->Heap.SameBut dx s.heap h'->Q () { s with heap:=h',toks:=s.toks+2 }) :
  wpAny (model prog w) A (setAttr (.ref x) name v) Q E s:=by
 obtain⟨od,J,hl⟩:=I.look
 refine W.set_plain X J hs (W.osa_open (s:={ s with toks:=s.toks+1 }) (r:=none) X J hp ht λb=>?_)
 obtain⟨cd,hc,hd'⟩:=W.any_some hh
 have hx:s.heap.get? x=some ⟨.ref C,some dx,.plain,#[]⟩:=I.obj
 refine zd (z1b (zd (zd (wpAny_loadPart hx (zd (W.Looks.here (s:={ s with toks:=s.toks+1 }) (W.looks_clsIn X hc) ?_))))))
 rw [hd']
 refine z1b (a:=some dx) (zd (z1b (zd ?_)))
 refine wpAny_nsSet1 (s:={ s with toks:=s.toks+1 }) I.ns λh' hn2 hs2=>?_
 obtain⟨oD,esD,epD,hoD,hdD,hcD⟩:=hn2.count (PySem.Within.cons name v hw)
 refine zd (wpAny_lookBehind hoD (by rw [hdD];exact pastItsLine_dict (z21 hcD (by rw [z20];lia))) ?_)
 exact z1b (h _ ⟨(hs2.2 _ (Ne.symm I.ne)).trans I.obj,hn2,I.ne⟩ hs2)
theorem AS{R:Result->Shared->Prop}{vs:List Value}{kw:List (Str×Value)}(X:K.In s.heap)(hm:W.makesIn K C=true)
  (hi:W.findIn K (.ref C) "__init__" = some (some (.ref f))) (hf:W.typeIn K (.ref f)=some (.type "function"))
  (h:codeAny (model prog w) (A.under (.builtin "type.__call__" ⟨.ref C::vs,kw⟩)) (.call (.ref f) ⟨.ref (s.heap.objs.size+1)::vs,kw⟩) (W.InitBack (s.heap.objs.size+1) R)
   { s with heap:=(s.heap.push W.emptyDict).push (W.instObj C s.heap.objs.size) }) :
  codeAny (model prog w) A (.call (.ref C) ⟨vs,kw⟩) R s:=by
 obtain⟨hh,g,d,t,os⟩:=s
 exact W.make_core (W.makes_of X hm) (W.looks_findIn X hi) (λself=>W.bind_fn X self hf) (.inl rfl) h
end
noncomputable def cR(f:Str)(v:V):List (Str×V)->List (Str×V)
 | []=>[(f,v)]
 | (g,x)::r=>if g=f then (g,v)::r else (g,x)::cR f v r
theorem tH(f g:Str)(v:V):∀fs:List (Str×V),(cR f v fs).lookup g=if g=f then some v else fs.lookup g
 | []=>by
  show List.lookup g [(f,v)]=_
  by_cases h:g=f
  ·have hb:(g == f)=true:=beq_iff_eq.mpr h
   simp only [List.lookup,hb,if_pos h]
  ·have hb:(g == f)=false:=beq_eq_false_iff_ne.mpr h
   simp only [List.lookup,hb,if_neg h]
 | (k,x)::r=>by
  have ih:=tH f g v r
  rw [show cR f v ((k,x)::r)=(if k=f then (k,v)::r else (k,x)::cR f v r) from rfl]
  by_cases hk:k=f
  ·rw [if_pos hk]
   by_cases h:g=k
   ·have hb:(g == k)=true:=beq_iff_eq.mpr h
    simp only [List.lookup,hb,if_pos (h.trans hk)]
   ·have hb:(g == k)=false:=beq_eq_false_iff_ne.mpr h
    simp only [List.lookup,hb,if_neg (λe:g=f=>h (e.trans hk.symm))]
  ·rw [if_neg hk]
   by_cases h:g=k
   ·have hb:(g == k)=true:=beq_iff_eq.mpr h
    simp only [List.lookup,hb,if_neg (λe:g=f=>hk (h.symm.trans e))]
   ·have hb:(g == k)=false:=beq_eq_false_iff_ne.mpr h
    simp only [List.lookup,hb]
    exact ih
theorem oJ(f:Str)(v:V):∀fs:List (Str×V),f∈(cR f v fs).map (·.1)/\∀g,g∈fs.map (·.1)->g∈(cR f v fs).map (·.1)
 | []=>⟨by simp [cR],λg h=>by simp at h⟩
 | (k,x)::r=>by
  obtain⟨i1,i2⟩:=oJ f v r
  rw [show cR f v ((k,x)::r)=(if k=f then (k,v)::r else (k,x)::cR f v r) from rfl]
  by_cases hk:k=f
  ·rw [if_pos hk]
   subst hk
   exact⟨by simp,λg h=>by simpa using h⟩
  ·rw [if_neg hk]
   refine⟨?_,λg h=>?_⟩
   ·rw [z19]
    exact z1d _ i1
   ·rw [z19] at h ⊢
    rcases zb.mp h with e|e
    ·exact zb.mpr (.inl e)
    ·exact z1d _ (i2 g e)
theorem tI(f:Str)(v:V):∀fs:List (Str×V),(cR f v fs).length≤fs.length+1
 | []=>by simp [cR]
 | (k,x)::r=>by
  have ih:=tI f v r
  rw [show cR f v ((k,x)::r)=(if k=f then (k,v)::r else (k,x)::cR f v r) from rfl]
  by_cases hk:k=f
  ·rw [if_pos hk,z20,z20];lia
  ·rw [if_neg hk,z20,z20];lia
theorem iB.some_of{v:V}{o:Option Value}(r:iB (some v) o):∃u,o=some u/\aC v u:=by
 cases o with
 | none=>exact (show False from r).elim
 | some u=>exact⟨u,rfl,r⟩
theorem iB.none_of{o:Option Value}(r:iB none o):o=none:=by
 cases o with
 | none=>rfl
 | some u=>exact (show False from r).elim
theorem AU{v:V}{u:Value}(r:aC v u):W.handedIn u=true:=by
 cases v with
 | non=>cases (show u=Value.none from r);rfl
 | bl b=>cases (show u=Value.bool b from r);rfl
 | int i=>obtain⟨t,e⟩:=(show ∃t,u=Value.int i t from r);cases e;rfl
 | str x=>obtain⟨t,e⟩:=(show ∃t,u=Value.str x t from r);cases e;rfl
 | byt b=>obtain⟨t,e⟩:=(show ∃t,u=Value.bytes b t from r);cases e;rfl
 | flt b=>obtain⟨t,e⟩:=(show ∃t,u=Value.float b t from r);cases e;rfl
 | ref a=>cases (show u=Value.ref a from r);rfl
 | ty n=>cases (show u=Value.type n from r);rfl
section
variable {P:Program}{w:World}{H H':Hp}{h h':Heap}{a C dx:Addr}{fs fs':List (Str×V)}
theorem lW(hok:dI P w H h)(e:H a=some (.ins C dx fs)):∃mA,y52 h a dx C mA/\(∀f,iB (fs.lookup f) (mA f))/\PySem.Within mA (fs.map (·.1))/\fs.length≤1000/\H dx=some (.own a):=by
 obtain⟨d,z,ne,ob,mA,n,r,q⟩:=(show eh P w H h a (.ins C dx fs) from hok a _ e)
 exact⟨mA,⟨ob,n,ne⟩,r,q,z,d⟩
end
structure Cls(K:W.Frag)(C:Addr):Prop where
 pg:W.plainGet K C Str.empty=true
 hd:W.hasDictIn K C=true
 po:W.plainOver K C=true
 sa:W.findIn K (.ref C) "__setattr__" = some (some (.builtin "object.__setattr__"))
theorem Cls.get{K:W.Frag}{C:Addr}(c:Cls K C)(f:Str):W.plainGet K C f=true:=c.pg
noncomputable def iC(K:W.Frag)(C:Addr)(f:Str):Prop:=W.findIn K (.ref C) f=some none
theorem iC.taker{K:W.Frag}{C:Addr}{f:Str}(n:iC K C f):W.takerIn K C f=some none:=by
 unfold W.takerIn
 rw [show W.findIn K (.ref C) f=some none from n]
 rfl
structure Con(K:W.Frag)(C:Addr)(f:Str)(v:V)(u:Value):Prop where
 at_:W.findIn K (.ref C) f=some (some u)
 rel:aC v u
 get:W.specialIn K u "__get__" = some none
 cp:W.copiedNames.contains f=false
structure Meth(K:W.Frag)(C:Addr)(m:Str)(f:Addr):Prop where
 at_:W.findIn K (.ref C) m=some (some (.ref f))
 fn:W.isFn K (.ref f)=true
 kp:W.keepIn K (.ref f)=true
section
variable {X:Cx}{pins:List (Addr×Obj)}{σ:St}{H:Hp}{s:Shared}{a C dx:Addr}{fs:List (Str×V)}{f:Str}{v:V}{A:Around}{E:Value->Shared->Prop}
theorem AV{b:Bool}{Q:Value->Shared->Prop}(I:Inv X pins σ H s)(e:H a=some (.ins C dx fs))(c:Cls X.K C)(n:iC X.K C f)(l:fs.lookup f=some v)
  (h:∀u s',Inv X pins σ H s'->aC v u->Q u s'):wpAny (model X.prog X.w) A (getAttr (.ref a) f b) Q E s:=by
 obtain⟨mA,O,r,_,_,_⟩:=lW I.hok e
 obtain⟨u,hu,ru⟩:=iB.some_of (v:=v) (o:=mA f) (by rw [<- l];exact r f)
 exact lV I.kIn O (c.get f) c.hd n hu (AU ru) (h u _ (I.tok _) ru)
theorem oK{m:Str}{g:Addr}{pl:Sem Bool}{Q:Value×List Value->Shared->Prop}(I:Inv X pins σ H s)(e:H a=some (.ins C dx fs))(c:Cls X.K C)(k:Meth X.K C m g)(l:fs.lookup m=none)
  (h:Q (.ref g,[.ref a]) s):wpAny (model X.prog X.w) A (getMethod (.ref a) m pl) Q E s:=by
 obtain⟨mA,O,r,_,_,_⟩:=lW I.hok e
 have hn:mA m=none:=iB.none_of (by rw [<- l];exact r m)
 exact AQ I.kIn O (c.get m) k.at_ k.fn hn h
theorem AW{y:V}{u:Value}{Q:Unit->Shared->Prop}(I:Inv X pins σ H s)(e:H a=some (.ins C dx fs))(c:Cls X.K C)(n:iC X.K C f)(hl:fs.length<1000)(ry:aC y u)
  (h:∀s',Inv X pins σ (aP H a (.ins C dx (cR f y fs))) s'->Q () s'):wpAny (model X.prog X.w) A (setAttr (.ref a) f u) Q E s:=by
 obtain⟨mA,O,r,wi,_,ho⟩:=lW I.hok e
 have hz:(fs.map (·.1)).length≤sizeLine:=by rw [z14,sizeLine_eq];lia
 refine AR I.kIn O c.sa c.po n.taker c.hd wi hz λh' O' sb=>h _ ?_
 have hd:∃o,h'.get? dx=some o:=let ⟨o,_,_,e',_⟩:=O'.ns;⟨o,e'⟩
 refine I.write (x:=a) (e:=dx) (by rw [e];exact True.intro) (.inr ho) (λb q hb z=>(sb.2 b hb).trans z) hd ?_
 refine⟨by rw [aX O.ne];exact ho,?_,O.ne,O'.obj,_,O'.ns,λg=>?_,λg hg=>?_⟩
 ·have:=tI f y fs;lia
 ·show iB ((cR f y fs).lookup g) (if g=f then some u else mA g)
  rw [tH]
  by_cases q:g=f
  ·rw [if_pos q,if_pos q];exact ry
  ·rw [if_neg q,if_neg q];exact r g
 ·by_cases q:g=f
  ·rw [q];exact (oJ f y fs).1
  ·refine (oJ f y fs).2 g (wi g λz=>hg ?_)
   show (if g=f then some u else mA g)=none
   rw [if_neg q];exact z
theorem Inv.made(I:Inv X pins σ H s):Inv X pins σ (aP (aP H s.heap.objs.size (.own (s.heap.objs.size+1))) (s.heap.objs.size+1) (.ins C s.heap.objs.size []))
  { s with heap:=(s.heap.push W.emptyDict).push (W.instObj C s.heap.objs.size) }:=by
 have e1:(s.heap.push W.emptyDict).get? s.heap.objs.size=some W.emptyDict:=z1c s.heap rfl
 have e2:((s.heap.push W.emptyDict).push (W.instObj C s.heap.objs.size)).get? (s.heap.objs.size+1)=some (W.instObj C s.heap.objs.size):=by
  have:=z1c (s.heap.push W.emptyDict) (o:=W.instObj C s.heap.objs.size) rfl
  rwa [Heap.size_push] at this
 have e3:(s.heap.push W.emptyDict).Ns s.heap.objs.size (λ_=>none):=⟨W.emptyDict,#[],_,e1,rfl,(λe he=>absurd he (by simp)),λ_=>rfl⟩
 have I1:=I.laid (a:=s.heap.objs.size) (o:=.own (s.heap.objs.size+1)) (h':=s.heap.push W.emptyDict) (t':=s.toks) (λb u q=>zc _ q) (z13 _) ⟨_,e1⟩
 refine I1.laid (a:=s.heap.objs.size+1) (o:=.ins C s.heap.objs.size []) (t':=s.toks) (λb u q=>zc _ q) (Nat.le_of_eq (Heap.size_push _ _)) ?_
 have ne:s.heap.objs.size≠s.heap.objs.size+1:=z27 (z35 _)
 refine⟨by rw [aX ne,b4],Nat.zero_le _,ne,e2,λ_=>none,(Heap.Ns1.of_empty e3).at λo q=>zc _ q,λ_=>True.intro,λy hy=>absurd rfl hy⟩
theorem y94{prog:Program}{w:World}{env:Env}{e:Expr}{f:Str}{pos:Pos}{s:Shared}{Q:Value->Shared->Prop}(hb:attributeBase e f env (eval e env)=eval e env)
  (h:wpAny (model prog w) A (eval e env) (λo s₁=>wpAny (model prog w) A (getAttr o f true) Q E s₁) E s):wpAny (model prog w) A (eval (.Attribute e f pos) env) Q E s :=
 Attribute_any_ h (by rw [arm_eval_Attribute,hb])
end
noncomputable def tJ(K:W.Frag)(ta:TE)(f:Str):TE:=λσ H Q=>ta σ H λx H1=>∃a C dx fs v,x=.ref a/\H1 a=some (.ins C dx fs)/\Cls K C/\iC K C f/\fs.lookup f=some v/\Q v H1
noncomputable def tK(K:W.Frag)(ta tv:TE)(f:Str):TS:=λD σ H=>tv σ H λy H1=>ta σ H1 λx H2=>∃a C dx fs,x=.ref a/\H2 a=some (.ins C dx fs)/\Cls K C/\iC K C f/\fs.length<1000 /\
 D.nx σ (aP H2 a (.ins C dx (cR f y fs)))
section
variable {X:Cx}{o e value:Expr}{f:Str}{pos pos' tpos:Pos}{ta tv:TE}
theorem AX(he:PE X e ta)(hb:attributeBase e f X.env (eval e X.env)=eval e X.env):PE X (.Attribute e f pos) (tJ X.K ta f):=by
 intro pins s σ H Q I h
 refine y94 hb (aS (he pins s σ H _ I h) λu s1 ⟨x,H1,I1,rx,a,C,dx,fs,v,ex,ea,c,n,l,q⟩=>?_)
 subst ex
 obtain rfl:u=Value.ref a:=rx
 exact AV I1 ea c n l λu' s2 I2 ru=>⟨v,H1,I2,ru,q⟩
theorem AY(ha:PE X o ta)(hv:PE X value tv)(hs:swapsWith value (some (.Attribute o f pos')) pos.line X.env=pure false):PS X (.Assign [.Attribute o f pos'] value pos) (tK X.K ta tv f):=by
 intro pins s σ H D I h
 refine plainObj_wpAny_Assign_Attribute (aS (hv pins s σ H _ I h) λu s1 ⟨y,H1,I1,ry,q⟩=>aS (ha pins s1 σ H1 _ I1 q) λov s2 ⟨x,H2,I2,rx,a,C,dx,fs,ex,ea,c,n,l,q2⟩=>?_) hs
 subst ex
 obtain rfl:ov=Value.ref a:=rx
 exact AW I2 ea c n l ry λs3 I3=>⟨σ,_,I3,q2⟩
theorem IH{pl:Sem Bool}{m:Str}{apos:Pos}{args:List Expr}{pins:List (Addr×Obj)}{s:Shared}{σ:St}{H:Hp}{Q:Value->Shared->Prop}{te:TE}(he:PE X e te)(I:Inv X pins σ H s)
  (h:te σ H λx H1=>∃a C dx fs g,x=.ref a/\H1 a=some (.ins C dx fs)/\Cls X.K C/\Meth X.K C m g/\fs.lookup m=none /\
   ∀s1,Inv X pins σ H1 s1->wpAny (model X.prog X.w) X.A (callWith pos (.ref g) [.ref a] (backTo pos (starEach args X.env)) (backToKw pos (keywordEach [] X.env))) Q X.xe s1)
  (ht:eval (.Call (.Attribute e m apos) args [] pos) X.env=(do
   let ov <- eval e X.env
   standAt apos.atName
   let (f,first) <- holding [ov] (getMethod ov m pl)
   callWith pos f first (backTo pos (starEach args X.env)) (backToKw pos (keywordEach [] X.env)))) :
  wpAny (model X.prog X.w) X.A (eval (.Call (.Attribute e m apos) args [] pos) X.env) Q X.xe s:=by
 refine W.methodCall_KW (pl:=pl) (aS (he pins s σ H _ I h) λu s1 ⟨x,H1,I1,rx,a,C,dx,fs,g,ex,ea,c,k,l,q⟩=>?_) ht
 subst ex
 obtain rfl:u=Value.ref a:=rx
 exact oK I1 ea c k l (q s1 I1)
end
section
variable {X:Cx}{pins:List (Addr×Obj)}{σ:St}{H:Hp}{s:Shared}{A:Around}{E:Value->Shared->Prop}{Q:Value->Shared->Prop}{c:Value}{b:Bool}
inductive y5e(K:W.Frag)(H:Hp):V->Value->Prop where
 | non:y5e K H .non (.type "NoneType")
 | bl (x:Bool):y5e K H (.bl x) (.type "bool")
 | int (i:Int):y5e K H (.int i) (.type "int")
 | str (x:Str):y5e K H (.str x) (.type "str")
 | flt (x:UInt64):y5e K H (.flt x) (.type "float")
 | lst {a:Addr} {xs:List V} (e:H a=some (.lst xs)):y5e K H (.ref a) (.type "list")
 | frz {a:Addr} {o:Obj} {xs:List V} (e:H a=some (.frz o (.lst xs))):y5e K H (.ref a) (.type "list")
 | tup {a:Addr} {xs:List V} (e:H a=some (.tup xs)):y5e K H (.ref a) (.type "tuple")
 | dK {a:Addr} {kvs:List (aW×V)} (e:H a=some (.dK kvs)):y5e K H (.ref a) (.type "dict")
 | dT {a:Addr} {kvs:List (List aW×V)} (e:H a=some (.dT kvs)):y5e K H (.ref a) (.type "dict")
 | ins {a C dx:Addr} {fs:List (Str×V)} (e:H a=some (.ins C dx fs)) (cl:Cls K C) (ha:W.findIn K (.ref C) "__class__" = some (some (.builtin "object.__class__")))
   (hn:W.specialIn K (.builtin "object.__class__") "__get__" = some (some (.builtin "getset_descriptor.__get__"))) (htk:W.takesIn K (.builtin "object.__class__")=some true)
   (hm:W.mroIn K C (.type "object")=some true):y5e K H (.ref a) (.ref C)
theorem AZ{x:V}{u t:Value}(I:Inv X pins σ H s)(rx:aC x u)(ty:y5e X.K H x t)(e:W.kitOne X.K t c=some b)(h:∀tk,Q (.bool b) { s with toks:=tk }) :
  wpAny (model X.prog X.w) A (call (.builtin "isinstance") [u,c]) Q E s:=by
 cases ty with
 | non=>cases (show u=Value.none from rx);exact W.kia_one W.kitx_none I.kIn True.intro e (λz=>nomatch z) h
 | bl y=>cases (show u=Value.bool y from rx);exact W.kia_one W.kitx_bool I.kIn True.intro e (λz=>nomatch z) h
 | int i=>obtain⟨t,q⟩:=(show ∃t,u=Value.int i t from rx);cases q;exact W.kia_one W.kitx_int I.kIn True.intro e (λz=>nomatch z) h
 | str y=>obtain⟨t,q⟩:=(show ∃t,u=Value.str y t from rx);cases q;exact W.kia_one W.kitx_str I.kIn True.intro e (λz=>nomatch z) h
 | flt y=>obtain⟨t,q⟩:=(show ∃t,u=Value.float y t from rx);cases q;exact W.kia_one W.kitx_float I.kIn True.intro e (λz=>nomatch z) h
 | @lst a xs ea =>
  cases (show u=Value.ref a from rx)
  obtain⟨_,_,n,_,h1⟩:=(show eh X.prog X.w H s.heap a (.lst xs) from I.hok a _ ea)
  exact W.kia_one W.kitx_list I.kIn ⟨_,h1,rfl⟩ e (λz=>nomatch z) h
 | @frz a ob xs ea =>
  cases (show u=Value.ref a from rx)
  obtain⟨_,_,_,n,_,h1⟩:=(show eh X.prog X.w H s.heap a (.frz ob (.lst xs)) from I.hok a _ ea)
  exact W.kia_one W.kitx_list I.kIn ⟨_,h1,rfl⟩ e (λz=>nomatch z) h
 | @tup a xs ea =>
  cases (show u=Value.ref a from rx)
  obtain⟨_,_,_,p⟩:=(show eh X.prog X.w H s.heap a (.tup xs) from I.hok a _ ea)
  obtain⟨o,h1,h2,_⟩:=p
  exact W.kia_one W.kitx_tuple I.kIn ⟨o,h1,h2⟩ e (λz=>nomatch z) h
 | @dK a kvs ea =>
  cases (show u=Value.ref a from rx)
  obtain⟨_,_,vs,_,p⟩:=(show eh X.prog X.w H s.heap a (.dK kvs) from I.hok a _ ea)
  obtain⟨o,es,ep,h1,h2,_⟩:=p
  exact W.kia_one W.kitx_dict I.kIn ⟨o,h1,h2.1⟩ e (λz=>nomatch z) h
 | @dT a kvs ea =>
  cases (show u=Value.ref a from rx)
  obtain⟨_,_,xs,_,o,es,ep,h1,h2,_⟩:=(show eh X.prog X.w H s.heap a (.dT kvs) from I.hok a _ ea)
  exact W.kia_one W.kitx_dict I.kIn ⟨o,h1,h2.1⟩ e (λz=>nomatch z) h
 | @ins a C dx fs ea cl ha hn htk hm =>
  cases (show u=Value.ref a from rx)
  obtain⟨mA,O,_⟩:=lW I.hok ea
  obtain⟨od,J,_⟩:=O.look
  exact W.kia_one (W.kitx_own (cl.get _) cl.hd ha hn htk hm) I.kIn J e (λz=>nomatch z) h
end
end
section
structure y58(k:Nat)(A:Around):Prop where
 hd:A.handled=none
 dp:A.depth+3*k+5<recursionLimit
 un:A.units+16*k+200<cLine
 gd:A.guards=some []
theorem y58.mono{j k:Nat}{A:Around}(r:y58 k A)(h:j≤k):y58 j A:=⟨r.hd,by have:=r.dp;lia,by have:=r.un;lia,r.gd⟩
theorem y58.deeper{k:Nat}{A:Around}(r:y58 (k+1) A)(env:Env):y58 k (A.deeper env) :=
 ⟨r.hd,by have:=r.dp;show A.depth+1+3*k+5<_;lia,by have:=r.un;show A.units+3+16*k+200<_;lia,r.gd⟩
theorem A0{A:Around}{C:Addr}{us:List Value}{kw:List (Str×Value)}:(A.under (.builtin "type.__call__" ⟨.ref C::us,kw⟩)).depth=A.depth+1:=by
 first|rfl|simp [Around.under,Code.weight,Code.isCreation,Code.isGuard,Code.isCaller,Code.frames,Code.isFrame,guardIds]
theorem Ba{A:Around}{C:Addr}{us:List Value}{kw:List (Str×Value)}:(A.under (.builtin "type.__call__" ⟨.ref C::us,kw⟩)).units=A.units+1:=by
 first|rfl|simp [Around.under,Code.cUnits,Code.frames,Code.isFrame]
theorem y58.make{k:Nat}{A:Around}(r:y58 (k+1) A)(C:Addr)(us:List Value)(kw:List (Str×Value)):y58 k (A.under (.builtin "type.__call__" ⟨.ref C::us,kw⟩)) :=
 ⟨r.hd,by have:=r.dp;rw [A0];lia,by have:=r.un;rw [Ba];lia,by have:=r.gd;first|exact this|simpa [Around.under,Code.guards,Code.isGuard,guardIds,pushGuards] using this⟩
theorem y58.depth{k:Nat}{A:Around}(r:y58 k A):A.depth<recursionLimit:=by have:=r.dp;lia
theorem y58.units{k:Nat}{A:Around}(r:y58 k A):A.units+64<cLine:=by have:=r.un;lia
noncomputable def lX:TA:=λ_ H Q=>Q [] H
noncomputable def tL(ta:TE)(tr:TA):TA:=λσ H Q=>ta σ H λx H1=>tr σ H1 λxs H2=>Q (x::xs) H2
section
variable {X:Cx}{e:Expr}{es:List Expr}{te:TE}{t:TA}{pos:Pos}
theorem Bb:PA X [] lX:=λ_ _ _ _ H Q I h=>Calls.spliced_nil ⟨[],H,I,.nil,h⟩
theorem Bc(ha:PE X e te)(hr:PA X es t)(hs:starEach (e::es) X.env=(false,eval e X.env)::starEach es X.env:=by rfl):PA X (e::es) (tL te t):=by
 intro pos pins s σ H Q I h
 rw [hs]
 show wpAny _ _ (spliced ((false,eval e X.env)::backTo pos (starEach es X.env))) _ _ s
 refine Calls.spliced_cons (aS (ha pins s σ H _ I h) λu s1 ⟨x,H1,I1,r1,q1⟩=>?_)
 exact aS (hr pos pins s1 σ H1 _ I1 q1) λus s2 ⟨xs,H2,I2,r2,q2⟩=>⟨x::xs,H2,I2,.cons r1 r2,q2⟩
noncomputable def Bd(t:TA):TE:=λσ H Q=>t σ H λxs H1=>xs.length≤sizeLine/\∀p,H1 p=none->Q (.ref p) (aP H1 p (.tup xs))
noncomputable def Be(t:TA):TE:=λσ H Q=>t σ H λxs H1=>xs.length≤sizeLine/\∀p,H1 p=none->Q (.ref p) (aP H1 p (.lst xs))
theorem Bf{x1}(h:PA X es t):PE X (.Tuple es x1 pos) (Bd t):=by
 intro pins s σ H Q I hq
 refine wpAny_Tuple_spliced (aS (h pos pins s σ H _ I hq) λus s1 ⟨xs,H1,I1,r,z,q⟩=>⟨by rw [<- r.length];exact z,?_⟩)
 have hf:H1 s1.heap.objs.size=none:=I1.hok.fresh (z13 _)
 refine⟨.ref s1.heap.objs.size,aP H1 s1.heap.objs.size (.tup xs),I1.laid (t':=s1.toks) (λb u e=>zc _ e) (z13 _) ?_,rfl,q _ hf⟩
 exact⟨z,us,r,i9.mk' _ _⟩
theorem Bg(h:PA X es t):PE X (.List es pos) (Be t):=by
 intro pins s σ H Q I hq
 refine wpAny_List_spliced (aS (h pos pins s σ H _ I hq) λus s1 ⟨xs,H1,I1,r,z,q⟩=>⟨by rw [<- r.length];exact z,?_⟩)
 have hf:H1 s1.heap.objs.size=none:=I1.hok.fresh (z13 _)
 refine⟨.ref s1.heap.objs.size,aP H1 s1.heap.objs.size (.lst xs),I1.laid (t':=s1.toks) (λb u e=>zc _ e) (z13 _) ?_,rfl,q _ hf⟩
 exact⟨z,us,0,r,z1c _ rfl⟩
end
noncomputable abbrev Sp:=List V->Hp->VK->XK->Prop
noncomputable abbrev ka:=List Env->Hp->Shared->XK->Value->Shared->Prop
structure y11(P:Program)(w:World)(K:W.Frag)(mg:Str->Option Value)(base:Heap)(A:Around)(outer:List Env)(s:Shared)(H:Hp):Prop where
 frames:A.frames=some outer
 mod:Mod K mg base
 bs:∀b o,base.get? b=some o->s.heap.get? b=some o/\H b=none
 bsz:base.objs.size≤s.heap.objs.size
 y185:s.heap.FunFrames base outer
 frf:∀b∈kg outer,H b=none
 hok:dI P w H s.heap
 bare:AllBare s.gens
noncomputable def CE(outer:List Env)(P:Program)(w:World)(H:Hp)(s:Shared)(Q:VK)(u:Value)(s':Shared):Prop :=
 ∃v H',s'.os=s.os/\AllBare s'.gens/\Un (kg outer) [] H H' s.heap s'.heap/\dI P w H' s'.heap/\aC v u/\Q v H'
noncomputable def CR(CX:ka)(outer:List Env)(P:Program)(w:World)(H:Hp)(s:Shared)(Q:VK)(E:XK)(r:Result)(s':Shared):Prop :=
 match r with
 | .ok (.ret u)=>CE outer P w H s Q u s'
 | .ok _=>False
 | .error e=>CX outer H s E e s'
structure y49(P:Program)(w:World)(K:W.Frag)(mg:Str->Option Value)(base:Heap)(CX:ka)(k:Nat)(f:Addr)(fd:FuncData)(ps:List Str)(sp:Sp):Prop where
 len:∀vs H Q E,sp vs H Q E->vs.length=ps.length
 run:∀(A:Around) (outer:List Env) (s:Shared) (H:Hp) (args:Args) (us:List Value) (vs:List V) (Q:VK) (E:XK),y58 k A->y11 P w K mg base A outer s H->BindsTo s fd args (ps.zip us)->az vs us->sp vs H Q E ->
  codeAny (model P w) A (.call (.ref f) args) (CR CX outer P w H s Q E) s
theorem y49.imp{P:Program}{w:World}{K:W.Frag}{mg:Str->Option Value}{base:Heap}{CX:ka}{k:Nat}{f:Addr}{fd:FuncData}{ps:List Str}{sp sp':Sp}(F:y49 P w K mg base CX k f fd ps sp)
  (h:∀vs H Q E,sp' vs H Q E->sp vs H Q E):y49 P w K mg base CX k f fd ps sp' :=
 ⟨λvs H Q E q=>F.len vs H Q E (h _ _ _ _ q),λA outer s H args us vs Q E hr he hb hv hs=>F.run A outer s H args us vs Q E hr he hb hv (h _ _ _ _ hs)⟩
theorem y11.make{P:Program}{w:World}{K:W.Frag}{mg:Str->Option Value}{base:Heap}{A:Around}{outer:List Env}{s:Shared}{H:Hp}(e:y11 P w K mg base A outer s H)(C:Addr)(us:List Value)(kw:List (Str×Value)) :
  y11 P w K mg base (A.under (.builtin "type.__call__" ⟨.ref C::us,kw⟩)) outer s H:=⟨by first|exact e.frames|(simpa [Around.under,Code.envs,Code.isFrame,pushEnvs] using e.frames),e.mod,e.bs,e.bsz,e.y185,e.frf,e.hok,e.bare⟩
section
variable {X:Cx}{pins:List (Addr×Obj)}{σ:St}{H:Hp}{s s':Shared}
theorem Inv.env0(I:Inv X pins σ H s):y11 X.prog X.w X.K X.mg X.base X.A X.stack s H :=
 ⟨I.ok.frames,I.ok.mod,I.bs,z21 I.ok.bsz I.sz,I.stack,I.y48a,I.hok,I.bare⟩
theorem Inv.after{Q:VK}{u:Value}(I:Inv X pins σ H s)(h:CE X.stack X.prog X.w H s Q u s'):EP X pins σ Q u s':=by
 obtain⟨v,H',os,bare,un,hok,r,q⟩:=h
 obtain⟨hh,g,d,t,os'⟩:=s'
 obtain rfl:os'=s.os:=os
 exact⟨v,H',I.call (h':=hh) (g':=g) (d':=d) (t':=t) (ch:=[]) un hok bare (λb z=>absurd z (by simp)),r,q⟩
end
noncomputable def lY(sp:Sp)(dvs:List V)(E:XK)(t:TA):TE:=λσ H Q=>t σ H λvs H1=>sp (vs++dvs) H1 Q E
noncomputable def oM(C:Addr)(m:Str)(sp:Sp)(dvs:List V)(E:XK)(ta:TE)(t:TA):TE:=λσ H Q=>ta σ H λx H1=>∃a dx fs,x=.ref a/\H1 a=some (.ins C dx fs)/\fs.lookup m=none /\
 t σ H1 λvs H2=>sp (x::(vs++dvs)) H2 Q E
noncomputable def tM(C:Addr)(sp:Sp)(dvs:List V)(E:XK)(t:TA):TE:=λσ H Q=>t σ H λvs H1=>∀x dx,H1 x=none->H1 dx=none->dx≠x ->
 sp (.ref x::(vs++dvs)) (aP (aP H1 dx (.own x)) x (.ins C dx [])) (λv H2=>v=.non/\Q (.ref x) H2) E
noncomputable def cY(K:W.Frag)(fd:FuncData)(ps:List Str)(ds:List Value):Prop :=
 ∀(s:Shared) (us:List Value),K.In s.heap->(us++ds).length=ps.length->BindsTo s fd ⟨us,[]⟩ (ps.zip (us++ds))
theorem cY.all{K:W.Frag}{fd:FuncData}{ps:List Str}(h:∀us:List Value,us.length=ps.length->bindArgs fd ⟨us,[]⟩=pure (ps.zip us)):cY K fd ps []:=λs us _ hl=>by
 rw [z17] at hl ⊢
 exact .of_eq (h us hl)
noncomputable def dy(CX:ka)(X:Cx)(E:XK):Prop:=∀(pins:List (Addr×Obj)) (σ:St) (H:Hp) (s:Shared) (e:Value) (s':Shared),Inv X pins σ H s->CX X.stack H s E e s'->X.xe e s'
section
variable {X:Cx}{CX:ka}{k:Nat}{f C:Addr}{fd:FuncData}{ps:List Str}{sp:Sp}{dvs:List V}{ds:List Value}{E:XK}{x m:Str}{p pos apos:Pos}{e o:Expr}{es:List Expr}{ta:TE}{t:TA}
theorem oN{pins:List (Addr×Obj)}{σ:St}{H:Hp}{s:Shared}{Q:VK}{us:List Value}{vs:List V}(F:y49 X.prog X.w X.K X.mg X.base CX k f fd ps sp)(hr:y58 k X.A)(hb:cY X.K fd ps ds)(hd:az dvs ds)(hx:dy CX X E)
  (I:Inv X pins σ H s) (r:az vs us) (h:sp (vs++dvs) H Q E):wpAny (model X.prog X.w) X.A (call (.ref f) us) (EP X pins σ Q) X.xe s:=by
 have r2:az (vs++dvs) (us++ds):=r.append hd
 have hl:(us++ds).length=ps.length:=by rw [<- r2.length];exact F.len _ _ _ _ h
 refine wpAny_call (codeAny_mono (F.run X.A X.stack s H ⟨us,[]⟩ (us++ds) (vs++dvs) Q E hr I.env0 (hb s us I.kIn hl) r2 h) λr s' hq=>?_)
 cases r with
 | error e=>exact hx pins σ H s e s' I hq
 | ok fl =>
  cases fl with
  | ret u=>exact I.after hq
  | next=>exact False.elim hq
  | brk=>exact False.elim hq
  | cont=>exact False.elim hq
abbrev kb(X:Cx)(e:Expr)(es:List Expr):Prop:=starEach (e::es) X.env=(false,eval e X.env)::starEach es X.env
abbrev ja(X:Cx)(pos:Pos)(es:List Expr):Prop:=(backTo pos (starEach es X.env)).any (·.1)=false
theorem Bh(F:y49 X.prog X.w X.K X.mg X.base CX k f fd ps sp)(hr:y58 k X.A)(hg:Gl X x)(hm:X.mg x=some (.ref f))(hk:W.keepIn X.K (.ref f)=true)(hb:cY X.K fd ps ds)(hd:az dvs ds)(hx:dy CX X E)
  (ha:PA X (e::es) t) (hdb:(x == ("__debug__" : Str))=false:=by decide) (he:kb X e es:=by rfl) (hpl:ja X pos es:=by rfl) :
  PE X (.Call (.Name x p) (e::es) [] pos) (lY sp dvs E t):=by
 intro pins s σ H Q I h
 refine wpAny_Call_Name_kw (oj I hg hm ?_ hdb)
 refine W.callWith_K (h₀:=X.base) I.ok.mod.kin hk (aS (ha pos pins s σ H _ I h) λus s1 ⟨vs,H1,I1,r,q⟩=>⟨I1.kIn,?_⟩) he hpl
 exact oN F hr hb hd hx I1 r q
theorem Bi{pl:Sem Bool}(he:PE X o ta)(c:Cls X.K C)(hm:Meth X.K C m f)(F:y49 X.prog X.w X.K X.mg X.base CX k f fd ps sp)(hr:y58 k X.A)(hb:cY X.K fd ps ds)(hd:az dvs ds)(hx:dy CX X E)(ha:PA X (e::es) t)
  (hst:starEach (e::es) X.env=(false,eval e X.env)::starEach es X.env:=by rfl) (hpl:ja X pos es:=by rfl)
  (ht:eval (.Call (.Attribute o m apos) (e::es) [] pos) X.env=(do
   let ov <- eval o X.env
   standAt apos.atName
   let (f,first) <- holding [ov] (getMethod ov m pl)
   callWith pos f first (backTo pos (starEach (e::es) X.env)) (backToKw pos (keywordEach [] X.env))):=by rfl) :
  PE X (.Call (.Attribute o m apos) (e::es) [] pos) (oM C m sp dvs E ta t):=by
 intro pins s σ H Q I h
 refine W.methodCall_KW (pl:=pl) (aS (he pins s σ H _ I h) λu s1 ⟨x,H1,I1,rx,a,dx,fs,ex,ea,l,q⟩=>?_) ht
 subst ex
 obtain rfl:u=Value.ref a:=rx
 refine oK I1 ea c hm l ?_
 refine W.callWith_K (first:=[.ref a]) (h₀:=X.base) I.ok.mod.kin hm.kp (aS (ha pos pins s1 σ H1 _ I1 q) λus s2 ⟨vs,H2,I2,r,q2⟩=>⟨I2.kIn,?_⟩) hst hpl
 exact oN (us:=.ref a::us) (vs:=.ref a::vs) F hr hb hd hx I2 (.cons rfl r) q2
theorem Bj{pl:Sem Bool}(he:PE X o ta)(c:Cls X.K C)(hm:Meth X.K C m f)(F:y49 X.prog X.w X.K X.mg X.base CX k f fd ps sp)(hr:y58 k X.A)(hb:cY X.K fd ps ds)(hd:az dvs ds)(hx:dy CX X E)
  (ht:eval (.Call (.Attribute o m apos) [] [] pos) X.env=(do
   let ov <- eval o X.env
   standAt apos.atName
   let (f,first) <- holding [ov] (getMethod ov m pl)
   callWith pos f first (backTo pos (starEach [] X.env)) (backToKw pos (keywordEach [] X.env))):=by rfl) :
  PE X (.Call (.Attribute o m apos) [] [] pos) (oM C m sp dvs E ta lX):=by
 intro pins s σ H Q I h
 refine W.methodCall_KW (pl:=pl) (aS (he pins s σ H _ I h) λu s1 ⟨x,H1,I1,rx,a,dx,fs,ex,ea,l,q⟩=>?_) ht
 subst ex
 obtain rfl:u=Value.ref a:=rx
 refine oK I1 ea c hm l ?_
 exact W.callWith_K0 (first:=[.ref a]) I1.kIn hm.kp (oN (us:=[.ref a]) (vs:=[.ref a]) F hr hb hd hx I1 (.cons rfl .nil) q)
structure Mk(K:W.Frag)(C f:Addr):Prop where
 makes:W.makesIn K C=true
 init:W.findIn K (.ref C) "__init__" = some (some (.ref f))
 fn:W.isFn K (.ref f)=true
 kp:W.keepIn K (.ref C)=true
theorem Bk{pins:List (Addr×Obj)}{σ:St}{H:Hp}{s:Shared}{Q:VK}{us:List Value}{vs:List V}(M:Mk X.K C f)(F:y49 X.prog X.w X.K X.mg X.base CX k f fd ps sp)(hr:y58 (k+1) X.A)(hb:cY X.K fd ps ds)(hd:az dvs ds)
  (hx:dy CX X E) (I:Inv X pins σ H s) (r:az vs us)
  (h:∀x dx,H x=none->H dx=none->dx≠x->sp (.ref x::(vs++dvs)) (aP (aP H dx (.own x)) x (.ins C dx [])) (λv H2=>v=.non/\Q (.ref x) H2) E) :
  wpAny (model X.prog X.w) X.A (call (.ref C) us) (EP X pins σ Q) X.xe s:=by
 have hq:=h (s.heap.objs.size+1) s.heap.objs.size (I.hok.fresh (Nat.le_succ _)) (I.hok.fresh (z13 _)) (z27 (z35 _))
 have I2:=Inv.made (C:=C) I
 have r2:az (V.ref (s.heap.objs.size+1)::(vs++dvs)) (Value.ref (s.heap.objs.size+1)::(us++ds)):=.cons rfl (r.append hd)
 have hl:(Value.ref (s.heap.objs.size+1)::us++ds).length=ps.length:=by
  have e:=r2.length
  rw [F.len _ _ _ _ hq] at e
  exact e.symm
 refine wpAny_call (AS (f:=f) I.kIn M.makes M.init (beq_iff_eq.mp M.fn) (codeAny_mono (F.run _ X.stack _ _ ⟨Value.ref (s.heap.objs.size+1)::us,[]⟩ (Value.ref (s.heap.objs.size+1)::(us++ds)) _ _ E (hr.make C us [])
  (I2.env0.make C us []) (hb _ (Value.ref (s.heap.objs.size+1)::us) I2.kIn hl) r2 hq) λr s' hq'=>?_))
 cases r with
 | error e=>exact hx pins σ _ _ e s' I2 hq'
 | ok fl =>
  cases fl with
  | ret u =>
   obtain⟨v,H',I3,rv,ev,q3⟩:=I2.after hq'
   subst ev
   exact⟨rv,⟨V.ref (s.heap.objs.size+1),H',I3,rfl,q3⟩⟩
  | next=>exact False.elim hq'
  | brk=>exact False.elim hq'
  | cont=>exact False.elim hq'
theorem Bl(M:Mk X.K C f)(F:y49 X.prog X.w X.K X.mg X.base CX k f fd ps sp)(hr:y58 (k+1) X.A)(hg:Gl X x)(hm:X.mg x=some (.ref C))(hb:cY X.K fd ps ds)(hd:az dvs ds)(hx:dy CX X E)
  (hdb:(x == ("__debug__" : Str))=false:=by decide):PE X (.Call (.Name x p) [] [] pos) (tM C sp dvs E lX):=by
 intro pins s σ H Q I h
 refine wpAny_Call_Name_kw (oj I hg hm ?_ hdb)
 exact W.callWith_K0 I.kIn M.kp (Bk (us:=[]) M F hr hb hd hx I .nil h)
end
section
variable {X:Cx}{CX:ka}{k:Nat}{f C:Addr}{fd:FuncData}{ps ks:List Str}{sp:Sp}{E:XK}{x m:Str}{p pos apos kpos:Pos}{e o:Expr}{es:List Expr}{kws:List Keyword}{te ta:TE}{t tk:TA}{nm:Option Str}
structure KBinds(K:W.Frag)(fd:FuncData)(ps ks:List Str)(g:List Value->List Value->List Value)(gV:List V->List V->List V):Prop where
 to:∀(s:Shared) (us ws:List Value),K.In s.heap->(g us ws).length=ps.length->BindsTo s fd ⟨us,ks.zip ws⟩ (ps.zip (g us ws))
 rel:∀{vs:List V} {us:List Value} {zs:List V} {ws:List Value},az vs us->az zs ws->az (gV vs zs) (g us ws)
variable {g:List Value->List Value->List Value}{gV:List V->List V->List V}
end
structure y4a(N P:List Str)(sc:Scope):Prop where
 kind:sc.kind=.function
 co:sc.isCoroutine=false
 gen:sc.isGenerator=false
 nd:N.Nodup
 pre:N.take P.length=P
 par:∀x∈P,sc.names.lookup x=some .local∨sc.names.lookup x=some .cell
 y29e:∀y∈sc.names,y.2≠.free
theorem ya9{kindOf:Str->Option NameKind}{x:Str}:∀{binds:List (Str×Value)} {m:Str->Option Value},(∀v,(x,v)∉binds)->bindL kindOf binds m x=m x
 | [],_,_=>rfl
 | (n,v)::r,m,h=>by
  unfold bindL
  rw [ya9 λw hw=>h w (z1d _ hw)]
  split
  ·have:x≠n:=by rintro rfl;exact h v List.mem_cons_self
   simp [this]
  ·rfl
theorem ya7{kindOf:Str->Option NameKind}{x:Str}:∀{binds:List (Str×Value)} {m:Str->Option Value},(∀v,(x,v)∉binds)->bindC kindOf binds m x=m x
 | [],_,_=>rfl
 | (n,v)::r,m,h=>by
  unfold bindC
  rw [ya7 λw hw=>h w (z1d _ hw)]
  split
  ·rfl
  ·have:x≠n:=by rintro rfl;exact h v List.mem_cons_self
   simp [this]
theorem ya8{kindOf:Str->Option NameKind}{x:Str}{v:Value}:∀{P:List Str} {vs:List Value} {i:Nat} {m:Str->Option Value},P.Nodup->P[i]?=some x->vs[i]?=some v->kindOf x=some .local ->
  bindL kindOf (P.zip vs) m x=some v
 | [],_,_,_,_,h,_,_=>by simp at h
 | _::_,[],_,_,_,_,h,_=>by simp at h
 | p::P,w::vs,0,m,nd,h1,h2,hk=>by
  simp at h1 h2;subst h1;subst h2
  show bindL kindOf ((p,w)::P.zip vs) m p=_
  unfold bindL
  rw [ya9 λv hv=>(List.nodup_cons.mp nd).1 (List.of_mem_zip hv).1,if_pos hk]
  simp
 | p::P,w::vs,i+1,m,nd,h1,h2,hk=>by
  show bindL kindOf ((p,w)::P.zip vs) m x=_
  unfold bindL
  exact ya8 (i:=i) (List.nodup_cons.mp nd).2 (by simpa using h1) (by simpa using h2) hk
theorem ya6{kindOf:Str->Option NameKind}{x:Str}{v:Value}:∀{P:List Str} {vs:List Value} {i:Nat} {m:Str->Option Value},P.Nodup->P[i]?=some x->vs[i]?=some v->kindOf x≠some .local ->
  bindC kindOf (P.zip vs) m x=some v
 | [],_,_,_,_,h,_,_=>by simp at h
 | _::_,[],_,_,_,_,h,_=>by simp at h
 | p::P,w::vs,0,m,nd,h1,h2,hk=>by
  simp at h1 h2;subst h1;subst h2
  show bindC kindOf ((p,w)::P.zip vs) m p=_
  unfold bindC
  rw [ya7 λv hv=>(List.nodup_cons.mp nd).1 (List.of_mem_zip hv).1,if_neg hk]
  simp
 | p::P,w::vs,i+1,m,nd,h1,h2,hk=>by
  show bindC kindOf ((p,w)::P.zip vs) m x=_
  unfold bindC
  exact ya6 (i:=i) (List.nodup_cons.mp nd).2 (by simpa using h1) (by simpa using h2) hk
noncomputable def start(N:List Str)(vs:List V):St:=vs.map some++List.replicate (N.length-vs.length) none
noncomputable def oO(CX:ka)(P:Program)(w:World)(K:W.Frag)(mg:Str->Option Value)(base:Heap)(N:List Str)(qual:Str)(scope:Scope)(f:Addr)(cd:Value)(A:Around)(outer:List Env)(s:Shared)(H:Hp)(E:XK):Cx where
 prog:=P
 w:=w
 K:=K
 mg:=mg
 base:=base
 A:=A.deeper (envOfC qual scope s.heap.objs.size f cd)
 N:=N
 s₀:=s
 H₀:=H
 env:=envOfC qual scope s.heap.objs.size f cd
 outer:=outer
 stack:=envOfC qual scope s.heap.objs.size f cd::outer
 ex:=[]
 calm:=true
 fn:=λ_=>true
 pn:=[]
 xe:=λe s'=>wpAny (model P w) (A.deeper (envOfC qual scope s.heap.objs.size f cd)) (leaving (envOfC qual scope s.heap.objs.size f cd) e) (λ_ s''=>CX outer H s E e s'') (λe' s''=>CX outer H s E e' s'') s'
theorem ycd{sc:Scope}{n:Nat}{x:Str}(h:sc.names.lookup x=some .cell):∃c,(cellsFrom n sc.names []).lookup x=some c:=by
 have q:=W.cellsFrom_some sc.names n [] (.inl h)
 exact Option.isSome_iff_exists.mp q
theorem Bm{CX:ka}{P:Program}{w:World}{K:W.Frag}{mg:Str->Option Value}{base:Heap}{N ps:List Str}{qual:Str}{scope:Scope}{f:Addr}{cd:Value}{A:Around}{outer:List Env}{s s1:Shared}{H:Hp}{E:XK}{us:List Value}{vs:List V}
  (S:y4a N ps scope) (hd:A.handled=none) (e0:y11 P w K mg base A outer s H) (hl:vs.length=ps.length) (r:az vs us)
  (x:InCallC s s.heap.objs.size (bindL (envOfC qual scope s.heap.objs.size f cd).kindOf (ps.zip us) λ_=>none) (cellsFrom (s.heap.objs.size+1) scope.names []) (bindC (envOfC qual scope s.heap.objs.size f cd).kindOf (ps.zip us) λ_=>none) s1) :
  Inv (oO CX P w K mg base N qual scope f cd A outer s H E) [] (start N vs) H s1:=by
 have hpl:ps.length≤N.length:=by have:=congrArg List.length S.pre;rw [z38] at this;lia
 obtain⟨h1,tk,rfl,hk⟩:=x.done
 have noA:∀b:Addr,b∉(oO CX P w K mg base N qual scope f cd A outer s H E).ex:=λb z=>absurd (show b∈([]:List Addr) from z) (by simp)
 refine⟨⟨e0.mod,S.kind,rfl,rfl,z13 _,λy z c h1 h2=>?_,λy hy=>?_,λy c _ h=>?_,λ_=>hd,Around.frames_deeper e0.frames,.inr ⟨rfl,rfl⟩,λb z=>absurd z (noA b),e0.bs,e0.bsz,λb _ _=>noA b,λb z=>absurd z (noA b),e0.y185,e0.frf⟩,
  rfl,e0.bare,Un.kept hk,⟨_,x.toInCall.ns,λi y v h1 h2 h3=>?_⟩,λy c h=>⟨_,x.cell y c h⟩,e0.hok.fresh (z13 _),λy c h=>?_,λp hp=>absurd (show p∈([]:List (Addr×Obj)) from hp) (by simp),e0.hok.kept hk,?_⟩
 ·exact name_of_addr x.apart (PySem.mem_of_lookup h1) (PySem.mem_of_lookup h2)
 ·have hy:scope.names.lookup y=some .cell∨scope.names.lookup y=some .free:=hy
  rcases hy with hy|hy
  ·exact ycd hy
  ·exact absurd rfl (S.y29e _ (PySem.mem_of_lookup hy))
 ·exact Nat.le_of_lt (x.above y c (PySem.mem_of_lookup h))
 ·have hi:i<vs.length:=by
   unfold start at h2
   by_cases hi:i<vs.length
   ·exact hi
   ·rw [z28 (by simpa using hi)] at h2
    rw [List.getElem?_replicate] at h2
    split at h2<;>cases h2
  have ha:vs[i]?=some v:=by
   unfold start at h2
   rw [z2a (by simpa using hi),List.getElem?_map] at h2
   cases e:vs[i]? with
   | none=>rw [e] at h2;cases h2
   | some a=>rw [e] at h2;cases h2;rfl
  obtain⟨u,hu,rv⟩:=r.get ha
  have hp:ps[i]?=some y:=by
   rw [<- S.pre,List.getElem?_take_of_lt (by lia)];exact h1
  have ndP:ps.Nodup:=by rw [<- S.pre];exact S.nd.sublist (List.take_sublist _ _)
  refine⟨u,rv,?_⟩
  rcases S.par y (z30 hp) with k|k
  ·exact .inl ⟨k,ya8 ndP hp hu k⟩
  ·obtain⟨c,e⟩:=ycd (n:=s.heap.objs.size+1) k
   refine .inr ⟨.inl k,c,e,?_⟩
   have q:=x.cell y c e
   rw [ya6 ndP hp hu (by show scope.names.lookup y≠_;rw [k];decide)] at q
   exact q
 ·exact e0.hok.fresh (Nat.le_of_lt (x.above y c (PySem.mem_of_lookup h)))
 ·unfold start
  show _=N.length
  rw [z18,z14,List.length_replicate]
  lia
theorem tN{CX:ka}{P:Program}{w:World}{K:W.Frag}{mg:Str->Option Value}{base:Heap}{k:Nat}{f:Addr}{name qual:Str}{params:Arguments}{body:List Stmt}{scope:Scope}{dV kV doc pm cdv ct oc:Value}{an od:Option Addr}
  {osl:Array (Option Value)} {N ps:List Str} {sp:Sp} (lk:K.lookup f=some ⟨oc,od,.func (W.fnOf name qual params body scope dV kV doc pm an cdv ct),osl⟩) (hcd:W.codeIn K cdv qual=true) (S:y4a N ps scope)
  (len:∀vs H Q E,sp vs H Q E->vs.length=ps.length)
  (y1c6:∀(A:Around) (outer:List Env) (s:Shared) (H:Hp) (vs:List V) (Q:VK) (E:XK),y58 k (A.deeper (envOfC qual scope s.heap.objs.size f cdv))->sp vs H Q E ->
   ∃t,gY (oO CX P w K mg base N qual scope f cdv A outer s H E) body t/\t { nx:=λ_ H'=>Q .non H',rt:=Q } (start N vs) H) :
  y49 P w K mg base CX (k+1) f (W.fnOf name qual params body scope dV kV doc pm an cdv ct) ps sp:=by
 refine⟨len,λA outer s H args us vs Q E hr e0 hb r hsp=>?_⟩
 have hl:=len _ _ _ _ hsp
 have KX:K.In s.heap:=e0.mod.kin.keeps λb o e=>(e0.bs b o e).1
 have lim:s.heap.NoLimit:=e0.mod.nolimit.keeps λb o e=>(e0.bs b o e).1
 have hkind:∀y∈ps.zip us,scope.names.lookup y.1=some .local∨(scope.names.lookup y.1=some .cell/\((cellsFrom (s.heap.objs.size+1) scope.names []).lookup y.1).isSome=true):=λ⟨n,v⟩ hy=>by
  rcases S.par n (List.of_mem_zip hy).1 with q|q
  ·exact .inl q
  ·exact .inr ⟨q,W.cellsFrom_some _ _ _ (.inl q)⟩
 refine codeAny_call_function hr.depth (KX _ _ lk) rfl S.co S.gen rfl (W.codeRec_of KX hcd) (hb _ _ _ _ ?_)
 refine wpAny_newFunctionEnv_cells S.kind hkind λenv he s1 x=>?_
 subst he
 refine⟨lim.keeps x.toInCall.keep,codeAny_func ?_⟩
 obtain⟨t,ht,hq⟩:=y1c6 A outer s H vs Q E (hr.deeper _) hsp
 have I:Inv (oO CX P w K mg base N qual scope f cdv A outer s H E) [] (start N vs) H s1:=Bm S hr.hd e0 hl r x
 refine wpAny_mono (ht [] s1 (start N vs) H _ I hq) (λfl s' hs=>?_) λe s' hs=>hs
 have fin:∀{σ':St} {H':Hp} {v:V} {u:Value},Inv (oO CX P w K mg base N qual scope f cdv A outer s H E) [] σ' H' s'->aC v u->Q v H'->CE outer P w H s Q u s' :=
  λ{σ' H' v u} J rv q=>⟨v,H',J.os,J.bare,J.base,J.hok,rv,q⟩
 cases fl with
 | ret u =>
  obtain⟨v,σ',H',J,rv,q⟩:=hs
  exact fin J rv q
 | next =>
  obtain⟨σ',H',J,q⟩:=hs
  exact fin (v:=V.non) (u:=Value.none) J rfl q
 | brk =>
  obtain⟨_,_,_,q⟩:=hs
  exact False.elim q
 | cont =>
  obtain⟨_,_,_,q⟩:=hs
  exact False.elim q
end
section
section
variable {X:Cx}{x:Str}{p pos:Pos}{e:Expr}{es:List Expr}{t:TA}{id T:String}{r:List V->Hp->VK->Prop}
noncomputable def tCB(r:List V->Hp->VK->Prop)(t:TA):TE:=λσ H Q=>t σ H λvs H1=>r vs H1 Q
theorem lZ(hc:y9 X (.builtin id) r)(hg:Gl X x)(hm:X.mg x=none)(hv:bootBuiltins x=some (.builtin id))(ha:PA X (e::es) t)(hn:x≠"__name__":=by decide)(hdb:(x == ("__debug__" : Str))=false:=by decide)
  (he:kb X e es:=by rfl) (hpl:ja X pos es:=by rfl):PE X (.Call (.Name x p) (e::es) [] pos) (tCB r t):=by
 intro pins s σ H Q I h
 refine wpAny_Call_Name_kw (gE I hg hm hv ?_ hn hdb)
 exact PyProof.Rows.callWith_builtin1 (aS (ha pos pins s σ H _ I h) λus s1 ⟨vs,H1,I1,r1,q1⟩=>hc pins s1 σ H1 vs us Q I1 r1 q1) he hpl
theorem oP(hc:y9 X (.type T) r)(hg:Gl X x)(hm:X.mg x=none)(hv:bootBuiltins x=some (.type T))(ha:PA X (e::es) t)(hn:x≠"__name__":=by decide)(hdb:(x == ("__debug__" : Str))=false:=by decide)
  (he:kb X e es:=by rfl) (hpl:ja X pos es:=by rfl):PE X (.Call (.Name x p) (e::es) [] pos) (tCB r t):=by
 intro pins s σ H Q I h
 refine wpAny_Call_Name_kw (gE I hg hm hv ?_ hn hdb)
 exact PyProof.Rows.callWith_type1 (aS (ha pos pins s σ H _ I h) λus s1 ⟨vs,H1,I1,r1,q1⟩=>hc pins s1 σ H1 vs us Q I1 r1 q1) he hpl
end
end
section
section
variable {κ:Type}[DecidableEq κ]
noncomputable def dn(kvs:List (κ×V))(k:κ):Option V:=(kvs.find? λkv=>decide (kv.1=k)).map (·.2)
noncomputable def cE(kvs:List (κ×V))(k:κ)(v:V):List (κ×V) :=
 if (kvs.any λkv=>decide (kv.1=k))=true then kvs.map (λkv=>if kv.1=k then (kv.1,v) else kv) else kvs++[(k,v)]
theorem l6{p:κ×V}{r:List (κ×V)}{k:κ}(e:p.1=k):dn (p::r) k=some p.2:=by simp [dn,List.find?_cons,e]
theorem l7{p:κ×V}{r:List (κ×V)}{k:κ}(e:¬ p.1=k):dn (p::r) k=dn r k:=by simp [dn,List.find?_cons,e]
theorem tO(k:κ):∀kvs:List (κ×V),(kvs.any λkv=>decide (kv.1=k))=(dn kvs k).isSome
 | []=>rfl
 | p::r=>by
  rw [List.any_cons]
  by_cases e:p.1=k
  ·simp only [l6 e,decide_eq_true e,Bool.true_or,Option.isSome_some]
  ·rw [l7 e,decide_eq_false e,Bool.false_or];exact tO k r
theorem oQ(kvs:List (κ×V))(k:κ)(v:V):(cE kvs k v).length≤kvs.length+1:=by
 unfold cE
 split
 ·rw [z14];lia
 ·rw [z18,z20,List.length_nil];lia
theorem iB.y1f1{o:Option V}{u:Option Value}(r:iB o u):o.isSome=u.isSome:=by
 cases o with
 | none=>cases u with
  | none=>rfl
  | some _=>exact (show False from r).elim
 | some _=>cases u with
  | none=>exact (show False from r).elim
  | some _=>rfl
theorem KV.val{kvs:List (κ×V)}{vs:List (κ×Value)}(r:KV kvs vs)(k:κ):iB (dn kvs k) (valueAt vs k):=by
 unfold KV at r
 induction r with
 | nil=>exact True.intro
 | @cons p q ps qs h t ih =>
  obtain⟨h1,h2⟩:=h
  by_cases e:p.1=k
  ·have e':q.1=k:=h1.symm.trans e
   have b:valueAt (q::qs) k=some q.2:=by simp [valueAt,List.find?_cons,e']
   rw [l6 e,b];exact h2
  ·have e':¬ q.1=k:=λz=>e (h1.trans z)
   have b:valueAt (q::qs) k=valueAt qs k:=by simp [valueAt,List.find?_cons,e']
   rw [l7 e,b];exact ih
theorem KV.any{kvs:List (κ×V)}{vs:List (κ×Value)}(r:KV kvs vs)(k:κ):(kvs.any λkv=>decide (kv.1=k))=vs.any λkv=>decide (kv.1=k):=by
 unfold KV at r
 induction r with
 | nil=>rfl
 | cons h t ih=>rw [List.any_cons,List.any_cons,ih,h.1]
theorem KV.repl{kvs:List (κ×V)}{vs:List (κ×Value)}(r:KV kvs vs)(k:κ){y:V}{u:Value}(ry:aC y u) :
  KV (kvs.map λkv=>if kv.1=k then (kv.1,y) else kv) (vs.map λkv=>if kv.1=k then (kv.1,u) else kv):=by
 unfold KV at r ⊢
 induction r with
 | nil=>exact .nil
 | @cons p q ps qs h t ih =>
  rw [z19,z19]
  refine .cons ?_ ih
  obtain⟨h1,h2⟩:=h
  by_cases e:p.1=k
  ·rw [if_pos e,if_pos (h1.symm.trans e)];exact⟨h1,ry⟩
  ·rw [if_neg e,if_neg (λz=>e (h1.trans z))];exact⟨h1,h2⟩
theorem KV.put{kvs:List (κ×V)}{vs:List (κ×Value)}(r:KV kvs vs)(k:κ){y:V}{u:Value}(ry:aC y u):KV (cE kvs k y) (stored vs k u):=by
 unfold cE stored
 rw [r.any k]
 by_cases e:(vs.any λkv=>decide (kv.1=k))=true
 ·rw [if_pos e,if_pos e];exact r.repl k ry
 ·rw [if_neg e,if_neg e];exact Paired.snoc r ⟨rfl,ry⟩
theorem KV.length{kvs:List (κ×V)}{vs:List (κ×Value)}(r:KV kvs vs):kvs.length=vs.length:=Paired.length r
end
theorem jk{P:Program}{w:World}{k:aW}{u:Value}(r:aC (kV k) u):(dm P w).is k u=true:=by
 cases k with
 | inl i=>obtain⟨t,e⟩:=(show ∃t,u=Value.int i t from r);subst e;exact zO P w i t
 | inr x=>obtain⟨t,e⟩:=(show ∃t,u=Value.str x t from r);subst e;exact zP P w x t
theorem tP{P:Program}{w:World}:∀{ks:List aW} {us:List Value},az (ks.map kV) us->ItemsAre (dm P w) ks us
 | [],_,r=>by rw [List.map_nil] at r;cases r;exact .nil
 | k::ks,_,r=>by
  rw [z19] at r
  cases r with
  | cons h t=>exact .cons (jk h) (tP t)
noncomputable abbrev KT(H:Hp):List (List aW×V)->List (List aW×Addr×Value)->Prop:=Paired λp q=>p.1=q.1/\H q.2.1=some (.tup (p.1.map kV))/\aC p.2 q.2.2
theorem KT.val{H:Hp}{kvs:List (List aW×V)}{xs:List (List aW×Addr×Value)}(r:KT H kvs xs)(k:List aW):iB (dn kvs k) ((atKey xs k).map (·.2)):=by
 induction r with
 | nil=>exact True.intro
 | @cons p q ps qs h t ih =>
  obtain⟨h1,_,h2⟩:=h
  by_cases e:p.1=k
  ·have e':q.1=k:=h1.symm.trans e
   have b:atKey (q::qs) k=some q.2:=by simp [atKey,List.find?_cons,e']
   rw [l6 e,b];exact h2
  ·have e':¬ q.1=k:=λz=>e (h1.trans z)
   have b:atKey (q::qs) k=atKey qs k:=by simp [atKey,List.find?_cons,e']
   rw [l7 e,b];exact ih
theorem KT.repl{H:Hp}{kvs:List (List aW×V)}{xs:List (List aW×Addr×Value)}(r:KT H kvs xs)(k:List aW){y:V}{u:Value}(ry:aC y u) :
  KT H (kvs.map λkv=>if kv.1=k then (kv.1,y) else kv) (xs.map (putAt k u)):=by
 induction r with
 | nil=>exact .nil
 | @cons p q ps qs h t ih =>
  rw [z19,z19]
  refine .cons ?_ ih
  obtain⟨h1,h2,h3⟩:=h
  unfold putAt
  by_cases e:p.1=k
  ·rw [if_pos e,if_pos (h1.symm.trans e)];exact⟨h1,h2,ry⟩
  ·rw [if_neg e,if_neg (λz=>e (h1.trans z))];exact⟨h1,h2,h3⟩
theorem KT.put{H:Hp}{kvs:List (List aW×V)}{xs:List (List aW×Addr×Value)}(r:KT H kvs xs)(k:List aW){b:Addr}{y:V}{u:Value}(hb:H b=some (.tup (k.map kV)))(ry:aC y u) :
  KT H (cE kvs k y) (storedH xs k b u):=by
 have e:(kvs.any λkv=>decide (kv.1=k))=(atKey xs k).isSome:=by
  rw [tO,(r.val k).y1f1,Option.isSome_map]
 unfold cE storedH
 rw [e]
 by_cases q:(atKey xs k).isSome=true
 ·rw [if_pos q,if_pos q];exact r.repl k ry
 ·rw [if_neg q,if_neg q];exact Paired.snoc r ⟨rfl,hb,ry⟩
theorem KT.keeps{H H':Hp}{kvs:List (List aW×V)}{xs:List (List aW×Addr×Value)}(r:KT H kvs xs)(ht:∀b ys,H b=some (.tup ys)->H' b=some (.tup ys)):KT H' kvs xs :=
 Paired.mapP r λ_ _ z=>⟨z.1,ht _ _ z.2.1,z.2.2⟩
section
variable {P:Program}{w:World}{H:Hp}{h:Heap}{a:Addr}
theorem tQ{u:HO}(ok:dI P w H h)(e:Rd H a u):eh P w H h a u:=e.ok ok
theorem jl{kvs:List (aW×V)}(ok:dI P w H h)(e:Rd H a (.dK kvs)):kvs.length≤sizeLine/\(a == sysModules)=false/\∃vs,KV kvs vs/\h.DictOf (dm P w) a vs :=
 show eh P w H h a (.dK kvs) from tQ ok e
theorem tR{kvs:List (aW×V)}(ok:dI P w H h)(e:H a=some (.dK kvs)):kvs.length≤sizeLine/\(a == sysModules)=false/\∃vs,KV kvs vs/\h.DictOf (dm P w) a vs:=jl ok (.inl e)
theorem kj{ks:List aW}(ok:dI P w H h)(e:H a=some (.tup (ks.map kV))):(tupleKind (dm P w)).is h ks a:=by
 obtain⟨_,its,r,o,h1,h2,_,n,h3⟩:=(show eh P w H h a (.tup (ks.map kV)) from ok a _ e)
 exact⟨o,its.toArray,n,h1,h2,h3,by simpa using tP r⟩
theorem kl{kvs:List (List aW×V)}(ok:dI P w H h)(e:Rd H a (.dT kvs)):kvs.length≤sizeLine/\(a == sysModules)=false /\
  ∃xs,KT H kvs xs/\h.DictOfH (tupleKind (dm P w)) a xs:=by
 obtain⟨z,y,xs,r,o,es,ep,h1,h2,h3,h4,h5⟩:=(show eh P w H h a (.dT kvs) from tQ ok e)
 refine⟨z,y,xs,r,o,es,ep,h1,h2,h3,h4,λx hx=>?_,h5⟩
 have all:∀{l:List (List aW×V)} {m:List (List aW×Addr×Value)},KT H l m->∀x∈m,(tupleKind (dm P w)).is h x.1 x.2.1:=by
  intro l m q
  induction q with
  | nil=>intro x hx;exact nomatch hx
  | @cons p q ps qs hq t ih =>
   intro x hx
   rcases zb.mp hx with e|hx
   ·subst e
    exact kj ok (by rw [<- hq.1];exact hq.2.1)
   ·exact ih x hx
 exact all r x hx
theorem tT{kvs:List (List aW×V)}(ok:dI P w H h)(e:H a=some (.dT kvs)):kvs.length≤sizeLine/\(a == sysModules)=false /\
  ∃xs,KT H kvs xs/\h.DictOfH (tupleKind (dm P w)) a xs:=kl ok (.inl e)
end
noncomputable def ye(H:Hp)(a:Addr)(y:V)(r:Option V):Prop :=
 (∃kvs k,Rd H a (.dK kvs)/\y=kV k/\r=dn kvs k)∨∃kvs k b,Rd H a (.dT kvs)/\y=.ref b/\H b=some (.tup (k.map kV))/\r=dn kvs k
noncomputable def yf(H:Hp)(a:Addr)(y v:V)(H':Hp):Prop :=
 (∃kvs k,H a=some (.dK kvs)/\y=kV k/\kvs.length<sizeLine/\H'=aP H a (.dK (cE kvs k v))) ∨
 ∃kvs k b,H a=some (.dT kvs)/\y=.ref b/\H b=some (.tup (k.map kV))/\kvs.length<sizeLine/\H'=aP H a (.dT (cE kvs k v))
theorem ye.k{H:Hp}{a:Addr}{kvs:List (aW×V)}{k:aW}(e:H a=some (.dK kvs)):ye H a (kV k) (dn kvs k):=.inl ⟨kvs,k,.inl e,rfl,rfl⟩
theorem ye.t{H:Hp}{a b:Addr}{kvs:List (List aW×V)}{k:List aW}(e:H a=some (.dT kvs))(eb:H b=some (.tup (k.map kV))):ye H a (.ref b) (dn kvs k):=.inr ⟨kvs,k,b,.inl e,rfl,eb,rfl⟩
theorem yf.k{H:Hp}{a:Addr}{kvs:List (aW×V)}{k:aW}{v:V}(e:H a=some (.dK kvs))(hl:kvs.length<sizeLine):yf H a (kV k) v (aP H a (.dK (cE kvs k v))):=.inl ⟨kvs,k,e,rfl,hl,rfl⟩
theorem yf.t{H:Hp}{a b:Addr}{kvs:List (List aW×V)}{k:List aW}{v:V}(e:H a=some (.dT kvs))(eb:H b=some (.tup (k.map kV)))(hl:kvs.length<sizeLine) :
  yf H a (.ref b) v (aP H a (.dT (cE kvs k v))):=.inr ⟨kvs,k,b,e,rfl,eb,hl,rfl⟩
section
variable {X:Cx}{pins:List (Addr×Obj)}{σ:St}{H:Hp}{s:Shared}{a:Addr}{y v:V}{u r:Value}{o:Option V}{A:Around}{E:Value->Shared->Prop}
theorem Inv.big(I:Inv X pins σ H s):sysModules<s.heap.objs.size:=by
 have h:mainGlobals<s.heap.objs.size:=(I.mod.glob.keeps I.bk).lt
 exact Nat.lt_trans (by decide) h
theorem yf1{Q:Value->Shared->Prop}(hu:A.units+1<cLine)(I:Inv X pins σ H s)(g:ye H a y (some v))(ry:aC y u)(h:∀w' s',Inv X pins σ H s'->aC v w'->Q w' s') :
  wpAny (model X.prog X.w) A (getItem (.ref a) u) Q E s:=by
 rcases g with⟨kvs,k,e,ey,l⟩| ⟨kvs,k,b,e,ey,eb,l⟩
 ·subst ey
  obtain⟨z,hd,vs,rel,dd⟩:=jl I.hok e
  obtain⟨w',hw,rw'⟩:=iB.some_of (v:=v) (o:=valueAt vs k) (by rw [l];exact rel.val k)
  exact wpAny_getItem_of (jk ry) dd.mapOf hw (h w' _ (I.tok _) rw')
 ·subst ey
  cases (show u=Value.ref b from ry)
  obtain⟨z,hd,xs,rel,dd⟩:=kl I.hok e
  obtain⟨w',hw,rw'⟩:=iB.some_of (v:=v) (o:=(atKey xs k).map (·.2)) (by rw [l];exact rel.val k)
  obtain⟨p,hp,hp2⟩:=Option.map_eq_some_iff.mp hw
  refine wpAny_getItem_heap (tupleKind_room_in1 hu) (kj I.hok eb) dd hp ?_
  rw [hp2]
  exact h w' _ (I.tok _) rw'
theorem Bn{Q:Value->Shared->Prop}(hu:A.units+1<cLine)(I:Inv X pins σ H s)(g:ye H a y o)(ry:aC y u)(h:∀s',Inv X pins σ H s'->Q (.bool o.isSome) s') :
  wpAny (model X.prog X.w) A (compareOp .In u (.ref a)) Q E s:=by
 rcases g with⟨kvs,k,e,ey,l⟩| ⟨kvs,k,b,e,ey,eb,l⟩
 ·subst ey
  obtain⟨z,hd,vs,rel,dd⟩:=jl I.hok e
  refine wpAny_in_of (jk ry) hd dd.mapOf ?_
  rw [<- (rel.val k).y1f1,<- l]
  exact h _ (I.tok _)
 ·subst ey
  cases (show u=Value.ref b from ry)
  obtain⟨z,hd,xs,rel,dd⟩:=kl I.hok e
  refine wpAny_in_heap (tupleKind_room_in1 hu) (kj I.hok eb) hd dd ?_
  have q:=(rel.val k).y1f1
  rw [Option.isSome_map] at q
  rw [<- q,<- l]
  exact h _ (I.tok _)
theorem yf2{Q:Value->Shared->Prop}(hu:A.units+1<cLine)(I:Inv X pins σ H s)(g:ye H a y o)(ry:aC y u)(h:∀s',Inv X pins σ H s'->Q (.bool (!o.isSome)) s') :
  wpAny (model X.prog X.w) A (compareOp .NotIn u (.ref a)) Q E s:=by
 rcases g with⟨kvs,k,e,ey,l⟩| ⟨kvs,k,b,e,ey,eb,l⟩
 ·subst ey
  obtain⟨z,hd,vs,rel,dd⟩:=jl I.hok e
  refine wpAny_notIn_of (jk ry) hd dd.mapOf ?_
  rw [<- (rel.val k).y1f1,<- l]
  exact h _ (I.tok _)
 ·subst ey
  cases (show u=Value.ref b from ry)
  obtain⟨z,hd,xs,rel,dd⟩:=kl I.hok e
  refine wpAny_notIn_heap (tupleKind_room_in1 hu) (kj I.hok eb) hd dd ?_
  have q:=(rel.val k).y1f1
  rw [Option.isSome_map] at q
  rw [<- q,<- l]
  exact h _ (I.tok _)
theorem Bo{h':Heap}{t':Nat}{ob:HO}(I:Inv X pins σ H s)(mu:rX (H a))(hs:Heap.SameBut a s.heap h')(he:∃q,h'.get? a=some q)(new:eh X.prog X.w (aP H a ob) h' a ob) :
  Inv X pins σ (aP H a ob) { s with heap:=h',toks:=t' } :=
 I.write (x:=a) (e:=a) mu (.inl rfl) (λb q hb z=>(hs.2 b hb).trans z) he new
theorem tU{P:Program}{w:World}{H':Hp}{h':Heap}{kvs:List (aW×V)}{vs:List (aW×Value)}(z:kvs.length≤sizeLine)(hd:(a == sysModules)=false)(rel:KV kvs vs)(dd:h'.DictOf (dm P w) a vs) :
  eh P w H' h' a (.dK kvs):=⟨z,hd,vs,rel,dd⟩
theorem yf3{H':Hp}{Q:Unit->Shared->Prop}(hu:A.units+1<cLine)(I:Inv X pins σ H s)(g:yf H a y v H')(ry:aC y u)(rv:aC v r)(h:∀s',Inv X pins σ H' s'->Q () s') :
  wpAny (model X.prog X.w) A (setItem (.ref a) u r) Q E s:=by
 rcases g with⟨kvs,k,e,ey,l,eH⟩| ⟨kvs,k,b,e,ey,eb,l,eH⟩
 ·subst ey eH
  obtain⟨z,hd,vs,rel,dd⟩:=tR I.hok e
  have hz:vs.length≤sizeLine:=by rw [<- rel.length];exact z
  have hl:(cE kvs k v).length≤sizeLine:=by have:=oQ kvs k v;lia
  refine wpAny_setItem_pairs (hsz:=hz) (jk ry) dd λh' dd' hs=>h _ ?_
  have he:∃q,h'.get? a=some q:=let ⟨q,_,_,hq,_⟩:=dd';⟨q,hq⟩
  exact Bo I (by rw [e];exact True.intro) hs he (tU hl hd (rel.put k rv) dd')
 ·subst ey eH
  cases (show u=Value.ref b from ry)
  obtain⟨z,hd,xs,rel,dd⟩:=tT I.hok e
  have hz:xs.length≤sizeLine:=by rw [<- Paired.length rel];exact z
  have hl:(cE kvs k v).length≤sizeLine:=by have:=oQ kvs k v;lia
  refine wpAny_setItem_heap (hsz:=hz) (tupleKind_room_in1 hu) (kj I.hok eb) dd λh' dd' hs=>h _ ?_
  obtain⟨q,es,ep,hq,h2,h3,h4,_,h5⟩:=dd'
  refine Bo I (by rw [e];exact True.intro) hs ⟨q,hq⟩ ⟨hl,hd,_,(rel.put k eb rv).keeps λc ys ec=>?_,q,es,ep,hq,h2,h3,h4,h5⟩
  rw [aX (oh ec e (λz=>nomatch z))]
  exact ec
end
section
variable {X:Cx}{pins:List (Addr×Obj)}{σ:St}{H:Hp}{s:Shared}{a:Addr}{kvs:List (aW×V)}{k:aW}{u:Value}{A:Around}{E:Value->Shared->Prop}
theorem tV{Q:Value->Shared->Prop}(I:Inv X pins σ H s)(e:Rd H a (.dK kvs))(h:∀t s',Inv X pins σ H s'->Q (.int kvs.length t) s'):wpAny (model X.prog X.w) A (call (.builtin "len") [.ref a]) Q E s:=by
 obtain⟨z,hd,vs,rel,dd⟩:=jl I.hok e
 refine call_len_dict hd dd (by rw [<- rel.length];rw [sizeLine_eq] at z;lia) ?_
 rw [<- rel.length]
 exact h _ _ (I.tok _)
end
noncomputable def tW(i:Expr):Prop:=∀ov iv,subscripted i false ov iv=operate [ov,iv] (getItem ov iv)
theorem Bp{prog:Program}{w:World}{A:Around}{E:Value->Shared->Prop}{s:Shared}{env:Env}{value slice:Expr}{pos:Pos}{T id:String}{Q:Value->Shared->Prop}
  (hl:typeLookup (.type T) "__getitem__" = pure (some (.builtin id))) (hs:tW slice)
  (h:wpAny (model prog w) A (eval value env) (λo s₁=>wpAny (model prog w) A (eval slice env) (λi s₂=>s₂.TypeIs o T/\wpAny (model prog w) A (getItem o i) Q E s₂) E s₁) E s) :
  wpAny (model prog w) A (eval (.Subscript value slice pos) env) Q E s:=by
 refine Subscript_ (wpAny_mono h (λo s₁ h₁=>wpAny_mono h₁ (λi s₂ h₂=>?_) λ_ _ x=>x) λ_ _ x=>x)
 obtain⟨hT,h₂⟩:=h₂
 unfold subscriptTail
 refine zd ?_
 rw [getitemInPython_of_ne hT.not_modules]
 refine zd (wpAny_specialOf hT hl ?_)
 have fin:wpAny (model prog w) A (subscripted slice false o i) (λr s₃=>wpAny (model prog w) A (letTemporaryGo value o r >>= λ_=>pure r) Q E s₃) E s₂:=by
  rw [hs o i]
  exact wpAny_operating (wpAny_mono h₂ (λr s₃ h₃=>zd (wpAny_letTemporaryGo (z1b h₃))) λ_ _ x=>x)
 first
  | exact z1b (zd fin)
  | exact zd (z1b (zd fin))
  | exact zd fin
theorem Bq{X:Cx}{pins:List (Addr×Obj)}{σ:St}{H:Hp}{s:Shared}{a:Addr}{y:V}{o:Option V}(I:Inv X pins σ H s)(g:ye H a y o):s.TypeIs (.ref a) "dict":=by
 rcases g with⟨kvs,k,e,_,_⟩| ⟨kvs,k,b,e,_,_,_⟩
 ·obtain⟨_,_,vs,_,dd⟩:=jl I.hok e
  exact dd.typeIs
 ·obtain⟨_,_,xs,_,dd⟩:=kl I.hok e
  exact dd.typeIs
noncomputable def tX(td ty:TE):TE:=λσ H Q=>td σ H λx H1=>ty σ H1 λy H2=>∃a v,x=.ref a/\ye H2 a y (some v)/\Q v H2
noncomputable def Br(ty td:TE):TE:=λσ H Q=>ty σ H λy H1=>td σ H1 λx H2=>∃a o,x=.ref a/\ye H2 a y o/\Q (.bl o.isSome) H2
noncomputable def Bs(ty td:TE):TE:=λσ H Q=>ty σ H λy H1=>td σ H1 λx H2=>∃a o,x=.ref a/\ye H2 a y o/\Q (.bl (!o.isSome)) H2
noncomputable def tY(td ty tv:TE):TS:=λD σ H=>tv σ H λv H1=>td σ H1 λx H2=>ty σ H2 λy H3=>∃a H4,x=.ref a/\yf H3 a y v H4/\D.nx σ H4
section
variable {X:Cx}{o i e value:Expr}{pos pos' tpos:Pos}{td ty tv:TE}
theorem Bt(hu:X.A.units+1<cLine)(ho:PE X o td)(hi:PE X i ty)(hs:tW i):PE X (.Subscript o i pos) (tX td ty):=by
 intro pins s σ H Q I h
 refine Bp PySem.F.slot_dict_getitem.lookup hs (aS (ho pins s σ H _ I h) λu s1 ⟨x,H1,I1,rx,q1⟩=>aS (hi pins s1 σ H1 _ I1 q1) λiv s2 ⟨y,H2,I2,ry,a,v,ex,g,q2⟩=>?_)
 subst ex
 obtain rfl:u=Value.ref a:=rx
 exact⟨Bq I2 g,yf1 hu I2 g ry λw' s3 I3 rw'=>⟨v,H2,I3,rw',q2⟩⟩
theorem Bu(hu:X.A.units+1<cLine)(hi:PE X i ty)(ho:PE X o td):PC X .In i o (Br ty td):=by
 intro pins s σ H Q I h
 refine aS (hi pins s σ H _ I h) λiv s1 ⟨y,H1,I1,ry,q1⟩=>aS (ho pins s1 σ H1 _ I1 q1) λu s2 ⟨x,H2,I2,rx,a,ov,ex,g,q2⟩=>?_
 subst ex
 obtain rfl:u=Value.ref a:=rx
 exact Bn hu I2 g ry λs3 I3=>⟨.bl ov.isSome,H2,I3,rfl,q2⟩
theorem Bv(hu:X.A.units+1<cLine)(hi:PE X i ty)(ho:PE X o td):PC X .NotIn i o (Bs ty td):=by
 intro pins s σ H Q I h
 refine aS (hi pins s σ H _ I h) λiv s1 ⟨y,H1,I1,ry,q1⟩=>aS (ho pins s1 σ H1 _ I1 q1) λu s2 ⟨x,H2,I2,rx,a,ov,ex,g,q2⟩=>?_
 subst ex
 obtain rfl:u=Value.ref a:=rx
 exact yf2 hu I2 g ry λs3 I3=>⟨.bl (!ov.isSome),H2,I3,rfl,q2⟩
theorem Bw(hu:X.A.units+1<cLine)(ho:PE X o td)(hi:PE X i ty)(hv:PE X value tv)(hs:swapsWith value (some (.Subscript o i pos')) pos.line X.env=pure false) :
  PS X (.Assign [.Subscript o i pos'] value pos) (tY td ty tv):=by
 intro pins s σ H D I h
 refine wpAny_Assign_Subscript (aS (hv pins s σ H _ I h) λr s1 ⟨v,H1,I1,rv,q1⟩=>aS (ho pins s1 σ H1 _ I1 q1) λu s2 ⟨x,H2,I2,rx,q2⟩=>aS (hi pins s2 σ H2 _ I2 q2) λiv s3 ⟨y,H3,I3,ry,a,H4,ex,g,q3⟩=>?_) hs
 subst ex
 obtain rfl:u=Value.ref a:=rx
 exact yf3 hu I3 g ry rv λs4 I4=>⟨σ,H4,I4,q3⟩
end
theorem Bx{P:Program}{w:World}{H:Hp}(h:Heap)(hb:sysModules<h.objs.size):eh P w H (h.push { cls:=.type "dict",data:=.dict #[] }) h.objs.size (.dK []) :=
 ⟨Nat.zero_le _,beq_eq_false_iff_ne.mpr (Ne.symm (z27 hb)),[],.nil,Heap.DictOf.new h⟩
section
variable {X:Cx}{pos:Pos}
end
noncomputable def l8:List (TE×TE)->St->Hp->(List (V×V)->Hp->Prop)->Prop
 | [],_,H,Q=>Q [] H
 | (tk,tv)::r,σ,H,Q=>tk σ H λx H1=>tv σ H1 λy H2=>l8 r σ H2 λps H3=>Q ((x,y)::ps) H3
noncomputable abbrev VV:List (V×V)->List (Value×Value)->Prop:=Paired λp q=>aC p.1 q.1/\aC p.2 q.2
noncomputable def tZ(X:Cx)(pos:Pos)(keys:List (Option Expr))(values:List Expr)(trs:List (TE×TE)):Prop :=
 ∀(pins:List (Addr×Obj)) (s:Shared) (σ:St) (H:Hp) (Q:List (V×V)->Hp->Prop),Inv X pins σ H s->l8 trs σ H Q ->
  wpAny (model X.prog X.w) X.A (evalPairs (pairTrees keys values X.env pos)) (λvs s'=>∃ps H',Inv X pins σ H' s'/\VV ps vs/\Q ps H') X.xe s
theorem By{X:Cx}{pos:Pos}:tZ X pos [] [] []:=λpins s σ H Q I h=>pairTrees_nil_walk ⟨[],H,I,.nil,h⟩
theorem Bz{X:Cx}{pos:Pos}{k v:Expr}{ks:List (Option Expr)}{vs:List Expr}{tk tv:TE}{trs:List (TE×TE)}(hk:PE X k tk)(hv:PE X v tv)(hr:tZ X pos ks vs trs) :
  tZ X pos (some k::ks) (v::vs) ((tk,tv)::trs):=λpins s σ H Q I h =>
 pairTrees_cons_walk (aS (hk pins s σ H _ I h) λu s1 ⟨x,H1,I1,rx,q1⟩=>aS (hv pins s1 σ H1 _ I1 q1) λw2 s2 ⟨y,H2,I2,ry,q2⟩ =>
  aS (hr pins s2 σ H2 _ I2 q2) λws s3 ⟨ps,H3,I3,rel,q3⟩=>⟨(x,y)::ps,H3,I3,.cons ⟨rx,ry⟩ rel,q3⟩)
noncomputable def iJ(kvs more:List (aW×V)):List (aW×V):=more.foldl (λacc kv=>cE acc kv.1 kv.2) kvs
theorem KV.merge:∀{more:List (aW×V)} {rs:List (aW×Value)} {kvs:List (aW×V)} {vs:List (aW×Value)},KV more rs->KV kvs vs->KV (iJ kvs more) (merged vs rs):=by
 intro more rs kvs vs r
 unfold KV at r
 induction r generalizing kvs vs with
 | nil=>intro q;exact q
 | @cons p q ps qs h t ih =>
  intro r0
  have e:KV (cE kvs p.1 p.2) (stored vs q.1 q.2):=by
   have:=r0.put p.1 h.2
   rw [<- h.1];exact this
  exact ih e
theorem t8:∀(more kvs:List (aW×V)),(iJ kvs more).length≤kvs.length+more.length
 | [],kvs=>by show kvs.length≤kvs.length+0;lia
 | p::r,kvs=>by
  have h1:=t8 r (cE kvs p.1 p.2)
  have h2:=oQ kvs p.1 p.2
  show (iJ (cE kvs p.1 p.2) r).length≤_
  rw [z20];lia
theorem yc7{P:Program}{w:World}:∀{kvs:List (aW×V)} {ws:List (Value×Value)},VV (kvs.map λkv=>(kV kv.1,kv.2)) ws->∃rs,Carries (dm P w) ws rs/\KV kvs rs
 | [],_,r=>by rw [List.map_nil] at r;cases r;exact⟨[],True.intro,.nil⟩
 | p::kvs,_,r=>by
  rw [z19] at r
  cases r with
  | @cons a b as bs h t =>
   obtain⟨rs,c,q⟩:=yc7 (P:=P) (w:=w) t
   obtain⟨b1,b2⟩:=b
   exact⟨(p.1,b2)::rs,⟨jk h.1,rfl,c⟩,.cons ⟨rfl,h.2⟩ q⟩
noncomputable def t9(trs:List (TE×TE)):TE:=λσ H Q=>∀p,H p=none->l8 trs σ (aP H p (.dK [])) λps H2=>H2 p=some (.dK [])/\∃kvs:List (aW×V),ps=kvs.map (λkv=>(kV kv.1,kv.2))/\kvs.length≤15/\Q (.ref p) (aP H2 p (.dK (iJ [] kvs)))
theorem BA{X:Cx}{pos:Pos}{keys:List (Option Expr)}{values:List Expr}{trs:List (TE×TE)}(h:tZ X pos keys values trs)(y1c0:keys.all (·.isSome)=true)(hl:keys.length=values.length)(h0:keys≠[])
  (h15:keys.length≤15):PE X (.Dict keys values pos) (t9 trs):=by
 intro pins s σ H Q I q
 have hn:=I.hok.fresh (z13 s.heap.objs.size)
 have I1:=I.laid (a:=s.heap.objs.size) (o:=.dK []) (h':=s.heap.push { cls:=.type "dict",data:=.dict #[] }) (t':=s.toks) (λ_ _ q=>zc _ q) (z13 _) (Bx s.heap I.big)
 refine wpAny_Dict_walk (knd:=dm X.prog X.w) y1c0 hl h0 h15 (aS (h pins _ σ _ _ I1 (q _ hn)) λws s2 ⟨ps,H2,I2,rel,e,kvs,ep,lk,q2⟩=>?_)
 subst ep
 obtain⟨rs,c,rk⟩:=yc7 (P:=X.prog) (w:=X.w) rel
 obtain⟨z,hd,vs0,r0,dd⟩:=tR I2.hok e
 cases r0
 refine⟨rs,c,dd,λh' dd' hs=>⟨.ref s.heap.objs.size,_,?_,rfl,q2⟩⟩
 have hz:(iJ [] kvs).length≤sizeLine:=by
  have h1:=t8 kvs []
  rw [List.length_nil] at h1
  rw [sizeLine_eq];lia
 have he:∃q,h'.get? s.heap.objs.size=some q:=let ⟨q,_,_,hq,_⟩:=dd';⟨q,hq⟩
 exact Bo I2 (by rw [e];exact True.intro) hs he (tU hz hd (rk.merge .nil) dd')
structure M1(X:Cx)(o:Expr)(m:Str)(apos:Pos)(e:Expr)(ye7:Pos):Prop where
 base:attributeBase o m X.env (eval o X.env)=eval o X.env
 few:((backTo ye7 (starEach [e] X.env)).all (λx=>!x.1)&&(backToKw ye7 (keywordEach [] X.env)).all (λx=>x.1.isSome)
  && decide (([e]:List Expr).length+([]:List Keyword).length+(if ([]:List Keyword).isEmpty then 0 else 1)<30))=true
 line:(apos.endLine == ye7.line)=true
 trees:backTo ye7 (starEach [e] X.env)=[(false,eval e X.env)]
structure M2(X:Cx)(o:Expr)(m:Str)(apos:Pos)(e f:Expr)(ye7:Pos):Prop where
 base:attributeBase o m X.env (eval o X.env)=eval o X.env
 few:((backTo ye7 (starEach [e,f] X.env)).all (λx=>!x.1)&&(backToKw ye7 (keywordEach [] X.env)).all (λx=>x.1.isSome)
  && decide (([e,f]:List Expr).length+([]:List Keyword).length+(if ([]:List Keyword).isEmpty then 0 else 1)<30))=true
 line:(apos.endLine == ye7.line)=true
 trees:backTo ye7 (starEach [e,f] X.env)=[(false,eval e X.env),(false,eval f X.env)]
section
variable {X:Cx}{pins:List (Addr×Obj)}{σ:St}{H:Hp}{s:Shared}{a:Addr}{y d:V}{u r:Value}{o:Option V}{A:Around}{E:Value->Shared->Prop}
end
section
variable {X:Cx}{o e f:Expr}{apos ye7:Pos}{td ty tx:TE}
end
section
variable {X:Cx}{pins:List (Addr×Obj)}{σ:St}{H:Hp}{s:Shared}{a:Addr}{kvs:List (aW×V)}{A:Around}{E:Value->Shared->Prop}
end
section
variable {X:Cx}{pins:List (Addr×Obj)}{σ:St}{H:Hp}{s:Shared}{a:Addr}{y:V}{u:Value}{A:Around}{E:Value->Shared->Prop}
end
end
end L2
namespace HT
open PySem PyProof.Rows
section
open PySem.SeqAt
open PySem.AutoSeq1 (wpAny_loadPart')
open PySem.MeetsSeq PySem.MeetsSeq2 PySem.MeetsSeq3
end
section
variable {prog:Program}{w:World}{A:Around}{E:Value->Shared->Prop}{s:Shared}
theorem ycc{t b:Addr}{vs ws:List Value}{Q:Value->Shared->Prop}(ht:IsTup s.heap t vs.toArray)(hb:IsTup s.heap b ws.toArray)(hv:vs≠[])
  (h1:ws=[]->Q (.ref t) s) (h2:ws≠[]->Q (.ref s.heap.objs.size) { s with heap:=s.heap.push { cls:=.type "tuple",data:=.seq (vs++ws).toArray } })
  (hsz:vs.length+ws.length≤sizeLine):wpAny (model prog w) A (binaryOp .Add (.ref t) (.ref b)) Q E s:=by
 obtain⟨⟨cls,dd,data,sl⟩,ho,hc,n,hd⟩:=id ht
 obtain⟨⟨cls2,dd2,data2,sl2⟩,ho2,hc2,n2,hd2⟩:=id hb
 simp only at hc hd hc2 hd2
 subst hc hd hc2 hd2
 have e:vs.toArray++ws.toArray=(vs++ws).toArray:=by simp
 by_cases hw:ws=[]
 ·exact concat_meets ⟨_,ho,rfl⟩ ⟨_,ho2,rfl⟩ noFill_tuple_add seq_tuple_add PySem.F.slot_tuple_add PySem.F.entry_tuple_add (PySem.F.args_tuple_add_2 _ _)
   (tuple_addW1 t b vs.toArray ws.toArray n n2 dd dd2 sl sl2 (by simpa using hv) (by simp [hw])) ⟨ho,ho2,h1 hw⟩
 ·refine concat_meets ⟨_,ho,rfl⟩ ⟨_,ho2,rfl⟩ noFill_tuple_add seq_tuple_add PySem.F.slot_tuple_add PySem.F.entry_tuple_add (PySem.F.args_tuple_add_2 _ _)
   (tuple_addW2 t b vs.toArray ws.toArray n n2 dd dd2 sl sl2 (by simpa using hv) (by simpa using hw) (by rw [ze,ze];exact hsz)) ⟨ho,ho2,?_⟩
  rw [e]
  exact h2 hw
noncomputable def sIx(n d:Nat):Option Int->Nat
 | none=>d
 | some v=>if v<0 then (v+(n:Int)).toNat else min v.toNat n
theorem y412(n d:Nat):sIx n d none=d:=rfl
theorem y411(n d k:Nat):sIx n d (some (k:Int))=min k n:=by
 show (if (k:Int)<0 then ((k:Int)+(n:Int)).toNat else min (k:Int).toNat n)=min k n
 rw [if_neg (by lia),Int.toNat_natCast]
theorem BB(n d:Nat)(hd:d≤n)(o:Option Int):sIx n d o≤n:=by
 cases o with
 | none=>exact hd
 | some v =>
  show (if v<0 then (v+(n:Int)).toNat else min v.toNat n)≤n
  by_cases hv:v<0
  ·rw [if_pos hv];lia
  ·rw [if_neg hv];exact Nat.min_le_right _ _
theorem yd1(v:Int)(n d:Nat):(if v<0 then max (v+(n:Int)) 0 else min v (n:Int))=((sIx n d (some v):Nat):Int):=by
 show (if v<0 then max (v+(n:Int)) 0 else min v (n:Int))=(((if v<0 then (v+(n:Int)).toNat else min v.toNat n):Nat):Int)
 by_cases hv:v<0
 ·simp only [if_pos hv];lia
 ·simp only [if_neg hv];lia
theorem y6c(lo hi:Option Int)(n:Nat):Builtin.Slice.sliceAdjust lo hi 1 (n:Int)=(((sIx n 0 lo:Nat):Int),((sIx n n hi:Nat):Int)):=by
 have h1:¬ ((1:Int)<0):=by lia
 unfold Builtin.Slice.sliceAdjust
 simp only [h1,if_false]
 refine Prod.ext ?_ ?_
 ·cases lo with
  | none=>rfl
  | some v=>exact yd1 v n 0
 ·cases hi with
  | none=>rfl
  | some v=>exact yd1 v n n
theorem BC(i j:Nat):Builtin.Slice.slicePlaces (i:Int) (j:Int) 1=j-i:=by
 unfold Builtin.Slice.slicePlaces
 have h1:(1:Int)>0:=by lia
 simp only [h1,if_true,Int.ediv_one]
 split<;>lia
theorem ua{v:Value}{o:Option Int}{Q:Option Int->Shared->Prop}(p:IsPart v o)(h:Q o s):wpAny (model prog w) A (Builtin.Slice.slicePartIndex v) Q E s:=by
 cases p with
 | none=>exact slicePart_none h
 | int i t=>exact slicePart_int h
theorem ub{sl:Addr}{vl vu:Value}{lo hi:Option Int}{n:Nat}{Q:Int×Int×Nat->Shared->Prop}(hs:s.heap.IsSliceOf sl vl vu .none)(pl:IsPart vl lo)(pu:IsPart vu hi)
  (h:Q (((sIx n 0 lo:Nat):Int),1,sIx n n hi-sIx n 0 lo) s):wpAny (model prog w) A (Builtin.Slice.sliceApplied (.ref sl) (pure (n:Int))) Q E s:=by
 obtain⟨os,hos,hcs,hds⟩:=id hs
 unfold Builtin.Slice.sliceApplied Builtin.Slice.sliceFields
 refine zd (zd (wpAny_field hos hds (x:=vl) rfl (zd (wpAny_field hos hds (x:=vu) rfl (zd (wpAny_field hos hds (x:=.none) rfl (z1b ?_)))))))
 refine zd (slicePart_none ?_)
 show wpAny _ _ (if ((1:Int) == 0)=true then _ else _) _ _ s
 rw [if_neg (by decide)]
 refine zd (ua pl (zd (ua pu (zd (z1b ?_)))))
 show wpAny _ _ (match Builtin.Slice.sliceAdjust lo hi 1 (n:Int) with|(lo,hi)=>pure (lo,(1:Int),Builtin.Slice.slicePlaces lo hi 1)) _ _ s
 rw [y6c lo hi n]
 show wpAny _ _ (pure (((sIx n 0 lo:Nat):Int),(1:Int),Builtin.Slice.slicePlaces ((sIx n 0 lo:Nat):Int) ((sIx n n hi:Nat):Int) 1)) _ _ s
 rw [BC]
 exact z1b h
theorem BD(xs:Array Value)(i k:Nat):((List.range k).filterMap λ(m:Nat)=>xs[((i:Int)+(m:Int)*1).toNat]?).toArray=((xs.toList.drop i).take k).toArray:=by
 have e:(λ(m:Nat)=>xs[((i:Int)+(m:Int)*1).toNat]?)=λm=>xs[i+m]?:=by
  funext m
  have:((i:Int)+(m:Int)*1).toNat=i+m:=by lia
  rw [this]
 rw [e]
 have:=pick_run xs i k
 rw [List.filterMap_map] at this
 have e2:((λx=>xs[x]?) ∘ λx=>i+x)=λm=>xs[i+m]?:=rfl
 rw [e2] at this
 rw [this]
theorem y190{t sl:Addr}{items:Array Value}{vl vu:Value}{lo hi:Option Int}{Q:Value->Shared->Prop}(ht:IsTup s.heap t items)(hs:s.heap.IsSliceOf sl vl vu .none)(pl:IsPart vl lo)(pu:IsPart vu hi)
  (hw:¬ (sIx items.size 0 lo=0/\sIx items.size items.size hi=items.size))
  (h:Q (.ref s.heap.objs.size) { s with heap:=s.heap.push { cls:=.type "tuple",data:=.seq ((items.toList.drop (sIx items.size 0 lo)).take (sIx items.size items.size hi-sIx items.size 0 lo)).toArray } })
  (hsz:items.size≤sizeLine):wpAny (model prog w) A (getItem (.ref t) (.ref sl)) Q E s:=by
 have y1d2:sizeOk (.seq ((items.toList.drop (sIx items.size 0 lo)).take (sIx items.size items.size hi-sIx items.size 0 lo)).toArray):=by
  show ((items.toList.drop (sIx items.size 0 lo)).take (sIx items.size items.size hi-sIx items.size 0 lo)).toArray.size≤sizeLine
  rw [ze,z38,z39,Array.length_toList]
  lia
 have hj:sIx items.size items.size hi≤items.size:=BB _ _ (z13 _) hi
 obtain⟨os,hos,hcs,hds⟩:=id hs
 have hTs:s.TypeIs (.ref sl) "slice":=⟨os,hos,hcs⟩
 unfold getItem
 try with_reducible refine wpAny_holding ?_
 first|refine zd (z1b ?_)|skip
 refine zd (wpAny_sequenceKey ht.typeIs (by decide) ?_)
 refine zd (wpAny_callSpecial?_slot (name:=Str.ofString "__getitem__") ht.typeIs PyProof.Rows.slot_tuple_getitem
  (wpAny_call_entry PyProof.Rows.slot_tuple_getitem ht.typeIs entry_tuple_getitem ?_ (args_tuple_getitem _ _)))
 show wpAny _ _ (Builtin.Tuple.tupleItemsOf (.ref t) >>= _) _ _ s
 refine zd (tupleItemsOf_ ht ?_)
 refine zd (wpAny_typeOf hTs ?_)
 rw [if_pos (by decide)]
 refine zd (ub hs pl pu ?_)
 have hno:¬ ((((sIx items.size 0 lo:Nat):Int) == 0&&(1:Int) == 1&&(sIx items.size items.size hi-sIx items.size 0 lo) == items.size)=true):=by
  intro q
  rw [z24,z24] at q
  have q1:((sIx items.size 0 lo:Nat):Int)=0:=eq_of_beq q.1.1
  have q2:sIx items.size items.size hi-sIx items.size 0 lo=items.size:=eq_of_beq q.2
  exact hw ⟨by lia,by lia⟩
 show wpAny _ _ (if (((sIx items.size 0 lo:Nat):Int) == 0&&(1:Int) == 1&&(sIx items.size items.size hi-sIx items.size 0 lo) == items.size)=true then _ else _) _ _ s
 rw [if_neg hno,BD]
 first
  | exact zd (m:=Builtin.Tuple.tupleExact _) (z33 (z1b ⟨_,rfl,z1b h⟩) y1d2)
  | exact zd (m:=Builtin.Tuple.tupleExact _) (z33 (zd (z1b (z1b ⟨_,rfl,z1b h⟩))) y1d2)
  | exact zd (zd (m:=Builtin.Tuple.tupleExact _) (z33 (z1b (z1b ⟨_,rfl,z1b h⟩)) y1d2))
  | exact zd (zd (m:=Builtin.Tuple.tupleExact _) (z33 (z1b ⟨_,rfl,z1b h⟩) y1d2))
end
end HT
namespace L2
open PySem PySem.Spec PyProof.Rows
section
noncomputable abbrev TO:=St->Hp->(Option Int->Hp->Prop)->Prop
noncomputable def PO(X:Cx)(e:Option Expr)(t:TO):Prop :=
 ∀(pins:List (Addr×Obj)) (s:Shared) (σ:St) (H:Hp) (Q:Option Int->Hp->Prop),Inv X pins σ H s->t σ H Q ->
  wpAny (model X.prog X.w) X.A (evalPart e X.env) (λu s'=>∃o H',Inv X pins σ H' s'/\IsPart u o/\Q o H') X.xe s
noncomputable def BE:TO:=λ_ H Q=>Q none H
noncomputable def oR(t:TE):TO:=λσ H Q=>t σ H λx H1=>∃i,x=.int i/\Q (some i) H1
section
variable {X:Cx}{e:Expr}{te:TE}{lo hi:Option Expr}{tl th:TO}{pos p2:Pos}
theorem BF:PO X none BE:=by
 intro pins s σ H Q I h
 rw [evalPart_none]
 exact z1b ⟨none,H,I,.none,h⟩
theorem uc(h:PE X e te):PO X (some e) (oR te):=by
 intro pins s σ H Q I hw
 rw [evalPart_some]
 refine aS (h pins s σ H _ I hw) λu s1 ⟨x,H1,I1,r1,q1⟩=>?_
 obtain⟨i,rfl,q⟩:=q1
 obtain⟨t,rfl⟩:=r1
 exact⟨some i,H1,I1,.int i t,q⟩
noncomputable def l9(X:Cx)(r:V->Option Int->Option Int->Hp->VK->Prop):Prop :=
 ∀(pins:List (Addr×Obj)) (s:Shared) (σ:St) (H:Hp) (x:V) (v vl vu:Value) (lo hi:Option Int) (sl:Addr) (Q:VK),Inv X pins σ H s->aC x v->s.heap.IsSliceOf sl vl vu .none->IsPart vl lo->IsPart vu hi->r x lo hi H Q ->
  ∃T id,typeLookup (.type T) "__getitem__" = pure (some (.builtin id))/\s.TypeIs v T/\wpAny (model X.prog X.w) X.A (getItem v (.ref sl)) (EP X pins σ Q) X.xe s
theorem l9.or{r r':V->Option Int->Option Int->Hp->VK->Prop}(h:l9 X r)(h':l9 X r'):l9 X (λx lo hi H Q=>r x lo hi H Q∨r' x lo hi H Q):=by
 intro pins s σ H x v vl vu lo hi sl Q I rx hs pl pu q
 rcases q with q|q
 ·exact h pins s σ H x v vl vu lo hi sl Q I rx hs pl pu q
 ·exact h' pins s σ H x v vl vu lo hi sl Q I rx hs pl pu q
noncomputable def tSl(r:V->Option Int->Option Int->Hp->VK->Prop)(te:TE)(tl th:TO):TE:=λσ H Q=>te σ H λx H1=>tl σ H1 λl H2=>th σ H2 λu H3=>r x l u H3 Q
theorem BG{r:V->Option Int->Option Int->Hp->VK->Prop}(hr:l9 X r)(he:PE X e te)(hl:PO X lo tl)(hu:PO X hi th):PE X (.Subscript e (.Slice lo hi none p2) pos) (tSl r te tl th):=by
 intro pins s σ H Q I h
 refine Subscript_ (aS (he pins s σ H _ I h) λv s1 ⟨x,H1,I1,r1,q1⟩=>?_)
 refine wpAny_Slice (aS (hl pins s1 σ H1 _ I1 q1) λvl s2 ⟨l,H2,I2,pl,q2⟩=>aS (hu pins s2 σ H2 _ I2 q2) λvu s3 ⟨u,H3,I3,pu,q3⟩=>?_)
 rw [evalPart_none]
 refine z1b ?_
 have I4:Inv X pins σ H3 { s3 with heap:=s3.heap.push { cls:=.type "slice",data:=.fields #[vl,vu,.none] } }:=I3.kept (t':=s3.toks) λb ob q=>zc _ q
 obtain⟨T,id,hT,ht,hg⟩:=hr pins { s3 with heap:=s3.heap.push { cls:=.type "slice",data:=.fields #[vl,vu,.none] } } σ H3 x v vl vu l u s3.heap.objs.size Q I4 r1 (Heap.IsSliceOf.new ..) pl pu q3
 show wpAny (model X.prog X.w) X.A (subscriptTail e (.Slice lo hi none p2) v (.ref s3.heap.objs.size)) (EP X pins σ Q) X.xe { s3 with heap:=s3.heap.push { cls:=.type "slice",data:=.fields #[vl,vu,.none] } }
 exact tail_any (ops:=[.ref s3.heap.objs.size,v]) ht hT hg (by with_unfolding_all rfl)
noncomputable def km(xs:List V)(lo hi:Option Int):List V:=(xs.drop (HT.sIx xs.length 0 lo)).take (HT.sIx xs.length xs.length hi-HT.sIx xs.length 0 lo)
theorem yea(xs:List V)(lo hi:Option Int):(km xs lo hi).length≤xs.length:=by
 unfold km
 rw [z38,z39]
 lia
noncomputable def BH(K:W.Frag):V->Option Int->Option Int->Hp->VK->Prop:=λx lo hi H Q=>∃a xs,x=.ref a/\bt K H a xs /\
 ¬ (HT.sIx xs.length 0 lo=0/\HT.sIx xs.length xs.length hi=xs.length)/\∀p,H p=none->Q (.ref p) (aP H p (.tup (km xs lo hi)))
theorem BI:l9 X (BH X.K):=by
 intro pins s σ H x v vl vu lo hi sl Q I rx hs pl pu h
 obtain⟨a,xs,rfl,hx,hw,q⟩:=h
 cases rx
 obtain⟨its,r,ht,hz⟩:=I.tuple hx
 have hlen:its.toArray.size=xs.length:=by rw [ze];exact r.length.symm
 refine⟨"tuple",_,PyProof.Rows.slot_tuple_getitem.lookup,ht.typeIs,?_⟩
 refine HT.y190 ht hs pl pu (by rw [hlen];exact hw) ?_ (by rw [hlen];exact hz)
 rw [hlen]
 refine⟨.ref s.heap.objs.size,_,I.laid (t':=s.toks) (o:=.tup (km xs lo hi)) (λb ob q=>zc _ q) (z13 _) ?_,rfl,q _ (I.hok.fresh (z13 _))⟩
 exact⟨z21 (yea xs lo hi) hz,_,(r.drop (HT.sIx xs.length 0 lo)).take (HT.sIx xs.length xs.length hi-HT.sIx xs.length 0 lo),i9.mk' _ _⟩
noncomputable def ud(K:W.Frag):R2:=λx y H Q=>∃a b xs ys,x=.ref a/\y=.ref b/\bt K H a xs/\bt K H b ys/\xs≠[]/\xs.length+ys.length≤sizeLine /\
 (ys=[]->Q (.ref a) H)/\(ys≠[]->∀p,H p=none->Q (.ref p) (aP H p (.tup (xs++ys))))
theorem az.y297{xs:List V}{us:List Value}(r:az xs us):us=[]↔xs=[]:=by
 cases r with
 | nil=>simp
 | cons _ _=>simp
theorem BJ:cx X (binaryOp .Add) (ud X.K):=by
 intro pins s σ H x y v u Q I rx ry h
 obtain⟨a,b,xs,ys,rfl,rfl,ha,hb,hx,hz,q1,q2⟩:=h
 cases rx
 cases ry
 obtain⟨its,r1,p1,_⟩:=I.tuple ha
 obtain⟨y1fa,r2,p2,_⟩:=I.tuple hb
 refine HT.ycc p1 p2 (λz=>hx (r1.y297.mp z)) (λz=>⟨.ref a,H,I,rfl,q1 (r2.y297.mp z)⟩) (λz=>?_) (by rw [<- r1.length,<- r2.length];exact hz)
 refine⟨.ref s.heap.objs.size,_,I.laid (t':=s.toks) (o:=.tup (xs++ys)) (λb ob q=>zc _ q) (z13 _) ?_,rfl,q2 (λw=>z (r2.y297.mpr w)) _ (I.hok.fresh (z13 _))⟩
 exact⟨by rw [z18];exact hz,_,r1.append r2,i9.mk' _ _⟩
end
end
section
noncomputable def kd(n:Nat)(i:Int):Option Nat:=if 0≤i then (if i<n then some i.toNat else none) else if -(n:Int)≤i then some (i+n).toNat else none
noncomputable def dN{α:Type}(xs:List α)(i:Int):Option α:=(kd xs.length i).bind λj=>xs[j]?
theorem ue{n:Nat}{i:Int}{j:Nat}(h:kd n i=some j):seqIndex? i n=some j/\j<n/\-(n:Int)≤i/\i<n:=by
 unfold kd at h
 by_cases h0:0≤i
 ·rw [if_pos h0] at h
  by_cases h1:i<n
  ·rw [if_pos h1] at h
   have e:i.toNat=j:=z25 h
   exact⟨by rw [seqIndex_of h0 h1,e],by lia,by lia,h1⟩
  ·rw [if_neg h1] at h;cases h
 ·rw [if_neg h0] at h
  by_cases h1:-(n:Int)≤i
  ·rw [if_pos h1] at h
   have e:(i+n).toNat=j:=z25 h
   exact⟨by rw [seqIndex_neg (by lia) h1,e],by lia,h1,by lia⟩
  ·rw [if_neg h1] at h;cases h
theorem BK{α:Type}{xs:List α}{i:Int}{v:α}(h:dN xs i=some v):∃j,seqIndex? i xs.length=some j/\xs[j]?=some v/\j<xs.length/\-(xs.length:Int)≤i/\i<xs.length:=by
 unfold dN at h
 cases e:kd xs.length i with
 | none=>rw [e] at h;cases h
 | some j =>
  rw [e] at h
  obtain⟨h1,h2,h3,h4⟩:=ue e
  exact⟨j,h1,h,h2,h3,h4⟩
theorem nR{α:Type}{xs:List α}{j:Nat}{v:α}(h:xs[j]?=some v):dN xs (j:Int)=some v:=by
 have hj:j<xs.length:=(z1f.mp h).1
 have e:kd xs.length (j:Int)=some j:=by
  unfold kd
  rw [if_pos (by lia),if_pos (by lia)];simp
 unfold dN;rw [e];exact h
noncomputable def fu(b:Expr):Prop:=∀o i,subscripted b false o i=operate [o,i] (getItem o i)
noncomputable def ma(X:Cx)(r:R2):Prop :=
 ∀(value slice:Expr) (pins:List (Addr×Obj)) (s:Shared) (σ:St) (H:Hp) (x y:V) (v u:Value) (Q:VK),Inv X pins σ H s->aC x v->aC y u->r x y H Q ->
  subscripted slice false v u=operate [v,u] (getItem v u)->wpAny (model X.prog X.w) X.A (subscriptTail value slice v u) (EP X pins σ Q) X.xe s
noncomputable def ko(X:Cx)(id:String)(r:V->List V->Hp->VK->Prop):Prop :=
 ∀(pins:List (Addr×Obj)) (s:Shared) (σ:St) (H:Hp) (x:V) (xs:List V) (v:Value) (us:List Value) (Q:VK),Inv X pins σ H s->aC x v->az xs us->r x xs H Q ->
  wpAny (model X.prog X.w) X.A (call (.builtin id) (v::us)) (EP X pins σ Q) X.xe s
section
variable {X:Cx}{a b:Expr}{ta tb:TE}{pos:Pos}
theorem ma.or{r r':R2}(h:ma X r)(h':ma X r'):ma X (λx y H Q=>r x y H Q∨r' x y H Q):=by
 intro value slice pins s σ H x y v u Q I rx ry q hs
 rcases q with q|q
 ·exact h value slice pins s σ H x y v u Q I rx ry q hs
 ·exact h' value slice pins s σ H x y v u Q I rx ry q hs
theorem ko.or{id:String}{r r':V->List V->Hp->VK->Prop}(h:ko X id r)(h':ko X id r'):ko X id (λx xs H Q=>r x xs H Q∨r' x xs H Q):=by
 intro pins s σ H x xs v us Q I rx rs q
 rcases q with q|q
 ·exact h pins s σ H x xs v us Q I rx rs q
 ·exact h' pins s σ H x xs v us Q I rx rs q
theorem uf{r:R2}(hr:ma X r)(ha:PE X a ta)(hb:PE X b tb)(hs:fu b):PE X (.Subscript a b pos) (lS r ta tb):=by
 intro pins s σ H Q I h
 exact Subscript_ (lU ha hb I h λv u s2 x y H2 I2 rx ry q=>hr a b pins s2 σ H2 x y v u Q I2 rx ry q (hs _ _))
noncomputable def ug(K:W.Frag):R2:=λx y H Q=>∃p xs i v,x=.ref p/\y=.int i/\bB K H p xs/\dN xs i=some v/\Q v H
noncomputable def uh(K:W.Frag):R2:=λx y H Q=>∃p xs i v,x=.ref p/\y=.int i/\bt K H p xs/\dN xs i=some v/\Q v H
noncomputable def uk:R2:=λx y H Q=>∃z i c,x=.str z/\y=.int i/\z.length≤sizeLine/\dN z.cps.toList i=some c/\Q (.str ⟨#[c]⟩) H
theorem BL:ma X (ug X.K):=by
 intro value slice pins s σ H x y v u Q I rx ry h hs
 obtain⟨p,xs,i,z,rfl,rfl,hq,he,q⟩:=h
 cases rx
 obtain⟨t,rfl⟩:=ry
 obtain⟨its,r,pl,hz⟩:=I.list hq
 obtain⟨j,h1,h2,h3,h4,h5⟩:=BK he
 obtain⟨w,ew,rw'⟩:=r.get h2
 have hl:=r.length
 have hn:=iI
 have fin:EP X pins σ Q w s:=⟨z,H,I,rw',q⟩
 by_cases h0:0≤i
 ·have hj:i.toNat=j:=by
   rw [seqIndex_of h0 h5] at h1
   exact z25 h1
  exact item_listR pl.isList h0 (by lia) (by rw [hj];simpa using ew) fin hs
 ·have hj:(i+(its.toArray.size:Int)).toNat=j:=by
   rw [seqIndex_neg (by lia) h4] at h1
   rw [ze,<- hl]
   exact z25 h1
  exact subscriptTail_builtinR (x:=w) pl.isList.typeIs slot_list_getitem.lookup
   (wpAny_getItem_list_neg (Q:=λr s'=>r=w/\EP X pins σ Q r s') pl.isList (by lia) (by rw [ze]<;>lia) (by lia) (by rw [hj];simpa using ew) ⟨rfl,fin⟩) hs
theorem BM:ma X (uh X.K):=by
 intro value slice pins s σ H x y v u Q I rx ry h hs
 obtain⟨p,xs,i,z,rfl,rfl,hq,he,q⟩:=h
 cases rx
 obtain⟨t,rfl⟩:=ry
 obtain⟨its,r,pl,hz⟩:=I.tuple hq
 obtain⟨j,h1,h2,h3,h4,h5⟩:=BK he
 obtain⟨w,ew,rw'⟩:=r.get h2
 have hl:=r.length
 have hn:=iI
 have fin:EP X pins σ Q w s:=⟨z,H,I,rw',q⟩
 exact subscriptTail_builtinR (x:=w) pl.typeIs slot_tuple_getitem.lookup
  (getItem_tuple (j:=j) (Q:=λr s'=>r=w/\EP X pins σ Q r s') pl (by lia) (by lia) (by rw [ze,<- hl];exact h1) (by simpa using ew) ⟨rfl,fin⟩) hs
theorem BN:ma X uk:=by
 intro value slice pins s σ H x y v u Q I rx ry h hs
 obtain⟨z,i,c,rfl,rfl,hz,he,q⟩:=h
 obtain⟨t,rfl⟩:=rx
 obtain⟨t',rfl⟩:=ry
 obtain⟨j,h1,h2,h3,h4,h5⟩:=BK he
 have hl:z.cps.toList.length=z.length:=by simp [Str.length]
 rw [hl] at h1 h4 h5
 have hn:=iI
 exact tail_any (typeIs_str s z t) slot_str_getitem.lookup (getItem_str (c:=c) (by
  have e1:decide (i < -(2 ^ 63:Int))=false:=decide_eq_false (by lia)
  have e2:decide (i ≥ 2 ^ 63)=false:=decide_eq_false (by lia)
  rw [e1,e2,Bool.or_false]) (by rw [h1];simpa using h2) ⟨.str ⟨#[c]⟩,H,I.tok _,⟨_,rfl⟩,q⟩) hs
noncomputable def BO(K:W.Frag):R2:=λx y H Q=>ug K x y H Q∨uh K x y H Q∨uk x y H Q
theorem BP:ma X (BO X.K):=BL.or (BM.or BN)
theorem BQ(its:List Value)(n j:Nat)(u:Value):Obj.mapSeq (·.setIfInBounds j u) { cls:=.type "list",data:=.seq its.toArray n }={ cls:=.type "list",data:=.seq (its.set j u).toArray n }:=by
 simp [Obj.mapSeq]
theorem Inv.lst{pins:List (Addr×Obj)}{σ:St}{H:Hp}{s:Shared}{p:Addr}{xs:List V}(I:Inv X pins σ H s)(h:H p=some (.lst xs)) :
  ∃(its:List Value) (n:Nat),az xs its/\s.heap.get? p=some { cls:=.type "list",data:=.seq its.toArray n }/\xs.length≤sizeLine:=by
 obtain⟨z,its,n,r,e⟩:=I.hok p _ h
 exact⟨its,n,r,e,z⟩
theorem Inv.y25d{pins:List (Addr×Obj)}{σ:St}{H:Hp}{s:Shared}{p:Addr}{xs ys:List V}{its its':List Value}{n n':Nat}{f:Obj->Obj}(I:Inv X pins σ H s)(h:H p=some (.lst xs))
  (ho:s.heap.get? p=some { cls:=.type "list",data:=.seq its.toArray n }) (hf:f { cls:=.type "list",data:=.seq its.toArray n }={ cls:=.type "list",data:=.seq its'.toArray n' }) (r:az ys its') (hz:ys.length≤sizeLine) (t:Nat) :
  Inv X pins σ (aP H p (.lst ys)) { s with heap:=s.heap.update p f,toks:=t }:=by
 have e:(s.heap.update p f).get? p=some { cls:=.type "list",data:=.seq its'.toArray n' }:=by
  rw [Heap.get?_update_self f ho (by rw [hf]<;>rfl),hf]
 refine I.write (x:=p) (e:=p) (by rw [h];trivial) (.inl rfl) (λb u hb q=>(Heap.get?_update_other _ _ (Ne.symm hb)).trans q) ⟨_,e⟩ ?_
 exact⟨hz,its',n',r,e⟩
noncomputable def um:V->V->V->Hp->(Hp->Prop)->Prop:=λo i v H Q=>∃p xs k j,o=.ref p/\i=.int k/\H p=some (.lst xs)/\kd xs.length k=some j/\Q (aP H p (.lst (xs.set j v)))
theorem kq:sG X um:=by
 intro pins s σ H o i v ov iv u Q I ro ri rv h
 obtain⟨p,xs,k,j,rfl,rfl,hp,hj,q⟩:=h
 cases ro
 obtain⟨t,rfl⟩:=ri
 obtain⟨its,n,r,ho,hz⟩:=I.lst hp
 obtain⟨h1,h2,h3,h4⟩:=ue hj
 have hl:=r.length
 have hn:=iI
 have I':Inv X pins σ (aP H p (.lst (xs.set j v))) { s with heap:=s.heap.update p (Obj.mapSeq (·.setIfInBounds j u)) } :=
  I.y25d hp ho (BQ its n j u) (r.set rv j) (by rw [z32];exact hz) s.toks
 by_cases h0:0≤k
 ·have hk:k.toNat=j:=by
   rw [seqIndex_of h0 h4] at h1
   exact z25 h1
  exact W.ki_setAt ho h0 (by lia) (by rw [ze,<- hl];exact h4) (by rw [hk];exact⟨_,I',q⟩)
 ·have hk:(k+(its.toArray.size:Int)).toNat=j:=by
   rw [seqIndex_neg (by lia) h3] at h1
   rw [ze,<- hl]
   exact z25 h1
  exact W.ki_setBack ho (by lia) (by rw [ze,<- hl];exact h3) (by lia) (by rw [hk];exact⟨_,I',q⟩)
theorem BR(lo hi:Option Int)(n:Nat):(sliceBounds lo hi none n).1=((HT.sIx n 0 lo:Nat):Int)/\(sliceBounds lo hi none n).2.1=((HT.sIx n n hi:Nat):Int)/\(sliceBounds lo hi none n).2.2=1:=by
 refine⟨?_,?_,rfl⟩
 ·cases lo with
  | none=>simp [sliceBounds,HT.sIx]
  | some i =>
   simp only [sliceBounds,HT.sIx,Option.getD_none,show (1:Int)>0 by decide,if_true]
   by_cases h:i<0
   ·simp only [h,if_true]<;>lia
   ·simp only [h,if_false]<;>lia
 ·cases hi with
  | none=>simp [sliceBounds,HT.sIx]
  | some i =>
   simp only [sliceBounds,HT.sIx,Option.getD_none,show (1:Int)>0 by decide,if_true]
   by_cases h:i<0
   ·simp only [h,if_true]<;>lia
   ·simp only [h,if_false]<;>lia
theorem BS(its:List Value)(lo hi:Option Int):slicePick its.toArray lo hi none=((its.drop (HT.sIx its.length 0 lo)).take (HT.sIx its.length its.length hi-HT.sIx its.length 0 lo)).toArray:=by
 obtain⟨h1,h2,h3⟩:=BR lo hi its.toArray.size
 unfold slicePick
 rw [h1,h2,h3]
 simp only [sliceRange_one,pick_run,ze]<;>rfl
noncomputable def uo(K:W.Frag):V->Option Int->Option Int->Hp->VK->Prop:=λx lo hi H Q=>∃a xs,x=.ref a/\bB K H a xs/\∀p,H p=none->Q (.ref p) (aP H p (.lst (km xs lo hi)))
theorem BU:l9 X (uo X.K):=by
 intro pins s σ H x v vl vu lo hi sl Q I rx hs pl pu h
 obtain⟨a,xs,rfl,hx,q⟩:=h
 cases rx
 obtain⟨its,r,ht,hz⟩:=I.list hx
 have hlen:=r.length
 refine⟨"list",_,slot_list_getitem.lookup,ht.isList.typeIs,?_⟩
 refine wpAny_getItem_list_slice ht.isList hs pl pu .none (by simp) ?_ (by rw [ze]<;>lia)
 rw [BS,<- hlen]
 refine⟨.ref s.heap.objs.size,_,I.laid (t':=s.toks) (o:=.lst (km xs lo hi)) (λb ob q=>zc _ q) (z13 _) ?_,rfl,q _ (I.hok.fresh (z13 _))⟩
 exact⟨z21 (yea xs lo hi) hz,_,0,(r.drop (HT.sIx xs.length 0 lo)).take (HT.sIx xs.length xs.length hi-HT.sIx xs.length 0 lo),z1c _ rfl⟩
noncomputable def a9:V->Bool
 | .non=>true
 | .bl _=>true
 | .int _=>true
 | .str _=>true
 | _=>false
noncomputable def fY:V->V->Bool
 | .non,.non=>true
 | .bl a,.bl b=>a == b
 | .bl a,.int b=>(if a then 1 else 0) == b
 | .int a,.bl b=>a == (if b then 1 else 0)
 | .int a,.int b=>a == b
 | .str a,.str b=>a == b
 | _,_=>false
theorem md{A:Around}{s:Shared}{y x:V}{u v:Value}(ry:aC y u)(rx:aC x v)(fy:a9 y=true)(fx:a9 x=true):SeqAt.EqAt A s u v (fY y x):=by
 cases y with
 | non =>
  cases ry
  cases x with
  | non=>cases rx;exact SeqAt.EqAt.same _
  | bl b=>cases rx;exact SeqAt.EqAt.none_bool b
  | int b=>obtain⟨t,rfl⟩:=rx;exact SeqAt.EqAt.none_int b t
  | str b=>obtain⟨t,rfl⟩:=rx;exact SeqAt.EqAt.none_str b t
  | _=>exact absurd (show false=true from fx) zf
 | bl a =>
  cases ry
  cases x with
  | non=>cases rx;exact SeqAt.EqAt.bool_none a
  | bl b=>cases rx;exact SeqAt.EqAt.bool_bool a b
  | int b=>obtain⟨t,rfl⟩:=rx;exact SeqAt.EqAt.bool_int a b t
  | str b=>obtain⟨t,rfl⟩:=rx;exact SeqAt.EqAt.bool_str a b t
  | _=>exact absurd (show false=true from fx) zf
 | int a =>
  obtain⟨t',rfl⟩:=ry
  cases x with
  | non=>cases rx;exact SeqAt.EqAt.int_none a t'
  | bl b=>cases rx;exact SeqAt.EqAt.int_bool a t' b
  | int b=>obtain⟨t,rfl⟩:=rx;exact SeqAt.EqAt.int_int a t' b t
  | str b=>obtain⟨t,rfl⟩:=rx;exact SeqAt.EqAt.int_str a t' b t
  | _=>exact absurd (show false=true from fx) zf
 | str a =>
  obtain⟨t',rfl⟩:=ry
  cases x with
  | non=>cases rx;exact SeqAt.EqAt.str_none a t'
  | bl b=>cases rx;exact SeqAt.EqAt.str_bool a t' b
  | int b=>obtain⟨t,rfl⟩:=rx;exact SeqAt.EqAt.str_int a t' b t
  | str b=>obtain⟨t,rfl⟩:=rx;exact SeqAt.EqAt.str_str a t' b t
  | _=>exact absurd (show false=true from fx) zf
 | _=>exact absurd (show false=true from fy) zf
noncomputable def iK(x:V)(u:Value):Bool:=match u with
 | .none=>fY .non x
 | .bool b=>fY (.bl b) x
 | .int i _=>fY (.int i) x
 | .str z _=>fY (.str z) x
 | _=>false
theorem uq{x y:V}{u:Value}(r:aC y u)(f:a9 y=true):iK x u=fY y x:=by
 cases y with
 | non=>cases r;rfl
 | bl b=>cases r;rfl
 | int i=>obtain⟨t,rfl⟩:=r;rfl
 | str z=>obtain⟨t,rfl⟩:=r;rfl
 | _=>exact absurd (show false=true from f) zf
theorem ur{x:V}:∀{xs:List V} {us:List Value},az xs us->xs.all a9=true->us.any (iK x)=xs.any λy=>fY y x
 | _,_,.nil,_=>rfl
 | y::xs,u::us,.cons r t,f=>by
  rw [List.all_cons,z24] at f
  rw [List.any_cons,List.any_cons,uq r f.1,ur t f.2]
theorem kr{A:Around}{s:Shared}{x:V}{v:Value}(rx:aC x v)(fx:a9 x=true):∀{xs:List V} {us:List Value},az xs us->xs.all a9=true->∀u∈us,SeqAt.EqAt A s u v (iK x u)
 | _,_,.nil,_=>λu hu=>by cases hu
 | y::xs,u::us,.cons r t,f=>λu' hu=>by
  rw [List.all_cons,z24] at f
  rcases zb.mp hu with rfl|hu
  ·rw [uq r f.1];exact md r rx f.1 fx
  ·exact kr rx fx t f.2 u' hu
noncomputable def inV(x:V)(xs:List V):Bool:=xs.any λy=>fY y x
noncomputable def yW(K:W.Frag)(neg:Bool):R2:=λx y H Q=>∃p xs,y=.ref p/\(bB K H p xs∨bt K H p xs)/\a9 x=true/\xs.all a9=true/\Q (.bl (if neg then !inV x xs else inV x xs)) H
theorem BV:cx X (compareOp .In) (yW X.K false):=by
 intro pins s σ H x y v u Q I rx ry h
 obtain⟨p,xs,rfl,hq,fx,fs,q⟩:=h
 cases ry
 rcases hq with hq|hq
 ·obtain⟨its,r,pl,hz⟩:=I.list hq
  refine SeqAt.in_listAt (iK x) pl.isList (λw hw=>kr rx fx r fs w (by simpa using hw)) ⟨.bl _,H,I,rfl,?_⟩
  rw [show its.toArray.any (iK x)=its.any (iK x) by simp,ur r fs]
  exact q
 ·obtain⟨its,r,pl,hz⟩:=I.tuple hq
  refine SeqAt.in_tupleAt (iK x) pl (λw hw=>kr rx fx r fs w (by simpa using hw)) ⟨.bl _,H,I,rfl,?_⟩
  rw [show its.toArray.any (iK x)=its.any (iK x) by simp,ur r fs]
  exact q
theorem BW:cx X (compareOp .NotIn) (yW X.K true):=by
 intro pins s σ H x y v u Q I rx ry h
 obtain⟨p,xs,rfl,hq,fx,fs,q⟩:=h
 cases ry
 rcases hq with hq|hq
 ·obtain⟨its,r,pl,hz⟩:=I.list hq
  refine SeqAt.notIn_listAt (iK x) pl.isList (λw hw=>kr rx fx r fs w (by simpa using hw)) ⟨.bl _,H,I,rfl,?_⟩
  rw [show its.toArray.any (iK x)=its.any (iK x) by simp,ur r fs]
  exact q
 ·obtain⟨its,r,pl,hz⟩:=I.tuple hq
  refine SeqAt.notIn_tupleAt (iK x) pl (λw hw=>kr rx fx r fs w (by simpa using hw)) ⟨.bl _,H,I,rfl,?_⟩
  rw [show its.toArray.any (iK x)=its.any (iK x) by simp,ur r fs]
  exact q
theorem ybe:y9 X (.builtin "len") (λxs H Q=>∃p ys,xs=[.ref p]/\(bB X.K H p ys∨bt X.K H p ys)/\Q (.int ys.length) H):=by
 intro pins s σ H xs us Q I r h
 obtain⟨p,ys,rfl,hq,q⟩:=h
 obtain⟨u,rfl,rx⟩:=cX r
 cases rx
 have hn:=iI
 rcases hq with hq|hq
 ·obtain⟨its,r',pl,hz⟩:=I.list hq
  have hlen:=r'.length
  exact Calls.call_len_list pl.isList (by simp only [ze]<;>lia) ⟨.int ys.length,H,I.tok _,⟨s.toks+1,by rw [ze,hlen]⟩,q⟩
 ·obtain⟨its,r',pl,hz⟩:=I.tuple hq
  have hlen:=r'.length
  exact len_tuple pl (by simp only [ze]<;>lia) ⟨.int ys.length,H,I.tok _,⟨s.toks+1,by rw [ze,hlen]⟩,q⟩
theorem ybf:y9 X (.builtin "len") (λxs H Q=>∃z,xs=[.str z]/\z.length≤sizeLine/\Q (.int z.length) H):=by
 intro pins s σ H xs us Q I r h
 obtain⟨z,rfl,hz,q⟩:=h
 obtain⟨u,rfl,t,rfl⟩:=cX r
 have hn:=iI
 exact len_str (by lia) ⟨.int z.length,H,I.tok _,⟨_,rfl⟩,q⟩
theorem y9.or{f:Value}{r r':List V->Hp->VK->Prop}(h:y9 X f r)(h':y9 X f r'):y9 X f (λxs H Q=>r xs H Q∨r' xs H Q):=by
 intro pins s σ H xs us Q I rs q
 rcases q with q|q
 ·exact h pins s σ H xs us Q I rs q
 ·exact h' pins s σ H xs us Q I rs q
theorem yc5:y9 X (.type "tuple") (λxs H Q=>∃p ys,xs=[.ref p]/\((bB X.K H p ys/\∀l,H l=none->Q (.ref l) (aP H l (.tup ys)))∨(bt X.K H p ys/\Q (.ref p) H))):=by
 intro pins s σ H xs us Q I r h
 obtain⟨p,ys,rfl,h⟩:=h
 obtain⟨u,rfl,rx⟩:=cX r
 cases rx
 rcases h with⟨hq,q⟩| ⟨hq,q⟩
 ·obtain⟨its,r',pl,hz⟩:=I.list hq
  have hlen:=r'.length
  refine call_tuple_list pl.isList (λh' kp=>?_) (by simp only [ze]<;>lia)
  have I1:Inv X pins σ H { s with heap:=h' }:=I.kept (t':=s.toks) kp
  have I2:Inv X pins σ (aP H h'.objs.size (.tup ys)) { s with heap:=h'.push { cls:=.type "tuple",data:=.seq its.toArray } } :=
   I1.laid (t':=s.toks) (λb o e=>zc _ e) (z13 _) (show eh X.prog X.w _ _ _ (.tup ys) from ⟨hz,its,r',i9.mk' _ _⟩)
  exact⟨.ref h'.objs.size,_,I2,rfl,q _ (I1.hok.fresh (z13 _))⟩
 ·obtain⟨its,r',pl,hz⟩:=I.tuple hq
  exact call_tuple_same pl ⟨.ref p,H,I,rfl,q⟩
noncomputable def yX(K:W.Frag)(T:String)(x:V)(H:Hp):Prop:=match x with
 | .str _=>T="str"
 | .int _=>T="int"
 | .ref p=>(T="list"/\∃xs,bB K H p xs)∨(T="tuple"/\∃o,K.lookup p=some o/\o.cls=.type "tuple"/\o.dict=none) ∨
   (T="dict"/\((∃kvs,H p=some (.dK kvs))∨∃kvs,H p=some (.dT kvs)))∨(T="set"/\∃S n,H p=some (.set S n))
 | _=>False
theorem oS{pins:List (Addr×Obj)}{σ:St}{H:Hp}{s:Shared}{T:String}{x:V}{v:Value}(I:Inv X pins σ H s)(r:aC x v)(ty:yX X.K T x H) :
  s.TypeIs v T/\∀a,v=.ref a->∃ob,s.heap.get? a=some ob/\ob.dict=none:=by
 cases x with
 | str z =>
  obtain⟨t,rfl⟩:=r
  cases (show T="str" from ty)
  exact⟨typeIs_str s z t,λ_ e=>nomatch e⟩
 | int i =>
  obtain⟨t,rfl⟩:=r
  cases (show T="int" from ty)
  exact⟨typeIs_int s i t,λ_ e=>nomatch e⟩
 | ref p =>
  cases r
  rcases ty with⟨rfl,xs,hq⟩| ⟨rfl,o,hk,hc,hd⟩| ⟨rfl,hk⟩| ⟨rfl,S,n,hk⟩
  ·obtain⟨its,_,pl,_⟩:=I.list hq
   refine⟨pl.isList.typeIs,λa e=>?_⟩
   cases e
   obtain⟨o,n,e,c,hd,_⟩:=pl
   exact⟨o,e,hd⟩
  ·refine⟨⟨o,I.kIn p o hk,hc⟩,λa e=>?_⟩
   cases e
   exact⟨o,I.kIn _ o hk,hd⟩
  ·have z:∃o,s.heap.get? p=some o/\o.ExactDict:=by
    rcases hk with⟨kvs,hk⟩| ⟨kvs,hk⟩
    ·obtain⟨_,_,_,_,o,_,_,e,ex,_⟩:=I.hok p _ hk
     exact⟨o,e,ex⟩
    ·obtain⟨_,_,_,_,o,_,_,e,ex,_⟩:=I.hok p _ hk
     exact⟨o,e,ex⟩
   obtain⟨o,e,ex⟩:=z
   refine⟨⟨o,e,ex.1⟩,λa e2=>?_⟩
   cases e2
   exact⟨o,e,ex.2.1⟩
  ·obtain⟨o,_,_,_,e,ex,_⟩:=I.hok p _ hk
   refine⟨⟨o,e,ex.1⟩,λa e2=>?_⟩
   cases e2
   exact⟨o,e,ex.2.1⟩
 | _=>exact False.elim ty
noncomputable def uu(K:W.Frag)(T:String)(r:V->List V->Hp->VK->Prop)(to:TE):TE:=λσ H Q=>to σ H λx H1=>yX K T x H1/\r x [] H1 Q
noncomputable def BX(K:W.Frag)(T:String)(r:V->List V->Hp->VK->Prop)(to:TE)(t:TA):TE:=λσ H Q=>to σ H λx H1=>yX K T x H1/\t σ H1 λxs H2=>r x xs H2 Q
variable {o e:Expr}{es:List Expr}{to:TE}{t:TA}{name:Str}{apos ye7:Pos}{T id:String}{r:V->List V->Hp->VK->Prop}
theorem BY(pa:PlainAttrs T)(slot:Slot T name id)(hty:typeOf (.builtin id)=pure (.type "method_descriptor"))(hm:ko X id r)(ho:PE X o to)
  (y1c5:attributeBase o name X.env (eval o X.env)=eval o X.env:=by rfl) (y1ce:(apos.endLine == ye7.line)=true:=by rfl):PE X (.Call (.Attribute o name apos) [] [] ye7) (uu X.K T r to):=by
 intro pins s σ H Q I h
 refine wpAny_Call_method0_late y1c5 y1ce (aS (ho pins s σ H _ I h) λv s1 ⟨x,H1,I1,r1,ty,q1⟩=>?_)
 obtain⟨h1,h2⟩:=oS I1 r1 ty
 exact⟨T,id,pa,slot,hty,h1,h2,Calls.callWith_builtin rfl (PySem.evalArgs_none (hm pins s1 σ H1 x [] v [] Q I1 r1 .nil q1))⟩
theorem jm(pa:PlainAttrs T)(slot:Slot T name id)(hty:typeOf (.builtin id)=pure (.type "method_descriptor"))(hm:ko X id r)(ho:PE X o to)(ha:PA X (e::es) t)
  (y1c5:attributeBase o name X.env (eval o X.env)=eval o X.env:=by rfl)
  (y1c9:((backTo ye7 (starEach (e::es) X.env)).all (λx=>!x.1)&&(backToKw ye7 (keywordEach [] X.env)).all (λx=>x.1.isSome)
   && decide ((e::es).length+([]:List Keyword).length+(if ([]:List Keyword).isEmpty then 0 else 1)<30))=true:=by rfl)
  (y1ce:(apos.endLine == ye7.line)=true:=by rfl) (hs:starEach (e::es) X.env=(false,eval e X.env)::starEach es X.env:=by rfl) (y1d1:(backTo ye7 (starEach es X.env)).any (·.1)=false:=by rfl) :
  PE X (.Call (.Attribute o name apos) (e::es) [] ye7) (BX X.K T r to t):=by
 intro pins s σ H Q I h
 refine wpAny_Call_method_late y1c5 y1c9 y1ce rfl (aS (ho pins s σ H _ I h) λv s1 ⟨x,H1,I1,r1,ty,q1⟩=>?_)
 obtain⟨h1,h2⟩:=oS I1 r1 ty
 refine⟨T,id,pa,slot,hty,h1,h2,?_⟩
 have hA:=ha ye7 pins s1 σ H1 _ I1 q1
 rw [hs] at hA ⊢
 refine Calls.callWith_builtin (by show (false||(backTo ye7 (starEach es X.env)).any (·.1))=false;rw [y1d1]<;>rfl) (Calls.evalArgs_plain ?_)
 exact aS hA λus s2 ⟨vs,H2,I2,r2,q2⟩=>hm pins s2 σ H2 x vs v us Q I2 r1 r2 q2
end
end
section
noncomputable def yY(X:Cx)(id:String)(r:V->List V->Hp->VK->Prop):Prop :=
 ∀(pins:List (Addr×Obj)) (s:Shared) (σ:St) (H:Hp) (x:V) (xs:List V) (v:Value) (us:List Value) (Q:VK),Inv X pins σ H s->aC x v->az xs us->r x xs H Q ->
  wpAny (model X.prog X.w) X.A (call (.builtin id) (v::us)) (EP X pins σ Q) X.xe s
theorem az.one:∀{x:V} {us:List Value},az [x] us->∃u,us=[u]/\aC x u
 | _,_,.cons r .nil=>⟨_,rfl,r⟩
theorem az.zero:∀{us:List Value},az [] us->us=[]
 | _,.nil=>rfl
theorem az.dropLast{xs:List V}{us:List Value}(h:az xs us):az xs.dropLast us.dropLast:=by
 induction h with
 | nil=>exact .nil
 | cons r t ih =>
  cases t with
  | nil=>exact .nil
  | cons q t'=>exact .cons r ih
theorem az.reverse{xs:List V}{us:List Value}(h:az xs us):az xs.reverse us.reverse:=by
 induction h with
 | nil=>exact .nil
 | cons r t ih=>rw [List.reverse_cons,List.reverse_cons];exact az.append ih (.cons r .nil)
theorem az.rep{xs:List V}{us:List Value}(h:az xs us):∀k:Nat,az (List.replicate k xs).flatten (List.replicate k us).flatten
 | 0=>.nil
 | k+1=>by
  rw [List.replicate_succ,List.replicate_succ,List.flatten_cons,List.flatten_cons]
  exact az.append h (az.rep h k)
theorem BZ{α:Type}(l:List α):l.eraseIdx (l.length-1)=l.dropLast:=by
 induction l with
 | nil=>rfl
 | cons a r ih =>
  cases r with
  | nil=>rfl
  | cons b r =>
   have e:(a::b::r).length-1=((b::r).length-1)+1:=by
    have h1:(a::b::r).length=r.length+2:=rfl
    have h2:(b::r).length=r.length+1:=rfl
    lia
   rw [e,List.eraseIdx_cons_succ,ih]
   all_goals rfl
theorem gy(its:List Value):∀(k:Nat) (acc:List Value),
  List.foldl (λx1 x2=>x1++x2) acc.toArray (List.replicate k its.toArray)=(acc++(List.replicate k its).flatten).toArray
 | 0,acc=>by simp
 | k+1,acc=>by
  have e:acc.toArray++its.toArray=(acc++its).toArray:=by simp
  have e2:(acc++its)++(List.replicate k its).flatten=acc++(List.replicate (k+1) its).flatten:=by
   rw [List.replicate_succ,List.flatten_cons,z31]
  rw [<- e2,<- gy its k (acc++its),<- e,List.replicate_succ,List.foldl_cons]
section
variable {X:Cx}{pins:List (Addr×Obj)}{σ:St}{H:Hp}{s:Shared}{l b:Addr}{xs ys zs:List V}
theorem Inv.lset{its its':List Value}{n:Nat}{f:Array Value->Array Value}{t':Nat}(I:Inv X pins σ H s)(hH:H l=some (.lst xs))
  (e:s.heap.get? l=some { cls:=.type "list",data:=.seq its.toArray n }) (hf:f its.toArray=its'.toArray) (hv:az ys its') (hz:ys.length≤sizeLine) :
  Inv X pins σ (aP H l (.lst ys)) { s with heap:=s.heap.update l (Obj.mapSeq f),toks:=t' }:=by
 have q:=PySem.IsL.update e f
 rw [hf] at q
 refine I.write (x:=l) (e:=l) (by rw [hH];exact trivial) (.inl rfl) (λb' u hb hu=>(Heap.get?_update_other s.heap (Obj.mapSeq f) (Ne.symm hb)).trans hu) ⟨_,q⟩ ?_
 exact⟨hz,its',_,hv,q⟩
theorem Inv.lnew{its:List Value}{t':Nat}(I:Inv X pins σ H s)(hv:az ys its)(hz:ys.length≤sizeLine) :
  Inv X pins σ (aP H s.heap.objs.size (.lst ys)) { s with heap:=s.heap.push { cls:=.type "list",data:=.seq its.toArray },toks:=t' } :=
 I.laid (λ_ _ q=>zc _ q) (z13 _) ⟨hz,its,0,hv,z1c _ rfl⟩
theorem Inv.fresh(I:Inv X pins σ H s):H s.heap.objs.size=none:=I.hok.fresh (z13 _)
theorem Inv.y25c(I:Inv X pins σ H s)(hH:H l=some (.lst xs)):xs.length≤sizeLine/\∃(its:List Value) (n:Nat),az xs its/\xs.length=its.length/\s.heap.get? l=some { cls:=.type "list",data:=.seq its.toArray n }:=by
 obtain⟨z,its,n,r,e⟩:=I.hok l _ hH
 exact⟨z,its,n,r,r.length,e⟩
theorem oT{n:Nat}(h:n≤sizeLine):Builtin.List.listTooLong n=false:=by
 unfold Builtin.List.listTooLong
 exact decide_eq_false (by lia)
end
section
variable {X:Cx}
noncomputable def uv:V->List V->Hp->VK->Prop:=λx vs H Q=>∃l xs y,x=.ref l/\vs=[y]/\H l=some (.lst xs)/\xs.length<sizeLine/\Q .non (aP H l (.lst (xs++[y])))
theorem uw:yY X "list.append" uv:=by
 intro pins s σ H x vs v us Q I rx rv h
 obtain⟨l,xs,y,rfl,rfl,hH,hz,q⟩:=h
 cases rx
 obtain⟨u,rfl,ru⟩:=rv.one
 obtain⟨z,its,n,r,hl,e⟩:=I.y25c hH
 refine call_meets F.slot_list_append ⟨_,e,rfl⟩ F.entry_list_append (F.args_list_append_2 _ _) (PySem.list_append l its.toArray n u (by rw [ze];lia)) ⟨e,?_⟩
 refine⟨.non,_,I.lset (its':=its++[u]) hH e (by simp) (r.append (.cons ru .nil)) ?_,rfl,q⟩
 rw [z18,List.length_singleton]
 lia
noncomputable def ux:V->List V->Hp->VK->Prop:=λx vs H Q=>∃l b xs zs,x=.ref l/\vs=[.ref b]/\H l=some (.lst xs)/\H b=some (.lst zs)/\xs.length+zs.length≤sizeLine/\Q .non (aP H l (.lst (xs++zs)))
theorem B0:yY X "list.extend" ux:=by
 intro pins s σ H x vs v us Q I rx rv h
 obtain⟨l,b,xs,zs,rfl,rfl,hH,hB,hz,q⟩:=h
 cases rx
 obtain⟨u,rfl,ru⟩:=rv.one
 cases ru
 obtain⟨z,its,n,r,hl,e⟩:=I.y25c hH
 obtain⟨z2,y1fa,n2,r2,hl2,e2⟩:=I.y25c hB
 have hsz:its.toArray.size+y1fa.toArray.size≤sizeLine:=by rw [ze,ze];lia
 have y1cf:¬ (!its.toArray.isEmpty&&Builtin.List.listTooLong (its.toArray.size+y1fa.toArray.size))=true:=by
  rw [oT hsz,Bool.and_false]
  exact zf
 refine call_meets F.slot_list_extend ⟨_,e,rfl⟩ F.entry_list_extend (F.args_list_extend_2 _ _)
  (AutoSeq1.list_extend_list_list_0 l its.toArray n b y1fa.toArray n2 y1cf (by rw [ze];lia) (by lia)) ⟨e,e2,?_⟩
 refine⟨.non,_,I.lset (its':=its++y1fa) hH e (by simp) (r.append r2) ?_,rfl,q⟩
 rw [z18]
 lia
noncomputable def uy:V->List V->Hp->VK->Prop:=λx vs H Q=>∃l xs y,x=.ref l/\vs=[]/\H l=some (.lst xs)/\xs[xs.length-1]?=some y/\Q y (aP H l (.lst xs.dropLast))
theorem B1:yY X "list.pop" uy:=by
 intro pins s σ H x vs v us Q I rx rv h
 obtain⟨l,xs,y,rfl,rfl,hH,hy,q⟩:=h
 cases rx
 have hus:=rv.zero
 subst hus
 obtain⟨z,its,n,r,hl,e⟩:=I.y25c hH
 obtain⟨u,hu,ru⟩:=r.get hy
 have hy':its.toArray[its.toArray.size-1]?=some u:=by
  show its.toArray[its.length-1]?=some u
  rw [<- Array.getElem?_toList,<- hl]
  exact hu
 refine call_meets F.slot_list_pop ⟨_,e,rfl⟩ F.entry_list_pop (F.args_list_pop_1 _) (MeetsSeq.list_pop_last l its.toArray n u hy' (by rw [ze];lia)) ⟨e,?_⟩
 refine⟨y,_,I.lset (its':=its.dropLast) hH e ?_ r.dropLast ?_,ru,q⟩
 ·show its.toArray.eraseIdxIfInBounds (its.toArray.size-1)=its.dropLast.toArray
  rw [ze,List.eraseIdxIfInBounds_toArray,BZ]
 ·rw [List.length_dropLast]
  lia
noncomputable def me:R2:=λx y H Q=>∃l b xs zs,x=.ref l/\y=.ref b/\H l=some (.lst xs)/\H b=some (.lst zs)/\xs.length+zs.length≤sizeLine/\∀p,H p=none->Q (.ref p) (aP H p (.lst (xs++zs)))
theorem B2:cx X (binaryOp .Add) me:=by
 intro pins s σ H x y v u Q I rx ry h
 obtain⟨l,b,xs,zs,rfl,rfl,hH,hB,hz,q⟩:=h
 cases rx
 cases ry
 obtain⟨z,its,n,r,hl,e⟩:=I.y25c hH
 obtain⟨z2,y1fa,n2,r2,hl2,e2⟩:=I.y25c hB
 refine PySem.P.add_list e e2 ?_ (by rw [ze,ze];lia)
 have ea:its.toArray++y1fa.toArray=(its++y1fa).toArray:=by simp
 rw [ea]
 exact⟨.ref _,_,I.lnew (t':=s.toks) (r.append r2) (by rw [z18];lia),rfl,q _ I.fresh⟩
noncomputable def mf:R2:=λx y H Q=>∃l k xs,x=.ref l/\y=.int k/\H l=some (.lst xs)/\-(2 ^ 63)≤k/\k<2 ^ 63/\xs.length*k.toNat≤sizeLine /\
 ∀p,H p=none->Q (.ref p) (aP H p (.lst (List.replicate k.toNat xs).flatten))
theorem mh{α:Type}(xs:List α)(k:Nat):(List.replicate k xs).flatten.length=k*xs.length:=by
 induction k with
 | zero=>simp
 | succ k ih=>rw [List.replicate_succ,List.flatten_cons,z18,ih,Nat.succ_mul,Nat.add_comm]
theorem B3:cx X (binaryOp .Mult) mf:=by
 intro pins s σ H x y v u Q I rx ry h
 obtain⟨l,k,xs,rfl,rfl,hH,h1,h2,hz,q⟩:=h
 cases rx
 obtain⟨t,rfl⟩:=ry
 obtain⟨z,its,n,r,hl,e⟩:=I.y25c hH
 have hlen:its.toArray.size*k.toNat≤sizeLine:=by rw [ze,<- hl];exact hz
 have hcap:¬ its.toArray.size*k.toNat>(2 ^ 63-1) / 8:=by
  have:(sizeLine:Nat)≤(2 ^ 63-1) / 8:=by decide
  lia
 have hfit:¬ (!Builtin.List.listFitsIndex k)=true:=by
  rw [fitsIndex_both h1 h2]
  exact zf
 have y1cf:¬ Builtin.List.listTooLong (its.toArray.size*k.toNat)=true:=by
  rw [oT hlen]
  exact zf
 have hnew:List.foldl (λx1 x2=>x1++x2) #[] (List.replicate (if its.toArray.isEmpty=true then 0 else k.toNat) its.toArray)=(List.replicate k.toNat its).flatten.toArray:=by
  have f0:∀m:Nat,List.foldl (λx1 x2=>x1++x2) #[] (List.replicate m its.toArray)=(List.replicate m its).flatten.toArray:=λm=>by
   have:=gy its m []
   rw [List.nil_append] at this
   exact this
  rw [f0]
  cases its with
  | nil=>simp
  | cons a r'=>rw [if_neg (by simp)]
 refine wpAny_binaryOp_repeat_ref (T:="list") (U:="int") (by decide) ⟨_,e,rfl⟩ (λs'=>typeIs_int s' k t) noFill_list_mul F.fills_int_mul F.slot_int_rmul repeat_list F.slot_int_index.lookup
  (call_meets F.slot_int_rmul (typeIs_int s k t) F.entry_int_rmul (F.args_int_rmul_2 _ _) (int___rmul___int_list k t l its.toArray n)
   ⟨e,rfl,⟨_,e,rfl⟩,call_meets F.slot_list_mul ⟨_,e,rfl⟩ F.entry_list_mul (F.args_list_mul_2 _ _) (AutoListH.list___mul___list_int_3 l its.toArray n k t hfit hcap y1cf) ⟨e,?_⟩⟩)
 rw [hnew]
 exact⟨.ref _,_,I.lnew (t':=s.toks) (r.rep k.toNat) (by rw [mh,Nat.mul_comm];exact hz),rfl,q _ I.fresh⟩
end
section
variable {prog:Program}{w:World}{A:Around}{E:Value->Shared->Prop}{s:Shared}
end
section
variable {X:Cx}
end
end
end L2
namespace Att
open PySem PySem.W PySem.Calls PyProof.Rows
theorem B4{P:Params}{h:Heap}:∀(ns:List Int) (vs:List Value),WellAll P h vs (ns.map WData.int)->IntsAre vs ns:=by
 intro ns
 induction ns with
 | nil =>
  intro vs w
  rw [List.map_nil] at w
  cases w
  exact .nil
 | cons n ns ih =>
  intro vs w
  rw [z19] at w
  cases w with
  | cons a b =>
   cases a
   exact .cons _ _ (ih _ b)
theorem B5{l:OpenLaw}{n:Nat}(hn:l.most=some n){P:Params}{h:Heap}{args:List WData}{vals:List Value}
  (hpre:l.row.toRowW.claim.pre args=true) (hwl:WellAll P h vals args) :
  ∃a vs ns,vals=[Value.ref a]/\args=[WData.list (ns.map WData.int)]/\h.get? a=some { cls:=.type "list",data:=.seq vs.toArray }/\IntsAre vs ns/\ns.length≤n:=by
 have hsh:WShape.hasAll [] args [.list .int]=true:=(pre_splitW hpre).1
 have hc:l.pre.holds [] { args:=args }=true:=(pre_splitW hpre).2
 obtain⟨d,r,rfl,h1,h2⟩:=hasAllW_cons hsh
 obtain rfl:=hasAllW_nil h2
 obtain⟨xs,rfl,h3⟩:=hasW_list h1
 obtain⟨ns,rfl⟩:=items_int h3
 have hlen:ns.length≤n:=by
  unfold OpenLaw.pre at hc
  have h4:(WTm.not (.lt (.lit (.int (n:Int))) (.len (.arg 0)))).holds [] { args:=[.list (ns.map .int)] }=true:=by
   have h4:=(holds_andW hc).1
   rw [hn] at h4
   exact h4
  have h5:=condW_of h4 (w_not (w_lt w_lit (w_len_list (w_arg rfl))))
  rw [z14] at h5
  refine Nat.le_of_not_lt λq=>?_
  have q':(n:Int)<((ns.length:Nat):Int):=by lia
  first
   | (rw [decide_eq_true q'] at h5;exact absurd h5 (by decide))
   | (simp at h5;lia)
 cases hwl with
 | cons w1 w2 =>
  cases w2
  cases w1 with
  | list ho y1c0=>exact⟨_,_,ns,rfl,rfl,ho,B4 ns _ y1c0,hlen⟩
theorem B6(l:OpenLaw)(args:List WData):l.row.toRowW.claim.post args (.bool true) args=true :=
 postW_of (r:=l.row.toRowW) (X:=(true == true))
  (show WShape.has [] (.bool true) .bool=true by first|rfl|decide|simp [WShape.has,WShape.arms,WShape.armsAll])
  (show (WTm.eq .res (.lit (.bool true))).value [] { args:=args,res:=some (.bool true),after:=args }=some (.bool (true == true)) from w_eq_bool (w_res rfl) w_lit) rfl
theorem y93{l:OpenLaw}{n:Nat}{q:Program}{loose:List Str}{XP:(Str->Option Value)->Heap->Prop}{YP:World->Heap->Prop}{d:DefRec}
  (hn:l.most=some n) (hdf:d.params.defaults=[])
  (call:∀(w:World) (s₀ s₁:Shared) (mg mb:Str->Option Value) (fa:Addr) (o:Obj) (pm cd doc:Value) (a:Addr) (vs:List Value) (ns:List Int),
   Ground q loose [] XP w s₀ mg mb s₁.heap->YP w s₁.heap ->
   s₁.heap.get? fa=some o->o.data=.func (docDef d.name d.params d.body d.scope pm cd doc)->s₁.heap.CodeRec cd d.name->mg d.name=some (.ref fa) ->
   s₁.heap.get? a=some { cls:=.type "list",data:=.seq vs.toArray }->IntsAre vs ns->ns.length≤n->s₁.gens=#[] ->
   codeAny (model l.prog w) callerA (.call (.ref fa) ⟨[.ref a],[]⟩) (λr s'=>r=.ok (.ret (.bool true))/\OldK s₁.heap s'.heap/\s'.os=s₁.os/\AllBare s'.gens) s₁) :
  WalkO q loose XP YP l.row.toRowW d [] (λf vs=>PySem.call f vs):=by
 intro w s₀ s₁ mg mb G Y fa o pm cd doc dV kV ho hd hcd hD hmg hg args vals as hpre hlay hrd hwl hlo
 obtain rfl:dV=.none:=Dflts.none hD hdf
 obtain rfl:kV=.none:=Dflts.noKw hD
 obtain⟨a,vs,ns,rfl,rfl,hobj,hints,hlen⟩:=B5 hn hpre hwl
 refine enter_call (codeAny_mono (call w s₀ s₁ mg mb fa o pm cd doc a vs ns G Y ho (fd_plain hd) hcd hmg hobj hints hlen hg) λr s' hq=>?_)
 obtain⟨rfl,h2,h3,h4⟩:=hq
 exact⟨.inl ⟨.bool true,.bool true,[],rfl,λ_=>rfl,.bool true,B6 l _,λ_=>⟨List.Pairwise.nil,λ_ hm=>(nomatch hm)⟩⟩,h2,h3,h4⟩
section
variable {prog:Program}{w:World}{A:Around}{E:Value->Shared->Prop}{s:Shared}{K:Frag}
end
end Att
namespace L2
open PySem PySem.Spec PyProof.Rows
section
theorem uz:∀{vs:List Value} {ns:List Int},IntsAre vs ns->az (ns.map V.int) vs
 | _,_,.nil=>.nil
 | _,_,.cons n t h=>.cons ⟨t,rfl⟩ (uz h)
noncomputable def mi(H:Hp):Prop:=∀b,H b=none∨∃o xs,H b=some (.frz o (.lst xs))
theorem B7{P:Program}{w:World}{K:W.Frag}{mg mb:Str->Option Value}{CX:ka}{k:Nat}{fa a:Addr}{fd:FuncData}{x:Str}{sp:Sp}{s₁:Shared}{vs:List Value}{ns:List Int}
  (KX:K.In s₁.heap) (hns:s₁.heap.Ns mainGlobals mg) (hb:s₁.heap.Ns builtinsNs mb) (hbb:∀x:Str,x≠"__name__"->mb x=bootBuiltins x) (hlim:s₁.heap.NoLimit) (hg:s₁.gens=#[])
  (ha:s₁.heap.get? a=some { cls:=.type "list",data:=.seq vs.toArray }) (hi:IntsAre vs ns) (hl:ns.length≤sizeLine) (hr:y58 k callerA)
  (F:∀base:Heap,K.In base->base.Ns mainGlobals mg->y49 P w K mg base CX k fa fd [x] sp) (hbind:∀(s:Shared) (u:Value),BindsTo s fd ⟨[u],[]⟩ [(x,u)])
  (hsp:∀H:Hp,mi H->bB K H a (ns.map V.int)->sp [.ref a] H (λv _=>v=.bl true) λ_ _ _=>False)
  (hCX:∀H e s',CX [] H s₁ (λ_ _ _=>False) e s'->False) :
  codeAny (model P w) callerA (.call (.ref fa) ⟨[.ref a],[]⟩) (λr s'=>r=.ok (.ret (.bool true))/\OldK s₁.heap s'.heap/\s'.os=s₁.os/\AllBare s'.gens) s₁:=by
 have rv:=uz hi
 have lenV:=hi.length
 have core:∀H:Hp,mi H->bB K H a (ns.map V.int)->dI P w H s₁.heap->(∀b,H b≠none->b=a)->(H a≠none->K.lookup a=none) ->
   codeAny (model P w) callerA (.call (.ref fa) ⟨[.ref a],[]⟩) (λr s'=>r=.ok (.ret (.bool true))/\OldK s₁.heap s'.heap/\s'.os=s₁.os/\AllBare s'.gens) s₁:=by
  intro H hO hS hok hA hK
  have ya1:∀{b:Addr} {o:Obj},s₁.heap.get? b=some o->H b=none->(gD s₁.heap H).get? b=some o:=λe n=>zR e n
  have noA:∀{b:Addr} {o:Obj} {es:Array DictEntry} {ep:Nat},s₁.heap.get? b=some o->o.data=.dict es ep->H b=none:=λ{b o es ep} e d=>by
   cases q:H b with
   | none=>rfl
   | some u =>
    have e':b=a:=hA b (by rw [q];simp)
    subst e'
    rw [ha] at e;cases e
    have d':Data.seq vs.toArray _=Data.dict es ep:=d
    cases d'
  have nsK:∀{b:Addr} {m:Str->Option Value},s₁.heap.Ns b m->(gD s₁.heap H).Ns b m:=λ{b m} ⟨o,es,ep,e,d,r⟩=>⟨o,es,ep,ya1 e (noA e d),d,r⟩
  have hKb:K.In (gD s₁.heap H):=λb o e=>ya1 (KX b o e) (by
   cases q:H b with
   | none=>rfl
   | some u =>
    have e':b=a:=hA b (by rw [q];simp)
    subst e'
    rw [hK (by rw [q];simp)] at e;cases e)
  have hM:Mod K mg (gD s₁.heap H):=⟨hKb,nsK hns,⟨mb,nsK hb,hbb⟩,let ⟨mc,h1,h2⟩:=hlim;⟨mc,nsK h1,h2⟩⟩
  have e0:y11 P w K mg (gD s₁.heap H) callerA [] s₁ H:=⟨rfl,hM,λb o e=>zS e,Nat.le_of_eq (zQ _ _),trivial,λb hb=>absurd (show b∈([]:List Addr) from hb) (by simp),hok,.of_eq hg⟩
  refine codeAny_mono ((F _ hKb (nsK hns)).run callerA [] s₁ H ⟨[.ref a],[]⟩ [.ref a] [.ref a] _ _ hr e0 (hbind s₁ (.ref a)) (.cons rfl .nil) (hsp H hO hS)) λr s' h=>?_
  cases r with
  | error e=>exact (hCX H e s' h).elim
  | ok fl =>
   cases fl with
   | next=>exact False.elim h
   | brk=>exact False.elim h
   | cont=>exact False.elim h
   | ret u =>
    obtain⟨v,H',os,bare,un,hok',r',q⟩:=h
    have q':v=.bl true:=q
    subst q'
    obtain rfl:u=Value.bool true:=r'
    refine⟨rfl,OldK.of_keep λb o e=>?_,os,bare⟩
    cases q:H b with
    | none=>exact un.keep b o e q (by intro z;exact absurd (show b∈([]:List Addr) from z) (by simp)) (by simp)
    | some u =>
     rcases hO b with z|⟨ob,xs,z⟩
     ·rw [q] at z;cases z
     ·have z2:=un.y182 b ob _ z
      obtain⟨e1,_⟩:=hok b _ z
      obtain⟨e2,_⟩:=hok' b _ z2
      rw [e] at e1;cases e1
      exact e2
 cases hk:K.lookup a with
 | some o =>
  have e:=KX a o hk
  rw [ha] at e
  cases e
  refine core (λ_=>none) (λ_=>.inl rfl) (.inr ⟨_,vs.toArray,_,hk,rfl,rfl,rfl,by rw [ze,lenV];exact hl,by simpa using rv⟩) (λb u z=>by have z':(none:Option HO)=some u:=z;cases z') (λb z=>absurd rfl z) λz=>absurd rfl z
 | none =>
  refine core (λb=>if b=a then some (.frz { cls:=.type "list",data:=.seq vs.toArray } (.lst (ns.map V.int))) else none) (λb=>?_) (.inl (.inr ⟨{ cls:=.type "list",data:=.seq vs.toArray },if_pos rfl⟩)) (λb u z=>?_) (λb z=>?_) λ_=>hk
  ·by_cases hb:b=a
   ·exact .inr ⟨_,_,if_pos hb⟩
   ·exact .inl (if_neg hb)
  ·by_cases hb:b=a
   ·have z':=(if_pos hb).symm.trans z
    cases z'
    subst hb
    exact⟨ha,by rw [z14];exact hl,vs,_,rv,ha⟩
   ·have z':=(if_neg hb).symm.trans z
    cases z'
  ·by_cases hb:b=a
   ·exact hb
   ·exact absurd (if_neg hb) z
end
section
theorem y59e{l:W.OpenLaw}{n k:Nat}{q:Program}{loose:List Str}{XP:(Str->Option Value)->Heap->Prop}{YP:World->Heap->Prop}{d:DefRec}{K:Params->W.Frag}{CX:World->ka}{sp:World->Sp}{x:Str}
  (hn:l.most=some n) (hn2:n≤sizeLine) (hdf:d.params.defaults=[]) (hr:y58 k callerA)
  (hY:∀(w:World) (h:Heap),YP w h->(K w.params).In h)
  (F:∀(w:World) (mg:Str->Option Value) (fa:Addr) (h:Heap),(K w.params).In h->h.Ns mainGlobals mg->mg d.name=some (.ref fa) ->
   ∃fd:FuncData,(∀(s:Shared) (u:Value),BindsTo s fd ⟨[u],[]⟩ [(x,u)]) /\
    ∀base:Heap,(K w.params).In base->base.Ns mainGlobals mg->y49 l.prog w (K w.params) mg base (CX w) k fa fd [x] (sp w))
  (hsp:∀(w:World) (H:Hp) (a:Addr) (ns:List Int),ns.length≤n->mi H->bB (K w.params) H a (ns.map V.int)->sp w [.ref a] H (λv _=>v=.bl true) λ_ _ _=>False)
  (hCX:∀(w:World) (H:Hp) (s:Shared) (e:Value) (s':Shared),CX w [] H s (λ_ _ _=>False) e s'->False) :
  W.WalkO q loose XP YP l.row.toRowW d [] (λf vs=>PySem.call f vs):=by
 refine Att.y93 hn hdf λw s₀ s₁ mg mb fa o pm cd doc a vs ns G Y ho hd hcd hmg hobj hints hlen hg=>?_
 have KX:=hY w _ Y
 obtain⟨fd,hb,hF⟩:=F w mg fa _ KX G.T.g hmg
 exact B7 KX G.T.g G.T.b G.T.builtins G.T.nolimit hg hobj hints (z21 hlen hn2) hr hF hb (λH hO hS=>hsp w H a ns hlen hO hS) λH e s'=>hCX w H s₁ e s'
end
section
noncomputable def bh(s:Stmt)(j:Nat):Stmt:=match s with
 | .ClassDef _ _ _ body _ _ _ _ _ _ _=>body.getD j (.Pass ⟨0,0,0,0⟩)
 | _=>.Pass ⟨0,0,0,0⟩
noncomputable def jo(s:Stmt):Arguments:=match s with
 | .FunctionDef _ a _ _ _ _ _ _ _ _=>a
 | _=>{ posonlyargs:=[],args:=[],vararg:=none,kwonlyargs:=[],kw_defaults:=[],kwarg:=none,defaults:=[] }
noncomputable def hG(s:Stmt):List Stmt:=match s with
 | .FunctionDef _ _ b _ _ _ _ _ _ _=>b
 | _=>[]
noncomputable def aK(s:Stmt):Scope:=match s with
 | .FunctionDef _ _ _ _ _ _ sc _ _ _=>sc
 | _=>{ kind:=.function,names:=[],isGenerator:=false,isCoroutine:=false }
noncomputable abbrev bU:ka:=λ_ _ _ _ _ _=>False
noncomputable abbrev E0:XK:=λ_ _ _=>False
theorem mj{X:Cx}:dy bU X E0:=λ_ _ _ _ _ _ _ h=>h.elim
structure Fun(K:W.Frag)(x qual:Str)(st:Stmt)(f:Addr)(fd:FuncData):Prop where
 ex:∃(oc:Value) (od:Option Addr) (kV doc pm:Value) (an:Option Addr) (cdv ct:Value) (osl:Array (Option Value)),
  fd=W.fnOf x qual (jo st) (hG st) (aK st) .none kV doc pm an cdv ct/\K.lookup f=some ⟨oc,od,.func fd,osl⟩/\W.codeIn K cdv qual=true
 kp:W.keepIn K (.ref f)=true
section
variable {P:Program}{w:World}{K:W.Frag}{mg:Str->Option Value}{base:Heap}
theorem Fun.ok{x qual:Str}{st:Stmt}{f:Addr}{fd:FuncData}{N ps:List Str}{k:Nat}{sp:Sp}(F:Fun K x qual st f fd)(S:y4a N ps (aK st))(len:∀vs H Q E,sp vs H Q E->vs.length=ps.length)
  (y1c6:∀(cdv:Value) (A:Around) (outer:List Env) (s:Shared) (H:Hp) (vs:List V) (Q:VK) (E:XK),y58 k (A.deeper (envOfC qual (aK st) s.heap.objs.size f cdv))->sp vs H Q E ->
   ∃t,gY (oO bU P w K mg base N qual (aK st) f cdv A outer s H E).nox (hG st) t/\t { nx:=λ_ H'=>Q .non H',rt:=Q } (start N vs) H):y49 P w K mg base bU (k+1) f fd ps sp:=by
 obtain⟨oc,od,kV,doc,pm,an,cdv,ct,osl,rfl,lk,hcd⟩:=F.ex
 refine tN lk hcd S len λA outer s H vs Q E hr hsp=>?_
 obtain⟨t,h,q⟩:=y1c6 cdv A outer s H vs Q E hr hsp
 exact⟨t,h.nox,q⟩
theorem Fun.binds{x qual:Str}{st:Stmt}{f:Addr}{fd:FuncData}{ps:List Str}(F:Fun K x qual st f fd)
  (h:∀(kV doc pm:Value) (an:Option Addr) (cdv ct:Value) (us:List Value),us.length=ps.length->bindArgs (W.fnOf x qual (jo st) (hG st) (aK st) .none kV doc pm an cdv ct) ⟨us,[]⟩=pure (ps.zip us)):cY K fd ps []:=by
 obtain⟨oc,od,kV,doc,pm,an,cdv,ct,osl,rfl,lk,hcd⟩:=F.ex
 exact .all (h kV doc pm an cdv ct)
theorem y184{x qual:Str}{st:Stmt}{f:Addr}{oc:Value}{od an:Option Addr}{osl:Array (Option Value)}{kV doc pm cdv ct:Value}(l:K.lookup f=some ⟨oc,od,.func (W.fnOf x qual (jo st) (hG st) (aK st) .none kV doc pm an cdv ct),osl⟩)
  (c:W.codeIn K cdv qual=true) (k:W.keepIn K (.ref f)=true):Fun K x qual st f (W.fnOf x qual (jo st) (hG st) (aK st) .none kV doc pm an cdv ct):=⟨⟨oc,od,kV,doc,pm,an,cdv,ct,osl,rfl,l,c⟩,k⟩
end
theorem mm{A:Around}{k:Nat}(hr:y58 k A):A.units+1<cLine:=Nat.lt_of_le_of_lt (Nat.add_le_add_left (by decide:1≤64) _) hr.units
section
variable {X:Cx}
theorem ybd:y9 X (.builtin "len") (λxs H Q=>∃a kvs,xs=[V.ref a]/\H a=some (.dK kvs)/\Q (.int kvs.length) H):=by
 intro pins s σ H xs us Q I r h
 obtain⟨a,kvs,rfl,ha,q⟩:=h
 obtain⟨u,rfl,ru⟩:=cX r
 cases ru
 exact tV I (.inl ha) λt s' I'=>⟨.int kvs.length,H,I',⟨t,rfl⟩,q⟩
end
noncomputable def fU(H H':Hp):Prop:=∀b o,H b=some o->H' b=some o
theorem fU.free{H H':Hp}(e:fU H H'){l:Addr}(h:H' l=Option.none):H l=Option.none:=by
 cases q:H l with
 | none=>rfl
 | some o =>
  rw [e l o q] at h
  cases h
section
variable {κ:Type}[DecidableEq κ]
end
end
end L2
set_option maxHeartbeats 4000000
namespace PySem
noncomputable def oU(names:List (Str×NameKind))(env:Env):List (Str×Addr) :=
 names.foldl (λcs p=>if p.2 == NameKind.free then (p.1,(env.cells.lookup p.1).getD 0)::cs else cs) []
theorem yd4:∀(l:List (Str×NameKind)) (acc:List (Str×Addr)),(∀p∈l,p.2=.free->∃c,env.cells.lookup p.1=some c) ->
  (forIn l acc (λ(x:Str×NameKind) (cs:List (Str×Addr))=>match x with
   | (name,kind)=>if (kind == NameKind.free)=true then (do let a <- cellOf env name;pure (ForInStep.yield ((name,a)::cs)):Sem _) else pure (ForInStep.yield cs))) =
  (pure (l.foldl (λcs p=>if p.2 == NameKind.free then (p.1,(env.cells.lookup p.1).getD 0)::cs else cs) acc):Sem _)
 | [],acc,_=>by simp
 | (n,k)::r,acc,h=>by
  have ih:=λa=>yd4 r a λp hp=>h p (z1d _ hp)
  rw [List.forIn_cons]
  by_cases hk:k=.free
  ·subst hk
   obtain⟨c,e⟩:=h (n,.free) List.mem_cons_self rfl
   have e':cellOf env n=pure c:=by unfold cellOf;rw [e]
   show (if (NameKind.free == NameKind.free)=true then (do let a <- cellOf env n;pure (ForInStep.yield ((n,a)::acc)):Sem _) else pure (ForInStep.yield acc)) >>= _=_
   rw [if_pos (by rfl),e',pure_bind,pure_bind]
   rw [List.foldl_cons]
   have e2:(if ((n,NameKind.free).2 == NameKind.free)=true then ((n,NameKind.free).1,(env.cells.lookup (n,NameKind.free).1).getD 0)::acc else acc)=(n,c)::acc:=by
    rw [if_pos (by rfl),e];rfl
   rw [e2]
   exact ih _
  ·have hb:(k == NameKind.free)=false:=by simpa using hk
   simp only [hb,Bool.false_eq_true,if_false,pure_bind,ih,List.foldl_cons]
theorem yd3 (h:∀p∈scope.names,p.2=.free->∃c,env.cells.lookup p.1=some c):closureFor scope env=pure (oU scope.names env):=by
 unfold closureFor oU
 have:=yd4 scope.names [] h
 simp only [bind_pure]
 exact this
theorem mn{env:Env}:∀{l:List (Str×NameKind)} {acc:List (Str×Addr)} {y:Str} {c:Addr},
  (y,c)∈l.foldl (λcs p=>if p.2 == NameKind.free then (p.1,(env.cells.lookup p.1).getD 0)::cs else cs) acc↔(y,c)∈acc∨((y,NameKind.free)∈l/\c=(env.cells.lookup y).getD 0)
 | [],acc,y,c=>by simp
 | (n,k)::r,acc,y,c=>by
  rw [List.foldl_cons,mn]
  by_cases hk:k=.free
  ·subst hk
   simp only [beq_self_eq_true,if_true,zb,Prod.mk.injEq]
   constructor
   ·rintro ((⟨rfl,rfl⟩| h)|⟨h1,h2⟩)
    ·exact .inr ⟨.inl ⟨rfl,trivial⟩,rfl⟩
    ·exact .inl h
    ·exact .inr ⟨.inr h1,h2⟩
   ·rintro (h|⟨⟨rfl,_⟩| h1,h2⟩)
    ·exact .inl (.inr h)
    ·exact .inl (.inl ⟨rfl,h2⟩)
    ·exact .inr ⟨h1,h2⟩
  ·have hb:(k == NameKind.free)=false:=by simpa using hk
   simp only [hb,Bool.false_eq_true,if_false,zb,Prod.mk.injEq]
   constructor
   ·rintro (h|⟨h1,h2⟩)
    ·exact .inl h
    ·exact .inr ⟨.inr h1,h2⟩
   ·rintro (h|⟨⟨_,h⟩| h1,h2⟩)
    ·exact .inl h
    ·exact absurd h.symm hk
    ·exact .inr ⟨h1,h2⟩
theorem hI{β:Type}:∀{l:List (Str×β)} {a:Str} {b:β},l.lookup a=some b->(a,b)∈l
 | [],_,_,h=>by simp at h
 | (k,v)::l,a,b,h=>by
  rw [List.lookup_cons] at h
  split at h
  ·rename_i e
   cases h
   have:a=k:=by simpa using e
   subst this
   exact List.mem_cons_self
  ·exact z1d _ (hI h)
theorem uA{β:Type}:∀{l:List (Str×β)} {a:Str} {b:β},(a,b)∈l->∃b',l.lookup a=some b'
 | [],_,_,h=>by simp at h
 | (k,v)::l,a,b,h=>by
  rw [List.lookup_cons]
  split
  ·exact⟨v,rfl⟩
  ·rename_i e
   rcases zb.mp h with q|q
   ·cases q
    simp at e
   ·exact uA q
theorem mq{env:Env}:∀{names:List (Str×NameKind)} {y:Str} {k:NameKind},
  (names.map λ(n,k)=>if (k == NameKind.free&&env.scope.kind == .function&&env.kindOf n == some .cell) then (n,NameKind.cell) else (n,k)).lookup y=some k ->
  names.lookup y=some k∨(names.lookup y=some .free/\k=.cell)
 | [],_,_,h=>by simp at h
 | (n,k0)::r,y,k,h=>by
  rw [z19] at h
  by_cases hc:(k0 == NameKind.free&&env.scope.kind == .function&&env.kindOf n == some .cell)=true
  ·simp only [hc,if_true] at h
   rw [List.lookup_cons] at h ⊢
   cases hy:y == n with
   | true =>
    rw [hy] at h
    cases h
    have:k0=.free:=by
     rw [z24,z24] at hc
     simpa using hc.1.1
    subst this
    exact .inr ⟨rfl,rfl⟩
   | false =>
    rw [hy] at h
    exact mq h
  ·rw [Bool.not_eq_true] at hc
   simp only [hc,Bool.false_eq_true,if_false] at h
   rw [List.lookup_cons] at h ⊢
   cases hy:y == n with
   | true =>
    rw [hy] at h
    exact .inl h
   | false =>
    rw [hy] at h
    exact mq h
theorem uB{env:Env}:∀{names:List (Str×NameKind)} {y:Str},names.lookup y=some .free ->
  (names.map λ(n,k)=>if (k == NameKind.free&&env.scope.kind == .function&&env.kindOf n == some .cell) then (n,NameKind.cell) else (n,k)).lookup y=some .cell ∨
  (names.map λ(n,k)=>if (k == NameKind.free&&env.scope.kind == .function&&env.kindOf n == some .cell) then (n,NameKind.cell) else (n,k)).lookup y=some .free
 | [],_,h=>by simp at h
 | (n,k0)::r,y,h=>by
  rw [z19]
  rw [List.lookup_cons] at h
  cases hy:y == n with
  | true =>
   rw [hy] at h
   cases h
   by_cases hc:(NameKind.free == NameKind.free&&env.scope.kind == .function&&env.kindOf n == some .cell)=true
   ·left;simp only [hc,if_true,List.lookup_cons,hy]
   ·rw [Bool.not_eq_true] at hc
    right;simp only [hc,Bool.false_eq_true,if_false,List.lookup_cons,hy]
  | false =>
   rw [hy] at h
   have ih:=uB (env:=env) h
   by_cases hc:(k0 == NameKind.free&&env.scope.kind == .function&&env.kindOf n == some .cell)=true
   ·simp only [hc,if_true,List.lookup_cons,hy];exact ih
   ·rw [Bool.not_eq_true] at hc
    simp only [hc,Bool.false_eq_true,if_false,List.lookup_cons,hy];exact ih
section
noncomputable def ya(prog:Program)(w:World)(A:Around)(elt target:Expr)(ifs:List Expr)(env:Env)(it acc:Value)(last:Shared->Prop)(on:Shared->Prop):Shared->Prop :=
 let no:Value->Shared->Prop:=λ_ _=>False
 wpAny (model prog w) A (pyNext it) (λr s1=>match r with
  | none=>last s1
  | some v=>wpAny (model prog w) A (letOwnedTupleGo target it v) (λ_=>wpAny (model prog w) A (assign target env v) (λ_=>wpAny (model prog w) A
    (forIn ifs true λc r=>if r=true then do let ok <- isTrue c env (eval c env);pure (ForInStep.yield ok) else pure (ForInStep.yield r))
    (λok s4=>if ok=true then wpAny (model prog w) A (eval elt env) (λx=>wpAny (model prog w) A (call (.builtin "list.append") [acc,x]) (λ_=>on) no) no s4 else on s4) no) no) no s1) no
theorem ye3{last on:Shared->Prop}{s:Shared}(h:ya prog w A elt target ifs env it acc last on s) :
  wpAny (model prog w) A (compTurn (.ListComp elt [⟨target,iter,ifs,0⟩] scope pos) 0 it acc env) (λr t=>r=.done .next/\last t∨r=.again (.compLoop (.ListComp elt [⟨target,iter,ifs,0⟩] scope pos) 0 it acc env)/\on t) (λ_ _=>False) s:=by
 have off:∀{R:Value->Shared->Prop} (e:Value) (t:Shared),False->R e t:=λ_ _ f=>f.elim
 rw [compTurn_list]
 refine zd (wpAny_standAt (zd (wpAny_mono h (λr s1 k=>?_) off)))
 match r,k with
 | none,k=>exact z1b (.inl ⟨rfl,k⟩)
 | some v,k =>
  refine zd (wpAny_mono k (λ_ _ k=>zd (wpAny_mono k (λ_ _ k=>zd (wpAny_mono k (λok s4 k=>?_) off)) off)) off)
  match ok,k with
  | false,k=>exact z1b (.inr ⟨rfl,k⟩)
  | true,k=>exact zd (zd (wpAny_mono k (λ_ _ k=>zd (wpAny_mono k (λ_ _ k=>z1b (z1b (.inr ⟨rfl,k⟩))) off)) off))
theorem yd8(I:Nat->Shared->Prop)(turn:∀n s,I n s->ya prog w A elt target ifs env it acc (R (.ok .next)) (λt=>∃m,m<n/\I m t) s)(n:Nat)(h:I n s) :
  codeAny (model prog w) A (.compLoop (.ListComp elt [⟨target,iter,ifs,0⟩] scope pos) 0 it acc env) R s:=by
 refine codeAny_loop rfl I (λn s k=>wpAny_noted ?_) n h
 refine wpAny_mono (ye3 (turn n s k)) (λr t k=>?_) λ_ _ f=>f.elim
 rcases k with⟨rfl,k⟩| ⟨rfl,k⟩
 ·exact k
 ·exact⟨rfl,k⟩
end
end PySem
namespace L2
open PySem PySem.Spec PyProof.Rows
section
structure yb where
 fp:List Addr
 s:Shared
 H:Hp
 C:Addr
 pins:List (Addr×Obj)
noncomputable def eO(X:Cx)(scope:Scope)(N:List Str)(z:yb):Cx :=
 { X with N:=N,s₀:=z.s,H₀:=z.H,env:=compEnvC scope (oU scope.names X.env) z.C X.env,outer:=X.stack,ex:=z.fp,fn:=λ_=>false,pn:=X.pn++z.pins,xe:=λ_ _=>False }
structure CompOk(X:Cx)(scope:Scope)(x:Str)(ys:List Str)(ix:List Nat):Prop where
 kind:scope.kind=.function
 hx:scope.names.lookup x=some .local
 y29b:∀p∈scope.names,p.2≠.cell
 names:∀p∈scope.names,p.2=.local->scope.names.lookup p.1=some .local
 fr:∀p∈scope.names,p.2=.free->X.env.kindOf p.1=some .cell∨X.env.kindOf p.1=some .free
 len:ys.length=ix.length
 here:∀(j:Nat) (y:Str) (i:Nat),ys[j]?=some y->ix[j]?=some i->scope.names.lookup y=some .free/\X.N[i]?=some y
 nd:(x::ys).Nodup
noncomputable def nS(X:Cx)(ifs:List Expr)(t:TT):Prop :=
 ∀(pins:List (Addr×Obj)) (s:Shared) (σ:St) (H:Hp) (Q:Bool->Hp->Prop),Inv X pins σ H s->t σ H Q ->
  wpAny (model X.prog X.w) X.A (forIn ifs true λc r=>if r=true then do let ok <- isTrue c X.env (eval c X.env);pure (ForInStep.yield ok) else pure (ForInStep.yield r)) (TP X pins σ Q) X.xe s
noncomputable def uC:TT:=λ_ H Q=>Q true H
theorem B8:nS X [] uC:=λpins s σ H Q I h=>wpAny_tests_nil ⟨H,I,h⟩
theorem B9 (h:PT X c t):nS X [c] t:=λpins s σ H Q I q=>wpAny_tests_one (h pins s σ H Q I q)
section
theorem ye4   (I:Inv X pins σ H s)(f:iH X pins H C)(hs:Heap.SameBut C s.heap h'):Inv X pins σ H { s with heap:=h' } :=
 I.turned (λb o hb e=>(hs.2 b hb).trans e) f.1 f.2.1 f.2.2.2.1 f.2.2.2.2.1 f.2.2.2.2.2
end
section
end
noncomputable def yZ(z:Str):It:=⟨λi _=>i<z.cps.size,λi H x H'=>H'=H/\∃c,z.cps[i]?=some c/\x=.str ⟨#[c]⟩,λi _=>z.cps.size≤i⟩
theorem Ca{P:Program}{w:World}{K:W.Frag}{tg:Expr}{ty:String}(hty:ty="str_ascii_iterator"∨ty="str_iterator")(z:Str)(t:Tok)(it:Addr):Turn P w K tg (yZ z) [it] it (λi h=>h.IsStrIter it ty z t i) where
 mem:=by simp
 obj:=λi h st b hb=>by
  have e:b=it:=by simpa using hb
  subst e
  obtain⟨o,e,c,d⟩:=st
  exact⟨o,e,λv q=>by rw [d] at q;cases q⟩
 keep:=λi h h' st k=>by
  obtain⟨o,e,r⟩:=st
  exact⟨o,k it (by simp) o e,r⟩
 item:=by
  intro X hP hw hK hc i pins s σ H E I hf st hg
  subst hP hw hK
  obtain⟨f0,f1,f2,f3,f4,f5⟩:=hf it (by simp)
  have hn:["enumerate","zip","dict_itemiterator","dict_reverseitemiterator","odict_iterator","itertools.zip_longest","itertools.pairwise"].contains ty=false:=by rcases hty with rfl|rfl<;>decide
  have fin:∀(v:Value) (h':Heap) (tk:Nat),SignAt z i v->h'.IsStrIter it ty z t (i+1)->(∀b o,b∉[it]->s.heap.get? b=some o->h'.get? b=some o) ->
    ∃u,some v=some u/\wpAny (model X.prog X.w) X.A (letOwnedTupleGo tg (.ref it) u) (λ_ s2=>∃x H',Inv X pins σ H' s2/\aC x u/\(yZ z).yld i H x H'/\s2.heap.IsStrIter it ty z t (i+1)/\∀b∈[it],H' b=none) E { s with heap:=h',toks:=tk }:=by
   intro v h' tk hv st' kk
   obtain⟨c,u,hc',rfl⟩:=hv
   have I1:Inv X pins σ H { s with heap:=h',toks:=tk }:=I.turned (λb o hb e=>kk b o (by simpa using hb) e) f0 f1 f3 f4 f5
   obtain⟨o,e,c1,d⟩:=id st'
   exact⟨_,rfl,lQ e c1 d hn ⟨.str ⟨#[c]⟩,H,I1,⟨u,rfl⟩,⟨rfl,c,hc',rfl⟩,st',λb hb=>(hf b hb).1⟩⟩
  rcases hty with rfl|rfl
  ·exact (Walks.strAscii (I.ok.hd hc) it z t).item i s _ _ hg st fin
  ·exact (Walks.strWide (I.ok.hd hc) it z t).item i s _ _ hg st fin
 done:=by
  intro X hP hw hK hc i pins s σ H E I hf st hg
  subst hP hw hK
  obtain⟨f0,f1,f2,f3,f4,f5⟩:=hf it (by simp)
  have hx:z.cps[i]?=none:=Array.getElem?_eq_none hg
  rcases hty with rfl|rfl
  ·exact wpAny_pyNext_ascii_end (I.ok.hd hc) st hx λh' eb=>⟨rfl,I.turned (λb o hb e=>eb b o hb e) f0 f1 f3 f4 f5⟩
  ·exact wpAny_pyNext_wide_end (I.ok.hd hc) st hx λh' eb=>⟨rfl,I.turned (λb o hb e=>eb b o hb e) f0 f1 f3 f4 f5⟩
 self:=λ_ _ _ _ _ st h=>by
  rcases hty with rfl|rfl
  ·exact wpAny_pyIter_striter_ascii st h
  ·exact wpAny_pyIter_striter_wide st h
section
noncomputable def Cb(tl:TE):TI:=λσ H R=>tl σ H λx H1=>∃z,x=.str z/\R (yZ z) H1
theorem Cc{l:Expr}{tl:TE}(hl:PE X l tl):PI X tg l (Cb tl):=by
 intro pins s σ H R I h
 refine aS (hl pins s σ H _ I h) λv s1 ⟨x,H1,I1,r1,q1⟩=>?_
 obtain⟨z,e,q⟩:=q1
 subst e
 obtain⟨t,rfl⟩:=r1
 have fin:∀ty:String,(ty="str_ascii_iterator"∨ty="str_iterator")->Ap X pins σ tg R (.ref s1.heap.objs.size) { s1 with heap:=s1.heap.push { cls:=.type ty,data:=.fields #[.str z t,.int 0 0] } }:=λty hty=>by
  refine⟨s1.heap.objs.size,[s1.heap.objs.size],_,_,H1,rfl,I1.kept λb o e=>zc _ e,Ca hty z t _,⟨_,z1c _ rfl,rfl,rfl⟩,λb hb=>?_,q⟩
  have e:b=s1.heap.objs.size:=by simpa using hb
  subst e
  exact I1.y17f (z13 _) (I1.hok.fresh (z13 _))
 cases ha:z.cps.all (· < 128)
 ·exact wpAny_pyIter_wide ha (fin _ (.inr rfl))
 ·exact wpAny_pyIter_ascii ha (fin _ (.inl rfl))
end
section
end
end
end L2
namespace PySem
open PyProof.Rows
theorem Cd:typeLookup (.type "list_reverseiterator") "__len__" = pure none:=by rw [typeLookup_type,builtinLookup_eq_fast];kernel_rfl
theorem Ce:typeLookup (.type "list_reverseiterator") "__length_hint__" = pure (some (.builtin "list_reverseiterator.__length_hint__")):=by rw [typeLookup_type,builtinLookup_eq_fast];kernel_rfl
section
theorem uD(hT:s.TypeIs (.ref r) "list_reverseiterator")(h:Q false s):wpAny (model prog w) A (Builtin.List.listLengthHint (.ref r)) Q E s:=by
 have isa:isSubtype (.type "list_reverseiterator") (.type "list_reverseiterator")=pure true:=by rw [isSubtype_type];kernel_rfl
 have cut:splitId "list_reverseiterator.__length_hint__" = some ("list_reverseiterator","__length_hint__"):=by decide +kernel
 unfold Builtin.List.listLengthHint
 refine zd (wpAny_specialOf hT Cd (zd (wpAny_specialOf hT Ce ?_)))
 dsimp only
 rw [cut]
 refine zd (wpAny_isInstance hT isa ?_)
 rw [if_neg (by decide),if_pos (by decide +kernel),if_neg (by decide +kernel)]
 exact z1b h
noncomputable def y50(s:Shared):Value->Shared->Prop:=λv t=>v=.ref s.heap.objs.size/\t={ s with heap:=s.heap.push { cls:=.type "list",data:=.seq #[] } }
theorem yc0 (hh:A.handled=none)(hl:s.heap.IsList l items)(hne:l≠it)(hi:s.heap.IsRevIter it l ((items.size:Int)-1))(hn:items.size≤sizeLine)
  (hQ:∀h' tk acc c,(∀b o,b≠it->s.heap.get? b=some o->h'.get? b=some o)->h'.get? s.heap.objs.size=some { cls:=.type "list",dict:=none,data:=.seq acc c,slots:=#[] } ->
   ItemsOf (λi v=>items[items.size-1-i]?=some v) acc items.size->Q (.ref s.heap.objs.size) { s with heap:=h',toks:=tk }) :
  wpAny (model prog w) A (call (.type "list") [.ref it]) Q E s:=by
 refine callType_codes (Q₁:=y50 s) PySem.F.called_list (PySem.F.typeCall_list_1 _) PySem.F.entry_list_init (code_list_new _ ⟨rfl,rfl⟩) ?_
 rintro _ _ ⟨rfl,rfl⟩
 have hS:=z1c s.heap (o:={ cls:=.type "list",data:=.seq #[] }) rfl
 have below:∀{b o},s.heap.get? b=some o->b<s.heap.objs.size:=z16
 have hlt:l<s.heap.objs.size:=hl.elim λ_ q=>below q.1
 have hit:it<s.heap.objs.size:=hi.elim λ_ q=>below q.1
 refine⟨⟨_,hS,rfl⟩,PySem.F.args_list_init_2 _ _,?_⟩
 show wpAny _ _ (do let old <- Builtin.List.listItems (.ref s.heap.objs.size);Builtin.List.listUpdate (.ref s.heap.objs.size) (λ_=>#[]);letGo old.toList.reverse;Builtin.List.listExtendWith (.ref s.heap.objs.size) (.ref it) .none) _ _ _
 refine zd ?_
 unfold Builtin.List.listItems
 refine zd (wpAny_seqItems hS rfl (z1b ?_))
 show wpAny _ _ (updateSeq s.heap.objs.size (λ_=>#[]) >>= λ_=>letGo (#[]:Array Value).toList.reverse >>= λ_=>Builtin.List.listExtendWith (.ref s.heap.objs.size) (.ref it) .none) _ _ _
 refine zd (wpAny_updateSeq hS rfl ?_)
 have hS₂:=Heap.get?_update_self (Obj.mapSeq (λ_=>(#[]:Array Value))) hS rfl
 generalize hh2:(s.heap.push { cls:=.type "list",data:=.seq #[] }).update s.heap.objs.size (Obj.mapSeq (λ_=>(#[]:Array Value)))=h2 at hS₂ ⊢
 have oth:∀b o,s.heap.get? b=some o->h2.get? b=some o:=λb o e=>by
  rw [<- hh2]
  exact (Heap.get?_update_other _ _ (Nat.ne_of_gt (z16 e))).trans (zc _ e)
 refine zd (wpAny_letGo ?_)
 have hl2:h2.IsList l items:=hl.at λo e=>oth l o e
 have hi2:h2.IsRevIter it l ((items.size:Int)-1):=hi.at λo e=>oth it o e
 have hSI:s.heap.objs.size≠it:=Nat.ne_of_gt hit
 have W:=Walks.listRev (prog:=prog) (w:=w) (A:=A.in1.in1) hh it l hne items
 have st:(λi (h:Heap)=>i≤items.size/\h.IsRevIter it l ((items.size:Int)-1-(i:Int))/\h.IsList l items) 0 h2:=⟨Nat.zero_le _,by simpa using hi2,hl2⟩
 unfold Builtin.List.listExtendWith
 have hT:({ s with heap:=h2 }:Shared).TypeIs (.ref it) "list_reverseiterator":=hi2.typeIs
 refine zd (wpAny_typeOf hT ?_)
 have h1:Builtin.List.listSameRef (.ref s.heap.objs.size) (.ref it)=false:=by simp [Builtin.List.listSameRef,hSI]
 have h2':(Value.type "list_reverseiterator" == Value.type "list")=false:=by decide
 have h3:(Value.type "list_reverseiterator" == Value.type "tuple")=false:=by decide
 simp only [h1,h2',h3,Bool.or_false,Bool.false_eq_true,if_false]
 refine zd (wpAny_pyIter_revIter hi2 ?_)
 refine zd (wpAny_holding (uD hT ?_))
 have hSf:s.heap.objs.size∉[it,l]:=by simp only [zb,List.not_mem_nil,or_false,not_or];exact⟨hSI,Nat.ne_of_gt hlt⟩
 have key:∀(h:Heap) (c₁:Nat),(λi (h:Heap)=>i≤items.size/\h.IsRevIter it l ((items.size:Int)-1-(i:Int))/\h.IsList l items) 0 h->(∀b o,s.heap.get? b=some o->h.get? b=some o) ->
   h.get? s.heap.objs.size=some { cls:=.type "list",data:=.seq #[] c₁ }->codeAny (model prog w) A.in1 (.builtin "list.extend.loop" ⟨[.ref s.heap.objs.size,.ref it,.none],[]⟩) (wants (λr s₂=>r=.none/\Q (.ref s.heap.objs.size) s₂) E) { s with heap:=h }:=by
  intro h c₁ hst hk hS₁
  refine codeAny_extend_loopS W.toS hn s.heap.objs.size hSf .none items.size 0 _ #[] c₁ rfl (Nat.zero_le _) hst hS₁ (ItemsOf.nil _) λs' y68 c' hm hS' y1bf=>?_
  rw [Moved.eq_with hm]
  refine⟨rfl,hQ s'.heap s'.toks y68 c' (λb o hb e=>hm.heap b o (λy1d0=>?_) (hk b o e)) hS' y1bf⟩
  rcases zb.mp y1d0 with e'|y1d0
  ·exact absurd (z16 e) (by rw [e'];exact z2c _)
  ·exact hb (z22.mp y1d0)
 refine wpAny_ite_split (λ_=>?_) (λ_=>z1b ⟨plainId_quiet PySem.F.plain_extend_loop _,key _ _ st oth hS₂⟩)
 refine zd (wpAny_rule ?_)
 refine zd ?_
 show wpAny _ _ (updateSeq s.heap.objs.size (·.push .none) >>= λ_=>updateSeq s.heap.objs.size (·.pop)) _ _ _
 refine zd (wpAny_updateSeq hS₂ rfl ?_)
 have hS₃:=Heap.get?_update_self (Obj.mapSeq (·.push Value.none)) hS₂ rfl
 refine wpAny_updateSeq hS₃ rfl ?_
 have hS₄:=Heap.get?_update_self (Obj.mapSeq (·.pop)) hS₃ rfl
 have oth2:=((Heap.SameBut.update h2 s.heap.objs.size (Obj.mapSeq (·.push Value.none))).trans (Heap.SameBut.update _ _ (Obj.mapSeq (·.pop)))).extBut
 refine z1b ⟨plainId_quiet PySem.F.plain_extend_loop _,key _ _ ?_ (λb o e=>oth2 b o (z27 (z16 e)) (oth b o e)) hS₄⟩
 exact W.frame 0 _ _ st λb hb o e=>oth2 b o (λz=>hSf (z ▸ hb)) e
end
end PySem
namespace L2
open PySem PySem.Spec PyProof.Rows
section
section
theorem Cf(hc:X.calm=true)(gl:Gl X "list")(ml:X.mg "list" = none)(gr:Gl X "reversed")(mr:X.mg "reversed" = none)(he:PE X e te)
  (hs1:starEach [e] X.env=[(false,eval e X.env)]:=by rfl)
  (hs2:starEach [.Call (.Name "reversed" p2) [e] [] q2] X.env=[(false,eval (.Call (.Name "reversed" p2) [e] [] q2) X.env)]:=by rfl) :
  PE X (.Call (.Name "list" p1) [.Call (.Name "reversed" p2) [e] [] q2] [] q1) (λσ H Q=>te σ H λx H1=>∃l ys,x=.ref l/\bB X.K H1 l ys/\∀p,H1 p=none->Q (.ref p) (aP H1 p (.lst ys.reverse))):=by
 intro pins s σ H Q I h
 refine Call_ (gE I gl ml PyProof.Rows.boot_list (PyProof.Rows.callWith_type1 ?_ (by rw [hs2];rfl) rfl))
 rw [hs2]
 show wpAny _ _ (spliced ((false,eval (.Call (.Name "reversed" p2) [e] [] q2) X.env)::backTo q1 [])) _ _ s
 refine Calls.spliced_cons ?_
 refine Call_ (gE I gr mr PyProof.Rows.boot_reversed (PyProof.Rows.callWith_type1 ?_ (by rw [hs1];rfl) rfl))
 rw [hs1]
 show wpAny _ _ (spliced ((false,eval e X.env)::backTo q2 [])) _ _ s
 refine Calls.spliced_cons (aS (he pins s σ H _ I h) λu s1 ⟨x,H1,I1,r1,q1⟩=>Calls.spliced_nil ?_)
 obtain⟨l,ys,e1,hq,q⟩:=q1
 subst e1
 cases r1
 obtain⟨its,rv,p,hz⟩:=I1.list hq
 have hlen:=rv.length
 refine call_reversed_list p.isList (Calls.spliced_nil ?_)
 have hl1:(s1.heap.push (revObj l ((its.toArray.size:Int)-1))).IsList l its.toArray:=p.isList.push _
 have hlt:l<s1.heap.objs.size:=by obtain⟨_,e,_⟩:=p.isList;exact z16 e
 refine yc0 (I1.ok.hd hc) hl1 (z27 hlt) ⟨_,z1c _ rfl,rfl,rfl⟩ (by rw [ze,<- hlen];exact hz) λh' tk acc c hk hD y1bf=>?_
 have hk':∀b o,s1.heap.get? b=some o->h'.get? b=some o:=λb o e=>hk b o (z27 (z16 e)) (zc _ e)
 have hsz:s1.heap.objs.size≤(s1.heap.push (revObj l ((its.toArray.size:Int)-1))).objs.size:=by rw [Heap.size_push];exact Nat.le_succ _
 have hv:acc.toList=its.reverse:=by
  refine List.ext_getElem? λi=>?_
  by_cases hi:i<its.length
  ·have hi2:i<acc.size:=by rw [y1bf.1,ze];exact hi
   have e:=y1bf.2 i acc[i] (Array.getElem?_eq_getElem hi2)
   rw [List.getElem?_reverse hi,Array.getElem?_toList,Array.getElem?_eq_getElem hi2]
   simpa using e.symm
  ·rw [List.getElem?_eq_none (by rw [Array.length_toList,y1bf.1,ze];lia),List.getElem?_eq_none (by rw [z37];lia)]
 refine⟨.ref _,_,I1.laid hk' hsz ?_,rfl,q _ (I1.hok.fresh hsz)⟩
 exact⟨by rw [z37];exact hz,acc.toList,c,by rw [hv];exact rv.reverse,by rw [Array.toArray_toList];exact hD⟩
theorem Cg:cx X (binaryOp .FloorDiv) (rI (λ_ j=>0<j/\j<2 ^ 200) λi j=>.int (i / j)):=sY λi j _ _ _ _ _ hc q=>by
 have h0:j≠0:=by lia
 refine floordiv_int h0 ?_ (.inl (PyProof.noPylong_of_log2 ?_))
 ·rw [Int.fdiv_eq_ediv_of_nonneg _ (by lia)];exact q
 ·have:j.natAbs<2 ^ 200:=by lia
  have h1:j.natAbs≠0:=by lia
  exact Nat.lt_trans ((Nat.log2_lt h1).mpr this) (by decide)
theorem yaf:∀{bs:List Bool} {us:List Value},az (bs.map V.bl) us->us=bs.map Value.bool
 | [],_,r=>by rw [List.map_nil] at r;cases r;rfl
 | b::bs,_,r=>by
  rw [z19] at r
  cases r with
  | cons r1 r2=>rw [z19,<- yaf r2];cases (show _=Value.bool b from r1);rfl
theorem yba(hc:X.calm=true):y9 X (.builtin "all") (λxs H Q=>∃(p:Addr) (bs:List Bool),xs=[.ref p]/\bB X.K H p (bs.map V.bl)/\Q (.bl (bs.all id)) H):=by
 intro pins s σ H xs us Q I r h
 obtain⟨p,bs,rfl,hq,q⟩:=h
 obtain⟨u,rfl,ru⟩:=cX r
 cases ru
 obtain⟨its,rv,pl,hz⟩:=I.list hq
 have hits:=yaf rv
 have hlt:p<s.heap.objs.size:=by obtain⟨_,e,_⟩:=pl.isList;exact z16 e
 refine call_all_walk (wpAny_pyIter_list pl.isList ?_)
 refine⟨s.heap.objs.size,[s.heap.objs.size,p],[s.heap.objs.size],its.toArray.size,_,_,λi=>(bs[i]?).getD true,rfl,Walks.list (A:=X.A.in1) (I.ok.hd hc) _ p (z27 hlt) its.toArray,
  ⟨⟨_,z1c _ rfl,rfl,rfl⟩,pl.isList.push _⟩,λi v s' Q' E' hP hQ=>?_,λh' tk hk=>?_⟩
 ·have e:(bs.map Value.bool)[i]?=some v:=by rw [<- hits];simpa using hP
  rw [List.getElem?_map] at e
  cases eb:bs[i]? with
  | none=>rw [eb] at e;cases e
  | some b =>
   rw [eb] at e
   cases (show Value.bool b=v from z25 e)
   simp only [eb,Option.getD_some] at hQ
   exact wpAny_truthy_bool hQ
 ·have e:((List.range its.toArray.size).all λi=>(bs[i]?).getD true)=bs.all id:=by
   rw [ze,hits,z14];exact PyProof.Rows.LSm.range_all bs
  rw [e]
  refine⟨.bl (bs.all id),H,I.kept λb o eo=>hk b o (λhm=>?_) (zc _ eo),rfl,q⟩
  rw [z22.mp hm] at eo
  exact z2c _ (z16 eo)
theorem uE:∀{ys:List Str} {us:List Value},az (ys.map V.str) us->StrsAre us ys
 | [],_,r=>by rw [List.map_nil] at r;cases r;exact .nil
 | y::ys,_,r=>by
  rw [z19] at r
  cases r with
  | cons r1 r2 =>
   obtain⟨t,rfl⟩:=r1
   exact .cons y t (uE r2)
noncomputable def nV(K:W.Frag):V->List V->Hp->VK->Prop:=λx vs H Q=>∃(z:Str) (p:Addr) (ys:List Str),x=.str z/\vs=[.ref p]/\bB K H p (ys.map V.str)/\(ys.map (·.length)).sum+ys.length*z.length≤16777216/\Q (.str (Txt.join z ys)) H
theorem Ci:ko X "str.join" (nV X.K):=by
 intro pins s σ H x xs v us Q I rx r h
 obtain⟨z,p,ys,rfl,rfl,hq,hz,q⟩:=h
 obtain⟨t,rfl⟩:=rx
 obtain⟨u,rfl,ru⟩:=cX r
 cases ru
 obtain⟨its,rv,pl,_⟩:=I.list hq
 exact join_list pl.isList (uE (by simpa using rv)) hz λt' k=>⟨.str (Txt.join z ys),H,I.tok _,⟨_,rfl⟩,q⟩
end
end
end L2
namespace L2
open PySem PySem.Spec PyProof.Rows Builtin.Str
section
section
noncomputable def uF:V->Option Int->Option Int->Hp->VK->Prop:=λx lo hi H Q=>∃z,x=.str z/\z.length≤sizeLine/\Q (.str (Txt.slice z lo hi)) H
theorem Cj:l9 X uF:=by
 intro pins s σ H x v vl vu lo hi sl Q I rx hs pl pu h
 obtain⟨z,rfl,hz,q⟩:=h
 obtain⟨t,rfl⟩:=rx
 refine⟨"str",_,PySem.F.slot_str_getitem.lookup,typeIs_str _ _ _,?_⟩
 cases pl with
 | none =>
  cases pu with
  | none=>exact wpAny_getItem_str_slice (l:=none) (u:=none) (st:=none) hs rfl (post_val_or_str ⟨z21 (Txt.slice_le z _ _) hz,λt' k=>⟨.str (Txt.slice z none none),H,I.tok _,⟨_,rfl⟩,q⟩⟩)
  | int j uj=>exact wpAny_getItem_str_slice (l:=none) (u:=some (j,uj)) (st:=none) hs rfl (post_val_or_str ⟨z21 (Txt.slice_le z _ _) hz,λt' k=>⟨.str (Txt.slice z none (some j)),H,I.tok _,⟨_,rfl⟩,q⟩⟩)
 | int i ui =>
  cases pu with
  | none=>exact wpAny_getItem_str_slice (l:=some (i,ui)) (u:=none) (st:=none) hs rfl (post_val_or_str ⟨z21 (Txt.slice_le z _ _) hz,λt' k=>⟨.str (Txt.slice z (some i) none),H,I.tok _,⟨_,rfl⟩,q⟩⟩)
  | int j uj=>exact wpAny_getItem_str_slice (l:=some (i,ui)) (u:=some (j,uj)) (st:=none) hs rfl (post_val_or_str ⟨z21 (Txt.slice_le z _ _) hz,λt' k=>⟨.str (Txt.slice z (some i) (some j)),H,I.tok _,⟨_,rfl⟩,q⟩⟩)
theorem Ck:cx X (binaryOp .Mult) (λx y H Q=>∃z n,x=.str z/\y=.int n/\MulOk z n/\Q (.str (Txt.mul z n)) H):=by
 intro pins s σ H x y v u Q I rx ry h
 obtain⟨z,n,rfl,rfl,hm,q⟩:=h
 obtain⟨t,rfl⟩:=rx
 obtain⟨t',rfl⟩:=ry
 exact SB.mul hm λt' k=>⟨.str (Txt.mul z n),H,I.tok _,⟨_,rfl⟩,q⟩
theorem ybc:y9 X (.builtin "isinstance") (λxs H Q=>∃x t n b,xs=[x,.ty n]/\y5e X.K H x t/\W.kitOne X.K t (.type n)=some b/\Q (.bl b) H):=by
 intro pins s σ H xs us Q I r h
 obtain⟨x,t,n,b,rfl,ty,hk,q⟩:=h
 obtain⟨u,w',rfl,ru,rw'⟩:=ki r
 cases (show w'=Value.type n from rw')
 exact AZ I ru ty hk λtk=>⟨.bl b,H,I.tok _,rfl,q⟩
noncomputable def cS:List V->List V->Bool
 | [],[]=>true
 | x::xs,y::ys=>fY x y&&cS xs ys
 | _,_=>false
theorem uG:∀{xs ys:List V},xs.length≠ys.length->cS xs ys=false
 | [],[],h=>absurd rfl h
 | [],_::_,_=>rfl
 | _::_,[],_=>rfl
 | x::xs,y::ys,h=>by
  show (fY x y&&cS xs ys)=false
  rw [uG (λz=>h (by simp [z])),Bool.and_false]
noncomputable def jq(xs ys:List V)(j:Nat):Bool:=match xs[j]?,ys[j]? with
 | some x,some y=>fY x y
 | _,_=>true
theorem uH(n:Nat)(f:Nat->Bool):(List.range (n+1)).all f=(f 0&&(List.range n).all λj=>f (j+1)):=by
 rw [List.range_succ_eq_map,List.all_cons,List.all_map];rfl
theorem uI:∀{xs ys:List V},xs.length=ys.length->(List.range xs.length).all (jq xs ys)=cS xs ys
 | [],[],_=>rfl
 | x::xs,y::ys,h=>by
  rw [z20,uH]
  have ih:=uI (by simpa using h)
  show (jq (x::xs) (y::ys) 0&&(List.range xs.length).all λj=>jq (x::xs) (y::ys) (j+1))=(fY x y&&cS xs ys)
  rw [<- ih]
  rfl
theorem Cm  (r1:az xs us)(r2:az ys vs)(f1:xs.all a9=true)(f2:ys.all a9=true)(j:Nat)(h1:j<us.toArray.size)(h2:j<vs.toArray.size) :
  SeqAt.EqAt A s us.toArray[j] vs.toArray[j] (jq xs ys j):=by
 have l1:=r1.length
 have l2:=r2.length
 have h1':j<xs.length:=by rw [l1];simpa using h1
 have h2':j<ys.length:=by rw [l2];simpa using h2
 obtain⟨u,eu,ru⟩:=r1.get (z15 h1')
 obtain⟨v,ev,rv⟩:=r2.get (z15 h2')
 have e1:us.toArray[j]=u:=by
  have:us.toArray[j]?=some u:=by simpa using eu
  rw [Array.getElem?_eq_getElem h1] at this
  exact z25 this
 have e2:vs.toArray[j]=v:=by
  have:vs.toArray[j]?=some v:=by simpa using ev
  rw [Array.getElem?_eq_getElem h2] at this
  exact z25 this
 rw [e1,e2]
 have e3:jq xs ys j=fY xs[j] ys[j]:=by
  unfold jq
  rw [z15 h1',z15 h2']
 rw [e3]
 exact md ru rv (z36.mp f1 _ (z2e h1')) (z36.mp f2 _ (z2e h2'))
noncomputable def II(K:W.Frag)(neg:Bool):R2:=λx y H Q=>∃a b xs ys,x=.ref a/\y=.ref b/\bB K H a xs/\bB K H b ys/\xs.all a9=true/\ys.all a9=true/\Q (.bl (if neg then !cS xs ys else cS xs ys)) H
end
noncomputable def bZ(P:Program)(w:World)(K:W.Frag)(mg:Str->Option Value)(base:Heap)(x:Str)(k:Nat)(ps:List Str)(sp:Sp):Prop :=
 ∃(f:Addr) (fd:FuncData),mg x=some (.ref f)/\W.keepIn K (.ref f)=true/\cY K fd ps []/\y49 P w K mg base bU k f fd ps sp
theorem Cn    (h:bZ X.prog X.w X.K X.mg X.base x k ps sp)(hr:y58 k X.A)(hg:Gl X x)(ha:PA X (e::es) t)
  (hdb:(x == ("__debug__" : Str))=false:=by decide) (he:kb X e es:=by rfl) (hpl:ja X pos es:=by rfl) :
  PE X (.Call (.Name x p) (e::es) [] pos) (lY sp [] E0 t):=by
 obtain⟨f,fd,hm,hk,hb,G⟩:=h
 exact Bh G hr hg hm hk hb .nil mj ha hdb he hpl
end
end L2
namespace L2
open PySem PySem.Spec PyProof.Rows
section
noncomputable def eC(n:Nat)(ix:List Nat)(σ:St):St:=List.replicate n none++ix.map λi=>(σ[i]?).getD none
structure yc(X:Cx)(scope:Scope)(xs ys:List Str)(ix:List Nat):Prop where
 kind:scope.kind=.function
 hx:∀x∈xs,scope.names.lookup x=some .local
 y29b:∀p∈scope.names,p.2≠.cell
 names:∀p∈scope.names,p.2=.local->scope.names.lookup p.1=some .local
 fr:∀p∈scope.names,p.2=.free->X.env.kindOf p.1=some .cell∨X.env.kindOf p.1=some .free
 len:ys.length=ix.length
 here:∀(j:Nat) (y:Str) (i:Nat),ys[j]?=some y->ix[j]?=some i->scope.names.lookup y=some .free/\X.N[i]?=some y
 nd:(xs++ys).Nodup
noncomputable def ydc(osc:Scope)(N:List Str)(scope:Scope)(xs ys:List Str)(ix:List Nat):Bool :=
 decide (scope.kind=.function)&&xs.all (λx=>decide (scope.names.lookup x=some .local))&&scope.names.all (λp=>decide (p.2≠.cell)) &&
 scope.names.all (λp=>decide (p.2=.local->scope.names.lookup p.1=some .local)) &&
 scope.names.all (λp=>decide (p.2=.free->osc.names.lookup p.1=some .cell∨osc.names.lookup p.1=some .free)) &&
 decide (ys.length=ix.length)&&(ys.zip ix).all (λp=>decide (scope.names.lookup p.1=some .free/\N[p.2]?=some p.1))&&decide ((xs++ys).Nodup)
theorem iD  (hsc:X.env.scope=osc)(hN:X.N=N)(h:ydc osc N scope xs ys ix=true):yc X scope xs ys ix:=by
 unfold ydc at h
 simp only [z24,z36,decide_eq_true_eq] at h
 obtain⟨⟨⟨⟨⟨⟨⟨h1,h2⟩,h3⟩,h4⟩,h5⟩,h6⟩,h7⟩,h8⟩:=h
 refine⟨h1,h2,h3,h4,λp hp hf=>?_,h6,λj y i e1 e2=>?_,h8⟩
 ·have:=h5 p hp hf
  unfold Env.kindOf
  rw [hsc]
  exact this
 ·rw [hN]
  refine h7 (y,i) ?_
  have:(ys.zip ix)[j]?=some (y,i):=by rw [List.getElem?_zip_eq_some];exact⟨e1,e2⟩
  exact z30 this
noncomputable def y4f(n:Nat)(ix:List Nat)(σ σ':St):Prop:=σ'.length=n+ix.length/\∀(j:Nat) v,(eC n ix σ)[j]?=some (some v)->σ'[j]?=some (some v)
theorem uJ(n:Nat)(ix:List Nat)(σ:St):(eC n ix σ).length=n+ix.length:=by
 unfold eC
 rw [z18,List.length_replicate,z14]
theorem Co  (h:j<n)(v:V):(eC n ix σ)[j]?≠some (some v):=by
 unfold eC
 rw [z2a (by rw [List.length_replicate];exact h),List.getElem?_replicate,if_pos h]
 intro e
 have:(none:Option V)=some v:=z25 e
 cases this
theorem ye2  (O:yc X scope xs ys ix)
  (I:Inv X pins σ H s) (hf:∀b∈fp,iH X pins H b) (hfl:∀b∈fp,b<s.heap.objs.size) (m:Str->Option Value)
  (hns:h'.Ns s.heap.objs.size m) (hk:∀b o,s.heap.get? b=some o->h'.get? b=some o) :
  Inv (eO X scope (xs++ys) ⟨fp,s,H,s.heap.objs.size,pins⟩) [] (eC xs.length ix σ) H { s with heap:=h',toks:=t' }:=by
 have hC:H s.heap.objs.size=none:=I.hok.fresh (z13 _)
 have cl:∀y c,(oU scope.names X.env).lookup y=some c->X.env.cells.lookup y=some c:=λy c e=>by
  rcases (mn).mp (hI e) with z|⟨z,rfl⟩
  ·simp at z
  ·obtain⟨c',e'⟩:=I.ok.has y (O.fr _ z rfl)
   rw [e'];rfl
 have clh:∀y,(y,NameKind.free)∈scope.names->∃c,(oU scope.names X.env).lookup y=some c:=λy z=>uA ((mn).mpr (.inr ⟨z,rfl⟩))
 refine⟨⟨I.ok.mod,O.kind,I.ok.glob,I.ok.blt,z13 _,λy z c h1 h2=>I.ok.inj y z c (cl y c h1) (cl z c h2),λy hy=>?_,λy c h _=>?_,I.ok.hd,I.ok.frames,.inl rfl,
  λb hb=>⟨z27 (hfl b hb),λy c e=>(hf b hb).2.2.2.2.1 y c (cl y c e)⟩,I.bs,z21 I.ok.bsz I.sz,λb o e hb=>?_,λb hb hb2=>?_,I.stack,I.y48a⟩,
  rfl,I.bare,Un.kept hk,⟨m,hns,λi y v e1 e2 vis=>?_⟩,λy c e=>?_,hC,λy c e=>I.y180 y c (cl y c e),λp hp=>?_,I.hok.kept hk,?_⟩
 ·rcases hy with h|h
  ·rcases mq h with q|⟨q,_⟩
   ·exact absurd rfl (O.y29b _ (hI q))
   ·exact clh y (hI q)
  ·rcases mq h with q|⟨q,e⟩
   ·exact clh y (hI q)
   ·cases e
 ·exact Bool.noConfusion (show false=true from h)
 ·rcases (hf b hb).2.2.2.1 with z|z
  ·exact I.ok.y29d b o e z
  ·exact absurd (z1e (z1e (z16 e) I.ok.bsz) z) (z2c _)
 ·exact (zb.mp (I.y48b b hb2)).elim (λe=>(hf b hb).2.1 e) λz=>(hf b hb).2.2.1 z
 ·have hil:xs.length≤i:=Nat.le_of_not_lt λq=>Co q v e2
  obtain⟨j,rfl⟩:=Nat.exists_eq_add_of_le hil
  have ey:ys[j]?=some y:=by
   have e1':(xs++ys)[xs.length+j]?=some y:=e1
   rw [z28 (Nat.le_add_right _ _),Nat.add_sub_cancel_left] at e1'
   exact e1'
  have e2':(ix.map λi=>(σ[i]?).getD none)[j]?=some (some v):=by
   have e2'':(eC xs.length ix σ)[xs.length+j]?=some (some v):=e2
   unfold eC at e2''
   rw [z28 (by rw [List.length_replicate];exact Nat.le_add_right _ _),List.length_replicate,Nat.add_sub_cancel_left] at e2''
   exact e2''
  rw [List.getElem?_map] at e2'
  cases hi:ix[j]? with
  | none=>rw [hi] at e2';cases e2'
  | some i =>
   rw [hi] at e2'
   have e3:(σ[i]?).getD none=some v:=z25 e2'
   obtain⟨y1ca,hN⟩:=O.here j y i ey hi
   have ev:σ[i]?=some (some v):=by
    cases h:σ[i]? with
    | none=>rw [h] at e3;cases e3
    | some q=>rw [h] at e3;exact congrArg some e3
   obtain⟨m',_,hl⟩:=I.loc
   have hkx:=O.fr (y,.free) (hI y1ca) rfl
   obtain⟨u,r,l⟩:=hl i y v hN ev (hkx.elim (λz=>.inr (.inl z)) λz=>.inr (.inr z))
   refine⟨u,r,.inr ⟨uB y1ca,?_⟩⟩
   obtain⟨c,ec⟩:=clh y (hI y1ca)
   rcases l with⟨k,_⟩| ⟨_,c',ec',z⟩
   ·rcases hkx with q|q
    ·rw [q] at k;cases k
    ·rw [q] at k;cases k
   ·have:c=c':=z25 ((cl y c ec).symm.trans ec')
    subst this
    exact⟨c,ec,z.keeps hk⟩
 ·obtain⟨v,z⟩:=I.cell y c (cl y c e)
  exact⟨v,z.keeps hk⟩
 ·have hp':p∈(X.pn++pins)++([]:List (Addr×Obj)):=hp
  rw [z17] at hp'
  obtain⟨e,n,ne,nf,d⟩:=I.pin p hp'
  exact⟨hk _ _ e,n,z27 (z16 e),λz=>(zb.mp (I.y48b _ z)).elim ne nf,d⟩
 ·show (eC xs.length ix σ).length=(xs++ys).length
  rw [uJ,z18,O.len]
noncomputable def yd(n:Nat)(ix:List Nat)(J:It)(g:yb->TG)(tt:yb->TT)(te:yb->TE)(σ:St)(Q:VK)(H1:Hp):Prop :=
 ∀D,H1 D=none->∃W:Nat->Nat->List V->Hp->Prop,(∃m,W 0 m [] (aP H1 D (.lst [])))/\∀i m ys H2,W i m ys H2->H2 D=some (.lst ys) /\
  ((J.stop i H2/\Q (.ref D) H2)∨(J.go i H2/\ys.length<sizeLine/\∃N:List V->Hp->Prop,(∀ys' H',N ys' H'->∃m',m'<m/\W (i+1) m' ys' H') /\
   ∀x H3,J.yld i H2 x H3->∀z,g z x (eC n ix σ) H3 λσ' H3'=>y4f n ix σ σ'/\tt z σ' H3' λb H4 =>
    if b=true then te z σ' H4 λy H5=>H5 D=some (.lst ys)/\N (ys++[y]) (aP H5 D (.lst (ys++[y]))) else N ys H4))
theorem ye0  (O:yc X scope xs ys ix)(hc:X.calm=true)  {g:yb->TG}{tt:yb->TT}{te:yb->TE}
  (hg:∀z,PG (eO X scope (xs++ys) z) tg (g z)) (hi:∀z,nS (eO X scope (xs++ys) z) ifs (tt z)) (he:∀z,PE (eO X scope (xs++ys) z) elt (te z))
  {σ:St} {H:Hp}   {tn:Nat->Heap->Prop} (I2:Inv X pins σ H s2) (T:Turn X.prog X.w X.K tg J fp it tn) (st:tn 0 s2.heap)
  (hf:∀b∈fp,iH X pins H b) {Q:VK} (hw:yd xs.length ix J g tt te σ Q H) {RR:Value->Addr->Result->Shared->Prop} {E:Value->Shared->Prop}
  (hRR:∀D C m' H' s',Inv X pins σ H' s'->s'.heap.Ns C m'->iH X pins H' C->Q (.ref D) H'->RR (.ref D) C (.ok .next) s') :
  wpAny (model X.prog X.w) X.A (newList []) (λacc s₃=>wpAny (model X.prog X.w) X.A (newFunctionEnv scope X.env.globals (oU scope.names X.env) [] X.env.qual none .none (some X.env)) (λcenv s₄ =>
   codeAny (model X.prog X.w) X.A (.compStart (.ListComp elt [⟨tg,iter,ifs,0⟩] scope pos) 0 (.ref it) acc { cenv with scope:=relabel scope X.env }) (RR acc cenv.locals) s₄) E s₃) E s2:=by
 refine z33 (wpAny_newFunctionEnv O.y29b (by intro y hy;simp at hy) (λh₁ hns₁ hsb₁=>?_) O.kind)
 dsimp only at hns₁ hsb₁ ⊢
 have hDn:H s2.heap.objs.size=none:=I2.hok.fresh (z13 _)
 obtain⟨W,⟨m0,w0⟩,turn⟩:=hw s2.heap.objs.size hDn
 have flt:∀b∈fp,b<s2.heap.objs.size:=λb hb=>by
  obtain⟨o,e,_⟩:=T.obj 0 _ st b hb
  exact z16 e
 obtain⟨s3,hs3⟩:∃s3:Shared,s3={ s2 with heap:=s2.heap.push { cls:=.type "list",data:=.seq ([]:List Value).toArray } }:=⟨_,rfl⟩
 have hh3:s3.heap=s2.heap.push { cls:=.type "list",data:=.seq ([]:List Value).toArray }:=by rw [hs3]
 have I3:Inv X pins σ (aP H s2.heap.objs.size (.lst [])) s3:=by
  rw [hs3]
  exact I2.laid (λb u e=>zc _ e) (z13 _) (show eh X.prog X.w _ _ _ (.lst []) from ⟨Nat.zero_le _,[],0,.nil,z1c _ rfl⟩)
 have hns₂:h₁.Ns s3.heap.objs.size λx=>([]:List (Str×Value)).reverse.lookup x:=by rw [hh3];exact hns₁
 have hsb₂:Heap.SameBut s3.heap.objs.size (s3.heap.push { cls:=.type (if (some X.env).isSome then "dict" else "frame"),data:=.dict #[] }) h₁:=by rw [hh3];exact hsb₁
 have hf3:∀b∈fp,iH X pins (aP H s2.heap.objs.size (.lst [])) b:=λb hb=>⟨by rw [aX (z27 (flt b hb))];exact (hf b hb).1,(hf b hb).2⟩
 have hsz:s3.heap.objs.size=s2.heap.objs.size+1:=by rw [hh3,Heap.size_push]
 have flt3:∀b∈fp,b<s3.heap.objs.size:=λb hb=>by rw [hsz];exact Nat.lt_succ_of_lt (flt b hb)
 have hk:∀b o,s3.heap.get? b=some o->h₁.get? b=some o:=λb o e=>hsb₂.extBut b o (z27 (z16 e)) (zc _ e)
 have hk2:∀b o,s2.heap.get? b=some o->h₁.get? b=some o:=λb o e=>hk b o (by rw [hh3];exact zc _ e)
 have st1:tn 0 h₁:=T.keep _ _ _ st λb hb o e=>hk2 b o e
 let z:yb:=⟨fp,s3,aP H s2.heap.objs.size (.lst []),s3.heap.objs.size,pins⟩
 have cl:∀y c,(oU scope.names X.env).lookup y=some c->X.env.cells.lookup y=some c:=λy c e=>by
  rcases (mn).mp (hI e) with q|⟨q,rfl⟩
  ·simp at q
  ·obtain⟨c',e'⟩:=I2.ok.has y (O.fr _ q rfl)
   rw [e'];rfl
 have fpy:∀{H':Hp},(∀b∈fp,H' b=none)->∀b∈fp,iH (eO X scope (xs++ys) z) [] H' b:=λhn b hb=>by
  refine⟨hn b hb,z27 (flt3 b hb),λhb2=>?_,.inl hb,λy c e=>(hf b hb).2.2.2.2.1 y c (cl y c e),λp hp=>?_⟩
  ·exact (zb.mp (I3.y48b b hb2)).elim (λe=>(hf b hb).2.1 e) λq=>(hf b hb).2.2.1 q
  ·have hp':p∈(X.pn++pins)++([]:List (Addr×Obj)):=hp
   rw [z17] at hp'
   exact (hf b hb).2.2.2.2.2 p hp'
 have back:∀{pl:List (Addr×Obj)} {σ':St} {H':Hp} {s':Shared},Inv (eO X scope (xs++ys) z) pl σ' H' s'->Inv X pins σ H' s'/\iH X pins H' s3.heap.objs.size:=λ{pl σ' H' s'} IY=>by
  have I':Inv X pins σ H' s':=I3.call' IY.os IY.base IY.hok IY.bare λb hb=>⟨(hf b hb).2.2.2.1,(hf b hb).2.1,(hf b hb).2.2.2.2.1,(hf b hb).2.2.2.2.2⟩
  exact⟨I',I3.y17f (z13 _) IY.free⟩
 have loop:∀t':Nat,codeAny (model X.prog X.w) X.A (.compLoop (.ListComp elt [⟨tg,iter,ifs,0⟩] scope pos) 0 (.ref it) (.ref s2.heap.objs.size) (eO X scope (xs++ys) z).env) (RR (.ref s2.heap.objs.size) s3.heap.objs.size) { s3 with heap:=h₁,toks:=t' }:=by
  intro t'
  have IY:=ye2 (t':=t') O I3 hf3 flt3 _ hns₂ hk
  refine yd8 (λn s'=>∃i vs H',Inv (eO X scope (xs++ys) z) [] (eC xs.length ix σ) H' s'/\tn i s'.heap/\(∀b∈fp,H' b=none)/\W i n vs H') ?_ m0 ⟨0,[],_,IY,st1,λb hb=>(hf3 b hb).1,w0⟩
  rintro n s5 ⟨i,vs,H5,I5,st5,fr5,w5⟩
  obtain⟨hD,stop|go⟩:=turn i n vs H5 w5
  ·refine aS (T.done (eO X scope (xs++ys) z) rfl rfl rfl hc i [] s5 _ H5 _ I5 (fpy fr5) st5 stop.1) λr s6 ⟨hr,I6⟩=>?_
   subst hr
   obtain⟨m6,n6,_⟩:=I6.loc
   exact hRR _ _ m6 H5 s6 (back I6).1 n6 (back I6).2 stop.2
  ·obtain⟨hgo,hl,N,hN,step⟩:=go
   refine aS (T.item (eO X scope (xs++ys) z) rfl rfl rfl hc i [] s5 _ H5 _ I5 (fpy fr5) st5 hgo) λr s6 ⟨u,hr,h6⟩=>?_
   subst hr
   refine aS h6 λ_ s7 ⟨xv,H7,I7,r7,y7,st7,fr7⟩=>?_
   have I7':=I7.pinned (fpy fr7) (T.obj _ _ st7)
   have q7:=step xv H7 y7 z
   refine aS (hg z _ s7 _ H7 xv u _ I7' r7 q7) λ_ s8 q8=>?_
   obtain⟨σ8,H8,I8,k8,q8⟩:=q8
   have wk:∀{H':Hp} {s':Shared},Inv (eO X scope (xs++ys) z) ([]++kh fp s7.heap) σ8 H' s'->Inv (eO X scope (xs++ys) z) [] (eC xs.length ix σ) H' s'/\tn (i+1) s'.heap/\∀b∈fp,H' b=none:=λ{H' s'} IW=>by
    refine⟨(IW.y55e).weak (by rw [uJ];exact k8.1.symm) k8.2,T.keep _ _ _ st7 λb hb o e=>(IW.pin (b,o) (z26 _ (z26 _ (lR hb e)))).1,λb hb=>?_⟩
    obtain⟨o,e,d⟩:=T.obj _ _ st7 b hb
    exact (IW.pin (b,o) (z26 _ (z26 _ (lR hb e)))).2.1
   refine aS (hi z _ s8 _ H8 _ I8 q8) λok s9 ⟨H9,I9,q9⟩=>?_
   cases ok with
   | false =>
    rw [if_neg zf] at q9
    rw [if_neg zf]
    obtain⟨m',hm,w9⟩:=hN _ _ q9
    exact⟨m',hm,i+1,vs,H9,(wk I9).1,(wk I9).2.1,(wk I9).2.2,w9⟩
   | true =>
    rw [if_pos rfl] at q9
    rw [if_pos rfl]
    refine aS (he z _ s9 _ H9 _ I9 q9) λyv s10 ⟨y,H10,I10,r10,hD10,n10⟩=>?_
    obtain⟨m',hm,w10⟩:=hN _ _ n10
    have ap:=uw _ s10 _ H10 (.ref s2.heap.objs.size) [y] (.ref s2.heap.objs.size) [yv] (λv H'=>H'=aP H10 s2.heap.objs.size (.lst (vs++[y]))) I10 rfl (.cons r10 .nil) ⟨s2.heap.objs.size,vs,y,rfl,rfl,hD10,hl,rfl⟩
    refine aS ap λ_ s11 ⟨_,H11,I11,_,e11⟩=>?_
    subst e11
    exact⟨m',hm,i+1,vs++[y],_,(wk I11).1,(wk I11).2.1,(wk I11).2.2,w10⟩
 subst hs3
 exact codeAny_compStart_list (loop _) (T.self X.A 0 _ _ _ st1 (loop _))
noncomputable def oV(n:Nat)(ix:List Nat)(wi:TI)(g:yb->TG)(tt:yb->TT)(te:yb->TE):TE:=λσ H Q=>wi σ H λJ H1=>yd n ix J g tt te σ Q H1
section
variable {X:Cx}{scope:Scope}{xs ys:List Str}{ix:List Nat}{elt iter tg:Expr}{ifs:List Expr}{pos:Pos}{wi:TI}{g:yb->TG}{tt:yb->TT}{te:yb->TE}
theorem uK(O:yc X scope xs ys ix)(hc:X.calm=true)(hit:PI X tg iter wi)(hg:∀z,PG (eO X scope (xs++ys) z) tg (g z))
  (hi:∀z,nS (eO X scope (xs++ys) z) ifs (tt z)) (he:∀z,PE (eO X scope (xs++ys) z) elt (te z)) (hs:∀v,foldedSetIterable iter X.env v=pure v:=by intro _;rfl) :
  PE X (.ListComp elt [⟨tg,iter,ifs,0⟩] scope pos) (oV xs.length ix wi g tt te):=by
 intro pins s σ H Q I h
 rw [eval_ListComp]
 refine wpAny_comprehension_free rfl hs (yd3 λp hp hf=>I.ok.has p.1 (O.fr p hp hf)) O.kind O.names (aS (hit pins s σ H _ I h) λv s1 h1=>aS h1 λitv s2 h2=>?_)
 obtain⟨it,fp,tn,J,H2,e,I2,T,st2,f2,hw⟩:=h2
 subst e
 refine ye0 O hc hg hi he I2 T st2 f2 hw ?_
 intro D C m' H' s' I' n' fC q
 exact⟨m',n',λh' hs'=>⟨.ref D,H',ye4 I' fC hs',rfl,q⟩⟩
theorem mv  (O:yc X scope xs ys ix)(hi:xs[i]?=some x):PG (eO X scope (xs++ys) z) (.Name x p) (jh i):=by
 have hm:x∈xs:=z30 hi
 have hl:i<xs.length:=(z1f.mp hi).1
 exact oA O.nd (by show (xs++ys)[i]?=some x;rw [z2a hl];exact hi) (.inl (lookup_relabel_local (O.hx x hm))) (.inr (lookup_relabel_local (O.hx x hm)))
end
end
end L2
namespace PySem
open Sem
open PySem.AutoSeq1 in
theorem y161(p:Addr)(xs:Array Value)(m:Nat)(q:Addr)(ys:Array Value)(m2:Nat)(qd:Option Addr)(qs:Array (Option Value))
  (short:¬(!xs.isEmpty&&Builtin.List.listTooLong (xs.size+ys.size))=true) (hx:xs.size≤sizeLine) (hxy:xs.size+ys.size≤sizeLine+1) :
  Meets (Builtin.«list.extend» ⟨[.ref p,.ref q],[]⟩) (λ_ R st =>
   st.heap.get? p=some { cls:=.type "list",dict:=none,data:=.seq xs m,slots:=#[] } /\
   st.heap.get? q=some { cls:=.type "tuple",dict:=qd,data:=.seq ys m2,slots:=qs } /\
   R (.ok (.ret Value.none)) { st with heap:=st.heap.update p (Obj.mapSeq λzs=>zs++ys),toks:=st.toks }):=by
 refine .of_wp λprog w A R st g=>?_
 obtain⟨heap0,gens0,drawn0,toks0,os0⟩:=st
 obtain⟨gp,gq,gR⟩:=g
 have a1:=idx_int
 have a2:=sub_tuple_tuple
 have a3:=sub_list_list
 have a4:=sub_tuple_list
 have a5:=sub_list_tuple
 have both:(xs++ys).size≤sizeLine+1:=by
  rw [Array.size_append]
  exact hxy
 wp_walk using (wpAny_updateSeq gp rfl),wpAny_loadPart' gp,wpAny_loadPart' gq
 exact⟨_,rfl,gR⟩
end PySem
namespace HT
open PySem PySem.Spec PyProof.Rows
section
variable {prog:Program}{w:World}{A:Around}{E:Value->Shared->Prop}{s:Shared}
end
end HT
namespace L2
open PySem PySem.Spec PyProof.Rows
section
section
variable {X:Cx}{e st:Expr}{te:TE}{p2 pos:Pos}
noncomputable def uL(K:W.Frag):V->List V->Hp->VK->Prop:=λx vs H Q=>∃l b xs zs,x=.ref l/\vs=[.ref b]/\H l=some (.lst xs)/\bt K H b zs/\xs.length+zs.length≤sizeLine/\Q .non (aP H l (.lst (xs++zs)))
theorem Cp:yY X "list.extend" (uL X.K):=by
 intro pins s σ H x vs v us Q I rx rv h
 obtain⟨l,b,xs,zs,rfl,rfl,hH,hB,hz,q⟩:=h
 cases rx
 obtain⟨u,rfl,ru⟩:=rv.one
 cases ru
 obtain⟨z,its,n,r,hl,e⟩:=I.y25c hH
 obtain⟨y1fa,r2,ht,hl2⟩:=I.tuple hB
 obtain⟨⟨oc,od,oda,os⟩,e2,rfl,n2,rfl⟩:=id ht
 have hsz:its.toArray.size+y1fa.toArray.size≤sizeLine:=by rw [ze,ze,<- r.length,<- r2.length];lia
 have y1cf:¬ (!its.toArray.isEmpty&&Builtin.List.listTooLong (its.toArray.size+y1fa.toArray.size))=true:=by
  rw [oT hsz,Bool.and_false]
  exact zf
 refine call_meets F.slot_list_extend ⟨_,e,rfl⟩ F.entry_list_extend (F.args_list_extend_2 _ _)
  (PySem.y161 l its.toArray n b y1fa.toArray n2 od os y1cf (by rw [ze];lia) (by lia)) ⟨e,e2,?_⟩
 refine⟨.non,_,I.lset hH e (by simp) (r.append r2) ?_,rfl,q⟩
 rw [z18]
 lia
end
end
section
end
end L2
namespace My
inductive F2{α β:Type}(R:α->β->Prop):List α->List β->Prop
 | nil:F2 R [] []
 | cons {a:α} {b:β} {as:List α} {bs:List β}:R a b->F2 R as bs->F2 R (a::as) (b::bs)
end My
namespace L2
open PySem PySem.Spec PyProof.Rows
section
section
end
end
end L2
namespace HT
open PySem PySem.Spec PyProof.Rows
section
theorem y191{t sl:Addr}{items:Array Value}{vl vu:Value}{lo hi:Option Int}{Q:Value->Shared->Prop}(ht:IsTup s.heap t items)(hs:s.heap.IsSliceOf sl vl vu .none)(pl:IsPart vl lo)(pu:IsPart vu hi)
  (hw:sIx items.size 0 lo=0/\sIx items.size items.size hi=items.size) (h:Q (.ref t) s):wpAny (model prog w) A (getItem (.ref t) (.ref sl)) Q E s:=by
 obtain⟨os,hos,hcs,hds⟩:=id hs
 have hTs:s.TypeIs (.ref sl) "slice":=⟨os,hos,hcs⟩
 unfold getItem
 try with_reducible refine wpAny_holding ?_
 first|refine zd (z1b ?_)|skip
 refine zd (wpAny_sequenceKey ht.typeIs (by decide) ?_)
 refine zd (wpAny_callSpecial?_slot ht.typeIs PyProof.Rows.slot_tuple_getitem
  (wpAny_call_entry PyProof.Rows.slot_tuple_getitem ht.typeIs entry_tuple_getitem ?_ (args_tuple_getitem _ _)))
 show wpAny _ _ (Builtin.Tuple.tupleItemsOf (.ref t) >>= _) _ _ s
 refine zd (tupleItemsOf_ ht ?_)
 refine zd (wpAny_typeOf hTs ?_)
 rw [if_pos (by decide)]
 refine zd (ub hs pl pu ?_)
 have hyes:(((sIx items.size 0 lo:Nat):Int) == 0&&(1:Int) == 1&&(sIx items.size items.size hi-sIx items.size 0 lo) == items.size)=true:=by
  rw [hw.1,hw.2];simp
 show wpAny _ _ (if (((sIx items.size 0 lo:Nat):Int) == 0&&(1:Int) == 1&&(sIx items.size items.size hi-sIx items.size 0 lo) == items.size)=true then _ else _) _ _ s
 rw [if_pos hyes]
 unfold Builtin.Tuple.tupleIsExact
 refine zd (zd (wpAny_typeOf ht.typeIs (z1b ?_)))
 rw [if_pos (by decide)]
 refine zd (wpAny_rule ?_)
 exact z1b ⟨_,rfl,z1b h⟩
end
end HT
namespace L2
open PySem PySem.Spec PyProof.Rows
section
section
noncomputable def uM:V->Option Int->Option Int->Hp->VK->Prop:=λx lo hi H Q=>∃a xs,x=.ref a/\H a=some (.tup xs)/\∀(b:Addr) (H':Hp),H' b=some (.tup (km xs lo hi))->(∀c o,H c=some o->H' c=some o)->Q (.ref b) H'
theorem Cq:l9 X uM:=by
 intro pins s σ H x v vl vu lo hi sl Q I rx hs pl pu h
 obtain⟨a,xs,rfl,hx,q⟩:=h
 by_cases hw:HT.sIx xs.length 0 lo=0/\HT.sIx xs.length xs.length hi=xs.length
 ·cases rx
  obtain⟨its,r,ht,hz⟩:=I.tuple (bt.of hx)
  have hlen:its.toArray.size=xs.length:=by rw [ze];exact r.length.symm
  refine⟨"tuple",_,PyProof.Rows.slot_tuple_getitem.lookup,ht.typeIs,?_⟩
  refine HT.y191 ht hs pl pu (by rw [hlen];exact hw) ⟨.ref a,H,I,rfl,q a H ?_ λ_ _ e=>e⟩
  have e:km xs lo hi=xs:=by
   unfold km
   rw [hw.1,hw.2];simp
  rw [e];exact hx
 ·exact BI pins s σ H (.ref a) v vl vu lo hi sl Q I rx hs pl pu ⟨a,xs,rfl,bt.of hx,hw,λp hp=>q p _ b4 λc o e=>by rw [aX (dM e hp)];exact e⟩
end
end
section
section
theorem Inv.y4eb{fp:List Addr}{T:Addr}{o:HO}{t':Nat}(I:Inv X pins σ H s)(hf:∀b∈fp,iH X pins H b)(k:∀b u,b∉fp->s.heap.get? b=some u->h'.get? b=some u)(hT:s.heap.objs.size≤T)
  (new:eh X.prog X.w (aP H T o) h' T o):Inv X pins σ (aP H T o) { s with heap:=h',toks:=t' }:=by
 have hn:H T=none:=I.hok.fresh hT
 have neT:∀b u,s.heap.get? b=some u->b≠T:=λb u e z=>z2c _ (z1e (z16 e) (by rw [z];exact hT))
 have nfp:∀b u,H b=some u->b∉fp:=λb u e z=>by
  have q:=(hf b z).1
  rw [q] at e;cases e
 have hL:X.env.locals∉fp:=λz=>(hf _ z).2.1 rfl
 refine I.step (λb hb=>?_) (λb u _ _ hc e _=>k b u hc e) (λb u _ _ hc e _=>⟨u.slots,k b u hc e⟩) (λb u hc e n=>?_)
  (λb u hc e=>⟨u,k b u hc e⟩) (λb xs e=>?_) (λb u v e=>?_) (λb ps e=>⟨#[],?_⟩) (λm hm=>?_) (λb u e=>?_) I.bare
 ·obtain⟨_,f1,_,f3,f4,f5⟩:=hf b hb
  exact⟨f3,f1,f4,f5⟩
 ·rw [aX (neT b u e)];exact n
 ·rw [aX (dM e hn)];exact e
 ·rw [aX (dM e hn)];exact e
 ·rw [aX (dM e hn),e];simp
 ·obtain⟨u,es,ep,ho,r⟩:=hm
  exact⟨u,es,ep,k _ u hL ho,r⟩
 ·by_cases hb:b=T
  ·subst hb;rw [b4] at e;cases e;exact new
  ·rw [aX hb] at e
   refine (I.hok b u e).y488 (λc v hc q=>k c v ?_ q) (λc q=>by rw [aX (dM q hn)];exact q) λc xs q=>by rw [aX (dM q hn)];exact q
   rcases hc with z|z
   ·rw [z];exact nfp b u e
   ·exact nfp c _ z
theorem Inv.y4ec{fp:List Addr}{t':Nat}(I:Inv X pins σ H s)(hf:∀b∈fp,iH X pins H b)(k:∀b u,b∉fp->s.heap.get? b=some u->h'.get? b=some u):Inv X pins σ H { s with heap:=h',toks:=t' }:=by
 have nfp:∀b u,H b=some u->b∉fp:=λb u e z=>by
  have q:=(hf b z).1
  rw [q] at e;cases e
 have hL:X.env.locals∉fp:=λz=>(hf _ z).2.1 rfl
 refine I.step (λb hb=>?_) (λb u _ _ hc e _=>k b u hc e) (λb u _ _ hc e _=>⟨u.slots,k b u hc e⟩) (λb u hc e n=>n)
  (λb u hc e=>⟨u,k b u hc e⟩) (λb xs e=>e) (λb u v e=>e) (λb ps e=>⟨#[],by rw [e];simp⟩) (λm hm=>?_) (λb u e=>?_) I.bare
 ·obtain⟨_,f1,_,f3,f4,f5⟩:=hf b hb
  exact⟨f3,f1,f4,f5⟩
 ·obtain⟨u,es,ep,ho,r⟩:=hm
  exact⟨u,es,ep,k _ u hL ho,r⟩
 ·refine (I.hok b u e).y488 (λc v hc q=>k c v ?_ q) (λ_ q=>q) λ_ _ q=>q
  rcases hc with z|z
  ·rw [z];exact nfp b u e
  ·exact nfp c _ z
end
section
end
end
section
noncomputable def ku(xs:List V)(lo hi st:Option Int):List V:=(sliceRange (sliceBounds lo hi st xs.length).1 (sliceBounds lo hi st xs.length).2.1 (sliceBounds lo hi st xs.length).2.2).filterMap (xs[·]?)
theorem az.y2a2{xs:List V}{us:List Value}(h:az xs us){j:Nat}(e:xs[j]?=none):us[j]?=none:=by
 rw [List.getElem?_eq_none_iff] at e ⊢
 rw [<- h.length];exact e
theorem az.some_of{xs:List V}{us:List Value}(h:az xs us):∀js:List Nat,az (js.filterMap (xs[·]?)) (js.filterMap (us[·]?)):=by
 intro js
 induction js with
 | nil=>exact .nil
 | cons j js ih =>
  cases e:xs[j]? with
  | none=>simp only [List.filterMap_cons,e,h.y2a2 e];exact ih
  | some x =>
   obtain⟨u,eu,r⟩:=h.get e
   simp only [List.filterMap_cons,e,eu]
   exact .cons r ih
section
variable {X:Cx}{e st:Expr}{te ts:TE}{lo hi:Option Expr}{tl th:TO}{p2 pos:Pos}
noncomputable def uN(K:W.Frag)(te:TE)(tl th tk:TO):TE:=λσ H Q=>te σ H λx H1=>tl σ H1 λl H2=>th σ H2 λu H3=>tk σ H3 λc H4 =>
 ∃a xs,x=.ref a/\bB K H4 a xs/\c≠some 0/\∀p,H4 p=none->Q (.ref p) (aP H4 p (.lst (ku xs l u c)))
theorem Cr(he:PE X e te)(hl:PO X lo tl)(hu:PO X hi th)(hst:PE X st ts):PE X (.Subscript e (.Slice lo hi (some st) p2) pos) (uN X.K te tl th (oR ts)):=by
 intro pins s σ H Q I h
 refine Subscript_ (aS (he pins s σ H _ I h) λv s1 ⟨x,H1,I1,r1,q1⟩=>?_)
 refine wpAny_Slice (aS (hl pins s1 σ H1 _ I1 q1) λvl s2 ⟨l,H2,I2,pl,q2⟩=>aS (hu pins s2 σ H2 _ I2 q2) λvu s3 ⟨u,H3,I3,pu,q3⟩=>aS (uc hst pins s3 σ H3 _ I3 q3) λvs s4 ⟨c,H4,I4,ps,q4⟩=>?_)
 obtain⟨a,xs,rfl,hq,hc0,q⟩:=q4
 cases r1
 have I5:Inv X pins σ H4 { s4 with heap:=s4.heap.push { cls:=.type "slice",data:=.fields #[vl,vu,vs] } }:=I4.kept λb ob q=>zc _ q
 obtain⟨its,r,pls,hz⟩:=I5.list hq
 show wpAny (model X.prog X.w) X.A (subscriptTail e (.Slice lo hi (some st) p2) (.ref a) (.ref s4.heap.objs.size)) (EP X pins σ Q) X.xe { s4 with heap:=s4.heap.push { cls:=.type "slice",data:=.fields #[vl,vu,vs] } }
 refine tail_any pls.isList.typeIs list_getitem_lookup ?_ (by with_unfolding_all rfl)
 have hn:=r.length
 refine wpAny_getItem_list_slice pls.isList (Heap.IsSliceOf.new ..) pl pu ps hc0 ?_ (by rw [ze,<- hn];exact hz)
 have le:=slicePick_size_le its.toArray l u c
 have ep:slicePick its.toArray l u c=((sliceRange (sliceBounds l u c xs.length).1 (sliceBounds l u c xs.length).2.1 (sliceBounds l u c xs.length).2.2).filterMap (its[·]?)).toArray:=by
  unfold slicePick
  rw [ze,hn]
  simp
 have rp:=az.some_of r (sliceRange (sliceBounds l u c xs.length).1 (sliceBounds l u c xs.length).2.1 (sliceBounds l u c xs.length).2.2)
 have lp:=rp.length
 rw [ep] at le ⊢
 refine⟨.ref _,_,I5.laid (λb ob q=>zc _ q) (z13 _) ?_,rfl,q _ (I5.hok.fresh (z13 _))⟩
 refine⟨?_,_,0,rp,z1c _ rfl⟩
 rw [ze,ze] at le
 show (ku xs l u c).length≤sizeLine
 unfold ku
 rw [lp]
 lia
end
section
variable {X:Cx}{tg:Expr}
end
end
end L2
namespace PySem
open Sem (wp)
open AutoSeq1 (wpAny_loadPart')
section
theorem Cs  (hb:s.heap.IsTupleIter b t i)(ht:s.heap.IsTuple t ys)(hy:ys[i]?=some y)
  (k:∀h2,h2.IsTupleIter b t (i+1)->Heap.SameBut b s.heap h2->Q y { s with heap:=h2 }):wpAny (model prog w) A (Builtin.SmallTypes.nextOf (.ref b)) Q E s:=by
 obtain⟨ob,gb,cb,db⟩:=id hb
 obtain⟨ot,gt,_,nt,dt⟩:=ht
 unfold Builtin.SmallTypes.nextOf
 refine zd (wpAny_callSpecial?_slot hb.typeIs F.slot_tuple_iterator_next (wpAny_call_entry F.slot_tuple_iterator_next hb.typeIs F.entry_tuple_iterator_next ?_ (F.args_tuple_iterator_next_1 _)))
 show wpAny _ _ (field (.ref b) 0 >>= _) _ _ s
 refine zd (wpAny_field gb db rfl ?_)
 show wpAny _ _ (if (Value.ref t == Value.none)=true then _ else _) _ _ s
 have no:¬ ((Value.ref t == Value.none)=true):=zf
 rw [if_neg no]
 show wpAny _ _ (field (.ref b) 1 >>= _) _ _ s
 refine zd (wpAny_field gb db rfl ?_)
 show wpAny _ _ (seqItems? (.ref t) >>= _) _ _ s
 refine zd (wpAny_seqItems gt dt ?_)
 simp only [Int.toNat_natCast,hy]
 refine zd (wpAny_setField gb db (by simp) (z1b ⟨y,rfl,z1b (k _ ?_ (Heap.SameBut.update ..))⟩))
 refine⟨_,Heap.get?_update_self _ gb (Obj.isFreed_of_fields (Obj.data_mapFields db _)),(Obj.cls_mapFields ..).trans cb,?_⟩
 rw [Obj.data_mapFields db]
 simp [rawInt]
theorem Ct  (calm:A.handled=none)(hb:s.heap.IsTupleIter b t i)(ht:s.heap.IsTuple t ys)(hy:ys[i]?=none)
  (k:∀h2 x,Heap.ExtBut b s.heap h2->(∃o,h2.get? x=some o/\o.cls=.type "StopIteration")->E (.ref x) { s with heap:=h2 }):wpAny (model prog w) A (Builtin.SmallTypes.nextOf (.ref b)) Q E s:=by
 obtain⟨ob,gb,cb,db⟩:=id hb
 obtain⟨ot,gt,_,nt,dt⟩:=ht
 unfold Builtin.SmallTypes.nextOf
 refine zd (wpAny_callSpecial?_slot hb.typeIs F.slot_tuple_iterator_next (wpAny_call_entry F.slot_tuple_iterator_next hb.typeIs F.entry_tuple_iterator_next ?_ (F.args_tuple_iterator_next_1 _)))
 show wpAny _ _ (field (.ref b) 0 >>= _) _ _ s
 refine zd (wpAny_field gb db rfl ?_)
 show wpAny _ _ (if (Value.ref t == Value.none)=true then _ else _) _ _ s
 have no:¬ ((Value.ref t == Value.none)=true):=zf
 rw [if_neg no]
 show wpAny _ _ (field (.ref b) 1 >>= _) _ _ s
 refine zd (wpAny_field gb db rfl ?_)
 show wpAny _ _ (seqItems? (.ref t) >>= _) _ _ s
 refine zd (wpAny_seqItems gt dt ?_)
 simp only [Int.toNat_natCast,hy]
 refine zd (wpAny_rule (zd (wpAny_setField gb db (by simp) ?_)))
 have calm':A.in1.handled=none:=calm
 unfold Builtin.SmallTypes.stopIteration
 wp_walk
 refine wpAny_raiseNew_none calm' ?_
 refine k _ _ (((Heap.SameBut.update ..).extBut.push _).push _) ⟨_,z1c _ rfl,rfl⟩
end
theorem Draws.tup (calm:A.handled=none)(b t:Addr)(ne:t≠b)(ys:Array Value) :
  Draws prog w A b [b,t] ys.size (λi v=>ys[i]?=some v) (λi h=>h.IsTupleIter b t i/\h.IsTuple t ys) where
 live:=λ_ _ st=>by
  obtain⟨o,g,_⟩:=st.1
  exact⟨o,g⟩
 frame:=λ_ _ _ st kk=>⟨st.1.at λo e=>kk b (by simp) o e,st.2.at λo e=>kk t (by simp) o e⟩
 item:=λi s Q E hi st hQ=>Cs st.1 st.2 (y:=ys[i]) (by simp [hi]) λh2 b2 sb=>hQ _ h2 s.toks (by simp [hi]) ⟨b2,st.2.extBut sb.extBut ne⟩ sb
 done:=λs Q E st hE=>Ct calm st.1 st.2 (by simp) hE
section
end
end PySem
namespace L2
open PySem PySem.Spec PyProof.Rows
section
section
end
end
section
section
variable   {elt iter tg:Expr}
noncomputable def Cu(n:Nat)(ix:List Nat)(i:Nat)(wi:TI)(g:yb->TG)(tt:yb->TT)(te:yb->TE):TS:=λD σ H=>oV n ix wi g tt te σ H λv H1=>D.nx (σ.set i (some v)) H1
theorem Cv (O:yc X scope xs ys ix)(hc:X.calm=true)(hN:X.N.Nodup)(hy:X.N[i]?=some y)(hl:X.env.scope.names.lookup y=some .local)(hit:PI X tg iter wi)
  (hg:∀z,PG (eO X scope (xs++ys) z) tg (g z)) (hi:∀z,nS (eO X scope (xs++ys) z) ifs (tt z)) (he:∀z,PE (eO X scope (xs++ys) z) elt (te z))
  (hsw:swapsWith (.ListComp elt [⟨tg,iter,ifs,0⟩] scope pos) (some (.Name y py)) spos.line X.env=pure true:=by rfl) (hs:∀v,foldedSetIterable iter X.env v=pure v:=by intro _;rfl) :
  PS X (.Assign [.Name y py] (.ListComp elt [⟨tg,iter,ifs,0⟩] scope pos) spos) (Cu xs.length ix i wi g tt te):=by
 intro pins s σ H D I h
 rw [exec_Assign_Name_used _ _ _ _ hsw]
 refine zd (wpAny_standAt (zd ?_))
 show wpAny _ _ (do let _ <- comprehension (.ListComp elt [⟨tg,iter,ifs,0⟩] scope pos) scope X.env _ (newList []) false (eval iter X.env) (some (assign (.Name y py) X.env))) _ _ s
 refine zd (wpAny_mono (wpAny_comprehension_free rfl hs (yd3 λp hp hf=>I.ok.has p.1 (O.fr p hp hf)) O.kind O.names (aS (hit pins s σ H _ I h) λv s1 h1=>aS h1 λitv s2 h2=>?_))
  (λ_ s' hq=>z1b (z1b hq)) λ_ _ e=>e)
 obtain⟨it,fp,tn,J,H2,e,I2,T,st2,f2,hw⟩:=h2
 subst e
 refine ye0 O hc hg hi he I2 T st2 f2 hw ?_
 intro E C m' H' s' I' n' fC q
 show wpAny _ _ (assign (.Name y py) X.env (.ref E)) _ _ s'
 refine wpAny_assign_Name (rZ (v:=.ref E) I' hN hy (.inl hl) rfl (λs'' I'' ⟨a,sb,ha⟩=>?_) (.inr hl))
 have hCa:C≠a:=by
  rcases ha with rfl|ha
  ·exact fC.2.1
  ·exact λz=>fC.2.2.2.2.1 _ _ ha z.symm
 exact⟨m',n'.sameBut sb hCa,λh' hs'=>⟨_,H',ye4 I'' fC hs',q⟩⟩
end
end
end L2
namespace B
open PySem L2
section
inductive I where
 | non|bl (b:Bool)|int (i:Int)|str (x:Str)|ty (n:String)|tup (xs:List I)|ref (k:Nat)|fro (xs:List I)|con (xs:List I)
inductive M where
 | lst (xs:List I)|dic (kvs:List (aW×I))|dit (kvs:List (List aW×I))|fdi (kvs:List (aW×I))|obj (c:Str) (fs:List (Str×I))
inductive Vl where
 | im (d:I)|ow (m:M)
noncomputable def oX(K:W.Frag)(H:Hp)(a:Addr)(vs:List V):Prop:=(∃o,H a=some (.frz o (.lst vs)))∨bB K (λ_=>none) a vs
mutual
inductive RpI(K:W.Frag)(ι:List Addr)(H:Hp):V->I->Prop
 | non:RpI K ι H .non .non
 | bl (b:Bool):RpI K ι H (.bl b) (.bl b)
 | int (i:Int):RpI K ι H (.int i) (.int i)
 | str (x:Str):RpI K ι H (.str x) (.str x)
 | ty (n:String):RpI K ι H (.ty n) (.ty n)
 | ref {a:Addr} {k:Nat}:ι[k]?=some a->RpI K ι H (.ref a) (.ref k)
 | tup {a:Addr} {vs:List V} {xs:List I}:H a=some (.tup vs)->y5a K ι H vs xs->RpI K ι H (.ref a) (.tup xs)
 | con {a:Addr} {vs:List V} {xs:List I}:bt K (λ_=>none) a vs->y5a K ι H vs xs->RpI K ι H (.ref a) (.con xs)
 | fro {a:Addr} {vs:List V} {xs:List I}:oX K H a vs->y5a K ι H vs xs->RpI K ι H (.ref a) (.fro xs)
inductive y5a(K:W.Frag)(ι:List Addr)(H:Hp):List V->List I->Prop
 | nil:y5a K ι H [] []
 | cons {v:V} {d:I} {vs:List V} {ds:List I}:RpI K ι H v d->y5a K ι H vs ds->y5a K ι H (v::vs) (d::ds)
end
theorem dO(r:RpI K ι H v (.int i)):v=.int i:=by cases r;rfl
theorem cz(r:RpI K ι H v (.str i)):v=.str i:=by cases r;rfl
theorem mw(r:RpI K ι H v (.bl i)):v=.bl i:=by cases r;rfl
theorem jr(r:RpI K ι H v .non):v=.non:=by cases r;rfl
theorem Cw(r:RpI K ι H v (.ty i)):v=.ty i:=by cases r;rfl
theorem iL(r:RpI K ι H v (.tup xs)):∃a vs,v=.ref a/\H a=some (.tup vs)/\y5a K ι H vs xs:=by cases r with|tup h q=>exact⟨_,_,rfl,h,q⟩
theorem oY(r:RpI K ι H v (.con xs)):∃a vs,v=.ref a/\bt K (λ_=>none) a vs/\y5a K ι H vs xs:=by cases r with|con h q=>exact⟨_,_,rfl,h,q⟩
theorem uO(r:RpI K ι H v (.fro xs)):∃a vs,v=.ref a/\oX K H a vs/\y5a K ι H vs xs:=by cases r with|fro h q=>exact⟨_,_,rfl,h,q⟩
noncomputable def cC(ι ι':List Addr):Prop:=∀(k:Nat) (a:Addr),ι[k]?=some a->ι'[k]?=some a
structure Kp(H H':Hp):Prop where
 tup:∀a xs,H a=some (.tup xs)->H' a=some (.tup xs)
 frz:∀a o u,H a=some (.frz o u)->H' a=some (.frz o u)
theorem Kp.refl(H:Hp):Kp H H:=⟨λ_ _ h=>h,λ_ _ _ h=>h⟩
theorem Kp.trans(x:Kp H H1)(y:Kp H1 H2):Kp H H2:=⟨λa xs h=>y.tup a xs (x.tup a xs h),λa o u h=>y.frz a o u (x.frz a o u h)⟩
theorem Kp.same(h:fU H H'):Kp H H':=⟨λa xs e=>h _ _ e,λa o u e=>h _ _ e⟩
theorem cC.refl(ι:List Addr):cC ι ι:=λ_ _ h=>h
theorem cC.trans(x:cC ι ι1)(y:cC ι1 ι2):cC ι ι2:=λk a h=>y k a (x k a h)
theorem cC.snoc(ι:List Addr)(b:List Addr):cC ι (ι++b):=λk a h=>by
 have:k<ι.length:=(z1f.mp h).1
 rw [z2a this];exact h
theorem Kp.frL  (k:Kp H H')(h:oX K H a vs):oX K H' a vs:=by
 rcases h with⟨o,h⟩| h
 ·exact .inl ⟨o,k.frz _ _ _ h⟩
 ·exact .inr h
theorem bt.kon  (h:bt K (λ_=>none) a vs):bt K H a vs:=by
 rcases h with (h|⟨o,h⟩)|h
 ·cases h
 ·cases h
 ·exact .inr h
theorem oX.sq  (h:oX K H a vs):bB K H a vs:=by
 rcases h with⟨o,h⟩| h
 ·exact .inl (.inr ⟨o,h⟩)
 ·rcases h with (h|⟨o,h⟩)|h
  ·cases h
  ·cases h
  ·exact .inr h
section
mutual
theorem RpI.mono (p:cC ι ι')(k:Kp H H'):RpI K ι H v d->RpI K ι' H' v d
 | .non=>.non
 | .bl b=>.bl b
 | .int i=>.int i
 | .str x=>.str x
 | .ty n=>.ty n
 | .ref h=>.ref (p _ _ h)
 | .tup h r=>.tup (k.tup _ _ h) (y5a.mono p k r)
 | .con h r=>.con h (y5a.mono p k r)
 | .fro h r=>.fro (k.frL h) (y5a.mono p k r)
theorem y5a.mono (p:cC ι ι')(k:Kp H H'):y5a K ι H vs ds->y5a K ι' H' vs ds
 | .nil=>.nil
 | .cons h r=>.cons (RpI.mono p k h) (y5a.mono p k r)
end
theorem y5a.len:∀{vs:List V} {ds:List I},y5a K ι H vs ds->vs.length=ds.length
 | _,_,.nil=>rfl
 | _,_,.cons _ r=>by rw [z20,z20,r.len]
theorem y5a.get:∀{vs:List V} {ds:List I} {i:Nat} {d:I},y5a K ι H vs ds->ds[i]?=some d->∃v,vs[i]?=some v/\RpI K ι H v d
 | _,_,_,_,.nil,e=>by simp at e
 | _,_,0,_,.cons h _,e=>by simp at e;subst e;exact⟨_,rfl,h⟩
 | _,_,i+1,d,.cons _ r,e=>by
  obtain⟨v,h1,h2⟩:=y5a.get r (by simpa using e)
  exact⟨v,by simpa using h1,h2⟩
theorem y5a.app:∀{vs ws:List V} {ds es:List I},y5a K ι H vs ds->y5a K ι H ws es->y5a K ι H (vs++ws) (ds++es)
 | _,_,_,_,.nil,s=>s
 | _,_,_,_,.cons h r,s=>.cons h (y5a.app r s)
theorem y5a.take:∀{vs:List V} {ds:List I} (n:Nat),y5a K ι H vs ds->y5a K ι H (vs.take n) (ds.take n)
 | _,_,0,_=>.nil
 | _,_,_+1,.nil=>.nil
 | _,_,n+1,.cons h r=>.cons h (y5a.take n r)
theorem y5a.drop:∀{vs:List V} {ds:List I} (n:Nat),y5a K ι H vs ds->y5a K ι H (vs.drop n) (ds.drop n)
 | _,_,0,r=>r
 | _,_,_+1,.nil=>.nil
 | _,_,n+1,.cons _ r=>y5a.drop n r
theorem y5a.set:∀{vs:List V} {ds:List I} {v:V} {d:I} (i:Nat),y5a K ι H vs ds->RpI K ι H v d->y5a K ι H (vs.set i v) (ds.set i d)
 | _,_,_,_,_,.nil,_=>.nil
 | _,_,_,_,0,.cons _ r,h=>.cons h r
 | _,_,_,_,i+1,.cons g r,h=>.cons g (y5a.set i r h)
theorem y5a.rev:∀{vs:List V} {ds:List I},y5a K ι H vs ds->y5a K ι H vs.reverse ds.reverse
 | _,_,.nil=>.nil
 | _,_,.cons h r=>by rw [List.reverse_cons,List.reverse_cons];exact r.rev.app (.cons h .nil)
theorem y5a.none_of{vs:List V}{ds:List I}{i:Nat}(r:y5a K ι H vs ds)(e:ds[i]?=none):vs[i]?=none:=by
 have h1:=r.len
 have h2:ds.length≤i:=List.getElem?_eq_none_iff.mp e
 exact List.getElem?_eq_none_iff.mpr (by lia)
noncomputable def eD(K:W.Frag)(κ:Str->Addr)(ι:List Addr)(H:Hp)(a:Addr):M->Prop
 | .lst xs=>∃vs,H a=some (.lst vs)/\y5a K ι H vs xs
 | .dic kvs=>∃ws,H a=some (.dK ws)/\ws.map (·.1)=kvs.map (·.1)/\y5a K ι H (ws.map (·.2)) (kvs.map (·.2))
 | .dit kvs=>∃ws,H a=some (.dT ws)/\ws.map (·.1)=kvs.map (·.1)/\y5a K ι H (ws.map (·.2)) (kvs.map (·.2))
 | .fdi kvs=>∃o ws,H a=some (.frz o (.dK ws))/\ws.map (·.1)=kvs.map (·.1)/\y5a K ι H (ws.map (·.2)) (kvs.map (·.2))
 | .obj c fs=>∃dx ws,H a=some (.ins (κ c) dx ws)/\ws.map (·.1)=fs.map (·.1)/\y5a K ι H (ws.map (·.2)) (fs.map (·.2))
theorem eD.mono (p:cC ι ι')(k:Kp H H')(e:H' a=H a)(h:eD K κ ι H a m):eD K κ ι' H' a m:=by
 cases m with
 | lst xs=>obtain⟨vs,h1,h2⟩:=h;exact⟨vs,by rw [e];exact h1,h2.mono p k⟩
 | dic xs=>obtain⟨vs,h1,h2,h3⟩:=h;exact⟨vs,by rw [e];exact h1,h2,h3.mono p k⟩
 | dit xs=>obtain⟨vs,h1,h2,h3⟩:=h;exact⟨vs,by rw [e];exact h1,h2,h3.mono p k⟩
 | obj c xs=>obtain⟨dx,vs,h1,h2,h3⟩:=h;exact⟨dx,vs,by rw [e];exact h1,h2,h3.mono p k⟩
 | fdi xs=>obtain⟨o,vs,h1,h2,h3⟩:=h;exact⟨o,vs,by rw [e];exact h1,h2,h3.mono p k⟩
noncomputable def mx:HO->Bool
 | .lst _ | .dK _ | .dT _ | .ins _ _ _=>true
 | .frz _ (.dK _)=>true
 | _=>false
noncomputable def uP:M->Bool
 | .fdi _=>true
 | _=>false
theorem eD.nf (h:eD K κ ι H a m)(hf:uP m=false):∀o u,H a≠some (.frz o u):=λo u e=>by
 cases m with
 | lst xs=>obtain⟨vs,h1,h2⟩:=h;rw [h1] at e;cases e
 | dic xs=>obtain⟨vs,h1,h2,h3⟩:=h;rw [h1] at e;cases e
 | dit xs=>obtain⟨vs,h1,h2,h3⟩:=h;rw [h1] at e;cases e
 | obj c xs=>obtain⟨dx,vs,h1,h2,h3⟩:=h;rw [h1] at e;cases e
 | fdi xs=>cases hf
theorem eD.mu (h:eD K κ ι H a m):∃o,H a=some o/\mx o=true:=by
 cases m with
 | lst xs=>obtain⟨vs,h1,h2⟩:=h;exact⟨_,h1,rfl⟩
 | dic xs=>obtain⟨vs,h1,h2,h3⟩:=h;exact⟨_,h1,rfl⟩
 | dit xs=>obtain⟨vs,h1,h2,h3⟩:=h;exact⟨_,h1,rfl⟩
 | obj c xs=>obtain⟨dx,vs,h1,h2,h3⟩:=h;exact⟨_,h1,rfl⟩
 | fdi xs=>obtain⟨o,vs,h1,h2,h3⟩:=h;exact⟨_,h1,rfl⟩
inductive RpE(K:W.Frag)(κ:Str->Addr)(ι:List Addr)(H:Hp):Option V->Option Vl->Prop
 | no (x:Option V):RpE K κ ι H x none
 | im {v:V} {d:I}:RpI K ι H v d->RpE K κ ι H (some v) (some (.im d))
 | ow {a:Addr} {m:M}:eD K κ ι H a m->RpE K κ ι H (some (.ref a)) (some (.ow m))
noncomputable def bO:Option V->Option Vl->List Addr
 | some (.ref a),some (.ow _)=>[a]
 | _,_=>[]
noncomputable def own:List (Option V)->List (Option Vl)->List Addr
 | v::σ,x::Z=>bO v x++own σ Z
 | _,_=>[]
theorem cq:∀{σ:List (Option V)} {Z:List (Option Vl)} (τ:List (Option V)) (θ:List (Option Vl)),σ.length=Z.length->own (σ++τ) (Z++θ)=own σ Z++own τ θ
 | [],[],_,_,_=>rfl
 | [],_::_,_,_,h=>by cases h
 | _::_,[],_,_,h=>by cases h
 | v::σ,x::Z,τ,θ,h=>by
  show bO v x++own (σ++τ) (Z++θ)=bO v x++own σ Z++own τ θ
  rw [cq τ θ (by simpa using h),z31]
noncomputable abbrev bK(a:Addr)(l:List Addr):Nat:=List.count a l
structure SR(K:W.Frag)(κ:Str->Addr)(ι:List Addr)(H:Hp)(σ:St)(Z:List (Option Vl))(G:List M):Prop where
 sl:Paired (RpE K κ ι H) σ Z
 gs:Paired (eD K κ ι H) ι G
 nd:∀a,bK a (own σ Z)+bK a ι≤1
structure Step(ι fp:List Addr)(H:Hp)(ι' fp':List Addr)(H':Hp):Prop where
 pre:cC ι ι'
 src:∀a,a∈fp'->a∈fp∨H a=none
 keep:∀a o,H a=some o->a∉fp->H' a=some o
 dom:∀a,H' a=none->H a=none
 kp:Kp H H'
theorem Step.refl(ι fp:List Addr)(H:Hp):Step ι fp H ι fp H:=⟨cC.refl _,λ_ h=>.inl h,λ_ _ h _=>h,λ_ h=>h,Kp.refl _⟩
theorem Step.trans (x:Step ι fp H ι1 fp1 H1)(y:Step ι1 fp1 H1 ι2 fp2 H2):Step ι fp H ι2 fp2 H2 where
 pre:=x.pre.trans y.pre
 src:=λa h=>by
  rcases y.src a h with q|q
  ·exact x.src a q
  ·exact .inr (x.dom a q)
 keep:=λa o h n=>y.keep a o (x.keep a o h n) λq=>by
  rcases x.src a q with z|z
  ·exact n z
  ·rw [z] at h;cases h
 dom:=λa h=>x.dom a (y.dom a h)
 kp:=x.kp.trans y.kp
theorem Step.sub (x:Step ι fp H ι1 fp1 H1)(h:∀a,a∈fp2->a∈fp1):Step ι fp H ι1 fp2 H1:=⟨x.pre,λa q=>x.src a (h a q),x.keep,x.dom,x.kp⟩
theorem Step.wide (x:Step ι fp H ι1 fp1 H1)(h:∀a,a∈fp->a∈fq):Step ι fq H ι1 fp1 H1:=⟨x.pre,λa q=>(x.src a q).imp (h a) id,λa o q n=>x.keep a o q λz=>n (h a z),x.dom,x.kp⟩
theorem Step.ya5 (x:Step ι fp H ι1 fp1 H1):Step ι (t++fp) H ι1 (t++fp1) H1 where
 pre:=x.pre
 src:=λa h=>by
  rcases z1a.mp h with q|q
  ·exact .inl (List.mem_append_left _ q)
  ·exact (x.src a q).imp (z26 _) id
 keep:=λa o h n=>x.keep a o h λq=>n (z26 _ q)
 dom:=x.dom
 kp:=x.kp
theorem iM  : a∈l↔0<bK a l:=List.count_pos_iff.symm
theorem RpE.mono (p:cC ι ι')(k:Kp H H')(e:∀a,a∈bO v x->H' a=H a)(h:RpE K κ ι H v x):RpE K κ ι' H' v x:=by
 cases h with
 | no=>exact .no _
 | im h=>exact .im (h.mono p k)
 | ow h=>exact .ow (h.mono p k (e _ (by unfold bO;exact z22.mpr rfl)))
theorem jt(p:cC ι ι')(k:Kp H H'):∀{σ:St} {Z:List (Option Vl)},(∀a,a∈own σ Z->H' a=H a)->Paired (RpE K κ ι H) σ Z->Paired (RpE K κ ι' H') σ Z
 | _,_,_,.nil=>.nil
 | _,_,e,.cons h r=>.cons (h.mono p k λa q=>e a (List.mem_append_left _ q)) (jt p k (λa q=>e a (z26 _ q)) r)
theorem my(p:cC ι ι')(k:Kp H H'):∀{as:List Addr} {G:List M},(∀a,a∈as->H' a=H a)->Paired (eD K κ ι H) as G->Paired (eD K κ ι' H') as G
 | _,_,_,.nil=>.nil
 | _,_,e,.cons h r=>.cons (h.mono p k (e _ List.mem_cons_self)) (my p k (λa q=>e a (z1d _ q)) r)
theorem kx(v:Option V):bO v none=[]:=by
 cases v with
 | none=>rfl
 | some v=>cases v<;>rfl
theorem gF(v:Option V)(d:I):bO v (some (.im d))=[]:=by
 cases v with
 | none=>rfl
 | some v=>cases v<;>rfl
theorem mz:∀{σ:St} {Z:List (Option Vl)} {a:Addr},Paired (RpE K κ ι H) σ Z->a∈own σ Z->∃o,H a=some o/\mx o=true
 | _,_,_,.nil,h=>by cases h
 | _,_,a,.cons h r,q=>by
  rcases z1a.mp q with z|z
  ·cases h with
   | no=>rw [kx] at z;cases z
   | im h=>rw [gF] at z;cases z
   | ow h=>obtain rfl:=z22.mp z;exact h.mu
  ·exact mz r z
theorem oZ:∀{as:List Addr} {G:List M} {a:Addr},Paired (eD K κ ι H) as G->a∈as->∃o,H a=some o/\mx o=true
 | _,_,_,.nil,h=>by cases h
 | _,_,a,.cons h r,q=>by
  rcases zb.mp q with rfl|z
  ·exact h.mu
  ·exact oZ r z
theorem SR.len (h:SR K κ ι H σ Z G):σ.length=Z.length:=Paired.length h.sl
theorem SR.mu  (h:SR K κ ι H σ Z G)(q:a∈own σ Z++ι):∃o,H a=some o/\mx o=true:=by
 rcases z1a.mp q with z|z
 ·exact mz h.sl z
 ·exact oZ h.gs z
theorem eE{α β:Type}{F:α->β->Prop}:∀{a:List α} {b:List β} {c:List α} {d:List β},Paired F a b->Paired F c d->Paired F (a++c) (b++d)
 | _,_,_,_,.nil,h=>h
 | _,_,_,_,.cons h r,q=>.cons h (eE r q)
theorem cT{α β:Type}{F:α->β->Prop}:∀{a:List α} {b:List β} {c:List α} {d:List β},a.length=b.length->Paired F (a++c) (b++d)->Paired F a b/\Paired F c d
 | [],[],_,_,_,h=>⟨.nil,h⟩
 | [],_::_,_,_,l,_=>by cases l
 | _::_,[],_,_,l,_=>by cases l
 | x::a,y::b,c,d,l,h=>by
  cases h with
  | cons h r =>
   obtain⟨p,q⟩:=cT (by simpa using l) r
   exact⟨.cons h p,q⟩
theorem SR.join  (h1:SR K κ ι1 H1 (σ0++τ) (Z1++θ) G1)(l1:σ0.length=Z1.length)(h2:SR K κ ι2 H2 (σ++τ2) (Z2++θ2) G2)(l2:σ.length=Z2.length)
  (st:Step ι1 (own σ0 Z1++ι1) H1 ι2 (own (σ++τ2) (Z2++θ2)++ι2) H2):SR K κ ι2 H2 (σ++(τ++τ2)) (Z2++(θ++θ2)) G2/\Step ι1 (own (σ0++τ) (Z1++θ)++ι1) H1 ι2 (own (σ++(τ++τ2)) (Z2++(θ++θ2))++ι2) H2:=by
 obtain⟨a1,b1⟩:=cT l1 h1.sl
 obtain⟨a2,b2⟩:=cT l2 h2.sl
 have lt:=Paired.length b1
 have n1:=h1.nd
 have n2:=h2.nd
 rw [cq _ _ l1] at n1
 rw [cq _ _ l2] at n2
 have st':=st
 rw [cq _ _ l2] at st'
 have apart:∀a,a∈own τ θ->a∉own σ0 Z1++ι1:=λa q z=>by
  have:=n1 a
  rw [bK,z23] at this
  have p1:0<bK a (own τ θ):=iM.mp q
  rcases z1a.mp z with z|z
  ·have:=iM.mp z;unfold bK at *;lia
  ·have:=iM.mp z;unfold bK at *;lia
 have y472:∀a,a∈own τ θ->∃o,H1 a=some o:=λa q=>let ⟨o,e,_⟩:=mz b1 q;⟨o,e⟩
 have e2:own (σ++(τ++τ2)) (Z2++(θ++θ2))=own σ Z2++(own τ θ++own τ2 θ2):=by rw [cq _ _ l2,cq _ _ lt]
 refine⟨⟨eE a2 (eE (jt st.pre st.kp (λa q=>?_) b1) b2),h2.gs,λa=>?_⟩,?_⟩
 ·obtain⟨o,e⟩:=y472 a q
  rw [e,st.keep a o e (apart a q)]
 ·rw [e2]
  have m2:=n2 a
  have m1:=n1 a
  simp only [bK,z23] at m1 m2 ⊢
  by_cases q:a∈own τ θ
  ·obtain⟨o,e⟩:=y472 a q
   have z:a∉own σ Z2++own τ2 θ2++ι2:=λz=>by
    rcases st'.src a z with y|y
    ·exact apart a q y
    ·rw [e] at y;cases y
   have:bK a (own σ Z2++own τ2 θ2++ι2)=0:=List.count_eq_zero.mpr z
   simp only [bK,z23] at this
   lia
  ·have:bK a (own τ θ)=0:=List.count_eq_zero.mpr q
   unfold bK at this
   lia
 ·rw [e2,cq _ _ l1]
  have s:=(Step.ya5 (t:=own τ θ) st')
  refine (s.sub λa h=>?_).wide λa h=>?_
  ·simp only [z1a] at h ⊢
   rcases h with (h|h|h)|h
   ·exact .inr (.inl (.inl h))
   ·exact .inl h
   ·exact .inr (.inl (.inr h))
   ·exact .inr (.inr h)
  ·simp only [z1a] at h ⊢
   rcases h with h|h|h
   ·exact .inl (.inr h)
   ·exact .inl (.inl h)
   ·exact .inr h
end
end
section
section
theorem mB(a:Addr)(m:M):bO (some (.ref a)) (some (.ow m))=[a]:=rfl
theorem y0:∀{σ:St} {Z:List (Option Vl)} {i:Nat} {v w:Option V} {x y:Option Vl} (a:Addr),σ[i]?=some v->Z[i]?=some x ->
  bK a (own (σ.set i w) (Z.set i y))+bK a (bO v x)=bK a (own σ Z)+bK a (bO w y)
 | [],_,_,_,_,_,_,_,h,_=>by simp at h
 | _::_,[],_,_,_,_,_,_,_,h=>by simp at h
 | v0::σ,x0::Z,0,v,w,x,y,a,h1,h2=>by
  simp at h1 h2
  subst h1;subst h2
  show bK a (bO w y++own σ Z)+bK a (bO v0 x0)=bK a (bO v0 x0++own σ Z)+bK a (bO w y)
  simp only [bK,z23]
  lia
 | v0::σ,x0::Z,i+1,v,w,x,y,a,h1,h2=>by
  have:=y0 (w:=w) (y:=y) a (by simpa using h1) (by simpa using h2)
  show bK a (bO v0 x0++own (σ.set i w) (Z.set i y))+bK a (bO v x)=bK a (bO v0 x0++own σ Z)+bK a (bO w y)
  simp only [bK,z23] at this ⊢
  lia
theorem uQ{α:Type}{l:List α}{i:Nat}{v:α}(h:l[i]?=some v):l.set i v=l:=by
 refine List.ext_getElem? λj=>?_
 by_cases e:i=j
 ·subst e
  rw [List.getElem?_set_self (z1f.mp h).1,h]
 ·rw [z2d e]
theorem uR (a:Addr)(h1:σ[i]?=some v)(h2:Z[i]?=some x) :
  bK a (own σ (Z.set i y))+bK a (bO v x)=bK a (own σ Z)+bK a (bO v y):=by
 have:=y0 (w:=v) (y:=y) a h1 h2
 rw [uQ h1] at this
 exact this
theorem ky{α β:Type}{F:α->β->Prop}:∀{l:List α} {r:List β} {i:Nat} {y:β},Paired F l r->r[i]?=some y->∃x,l[i]?=some x/\F x y
 | _,_,_,_,.nil,h=>by simp at h
 | _,_,0,_,.cons h _,e=>by simp at e;subst e;exact⟨_,rfl,h⟩
 | _,_,i+1,y,.cons _ r,e=>by
  obtain⟨x,h1,h2⟩:=ky r (by simpa using e)
  exact⟨x,by simpa using h1,h2⟩
theorem pd{α β:Type}{F:α->β->Prop}{x:α}{y:β}:∀{l:List α} {r:List β} (i:Nat),Paired F l r->F x y->Paired F (l.set i x) (r.set i y)
 | _,_,_,.nil,_=>.nil
 | _,_,0,.cons _ r,q=>.cons q r
 | _,_,i+1,.cons h r,q=>.cons h (pd i r q)
theorem mC{α β:Type}{F:α->β->Prop}{x:α}{y:β}{l:List α}{r:List β}{i:Nat}(h:Paired F l r)(e:l[i]?=some x)(q:F x y):Paired F l (r.set i y):=by
 have:=pd i h q
 rw [uQ e] at this
 exact this
theorem SR.y193(h:SR K κ ι H σ Z G){i:Nat}{d:I}(e:Z[i]?=some (some (.im d))):∃v,σ[i]?=some (some v)/\RpI K ι H v d:=by
 obtain⟨x,e1,q⟩:=ky h.sl e
 cases q with
 | im q=>exact⟨_,e1,q⟩
theorem SR.y195(h:SR K κ ι H σ Z G){i:Nat}{m:M}(e:Z[i]?=some (some (.ow m))):∃a,σ[i]?=some (some (.ref a))/\eD K κ ι H a m:=by
 obtain⟨x,e1,q⟩:=ky h.sl e
 cases q with
 | ow q=>exact⟨_,e1,q⟩
theorem SR.y192(h:SR K κ ι H σ Z G){k:Nat}{m:M}(e:G[k]?=some m):∃a,ι[k]?=some a/\eD K κ ι H a m:=ky h.gs e
theorem uS:∀{σ:St} {Z:List (Option Vl)} {i:Nat} {a:Addr} {m:M},σ[i]?=some (some (.ref a))->Z[i]?=some (some (.ow m))->a∈own σ Z
 | [],_,_,_,_,h,_=>by simp at h
 | _::_,[],_,_,_,_,h=>by simp at h
 | v0::σ,x0::Z,0,a,m,h1,h2=>by
  simp at h1 h2
  subst h1;subst h2
  exact List.mem_append_left _ (z22.mpr rfl)
 | v0::σ,x0::Z,i+1,a,m,h1,h2=>z26 _ (uS (by simpa using h1) (by simpa using h2))
theorem SR.same(h:SR K κ ι H σ Z G)(s:fU H H'):SR K κ ι H' σ Z G where
 sl:=jt (cC.refl _) (Kp.same s) (λa q=>by obtain⟨o,e,_⟩:=mz h.sl q;rw [e,s _ _ e]) h.sl
 gs:=my (cC.refl _) (Kp.same s) (λa q=>by obtain⟨o,e,_⟩:=oZ h.gs q;rw [e,s _ _ e]) h.gs
 nd:=h.nd
theorem Step.same(s:fU H H'):Step ι fp H ι fp H':=⟨cC.refl _,λ_ h=>.inl h,λa o e _=>s _ _ e,λa e=>s.free e,Kp.same s⟩
theorem fU.lay (hp:H p=none):fU H (aP H p o):=λb u e=>by rw [aX (dM e hp)];exact e
theorem SR.pop(h:SR K κ ι H (σ++τ) (Z++θ) G)(l:σ.length=Z.length):SR K κ ι H σ Z G:=by
 obtain⟨a,b⟩:=cT l h.sl
 refine⟨a,h.gs,λx=>?_⟩
 have:=h.nd x
 rw [cq _ _ l] at this
 simp only [bK,z23] at this ⊢
 lia
theorem c8(l:σ.length=Z.length)(h:a∈own σ Z++ι):a∈own (σ++τ) (Z++θ)++ι:=by
 rw [cq _ _ l]
 simp only [z1a] at h ⊢
 rcases h with h|h
 ·exact .inl (.inl h)
 ·exact .inr h
theorem SR.push_im (h:SR K κ ι H σ Z G)(r:RpI K ι H v d):SR K κ ι H (σ++[some v]) (Z++[some (.im d)]) G:=by
 refine⟨eE h.sl (.cons (.im r) .nil),h.gs,λx=>?_⟩
 have e:own [some v] [some (.im d)]=[]:=by show bO _ _++[]=[];rw [gF];rfl
 rw [cq _ _ h.len,e,z17]
 exact h.nd x
theorem eR (l:σ.length=Z.length):own (σ++[some v]) (Z++[some (.im d)])=own σ Z:=by
 rw [cq _ _ l]
 show own σ Z++(bO _ _++[])=_
 rw [gF];simp
theorem gG (l:σ.length=Z.length):own (σ++[some (.ref a)]) (Z++[some (.ow m)])=own σ Z++[a]:=by
 rw [cq _ _ l];rfl
theorem SR.y3c6 (h:SR K κ ι H σ Z G)(hp:H p=none)(r:eD K κ ι (aP H p o) p m):SR K κ ι (aP H p o) (σ++[some (.ref p)]) (Z++[some (.ow m)]) G:=by
 have h':=h.same (fU.lay (o:=o) hp)
 refine⟨eE h'.sl (.cons (.ow r) .nil),h'.gs,λx=>?_⟩
 rw [gG h.len]
 have:=h.nd x
 simp only [bK,z23] at this ⊢
 by_cases e:p=x
 ·subst e
  have n:p∉own σ Z++ι:=λq=>by obtain⟨o,e,_⟩:=h.mu q;rw [hp] at e;cases e
  have:bK p (own σ Z++ι)=0:=List.count_eq_zero.mpr n
  simp only [bK,z23] at this
  simp
  lia
 ·have:List.count x [p]=0:=List.count_eq_zero.mpr (by simp;exact λz=>e z.symm)
  lia
theorem Step.y23a (l:σ.length=Z.length)(hp:H p=none):Step ι (own σ Z++ι) H ι (own (σ++[some (.ref p)]) (Z++[some (.ow m)])++ι) (aP H p o) where
 pre:=cC.refl _
 src:=λa h=>by
  rw [gG l] at h
  simp only [z1a,z22] at h ⊢
  rcases h with (h|h)|h
  ·exact .inl (.inl h)
  ·subst h;exact .inr hp
  ·exact .inl (.inr h)
 keep:=λa u e _=>fU.lay hp _ _ e
 dom:=λa e=>(fU.lay hp).free e
 kp:=Kp.same (fU.lay hp)
theorem SR.store (h:SR K κ ι H (σ++[some v]) (Z++[some x]) G)(l:σ.length=Z.length):SR K κ ι H (σ.set i (some v)) (Z.set i (some x)) G:=by
 obtain⟨a,b⟩:=cT l h.sl
 cases b with
 | cons b _ =>
  refine⟨pd i a b,h.gs,λy=>?_⟩
  have n:=h.nd y
  rw [cq _ _ l] at n
  have e1:own [some v] [some x]=bO (some v) (some x):=z17 _
  rw [e1] at n
  by_cases hi:i<σ.length
  ·have:=y0 (Z:=Z) (w:=some v) (y:=some x) y (z15 hi) (z15 (by lia))
   simp only [bK,z23] at this n ⊢
   lia
  ·rw [List.set_eq_of_length_le (by lia),List.set_eq_of_length_le (by lia)]
   simp only [bK,z23] at n ⊢
   lia
theorem uT  (l:σ.length=Z.length)(h:a∈own (σ.set i (some v)) (Z.set i (some x))++ι):a∈own (σ++[some v]) (Z++[some x])++ι:=by
 rw [cq _ _ l]
 have e1:own [some v] [some x]=bO (some v) (some x):=z17 _
 rw [e1]
 rw [iM] at h ⊢
 by_cases hi:i<σ.length
 ·have:=y0 (Z:=Z) (w:=some v) (y:=some x) a (z15 hi) (z15 (by lia))
  simp only [bK,z23] at this h ⊢
  lia
 ·rw [List.set_eq_of_length_le (by lia),List.set_eq_of_length_le (by lia)] at h
  simp only [bK,z23] at h ⊢
  lia
theorem SR.take{i:Nat}{a:Addr}{m:M}(h:SR K κ ι H σ Z G)(e1:σ[i]?=some (some (.ref a)))(e2:Z[i]?=some (some (.ow m))) :
  SR K κ ι H (σ++[some (.ref a)]) (Z.set i none++[some (.ow m)]) G/\Step ι (own σ Z++ι) H ι (own (σ++[some (.ref a)]) (Z.set i none++[some (.ow m)])++ι) H:=by
 have l:σ.length=(Z.set i none).length:=by rw [z32];exact h.len
 obtain⟨a',e1',r⟩:=h.y195 e2
 rw [e1] at e1';cases e1'
 have q:∀x,bK x (own σ (Z.set i none))+bK x [a]=bK x (own σ Z):=λx=>by
  have:=uR (y:=none) x e1 e2
  rw [mB,kx] at this
  exact this
 refine⟨⟨eE (mC h.sl e1 (.no _)) (.cons (.ow r) .nil),h.gs,λx=>?_⟩,(Step.refl _ _ _).sub λx hx=>?_⟩
 ·rw [gG l]
  have:=h.nd x
  have:=q x
  simp only [bK,z23] at *
  lia
 ·rw [gG l,iM] at hx
  rw [iM]
  have:=q x
  simp only [bK,z23] at *
  lia
theorem SR.gl(h:SR K κ ι H σ Z G):ι.length=G.length:=Paired.length h.gs
theorem SR.box (h:SR K κ ι H (σ++[some (.ref a)]) (Z++[some (.ow m)]) G)(l:σ.length=Z.length) :
  SR K κ (ι++[a]) H σ Z (G++[m])/\RpI K (ι++[a]) H (.ref a) (.ref G.length)/\Step ι (own (σ++[some (.ref a)]) (Z++[some (.ow m)])++ι) H (ι++[a]) (own σ Z++(ι++[a])) H:=by
 obtain⟨p,q⟩:=cT l h.sl
 have pr:=cC.snoc ι [a]
 cases q with
 | cons q _ =>
  cases q with
  | ow q =>
   refine⟨⟨jt pr (Kp.refl _) (λ_ _=>rfl) p,eE (my pr (Kp.refl _) (λ_ _=>rfl) h.gs) (.cons (q.mono pr (Kp.refl _) rfl) .nil),λx=>?_⟩,?_,⟨pr,λx hx=>.inl ?_,λ_ _ e _=>e,λ_ e=>e,Kp.refl _⟩⟩
   ·have:=h.nd x
    rw [gG l] at this
    simp only [bK,z23] at this ⊢
    lia
   ·refine .ref ?_
    have e:=h.gl
    rw [<- e,z28 (z13 _),Nat.sub_self];rfl
   ·rw [gG l]
    simp only [z1a] at hx ⊢
    rcases hx with hx|hx|hx
    ·exact .inl (.inl hx)
    ·exact .inr hx
    ·exact .inl (.inr hx)
theorem SR.poke{i:Nat}{a:Addr}{m m':M}{o:HO}(h:SR K κ ι H σ Z G)(e1:σ[i]?=some (some (.ref a)))(e2:Z[i]?=some (some (.ow m)))(r:∀(ρ:eD K κ ι H a m),Kp H (aP H a o)->eD K κ ι (aP H a o) a m')(hf:uP m=false:=by rfl) :
  SR K κ ι (aP H a o) σ (Z.set i (some (.ow m'))) G/\Step ι (own σ Z++ι) H ι (own σ (Z.set i (some (.ow m')))++ι) (aP H a o):=by
 obtain⟨a',e1',rm⟩:=h.y195 e2
 rw [e1] at e1';cases e1'
 obtain⟨u,hu,mu⟩:=rm.mu
 have kp:Kp H (aP H a o):=⟨λb xs e=>by rw [aX (oh e hu (by rintro rfl;cases mu))];exact e,λb o' u' e=>by rw [aX (λz=>by subst z;exact rm.nf hf _ _ e)];exact e⟩
 have q:∀x,bK x (own σ (Z.set i (some (.ow m'))))=bK x (own σ Z):=λx=>by
  have:=uR (y:=some (.ow m')) x e1 e2
  rw [mB,mB] at this
  lia
 have mem:=uS e1 e2
 have na:∀x,x∈own σ (Z.set i none)->x≠a:=λx hx z=>by
  subst z
  have:=uR (y:=none) x e1 e2
  rw [mB,kx] at this
  have n:=h.nd x
  have:=iM.mp hx
  have z1:bK x [x]=1:=by simp [bK]
  have z0:bK x []=0:=rfl
  lia
 have ni:∀x,x∈ι->x≠a:=λx hx z=>by
  subst z
  have n:=h.nd x
  have:=iM.mp hx
  have:=iM.mp mem
  lia
 have p1:=jt (cC.refl ι) kp (λx hx=>aX (na x hx)) (mC h.sl e1 (.no _))
 refine⟨⟨?_,my (cC.refl ι) kp (λx hx=>aX (ni x hx)) h.gs,λx=>by rw [q];exact h.nd x⟩,⟨cC.refl _,λx hx=>.inl ?_,λx u e n=>?_,λx e=>?_,kp⟩⟩
 ·have:=mC p1 e1 (.ow (r rm kp))
  rw [List.set_set] at this
  exact this
 ·rw [iM] at hx ⊢
  have:=q x
  simp only [bK,z23] at *
  lia
 ·rw [aX (λz=>n (by rw [z];exact List.mem_append_left _ mem))];exact e
 ·by_cases z:x=a
  ·subst z;rw [b4] at e;cases e
  ·rw [aX z] at e;exact e
theorem SR.y371{k:Nat}{a:Addr}{m m':M}{o:HO}(h:SR K κ ι H σ Z G)(e1:ι[k]?=some a)(e2:G[k]?=some m)(r:∀(ρ:eD K κ ι H a m),Kp H (aP H a o)->eD K κ ι (aP H a o) a m')(hf:uP m=false:=by rfl) :
  SR K κ ι (aP H a o) σ Z (G.set k m')/\Step ι (own σ Z++ι) H ι (own σ Z++ι) (aP H a o):=by
 obtain⟨a',e1',rm⟩:=h.y192 e2
 rw [e1] at e1';cases e1'
 obtain⟨u,hu,mu⟩:=rm.mu
 have kp:Kp H (aP H a o):=⟨λb xs e=>by rw [aX (oh e hu (by rintro rfl;cases mu))];exact e,λb o' u' e=>by rw [aX (λz=>by subst z;exact rm.nf hf _ _ e)];exact e⟩
 have mem:a∈ι:=z30 e1
 have na:∀x,x∈own σ Z->x≠a:=λx hx z=>by
  subst z
  have n:=h.nd x
  have:=iM.mp hx
  have:=iM.mp mem
  lia
 have inj:∀j,ι[j]?=some a->j=k:=λj ej=>by
  have n:=h.nd a
  have c1:bK a ι≤1:=by lia
  by_cases z:j=k
  ·exact z
  ·exfalso
   have:2≤bK a ι:=by
    have hj:=(z1f.mp ej)
    have hk:=(z1f.mp e1)
    obtain⟨hj,vj⟩:=hj
    obtain⟨hk,vk⟩:=hk
    have two:∀(l:List Addr) (i j:Nat) (hi:i<l.length) (hj:j<l.length),i<j->l[i]=a->l[j]=a->2≤List.count a l:=by
     intro l i j hi hj hij e1 e2
     have e:l=l.take j++l.drop j:=(List.take_append_drop j l).symm
     rw [e,z23]
     have p1:0<List.count a (l.take j):=List.count_pos_iff.mpr (by rw [List.mem_take_iff_getElem];exact⟨i,by lia,e1⟩)
     have p2:0<List.count a (l.drop j):=List.count_pos_iff.mpr (by rw [List.mem_drop_iff_getElem];exact⟨0,by lia,by simpa using e2⟩)
     lia
    rcases Nat.lt_or_gt_of_ne z with z|z
    ·exact two ι j k hj hk z vj vk
    ·exact two ι k j hk hj z vk vj
   lia
 have objs:∀(as:List Addr) (Gs:List M) (b:Nat),(∀j x,as[j]?=some x->x=a->b+j=k)->Paired (eD K κ ι H) as Gs->(∀j,b+j=k->j<as.length->as[j]?=some a)->Paired (eD K κ ι (aP H a o)) as (if b≤k then Gs.set (k-b) m' else Gs):=by
  intro as Gs b hj p hk
  induction p generalizing b with
  | nil=>by_cases z:b≤k<;>simp [z]<;>exact .nil
  | @cons x y l r hx hr ih =>
   have ih':=ih (b+1) (λj x e z=>by have:=hj (j+1) x (by simpa using e) z;lia) (λj e l=>by have:=hk (j+1) (by lia) (by simp;lia);simpa using this)
   by_cases z:b=k
   ·subst z
    have xa:x=a:=by have:=hk 0 rfl (by simp);simpa using this
    subst xa
    rw [if_neg (by lia)] at ih'
    rw [if_pos (z13 _),Nat.sub_self]
    exact .cons (r rm kp) ih'
   ·have xa:x≠a:=λe=>z (by have:=hj 0 x rfl e;lia)
    by_cases w:b≤k
    ·rw [if_pos (by lia)] at ih'
     rw [if_pos w]
     obtain⟨n,hn⟩:∃n,k-b=n+1:=⟨k-b-1,by lia⟩
     have hn':k-(b+1)=n:=by lia
     rw [hn];rw [hn'] at ih'
     exact .cons (hx.mono (cC.refl _) kp (aX xa)) ih'
    ·rw [if_neg (by lia)] at ih'
     rw [if_neg w]
     exact .cons (hx.mono (cC.refl _) kp (aX xa)) ih'
 have p2:=objs ι G 0 (λj x e z=>by subst z;have:=inj j e;lia) h.gs (λj e _=>(show j=k by lia) ▸ e1)
 rw [if_pos (Nat.zero_le _),Nat.sub_zero] at p2
 refine⟨⟨jt (cC.refl ι) kp (λx hx=>aX (na x hx)) h.sl,p2,h.nd⟩,⟨cC.refl _,λx hx=>.inl hx,λx u e n=>?_,λx e=>?_,kp⟩⟩
 ·rw [aX (λz=>n (by rw [z];exact z26 _ mem))];exact e
 ·by_cases z:x=a
  ·subst z;rw [b4] at e;cases e
  ·rw [aX z] at e;exact e
end
end
section
inductive Ev where
 | v (x:Vl)|s (i:Nat)
noncomputable abbrev De:=List (Option Vl)
noncomputable abbrev Mo(α:Type):=De->List M->Option (α×De×List M)
noncomputable def bd{α β:Type}(m:Mo α)(f:α->Mo β):Mo β:=λZ G=>match m Z G with
 | some (a,Z1,G1)=>f a Z1 G1
 | none=>none
noncomputable def rt{α:Type}(a:α):Mo α:=λZ G=>some (a,Z,G)
theorem cD{α β:Type}{m:Mo α}{f:α->Mo β}{Z:De}{G:List M}{r:β×De×List M}(h:bd m f Z G=some r):∃a Z1 G1,m Z G=some (a,Z1,G1)/\f a Z1 G1=some r:=by
 unfold bd at h
 split at h
 ·exact⟨_,_,_,by assumption,h⟩
 ·cases h
theorem nW{α β:Type}{m:Mo α}{f:α->Mo β}{Z Z1:De}{G G1:List M}{a:α}(h:m Z G=some (a,Z1,G1)):bd m f Z G=f a Z1 G1:=by
 unfold bd;rw [h]
noncomputable def tS:List Ev->List V->St
 | .v _::es,v::vs=>some v::tS es vs
 | .s _::es,_::vs=>tS es vs
 | _,_=>[]
noncomputable def tD:List Ev->De
 | .v x::es=>some x::tD es
 | .s _::es=>tD es
 | []=>[]
theorem pf:∀{es:List Ev} {vs:List V} (fs:List Ev) (ws:List V),es.length=vs.length->tS (es++fs) (vs++ws)=tS es vs++tS fs ws
 | [],[],_,_,_=>rfl
 | [],_::_,_,_,h=>by cases h
 | _::_,[],_,_,h=>by cases h
 | .v x::es,v::vs,fs,ws,h=>by
  show some v::tS (es++fs) (vs++ws)=some v::(tS es vs++tS fs ws)
  rw [pf fs ws (by simpa using h)]
 | .s i::es,v::vs,fs,ws,h=>by
  show tS (es++fs) (vs++ws)=tS es vs++tS fs ws
  rw [pf fs ws (by simpa using h)]
theorem ph:∀(es fs:List Ev),tD (es++fs)=tD es++tD fs
 | [],_=>rfl
 | .v x::es,fs=>by
  show some x::tD (es++fs)=some x::(tD es++tD fs)
  rw [ph]
 | .s i::es,fs=>by
  show tD (es++fs)=tD es++tD fs
  rw [ph]
structure Args(K:W.Frag)(κ:Str->Addr)(ι:List Addr)(H:Hp)(σ:St)(Z:De)(G:List M)(es:List Ev)(vs:List V):Prop where
 l:σ.length=Z.length
 sr:SR K κ ι H (σ++tS es vs) (Z++tD es) G
 al:Paired (λ(e:Ev) (v:V)=>∀i,e=.s i->σ[i]?=some (some v)) es vs
structure After(K:W.Frag)(κ:Str->Addr)(σ:St)(ι fp:List Addr)(H:Hp)(es:List Ev)(Z':De)(G':List M)(vs:List V)(ι':List Addr)(H':Hp):Prop where
 ar:Args K κ ι' H' σ Z' G' es vs
 st:Step ι fp H ι' (own (σ++tS es vs) (Z'++tD es)++ι') H'
theorem b8(h:some (x,Z,G)=some (e,Z',G'))(a:After K κ σ ι fp H [x] Z G vs ι' H'):After K κ σ ι fp H [e] Z' G' vs ι' H':=by cases h;exact a
noncomputable def bc(K:W.Frag)(κ:Str->Addr)(f:Mo Ev):TE:=λσ H Q=>∃ι Z G e Z' G',SR K κ ι H σ Z G/\f Z G=some (e,Z',G')/\∀v ι' H',After K κ σ ι (own σ Z++ι) H [e] Z' G' [v] ι' H'->Q v H'
noncomputable def iN(K:W.Frag)(κ:Str->Addr)(f:Mo (List Ev)):TA:=λσ H Q=>∃ι Z G es Z' G',SR K κ ι H σ Z G/\f Z G=some (es,Z',G')/\∀vs ι' H',After K κ σ ι (own σ Z++ι) H es Z' G' vs ι' H'->Q vs H'
section
variable {κ:Str->Addr}{H H1 H2:Hp}{σ:St}{Z Z1 Z2:De}
theorem Args.base(h:Args K κ ι H σ Z G es vs):SR K κ ι H σ Z G:=h.sr.pop h.l
theorem Cy (h:n=vs.length)(e:n=0:=by rfl):vs=[]:=by subst e;cases vs with|nil=>rfl|cons _ _=>cases h
theorem b5 (h:n=vs.length)(e:n=1:=by rfl):∃a,vs=[a]:=by
 subst e
 cases vs with
 | nil=>cases h
 | cons a r=>exact⟨a,by rw [Cy (Nat.succ.inj h)]⟩
theorem bV (h:n=vs.length)(e:n=2:=by rfl):∃a b,vs=[a,b]:=by
 subst e
 cases vs with
 | nil=>cases h
 | cons a r=>obtain⟨b,e⟩:=b5 (Nat.succ.inj h);exact⟨a,b,by rw [e]⟩
theorem Args.len(h:Args K κ ι H σ Z G es vs):es.length=vs.length:=Paired.length h.al
theorem After.app(a:After K κ σ ι fp H es Z1 G1 vs ι1 H1)(b:After K κ σ ι1 (own σ Z1++ι1) H1 fs Z2 G2 ws ι2 H2):After K κ σ ι fp H (es++fs) Z2 G2 (vs++ws) ι2 H2:=by
 obtain⟨s,t⟩:=SR.join a.ar.sr a.ar.l b.ar.sr b.ar.l b.st
 have e1:=pf fs ws a.ar.len
 have e2:=ph es fs
 refine⟨⟨b.ar.l,by rw [e1,e2];exact s,eE a.ar.al b.ar.al⟩,?_⟩
 rw [e1,e2]
 exact a.st.trans t
theorem After.nil(h:SR K κ ι H σ Z G):After K κ σ ι (own σ Z++ι) H [] Z G [] ι H:=by
 refine⟨⟨h.len,?_,.nil⟩,?_⟩
 ·show SR K κ ι H (σ++[]) (Z++[]) G
  rw [z17,z17];exact h
 ·show Step ι _ H ι (own (σ++[]) (Z++[])++ι) H
  rw [z17,z17];exact Step.refl _ _ _
noncomputable def ae:Mo (List Ev):=rt []
noncomputable def ag(fa:Mo Ev)(fr:Mo (List Ev)):Mo (List Ev):=bd fa λe=>bd fr λes=>rt (e::es)
theorem pq(h:iN K κ ae σ H Q):lX σ H Q:=by
 obtain⟨ι,Z,G,es,Z',G',s,e,k⟩:=h
 cases e
 exact k _ _ _ (After.nil s)
theorem Cz (h:iN K κ (ag fa fr) σ H Q):tL (bc K κ fa) (iN K κ fr) σ H Q:=by
 obtain⟨ι,Z,G,es,Z',G',s,e,k⟩:=h
 obtain⟨x,Z1,G1,e1,e⟩:=cD e
 obtain⟨xs,Z2,G2,e2,e⟩:=cD e
 cases e
 refine⟨ι,Z,G,x,Z1,G1,s,e1,λv ι1 H1 a=>?_⟩
 refine⟨ι1,Z1,G1,xs,_,_,a.ar.base,e2,λvs ι2 H2 b=>?_⟩
 exact k _ _ _ (a.app b)
noncomputable def aF(K:W.Frag)(κ:Str->Addr)(r:List V->Hp->VK->Prop)(p:List Ev->Mo Ev):Prop :=
 ∀(ι:List Addr) (H:Hp) (σ:St) (Z:De) (G:List M) (es:List Ev) (vs:List V) (e:Ev) (Z':De) (G':List M) (Q:VK),Args K κ ι H σ Z G es vs->p es Z G=some (e,Z',G') ->
  (∀v ι' H',After K κ σ ι (own (σ++tS es vs) (Z++tD es)++ι) H [e] Z' G' [v] ι' H'->Q v H')->r vs H Q
theorem After.then (a:After K κ σ ι fp H es Z1 G1 vs ι1 H1)(b:After K κ σ ι1 (own (σ++tS es vs) (Z1++tD es)++ι1) H1 es' Z2 G2 vs' ι2 H2):After K κ σ ι fp H es' Z2 G2 vs' ι2 H2:=⟨b.ar,a.st.trans b.st⟩
theorem fA  (hp:aF K κ r p)(h:bc K κ (bd fa p) σ H Q):iN K κ fa σ H λvs H1=>r vs H1 Q:=by
 obtain⟨ι,Z,G,e,Z',G',s,eq,k⟩:=h
 obtain⟨xs,Z1,G1,e1,e2⟩:=cD eq
 refine⟨ι,Z,G,xs,Z1,G1,s,e1,λvs ι1 H1 a=>?_⟩
 exact hp _ _ _ _ _ _ _ _ _ _ _ a.ar e2 λv ι2 H2 b=>k _ _ _ (a.then b)
noncomputable def r2(r:R2):List V->Hp->VK->Prop:=λvs H Q=>∃x y,vs=[x,y]/\r x y H Q
noncomputable def r1(r:V->Hp->VK->Prop):List V->Hp->VK->Prop:=λvs H Q=>∃x,vs=[x]/\r x H Q
noncomputable def ak(p:List Ev->Mo Ev)(fa fb:Mo Ev):Mo Ev:=bd fa λx=>bd fb λy=>p [x,y]
noncomputable def a7(p:List Ev->Mo Ev)(fa:Mo Ev):Mo Ev:=bd fa λx=>p [x]
theorem iO  (hp:aF K κ (r2 r) p)(h:bc K κ (ak p fa fb) σ H Q):lS r (bc K κ fa) (bc K κ fb) σ H Q:=by
 obtain⟨ι,Z,G,e,Z',G',s,eq,k⟩:=h
 obtain⟨x,Z1,G1,e1,eq⟩:=cD eq
 obtain⟨y,Z2,G2,e2,eq⟩:=cD eq
 refine⟨ι,Z,G,x,Z1,G1,s,e1,λv ι1 H1 a=>?_⟩
 refine⟨ι1,Z1,G1,y,Z2,G2,a.ar.base,e2,λw ι2 H2 b=>?_⟩
 have c:=a.app b
 obtain⟨x',y',e',q⟩:=hp _ _ _ _ _ _ _ _ _ _ Q c.ar eq λv ι3 H3 d=>k _ _ _ (c.then d)
 cases e'
 exact q
theorem gH  (hp:aF K κ (r1 r) p)(h:bc K κ (a7 p fa) σ H Q):tUn r (bc K κ fa) σ H Q:=by
 obtain⟨ι,Z,G,e,Z',G',s,eq,k⟩:=h
 obtain⟨x,Z1,G1,e1,eq⟩:=cD eq
 refine⟨ι,Z,G,x,Z1,G1,s,e1,λv ι1 H1 a=>?_⟩
 obtain⟨x',e',q⟩:=hp _ _ _ _ _ _ _ _ _ _ Q a.ar eq λv ι3 H3 d=>k _ _ _ (a.then d)
 cases e'
 exact q
theorem pv:∀{es:List Ev} {vs:List V} {j:Nat} {x:Vl} {v:V},Paired (RpE K κ ι H) (tS es vs) (tD es)->es[j]?=some (.v x)->vs[j]?=some v->RpE K κ ι H (some v) (some x)
 | [],_,_,_,_,_,h,_=>by simp at h
 | _::_,[],_,_,_,_,_,h=>by simp at h
 | .v y::es,w::vs,0,x,v,p,h1,h2=>by
  simp at h1 h2
  subst h1;subst h2
  cases p with
  | cons q _=>exact q
 | .s i::es,w::vs,0,x,v,p,h1,h2=>by simp at h1
 | .v y::es,w::vs,j+1,x,v,p,h1,h2=>by
  cases p with
  | cons _ p=>exact pv p (by simpa using h1) (by simpa using h2)
 | .s i::es,w::vs,j+1,x,v,p,h1,h2=>pv (vs:=vs) p (by simpa using h1) (by simpa using h2)
theorem Args.im{j:Nat}{d:I}{v:V}(a:Args K κ ι H σ Z G es vs)(h1:es[j]?=some (.v (.im d)))(h2:vs[j]?=some v):RpI K ι H v d:=by
 have:=pv (cT a.l a.sr.sl).2 h1 h2
 cases this with
 | im r=>exact r
noncomputable def pk(Z:De)(G:List M):Ev->Option M
 | .v (.ow m)=>some m
 | .v (.im (.ref k))=>G[k]?
 | .v (.im _)=>none
 | .s i=>match Z[i]? with
  | some (some (.ow m))=>some m
  | _=>none
theorem Args.pk{j:Nat}{e:Ev}{m:M}{v:V}(a:Args K κ ι H σ Z G es vs)(h1:es[j]?=some e)(h2:vs[j]?=some v)(h:B.pk Z G e=some m):∃b,v=.ref b/\eD K κ ι H b m:=by
 cases e with
 | v x =>
  have q:=pv (cT a.l a.sr.sl).2 h1 h2
  cases x with
  | ow m'=>cases h;cases q with
   | ow r=>exact⟨_,rfl,r⟩
  | im d =>
   cases q with
   | im r =>
    cases r with
    | ref e =>
     obtain⟨b,e',r⟩:=a.base.y192 h
     rw [e] at e';cases e'
     exact⟨_,rfl,r⟩
    | _=>cases h
 | s i =>
  have h:(match Z[i]? with|some (some (.ow m))=>some m|_=>none)=some m:=h
  obtain⟨v',e1,al⟩:∃v',vs[j]?=some v'/\σ[i]?=some (some v'):=by
   have:∀{es:List Ev} {vs:List V} {j:Nat},Paired (λ(e:Ev) (v:V)=>∀i,e=.s i->σ[i]?=some (some v)) es vs->es[j]?=some (.s i)->∃v',vs[j]?=some v'/\σ[i]?=some (some v'):=by
    intro es vs j p
    induction p generalizing j with
    | nil=>intro h;simp at h
    | cons q _ ih =>
     intro h
     cases j with
     | zero=>simp at h;exact⟨_,rfl,q i h⟩
     | succ j=>obtain⟨v',e,z⟩:=ih (by simpa using h);exact⟨v',by simpa using e,z⟩
   exact this a.al h1
  rw [h2] at e1;cases e1
  split at h
  ·rename_i m' e
   cases h
   obtain⟨b,e',r⟩:=a.base.y195 e
   rw [al] at e';cases e'
   exact⟨_,rfl,r⟩
  ·cases h
noncomputable def sq(Z:De)(G:List M):Ev->Option (List I)
 | .v (.im (.tup xs))=>some xs
 | .v (.im (.fro xs))=>some xs
 | .v (.im (.con xs))=>some xs
 | e=>match pk Z G e with
  | some (.lst xs)=>some xs
  | _=>none
theorem Args.sq{j:Nat}{e:Ev}{xs:List I}{v:V}(a:Args K κ ι H σ Z G es vs)(h1:es[j]?=some e)(h2:vs[j]?=some v)(h:B.sq Z G e=some xs):∃b ys,v=.ref b/\(bB K H b ys∨bt K H b ys)/\y5a K ι H ys xs:=by
 have y181:(match B.pk Z G e with|some (.lst xs)=>some xs|_=>none)=some xs->∃b ys,v=.ref b/\(bB K H b ys∨bt K H b ys)/\y5a K ι H ys xs:=λq=>by
  split at q
  ·rename_i xs' e'
   cases q
   obtain⟨b,e1,ys,h3,r⟩:=a.pk h1 h2 e'
   exact⟨b,ys,e1,.inl (bB.of h3),r⟩
  ·cases q
 cases e with
 | s i=>exact y181 h
 | v x =>
  cases x with
  | ow m=>exact y181 h
  | im d =>
   have r:=a.im h1 h2
   cases r with
   | tup q r=>cases h;exact⟨_,_,rfl,.inr (bt.of q),r⟩
   | con q r=>cases h;exact⟨_,_,rfl,.inr (bt.kon q),r⟩
   | fro q r=>cases h;exact⟨_,_,rfl,.inl q.sq,r⟩
   | ref q=>exact y181 h
   | non=>exact y181 h
   | bl=>exact y181 h
   | int=>exact y181 h
   | str=>exact y181 h
   | ty=>exact y181 h
theorem a6 (a:Args K κ ι H σ Z G es vs)(r:RpI K ι H v d):After K κ σ ι (own (σ++tS es vs) (Z++tD es)++ι) H [.v (.im d)] Z G [v] ι H:=by
 refine⟨⟨a.l,a.base.push_im r,.cons (λ_ h=>by cases h) .nil⟩,(Step.refl _ _ _).sub λx h=>?_⟩
 have h:x∈own (σ++[some v]) (Z++[some (.im d)])++ι:=h
 rw [eR a.l] at h
 exact c8 a.l h
theorem uU (a:Args K κ ι H σ Z G es vs)(s:fU H H')(r:RpI K ι H' v d):After K κ σ ι (own (σ++tS es vs) (Z++tD es)++ι) H [.v (.im d)] Z G [v] ι H':=by
 refine⟨⟨a.l,(a.base.same s).push_im r,.cons (λ_ h=>by cases h) .nil⟩,(Step.same s).sub λx h=>?_⟩
 have h:x∈own (σ++[some v]) (Z++[some (.im d)])++ι:=h
 rw [eR a.l] at h
 exact c8 a.l h
theorem pw (a:Args K κ ι H σ Z G es vs)(hp:H p=none)(r:y5a K ι H ys xs):After K κ σ ι (own (σ++tS es vs) (Z++tD es)++ι) H [.v (.im (.tup xs))] Z G [.ref p] ι (aP H p (.tup ys)) :=
 uU a (fU.lay hp) (.tup b4 (r.mono (cC.refl _) (Kp.same (fU.lay hp))))
theorem CA (a:Args K κ ι H σ Z G es vs)(hp:H p=none)(r:eD K κ ι (aP H p o) p m):After K κ σ ι (own (σ++tS es vs) (Z++tD es)++ι) H [.v (.ow m)] Z G [.ref p] ι (aP H p o) :=
 ⟨⟨a.l,a.base.y3c6 hp r,.cons (λ_ h=>by cases h) .nil⟩,(Step.y23a a.l hp).wide λx h=>c8 a.l h⟩
theorem iP (a:Args K κ ι H σ Z G es vs)(hp:H p=none)(r:y5a K ι H ys xs):After K κ σ ι (own (σ++tS es vs) (Z++tD es)++ι) H [.v (.ow (.lst xs))] Z G [.ref p] ι (aP H p (.lst ys)) :=
 CA a hp ⟨ys,b4,r.mono (cC.refl _) (Kp.same (fU.lay hp))⟩
noncomputable def dz(Z:De)(G:List M)(m':M):Ev->De×List M
 | .v (.im (.ref k))=>(Z,G.set k m')
 | .v _=>(Z,G)
 | .s i=>(Z.set i (some (.ow m')),G)
theorem pz:∀{es:List Ev} {vs:List V} {j:Nat} {x:Vl} {v:V},es[j]?=some (.v x)->vs[j]?=some v->es.length=vs.length->∃n:Nat,(tS es vs)[n]?=some (some v)/\(tD es)[n]?=some (some x)
 | [],_,_,_,_,h,_,_=>by simp at h
 | _::_,[],_,_,_,_,h,_=>by simp at h
 | .v y::es,w::vs,0,x,v,h1,h2,_=>by
  simp at h1 h2
  subst h1;subst h2
  exact⟨0,rfl,rfl⟩
 | .s i::es,w::vs,0,x,v,h1,h2,_=>by simp at h1
 | .v y::es,w::vs,j+1,x,v,h1,h2,l=>by
  obtain⟨n,p,q⟩:=pz (by simpa using h1) (by simpa using h2) (by simpa using l)
  exact⟨n+1,by simpa [tS] using p,by simpa [tD] using q⟩
 | .s i::es,w::vs,j+1,x,v,h1,h2,l=>by
  obtain⟨n,p,q⟩:=pz (by simpa using h1) (by simpa using h2) (by simpa using l)
  exact⟨n,p,q⟩
theorem zg{i:Nat}:∀{es:List Ev} {vs:List V} {j:Nat} {v:V},Paired (λ(e:Ev) (v:V)=>∀i,e=.s i->σ[i]?=some (some v)) es vs->es[j]?=some (.s i)->vs[j]?=some v->σ[i]?=some (some v):=by
 intro es vs j v p
 induction p generalizing j with
 | nil=>intro h;simp at h
 | cons q _ ih =>
  intro h h2
  cases j with
  | zero=>simp at h h2;subst h2;exact q i h
  | succ j=>exact ih (by simpa using h) (by simpa using h2)
theorem mD{j:Nat}{e:Ev}{m m':M}{b:Addr}{o:HO}{v:V}{d:I}(a:Args K κ ι H σ Z G es vs)(h1:es[j]?=some e)(h2:vs[j]?=some (.ref b))(h:pk Z G e=some m)
  (r:eD K κ ι H b m->Kp H (aP H b o)->eD K κ ι (aP H b o) b m') (rv:RpI K ι H v d) (hf:uP m=false:=by rfl) :
  After K κ σ ι (own (σ++tS es vs) (Z++tD es)++ι) H [.v (.im d)] (dz Z G m' e).1 (dz Z G m' e).2 [v] ι (aP H b o):=by
 have fin:∀{Z':De} {G':List M},SR K κ ι (aP H b o) σ Z' G'->Step ι (own (σ++tS es vs) (Z++tD es)++ι) H ι (own σ Z'++ι) (aP H b o)->After K κ σ ι (own (σ++tS es vs) (Z++tD es)++ι) H [.v (.im d)] Z' G' [v] ι (aP H b o):=λs st=>by
  refine⟨⟨s.len,s.push_im (rv.mono (cC.refl _) st.kp),.cons (λ_ h=>by cases h) .nil⟩,st.sub λx h=>?_⟩
  have h:x∈own (σ++[some v]) (_++[some (.im d)])++ι:=h
  rw [eR s.len] at h
  exact h
 cases e with
 | s i =>
  have al:=zg a.al h1 h2
  have h:(match Z[i]? with|some (some (.ow m))=>some m|_=>none)=some m:=h
  split at h
  ·rename_i m0 e
   cases h
   obtain⟨p,q⟩:=a.base.poke al e r hf
   exact fin p (q.wide λx h=>c8 a.l h)
  ·cases h
 | v x =>
  cases x with
  | im d =>
   cases d with
   | ref k =>
    have rr:=a.im h1 h2
    cases rr with
    | ref e =>
     obtain⟨p,q⟩:=a.base.y371 e h r hf
     exact fin p (q.wide λx h=>c8 a.l h)
   | _=>cases h
  | ow m0 =>
   cases h
   obtain⟨n,p1,p2⟩:=pz h1 h2 a.len
   have e1:(σ++tS es vs)[σ.length+n]?=some (some (.ref b)):=by rw [z28 (by lia)];simpa using p1
   have e2:(Z++tD es)[σ.length+n]?=some (some (.ow m)):=by rw [a.l,z28 (by lia)];simpa using p2
   obtain⟨p,q⟩:=a.sr.poke e1 e2 r hf
   have e3:(Z++tD es).set (σ.length+n) (some (.ow m'))=Z++(tD es).set n (some (.ow m')):=by rw [a.l,List.set_append_right _ _ (by lia)];simp
   rw [e3] at p q
   exact fin (p.pop a.l) (q.sub λx h=>c8 a.l h)
end
end
section
section
noncomputable def aa(i:Nat):Mo Ev:=λZ G=>match Z[i]? with
 | some (some (.im d))=>some (.v (.im d),Z,G)
 | some (some (.ow _))=>some (.s i,Z,G)
 | _=>none
theorem CB (h:bc K κ (aa i) σ H Q):sd i σ H Q:=by
 obtain⟨ι,Z,G,e,Z',G',s,eq,k⟩:=h
 unfold aa at eq
 split at eq
 ·rename_i d hd
  cases eq
  obtain⟨v,e1,r⟩:=s.y193 hd
  refine⟨v,e1,k v ι H ⟨⟨s.len,s.push_im r,.cons (λ_ h=>by cases h) .nil⟩,(Step.refl _ _ _).sub λx h=>?_⟩⟩
  have h:x∈own (σ++[some v]) (Z++[some (.im d)])++ι:=h
  rw [eR s.len] at h
  exact h
 ·rename_i m hd
  cases eq
  obtain⟨a,e1,r⟩:=s.y195 hd
  have n:=After.nil s
  exact⟨_,e1,k _ ι H ⟨⟨s.len,n.ar.sr,.cons (λj h=>by cases h;exact e1) .nil⟩,n.st⟩⟩
 ·cases eq
noncomputable def ah(d:I):Mo Ev:=rt (.v (.im d))
theorem ju (r:∀ι H,RpI K ι H v d)(h:bc K κ (ah d) σ H Q):tC v σ H Q:=by
 obtain⟨ι,Z,G,e,Z',G',s,eq,k⟩:=h
 cases eq
 have a:=a6 (After.nil s).ar (r ι H)
 exact k _ _ _ ⟨a.ar,(After.nil s).st.trans a.st⟩
noncomputable def pA:Ev->Mo Ev
 | .v (.im d)=>rt (.v (.im d))
 | .v (.ow m)=>λZ G=>some (.v (.im (.ref G.length)),Z,G++[m])
 | .s i=>λZ G=>match Z[i]? with
  | some (some (.ow m))=>some (.v (.im (.ref G.length)),Z.set i (some (.im (.ref G.length))),G++[m])
  | _=>none
noncomputable def nX:Ev->Mo Ev
 | .v x=>rt (.v x)
 | .s i=>λZ G=>match Z[i]? with
  | some (some (.ow m))=>some (.v (.ow m),Z.set i none,G)
  | _=>none
noncomputable def cF(f:Mo Ev):Mo Ev:=bd f pA
noncomputable def jv(f:Mo Ev):Mo Ev:=bd f nX
theorem y6e  (a:After K κ σ ι fp H [e] Z1 G1 [v] ι1 H1)(h:nX e Z1 G1=some (e',Z',G')):After K κ σ ι fp H [e'] Z' G' [v] ι1 H1/\∃x,e'=.v x:=by
 cases e with
 | v x=>cases h;exact⟨a,_,rfl⟩
 | s i =>
  unfold nX at h
  dsimp only at h
  split at h
  ·rename_i m hm
   cases h
   have al:=zg (j:=0) a.ar.al rfl rfl
   obtain⟨b,e1,r⟩:=a.ar.base.y195 hm
   rw [al] at e1;cases e1
   obtain⟨p,q⟩:=a.ar.base.take al hm
   refine⟨⟨⟨by rw [z32];exact a.ar.l,p,.cons (λ_ h=>by cases h) .nil⟩,?_⟩,_,rfl⟩
   have st:=a.st
   have e0:own (σ++tS [.s i] [.ref b]) (Z1++tD [.s i])=own σ Z1:=by
    show own (σ++[]) (Z1++[])=_
    rw [z17,z17]
   rw [e0] at st
   exact st.trans q
  ·cases h
theorem y6d  (a:After K κ σ ι fp H [e] Z1 G1 [v] ι1 H1)(h:pA e Z1 G1=some (e',Z',G')):∃ι2,After K κ σ ι fp H [e'] Z' G' [v] ι2 H1:=by
 have go:∀{Z3:De} {b:Addr} {m:M},σ.length=Z3.length->After K κ σ ι fp H [.v (.ow m)] Z3 G1 [.ref b] ι1 H1->After K κ σ ι fp H [.v (.im (.ref G1.length))] Z3 (G1++[m]) [.ref b] (ι1++[b]) H1:=λ{Z3 b m} l a=>by
  obtain⟨p,r,q⟩:=SR.box a.ar.sr l
  refine⟨⟨l,p.push_im r,.cons (λ_ h=>by cases h) .nil⟩,a.st.trans (q.sub λx h=>?_)⟩
  have h:x∈own (σ++[some (.ref b)]) (Z3++[some (.im (.ref G1.length))])++(ι1++[b]):=h
  rw [eR l] at h
  exact h
 cases e with
 | v x =>
  cases x with
  | im d=>cases h;exact⟨_,a⟩
  | ow m =>
   cases h
   have r:=pv (cT a.ar.l a.ar.sr.sl).2 (j:=0) rfl rfl
   cases r
   exact⟨_,go a.ar.l a⟩
 | s i =>
  unfold pA at h
  dsimp only at h
  split at h
  ·rename_i m hm
   cases h
   have al:=zg (j:=0) a.ar.al rfl rfl
   have hm':nX (.s i) Z1 G1=some (.v (.ow m),Z1.set i none,G1):=by unfold nX;dsimp only;rw [hm]
   obtain⟨a',_⟩:=y6e a hm'
   obtain⟨b,e1,r⟩:=a.ar.base.y195 hm
   rw [al] at e1;cases e1
   have c:=go (by rw [z32];exact a.ar.l) a'
   have hr:RpI K (ι1++[b]) H1 (.ref b) (.ref G1.length):=c.ar.im (j:=0) rfl rfl
   have s0:=c.ar.base
   have l:σ.length=(Z1.set i (some (.im (.ref G1.length)))).length:=by rw [z32];exact a.ar.l
   have eo:∀x,bK x (own σ (Z1.set i (some (.im (.ref G1.length)))))=bK x (own σ (Z1.set i none)):=λx=>by
    have h1:=uR (y:=some (.im (.ref G1.length))) x al hm
    have h2:=uR (y:=none) x al hm
    rw [gF] at h1;rw [kx] at h2
    lia
   have sr:SR K κ (ι1++[b]) H1 σ (Z1.set i (some (.im (.ref G1.length)))) (G1++[m]):=by
    refine⟨?_,s0.gs,λx=>by rw [eo];exact s0.nd x⟩
    have:=mC s0.sl al (.im hr)
    rw [List.set_set] at this
    exact this
   refine⟨_,⟨l,sr.push_im hr,.cons (λ_ h=>by cases h) .nil⟩,c.st.sub λx h=>?_⟩
   have h:x∈own (σ++[some (.ref b)]) (Z1.set i (some (.im (.ref G1.length)))++[some (.im (.ref G1.length))])++(ι1++[b]):=h
   rw [eR l] at h
   show x∈own (σ++[some (.ref b)]) (Z1.set i none++[some (.im (.ref G1.length))])++(ι1++[b])
   rw [eR (by rw [z32];exact a.ar.l)]
   simp only [z1a] at h ⊢
   rcases h with h|h
   ·left;rw [iM] at h ⊢;rw [<- eo];exact h
   ·exact .inr h
  ·cases h
theorem CC (h:bc K κ (cF f) σ H Q):bc K κ f σ H Q:=by
 obtain⟨ι,Z,G,e,Z',G',s,eq,k⟩:=h
 obtain⟨x,Z1,G1,e1,eq⟩:=cD eq
 refine⟨ι,Z,G,x,Z1,G1,s,e1,λv ι1 H1 a=>?_⟩
 obtain⟨ι2,b⟩:=y6d a eq
 exact k _ _ _ b
theorem uV (h:bc K κ (jv f) σ H Q):bc K κ f σ H Q:=by
 obtain⟨ι,Z,G,e,Z',G',s,eq,k⟩:=h
 obtain⟨x,Z1,G1,e1,eq⟩:=cD eq
 refine⟨ι,Z,G,x,Z1,G1,s,e1,λv ι1 H1 a=>?_⟩
 obtain⟨b,_⟩:=y6e a eq
 exact k _ _ _ b
noncomputable def gZ:Ev->Option I
 | .v (.im d)=>some d
 | _=>none
noncomputable def fV:List Ev->Option (List I)
 | []=>some []
 | e::es=>match gZ e,fV es with
  | some d,some ds=>some (d::ds)
  | _,_=>none
theorem y86:∀{es:List Ev} {vs:List V} {ds:List I},Paired (RpE K κ ι H) (tS es vs) (tD es)->es.length=vs.length->fV es=some ds->y5a K ι H vs ds
 | [],[],_,_,_,h=>by cases h;exact .nil
 | [],_::_,_,_,l,_=>by cases l
 | _::_,[],_,_,l,_=>by cases l
 | e::es,v::vs,ds,p,l,h=>by
  unfold fV at h
  split at h
  ·rename_i d ds' h1 h2
   cases h
   cases e with
   | s i=>cases h1
   | v x =>
    cases x with
    | ow m=>cases h1
    | im d' =>
     cases h1
     cases p with
     | cons q p =>
      cases q with
      | im r=>exact .cons r (y86 p (by simpa using l) h2)
  ·cases h
theorem Args.ims(a:Args K κ ι H σ Z G es vs)(h:fV es=some ds):y5a K ι H vs ds:=y86 (cT a.l a.sr.sl).2 a.len h
noncomputable def bq:List Ev->Mo Ev:=λes Z G=>match fV es with
 | some ds=>if ds.length≤1000 then some (.v (.im (.tup ds)),Z,G) else none
 | none=>none
noncomputable def aT:List Ev->Mo Ev:=λes Z G=>match fV es with
 | some ds=>if ds.length≤1000 then some (.v (.ow (.lst ds)),Z,G) else none
 | none=>none
theorem uW:1000≤sizeLine:=by decide
theorem CD:aF K κ (λvs H Q=>vs.length≤sizeLine/\∀p,H p=none->Q (.ref p) (aP H p (.tup vs))) bq:=by
 intro ι H σ Z G es vs e Z' G' Q a h k
 unfold bq at h
 split at h
 ·rename_i ds hd
  split at h
  ·have r:=a.ims hd
   exact⟨by rw [r.len];exact z21 (by assumption) uW,λp hp=>k _ _ _ (b8 h (pw a hp r))⟩
  ·cases h
 ·cases h
theorem CF:aF K κ (λvs H Q=>vs.length≤sizeLine/\∀p,H p=none->Q (.ref p) (aP H p (.lst vs))) aT:=by
 intro ι H σ Z G es vs e Z' G' Q a h k
 unfold aT at h
 split at h
 ·rename_i ds hd
  split at h
  ·have r:=a.ims hd
   exact⟨by rw [r.len];exact z21 (by assumption) uW,λp hp=>k _ _ _ (b8 h (iP a hp r))⟩
  ·cases h
 ·cases h
noncomputable def ez(K:W.Frag)(κ:Str->Addr)(f:Mo Bool):TT:=λσ H Q=>∃ι Z G b Z' G',SR K κ ι H σ Z G/\f Z G=some (b,Z',G')/\∀ι' H',SR K κ ι' H' σ Z' G'->Step ι (own σ Z++ι) H ι' (own σ Z'++ι') H'->Q b H'
noncomputable def CG:Ev->Mo Bool
 | .v (.im (.bl b))=>rt b
 | _=>λ_ _=>none
noncomputable def ax(f:Mo Ev):Mo Bool:=bd f CG
theorem After.drop (a:After K κ σ ι fp H [e] Z1 G1 [v] ι1 H1):SR K κ ι1 H1 σ Z1 G1/\Step ι fp H ι1 (own σ Z1++ι1) H1:=⟨a.ar.base,a.st.sub λx h=>c8 a.ar.l h⟩
theorem kz (h:ez K κ (ax f) σ H Q):tF (bc K κ f) σ H Q:=by
 obtain⟨ι,Z,G,b,Z',G',s,eq,k⟩:=h
 obtain⟨x,Z1,G1,e1,eq⟩:=cD eq
 refine⟨ι,Z,G,x,Z1,G1,s,e1,λv ι1 H1 a=>?_⟩
 unfold CG at eq
 split at eq
 ·rename_i b'
  cases eq
  have r:=a.ar.im (j:=0) rfl rfl
  cases mw (r)
  obtain⟨p,q⟩:=a.drop
  exact⟨_,rfl,k _ _ p q⟩
 ·cases eq
noncomputable def hJ(c d:Mo Bool):Mo Bool:=bd c λb=>if b then d else rt false
noncomputable def eF(c d:Mo Bool):Mo Bool:=bd c λb=>if b then rt true else d
noncomputable def fB(c:Mo Bool):Mo Bool:=bd c λb=>rt (!b)
theorem ez.go{Q Q':Bool->Hp->Prop} (s:SR K κ ι1 H1 σ Z1 G1)(st:Step ι fp H ι1 (own σ Z1++ι1) H1)(e:f Z1 G1=some (b,Z2,G2))
  (k:∀ι' H',SR K κ ι' H' σ Z2 G2->Step ι fp H ι' (own σ Z2++ι') H'->Q b H'):ez K κ f σ H1 Q:=⟨ι1,Z1,G1,b,Z2,G2,s,e,λι' H' s' st'=>k ι' H' s' (st.trans st')⟩
theorem CH (h:ez K κ (hJ c d) σ H Q):sj (ez K κ c) (ez K κ d) σ H Q:=by
 obtain⟨ι,Z,G,b,Z',G',s,eq,k⟩:=h
 obtain⟨x,Z1,G1,e1,eq⟩:=cD eq
 refine⟨ι,Z,G,x,Z1,G1,s,e1,λι1 H1 s1 st=>?_⟩
 cases x with
 | true=>rw [if_pos rfl] at eq ⊢;exact ez.go (Q':=Q) s1 st eq k
 | false=>rw [if_neg zf] at eq ⊢;cases eq;exact k _ _ s1 st
theorem uX (h:ez K κ (eF c d) σ H Q):tOr (ez K κ c) (ez K κ d) σ H Q:=by
 obtain⟨ι,Z,G,b,Z',G',s,eq,k⟩:=h
 obtain⟨x,Z1,G1,e1,eq⟩:=cD eq
 refine⟨ι,Z,G,x,Z1,G1,s,e1,λι1 H1 s1 st=>?_⟩
 cases x with
 | true=>rw [if_pos rfl] at eq ⊢;cases eq;exact k _ _ s1 st
 | false=>rw [if_neg zf] at eq ⊢;exact ez.go (Q':=Q) s1 st eq k
theorem CI (h:ez K κ (fB c) σ H Q):sk (ez K κ c) σ H Q:=by
 obtain⟨ι,Z,G,b,Z',G',s,eq,k⟩:=h
 obtain⟨x,Z1,G1,e1,eq⟩:=cD eq
 cases eq
 exact⟨ι,Z,G,x,_,_,s,e1,λι1 H1 s1 st=>k _ _ s1 st⟩
noncomputable def fw(c:Mo Bool)(fa fb:Mo Ev):Mo Ev:=bd c λb=>if b then fa else fb
theorem bc.go  (s:SR K κ ι1 H1 σ Z1 G1)(st:Step ι fp H ι1 (own σ Z1++ι1) H1)(eq:f Z1 G1=some (e,Z2,G2))
  (k:∀v ι' H',After K κ σ ι fp H [e] Z2 G2 [v] ι' H'->Q v H'):bc K κ f σ H1 Q:=⟨ι1,Z1,G1,e,Z2,G2,s,eq,λv ι' H' a=>k v ι' H' ⟨a.ar,st.trans a.st⟩⟩
theorem CJ (h:bc K κ (fw c fa fb) σ H Q):tIf (ez K κ c) (bc K κ fa) (bc K κ fb) σ H Q:=by
 obtain⟨ι,Z,G,b,Z',G',s,eq,k⟩:=h
 obtain⟨x,Z1,G1,e1,eq⟩:=cD eq
 refine⟨ι,Z,G,x,Z1,G1,s,e1,λι1 H1 s1 st=>?_⟩
 cases x with
 | true=>rw [if_pos rfl] at eq ⊢;exact bc.go s1 st eq k
 | false=>rw [if_neg zf] at eq ⊢;exact bc.go s1 st eq k
inductive Fl where
 | nx (Z:De) (G:List M)|rt (x:Vl) (G:List M)|bk (Z:De) (G:List M)|ct (Z:De) (G:List M)
noncomputable abbrev SF:=De->List M->Option Fl
noncomputable def uY(K:W.Frag)(κ:Str->Addr)(ι fp:List Addr)(H:Hp)(D:Ends):Fl->Prop
 | .nx Z' G'=>∀σ' ι' H',SR K κ ι' H' σ' Z' G'->Step ι fp H ι' (own σ' Z'++ι') H'->D.nx σ' H'
 | .bk Z' G'=>∀σ' ι' H',SR K κ ι' H' σ' Z' G'->Step ι fp H ι' (own σ' Z'++ι') H'->D.bk σ' H'
 | .ct Z' G'=>∀σ' ι' H',SR K κ ι' H' σ' Z' G'->Step ι fp H ι' (own σ' Z'++ι') H'->D.ct σ' H'
 | .rt x G'=>∀v ι' H',SR K κ ι' H' [some v] [some x] G'->Step ι fp H ι' (own [some v] [some x]++ι') H'->D.rt v H'
noncomputable def dP(K:W.Frag)(κ:Str->Addr)(f:SF):TS:=λD σ H=>∃ι Z G fl,SR K κ ι H σ Z G/\f Z G=some fl/\uY K κ ι (own σ Z++ι) H D fl
theorem uY.step (st:Step ι fp H ι1 fq H1)(h:uY K κ ι fp H D fl):uY K κ ι1 fq H1 D fl:=by
 cases fl with
 | nx Z' G'=>exact λσ' ι' H' s t=>h σ' ι' H' s (st.trans t)
 | bk Z' G'=>exact λσ' ι' H' s t=>h σ' ι' H' s (st.trans t)
 | ct Z' G'=>exact λσ' ι' H' s t=>h σ' ι' H' s (st.trans t)
 | rt x G'=>exact λv ι' H' s t=>h v ι' H' s (st.trans t)
theorem dP.of (s:SR K κ ι1 H1 σ Z1 G1)(st:Step ι fp H ι1 (own σ Z1++ι1) H1)(eq:f Z1 G1=some fl)(k:uY K κ ι fp H D fl):dP K κ f D σ H1:=⟨ι1,Z1,G1,fl,s,eq,k.step st⟩
noncomputable def aU:SF:=λZ G=>some (.nx Z G)
noncomputable def au(a b:SF):SF:=λZ G=>match a Z G with
 | some (.nx Z1 G1)=>b Z1 G1
 | r=>r
theorem CK(h:dP K κ aU D σ H):sv D σ H:=by
 obtain⟨ι,Z,G,fl,s,eq,k⟩:=h
 cases eq
 exact k _ _ _ s (Step.refl _ _ _)
theorem CL (h:dP K κ (au a b) D σ H):sy (dP K κ a) (dP K κ b) D σ H:=by
 obtain⟨ι,Z,G,fl,s,eq,k⟩:=h
 unfold au at eq
 split at eq
 ·rename_i Z1 G1 e1
  exact⟨ι,Z,G,_,s,e1,λσ' ι' H' s' t=>dP.of s' t eq k⟩
 ·rename_i r hn
  cases fl with
  | nx Z' G'=>exact absurd eq (hn Z' G')
  | bk Z' G'=>exact⟨ι,Z,G,_,s,eq,k⟩
  | ct Z' G'=>exact⟨ι,Z,G,_,s,eq,k⟩
  | rt x G'=>exact⟨ι,Z,G,_,s,eq,k⟩
noncomputable def aM(c:Mo Bool)(a b:SF):SF:=λZ G=>match c Z G with
 | some (true,Z1,G1)=>a Z1 G1
 | some (false,Z1,G1)=>b Z1 G1
 | none=>none
theorem uZ (h:dP K κ (aM c a b) D σ H):sD (ez K κ c) (dP K κ a) (dP K κ b) D σ H:=by
 obtain⟨ι,Z,G,fl,s,eq,k⟩:=h
 unfold aM at eq
 split at eq
 ·rename_i Z1 G1 e1
  exact⟨ι,Z,G,true,Z1,G1,s,e1,λι' H' s' t=>by dsimp only;rw [if_pos rfl];exact dP.of s' t eq k⟩
 ·rename_i Z1 G1 e1
  exact⟨ι,Z,G,false,Z1,G1,s,e1,λι' H' s' t=>by dsimp only;rw [if_neg zf];exact dP.of s' t eq k⟩
 ·cases eq
noncomputable def bF(f:Mo Ev):SF:=λZ G=>match f Z G with
 | some (_,Z1,G1)=>some (.nx Z1 G1)
 | none=>none
theorem CM (h:dP K κ (bF f) D σ H):sA (bc K κ f) D σ H:=by
 obtain⟨ι,Z,G,fl,s,eq,k⟩:=h
 unfold bF at eq
 split at eq
 ·rename_i e Z1 G1 e1
  cases eq
  refine⟨ι,Z,G,e,Z1,G1,s,e1,λv ι' H' a=>?_⟩
  obtain⟨p,q⟩:=a.drop
  exact k _ _ _ p q
 ·cases eq
theorem SR.last (h:SR K κ ι H (σ++[some v]) (Z++[some x]) G)(l:σ.length=Z.length):SR K κ ι H [some v] [some x] G/\∀a,a∈own [some v] [some x]++ι->a∈own (σ++[some v]) (Z++[some x])++ι:=by
 obtain⟨p,q⟩:=cT l h.sl
 refine⟨⟨q,h.gs,λa=>?_⟩,λa ha=>?_⟩
 ·have:=h.nd a
  rw [cq _ _ l] at this
  simp only [bK,z23] at this ⊢
  lia
 ·rw [cq _ _ l]
  simp only [z1a] at ha ⊢
  rcases ha with ha|ha
  ·exact .inl (.inr ha)
  ·exact .inr ha
noncomputable def aG(f:Mo Ev):SF:=λZ G=>match jv f Z G with
 | some (.v x,_,G1)=>some (.rt x G1)
 | _=>none
theorem CN (h:dP K κ (aG f) D σ H):sC (bc K κ f) D σ H:=by
 obtain⟨ι,Z,G,fl,s,eq,k⟩:=h
 unfold aG at eq
 split at eq
 ·rename_i x Z1 G1 e1
  cases eq
  refine uV ⟨ι,Z,G,_,Z1,G1,s,e1,λv ι' H' a=>?_⟩
  obtain⟨p,q⟩:=SR.last a.ar.sr a.ar.l
  exact k _ _ _ p (a.st.sub q)
 ·cases eq
noncomputable def CO:SF:=λ_ G=>some (.rt (.im .non) G)
noncomputable abbrev GF:=Vl->De->List M->Option (De×List M)
noncomputable def pB(K:W.Frag)(κ:Str->Addr)(g:GF):TG:=λv σ H Q=>∃ι Z G x Z' G',σ.length=Z.length/\SR K κ ι H (σ++[some v]) (Z++[some x]) G/\g x Z G=some (Z',G') /\
 ∀σ' ι' H',SR K κ ι' H' σ' Z' G'->Step ι (own (σ++[some v]) (Z++[some x])++ι) H ι' (own σ' Z'++ι') H'->Q σ' H'
noncomputable def bf(i:Nat):GF:=λx Z G=>some (Z.set i (some x),G)
theorem pC (h:pB K κ (bf i) v σ H Q):jh i v σ H Q:=by
 obtain⟨ι,Z,G,x,Z',G',l,s,eq,k⟩:=h
 cases eq
 exact k _ _ _ (s.store l) ((Step.refl _ _ _).sub λa ha=>uT l ha)
noncomputable def jw:List Nat->List I->De->Option De
 | [],[],Z=>some Z
 | i::is,d::ds,Z=>jw is ds (Z.set i (some (.im d)))
 | _,_,_=>none
noncomputable def cj(is:List Nat):GF:=λx Z G=>match x with
 | .im (.tup ds)=>(jw is ds Z).map λZ'=>(Z',G)
 | _=>none
noncomputable def iQ(is:List Nat):nQ:=is.foldr (λi t=>sJ (jh i) t) sH
theorem pD:∀{is:List Nat} {ds:List I} {vs:List V} {σ:St} {Z Z':De} {Q:St->Hp->Prop},y5a K ι H vs ds->jw is ds Z=some Z'->SR K κ ι H σ Z G ->
  (∀σ',SR K κ ι H σ' Z' G->(∀a,a∈own σ' Z'->a∈own σ Z)->Q σ' H)->iQ is vs σ H Q
 | [],[],_,_,_,_,_,r,e,s,k=>by
  cases r;cases e
  exact⟨rfl,k _ s λ_ h=>h⟩
 | i::is,d::ds,_,σ,Z,Z',Q,.cons r rs,e,s,k=>by
  refine⟨_,_,rfl,?_⟩
  have s1:=(s.push_im r).store (i:=i) s.len
  refine pD rs e s1 λσ' s' sub=>k σ' s' λa ha=>?_
  have h1:=sub a ha
  have:a∈own (σ++[some _]) (Z++[some (.im d)])++[]:=uT s.len (List.mem_append_left _ h1)
  rw [eR s.len,z17] at this
  exact this
 | [],_::_,_,_,_,_,_,_,e,_,_=>by cases e
 | _::_,[],_,_,_,_,_,_,e,_,_=>by cases e
theorem u3:∀{is:List Nat} {ds:List I} {Z Z':De},jw is ds Z=some Z'->ds.length=is.length
 | [],[],_,_,_=>rfl
 | i::is,d::ds,Z,_,e=>by rw [z20,z20,u3 (ds:=ds) e]
 | [],_::_,_,_,e=>by cases e
 | _::_,[],_,_,e=>by cases e
theorem CP (h:pB K κ (cj is) v σ H Q):lO K is.length (iQ is) v σ H Q:=by
 obtain⟨ι,Z,G,x,Z',G',l,s,eq,k⟩:=h
 unfold cj at eq
 split at eq
 ·rename_i ds
  cases q:jw is ds Z with
  | none=>rw [q] at eq;cases eq
  | some Z2 =>
   rw [q] at eq
   cases eq
   have r:=pv (es:=[.v (.im (.tup ds))]) (vs:=[v]) (cT l s.sl).2 (j:=0) rfl rfl
   cases r with
   | im r =>
    obtain⟨_,_,rfl,h1,h2⟩:=iL r
    refine⟨_,_,rfl,bt.of h1,by rw [h2.len];exact u3 q,pD h2 q (s.pop l) λσ' s' sub=>k _ _ _ s' ((Step.refl _ _ _).sub λa ha=>?_)⟩
    rw [eR l]
    simp only [z1a] at ha ⊢
    rcases ha with ha|ha
    ·exact .inl (sub a ha)
    ·exact .inr ha
 ·cases eq
noncomputable def bp(f:Mo Ev)(g:GF):SF:=λZ G=>match jv f Z G with
 | some (.v x,Z1,G1)=>match g x Z1 G1 with
  | some (Z2,G2)=>some (.nx Z2 G2)
  | none=>none
 | _=>none
theorem pE (h:dP K κ (bp f g) D σ H):lP (bc K κ f) (pB K κ g) D σ H:=by
 obtain⟨ι,Z,G,fl,s,eq,k⟩:=h
 unfold bp at eq
 split at eq
 ·rename_i x Z1 G1 e1
  split at eq
  ·rename_i Z2 G2 e2
   cases eq
   refine uV ⟨ι,Z,G,_,Z1,G1,s,e1,λv ι' H' a=>?_⟩
   exact⟨ι',Z1,G1,x,Z2,G2,a.ar.l,a.ar.sr,e2,λσ' ι2 H2 s2 st=>k _ _ _ s2 (a.st.trans st)⟩
  ·cases eq
 ·cases eq
end
end
section
section
noncomputable def hR(c:Mo Bool)(b:SF):Nat->SF
 | 0,_,_=>none
 | n+1,Z,G=>match c Z G with
  | some (true,Z1,G1)=>match b Z1 G1 with
   | some (.nx Z2 G2)=>hR c b n Z2 G2
   | some (.ct Z2 G2)=>hR c b n Z2 G2
   | some (.bk Z2 G2)=>some (.nx Z2 G2)
   | some (.rt x G2)=>some (.rt x G2)
   | none=>none
  | some (false,Z1,G1)=>some (.nx Z1 G1)
  | none=>none
theorem pF  : ∀{n:Nat} {Z:De} {G:List M} {fl:Fl},hR c b n Z G=some fl->hR c b (n+1) Z G=some fl
 | 0,_,_,_,h=>by cases h
 | n+1,Z,G,fl,h=>by
  unfold hR at h ⊢
  cases e:c Z G with
  | none=>rw [e] at h;cases h
  | some r =>
   obtain⟨t,Z1,G1⟩:=r
   rw [e] at h
   cases t with
   | false=>exact h
   | true =>
    cases e2:b Z1 G1 with
    | none=>dsimp only at h;rw [e2] at h;cases h
    | some fl2 =>
     dsimp only at h
     rw [e2] at h
     dsimp only
     rw [e2]
     cases fl2 with
     | nx Z2 G2=>exact pF h
     | ct Z2 G2=>exact pF h
     | bk Z2 G2=>exact h
     | rt x G2=>exact h
theorem u4   (h:hR c b n Z G=some fl)(l:n≤m):hR c b m Z G=some fl:=by
 induction l with
 | refl=>exact h
 | step _ ih=>exact pF ih
open Classical in
noncomputable def iE(c:Mo Bool)(b:SF):SF:=λZ G=>if h:∃n fl,hR c b n Z G=some fl then some (choose (choose_spec h)) else none
theorem pG   (h:hR c b n Z G=some fl):iE c b Z G=some fl:=by
 have ex:∃n fl,hR c b n Z G=some fl:=⟨n,fl,h⟩
 unfold iE
 rw [dif_pos ex]
 have q:=Classical.choose_spec (Classical.choose_spec ex)
 have h1:=u4 h (Nat.le_max_left n (Classical.choose ex))
 have h2:=u4 q (Nat.le_max_right n (Classical.choose ex))
 rw [h1] at h2
 exact h2.symm
theorem pH  (h:iE c b Z G=some fl):∃n,hR c b n Z G=some fl:=by
 unfold iE at h
 split at h
 ·rename_i ex
  have q:=Classical.choose_spec (Classical.choose_spec ex)
  cases h
  exact⟨_,q⟩
 ·cases h
theorem u5  (h1:c Z G=some (true,Z1,G1))(h2:b Z1 G1=some (.nx Z2 G2)):iE c b Z G=iE c b Z2 G2:=by
 cases e:iE c b Z2 G2 with
 | some fl =>
  obtain⟨n,hn⟩:=pH e
  refine pG (n:=n+1) ?_
  unfold hR
  rw [h1];dsimp only;rw [h2];exact hn
 | none =>
  cases e':iE c b Z G with
  | none=>rfl
  | some fl =>
   obtain⟨n,hn⟩:=pH e'
   cases n with
   | zero=>cases hn
   | succ n =>
    unfold hR at hn
    rw [h1] at hn;dsimp only at hn;rw [h2] at hn
    have:=pG hn
    rw [e] at this;cases this
theorem pI  (h1:c Z G=some (false,Z1,G1)):iE c b Z G=some (.nx Z1 G1):=by
 refine pG (n:=1) ?_
 unfold hR
 rw [h1]
theorem CQ (h:dP K κ (iE c b) D σ H):sQ (ez K κ c) (dP K κ b) D σ H:=by
 obtain⟨ι,Z,G,fl,s,eq,k⟩:=h
 obtain⟨n,hn⟩:=pH eq
 refine⟨λm σ' H'=>∃ι' Z' G',SR K κ ι' H' σ' Z' G'/\Step ι (own σ Z++ι) H ι' (own σ' Z'++ι') H'/\hR c b m Z' G'=some fl,⟨n,ι,Z,G,s,Step.refl _ _ _,hn⟩,?_⟩
 rintro m σ' H' ⟨ι',Z',G',s',st,e⟩
 cases m with
 | zero=>cases e
 | succ m =>
  unfold hR at e
  split at e
  ·rename_i Z1 G1 e1
   refine⟨ι',Z',G',true,Z1,G1,s',e1,λι1 H1 s1 st1=>?_⟩
   dsimp only
   rw [if_pos rfl]
   refine⟨λσ2 H2=>∃ι2 Z2 G2,SR K κ ι2 H2 σ2 Z2 G2/\Step ι (own σ Z++ι) H ι2 (own σ2 Z2++ι2) H2/\hR c b m Z2 G2=some fl,λσ2 H2 q=>⟨m,z35 _,q⟩,?_⟩
   split at e
   ·rename_i Z2 G2 e2
    exact⟨ι1,Z1,G1,_,s1,e2,λσ2 ι2 H2 s2 st2=>⟨ι2,Z2,G2,s2,(st.trans st1).trans st2,e⟩⟩
   ·rename_i Z2 G2 e2
    exact⟨ι1,Z1,G1,_,s1,e2,λσ2 ι2 H2 s2 st2=>⟨ι2,Z2,G2,s2,(st.trans st1).trans st2,e⟩⟩
   ·rename_i Z2 G2 e2
    cases e
    exact⟨ι1,Z1,G1,_,s1,e2,λσ2 ι2 H2 s2 st2=>k _ _ _ s2 ((st.trans st1).trans st2)⟩
   ·rename_i x G2 e2
    cases e
    exact⟨ι1,Z1,G1,_,s1,e2,λv ι2 H2 s2 st2=>k _ _ _ s2 ((st.trans st1).trans st2)⟩
   ·cases e
  ·rename_i Z1 G1 e1
   cases e
   refine⟨ι',Z',G',false,Z1,G1,s',e1,λι1 H1 s1 st1=>?_⟩
   dsimp only
   rw [if_neg zf]
   exact k _ _ _ s1 (st.trans st1)
  ·cases e
structure Wk where
 n:Nat
 at_:Nat->De->List M->Option I
 fin:De->List M->Bool
structure Walks(K:W.Frag)(κ:Str->Addr)(J:It)(τ:St)(θ:De)(w:Wk):Prop where
 go:∀{i:Nat} {d:I} {ι:List Addr} {H:Hp} {σ:St} {Z:De} {G:List M},i<w.n->w.at_ i Z G=some d->σ.length=Z.length->SR K κ ι H (σ++τ) (Z++θ) G->J.go i H/\∀x H',J.yld i H x H'->fU H H'/\RpI K ι H' x d
 stop:∀{ι:List Addr} {H:Hp} {σ:St} {Z:De} {G:List M},w.fin Z G=true->σ.length=Z.length->SR K κ ι H (σ++τ) (Z++θ) G->J.stop w.n H
noncomputable def bP(w:Wk)(g:GF)(b:SF):Nat->Nat->SF
 | i,0,Z,G=>if w.fin Z G then some (.nx Z G) else none
 | i,r+1,Z,G=>match w.at_ i Z G with
  | some d=>match g (.im d) Z G with
   | some (Z1,G1)=>match b Z1 G1 with
    | some (.nx Z2 G2)=>bP w g b (i+1) r Z2 G2
    | some (.ct Z2 G2)=>bP w g b (i+1) r Z2 G2
    | some (.bk Z2 G2)=>some (.nx Z2 G2)
    | some (.rt x G2)=>some (.rt x G2)
    | none=>none
   | none=>none
  | none=>none
noncomputable abbrev IF:=De->List M->Option (Wk×List Ev×De×List M)
noncomputable def pJ(K:W.Frag)(κ:Str->Addr)(f:IF):TI:=λσ H R=>∃ι Z G w es Z' G',SR K κ ι H σ Z G/\f Z G=some (w,es,Z',G') /\
 ∀J vs ι' H',After K κ σ ι (own σ Z++ι) H es Z' G' vs ι' H'->Walks K κ J (tS es vs) (tD es) w->R J H'
noncomputable def c9(f:IF)(g:GF)(b:SF):SF:=λZ G=>match f Z G with
 | some (w,_,Z1,G1)=>bP w g b 0 w.n Z1 G1
 | none=>none
theorem CS  (h:dP K κ (c9 f g b) D σ H):sV (pJ K κ f) (pB K κ g) (dP K κ b) D σ H:=by
 obtain⟨ι,Z,G,fl,s,eq,k⟩:=h
 unfold c9 at eq
 split at eq
 ·rename_i w es Z1 G1 e1
  refine⟨ι,Z,G,w,es,Z1,G1,s,e1,λJ vs ι1 H1 a wk=>?_⟩
  refine⟨λi m σ' H'=>i+m=w.n/\∃ι' Z' G',σ'.length=Z'.length/\SR K κ ι' H' (σ'++tS es vs) (Z'++tD es) G'/\Step ι (own σ Z++ι) H ι' (own (σ'++tS es vs) (Z'++tD es)++ι') H'/\bP w g b i m Z' G'=some fl,
   ⟨w.n,by lia,ι1,Z1,G1,a.ar.l,a.ar.sr,a.st,eq⟩,?_⟩
  rintro i m σ' H' ⟨him,ι',Z',G',l,s',st,e⟩
  have sub:∀a,a∈own σ' Z'++ι'->a∈own (σ'++tS es vs) (Z'++tD es)++ι':=λa ha=>c8 l ha
  cases m with
  | zero =>
   have hi:i=w.n:=by lia
   subst hi
   unfold bP at e
   split at e
   ·rename_i hf
    cases e
    exact .inl ⟨wk.stop hf l s',k _ _ _ (s'.pop l) (st.sub sub)⟩
   ·cases e
  | succ m =>
   unfold bP at e
   split at e
   ·rename_i d hd
    obtain⟨go,yl⟩:=wk.go (by lia) hd l s'
    refine .inr ⟨go,λσ2 H2=>∃ι2 Z2 G2,σ2.length=Z2.length/\SR K κ ι2 H2 (σ2++tS es vs) (Z2++tD es) G2/\Step ι (own σ Z++ι) H ι2 (own (σ2++tS es vs) (Z2++tD es)++ι2) H2/\bP w g b (i+1) m Z2 G2=some fl,
     λσ2 H2 q=>⟨m,z35 _,by lia,q⟩,λx H3 hy=>?_⟩
    obtain⟨sm,rx⟩:=yl x H3 hy
    have s3:=s'.same sm
    have st3:=st.trans (Step.same sm)
    split at e
    ·rename_i Z4 G4 e4
     have p:=(s3.pop l).push_im rx
     refine⟨ι',Z',G',.im d,Z4,G4,l,p,e4,λσ4 ι4 H4 s4 st4=>?_⟩
     rw [eR l] at st4
     have jn:∀{σ5:St} {Z5:De} {G5:List M} {ι5:List Addr} {H5:Hp},SR K κ ι5 H5 σ5 Z5 G5->Step ι4 (own σ4 Z4++ι4) H4 ι5 (own σ5 Z5++ι5) H5 ->
       SR K κ ι5 H5 (σ5++tS es vs) (Z5++tD es) G5/\Step ι (own σ Z++ι) H ι5 (own (σ5++tS es vs) (Z5++tD es)++ι5) H5:=λ{σ5 Z5 G5 ι5 H5} s5 st5=>by
      have j:=SR.join s3 l (by rw [z17,z17];exact s5) s5.len (by rw [z17,z17];exact st4.trans st5)
      rw [z17,z17] at j
      exact⟨j.1,st3.trans j.2⟩
     split at e
     ·rename_i Z5 G5 e5
      exact⟨ι4,Z4,G4,_,s4,e5,λσ5 ι5 H5 s5 st5=>⟨ι5,Z5,G5,s5.len,(jn s5 st5).1,(jn s5 st5).2,e⟩⟩
     ·rename_i Z5 G5 e5
      exact⟨ι4,Z4,G4,_,s4,e5,λσ5 ι5 H5 s5 st5=>⟨ι5,Z5,G5,s5.len,(jn s5 st5).1,(jn s5 st5).2,e⟩⟩
     ·rename_i Z5 G5 e5
      cases e
      exact⟨ι4,Z4,G4,_,s4,e5,λσ5 ι5 H5 s5 st5=>k _ _ _ s5 ((jn s5 st5).2.sub λa ha=>c8 s5.len ha)⟩
     ·rename_i x5 G5 e5
      cases e
      refine⟨ι4,Z4,G4,_,s4,e5,λv ι5 H5 s5 st5=>k _ _ _ s5 ((jn s5 st5).2.sub λa ha=>c8 s5.len ha)⟩
     ·cases e
    ·cases e
   ·cases e
 ·cases eq
end
end
section
section
theorem u6(l:σ.length=Z.length)(l2:τ.length=θ.length):bK a (own (τ++σ) (θ++Z))=bK a (own (σ++τ) (Z++θ)):=by
 rw [cq _ _ l,cq _ _ l2]
 simp only [bK,z23]
 lia
theorem SR.swap(h:SR K κ ι H (σ++τ) (Z++θ) G)(l:σ.length=Z.length):SR K κ ι H (τ++σ) (θ++Z) G:=by
 obtain⟨p,q⟩:=cT l h.sl
 exact⟨eE q p,h.gs,λa=>by rw [u6 l (Paired.length q)];exact h.nd a⟩
theorem hU (l:σ.length=Z.length)(l2:τ.length=θ.length)(h:a∈own (τ++σ) (θ++Z)++l1):a∈own (σ++τ) (Z++θ)++l1:=by
 simp only [z1a] at h ⊢
 rcases h with h|h
 ·left;rw [iM] at h ⊢;rw [<- u6 l l2];exact h
 ·exact .inr h
noncomputable abbrev FF:=List Vl->List M->Option (Vl×List M)
noncomputable def aR(K:W.Frag)(κ:Str->Addr)(n:Nat)(fn:FF):Sp:=λvs H Q _=>∃ι xs G x G',xs.length=n/\SR K κ ι H (vs.map some) (xs.map some) G/\fn xs G=some (x,G') /\
 ∀v ι' H',SR K κ ι' H' [some v] [some x] G'->Step ι (own (vs.map some) (xs.map some)++ι) H ι' (own [some v] [some x]++ι') H'->Q v H'
noncomputable def mE:List Ev->Option (List Vl)
 | []=>some []
 | .v x::es=>(mE es).map (x::·)
 | .s _::_=>none
noncomputable def aJ(n:Nat)(fn:FF):List Ev->Mo Ev:=λes Z G=>match mE es with
 | some xs=>if xs.length=n then match fn xs G with
  | some (x,G')=>some (.v x,Z,G')
  | none=>none
  else none
 | none=>none
theorem pK:∀{es:List Ev} {vs:List V} {xs:List Vl},mE es=some xs->es.length=vs.length->tS es vs=vs.map some/\tD es=xs.map some
 | [],[],_,h,_=>by cases h;exact⟨rfl,rfl⟩
 | [],_::_,_,_,l=>by cases l
 | _::_,[],_,_,l=>by cases l
 | .s i::_,_::_,_,h,_=>by cases h
 | .v x::es,v::vs,xs,h,l=>by
  have h:(mE es).map (x::·)=some xs:=h
  cases e:mE es with
  | none=>rw [e] at h;cases h
  | some ys =>
   rw [e] at h;cases h
   obtain⟨p,q⟩:=pK e (by simpa using l)
   exact⟨by show some v::tS es vs=_;rw [p];rfl,by show some x::tD es=_;rw [q];rfl⟩
theorem u7  : aF K κ (λvs H Q=>aR K κ n fn vs H Q E) (aJ n fn):=by
 intro ι H σ Z G es vs e Z' G' Q a h k
 unfold aJ at h
 split at h
 ·rename_i xs hx
  split at h
  ·rename_i hl
   split at h
   ·rename_i x G1 e1
    cases h
    obtain⟨t1,t2⟩:=pK hx a.len
    have sr:=a.sr
    rw [t1,t2] at sr k
    have sw:=sr.swap a.l
    have lt:(vs.map some).length=(xs.map some).length:=Paired.length (cT a.l sr.sl).2
    refine⟨ι,xs,G,x,_,hl,sw.pop lt,e1,λv ι' H' s st=>?_⟩
    have s':SR K κ ι' H' ([some v]++[]) ([some x]++[]) _:=s
    obtain⟨j1,j2⟩:=SR.join sw lt s' rfl st
    rw [z17,z17] at j1 j2
    refine k v ι' H' ⟨⟨a.l,j1.swap rfl,.cons (λ_ h=>by cases h) .nil⟩,(j2.wide λy hy=>hU a.l lt hy).sub λy hy=>?_⟩
    exact hU rfl a.l hy
   ·cases h
  ·cases h
 ·cases h
noncomputable def aY(n r:Nat)(body:SF):FF:=λxs G=>if xs.length=n then match body (xs.map some++List.replicate r none) G with
 | some (.rt x G')=>some (x,G')
 | some (.nx _ G')=>some (.im .non,G')
 | _=>none
 else none
theorem u9:∀(r:Nat),Paired (RpE K κ ι H) (List.replicate r none) (List.replicate r none)
 | 0=>.nil
 | r+1=>.cons (.no _) (u9 r)
theorem va:∀(r:Nat),own (List.replicate r none) (List.replicate r none)=[]
 | 0=>rfl
 | r+1=>va r
theorem SR.nones(h:SR K κ ι H σ Z G)(r:Nat):SR K κ ι H (σ++List.replicate r none) (Z++List.replicate r none) G/\own (σ++List.replicate r none) (Z++List.replicate r none)=own σ Z:=by
 have e:own (σ++List.replicate r none) (Z++List.replicate r none)=own σ Z:=by rw [cq _ _ h.len,va,z17]
 exact⟨⟨eE h.sl (u9 r),h.gs,λa=>by rw [e];exact h.nd a⟩,e⟩
theorem vb  (h:aR K κ n (aY n r body) vs H Q E):vs.length=n/\dP K κ body { nx:=λ_ H'=>Q .non H',rt:=Q } (vs.map some++List.replicate r none) H:=by
 obtain⟨ι,xs,G,x,G',hl,s,eq,k⟩:=h
 have lv:vs.length=n:=by have:=s.len;rw [z14,z14] at this;lia
 refine⟨lv,?_⟩
 unfold aY at eq
 rw [if_pos hl] at eq
 obtain⟨s0,e0⟩:=s.nones r
 split at eq
 ·rename_i x' G1 e1
  cases eq
  refine⟨ι,_,G,_,s0,e1,?_⟩
  rw [e0]
  exact λv ι' H' s' st=>k v ι' H' s' st
 ·rename_i Z1 G1 e1
  cases eq
  refine⟨ι,_,G,_,s0,e1,?_⟩
  rw [e0]
  intro σ' ι' H' s' st
  obtain⟨p,q⟩:=SR.last (s'.push_im .non) s'.len
  refine k _ _ _ p (st.sub λa ha=>?_)
  have:=q a ha
  rw [eR s'.len] at this
  exact this
 ·cases eq
noncomputable def pL(K:W.Frag)(κ:Str->Addr)(r:List V->Hp->(It->Hp->Prop)->Prop)(p:List Ev->De->List M->Option Wk):Prop :=
 ∀(ι:List Addr) (H:Hp) (σ:St) (Z:De) (G:List M) (es:List Ev) (vs:List V) (w:Wk) (R:It->Hp->Prop),Args K κ ι H σ Z G es vs->p es Z G=some w ->
  (∀J,Walks K κ J (tS es vs) (tD es) w->R J H)->r vs H R
noncomputable def bX(fa:Mo (List Ev))(p:List Ev->De->List M->Option Wk):IF:=λZ G=>match fa Z G with
 | some (es,Z1,G1)=>(p es Z1 G1).map λw=>(w,es,Z1,G1)
 | none=>none
theorem jx  (hp:pL K κ r p)(h:pJ K κ (bX fa p) σ H R):iN K κ fa σ H λvs H1=>r vs H1 R:=by
 obtain⟨ι,Z,G,w,es,Z',G',s,eq,k⟩:=h
 unfold bX at eq
 split at eq
 ·rename_i es1 Z1 G1 e1
  cases q:p es1 Z1 G1 with
  | none=>rw [q] at eq;cases eq
  | some w' =>
   rw [q] at eq
   cases eq
   exact⟨ι,Z,G,_,_,_,s,e1,λvs ι1 H1 a=>hp _ _ _ _ _ _ _ _ _ a.ar q λJ wk=>k J vs ι1 H1 a wk⟩
 ·cases eq
noncomputable def one(f:Mo Ev):Mo (List Ev):=bd f λe=>rt [e]
theorem mF (h:iN K κ (one f) σ H λvs H1=>∃v,vs=[v]/\Q v H1):bc K κ f σ H Q:=by
 obtain⟨ι,Z,G,es,Z',G',s,eq,k⟩:=h
 obtain⟨x,Z1,G1,e1,eq⟩:=cD eq
 cases eq
 refine⟨ι,Z,G,x,_,_,s,e1,λv ι1 H1 a=>?_⟩
 obtain⟨v',e',q⟩:=k _ _ _ a
 cases e'
 exact q
noncomputable def fZ:List Ev->De->List M->Option Wk:=λes _ _=>match es with
 | [.v (.im (.int j))]=>if j<2 ^ 62/\-(2 ^ 62)≤j then some ⟨j.toNat,λi _ _=>some (.int i),λ_ _=>true⟩ else none
 | _=>none
theorem CT   : Walks K κ (sR lo n) τ θ ⟨n,λi _ _=>some (.int (lo+i)),λ_ _=>true⟩ where
 go:=λhi hd _ _=>by
  cases hd
  refine⟨hi,λx H' y=>?_⟩
  obtain⟨e1,e2⟩:=y
  subst e1;subst e2
  exact⟨(λ_ _ h=>h),.int _⟩
 stop:=λ_ _ _=>z13 _
theorem CU:pL K κ (λvs H R=>∃j:Int,vs=[.int j]/\-(2 ^ 62)≤j/\j<2 ^ 62/\R (sR 0 j.toNat) H) fZ:=by
 intro ι H σ Z G es vs w R a h k
 unfold fZ at h
 split at h
 ·rename_i j
  split at h
  ·rename_i hj
   cases h
   obtain⟨v,rfl⟩:=b5 a.len
   have r:=a.im (j:=0) rfl rfl
   cases dO (r)
   refine⟨j,rfl,hj.2,hj.1,k _ ?_⟩
   have:=CT (K:=K) (κ:=κ) (lo:=0) (n:=j.toNat) (τ:=tS [.v (.im (.int j))] [.int j]) (θ:=tD [.v (.im (.int j))])
   simpa using this
  ·cases h
 ·cases h
noncomputable def b9(e:Ev)(n:Nat):Wk:=⟨n,λi Z G=>(sq Z G e).bind (·[i]?),λZ G=>match sq Z G e with|some xs=>decide (xs.length≤n)|none=>false⟩
noncomputable def ke(Z:De)(G:List M):Ev->Bool
 | .v (.im (.fro _))=>true
 | .v (.im (.ref _))=>true
 | .v (.ow (.lst _))=>true
 | _=>false
noncomputable def pM:List Ev->De->List M->Option Wk:=λes Z G=>match es with
 | [e]=>if ke Z G e then (sq Z G e).map λxs=>b9 e xs.length else none
 | _=>none
noncomputable def zh:List Ev->De->List M->Option Wk:=λes Z G=>match es with
 | [.v (.im (.tup xs))]=>some (b9 (.v (.im (.tup xs))) xs.length)
 | [.v (.im (.con xs))]=>some (b9 (.v (.im (.con xs))) xs.length)
 | _=>none
theorem rF (he:e=.v x)(l:σ.length=Z.length)(h:SR K κ ι H (σ++tS [e] [v]) (Z++tD [e]) G):Args K κ ι H σ Z G [e] [v]:=⟨l,h,.cons (λi q=>by rw [he] at q;cases q) .nil⟩
theorem jy (a:Args K κ ι H σ Z G [e] [v])(hl:ke Z G e=true)(h:sq Z G e=some xs):∃b ys,v=.ref b/\bB K H b ys/\y5a K ι H ys xs:=by
 cases e with
 | s i=>cases hl
 | v x =>
  cases x with
  | ow m =>
   cases m with
   | lst ys =>
    cases h
    obtain⟨b,e1,zs,h3,r⟩:=a.pk (j:=0) rfl rfl rfl
    exact⟨b,zs,e1,bB.of h3,r⟩
   | _=>cases hl
  | im d =>
   cases d with
   | fro ys =>
    cases h
    have r:=a.im (j:=0) rfl rfl
    obtain⟨_,_,rfl,q,r9⟩:=uO r
    exact⟨_,_,rfl,q.sq,r9⟩
   | ref k =>
    have h:(match pk Z G (.v (.im (.ref k))) with|some (.lst xs)=>some xs|_=>none)=some xs:=h
    split at h
    ·rename_i ys e1
     cases h
     obtain⟨b,e1,zs,h3,r⟩:=a.pk (j:=0) rfl rfl e1
     exact⟨b,zs,e1,bB.of h3,r⟩
    ·cases h
   | _=>cases hl
theorem mG(h:ke Z G e=true):∃x,e=.v x:=by
 cases e with
 | v x=>exact⟨x,rfl⟩
 | s i=>cases h
theorem mH(h:ke Z G e=true):ke Z1 G1 e=true:=by
 cases e with
 | s i=>cases h
 | v x =>
  cases x with
  | ow m=>cases m<;>first|rfl|cases h
  | im d=>cases d<;>first|rfl|cases h
theorem CV (hl:ke Z G e=true):Walks K κ (yS K b) (tS [e] [.ref b]) (tD [e]) (b9 e n) where
 go:=λ{i d ι H σ Z' G'} hi hd l s=>by
  obtain⟨x,hx⟩:=mG hl
  have hd:(sq Z' G' e).bind (·[i]?)=some d:=hd
  cases q:sq Z' G' e with
  | none=>rw [q] at hd;cases hd
  | some xs =>
   rw [q] at hd
   obtain⟨b',ys,e1,h1,r⟩:=jy (rF hx l s) (mH hl) q
   cases e1
   obtain⟨v,hv,rv⟩:=r.get hd
   refine⟨⟨ys,v,h1,hv⟩,λx H' y=>?_⟩
   obtain⟨e2,e3⟩:=y
   subst e2
   have:=e3 ys h1
   rw [hv] at this;cases this
   exact⟨(λ_ _ h=>h),rv⟩
 stop:=λ{ι H σ Z' G'} hf l s=>by
  obtain⟨x,hx⟩:=mG hl
  have hf:(match sq Z' G' e with|some xs=>decide (xs.length≤n)|none=>false)=true:=hf
  cases q:sq Z' G' e with
  | none=>rw [q] at hf;cases hf
  | some xs =>
   rw [q] at hf
   obtain⟨b',ys,e1,h1,r⟩:=jy (rF hx l s) (mH hl) q
   cases e1
   exact⟨ys,h1,by rw [r.len];exact of_decide_eq_true hf⟩
theorem CW:pL K κ (λvs H R=>∃v,vs=[v]/\∃a,v=.ref a/\(∃xs,bB K H a xs)/\R (yS K a) H) pM:=by
 intro ι H σ Z G es vs w R a h k
 unfold pM at h
 split at h
 ·rename_i e
  split at h
  ·rename_i hl
   cases q:sq Z G e with
   | none=>rw [q] at h;cases h
   | some xs =>
    rw [q] at h
    cases h
    obtain⟨v,rfl⟩:=b5 a.len
    obtain⟨b,ys,e1,h1,r⟩:=jy a hl q
    subst e1
    exact⟨_,rfl,b,rfl,⟨ys,h1⟩,k _ (CV hl)⟩
  ·cases h
 ·cases h
theorem CY:pL K κ (λvs H R=>∃v,vs=[v]/\∃a,v=.ref a/\(∃xs,bt K H a xs)/\R (yT K a) H) zh:=by
 intro ι H σ Z G es vs w R a h k
 unfold zh at h
 have go:∀{x:I} {xs:List I},(x=.tup xs∨x=.con xs)->Args K κ ι H σ Z G [.v (.im x)] vs->sq Z G (.v (.im x))=some xs->(∀J,Walks K κ J (tS [.v (.im x)] vs) (tD [.v (.im x)]) (b9 (.v (.im x)) xs.length)->R J H) ->
   ∃v,vs=[v]/\∃a,v=.ref a/\(∃xs,bt K H a xs)/\R (yT K a) H:=λ{x xs} hx a hq k=>by
  have tv:∀{ι:List Addr} {H:Hp} {v:V},RpI K ι H v x->∃b ys,v=.ref b/\bt K H b ys/\y5a K ι H ys xs:=λr=>by
   rcases hx with rfl|rfl
   ·obtain⟨_,_,rfl,h,r9⟩:=iL r
    exact⟨_,_,rfl,bt.of h,r9⟩
   ·obtain⟨_,_,rfl,h,r9⟩:=oY r
    exact⟨_,_,rfl,bt.kon h,r9⟩
  have sx:∀(Z:De) (G:List M),sq Z G (.v (.im x))=some xs:=λZ G=>by rcases hx with rfl|rfl<;>rfl
  obtain⟨v,rfl⟩:=b5 a.len
  obtain⟨b,ys,e1,h1,r⟩:=tv (a.im (j:=0) rfl rfl)
  subst e1
  refine⟨_,rfl,b,rfl,⟨ys,h1⟩,k _ ⟨λ{i d ι' H' σ' Z' G'} hi hd l s=>?_,λ{ι' H' σ' Z' G'} hf l s=>?_⟩⟩
  ·obtain⟨b',zs,e2,h2,r2⟩:=tv ((rF rfl l s).im (j:=0) rfl rfl)
   cases e2
   have hd:(sq Z' G' (.v (.im x))).bind (·[i]?)=some d:=hd
   rw [sx] at hd
   have hd:xs[i]?=some d:=hd
   obtain⟨v,hv,rv⟩:=r2.get hd
   refine⟨⟨zs,v,h2,hv⟩,λx H' y=>?_⟩
   obtain⟨e2,e3⟩:=y
   subst e2
   have:=e3 zs h2
   rw [hv] at this;cases this
   exact⟨(λ_ _ h=>h),rv⟩
  ·obtain⟨b',zs,e2,h2,r2⟩:=tv ((rF rfl l s).im (j:=0) rfl rfl)
   cases e2
   exact⟨zs,h2,by rw [r2.len];exact z13 _⟩
 split at h
 ·cases h
  exact go (.inl rfl) a rfl k
 ·cases h
  exact go (.inr rfl) a rfl k
 ·cases h
end
end
section
section
noncomputable def rG:List Nat->Mo Unit
 | []=>rt ()
 | i::is=>λZ G=>match Z[i]? with
  | some (some (.ow m))=>rG is (Z.set i (some (.im (.ref G.length)))) (G++[m])
  | _=>rG is Z G
theorem CZ:∀{ix:List Nat} {Z Z':De} {G G':List M} {ι:List Addr} {u:Unit},rG ix Z G=some (u,Z',G')->SR K κ ι H σ Z G->∃ι',SR K κ ι' H σ Z' G'/\Step ι (own σ Z++ι) H ι' (own σ Z'++ι') H
 | [],_,_,_,_,ι,_,h,s=>by cases h;exact⟨ι,s,Step.refl _ _ _⟩
 | i::is,Z,Z',G,G',ι,u,h,s=>by
  unfold rG at h
  split at h
  ·rename_i m hm
   obtain⟨a,e1,r⟩:=s.y195 hm
   have n:=After.nil s
   have a1:After K κ σ ι (own σ Z++ι) H [.s i] Z G [.ref a] ι H:=⟨⟨s.len,n.ar.sr,.cons (λj h=>by cases h;exact e1) .nil⟩,n.st⟩
   have hb:pA (.s i) Z G=some (.v (.im (.ref G.length)),Z.set i (some (.im (.ref G.length))),G++[m]):=by unfold pA;dsimp only;rw [hm]
   obtain⟨ι2,a2⟩:=y6d a1 hb
   obtain⟨s2,st2⟩:=a2.drop
   obtain⟨ι3,s3,st3⟩:=CZ h s2
   exact⟨ι3,s3,st2.trans st3⟩
  ·exact CZ h s
noncomputable def mI(Z:De)(i:Nat):Option Vl:=match Z[i]? with
 | some (some (.im d))=>some (.im d)
 | _=>none
noncomputable def kA(ix:List Nat)(Z:De):De:=ix.map (mI Z)
noncomputable def inV(ix:List Nat)(σ:St):St:=ix.map λi=>(σ[i]?).getD none
theorem nY(h:SR K κ ι H σ Z G):∀(ix:List Nat),Paired (RpE K κ ι H) (inV ix σ) (kA ix Z)/\own (inV ix σ) (kA ix Z)=[]
 | []=>⟨.nil,rfl⟩
 | i::ix=>by
  obtain⟨p,q⟩:=nY h ix
  have one:RpE K κ ι H ((σ[i]?).getD none) (mI Z i)/\bO ((σ[i]?).getD none) (mI Z i)=[]:=by
   unfold mI
   split
   ·rename_i d hd
    obtain⟨v,e,r⟩:=h.y193 hd
    rw [e]
    exact⟨.im r,gF _ _⟩
   ·exact⟨.no _,kx _⟩
  refine⟨.cons one.1 p,?_⟩
  show bO _ _++own (inV ix σ) (kA ix Z)=[]
  rw [one.2,q];rfl
theorem vc:∀{xs:List V} {ds:List I},y5a K ι H xs ds->Paired (RpE K κ ι H) (xs.map some) (ds.map λd=>some (Vl.im d))/\own (xs.map some) (ds.map λd=>some (Vl.im d))=[]
 | _,_,.nil=>⟨.nil,rfl⟩
 | _,_,.cons r rs=>by
  obtain⟨p,q⟩:=vc rs
  refine⟨.cons (.im r) p,?_⟩
  show bO _ _++own _ _=[]
  rw [gF,q];rfl
noncomputable def fD(w:Wk)(c:I->Option (List I))(tt:Mo Bool)(te:Mo Ev)(di:De):Nat->Nat->List I->De->List M->Option (List I×List M)
 | i,0,acc,Z,G=>if w.fin Z G then some (acc,G) else none
 | i,r+1,acc,Z,G=>match w.at_ i Z G with
  | some d=>match c d with
   | some ds=>match tt ((ds.map λd=>some (Vl.im d))++di) G with
    | some (true,Za,Ga)=>match te Za Ga with
     | some (.v (.im y),_,Gb)=>fD w c tt te di (i+1) r (acc++[y]) Z Gb
     | _=>none
    | some (false,_,Ga)=>fD w c tt te di (i+1) r acc Z Ga
    | none=>none
   | none=>none
  | none=>none
noncomputable def C0(K:W.Frag)(g:TG)(n:Nat)(c:I->Option (List I)):Prop:=∀(ι:List Addr) (H:Hp) (x:V) (d:I) (ds:List I) (σ':St) (Q:St->Hp->Prop),RpI K ι H x d->c d=some ds ->
 ds.length=n/\((∀xs,y5a K ι H xs ds->Q (xs.map some++σ') H)->g x (List.replicate n none++σ') H Q)
noncomputable def c1:I->Option (List I):=λd=>some [d]
noncomputable def cN(n:Nat):I->Option (List I):=λd=>match d with
 | .tup ds=>if ds.length=n then some ds else none
 | _=>none
theorem vd:C0 K (jh 0) 1 c1:=by
 intro ι H x d ds σ' Q r h
 cases h
 exact⟨rfl,λk=>k [x] (.cons r .nil)⟩
theorem ve:∀(vs:List V) (pre:St) (σ':St) (Q:St->Hp->Prop),Q (pre++(vs.map some++σ')) H->iQ ((List.range vs.length).map (pre.length + ·)) vs (pre++(List.replicate vs.length none++σ')) H Q
 | [],pre,σ',Q,h=>⟨rfl,h⟩
 | v::vs,pre,σ',Q,h=>by
  have e:(List.range (v::vs).length).map (pre.length + ·)=pre.length::(List.range vs.length).map ((pre++[some v]).length + ·):=by
   rw [z20,List.range_succ_eq_map,z19,z2f]
   congr 1
   refine List.map_congr_left λj _=>?_
   simp
   lia
  rw [e]
  refine⟨v,vs,rfl,?_⟩
  show iQ _ vs ((pre++(List.replicate (vs.length+1) none++σ')).set pre.length (some v)) H Q
  have e2:(pre++(List.replicate (vs.length+1) none++σ')).set pre.length (some v)=(pre++[some v])++(List.replicate vs.length none++σ'):=by
   rw [List.set_append_right _ _ (z13 _),Nat.sub_self,List.replicate_succ]
   simp
  rw [e2]
  refine ve vs (pre++[some v]) σ' Q ?_
  have e3:pre++[some v]++(vs.map some++σ')=pre++((v::vs).map some++σ'):=by simp
  rw [e3]
  exact h
theorem vf(n:Nat):C0 K (lO K n (iQ (List.range n))) n (cN n):=by
 intro ι H x d ds σ' Q r h
 unfold cN at h
 split at h
 ·rename_i xs
  split at h
  ·rename_i hl
   cases h
   refine⟨hl,λk=>?_⟩
   cases r with
   | @tup a ys _ h1 r =>
    have e:=r.len
    refine⟨a,ys,rfl,bt.of h1,by lia,?_⟩
    have q:=ve (H:=H) ys [] σ' Q (k ys r)
    have e1:(List.range ys.length).map (([]:St).length + ·)=List.range n:=by
     rw [e,hl];simp
    rw [e1] at q
    have e2:n=ys.length:=by lia
    rw [e2]
    rw [<- e2] at q ⊢
    exact q
  ·cases h
 ·cases h
noncomputable def da(fi:IF)(ix:List Nat)(c:I->Option (List I))(tt:Mo Bool)(te:Mo Ev):Mo Ev:=λZ G=>match rG ix Z G with
 | some (_,Z0,G0)=>match fi Z0 G0 with
  | some (w,_,Z1,G1)=>if w.n≤100000 then match fD w c tt te (kA ix Z1) 0 w.n [] Z1 G1 with
   | some (ds,G2)=>some (.v (.ow (.lst ds)),Z1,G2)
   | none=>none
   else none
  | none=>none
 | none=>none
theorem C3:100000<sizeLine:=by decide
theorem pN    (hg:∀z,C0 K (g z) n c)(h:bc K κ (da fi ix c tt te) σ H Q) :
  oV n ix (pJ K κ fi) g (λ_=>ez K κ tt) (λ_=>bc K κ te) σ H Q:=by
 obtain⟨ι,Z,G,e,Z',G',s,eq,k⟩:=h
 unfold da at eq
 split at eq
 ·rename_i u Z0 G0 e0
  split at eq
  ·rename_i w es Z1 G1 e1
   split at eq
   ·rename_i hn
    split at eq
    ·rename_i ds G2 e2
     obtain⟨ι0,s0,st0⟩:=CZ e0 s
     refine⟨ι0,Z0,G0,w,es,Z1,G1,s0,e1,λJ vs ι1 H1 a wk=>?_⟩
     intro D hD
     have lo:(σ++tS es vs).length=(Z1++tD es).length:=by
      have:=a.ar.sr.len;exact this
     refine⟨λi m ys H'=>i+m=w.n/\H' D=some (.lst ys)/\∃ι' G' acc,SR K κ ι' H' ((σ++tS es vs)++[some (.ref D)]) ((Z1++tD es)++[some (.ow (.lst acc))]) G' /\
      Step ι (own σ Z++ι) H ι' (own ((σ++tS es vs)++[some (.ref D)]) ((Z1++tD es)++[some (.ow (.lst acc))])++ι') H'/\acc.length≤i/\acc.length=ys.length/\fD w c tt te (kA ix Z1) i m acc Z1 G'=some (ds,G2),⟨w.n,by lia,b4,ι1,G1,[],?_,?_,z13 _,rfl,e2⟩,?_⟩
     ·exact a.ar.sr.y3c6 hD ⟨[],b4,.nil⟩
     ·exact (st0.trans a.st).trans (Step.y23a lo hD)
     ·rintro i m ys H' ⟨him,hys,ι',G',acc,s',st,hac,hay,et⟩
      refine⟨hys,?_⟩
      have sb:=s'.pop lo
      cases m with
      | zero =>
       unfold fD at et
       split at et
       ·rename_i hf
        cases et
        have hi:i=w.n:=by lia
        subst hi
        refine .inl ⟨wk.stop hf a.ar.l sb,?_⟩
        have l1:=a.ar.l
        obtain⟨pa,pc⟩:=cT lo s'.sl
        obtain⟨pa,pb⟩:=cT l1 pa
        have lt:=Paired.length pb
        have e3:own ((σ++tS es vs)++[some (.ref D)]) ((Z1++tD es)++[some (.ow (.lst ds))])=own σ Z1++own (tS es vs) (tD es)++[D]:=by rw [gG lo,cq _ _ l1]
        have e4:own (σ++[some (.ref D)]) (Z1++[some (.ow (.lst ds))])=own σ Z1++[D]:=gG l1
        refine k _ ι' H' (b8 eq ⟨⟨l1,⟨eE pa pc,s'.gs,λx=>?_⟩,.cons (λ_ h=>by cases h) .nil⟩,st.sub λx hx=>?_⟩)
        ·have n':=s'.nd x
         rw [e3] at n'
         show bK x (own (σ++[some (.ref D)]) (Z1++[some (.ow (.lst ds))]))+bK x ι'≤1
         rw [e4]
         simp only [bK,z23] at n' ⊢
         lia
        ·have hx:x∈own (σ++[some (.ref D)]) (Z1++[some (.ow (.lst ds))])++ι':=hx
         rw [e4] at hx
         rw [e3]
         simp only [z1a] at hx ⊢
         rcases hx with (hx|hx)|hx
         ·exact .inl (.inl (.inl hx))
         ·exact .inl (.inr hx)
         ·exact .inr hx
       ·cases et
      | succ m =>
       unfold fD at et
       split at et
       ·rename_i d hd
        obtain⟨go,yl⟩:=wk.go (by lia) hd a.ar.l sb
        refine .inr ⟨go,by have:=C3;lia,λys' H5=>i+1+m=w.n/\H5 D=some (.lst ys')/\∃ι5 G5 y69,SR K κ ι5 H5 ((σ++tS es vs)++[some (.ref D)]) ((Z1++tD es)++[some (.ow (.lst y69))]) G5 /\
         Step ι (own σ Z++ι) H ι5 (own ((σ++tS es vs)++[some (.ref D)]) ((Z1++tD es)++[some (.ow (.lst y69))])++ι5) H5/\y69.length≤i+1/\y69.length=ys'.length/\fD w c tt te (kA ix Z1) (i+1) m y69 Z1 G5=some (ds,G2),λys' H5 q=>⟨m,z35 _,q⟩,λx H3 hy z=>?_⟩
        obtain⟨sm,rx⟩:=yl x H3 hy
        split at et
        ·rename_i dd hc
         obtain⟨hl,tg⟩:=hg z ι' H3 x d dd (inV ix σ) _ rx hc
         refine tg λxs rs=>?_
         have s3:=s'.same sm
         have st3:=st.trans (Step.same (ι:=ι') (fp:=own ((σ++tS es vs)++[some (.ref D)]) ((Z1++tD es)++[some (.ow (.lst acc))])++ι') sm)
         obtain⟨p1,o1⟩:=vc (κ:=κ) rs
         obtain⟨p2,o2⟩:=nY ((s3.pop lo).pop a.ar.l) ix
         have lx:=Paired.length p1
         have oin:own (xs.map some++inV ix σ) (dd.map (λd=>some (Vl.im d))++kA ix Z1)=[]:=by rw [cq _ _ lx,o1,o2];rfl
         have sin:SR K κ ι' H3 (xs.map some++inV ix σ) (dd.map (λd=>some (Vl.im d))++kA ix Z1) G':=⟨eE p1 p2,s3.gs,λy=>by
          rw [oin];have:=s3.nd y;simp only [bK,List.count_nil] at *;lia⟩
         have lin:=sin.len
         have both:SR K κ ι' H3 ((xs.map some++inV ix σ)++((σ++tS es vs)++[some (.ref D)])) ((dd.map (λd=>some (Vl.im d))++kA ix Z1)++((Z1++tD es)++[some (.ow (.lst acc))])) G':=⟨eE sin.sl s3.sl,s3.gs,λy=>by
          rw [cq _ _ lin,oin];have:=s3.nd y;simpa using this⟩
         have kn:y4f n ix σ (xs.map some++inV ix σ):=by
          have lxs:xs.length=n:=by rw [z14,z14] at lx;lia
          refine⟨by rw [z18,z14];unfold inV;rw [z14,lxs],λj v hj=>?_⟩
          unfold eC at hj
          by_cases hjn:j<n
          ·rw [z2a (by simpa using hjn),List.getElem?_replicate,if_pos hjn] at hj
           cases hj
          ·rw [z28 (by simp;lia)] at hj
           rw [z28 (by simp;lia)]
           simp only [List.length_replicate,z14,lxs] at hj ⊢
           exact hj
         refine⟨kn,?_⟩
         have jn:∀{σ5:St} {Z5:De} {θ5:De} {τ5:St} {G5:List M} {ι5:List Addr} {H5:Hp},σ5.length=Z5.length->SR K κ ι5 H5 (σ5++τ5) (Z5++θ5) G5->Step ι' (own (xs.map some++inV ix σ) (dd.map (λd=>some (Vl.im d))++kA ix Z1)++ι') H3 ι5 (own (σ5++τ5) (Z5++θ5)++ι5) H5 ->
           SR K κ ι5 H5 (((σ++tS es vs)++[some (.ref D)])++τ5) (((Z1++tD es)++[some (.ow (.lst acc))])++θ5) G5/\Step ι (own σ Z++ι) H ι5 (own (((σ++tS es vs)++[some (.ref D)])++τ5) (((Z1++tD es)++[some (.ow (.lst acc))])++θ5)++ι5) H5/\H5 D=some (.lst ys):=λ{σ5 Z5 θ5 τ5 G5 ι5 H5} l5 s5 st5=>by
          obtain⟨j1,j2⟩:=SR.join both lin s5 l5 st5
          have lT:((σ++tS es vs)++[some (V.ref D)]).length=((Z1++tD es)++[some (Vl.ow (.lst acc))]).length:=s3.len
          have lj:(((σ++tS es vs)++[some (V.ref D)])++τ5).length=(((Z1++tD es)++[some (Vl.ow (.lst acc))])++θ5).length:=by
           have:=j1.len;rw [z18,z18 (as:=Z5)] at this;lia
          refine⟨(j1.swap l5).pop lj,?_,?_⟩
          ·refine (st3.trans (j2.wide λy hy=>?_)).sub λy hy=>?_
           ·rw [cq _ _ lin,oin] at hy;exact hy
           ·exact hU (σ:=σ5) (Z:=Z5) l5 lj (c8 lj hy)
          ·have q:=sm _ _ hys
           refine st5.keep D _ q λhm=>?_
           rw [oin] at hm
           have n':=s3.nd D
           rw [gG lo] at n'
           have:=iM.mp (show D∈ι' from hm)
           have c1:List.count D [D]=1:=by simp
           simp only [bK,z23] at *
           lia
         split at et
         ·rename_i Za Ga ea
          refine⟨ι',_,G',true,Za,Ga,sin,ea,λι4 H4 s4 st4=>?_⟩
          dsimp only
          rw [if_pos rfl]
          split at et
          ·rename_i y Zb Gb eb
           refine⟨ι4,Za,Ga,_,Zb,Gb,s4,eb,λyv ι5 H5 a5=>?_⟩
           obtain⟨j1,j2,j3⟩:=jn a5.ar.l a5.ar.sr (st4.trans a5.st)
           refine⟨j3,by lia,b4,ι5,Gb,acc++[y],?_⟩
           have ry:RpI K ι5 H5 yv y:=a5.ar.im (j:=0) rfl rfl
           have lT:((σ++tS es vs)++[some (V.ref D)]).length=((Z1++tD es)++[some (Vl.ow (.lst acc))]).length:=s3.len
           have s6:=j1.pop lT
           have i1:((σ++tS es vs)++[some (V.ref D)])[(σ++tS es vs).length]?=some (some (.ref D)):=by rw [z28 (z13 _),Nat.sub_self];rfl
           have i2:((Z1++tD es)++[some (Vl.ow (.lst acc))])[(σ++tS es vs).length]?=some (some (.ow (.lst acc))):=by rw [lo,z28 (z13 _),Nat.sub_self];rfl
           obtain⟨q1,q2⟩:=s6.poke i1 i2 (m':=.lst (acc++[y])) (o:=.lst (ys++[yv])) (λρ kp=>by
            obtain⟨zs,h1,h2⟩:=ρ
            rw [j3] at h1;cases h1
            exact⟨_,b4,(h2.app (.cons ry .nil)).mono (cC.refl _) kp⟩)
           have e5:((Z1++tD es)++[some (Vl.ow (.lst acc))]).set (σ++tS es vs).length (some (.ow (.lst (acc++[y]))))=(Z1++tD es)++[some (.ow (.lst (acc++[y])))]:=by rw [lo,List.set_append_right _ _ (z13 _),Nat.sub_self];rfl
           rw [e5] at q1 q2
           refine⟨q1,(j2.sub λw hw=>c8 lT hw).trans q2,by rw [z18];simp;lia,by rw [z18,z18];simp;lia,et⟩
          ·cases et
         ·rename_i Za Ga ea
          refine⟨ι',_,G',false,Za,Ga,sin,ea,λι4 H4 s4 st4=>?_⟩
          dsimp only
          rw [if_neg zf]
          have s4':SR K κ ι4 H4 ((xs.map some++inV ix σ)++[]) (Za++[]) Ga:=by rw [z17,z17];exact s4
          obtain⟨j1,j2,j3⟩:=jn (τ5:=[]) (θ5:=[]) s4.len s4' (by rw [z17,z17];exact st4)
          rw [z17,z17] at j1 j2
          exact⟨by lia,j3,ι4,Ga,acc,j1,j2,by lia,hay,et⟩
         ·cases et
        ·cases et
       ·cases et
    ·cases eq
   ·cases eq
  ·cases eq
 ·cases eq
end
end
section
section
variable {κ:Str->Addr}
theorem vg{κ':Type}[BEq κ']{f:κ'}:∀{ws:List (κ'×V)} {fs:List (κ'×I)} {d:I},ws.map (·.1)=fs.map (·.1)->y5a K ι H (ws.map (·.2)) (fs.map (·.2))->fs.lookup f=some d->∃v,ws.lookup f=some v/\RpI K ι H v d
 | [],[],_,_,_,h=>by cases h
 | [],_::_,_,e,_,_=>by cases e
 | _::_,[],_,e,_,_=>by cases e
 | (g,v)::ws,(g',d0)::fs,d,e,r,h=>by
  simp only [z19,List.cons.injEq] at e
  obtain⟨e1,e2⟩:=e
  subst e1
  cases r with
  | cons r rs =>
   rw [List.lookup_cons] at h ⊢
   cases q:(f == g) with
   | true=>rw [q] at h;cases h;exact⟨v,rfl,r⟩
   | false=>rw [q] at h;exact vg e2 rs h
theorem vh{κ':Type}[BEq κ']{f:κ'}:∀{ws:List (κ'×V)} {fs:List (κ'×I)},ws.map (·.1)=fs.map (·.1)->fs.lookup f=none->ws.lookup f=none
 | [],[],_,_=>rfl
 | [],_::_,e,_=>by cases e
 | _::_,[],e,_=>by cases e
 | (g,v)::ws,(g',d0)::fs,e,h=>by
  simp only [z19,List.cons.injEq] at e
  obtain⟨e1,e2⟩:=e
  subst e1
  rw [List.lookup_cons] at h ⊢
  cases q:(f == g) with
  | true=>rw [q] at h;cases h
  | false=>rw [q] at h;exact vh e2 h
noncomputable def gc(f:Str)(d:I):List (Str×I)->List (Str×I)
 | []=>[(f,d)]
 | (g,x)::r=>if g=f then (g,d)::r else (g,x)::gc f d r
theorem vi (rv:RpI K ι H v d):∀{ws:List (Str×V)} {fs:List (Str×I)},ws.map (·.1)=fs.map (·.1)->y5a K ι H (ws.map (·.2)) (fs.map (·.2)) ->
  (cR f v ws).map (·.1)=(gc f d fs).map (·.1)/\y5a K ι H ((cR f v ws).map (·.2)) ((gc f d fs).map (·.2))
 | [],[],_,_=>⟨rfl,.cons rv .nil⟩
 | [],_::_,e,_=>by cases e
 | _::_,[],e,_=>by cases e
 | (g,u)::ws,(g',d0)::fs,e,r=>by
  simp only [z19,List.cons.injEq] at e
  obtain⟨e1,e2⟩:=e
  subst e1
  cases r with
  | cons r rs =>
   unfold cR gc
   by_cases q:g=f
   ·rw [if_pos q,if_pos q]
    exact⟨by simp [e2],.cons rv rs⟩
   ·rw [if_neg q,if_neg q]
    obtain⟨p1,p2⟩:=vi rv e2 rs
    exact⟨by simp [p1],.cons r p2⟩
noncomputable def bM(c f:Str):List Ev->Mo Ev:=λes Z G=>match es with
 | [.v (.im (.ref k))]=>match G[k]? with
  | some (.obj c' fs)=>if c'=c then match fs.lookup f with
   | some d=>some (.v (.im d),Z,G)
   | none=>none
   else none
  | _=>none
 | _=>none
theorem C4(hc:Cls K (κ c))(hn:iC K (κ c) f):aF K κ (r1 λx H1 Q=>∃a C dx fs v,x=.ref a/\H1 a=some (.ins C dx fs)/\Cls K C/\iC K C f/\fs.lookup f=some v/\Q v H1) (bM c f):=by
 intro ι H σ Z G es vs e Z' G' Q a h k
 unfold bM at h
 split at h
 ·rename_i n
  split at h
  ·rename_i c' fs hg
   split at h
   ·rename_i ec
    subst ec
    split at h
    ·rename_i d hd
     obtain⟨v,rfl⟩:=b5 a.len
     have r:=a.im (j:=0) rfl rfl
     cases r with
     | @ref b _ e1 =>
      obtain⟨b',e2,dx,ws,h1,h2,h3⟩:=a.base.y192 hg
      rw [e1] at e2;cases e2
      obtain⟨v,hv,rv⟩:=vg h2 h3 hd
      exact⟨_,rfl,b,_,dx,ws,v,rfl,h1,hc,hn,hv,k _ _ _ (b8 h (a6 a rv))⟩
    ·cases h
   ·cases h
  ·cases h
 ·cases h
theorem C5 (hc:Cls K (κ c))(hn:iC K (κ c) f)(h:bc K κ (a7 (bM c f) fo) σ H Q):tJ K (bc K κ fo) f σ H Q:=gH (C4 hc hn) h
noncomputable def dA(c f:Str)(fo fv:Mo Ev):SF:=λZ G=>match fv Z G with
 | some (.v (.im d),Z1,G1)=>match fo Z1 G1 with
  | some (.v (.im (.ref k)),Z2,G2)=>match G2[k]? with
   | some (.obj c' fs)=>if c'=c/\fs.length<1000 then some (.nx Z2 (G2.set k (.obj c (gc f d fs)))) else none
   | _=>none
  | _=>none
 | _=>none
theorem C6 (hc:Cls K (κ c))(hn:iC K (κ c) f)(h:dP K κ (dA c f fo fv) D σ H):tK K (bc K κ fo) (bc K κ fv) f D σ H:=by
 obtain⟨ι,Z,G,fl,s,eq,k⟩:=h
 unfold dA at eq
 split at eq
 ·rename_i d Z1 G1 e1
  split at eq
  ·rename_i n Z2 G2 e2
   split at eq
   ·rename_i c' fs hg
    split at eq
    ·rename_i hcl
     obtain⟨ec,hl⟩:=hcl
     subst ec
     cases eq
     refine⟨ι,Z,G,_,Z1,G1,s,e1,λv ι1 H1 a1=>?_⟩
     refine⟨ι1,Z1,G1,_,Z2,G2,a1.ar.base,e2,λx ι2 H2 a2=>?_⟩
     have a:=a1.app a2
     have rv:=a.ar.im (j:=0) rfl rfl
     have rx:=a.ar.im (j:=1) rfl rfl
     cases rx with
     | @ref b _ eb =>
      obtain⟨b',e3,dx,ws,h1,h2,h3⟩:=a.ar.base.y192 hg
      rw [eb] at e3;cases e3
      have hlw:ws.length<1000:=by have:=congrArg List.length h2;simp at this;lia
      refine⟨b,_,dx,ws,rfl,h1,hc,hn,hlw,?_⟩
      obtain⟨p,q⟩:=a.ar.base.y371 eb hg (m':=.obj c' (gc f d fs)) (λ_ kp=>by
       obtain⟨p1,p2⟩:=vi rv h2 h3
       exact⟨dx,_,b4,p1,p2.mono (cC.refl _) kp⟩)
      exact k _ _ _ p ((a.st.sub λy hy=>c8 a.ar.l hy).trans q)
    ·cases eq
   ·cases eq
  ·cases eq
 ·cases eq
noncomputable def fE(c m:Str)(n:Nat)(fn:FF)(fo:Mo Ev)(fa:Mo (List Ev)):Mo Ev:=bd fo λe=>λZ G=>match e with
 | .v (.im (.ref k))=>match G[k]? with
  | some (.obj c' fs)=>if c'=c/\(fs.lookup m).isNone then bd fa (λes=>aJ n fn (.v (.im (.ref k))::es)) Z G else none
  | _=>none
 | _=>none
theorem vm   (h:bc K κ (fE c m n fn fo fa) σ H Q):oM (κ c) m (aR K κ n fn) [] E (bc K κ fo) (iN K κ fa) σ H Q:=by
 obtain⟨ι,Z,G,e,Z',G',s,eq,k⟩:=h
 obtain⟨x,Z1,G1,e1,eq2⟩:=cD eq
 clear eq
 split at eq2
 ·rename_i kk
  split at eq2
  ·rename_i c' fs hg
   split at eq2
   ·rename_i hcl
    obtain⟨ec,hl⟩:=hcl
    subst ec
    obtain⟨ys,Z2,G2,e2,eq3⟩:=cD eq2
    refine⟨ι,Z,G,_,Z1,G1,s,e1,λv ι1 H1 a1=>?_⟩
    have rx:=a1.ar.im (j:=0) rfl rfl
    cases rx with
    | @ref b _ eb =>
     obtain⟨b',e3,dx,ws,h1,h2,h3⟩:=a1.ar.base.y192 hg
     rw [eb] at e3;cases e3
     refine⟨b,dx,ws,rfl,h1,vh h2 (Option.isNone_iff_eq_none.mp hl),?_⟩
     refine⟨ι1,Z1,G1,ys,Z2,G2,a1.ar.base,e2,λvs ι2 H2 a2=>?_⟩
     have a:=a1.app a2
     dsimp only
     rw [z17]
     exact u7 _ _ _ _ _ _ _ _ _ _ Q a.ar eq3 λv ι3 H3 d=>k _ _ _ (a.then d)
   ·cases eq2
  ·cases eq2
 ·cases eq2
noncomputable def iR(c:Str)(n:Nat)(fn:FF):List Ev->Mo Ev:=λes Z G=>match mE es with
 | some xs=>if xs.length+1=n then match fn (.im (.ref G.length)::xs) (G++[.obj c []]) with
  | some (.im .non,G')=>some (.v (.im (.ref G.length)),Z,G')
  | _=>none
  else none
 | none=>none
theorem C7   : aF K κ (λvs H1 Q=>∀x dx,H1 x=none->H1 dx=none->dx≠x ->
  aR K κ n fn (.ref x::(vs++[])) (aP (aP H1 dx (.own x)) x (.ins (κ c) dx [])) (λv H2=>v=.non/\Q (.ref x) H2) E) (iR c n fn):=by
 intro ι H σ Z G es vs e Z' G' Q a h k x dx hx hdx ndx
 unfold iR at h
 split at h
 ·rename_i xs hxs
  split at h
  ·rename_i hl
   split at h
   ·rename_i G1 e1
    cases h
    rw [z17]
    obtain⟨t1,t2⟩:=pK hxs a.len
    have sr:=a.sr
    rw [t1,t2] at sr k
    have lt:(vs.map some).length=(xs.map some).length:=Paired.length (cT a.l sr.sl).2
    have hx1:(aP H dx (.own x)) x=none:=by rw [aX (Ne.symm ndx)];exact hx
    have sm1:fU H (aP H dx (.own x)):=fU.lay hdx
    have sm2:fU (aP H dx (.own x)) (aP (aP H dx (.own x)) x (.ins (κ c) dx [])):=fU.lay hx1
    have s1:=sr.same sm1
    have s2:=s1.y3c6 (m:=.obj c []) hx1 ⟨dx,[],b4,rfl,.nil⟩
    obtain⟨s3,r3,q3⟩:=s2.box s1.len
    have s4:SR K κ (ι++[x]) (aP (aP H dx (.own x)) x (.ins (κ c) dx [])) (((V.ref x::vs).map some)++σ) (((Vl.im (.ref G.length)::xs).map some)++Z) (G++[.obj c []]):=by
     have q:=(s3.swap a.l)
     refine⟨.cons (.im r3) q.sl,q.gs,λy=>?_⟩
     have:=q.nd y
     show bK y (bO _ _++own (vs.map some++σ) (xs.map some++Z))+_≤1
     rw [gF]
     exact this
    have l4:((V.ref x::vs).map some).length=((Vl.im (.ref G.length)::xs).map some).length:=by simpa using lt
    refine⟨ι++[x],.im (.ref G.length)::xs,G++[.obj c []],.im .non,_,by simpa using hl,s4.pop l4,e1,λv ι' H' s st=>?_⟩
    have rv:RpI K ι' H' v .non:=by
     have:=s.sl
     cases this with
     | cons q _=>cases q with
      | im q=>exact q
    cases jr (rv)
    refine⟨rfl,?_⟩
    have s':SR K κ ι' H' ([some V.non]++[]) ([some (Vl.im .non)]++[]) _:=s
    obtain⟨j1,j2⟩:=SR.join (Z1:=(Vl.im (.ref G.length)::xs).map some) (Z2:=[some (Vl.im .non)]) s4 l4 s' rfl st
    rw [z17,z17] at j1 j2
    have jb:=(j1.swap rfl).pop a.l
    have rx:RpI K ι' H' (.ref x) (.ref G.length):=r3.mono st.pre st.kp
    have stt:Step ι (own (σ++vs.map some) (Z++xs.map some)++ι) H ι' (own σ Z++ι') H':=by
     have b1:Step ι (own (σ++vs.map some) (Z++xs.map some)++ι) H ι (own (σ++vs.map some) (Z++xs.map some)++ι) (aP H dx (.own x)):=Step.same sm1
     have b2:=Step.y23a (ι:=ι) (o:=.ins (κ c) dx []) (m:=.obj c []) s1.len hx1
     have b3:=q3
     refine ((b1.trans (b2.trans b3)).trans (j2.wide λy hy=>?_)).sub λy hy=>?_
     ·have hy:y∈(bO _ _++own (vs.map some++σ) (xs.map some++Z))++(ι++[x]):=hy
      rw [gF] at hy
      exact hU a.l lt hy
     ·exact hU (σ:=[some V.non]) (Z:=[some (Vl.im .non)]) rfl a.l (c8 a.l hy) |> λz=>by
       have z:=hU (Z:=Z) a.l rfl (hU (σ:=[some V.non]) (Z:=[some (Vl.im .non)]) (τ:=σ) (θ:=Z) rfl a.l (c8 a.l hy))
       exact hU (σ:=[some V.non]) (Z:=[some (Vl.im .non)]) (τ:=σ) (θ:=Z) rfl a.l z
    refine k _ ι' H' ⟨⟨a.l,jb.push_im rx,.cons (λ_ h=>by cases h) .nil⟩,stt.sub λy hy=>?_⟩
    have hy:y∈own (σ++[some (V.ref x)]) (Z++[some (Vl.im (.ref G.length))])++ι':=hy
    rw [eR a.l] at hy
    exact hy
   ·cases h
  ·cases h
 ·cases h
end
end
end B
namespace B
open PySem PySem.Spec PyProof.Rows L2
section
section
variable {X:Cx}{e:Expr}{es:List Expr}{st:Stmt}{sts:List Stmt}
theorem aV(h:PE X e t)(k:∀σ H Q,t' σ H Q->t σ H Q):PE X e t':=λpins s σ H Q I q=>h pins s σ H Q I (k σ H Q q)
theorem iS(h:PT X e t)(k:∀σ H Q,t' σ H Q->t σ H Q):PT X e t':=λpins s σ H Q I q=>h pins s σ H Q I (k σ H Q q)
theorem kB(h:PW X e t)(k:∀σ H Q,t' σ H Q->t σ H Q):PW X e t':=λw pins s σ H Q I q=>h w pins s σ H Q I (k σ H Q q)
theorem vn(h:PA X es t)(k:∀σ H Q,t' σ H Q->t σ H Q):PA X es t':=λpos pins s σ H Q I q=>h pos pins s σ H Q I (k σ H Q q)
theorem fF{t t':TS}(h:PS X st t)(k:∀D σ H,t' D σ H->t D σ H):PS X st t':=λpins s σ H D I q=>h pins s σ H D I (k D σ H q)
theorem vo(h:gY X sts t)(k:∀D σ H,t' D σ H->t D σ H):gY X sts t':=λpins s σ H D I q=>h pins s σ H D I (k D σ H q)
theorem kC (h:PI X tg iter t)(k:∀σ H R,t' σ H R->t σ H R):PI X tg iter t':=λpins s σ H R I q=>h pins s σ H R I (k σ H R q)
theorem vp (h:PG X tg t)(k:∀v σ H Q,t' v σ H Q->t v σ H Q):PG X tg t':=λpins s σ H v u Q I r q=>h pins s σ H v u Q I r (k v σ H Q q)
theorem oy(h:PE X e t)(h':PE X e t'):PE X e (λσ H Q=>t σ H Q∨t' σ H Q):=λpins s σ H Q I q=>q.elim (h pins s σ H Q I) (h' pins s σ H Q I)
theorem vq(h:PT X e t)(h':PT X e t'):PT X e (λσ H Q=>t σ H Q∨t' σ H Q):=λpins s σ H Q I q=>q.elim (h pins s σ H Q I) (h' pins s σ H Q I)
theorem vt{t t':TS}(h:PS X st t)(h':PS X st t'):PS X st (λD σ H=>t D σ H∨t' D σ H):=λpins s σ H D I q=>q.elim (h pins s σ H D I) (h' pins s σ H D I)
theorem vw (h:PI X tg iter t)(h':PI X tg iter t'):PI X tg iter (λσ H R=>t σ H R∨t' σ H R):=λpins s σ H R I q=>q.elim (h pins s σ H R I) (h' pins s σ H R I)
end
section
variable {X:Cx}{κ:Str->Addr}{a b c:Expr}{fa fb fv:Mo Ev}{fc fd:Mo Bool}{fs:Mo (List Ev)}{es:List Expr}{pos:Pos}
@[irreducible] noncomputable def LE(X:Cx)(κ:Str->Addr)(e:Expr)(f:Mo Ev):Prop:=PE X e (bc X.K κ f)
theorem LE.mk  (h:PE X e (bc X.K κ f)):LE X κ e f:=by unfold LE;exact h
theorem LE.pe  (h:LE X κ e f):PE X e (bc X.K κ f):=by unfold LE at h;exact h
@[irreducible] noncomputable def LT(X:Cx)(κ:Str->Addr)(e:Expr)(f:Mo Bool):Prop:=PT X e (ez X.K κ f)
theorem LT.mk  (h:PT X e (ez X.K κ f)):LT X κ e f:=by unfold LT;exact h
theorem LT.pe  (h:LT X κ e f):PT X e (ez X.K κ f):=by unfold LT at h;exact h
@[irreducible] noncomputable def LW(X:Cx)(κ:Str->Addr)(e:Expr)(f:Mo Bool):Prop:=PW X e (ez X.K κ f)
theorem LW.mk  (h:PW X e (ez X.K κ f)):LW X κ e f:=by unfold LW;exact h
theorem LW.pe  (h:LW X κ e f):PW X e (ez X.K κ f):=by unfold LW at h;exact h
@[irreducible] noncomputable def LA(X:Cx)(κ:Str->Addr)(es:List Expr)(f:Mo (List Ev)):Prop:=PA X es (iN X.K κ f)
theorem LA.mk  (h:PA X es (iN X.K κ f)):LA X κ es f:=by unfold LA;exact h
theorem LA.pe  (h:LA X κ es f):PA X es (iN X.K κ f):=by unfold LA at h;exact h
@[irreducible] noncomputable def LS(X:Cx)(κ:Str->Addr)(s:Stmt)(f:SF):Prop:=PS X s (dP X.K κ f)
theorem LS.mk  (h:PS X s (dP X.K κ f)):LS X κ s f:=by unfold LS;exact h
theorem LS.pe  (h:LS X κ s f):PS X s (dP X.K κ f):=by unfold LS at h;exact h
@[irreducible] noncomputable def iT(X:Cx)(κ:Str->Addr)(s:List Stmt)(f:SF):Prop:=gY X s (dP X.K κ f)
theorem iT.mk  (h:gY X s (dP X.K κ f)):iT X κ s f:=by unfold iT;exact h
theorem iT.pe  (h:iT X κ s f):gY X s (dP X.K κ f):=by unfold iT at h;exact h
@[irreducible] noncomputable def LI(X:Cx)(κ:Str->Addr)(tg e:Expr)(f:IF):Prop:=PI X tg e (pJ X.K κ f)
theorem LI.mk  (h:PI X tg e (pJ X.K κ f)):LI X κ tg e f:=by unfold LI;exact h
theorem LI.pe  (h:LI X κ tg e f):PI X tg e (pJ X.K κ f):=by unfold LI at h;exact h
@[irreducible] noncomputable def LG(X:Cx)(κ:Str->Addr)(tg:Expr)(f:GF):Prop:=PG X tg (pB X.K κ f)
theorem LG.mk  (h:PG X tg (pB X.K κ f)):LG X κ tg f:=by unfold LG;exact h
theorem LG.pe  (h:LG X κ tg f):PG X tg (pB X.K κ f):=by unfold LG at h;exact h
theorem af(i:Nat)(hN:X.N[i]?=some x:=by rfl)(hv:zT X.env.scope x:=by first|exact Or.inl rfl|exact Or.inr (Or.inl rfl)|exact Or.inr (Or.inr rfl))(hd:(x == ("__debug__" : Str))=false:=by decide)
  (hcd:(x == ("__classdict__" : Str))=false:=by decide):LE X κ (.Name x pos) (aa i):=.mk (aV (zV hN hv hd hcd) λ_ _ _=>CB)
theorem ao{j pos}:LE X κ (.Constant (.int i) j pos) (ah (.int i)):=.mk (aV zW λ_ _ _=>ju λ_ _=>.int _)
theorem vx{j pos}:LE X κ (.Constant (.bool i) j pos) (ah (.bl i)):=.mk (aV se λ_ _ _=>ju λ_ _=>.bl _)
theorem cu{j pos}:LE X κ (.Constant .none j pos) (ah .non):=.mk (aV zX λ_ _ _=>ju λ_ _=>.non)
theorem aB{j pos}:LE X κ (.Constant (.str x) j pos) (ah (.str x)):=.mk (aV zY λ_ _ _=>ju λ_ _=>.str _)
theorem pO  (hg:Gl X x)(hm:X.mg x=some u)(r:aC v u)(rd:∀ι H,RpI X.K ι H v d)(hd:(x == ("__debug__" : Str))=false:=by decide):LE X κ (.Name x pos) (ah d):=.mk (aV (om hg hm r hd) λ_ _ _=>ju rd)
theorem cJ(h:LE X κ a fa):LE X κ a (cF fa):=.mk (aV h.pe λ_ _ _=>CC)
theorem aq:LA X κ [] ae:=.mk (vn Bb λ_ _ _=>pq)
theorem aj(h:LE X κ a fa)(r:LA X κ es fs)(hs:starEach (a::es) X.env=(false,eval a X.env)::starEach es X.env:=by rfl):LA X κ (a::es) (ag fa fs):=.mk (vn (Bc h.pe r.pe hs) λ_ _ _=>Cz)
theorem aQ (ho:cx X (binaryOp op) r)(hp:aF X.K κ (r2 r) p)(ha:LE X κ a fa)(hb:LE X κ b fb):LE X κ (.BinOp a op b pos) (ak p fa fb):=.mk (aV (sW ho ha.pe hb.pe) λ_ _ _=>iO hp)
theorem C8 (ho:yU X (unaryOp op) r)(hp:aF X.K κ (r1 r) p)(ha:LE X κ a fa):LE X κ (.UnaryOp op a pos) (a7 p fa):=.mk (aV (sX ho ha.pe) λ_ _ _=>gH hp)
theorem C9 (ho:cx X (compareOp op) r)(hp:aF X.K κ (r2 r) p)(ha:LE X κ a fa)(hb:LE X κ b fb)(hm:behindInMarks op b=false):LE X κ (.Compare a [op] [b] pos) (ak p fa fb):=.mk (aV (tE ho ha.pe hb.pe hm) λ_ _ _=>iO hp)
theorem gI (ho:cx X (compareOp op) r)(hp:aF X.K κ (r2 r) p)(ha:LE X κ a fa)(hb:LE X κ b fb)(hm:behindInMarks op b=false):LT X κ (.Compare a [op] [b] pos) (ax (ak p fa fb)):=.mk (iS (oF ho ha.pe hb.pe hm) λσ H Q h=>iO hp (kz h))
theorem gJ(hc:LT X κ c fc)(ha:LE X κ a fa)(hb:LE X κ b fb):LE X κ (.IfExp c a b pos) (fw fc fa fb):=.mk (aV (Ad hc.pe ha.pe hb.pe) λ_ _ _=>CJ)
theorem bQ{x1}(h:LA X κ es fs):LE X κ (.Tuple es x1 pos) (bd fs bq):=.mk (aV (Bf h.pe) λ_ _ _ q=>fA CD q)
theorem bC(h:LA X κ es fs):LE X κ (.List es pos) (bd fs aT):=.mk (aV (Bg h.pe) λ_ _ _ q=>fA CF q)
theorem gg(h:LW X κ a fc):LT X κ a fc:=.mk (h.pe.pt)
theorem iU(h:LT X κ a fc):LW X κ (.BoolOp .And [a] pos) fc:=.mk (lN h.pe)
theorem dQ(h:LT X κ a fc):LW X κ (.BoolOp .Or [a] pos) fc:=.mk (ou h.pe)
theorem dw{bA:List Expr}(h:LT X κ a fc)(k:LW X κ (.BoolOp .And (b::bA) pos) fd):LW X κ (.BoolOp .And (a::b::bA) pos) (hJ fc fd):=.mk (kB (ox h.pe k.pe) λ_ _ _=>CH)
theorem cK{bA:List Expr}(h:LT X κ a fc)(k:LW X κ (.BoolOp .Or (b::bA) pos) fd):LW X κ (.BoolOp .Or (a::b::bA) pos) (eF fc fd):=.mk (kB (su h.pe k.pe) λ_ _ _=>uX)
theorem jA(h:LT X κ a fc):LT X κ (.UnaryOp .Not a pos) (fB fc):=.mk (iS (Ab h.pe) λ_ _ _=>CI)
noncomputable def bS:Ev->Mo Bool:=λe Z G=>match e with
 | .v (.im .non)=>some (false,Z,G)
 | .v (.im (.bl b))=>some (b,Z,G)
 | .v (.im (.int i))=>some (i != 0,Z,G)
 | .v (.im (.str y))=>if y.length≤1000000 then some ((y.length:Int) != 0,Z,G) else none
 | e=>match pk Z G e with
  | some (.dic kvs)=>some (!kvs.isEmpty,Z,G)
  | _=>match sq Z G e with
   | some xs=>some (!xs.isEmpty,Z,G)
   | none=>none
theorem isE{K:W.Frag}{ι:List Addr}{H:Hp}{vs:List V}{xs:List I}(r:y5a K ι H vs xs):(!xs.isEmpty)=!vs.isEmpty:=by cases r<;>rfl
theorem kD{K:W.Frag}{e:Ev}{c:Bool}(a:Args K κ ι H σ Z G [e] [v])(h:bS e Z G=some (c,Z',G')):oG K v H c/\Z'=Z/\G'=G:=by
 have seqs:∀{xs:List I},sq Z G e=some xs->oG K v H (!xs.isEmpty):=λhx=>by
  obtain⟨b,ys,e2,h2,r⟩:=a.sq (j:=0) rfl rfl hx
  subst e2
  rw [isE r]
  rcases h2 with h2|h2
  ·exact .inl ⟨ys,h2,rfl⟩
  ·exact .inr (.inl ⟨ys,h2,rfl⟩)
 unfold bS at h
 split at h
 ·cases h;cases jr (a.im (j:=0) rfl rfl);exact⟨rfl,rfl,rfl⟩
 ·cases h;cases mw (a.im (j:=0) rfl rfl);exact⟨rfl,rfl,rfl⟩
 ·cases h;cases dO (a.im (j:=0) rfl rfl);exact⟨rfl,rfl,rfl⟩
 ·split at h
  ·rename_i y hy
   cases h;cases cz (a.im (j:=0) rfl rfl)
   exact⟨⟨z21 hy (by decide),rfl⟩,rfl,rfl⟩
  ·cases h
 ·split at h
  ·rename_i kvs hp
   cases h
   obtain⟨b,e2,ws,h1,h2,h3⟩:=a.pk (j:=0) rfl rfl hp
   subst e2
   refine⟨.inr (.inr ⟨ws,h1,?_⟩),rfl,rfl⟩
   have:=congrArg List.length h2
   simp at this
   cases kvs<;>cases ws<;>simp_all
  ·split at h
   ·rename_i xs hx
    cases h
    exact⟨seqs hx,rfl,rfl⟩
   ·cases h
theorem Dc{K:W.Frag}{f:Mo Ev}{σ:L2.St}{H:Hp}{Q:Bool->Hp->Prop}(h:ez K κ (bd f bS) σ H Q):bc K κ f σ H λx H'=>∃k,oG K x H' k/\Q k H':=by
 obtain⟨ι,Z,G,t,Z',G',s,eq,k⟩:=h
 obtain⟨x,Z1,G1,e1,eq⟩:=cD eq
 refine⟨ι,Z,G,x,Z1,G1,s,e1,λv ι1 H1 a=>?_⟩
 obtain⟨p,q⟩:=a.drop
 obtain⟨h1,rfl,rfl⟩:=kD a.ar eq
 exact⟨_,h1,k _ _ p q⟩
theorem c0(h:LE X κ a fa)(he:∀whole,isTrue a X.env whole=(do let v <- whole;standAt a.pos;holding [v] (truthy v)):=by intro _;rfl):LT X κ a (bd fa bS):=.mk (iS (AM h.pe he) λ_ _ _ q=>Dc q)
noncomputable def isP:List Ev->Mo Ev:=λes Z G=>match es with
 | [.v (.im .non)]=>some (.v (.im (.bl true)),Z,G)
 | [_]=>some (.v (.im (.bl false)),Z,G)
 | _=>none
theorem Args.nn{K:W.Frag}{ι:List Addr}{H:Hp}{σ:L2.St}{Z:De}{G:List M}{e:Ev}{v:V}(a:Args K κ ι H σ Z G [e] [v])(h:e≠.v (.im .non))(hs:∀i,e=.s i->∃m,Z[i]?=some (some (.ow m))):v≠.non:=by
 cases e with
 | s i =>
  obtain⟨m,hm⟩:=hs i rfl
  obtain⟨b,e1,r⟩:=a.base.y195 hm
  have al:=zg (j:=0) a.al rfl rfl
  rw [al] at e1;cases e1
  intro z;cases z
 | v x =>
  cases x with
  | ow m =>
   have r:=pv (cT a.l a.sr.sl).2 (j:=0) rfl rfl
   cases r
   intro z;cases z
  | im d =>
   have r:=a.im (j:=0) rfl rfl
   cases r<;>first|exact absurd rfl h|(intro z;cases z)
noncomputable def mJ(Z:De):Ev->Bool
 | .s i=>match Z[i]? with
  | some (some (.ow _))=>true
  | _=>false
 | _=>true
theorem vy (h:mJ Z e=true):∀i,e=.s i->∃m,Z[i]?=some (some (.ow m)):=by
 intro i hi
 subst hi
 unfold mJ at h
 dsimp only at h
 split at h
 ·rename_i m hm;exact⟨m,hm⟩
 ·cases h
noncomputable def c6(pos:Bool):List Ev->Mo Ev:=λes Z G=>match es with
 | [.v (.im .non)]=>some (.v (.im (.bl pos)),Z,G)
 | [e]=>if mJ Z e then some (.v (.im (.bl (!pos))),Z,G) else none
 | _=>none
theorem vz{K:W.Frag}:aF K κ (r1 λx H1 Q=>Q (.bl (decide (x=.non))) H1) (c6 true):=by
 intro ι H σ Z G es vs e Z' G' Q a h k
 unfold c6 at h
 split at h
 ·obtain⟨v,rfl⟩:=b5 a.len
  cases jr (a.im (j:=0) rfl rfl)
  exact⟨_,rfl,k _ _ _ (b8 h (a6 a (.bl _)))⟩
 ·rename_i e0 hne
  split at h
  ·rename_i hs
   obtain⟨v,rfl⟩:=b5 a.len
   have n:=a.nn (λz=>hne (by rw [z])) (vy hs)
   refine⟨_,rfl,?_⟩
   dsimp only
   rw [decide_eq_false n]
   exact k _ _ _ (b8 h (a6 a (.bl _)))
  ·cases h
 ·cases h
theorem vA{K:W.Frag}:aF K κ (r1 λx H1 Q=>Q (.bl (!decide (x=.non))) H1) (c6 false):=by
 intro ι H σ Z G es vs e Z' G' Q a h k
 unfold c6 at h
 split at h
 ·obtain⟨v,rfl⟩:=b5 a.len
  cases jr (a.im (j:=0) rfl rfl)
  exact⟨_,rfl,k _ _ _ (b8 h (a6 a (.bl _)))⟩
 ·rename_i e0 hne
  split at h
  ·rename_i hs
   obtain⟨v,rfl⟩:=b5 a.len
   have n:=a.nn (λz=>hne (by rw [z])) (vy hs)
   refine⟨_,rfl,?_⟩
   dsimp only
   rw [decide_eq_false n]
   exact k _ _ _ (b8 h (a6 a (.bl _)))
  ·cases h
 ·cases h
theorem vB{j pos'}(h:LE X κ a fa):LE X κ (.Compare a [.Is] [.Constant .none j pos'] pos) (a7 (c6 true) fa):=.mk (aV (oo (sh h.pe)) λ_ _ _ q=>gH vz q)
theorem mK{j pos'}(h:LE X κ a fa):LE X κ (.Compare a [.IsNot] [.Constant .none j pos'] pos) (a7 (c6 false) fa):=.mk (aV (oo (si h.pe)) λ_ _ _ q=>gH vA q)
theorem eG{j pos'}(h:LE X κ a fa):LT X κ (.Compare a [.Is] [.Constant .none j pos'] pos) (ax (a7 (c6 true) fa)):=.mk (iS (oq (sh h.pe)) λ_ _ _ q=>gH vz (kz q))
theorem kF{j pos'}(h:LE X κ a fa):LT X κ (.Compare a [.IsNot] [.Constant .none j pos'] pos) (ax (a7 (c6 false) fa)):=.mk (iS (oq (si h.pe)) λ_ _ _ q=>gH vA (kz q))
variable {s:Stmt}{ss ss2:List Stmt}{f g:SF}
theorem bu:iT X κ [] aU:=.mk (vo Af λ_ _ _=>CK)
theorem aA(h:LS X κ s f):iT X κ [s] f:=.mk (Ah h.pe)
theorem av(h:LS X κ s f)(r:iT X κ ss g):iT X κ (s::ss) (au f g):=.mk (vo (Ag h.pe r.pe) λ_ _ _=>CL)
theorem aL(h:LE X κ a fa):LS X κ (.Return (some a) pos) (aG fa):=.mk (fF (Aj h.pe) λ_ _ _=>CN)
theorem cU(h:LE X κ a fa)(hs:swapsWith a none pos.line X.env=pure false:=by rfl):LS X κ (.Expr a pos) (bF fa):=.mk (fF (Ai h.pe hs) λ_ _ _=>CM)
theorem a8(hc:LT X κ c fc)(ha:iT X κ ss f)(hb:iT X κ ss2 g):LS X κ (.If c ss ss2 pos) (aM fc f g):=.mk (fF (sE hc.pe ha.pe hb.pe) λ_ _ _=>uZ)
theorem vC(hc:LT X κ c fc)(hb:iT X κ ss f)(hp:PassesOwn (model X.prog X.w) X.A X.env X.xe:=by exact PassesOwn.never):LS X κ (.While c ss [] pos) (iE fc f):=.mk (fF (Ao hp hc.pe hb.pe) λ_ _ _=>CQ)
theorem fG (hi:LI X κ tg it fi)(hg:LG X κ tg gf)(hb:iT X κ ss f)(hc:X.calm=true:=by rfl)(hp:PassesOwn (model X.prog X.w) X.A X.env X.xe:=by exact PassesOwn.never)(hs:∀x,foldedSetIterable it X.env x=pure x:=by intro _;rfl):LS X κ (.For tg it ss [] pos) (c9 fi gf f):=.mk (fF (Az hp hc hi.pe hg.pe hb.pe hs) λ_ _ _=>CS)
theorem kG (hN:X.N.Nodup)(hi:X.N[i]?=some x:=by rfl)(hx:oi X.env.scope x:=by first|exact Or.inl rfl|exact Or.inr rfl)(hf:X.fn x=true∨X.env.scope.names.lookup x=some .local:=by first|exact .inl rfl|exact .inr rfl|assumption):LG X κ (.Name x p) (bf i):=.mk (vp (oA hN hi hx hf) λ_ _ _ _=>pC)
noncomputable def zi(X:Cx)(es:List Expr)(is:List Nat):Prop:=sF X es (iQ is)
theorem eS:zi X [] []:=sL
theorem cZ  (hN:X.N.Nodup)(r:zi X es is)(hi:X.N[i]?=some x:=by rfl)(hx:oi X.env.scope x:=by first|exact Or.inl rfl|exact Or.inr rfl)(hf:X.fn x=true∨X.env.scope.names.lookup x=some .local:=by first|exact .inl rfl|exact .inr rfl|assumption)
  : zi X (.Name x p::es) (i::is):=oB (oA hN hi hx hf) r
end
end
section
section
variable {X:Cx}{K:W.Frag}{κ:Str->Addr}
noncomputable def cv(f:Int->Int->Option I):List Ev->Mo Ev:=λes Z G=>match es with
 | [.v (.im (.int i)),.v (.im (.int j))]=>match f i j with
  | some d=>some (.v (.im d),Z,G)
  | none=>none
 | _=>none
theorem kH{C:Int->Int->Prop}{g:Int->Int->V}{f:Int->Int->Option I}(hf:∀i j d,f i j=some d->C i j/\∀ι H,RpI K ι H (g i j) d):aF K κ (r2 (rI C g)) (cv f):=by
 intro ι H σ Z G es vs e Z' G' Q a h k
 unfold cv at h
 split at h
 ·rename_i i j
  split at h
  ·rename_i d hd
   obtain⟨v,u,rfl⟩:=bV a.len
   cases dO (a.im (j:=0) rfl rfl)
   cases dO (a.im (j:=1) rfl rfl)
   obtain⟨c,r⟩:=hf i j d hd
   exact⟨_,_,rfl,i,j,rfl,rfl,c,k _ _ _ (b8 h (a6 a (r ι H)))⟩
  ·cases h
 ·cases h
theorem jB{g:Int->Int->V}{f:Int->Int->Option I}(hf:∀i j d,f i j=some d->∀ι H,RpI K ι H (g i j) d):aF K κ (r2 (j9 g)) (cv f):=by
 intro ι H σ Z G es vs e Z' G' Q a h k
 obtain⟨x,y,e1,i,j,e2,e3,_,q⟩:=kH (λi j d hd=>⟨trivial,hf i j d hd⟩) ι H σ Z G es vs e Z' G' Q a h k
 exact⟨x,y,e1,i,j,e2,e3,q⟩
theorem aF.or{r r':R2}{p p':List Ev->Mo Ev}(h:aF K κ (r2 r) p)(h':aF K κ (r2 r') p'):aF K κ (r2 λx y H Q=>r x y H Q∨r' x y H Q) (λes Z G=>match p es Z G with|some z=>some z|none=>p' es Z G):=by
 intro ι H σ Z G es vs e Z' G' Q a hp k
 dsimp only at hp
 split at hp
 ·rename_i z hz
  cases hp
  obtain⟨x,y,e1,q⟩:=h ι H σ Z G es vs _ _ _ Q a hz k
  exact⟨x,y,e1,.inl q⟩
 ·obtain⟨x,y,e1,q⟩:=h' ι H σ Z G es vs _ _ _ Q a hp k
  exact⟨x,y,e1,.inr q⟩
noncomputable def eP(p p':List Ev->Mo Ev):List Ev->Mo Ev:=λes Z G=>match p es Z G with|some z=>some z|none=>p' es Z G
noncomputable def mL:List Ev->Mo Ev:=λes Z G=>match es with
 | [.v (.im (.str x)),.v (.im (.str y))]=>if x.length+y.length≤1000000 then some (.v (.im (.str (x++y))),Z,G) else none
 | _=>none
theorem Dd:aF K κ (r2 λx y H Q=>∃i j,x=.str i/\y=.str j/\i.length+j.length≤sizeLine/\Q (.str (i++j)) H) mL:=by
 intro ι H σ Z G es vs e Z' G' Q a h k
 unfold mL at h
 split at h
 ·rename_i i j
  split at h
  ·rename_i hl
   obtain⟨v,u,rfl⟩:=bV a.len
   cases cz (a.im (j:=0) rfl rfl)
   cases cz (a.im (j:=1) rfl rfl)
   exact⟨_,_,rfl,i,j,rfl,rfl,z21 hl (by decide),k _ _ _ (b8 h (a6 a (.str _)))⟩
  ·cases h
 ·cases h
noncomputable def mM(K:W.Frag):R2:=λx y H Q=>∃a b xs ys,x=.ref a/\y=.ref b/\bt K H a xs/\bt K H b ys/\xs.length+ys.length≤sizeLine /\
 (xs=[]->Q (.ref b) H)/\(xs≠[]->ys=[]->Q (.ref a) H)/\(xs≠[]->ys≠[]->∀p,H p=none->Q (.ref p) (aP H p (.tup (xs++ys))))
theorem Df:cx X (binaryOp .Add) (mM X.K):=by
 intro pins s σ H x y v u Q I rx ry h
 obtain⟨a,b,xs,ys,rfl,rfl,ha,hb,hz,q0,q1,q2⟩:=h
 by_cases hx:xs=[]
 ·cases rx
  cases ry
  obtain⟨its,r1,p1,_⟩:=I.tuple ha
  obtain⟨y1fa,r2,p2,_⟩:=I.tuple hb
  have hi:its=[]:=r1.y297.mpr hx
  obtain⟨⟨cls,dd,data,sl⟩,ho,hc,n,hd⟩:=id p1
  obtain⟨⟨cls2,dd2,data2,sl2⟩,ho2,hc2,n2,hd2⟩:=id p2
  simp only at hc hd hc2 hd2
  subst hc hd hc2 hd2
  exact concat_meets ⟨_,ho,rfl⟩ ⟨_,ho2,rfl⟩ noFill_tuple_add seq_tuple_add PySem.F.slot_tuple_add PySem.F.entry_tuple_add (PySem.F.args_tuple_add_2 _ _)
   (tuple_addW0 a b its.toArray y1fa.toArray n n2 dd dd2 sl sl2 (by simp [hi])) ⟨ho,ho2,⟨.ref b,H,I,rfl,q0 hx⟩⟩
 ·exact BJ pins s σ H _ _ v u Q I rx ry ⟨a,b,xs,ys,rfl,rfl,ha,hb,hx,hz,q1 hx,q2 hx⟩
noncomputable def nZ:List Ev->Mo Ev:=λes Z G=>match es with
 | [.v (.im (.tup xs)),.v (.im (.tup ys))]=>if xs.length+ys.length≤1000000 then some (.v (.im (.tup (xs++ys))),Z,G) else none
 | _=>none
theorem Dg:aF K κ (r2 (mM K)) nZ:=by
 intro ι H σ Z G es vs e Z' G' Q a h k
 unfold nZ at h
 split at h
 ·rename_i xs ys
  split at h
  ·rename_i hl
   obtain⟨v,u,rfl⟩:=bV a.len
   have ra:=a.im (j:=0) rfl rfl
   have rb:=a.im (j:=1) rfl rfl
   cases ra with
   | @tup p vs1 _ h1 r1 =>
    cases rb with
    | @tup q vs2 _ h2 r2 =>
     have l1:=r1.len
     have l2:=r2.len
     refine⟨_,_,rfl,p,q,vs1,vs2,rfl,rfl,bt.of h1,bt.of h2,z21 (by lia) (show 1000000≤sizeLine by decide),λe=>?_,λ_ e=>?_,λ_ _ p' hp=>?_⟩
     ·subst e
      cases r1
      exact k _ _ _ (b8 h (a6 a (.tup h2 r2)))
     ·subst e
      cases r2
      exact k _ _ _ (b8 h (a6 a (by rw [z17];exact .tup h1 r1)))
     ·exact k _ _ _ (b8 h (pw a hp (r1.app r2)))
  ·cases h
 ·cases h
noncomputable def pP:List Ev->Mo Ev:=λes Z G=>match es with
 | [a,b]=>match pk Z G a,pk Z G b with
  | some (.lst xs),some (.lst ys)=>if xs.length+ys.length≤1000000 then some (.v (.ow (.lst (xs++ys))),Z,G) else none
  | _,_=>none
 | _=>none
theorem Dh:aF K κ (r2 me) pP:=by
 intro ι H σ Z G es vs e Z' G' Q a h k
 unfold pP at h
 split at h
 ·rename_i x y
  split at h
  ·rename_i xs ys hx hy
   split at h
   ·rename_i hl
    obtain⟨v,u,rfl⟩:=bV a.len
    obtain⟨p,e1,vs1,h1,r1⟩:=a.pk (j:=0) rfl rfl hx
    obtain⟨q,e2,vs2,h2,r2⟩:=a.pk (j:=1) rfl rfl hy
    subst e1;subst e2
    have l1:=r1.len
    have l2:=r2.len
    exact⟨_,_,rfl,p,q,vs1,vs2,rfl,rfl,h1,h2,z21 (by lia) (show 1000000≤sizeLine by decide),λp' hp=>k _ _ _ (b8 h (iP a hp (r1.app r2)))⟩
   ·cases h
  ·cases h
 ·cases h
noncomputable def pQ:List Ev->Mo Ev:=cv λi j=>some (.int (i+j))
noncomputable def ck:List Ev->Mo Ev:=eP pQ (eP mL (eP nZ pP))
theorem b6 (hr:y58 k A):cx X (binaryOp .Add) (λx y H Q=>j9 (λi j=>.int (i+j)) x y H Q∨((∃i j,x=.str i/\y=.str j/\i.length+j.length≤sizeLine/\Q (.str (i++j)) H)∨(mM X.K x y H Q∨me x y H Q))) :=
 AD.or (AN.or (Df.or B2))
theorem bg:aF K κ (r2 λx y H Q=>j9 (λi j=>.int (i+j)) x y H Q∨((∃i j,x=.str i/\y=.str j/\i.length+j.length≤sizeLine/\Q (.str (i++j)) H)∨(mM K x y H Q∨me x y H Q))) ck :=
 aF.or (jB λi j d h ι H=>by cases h;exact .int _) (aF.or Dd (aF.or Dg Dh))
noncomputable def fH:List Ev->Mo Ev:=cv λi j=>some (.int (i-j))
theorem jC (hr:y58 k A):cx X (binaryOp .Sub) (j9 λi j=>.int (i-j)):=AE
theorem jD:aF K κ (r2 (j9 λi j=>.int (i-j))) fH:=jB λi j d h ι H=>by cases h;exact .int _
noncomputable def vD:List Ev->Mo Ev:=cv λi j=>if (-(2 ^ 64)<i/\i<2 ^ 64)∨(-(2 ^ 64)<j/\j<2 ^ 64) then some (.int (i*j)) else none
noncomputable def pR:List Ev->Mo Ev:=λes Z G=>match es with
 | [a,.v (.im (.int j))]=>match pk Z G a with
  | some (.lst xs)=>if 0≤j/\j≤1000/\xs.length≤1000 then some (.v (.ow (.lst (List.replicate j.toNat xs).flatten)),Z,G) else none
  | _=>none
 | _=>none
theorem y5a.rep{ι:List Addr}{H:Hp}{vs:List V}{xs:List I}(r:y5a K ι H vs xs):∀n:Nat,y5a K ι H (List.replicate n vs).flatten (List.replicate n xs).flatten
 | 0=>.nil
 | n+1=>by rw [List.replicate_succ,List.replicate_succ,List.flatten_cons,List.flatten_cons];exact r.app (y5a.rep r n)
theorem Di:aF K κ (r2 mf) pR:=by
 intro ι H σ Z G es vs e Z' G' Q a h k
 unfold pR at h
 split at h
 ·rename_i x j
  split at h
  ·rename_i xs hx
   split at h
   ·rename_i hl
    obtain⟨v,u,rfl⟩:=bV a.len
    obtain⟨p,e1,vs1,h1,r1⟩:=a.pk (j:=0) rfl rfl hx
    cases dO (a.im (j:=1) rfl rfl)
    subst e1
    have l1:=r1.len
    refine⟨_,_,rfl,p,j,vs1,rfl,rfl,h1,by lia,by lia,z21 (Nat.mul_le_mul (show vs1.length≤1000 by lia) (show j.toNat≤1000 by lia)) (show 1000*1000≤sizeLine by decide),λp' hp=>k _ _ _ (b8 h (iP a hp (r1.rep _)))⟩
   ·cases h
  ·cases h
 ·cases h
noncomputable def pS:List Ev->Mo Ev:=λes Z G=>match es with
 | [.v (.im (.str z)),.v (.im (.int j))]=>if 0≤j/\j≤1000/\z.length≤1000 then some (.v (.im (.str (PySem.Txt.mul z j))),Z,G) else none
 | _=>none
noncomputable def pT:R2:=λx y H Q=>∃z n,x=.str z/\y=.int n/\MulOk z n/\Q (.str (PySem.Txt.mul z n)) H
theorem kJ (h:0≤j/\j≤1000/\z.length≤1000):MulOk z j:=by
  obtain⟨h0,h1,h2⟩:=h
  have hb:(z.length:Int)*j≤1000*1000:=Int.mul_le_mul (by lia) h1 h0 (by lia)
  have hn:z.length*j.toNat≤1000*1000:=Nat.mul_le_mul h2 (by lia)
  refine⟨by simp only [Bool.or_eq_false_iff,decide_eq_false_iff_not];lia,λh3 _ h4=>?_,λ_ _=>?_⟩
  · have:=(Int.le_ediv_iff_mul_le (c:=j) (a:=(z.length:Int)) (b:=2 ^ 63-1) (by lia)).mpr (by lia)
    lia
  · exact decide_eq_false (by have:(1000*1000:Nat)≤sizeLine:=by decide
                              lia)
theorem Dj:aF K κ (r2 pT) pS:=by
 intro ι H σ Z G es vs e Z' G' Q a h k
 unfold pS at h
 split at h
 ·rename_i z j
  split at h
  ·rename_i hl
   obtain⟨v,u,rfl⟩:=bV a.len
   cases cz (a.im (j:=0) rfl rfl)
   cases dO (a.im (j:=1) rfl rfl)
   exact⟨_,_,rfl,z,j,rfl,rfl,kJ hl,k _ _ _ (b8 h (a6 a (.str _)))⟩
  ·cases h
 ·cases h
noncomputable def fI:List Ev->Mo Ev:=eP vD (eP pR pS)
theorem gK (hr:y58 k A):cx X (binaryOp .Mult) (λx y H Q=>rI y6 (λi j=>.int (i*j)) x y H Q∨(mf x y H Q∨pT x y H Q)):=AF.or (B3.or Ck)
theorem gL:aF K κ (r2 λx y H Q=>rI y6 (λi j=>.int (i*j)) x y H Q∨(mf x y H Q∨pT x y H Q)) fI:=aF.or (kH λi j d h=>by
 split at h
 ·rename_i c;cases h;exact⟨c,λι H=>.int _⟩
 ·cases h) (aF.or Di Dj)
noncomputable def mN:List Ev->Mo Ev:=cv λi j=>if 0<j/\j<2 ^ 200 then some (.int (i / j)) else none
theorem vE (hr:y58 k A):cx X (binaryOp .FloorDiv) (rI (λ_ j=>0<j/\j<2 ^ 200) λi j=>.int (i / j)):=Cg
theorem vF:aF K κ (r2 (rI (λ_ j=>0<j/\j<2 ^ 200) λi j=>.int (i / j))) mN:=kH λi j d h=>by
 split at h
 ·rename_i c;cases h;exact⟨c,λι H=>.int _⟩
 ·cases h
noncomputable def fJ:List Ev->Mo Ev:=cv λi j=>if 0<j then some (.int (i % j)) else none
theorem gM (hr:y58 k A):cx X (binaryOp .Mod) (rI (λ_ j=>0<j) λi j=>.int (i % j)):=AG
theorem gN:aF K κ (r2 (rI (λ_ j=>0<j) λi j=>.int (i % j))) fJ:=kH λi j d h=>by
 split at h
 ·rename_i c;cases h;exact⟨c,λι H=>.int _⟩
 ·cases h
noncomputable def gO:List Ev->Mo Ev:=cv λi j=>if 0≤j/\j≤1000000/\i.natAbs<2 ^ 64 then some (.int (i ^ j.toNat)) else none
theorem pU (hr:y58 k A):cx X (binaryOp .Pow) (rI oE λi j=>.int (i ^ j.toNat)):=AH
theorem pV:aF K κ (r2 (rI oE λi j=>.int (i ^ j.toNat))) gO:=kH λi j d h=>by
 split at h
 ·rename_i c;cases h;exact⟨c,λι H=>.int _⟩
 ·cases h
noncomputable def Dk:List Ev->Mo Ev:=cv λi j=>if 0≤j/\j≤1000000/\i.natAbs<2 ^ 64 then some (.int (i*2 ^ j.toNat)) else none
noncomputable def Dl:List Ev->Mo Ev:=cv λi j=>if 0≤j then some (.int (i / 2 ^ j.toNat)) else none
noncomputable def gh:List Ev->Mo Ev:=λes Z G=>match es with
 | [.v (.im (.int i))]=>some (.v (.im (.int (-i))),Z,G)
 | _=>none
theorem Dm:aF K κ (r1 (rU λi=>.int (-i))) gh:=by
 intro ι H σ Z G es vs e Z' G' Q a h k
 unfold gh at h
 split at h
 ·rename_i i
  obtain⟨v,rfl⟩:=b5 a.len
  cases dO (a.im (j:=0) rfl rfl)
  exact⟨_,rfl,i,rfl,k _ _ _ (b8 h (a6 a (.int _)))⟩
 ·cases h
theorem mO (h:LE X κ a fa):LE X κ (.UnaryOp .USub a pos) (a7 gh fa):=C8 AI Dm h
noncomputable def n5:List Ev->Mo Ev:=cv λi j=>some (.bl (decide (i<j)))
noncomputable def leP:List Ev->Mo Ev:=cv λi j=>some (.bl (decide (i≤j)))
noncomputable def rH:List Ev->Mo Ev:=cv λi j=>some (.bl (decide (j<i)))
noncomputable def pW:List Ev->Mo Ev:=cv λi j=>some (.bl (decide (j≤i)))
end
end
set_option maxHeartbeats 400000
section
section
noncomputable def mP(K:W.Frag)(H:Hp)(x:V):Prop:=∃a xs,x=.ref a/\bt K H a xs
noncomputable def n8(K:W.Frag)(H:Hp)(x y:V)(b:Bool):Prop:=(a9 x=true/\a9 y=true/\b=fY x y)∨(mP K H x/\a9 y=true/\b=false)∨(a9 x=true/\mP K H y/\b=false)
noncomputable def kK(K:W.Frag)(H:Hp):Nat->V->V->Bool->Prop
 | 0,x,y,b=>n8 K H x y b
 | n+1,x,y,b=>n8 K H x y b∨∃a c xs ys e,x=.ref a/\y=.ref c/\bt K H a xs/\bt K H c ys/\(∀(j:Nat) u w,xs[j]?=some u->ys[j]?=some w->kK K H n u w (e j))/\b=((List.range (min xs.length ys.length)).all e&&xs.length == ys.length)
theorem y158(h:a9 x=true):fY x x=true:=by
 cases x with
 | non=>rfl
 | bl b=>exact beq_self_eq_true b
 | int i=>exact beq_self_eq_true i
 | str z=>exact beq_self_eq_true z
 | _=>cases h
theorem n8.refl  (I:Inv X pins σ H s)(h:n8 X.K H x x b):b=true:=by
 rcases h with⟨h1,_,rfl⟩| ⟨⟨a,xs,rfl,_⟩,h2,_⟩| ⟨h2,⟨a,xs,rfl,_⟩,_⟩
 ·exact y158 h1
 ·cases h2
 ·cases h2
theorem kK.refl (I:Inv X pins σ H s):∀{n:Nat} {x:V} {b:Bool},kK X.K H n x x b->b=true
 | 0,_,_,h=>n8.refl I h
 | n+1,x,b,h=>by
  rcases h with h|⟨a,c,xs,ys,e,e1,e2,h1,h2,he,rfl⟩
  ·exact n8.refl I h
  ·subst e1;cases e2
   have:=I.y4e2 h1 h2
   subst this
   rw [Nat.min_self]
   have:(List.range xs.length).all e=true:=by
    rw [z36]
    intro j hj
    have hj:j<xs.length:=by simpa using hj
    exact kK.refl I (he j _ _ (z15 hj) (z15 hj))
   rw [this];simp
theorem jE (r:az xs us)(h:j<us.toArray.size):∃x,xs[j]?=some x/\aC x us.toArray[j]:=by
 have l:=r.length
 have h':j<xs.length:=by rw [l];simpa using h
 obtain⟨u,eu,ru⟩:=r.get (z15 h')
 refine⟨_,z15 h',?_⟩
 have:us.toArray[j]?=some u:=by simpa using eu
 rw [Array.getElem?_eq_getElem h] at this
 rw [z25 this]
 exact ru
theorem vG   (I:Inv X pins σ H s)(h:n8 X.K H x y b)(ru:aC x u)(rw':aC y w)(hu:A.units<cLine):SeqAt.EqAt A s u w b:=by
 rcases h with⟨h1,h2,rfl⟩| ⟨⟨a,xs,rfl,ht⟩,h2,rfl⟩| ⟨h2,⟨a,xs,rfl,ht⟩,rfl⟩
 ·exact md ru rw' h1 h2
 ·cases ru
  obtain⟨its,r1,p1,_⟩:=I.tuple ht
  have p1:s.heap.IsTuple a its.toArray:=p1
  cases y with
  | non=>cases rw';exact SeqAt.EqAt.tuple_none p1 hu
  | bl c=>cases rw';exact SeqAt.EqAt.tuple_bool _ p1 hu
  | int i=>obtain⟨t,rfl⟩:=rw';exact SeqAt.EqAt.tuple_int _ _ p1 hu
  | str z=>obtain⟨t,rfl⟩:=rw';exact SeqAt.EqAt.tuple_str _ _ p1 hu
  | _=>cases h2
 ·cases rw'
  obtain⟨its,r1,p1,_⟩:=I.tuple ht
  have p1:s.heap.IsTuple a its.toArray:=p1
  cases x with
  | non=>cases ru;exact SeqAt.EqAt.none_tuple p1 hu
  | bl c=>cases ru;exact SeqAt.EqAt.bool_tuple _ p1 hu
  | int i=>obtain⟨t,rfl⟩:=ru;exact SeqAt.EqAt.int_tuple _ _ p1 hu
  | str z=>obtain⟨t,rfl⟩:=ru;exact SeqAt.EqAt.str_tuple _ _ p1 hu
  | _=>cases h2
theorem pX:∀{n:Nat} {A:Around} {pins:List (Addr×Obj)} {σ:L2.St} {s:Shared} {x y:V} {u w:Value} {b:Bool},Inv X pins σ H s->kK X.K H n x y b->aC x u->aC y w->A.units+n<cLine->SeqAt.EqAt A s u w b
 | 0,_,_,_,_,_,_,_,_,_,I,h,ru,rw',hu=>vG I h ru rw' hu
 | n+1,A,_,_,s,_,_,_,_,_,I,h,ru,rw',hu=>by
  rcases h with h|⟨a,c,xs,ys,e,e1,e2,h1,h2,he,rfl⟩
  ·exact vG I h ru rw' (by lia)
  ·subst e1;subst e2
   cases ru;cases rw'
   by_cases hac:a=c
   ·subst hac
    have:=kK.refl (n:=n+1) I (.inr ⟨a,a,xs,ys,e,rfl,rfl,h1,h2,he,rfl⟩)
    rw [this]
    exact SeqAt.EqAt.same _
   ·obtain⟨its,r1,p1,_⟩:=I.tuple h1
    obtain⟨y1fa,r2,p2,_⟩:=I.tuple h2
    have q:=SeqAt.RcAt.tuples (A:=A) (show s.heap.IsTuple a its.toArray from p1) (show s.heap.IsTuple c y1fa.toArray from p2) (by lia) (λj z1 z2=>by
     obtain⟨x,ex,rx⟩:=jE r1 z1
     obtain⟨y,ey,ry⟩:=jE r2 z2
     exact pX I (he j x y ex ey) rx ry (by show A.units+1+n<cLine;lia))
    rw [ze,ze,<- r1.length,<- r2.length] at q
    exact SeqAt.EqAt.of_refs hac q
end
end
section
section
noncomputable def EqL(K:W.Frag)(H:Hp)(n:Nat)(x y:V)(b:Bool):Prop:=∃a c xs ys,x=.ref a/\y=.ref c/\bB K H a xs/\bB K H c ys/\((xs.length≠ys.length/\b=false)∨(xs.length=ys.length/\∃e,(∀(j:Nat) u w,xs[j]?=some u->ys[j]?=some w->kK K H n u w (e j))/\b=(List.range xs.length).all e))
noncomputable def rJ(K:W.Frag)(H:Hp)(x y:V)(b:Bool):Prop:=(ji x y=true/\b=decide (x=y))∨(mP K H x/\a9 y=true/\b=false)∨(a9 x=true/\mP K H y/\b=false) ∨
 (∃a c xs ys e,x=.ref a/\y=.ref c/\bt K H a xs/\bt K H c ys/\(∀(j:Nat) u w,xs[j]?=some u->ys[j]?=some w->kK K H 40 u w (e j))/\b=((List.range (min xs.length ys.length)).all e&&xs.length == ys.length))∨EqL K H 40 x y b
theorem vH(hu:X.A.units+50<cLine):cx X (compareOp .Eq) (λx y H Q=>∃b,rJ X.K H x y b/\Q (.bl b) H):=by
 intro pins s σ H x y v u Q I rx ry h
 obtain⟨b,h,q⟩:=h
 have hu0:X.A.units<cLine:=by lia
 have hel:∀{xs ys:List V} {us ws:List Value} {e:Nat->Bool},az xs us->az ys ws->(∀(j:Nat) u w,xs[j]?=some u->ys[j]?=some w->kK X.K H 40 u w (e j))->∀j (z1:j<us.toArray.size) (z2:j<ws.toArray.size),SeqAt.EqAt X.A.in1 s us.toArray[j] ws.toArray[j] (e j):=λr1 r2 he j z1 z2=>by
  obtain⟨x,ex,rx⟩:=jE r1 z1
  obtain⟨y,ey,ry⟩:=jE r2 z2
  exact pX I (he j x y ex ey) rx ry (by show X.A.units+1+40<cLine;lia)
 rcases h with⟨hs,rfl⟩| ⟨⟨a,xs,rfl,ht⟩,h2,rfl⟩| ⟨h2,⟨a,xs,rfl,ht⟩,rfl⟩| ⟨a,c,xs,ys,e,rfl,rfl,h1,h2,he,rfl⟩| ⟨a,c,xs,ys,rfl,rfl,h1,h2,h3⟩
 ·exact tm pins s σ H x y v u Q I rx ry ⟨hs,q⟩
 ·cases rx
  obtain⟨its,r1,p1,_⟩:=I.tuple ht
  have p1:s.heap.IsTuple a its.toArray:=p1
  have fin:EP X pins σ Q (.bool false) s:=⟨.bl false,H,I,rfl,q⟩
  cases y with
  | non=>cases ry;exact SeqAt.RcAt.tuple_none p1 hu0 _ _ _ _ fin
  | bl c=>cases ry;exact SeqAt.RcAt.tuple_bool _ p1 hu0 _ _ _ _ fin
  | int i=>obtain⟨t,rfl⟩:=ry;exact SeqAt.RcAt.tuple_int _ _ p1 hu0 _ _ _ _ fin
  | str z=>obtain⟨t,rfl⟩:=ry;exact SeqAt.RcAt.tuple_str _ _ p1 hu0 _ _ _ _ fin
  | _=>cases h2
 ·cases ry
  obtain⟨its,r1,p1,_⟩:=I.tuple ht
  have p1:s.heap.IsTuple a its.toArray:=p1
  have fin:EP X pins σ Q (.bool false) s:=⟨.bl false,H,I,rfl,q⟩
  cases x with
  | non=>cases rx;exact SeqAt.RcAt.none_tuple p1 hu0 _ _ _ _ fin
  | bl c=>cases rx;exact SeqAt.RcAt.bool_tuple _ p1 hu0 _ _ _ _ fin
  | int i=>obtain⟨t,rfl⟩:=rx;exact SeqAt.RcAt.int_tuple _ _ p1 hu0 _ _ _ _ fin
  | str z=>obtain⟨t,rfl⟩:=rx;exact SeqAt.RcAt.str_tuple _ _ p1 hu0 _ _ _ _ fin
  | _=>cases h2
 ·cases rx;cases ry
  obtain⟨its,r1,p1,_⟩:=I.tuple h1
  obtain⟨y1fa,r2,p2,_⟩:=I.tuple h2
  refine SeqAt.RcAt.tuples (show s.heap.IsTuple a its.toArray from p1) (show s.heap.IsTuple c y1fa.toArray from p2) hu0 (hel r1 r2 he) _ _ _ _ ?_
  rw [ze,ze,<- r1.length,<- r2.length]
  exact⟨.bl _,H,I,rfl,q⟩
 ·cases rx;cases ry
  obtain⟨its,r1,p1,_⟩:=I.list h1
  obtain⟨y1fa,r2,p2,_⟩:=I.list h2
  have l1:=r1.length
  have l2:=r2.length
  rcases h3 with⟨hn,rfl⟩| ⟨hn,e,he,rfl⟩
  ·exact SeqAt.RcAt.lists_lengths p1.isList p2.isList (by simp;lia) hu0 X.prog X.w X.xe _ ⟨.bl _,H,I,rfl,q⟩
  ·refine SeqAt.eq_listAt p1.isList p2.isList (by simp;lia) hu0 (hel r1 r2 he) ?_
   rw [ze,<- l1]
   exact⟨.bl _,H,I,rfl,q⟩
end
end
section
section
theorem Dn(hu:X.A.units+50<cLine):cx X (compareOp .NotEq) (λx y H Q=>∃b,rJ X.K H x y b/\Q (.bl (!b)) H):=by
 intro pins s σ H x y v u Q I rx ry h
 obtain⟨b,h,q⟩:=h
 have hu0:X.A.units<cLine:=by lia
 have hel:∀{xs ys:List V} {us ws:List Value} {e:Nat->Bool},az xs us->az ys ws->(∀(j:Nat) u w,xs[j]?=some u->ys[j]?=some w->kK X.K H 40 u w (e j))->∀j (z1:j<us.toArray.size) (z2:j<ws.toArray.size),SeqAt.EqAt X.A.in1 s us.toArray[j] ws.toArray[j] (e j):=λr1 r2 he j z1 z2=>by
  obtain⟨x,ex,rx⟩:=jE r1 z1
  obtain⟨y,ey,ry⟩:=jE r2 z2
  exact pX I (he j x y ex ey) rx ry (by show X.A.units+1+40<cLine;lia)
 rcases h with⟨hs,rfl⟩| ⟨⟨a,xs,rfl,ht⟩,h2,rfl⟩| ⟨h2,⟨a,xs,rfl,ht⟩,rfl⟩| ⟨a,c,xs,ys,e,rfl,rfl,h1,h2,he,rfl⟩| ⟨a,c,xs,ys,rfl,rfl,h1,h2,h3⟩
 ·exact tp pins s σ H x y v u Q I rx ry ⟨hs,q⟩
 ·cases rx
  obtain⟨its,r1,p1,_⟩:=I.tuple ht
  have p1:s.heap.IsTuple a its.toArray:=p1
  have fin:EP X pins σ Q (.bool true) s:=⟨.bl true,H,I,rfl,q⟩
  cases y with
  | non=>cases ry;exact SeqAt.RcNeAt.tuple_none p1 hu0 _ _ _ _ fin
  | bl c=>cases ry;exact SeqAt.RcNeAt.tuple_bool _ p1 hu0 _ _ _ _ fin
  | int i=>obtain⟨t,rfl⟩:=ry;exact SeqAt.RcNeAt.tuple_int _ _ p1 hu0 _ _ _ _ fin
  | str z=>obtain⟨t,rfl⟩:=ry;exact SeqAt.RcNeAt.tuple_str _ _ p1 hu0 _ _ _ _ fin
  | _=>cases h2
 ·cases ry
  obtain⟨its,r1,p1,_⟩:=I.tuple ht
  have p1:s.heap.IsTuple a its.toArray:=p1
  have fin:EP X pins σ Q (.bool true) s:=⟨.bl true,H,I,rfl,q⟩
  cases x with
  | non=>cases rx;exact SeqAt.RcNeAt.none_tuple p1 hu0 _ _ _ _ fin
  | bl c=>cases rx;exact SeqAt.RcNeAt.bool_tuple _ p1 hu0 _ _ _ _ fin
  | int i=>obtain⟨t,rfl⟩:=rx;exact SeqAt.RcNeAt.int_tuple _ _ p1 hu0 _ _ _ _ fin
  | str z=>obtain⟨t,rfl⟩:=rx;exact SeqAt.RcNeAt.str_tuple _ _ p1 hu0 _ _ _ _ fin
  | _=>cases h2
 ·cases rx;cases ry
  obtain⟨its,r1,p1,_⟩:=I.tuple h1
  obtain⟨y1fa,r2,p2,_⟩:=I.tuple h2
  refine SeqAt.RcNeAt.tuples (show s.heap.IsTuple a its.toArray from p1) (show s.heap.IsTuple c y1fa.toArray from p2) hu0 (hel r1 r2 he) _ _ _ _ ?_
  rw [ze,ze,<- r1.length,<- r2.length]
  exact⟨.bl _,H,I,rfl,q⟩
 ·cases rx;cases ry
  obtain⟨its,r1,p1,_⟩:=I.list h1
  obtain⟨y1fa,r2,p2,_⟩:=I.list h2
  have l1:=r1.length
  have l2:=r2.length
  rcases h3 with⟨hn,rfl⟩| ⟨hn,e,he,rfl⟩
  ·exact SeqAt.RcNeAt.lists_lengths p1.isList p2.isList (by simp;lia) hu0 X.prog X.w X.xe _ ⟨.bl _,H,I,rfl,q⟩
  ·refine SeqAt.RcNeAt.lists p1.isList p2.isList (by simp;lia) hu0 (hel r1 r2 he) X.prog X.w X.xe _ ?_
   rw [ze,<- l1]
   exact⟨.bl _,H,I,rfl,q⟩
end
end
section
section
variable {X:Cx}{K:W.Frag}{κ:Str->Addr}{H:Hp}
noncomputable def pY(f:I->I->Option Bool):List I->List I->Option Bool
 | [],[]=>some true
 | x::xs,y::ys=>match f x y,pY f xs ys with
  | some b,some c=>some (b&&c)
  | _,_=>none
 | [],_::_=>some false
 | _::_,[]=>some false
noncomputable def lF:I->Option (List I)
 | .tup xs=>some xs
 | .con xs=>some xs
 | _=>none
noncomputable def c7:I->Bool
 | .non=>true
 | .bl _=>true
 | .int _=>true
 | .str _=>true
 | _=>false
noncomputable def eI:I->I->Bool
 | .non,.non=>true
 | .bl a,.bl b=>a == b
 | .bl a,.int b=>(if a then 1 else 0) == b
 | .int a,.bl b=>a == (if b then 1 else 0)
 | .int a,.int b=>a == b
 | .str a,.str b=>a == b
 | _,_=>false
noncomputable def mQ:Nat->I->I->Option Bool
 | 0,x,y=>if c7 x&&c7 y then some (eI x y) else if ((lF x).isSome&&c7 y)||(c7 x&&(lF y).isSome) then some false else none
 | n+1,x,y=>if c7 x&&c7 y then some (eI x y) else if ((lF x).isSome&&c7 y)||(c7 x&&(lF y).isSome) then some false else match lF x,lF y with
  | some xs,some ys=>pY (mQ n) xs ys
  | _,_=>none
variable {ι:List Addr}
theorem gi{v:V}{x:I}(r:RpI K ι H v x)(h:c7 x=true):a9 v=true:=by cases r<;>first|rfl|cases h
noncomputable def vI:V->I
 | .bl b=>.bl b
 | .int i=>.int i
 | .str x=>.str x
 | _=>.non
theorem mR(r:RpI K ι H v x)(h:a9 v=true):x=vI v:=by
 cases r<;>first|rfl|cases h
theorem Dp(h:a9 v=true)(h':a9 w=true):eI (vI v) (vI w)=fY v w:=by
 cases v<;>first|cases h;done|(cases w<;>first|rfl|cases h')
theorem pZ(r:RpI K ι H v x)(r':RpI K ι H w y)(h:c7 x=true)(h':c7 y=true):eI x y=fY v w:=by
 have h:=gi r h
 have h':=gi r' h'
 rw [mR r h,mR r' h',Dp h h']
theorem mS{v:V}{x:I}{xs:List I}(r:RpI K ι H v x)(h:lF x=some xs):∃a vs,v=.ref a/\bt K H a vs/\y5a K ι H vs xs:=by
 cases r with
 | tup h1 h2=>cases h;exact⟨_,_,rfl,bt.of h1,h2⟩
 | con h1 h2=>cases h;exact⟨_,_,rfl,bt.kon h1,h2⟩
 | _=>cases h
theorem p4{f:I->I->Option Bool}{E:V->V->Bool->Prop}(hf:∀{v w x y b},RpI K ι H v x->RpI K ι H w y->f x y=some b->E v w b):∀{vs ws:List V} {xs ys:List I} {b:Bool},y5a K ι H vs xs->y5a K ι H ws ys->pY f xs ys=some b ->
  ∃e:Nat->Bool,(∀(j:Nat) u w,vs[j]?=some u->ws[j]?=some w->E u w (e j))/\b=((List.range (min vs.length ws.length)).all e&&vs.length == ws.length)
 | [],[],_,_,b,.nil,.nil,h=>by cases h;exact⟨λ_=>true,λj u w e=>by simp at e,rfl⟩
 | [],_::_,_,_,b,.nil,.cons _ _,h=>by cases h;exact⟨λ_=>true,λj u w e=>by simp at e,by simp⟩
 | _::_,[],_,_,b,.cons _ _,.nil,h=>by cases h;exact⟨λ_=>true,λj u w _ e=>by simp at e,by simp⟩
 | v::vs,w::ws,_,_,b,.cons r rs,.cons r' rs',h=>by
  unfold pY at h
  split at h
  ·rename_i b0 c h0 h1
   cases h
   obtain⟨e',he,rfl⟩:=p4 hf rs rs' h1
   refine⟨λj=>match j with|0=>b0|j+1=>e' j,λj u w' e1 e2=>?_,?_⟩
   ·cases j with
    | zero=>simp at e1 e2;subst e1;subst e2;exact hf r r' h0
    | succ j=>exact he j u w' (by simpa using e1) (by simpa using e2)
   ·have e3:min (v::vs).length (w::ws).length=min vs.length ws.length+1:=by simp only [z20];lia
    rw [e3,uH]
    have e4:((v::vs).length == (w::ws).length)=(vs.length == ws.length):=by simp
    rw [e4,Bool.and_assoc]
  ·cases h
theorem vJ:∀{n:Nat} {v w:V} {x y:I} {b:Bool},RpI K ι H v x->RpI K ι H w y->mQ n x y=some b->kK K H n v w b:=by
 have base:∀{v w:V} {x y:I} {b:Bool} {o:Option Bool},RpI K ι H v x->RpI K ι H w y->(if c7 x&&c7 y then some (eI x y) else if ((lF x).isSome&&c7 y)||(c7 x&&(lF y).isSome) then some false else o)=some b->n8 K H v w b∨o=some b:=λ{v w x y b o} r r' h=>by
  split at h
  ·rename_i hf
   rw [z24] at hf
   cases h
   exact .inl (.inl ⟨gi r hf.1,gi r' hf.2,pZ r r' hf.1 hf.2⟩)
  ·split at h
   ·rename_i hf
    cases h
    rw [Bool.or_eq_true,z24,z24] at hf
    rcases hf with⟨h1,h2⟩| ⟨h1,h2⟩
    ·obtain⟨xs,hx⟩:=Option.isSome_iff_exists.mp h1
     obtain⟨a,vs,e1,h3,_⟩:=mS r hx
     exact .inl (.inr (.inl ⟨⟨a,vs,e1,h3⟩,gi r' h2,rfl⟩))
    ·obtain⟨xs,hx⟩:=Option.isSome_iff_exists.mp h2
     obtain⟨a,vs,e1,h3,_⟩:=mS r' hx
     exact .inl (.inr (.inr ⟨gi r h1,⟨a,vs,e1,h3⟩,rfl⟩))
   ·exact .inr h
 intro n
 induction n with
 | zero =>
  intro v w x y b r r' h
  unfold mQ at h
  rcases base r r' h with q|q
  ·exact q
  ·cases q
 | succ n ih =>
  intro v w x y b r r' h
  unfold mQ at h
  rcases base r r' h with q|q
  ·exact .inl q
  ·split at q
   ·rename_i xs ys hx hy
    obtain⟨a,vs,e1,h1,r1⟩:=mS r hx
    obtain⟨c,ws,e2,h2,r2⟩:=mS r' hy
    obtain⟨e,he,hb⟩:=p4 (λr r' h=>ih r r' h) r1 r2 q
    exact .inr ⟨a,c,vs,ws,e,e1,e2,h1,h2,he,hb⟩
   ·cases q
theorem Dq(h:ji x y=true)(hf:a9 x=true):fY x y=decide (x=y):=by
 cases x<;>first|exact Bool.noConfusion hf|(cases y<;>first|rfl|exact Bool.noConfusion h|skip)
 ·rename_i a b
  show (a == b)=_
  by_cases e:a=b
  ·subst e;simp
  ·rw [beq_eq_false_iff_ne.mpr e,decide_eq_false (λz=>e (by injection z))]
 ·rename_i a b
  show (a == b)=_
  by_cases e:a=b
  ·subst e;simp
  ·rw [beq_eq_false_iff_ne.mpr e,decide_eq_false (λz=>e (by injection z))]
 ·rename_i a b
  show (a == b)=_
  by_cases e:a=b
  ·subst e;simp
  ·rw [beq_eq_false_iff_ne.mpr e,decide_eq_false (λz=>e (by injection z))]
noncomputable def mT:I->I->Bool
 | .bl _,.int _=>true
 | .int _,.bl _=>true
 | _,_=>false
noncomputable def vK(Z:De)(G:List M)(a b:Ev):Option Bool :=
 match gZ a,gZ b with
 | some x,some y=>if mT x y then none else match mQ 41 x y with
  | some r=>some r
  | none=>match pk Z G a,pk Z G b with
   | some (.lst xs),some (.lst ys)=>pY (mQ 40) xs ys
   | _,_=>none
 | _,_=>match pk Z G a,pk Z G b with
  | some (.lst xs),some (.lst ys)=>pY (mQ 40) xs ys
  | _,_=>none
noncomputable def cV:List Ev->Mo Ev:=λes Z G=>match es with
 | [a,b]=>match vK Z G a b with
  | some r=>some (.v (.im (.bl r)),Z,G)
  | none=>none
 | _=>none
noncomputable def gP:List Ev->Mo Ev:=λes Z G=>match es with
 | [a,b]=>match vK Z G a b with
  | some r=>some (.v (.im (.bl (!r))),Z,G)
  | none=>none
 | _=>none
theorem Dr(h:a9 v=true)(h':a9 u=true)(hm:¬ mT (vI v) (vI u)=true):ji v u=true:=by
 cases v<;>first|cases h;done|(cases u<;>first|rfl|cases h';done|exact absurd rfl hm)
theorem Ds(r:RpI K ι H v x)(r':RpI K ι H u y)(h:a9 v=true)(h':a9 u=true)(hm:¬ mT x y=true):ji v u=true:=by
 rw [mR r h,mR r' h'] at hm
 exact Dr h h' hm
theorem vL{σ:L2.St}{Z:De}{G:List M}{a b:Ev}{v u:V}{r:Bool}(A:Args K κ ι H σ Z G [a,b] [v,u])(h:vK Z G a b=some r):rJ K H v u r:=by
 have lists:(match pk Z G a,pk Z G b with|some (.lst xs),some (.lst ys)=>pY (mQ 40) xs ys|_,_=>none)=some r->rJ K H v u r:=λh=>by
  split at h
  ·rename_i xs ys hx hy
   obtain⟨p,e1,vs,h1,r1⟩:=A.pk (j:=0) rfl rfl hx
   obtain⟨q,e2,ws,h2,r2⟩:=A.pk (j:=1) rfl rfl hy
   obtain⟨e,he,hb⟩:=p4 (λr r' h=>vJ r r' h) r1 r2 h
   refine .inr (.inr (.inr (.inr ⟨p,q,vs,ws,e1,e2,bB.of h1,bB.of h2,?_⟩)))
   by_cases hl:vs.length=ws.length
   ·refine .inr ⟨hl,e,he,?_⟩
    rw [hb,<- hl,Nat.min_self];simp
   ·refine .inl ⟨hl,?_⟩
    rw [hb]
    have:(vs.length == ws.length)=false:=by simpa using hl
    rw [this,Bool.and_false]
  ·cases h
 unfold vK at h
 split at h
 ·rename_i x y hx hy
  split at h
  ·cases h
  ·rename_i hm
   split at h
   ·rename_i r' hr
    cases h
    have ra:RpI K ι H v x:=by
     cases a with
     | s i=>cases hx
     | v z=>cases z with
      | ow m=>cases hx
      | im d=>cases hx;exact A.im (j:=0) rfl rfl
    have rb:RpI K ι H u y:=by
     cases b with
     | s i=>cases hy
     | v z=>cases z with
      | ow m=>cases hy
      | im d=>cases hy;exact A.im (j:=1) rfl rfl
    rcases vJ ra rb hr with q|⟨a',c,xs,ys,e,e1,e2,h1,h2,he,hb⟩
    ·rcases q with⟨h1,h2,rfl⟩| ⟨h1,h2,rfl⟩| ⟨h1,h2,rfl⟩
     ·have sc:=Ds ra rb h1 h2 hm
      exact .inl ⟨sc,Dq sc h1⟩
     ·exact .inr (.inl ⟨h1,h2,rfl⟩)
     ·exact .inr (.inr (.inl ⟨h1,h2,rfl⟩))
    ·exact .inr (.inr (.inr (.inl ⟨a',c,xs,ys,e,e1,e2,h1,h2,he,hb⟩)))
   ·exact lists h
 ·exact lists h
theorem vM:aF K κ (r2 λx y H Q=>∃b,rJ K H x y b/\Q (.bl b) H) cV:=by
 intro ι H σ Z G es vs e Z' G' Q a h k
 unfold cV at h
 split at h
 ·split at h
  ·rename_i r hr
   obtain⟨v,u,rfl⟩:=bV a.len
   exact⟨_,_,rfl,r,vL a hr,k _ _ _ (b8 h (a6 a (.bl _)))⟩
  ·cases h
 ·cases h
theorem Dt:aF K κ (r2 λx y H Q=>∃b,rJ K H x y b/\Q (.bl (!b)) H) gP:=by
 intro ι H σ Z G es vs e Z' G' Q a h k
 unfold gP at h
 split at h
 ·split at h
  ·rename_i r hr
   obtain⟨v,u,rfl⟩:=bV a.len
   exact⟨_,_,rfl,r,vL a hr,k _ _ _ (b8 h (a6 a (.bl _)))⟩
  ·cases h
 ·cases h
end
section
variable {X:Cx}{κ:Str->Addr}{a b:Expr}{fa fb:Mo Ev}{pos:Pos}{k:Nat}
theorem kL(hr:y58 k X.A):X.A.units+50<cLine:=by have:=hr.units;lia
theorem mU(hr:y58 k X.A)(ha:LE X κ a fa)(hb:LE X κ b fb):LE X κ (.Compare a [.Eq] [b] pos) (ak cV fa fb):=C9 (vH (kL hr)) vM ha hb (jj _)
theorem cL(hr:y58 k X.A)(ha:LE X κ a fa)(hb:LE X κ b fb):LT X κ (.Compare a [.Eq] [b] pos) (ax (ak cV fa fb)):=gI (vH (kL hr)) vM ha hb (jj _)
theorem eU(hr:y58 k X.A)(ha:LE X κ a fa)(hb:LE X κ b fb):LT X κ (.Compare a [.NotEq] [b] pos) (ax (ak gP fa fb)):=gI (Dn (kL hr)) Dt ha hb (jj _)
theorem mV(hr:y58 k X.A)(ha:LE X κ a fa)(hb:LE X κ b fb):LT X κ (.Compare a [.Lt] [b] pos) (ax (ak n5 fa fb)):=gI tq (jB λi j d h ι H=>by cases h;exact .bl _) ha hb (jj _)
theorem mW(hr:y58 k X.A)(ha:LE X κ a fa)(hb:LE X κ b fb):LT X κ (.Compare a [.Gt] [b] pos) (ax (ak rH fa fb)):=gI tu (jB λi j d h ι H=>by cases h;exact .bl _) ha hb (jj _)
theorem Du(hr:y58 k X.A)(ha:LE X κ a fa)(hb:LE X κ b fb):LT X κ (.Compare a [.GtE] [b] pos) (ax (ak pW fa fb)):=gI tw (jB λi j d h ι H=>by cases h;exact .bl _) ha hb (jj _)
end
end
section
section
variable {X:Cx}{K:W.Frag}{κ:Str->Addr}{ι:List Addr}{H:Hp}
theorem y5a.at{vs:List V}{xs:List I}{i:Int}{d:I}(r:y5a K ι H vs xs)(h:dN xs i=some d):∃v,dN vs i=some v/\RpI K ι H v d:=by
 unfold dN at h ⊢
 rw [r.len]
 cases q:kd xs.length i with
 | none=>rw [q] at h;cases h
 | some j =>
  rw [q] at h
  obtain⟨v,hv,rv⟩:=r.get h
  exact⟨v,hv,rv⟩
noncomputable def kf:List Ev->Mo Ev:=λes Z G=>match es with
 | [a,.v (.im (.int i))]=>match sq Z G a with
  | some xs=>match dN xs i with
   | some d=>some (.v (.im d),Z,G)
   | none=>none
  | none=>match a with
   | .v (.im (.str z))=>match dN z.cps.toList i with
    | some c=>if z.length≤1000000 then some (.v (.im (.str ⟨#[c]⟩)),Z,G) else none
    | none=>none
   | _=>none
 | _=>none
theorem Dv:aF K κ (r2 (BO K)) kf:=by
 intro ι H σ Z G es vs e Z' G' Q a h k
 unfold kf at h
 split at h
 ·rename_i x i
  split at h
  ·rename_i xs hx
   split at h
   ·rename_i d hd
    obtain⟨v,u,rfl⟩:=bV a.len
    obtain⟨p,ys,e1,h1,r⟩:=a.sq (j:=0) rfl rfl hx
    cases dO (a.im (j:=1) rfl rfl)
    subst e1
    obtain⟨w,hw,rw'⟩:=r.at hd
    rcases h1 with h1|h1
    ·exact⟨_,_,rfl,.inl ⟨p,ys,i,w,rfl,rfl,h1,hw,k _ _ _ (b8 h (a6 a rw'))⟩⟩
    ·exact⟨_,_,rfl,.inr (.inl ⟨p,ys,i,w,rfl,rfl,h1,hw,k _ _ _ (b8 h (a6 a rw'))⟩)⟩
   ·cases h
  ·split at h
   ·rename_i z _
    split at h
    ·rename_i c hc
     split at h
     ·rename_i hz
      obtain⟨v,u,rfl⟩:=bV a.len
      cases cz (a.im (j:=0) rfl rfl)
      cases dO (a.im (j:=1) rfl rfl)
      exact⟨_,_,rfl,.inr (.inr ⟨z,i,c,rfl,rfl,z21 hz (by decide),hc,k _ _ _ (b8 h (a6 a (.str _)))⟩)⟩
     ·cases h
    ·cases h
   ·cases h
 ·cases h
noncomputable def hV:I->Option aW
 | .int i=>some (.inl i)
 | .str x=>some (.inr x)
 | _=>none
noncomputable def kM:List I->Option (List aW)
 | []=>some []
 | x::xs=>match hV x,kM xs with
  | some k,some ks=>some (k::ks)
  | _,_=>none
noncomputable def kN:I->Option (List aW)
 | .tup xs=>kM xs
 | _=>none
theorem mX{v:V}{x:I}{k:aW}(r:RpI K ι H v x)(h:hV x=some k):v=kV k:=by
 cases r<;>first|(cases h;rfl)|cases h
theorem vN:∀{vs:List V} {xs:List I} {ks:List aW},y5a K ι H vs xs->kM xs=some ks->vs=ks.map kV
 | [],[],_,.nil,h=>by cases h;rfl
 | v::vs,x::xs,ks,.cons r rs,h=>by
  unfold kM at h
  split at h
  ·rename_i k ks' h1 h2
   cases h
   rw [z19,mX r h1,vN rs h2]
  ·cases h
theorem vO{v:V}{x:I}{ks:List aW}(r:RpI K ι H v x)(h:kN x=some ks):∃b,v=.ref b/\H b=some (.tup (ks.map kV)):=by
 cases r with
 | tup h1 h2=>exact⟨_,rfl,by rw [h1,vN h2 h]⟩
 | _=>cases h
noncomputable def dR{κ':Type}[DecidableEq κ']:List (κ'×I)->κ'->Option I
 | [],_=>none
 | (g,x)::r,k=>if g=k then some x else dR r k
noncomputable def kO{κ':Type}[DecidableEq κ'](kvs:List (κ'×I))(k:κ'):Bool:=kvs.any λkv=>decide (kv.1=k)
noncomputable def eJ{κ':Type}[DecidableEq κ'](kvs:List (κ'×I))(k:κ')(d:I):List (κ'×I):=if kO kvs k then kvs.map (λkv=>if kv.1=k then (kv.1,d) else kv) else kvs++[(k,d)]
theorem p5{κ':Type}[DecidableEq κ']{k:κ'}:∀{ws:List (κ'×V)} {kvs:List (κ'×I)},ws.map (·.1)=kvs.map (·.1)->y5a K ι H (ws.map (·.2)) (kvs.map (·.2)) ->
  (∀d,dR kvs k=some d->∃v,dn ws k=some v/\RpI K ι H v d)/\(dR kvs k=none->dn ws k=none)
 | [],[],_,_=>⟨λd h=>(by cases h),λ_=>rfl⟩
 | [],_::_,e,_=>by cases e
 | _::_,[],e,_=>by cases e
 | (g,v)::ws,(g',x)::kvs,e,r=>by
  simp only [z19,List.cons.injEq] at e
  obtain⟨e1,e2⟩:=e
  subst e1
  cases r with
  | cons r rs =>
   obtain⟨p,q⟩:=p5 e2 rs
   by_cases hg:g=k
   ·rw [l6 hg]
    unfold dR
    rw [if_pos hg]
    exact⟨λd h=>(by cases h;exact⟨v,rfl,r⟩),λh=>(by cases h)⟩
   ·rw [l7 hg]
    unfold dR
    rw [if_neg hg]
    exact⟨p,q⟩
theorem hW{κ' α β:Type}[DecidableEq κ']{k:κ'}:∀{ws:List (κ'×α)} {kvs:List (κ'×β)},ws.map (·.1)=kvs.map (·.1)->(ws.any λkv=>decide (kv.1=k))=(kvs.any λkv=>decide (kv.1=k))
 | [],[],_=>rfl
 | [],_::_,e=>by cases e
 | _::_,[],e=>by cases e
 | (g,v)::ws,(g',x)::kvs,e=>by
  simp only [z19,List.cons.injEq] at e
  obtain⟨e1,e2⟩:=e
  subst e1
  rw [List.any_cons,List.any_cons,hW e2]
theorem vP{κ':Type}[DecidableEq κ']{k:κ'}{v:V}{d:I}(rv:RpI K ι H v d):∀{ws:List (κ'×V)} {kvs:List (κ'×I)},ws.map (·.1)=kvs.map (·.1)->y5a K ι H (ws.map (·.2)) (kvs.map (·.2)) ->
  (ws.map λkv=>if kv.1=k then (kv.1,v) else kv).map (·.1)=(kvs.map λkv=>if kv.1=k then (kv.1,d) else kv).map (·.1)/\y5a K ι H ((ws.map λkv=>if kv.1=k then (kv.1,v) else kv).map (·.2)) ((kvs.map λkv=>if kv.1=k then (kv.1,d) else kv).map (·.2))
 | [],[],_,_=>⟨rfl,.nil⟩
 | [],_::_,e,_=>by cases e
 | _::_,[],e,_=>by cases e
 | (g,w)::ws,(g',x)::kvs,e,r=>by
  simp only [z19,List.cons.injEq] at e
  obtain⟨e1,e2⟩:=e
  subst e1
  cases r with
  | cons r rs =>
   obtain⟨p,q⟩:=vP rv e2 rs
   by_cases hg:g=k
   ·simp only [z19,if_pos hg]
    exact⟨by rw [p],.cons rv q⟩
   ·simp only [z19,if_neg hg]
    exact⟨by rw [p],.cons r q⟩
theorem p6{κ':Type}[DecidableEq κ']{k:κ'}{v:V}{d:I}{ws:List (κ'×V)}{kvs:List (κ'×I)}(rv:RpI K ι H v d)(e:ws.map (·.1)=kvs.map (·.1))(r:y5a K ι H (ws.map (·.2)) (kvs.map (·.2))) :
  (cE ws k v).map (·.1)=(eJ kvs k d).map (·.1)/\y5a K ι H ((cE ws k v).map (·.2)) ((eJ kvs k d).map (·.2)):=by
 unfold cE eJ kO
 rw [hW e]
 split
 ·exact vP rv e r
 ·rw [z29,z29,z29,z29,e]
  exact⟨rfl,r.app (.cons rv .nil)⟩
noncomputable def kP(Z:De)(G:List M)(a:Ev)(x:I):Option (Option I):=match pk Z G a with
 | some (.dic kvs)=>(hV x).map λk=>dR kvs k
 | some (.dit kvs)=>(kN x).map λk=>dR kvs k
 | _=>none
theorem p7{σ:L2.St}{Z:De}{G:List M}{es:List Ev}{vs:List V}{j j':Nat}{a:Ev}{x:I}{v u:V}{o:Option I}(A:Args K κ ι H σ Z G es vs)(h1:es[j]?=some a)(h2:vs[j]?=some v)(h3:es[j']?=some (.v (.im x)))(h4:vs[j']?=some u)
  (h:kP Z G a x=some o):∃b ov,v=.ref b/\ye H b u ov/\(∀d,o=some d->∃w,ov=some w/\RpI K ι H w d)/\(o=none->ov=none):=by
 have ru:=A.im h3 h4
 unfold kP at h
 split at h
 ·rename_i kvs hp
  obtain⟨b,e1,ws,hw,e2,r⟩:=A.pk h1 h2 hp
  cases hk:hV x with
  | none=>rw [hk] at h;cases h
  | some k =>
   rw [hk] at h
   cases h
   have eu:=mX ru hk
   subst eu
   obtain⟨p,q⟩:=p5 e2 r
   exact⟨b,_,e1,ye.k hw,p,q⟩
 ·rename_i kvs hp
  obtain⟨b,e1,ws,hw,e2,r⟩:=A.pk h1 h2 hp
  cases hk:kN x with
  | none=>rw [hk] at h;cases h
  | some k =>
   rw [hk] at h
   cases h
   obtain⟨c,eu,hc⟩:=vO ru hk
   subst eu
   obtain⟨p,q⟩:=p5 e2 r
   exact⟨b,_,e1,ye.t hw hc,p,q⟩
 ·cases h
noncomputable def vQ:List Ev->Mo Ev:=λes Z G=>match es with
 | [a,.v (.im x)]=>match kP Z G a x with
  | some (some d)=>some (.v (.im d),Z,G)
  | _=>none
 | _=>none
theorem Dw:aF K κ (r2 λx y H2 Q=>∃a v,x=.ref a/\ye H2 a y (some v)/\Q v H2) vQ:=by
 intro ι H σ Z G es vs e Z' G' Q a h k
 unfold vQ at h
 split at h
 ·split at h
  ·rename_i d hd
   obtain⟨v,u,rfl⟩:=bV a.len
   obtain⟨b,ov,e1,g,p,_⟩:=p7 a (j:=0) (j':=1) rfl rfl rfl rfl hd
   obtain⟨w,rfl,rw'⟩:=p d rfl
   exact⟨_,_,rfl,b,w,e1,g,k _ _ _ (b8 h (a6 a rw'))⟩
  ·cases h
 ·cases h
noncomputable def aH:List Ev->Mo Ev:=eP kf vQ
theorem vR{fo fi:Mo Ev}{σ:L2.St}{Q:VK}(h:bc K κ (ak aH fo fi) σ H Q):lS (BO K) (bc K κ fo) (bc K κ fi) σ H Q∨tX (bc K κ fo) (bc K κ fi) σ H Q:=by
 obtain⟨ι,Z,G,e,Z',G',s,eq,k⟩:=h
 obtain⟨x,Z1,G1,e1,eq1⟩:=cD eq
 obtain⟨y,Z2,G2,e2,eq2⟩:=cD eq1
 have eq2:eP kf vQ [x,y] Z2 G2=some (e,Z',G'):=eq2
 unfold eP at eq2
 split at eq2
 ·rename_i z hz
  cases eq2
  refine .inl (iO Dv ⟨ι,Z,G,_,_,_,s,?_,k⟩)
  unfold ak
  rw [nW e1,nW e2];exact hz
 ·refine .inr (iO Dw ⟨ι,Z,G,_,_,_,s,?_,k⟩)
  unfold ak
  rw [nW e1,nW e2];exact eq2
noncomputable def rK(neg:Bool):List Ev->Mo Ev:=λes Z G=>match es with
 | [.v (.im x),b]=>match sq Z G b with
  | some xs=>if c7 x&&xs.all c7 then some (.v (.im (.bl (if neg then !(xs.any λy=>eI y x) else xs.any λy=>eI y x))),Z,G) else none
  | none=>none
 | _=>none
noncomputable def jF(neg:Bool):List Ev->Mo Ev:=λes Z G=>match es with
 | [.v (.im x),b]=>match kP Z G b x with
  | some o=>some (.v (.im (.bl (if neg then !o.isSome else o.isSome))),Z,G)
  | none=>none
 | _=>none
theorem Dx:aF K κ (r2 λy x H2 Q=>∃a o,x=.ref a/\ye H2 a y o/\Q (.bl o.isSome) H2) (jF false):=by
 intro ι H σ Z G es vs e Z' G' Q a h k
 unfold jF at h
 split at h
 ·split at h
  ·rename_i o ho
   obtain⟨v,u,rfl⟩:=bV a.len
   obtain⟨b,ov,e1,g,p,q⟩:=p7 a (j:=1) (j':=0) rfl rfl rfl rfl ho
   have:ov.isSome=o.isSome:=by
    cases o with
    | none=>rw [q rfl];rfl
    | some d=>obtain⟨w,rfl,_⟩:=p d rfl;rfl
   refine⟨_,_,rfl,b,ov,e1,g,?_⟩
   rw [this]
   exact k _ _ _ (b8 h (a6 a (.bl _)))
  ·cases h
 ·cases h
theorem Dy:aF K κ (r2 λy x H2 Q=>∃a o,x=.ref a/\ye H2 a y o/\Q (.bl (!o.isSome)) H2) (jF true):=by
 intro ι H σ Z G es vs e Z' G' Q a h k
 unfold jF at h
 split at h
 ·split at h
  ·rename_i o ho
   obtain⟨v,u,rfl⟩:=bV a.len
   obtain⟨b,ov,e1,g,p,q⟩:=p7 a (j:=1) (j':=0) rfl rfl rfl rfl ho
   have:ov.isSome=o.isSome:=by
    cases o with
    | none=>rw [q rfl];rfl
    | some d=>obtain⟨w,rfl,_⟩:=p d rfl;rfl
   refine⟨_,_,rfl,b,ov,e1,g,?_⟩
   rw [this]
   exact k _ _ _ (b8 h (a6 a (.bl _)))
  ·cases h
 ·cases h
end
section
variable {X:Cx}{κ:Str->Addr}{a b:Expr}{fa fb:Mo Ev}{pos:Pos}{k:Nat}
theorem aI(hr:y58 k X.A)(ha:LE X κ a fa)(hb:LE X κ b fb)(hs:fu b:=by exact (λ_ _=>rfl)):LE X κ (.Subscript a b pos) (ak aH fa fb):=.mk (aV (oy (uf BP ha.pe hb.pe hs) (Bt (mm hr) ha.pe hb.pe hs)) λ_ _ _=>vR)
end
end
section
section
variable {X:Cx}{K:W.Frag}{κ:Str->Addr}{ι:List Addr}{H:Hp}
theorem p8{v:V}{x:I}(r:RpI K ι H v x)(hx:c7 x=true):∀{vs:List V} {xs:List I},y5a K ι H vs xs->xs.all c7=true->vs.all a9=true/\(xs.any λy=>eI y x)=vs.any λy=>fY y v
 | [],[],.nil,_=>⟨rfl,rfl⟩
 | w::vs,y::xs,.cons r' rs,h=>by
  rw [List.all_cons,z24] at h
  obtain⟨p,q⟩:=p8 r hx rs h.2
  rw [List.all_cons,List.any_cons,List.any_cons,p,q,pZ r' r h.1 hx,gi r' h.1]
  exact⟨rfl,rfl⟩
theorem Dz:aF K κ (r2 (yW K false)) (rK false):=by
 intro ι H σ Z G es vs e Z' G' Q a h k
 unfold rK at h
 split at h
 ·rename_i x b
  split at h
  ·rename_i xs hx
   split at h
   ·rename_i hf
    rw [z24] at hf
    obtain⟨v,u,rfl⟩:=bV a.len
    obtain⟨p,ys,e1,h1,r⟩:=a.sq (j:=1) rfl rfl hx
    have rx:=a.im (j:=0) rfl rfl
    obtain⟨p1,p2⟩:=p8 rx hf.1 r hf.2
    refine⟨_,_,rfl,p,ys,e1,h1,gi rx hf.1,p1,?_⟩
    have:L2.inV v ys=xs.any λy=>eI y x:=p2.symm
    rw [this]
    exact k _ _ _ (b8 h (a6 a (.bl _)))
   ·cases h
  ·cases h
 ·cases h
theorem DA:aF K κ (r2 (yW K true)) (rK true):=by
 intro ι H σ Z G es vs e Z' G' Q a h k
 unfold rK at h
 split at h
 ·rename_i x b
  split at h
  ·rename_i xs hx
   split at h
   ·rename_i hf
    rw [z24] at hf
    obtain⟨v,u,rfl⟩:=bV a.len
    obtain⟨p,ys,e1,h1,r⟩:=a.sq (j:=1) rfl rfl hx
    have rx:=a.im (j:=0) rfl rfl
    obtain⟨p1,p2⟩:=p8 rx hf.1 r hf.2
    refine⟨_,_,rfl,p,ys,e1,h1,gi rx hf.1,p1,?_⟩
    have:L2.inV v ys=xs.any λy=>eI y x:=p2.symm
    rw [this]
    exact k _ _ _ (b8 h (a6 a (.bl _)))
   ·cases h
  ·cases h
 ·cases h
noncomputable def vS:List Ev->Mo Ev:=eP (rK false) (jF false)
noncomputable def p9:List Ev->Mo Ev:=eP (rK true) (jF true)
theorem vT{p p':List Ev->Mo Ev}{r r':R2}{fo fi:Mo Ev}{σ:L2.St}{Q:VK}(h1:aF K κ (r2 r) p)(h2:aF K κ (r2 r') p')(h:bc K κ (ak (eP p p') fo fi) σ H Q):lS r (bc K κ fo) (bc K κ fi) σ H Q∨lS r' (bc K κ fo) (bc K κ fi) σ H Q:=by
 obtain⟨ι,Z,G,e,Z',G',s,eq,k⟩:=h
 obtain⟨x,Z1,G1,e1,eq1⟩:=cD eq
 obtain⟨y,Z2,G2,e2,eq2⟩:=cD eq1
 have eq2:eP p p' [x,y] Z2 G2=some (e,Z',G'):=eq2
 unfold eP at eq2
 split at eq2
 ·rename_i z hz
  cases eq2
  refine .inl (iO h1 ⟨ι,Z,G,_,_,_,s,?_,k⟩)
  unfold ak
  rw [nW e1,nW e2];exact hz
 ·refine .inr (iO h2 ⟨ι,Z,G,_,_,_,s,?_,k⟩)
  unfold ak
  rw [nW e1,nW e2];exact eq2
end
section
variable {X:Cx}{κ:Str->Addr}{a b:Expr}{fa fb:Mo Ev}{pos:Pos}{k:Nat}
theorem DB(hr:y58 k X.A)(ha:LE X κ a fa)(hb:LE X κ b fb)(hm:behindInMarks .In b=false:=by rfl):LE X κ (.Compare a [.In] [b] pos) (ak vS fa fb):=.mk (aV (oy (tE BV ha.pe hb.pe hm) (oo (Bu (mm hr) ha.pe hb.pe) hm)) λ_ _ _=>vT Dz Dx)
theorem vU(hr:y58 k X.A)(ha:LE X κ a fa)(hb:LE X κ b fb)(hm:behindInMarks .NotIn b=false:=by rfl):LT X κ (.Compare a [.NotIn] [b] pos) (ax (ak p9 fa fb)):=.mk (iS (vq (oF BW ha.pe hb.pe hm) (oq (Bv (mm hr) ha.pe hb.pe) hm)) λ_ _ _ h=>vT DA Dy (kz h))
end
section
variable {K:W.Frag}{κ:Str->Addr}
noncomputable def bD:List Ev->Mo Ev:=λes Z G=>match es with
 | [a]=>match sq Z G a with
  | some xs=>some (.v (.im (.int xs.length)),Z,G)
  | none=>match a with
   | .v (.im (.str z))=>if z.length≤1000000 then some (.v (.im (.int z.length)),Z,G) else none
   | a=>match pk Z G a with
    | some (.dic kvs)=>some (.v (.im (.int kvs.length)),Z,G)
    | _=>none
 | _=>none
theorem DD:aF K κ (λxs H Q=>(∃p ys,xs=[.ref p]/\(bB K H p ys∨bt K H p ys)/\Q (.int ys.length) H)∨((∃z,xs=[.str z]/\z.length≤sizeLine/\Q (.int z.length) H)∨(∃a kvs,xs=[V.ref a]/\H a=some (.dK kvs)/\Q (.int kvs.length) H))) bD:=by
 intro ι H σ Z G es vs e Z' G' Q a h k
 unfold bD at h
 split at h
 ·rename_i x
  split at h
  ·rename_i xs hx
   obtain⟨v,rfl⟩:=b5 a.len
   obtain⟨p,ys,e1,h1,r⟩:=a.sq (j:=0) rfl rfl hx
   subst e1
   exact .inl ⟨p,ys,rfl,h1,by rw [r.len];exact k _ _ _ (b8 h (a6 a (.int _)))⟩
  ·split at h
   ·split at h
    ·rename_i hz
     obtain⟨v,rfl⟩:=b5 a.len
     cases cz (a.im (j:=0) rfl rfl)
     exact .inr (.inl ⟨_,rfl,z21 hz (by decide),k _ _ _ (b8 h (a6 a (.int _)))⟩)
    ·cases h
   ·split at h
    ·rename_i kvs hp
     obtain⟨v,rfl⟩:=b5 a.len
     obtain⟨b,e1,ws,hw,e2,r⟩:=a.pk (j:=0) rfl rfl hp
     subst e1
     have e3:kvs.length=ws.length:=by have:=congrArg List.length e2;simpa using this.symm
     exact .inr (.inr ⟨b,ws,rfl,hw,by rw [<- e3];exact k _ _ _ (b8 h (a6 a (.int _)))⟩)
    ·cases h
 ·cases h
noncomputable def cf:List Ev->Mo Ev:=λes Z G=>match es with
 | [.v (.im (.tup xs))]=>some (.v (.im (.tup xs)),Z,G)
 | [.v (.im (.con xs))]=>some (.v (.im (.con xs)),Z,G)
 | [a]=>match sq Z G a with
  | some xs=>some (.v (.im (.tup xs)),Z,G)
  | none=>none
 | _=>none
theorem vV{ι:List Addr}{H:Hp}{σ:L2.St}{Z:De}{G:List M}{e:Ev}{v:V}{xs:List I}(a:Args K κ ι H σ Z G [e] [v])(h:sq Z G e=some xs)(n1:∀ys,e≠.v (.im (.tup ys)))(n2:∀ys,e≠.v (.im (.con ys))):∃b ys,v=.ref b/\bB K H b ys/\y5a K ι H ys xs:=by
 have y181:(match B.pk Z G e with|some (.lst xs)=>some xs|_=>none)=some xs->∃b ys,v=.ref b/\bB K H b ys/\y5a K ι H ys xs:=λq=>by
  split at q
  ·rename_i xs' e'
   cases q
   obtain⟨b,e1,ys,h3,r⟩:=a.pk (j:=0) rfl rfl e'
   exact⟨b,ys,e1,bB.of h3,r⟩
  ·cases q
 cases e with
 | s i=>exact y181 h
 | v x =>
  cases x with
  | ow m=>exact y181 h
  | im d =>
   have r:=a.im (j:=0) rfl rfl
   cases r with
   | tup q r=>exact absurd rfl (n1 _)
   | con q r=>exact absurd rfl (n2 _)
   | fro q r=>cases h;exact⟨_,_,rfl,q.sq,r⟩
   | ref q=>exact y181 h
   | non=>exact y181 h
   | bl=>exact y181 h
   | int=>exact y181 h
   | str=>exact y181 h
   | ty=>exact y181 h
theorem DE:aF K κ (λxs H Q=>∃p ys,xs=[.ref p]/\((bB K H p ys/\∀l,H l=none->Q (.ref l) (aP H l (.tup ys)))∨(bt K H p ys/\Q (.ref p) H))) cf:=by
 intro ι H σ Z G es vs e Z' G' Q a h k
 unfold cf at h
 split at h
 ·obtain⟨v,rfl⟩:=b5 a.len
  have r:=a.im (j:=0) rfl rfl
  obtain⟨_,_,rfl,h1,h2⟩:=iL r
  exact⟨_,_,rfl,.inr ⟨bt.of h1,k _ _ _ (b8 h (a6 a (.tup h1 h2)))⟩⟩
 ·obtain⟨v,rfl⟩:=b5 a.len
  have r:=a.im (j:=0) rfl rfl
  obtain⟨_,_,rfl,h1,h2⟩:=oY r
  exact⟨_,_,rfl,.inr ⟨bt.kon h1,k _ _ _ (b8 h (a6 a (.con h1 h2)))⟩⟩
 ·rename_i x n1 n2
  split at h
  ·rename_i xs hx
   obtain⟨v,rfl⟩:=b5 a.len
   obtain⟨p,ys,e1,h1,r⟩:=vV a hx (λys z=>n1 ys (by rw [z])) (λys z=>n2 ys (by rw [z]))
   subst e1
   exact⟨p,ys,rfl,.inl ⟨h1,λl hl=>k _ _ _ (b8 h (pw a hl r))⟩⟩
  ·cases h
 ·cases h
noncomputable def kQ:List Ev->Mo Ev:=cv λi j=>some (.int (if j>i then j else i))
theorem DF{g:Int->Int->Int}:aF K κ (λxs H Q=>∃i j,xs=[.int i,.int j]/\Q (.int (g i j)) H) (cv λi j=>some (.int (g i j))):=by
 intro ι H σ Z G es vs e Z' G' Q a h k
 obtain⟨x,y,e1,i,j,e2,e3,q⟩:=jB (λi j d h ι H=>by cases h;exact .int _) ι H σ Z G es vs e Z' G' Q a h k
 exact⟨i,j,by rw [e1,e2,e3],q⟩
noncomputable def eV:Ev->Bool
 | .v (.im (.tup _))=>false
 | .v (.im (.con _))=>false
 | _=>true
noncomputable def jG:List Ev->Mo Ev:=λes Z G=>match es with
 | [a]=>if eV a then match sq Z G a with
  | some xs=>some (.v (.ow (.lst xs.reverse)),Z,G)
  | none=>none
  else none
 | _=>none
theorem DH:aF K κ (r1 λx H1 Q=>∃l ys,x=.ref l/\bB K H1 l ys/\∀p,H1 p=none->Q (.ref p) (aP H1 p (.lst ys.reverse))) jG:=by
 intro ι H σ Z G es vs e Z' G' Q a h k
 unfold jG at h
 split at h
 ·rename_i x
  split at h
  ·rename_i hl
   split at h
   ·rename_i xs hx
    obtain⟨v,rfl⟩:=b5 a.len
    obtain⟨p,ys,e1,h1,r⟩:=vV a hx (λys z=>by subst z;cases hl) (λys z=>by subst z;cases hl)
    subst e1
    exact⟨_,rfl,p,ys,rfl,h1,λl hl=>k _ _ _ (b8 h (iP a hl r.rev))⟩
   ·cases h
  ·cases h
 ·cases h
end
section
variable {X:Cx}{κ:Str->Addr}{a b e:Expr}{es:List Expr}{fa fb:Mo Ev}{fs:Mo (List Ev)}{p pos:Pos}{k:Nat}
theorem dq(hr:y58 k X.A)(hm:X.mg "len" = none)(ha:LA X κ (e::es) fs)(hg:Gl X "len":=by rfl)(he:kb X e es:=by rfl)(hpl:ja X pos es:=by rfl):LE X κ (.Call (.Name "len" p) (e::es) [] pos) (bd fs bD):=.mk (aV (lZ (ybe.or (ybf.or ybd)) hg hm PySem.boot_len ha.pe (by decide) (by decide) he hpl) λ_ _ _ q=>fA DD q)
theorem gj(hr:y58 k X.A)(hm:X.mg "tuple" = none)(ha:LA X κ (e::es) fs)(hg:Gl X "tuple":=by rfl)(he:kb X e es:=by rfl)(hpl:ja X pos es:=by rfl):LE X κ (.Call (.Name "tuple" p) (e::es) [] pos) (bd fs cf):=.mk (aV (oP yc5 hg hm PyProof.Rows.boot_tuple ha.pe (by decide) (by decide) he hpl) λ_ _ _ q=>fA DE q)
theorem DI(hr:y58 k X.A)(hm:X.mg "max" = none)(ha:LA X κ (e::es) fs)(hg:Gl X "max":=by rfl)(hc:X.calm=true:=by rfl)(he:kb X e es:=by rfl)(hpl:ja X pos es:=by rfl):LE X κ (.Call (.Name "max" p) (e::es) [] pos) (bd fs kQ):=.mk (aV (lZ (yc1 hc) hg hm PyProof.Rows.boot_max ha.pe (by decide) (by decide) he hpl) λ_ _ _ q=>fA DF q)
theorem DJ(hl:X.mg "list" = none)(hv:X.mg "reversed" = none)(h:LE X κ e fa)(hc:X.calm=true:=by rfl)(gl:Gl X "list":=by rfl)(gr:Gl X "reversed":=by rfl)(hs1:starEach [e] X.env=[(false,eval e X.env)]:=by rfl)
  (hs2:starEach [.Call (.Name "reversed" p2) [e] [] q2] X.env=[(false,eval (.Call (.Name "reversed" p2) [e] [] q2) X.env)]:=by rfl):LE X κ (.Call (.Name "list" p1) [.Call (.Name "reversed" p2) [e] [] q2] [] q1) (a7 jG fa):=.mk (aV (Cf hc gl hl gr hv h.pe hs1 hs2) λ_ _ _ q=>gH DH q)
end
end
section
section
variable {X:Cx}{K:W.Frag}{κ:Str->Addr}{ι:List Addr}{H:Hp}{σ:L2.St}
noncomputable def cM:Mo (List Ev):=rt []
noncomputable def ba(f:Mo Ev):Mo (List Ev):=one f
noncomputable def jH:List Ev->Option (Option Int)
 | []=>some none
 | [.v (.im (.int i))]=>some (some i)
 | _=>none
noncomputable def lG(K:W.Frag)(κ:Str->Addr)(f:Mo (List Ev)):TO:=λσ H Q=>∃ι Z G es o Z' G',SR K κ ι H σ Z G/\f Z G=some (es,Z',G')/\jH es=some o/\∀vs ι' H',After K κ σ ι (own σ Z++ι) H es Z' G' vs ι' H'->Q o H'
theorem gQ:PO X none (lG X.K κ cM):=λpins s σ H Q I h=>BF pins s σ H Q I (by
 obtain⟨ι,Z,G,es,o,Z',G',s,e,p,k⟩:=h
 cases e;cases p
 exact k _ _ _ (After.nil s))
theorem cG (h:LE X κ e f):PO X (some e) (lG X.K κ (ba f)):=λpins s σ H Q I q=>uc h.pe pins s σ H Q I (by
 obtain⟨ι,Z,G,es,o,Z',G',s,e,p,k⟩:=q
 obtain⟨x,Z1,G1,e1,e2⟩:=cD e
 cases e2
 refine⟨ι,Z,G,x,_,_,s,e1,λv ι1 H1 a=>?_⟩
 unfold jH at p
 split at p
 ·rename_i hq;cases hq
 ·rename_i i hq
  cases p
  cases hq
  have r:=a.ar.im (j:=0) rfl rfl
  cases dO (r)
  exact⟨i,rfl,k _ _ _ a⟩
 ·cases p)
noncomputable def fK(xs:List I)(lo hi:Option Int):List I:=(xs.drop (HT.sIx xs.length 0 lo)).take (HT.sIx xs.length xs.length hi-HT.sIx xs.length 0 lo)
theorem y5a.cut{vs:List V}{xs:List I}(r:y5a K ι H vs xs)(lo hi:Option Int):y5a K ι H (km vs lo hi) (fK xs lo hi):=by
 unfold km fK
 rw [r.len]
 exact (r.drop _).take _
noncomputable def dS(lo hi:Option Int):List Ev->Mo Ev:=λes Z G=>match es with
 | .v (.im (.tup xs))::_=>some (.v (.im (.tup (fK xs lo hi))),Z,G)
 | .v (.im (.str z))::_=>if z.length≤1000000 then some (.v (.im (.str (Txt.slice z lo hi))),Z,G) else none
 | a::_=>if eV a then match sq Z G a with
  | some xs=>some (.v (.ow (.lst (fK xs lo hi))),Z,G)
  | none=>none
  else none
 | _=>none
noncomputable def bT(fe:Mo Ev)(fl fh:Mo (List Ev)):Mo Ev:=bd fe λx=>bd fl λls=>bd fh λhs=>λZ G=>match jH ls,jH hs with
 | some lo,some hi=>dS lo hi (x::(ls++hs)) Z G
 | _,_=>none
theorem vW{Z:De}{G:List M}{e:Ev}{es:List Ev}{v:V}{vs:List V}{xs:List I}(a:Args K κ ι H σ Z G (e::es) (v::vs))(h:sq Z G e=some xs)(n:eV e=true):∃b ys,v=.ref b/\bB K H b ys/\y5a K ι H ys xs:=by
 have y181:(match B.pk Z G e with|some (.lst xs)=>some xs|_=>none)=some xs->∃b ys,v=.ref b/\bB K H b ys/\y5a K ι H ys xs:=λq=>by
  split at q
  ·rename_i xs' e'
   cases q
   obtain⟨b,e1,ys,h3,r⟩:=a.pk (j:=0) rfl rfl e'
   exact⟨b,ys,e1,bB.of h3,r⟩
  ·cases q
 cases e with
 | s i=>exact y181 h
 | v x =>
  cases x with
  | ow m=>exact y181 h
  | im d =>
   have r:=a.im (j:=0) rfl rfl
   cases r with
   | tup q r=>cases n
   | con q r=>cases n
   | fro q r=>cases h;exact⟨_,_,rfl,q.sq,r⟩
   | ref q=>exact y181 h
   | non=>exact y181 h
   | bl=>exact y181 h
   | int=>exact y181 h
   | str=>exact y181 h
   | ty=>exact y181 h
noncomputable def DK(K:W.Frag):V->Option Int->Option Int->Hp->VK->Prop:=λx lo hi H Q=>uo K x lo hi H Q∨(uM x lo hi H Q∨uF x lo hi H Q)
theorem DL{fe:Mo Ev}{fl fh:Mo (List Ev)}{Q:VK}(h:bc K κ (bT fe fl fh) σ H Q):tSl (DK K) (bc K κ fe) (lG K κ fl) (lG K κ fh) σ H Q:=by
 obtain⟨ι,Z,G,e,Z',G',s,eq,k⟩:=h
 obtain⟨x,Z1,G1,e1,eq1⟩:=cD eq
 obtain⟨ls,Z2,G2,e2,eq2⟩:=cD eq1
 obtain⟨hs,Z3,G3,e3,eq3⟩:=cD eq2
 split at eq3
 ·rename_i lo hi hlo hhi
  refine⟨ι,Z,G,x,Z1,G1,s,e1,λv ι1 H1 a1=>?_⟩
  refine⟨ι1,Z1,G1,ls,lo,Z2,G2,a1.ar.base,e2,hlo,λvs ι2 H2 a2=>?_⟩
  refine⟨ι2,Z2,G2,hs,hi,Z3,G3,a2.ar.base,e3,hhi,λws ι3 H3 a3=>?_⟩
  have a23:=a2.app a3
  have a:=a1.app a23
  have fin:∀{v':V} {ι':List Addr} {H':Hp},After K κ σ ι3 (own (σ++tS ([x]++(ls++hs)) ([v]++(vs++ws))) (Z3++tD ([x]++(ls++hs)))++ι3) H3 [e] Z' G' [v'] ι' H'->Q v' H':=λb=>k _ _ _ (a.then b)
  have ar:Args K κ ι3 H3 σ Z3 G3 (x::(ls++hs)) (v::(vs++ws)):=a.ar
  unfold dS at eq3
  split at eq3
  ·rename_i xs bA hq
   cases hq
   have r:=ar.im (j:=0) rfl rfl
   obtain⟨_,_,rfl,h1,h2⟩:=iL r
   refine .inr (.inl ⟨_,_,rfl,h1,λb H' hb kp=>?_⟩)
   exact fin (b8 eq3 (uU a.ar kp (.tup hb ((h2.cut lo hi).mono (cC.refl _) (Kp.same kp)))))
  ·rename_i z bA hq
   cases hq
   split at eq3
   ·rename_i hz
    cases cz (ar.im (j:=0) rfl rfl)
    exact .inr (.inr ⟨z,rfl,z21 hz (by decide),fin (b8 eq3 (a6 a.ar (.str _)))⟩)
   ·cases eq3
  ·rename_i a0 bA _ _ hq
   cases hq
   split at eq3
   ·rename_i hn
    split at eq3
    ·rename_i xs hx
     obtain⟨b,ys,e4,h1,r⟩:=vW ar hx hn
     exact .inl ⟨b,ys,e4,h1,λp hp=>fin (b8 eq3 (iP a.ar hp (r.cut lo hi)))⟩
    ·cases eq3
   ·cases eq3
  ·cases eq3
 ·cases eq3
noncomputable def fL(xs:List I)(lo hi st:Option Int):List I:=(sliceRange (sliceBounds lo hi st xs.length).1 (sliceBounds lo hi st xs.length).2.1 (sliceBounds lo hi st xs.length).2.2).filterMap (xs[·]?)
theorem y5a.filt{vs:List V}{xs:List I}(r:y5a K ι H vs xs):∀js:List Nat,y5a K ι H (js.filterMap (vs[·]?)) (js.filterMap (xs[·]?))
 | []=>.nil
 | j::js=>by
  cases e:xs[j]? with
  | none=>simp only [List.filterMap_cons,e,r.none_of e];exact y5a.filt r js
  | some x =>
   obtain⟨v,hv,rv⟩:=r.get e
   simp only [List.filterMap_cons,e,hv]
   exact .cons rv (y5a.filt r js)
theorem y5a.pick{vs:List V}{xs:List I}(r:y5a K ι H vs xs)(lo hi st:Option Int):y5a K ι H (ku vs lo hi st) (fL xs lo hi st):=by
 unfold ku fL
 rw [r.len]
 exact r.filt _
noncomputable def kR(fe:Mo Ev)(fl fh:Mo (List Ev))(fk:Mo Ev):Mo Ev:=bd fe λx=>bd fl λls=>bd fh λhs=>bd (one fk) λks=>λZ G=>match jH ls,jH hs,jH ks with
 | some lo,some hi,some (some c)=>if c≠0/\eV x then match sq Z G x with
  | some xs=>some (.v (.ow (.lst (fL xs lo hi (some c)))),Z,G)
  | none=>none
  else none
 | _,_,_=>none
theorem DM{fe fk:Mo Ev}{fl fh:Mo (List Ev)}{Q:VK}(h:bc K κ (kR fe fl fh fk) σ H Q):uN K (bc K κ fe) (lG K κ fl) (lG K κ fh) (oR (bc K κ fk)) σ H Q:=by
 obtain⟨ι,Z,G,e,Z',G',s,eq,k⟩:=h
 obtain⟨x,Z1,G1,e1,eq1⟩:=cD eq
 obtain⟨ls,Z2,G2,e2,eq2⟩:=cD eq1
 obtain⟨hs,Z3,G3,e3,eq3⟩:=cD eq2
 obtain⟨ks,Z4,G4,e4,eq4⟩:=cD eq3
 obtain⟨y,Z5,G5,e5,eq5⟩:=cD e4
 cases eq5
 split at eq4
 ·rename_i lo hi c hlo hhi hk
  split at eq4
  ·rename_i hc
   split at eq4
   ·rename_i xs hx
    refine⟨ι,Z,G,x,Z1,G1,s,e1,λv ι1 H1 a1=>?_⟩
    refine⟨ι1,Z1,G1,ls,lo,Z2,G2,a1.ar.base,e2,hlo,λvs ι2 H2 a2=>?_⟩
    refine⟨ι2,Z2,G2,hs,hi,Z3,G3,a2.ar.base,e3,hhi,λws ι3 H3 a3=>?_⟩
    refine⟨ι3,Z3,G3,y,_,_,a3.ar.base,e5,λu ι4 H4 a4=>?_⟩
    have a:=a1.app (a2.app (a3.app a4))
    have ar:Args K κ ι4 H4 σ _ _ (x::(ls++(hs++[y]))) (v::(vs++(ws++[u]))):=a.ar
    unfold jH at hk
    split at hk
    ·rename_i hq;cases hq
    ·rename_i i hq
     cases hk
     cases hq
     have r:=a4.ar.im (j:=0) rfl rfl
     cases dO (r)
     obtain⟨b,ys,e6,h1,r⟩:=vW ar hx hc.2
     exact⟨c,rfl,b,ys,e6,h1,λz=>hc.1 (by cases z;rfl),λp hp=>k _ _ _ (b8 eq4 (a.then (iP a.ar hp (r.pick lo hi (some c)))))⟩
    ·cases hk
   ·cases eq4
  ·cases eq4
 ·cases eq4
end
section
variable {X:Cx}{κ:Str->Addr}{a b e st:Expr}{fa fb:Mo Ev}{fl fh:Mo (List Ev)}{lo hi:Option Expr}{pos p2:Pos}{k:Nat}
theorem eK(h:LE X κ e fa)(hl:PO X lo (lG X.K κ fl))(hh:PO X hi (lG X.K κ fh)):LE X κ (.Subscript e (.Slice lo hi none p2) pos) (bT fa fl fh):=.mk (aV (BG (BU.or (Cq.or Cj)) h.pe hl hh) λ_ _ _=>DL)
theorem vX(h:LE X κ e fa)(hl:PO X lo (lG X.K κ fl))(hh:PO X hi (lG X.K κ fh))(hs:LE X κ st fb):LE X κ (.Subscript e (.Slice lo hi (some st) p2) pos) (kR fa fl fh fb):=.mk (aV (Cr h.pe hl hh hs.pe) λ_ _ _=>DM)
end
end
section
section
variable {X:Cx}{K:W.Frag}{κ:Str->Addr}{ι:List Addr}{H:Hp}{σ:L2.St}
noncomputable def gk(Z:De)(G:List M)(e:Ev):Bool:=match pk Z G e with
 | some (.lst _)=>true
 | _=>false
noncomputable def dr(p:List Ev->Mo Ev)(fo:Mo Ev)(fa:Mo (List Ev)):Mo Ev:=bd fo λe=>λZ G=>if gk Z G e then bd fa (λes=>p (e::es)) Z G else none
noncomputable def rM(r:V->List V->Hp->VK->Prop):List V->Hp->VK->Prop:=λvs H Q=>∃x xs,vs=x::xs/\r x xs H Q
theorem vY{Z:De}{G:List M}{e:Ev}{v:V}{fp:List Addr}{H0:Hp}{ι0:List Addr}(a:After K κ σ ι0 fp H0 [e] Z G [v] ι H)(h:gk Z G e=true):yX K "list" v H:=by
 unfold gk at h
 split at h
 ·rename_i xs hp
  obtain⟨b,e1,ys,h1,r⟩:=a.ar.pk (j:=0) rfl rfl hp
  subst e1
  exact .inl ⟨rfl,ys,bB.of h1⟩
 ·cases h
theorem vZ{p:List Ev->Mo Ev}{fo:Mo Ev}{fa:Mo (List Ev)}{r:V->List V->Hp->VK->Prop}{Q:VK}(hp:aF K κ (rM r) p)(h:bc K κ (dr p fo fa) σ H Q):BX K "list" r (bc K κ fo) (iN K κ fa) σ H Q:=by
 obtain⟨ι,Z,G,e,Z',G',s,eq,k⟩:=h
 obtain⟨x,Z1,G1,e1,eq1⟩:=cD eq
 split at eq1
 ·rename_i hl
  obtain⟨es,Z2,G2,e2,eq2⟩:=cD eq1
  refine⟨ι,Z,G,x,Z1,G1,s,e1,λv ι1 H1 a1=>⟨vY a1 hl,?_⟩⟩
  refine⟨ι1,Z1,G1,es,Z2,G2,a1.ar.base,e2,λvs ι2 H2 a2=>?_⟩
  have a:=a1.app a2
  obtain⟨y,ys,ey,q⟩:=hp _ _ _ _ _ _ _ _ _ _ Q a.ar eq2 λv ι3 H3 d=>k _ _ _ (a.then d)
  cases ey
  exact q
 ·cases eq1
theorem DN{p:List Ev->Mo Ev}{fo:Mo Ev}{r:V->List V->Hp->VK->Prop}{Q:VK}(hp:aF K κ (rM r) p)(hl:∀e Z G z,p [e] Z G=some z->gk Z G e=true)(h:bc K κ (a7 p fo) σ H Q):uu K "list" r (bc K κ fo) σ H Q:=by
 obtain⟨ι,Z,G,e,Z',G',s,eq,k⟩:=h
 obtain⟨x,Z1,G1,e1,eq1⟩:=cD eq
 refine⟨ι,Z,G,x,Z1,G1,s,e1,λv ι1 H1 a1=>⟨vY a1 (hl _ _ _ _ eq1),?_⟩⟩
 obtain⟨y,ys,ey,q⟩:=hp _ _ _ _ _ _ _ _ _ _ Q a1.ar eq1 λv ι3 H3 d=>k _ _ _ (a1.then d)
 cases ey
 exact q
noncomputable def dU:List Ev->Mo Ev:=λes Z G=>match es with
 | [a,.v (.im d)]=>match pk Z G a with
  | some (.lst xs)=>if xs.length<1000000 then some (.v (.im .non),(dz Z G (.lst (xs++[d])) a).1,(dz Z G (.lst (xs++[d])) a).2) else none
  | _=>none
 | _=>none
theorem DO:aF K κ (rM uv) dU:=by
 intro ι H σ Z G es vs e Z' G' Q a h k
 unfold dU at h
 split at h
 ·rename_i x d
  split at h
  ·rename_i xs hx
   split at h
   ·rename_i hl
    obtain⟨v,u,rfl⟩:=bV a.len
    obtain⟨b,e1,ys,h1,r⟩:=a.pk (j:=0) rfl rfl hx
    subst e1
    have ru:=a.im (j:=1) rfl rfl
    have l1:=r.len
    refine⟨_,_,rfl,b,ys,u,rfl,rfl,h1,z1e (by lia) (show 1000000≤sizeLine by decide),k _ _ _ (b8 h (mD a (j:=0) rfl rfl hx (λ_ kp=>⟨_,b4,(r.app (.cons ru .nil)).mono (cC.refl _) kp⟩) .non))⟩
   ·cases h
  ·cases h
 ·cases h
noncomputable def bW:List Ev->Mo Ev:=λes Z G=>match es with
 | [a,b]=>match pk Z G a,sq Z G b with
  | some (.lst xs),some ys=>if xs.length+ys.length≤1000000/\y2a6 b then some (.v (.im .non),(dz Z G (.lst (xs++ys)) a).1,(dz Z G (.lst (xs++ys)) a).2) else none
  | _,_=>none
 | _=>none
where y2a6:Ev->Bool
 | .v (.im (.fro _))=>false
 | _=>true
theorem DP:aF K κ (rM λx xs H Q=>ux x xs H Q∨uL K x xs H Q) bW:=by
 intro ι H σ Z G es vs e Z' G' Q a h k
 unfold bW at h
 split at h
 ·rename_i x y
  split at h
  ·rename_i xs ys hx hy
   split at h
   ·rename_i hl
    obtain⟨v,u,rfl⟩:=bV a.len
    obtain⟨b,e1,zs,h1,r⟩:=a.pk (j:=0) rfl rfl hx
    subst e1
    have l1:=r.len
    have ty:(∃c ws,u=.ref c/\H c=some (.lst ws)/\y5a K ι H ws ys)∨(∃c ws,u=.ref c/\bt K H c ws/\y5a K ι H ws ys):=by
     have y181:(match B.pk Z G y with|some (.lst xs)=>some xs|_=>none)=some ys->∃c ws,u=.ref c/\H c=some (.lst ws)/\y5a K ι H ws ys:=λq=>by
      split at q
      ·rename_i xs' e'
       cases q
       obtain⟨b,e1,ws,h3,r⟩:=a.pk (j:=1) rfl rfl e'
       exact⟨b,ws,e1,h3,r⟩
      ·cases q
     cases y with
     | s i=>exact .inl (y181 hy)
     | v z =>
      cases z with
      | ow m=>exact .inl (y181 hy)
      | im d =>
       have r:=a.im (j:=1) rfl rfl
       cases r with
       | tup q r=>cases hy;exact .inr ⟨_,_,rfl,bt.of q,r⟩
       | con q r=>cases hy;exact .inr ⟨_,_,rfl,bt.kon q,r⟩
       | fro q r=>cases hl.2
       | ref q=>exact .inl (y181 hy)
       | non=>exact .inl (y181 hy)
       | bl=>exact .inl (y181 hy)
       | int=>exact .inl (y181 hy)
       | str=>exact .inl (y181 hy)
       | ty=>exact .inl (y181 hy)
    have fin:∀{ws:List V},y5a K ι H ws ys->Q .non (aP H b (.lst (zs++ws))):=λrw'=>k _ _ _ (b8 h (mD a (j:=0) rfl rfl hx (λ_ kp=>⟨_,b4,(r.app rw').mono (cC.refl _) kp⟩) .non))
    rcases ty with⟨c,ws,rfl,hc,r2⟩| ⟨c,ws,rfl,hc,r2⟩
    ·have l2:=r2.len
     exact⟨_,_,rfl,.inl ⟨b,c,zs,ws,rfl,rfl,h1,hc,z21 (by lia) (show 1000000≤sizeLine by decide),fin r2⟩⟩
    ·have l2:=r2.len
     exact⟨_,_,rfl,.inr ⟨b,c,zs,ws,rfl,rfl,h1,hc,z21 (by lia) (show 1000000≤sizeLine by decide),fin r2⟩⟩
   ·cases h
  ·cases h
 ·cases h
noncomputable def iV:List Ev->Mo Ev:=λes Z G=>match es with
 | [a]=>match pk Z G a with
  | some (.lst xs)=>match xs[xs.length-1]? with
   | some d=>some (.v (.im d),(dz Z G (.lst xs.dropLast) a).1,(dz Z G (.lst xs.dropLast) a).2)
   | none=>none
  | _=>none
 | _=>none
theorem y5a.dropLast{vs:List V}{xs:List I}(r:y5a K ι H vs xs):y5a K ι H vs.dropLast xs.dropLast:=by
 rw [List.dropLast_eq_take,List.dropLast_eq_take,r.len]
 exact r.take _
theorem DQ:aF K κ (rM uy) iV:=by
 intro ι H σ Z G es vs e Z' G' Q a h k
 unfold iV at h
 split at h
 ·rename_i x
  split at h
  ·rename_i xs hx
   split at h
   ·rename_i d hd
    obtain⟨v,rfl⟩:=b5 a.len
    obtain⟨b,e1,ys,h1,r⟩:=a.pk (j:=0) rfl rfl hx
    subst e1
    obtain⟨w,hw,rw'⟩:=r.get hd
    refine⟨_,_,rfl,b,ys,w,rfl,rfl,h1,by rw [r.len];exact hw,k _ _ _ (b8 h (mD a (j:=0) rfl rfl hx (λ_ kp=>⟨_,b4,r.dropLast.mono (cC.refl _) kp⟩) rw'))⟩
   ·cases h
  ·cases h
 ·cases h
theorem DR(e:Ev)(Z:De)(G:List M)(z:Ev×De×List M)(h:iV [e] Z G=some z):gk Z G e=true:=by
 unfold iV at h
 dsimp only at h
 unfold gk
 split at h
 ·rfl
 ·cases h
noncomputable def de:List Ev->De->List M->Option (De×List M):=λes Z G=>match es with
 | [.v (.im d),a,.v (.im x)]=>match pk Z G a with
  | some (.lst xs)=>match x with
   | .int i=>match kd xs.length i with
    | some j=>some (dz Z G (.lst (xs.set j d)) a)
    | none=>none
   | _=>none
  | some (.dic kvs)=>match hV x with
   | some k=>if kvs.length<1000000 then some (dz Z G (.dic (eJ kvs k d)) a) else none
   | none=>none
  | some (.dit kvs)=>match kN x with
   | some k=>if kvs.length<1000000 then some (dz Z G (.dit (eJ kvs k d)) a) else none
   | none=>none
  | _=>none
 | _=>none
noncomputable def fM(fo fi fv:Mo Ev):SF:=λZ G=>match bd fv (λv=>bd fo λo=>bd fi λi=>rt [v,o,i]) Z G with
 | some (es,Z1,G1)=>match de es Z1 G1 with
  | some (Z2,G2)=>some (.nx Z2 G2)
  | none=>none
 | none=>none
theorem DS{fo fi fv:Mo Ev}{D:Ends}(h:dP K κ (fM fo fi fv) D σ H):lP (bc K κ fv) (sN (bc K κ fo) (bc K κ fi) um) D σ H∨tY (bc K κ fo) (bc K κ fi) (bc K κ fv) D σ H:=by
 obtain⟨ι,Z,G,fl,s,eq,k⟩:=h
 unfold fM at eq
 split at eq
 ·rename_i es Ze Ge ee
  obtain⟨v,Z1,G1,e1,ee⟩:=cD ee
  obtain⟨o,Z2,G2,e2,ee⟩:=cD ee
  obtain⟨i,Z3,G3,e3,ee⟩:=cD ee
  cases ee
  split at eq
  ·rename_i Z4 G4 e4
   cases eq
   have go:∀{vv ov iv:V} {ι3:List Addr} {H3:Hp},After K κ σ ι (own σ Z++ι) H [v,o,i] Ze Ge [vv,ov,iv] ι3 H3 ->
     (∃p xs kk j,ov=.ref p/\iv=.int kk/\H3 p=some (.lst xs)/\kd xs.length kk=some j/\D.nx σ (aP H3 p (.lst (xs.set j vv))))∨(∃a H4,ov=.ref a/\yf H3 a iv vv H4/\D.nx σ H4):=λ{vv ov iv ι3 H3} a=>by
    unfold de at e4
    split at e4
    ·rename_i d a0 x hq
     cases hq
     have rv:=a.ar.im (j:=0) rfl rfl
     have rx:=a.ar.im (j:=2) rfl rfl
     have nxt:∀{m m':M} {b:Addr} {ob:HO},uP m=false->pk Ze Ge o=some m->ov=.ref b->(eD K κ ι3 H3 b m->Kp H3 (aP H3 b ob)->eD K κ ι3 (aP H3 b ob) b m')->(dz Ze Ge m' o=(Z4,G4))->D.nx σ (aP H3 b ob):=λhf hp eo hr he=>by
      subst eo
      have f:=mD a.ar (j:=1) rfl rfl hp hr (RpI.non) hf
      obtain⟨p,q⟩:=(a.then f).drop
      rw [he] at p q
      exact k _ _ _ p q
     split at e4
     ·rename_i xs hp
      cases rx with
      | int kk =>
       dsimp only at e4
       split at e4
       ·rename_i j hj
        obtain⟨b,eb,ys,h1,r⟩:=a.ar.pk (j:=1) rfl rfl hp
        have l:=r.len
        exact .inl ⟨b,ys,kk,j,eb,rfl,h1,by rw [l];exact hj,nxt (m':=.lst (xs.set j d)) rfl hp eb (λ_ kp=>⟨_,b4,(r.set j rv).mono (cC.refl _) kp⟩) (z25 e4)⟩
       ·cases e4
      | _=>cases e4
     ·rename_i kvs hp
      split at e4
      ·rename_i kk hk
       split at e4
       ·rename_i hl
        obtain⟨b,eb,ws,h1,h2,r⟩:=a.ar.pk (j:=1) rfl rfl hp
        have ek:=mX rx hk
        subst ek
        have l:ws.length=kvs.length:=by have:=congrArg List.length h2;simpa using this
        refine .inr ⟨b,_,eb,yf.k h1 (z1e (by lia) (show 1000000≤sizeLine by decide)),nxt rfl hp eb (λ_ kp=>?_) (z25 e4)⟩
        obtain⟨p,q⟩:=p6 rv h2 r
        exact⟨_,b4,p,q.mono (cC.refl _) kp⟩
       ·cases e4
      ·cases e4
     ·rename_i kvs hp
      split at e4
      ·rename_i kk hk
       split at e4
       ·rename_i hl
        obtain⟨b,eb,ws,h1,h2,r⟩:=a.ar.pk (j:=1) rfl rfl hp
        obtain⟨c,ek,hc⟩:=vO rx hk
        subst ek
        have l:ws.length=kvs.length:=by have:=congrArg List.length h2;simpa using this
        refine .inr ⟨b,_,eb,yf.t h1 hc (z1e (by lia) (show 1000000≤sizeLine by decide)),nxt rfl hp eb (λ_ kp=>?_) (z25 e4)⟩
        obtain⟨p,q⟩:=p6 (k:=kk) rv h2 r
        exact⟨_,b4,p,q.mono (cC.refl _) kp⟩
       ·cases e4
      ·cases e4
     ·cases e4
    ·cases e4
   by_cases hl:∃xs,pk Ze Ge o=some (.lst xs)
   ·left
    refine⟨ι,Z,G,v,Z1,G1,s,e1,λvv ι1 H1 a1=>?_⟩
    refine⟨ι1,Z1,G1,o,Z2,G2,a1.ar.base,e2,λov ι2 H2 a2=>?_⟩
    refine⟨ι2,Z2,G2,i,_,_,a2.ar.base,e3,λiv ι3 H3 a3=>?_⟩
    have a:=a1.app (a2.app a3)
    rcases go a with q|⟨a',H4,ea,dp,q⟩
    ·exact q
    ·exfalso
     obtain⟨xs,hx⟩:=hl
     obtain⟨b,eb,ys,h1,r⟩:=a.ar.pk (j:=1) rfl rfl hx
     rw [ea] at eb;cases eb
     rcases dp with⟨_,_,h2,_⟩| ⟨_,_,_,h2,_⟩<;>(rw [h1] at h2;cases h2)
   ·right
    refine⟨ι,Z,G,v,Z1,G1,s,e1,λvv ι1 H1 a1=>?_⟩
    refine⟨ι1,Z1,G1,o,Z2,G2,a1.ar.base,e2,λov ι2 H2 a2=>?_⟩
    refine⟨ι2,Z2,G2,i,_,_,a2.ar.base,e3,λiv ι3 H3 a3=>?_⟩
    have a:=a1.app (a2.app a3)
    rcases go a with⟨p,xs,kk,j,eo,_,h1,_,_⟩| q
    ·exfalso
     unfold de at e4
     split at e4
     ·rename_i d a0 x hq
      cases hq
      split at e4
      ·rename_i ys hp;exact hl ⟨ys,hp⟩
      ·rename_i kvs hp
       obtain⟨b,eb,ws,h2,_⟩:=a.ar.pk (j:=1) rfl rfl hp
       rw [eo] at eb;cases eb
       rw [h1] at h2;cases h2
      ·rename_i kvs hp
       obtain⟨b,eb,ws,h2,_⟩:=a.ar.pk (j:=1) rfl rfl hp
       rw [eo] at eb;cases eb
       rw [h1] at h2;cases h2
      ·cases e4
     ·cases e4
    ·exact q
  ·cases eq
 ·cases eq
end
section
variable {X:Cx}{κ:Str->Addr}{a b e o:Expr}{es:List Expr}{fa fb fv:Mo Ev}{fs:Mo (List Ev)}{pos apos ye7 pos':Pos}{k:Nat}
theorem eW(hr:y58 k X.A)(ho:LE X κ o fa)(ha:LA X κ (e::es) fs)(y1c5:attributeBase o "append" X.env (eval o X.env)=eval o X.env:=by rfl)
  (y1c9:((backTo ye7 (starEach (e::es) X.env)).all (λx=>!x.1)&&(backToKw ye7 (keywordEach [] X.env)).all (λx=>x.1.isSome)&&decide ((e::es).length+([]:List Keyword).length+(if ([]:List Keyword).isEmpty then 0 else 1)<30))=true:=by rfl)
  (y1ce:(apos.endLine == ye7.line)=true:=by rfl) (hs:starEach (e::es) X.env=(false,eval e X.env)::starEach es X.env:=by rfl) (y1d1:(backTo ye7 (starEach es X.env)).any (·.1)=false:=by rfl):LE X κ (.Call (.Attribute o "append" apos) (e::es) [] ye7) (dr dU fa fs):=.mk (aV (jm PySem.F.plainAttrs_list PySem.F.slot_list_append PySem.F.type_list_append uw ho.pe ha.pe y1c5 y1c9 y1ce hs y1d1) λ_ _ _=>vZ DO)
theorem iW(hr:y58 k X.A)(ho:LE X κ o fa)(ha:LA X κ (e::es) fs)(y1c5:attributeBase o "extend" X.env (eval o X.env)=eval o X.env:=by rfl)
  (y1c9:((backTo ye7 (starEach (e::es) X.env)).all (λx=>!x.1)&&(backToKw ye7 (keywordEach [] X.env)).all (λx=>x.1.isSome)&&decide ((e::es).length+([]:List Keyword).length+(if ([]:List Keyword).isEmpty then 0 else 1)<30))=true:=by rfl)
  (y1ce:(apos.endLine == ye7.line)=true:=by rfl) (hs:starEach (e::es) X.env=(false,eval e X.env)::starEach es X.env:=by rfl) (y1d1:(backTo ye7 (starEach es X.env)).any (·.1)=false:=by rfl):LE X κ (.Call (.Attribute o "extend" apos) (e::es) [] ye7) (dr bW fa fs):=.mk (aV (jm PySem.F.plainAttrs_list PySem.F.slot_list_extend PySem.F.type_list_extend (ko.or B0 Cp) ho.pe ha.pe y1c5 y1c9 y1ce hs y1d1) λ_ _ _=>vZ DP)
theorem DT(ho:LE X κ o fa)(y1c5:attributeBase o "pop" X.env (eval o X.env)=eval o X.env:=by rfl)(y1ce:(apos.endLine == ye7.line)=true:=by rfl):LE X κ (.Call (.Attribute o "pop" apos) [] [] ye7) (a7 iV fa):=.mk (aV (BY PySem.F.plainAttrs_list PySem.F.slot_list_pop PySem.F.type_list_pop B1 ho.pe y1c5 y1ce) λ_ _ _=>DN DQ DR)
theorem mY(hr:y58 k X.A)(ho:LE X κ o fa)(hi:LE X κ e fb)(hv:LE X κ a fv)(hs:swapsWith a (some (.Subscript o e pos')) pos.line X.env=pure false:=by rfl)(hs1:swapsWithSole [.Subscript o e pos'] a pos.line X.env=pure false:=by rfl)
  (hw:swappedStores [.Subscript o e pos'] a X.env=pure none:=by rfl) (h1:(assignEach [.Subscript o e pos'] X.env).map (·.2)=[assign (.Subscript o e pos') X.env]:=by rfl)
  (ha:∀v,assign (.Subscript o e pos') X.env v=(do
   let ov <- holding [v] (eval o X.env)
   let iv <- holding [v,ov] (eval e X.env)
   standAt pos'
   holding [v,ov,iv] (setItem ov iv v)
   release [v,ov,iv] []):=by intro _;rfl):LS X κ (.Assign [.Subscript o e pos'] a pos) (fM fa fb fv):=.mk (fF (vt (sO hv.pe (Ak ho.pe hi.pe kq ha) hs1 hw h1) (Bw (mm hr) ho.pe hi.pe hv.pe hs)) λ_ _ _=>DS)
end
end
section
section
variable {X:Cx}{K:W.Frag}{κ:Str->Addr}{ι:List Addr}{H:Hp}{σ:L2.St}
noncomputable def DU:Mo Ev:=rt (.v (.ow (.dic [])))
noncomputable def DV:Mo Ev:=rt (.v (.ow (.dit [])))
noncomputable def wa(K:W.Frag)(κ:Str->Addr)(trs:List (TE×TE))(f:Mo (List Ev)):Prop:=∀σ H Q,iN K κ f σ H (λvs H1=>∀ps:List (V×V),vs=ps.flatMap (λp=>[p.1,p.2])->Q ps H1)->l8 trs σ H Q
noncomputable def qa:Mo (List Ev):=rt []
noncomputable def kS(fk fv:Mo Ev)(r:Mo (List Ev)):Mo (List Ev):=bd fk λa=>bd fv λb=>bd r λes=>rt (a::b::es)
theorem DW:wa K κ [] qa:=λσ H Q h=>by
 obtain⟨ι,Z,G,es,Z',G',s,e,k⟩:=h
 cases e
 exact k _ _ _ (After.nil s) [] rfl
theorem DX{fk fv:Mo Ev}{r:Mo (List Ev)}{trs:List (TE×TE)}(hr:wa K κ trs r):wa K κ ((bc K κ fk,bc K κ fv)::trs) (kS fk fv r):=λσ H Q h=>by
 obtain⟨ι,Z,G,es,Z',G',s,e,k⟩:=h
 obtain⟨x,Z1,G1,e1,e⟩:=cD e
 obtain⟨y,Z2,G2,e2,e⟩:=cD e
 obtain⟨zs,Z3,G3,e3,e⟩:=cD e
 cases e
 refine⟨ι,Z,G,x,Z1,G1,s,e1,λv ι1 H1 a1=>?_⟩
 refine⟨ι1,Z1,G1,y,Z2,G2,a1.ar.base,e2,λw ι2 H2 a2=>?_⟩
 refine hr _ _ _ ⟨ι2,Z2,G2,zs,_,_,a2.ar.base,e3,λvs ι3 H3 a3 ps hps=>?_⟩
 exact k _ _ _ (a1.app (a2.app a3)) ((v,w)::ps) (by rw [hps];rfl)
noncomputable def jI:List Ev->Option (List (aW×I))
 | []=>some []
 | .v (.im x)::.v (.im d)::r=>match hV x,jI r with
  | some k,some ps=>some ((k,d)::ps)
  | _,_=>none
 | _=>none
noncomputable def jJ(ps:List (aW×I)):List (aW×I):=ps.foldl (λacc kv=>eJ acc kv.1 kv.2) []
noncomputable def qb(f:Mo (List Ev)):Mo Ev:=bd f λes Z G=>match jI es with
 | some ps=>if ps.length≤15 then some (.v (.ow (.dic (jJ ps))),Z,G) else none
 | none=>none
theorem wb:∀{es:List Ev} {vs:List V} {ps:List (aW×I)},Paired (RpE K κ ι H) (tS es vs) (tD es)->es.length=vs.length->jI es=some ps ->
  ∃kvs:List (aW×V),vs=(kvs.map λkv=>(kV kv.1,kv.2)).flatMap (λp=>[p.1,p.2])/\kvs.map (·.1)=ps.map (·.1)/\y5a K ι H (kvs.map (·.2)) (ps.map (·.2))
 | [],[],_,_,_,h=>by cases h;exact⟨[],rfl,rfl,.nil⟩
 | [],_::_,_,_,l,_=>by cases l
 | _::_,[],_,_,l,_=>by cases l
 | [_],[_],_,_,_,h=>by
  unfold jI at h
  split at h
  ·rename_i hq;cases hq
  ·rename_i hq;cases hq
  ·cases h
 | [_],_::_::_,_,_,l,_=>by cases l
 | _::_::_,[_],_,_,l,_=>by cases l
 | a::b::es,v::w::vs,ps,p,l,h=>by
  unfold jI at h
  split at h
  ·rename_i hq;cases hq
  ·rename_i x d r hq
   cases hq
   split at h
   ·rename_i kk ps' hk hps
    cases h
    cases p with
    | cons p1 p =>
     cases p with
     | cons p2 p =>
      cases p1 with
      | im r1 =>
       cases p2 with
       | im r2 =>
        obtain⟨kvs,e1,e2,e3⟩:=wb p (by simpa using l) hps
        refine⟨(kk,w)::kvs,?_,?_,.cons r2 e3⟩
        ·rw [mX r1 hk,e1];rfl
        ·rw [z19,z19,e2]
   ·cases h
  ·cases h
theorem we:∀{kvs:List (aW×V)} {ps:List (aW×I)} {acc:List (aW×V)} {ac:List (aW×I)},kvs.map (·.1)=ps.map (·.1)->y5a K ι H (kvs.map (·.2)) (ps.map (·.2))->acc.map (·.1)=ac.map (·.1)->y5a K ι H (acc.map (·.2)) (ac.map (·.2)) ->
  (iJ acc kvs).map (·.1)=(ps.foldl (λacc kv=>eJ acc kv.1 kv.2) ac).map (·.1)/\y5a K ι H ((iJ acc kvs).map (·.2)) ((ps.foldl (λacc kv=>eJ acc kv.1 kv.2) ac).map (·.2))
 | [],[],_,_,_,_,e,r=>⟨e,r⟩
 | [],_::_,_,_,e,_,_,_=>by cases e
 | _::_,[],_,_,e,_,_,_=>by cases e
 | (k,v)::kvs,(k',d)::ps,acc,ac,e,r,e',r'=>by
  simp only [z19,List.cons.injEq] at e
  obtain⟨e1,e2⟩:=e
  subst e1
  cases r with
  | cons r rs =>
   obtain⟨p,q⟩:=p6 r e' r'
   have:=we e2 rs p q
   exact this
theorem DY{trs:List (TE×TE)}{f:Mo (List Ev)}{Q:VK}(hf:wa K κ trs f)(h:bc K κ (qb f) σ H Q):t9 trs σ H Q:=by
 obtain⟨ι,Z,G,e,Z',G',s,eq,k⟩:=h
 obtain⟨es,Z1,G1,e1,eq1⟩:=cD eq
 intro p hp
 split at eq1
 ·rename_i ps hps
  split at eq1
  ·rename_i hl
   cases eq1
   have sp:=s.y3c6 (m:=.dic []) hp ⟨[],b4,rfl,.nil⟩
   have st0:=Step.y23a (ι:=ι) (Z:=Z) (o:=.dK []) (m:=.dic []) s.len hp
   refine hf _ _ _ ⟨ι,Z,G,es,_,_,sp.pop s.len,e1,λvs ι1 H1 a qs hqs=>?_⟩
   obtain⟨j1,j2⟩:=SR.join (Z1:=Z) sp s.len a.ar.sr a.ar.l a.st
   have hp1:H1 p=some (.dK []):=by
    refine a.st.keep p _ b4 λhm=>?_
    obtain⟨o,ho,_⟩:=s.mu hm
    rw [hp] at ho;cases ho
   obtain⟨kvs,ev,ek,rk⟩:=wb (cT a.ar.l a.ar.sr.sl).2 a.ar.len hps
   have hq:qs=kvs.map λkv=>(kV kv.1,kv.2):=by
    rw [ev] at hqs
    have inj:∀{l1 l2:List (V×V)},l1.flatMap (λp=>[p.1,p.2])=l2.flatMap (λp=>[p.1,p.2])->l1=l2:=by
     intro l1
     induction l1 with
     | nil=>intro l2 h;cases l2 with
      | nil=>rfl
      | cons x l2=>simp at h
     | cons x l1 ih=>intro l2 h;cases l2 with
      | nil=>simp at h
      | cons y l2 =>
       simp only [List.flatMap_cons,List.cons_append,List.nil_append,List.cons.injEq] at h
       obtain⟨h1,h2,h3⟩:=h
       rw [ih h3,Prod.ext h1 h2]
    exact (inj hqs).symm
   have hkl:kvs.length≤15:=by have:=congrArg List.length ek;simp at this;lia
   refine⟨hp1,kvs,hq,hkl,?_⟩
   have l1:=a.ar.l
   have i1:(σ++([some (V.ref p)]++tS es vs))[σ.length]?=some (some (.ref p)):=by rw [z28 (z13 _),Nat.sub_self];rfl
   have i2:(Z'++([some (Vl.ow (.dic []))]++tD es))[σ.length]?=some (some (.ow (.dic []))):=by rw [l1,z28 (z13 _),Nat.sub_self];rfl
   obtain⟨q1,q2⟩:=j1.poke i1 i2 (m':=.dic (jJ ps)) (λ_ kp=>by
    obtain⟨z1,z2⟩:=we (acc:=[]) (ac:=[]) ek rk rfl .nil
    exact⟨_,b4,z1,z2.mono (cC.refl _) kp⟩)
   have e5:∀(Zx:De),σ.length=Zx.length->(Zx++([some (Vl.ow (.dic []))]++tD es)).set σ.length (some (.ow (.dic (jJ ps))))=(Zx++[some (.ow (.dic (jJ ps)))])++tD es:=λZx l=>by
    rw [l,List.set_append_right _ _ (z13 _),Nat.sub_self];simp
   rw [e5 _ l1,<- z31 σ] at q1
   rw [e5 _ l1,<- z31 σ] at q2
   rw [<- z31 σ] at j2
   have l2:(σ++[some (V.ref p)]).length=(Z'++[some (Vl.ow (.dic (jJ ps)))]).length:=by rw [z18,z18,l1];rfl
   refine k _ _ _ ⟨⟨l1,q1.pop l2,.cons (λ_ h=>by cases h) .nil⟩,?_⟩
   exact ((st0.trans j2).trans q2).sub λx hx=>c8 l2 hx
  ·cases eq1
 ·cases eq1
noncomputable def DZ(fa fb:Mo Ev):Mo Ev:=bd fa λe=>λZ G=>match bS e Z G with
 | some (true,_,_)=>some (e,Z,G)
 | some (false,_,_)=>fb Z G
 | none=>none
noncomputable def wg(K:W.Frag)(ta tb:TE):TE:=λσ H Q=>ta σ H λx H1=>∃c,oG K x H1 c/\if c=true then Q x H1 else tb σ H1 Q
theorem Ea{a b:Expr}{bA:List Expr}{pos:Pos}{ta tb:TE}(ha:PE X a ta)(hb:PE X (.BoolOp .Or (b::bA) pos) tb):PE X (.BoolOp .Or (a::b::bA) pos) (wg X.K ta tb):=by
 intro pins s σ H Q I h
 refine BoolOp_or (aS (ha pins s σ H _ I h) λv s1 ⟨x,H1,I1,r1,c,hc,q1⟩=>?_)
 refine aS (oH pins s1 σ H1 x v (λb H'=>H'=H1/\b=c) I1 r1 ⟨c,hc,rfl,rfl⟩) λb s2 ⟨H2,I2,e1,e2⟩=>?_
 subst e1;subst e2
 cases b with
 | true=>rw [if_pos rfl] at q1;exact⟨x,_,I2,r1,q1⟩
 | false=>rw [if_neg zf] at q1;exact hb pins s2 σ _ Q I2 q1
theorem Eb{fa fb:Mo Ev}{Q:VK}(h:bc K κ (DZ fa fb) σ H Q):wg K (bc K κ fa) (bc K κ fb) σ H Q:=by
 obtain⟨ι,Z,G,e,Z',G',s,eq,k⟩:=h
 obtain⟨x,Z1,G1,e1,eq1⟩:=cD eq
 refine⟨ι,Z,G,x,Z1,G1,s,e1,λv ι1 H1 a=>?_⟩
 split at eq1
 ·rename_i d1 d2 ht
  cases eq1
  obtain⟨t,_,_⟩:=kD a.ar ht
  exact⟨true,t,by rw [if_pos rfl];exact k _ _ _ a⟩
 ·rename_i d1 d2 ht
  obtain⟨t,_,_⟩:=kD a.ar ht
  obtain⟨p,q⟩:=a.drop
  exact⟨false,t,by rw [if_neg zf];exact bc.go p q eq1 k⟩
 ·cases eq1
end
section
variable {X:Cx}{κ:Str->Addr}{a b e o:Expr}{es:List Expr}{fa fb fv:Mo Ev}{fs:Mo (List Ev)}{p pos apos:Pos}{k n:Nat}
noncomputable def LP(X:Cx)(κ:Str->Addr)(pos:Pos)(keys:List (Option Expr))(vals:List Expr)(f:Mo (List Ev)):Prop:=∃trs,tZ X pos keys vals trs/\wa X.K κ trs f
theorem wj:LP X κ pos [] [] qa:=⟨[],By,DW⟩
theorem Ec (hk:LE X κ a fa)(hv:LE X κ b fb)(hr:LP X κ pos ks vs fs):LP X κ pos (some a::ks) (b::vs) (kS fa fb fs):=let ⟨trs,h1,h2⟩:=hr;⟨_,Bz hk.pe hv.pe h1,DX h2⟩
theorem wm (hr:y58 k X.A)(h:LP X κ pos ks vs fs)(y1c0:ks.all (·.isSome)=true:=by rfl)(hl:ks.length=vs.length:=by rfl)(h0:ks≠[]:=by exact (λz=>nomatch z))(h15:ks.length≤15:=by decide):LE X κ (.Dict ks vs pos) (qb fs):=.mk (by
 obtain⟨trs,h1,h2⟩:=h
 exact aV (BA h1 y1c0 hl h0 h15) λ_ _ _=>DY h2)
theorem kT{op}(h:LE X κ a fa):LE X κ (.BoolOp op [a] pos) fa:=.mk (L2.y34b h.pe)
theorem Ed{bA:List Expr}(ha:LE X κ a fa)(hb:LE X κ (.BoolOp .Or (b::bA) pos) fb):LE X κ (.BoolOp .Or (a::b::bA) pos) (DZ fa fb):=.mk (aV (Ea ha.pe hb.pe) λ_ _ _=>Eb)
theorem Ee{K:W.Frag}{σ:L2.St}{H:Hp}{fn:FF}{Q:VK}(h:bc K κ (bd fs (aJ n fn)) σ H Q):lY (aR K κ n fn) [] E0 (iN K κ fs) σ H Q:=by
 have:=fA (u7 (E:=E0)) h
 unfold lY
 simpa only [z17] using this
theorem aE (h:bZ X.prog X.w X.K X.mg X.base x k ps (aR X.K κ n fn))(hr:y58 k X.A)(ha:LA X κ (e::es) fs)(hg:Gl X x:=by rfl)
  (hdb:(x == ("__debug__" : Str))=false:=by decide) (he:kb X e es:=by rfl) (hpl:ja X pos es:=by rfl):LE X κ (.Call (.Name x p) (e::es) [] pos) (bd fs (aJ n fn)):=.mk (aV (Cn h hr hg ha.pe hdb he hpl) λ_ _ _=>Ee)
noncomputable def qc(P:Program)(w:World)(K:W.Frag)(mg:Str->Option Value)(base:Heap)(C:Addr)(m:Str)(k:Nat)(ps:List Str)(sp:Sp):Prop :=
 ∃(f:Addr) (fd:FuncData),Meth K C m f/\cY K fd ps []/\y49 P w K mg base bU k f fd ps sp
theorem mZ  (h:qc X.prog X.w X.K X.mg X.base (κ c) m k ps (aR X.K κ n fn))(hc:Cls X.K (κ c))(hr:y58 k X.A)(ho:LE X κ o fa)(ha:LA X κ (e::es) fs)
  (hst:starEach (e::es) X.env=(false,eval e X.env)::starEach es X.env:=by rfl) (hpl:ja X pos es:=by rfl)
  (ht:eval (.Call (.Attribute o m apos) (e::es) [] pos) X.env=(do
   let ov <- eval o X.env
   standAt apos.atName
   let (f,first) <- holding [ov] (getMethod ov m pl)
   callWith pos f first (backTo pos (starEach (e::es) X.env)) (backToKw pos (keywordEach [] X.env))):=by rfl):LE X κ (.Call (.Attribute o m apos) (e::es) [] pos) (fE c m n fn fa fs):=.mk (by
 obtain⟨f,fd,hm,hb,F⟩:=h
 exact aV (Bi ho.pe hc hm F hr hb .nil mj ha.pe hst hpl ht) λ_ _ _=>vm)
theorem Ef  (h:qc X.prog X.w X.K X.mg X.base (κ c) m k ps (aR X.K κ n fn))(hc:Cls X.K (κ c))(hr:y58 k X.A)(ho:LE X κ o fa)
  (ht:eval (.Call (.Attribute o m apos) [] [] pos) X.env=(do
   let ov <- eval o X.env
   standAt apos.atName
   let (f,first) <- holding [ov] (getMethod ov m pl)
   callWith pos f first (backTo pos (starEach [] X.env)) (backToKw pos (keywordEach [] X.env))):=by rfl):LE X κ (.Call (.Attribute o m apos) [] [] pos) (fE c m n fn fa ae):=.mk (by
 obtain⟨f,fd,hm,hb,F⟩:=h
 refine aV (Bj ho.pe hc hm F hr hb .nil mj ht) λσ H Q q=>?_
 obtain⟨ι,Z,G,e,Z',G',s,eq,kk⟩:=vm q
 refine⟨ι,Z,G,e,Z',G',s,eq,λv ι' H' a=>?_⟩
 obtain⟨a',dx,fs',e1,e2,e3,e4⟩:=kk v ι' H' a
 exact⟨a',dx,fs',e1,e2,e3,pq e4⟩)
noncomputable def qe(P:Program)(w:World)(K:W.Frag)(mg:Str->Option Value)(base:Heap)(C:Addr)(k:Nat)(ps:List Str)(sp:Sp):Prop :=
 ∃(f:Addr) (fd:FuncData),Mk K C f/\cY K fd ps []/\y49 P w K mg base bU k f fd ps sp
theorem Eg (h:qe X.prog X.w X.K X.mg X.base (κ c) k ps (aR X.K κ n fn))(hr:y58 (k+1) X.A)(hm:X.mg x=some (.ref (κ c)))(hg:Gl X x:=by rfl)(hdb:(x == ("__debug__" : Str))=false:=by decide):LE X κ (.Call (.Name x p) [] [] pos) (bd ae (iR c n fn)):=.mk (by
 obtain⟨f,fd,hM,hb,F⟩:=h
 refine aV (Bl hM F hr hg hm hb .nil mj hdb) λ_ _ _ q=>?_
 exact pq (fA (C7) q))
theorem dW(hc:Cls X.K (κ c))(hn:iC X.K (κ c) f)(h:LE X κ o fa)(hb:attributeBase o f X.env (eval o X.env)=eval o X.env:=by rfl):LE X κ (.Attribute o f pos) (a7 (bM c f) fa):=.mk (aV (AX h.pe hb) λ_ _ _=>C5 hc hn)
theorem jK (hc:Cls X.K (κ c))(hn:iC X.K (κ c) f)(h:LE X κ o fa)(hv:LE X κ a fv)(hs:swapsWith a (some (.Attribute o f pos')) pos.line X.env=pure false:=by rfl):LS X κ (.Assign [.Attribute o f pos'] a pos) (dA c f fa fv):=.mk (fF (AY h.pe hv.pe hs) λ_ _ _=>C6 hc hn)
theorem aN (hN:X.N.Nodup)(h:LE X κ a fa)(hi:X.N[i]?=some x:=by rfl)(hx:oi X.env.scope x:=by first|exact Or.inl rfl|exact Or.inr rfl)(hs:swapsWith a (some (.Name x pos')) pos.line X.env=pure false:=by rfl)(hf:X.fn x=true∨X.env.scope.names.lookup x=some .local:=by first|exact .inl rfl|exact .inr rfl|assumption):LS X κ (.Assign [.Name x pos'] a pos) (bp fa (bf i)):=.mk (fF (Al hN hi hx h.pe hs hf) λD σ H q=>by
 obtain⟨ι,Z,G,e,Z',G',s,eq,kk⟩:=pE q
 exact⟨ι,Z,G,e,Z',G',s,eq,λv ι' H' a=>pC (kk v ι' H' a)⟩)
theorem jL (h:LE X κ a fa)(hg:LG X κ tg g)(hs:swapsWithSole [tg] a pos.line X.env=pure false:=by rfl)(hw:swappedStores [tg] a X.env=pure none:=by rfl)(h1:(assignEach [tg] X.env).map (·.2)=[assign tg X.env]:=by rfl):LS X κ (.Assign [tg] a pos) (bp fa g):=.mk (fF (sO h.pe hg.pe hs hw h1) λ_ _ _=>pE)
end
end
section
section
variable {X:Cx}{K:W.Frag}{κ:Str->Addr}{ι:List Addr}{H:Hp}{σ:L2.St}
noncomputable def br:List Ev->De->List M->Option Wk:=λes Z G=>match pM es Z G with
 | some w=>some w
 | none=>zh es Z G
theorem wo    (h:bX fa p Z G=some (w,es,Z1,G1))(hpq:p es Z1 G1=some w->q es Z1 G1=some w):bX fa q Z G=some (w,es,Z1,G1):=by
 unfold bX at h ⊢
 split at h
 ·rename_i es' Z' G' e
  cases hp:p es' Z' G' with
  | none=>rw [hp] at h;cases h
  | some w' =>
   rw [hp] at h
   cases h
   rw [hpq hp];rfl
 ·cases h
theorem Eh{f:Mo Ev}{R:It->Hp->Prop}(h:pJ K κ (bX (one f) br) σ H R):sS K (bc K κ f) σ H R∨sT K (bc K κ f) σ H R:=by
 obtain⟨ι,Z,G,w,es,Z',G',s,eq,k⟩:=h
 by_cases hq:pM es Z' G'=some w
 ·left
  refine mF (jx CW ⟨ι,Z,G,w,es,Z',G',s,wo eq λ_=>hq,k⟩)
 ·right
  refine mF (jx CY ⟨ι,Z,G,w,es,Z',G',s,wo eq λhs=>?_,k⟩)
  unfold br at hs
  split at hs
  ·rename_i w' hw
   exact absurd (hw.trans hs) hq
  ·exact hs
theorem zj{a b:Ev}{v u:V}{x y:Vl}{Z:De}{G:List M}(ha:a=.v x)(hb:b=.v y)(l:σ.length=Z.length)(h:SR K κ ι H (σ++tS [a,b] [v,u]) (Z++tD [a,b]) G):Args K κ ι H σ Z G [a,b] [v,u]:=⟨l,h,.cons (λi q=>by rw [ha] at q;cases q) (.cons (λi q=>by rw [hb] at q;cases q) .nil)⟩
noncomputable def bb:Mo Bool:=rt true
theorem Ei{Q:Bool->Hp->Prop}(h:ez K κ bb σ H Q):uC σ H Q:=by
 obtain⟨ι,Z,G,b,Z',G',s,eq,k⟩:=h
 cases eq
 exact k _ _ s (Step.refl _ _ _)
end
section
variable {X:Cx}{κ:Str->Addr}{a b c e tg:Expr}{es:List Expr}{fa fb:Mo Ev}{fs:Mo (List Ev)}{fc:Mo Bool}{p pos p0:Pos}{k k0:Nat}{elts:List Expr}
theorem c5(h:LE X κ a fa):LI X κ tg a (bX (one fa) br):=.mk (kC (vw (Au h.pe) (Av h.pe)) λ_ _ _=>Eh)
theorem qf(hm:X.mg "range" = none)(ha:LA X κ [a] fs)(hg:Gl X "range":=by rfl)(hs:starEach [a] X.env=[(false,eval a X.env)]:=by rfl):LI X κ tg (.Call (.Name "range" p) [a] [] pos) (bX fs fZ):=.mk (kC (Ax hg hm ha.pe hs) λ_ _ _ q=>jx CU q)
theorem eX(h:zi X es is)(hc:X.calm=true:=by rfl)(hl:(assignEach es X.env).length=is.length:=by rfl)(hst:(assignEach es X.env).findIdx? (·.1)=none:=by rfl):LG X κ (.Tuple es k0 p) (cj is):=.mk (by
 refine vp (sM hc h hl hst) λ_ _ _ _=>CP)
@[irreducible] noncomputable def kU(X:Cx)(κ:Str->Addr)(ifs:List Expr)(f:Mo Bool):Prop:=nS X ifs (ez X.K κ f)
theorem kU.mk  (h:nS X ifs (ez X.K κ f)):kU X κ ifs f:=by unfold kU;exact h
theorem kU.pe  (h:kU X κ ifs f):nS X ifs (ez X.K κ f):=by unfold kU at h;exact h
theorem dB:kU X κ [] bb:=.mk (λpins s σ H Q I h=>B8 pins s σ H Q I (Ei h))
theorem wq(h:LT X κ c fc):kU X κ [c] fc:=.mk (B9 h.pe)
variable {scope:Scope}{x y:Str}{ys:List Str}{ix:List Nat}{ifs:List Expr}{fi:IF}{px py:Pos}
theorem eL(O:yc X scope [x] ys ix)(hi:LI X κ (.Name x px) a fi)(hf:∀z,kU (eO X scope ([x]++ys) z) κ ifs fc)(he:∀z,LE (eO X scope ([x]++ys) z) κ e fb)(hc:X.calm=true:=by rfl)(hs:∀v,foldedSetIterable a X.env v=pure v:=by intro _;rfl):LE X κ (.ListComp e [⟨.Name x px,a,ifs,0⟩] scope pos) (da fi ix c1 fc fb):=.mk (aV (uK O hc hi.pe (λz=>mv O rfl) (λz=>(hf z).pe) (λz=>(he z).pe) hs) λ_ _ _=>pN (λ_=>vd))
theorem wt (O:yc X scope [x] ys ix)(hi:LI X κ (.Name x px) a fi)(hf:∀z,kU (eO X scope ([x]++ys) z) κ ifs fc)(he:∀z,LE (eO X scope ([x]++ys) z) κ e fb)(hN:X.N.Nodup)(hy:X.N[i]?=some y:=by rfl)(hl:X.env.scope.names.lookup y=some .local:=by rfl)(hc:X.calm=true:=by rfl)
  (hsw:swapsWith (.ListComp e [⟨.Name x px,a,ifs,0⟩] scope pos) (some (.Name y py)) spos.line X.env=pure true:=by rfl) (hs:∀v,foldedSetIterable a X.env v=pure v:=by intro _;rfl):LS X κ (.Assign [.Name y py] (.ListComp e [⟨.Name x px,a,ifs,0⟩] scope pos) spos) (bp (da fi ix c1 fc fb) (bf i)):=.mk (fF (Cv O hc hN hy hl hi.pe (λz=>mv O rfl) (λz=>(hf z).pe) (λz=>(he z).pe) hsw hs) λD σ H q=>by
  obtain⟨ι,Z,G,e,Z',G',s,eq,kk⟩:=pE q
  exact pN (λ_=>vd) ⟨ι,Z,G,e,Z',G',s,eq,λv ι' H' a=>pC (kk v ι' H' a)⟩)
theorem Ej (O:yc X scope [x1,x2] ys ix)(hc:X.calm=true)(z:yb):PG (eO X scope ([x1,x2]++ys) z) (.Tuple [.Name x1 q1,.Name x2 q2] kk q0) (lO X.K 2 (iQ (List.range 2))) :=
 sM hc (oB (mv O rfl) (oB (mv O rfl) sL))
theorem Ek (O:yc X scope [x1,x2] ys ix)(hi:LI X κ (.Tuple [.Name x1 q1,.Name x2 q2] kk q0) a fi)(hf:∀z,kU (eO X scope ([x1,x2]++ys) z) κ ifs fc)(he:∀z,LE (eO X scope ([x1,x2]++ys) z) κ e fb)(hc:X.calm=true:=by rfl)(hs:∀v,foldedSetIterable a X.env v=pure v:=by intro _;rfl):LE X κ (.ListComp e [⟨.Tuple [.Name x1 q1,.Name x2 q2] kk q0,a,ifs,0⟩] scope pos) (da fi ix (cN 2) fc fb):=.mk (aV (uK O hc hi.pe (Ej O hc) (λz=>(hf z).pe) (λz=>(he z).pe) hs) λ_ _ _=>pN (λ_=>vf 2))
end
section
variable {P:Program}{w:World}{K:W.Frag}{mg:Str->Option Value}{base:Heap}{κ:Str->Addr}
theorem bj{x qual:Str}{st:Stmt}{f:Addr}{fd:FuncData}{N ps:List Str}{k n r:Nat}{body:SF}(F:Fun K x qual st f fd)(S:y4a N ps (aK st))(hn:ps.length=n)(hN:N.length=n+r)
  (hb:∀(cdv:Value) (A:Around) (outer:List Env) (s:Shared) (H:Hp) (E:XK),y58 k (A.deeper (envOfC qual (aK st) s.heap.objs.size f cdv))->iT (oO bU P w K mg base N qual (aK st) f cdv A outer s H E).nox κ (hG st) body) :
  y49 P w K mg base bU (k+1) f fd ps (aR K κ n (aY n r body)):=by
 refine F.ok S (λvs H Q E h=>by rw [(vb h).1,hn]) (λcdv A outer s H vs Q E hr h=>⟨_,(hb cdv A outer s H E hr).pe,?_⟩)
 obtain⟨l,q⟩:=vb h
 unfold L2.start
 have e:N.length-vs.length=r:=by lia
 rw [e]
 exact q
theorem El{f:Addr}{fd:FuncData}{ps:List Str}{k n:Nat}:y49 P w K mg base bU k f fd ps (aR K κ n λ_ _=>none) :=
 ⟨λvs H Q E h=>(by obtain⟨_,_,_,_,_,_,_,e,_⟩:=h;cases e),λ_ _ _ _ _ _ _ _ _ _ _ _ _ h=>(by obtain⟨_,_,_,_,_,_,_,e,_⟩:=h;cases e)⟩
end
end
end B
set_option maxHeartbeats 4000000
namespace PySem
open PySem.Spec PyProof.Rows
section
variable {prog:Program}{w:World}{K:Type}[DecidableEq K]{knd:KeyKind prog w K}{A:Around}{E:Value->Shared->Prop}{R:Result->Shared->Prop}
end
end PySem
set_option maxHeartbeats 400000
namespace B
open PySem PySem.Spec PyProof.Rows L2
section
section
variable {K:W.Frag}{κ:Str->Addr}{ι:List Addr}{H:Hp}
noncomputable def wu:List I->Option (List Int)
 | []=>some []
 | .int i::r=>(wu r).map (i::·)
 | _=>none
noncomputable def fN:List I->Option (List Str)
 | []=>some []
 | .str i::r=>(fN r).map (i::·)
 | _=>none
theorem qg:∀ns:List Str,fN (ns.map I.str)=some ns
 | []=>rfl
 | n::ns=>by rw [z19,fN,qg ns];rfl
theorem qh:∀{xs:List I} {vs:List V} {ns:List Str},y5a K ι H vs xs->fN xs=some ns->vs=ns.map V.str
 | [],_,_,r,h=>by cases r;cases h;rfl
 | x::xs,_,_,r,h=>by
  cases r with
  | cons r1 r2 =>
   cases r1 with
   | str i =>
    rw [fN] at h
    cases e:fN xs with
    | none=>rw [e] at h;cases h
    | some ms=>rw [e] at h;cases h;rw [z19,<- qh r2 e]
   | _=>cases h
noncomputable def IJ:List Ev->Mo Ev:=λes Z G=>match es with
 | [a]=>if eV a then match sq Z G a with
  | some xs=>match wu xs with
   | some ns=>some (.v (.im (.int ns.sum)),Z,G)
   | none=>none
  | none=>none
  else none
 | _=>none
noncomputable def IG:List Ev->Mo Ev:=λes Z G=>match es with
 | [.v (.im (.bl b))]=>some (.v (.im (.int (if b then 1 else 0))),Z,G)
 | [.v (.im (.int i))]=>some (.v (.im (.int i)),Z,G)
 | _=>none
noncomputable def m3:List I->Option (List Bool)
 | []=>some []
 | .bl i::r=>(m3 r).map (i::·)
 | _=>none
theorem yab:∀ns:List Bool,m3 (ns.map I.bl)=some ns
 | []=>rfl
 | n::ns=>by rw [z19,m3,yab ns];rfl
theorem yac:∀{xs:List I} {vs:List V} {ns:List Bool},y5a K ι H vs xs->m3 xs=some ns->vs=ns.map V.bl
 | [],_,_,r,h=>by cases r;cases h;rfl
 | x::xs,_,_,r,h=>by
  cases r with
  | cons r1 r2 =>
   cases r1 with
   | bl i =>
    rw [m3] at h
    cases e:m3 xs with
    | none=>rw [e] at h;cases h
    | some ms=>rw [e] at h;cases h;rw [z19,<- yac r2 e]
   | _=>cases h
noncomputable def m4:List Ev->Mo Ev:=λes Z G=>match es with
 | [a]=>match pk Z G a with
  | some (.lst xs)=>match m3 xs with
   | some bs=>some (.v (.im (.bl (bs.all id))),Z,G)
   | none=>none
  | _=>none
 | _=>none
theorem Em:aF K κ (λxs H Q=>∃(p:Addr) (bs:List Bool),xs=[.ref p]/\bB K H p (bs.map V.bl)/\Q (.bl (bs.all id)) H) m4:=by
 intro ι H σ Z G es vs e Z' G' Q a h k
 unfold m4 at h
 split at h
 ·rename_i x
  split at h
  ·rename_i xs hx
   split at h
   ·rename_i ns hn
    obtain⟨v,rfl⟩:=b5 a.len
    obtain⟨p,e1,ys,h1,r⟩:=a.pk (j:=0) rfl rfl hx
    subst e1
    exact⟨p,ns,rfl,by rw [<- yac r hn];exact bB.of h1,k _ _ _ (b8 h (a6 a (.bl _)))⟩
   ·cases h
  ·cases h
 ·cases h
noncomputable def wx:Ev->Bool
 | .v (.im (.str _))=>true
 | _=>false
noncomputable def cW(p:List Ev->Mo Ev)(fo:Mo Ev)(fa:Mo (List Ev)):Mo Ev:=bd fo λe=>λZ G=>if wx e then bd fa (λes=>p (e::es)) Z G else none
theorem kW{σ:L2.St}{p:List Ev->Mo Ev}{fo:Mo Ev}{fa:Mo (List Ev)}{r:V->List V->Hp->VK->Prop}{Q:VK}(hp:aF K κ (rM r) p)(h:bc K κ (cW p fo fa) σ H Q):BX K "str" r (bc K κ fo) (iN K κ fa) σ H Q:=by
 obtain⟨ι,Z,G,e,Z',G',s,eq,k⟩:=h
 obtain⟨x,Z1,G1,e1,eq1⟩:=cD eq
 split at eq1
 ·rename_i hl
  obtain⟨es,Z2,G2,e2,eq2⟩:=cD eq1
  refine⟨ι,Z,G,x,Z1,G1,s,e1,λv ι1 H1 a1=>⟨?_,?_⟩⟩
  ·unfold wx at hl
   split at hl
   ·cases cz (a1.ar.im (j:=0) rfl rfl);rfl
   ·cases hl
  refine⟨ι1,Z1,G1,es,Z2,G2,a1.ar.base,e2,λvs ι2 H2 a2=>?_⟩
  have a:=a1.app a2
  obtain⟨y,ys,ey,q⟩:=hp _ _ _ _ _ _ _ _ _ _ Q a.ar eq2 λv ι3 H3 d=>k _ _ _ (a.then d)
  cases ey
  exact q
 ·cases eq1
noncomputable def bR:List Ev->Mo Ev:=λes Z G=>match es with
 | [.v (.im (.str z)),a]=>match pk Z G a with
  | some (.lst xs)=>match fN xs with
   | some ys=>if (ys.map (·.length)).sum+ys.length*z.length≤1000000 then some (.v (.im (.str (PySem.Txt.join z ys))),Z,G) else none
   | none=>none
  | _=>none
 | _=>none
theorem En:aF K κ (rM (nV K)) bR:=by
 intro ι H σ Z G es vs e Z' G' Q a h k
 unfold bR at h
 split at h
 ·rename_i z x
  split at h
  ·rename_i xs hx
   split at h
   ·rename_i ys hn
    split at h
    ·rename_i hz
     obtain⟨v,u,rfl⟩:=bV a.len
     cases cz (a.im (j:=0) rfl rfl)
     obtain⟨p,e1,us,h1,r⟩:=a.pk (j:=1) rfl rfl hx
     subst e1
     exact⟨_,_,rfl,z,p,ys,rfl,rfl,by rw [<- qh r hn];exact bB.of h1,z21 hz (by decide),k _ _ _ (b8 h (a6 a (.str _)))⟩
    ·cases h
   ·cases h
  ·cases h
 ·cases h
mutual
noncomputable def jM:I->Option PyData
 | .non=>some .none
 | .bl b=>some (.bool b)
 | .int i=>some (.int i)
 | .str x=>some (.str x)
 | .tup xs=>(fO xs).map PyData.tuple
 | .con xs=>(fO xs).map PyData.tuple
 | _=>none
noncomputable def fO:List I->Option (List PyData)
 | []=>some []
 | x::xs=>match jM x,fO xs with
  | some d,some ds=>some (d::ds)
  | _,_=>none
end
end
mutual
inductive RdD(K:W.Frag)(H:Hp):V->PyData->Prop
 | non:RdD K H .non .none
 | bl (b:Bool):RdD K H (.bl b) (.bool b)
 | int (i:Int):RdD K H (.int i) (.int i)
 | str (x:Str):RdD K H (.str x) (.str x)
 | tup {a:Addr} {vs:List V} {xs:List PyData}:bt K H a vs->y56 K H vs xs->RdD K H (.ref a) (.tuple xs)
inductive y56(K:W.Frag)(H:Hp):List V->List PyData->Prop
 | nil:y56 K H [] []
 | cons {v:V} {d:PyData} {vs:List V} {ds:List PyData}:RdD K H v d->y56 K H vs ds->y56 K H (v::vs) (d::ds)
end
section
variable {X:Cx}{K:W.Frag}{κ:Str->Addr}{ι:List Addr}{H:Hp}{pins:List (Addr×Obj)}{σ:L2.St}{s:Shared}
mutual
theorem RdD.reads(I:Inv X pins σ H s):∀{v:V} {d:PyData} {u:Value},RdD X.K H v d->aC v u->∃as,Reads s.heap u d as/\d.hasDict=false
 | _,_,_,.non,r=>by cases (show _=Value.none from r);exact⟨_,.none,rfl⟩
 | _,_,_,.bl b,r=>by cases (show _=Value.bool b from r);exact⟨_,.bool b,rfl⟩
 | _,_,_,.int i,r=>by obtain⟨t,rfl⟩:=r;exact⟨_,.int i t,rfl⟩
 | _,_,_,.str x,r=>by obtain⟨t,rfl⟩:=r;exact⟨_,.str x t,rfl⟩
 | _,_,_,.tup h hs,r=>by
  cases (show _=Value.ref _ from r)
  obtain⟨its,rv,⟨o,h1,h2,n,h3⟩,_⟩:=I.tuple h
  obtain⟨as,hr,hd⟩:=y56.reads I hs rv
  exact⟨as,.tuple h1 h2 h3 (by simpa using hr),by simpa only [PyData.hasDict] using hd⟩
theorem y56.reads(I:Inv X pins σ H s):∀{vs:List V} {ds:List PyData} {us:List Value},y56 X.K H vs ds->az vs us->∃as,ReadsAll s.heap us ds as/\PyData.hasDictAll ds=false
 | _,_,_,.nil,r=>by cases r;exact⟨_,.nil,rfl⟩
 | _,_,_,.cons h hs,r=>by
  cases r with
  | cons r1 r2 =>
   obtain⟨as,p1,p2⟩:=RdD.reads I h r1
   obtain⟨bs,q1,q2⟩:=y56.reads I hs r2
   exact⟨_,.cons p1 q1,by simp only [PyData.hasDictAll,p2,q2,Bool.or_self]⟩
end
mutual
theorem RpI.rdD:∀{x:I} {v:V} {d:PyData},RpI K ι H v x->jM x=some d->RdD K H v d
 | .non,_,_,r,h=>by cases jr (r);rw [jM] at h;cases h;exact .non
 | .bl b,_,_,r,h=>by cases mw (r);rw [jM] at h;cases h;exact .bl b
 | .int i,_,_,r,h=>by cases dO (r);rw [jM] at h;cases h;exact .int i
 | .str i,_,_,r,h=>by cases cz (r);rw [jM] at h;cases h;exact .str i
 | .tup xs,_,_,r,h=>by
  rw [jM] at h
  obtain⟨_,_,rfl,h1,h2⟩:=iL r
  cases e:fO xs with
  | none=>rw [e] at h;cases h
  | some ds=>rw [e] at h;cases h;exact .tup (bt.of h1) (y5a.rdD h2 e)
 | .con xs,_,_,r,h=>by
  rw [jM] at h
  obtain⟨_,_,rfl,h1,h2⟩:=oY r
  cases e:fO xs with
  | none=>rw [e] at h;cases h
  | some ds=>rw [e] at h;cases h;exact .tup (bt.kon h1) (y5a.rdD h2 e)
 | .ty _,_,_,r,h=>by rw [jM] at h<;>first|cases h|(intros;contradiction)
 | .ref _,_,_,r,h=>by rw [jM] at h<;>first|cases h|(intros;contradiction)
 | .fro _,_,_,r,h=>by rw [jM] at h<;>first|cases h|(intros;contradiction)
theorem y5a.rdD:∀{xs:List I} {vs:List V} {ds:List PyData},y5a K ι H vs xs->fO xs=some ds->y56 K H vs ds
 | [],_,_,r,h=>by cases r;rw [fO] at h;cases h;exact .nil
 | x::xs,_,_,r,h=>by
  cases r with
  | cons r1 r2 =>
   rw [fO] at h
   split at h
   ·rename_i d ds e1 e2
    cases h
    exact .cons (RpI.rdD r1 e1) (y5a.rdD r2 e2)
   ·cases h
end
noncomputable def m5(d:PyData):Bool:=d.showable&&decide (d.depth≤50)&&decide (d.shown.length≤1000000)
noncomputable def kX:List Ev->Mo Ev:=λes Z G=>match es with
 | [.v (.im (.tup xs))]=>match fO xs with
  | some ds=>if m5 (.tuple ds) then some (.v (.im (.str (PyData.shown (.tuple ds)))),Z,G) else none
  | none=>none
 | _=>none
theorem Eo:aF K κ (λxs H Q=>∃(p:Addr) (d:PyData),xs=[.ref p]/\RdD K H (.ref p) d/\d.showable=true/\d.depth≤50/\d.shown.length≤sizeLine/\Q (.str d.shown) H) kX:=by
 intro ι H σ Z G es vs e Z' G' Q a h k
 unfold kX at h
 split at h
 ·rename_i xs
  split at h
  ·rename_i ds hd
   split at h
   ·rename_i ho
    obtain⟨v,rfl⟩:=b5 a.len
    have r:=a.im (j:=0) rfl rfl
    have rd:=RpI.rdD r (by rw [jM,hd];rfl)
    unfold m5 at ho
    rw [z24,z24,decide_eq_true_eq,decide_eq_true_eq] at ho
    obtain⟨_,_,rfl,h1,h2⟩:=iL r
    exact⟨_,_,rfl,rd,ho.1.1,ho.1.2,z21 ho.2 (by decide),k _ _ _ (b8 h (a6 a (.str _)))⟩
   ·cases h
  ·cases h
 ·cases h
end
section
variable {X:Cx}{κ:Str->Addr}{a b e o:Expr}{es:List Expr}{fa fb:Mo Ev}{fs:Mo (List Ev)}{p pos apos ye7:Pos}{k:Nat}
theorem qi(hr:y58 k X.A)(hm:X.mg "all" = none)(ha:LA X κ (e::es) fs)(hg:Gl X "all":=by rfl)(hc:X.calm=true:=by rfl)(he:kb X e es:=by rfl)(hpl:ja X pos es:=by rfl):LE X κ (.Call (.Name "all" p) (e::es) [] pos) (bd fs m4):=.mk (aV (lZ (yba hc) hg hm PyProof.Rows.boot_all ha.pe (by decide) (by decide) he hpl) λ_ _ _ q=>fA Em q)
theorem dX(hr:y58 k X.A)(ho:LE X κ o fa)(ha:LA X κ (e::es) fs)(y1c5:attributeBase o "join" X.env (eval o X.env)=eval o X.env:=by rfl)
  (y1c9:((backTo ye7 (starEach (e::es) X.env)).all (λx=>!x.1)&&(backToKw ye7 (keywordEach [] X.env)).all (λx=>x.1.isSome)&&decide ((e::es).length+([]:List Keyword).length+(if ([]:List Keyword).isEmpty then 0 else 1)<30))=true:=by rfl)
  (y1ce:(apos.endLine == ye7.line)=true:=by rfl) (hs:starEach (e::es) X.env=(false,eval e X.env)::starEach es X.env:=by rfl) (y1d1:(backTo ye7 (starEach es X.env)).any (·.1)=false:=by rfl):LE X κ (.Call (.Attribute o "join" apos) (e::es) [] ye7) (cW bR fa fs):=.mk (aV (jm PySem.F.plainAttrs_str PySem.F.slot_str_join PySem.F.type_str_join Ci ho.pe ha.pe y1c5 y1c9 y1ce hs y1d1) λ_ _ _=>kW En)
end
end
end B
namespace L2
open PySem PySem.Spec PyProof.Rows
section
section
variable {X:Cx}{pins:List (Addr×Obj)}{σ:L2.St}{H:Hp}{s:Shared}
end
end
end L2
namespace B
open PySem PySem.Spec PyProof.Rows L2
section
section
variable {K:W.Frag}{κ:Str->Addr}{ι:List Addr}{H:Hp}
end
section
variable {X:Cx}{κ:Str->Addr}{e:Expr}{es:List Expr}{fs:Mo (List Ev)}{p pos:Pos}{k:Nat}
end
theorem rm (r:y58 k A)(h:j≤k:=by first|decide|lia):y58 j A:=r.mono h
end
end B
set_option maxHeartbeats 4000000
namespace PySem
open PySem.Spec PyProof.Rows
section
variable {prog:Program}{w:World}{K:Type}[DecidableEq K]{knd:KeyKind prog w K}{A:Around}{E:Value->Shared->Prop}{R:Result->Shared->Prop}
end
end PySem
set_option maxHeartbeats 400000
namespace L2
open PySem PySem.Spec PyProof.Rows
section
section
variable {X:Cx}{pins:List (Addr×Obj)}{σ:L2.St}{H:Hp}{s:Shared}
end
end
end L2
namespace B
open PySem PySem.Spec PyProof.Rows L2
section
section
variable {K:W.Frag}{κ:Str->Addr}{ι:List Addr}{H:Hp}
end
section
variable {X:Cx}{κ:Str->Addr}{a b e o:Expr}{es:List Expr}{fa fb:Mo Ev}{fs:Mo (List Ev)}{p pos apos ye7:Pos}{k:Nat}
theorem dC (hg:Gl X x)(hm:X.mg x=none)(hv:bootBuiltins x=some (.type n))(hn:x≠"__name__":=by decide)(hd:(x == ("__debug__" : Str))=false:=by decide):LE X κ (.Name x pos) (ah (.ty n)):=.mk (aV (zZ (v:=.ty n) hg hm hv rfl hn hd) λ_ _ _=>ju λ_ _=>.ty _)
end
theorem bo (h1:sc.kind=.function:=by rfl)(h2:sc.isCoroutine=false:=by rfl)(h3:sc.isGenerator=false:=by rfl)(h4:N.Nodup:=by decide +kernel)(h5:N.take P.length=P:=by rfl)(h6:∀x∈P,sc.names.lookup x=some .local∨sc.names.lookup x=some .cell:=by decide +kernel)(h7:∀y∈sc.names,y.2≠.free:=by decide +kernel):y4a N P sc:=⟨h1,h2,h3,h4,h5,h6,h7⟩
section
variable {P:Program}{w:World}{K:W.Frag}{mg:Str->Option Value}{base:Heap}{k:Nat}{ps:List Str}{sp:Sp}{f:Addr}{fd:FuncData}{C:Addr}{x q m:Str}{st:Stmt}
end
end
section
section
end
end
end B
set_option maxHeartbeats 4000000
namespace PySem
open PySem.Spec PyProof.Rows
section
variable {prog:Program}{w:World}{K:Type}[DecidableEq K]{knd:HeapKind prog w K}{A:Around}{E:Value->Shared->Prop}{s:Shared}
end
section
variable {K:Type}[DecidableEq K]
end
section
variable {prog:Program}{w:World}{K:Type}[DecidableEq K]{knd:HeapKind prog w K}{A:Around}{E:Value->Shared->Prop}{R:Result->Shared->Prop}
end
section
variable {prog:Program}{w:World}{K:Type}[DecidableEq K]{knd:HeapKind prog w K}{A:Around}{E:Value->Shared->Prop}{s:Shared}
end
section
variable {prog:Program}{w:World}{K:Type}[DecidableEq K]{knd:HeapKind prog w K}{A:Around}{E:Value->Shared->Prop}{s:Shared}
end
section
variable {prog:Program}{w:World}{K:Type}[DecidableEq K]{knd:KeyKind prog w K}{A:Around}{E:Value->Shared->Prop}{s:Shared}
end
end PySem
set_option maxHeartbeats 400000
namespace L2
open PySem PySem.Spec PyProof.Rows
section
section
noncomputable def rSd:V->List V->Hp->VK->Prop:=λx vs H Q=>∃(a b:Addr) (kvs:List (List aW×V)) (k:List aW) (y:V),x=.ref a/\vs=[.ref b,y]/\H a=some (.dT kvs)/\H b=some (.tup (k.map kV))/\kvs.length<sizeLine /\
 (∀v,dn kvs k=some v->Q v H)/\(dn kvs k=none->Q y (aP H a (.dT (cE kvs k y))))
noncomputable def Ep(kvs more:List (List aW×V)):List (List aW×V):=more.foldl (λacc kv=>cE acc kv.1 kv.2) kvs
noncomputable def Er(w:World)(k:List aW):Int:=reduceHash (Builtin.Tuple.tupleHashOf (k.map (rW w)))
noncomputable def IK(w:World):V->List V->Hp->VK->Prop:=λx vs H Q=>∃(a b:Addr) (kvs more:List (List aW×V)),x=.ref a/\vs=[.ref b]/\a≠b/\H a=some (.dT kvs)/\H b=some (.dT more)/\(kvs=[]->(more.map λp=>Er w p.1).Nodup)/\kvs.length+more.length≤1000000/\Q .non (aP H a (.dT (Ep kvs more)))
end
end
end L2
namespace PySem
end PySem
namespace L2
open PySem PySem.Spec PyProof.Rows
section
section
variable {X:Cx}{pins:List (Addr×Obj)}{σ:L2.St}{H:Hp}{s:Shared}
end
end
end L2
namespace B
open PySem PySem.Spec PyProof.Rows L2
section
variable {X:Cx}{K:W.Frag}{κ:Str->Addr}{ι:List Addr}{H H':Hp}{σ:L2.St}{Z:De}{G:List M}
structure Kw(H H':Hp):Prop where
 tup:∀a xs,H a=some (.tup xs)->H' a=some (.tup xs)
 frz:∀a o u,(∀ws,u≠HO.dK ws)->H a=some (.frz o u)->H' a=some (.frz o u)
noncomputable def kI:aW->I
 | .inl i=>.int i
 | .inr x=>.str x
end
end B
namespace L2
open PySem PySem.Spec PyProof.Rows
section
section
end
end
end L2
namespace B
open PySem PySem.Spec PyProof.Rows L2
section
section
variable {X:Cx}{K:W.Frag}{κ:Str->Addr}{ι:List Addr}{H:Hp}{σ:L2.St}
noncomputable def kY(fa fb:Mo Ev):Mo Ev:=bd fa λe=>λZ G=>match bS e Z G with
 | some (false,_,_)=>some (e,Z,G)
 | some (true,_,_)=>fb Z G
 | none=>none
noncomputable def wy(K:W.Frag)(ta tb:TE):TE:=λσ H Q=>ta σ H λx H1=>∃c,oG K x H1 c/\if c=true then tb σ H1 Q else Q x H1
theorem Es{a b:Expr}{bA:List Expr}{pos:Pos}{ta tb:TE}(ha:PE X a ta)(hb:PE X (.BoolOp .And (b::bA) pos) tb):PE X (.BoolOp .And (a::b::bA) pos) (wy X.K ta tb):=by
 intro pins s σ H Q I h
 refine BoolOp_and (aS (ha pins s σ H _ I h) λv s1 ⟨x,H1,I1,r1,c,hc,q1⟩=>?_)
 refine aS (oH pins s1 σ H1 x v (λb H'=>H'=H1/\b=c) I1 r1 ⟨c,hc,rfl,rfl⟩) λb s2 ⟨H2,I2,e1,e2⟩=>?_
 subst e1;subst e2
 cases b with
 | false=>rw [if_neg zf] at q1;exact⟨x,_,I2,r1,q1⟩
 | true=>rw [if_pos rfl] at q1;exact hb pins s2 σ _ Q I2 q1
theorem Et{fa fb:Mo Ev}{Q:VK}(h:bc K κ (kY fa fb) σ H Q):wy K (bc K κ fa) (bc K κ fb) σ H Q:=by
 obtain⟨ι,Z,G,e,Z',G',s,eq,k⟩:=h
 obtain⟨x,Z1,G1,e1,eq1⟩:=cD eq
 refine⟨ι,Z,G,x,Z1,G1,s,e1,λv ι1 H1 a=>?_⟩
 split at eq1
 ·rename_i d1 d2 ht
  cases eq1
  obtain⟨t,_,_⟩:=kD a.ar ht
  exact⟨false,t,by rw [if_neg zf];exact k _ _ _ a⟩
 ·rename_i d1 d2 ht
  obtain⟨t,_,_⟩:=kD a.ar ht
  obtain⟨p,q⟩:=a.drop
  exact⟨true,t,by rw [if_pos rfl];exact bc.go p q eq1 k⟩
 ·cases eq1
end
section
variable {X:Cx}{κ:Str->Addr}{a b e o:Expr}{es:List Expr}{ss:List Stmt}{fa fb fv:Mo Ev}{f:SF}{gf:GF}{fs:Mo (List Ev)}{p pos pos' apos ye7:Pos}{k:Nat}
theorem kZ{bA:List Expr}(ha:LE X κ a fa)(hb:LE X κ (.BoolOp .And (b::bA) pos) fb):LE X κ (.BoolOp .And (a::b::bA) pos) (kY fa fb):=.mk (aV (Es ha.pe hb.pe) λ_ _ _=>Et)
theorem Eu (hg:Gl X x)(hm:∃t,X.mg x=some (.int i t))(hd:(x == ("__debug__" : Str))=false:=by decide):LE X κ (.Name x pos) (ah (.int i)):=by
 obtain⟨t,hm⟩:=hm
 exact pO (v:=.int i) hg hm ⟨t,rfl⟩ (λ_ _=>.int _) hd
end
end
end B
namespace PySem.W
open PySem PySem.Calls PyProof.Rows PySem.Spec
end PySem.W
namespace L2
open PySem PySem.Spec PyProof.Rows
section
section
variable {X:Cx}{pins:List (Addr×Obj)}{σ:L2.St}{H:Hp}{s:Shared}
end
end
end L2
namespace B
open PySem PySem.Spec PyProof.Rows L2
section
section
variable {X:Cx}{K:W.Frag}{κ:Str->Addr}{ι:List Addr}{H:Hp}{σ:L2.St}
end
section
variable {X:Cx}{κ:Str->Addr}{a b e o:Expr}{es:List Expr}{fa fb:Mo Ev}{fs:Mo (List Ev)}{p pos apos ye7:Pos}{k:Nat}
end
end
end B
set_option maxHeartbeats 4000000
namespace L2
open PySem PySem.Spec PyProof.Rows
section
section
variable {X:Cx}
noncomputable def wz:V->List V->Hp->VK->Prop:=λx ys H Q=>∃(z y:Str) (i:Nat) (r:List Nat),x=.str z/\ys=[.str y]/\Builtin.Str.occurrences z y 0 z.length 1=i::r/\Q (.int i) H
theorem Ew:ko X "str.index" wz:=by
 intro pins s σ H x xs v us Q I rx r h
 obtain⟨z,y,i,bA,rfl,rfl,ho,q⟩:=h
 obtain⟨t,rfl⟩:=rx
 obtain⟨u,rfl,t',rfl⟩:=cX r
 exact call_gives PySem.F.slot_str_index (typeIs_str _ _ _) PySem.F.entry_str_index (PySem.F.args_str_index_2 _ _) (gives_str_index z y t t' i bA ho) ⟨.int i,H,I.tok _,⟨_,rfl⟩,q⟩
theorem yc2:y9 X (.type "str") (λxs H Q=>(∃i:Int,xs=[.int i]/\i.natAbs.log2<1920/\Q (.str (toString i)) H)∨∃x,xs=[.str x]/\Q (.str x) H):=by
 intro pins s σ H xs us Q I r h
 rcases h with h|⟨x,rfl,q⟩
 ·exact yc4 pins s σ H xs us Q I r h
 ·obtain⟨u,rfl,t,rfl⟩:=cX r
  exact PySem.P.str_of_str ⟨.str x,H,I,⟨_,rfl⟩,q⟩
noncomputable def wA(K:W.Frag)(H:Hp)(x:V):Prop:=x=.non∨∃a ys,x=.ref a/\bt K H a ys
noncomputable def rL:V->Bool
 | .non=>true
 | _=>false
noncomputable def nU:Value->Bool
 | .none=>true
 | _=>false
theorem wB{H:Hp}{x:V}{u:Value}(r:aC x u)(h:wA X.K H x):nU u=rL x:=by
 rcases h with rfl|⟨a,ys,rfl,_⟩
 ·cases r;rfl
 ·cases r;rfl
end
end
end L2
namespace PySem
open Builtin Builtin.Str PyProof.Rows
section
theorem yd9 (hh:A.handled=none)(hl:s.heap.IsList l items)(hne:l≠it)(hi:s.heap.IsRevIter it l ((items.size:Int)-1))(hn:items.size≤sizeLine)
  (hQ:∀h' tk acc,(∀b o,b≠it->s.heap.get? b=some o->h'.get? b=some o)->ItemsOf (λi v=>items[items.size-1-i]?=some v) acc items.size->Q acc.toList { s with heap:=h',toks:=tk }) :
  wpAny (model prog w) A (collect (.ref it)) Q E s:=by
 have hlt:l<s.heap.objs.size:=by obtain⟨_,e,_⟩:=hl;exact z16 e
 have hit:it<s.heap.objs.size:=by obtain⟨_,e,_⟩:=hi;exact z16 e
 have hSI:s.heap.objs.size≠it:=Nat.ne_of_gt hit
 unfold collect
 refine zd (wpAny_runValue (codeAny_builtin PySem.F.entry_proto_collect ?_))
 rw [Around.under_plainId PySem.F.plain_proto_collect _]
 refine zd (m:=newList []) (z33 (z1b ⟨plainId_quiet PySem.F.plain_list_iadd _,codeAny_builtin PySem.F.entry_list_iadd ?_⟩))
 rw [Around.under_plainId PySem.F.plain_list_iadd _]
 have hS:=z1c s.heap (o:={ cls:=.type "list",data:=.seq ([]:List Value).toArray }) rfl
 have hl2:(s.heap.push { cls:=.type "list",data:=.seq ([]:List Value).toArray }).IsList l items:=hl.push _
 have hi2:(s.heap.push { cls:=.type "list",data:=.seq ([]:List Value).toArray }).IsRevIter it l ((items.size:Int)-1):=hi.at λo e=>zc _ e
 have W:=Walks.listRev (prog:=prog) (w:=w) (A:=A.in1) hh it l hne items
 have st:(λi (h:Heap)=>i≤items.size/\h.IsRevIter it l ((items.size:Int)-1-(i:Int))/\h.IsList l items) 0 (s.heap.push { cls:=.type "list",data:=.seq ([]:List Value).toArray }):=⟨Nat.zero_le _,by simpa using hi2,hl2⟩
 have h1:Builtin.List.listSameRef (.ref s.heap.objs.size) (.ref it)=false:=by simp [Builtin.List.listSameRef,hSI]
 have h2':(Value.type "list_reverseiterator" == Value.type "list")=false:=by decide
 have h3:(Value.type "list_reverseiterator" == Value.type "tuple")=false:=by decide
 show wpAny _ A.in1 (Builtin.List.listExtendWith (.ref s.heap.objs.size) (.ref it) (.ref s.heap.objs.size)) _ _ _
 unfold Builtin.List.listExtendWith
 have hT:({ s with heap:=s.heap.push { cls:=.type "list",data:=.seq ([]:List Value).toArray } }:Shared).TypeIs (.ref it) "list_reverseiterator":=hi2.typeIs
 refine zd (wpAny_typeOf hT ?_)
 simp only [h1,h2',h3,Bool.or_false,Bool.false_eq_true,if_false]
 refine zd (wpAny_pyIter_revIter hi2 ?_)
 refine zd (wpAny_holding (uD hT ?_))
 have hSf:s.heap.objs.size∉[it,l]:=by simp only [zb,List.not_mem_nil,or_false,not_or];exact⟨hSI,Nat.ne_of_gt hlt⟩
 refine wpAny_ite_split (λhab=>absurd hab (by decide)) (λ_=>?_)
 refine z1b ⟨plainId_quiet PySem.F.plain_extend_loop _,codeAny_extend_loopS W.toS hn s.heap.objs.size hSf _ items.size 0 _ #[] 0 rfl (Nat.zero_le _) st hS (ItemsOf.nil _) λs' y68 c' hm hS' y1bf=>?_⟩
 show wpAny _ A (load s.heap.objs.size >>= _) _ _ s'
 refine zd (wpAny_load hS' ?_)
 refine z1b ?_
 rw [Moved.eq_with hm]
 refine hQ s'.heap s'.toks y68 (λb o hb e=>hm.heap b o (λy1d0=>?_) (zc _ e)) y1bf
 rcases zb.mp y1d0 with e'|y1d0
 ·exact absurd (z16 e) (by rw [e'];exact z2c _)
 ·exact hb (z22.mp y1d0)
theorem Ex{l it:Addr}{items:Array Value}{x:Str}{t:Tok}{Q:Value->Shared->Prop}(hh:A.handled=none)(hl:s.heap.IsList l items)(hne:l≠it)(hi:s.heap.IsRevIter it l ((items.size:Int)-1))(hn:items.size≤sizeLine)
  {ys:List Str} (hs:∀(i:Nat) (y:Str),ys[i]?=some y->∃u:Tok,items[i]?=some (Value.str y u)) (hsz:ys.length=items.size) (hf:(ys.map (·.length)).sum+ys.length*x.length≤16777216)
  (hQ:∀h' tk t',(∀b o,b≠it->s.heap.get? b=some o->h'.get? b=some o)->Q (.str (Txt.join x ys.reverse) t') { s with heap:=h',toks:=tk }) :
  wpAny (model prog w) A (call (.builtin "str.join") [.str x t,.ref it]) Q E s:=by
 refine wpAny_call (codeAny_call_builtin PySem.F.slot_str_join.plain PySem.F.entry_str_join (PySem.F.slot_str_join.check _ _ _ _ _ _ _ _ (typeIs_str _ _ _) (PySem.F.args_str_join_2 _ _) ?_))
 rw [join_tree_other]
 refine zd (wpAny_typeOf hi.typeIs ?_)
 show wpAny _ A.in1 ((pyIter (.ref it)).tryCatch _ >>= λit=>collect it >>= λitems=>joinTail x items) _ _ s
 refine zd (wpAny_tryCatch (wpAny_pyIter_revIter hi ?_))
 refine zd (yd9 hh hl hne hi hn λh' tk acc hk y1bf=>?_)
 have el:∃l:List (Str×Tok),strValues l=acc.toList/\l.map (·.1)=ys.reverse:=by
  have ex:∀v∈acc.toList,∃y u,v=Value.str y u:=λv hv=>by
   obtain⟨j,hj,rfl⟩:=Array.mem_iff_getElem.mp (Array.mem_toList_iff.mp hv)
   have q:items[items.size-1-j]?=some acc[j]:=y1bf.2 j _ (Array.getElem?_eq_getElem hj)
   have hj':items.size-1-j<ys.length:=by have:=y1bf.1;lia
   obtain⟨u,hu⟩:=hs _ _ (z15 hj')
   rw [hu] at q
   exact⟨_,_,(z25 q).symm⟩
  obtain⟨l,e⟩:=exists_strValues acc.toList ex
  refine⟨l,e,List.ext_getElem? λi=>?_⟩
  have ll:l.length=items.size:=by
   have:=congrArg List.length e
   simp only [strValues,z14,Array.length_toList] at this
   rw [this,y1bf.1]
  by_cases hi':i<items.size
  ·have hi2:i<acc.size:=by rw [y1bf.1];exact hi'
   have q:items[items.size-1-i]?=some acc[i]:=y1bf.2 i _ (Array.getElem?_eq_getElem hi2)
   have hj':items.size-1-i<ys.length:=by lia
   obtain⟨u,hu⟩:=hs _ _ (z15 hj')
   rw [hu] at q
   have q2:acc.toList[i]?=some (.str (ys[items.size-1-i]) u):=by
    rw [Array.getElem?_toList,Array.getElem?_eq_getElem hi2];exact q.symm
   rw [<- e,strValues,List.getElem?_map] at q2
   cases e3:l[i]? with
   | none=>rw [e3] at q2;cases q2
   | some p =>
    rw [e3] at q2
    have:p.1=ys[items.size-1-i]:=by
     obtain⟨p1,p2⟩:=p
     have:=z25 q2
     cases this;rfl
    rw [List.getElem?_map,e3,Option.map_some,this,List.getElem?_reverse (by lia),z15 (by lia)]
    congr 2
    lia
  ·rw [List.getElem?_eq_none (by rw [z14];lia),List.getElem?_eq_none (by rw [z37];lia)]
 obtain⟨l,e,e2⟩:=el
 rw [<- e]
 have hok:tooLong ((l.map (·.1)).toArray.foldl (· + ·.length+x.length) 0)=false:=by
  rw [StrLaws.joinTotal,e2]
  have h1:(ys.reverse.map (·.length)).sum=(ys.map (·.length)).sum:=by rw [List.map_reverse,List.sum_reverse]
  rw [h1,z37]
  unfold tooLong sizeLine
  exact decide_eq_false (by lia)
 have g:Gives (joinTail x (strValues l)) (joinMade x l):=by
  have made:=gives_joinTail x l hok
  rcases l with _|⟨p,_|⟨q,r⟩⟩<;>exact made
 refine g prog w A (wants Q E) { s with heap:=h',toks:=tk } (post_join l ⟨joinFit_length hok,λt' k=>?_⟩)
 rw [e2]
 exact hQ h' k t' hk
end
end PySem
namespace L2
open PySem PySem.Spec PyProof.Rows
section
section
noncomputable def wC(K:W.Frag)(to te:TE):TE:=λσ H Q=>to σ H λx H1=>∃z:Str,x=.str z/\te σ H1 λy H2=>∃(l:Addr) (ys:List Str),y=.ref l/\bB K H2 l (ys.map V.str)/\(ys.map (·.length)).sum+ys.length*z.length≤16777216/\Q (.str (Txt.join z ys.reverse)) H2
theorem wD:∀{ys:List Str} {us:List Value},az (ys.map V.str) us->∀(i:Nat) (y:Str),ys[i]?=some y->∃u:Tok,us[i]?=some (Value.str y u)
 | [],_,_,i,y,e=>by simp at e
 | z::ys,us,r,i,y,e=>by
  rw [z19] at r
  cases r with
  | cons r1 r2 =>
   obtain⟨t,rfl⟩:=r1
   cases i with
   | zero=>simp at e;subst e;exact⟨t,rfl⟩
   | succ i=>simpa using wD r2 i y (by simpa using e)
theorem Ey (hc:X.calm=true)(gr:Gl X "reversed")(mr:X.mg "reversed" = none)(ho:PE X o to)(he:PE X e te)
  (y1c5:attributeBase o "join" X.env (eval o X.env)=eval o X.env:=by rfl)
  (y1c9:((backTo ye7 (starEach [.Call (.Name "reversed" p2) [e] [] q2] X.env)).all (λx=>!x.1)&&(backToKw ye7 (keywordEach [] X.env)).all (λx=>x.1.isSome)
   && decide ([Expr.Call (.Name "reversed" p2) [e] [] q2].length+([]:List Keyword).length+(if ([]:List Keyword).isEmpty then 0 else 1)<30))=true:=by rfl)
  (y1ce:(apos.endLine == ye7.line)=true:=by rfl) (hs1:starEach [e] X.env=[(false,eval e X.env)]:=by rfl)
  (hs2:starEach [.Call (.Name "reversed" p2) [e] [] q2] X.env=[(false,eval (.Call (.Name "reversed" p2) [e] [] q2) X.env)]:=by rfl) :
  PE X (.Call (.Attribute o "join" apos) [.Call (.Name "reversed" p2) [e] [] q2] [] ye7) (wC X.K to te):=by
 intro pins s σ H Q I h
 refine wpAny_Call_method_late y1c5 y1c9 y1ce rfl (aS (ho pins s σ H _ I h) λv s1 ⟨x,H1,I1,r1,z,e1,q1⟩=>?_)
 subst e1
 obtain⟨h1,h2⟩:=oS I1 r1 rfl
 refine⟨"str","str.join",PySem.F.plainAttrs_str,PySem.F.slot_str_join,PySem.F.type_str_join,h1,h2,?_⟩
 obtain⟨t,rfl⟩:=r1
 rw [hs2]
 refine Calls.callWith_builtin rfl (Calls.evalArgs_plain ?_)
 show wpAny _ _ (spliced ((false,eval (.Call (.Name "reversed" p2) [e] [] q2) X.env)::backTo ye7 [])) _ _ s1
 refine Calls.spliced_cons ?_
 refine Call_ (gE I1 gr mr PyProof.Rows.boot_reversed (PyProof.Rows.callWith_type1 ?_ (by rw [hs1];rfl) rfl))
 rw [hs1]
 show wpAny _ _ (spliced ((false,eval e X.env)::backTo q2 [])) _ _ s1
 refine Calls.spliced_cons (aS (he pins s1 σ H1 _ I1 q1) λu s2 ⟨y,H2,I2,r2,l,ys,e2,hq,hz,q⟩=>Calls.spliced_nil ?_)
 subst e2
 cases r2
 obtain⟨its,rv,p,hsz⟩:=I2.list hq
 have hlen:=rv.length
 refine call_reversed_list p.isList (Calls.spliced_nil ?_)
 have hl1:(s2.heap.push (revObj l ((its.toArray.size:Int)-1))).IsList l its.toArray:=p.isList.push _
 have hlt:l<s2.heap.objs.size:=by obtain⟨_,e,_⟩:=p.isList;exact z16 e
 have hle:ys.length=its.length:=by rw [z14] at hlen;exact hlen
 refine Ex (I2.ok.hd hc) hl1 (z27 hlt) ⟨_,z1c _ rfl,rfl,rfl⟩ (by rw [ze,<- hle];rw [z14] at hsz;exact hsz)
  (λi y e=>by obtain⟨u,hu⟩:=wD rv i y e;exact⟨u,by simpa using hu⟩) (by rw [ze];exact hle) hz λh' tk t' hk=>?_
 exact⟨.str _,H2,I2.kept λb o e=>hk b o (z27 (z16 e)) (zc _ e),⟨_,rfl⟩,q⟩
inductive PJs(X:Cx):List Expr->List TE->Prop
 | nil:PJs X [] []
 | cons {e:Expr} {es:List Expr} {t:TE} {ts:List TE}:PE X e t->PJs X es ts->PJs X (e::es) (t::ts)
end
end
end L2
namespace PySem
open PyProof.Rows
structure ApD(z TI TO i1 i2:Addr)(fp1 fp2:List Addr):Prop where
 TIz:TI≠z
 TOz:TO≠z
 TITO:TI≠TO
 TIi1:TI≠i1
 TIi2:TI≠i2
 i12:i1≠i2
 m1:i1∈fp1
 m2:i2∈fp2
 a1:∀c∈fp1,c≠z/\c≠TO/\c≠i2
 a2:∀c∈fp2,c≠z/\c≠TO/\c≠i1
structure ZAt(z TI TO i1 i2:Addr)(S1 S2:Nat->Heap->Prop)(v a b:Value)(k1 k2:Nat)(h:Heap):Prop where
 zp:IsZip h z TI TO v
 ti:IsPair h TI (.ref i1) (.ref i2)
 own:IsPair h TO a b
 l:S1 k1 h
 r:S2 k2 h
noncomputable def bY(z TO i1 i2:Addr)(h h':Heap):Prop:=∀c o,c∉[z,TO,i1,i2]->h.get? c=some o->h'.get? c=some o
theorem bY.trans{z TO i1 i2:Addr}{h h1 h2:Heap}(x:bY z TO i1 i2 h h1)(y:bY z TO i1 i2 h1 h2):bY z TO i1 i2 h h2:=λc o n q=>y c o n (x c o n q)
theorem bY.of{z TO i1 i2 c:Addr}{h h1:Heap}(m:c∈[z,TO,i1,i2])(x:Heap.ExtBut c h h1):bY z TO i1 i2 h h1:=λb o n q=>x b o (λe=>n (e ▸ m)) q
section
variable {P:Program}{w:World}{A:Around}{E:Value->Shared->Prop}{s:Shared}{z TI TO i1 i2:Addr}{f1 f2:List Addr}{n1 n2 k1 k2:Nat}{P1 P2:Nat->Value->Prop}{S1 S2:Nat->Heap->Prop}{v a b:Value}
theorem ZAt.flag{j:Nat}{u v':Value}{Q:Unit->Shared->Prop}(D:ApD z TI TO i1 i2 f1 f2)(D1:Draws P w A i1 f1 n1 P1 S1)(D2:Draws P w A i2 f2 n2 P2 S2)(x:ZAt z TI TO i1 i2 S1 S2 v a b k1 k2 s.heap)
  (hj:j<5) (e:(#[v,.bool false,.bool false,.ref TI,.ref TO]:Array Value).setIfInBounds j u=#[v',.bool false,.bool false,.ref TI,.ref TO])
  (k:∀h',ZAt z TI TO i1 i2 S1 S2 v' a b k1 k2 h'->bY z TO i1 i2 s.heap h'->h'.objs.size=s.heap.objs.size->Q () { s with heap:=h' }):wpAny (model P w) A (setField (.ref z) j u) Q E s:=by
 refine wpAny_setField_rec x.zp hj λh' q sb=>?_
 rw [e] at q
 have kp:=sb.extBut
 exact k h' ⟨q,kp _ _ D.TIz x.ti,kp _ _ D.TOz x.own,D1.frame _ _ _ x.l λc m o=>kp c o (D.a1 c m).1,D2.frame _ _ _ x.r λc m o=>kp c o (D.a2 c m).1⟩ (.of (by simp) kp) sb.1
theorem ZAt.left{Q:Value->Shared->Prop}(D:ApD z TI TO i1 i2 f1 f2)(D1:Draws P w A i1 f1 n1 P1 S1)(D2:Draws P w A i2 f2 n2 P2 S2)(x:ZAt z TI TO i1 i2 S1 S2 v a b k1 k2 s.heap)(lt:k1<n1)
  (k:∀u h' tk,P1 k1 u->ZAt z TI TO i1 i2 S1 S2 v a b (k1+1) k2 h'->bY z TO i1 i2 s.heap h'->h'.objs.size=s.heap.objs.size->Q u { s with heap:=h',toks:=tk }):wpAny (model P w) A (Builtin.SmallTypes.nextOf (.ref i1)) Q E s:=by
 refine D1.item k1 s Q E lt x.l λu h' tk p st sb=>?_
 obtain⟨y1,y2,y3⟩:=D.a1 _ D.m1
 have kp:=sb.extBut
 exact k u h' tk p ⟨kp _ _ y1.symm x.zp,kp _ _ D.TIi1 x.ti,kp _ _ y2.symm x.own,st,D2.frame _ _ _ x.r λc m o=>kp c o (D.a2 c m).2.2⟩ (.of (by simp) kp) sb.1
theorem ZAt.right{Q:Value->Shared->Prop}(D:ApD z TI TO i1 i2 f1 f2)(D1:Draws P w A i1 f1 n1 P1 S1)(D2:Draws P w A i2 f2 n2 P2 S2)(x:ZAt z TI TO i1 i2 S1 S2 v a b k1 k2 s.heap)(lt:k2<n2)
  (k:∀u h' tk,P2 k2 u->ZAt z TI TO i1 i2 S1 S2 v a b k1 (k2+1) h'->bY z TO i1 i2 s.heap h'->h'.objs.size=s.heap.objs.size->Q u { s with heap:=h',toks:=tk }):wpAny (model P w) A (Builtin.SmallTypes.nextOf (.ref i2)) Q E s:=by
 refine D2.item k2 s Q E lt x.r λu h' tk p st sb=>?_
 obtain⟨y1,y2,y3⟩:=D.a2 _ D.m2
 have kp:=sb.extBut
 exact k u h' tk p ⟨kp _ _ y1.symm x.zp,kp _ _ D.TIi2 x.ti,kp _ _ y2.symm x.own,D1.frame _ _ _ x.l λc m o=>kp c o (D.a1 c m).2.2,st⟩ (.of (by simp) kp) sb.1
theorem ZAt.put{j:Nat}{u a' b':Value}{Q:Unit->Shared->Prop}(D:ApD z TI TO i1 i2 f1 f2)(D1:Draws P w A i1 f1 n1 P1 S1)(D2:Draws P w A i2 f2 n2 P2 S2)(x:ZAt z TI TO i1 i2 S1 S2 v a b k1 k2 s.heap)
  (e:(#[a,b]:Array Value).setIfInBounds j u=#[a',b'])
  (k:∀h',ZAt z TI TO i1 i2 S1 S2 v a' b' k1 k2 h'->bY z TO i1 i2 s.heap h'->h'.objs.size=s.heap.objs.size->Q () { s with heap:=h' }):wpAny (model P w) A (updateSeq TO λy=>y.setIfInBounds j u) Q E s:=by
 refine wpAny_updateSeq_pair x.own λh' q sb=>?_
 rw [e] at q
 have kp:=sb.extBut
 exact k h' ⟨kp _ _ D.TOz.symm x.zp,kp _ _ D.TITO x.ti,q,D1.frame _ _ _ x.l λc m o=>kp c o (D.a1 c m).2.1,D2.frame _ _ _ x.r λc m o=>kp c o (D.a2 c m).2.1⟩ (.of (by simp) kp) sb.1
theorem ZAt.more{h:Heap}(D1:Draws P w A i1 f1 n1 P1 S1)(D2:Draws P w A i2 f2 n2 P2 S2)(x:ZAt z TI TO i1 i2 S1 S2 v a b k1 k2 h)(o:Obj):ZAt z TI TO i1 i2 S1 S2 v a b k1 k2 (h.push o) :=
 have kp:∀{c u},h.get? c=some u->(h.push o).get? c=some u:=λq=>zc o q
 ⟨kp x.zp,kp x.ti,kp x.own,D1.frame _ _ _ x.l λ_ _ _=>kp,D2.frame _ _ _ x.r λ_ _ _=>kp⟩
theorem ZAt.at0{Q:Value->Shared->Prop}(x:ZAt z TI TO i1 i2 S1 S2 v a b k1 k2 s.heap)(k:Q v s):wpAny (model P w) A (field (.ref z) 0) Q E s:=wpAny_field x.zp rfl rfl k
theorem ZAt.at2{Q:Value->Shared->Prop}(x:ZAt z TI TO i1 i2 S1 S2 v a b k1 k2 s.heap)(k:Q (.bool false) s):wpAny (model P w) A (field (.ref z) 2) Q E s:=wpAny_field x.zp rfl rfl k
theorem ZAt.at3{Q:Value->Shared->Prop}(x:ZAt z TI TO i1 i2 S1 S2 v a b k1 k2 s.heap)(k:Q (.ref TI) s):wpAny (model P w) A (field (.ref z) 3) Q E s:=wpAny_field x.zp rfl rfl k
theorem ZAt.at4{Q:Value->Shared->Prop}(x:ZAt z TI TO i1 i2 S1 S2 v a b k1 k2 s.heap)(k:Q (.ref TO) s):wpAny (model P w) A (field (.ref z) 4) Q E s:=wpAny_field x.zp rfl rfl k
theorem ZAt.its{Q:Option (Array Value)->Shared->Prop}(x:ZAt z TI TO i1 i2 S1 S2 v a b k1 k2 s.heap)(k:Q (some #[.ref i1,.ref i2]) s):wpAny (model P w) A (seqItems? (.ref TI)) Q E s:=wpAny_seqItems x.ti rfl k
theorem ZAt.kept{Q:Option (Array Value)->Shared->Prop}(x:ZAt z TI TO i1 i2 S1 S2 v a b k1 k2 s.heap)(k:Q (some #[a,b]) s):wpAny (model P w) A (seqItems? (.ref TO)) Q E s:=wpAny_seqItems x.own rfl k
theorem Ez{u v:Value}{Q:Value->Shared->Prop}(k:Q (.ref s.heap.objs.size) { s with heap:=s.heap.push { cls:=.type "tuple",data:=.seq #[u,v] } }):wpAny (model P w) A (newTuple (#[u,v]:Array Value).toList) Q E s:=wpAny_newTuple (items:=[u,v]) k (by simp [sizeLine_eq])
theorem ZAt.ends{h2:Heap}{e:Addr}{oe:Obj}{H:Heap}{tk:Nat}(hz:IsZip h2 z TI TO .ellipsis)(st:bY z TO i1 i2 H h2)(q:h2.get? e=some oe)(hc:oe.cls=.type "StopIteration")
  (k:∀h' e tk,bY z TO i1 i2 H h'->(∃o,h'.get? e=some o/\o.cls=.type "StopIteration")->E (.ref e) { s with heap:=h',toks:=tk }) :
  wpAny (model P w) A (setField (.ref z) 0 .none) (λ_ s'=>E (.ref e) s') E { s with heap:=h2,toks:=tk }:=by
 refine wpAny_setField_rec (s:={ s with heap:=h2,toks:=tk }) hz (by simp) λh' _ sb=>k h' e tk (st.trans (.of (by simp) sb.extBut)) ⟨oe,sb.extBut _ _ (λy=>?_) q,hc⟩
 rw [y,hz] at q
 cases q
 simp at hc
theorem EA{Q:Fin->Shared->Prop}(D:ApD z TI TO i1 i2 f1 f2)(D1:Draws P w A i1 f1 n1 P1 S1)(D2:Draws P w A i2 f2 n2 P2 S2)(x:ZAt z TI TO i1 i2 S1 S2 .none a b k1 k2 s.heap)(le:k1<n1/\k2<n2∨k1=n1∨k1<n1/\k2=n2)
  (kI:k1<n1->k2<n2->∀u v h' tk,P1 k1 u->P2 k2 v->ZAt z TI TO i1 i2 S1 S2 (rawInt s.heap.objs.size) u v (k1+1) (k2+1) h'->IsPair h' s.heap.objs.size u v->h'.objs.size=s.heap.objs.size+1->bY z TO i1 i2 s.heap h'->Q (.done (.ret (.ref s.heap.objs.size))) { s with heap:=h',toks:=tk })
  (kE:¬ (k1<n1/\k2<n2)->∀h' e tk,bY z TO i1 i2 s.heap h'->(∃o,h'.get? e=some o/\o.cls=.type "StopIteration")->E (.ref e) { s with heap:=h',toks:=tk }) :
  wpAny (model P w) A (Builtin.«zip.__next__» ⟨[.ref z],[]⟩) Q E s:=by
 unfold Builtin.«zip.__next__» Builtin.SmallTypes.ownedTupleIsFree Builtin.SmallTypes.ownedTupleHandOut
 rcases le with⟨l1,l2⟩| end1|⟨l1,end2⟩
 ·repeat (first
   | with_reducible refine wpAny_onRaise ?_
   | with_reducible refine wpAny_letGo ?_
   | with_reducible refine x.flag (u:=.ellipsis) D D1 D2 (by simp) rfl λg1 x1 t1 z1=>?_
   | with_reducible refine x.at0 ?_|with_reducible refine x.at2 ?_|with_reducible refine x.at3 ?_|with_reducible refine x.at4 ?_|with_reducible refine x.its ?_
   | with_reducible refine ZAt.left (s:={ s with heap:=g1 }) D D1 D2 x1 l1 λu g2 tk2 p1 x2 t2 z2=>?_
   | with_reducible refine ZAt.kept (s:={ s with heap:=g2,toks:=tk2 }) x2 ?_
   | with_reducible refine ZAt.put (s:={ s with heap:=g2,toks:=tk2 }) D D1 D2 x2 rfl λg3 x3 t3 z3=>?_
   | with_reducible refine ZAt.right (s:={ s with heap:=g3,toks:=tk2 }) D D1 D2 x3 l2 λv g4 tk4 p2 x4 t4 z4=>?_
   | with_reducible refine ZAt.kept (s:={ s with heap:=g4,toks:=tk4 }) x4 ?_
   | with_reducible refine ZAt.put (s:={ s with heap:=g4,toks:=tk4 }) D D1 D2 x4 rfl λg5 x5 t5 z5=>?_
   | with_reducible refine ZAt.kept (s:={ s with heap:=g5,toks:=tk4 }) x5 ?_
   | with_reducible refine Ez ?_
   | with_reducible refine ZAt.flag (s:={ s with heap:=g5.push _,toks:=tk4 }) (u:=rawInt g5.objs.size) D D1 D2 (x5.more D1 D2 _) (by simp) rfl λg6 x6 t6 z6=>?_
   | with_reducible refine ZAt.flag (s:={ s with heap:=g6,toks:=tk4 }) (u:=.bool false) D D1 D2 x6 (by simp) rfl λg7 x7 t7 z7=>?_
   | wp_step)
  have zs:g5.objs.size=s.heap.objs.size:=z5.trans (z4.trans (z3.trans (z2.trans z1)))
  have new:∀{c o},g5.get? c=some o->g5.objs.size≠c:=λq=>Nat.ne_of_gt (z16 q)
  have far:g5.objs.size∉[z,TO,i1,i2]:=λm=>by
   obtain⟨o1,q1⟩:=D1.live _ _ x5.l
   obtain⟨o2,q2⟩:=D2.live _ _ x5.r
   simp only [zb,List.not_mem_nil,or_false] at m
   rcases m with m|m|m|m
   ·exact new x5.zp m
   ·exact new x5.own m
   ·exact new q1 m
   ·exact new q2 m
  have pr:IsPair g7 g5.objs.size u v:=t7 _ _ far (t6 _ _ far (z1c _ rfl))
  have sz:g7.objs.size=g5.objs.size+1:=z7.trans (z6.trans (Heap.size_push _ _))
  have all:bY z TO i1 i2 s.heap g7:=((t1.trans t2).trans (t3.trans t4)).trans (t5.trans λc o n q=>t7 c o n (t6 c o n (zc _ q)))
  show Q (.done (.ret (.ref g5.objs.size))) { s with heap:=g7,toks:=tk4 }
  rw [zs] at x7 pr sz ⊢
  exact kI l1 l2 u v g7 tk4 p1 p2 x7 pr sz all
 ·subst end1
  have kE:=kE λy=>z2c _ y.1
  repeat (first
   | with_reducible refine wpAny_onRaise ?_
   | with_reducible refine x.flag (u:=.ellipsis) D D1 D2 (by simp) rfl λg1 x1 t1 z1=>?_
   | with_reducible refine x.at0 ?_|with_reducible refine x.at2 ?_|with_reducible refine x.at3 ?_|with_reducible refine x.at4 ?_|with_reducible refine x.its ?_
   | with_reducible refine D1.done { s with heap:=g1 } _ _ x1.l λg2 e eb st=>st.elim λoe st=>?_
   | exact ZAt.ends (s:=s) (tk:=s.toks) (eb _ _ (D.a1 _ D.m1).1.symm x1.zp) (t1.trans (.of (by simp) eb)) st.1 st.2 kE
   | wp_step)
 ·subst end2
  have kE:=kE λy=>z2c _ y.2
  repeat (first
   | with_reducible refine wpAny_onRaise ?_
   | with_reducible refine wpAny_letGo ?_
   | with_reducible refine x.flag (u:=.ellipsis) D D1 D2 (by simp) rfl λg1 x1 t1 z1=>?_
   | with_reducible refine x.at0 ?_|with_reducible refine x.at2 ?_|with_reducible refine x.at3 ?_|with_reducible refine x.at4 ?_|with_reducible refine x.its ?_
   | with_reducible refine ZAt.left (s:={ s with heap:=g1 }) D D1 D2 x1 l1 λu g2 tk2 p1 x2 t2 z2=>?_
   | with_reducible refine ZAt.kept (s:={ s with heap:=g2,toks:=tk2 }) x2 ?_
   | with_reducible refine ZAt.put (s:={ s with heap:=g2,toks:=tk2 }) D D1 D2 x2 rfl λg3 x3 t3 z3=>?_
   | with_reducible refine D2.done { s with heap:=g3,toks:=tk2 } _ _ x3.r λg4 e eb st=>st.elim λoe st=>?_
   | exact ZAt.ends (s:=s) (tk:=tk2) (eb _ _ (D.a2 _ D.m2).1.symm x3.zp) ((t1.trans (t2.trans t3)).trans (.of (by simp) eb)) st.1 st.2 kE
   | wp_step)
theorem wF{h h':Heap}(t:bY z TO i1 i2 h h'):∀c o,c≠z->c≠TO->c≠i1->c≠i2->h.get? c=some o->h'.get? c=some o:=λc o n1 n2 n3 n4 q=>t c o (by simp [n1,n2,n3,n4]) q
theorem wG{Q:Option Value->Shared->Prop}(D:ApD z TI TO i1 i2 f1 f2)(D1:Draws P w A.in1 i1 f1 n1 P1 S1)(D2:Draws P w A.in1 i2 f2 n2 P2 S2)(x:ZAt z TI TO i1 i2 S1 S2 .none a b k1 k2 s.heap)(le:k1<n1/\k2<n2∨k1=n1∨k1<n1/\k2=n2)
  (kI:k1<n1->k2<n2->∀u v h' tk,P1 k1 u->P2 k2 v->ZAt z TI TO i1 i2 S1 S2 (rawInt s.heap.objs.size) u v (k1+1) (k2+1) h'->IsPair h' s.heap.objs.size u v->h'.objs.size=s.heap.objs.size+1->bY z TO i1 i2 s.heap h'->Q (some (.ref s.heap.objs.size)) { s with heap:=h',toks:=tk })
  (kE:¬ (k1<n1/\k2<n2)->∀h' tk,bY z TO i1 i2 s.heap h'->Q none { s with heap:=h',toks:=tk }):wpAny (model P w) A (pyNext (.ref z)) Q E s:=by
 have ty:s.TypeIs (.ref z) "zip":=⟨_,x.zp,rfl⟩
 refine zd (wpAny_attempt (wpAny_callSpecial?_slot ty F.slot_zip_next (wpAny_call_entry F.slot_zip_next ty F.entry_zip_next ?_ (F.args_zip_next_1 _))))
 refine EA D D1 D2 x le (λl1 l2 u v h' tk p1 p2 x' pr sz st=>⟨_,rfl,z1b (kI l1 l2 u v h' tk p1 p2 x' pr sz st)⟩) λno h' e tk st ⟨o,q,hc⟩=>?_
 exact zd (wpAny_isInstance ⟨o,q,hc⟩ isSubtype_stop (z1b (kE no h' tk st)))
theorem EB{Q:Option Value->Shared->Prop}(D:ApD z TI TO i1 i2 f1 f2)(D1:Draws P w A.in1 i1 f1 n1 P1 S1)(D2:Draws P w A.in1 i2 f2 n2 P2 S2)(hz:IsZip s.heap z TI TO .none)(ht:IsPair s.heap TI (.ref i1) (.ref i2))(ho:IsPair s.heap TO a b)
  (h1:S1 k1 s.heap) (h2:S2 k2 s.heap) (l1:k1<n1) (l2:k2<n2) (k:∀u v h' tk,P1 k1 u->P2 k2 v->IsZip h' z TI TO (rawInt s.heap.objs.size)->IsPair h' TO u v->S1 (k1+1) h'->S2 (k2+1) h'->IsPair h' s.heap.objs.size u v->h'.objs.size=s.heap.objs.size+1 ->
   (∀c o,c≠z->c≠TO->c≠i1->c≠i2->s.heap.get? c=some o->h'.get? c=some o)->Q (some (.ref s.heap.objs.size)) { s with heap:=h',toks:=tk }):wpAny (model P w) A (pyNext (.ref z)) Q E s :=
 wG D D1 D2 ⟨hz,ht,ho,h1,h2⟩ (.inl ⟨l1,l2⟩) (λ_ _ u v h' tk p1 p2 y pr sz st=>k u v h' tk p1 p2 y.zp y.own y.l y.r pr sz (wF st)) λno=>absurd ⟨l1,l2⟩ no
theorem EC{Q:Option Value->Shared->Prop}(D:ApD z TI TO i1 i2 f1 f2)(D1:Draws P w A.in1 i1 f1 n1 P1 S1)(D2:Draws P w A.in1 i2 f2 n2 P2 S2)(hz:IsZip s.heap z TI TO .none)(ht:IsPair s.heap TI (.ref i1) (.ref i2))(ho:IsPair s.heap TO a b)
  (h1:S1 k1 s.heap) (h2:S2 k2 s.heap) (le:k1=n1∨k1<n1/\k2=n2) (k:∀h' tk,(∀c o,c≠z->c≠TO->c≠i1->c≠i2->s.heap.get? c=some o->h'.get? c=some o)->Q none { s with heap:=h',toks:=tk }):wpAny (model P w) A (pyNext (.ref z)) Q E s :=
 wG D D1 D2 ⟨hz,ht,ho,h1,h2⟩ (.inr le) (λl1 l2=>by rcases le with rfl|⟨_,rfl⟩<;>lia) λ_ h' tk st=>k h' tk (wF st)
end
end PySem
namespace PySem
open PyProof.Rows
noncomputable def wH(v:Value)(o:Obj)(C:Heap->Prop):Prop:=∀(prog:Program) (w:World) (A:Around) (E:Value->Shared->Prop) (s:Shared) (Q:Value->Shared->Prop),C s.heap->Q (.ref s.heap.objs.size) { s with heap:=s.heap.push o }->wpAny (model prog w) A (pyIter v) Q E s
noncomputable abbrev m7(h:Heap)(o1 o2:Obj):Heap:=((h.push o1).push o2).push { cls:=.type "tuple",data:=.seq #[.ref h.objs.size,.ref (h.push o1).objs.size] }
noncomputable abbrev nc(h:Heap)(o1 o2:Obj):Heap:=(m7 h o1 o2).push { cls:=.type "tuple",data:=.seq #[.none,.none] }
noncomputable abbrev jN(h:Heap)(o1 o2:Obj):Heap:=(nc h o1 o2).push { cls:=.type "zip",data:=.fields #[.none,.bool false,.bool false,.ref ((h.push o1).push o2).objs.size,.ref (m7 h o1 o2).objs.size] }
theorem ED{v1 v2:Value}{o1 o2:Obj}{C1 C2:Heap->Prop}(p1:wH v1 o1 C1)(p2:wH v2 o2 C2)(hC:∀h,C2 h->C2 (h.push o1)) :
  Meets (Builtin.«zip.__new__» ⟨[.type "zip",v1,v2],[]⟩) (λ_ R s=>C1 s.heap/\C2 s.heap/\R (.ok (.ret (.ref (nc s.heap o1 o2).objs.size))) { s with heap:=jN s.heap o1 o2 }) :=
 .of_wp λprog w A R s h=>by
  obtain⟨hp,g,d,tk,os⟩:=s;obtain⟨c1,c2,h⟩:=h
  have hsub:=sub_zip
  have q1:∀{A:Around} {E:Value->Shared->Prop} {Q:Value->Shared->Prop},Q (.ref hp.objs.size) ⟨hp.push o1,g,d,tk,os⟩->wpAny (model prog w) A (pyIter v1) Q E ⟨hp,g,d,tk,os⟩:=λq=>p1 prog w _ _ ⟨hp,g,d,tk,os⟩ _ c1 q
  have q2:∀{A:Around} {E:Value->Shared->Prop} {Q:Value->Shared->Prop},Q (.ref (hp.push o1).objs.size) ⟨(hp.push o1).push o2,g,d,tk,os⟩->wpAny (model prog w) A (pyIter v2) Q E ⟨hp.push o1,g,d,tk,os⟩:=λq=>p2 prog w _ _ ⟨hp.push o1,g,d,tk,os⟩ _ (hC _ c2) q
  wp_walk using q1,q2
  exact⟨_,rfl,h⟩
section
variable {prog:Program}{w:World}{A:Around}{E:Value->Shared->Prop}{s:Shared}
theorem yc6{v1 v2:Value}{o1 o2:Obj}{C1 C2:Heap->Prop}{Q:Value->Shared->Prop}(p1:wH v1 o1 C1)(p2:wH v2 o2 C2)(hC:∀h,C2 h->C2 (h.push o1))(f1:o1.isFreed=false)(f2:o2.isFreed=false)(c1:C1 s.heap)(c2:C2 s.heap)
  (h:∀h',IsZip h' (s.heap.objs.size+4) (s.heap.objs.size+2) (s.heap.objs.size+3) .none->IsPair h' (s.heap.objs.size+2) (.ref s.heap.objs.size) (.ref (s.heap.objs.size+1)) ->
   IsPair h' (s.heap.objs.size+3) .none .none->h'.get? s.heap.objs.size=some o1->h'.get? (s.heap.objs.size+1)=some o2 ->
   (∀c o,s.heap.get? c=some o->h'.get? c=some o)->Q (.ref (s.heap.objs.size+4)) { s with heap:=h' }) :
  wpAny (model prog w) A (call (.type "zip") [v1,v2]) Q E s:=by
 refine callType_new F.called_zip (by decide) (F.typeCall_zip_2 _ _) (F.newCall_zip_2 _ _) (λobj=>F.args_object_init_3 obj _ _) F.entry_zip_new (ED p1 p2 hC) ⟨c1,c2,?_⟩
 have z1:(s.heap.push o1).objs.size=s.heap.objs.size+1:=Heap.size_push ..
 have z2:((s.heap.push o1).push o2).objs.size=s.heap.objs.size+2:=by rw [Heap.size_push,z1]
 have z3:(m7 s.heap o1 o2).objs.size=s.heap.objs.size+3:=by rw [Heap.size_push,z2]
 have z4:(nc s.heap o1 o2).objs.size=s.heap.objs.size+4:=by rw [Heap.size_push,z3]
 have g5:(jN s.heap o1 o2).get? (nc s.heap o1 o2).objs.size=some _:=z1c _ rfl
 have g4:(jN s.heap o1 o2).get? (m7 s.heap o1 o2).objs.size=some _:=zc _ (z1c _ rfl)
 have g3:(jN s.heap o1 o2).get? ((s.heap.push o1).push o2).objs.size=some _:=zc _ (zc _ (z1c _ rfl))
 have g2:(jN s.heap o1 o2).get? (s.heap.push o1).objs.size=some _:=zc _ (zc _ (zc _ (z1c _ f2)))
 have g1:(jN s.heap o1 o2).get? s.heap.objs.size=some _:=zc _ (zc _ (zc _ (zc _ (z1c _ f1))))
 show _/\_
 rw [z2,z3,z4] at g5
 rw [z1,z2] at g3
 rw [z3] at g4
 rw [z1] at g2
 rw [z4]
 exact⟨⟨_,g5,rfl⟩,h _ g5 g3 g4 g1 g2 λc o x=>zc _ (zc _ (zc _ (zc _ (zc _ x))))⟩
end
end PySem
namespace L2
open PySem PySem.Spec PyProof.Rows
section
structure ZipG(z TI TO i1 i2:Addr)(S T:Addr)(i:Nat)(h:Heap):Prop where
 z:IsZip h z TI TO .none
 ti:IsPair h TI (.ref i1) (.ref i2)
 to:∃a b,IsPair h TO a b
 s:h.IsTupleIter i1 S i/\S≠i1
 t:h.IsTupleIter i2 T i/\T≠i2
structure Ap5(z TI TO i1 i2:Addr)(S T:Addr):Prop where
 nd:[z,TI,TO,i1,i2].Nodup
 s:S∉[z,TI,TO,i1,i2]
 t:T∉[z,TI,TO,i1,i2]
section
variable {X:Cx}
end
end
section
section
theorem wI:∀(tk:Nat) (ys:List Str),az (ys.map V.str) (strsFrom tk ys)
 | _,[]=>.nil
 | tk,y::ys=>by rw [z19];exact .cons ⟨_,rfl⟩ (wI (tk+1) ys)
noncomputable def wJ:V->List V->Hp->VK->Prop:=λx ys H Q=>∃(z y:Str),x=.str z/\ys=[.str y]/\(y.length == 0)=false/\z.length≤1000000/\∀p,H p=none->Q (.ref p) (aP H p (.lst ((Txt.split z y).map V.str)))
theorem EE:ko X "str.split" wJ:=by
 intro pins s σ H x xs v us Q I rx r h
 obtain⟨z,y,rfl,rfl,hy,hz,q⟩:=h
 obtain⟨t,rfl⟩:=rx
 obtain⟨u,rfl,t',rfl⟩:=cX r
 have hz':z.length≤sizeLine:=by rw [sizeLine_eq];lia
 have one:∀(e:Txt.split z y=[z]),EP X pins σ Q (.ref s.heap.objs.size) { s with heap:=s.heap.push { cls:=.type "list",data:=.seq [Value.str z t].toArray } }:=λe=>by
  refine⟨.ref s.heap.objs.size,_,I.laid (λb o e=>zc _ e) (z13 _) ?_,rfl,q _ (I.hok.fresh (z13 _))⟩
  rw [e]
  exact⟨by show 1≤sizeLine;decide,[Value.str z t],_,.cons ⟨_,rfl⟩ .nil,z1c _ rfl⟩
 cases h1:(decide (z.length<y.length)||decide (Builtin.Str.strKind z<Builtin.Str.strKind y))
 ·cases hf:(Builtin.Str.occurrences z y 0 z.length (z.length+1)).isEmpty
  ·have e:Txt.split z y=Builtin.Str.partsBetween z (Builtin.Str.occurrences z y 0 z.length (z.length+1)) y.length:=by
    unfold Txt.split;rw [h1,hf];rfl
   have hn:(Builtin.Str.partsBetween z (Builtin.Str.occurrences z y 0 z.length (z.length+1)) y.length).length≤sizeLine:=by
    have h2:=StrLaws.occ_length_le z y 0 z.length (z.length+1)
    rw [StrLaws.partsBetween_eq]
    have h3:∀(w a:Nat) (l:List Nat),(StrLaws.partsFrom z w a l).length=l.length+1:=λw a l=>by
     induction l generalizing a with
     | nil=>rfl
     | cons b l ih=>show (StrLaws.partsFrom z w _ l).length+1=_;rw [ih];rfl
    rw [h3,sizeLine_eq];lia
   refine call_meets PySem.F.slot_str_split (typeIs_str _ _ _) PySem.F.entry_str_split (PySem.F.args_str_split_2 _ _) (meets_str_split_sep z y t t' h1 hy hf hz' hn) ?_
   refine⟨.ref s.heap.objs.size,_,I.laid (λb o e=>zc _ e) (z13 _) ?_,rfl,q _ (I.hok.fresh (z13 _))⟩
   rw [e]
   exact⟨by rw [z14];exact hn,_,_,wI _ _,z1c _ rfl⟩
  ·refine call_meets PySem.F.slot_str_split (typeIs_str _ _ _) PySem.F.entry_str_split (PySem.F.args_str_split_2 _ _) (meets_str_split_not_found z y t t' h1 hy hf) ?_
   exact one (by unfold Txt.split;rw [h1,hf];rfl)
 ·refine call_meets PySem.F.slot_str_split (typeIs_str _ _ _) PySem.F.entry_str_split (PySem.F.args_str_split_2 _ _) (meets_str_split_cannot_occur z y t t' h1) ?_
  exact one (by unfold Txt.split;rw [h1];rfl)
end
section
end
end
end L2
set_option maxHeartbeats 400000
namespace B
open PySem PySem.Spec PyProof.Rows L2
section
section
variable {K:W.Frag}{κ:Str->Addr}{ι:List Addr}{H:Hp}{σ:L2.St}
noncomputable def jO(j i:Str):Bool:=!(Builtin.Str.occurrences j i 0 j.length 1).isEmpty
noncomputable def gm(neg:Bool):List Ev->Mo Ev:=λes Z G=>match es with
 | [.v (.im (.str i)),.v (.im (.str j))]=>some (.v (.im (.bl (if neg then !(jO j i) else jO j i))),Z,G)
 | _=>none
theorem EF:aF K κ (r2 λx y H Q=>∃i j,x=.str i/\y=.str j/\Q (.bl (!(Builtin.Str.occurrences j i 0 j.length 1).isEmpty)) H) (gm false):=by
 intro ι H σ Z G es vs e Z' G' Q a h k
 unfold gm at h
 split at h
 ·obtain⟨v,u,rfl⟩:=bV a.len
  cases cz (a.im (j:=0) rfl rfl)
  cases cz (a.im (j:=1) rfl rfl)
  exact⟨_,_,rfl,_,_,rfl,rfl,k _ _ _ (b8 h (a6 a (.bl _)))⟩
 ·cases h
theorem EG:aF K κ (r2 λx y H Q=>∃i j,x=.str i/\y=.str j/\Q (.bl (!(!(Builtin.Str.occurrences j i 0 j.length 1).isEmpty))) H) (gm true):=by
 intro ι H σ Z G es vs e Z' G' Q a h k
 unfold gm at h
 split at h
 ·obtain⟨v,u,rfl⟩:=bV a.len
  cases cz (a.im (j:=0) rfl rfl)
  cases cz (a.im (j:=1) rfl rfl)
  exact⟨_,_,rfl,_,_,rfl,rfl,k _ _ _ (b8 h (a6 a (.bl _)))⟩
 ·cases h
noncomputable def hX(z:Str):Wk:=⟨z.cps.size,λi _ _=>(z.cps[i]?).map λc=>.str ⟨#[c]⟩,λ_ _=>true⟩
noncomputable def ng:List Ev->De->List M->Option Wk:=λes _ _=>match es with
 | [.v (.im (.str z))]=>some (hX z)
 | _=>none
theorem EH:pL K κ (λvs H R=>∃v,vs=[v]/\∃z,v=.str z/\R (yZ z) H) ng:=by
 intro ι H σ Z G es vs w R a h k
 unfold ng at h
 split at h
 ·rename_i z
  cases h
  obtain⟨v,rfl⟩:=b5 a.len
  cases cz (a.im (j:=0) rfl rfl)
  refine⟨_,rfl,z,rfl,k _ ⟨λ{i d ι' H' σ' Z' G'} hi hd l s=>⟨hi,λx H2 y=>?_⟩,λ{ι' H' σ' Z' G'} hf l s=>z13 _⟩⟩
  obtain⟨e1,c,e2,e3⟩:=y
  subst e1;subst e3
  have hd:(z.cps[i]?).map (λc=>I.str ⟨#[c]⟩)=some d:=hd
  rw [e2] at hd
  cases hd
  exact⟨λ_ _ h=>h,.str _⟩
 ·cases h
noncomputable def jP:List Ev->Mo Ev:=λes Z G=>match es with
 | [.v (.im (.str z)),.v (.im (.str y))]=>match Builtin.Str.occurrences z y 0 z.length 1 with
  | i::_=>some (.v (.im (.int i)),Z,G)
  | []=>none
 | _=>none
theorem EI:aF K κ (rM wz) jP:=by
 intro ι H σ Z G es vs e Z' G' Q a h k
 unfold jP at h
 split at h
 ·rename_i z y
  split at h
  ·rename_i i r hi
   obtain⟨v,u,rfl⟩:=bV a.len
   cases cz (a.im (j:=0) rfl rfl)
   cases cz (a.im (j:=1) rfl rfl)
   exact⟨_,_,rfl,z,y,i,r,rfl,rfl,hi,k _ _ _ (b8 h (a6 a (.int _)))⟩
  ·cases h
 ·cases h
noncomputable def b7:List Ev->Mo Ev:=λes Z G=>match es with
 | [.v (.im (.int i))]=>if i.natAbs.log2<1920 then some (.v (.im (.str (toString i))),Z,G) else none
 | [.v (.im (.str x))]=>some (.v (.im (.str x)),Z,G)
 | _=>none
theorem wK:aF K κ (λxs H Q=>(∃i:Int,xs=[.int i]/\i.natAbs.log2<1920/\Q (.str (toString i)) H)∨∃x,xs=[.str x]/\Q (.str x) H) b7:=by
 intro ι H σ Z G es vs e Z' G' Q a h k
 unfold b7 at h
 split at h
 ·split at h
  ·rename_i hz
   obtain⟨v,rfl⟩:=b5 a.len
   cases dO (a.im (j:=0) rfl rfl)
   exact .inl ⟨_,rfl,hz,k _ _ _ (b8 h (a6 a (.str _)))⟩
  ·cases h
 ·obtain⟨v,rfl⟩:=b5 a.len
  cases cz (a.im (j:=0) rfl rfl)
  exact .inr ⟨_,rfl,k _ _ _ (b8 h (a6 a (.str _)))⟩
 ·cases h
noncomputable def jc:Ev->Option String
 | .v (.im .non)=>some "NoneType"
 | .v (.im (.bl _))=>some "bool"
 | .v (.im (.int _))=>some "int"
 | .v (.im (.str _))=>some "str"
 | .v (.im (.tup _))=>some "tuple"
 | _=>none
noncomputable def dD:String->String->Option Bool
 | "int","int"=>some true
 | "int","bool"=>some false
 | "int","tuple"=>some false
 | "int","str"=>some false
 | "tuple","tuple"=>some true
 | "tuple","str"=>some false
 | "tuple","int"=>some false
 | "str","str"=>some true
 | "str","tuple"=>some false
 | "str","int"=>some false
 | "NoneType","str"=>some false
 | "NoneType","tuple"=>some false
 | "NoneType","int"=>some false
 | _,_=>none
theorem EJ{t n:String}{b:Bool}(h:dD t n=some b):W.kitOne K (.type t) (.type n)=some b:=by
 unfold dD at h
 split at h<;>cases h<;>first|(unfold W.kitOne;rw [if_pos (by simp)];done)|with_unfolding_all rfl
noncomputable def bJ:List Ev->Mo Ev:=λes Z G=>match es with
 | [a,.v (.im (.ty n))]=>match jc a with
  | some t=>match dD t n with
   | some b=>some (.v (.im (.bl b)),Z,G)
   | none=>none
  | none=>none
 | _=>none
theorem EK:aF K κ (λxs H Q=>∃x t n b,xs=[x,.ty n]/\y5e K H x t/\W.kitOne K t (.type n)=some b/\Q (.bl b) H) bJ:=by
 intro ι H σ Z G es vs e Z' G' Q a h k
 unfold bJ at h
 split at h
 ·rename_i x n
  split at h
  ·rename_i t ht
   split at h
   ·rename_i b hb
    obtain⟨v,u,rfl⟩:=bV a.len
    cases Cw (a.im (j:=1) rfl rfl)
    have ty:y5e K H v (.type t):=by
     unfold jc at ht
     split at ht
     ·cases ht;cases jr (a.im (j:=0) rfl rfl);exact .non
     ·cases ht;cases mw (a.im (j:=0) rfl rfl);exact .bl _
     ·cases ht;cases dO (a.im (j:=0) rfl rfl);exact .int _
     ·cases ht;cases cz (a.im (j:=0) rfl rfl);exact .str _
     ·cases ht
      obtain⟨_,_,rfl,e,_⟩:=iL (a.im (j:=0) rfl rfl)
      exact .tup e
     ·cases ht
    exact⟨_,_,n,b,rfl,ty,EJ hb,k _ _ _ (b8 h (a6 a (.bl _)))⟩
   ·cases h
  ·cases h
 ·cases h
noncomputable def qj:I->Bool
 | .non=>true
 | .tup _=>true
 | .con _=>true
 | _=>false
noncomputable def hZ:I->Bool
 | .non=>true
 | _=>false
noncomputable def IL:List Ev->Mo Ev:=λes Z G=>match es with
 | [.v (.im .non),b]=>match pk Z G b with
  | some (.lst xs)=>if xs.all qj then some (.v (.im (.bl (xs.any hZ))),Z,G) else none
  | _=>none
 | _=>none
noncomputable def jQ:List Ev->Mo Ev:=λes Z G=>match es with
 | [.v (.im (.str z)),a]=>match pk Z G a with
  | some (.lst xs)=>match fN xs with
   | some ys=>if (ys.map (·.length)).sum+ys.length*z.length≤1000000 then some (.v (.im (.str (PySem.Txt.join z ys.reverse))),Z,G) else none
   | none=>none
  | _=>none
 | _=>none
noncomputable def EL(K:W.Frag):V->List V->Hp->VK->Prop:=λx vs H Q=>∃(z:Str) (p:Addr) (ys:List Str),x=.str z/\vs=[.ref p]/\bB K H p (ys.map V.str)/\(ys.map (·.length)).sum+ys.length*z.length≤16777216/\Q (.str (Txt.join z ys.reverse)) H
theorem EM:aF K κ (rM (EL K)) jQ:=by
 intro ι H σ Z G es vs e Z' G' Q a h k
 unfold jQ at h
 split at h
 ·rename_i z x
  split at h
  ·rename_i xs hx
   split at h
   ·rename_i ys hn
    split at h
    ·rename_i hz
     obtain⟨v,u,rfl⟩:=bV a.len
     cases cz (a.im (j:=0) rfl rfl)
     obtain⟨p,e1,us,h1,r⟩:=a.pk (j:=1) rfl rfl hx
     subst e1
     exact⟨_,_,rfl,z,p,ys,rfl,rfl,by rw [<- qh r hn];exact bB.of h1,z21 hz (by decide),k _ _ _ (b8 h (a6 a (.str _)))⟩
    ·cases h
   ·cases h
  ·cases h
 ·cases h
theorem EN{fo fe:Mo Ev}{Q:VK}(h:bc K κ (cW jQ fo (one fe)) σ H Q):wC K (bc K κ fo) (bc K κ fe) σ H Q:=by
 obtain⟨ι,Z,G,e,Z',G',s,eq,k⟩:=kW EM h
 refine⟨ι,Z,G,e,Z',G',s,eq,λv ι1 H1 a=>?_⟩
 obtain⟨ty,ι2,Z2,G2,es,Z3,G3,s2,eq2,k2⟩:=k v ι1 H1 a
 cases v with
 | str z =>
  refine⟨z,rfl,mF ⟨ι2,Z2,G2,es,Z3,G3,s2,eq2,λvs ι3 H3 a3=>?_⟩⟩
  obtain⟨z',p,ys,e1,e2,h1,h2,q⟩:=k2 vs ι3 H3 a3
  cases e1
  exact⟨_,e2,p,ys,rfl,h1,h2,q⟩
 | int _=>exact absurd (show ("str" : String)="int" from ty) (by decide)
 | ref p=>rcases ty with⟨e,_⟩| ⟨e,_⟩| ⟨e,_⟩| ⟨e,_⟩<;>exact absurd e (by decide)
 | _=>exact False.elim ty
noncomputable def fz(xs ys:List I):Wk:=⟨min xs.length ys.length,λi _ _=>match xs[i]?,ys[i]? with|some x,some y=>some (.tup [x,y])|_,_=>none,λ_ _=>true⟩
theorem qk:∀(ys:List Str),y5a K ι H (ys.map V.str) (ys.map I.str)
 | []=>.nil
 | y::ys=>.cons (.str y) (qk ys)
noncomputable def qm:SF:=λ_ _=>none
end
section
variable {X:Cx}{κ:Str->Addr}{a b e o:Expr}{es:List Expr}{fa fb:Mo Ev}{fs:Mo (List Ev)}{fl:List (Mo Ev)}{p pos apos ye7:Pos}{k:Nat}{st:Stmt}
theorem wL:LS X κ st qm:=.mk λpins s σ H D I h=>by obtain⟨_,_,_,_,_,eq,_⟩:=h;cases eq
theorem nh(hg:Gl X x)(hm:∃t,X.mg x=some (.str y t))(hd:(x == ("__debug__" : Str))=false:=by decide):LE X κ (.Name x pos) (ah (.str y)):=by
 obtain⟨t,hm⟩:=hm
 exact pO (v:=.str y) hg hm ⟨t,rfl⟩ (λ_ _=>.str _) hd
theorem wM{x:Str}{ys:List Str}(hg:Gl X x)(hm:∃a,X.mg x=some (.ref a)/\bt X.K (λ_=>none) a (ys.map V.str))(hd:(x == ("__debug__" : Str))=false:=by decide):LE X κ (.Name x pos) (ah (.con (ys.map I.str))):=by
 obtain⟨a,hm,hs⟩:=hm
 exact pO (v:=.ref a) hg hm rfl (λ_ _=>.con hs (qk _)) hd
theorem wN(hr:y58 k X.A)(ha:LE X κ a fa)(hb:LE X κ b fb)(hm:behindInMarks .In b=false:=by rfl):LT X κ (.Compare a [.In] [b] pos) (ax (ak (gm false) fa fb)):=gI AJ EF ha hb hm
theorem EO(hr:y58 k X.A)(ha:LE X κ a fa)(hb:LE X κ b fb)(hm:behindInMarks .NotIn b=false:=by rfl):LT X κ (.Compare a [.NotIn] [b] pos) (ax (ak (gm true) fa fb)):=gI AK EG ha hb hm
theorem wO(h:LE X κ a fa):LI X κ tg a (bX (one fa) ng):=.mk (kC (Cc h.pe) λ_ _ _ q=>mF (jx EH q))
theorem ER(hr:y58 k X.A)(ho:LE X κ o fa)(ha:LA X κ (e::es) fs)(y1c5:attributeBase o "index" X.env (eval o X.env)=eval o X.env:=by rfl)
  (y1c9:((backTo ye7 (starEach (e::es) X.env)).all (λx=>!x.1)&&(backToKw ye7 (keywordEach [] X.env)).all (λx=>x.1.isSome)&&decide ((e::es).length+([]:List Keyword).length+(if ([]:List Keyword).isEmpty then 0 else 1)<30))=true:=by rfl)
  (y1ce:(apos.endLine == ye7.line)=true:=by rfl) (hs:starEach (e::es) X.env=(false,eval e X.env)::starEach es X.env:=by rfl) (y1d1:(backTo ye7 (starEach es X.env)).any (·.1)=false:=by rfl):LE X κ (.Call (.Attribute o "index" apos) (e::es) [] ye7) (cW jP fa fs):=.mk (aV (jm PySem.F.plainAttrs_str PySem.F.slot_str_index PySem.F.type_str_index Ew ho.pe ha.pe y1c5 y1c9 y1ce hs y1d1) λ_ _ _=>kW EI)
theorem fP(hr:y58 k X.A)(hm:X.mg "str" = none)(ha:LA X κ (e::es) fs)(hg:Gl X "str":=by rfl)(he:kb X e es:=by rfl)(hpl:ja X pos es:=by rfl):LE X κ (.Call (.Name "str" p) (e::es) [] pos) (bd fs b7):=.mk (aV (oP yc2 hg hm PyProof.Rows.boot_str ha.pe (by decide) (by decide) he hpl) λ_ _ _ q=>fA wK q)
theorem dE(hr:y58 k X.A)(hm:X.mg "isinstance" = none)(ha:LA X κ (e::es) fs)(hg:Gl X "isinstance":=by rfl)(he:kb X e es:=by rfl)(hpl:ja X pos es:=by rfl):LE X κ (.Call (.Name "isinstance" p) (e::es) [] pos) (bd fs bJ):=.mk (aV (lZ ybc hg hm PyProof.Rows.boot_isinstance ha.pe (by decide) (by decide) he hpl) λ_ _ _ q=>fA EK q)
theorem ES(hv:X.mg "reversed" = none)(ho:LE X κ o fa)(he:LE X κ e fb)(hc:X.calm=true:=by rfl)(gr:Gl X "reversed":=by rfl)(y1c5:attributeBase o "join" X.env (eval o X.env)=eval o X.env:=by rfl)
  (y1c9:((backTo ye7 (starEach [.Call (.Name "reversed" p2) [e] [] q2] X.env)).all (λx=>!x.1)&&(backToKw ye7 (keywordEach [] X.env)).all (λx=>x.1.isSome)
   && decide ([Expr.Call (.Name "reversed" p2) [e] [] q2].length+([]:List Keyword).length+(if ([]:List Keyword).isEmpty then 0 else 1)<30))=true:=by rfl)
  (y1ce:(apos.endLine == ye7.line)=true:=by rfl) (hs1:starEach [e] X.env=[(false,eval e X.env)]:=by rfl)
  (hs2:starEach [.Call (.Name "reversed" p2) [e] [] q2] X.env=[(false,eval (.Call (.Name "reversed" p2) [e] [] q2) X.env)]:=by rfl) :
  LE X κ (.Call (.Attribute o "join" apos) [.Call (.Name "reversed" p2) [e] [] q2] [] ye7) (cW jQ fa (one fb)):=.mk (aV (Ey hc gr hv ho.pe he.pe y1c5 y1c9 y1ce hs1 hs2) λ_ _ _=>EN)
end
section
variable {P:Program}{w:World}{K:W.Frag}{mg:Str->Option Value}{base:Heap}{κ:Str->Addr}
end
end
end B
set_option maxHeartbeats 4000000
namespace L2
open PySem PySem.Spec PyProof.Rows
section
noncomputable def nj(K:W.Frag)(a:Addr):It:=⟨λi H=>∃xs x,bB K H a xs/\xs[i]?=some x,
 λi H v H'=>∃T,v=.ref T/\H T=none/\∀xs x,bB K H a xs->xs[i]?=some x->H'=aP H T (.tup [.int i,x]),λi H=>∃xs,bB K H a xs/\xs.length=i⟩
theorem ET{P:Program}{w:World}{K:W.Frag}{elts:List Expr}{k0:Nat}{p0:Pos}{e it a:Addr}(n1:e≠it)(n2:a≠e)(n3:a≠it) :
  Turn P w K (.Tuple elts k0 p0) (nj K a) [e,it] e (λi h=>(∃old,IsEnum h e it i old)/\h.IsListIter it a i) where
 mem:=by simp
 obj:=λi h st b hb=>by
  obtain⟨⟨old,h1⟩,⟨o2,h2,c2,d2⟩⟩:=st
  simp only [zb,List.not_mem_nil,or_false] at hb
  rcases hb with rfl|rfl
  ·exact⟨_,h1,λv q=>by cases q⟩
  ·exact⟨_,h2,λv q=>by rw [d2] at q;cases q⟩
 keep:=λi h h' st k=>by
  obtain⟨⟨old,h1⟩,h2⟩:=st
  exact⟨⟨old,k e (by simp) _ h1⟩,h2.at λo q=>k it (by simp) o q⟩
 item:=by
  intro X hP hw hK hc i pins s σ H E I hf st hg
  subst hP hw hK
  obtain⟨xs,x,hx,ex⟩:=hg
  obtain⟨us,r1,p1,z1⟩:=I.list hx
  obtain⟨u,eu,ru⟩:=r1.get ex
  obtain⟨⟨old,h1⟩,h2⟩:=st
  have W:=WalksT.enumerateD (Draws.list (prog:=X.prog) (w:=X.w) (A:=X.A.in1) (I.ok.hd hc) it a n3 us.toArray) e n1 (by simp;exact⟨n1,n2.symm⟩) (by simp)
  have hiu:i<us.length:=(z1f.mp eu).1
  refine wpAny_pyNext_enum_itemD (Draws.list (A:=X.A.in1) (I.ok.hd hc) it a n3 us.toArray) h1 ⟨h2,show s.heap.IsList a us.toArray from p1.isList⟩ (by rw [ze];exact hiu) n1 (by simp;exact⟨n1,n2.symm⟩) λx' h' t0 e1 ho hs' hT0 _ hk0=>⟨.ref _,rfl,?_⟩
  obtain⟨T,eT⟩:∃T,T=s.heap.objs.size:=⟨_,rfl⟩
  have hsz:s.heap.objs.size≤T:=Nat.le_of_eq eT.symm
  have hT:i9 h' s.heap.objs.size #[.int i t0,x']:=⟨_,hT0,rfl,rfl,_,rfl⟩
  have hk:∀b o,b∉[e,it]->s.heap.get? b=some o->h'.get? b=some o:=λb o hb=>hk0 b o (λz=>hb (by simp [z])) (λz=>hb (by simp [z]))
  have hM:(∃x,IsEnumOut h' e it ((i:Int)+1) x s.heap.objs.size)/\(h'.IsListIter it a (i+1)/\h'.IsList a us.toArray)/\s.heap.objs.size≠e/\s.heap.objs.size≠it:=⟨⟨_,ho⟩,hs',Nat.ne_of_gt (z16 h1),by obtain⟨_,q,_⟩:=h2;exact Nat.ne_of_gt (z16 q)⟩
  rw [<- eT] at hT hM ⊢
  have e1':u=x':=by
   have q:us[i]?=some x':=by simpa using e1
   rw [eu] at q;exact z25 q
  subst e1'
  refine W.go elts k0 p0 i T { s with heap:=h',toks:=t0+1 } _ _ hM λh'' st'' hk'=>?_
  obtain⟨g1,g2,g3⟩:=st''
  have nT:=W.apart i T _ hM
  have hT2:i9 h'' T #[.int i t0,u]:=hT.keep λo q=>hk' T o nT q
  refine⟨.ref T,aP H T (.tup [.int i,x]),?_,rfl,⟨T,rfl,I.hok.fresh hsz,λxs' x'' q1 q3=>?_⟩,⟨g1,g2⟩,λb hb=>?_⟩
  ·refine I.y4eb hf (λb o hb q=>hk' b o hb (hk b o hb q)) hsz ?_
   exact⟨by show 2≤sizeLine;decide,[.int i t0,u],.cons ⟨t0,rfl⟩ (.cons ru .nil),hT2⟩
  ·rw [I.y248 q1 hx,ex] at q3
   cases q3;rfl
  ·have q:=(hf b hb).1
   have nb:b≠T:=by
    intro z
    obtain⟨o,eo⟩:∃o,s.heap.get? b=some o:=by
     simp only [zb,List.not_mem_nil,or_false] at hb
     obtain⟨o2,h2,_⟩:=h2
     rcases hb with rfl|rfl
     ·exact⟨_,h1⟩
     ·exact⟨_,h2⟩
    exact z2c _ (z1e (z16 eo) (by rw [z];exact hsz))
   rw [aX nb];exact q
 done:=by
  intro X hP hw hK hc i pins s σ H E I hf st hg
  subst hP hw hK
  obtain⟨xs,hx,hi⟩:=hg
  obtain⟨us,r1,p1,z1⟩:=I.list hx
  obtain⟨⟨old,h1⟩,h2⟩:=st
  have W:=WalksT.enumerateD (Draws.list (prog:=X.prog) (w:=X.w) (A:=X.A.in1) (I.ok.hd hc) it a n3 us.toArray) e n1 (by simp;exact⟨n1,n2.symm⟩) (by simp)
  have l1':=r1.length
  have q:i=us.toArray.size:=by rw [ze];lia
  subst q
  exact W.done s _ _ ⟨⟨old,h1⟩,h2,show s.heap.IsList a us.toArray from p1.isList⟩ λh' tk hk=>⟨rfl,I.y4ec (fp:=[e,it]) hf λb o hb q=>hk b o hb q⟩
 self:=λA i s Q E st h=>by
  obtain⟨⟨old,h1⟩,_⟩:=st
  exact wpAny_pyIter_enum h1 h
section
noncomputable def EU(K:W.Frag)(ta:TA):TI:=λσ H R=>ta σ H λvs H1=>∃a xs,vs=[.ref a]/\bB K H1 a xs/\R (nj K a) H1
theorem EV{elts:List Expr}{k0:Nat}{p0:Pos}{c:Expr}{ta:TA}{p pos:Pos}(hg:Gl X "enumerate")(hm:X.mg "enumerate" = none)(ha:PA X [c] ta)(hs:starEach [c] X.env=[(false,eval c X.env)]:=by rfl) :
  PI X (.Tuple elts k0 p0) (.Call (.Name "enumerate" p) [c] [] pos) (EU X.K ta):=by
 intro pins s σ H R I h
 refine Call_ (gE I hg hm PyProof.Rows.boot_enumerate (PyProof.Rows.callWith_type1 (aS (ha pos pins s σ H _ I h) λus s1 ⟨vs,H1,I1,r1,q1⟩=>?_) hs rfl))
 obtain⟨a,xs,e,hx,q⟩:=q1
 subst e
 cases r1 with
 | cons r rr =>
  cases rr
  cases r
  obtain⟨as,ra,pa,za⟩:=I1.list hx
  have pa':s1.heap.IsList a as.toArray:=pa.isList
  refine call_enumerate_list pa' λh2 z1 z2 _ zk=>?_
  have la:a<s1.heap.objs.size:=by obtain⟨_,e,_⟩:=pa';exact z16 e
  refine wpAny_pyIter_enum z1 ?_
  refine⟨_,[s1.heap.objs.size+1,s1.heap.objs.size],_,_,H1,rfl,I1.kept zk,
   ET (Nat.ne_of_gt (z35 _)) (z27 (Nat.lt_succ_of_lt la)) (z27 la),⟨⟨_,z1⟩,z2⟩,λb hb=>?_,q⟩
  have hb':s1.heap.objs.size≤b:=by
   simp only [zb,List.not_mem_nil,or_false] at hb
   rcases hb with e|e<;>(rw [e];first|exact Nat.le_add_right _ _|exact z13 _)
  exact I1.y17f hb' (I1.hok.fresh hb')
end
end
end L2
set_option maxHeartbeats 400000
namespace B
open PySem PySem.Spec PyProof.Rows L2
section
section
variable {K:W.Frag}{κ:Str->Addr}{ι:List Addr}{H:Hp}{σ:L2.St}
noncomputable def gn:List Ev->Mo Ev:=λes Z G=>match es with
 | [.v (.im (.str w)),.v (.im (.str y))]=>if (y.length == 0)=false/\w.length≤1000000 then some (.v (.ow (.lst ((Txt.split w y).map I.str))),Z,G) else none
 | _=>none
theorem EW:aF K κ (rM wJ) gn:=by
 intro ι H σ Z G es vs e Z' G' Q a h k
 unfold gn at h
 split at h
 ·rename_i w y
  split at h
  ·rename_i hz
   obtain⟨v,u,rfl⟩:=bV a.len
   cases cz (a.im (j:=0) rfl rfl)
   cases cz (a.im (j:=1) rfl rfl)
   exact⟨_,_,rfl,w,y,rfl,rfl,hz.1,hz.2,λl hl=>k _ _ _ (b8 h (iP a hl (qk _)))⟩
  ·cases h
 ·cases h
noncomputable def rN(e:Ev)(n:Nat):Wk:=⟨n,λi Z G=>match (sq Z G e).bind (·[i]?) with|some x=>some (.tup [.int i,x])|none=>none,λZ G=>match sq Z G e with|some xs=>decide (xs.length=n)|none=>false⟩
noncomputable def jR:List Ev->De->List M->Option Wk:=λes Z G=>match es with
 | [a]=>if ke Z G a then match sq Z G a with
  | some xs=>some (rN a xs.length)
  | none=>none
  else none
 | _=>none
theorem EX{a:Ev}{n:Nat}{p:Addr}{Z:De}{G:List M}(ha:ke Z G a=true):Walks K κ (nj K p) (tS [a] [.ref p]) (tD [a]) (rN a n) where
 go:=λ{i d ι H σ Z' G'} hi hd l s=>by
  obtain⟨x,hx⟩:=mG ha
  have hd:(match (sq Z' G' a).bind (·[i]?) with|some x=>some (I.tup [.int i,x])|none=>none)=some d:=hd
  split at hd
  ·rename_i y ey
   cases hd
   cases q1:sq Z' G' a with
   | none=>rw [q1] at ey;cases ey
   | some xs =>
    rw [q1] at ey
    obtain⟨b1,vs,e1,h1,r1⟩:=jy (rF hx l s) (mH ha) q1
    cases e1
    obtain⟨v,ev,rv⟩:=r1.get ey
    refine⟨⟨vs,v,h1,ev⟩,λz H2 yl=>?_⟩
    obtain⟨T,e3,hT,kk⟩:=yl
    subst e3
    have e4:=kk vs v h1 ev
    subst e4
    have sm:fU H (aP H T (.tup [.int i,v])):=λb o hb=>by rw [aX (dM hb hT)];exact hb
    exact⟨sm,.tup b4 (.cons (.int _) (.cons (rv.mono (cC.refl _) (Kp.same sm)) .nil))⟩
  ·cases hd
 stop:=λ{ι H σ Z' G'} hf l s=>by
  obtain⟨x,hx⟩:=mG ha
  have hf:(match sq Z' G' a with|some xs=>decide (xs.length=n)|none=>false)=true:=hf
  split at hf
  ·rename_i xs q1
   obtain⟨b1,vs,e1,h1,r1⟩:=jy (rF hx l s) (mH ha) q1
   cases e1
   exact⟨vs,h1,by rw [r1.len];exact of_decide_eq_true hf⟩
  ·cases hf
theorem EY:pL K κ (λvs H R=>∃a xs,vs=[.ref a]/\bB K H a xs/\R (nj K a) H) jR:=by
 intro ι H σ Z G es vs w R a h k
 unfold jR at h
 split at h
 ·rename_i x
  split at h
  ·rename_i hl
   split at h
   ·rename_i xs q1
    cases h
    obtain⟨v,rfl⟩:=b5 a.len
    obtain⟨b1,vs,e1,h1,r1⟩:=jy a hl q1
    subst e1
    exact⟨b1,vs,rfl,h1,k _ (EX hl)⟩
   ·cases h
  ·cases h
 ·cases h
noncomputable def k4(i j:Nat)(fs:Mo (List Ev)):SF:=λZ G=>match fs Z G with
 | some (es,Z1,G1)=>match fV es with
  | some ds=>match jw [i,j] ds Z1 with
   | some Z2=>some (.nx Z2 G1)
   | none=>none
  | none=>none
 | none=>none
theorem EZ{i j:Nat}{fs:Mo (List Ev)}{D:Ends}(h:dP K κ (k4 i j fs) D σ H):sP i j (iN K κ fs) D σ H:=by
 obtain⟨ι,Z,G,fl,s,eq,k⟩:=h
 unfold k4 at eq
 split at eq
 ·rename_i es Z1 G1 e1
  split at eq
  ·rename_i ds hd
   split at eq
   ·rename_i Z2 hs
    cases eq
    refine⟨ι,Z,G,es,Z1,G1,s,e1,λvs ι' H' a=>?_⟩
    have r:=a.ar.ims hd
    have q:=pD r hs a.ar.base (λσ' s2 sub=>k σ' ι' H' s2 (a.st.sub λx hx=>by
     rcases z1a.mp hx with z|z
     ·exact c8 a.ar.l (List.mem_append_left _ (sub x z))
     ·exact z26 _ z))
    obtain⟨v,r1,e2,q⟩:=q
    subst e2
    obtain⟨w,r2,e3,q⟩:=q
    subst e3
    obtain⟨e4,q⟩:=q
    subst e4
    exact⟨v,w,rfl,q⟩
   ·cases eq
  ·cases eq
 ·cases eq
end
section
variable {X:Cx}{κ:Str->Addr}{a b e o:Expr}{es:List Expr}{fa fb:Mo Ev}{fs:Mo (List Ev)}{p pos apos ye7:Pos}{k:Nat}
theorem qo(hr:y58 k X.A)(ho:LE X κ o fa)(ha:LA X κ (e::es) fs)(y1c5:attributeBase o "split" X.env (eval o X.env)=eval o X.env:=by rfl)
  (y1c9:((backTo ye7 (starEach (e::es) X.env)).all (λx=>!x.1)&&(backToKw ye7 (keywordEach [] X.env)).all (λx=>x.1.isSome)&&decide ((e::es).length+([]:List Keyword).length+(if ([]:List Keyword).isEmpty then 0 else 1)<30))=true:=by rfl)
  (y1ce:(apos.endLine == ye7.line)=true:=by rfl) (hs:starEach (e::es) X.env=(false,eval e X.env)::starEach es X.env:=by rfl) (y1d1:(backTo ye7 (starEach es X.env)).any (·.1)=false:=by rfl):LE X κ (.Call (.Attribute o "split" apos) (e::es) [] ye7) (cW gn fa fs):=.mk (aV (jm PySem.F.plainAttrs_str PySem.F.slot_str_split PySem.F.type_str_split EE ho.pe ha.pe y1c5 y1c9 y1ce hs y1d1) λ_ _ _=>kW EW)
theorem E1 (hm:X.mg "enumerate" = none)(ha:LA X κ [a] fs)(hg:Gl X "enumerate":=by rfl)(hs:starEach [a] X.env=[(false,eval a X.env)]:=by rfl):LI X κ (.Tuple elts k0 p0) (.Call (.Name "enumerate" p) [a] [] pos) (bX fs jR):=.mk (kC (EV hg hm ha.pe hs) λ_ _ _ q=>jx EY q)
theorem wQ {kt k2 pt2}(hN:X.N.Nodup)(ha:LA X κ [a,b] fs)(hi:X.N[i]?=some x:=by rfl)(hj:X.N[j]?=some y:=by rfl)(hij:i≠j:=by decide)
  (hx:X.env.scope.names.lookup x=some .local:=by rfl) (hy:X.env.scope.names.lookup y=some .local:=by rfl) (hc:X.calm=true:=by rfl)
  (hw:swappedStores [.Tuple [.Name x px,.Name y py] kt pt] (.Tuple [a,b] k2 pt2) X.env=pure (some [x,y]):=by rfl)
  (hs:swapsWithSole [.Tuple [.Name x px,.Name y py] kt pt] (.Tuple [a,b] k2 pt2) pos.line X.env=pure false:=by rfl) :
  LS X κ (.Assign [.Tuple [.Name x px,.Name y py] kt pt] (.Tuple [a,b] k2 pt2) pos) (k4 i j fs):=.mk (fF (Am hc hN hi hj hij hx hy ha.pe hw hs) λ_ _ _=>EZ)
end
end
end B
set_option maxHeartbeats 4000000
namespace L2
open PySem PySem.Spec PyProof.Rows
section
inductive ZS where
 | tup (l:Addr)|str (x:Str)
noncomputable def ZS.val:ZS->V
 | .tup l=>.ref l
 | .str x=>.str x
noncomputable def ZS.seq(K:W.Frag)(H:Hp):ZS->List V->Prop
 | .tup l,xs=>bt K H l xs
 | .str x,xs=>xs=x.cps.toList.map λc=>V.str ⟨#[c]⟩
noncomputable def ZS.on(it:Addr)(i:Nat)(h:Heap):ZS->Prop
 | .tup l=>h.IsTupleIter it l i/\l≠it
 | .str x=>∃t,h.IsStrIter it (strIterType x) x t i
theorem ZS.live{it:Addr}{i:Nat}{h:Heap}:∀{S:ZS},S.on it i h->∃o,h.get? it=some o/\∀v,o.data≠.cell v
 | .tup _,⟨⟨o,e,_,d⟩,_⟩=>⟨o,e,λv q=>by rw [d] at q;cases q⟩
 | .str _,⟨_,o,e,_,d⟩=>⟨o,e,λv q=>by rw [d] at q;cases q⟩
theorem ZS.keep{it:Addr}{i:Nat}{h h':Heap}(k:∀o,h.get? it=some o->h'.get? it=some o):∀{S:ZS},S.on it i h->S.on it i h'
 | .tup _,⟨a,n⟩=>⟨a.at k,n⟩
 | .str _,⟨t,o,e,r⟩=>⟨t,o,k o e,r⟩
theorem ZS.draws{X:Cx}{pins:List (Addr×Obj)}{σ:St}{H:Hp}{s:Shared}(I:Inv X pins σ H s)(hc:X.A.handled=none){it:Addr}{i:Nat}:∀{S:ZS} {xs:List V},S.seq X.K H xs->S.on it i s.heap ->
  ∃(fp:List Addr) (P:Nat->Value->Prop) (St:Nat->Heap->Prop),Draws X.prog X.w X.A.in1 it fp xs.length P St/\it∈fp/\St i s.heap/\(∀b∈fp,b=it∨S=.tup b)/\(∀j v,P j v->∃x,xs[j]?=some x/\aC x v)/\∀j h,St j h->S.on it j h
 | .tup l,xs,hs,⟨ho,ne⟩=>by
  obtain⟨us,r,p,z⟩:=I.tuple hs
  have e:us.toArray.size=xs.length:=by rw [ze];exact r.length.symm
  have D:=Draws.tup (prog:=X.prog) (w:=X.w) (A:=X.A.in1) hc it l ne us.toArray
  rw [e] at D
  refine⟨_,_,_,D,by simp,⟨ho,p⟩,λb hb=>?_,λj v q=>?_,λj h q=>⟨q.1,ne⟩⟩
  ·simp only [zb,List.not_mem_nil,or_false] at hb
   rcases hb with e|e
   ·exact .inl e
   ·exact .inr (by rw [e])
  ·have q:us[j]?=some v:=by simpa using q
   have hj:j<xs.length:=by rw [r.length];exact (z1f.mp q).1
   obtain⟨u,e1,e2⟩:=r.get (z15 hj)
   rw [q] at e1
   cases e1
   exact⟨_,z15 hj,e2⟩
 | .str x,xs,hs,⟨t,ho⟩=>by
  have hs:xs=x.cps.toList.map λc=>V.str ⟨#[c]⟩:=hs
  have e:x.cps.size=xs.length:=by rw [hs,z14];simp
  have pj:∀(j:Nat) (v:Value),(∃c u,x.cps[j]?=some c/\v=.str ⟨#[c]⟩ u)->∃y,xs[j]?=some y/\aC y v:=λj v ⟨c,u,e1,e2⟩=>⟨.str ⟨#[c]⟩,by rw [hs,List.getElem?_map];simp [e1],u,e2⟩
  cases ha:x.cps.all (· < 128) with
  | true =>
   have et:strIterType x="str_ascii_iterator":=by simp [strIterType,ha]
   have D:=Draws.strAscii (prog:=X.prog) (w:=X.w) (A:=X.A.in1) hc it x t
   rw [e] at D
   rw [et] at ho
   exact⟨_,_,_,D,by simp,ho,λb hb=>.inl (by simpa using hb),pj,λj h q=>⟨t,by rw [et];exact q⟩⟩
  | false =>
   have et:strIterType x="str_iterator":=by simp [strIterType,ha]
   have D:=Draws.strWide (prog:=X.prog) (w:=X.w) (A:=X.A.in1) hc it x t
   rw [e] at D
   rw [et] at ho
   exact⟨_,_,_,D,by simp,ho,λb hb=>.inl (by simpa using hb),pj,λj h q=>⟨t,by rw [et];exact q⟩⟩
theorem ZS.inj{X:Cx}{pins:List (Addr×Obj)}{σ:St}{H:Hp}{s:Shared}(I:Inv X pins σ H s):∀{S:ZS} {xs ys:List V},S.seq X.K H xs->S.seq X.K H ys->xs=ys
 | .tup _,_,_,h,h'=>I.y4e2 h h'
 | .str _,_,_,h,h'=>by rw [show _=_ from h,show _=_ from h']
noncomputable def qp(K:W.Frag)(S T:ZS):It:=⟨λi H=>∃xs ys x y,S.seq K H xs/\T.seq K H ys/\xs[i]?=some x/\ys[i]?=some y,
 λi H v H'=>∃a,v=.ref a/\H a=none/\∀xs ys x y,S.seq K H xs->T.seq K H ys->xs[i]?=some x->ys[i]?=some y->H'=aP H a (.tup [x,y]),
 λi H=>∃xs ys,S.seq K H xs/\T.seq K H ys/\min xs.length ys.length=i⟩
structure ZipS(z TI TO i1 i2:Addr)(S T:ZS)(i:Nat)(h:Heap):Prop where
 z:IsZip h z TI TO .none
 ti:IsPair h TI (.ref i1) (.ref i2)
 to:∃a b,IsPair h TO a b
 s:S.on i1 i h
 t:T.on i2 i h
structure Ap7(z TI TO i1 i2:Addr)(S T:ZS):Prop where
 nd:[z,TI,TO,i1,i2].Nodup
 s:∀b,S=.tup b->b∉[z,TI,TO,i1,i2]
 t:∀b,T=.tup b->b∉[z,TI,TO,i1,i2]
theorem Ap7.ap{z TI TO i1 i2:Addr}{S T:ZS}(A:Ap7 z TI TO i1 i2 S T){f1 f2:List Addr}(m1:i1∈f1)(m2:i2∈f2)(h1:∀b∈f1,b=i1∨S=.tup b)(h2:∀b∈f2,b=i2∨T=.tup b):ApD z TI TO i1 i2 f1 f2:=by
 have nd:=A.nd
 simp only [List.nodup_cons,zb,List.not_mem_nil,or_false,not_or,List.nodup_nil,and_true,not_false_eq_true] at nd
 obtain⟨⟨a1,a2,a3,a4⟩,⟨b1,b2,b3⟩,⟨c1,c2⟩,d1⟩:=nd
 refine⟨λe=>a1 e.symm,λe=>a2 e.symm,b1,b2,b3,d1,m1,m2,λc hc=>?_,λc hc=>?_⟩
 ·rcases h1 c hc with e|e
  ·subst e;exact⟨λe=>a3 e.symm,λe=>c1 e.symm,d1⟩
  ·have:=A.s c e
   simp only [zb,List.not_mem_nil,or_false,not_or] at this
   exact⟨this.1,this.2.2.1,this.2.2.2.2⟩
 ·rcases h2 c hc with e|e
  ·subst e;exact⟨λe=>a4 e.symm,λe=>c2 e.symm,λe=>d1 e.symm⟩
  ·have:=A.t c e
   simp only [zb,List.not_mem_nil,or_false,not_or] at this
   exact⟨this.1,this.2.2.1,this.2.2.2.1⟩
theorem ZipS.obj{z TI TO i1 i2:Addr}{S T:ZS}{i:Nat}{h:Heap}(st:ZipS z TI TO i1 i2 S T i h){b:Addr}(hb:b∈[z,TI,TO,i1,i2]):∃o,h.get? b=some o/\∀v,o.data≠.cell v:=by
 simp only [zb,List.not_mem_nil,or_false] at hb
 obtain⟨a,c,h3⟩:=st.to
 rcases hb with rfl|rfl|rfl|rfl|rfl
 ·exact⟨_,st.z,λv q=>by cases q⟩
 ·exact⟨_,st.ti,λv q=>by cases q⟩
 ·exact⟨_,h3,λv q=>by cases q⟩
 ·exact ZS.live st.s
 ·exact ZS.live st.t
theorem E2{P:Program}{w:World}{K:W.Frag}{elts:List Expr}{k0:Nat}{p0:Pos}{z TI TO i1 i2:Addr}{S T:ZS}(A:Ap7 z TI TO i1 i2 S T) :
  Turn P w K (.Tuple elts k0 p0) (qp K S T) [z,TI,TO,i1,i2] z (ZipS z TI TO i1 i2 S T) where
 mem:=by simp
 obj:=λi h st b hb=>st.obj hb
 keep:=λi h h' st k=>by
  obtain⟨a,c,h3⟩:=st.to
  exact⟨k z (by simp) _ st.z,k TI (by simp) _ st.ti,⟨a,c,k TO (by simp) _ h3⟩,ZS.keep (λo e=>k i1 (by simp) o e) st.s,ZS.keep (λo e=>k i2 (by simp) o e) st.t⟩
 item:=by
  intro X hP hw hK hc i pins s σ H E I hf st hg
  subst hP hw hK
  obtain⟨xs,ys,x,y,hx,hy,ex,ey⟩:=hg
  obtain⟨f1,P1,S1,D1,m1,s1,b1,r1,o1⟩:=ZS.draws I (I.ok.hd hc) hx st.s
  obtain⟨f2,P2,S2,D2,m2,s2,b2,r2,o2⟩:=ZS.draws I (I.ok.hd hc) hy st.t
  obtain⟨a,c,h3⟩:=st.to
  have D:=A.ap m1 m2 b1 b2
  refine EB D D1 D2 st.z st.ti h3 s1 s2 (z1f.mp ex).1 (z1f.mp ey).1 λu v h' tk p1 p2 q1 q2 q3 q4 q5 q6 hk=>⟨.ref s.heap.objs.size,rfl,?_⟩
  obtain⟨x',ex',ru⟩:=r1 _ _ p1
  obtain⟨y',ey',rv⟩:=r2 _ _ p2
  rw [ex] at ex';cases ex'
  rw [ey] at ey';cases ey'
  have lt:∀b∈[z,TI,TO,i1,i2],b≠s.heap.objs.size:=λb hb e=>by
   obtain⟨o,eo,_⟩:=st.obj hb
   exact absurd (z16 eo) (by rw [e];exact z2c _)
  have nin:∀{b:Addr},b∉[z,TI,TO,i1,i2]->b≠z/\b≠TO/\b≠i1/\b≠i2:=λ{b} hb=>by
   simp only [zb,List.not_mem_nil,or_false,not_or] at hb
   exact⟨hb.1,hb.2.2.1,hb.2.2.2.1,hb.2.2.2.2⟩
  refine wpAny_letOwnedTupleGo_zip q1 λh'' z'' sb=>?_
  refine⟨.ref s.heap.objs.size,aP H s.heap.objs.size (.tup [x,y]),?_,rfl,⟨_,rfl,I.hok.fresh (z13 _),λxs' ys' x'' y'' w1 w2 w3 w4=>?_⟩,⟨z'',sb.extBut _ _ D.TIz (hk _ _ D.TIz D.TITO D.TIi1 D.TIi2 st.ti),⟨_,_,sb.extBut _ _ D.TOz q2⟩,ZS.keep (λo e=>sb.extBut _ _ (D.a1 _ D.m1).1 e) (o1 _ _ q3),ZS.keep (λo e=>sb.extBut _ _ (D.a2 _ D.m2).1 e) (o2 _ _ q4)⟩,λb hb=>?_⟩
  ·refine I.y4eb (t':=tk) (fp:=[z,TI,TO,i1,i2]) hf (λb o hb e=>sb.extBut _ _ (nin hb).1 (hk b o (nin hb).1 (nin hb).2.1 (nin hb).2.2.1 (nin hb).2.2.2 e)) (z13 _) ?_
   exact⟨by show 2≤sizeLine;decide,[u,v],.cons ru (.cons rv .nil),_,sb.extBut _ _ (lt z (by simp)).symm q5,rfl,rfl,_,rfl⟩
  ·rw [ZS.inj I w1 hx] at w3
   rw [ZS.inj I w2 hy] at w4
   rw [ex] at w3;rw [ey] at w4
   cases w3;cases w4;rfl
  ·rw [aX (lt b hb)];exact (hf b hb).1
 done:=by
  intro X hP hw hK hc i pins s σ H E I hf st hg
  subst hP hw hK
  obtain⟨xs,ys,hx,hy,hi⟩:=hg
  obtain⟨f1,P1,S1,D1,m1,s1,b1,r1,o1⟩:=ZS.draws I (I.ok.hd hc) hx st.s
  obtain⟨f2,P2,S2,D2,m2,s2,b2,r2,o2⟩:=ZS.draws I (I.ok.hd hc) hy st.t
  obtain⟨a,c,h3⟩:=st.to
  refine EC (A.ap m1 m2 b1 b2) D1 D2 st.z st.ti h3 s1 s2 (by lia) λh' tk hk=>⟨rfl,I.y4ec (fp:=[z,TI,TO,i1,i2]) hf λb o hb e=>?_⟩
  simp only [zb,List.not_mem_nil,or_false,not_or] at hb
  exact hk b o hb.1 hb.2.2.1 hb.2.2.2.1 hb.2.2.2.2 e
 self:=λA i s Q E st h=>wpAny_pyIter_zip st.z h
noncomputable def ZS.obj(t:Tok):ZS->Obj
 | .tup l=>{ cls:=.type "tuple_iterator",data:=.fields #[.ref l,.int 0 0] }
 | .str x=>{ cls:=.type (strIterType x),data:=.fields #[.str x t,.int 0 0] }
noncomputable def ZS.ok(h:Heap):ZS->Prop
 | .tup l=>∃us,h.IsTuple l us
 | .str _=>True
theorem ZS.pit{u:Value}:∀{S:ZS},aC S.val u->∃t,wH u (S.obj t) (λh=>S.ok h)
 | .tup l,r=>⟨0,λprog w A E s Q c q=>by
  obtain rfl:u=Value.ref l:=r
  obtain⟨us,h⟩:=c
  exact wpAny_pyIter_tuple h q⟩
 | .str x,r=>by
  obtain⟨t,rfl⟩:=r
  exact⟨t,λprog w A E s Q c q=>wpAny_pyIter_strU q⟩
section
variable {X:Cx}
noncomputable def wR(K:W.Frag)(ta:TA):TI:=λσ H R=>ta σ H λvs H1=>∃S T xs ys,vs=[ZS.val S,ZS.val T]/\S.seq K H1 xs/\T.seq K H1 ys/\R (qp K S T) H1
theorem E3{elts:List Expr}{k0:Nat}{p0:Pos}{a b:Expr}{ta:TA}{p pos:Pos}(hg:Gl X "zip")(hm:X.mg "zip" = none)(ha:PA X [a,b] ta)
  (hs:starEach [a,b] X.env=[(false,eval a X.env),(false,eval b X.env)]:=by rfl) (hs2:starEach [b] X.env=[(false,eval b X.env)]:=by rfl) :
  PI X (.Tuple elts k0 p0) (.Call (.Name "zip" p) [a,b] [] pos) (wR X.K ta):=by
 intro pins s σ H R I h
 refine Call_ (gE I hg hm PyProof.Rows.boot_zip (PyProof.Rows.callWith_type1 (aS (ha pos pins s σ H _ I h) λus s1 ⟨vs,H1,I1,r1,q1⟩=>?_) (by rw [hs,hs2]) (by rw [hs2];rfl)))
 obtain⟨S,T,xs,ys,e,hx,hy,q⟩:=q1
 subst e
 obtain⟨u,v,rfl,ru,rv⟩:=ki r1
 obtain⟨t1,p1⟩:=ZS.pit ru
 obtain⟨t2,p2⟩:=ZS.pit rv
 have ok:∀{S:ZS} {xs:List V},S.seq X.K H1 xs->S.ok s1.heap:=λ{S xs} h=>by
  cases S with
  | tup l=>obtain⟨us,_,p,_⟩:=I1.tuple h;exact⟨_,p⟩
  | str x=>trivial
 have lt:∀{S:ZS} {xs:List V},S.seq X.K H1 xs->∀b,S=.tup b->b<s1.heap.objs.size:=λ{S xs} h b e=>by
  subst e
  obtain⟨us,_,p,_⟩:=I1.tuple h
  obtain⟨_,e,_⟩:=p
  exact z16 e
 have fr:∀{S:ZS} {t:Tok},(S.obj t).isFreed=false:=λ{S t}=>by cases S<;>rfl
 refine yc6 p1 p2 (λh c=>by cases T with
  | tup l=>obtain⟨us,c⟩:=c;exact⟨us,Heap.IsTuple.push c _⟩
  | str x=>trivial) fr fr (ok hx) (ok hy) λh' z1 z2 z3 z4 z5 zk=>?_
 have I2:Inv X pins σ H1 { s1 with heap:=h' }:=I1.kept (t':=s1.toks) zk
 have on:∀{S:ZS} {xs:List V} {t:Tok} {i:Addr},S.seq X.K H1 xs->s1.heap.objs.size≤i->h'.get? i=some (S.obj t)->S.on i 0 h':=λ{S xs t i} hh hi e=>by
  cases S with
  | tup l=>exact⟨⟨_,e,rfl,rfl⟩,z27 (z1e (lt hh l rfl) hi)⟩
  | str x=>exact⟨t,_,e,rfl,rfl⟩
 refine wpAny_pyIter_zip z1 ?_
 refine⟨_,[s1.heap.objs.size+4,s1.heap.objs.size+2,s1.heap.objs.size+3,s1.heap.objs.size,s1.heap.objs.size+1],_,_,H1,rfl,I2,
  E2 ⟨by simp,λb e=>?_,λb e=>?_⟩,⟨z1,z2,⟨_,_,z3⟩,on hx (z13 _) z4,on hy (Nat.le_add_right _ _) z5⟩,λb hb=>?_,q⟩
 ·have hb:(b:Nat)<s1.heap.objs.size:=lt hx b e
  intro hm
  simp only [zb,List.not_mem_nil,or_false] at hm
  rcases hm with e|e|e|e|e<;>(rw [e] at hb;first|exact z2c _ hb|exact absurd hb (Nat.not_lt.mpr (Nat.le_add_right _ _)))
 ·have hb:(b:Nat)<s1.heap.objs.size:=lt hy b e
  intro hm
  simp only [zb,List.not_mem_nil,or_false] at hm
  rcases hm with e|e|e|e|e<;>(rw [e] at hb;first|exact z2c _ hb|exact absurd hb (Nat.not_lt.mpr (Nat.le_add_right _ _)))
 ·have hb':s1.heap.objs.size≤b:=by
   simp only [zb,List.not_mem_nil,or_false] at hb
   rcases hb with e|e|e|e|e<;>(rw [e];first|exact Nat.le_add_right _ _|exact z13 _)
  exact I1.y17f hb' (I1.hok.fresh hb')
end
end
section
section
variable {X:Cx}
noncomputable def wU:V->List V->Hp->VK->Prop:=λx ys H Q=>∃z y:Str,x=.str z/\ys=[.str y]/\Q (.bl (decide (0+y.length≤z.length)&&Builtin.Str.subAt z y 0)) H
theorem E4:ko X "str.startswith" wU:=by
 intro pins s σ H x xs v us Q I rx r h
 obtain⟨z,y,rfl,rfl,q⟩:=h
 obtain⟨t,rfl⟩:=rx
 obtain⟨u,rfl,t',rfl⟩:=cX r
 exact call_gives PySem.F.slot_str_startswith (typeIs_str _ _ _) PySem.F.entry_str_startswith (PySem.F.args_str_startswith_2 _ _) (gives_str_startswith z y t t') ⟨.bl _,H,I.tok _,rfl,q⟩
theorem E5(hu:X.A.in1.units<cLine):cx X (compareOp .In) (λx y H Q=>x=.non/\∃p xs,y=.ref p/\bt X.K H p xs/\(∀z∈xs,a9 z=true∨wA X.K H z)/\Q (.bl (xs.any rL)) H):=by
 intro pins s σ H x y v u Q I rx ry h
 obtain⟨rfl,p,xs,rfl,hq,fs,q⟩:=h
 cases rx;cases ry
 obtain⟨its,r,pl,hz⟩:=I.tuple hq
 have go:∀{xs:List V} {us:List Value},az xs us->(∀z∈xs,a9 z=true∨wA X.K H z)->us.any nU=xs.any rL/\∀u∈us,SeqAt.EqAt X.A.in1 s u .none (nU u):=λ{xs us} r=>by
  induction r with
  | nil=>exact λ_=>⟨rfl,λu hu=>by cases hu⟩
  | cons r1 r2 ih =>
   intro f
   obtain⟨i1,i2⟩:=ih λy hy=>f y (z1d _ hy)
   rw [List.any_cons,List.any_cons,i1]
   rcases f _ List.mem_cons_self with hf|hf
   ·rename_i x u _ _
    have e:nU u=rL x/\SeqAt.EqAt X.A.in1 s u .none (nU u):=by
     have a:=md (A:=X.A.in1) (s:=s) r1 (show aC .non .none from rfl) hf rfl
     cases x with
     | non=>cases r1;exact⟨rfl,a⟩
     | bl b=>cases r1;exact⟨rfl,a⟩
     | int i=>obtain⟨t,rfl⟩:=r1;exact⟨rfl,a⟩
     | str z=>obtain⟨t,rfl⟩:=r1;exact⟨rfl,a⟩
     | _=>cases hf
    refine⟨by rw [e.1],λu hu'=>?_⟩
    rcases zb.mp hu' with rfl|hu'
    ·exact e.2
    ·exact i2 u hu'
   ·refine⟨by rw [wB r1 hf],λu hu'=>?_⟩
    rcases zb.mp hu' with rfl|hu'
    ·rcases hf with rfl|⟨a,ys,rfl,ht⟩
     ·cases r1;exact SeqAt.EqAt.same _
     ·cases r1
      obtain⟨is,_,pt,_⟩:=I.tuple ht
      exact SeqAt.EqAt.tuple_none pt hu
    ·exact i2 u hu'
 obtain⟨g1,g2⟩:=go r fs
 refine SeqAt.in_tupleAt nU (show s.heap.IsTuple p its.toArray from pl) (λw hw=>g2 w (by simpa using hw)) ⟨.bl _,H,I,rfl,?_⟩
 rw [show its.toArray.any nU=its.any nU by simp,g1]
 exact q
theorem wV:∀{xs:List V},xs.all a9=true->cS xs xs=true
 | [],_=>rfl
 | x::xs,h=>by
  rw [List.all_cons,z24] at h
  show (fY x x&&cS xs xs)=true
  rw [B.y158 h.1,wV h.2];rfl
theorem E6{A:Around}{pins:List (Addr×Obj)}{σ:St}{H:Hp}{s:Shared}{a b:Addr}{xs ys:List V}(I:Inv X pins σ H s)(ha:bB X.K H a xs)(hb:bB X.K H b ys)(f1:xs.all a9=true)(f2:ys.all a9=true)(hu:A.units<cLine) :
  SeqAt.EqAt A s (.ref a) (.ref b) (cS xs ys):=by
 by_cases e:a=b
 ·subst e
  rw [I.y248 ha hb,wV f2]
  exact SeqAt.EqAt.same _
 ·obtain⟨its,r1,p1,_⟩:=I.list ha
  obtain⟨y1fa,r2,p2,_⟩:=I.list hb
  have l1:=r1.length
  have l2:=r2.length
  refine SeqAt.EqAt.of_refs e ?_
  by_cases hl:xs.length=ys.length
  ·have:=SeqAt.RcAt.lists (A:=A) p1.isList p2.isList (by simp;lia) hu (Cm r1 r2 f1 f2)
   rw [ze,<- l1,uI hl] at this
   exact this
  ·rw [uG hl]
   exact SeqAt.RcAt.lists_lengths p1.isList p2.isList (by simp;lia) hu
noncomputable def wW(K:W.Frag):R2:=λx y H Q=>∃a p xs bs yss,x=.ref a/\y=.ref p/\bB K H a xs/\xs.all a9=true/\bt K H p (bs.map V.ref)/\Paired (λ(b:Addr) (ys:List V)=>bB K H b ys/\ys.all a9=true) bs yss/\Q (.bl (!yss.any λys=>cS ys xs)) H
open Classical in
theorem E7(hu:X.A.in1.units<cLine):cx X (compareOp .NotIn) (wW X.K):=by
 intro pins s σ H x y v u Q I rx ry h
 obtain⟨a,p,xs,bs,yss,rfl,rfl,ha,fa,hp,hb,q⟩:=h
 cases rx;cases ry
 obtain⟨its,r,pl,_⟩:=I.tuple hp
 let e:Value->Bool:=λu=>match u with
  | .ref b=>decide (∃ys,bB X.K H b ys/\cS ys xs=true)
  | _=>false
 have go:∀{bs:List Addr} {yss:List (List V)} {us:List Value},Paired (λ(b:Addr) (ys:List V)=>bB X.K H b ys/\ys.all a9=true) bs yss->az (bs.map V.ref) us->us.any e=(yss.any λys=>cS ys xs)/\∀u∈us,SeqAt.EqAt X.A.in1 s u (.ref a) (e u):=λ{bs yss} us hb=>by
  induction hb generalizing us with
  | nil=>intro r;cases r;exact⟨rfl,λu hu=>by cases hu⟩
  | cons h1 h2 ih =>
   rename_i b ys bs yss
   intro r
   cases r with
   | cons r1 r2 =>
    cases r1
    obtain⟨i1,i2⟩:=ih _ r2
    have ee:e (.ref b)=cS ys xs:=by
     show decide (∃ys,bB X.K H b ys/\cS ys xs=true)=_
     cases hz:cS ys xs with
     | true=>exact decide_eq_true ⟨ys,h1.1,hz⟩
     | false=>exact decide_eq_false λ⟨zs,q1,q2⟩=>by rw [I.y248 q1 h1.1,hz] at q2;cases q2
    refine⟨by rw [List.any_cons,List.any_cons,i1,ee],λu hu'=>?_⟩
    rcases zb.mp hu' with rfl|hu'
    ·rw [ee];exact E6 I h1.1 ha h1.2 fa hu
    ·exact i2 u hu'
 obtain⟨g1,g2⟩:=go hb r
 refine SeqAt.notIn_tupleAt e (show s.heap.IsTuple p its.toArray from pl) (λw hw=>g2 w (by simpa using hw)) ⟨.bl _,H,I,rfl,?_⟩
 rw [show its.toArray.any e=its.any e by simp,g1]
 exact q
noncomputable def nq(P:Program)(w:World)(K:W.Frag)(d:Addr)(D:List (Str×Int)):Prop:=∀h:Heap,K.In h->StrTab P w h d (D.map λp=>(PyData.str p.1,PyData.int p.2))
noncomputable def gS(D:List (Str×Int))(x:Str):Option Int:=(D.find? λp=>p.1 == x).map (·.2)
theorem qq:∀(D:List (Str×Int)) (x:Str),PySem.Spec.lookup (PyData.str x) (D.map λp=>(PyData.str p.1,PyData.int p.2))=(gS D x).map PyData.int
 | [],_=>rfl
 | (k,i)::D,x=>by
  have ih:=qq D x
  rw [z19]
  show (if PySem.Spec.same (PyData.str k) (PyData.str x) then some (PyData.int i) else PySem.Spec.lookup (PyData.str x) _)=_
  have e:PySem.Spec.same (PyData.str k) (PyData.str x)=(k == x):=by rfl
  rw [e,ih]
  unfold gS
  rw [List.find?_cons]
  cases (k == x)<;>rfl
noncomputable def wX(d:Addr)(D:List (Str×Int)):R2:=λx y H Q=>∃z,x=.str z/\y=.ref d/\Q (.bl (gS D z).isSome) H
theorem E8{d:Addr}{D:List (Str×Int)}(T:nq X.prog X.w X.K d D):cx X (compareOp .In) (wX d D):=by
 intro pins s σ H x y v u Q I rx ry h
 obtain⟨z,rfl,rfl,q⟩:=h
 obtain⟨t,rfl⟩:=rx
 cases ry
 refine in_strTab (T _ I.kIn) ⟨.bl _,H,I.tok _,rfl,?_⟩
 rw [qq]
 cases e:gS D z with
 | none=>rw [e] at q;exact q
 | some i=>rw [e] at q;exact q
noncomputable def wY(d:Addr)(D:List (Str×Int)):R2:=λx y H Q=>∃z i,x=.ref d/\y=.str z/\gS D z=some i/\Q (.int i) H
theorem E9{x:Str}{d:Addr}{D:List (Str×Int)}{b:Expr}{tb:TE}{p pos:Pos}(T:nq X.prog X.w X.K d D)(hg:Gl X x)(hm:X.mg x=some (.ref d))(hb:PE X b tb)(hs:fu b)(hd:(x == ("__debug__" : Str))=false:=by decide) :
  PE X (.Subscript (.Name x p) b pos) (lS (wY d D) (tC (.ref d)) tb):=by
 intro pins s σ H Q I h
 refine Subscript_ (lU (om hg hm (show aC (.ref d) (.ref d) from rfl) hd) hb I h λv u s2 x y H2 I2 rx ry q=>?_)
 obtain⟨z,i,rfl,rfl,e,q⟩:=q
 cases rx
 obtain⟨t,rfl⟩:=ry
 refine item_strTab (dv:=.int i) (T _ I2.kIn) (by rw [qq,e];rfl) (λv hv=>?_) (hs _ _)
 obtain⟨t',rfl⟩:=hv.int_inv
 exact⟨.int i,H2,I2.tok _,⟨_,rfl⟩,q⟩
end
end
end L2
set_option maxHeartbeats 400000
namespace B
open PySem PySem.Spec PyProof.Rows L2
section
section
variable {K:W.Frag}{κ:Str->Addr}{ι:List Addr}{H:Hp}{σ:L2.St}
noncomputable def k5(z y:Str):Bool:=decide (0+y.length≤z.length)&&Builtin.Str.subAt z y 0
noncomputable def jS:List Ev->Mo Ev:=λes Z G=>match es with
 | [.v (.im (.str z)),.v (.im (.str y))]=>some (.v (.im (.bl (k5 z y))),Z,G)
 | _=>none
theorem Fb:aF K κ (rM wU) jS:=by
 intro ι H σ Z G es vs e Z' G' Q a h k
 unfold jS at h
 split at h
 ·cases h
  obtain⟨v,u,rfl⟩:=bV a.len
  cases a.im (j:=0) rfl rfl
  cases a.im (j:=1) rfl rfl
  exact⟨_,_,rfl,_,_,rfl,rfl,k _ _ _ (a6 a (.bl _))⟩
 ·cases h
theorem wZ:∀{xs:List I} {vs:List V},y5a K ι H vs xs->(xs.all λx=>c7 x||qj x)=true->(∀z∈vs,a9 z=true∨wA K H z)/\vs.any rL=xs.any hZ
 | [],_,r,_=>by cases r;exact⟨λ_ h=>(by cases h),rfl⟩
 | x::xs,_,r,h=>by
  cases r with
  | cons r1 r2 =>
   rw [List.all_cons,z24] at h
   obtain⟨p,q⟩:=wZ r2 h.2
   have h1:=h.1
   rw [List.any_cons,List.any_cons,q]
   cases r1 with
   | non=>exact⟨λz hz=>(zb.mp hz).elim (λe=>.inl (by rw [e];rfl)) (p z),rfl⟩
   | bl b=>exact⟨λz hz=>(zb.mp hz).elim (λe=>.inl (by rw [e];rfl)) (p z),rfl⟩
   | int i=>exact⟨λz hz=>(zb.mp hz).elim (λe=>.inl (by rw [e];rfl)) (p z),rfl⟩
   | str x=>exact⟨λz hz=>(zb.mp hz).elim (λe=>.inl (by rw [e];rfl)) (p z),rfl⟩
   | tup e rr=>exact⟨λz hz=>(zb.mp hz).elim (λe'=>.inr (.inr ⟨_,_,e',bt.of e⟩)) (p z),rfl⟩
   | con e rr=>exact⟨λz hz=>(zb.mp hz).elim (λe'=>.inr (.inr ⟨_,_,e',bt.kon e⟩)) (p z),rfl⟩
   | _=>cases h1
noncomputable def ia:List Ev->Mo Ev:=λes Z G=>match es with
 | [.v (.im .non),.v (.im (.tup xs))]=>if (xs.all λx=>c7 x||qj x) then some (.v (.im (.bl (xs.any hZ))),Z,G) else none
 | _=>none
theorem Fc:aF K κ (r2 λx y H Q=>x=.non/\∃p xs,y=.ref p/\bt K H p xs/\(∀z∈xs,a9 z=true∨wA K H z)/\Q (.bl (xs.any rL)) H) ia:=by
 intro ι H σ Z G es vs e Z' G' Q a h k
 unfold ia at h
 split at h
 ·rename_i xs
  split at h
  ·rename_i ha
   cases h
   obtain⟨v,u,rfl⟩:=bV a.len
   cases a.im (j:=0) rfl rfl
   cases a.im (j:=1) rfl rfl with
   | tup h1 r =>
    obtain⟨q1,q2⟩:=wZ r ha
    exact⟨_,_,rfl,rfl,_,_,rfl,bt.of h1,q1,by rw [q2];exact k _ _ _ (a6 a (.bl _))⟩
  ·cases h
 ·cases h
noncomputable def jT:List I->List I->Bool
 | [],[]=>true
 | x::xs,y::ys=>eI x y&&jT xs ys
 | _,_=>false
theorem w6:∀{vs ws:List V} {xs ys:List I},y5a K ι H vs xs->y5a K ι H ws ys->xs.all c7=true->ys.all c7=true->cS vs ws=jT xs ys
 | _,_,_,_,.nil,.nil,_,_=>rfl
 | _,_,_,_,.nil,.cons _ _,_,_=>rfl
 | _,_,_,_,.cons _ _,.nil,_,_=>rfl
 | _,_,_,_,.cons r rs,.cons r' rs',h,h'=>by
  rw [List.all_cons,z24] at h h'
  show (fY _ _&&cS _ _)=(eI _ _&&jT _ _)
  rw [w6 rs rs' h.2 h'.2,pZ r r' h.1 h'.1]
theorem qr:∀{vs:List V} {xs:List I},y5a K ι H vs xs->xs.all c7=true->vs.all a9=true
 | _,_,.nil,_=>rfl
 | _,_,.cons r rs,h=>by
  rw [List.all_cons,z24] at h ⊢
  exact⟨gi r h.1,qr rs h.2⟩
noncomputable def jU(G:List M):List I->Option (List (List I))
 | []=>some []
 | .ref k::r=>match G[k]?,jU G r with
  | some (.lst ys),some yss=>some (ys::yss)
  | _,_=>none
 | _=>none
theorem xb{Z:De}{G:List M}(s:SR K κ ι H σ Z G):∀{rs:List I} {vs:List V} {yss:List (List I)},y5a K ι H vs rs->jU G rs=some yss->(yss.all λys=>ys.all c7)=true->∃bs wss,vs=bs.map V.ref/\Paired (λ(b:Addr) (ys:List V)=>bB K H b ys/\ys.all a9=true) bs wss /\
  ∀{ws:List V} {xs:List I},y5a K ι H ws xs->xs.all c7=true->(wss.any λys=>cS ys ws)=yss.any λys=>jT ys xs
 | [],_,_,.nil,h,_=>by cases h;exact⟨[],[],rfl,.nil,λ_ _=>rfl⟩
 | x::rs,_,yss,.cons r rr,h,hf=>by
  unfold jU at h
  split at h
  ·rename_i e;cases e
  ·rename_i k r' e
   cases e
   split at h
   ·rename_i ys yss' hg hr
    cases h
    rw [List.all_cons,z24] at hf
    obtain⟨bs,wss,e1,e2,e3⟩:=xb s rr hr hf.2
    cases r with
    | ref hk =>
     obtain⟨b,e',rm⟩:=ky s.gs hg
     rw [hk] at e'
     cases e'
     obtain⟨ws,h1,h2⟩:=rm
     exact⟨_::bs,ws::wss,by rw [e1];rfl,.cons ⟨bB.of h1,qr h2 hf.1⟩ e2,λrw' hx=>by rw [List.any_cons,List.any_cons,e3 rw' hx,w6 h2 rw' hf.1 hx]⟩
   ·cases h
  ·cases h
noncomputable def jV:List Ev->Mo Ev:=λes Z G=>match es with
 | [a,.v (.im (.tup rs))]=>match pk Z G a,jU G rs with
  | some (.lst xs),some yss=>if xs.all c7&&yss.all (λys=>ys.all c7) then some (.v (.im (.bl (!yss.any λys=>jT ys xs))),Z,G) else none
  | _,_=>none
 | _=>none
theorem Fd:aF K κ (r2 (wW K)) jV:=by
 intro ι H σ Z G es vs e Z' G' Q a h k
 unfold jV at h
 split at h
 ·rename_i x rs
  split at h
  ·rename_i xs yss hx hr
   split at h
   ·rename_i hf
    cases h
    rw [z24] at hf
    obtain⟨v,u,rfl⟩:=bV a.len
    obtain⟨p,e1,ws,h1,r⟩:=a.pk (j:=0) rfl rfl hx
    subst e1
    cases a.im (j:=1) rfl rfl with
    | tup h2 r2 =>
     obtain⟨bs,wss,e1,e2,e3⟩:=xb a.base r2 hr hf.2
     refine⟨_,_,rfl,p,_,ws,bs,wss,rfl,rfl,bB.of h1,qr r hf.1,by rw [<- e1];exact bt.of h2,e2,?_⟩
     rw [e3 r hf.1]
     exact k _ _ _ (a6 a (.bl _))
   ·cases h
  ·cases h
 ·cases h
noncomputable def jW(D:List (Str×Int)):List Ev->Mo Ev:=λes Z G=>match es with
 | [.v (.im (.str z))]=>some (.v (.im (.bl (gS D z).isSome)),Z,G)
 | _=>none
theorem Fe{d:Addr}{D:List (Str×Int)}:aF K κ (r1 λx H Q=>wX d D x (.ref d) H Q) (jW D):=by
 intro ι H σ Z G es vs e Z' G' Q a h k
 unfold jW at h
 split at h
 ·cases h
  obtain⟨v,rfl⟩:=b5 a.len
  cases a.im (j:=0) rfl rfl
  exact⟨_,rfl,_,rfl,rfl,k _ _ _ (a6 a (.bl _))⟩
 ·cases h
noncomputable def gu(D:List (Str×Int)):List Ev->Mo Ev:=λes Z G=>match es with
 | [.v (.im (.str z))]=>match gS D z with
  | some i=>some (.v (.im (.int i)),Z,G)
  | none=>none
 | _=>none
theorem Ff{d:Addr}{D:List (Str×Int)}:aF K κ (r1 λx H Q=>wY d D (.ref d) x H Q) (gu D):=by
 intro ι H σ Z G es vs e Z' G' Q a h k
 unfold gu at h
 split at h
 ·split at h
  ·rename_i i hi
   cases h
   obtain⟨v,rfl⟩:=b5 a.len
   cases a.im (j:=0) rfl rfl
   exact⟨_,rfl,_,_,rfl,rfl,hi,k _ _ _ (a6 a (.int _))⟩
  ·cases h
 ·cases h
noncomputable def nr:I->Option (List I)
 | .tup xs=>some xs
 | .str z=>some (z.cps.toList.map λc=>.str ⟨#[c]⟩)
 | _=>none
noncomputable def nu:I->V->ZS
 | .str z,_=>.str z
 | _,.ref b=>.tup b
 | _,_=>.tup 0
theorem yce:∀(cs:List Nat),y5a K ι H (cs.map λc=>V.str ⟨#[c]⟩) (cs.map λc=>I.str ⟨#[c]⟩)
 | []=>.nil
 | _::cs=>.cons (.str _) (yce cs)
theorem jX{v:V}{d:I}{xs:List I}(r:RpI K ι H v d)(h:nr d=some xs):v=(nu d v).val/\∃vs,(nu d v).seq K H vs/\y5a K ι H vs xs:=by
 cases r with
 | str z=>cases h;exact⟨rfl,_,rfl,yce _⟩
 | tup h1 h2=>cases h;exact⟨rfl,_,bt.of h1,h2⟩
 | _=>cases h
noncomputable def gv:List Ev->De->List M->Option Wk:=λes _ _=>match es with
 | [.v (.im a),.v (.im b)]=>match nr a,nr b with
  | some xs,some ys=>some (fz xs ys)
  | _,_=>none
 | _=>none
theorem Fg:pL K κ (λvs H R=>∃S T xs ys,vs=[ZS.val S,ZS.val T]/\S.seq K H xs/\T.seq K H ys/\R (qp K S T) H) gv:=by
 intro ι H σ Z G es vs w R a h k
 unfold gv at h
 split at h
 ·rename_i x y
  split at h
  ·rename_i xs ys hx hy
   cases h
   obtain⟨v,u,rfl⟩:=bV a.len
   obtain⟨e1,vs,s1,r1⟩:=jX (a.im (j:=0) rfl rfl) hx
   obtain⟨e2,ws,s2,r2⟩:=jX (a.im (j:=1) rfl rfl) hy
   refine⟨nu x v,nu y u,vs,ws,by rw [<- e1,<- e2],s1,s2,k _ ⟨λ{i d ι' H' σ' Z' G'} hi hd l s=>?_,λ{ι' H' σ' Z' G'} hf l s=>?_⟩⟩
   ·obtain⟨_,oa,g1,q1⟩:=jX ((zj (x:=.im x) (y:=.im y) rfl rfl l s).im (j:=0) rfl rfl) hx
    obtain⟨_,og,g2,q2⟩:=jX ((zj (x:=.im x) (y:=.im y) rfl rfl l s).im (j:=1) rfl rfl) hy
    have hd:(match xs[i]?,ys[i]? with|some x,some y=>some (I.tup [x,y])|_,_=>none)=some d:=hd
    split at hd
    ·rename_i x' y' ex ey
     cases hd
     obtain⟨v1,ev1,rv1⟩:=q1.get ex
     obtain⟨v2,ev2,rv2⟩:=q2.get ey
     refine⟨⟨oa,og,v1,v2,g1,g2,ev1,ev2⟩,λz H2 yl=>?_⟩
     obtain⟨T,e1,hT,kk⟩:=yl
     subst e1
     have e2:=kk oa og v1 v2 g1 g2 ev1 ev2
     subst e2
     have sm:fU H' (aP H' T (.tup [v1,v2])):=λb o hb=>by rw [aX (dM hb hT)];exact hb
     exact⟨sm,.tup b4 (.cons (rv1.mono (cC.refl _) (Kp.same sm)) (.cons (rv2.mono (cC.refl _) (Kp.same sm)) .nil))⟩
    ·cases hd
   ·obtain⟨_,oa,g1,q1⟩:=jX ((zj (x:=.im x) (y:=.im y) rfl rfl l s).im (j:=0) rfl rfl) hx
    obtain⟨_,og,g2,q2⟩:=jX ((zj (x:=.im x) (y:=.im y) rfl rfl l s).im (j:=1) rfl rfl) hy
    exact⟨oa,og,g1,g2,by rw [q1.len,q2.len];rfl⟩
  ·cases h
 ·cases h
noncomputable def du:List Ev->Mo Ev:=λes Z G=>match es with
 | [.v (.im (.tup xs))]=>kX [.v (.im (.tup xs))] Z G
 | es=>b7 es Z G
theorem Fh:aF K κ (λxs H Q=>((∃i:Int,xs=[.int i]/\i.natAbs.log2<1920/\Q (.str (toString i)) H)∨∃x,xs=[.str x]/\Q (.str x) H)∨∃(p:Addr) (d:PyData),xs=[.ref p]/\RdD K H (.ref p) d/\d.showable=true/\d.depth≤50/\d.shown.length≤sizeLine/\Q (.str d.shown) H) du:=by
 intro ι H σ Z G es vs e Z' G' Q a h k
 unfold du at h
 split at h
 ·exact .inr (Eo ι H σ Z G _ vs e Z' G' Q a h k)
 ·exact .inl (wK ι H σ Z G _ vs e Z' G' Q a h k)
theorem yc3{X:Cx}(hr:y58 1 X.A):y9 X (.type "str") (λxs H Q=>((∃i:Int,xs=[.int i]/\i.natAbs.log2<1920/\Q (.str (toString i)) H)∨∃x,xs=[.str x]/\Q (.str x) H)∨∃(p:Addr) (d:PyData),xs=[.ref p]/\RdD X.K H (.ref p) d/\d.showable=true/\d.depth≤50/\d.shown.length≤sizeLine/\Q (.str d.shown) H):=by
 intro pins s σ H xs us Q I r h
 rcases h with h|⟨p,d,rfl,h1,h2,h3,h4,q⟩
 ·exact yc2 pins s σ H xs us Q I r h
 ·obtain⟨u,rfl,ru⟩:=cX r
  cases (show _=Value.ref p from ru)
  obtain⟨as,rd,hd⟩:=RdD.reads I h1 ru
  have hu:=hr.units
  refine str_of_reads rd h2 (λz=>by rw [hd] at z;cases z) hr.gd (by lia) (λ_ _ e=>e) (λh' u tk hk=>?_) h4
  exact⟨.str d.shown,H,I.kept hk,⟨_,rfl⟩,q⟩
end
section
variable {X:Cx}{κ:Str->Addr}{a b e o:Expr}{es:List Expr}{fa fb:Mo Ev}{fs:Mo (List Ev)}{p pos apos ye7:Pos}{k:Nat}
theorem Fi(hr:y58 k X.A)(ho:LE X κ o fa)(ha:LA X κ (e::es) fs)(y1c5:attributeBase o "startswith" X.env (eval o X.env)=eval o X.env:=by rfl)
  (y1c9:((backTo ye7 (starEach (e::es) X.env)).all (λx=>!x.1)&&(backToKw ye7 (keywordEach [] X.env)).all (λx=>x.1.isSome)&&decide ((e::es).length+([]:List Keyword).length+(if ([]:List Keyword).isEmpty then 0 else 1)<30))=true:=by rfl)
  (y1ce:(apos.endLine == ye7.line)=true:=by rfl) (hs:starEach (e::es) X.env=(false,eval e X.env)::starEach es X.env:=by rfl) (y1d1:(backTo ye7 (starEach es X.env)).any (·.1)=false:=by rfl):LE X κ (.Call (.Attribute o "startswith" apos) (e::es) [] ye7) (cW jS fa fs):=.mk (aV (jm PySem.F.plainAttrs_str PySem.F.slot_str_startswith PySem.F.type_str_startswith E4 ho.pe ha.pe y1c5 y1c9 y1ce hs y1d1) λ_ _ _=>kW Fb)
theorem k6(hr:y58 k X.A)(hm:X.mg "str" = none)(ha:LA X κ (e::es) fs)(hk:1≤k:=by first|decide|lia)(hg:Gl X "str":=by rfl)(he:kb X e es:=by rfl)(hpl:ja X pos es:=by rfl):LE X κ (.Call (.Name "str" p) (e::es) [] pos) (bd fs du):=.mk (aV (oP (yc3 (hr.mono hk)) hg hm PyProof.Rows.boot_str ha.pe (by decide) (by decide) he hpl) λ_ _ _ q=>fA Fh q)
theorem xc(hr:y58 k X.A)(ha:LE X κ a fa)(hb:LE X κ b fb)(hm:behindInMarks .In b=false:=by rfl):LT X κ (.Compare a [.In] [b] pos) (ax (ak ia fa fb)):=gI (E5 (by have:=kL hr;show X.A.units+1<cLine;lia)) Fc ha hb hm
theorem Fj(hr:y58 k X.A)(ha:LE X κ a fa)(hb:LE X κ b fb)(hm:behindInMarks .NotIn b=false:=by rfl):LT X κ (.Compare a [.NotIn] [b] pos) (ax (ak jV fa fb)):=gI (E7 (by have:=kL hr;show X.A.units+1<cLine;lia)) Fd ha hb hm
noncomputable def y4d(X:Cx)(x:Str)(D:List (Str×Int)):Prop:=∃d,X.mg x=some (.ref d)/\nq X.prog X.w X.K d D
theorem Fm{x:Str}{D:List (Str×Int)}(hg:Gl X x)(hT:y4d X x D)(ha:LE X κ a fa)(hd:(x == ("__debug__" : Str))=false:=by decide)(hm:behindInMarks .In (.Name x p)=false:=by rfl):LT X κ (.Compare a [.In] [.Name x p] pos) (ax (a7 (jW D) fa)):=by
 obtain⟨d,h1,h2⟩:=hT
 exact .mk (iS (oF (E8 h2) ha.pe (om hg h1 (show aC (.ref d) (.ref d) from rfl) hd) hm) λσ H Q h=>gH Fe (kz h))
theorem xf{x:Str}{D:List (Str×Int)}(hg:Gl X x)(hT:y4d X x D)(hb:LE X κ b fb)(hs:fu b:=by exact (λ_ _=>rfl))(hd:(x == ("__debug__" : Str))=false:=by decide):LE X κ (.Subscript (.Name x p) b pos) (a7 (gu D) fb):=by
 obtain⟨d,h1,h2⟩:=hT
 exact .mk (aV (E9 h2 hg h1 hb.pe hs hd) λ_ _ _ q=>gH Ff q)
theorem nv{elts:List Expr}{k0:Nat}{p0:Pos}(hm:X.mg "zip" = none)(ha:LA X κ [a,b] fs)(hg:Gl X "zip":=by rfl)(hs:starEach [a,b] X.env=[(false,eval a X.env),(false,eval b X.env)]:=by rfl)(hs2:starEach [b] X.env=[(false,eval b X.env)]:=by rfl):LI X κ (.Tuple elts k0 p0) (.Call (.Name "zip" p) [a,b] [] pos) (bX fs gv):=.mk (kC (E3 hg hm ha.pe hs hs2) λ_ _ _ q=>jx Fg q)
end
end
end B
namespace Q
open PySem L2 B
noncomputable section
noncomputable def zl:SF :=
 (bp (ak fJ (ak ck (ak fI (aa 3) (ah (.int 48271))) (ak fJ (aa 4) (ah (.int 2147483629)))) (ah (.int 2147483647))) (bf 3))
noncomputable def xg:FF:=aY 2 3
 (au (bp (da (bX (one (bT (aa 0) (ba (aa 1)) (ba (ah (.int 63))))) br) [] c1 bb (bd (ag (aa 0) (ag (ak fH (ah (.int 0)) (aa 0)) ae)) kQ)) (bf 2))
 (au (bp (ak ck (ah (.int 7919)) (aa 1)) (bf 3))
 (au (c9 (bX (one (cF (aa 2))) br) (bf 4)
 zl)
 (aG (qb (kS (ah (.str "seed")) (aa 3) (kS (ah (.str "number")) (ah (.int 0)) (kS (ah (.str "left")) (cF (a7 jG (da (bX (one (cF (aa 2))) br) [] c1 (ax (ak pW (aa 0) (ak gO (ah (.int 10)) (ah (.int 18))))) (aa 0)))) qa))))))))
noncomputable def qt:Mo Bool:=(hJ (ax (ak cV (ak aH (aa 0) (ah (.str "number"))) (ah (.int 0)))) (ax (ak rH (bd (ag (ak aH (aa 0) (ah (.str "left"))) ae) bD) (ah (.int 0)))))
noncomputable def xh:SF :=
 (fM (aa 0) (ah (.str "number")) (a7 iV (ak aH (aa 0) (ah (.str "left")))))
noncomputable def eA:FF:=aY 2 3
 (au (iE qt
 xh)
 (au (bp (ak aH (aa 0) (ah (.str "number"))) (bf 2))
 (au (aM (ax (ak rH (aa 2) (ah (.int 0))))
 (au (fM (aa 0) (ah (.str "number")) (ak mN (aa 2) (aa 1)))
 (aG (ak fJ (aa 2) (aa 1))))
 aU)
 (au (bp (ak fJ (ak ck (ak fI (ak aH (aa 0) (ah (.str "seed"))) (ah (.int 48271))) (ah (.int 7919))) (ah (.int 2147483647))) (bf 3))
 (au (fM (aa 0) (ah (.str "seed")) (ak fJ (ak ck (ak fI (aa 3) (ah (.int 40692))) (ah (.int 104729))) (ah (.int 2147483399))))
 (au (bp (ak fJ (ak fI (ak aH (aa 0) (ah (.str "seed"))) (ak aH (aa 0) (ah (.str "seed")))) (ah (.int 2147483563))) (bf 4))
 (aG (ak fJ (ak ck (ak fI (ak fJ (ak fI (aa 3) (aa 3)) (ah (.int 2147483629))) (ah (.int 2147483563))) (aa 4)) (aa 1)))))))))
noncomputable def eQ:FF:=aY 1 1
 (au (bp (bd (ag (aa 0) (ag (ah (.int 5)) ae)) (aJ 2 eA)) (bf 1))
 (au (aM (ax (ak n5 (aa 1) (ah (.int 3))))
 (aG (bd (ag (aa 0) (ag (ak aH (bd (ag (ah (.int 3)) (ag (ah (.int 30)) (ag (ah (.int 400)) ae))) aT) (aa 1)) ae)) (aJ 2 eA)))
 aU)
 (aG (ak aH (bd (ag (ak fH (ak fH (ah (.int 0)) (ah (.int 1))) (bd (ag (aa 0) (ag (ah (.int 9)) ae)) (aJ 2 eA))) (ag (ak fH (bd (ag (aa 0) (ag (ak gO (ah (.int 10)) (ah (.int 18))) ae)) (aJ 2 eA)) (ak fI (ak fI (bd (ag (aa 0) (ag (ah (.int 2)) ae)) (aJ 2 eA)) (ah (.int 5))) (ak gO (ah (.int 10)) (ah (.int 17))))) ae)) aT) (ak fH (aa 1) (ah (.int 3)))))))
noncomputable def Fn:SF :=
 (au (bp (bd (ag (da (bX (ag (bd (ag (aa 0) (ag (ah (.int 7)) ae)) (aJ 2 eA)) ae) fZ) [0] c1 bb (bd (ag (aa 1) ae) (aJ 1 eQ))) ae) cf) (bf 3))
 (bF (dr dU (aa 1) (ag (bd (ag (bd (ag (aa 0) ae) (aJ 1 eQ)) (ag (bd (ag (aa 0) ae) (aJ 1 eQ)) (ag (aa 3) ae))) bq) ae))))
noncomputable def xi:FF:=aY 1 3
 (au (bp (bd ae aT) (bf 1))
 (au (c9 (bX (ag (bd (ag (aa 0) (ag (ah (.int 7)) ae)) (aJ 2 eA)) ae) fZ) (bf 2)
 Fn)
 (aG (bd (ag (bd (ag (aa 0) ae) (aJ 1 eQ)) (ag (bd (ag (aa 1) ae) cf) (ag (bd (ag (aa 0) ae) (aJ 1 eQ)) ae))) bq))))
noncomputable def lH:FF:=aY 1 2
 (au (bp (bd (ag (aa 0) (ag (ah (.int 4)) ae)) (aJ 2 eA)) (bf 1))
 (au (aM (ax (ak cV (aa 1) (ah (.int 0))))
 (bp (ah .non) (bf 2))
 (aM (ax (ak cV (aa 1) (ah (.int 1))))
 (bp (bd (ag (bd (ag (aa 0) ae) (aJ 1 eQ)) (ag (bd (ag (aa 0) ae) (aJ 1 eQ)) ae)) bq) (bf 2))
 (bp (bd (ag (aa 0) ae) (aJ 1 eQ)) (bf 2))))
 (aG (bd (ag (aa 2) (ag (bd (ag (aa 0) ae) (aJ 1 eQ)) ae)) bq))))
noncomputable def zm:FF:=aY 1 3
 (au (bp (ak aH (bd (ag (ah (.str "calls")) (ag (ah (.str "rows")) (ag (ah (.str "deeds")) ae))) aT) (bd (ag (aa 0) (ag (ah (.int 3)) ae)) (aJ 2 eA))) (bf 1))
 (au (bp (bd (ag (aa 0) ae) (aJ 1 eQ)) (bf 2))
 (au (aM (ax (ak cV (aa 1) (ah (.str "deeds"))))
 (bp (bd (ag (aa 2) (ag (bd (ag (aa 0) ae) (aJ 1 eQ)) ae)) bq) (bf 2))
 aU)
 (au (bp (ak aH (bd (ag (bd (ag (ah (.int 0)) (ag (ah (.int 1)) ae)) bq) (ag (bd (ag (ah (.int 0)) (ag (ah (.int 1)) ae)) bq) (ag (bd (ag (ah (.int 0)) ae) bq) (ag (bd (ag (ah (.int 1)) ae) bq) ae)))) aT) (bd (ag (aa 0) (ag (ah (.int 4)) ae)) (aJ 2 eA))) (bf 3))
 (aG (bd (ag (ah (.str "asked")) (ag (aa 1) (ag (aa 2) (ag (aa 3) (ag (bd (ag (da (bX (one (aa 3)) br) [0] c1 bb (bd (ag (aa 1) ae) (aJ 1 lH))) ae) cf) ae))))) bq))))))
noncomputable def y29:SF :=
 (bF (dr dU (aa 2) (ag (bd (ag (aa 0) ae) (aJ 1 zm)) ae)))
noncomputable def ny:FF:=aY 1 6
 (au (bp (bd (ag (ah (.str "silent")) (ag (ah (.str "form")) (ag (ah (.str "late")) (ag (ah (.str "twice")) (ag (ah (.str "count")) (ag (ah (.str "closed")) (ag (ah (.str "deed")) ae))))))) aT) (bf 1))
 (au (bp (bd (ag (bd (ag (ah (.str "claims")) (ag (bd (ag (aa 0) ae) (aJ 1 eQ)) (ag (bd (ag (aa 0) ae) (aJ 1 eQ)) ae))) bq) ae) aT) (bf 2))
 (au (c9 (bX (ag (bd (ag (aa 0) (ag (ak aH (bd (ag (ah (.int 4)) (ag (ah (.int 12)) ae)) aT) (bd (ag (aa 0) (ag (ah (.int 2)) ae)) (aJ 2 eA))) ae)) (aJ 2 eA)) ae) fZ) (bf 3)
 y29)
 (au (bp (ak aH (bd (ag (bd (ag (ah (.int 0)) ae) bq) (ag (bd (ag (ah (.int 1)) ae) bq) (ag (bd (ag (ah (.int 0)) (ag (ah (.int 1)) ae)) bq) ae))) aT) (bd (ag (aa 0) (ag (ah (.int 3)) ae)) (aJ 2 eA))) (bf 4))
 (au (bp (bd (ag (da (bX (one (aa 4)) br) [1,0] c1 bb (ak aH (aa 1) (bd (ag (aa 2) (ag (ah (.int 7)) ae)) (aJ 2 eA)))) ae) cf) (bf 5))
 (au (bp (ah .non) (bf 6))
 (au (aM (ax (ak cV (bd (ag (aa 0) (ag (ah (.int 2)) ae)) (aJ 2 eA)) (ah (.int 0))))
 (bp (bd (ag (aa 0) ae) (aJ 1 xi)) (bf 6))
 aU)
 (aG (ak ck (bd (ag (aa 2) ae) cf) (bd (ag (bd (ag (ah (.str "out")) (ag (aa 4) (ag (aa 5) (ag (aa 6) ae)))) bq) ae) bq))))))))))
noncomputable def xj:FF:=aY 1 0
 (au (aM (ax (a7 (c6 true) (aa 0)))
 (aG (ah (.str "none")))
 aU)
 (au (aM (bd (bd (ag (aa 0) (ag (ah (.ty "tuple")) ae)) bJ) bS)
 (aG (ak ck (ak ck (bd (ag (ak aH (aa 0) (ah (.int 0))) ae) b7) (ah (.str ","))) (bd (ag (ak aH (aa 0) (ah (.int 1))) ae) b7)))
 aU)
 (aG (bd (ag (aa 0) ae) b7))))
noncomputable def Fo:SF :=
 (bF (dr bW (aa 5) (ag (bd (ag (aa 6) (ag (bd (ag (ak aH (aa 7) (ah (.int 0))) ae) (aJ 1 xj)) (ag (bd (ag (ak aH (aa 7) (ah (.int 1))) ae) du) ae))) aT) ae)))
noncomputable def rO:FF:=aY 1 7
 (au (bp (bT (aa 0) (ba (ah (.int 1))) cM) (cj [1,2,3,4]))
 (au (bp (bd (ag (aa 1) (ag (bd (ag (aa 2) ae) du) ae)) aT) (bf 5))
 (au (aM (bd (bd (ag (aa 2) (ag (ah (.ty "tuple")) ae)) bJ) bS)
 (fM (aa 5) (ah (.int 1)) (ak ck (ak ck (bd (ag (ak aH (aa 2) (ah (.int 0))) ae) du) (ah (.str "."))) (bd (ag (ak aH (aa 2) (ah (.int 1))) ae) du)))
 aU)
 (au (aM (ax (ak cV (bd (ag (aa 3) ae) bD) (ah (.int 1))))
 (bF (dr bW (aa 5) (ag (bd (ag (ah (.str "by")) (ag (bd (ag (ak aH (aa 3) (ah (.int 0))) ae) du) ae)) aT) ae)))
 aU)
 (au (c9 (bX (ag (ah (.str ":|")) (ag (aa 4) ae)) gv) (cj [6,7])
 Fo)
 (aG (cW bR (ah (.str " ")) (ag (aa 5) ae))))))))
noncomputable def xk:SF :=
 (bF (dr dU (aa 1) (ag (cW bR (ah (.str " ")) (ag (ak ck (bd (ag (ah (.str "leaf")) (ag (bd (ag (aa 7) ae) b7) (ag (bd (ag (aa 8) ae) b7) (ag (ah (.str "by")) ae)))) aT) (da (bX (one (aa 9)) br) [] c1 bb (bd (ag (aa 0) ae) b7))) ae)) ae)))
noncomputable def Fp:SF :=
 (bF (dr bW (aa 6) (ag (bd (ag (bd (ag (aa 7) ae) b7) (ag (aa 8) ae)) aT) ae)))
noncomputable def zo:FF:=aY 1 9
 (au (bp (bd (ag (ak ck (ak ck (ak ck (ah (.str "claims ")) (bd (ag (ak aH (ak aH (aa 0) (ah (.int 0))) (ah (.int 1))) ae) b7)) (ah (.str " "))) (bd (ag (ak aH (ak aH (aa 0) (ah (.int 0))) (ah (.int 2))) ae) b7)) ae) aT) (bf 1))
 (au (bF (dr bW (aa 1) (ag (da (bX (one (bT (aa 0) (ba (ah (.int 1))) (ba (a7 gh (ah (.int 1)))))) br) [] c1 bb (bd (ag (aa 0) ae) (aJ 1 rO))) ae)))
 (au (bp (ak aH (aa 0) (a7 gh (ah (.int 1)))) (cj [2,3,4,5]))
 (au (bp (bd (ag (aa 2) ae) aT) (bf 6))
 (au (c9 (bX (ag (aa 3) (ag (aa 4) ae)) gv) (cj [7,8])
 Fp)
 (au (bF (dr dU (aa 1) (ag (cW bR (ah (.str " ")) (ag (aa 6) ae)) ae)))
 (au (aM (ax (a7 (c6 false) (aa 5)))
 (au (bF (dr dU (aa 1) (ag (ak ck (ak ck (ak ck (ah (.str "paper ")) (bd (ag (ak aH (aa 5) (ah (.int 0))) ae) b7)) (ah (.str " to "))) (bd (ag (ak aH (aa 5) (ah (.int 2))) ae) b7)) ae)))
 (c9 (bX (one (ak aH (aa 5) (ah (.int 1)))) br) (cj [7,8,9])
 xk))
 aU)
 (aG (aa 1)))))))))
noncomputable def zq:Mo Bool:=(ax (ak rH (aa 0) (ah (.int 9))))
noncomputable def Fq:SF :=
 (au (bF (dr dU (aa 1) (ag (ak aH (ah (.str "0123456789")) (ak fJ (aa 0) (ah (.int 10)))) ae)))
 (bp (ak mN (aa 0) (ah (.int 10))) (bf 0)))
noncomputable def xl:FF:=aY 1 1
 (au (bp (bd ae aT) (bf 1))
 (au (iE zq
 Fq)
 (au (bF (dr dU (aa 1) (ag (ak aH (ah (.str "0123456789")) (aa 0)) ae)))
 (aG (cW jQ (ah (.str "")) (one (aa 1)))))))
noncomputable def dJ:FF:=aY 1 0
 (aG (fw (ax (ak n5 (aa 0) (ah (.int 0)))) (ak ck (ah (.str "-")) (bd (ag (a7 gh (aa 0)) ae) (aJ 1 xl))) (bd (ag (aa 0) ae) (aJ 1 xl))))
noncomputable def zr:FF:=aY 1 0
 (au (aM (bd (bd (ag (aa 0) (ag (ah (.ty "tuple")) ae)) bJ) bS)
 (aG (cW bR (ah (.str ".")) (ag (da (bX (one (aa 0)) br) [] c1 bb (bd (ag (aa 0) ae) (aJ 1 dJ))) ae)))
 aU)
 (aG (bd (ag (aa 0) ae) (aJ 1 dJ))))
noncomputable def rP:FF:=aY 1 0
 (au (aM (ax (a7 (c6 true) (aa 0)))
 (aG (ah (.str "none")))
 aU)
 (au (aM (bd (bd (ag (aa 0) (ag (ah (.ty "tuple")) ae)) bJ) bS)
 (aG (cW bR (ah (.str ",")) (ag (da (bX (one (aa 0)) br) [] c1 bb (bd (ag (aa 0) ae) (aJ 1 dJ))) ae)))
 aU)
 (aG (bd (ag (aa 0) ae) (aJ 1 dJ)))))
noncomputable def zt:FF:=aY 1 7
 (au (bp (aa 0) (cj [1,2,3,4,5]))
 (au (bp (bd (ag (aa 2) (ag (bd (ag (aa 3) ae) (aJ 1 zr)) ae)) aT) (bf 6))
 (au (aM (ax (ak cV (bd (ag (aa 4) ae) bD) (ah (.int 1))))
 (bF (dr bW (aa 6) (ag (bd (ag (ah (.str "by")) (ag (bd (ag (ak aH (aa 4) (ah (.int 0))) ae) (aJ 1 dJ)) ae)) aT) ae)))
 aU)
 (au (bp (da (bX (one (aa 5)) br) [] c1 bb (ak ck (ak ck (bd (ag (ak aH (aa 0) (ah (.int 0))) ae) (aJ 1 rP)) (ah (.str " "))) (bd (ag (ak aH (aa 0) (ah (.int 1))) ae) (aJ 1 dJ)))) (bf 7))
 (aG (ak ck (ak ck (cW bR (ah (.str " ")) (ag (aa 6) ae)) (ah (.str " : "))) (cW bR (ah (.str " | ")) (ag (aa 7) ae))))))))
noncomputable def Fs:SF :=
 (au (bp (bd (ag (ah (.str "leaf")) (ag (bd (ag (aa 5) ae) (aJ 1 dJ)) (ag (bd (ag (aa 6) ae) (aJ 1 dJ)) (ag (ah (.str "by")) ae)))) aT) (bf 8))
 (bF (dr dU (aa 4) (ag (cW bR (ah (.str " ")) (ag (ak ck (aa 8) (da (bX (one (aa 7)) br) [] c1 bb (bd (ag (aa 0) ae) (aJ 1 dJ)))) ae)) ae))))
noncomputable def zu:FF:=aY 1 8
 (au (bp (aa 0) (cj [1,2,3]))
 (au (bp (bd (ag (cW bR (ah (.str " ")) (ag (bd (ag (ah (.str "paper")) (ag (bd (ag (aa 1) ae) (aJ 1 dJ)) (ag (ah (.str "to")) (ag (bd (ag (aa 3) ae) (aJ 1 dJ)) ae)))) aT) ae)) ae) aT) (bf 4))
 (au (c9 (bX (one (aa 2)) br) (cj [5,6,7])
 Fs)
 (aG (aa 4)))))
noncomputable def zv:SF :=
 (bF (dr bW (aa 5) (ag (bd (ag (bd (ag (aa 6) ae) (aJ 1 dJ)) (ag (aa 7) ae)) aT) ae)))
noncomputable def zw:FF:=aY 1 7
 (au (bp (aa 0) (cj [1,2,3,4]))
 (au (bp (bd (ag (ah (.str "out")) ae) aT) (bf 5))
 (au (c9 (bX (ag (aa 2) (ag (aa 3) ae)) gv) (cj [6,7])
 zv)
 (aG (ak ck (bd (ag (cW bR (ah (.str " ")) (ag (aa 5) ae)) ae) aT) (fw (ax (a7 (c6 true) (aa 4))) (bd ae aT) (bd (ag (aa 4) ae) (aJ 1 zu))))))))
noncomputable def Ft:SF :=
 (aM (ax (ak cV (ak aH (aa 2) (ah (.int 0))) (ah (.str "claims"))))
 (bF (dr dU (aa 1) (ag (cW bR (ah (.str " ")) (ag (bd (ag (ah (.str "claims")) (ag (bd (ag (ak aH (aa 2) (ah (.int 1))) ae) (aJ 1 dJ)) (ag (bd (ag (ak aH (aa 2) (ah (.int 2))) ae) (aJ 1 dJ)) ae))) aT) ae)) ae)))
 (aM (ax (ak cV (ak aH (aa 2) (ah (.int 0))) (ah (.str "asked"))))
 (bF (dr dU (aa 1) (ag (bd (ag (aa 2) ae) (aJ 1 zt)) ae)))
 (bF (dr bW (aa 1) (ag (bd (ag (aa 2) ae) (aJ 1 zw)) ae)))))
noncomputable def qu:FF:=aY 1 2
 (au (bp (bd ae aT) (bf 1))
 (au (c9 (bX (one (aa 0)) br) (bf 2)
 Ft)
 (aG (cW bR (ah (.str "\n")) (ag (aa 1) ae)))))
noncomputable def gw:Nat->FF
 | 0=>λ_ _=>none
 | n+1=>aY 2 0
   (au (aM (eF (ax (a7 (c6 true) (aa 0))) (ax (a7 (c6 true) (aa 1))))
   (aG (kY (a7 (c6 true) (aa 0)) (a7 (c6 true) (aa 1))))
   aU)
   (au (aM (hJ (bd (bd (ag (aa 0) (ag (ah (.ty "tuple")) ae)) bJ) bS) (bd (bd (ag (aa 1) (ag (ah (.ty "tuple")) ae)) bJ) bS))
   (aG (kY (ak cV (bd (ag (aa 0) ae) bD) (bd (ag (aa 1) ae) bD)) (bd (ag (da (bX (ag (aa 0) (ag (aa 1) ae)) gv) [] (cN 2) bb (bd (ag (aa 0) (ag (aa 1) ae)) (aJ 2 (gw n)))) ae) m4)))
   aU)
   (au (aM (eF (bd (bd (ag (aa 0) (ag (ah (.ty "str")) ae)) bJ) bS) (bd (bd (ag (aa 1) (ag (ah (.ty "str")) ae)) bJ) bS))
   (aG (kY (bd (ag (aa 0) (ag (ah (.ty "str")) ae)) bJ) (kY (bd (ag (aa 1) (ag (ah (.ty "str")) ae)) bJ) (ak cV (aa 0) (aa 1)))))
   aU)
   (au (aM (eF (fB (bd (bd (ag (aa 0) (ag (ah (.ty "int")) ae)) bJ) bS)) (eF (fB (bd (bd (ag (aa 1) (ag (ah (.ty "int")) ae)) bJ) bS)) (eF (bd (bd (ag (aa 0) (ag (ah (.ty "bool")) ae)) bJ) bS) (bd (bd (ag (aa 1) (ag (ah (.ty "bool")) ae)) bJ) bS))))
   (aG (ah (.bl false)))
   aU)
   (aG (ak cV (aa 0) (aa 1)))))))
noncomputable def rQ:FF:=aY 1 0
 (au (dA "RecordReading" "told" (aa 0) (cF (bd ae aT)))
 (au (dA "RecordReading" "over" (aa 0) (ah .non))
 (au (dA "RecordReading" "ends" (aa 0) (ah .non))
 (dA "RecordReading" "leaves" (aa 0) (cF (bd ae aT))))))
noncomputable def zx:FF:=aY 1 4
 (au (bp (a7 (bM "RecordReading" "over") (aa 0)) (cj [1,2,3,4]))
 (au (aM (ax (a7 (c6 false) (a7 (bM "RecordReading" "ends") (aa 0))))
 (bp (bd (ag (ak aH (a7 (bM "RecordReading" "ends") (aa 0)) (ah (.int 0))) (ag (bd (ag (a7 (bM "RecordReading" "leaves") (aa 0)) ae) cf) (ag (ak aH (a7 (bM "RecordReading" "ends") (aa 0)) (ah (.int 1))) ae))) bq) (bf 4))
 aU)
 (aG (bd (ag (ak ck (a7 (bM "RecordReading" "told") (aa 0)) (bd (ag (bd (ag (aa 1) (ag (aa 2) (ag (aa 3) (ag (aa 4) ae)))) bq) ae) aT)) ae) cf))))
noncomputable def lI:FF:=aY 1 2
 (au (bp (kR (aa 0) (ba (ah (.int 1))) cM (ah (.int 2))) (bf 1))
 (au (bp (kR (aa 0) (ba (ah (.int 2))) cM (ah (.int 2))) (bf 2))
 (au (aM (eF (ax (ak gP (ak aH (aa 0) (ah (.int 0))) (ah (.str "out")))) (eF (ax (ak jV (aa 1) (bd (ag (cF (bd (ag (ah (.str "0")) ae) aT)) (ag (cF (bd (ag (ah (.str "1")) ae) aT)) (ag (cF (bd (ag (ah (.str "0")) (ag (ah (.str "1")) ae)) aT)) ae))) bq))) (ax (ak gP (bd (ag (aa 2) ae) bD) (bd (ag (aa 1) ae) bD)))))
 (aG (ah .non))
 aU)
 (au (aM (fB (bd (bd (ag (da (bX (one (cF (aa 2))) br) [] c1 bb (ak vS (aa 0) (ah (.con (List.map I.str ["silent","form","late","twice","count","closed","deed"]))))) ae) m4) bS))
 (aG (ah .non))
 aU)
 (aG (bd (ag (ah (.str "out")) (ag (bd (ag (da (bX (one (cF (aa 1))) br) [] c1 bb (a7 (gu [("0",0),("1",1)]) (aa 0))) ae) cf) (ag (bd (ag (aa 2) ae) cf) (ag (ah .non) ae)))) bq))))))
noncomputable def zy:FF:=aY 2 0
 (au (bF (dr dU (a7 (bM "RecordReading" "leaves") (aa 0)) (ag (aa 1) ae)))
 (aG (a7 (c6 false) (aa 1))))
noncomputable def zz:SF :=
 (au (aM (ax (ak (gm true) (aa 2) (ah (.str "0123456789"))))
 (aG (ah .non))
 aU)
 (bp (ak ck (ak fI (ah (.int 10)) (aa 1)) (cW jP (ah (.str "0123456789")) (ag (aa 2) ae))) (bf 1)))
noncomputable def zA:FF:=aY 1 2
 (au (aM (eF (ax (ak cV (aa 0) (ah (.str "")))) (hJ (ax (ak cV (ak aH (aa 0) (ah (.int 0))) (ah (.str "0")))) (ax (ak gP (aa 0) (ah (.str "0"))))))
 (aG (ah .non))
 aU)
 (au (bp (ah (.int 0)) (bf 1))
 (au (c9 (bX (one (aa 0)) ng) (bf 2)
 zz)
 (aG (aa 1)))))
noncomputable def iF:FF:=aY 1 3
 (au (bp (cW jS (aa 0) (ag (ah (.str "-")) ae)) (bf 1))
 (au (bp (fw (bd (aa 1) bS) (bT (aa 0) (ba (ah (.int 1))) cM) (aa 0)) (bf 2))
 (au (aM (eF (ax (ak rH (bd (ag (aa 2) ae) bD) (ah (.int 18)))) (ax (ak cV (aa 0) (ah (.str "-0")))))
 (aG (ah .non))
 aU)
 (au (bp (bd (ag (aa 2) ae) (aJ 1 zA)) (bf 3))
 (aG (fw (hJ (bd (aa 1) bS) (ax (a7 (c6 false) (aa 3)))) (a7 gh (aa 3)) (aa 3)))))))
noncomputable def jY:FF:=aY 1 1
 (au (bp (bd (ag (da (bX (one (cF (aa 0))) br) [] c1 bb (bd (ag (aa 0) ae) (aJ 1 iF))) ae) cf) (bf 1))
 (aG (fw (ax (ak ia (ah .non) (aa 1))) (ah .non) (aa 1))))
noncomputable def rR:FF:=aY 1 0
 (au (aM (eF (ax (ak gP (bd (ag (aa 0) ae) bD) (ah (.int 4)))) (eF (ax (ak gP (ak aH (aa 0) (ah (.int 0))) (ah (.str "paper")))) (ax (ak gP (ak aH (aa 0) (ah (.int 2))) (ah (.str "to"))))))
 (aG (ah .non))
 aU)
 (aG (bd (ag (bd (ag (ak aH (aa 0) (ah (.int 1))) (ag (ak aH (aa 0) (ah (.int 3))) ae)) aT) ae) (aJ 1 jY))))
noncomputable def xm:FF:=aY 2 0
 (au (bF (dr dU (a7 (bM "RecordReading" "told") (aa 0)) (ag (aa 1) ae)))
 (aG (a7 (c6 false) (aa 1))))
noncomputable def zB:FF:=aY 1 2
 (au (aM (eF (ax (ak n5 (bd (ag (aa 0) ae) bD) (ah (.int 4)))) (eF (ax (ak gP (ak aH (aa 0) (ah (.int 0))) (ah (.str "leaf")))) (ax (ak gP (ak aH (aa 0) (ah (.int 3))) (ah (.str "by"))))))
 (aG (ah .non))
 aU)
 (au (bp (bd (ag (bT (aa 0) (ba (ah (.int 1))) (ba (ah (.int 3)))) ae) (aJ 1 jY)) (bf 1))
 (au (bp (bd (ag (bT (aa 0) (ba (ah (.int 4))) cM) ae) (aJ 1 jY)) (bf 2))
 (au (aM (eF (ax (a7 (c6 true) (aa 1))) (ax (a7 (c6 true) (aa 2))))
 (aG (ah .non))
 aU)
 (aG (bd (ag (ak aH (aa 1) (ah (.int 0))) (ag (ak aH (aa 1) (ah (.int 1))) (ag (aa 2) ae))) bq))))))
noncomputable def zC:FF:=aY 1 1
 (au (bp (bd (ag (bT (aa 0) (ba (ah (.int 1))) cM) ae) (aJ 1 jY)) (bf 1))
 (au (aM (eF (ax (ak gP (ak aH (aa 0) (ah (.int 0))) (ah (.str "claims")))) (eF (ax (a7 (c6 true) (aa 1))) (ax (ak gP (bd (ag (aa 1) ae) bD) (ah (.int 2))))))
 (aG (ah .non))
 aU)
 (aG (bd (ag (ah (.str "claims")) (ag (ak aH (aa 1) (ah (.int 0))) (ag (ak aH (aa 1) (ah (.int 1))) ae))) bq))))
noncomputable def qv:FF:=aY 2 1
 (au (bp (cW gn (aa 0) (ag (aa 1) ae)) (bf 2))
 (aG (fw (ax (ak cV (bd (ag (aa 2) ae) bD) (ah (.int 2)))) (bd (ag (cF (aa 2)) ae) (aJ 1 jY)) (ah .non))))
noncomputable def zD:FF:=aY 2 0
 (aG (fw (ax (ak cV (aa 0) (ah (.str "deeds")))) (bd (ag (aa 1) (ag (ah (.str ".")) ae)) (aJ 2 qv)) (bd (ag (aa 1) ae) (aJ 1 iF))))
noncomputable def rS:FF:=aY 1 2
 (au (bp (bd (ag (ak aH (aa 0) (ah (.int 1))) ae) (aJ 1 iF)) (bf 1))
 (au (bp (fw (ax (ak (gm false) (ah (.str ",")) (ak aH (aa 0) (ah (.int 0))))) (bd (ag (ak aH (aa 0) (ah (.int 0))) (ag (ah (.str ",")) ae)) (aJ 2 qv)) (bd (ag (ak aH (aa 0) (ah (.int 0))) ae) (aJ 1 iF))) (bf 2))
 (au (aM (eF (ax (a7 (c6 true) (aa 1))) (hJ (ax (a7 (c6 true) (aa 2))) (ax (ak gP (ak aH (aa 0) (ah (.int 0))) (ah (.str "none"))))))
 (aG (ah .non))
 aU)
 (aG (bd (ag (aa 2) (ag (aa 1) ae)) bq)))))
noncomputable def zE:FF:=aY 1 2
 (au (aM (hJ (ax (ak cV (bd (ag (aa 0) ae) bD) (ah (.int 6)))) (hJ (ax (ak cV (ak aH (aa 0) (ah (.int 0))) (ah (.str ":")))) (ax (ak cV (ak aH (aa 0) (ah (.int 3))) (ah (.str "|"))))))
 (au (bp (bd (ag (ah (.int 0)) (ag (ah (.int 1)) ae)) bq) (bf 1))
 (bp (bd (ag (bd (ag (bT (aa 0) (ba (ah (.int 1))) (ba (ah (.int 3)))) ae) (aJ 1 rS)) (ag (bd (ag (bT (aa 0) (ba (ah (.int 4))) (ba (ah (.int 6)))) ae) (aJ 1 rS)) ae)) bq) (bf 2)))
 (aM (hJ (ax (ak cV (bd (ag (aa 0) ae) bD) (ah (.int 5)))) (hJ (ax (ak cV (ak aH (aa 0) (ah (.int 0))) (ah (.str "by")))) (hJ (ax (a7 (jW [("0",0),("1",1)]) (ak aH (aa 0) (ah (.int 1))))) (ax (ak cV (ak aH (aa 0) (ah (.int 2))) (ah (.str ":")))))))
 (au (bp (bd (ag (a7 (gu [("0",0),("1",1)]) (ak aH (aa 0) (ah (.int 1)))) ae) bq) (bf 1))
 (bp (bd (ag (bd (ag (bT (aa 0) (ba (ah (.int 3))) (ba (ah (.int 5)))) ae) (aJ 1 rS)) ae) bq) (bf 2)))
 (aG (ah .non))))
 (aG (fw (ax (ak ia (ah .non) (aa 2))) (ah .non) (bd (ag (aa 1) (ag (aa 2) ae)) bq))))
noncomputable def zF:FF:=aY 1 2
 (au (aM (eF (ax (ak p9 (ak aH (aa 0) (ah (.int 0))) (ah (.con (List.map I.str ["calls","rows","deeds"]))))) (ax (ak n5 (bd (ag (aa 0) ae) bD) (ah (.int 2)))))
 (aG (ah .non))
 aU)
 (au (bp (bd (ag (ak aH (aa 0) (ah (.int 0))) (ag (ak aH (aa 0) (ah (.int 1))) ae)) (aJ 2 zD)) (bf 1))
 (au (bp (bd (ag (bT (aa 0) (ba (ah (.int 2))) cM) ae) (aJ 1 zE)) (bf 2))
 (au (aM (eF (ax (a7 (c6 true) (aa 1))) (ax (a7 (c6 true) (aa 2))))
 (aG (ah .non))
 aU)
 (aG (bd (ag (ah (.str "asked")) (ag (ak aH (aa 0) (ah (.int 0))) (ag (aa 1) (ag (ak aH (aa 2) (ah (.int 0))) (ag (ak aH (aa 2) (ah (.int 1))) ae))))) bq))))))
noncomputable def lJ:FF:=aY 2 0
 (au (aM (ax (a7 (c6 false) (a7 (bM "RecordReading" "ends") (aa 0))))
 (aG (fE "RecordReading" "keep_leaf" 2 zy (aa 0) (ag (bd (ag (cF (aa 1)) ae) (aJ 1 zB)) ae)))
 aU)
 (au (aM (ax (a7 (c6 false) (a7 (bM "RecordReading" "over") (aa 0))))
 (au (dA "RecordReading" "ends" (aa 0) (bd (ag (cF (aa 1)) ae) (aJ 1 rR)))
 (aG (a7 (c6 false) (a7 (bM "RecordReading" "ends") (aa 0)))))
 aU)
 (au (aM (fB (bd (a7 (bM "RecordReading" "told") (aa 0)) bS))
 (aG (fE "RecordReading" "keep" 2 xm (aa 0) (ag (bd (ag (cF (aa 1)) ae) (aJ 1 zC)) ae)))
 aU)
 (au (dA "RecordReading" "over" (aa 0) (bd (ag (cF (aa 1)) ae) (aJ 1 lI)))
 (aG (DZ (a7 (c6 false) (a7 (bM "RecordReading" "over") (aa 0))) (fE "RecordReading" "keep" 2 xm (aa 0) (ag (bd (ag (cF (aa 1)) ae) (aJ 1 zF)) ae))))))))
noncomputable def Fu:SF :=
 (aM (fB (bd (fE "RecordReading" "take" 2 lJ (aa 1) (ag (cW gn (aa 4) (ag (ah (.str " ")) ae)) ae)) bS))
 qm
 aU)
noncomputable def xn:FF:=aY 1 4
 (au (bp (bd ae (iR "RecordReading" 1 rQ)) (bf 1))
 (au (bp (cW gn (aa 0) (ag (ah (.str "\n")) ae)) (bf 2))
 (au (c9 (bX (ag (cF (aa 2)) ae) jR) (cj [3,4])
 Fu)
 (au (aM (ax (a7 (c6 true) (a7 (bM "RecordReading" "over") (aa 1))))
 qm
 aU)
 (aG (fE "RecordReading" "made_record" 1 zx (aa 1) ae))))))
noncomputable def xo:FF:=aY 1 3
 (au (bp (bd (ag (aa 0) ae) (aJ 1 zo)) (bf 1))
 (au (bp (bd (ag (aa 0) ae) (aJ 1 qu)) (bf 2))
 (au (aM (eF (fB (bd (bd (ag (aa 2) (ag (ah (.ty "str")) ae)) bJ) bS)) (ax (ak gP (aa 2) (cW bR (ah (.str "\n")) (ag (aa 1) ae)))))
 (aG (ah (.bl false)))
 aU)
 (au (bp (ak fH (bd (ag (aa 0) ae) bD) (ah (.int 1))) (bf 3))
 (aG (kY (bd (ag (bd (ag (aa 2) ae) (aJ 1 xn)) (ag (aa 0) ae)) (aJ 2 (gw 12))) (ak cV (bd (ag (bT (aa 0) cM (ba (aa 3))) ae) (aJ 1 qu)) (cW bR (ah (.str "\n")) (ag (bT (aa 1) cM (ba (aa 3))) ae)))))))))
noncomputable def Fv:FF:=aY 1 3
 (au (bp (bd (ag (aa 0) (ag (ah (.int 0)) ae)) (aJ 2 xg)) (bf 1))
 (au (k4 2 3 (ag (bd (ag (cF (aa 1)) ae) (aJ 1 ny)) (ag (bd (ag (cF (aa 1)) ae) (aJ 1 ny)) ae)))
 (aG (bd (ag (da (bX (one (bd (ag (aa 2) (ag (aa 3) (ag (aa 2) (ag (aa 3) ae)))) bq)) br) [] c1 bb (bd (ag (aa 0) ae) (aJ 1 xo))) ae) m4))))
end
end Q
namespace Q
open PySem L2 B
theorem aZ  (hl:xs.length=n)(h:body (xs.map some++List.replicate r none) G=some (.rt x G')):aY n r body xs G=some (x,G'):=by
 unfold aY;rw [if_pos hl,h]
theorem aw  (h:a Z G=some (.nx Z1 G1))(k:b Z1 G1=r):au a b Z G=r:=by
 unfold au;rw [h];exact k
theorem ib  (h:a Z G=some (.rt x G1)):au a b Z G=some (.rt x G1):=by
 unfold au;rw [h]
theorem df  (h:c Z G=some (true,Z1,G1))(k:a Z1 G1=r):aM c a b Z G=r:=by
 unfold aM;rw [h];exact k
theorem bG  (h:c Z G=some (false,Z1,G1))(k:b Z1 G1=r):aM c a b Z G=r:=by
 unfold aM;rw [h];exact k
theorem cy  (h:f Z G=some (.v x,Z1,G1))(k:g x Z1 G1=some (Z2,G2)):bp f g Z G=some (.nx Z2 G2):=by
 unfold bp jv bd;rw [h];show (match nX (.v x) Z1 G1 with|_=>_)=_
 unfold nX rt;dsimp only;rw [k]
theorem bw  (h:f Z G=some (.v x,Z1,G1)):aG f Z G=some (.rt x G1):=by
 unfold aG jv bd;rw [h];rfl
theorem dh  (h:f Z G=some (e,Z1,G1)):bF f Z G=some (.nx Z1 G1):=by
 unfold bF;rw [h]
theorem ai{α β:Type}{m:Mo α}{f:α->Mo β}{Z Z1:De}{G G1:List M}{a:α}{r:Option (β×De×List M)}(h:m Z G=some (a,Z1,G1))(k:f a Z1 G1=r):bd m f Z G=r:=by
 unfold bd;rw [h];exact k
theorem Fw (h:c Z G=some (true,Z1,G1)):eF c d Z G=some (true,Z1,G1):=by
 unfold eF bd;rw [h];rfl
theorem dF  (h:c Z G=some (false,Z1,G1))(k:d Z1 G1=r):eF c d Z G=r:=by
 unfold eF bd;rw [h];exact k
theorem zG (h:c Z G=some (false,Z1,G1)):hJ c d Z G=some (false,Z1,G1):=by
 unfold hJ bd;rw [h];rfl
theorem qw  (h:c Z G=some (true,Z1,G1))(k:d Z1 G1=r):hJ c d Z G=r:=by
 unfold hJ bd;rw [h];exact k
theorem bN  (h:f Z G=some (.v (.im (.bl b)),Z1,G1)):ax f Z G=some (b,Z1,G1):=by
 unfold ax bd;rw [h];rfl
theorem aO   (h:f Z G=some (x,Z1,G1))(h2:g Z1 G1=some (y,Z2,G2))(k:p [x,y] Z2 G2=r):ak p f g Z G=r:=by
 unfold ak bd;rw [h];dsimp only;rw [h2];exact k
theorem cO   (h:f Z G=some (x,Z1,G1))(k:p [x] Z1 G1=r):a7 p f Z G=r:=by
 unfold a7 bd;rw [h];exact k
theorem bL   (h:mE es=some xs)(hl:xs.length=n)(k:fn xs G=some (x,G')):aJ n fn es Z G=some (.v x,Z,G'):=by
 unfold aJ;rw [h];dsimp only;rw [if_pos hl,k]
theorem ic    (h:fo Z G=some (e,Z1,G1))(hl:gk Z1 G1 e=true)(ha:fa Z1 G1=some (es,Z2,G2))(k:p (e::es) Z2 G2=r):dr p fo fa Z G=r:=by
 unfold dr bd;rw [h];dsimp only;rw [if_pos hl,ha];exact k
theorem iX     (hb:rG ix Z G=some ((),Z0,G0))(hi:fi Z0 G0=some (w,es,Z1,G1))(hn:w.n≤100000)(hc:fD w c tt te (kA ix Z1) 0 w.n [] Z1 G1=some (ds,G2)):da fi ix c tt te Z G=some (.v (.ow (.lst ds)),Z1,G2):=by
 unfold da;rw [hb];dsimp only;rw [hi];dsimp only;rw [if_pos hn,hc]
theorem fQ    (hi:f Z G=some (w,es,Z1,G1))(h:bP w g b 0 w.n Z1 G1=r):c9 f g b Z G=r:=by
 unfold c9;rw [hi];exact h
theorem cA   (h:fa Z G=some (es,Z1,G1))(k:p es Z1 G1=some w):bX fa p Z G=some (w,es,Z1,G1):=by
 unfold bX;rw [h];dsimp only;rw [k];rfl
noncomputable def nz(n:Nat):Wk:=⟨n,λi _ _=>some (.int i),λ_ _=>true⟩
theorem Fx{n:Nat}{j:Int}{Z:De}{G:List M}(h:j=n)(hn:n≤1000000):fZ [.v (.im (.int j))] Z G=some (nz n):=by
 subst h
 unfold fZ
 dsimp only
 rw [if_pos (by lia)]
 rfl
theorem qx{n:Nat}{fa:Mo (List Ev)}{j:Int}{Z Z1:De}{G G1:List M}(h:fa Z G=some ([.v (.im (.int j))],Z1,G1))(e:j=n)(hn:n≤1000000):bX fa fZ Z G=some (nz n,[.v (.im (.int j))],Z1,G1):=cA h (Fx e hn)
end Q
namespace Q
open PySem L2 B
local macro_rules | `(tactic| simp! [$xs,*])=>`(tactic| simp [aY,au,aM,eF,hJ,fB,ax,ak,a7,bd,aa,ah,rt,ag,ae,bM,bD,sq,pk,dz,CG,n5,leP,rH,pW,cv,aG,CO,jv,cF,pA,nX,aU,bF,bp,bf,aH,eP,kf,vQ,kP,fH,ck,pQ,fI,vD,mN,fJ,gO,Dk,Dl,gh,aJ,mE,fE,iR,bq,aT,fV,gZ,dr,gk,dU,iV,dA,fM,de,hV,kN,kM,dR,fw,c6,mJ,bS,cV,gP,vK,mT,mQ,c7,eI,lF,DU,DV,one,$xs,*])
local macro_rules | `(↑$x)=>`(some (.im $x))
local macro_rules | `(⇑$x)=>`(.v (.im $x))
local macro_rules | `(↥$x)=>`(some (.ow (.lst $x)))
section
theorem xp:¬ (("seed" : Str)="number"):=by decide +kernel
theorem Fy:¬ (("seed" : Str)="left"):=by decide +kernel
theorem xq:¬ (("number" : Str)="left"):=by decide +kernel
theorem xr:¬ (("number" : Str)="seed"):=by decide +kernel
theorem Fz:¬ (("left" : Str)="seed"):=by decide +kernel
theorem FA:¬ (("left" : Str)="number"):=by decide +kernel
theorem FC:((Sum.inr ("seed" : Str):aW)=Sum.inr ("number" : Str))=False:=by simp;decide +kernel
theorem FD:((Sum.inr ("seed" : Str):aW)=Sum.inr ("left" : Str))=False:=by simp;decide +kernel
theorem FE:((Sum.inr ("number" : Str):aW)=Sum.inr ("left" : Str))=False:=by simp;decide +kernel
noncomputable def dY(a n:Int)(l:Nat):List (aW×I):=[(.inr "seed",.int a),(.inr "number",.int n),(.inr "left",.ref l)]
theorem yfc(a n:Int)(l:Nat):dR (dY a n l) (Sum.inr ("seed" : Str))=some (.int a):=by simp [dY,dR]
theorem xt(a n:Int)(l:Nat):dR (dY a n l) (Sum.inr ("number" : Str))=some (.int n):=by simp only [dY,dR,FC,if_false,if_true]
theorem zH(a n:Int)(l:Nat):dR (dY a n l) (Sum.inr ("left" : Str))=some (.ref l):=by simp only [dY,dR,FD,FE,if_false,if_true]
theorem xu(a n m:Int)(l:Nat):eJ (dY a n l) (Sum.inr ("number" : Str)) (.int m)=dY a m l:=by simp [eJ,kO,dY,xp,FA,xq,xr]
theorem xw(a n m:Int)(l:Nat):eJ (dY a n l) (Sum.inr ("seed" : Str)) (.int m)=dY m n l:=by simp [eJ,kO,dY,xr,Fz]
theorem FG(a n:Int)(l:Nat):(dY a n l).length<1000000:=by show 3<1000000;decide
structure DC(G:List M)(d l:Nat)(a n:Int)(ms:List Int):Prop where
 dc:G[d]?=some (.dic (dY a n l))
 lc:G[l]?=some (.lst (ms.map I.int))
 ne:d≠l
 a0:0≤a
 a1:a<2147483647
 n0:0≤n
 m0:∀m∈ms,0≤m
noncomputable def DG(G:List M)(d l:Nat):Prop:=∃a n ms,DC G d l a n ms
structure Oth(d l:Nat)(G G':List M):Prop where
 len:G'.length=G.length
 at_:∀k,k≠d->k≠l->G'[k]?=G[k]?
theorem Oth.refl(d l:Nat)(G:List M):Oth d l G G:=⟨rfl,λ_ _ _=>rfl⟩
theorem Oth.trans{d l:Nat}{G G1 G2:List M}(x:Oth d l G G1)(y:Oth d l G1 G2):Oth d l G G2:=⟨y.len.trans x.len,λk h1 h2=>(y.at_ k h1 h2).trans (x.at_ k h1 h2)⟩
theorem Oth.setD{d l:Nat}{G:List M}{m:M}:Oth d l G (G.set d m):=⟨z32,λk h1 _=>z2d (Ne.symm h1)⟩
theorem Oth.setL{d l:Nat}{G:List M}{m:M}:Oth d l G (G.set l m):=⟨z32,λk _ h1=>z2d (Ne.symm h1)⟩
theorem iY{G:List M}{k:Nat}{m m':M}(h:G[k]?=some m'):(G.set k m)[k]?=some m:=List.getElem?_set_self (z1f.mp h).1
noncomputable def lK(d:Nat)(many:Int):De:=[↑(.ref d),↑(.int many),none,none,none]
theorem qy{G:List M}{d l:Nat}{a n:Int}{ms:List Int}{many:Int}(D:DC G d l a n ms):qt (lK d many) G=some (decide (n=0)&&decide (0<ms.length),lK d many,G):=by
 by_cases h:n=0
 ·by_cases h2:0<ms.length
  ·simp! [qt,lK,D.dc,D.lc,xt,zH,h,h2]
  ·simp! [qt,lK,D.dc,D.lc,xt,zH,h,h2]
 ·simp! [qt,lK,D.dc,D.lc,xt,zH,h]
theorem FH{G:List M}{d l:Nat}{a n:Int}{ms:List Int}{many y:Int}(D:DC G d l a n ms)(hy:ms[ms.length-1]?=some y):∃G',xh (lK d many) G=some (.nx (lK d many) G')/\DC G' d l a y ms.dropLast/\Oth d l G G':=by
 have h1:(G.set l (.lst (ms.map I.int).dropLast))[d]?=some (.dic (dY a n l)):=by rw [z2d D.ne.symm];exact D.dc
 refine⟨(G.set l (.lst (ms.map I.int).dropLast)).set d (.dic (dY a y l)),?_,⟨iY h1,?_,D.ne,D.a0,D.a1,D.m0 y (z30 hy),λm hm=>D.m0 m (List.dropLast_subset _ hm)⟩,Oth.setL.trans Oth.setD⟩
 ·simp! [xh,lK,D.dc,D.lc,zH,hy,h1,FG,xu]
 ·rw [z2d D.ne,iY D.lc,List.map_dropLast]
theorem FI{d l:Nat}{a:Int}{many:Int}:∀(k:Nat) {G:List M} {n:Int} {ms:List Int},ms.length=k->DC G d l a n ms->∃G' n' ms',iE qt xh (lK d many) G=some (.nx (lK d many) G')/\DC G' d l a n' ms'/\Oth d l G G':=by
 intro k
 induction k with
 | zero =>
  intro G n ms hk D
  refine⟨G,n,ms,pI ?_,D,Oth.refl _ _ _⟩
  rw [qy D]
  simp [hk]
 | succ k ih =>
  intro G n ms hk D
  by_cases h:n=0
  ·obtain⟨y,hy⟩:∃y,ms[ms.length-1]?=some y:=⟨_,z15 (by lia)⟩
   obtain⟨G1,e1,D1,o1⟩:=FH (many:=many) D hy
   obtain⟨G2,n2,ms2,e2,D2,o2⟩:=ih (by rw [List.length_dropLast];lia) D1
   refine⟨G2,n2,ms2,?_,D2,o1.trans o2⟩
   rw [u5 (by rw [qy D];simp [h,hk]) e1]
   exact e2
  ·refine⟨G,n,ms,pI ?_,D,Oth.refl _ _ _⟩
   rw [qy D]
   simp [h]
theorem dG{G:List M}{d l:Nat}{many:Int}(D:DG G d l)(h0:0<many)(h1:many<2 ^ 100):∃r G',eA [.im (.ref d),.im (.int many)] G=some (.im (.int r),G')/\0≤r/\r<many/\DG G' d l/\Oth d l G G':=by
 obtain⟨a,n,ms,D⟩:=D
 obtain⟨G1,n1,ms1,e1,D1,o1⟩:=FI (many:=many) _ rfl D
 have e1':iE qt xh [↑(.ref d),↑(.int many),none,none,none] G=some (.nx [↑(.ref d),↑(.int many),none,none,none] G1):=e1
 by_cases hn:0<n1
 ·refine⟨n1 % many,G1.set d (.dic (dY a (n1 / many) l)),?_,Int.emod_nonneg _ (by lia),Int.emod_lt_of_pos _ h0,⟨a,n1 / many,ms1,iY D1.dc,by rw [z2d D1.ne];exact D1.lc,D1.ne,D1.a0,D1.a1,Int.ediv_nonneg D1.n0 (by lia),D1.m0⟩,o1.trans Oth.setD⟩
  have h2:many<2 ^ 200:=Int.lt_trans h1 (by decide)
  have h3:(many<1606938044258990275541962092341162602522202993782792835301376):=h2
  simp! [eA,e1',D1.dc,xt,hn,h0,h3,FG,xu]
 ·have q1:0≤(a*48271+7919) % 2147483647:=Int.emod_nonneg _ (by decide)
  have q2:(a*48271+7919) % 2147483647<2147483647:=Int.emod_lt_of_pos _ (by decide)
  have q3:0≤((a*48271+7919) % 2147483647*40692+104729) % 2147483399:=Int.emod_nonneg _ (by decide)
  have q4:((a*48271+7919) % 2147483647*40692+104729) % 2147483399<2147483399:=Int.emod_lt_of_pos _ (by decide)
  obtain⟨o,ho⟩:∃o,(a*48271+7919) % 2147483647=o:=⟨_,rfl⟩
  rw [ho] at q1 q2 q3 q4
  obtain⟨b,hb⟩:∃b,(o*40692+104729) % 2147483399=b:=⟨_,rfl⟩
  rw [hb] at q3 q4
  have D2:(G1.set d (.dic (dY b n1 l)))[d]?=some (.dic (dY b n1 l)):=iY D1.dc
  have c1:-18446744073709551616<b/\b<18446744073709551616:=⟨by lia,by lia⟩
  have c2:-18446744073709551616<o/\o<18446744073709551616:=⟨by lia,by lia⟩
  refine⟨(o*o % 2147483629*2147483563+b*b % 2147483563) % many,G1.set d (.dic (dY b n1 l)),?_,Int.emod_nonneg _ (by lia),Int.emod_lt_of_pos _ h0,⟨b,n1,ms1,D2,by rw [z2d D1.ne];exact D1.lc,D1.ne,q3,by lia,D1.n0,D1.m0⟩,o1.trans Oth.setD⟩
  simp! [eA,e1',D1.dc,D2,xt,yfc,hn,h0,FG,xw,ho,hb,c1,c2]
theorem n9{w:Wk}{c:I->Option (List I)}{tt:Mo Bool}{te:Mo Ev}{di Z:De}(P:Nat->List I->List M->Prop)
  (step:∀i acc G,i<w.n->P i acc G->∃d ds Za Ga y Zb Gb,w.at_ i Z G=some d/\c d=some ds/\tt ((ds.map λd=>some (Vl.im d))++di) G=some (true,Za,Ga)/\te Za Ga=some (⇑y,Zb,Gb)/\P (i+1) (acc++[y]) Gb)
  (fin:∀acc G,P w.n acc G->w.fin Z G=true):∀(r i:Nat) (acc:List I) (G:List M),i+r=w.n->P i acc G->∃ds G',fD w c tt te di i r acc Z G=some (ds,G')/\P w.n ds G'
 | 0,i,acc,G,h,p=>by
  have:i=w.n:=by lia
  subst this
  exact⟨acc,G,by unfold fD;rw [fin acc G p];rfl,p⟩
 | r+1,i,acc,G,h,p=>by
  obtain⟨d,ds,Za,Ga,y,Zb,Gb,h1,h2,h3,h4,p'⟩:=step i acc G (by lia) p
  obtain⟨ds',G',e,q⟩:=n9 P step fin r (i+1) (acc++[y]) Gb (by lia) p'
  refine⟨ds',G',?_,q⟩
  unfold fD
  rw [h1];dsimp only;rw [h2];dsimp only;rw [h3];dsimp only;rw [h4]
  exact e
theorem ie{w:Wk}{g:GF}{b:SF}(P:Nat->De->List M->Prop)
  (step:∀i Z G,i<w.n->P i Z G->∃d Z1 G1 Z2 G2,w.at_ i Z G=some d/\g (.im d) Z G=some (Z1,G1)/\b Z1 G1=some (.nx Z2 G2)/\P (i+1) Z2 G2)
  (fin:∀Z G,P w.n Z G->w.fin Z G=true):∀(r i:Nat) (Z:De) (G:List M),i+r=w.n->P i Z G->∃Z' G',bP w g b i r Z G=some (.nx Z' G')/\P w.n Z' G'
 | 0,i,Z,G,h,p=>by
  have:i=w.n:=by lia
  subst this
  exact⟨Z,G,by unfold bP;rw [fin Z G p];rfl,p⟩
 | r+1,i,Z,G,h,p=>by
  obtain⟨d,Z1,G1,Z2,G2,h1,h2,h3,p'⟩:=step i Z G (by lia) p
  obtain⟨Z',G',e,q⟩:=ie P step fin r (i+1) Z2 G2 (by lia) p'
  refine⟨Z',G',?_,q⟩
  unfold bP
  rw [h1];dsimp only;rw [h2];dsimp only;rw [h3]
  exact e
structure Mor(g s:Nat)(G G':List M):Prop where
 len:G.length≤G'.length
 at_:∀k,k<G.length->k≠g->k≠s->G'[k]?=G[k]?
theorem Mor.refl(g s:Nat)(G:List M):Mor g s G G:=⟨z13 _,λ_ _ _ _=>rfl⟩
theorem Mor.trans{g s:Nat}{G G1 G2:List M}(x:Mor g s G G1)(y:Mor g s G1 G2):Mor g s G G2:=⟨z21 x.len y.len,λk h h1 h2=>(y.at_ k (z1e h x.len) h1 h2).trans (x.at_ k h h1 h2)⟩
theorem Oth.mor{g s:Nat}{G G':List M}(o:Oth g s G G'):Mor g s G G':=⟨by rw [o.len];exact z13 _,λk _ h1 h2=>o.at_ k h1 h2⟩
theorem Mor.app{g s:Nat}{G:List M}(T:List M):Mor g s G (G++T):=⟨by rw [z18];lia,λk h _ _=>z2a h⟩
theorem yed{xs:List I}{m:Nat}:fK xs none (some (m:Int))=xs.take m:=by
 unfold fK
 rw [HT.y412,HT.y411,List.drop_zero,Nat.sub_zero]
 by_cases h:m≤xs.length
 ·rw [Nat.min_eq_left h]
 ·rw [Nat.min_eq_right (by lia),z34 (z13 _),z34 (by lia)]
theorem yeb{xs:List I}{m:Nat}(h:m≤xs.length):fK xs (some (m:Int)) none=xs.drop m:=by
 unfold fK
 rw [HT.y412,HT.y411,Nat.min_eq_left h]
 rw [z34 (by rw [z39];lia)]
theorem DG.lt{d l:Nat}{G:List M}(D:DG G d l):d<G.length/\l<G.length:=by
 obtain⟨a,n,ms,D⟩:=D
 exact⟨(z1f.mp D.dc).1,(z1f.mp D.lc).1⟩
theorem DG.app{d l:Nat}{G:List M}(D:DG G d l)(T:List M):DG (G++T) d l:=by
 obtain⟨l1,l2⟩:=D.lt
 obtain⟨a,n,ms,D⟩:=D
 exact⟨a,n,ms,by rw [z2a l1];exact D.dc,by rw [z2a l2];exact D.lc,D.ne,D.a0,D.a1,D.n0,D.m0⟩
theorem FJ{w:Wk}{c:I->Option (List I)}{tt:Mo Bool}{te:Mo Ev}{di Z:De}(P:Nat->List I->List M->Prop)
  (step:∀i acc G,i<w.n->P i acc G->∃d ds Za Ga,w.at_ i Z G=some d/\c d=some ds/\((tt ((ds.map λd=>some (Vl.im d))++di) G=some (false,Za,Ga)/\P (i+1) acc Ga)∨∃y Zb Gb,tt ((ds.map λd=>some (Vl.im d))++di) G=some (true,Za,Ga)/\te Za Ga=some (⇑y,Zb,Gb)/\P (i+1) (acc++[y]) Gb))
  (fin:∀acc G,P w.n acc G->w.fin Z G=true):∀(r i:Nat) (acc:List I) (G:List M),i+r=w.n->P i acc G->∃ds G',fD w c tt te di i r acc Z G=some (ds,G')/\P w.n ds G'
 | 0,i,acc,G,h,p=>by
  have:i=w.n:=by lia
  subst this
  exact⟨acc,G,by unfold fD;rw [fin acc G p];rfl,p⟩
 | r+1,i,acc,G,h,p=>by
  obtain⟨d,ds,Za,Ga,h1,h2,z⟩:=step i acc G (by lia) p
  rcases z with⟨h3,p'⟩| ⟨y,Zb,Gb,h3,h4,p'⟩
  ·obtain⟨ds',G',e,q⟩:=FJ P step fin r (i+1) acc Ga (by lia) p'
   refine⟨ds',G',?_,q⟩
   unfold fD
   rw [h1];dsimp only;rw [h2];dsimp only;rw [h3]
   exact e
  ·obtain⟨ds',G',e,q⟩:=FJ P step fin r (i+1) (acc++[y]) Gb (by lia) p'
   refine⟨ds',G',?_,q⟩
   unfold fD
   rw [h1];dsimp only;rw [h2];dsimp only;rw [h3];dsimp only;rw [h4]
   exact e
theorem yee(ns:List Int)(lo hi:Option Int):∃ms:List Int,fK (ns.map I.int) lo hi=ms.map I.int/\ms.length≤ns.length:=by
 refine⟨(ns.drop (HT.sIx ns.length 0 lo)).take (HT.sIx ns.length ns.length hi-HT.sIx ns.length 0 lo),?_,?_⟩
 ·unfold fK;rw [z14,List.map_take,List.map_drop]
 ·rw [z38,z39];lia
theorem yfd{ms:List Int}{Z:De}{G:List M}:∃so:List Int,fD (b9 (.v (.ow (.lst (ms.map I.int)))) ms.length) c1 bb (bd (ag (aa 0) (ag (ak fH (ah (.int 0)) (aa 0)) ae)) kQ) [] 0 ms.length [] Z G=some (so.map I.int,G)/\so.length=ms.length/\∀m∈so,0≤m:=by
 obtain⟨ds,G',e,so,ed,ls,hp,eg⟩:=n9 (w:=b9 (.v (.ow (.lst (ms.map I.int)))) ms.length) (c:=c1) (tt:=bb) (te:=bd (ag (aa 0) (ag (ak fH (ah (.int 0)) (aa 0)) ae)) kQ) (di:=[]) (Z:=Z)
  (λi acc G'=>∃so:List Int,acc=so.map I.int/\so.length=i/\(∀m∈so,0≤m)/\G'=G)
  (λi acc G1 hi ⟨so,ea,ls,hp,o⟩=>by
   have hi:i<ms.length:=hi
   subst o
   obtain⟨y,hy⟩:∃y,(if 0-ms[i]>ms[i] then 0-ms[i] else ms[i])=y:=⟨_,rfl⟩
   refine⟨.int ms[i],[.int ms[i]],_,_,.int y,[↑(.int ms[i])],G1,?_,rfl,rfl,?_,so++[y],by rw [ea,z29];rfl,by rw [z18,ls];rfl,λm hm=>?_,rfl⟩
   ·simp [b9,sq,pk,hi]
   ·subst hy;simp! [kQ]
   ·rcases z1a.mp hm with z|z
    ·exact hp m z
    ·have:m=y:=by simpa using z
     subst this;subst hy;split<;>lia)
  (λ_ _ _=>by simp [b9,sq,pk]) ms.length 0 [] G (by simp [b9]) ⟨[],rfl,rfl,λ_ h=>(by cases h),rfl⟩
 exact⟨so,by rw [ed,eg] at e;exact e,ls,hp⟩
theorem yf8{so:List Int}{Z:De}{G:List M}{k:Nat}(hk:G[k]?=some (.lst (so.map I.int)))(hp:∀m∈so,0≤m):∃le:List Int,fD (b9 ⇑(.ref k) so.length) c1 (ax (ak pW (aa 0) (ak gO (ah (.int 10)) (ah (.int 18))))) (aa 0) [] 0 so.length [] Z G=some (le.map I.int,G)/\∀m∈le,0≤m:=by
 obtain⟨ds,G',e,so',ed,hp,eg⟩:=FJ (w:=b9 ⇑(.ref k) so.length) (c:=c1) (tt:=ax (ak pW (aa 0) (ak gO (ah (.int 10)) (ah (.int 18))))) (te:=aa 0) (di:=[]) (Z:=Z)
  (λi acc G'=>∃le:List Int,acc=le.map I.int/\(∀m∈le,0≤m)/\G'=G)
  (λi acc G1 hi ⟨le,ea,hp',o⟩=>by
   have hi:i<so.length:=hi
   subst o
   refine⟨.int so[i],[.int so[i]],[↑(.int so[i])],G1,by simp [b9,sq,pk,hk,hi],rfl,?_⟩
   by_cases z:(1000000000000000000:Int)≤so[i]
   ·refine .inr ⟨.int so[i],[↑(.int so[i])],G1,by simp! [z],by simp! [],le++[so[i]],by rw [ea,z29];rfl,λm hm=>?_,rfl⟩
    rcases z1a.mp hm with y|y
    ·exact hp' m y
    ·have:m=so[i]:=by simpa using y
     subst this;exact hp _ (z2e hi)
   ·exact .inl ⟨by simp! [];lia,le,ea,hp',rfl⟩)
  (λ_ G1 ⟨_,_,_,eg⟩=>by subst eg;simp [b9,sq,pk,hk]) so.length 0 [] G (by simp [b9]) ⟨[],rfl,λ_ h=>(by cases h),rfl⟩
 exact⟨so',by rw [ed,eg] at e;exact e,hp⟩
theorem yf6{so:List Int}{s1 s2 s3 v:Option Vl}{G:List M}{k:Nat}{a:Int}(hk:G[k]?=some (.lst (so.map I.int)))(h0:0≤a)(h1:a<2147483647):∃a' v',bP (b9 ⇑(.ref k) so.length) (bf 4) zl 0 so.length [s1,s2,s3,↑(.int a),v] G=some (.nx [s1,s2,s3,↑(.int a'),v'] G)/\0≤a'/\a'<2147483647:=by
 obtain⟨Z',G',e,a',v',ed,p0,p1,eg⟩:=ie (w:=b9 ⇑(.ref k) so.length) (g:=bf 4) (b:=zl)
  (λi Z G'=>∃(a:Int) (v:Option Vl),Z=[s1,s2,s3,↑(.int a),v]/\0≤a/\a<2147483647/\G'=G)
  (λi Z G1 hi ⟨a,v,ea,p0,p1,o⟩=>by
   have hi:i<so.length:=hi
   subst o
   subst ea
   refine⟨.int so[i],[s1,s2,s3,↑(.int a),↑(.int so[i])],G1,[s1,s2,s3,↑(.int ((a*48271+so[i] % 2147483629) % 2147483647)),↑(.int so[i])],G1,by simp [b9,sq,pk,hk,hi],rfl,?_,_,_,rfl,Int.emod_nonneg _ (by decide),Int.emod_lt_of_pos _ (by decide),rfl⟩
   simp! [zl])
  (λ_ G1 ⟨_,_,_,_,_,eg⟩=>by subst eg;simp [b9,sq,pk,hk]) so.length 0 [s1,s2,s3,↑(.int a),v] G (by simp [b9]) ⟨a,v,rfl,h0,h1,rfl⟩
 exact⟨a',v',by rw [ed,eg] at e;exact e,p0,p1⟩
theorem qz{fe:Mo Ev}{e:Ev}{xs:List I}{n:Nat}{Z Z1:De}{G G1:List M}(h:fe Z G=some (e,Z1,G1))(hl:ke Z1 G1 e=true)(hs:sq Z1 G1 e=some xs)(hn:xs.length=n):bX (one fe) br Z G=some (b9 e n,[e],Z1,G1):=by
 subst hn
 refine cA (ai h rfl) ?_
 unfold br pM
 dsimp only
 rw [if_pos hl,hs]
 rfl
theorem yfb{ns:List Int}{b:Nat}{G:List M}(h:ns.length≤63)(hb:b≤1000):∃(a:Int) (so le:List Int),xg [.im (.fro (ns.map I.int)),.im (.int b)] G=some (.ow (.dic (dY a 0 (G.length+1))),G++[.lst (so.map I.int),.lst (le.map I.int)])/\0≤a/\a<2147483647/\∀m∈le,0≤m:=by
 obtain⟨ms,hc,lm⟩:=yee ns (some (b:Int)) (some 63)
 obtain⟨so,e1,l1,p1⟩:=yfd (ms:=ms) (Z:=[↑(.fro (ns.map I.int)),↑(.int b),none,none,none]) (G:=G)
 have hk:(G++[M.lst (so.map I.int)])[G.length]?=some (.lst (so.map I.int)):=by simp
 obtain⟨a,v,e2,a0,a1⟩:=yf6 (s1:=↑(.fro (ns.map I.int))) (s2:=↑(.int b)) (s3:=↑(.ref G.length)) (v:=none) (a:=7919+(b:Int)) hk (by lia) (by lia)
 obtain⟨le,e3,p3⟩:=yf8 (Z:=[↑(.fro (ns.map I.int)),↑(.int b),↑(.ref G.length),↑(.int a),v]) hk p1
 refine⟨a,so,le.reverse,?_,a0,a1,λm hm=>p3 m (List.mem_reverse.mp hm)⟩
 refine aZ rfl ?_
 refine aw (cy (iX (Z0:=[↑(.fro (ns.map I.int)),↑(.int b),none,none,none]) (by rfl) (qz (e:=.v (.ow (.lst (ms.map I.int)))) (n:=ms.length) (Z1:=[↑(.fro (ns.map I.int)),↑(.int b),none,none,none]) (G1:=G) ?_ rfl rfl (by simp)) (by show ms.length≤100000;lia) e1) rfl) ?_
 ·simp! [bT,ba,jH,dS,eV,hc]
 refine aw (cy (x:=.im (.int (7919+(b:Int)))) (Z1:=[↑(.fro (ns.map I.int)),↑(.int b),↥(so.map I.int),none,none]) (G1:=G) (by simp! []) rfl) ?_
 refine aw (fQ (qz (e:=⇑(.ref G.length)) (n:=so.length) (Z1:=[↑(.fro (ns.map I.int)),↑(.int b),↑(.ref G.length),↑(.int (7919+(b:Int))),none]) (G1:=G++[M.lst (so.map I.int)]) (xs:=so.map I.int) (by simp! []) rfl (by simp [sq,pk]) (by simp)) e2) ?_
 refine bw (Z1:=[↑(.fro (ns.map I.int)),↑(.int b),↑(.ref G.length),↑(.int a),v]) ?_
 have e4:da (bX (one (cF (aa 2))) br) [] c1 (ax (ak pW (aa 0) (ak gO (ah (.int 10)) (ah (.int 18))))) (aa 0) [↑(.fro (ns.map I.int)),↑(.int b),↑(.ref G.length),↑(.int a),v] (G++[M.lst (so.map I.int)])=some (.v (.ow (.lst (le.map I.int))),[↑(.fro (ns.map I.int)),↑(.int b),↑(.ref G.length),↑(.int a),v],G++[M.lst (so.map I.int)]):=by
  refine iX (by rfl) (qz (e:=⇑(.ref G.length)) (n:=so.length) (Z1:=[↑(.fro (ns.map I.int)),↑(.int b),↑(.ref G.length),↑(.int a),v]) (G1:=G++[M.lst (so.map I.int)]) (xs:=so.map I.int) (by simp! []) rfl (by simp [sq,pk]) (by simp)) (by show so.length≤100000;lia) e3
 have e5:cF (a7 jG (da (bX (one (cF (aa 2))) br) [] c1 (ax (ak pW (aa 0) (ak gO (ah (.int 10)) (ah (.int 18))))) (aa 0))) [↑(.fro (ns.map I.int)),↑(.int b),↑(.ref G.length),↑(.int a),v] (G++[M.lst (so.map I.int)])=some (⇑(.ref (G.length+1)),[↑(.fro (ns.map I.int)),↑(.int b),↑(.ref G.length),↑(.int a),v],G++[M.lst (so.map I.int),M.lst (le.reverse.map I.int)]):=by
  refine ai (cO e4 (r:=some (.v (.ow (.lst (le.reverse.map I.int))),[↑(.fro (ns.map I.int)),↑(.int b),↑(.ref G.length),↑(.int a),v],G++[M.lst (so.map I.int)])) (by simp [jG,eV,sq,pk])) ?_
  simp [pA]
 refine ai (a:=[⇑(.str "seed"),⇑(.int a),⇑(.str "number"),⇑(.int 0),⇑(.str "left"),⇑(.ref (G.length+1))]) (Z1:=[↑(.fro (ns.map I.int)),↑(.int b),↑(.ref G.length),↑(.int a),v]) (G1:=G++[M.lst (so.map I.int),M.lst (le.reverse.map I.int)]) ?_ ?_
 ·refine ai rfl (ai rfl (ai (a:=[⇑(.str "number"),⇑(.int 0),⇑(.str "left"),⇑(.ref (G.length+1))]) (ai rfl (ai rfl (ai (a:=[⇑(.str "left"),⇑(.ref (G.length+1))]) (ai rfl (ai e5 (ai rfl rfl))) rfl))) rfl))
 ·simp [jI,hV,jJ,eJ,kO,xp,Fy,xq,dY]
end
section
noncomputable def ay(l:List Nat):Str:=⟨l.toArray⟩
theorem qA(l:List Nat):(ay l).cps.toList=l:=rfl
theorem qB(x:Str):ay x.cps.toList=x:=by cases x;simp [ay]
theorem cP(l:List Nat):(ay l).length=l.length:=by simp [ay,Str.length]
theorem FK(a b:List Nat):ay a++ay b=ay (a++b):=by
 refine Str.ext' ?_
 rw [Str.cps_append]
 simp [ay]
theorem FL{a b:List Nat}(h:ay a=ay b):a=b:=by have:=congrArg (λs:Str=>s.cps.toList) h;simpa [ay] using this
theorem nA{x:Str}{l:List Nat}(h:x.cps.toList=l):x=ay l:=by rw [<- h,qB]
noncomputable def jd(c:Nat):List Nat->List (List Nat)
 | []=>[[]]
 | d::r=>if d=c then []::jd c r else match jd c r with
  | p::ps=>(d::p)::ps
  | []=>[[d]]
noncomputable def jn(c:Nat):List (List Nat)->List Nat
 | []=>[]
 | [p]=>p
 | p::q::r=>p++c::jn c (q::r)
theorem iZ(c:Nat)(p:List Nat){r:List (List Nat)}(h:r≠[]):jn c (p::r)=p++c::jn c r:=by
 cases r with
 | nil=>exact absurd rfl h
 | cons q r=>rfl
theorem qC(c:Nat):∀{a b:List (List Nat)},a≠[]->b≠[]->jn c (a++b)=jn c a++c::jn c b
 | [],_,h,_=>absurd rfl h
 | [p],b,_,hb=>iZ c p hb
 | p::q::r,b,_,hb=>by
  have ih:=qC c (a:=q::r) (b:=b) (by simp) hb
  show jn c (p::((q::r)++b))=_
  rw [iZ c p (by simp),ih,iZ c p (by simp)]
  simp
theorem qD(c:Nat):∀{p:List Nat},c∉p->jd c p=[p]
 | [],_=>rfl
 | d::p,h=>by
  have h1:d≠c:=λe=>h (by rw [e];exact List.mem_cons_self)
  have h2:c∉p:=λe=>h (z1d _ e)
  rw [jd,if_neg h1,qD c h2]
theorem qE(c:Nat):∀{p:List Nat} (r:List Nat),c∉p->jd c (p++c::r)=p::jd c r
 | [],r,_=>by rw [List.nil_append,jd,if_pos rfl]
 | d::p,r,h=>by
  have h1:d≠c:=λe=>h (by rw [e];exact List.mem_cons_self)
  have h2:c∉p:=λe=>h (z1d _ e)
  rw [List.cons_append,jd,if_neg h1,qE c r h2]
theorem nB(c:Nat):∀{ps:List (List Nat)},ps≠[]->(∀p∈ps,c∉p)->jd c (jn c ps)=ps
 | [],h,_=>absurd rfl h
 | [p],_,h=>qD c (h p List.mem_cons_self)
 | p::q::r,_,h=>by
  rw [iZ c p (by simp),qE c _ (h p List.mem_cons_self),nB c (by simp) λy hy=>h y (z1d _ hy)]
theorem xx(c:Nat):∀ps:List Str,(Str.join ⟨#[c]⟩ ps).cps.toList=jn c (ps.map λp=>p.cps.toList)
 | []=>rfl
 | [p]=>rfl
 | p::q::r=>by
  show (p++⟨#[c]⟩++Str.join ⟨#[c]⟩ (q::r)).cps.toList=_
  rw [Str.cps_append,Str.cps_append,Array.toList_append,Array.toList_append,xx c (q::r)]
  show (p.cps.toList++[c])++jn c ((q::r).map λp=>p.cps.toList)=_
  rw [z19 (a:=p),iZ c _ (by simp)]
  simp
theorem FN(x:Str)(c:Nat):Txt.split x ⟨#[c]⟩≠[]:=by
 unfold Txt.split
 split
 ·simp
 ·split
  ·simp
  ·rw [StrLaws.partsBetween_eq]
   obtain⟨p,r,e⟩:=StrLaws.partsFrom_ne x (⟨#[c]⟩:Str).length 0 (Builtin.Str.occurrences x ⟨#[c]⟩ 0 x.length (x.length+1))
   rw [e];simp
theorem xy(x:Str)(c:Nat):Txt.split x ⟨#[c]⟩=(jd c x.cps.toList).map ay:=by
 have h1:=StrLaws.join_split x ⟨#[c]⟩
 have h2:=StrLaws.split_free x c
 have h3:=FN x c
 have h4:(Str.join ⟨#[c]⟩ (Txt.split x ⟨#[c]⟩)).cps.toList=x.cps.toList:=congrArg (λs:Str=>s.cps.toList) h1
 rw [xx] at h4
 rw [<- h4,nB c (by simpa using h3) (λp hp=>by obtain⟨q,hq,rfl⟩:=z2b.mp hp;exact h2 q hq),z2f]
 have:(ay ∘ λp:Str=>p.cps.toList)=id:=by funext p;exact qB p
 rw [this,List.map_id]
noncomputable def jz(z:List Nat):List (List Nat)->List Nat
 | []=>[]
 | [p]=>p
 | p::q::r=>p++z++jz z (q::r)
theorem qF(z:List Nat):∀ps:List (List Nat),(Str.join (ay z) (ps.map ay)).cps.toList=jz z ps
 | []=>rfl
 | [p]=>rfl
 | p::q::r=>by
  show (ay p++ay z++Str.join (ay z) ((q::r).map ay)).cps.toList=_
  rw [Str.cps_append,Str.cps_append,Array.toList_append,Array.toList_append,qF z (q::r)]
  rfl
theorem qG(z:List Nat)(p:List Nat){r:List (List Nat)}(h:r≠[]):jz z (p::r)=p++z++jz z r:=by
 cases r with
 | nil=>exact absurd rfl h
 | cons q r=>rfl
noncomputable def dg(n:Nat):List Nat:=(Nat.toDigits 10 n).map Char.toNat
theorem gT{n:Nat}(h:n<10):dg n=[48+n]:=by
 unfold dg
 rw [Nat.toDigits_of_lt_base h]
 show [(Nat.digitChar n).toNat]=_
 rw [Nat.toNat_digitChar_of_lt_ten h]
theorem i3{n:Nat}(h:10≤n):dg n=dg (n / 10)++[48+n % 10]:=by
 have hm:n % 10<10:=Nat.mod_lt n (by decide)
 have t:Nat.toDigits 10 (n / 10)++Nat.toDigits 10 (n % 10)=Nat.toDigits 10 (10*(n / 10)+n % 10):=Nat.toDigits_append_toDigits (by decide) (by lia) hm
 rw [Nat.div_add_mod] at t
 unfold dg
 rw [<- t,z29]
 have:=gT hm
 unfold dg at this
 rw [this]
theorem FO(n:Nat):(toString (n:Int):Str)=ay (dg n):=nA (W.KIN.signs_num n)
theorem nC(n:Nat):∀c∈dg n,48≤c/\c≤57:=by
 induction n using Nat.strongRecOn with
 | _ n ih =>
  by_cases h:n<10
  ·rw [gT h];intro c hc;rw [z22.mp hc];lia
  ·rw [i3 (by lia)]
   intro c hc
   rcases z1a.mp hc with hc|hc
   ·exact ih (n / 10) (by lia) c hc
   ·rw [z22.mp hc];lia
theorem qH(n:Nat):dg n≠[]:=by
 by_cases h:n<10
 ·rw [gT h];simp
 ·rw [i3 (by lia)];simp
theorem xA(n:Nat):∀r,dg n=48::r->n=0:=by
 induction n using Nat.strongRecOn with
 | _ n ih =>
  intro r e
  by_cases h:n<10
  ·rw [gT h] at e;injection e with e1 _;lia
  ·rw [i3 (by lia)] at e
   cases e2:dg (n / 10) with
   | nil=>exact absurd e2 (qH _)
   | cons d t =>
    rw [e2] at e
    injection e with e3 _
    have:=ih (n / 10) (by lia) t (by rw [e2,e3])
    lia
noncomputable def vl(a:Nat)(l:List Nat):Nat:=l.foldl (λa c=>10*a+(c-48)) a
theorem xB(n:Nat):vl 0 (dg n)=n:=by
 induction n using Nat.strongRecOn with
 | _ n ih =>
  by_cases h:n<10
  ·rw [gT h];show 10*0+(48+n-48)=n;lia
  ·rw [i3 (by lia)]
   unfold vl at ih ⊢
   rw [List.foldl_append,ih (n / 10) (by lia)]
   show 10*(n / 10)+(48+n % 10-48)=n
   lia
theorem k7(n k:Nat)(h:n<10 ^ (k+1)):(dg n).length≤k+1:=by
 induction k generalizing n with
 | zero=>rw [gT (by lia)];simp
 | succ k ih =>
  by_cases h1:n<10
  ·rw [gT h1];simp
  ·rw [i3 (by lia),z18]
   have:n / 10<10 ^ (k+1):=by rw [Nat.div_lt_iff_lt_mul (by decide)];rw [Nat.pow_succ] at h;exact h
   have:=ih (n / 10) this
   simp
   lia
inductive Tm where
 | num (w:Nat)|cell (x:List Nat)|at_ (r:List Nat) (t:Tm)|op (s:Nat) (a b:Tm)
noncomputable def Tm.i:Tm->I
 | .num w=>.tup [.str "num",.int w]
 | .cell x=>.tup [.str "cell",.str (ay x)]
 | .at_ r t=>.tup [.str "at",.str (ay r),t.i]
 | .op s a b=>.tup [.str "op",.str (ay [s]),a.i,b.i]
noncomputable def Tm.size:Tm->Nat
 | .num _=>1
 | .cell _=>1
 | .at_ _ t=>1+t.size
 | .op _ a b=>1+a.size+b.size
noncomputable def Sgn(s:Nat):Prop:=s=43∨s=45∨s=42∨s=60∨s=61
noncomputable def xC:List Str:=["cell","row","def","main","set","put","while","if","else","call","end","at"]
structure Nm(x:List Nat):Prop where
 lo:1≤x.length
 hi:x.length≤6
 ab:∀c∈x,97≤c/\c≤122
 nk:ay x∉xC
noncomputable def Tm.ok:Tm->Prop
 | .num w=>w<4294967296
 | .cell x=>Nm x
 | .at_ r t=>Nm r/\t.ok
 | .op s a b=>Sgn s/\a.ok/\b.ok
noncomputable def Tm.tx:Tm->List Nat
 | .num w=>dg w
 | .cell x=>x
 | .at_ r t=>[40,97,116,32]++r++[32]++t.tx++[41]
 | .op s a b=>[40]++([s]++[32]++a.tx++[32]++b.tx)++[41]
noncomputable def Tm.tk:Tm->List (List Nat)
 | .num w=>[dg w]
 | .cell x=>[x]
 | .at_ r t=>[[40],[97,116],r]++t.tk++[[41]]
 | .op s a b=>[[40],[s]]++a.tk++b.tk++[[41]]
end
section
variable {d l:Nat}
theorem ig{p:List Ev->Mo Ev}{fo:Mo Ev}{fa:Mo (List Ev)}{Z Z1 Z2:De}{G G1 G2:List M}{e:Ev}{es:List Ev}{r:Option (Ev×De×List M)}(h:fo Z G=some (e,Z1,G1))(hs:wx e=true)(ha:fa Z1 G1=some (es,Z2,G2))(k:p (e::es) Z2 G2=r):cW p fo fa Z G=r:=by
 unfold cW bd;rw [h];dsimp only;rw [if_pos hs,ha];exact k
theorem at0{α:Type}(x:α)(r:List α):dN (x::r) 0=some x:=nR (j:=0) rfl
theorem g0{α:Type}(x y:α)(r:List α):dN (x::y::r) 1=some y:=nR (j:=1) rfl
theorem at2{α:Type}(x y z:α)(r:List α):dN (x::y::z::r) 2=some z:=nR (j:=2) rfl
theorem at3{α:Type}(x y z u:α)(r:List α):dN (x::y::z::u::r) 3=some u:=nR (j:=3) rfl
theorem xD(x:Str){a:Nat}(h:a≤x.length):Txt.slice x none (some (a:Int))=ay (x.cps.toList.take a):=by
 have:=StrLaws.sliceText_to (x:=x) (j:=a) ⟨by lia,by simp [Str.length] at h ⊢;lia⟩
 rw [show Txt.slice x none (some (a:Int))=StrLaws.sliceText x none (some (a:Int)) from rfl,this]
 simp [ay]
theorem FP(x:Str){a:Nat}(h:a≤x.length):Txt.slice x (some (a:Int)) none=ay (x.cps.toList.drop a):=by
 have:=StrLaws.sliceText_from (x:=x) (i:=a) ⟨by lia,by simp [Str.length] at h ⊢;lia⟩
 rw [show Txt.slice x (some (a:Int)) none=StrLaws.sliceText x (some (a:Int)) none from rfl,this]
 simp [ay]
 exact z34 (by simp)
theorem FQ{m:Nat}{zs:List Str}(h:∀z∈zs,z.length≤m):(zs.map (·.length)).sum≤zs.length*m:=by
 induction zs with
 | nil=>simp
 | cons z zs ih =>
  rw [z19,List.sum_cons,z20,Nat.add_mul]
  have:=h z List.mem_cons_self
  have:=ih λy hy=>h y (z1d _ hy)
  lia
theorem xE:("" : Str).length=0:=by decide +kernel
theorem FR:∀r,r<10->("0123456789" : Str).cps.toList[r]?=some (48+r):=by decide +kernel
theorem xF{r:Nat}{Z:De}{G:List M}(h:r<10):aH [⇑(.str "0123456789"),⇑(.int (r:Int))] Z G=some (⇑(.str (ay [48+r])),Z,G):=by
 have hc:dN ("0123456789" : Str).cps.toList (r:Int)=some (48+r):=nR (FR r h)
 have hl:("0123456789" : Str).length≤1000000:=by rw [show ("0123456789" : Str).length=10 by decide +kernel];lia
 simp [aH,eP,kf,sq,pk,hc,hl,ay]
noncomputable def gU(l:List Nat):List I:=l.map λc=>I.str (ay [c])
theorem FT:∀l:List Nat,Txt.join "" (l.map λc=>ay [c])=ay l:=λl=>by
 unfold Txt.join
 rw [StrLaws.glued_eq_join,show ("" : Str)=ay [] by decide +kernel]
 have:(l.map λc=>ay [c])=(l.map λc=>[c]).map ay:=by rw [z2f];rfl
 rw [this]
 refine nA ((qF [] _).trans ?_)
 induction l with
 | nil=>rfl
 | cons c l ih =>
  cases l with
  | nil=>rfl
  | cons c' l=>rw [z19,qG [] _ (by simp),ih (by rw [z2f];rfl)];rfl
theorem FU{m:Nat}{acc:List Nat}{G:List M}(h:10≤m)(hl:acc.length≤1000):Fq [↑(.int (m:Int)),↥(gU acc)] G=some (.nx [↑(.int ((m / 10:Nat):Int)),↥(gU (acc++[48+m % 10]))] G):=by
 have e1:((m:Int) % 10)=((m % 10:Nat):Int):=by lia
 have e2:((m:Int) / 10)=((m / 10:Nat):Int):=by lia
 have h1:=xF (r:=m % 10) (Z:=[↑(.int (m:Int)),↥(gU acc)]) (G:=G) (by lia)
 have hn:(gU acc).length<1000000:=by unfold gU;rw [z14];lia
 refine aw (Z1:=[↑(.int (m:Int)),↥(gU (acc++[48+m % 10]))]) (G1:=G) (dh (e:=⇑.non) (ic (e:=.s 1) rfl rfl (ai (aO rfl (y:=⇑(.int ((m % 10:Nat):Int))) (by rw [<- e1];simp! []) h1) rfl) ?_)) ?_
 ·unfold gU at hn ⊢
  have hn':acc.length<1000000:=by lia
  simp [dU,pk,dz,fV,gZ,de,hn']
 ·rw [<- e2];simp! []
theorem FV(G:List M):∀(m:Nat) (acc:List Nat),acc.length+(dg m).length≤1000->∃(k:Nat) (y68:List Nat),iE zq Fq [↑(.int (m:Int)),↥(gU acc)] G=some (.nx [↑(.int (k:Int)),↥(gU y68)] G)/\k<10/\dg m++acc.reverse=(48+k)::y68.reverse:=by
 intro m
 induction m using Nat.strongRecOn with
 | _ m ih =>
  intro acc hl
  by_cases h:m<10
  ·refine⟨m,acc,pI ?_,h,by rw [gT h];rfl⟩
   have:¬ (9:Int)<m:=by lia
   simp! [zq,this]
  ·have hg:(9:Int)<m:=by lia
   rw [i3 (by lia),z18] at hl
   obtain⟨k,y68,e,hk,q⟩:=ih (m / 10) (by lia) (acc++[48+m % 10]) (by simp at hl ⊢;lia)
   refine⟨k,y68,?_,hk,?_⟩
   ·rw [u5 (Z1:=[↑(.int (m:Int)),↥(gU acc)]) (G1:=G) (by simp! [zq,hg]) (FU (by lia) (by simp at hl;lia))]
    exact e
   ·rw [i3 (by lia),<- q];simp
theorem FW(l:List Nat):fN (gU l)=some (l.map λc=>ay [c]):=by
 have:gU l=(l.map λc=>ay [c]).map I.str:=by unfold gU;rw [z2f];rfl
 rw [this,qg]
theorem xG{n:Nat}{G:List M}(h:n<10 ^ 18):xl [.im (.int (n:Int))] G=some (.im (.str (ay (dg n))),G):=by
 have hd:=k7 n 17 h
 obtain⟨k,acc,e,hk,q⟩:=FV G n [] (by simp;lia)
 have hlen:acc.length+1≤18:=by have:=congrArg List.length q;simp at this;lia
 have hn:(gU acc).length<1000000:=by unfold gU;rw [z14];lia
 have ej:Txt.join "" (((acc++[48+k]).map λc=>ay [c]).reverse)=ay (dg n):=by
  rw [<- List.map_reverse,FT,List.reverse_append]
  simp only [List.reverse_nil,z17] at q
  rw [q];rfl
 have es:=FW (acc++[48+k])
 have hz:(((acc++[48+k]).map λc=>ay [c]).map (·.length)).sum+((acc++[48+k]).map λc=>ay [c]).length*("" : Str).length≤1000000:=by
  have h1:=FQ (m:=1) (zs:=(acc++[48+k]).map λc=>ay [c]) (λz hz=>by obtain⟨c,_,rfl⟩:=z2b.mp hz;exact z13 _)
  rw [xE]
  simp only [z14,z18,z20,List.length_nil] at h1 ⊢
  lia
 refine aZ rfl (aw (cy (x:=.ow (.lst [])) (Z1:=[↑(.int (n:Int)),none]) (G1:=G) rfl rfl) (aw e (aw (Z1:=[↑(.int (k:Int)),↥(gU (acc++[48+k]))]) (G1:=G) (dh (e:=⇑.non) (ic (e:=.s 1) rfl rfl (ai (aO rfl rfl (xF hk)) rfl) ?_)) (bw (Z1:=[↑(.int (k:Int)),↥(gU (acc++[48+k]))]) ?_))))
 ·unfold gU at hn ⊢
  have hn':acc.length<1000000:=by lia
  simp [dU,pk,dz,fV,gZ,de,hn']
 ·refine ig (e:=⇑(.str "")) rfl rfl (ai rfl rfl) ?_
  rw [<- ej]
  simp only [jQ,pk]
  show (match fN (gU (acc++[48+k])) with|some ys=>_|none=>none)=_
  rw [es]
  dsimp only
  rw [if_pos hz]
theorem FX(z:List Nat)(ps:List (List Nat)):Txt.join (ay z) (ps.map ay)=ay (jz z ps):=by
 unfold Txt.join
 rw [StrLaws.glued_eq_join]
 exact nA (qF z ps)
theorem i4{a b:List Nat}{Z:De}{G:List M}(h:a.length+b.length≤1000000):ck [⇑(.str (ay a)),⇑(.str (ay b))] Z G=some (⇑(.str (ay (a++b))),Z,G):=by
 have h':(ay a).length+(ay b).length≤1000000:=by rw [cP,cP];exact h
 rw [<- FK]
 simp [ck,eP,pQ,cv,mL,h']
theorem xH(x:Str)(c:Nat):jO x (ay [c])=decide (c∈x.cps.toList):=StrLaws.found_one x c
theorem FY:∀k,k<10->(48+k)∈("0123456789" : Str).cps.toList:=by decide +kernel
theorem FZ:∀k,k<10->Builtin.Str.occurrences "0123456789" (ay [48+k]) 0 ("0123456789" : Str).length 1=[k]:=by decide +kernel
theorem F0{x:I}{a c:Nat}{G:List M}(hc:48≤c/\c≤57):zz [↑x,↑(.int (a:Int)),↑(.str (ay [c]))] G=some (.nx [↑x,↑(.int ((10*a+(c-48):Nat):Int)),↑(.str (ay [c]))] G):=by
 obtain⟨k,rfl⟩:∃k,c=48+k:=⟨c-48,by lia⟩
 have hk:k<10:=by lia
 have e1:jO ("0123456789" : Str) (ay [48+k])=true:=by rw [xH];exact decide_eq_true (FY k hk)
 have e2:=FZ k hk
 have e3:((10*a+(48+k-48):Nat):Int)=10*(a:Int)+(k:Int):=by lia
 rw [e3]
 refine aw (Z1:=[↑x,↑(.int (a:Int)),↑(.str (ay [48+k]))]) (G1:=G) (bG (Z1:=[↑x,↑(.int (a:Int)),↑(.str (ay [48+k]))]) (G1:=G) (bN (aO rfl rfl ?_)) rfl) (cy (x:=.im (.int (10*(a:Int)+(k:Int)))) (Z1:=[↑x,↑(.int (a:Int)),↑(.str (ay [48+k]))]) (G1:=G) (aO (x:=⇑(.int (10*(a:Int)))) (Z1:=[↑x,↑(.int (a:Int)),↑(.str (ay [48+k]))]) (G1:=G) (by simp! []) (y:=⇑(.int (k:Int))) (Z2:=[↑x,↑(.int (a:Int)),↑(.str (ay [48+k]))]) (G2:=G) (ig rfl rfl (ai rfl rfl) ?_) (by simp! [])) rfl)
 ·show some (Ev.v (.im (.bl (!(jO ("0123456789" : Str) (ay [48+k]))))),_,G)=_
  rw [e1];rfl
 ·show jP [⇑(.str "0123456789"),⇑(.str (ay [48+k]))] _ G=some (⇑(.int (k:Int)),_,G)
  unfold jP
  dsimp only
  rw [e2]
theorem F1{x:List Nat}{G:List M}(hx:∀c∈x,48≤c/\c≤57):∃v2,bP (hX (ay x)) (bf 2) zz 0 x.length [↑(.str (ay x)),↑(.int 0),none] G=some (.nx [↑(.str (ay x)),↑(.int (vl 0 x:Int)),v2] G):=by
 have hn:(hX (ay x)).n=x.length:=by simp [hX,ay]
 obtain⟨Z',G',e,v2,ed,eg⟩:=ie (w:=hX (ay x)) (g:=bf 2) (b:=zz) (λi Z G'=>∃v2,Z=[↑(.str (ay x)),↑(.int (vl 0 (x.take i):Int)),v2]/\G'=G)
  (λi Z g hi ⟨v2,ed,eg⟩=>by
   rw [hn] at hi
   subst ed;subst eg
   refine⟨.str (ay [x[i]]),_,g,_,g,?_,rfl,F0 (hx x[i] (z2e hi)),↑(.str (ay [x[i]])),?_,rfl⟩
   ·show ((ay x).cps[i]?).map (λc=>I.str ⟨#[c]⟩)=_
    have:(ay x).cps[i]?=some x[i]:=by simp [ay,hi]
    rw [this];rfl
   ·have:vl 0 (x.take (i+1))=10*vl 0 (x.take i)+(x[i]-48):=by
     unfold vl
     rw [List.take_add_one,z15 hi,List.foldl_append];rfl
    rw [this])
  (λ_ _ _=>rfl) x.length 0 [↑(.str (ay x)),↑(.int 0),none] G (by rw [hn];lia) ⟨none,by simp [vl],rfl⟩
 rw [hn,List.take_length] at ed
 exact⟨v2,by rw [ed,eg] at e;exact e⟩
theorem xI:("" : Str)=ay []:=by decide +kernel
theorem qI:("0" : Str)=ay [48]:=by decide +kernel
theorem k9(a b:List Nat):(ay a == ay b)=decide (a=b):=by
 by_cases h:a=b
 ·subst h;simp
 ·rw [decide_eq_false h]
  exact beq_eq_false_iff_ne.mpr λe=>h (FL e)
theorem F3{w:Nat}{G:List M}(hw:w<10 ^ 18):zA [.im (.str (ay (dg w)))] G=some (.im (.int (w:Int)),G):=by
 have hd:=k7 w 17 hw
 obtain⟨v2,ef⟩:=F1 (x:=dg w) (G:=G) (nC w)
 rw [xB] at ef
 have hn:(hX (ay (dg w))).n=(dg w).length:=by simp [hX,ay]
 have hl:(ay (dg w)).length≤1000000:=by rw [cP];lia
 cases e:dg w with
 | nil=>exact absurd e (qH w)
 | cons c r =>
  rw [e] at ef hn hl
  have n1:(ay (c::r) == ay [])=false:=by rw [k9];simp
  have ix:aH [⇑(.str (ay (c::r))),⇑(.int 0)] [↑(.str (ay (c::r))),none,none] G=some (⇑(.str (ay [c])),[↑(.str (ay (c::r))),none,none],G):=by
   have hc:dN (ay (c::r)).cps.toList 0=some c:=at0 c r
   rw [show ay [c]=(⟨#[c]⟩:Str) from rfl]
   simp [aH,eP,kf,sq,pk,hc,hl]
  have hz:c=48->c::r=[48]:=λhc=>by
   have:=xA w r (by rw [e,hc])
   subst this
   rw [gT (by decide)] at e
   exact e.symm
  refine aZ rfl (aw (Z1:=[↑(.str (ay (c::r))),none,none]) (G1:=G) (bG (Z1:=[↑(.str (ay (c::r))),none,none]) (G1:=G) (dF (Z1:=[↑(.str (ay (c::r))),none,none]) (G1:=G) (bN (aO rfl rfl (by rw [xI];simp! [n1]))) ?_) rfl) (aw (cy (x:=.im (.int 0)) (Z1:=[↑(.str (ay (c::r))),none,none]) (G1:=G) rfl rfl) (aw (fQ (cA (es:=[⇑(.str (ay (c::r)))]) (w:=hX (ay (c::r))) rfl rfl) (by rw [hn];exact ef)) rfl)))
  by_cases hc:c=48
  ·have e2:=hz hc
   rw [e2] at ix ⊢
   subst hc
   have n2:(ay [48] == ay [48])=true:=by simp
   refine qw (Z1:=[↑(.str (ay [48])),none,none]) (G1:=G) (bN (aO (aO rfl rfl ix) rfl (by rw [qI];simp! []))) (bN (aO rfl rfl (by rw [qI];simp! [])))
  ·have n3:(ay [c] == ay [48])=false:=by rw [k9];simp [hc]
   exact zG (bN (aO (aO rfl rfl ix) rfl (by rw [qI];simp! [n3])))
end
section
noncomputable def tz(z:Int):List Nat:=if z<0 then 45::dg z.natAbs else dg z.natAbs
noncomputable def Nz(z:Int):Prop:=-(10 ^ 18)<z/\z<10 ^ 18
theorem Nz.abs{z:Int}(h:Nz z):z.natAbs<10 ^ 18:=by unfold Nz at h;lia
theorem bH{z:Int}(h:Nz z):(tz z).length≤19:=by
 have:=k7 z.natAbs 17 h.abs
 unfold tz
 split<;>simp<;>lia
theorem xJ(z:Int):∀c∈tz z,c=45∨48≤c/\c≤57:=by
 intro c hc
 unfold tz at hc
 split at hc
 ·rcases zb.mp hc with e|hc
  ·exact .inl e
  ·exact .inr (nC _ c hc)
 ·exact .inr (nC _ c hc)
theorem xK(z:Int):(toString z:Str)=ay (tz z):=by
 unfold tz
 split
 ·rename_i h
  obtain⟨n,rfl⟩:∃n:Nat,z=-((n:Int)+1):=⟨(-z-1).toNat,by lia⟩
  have e:(-((n:Int)+1)).natAbs=n+1:=by lia
  rw [e]
  refine nA ?_
  have h1:=W.KIN.signs_num (n+1)
  have h2:toString (-((n:Int)+1))="-"++toString (((n+1:Nat)):Int):=by
   have:(-((n:Int)+1))=Int.negSucc n:=by lia
   rw [this];rfl
  show (Str.ofString (toString (-((n:Int)+1)))).cps.toList=_
  rw [h2,PyProof.Rows.signs_ofString]
  rw [PyProof.Rows.signs_ofString] at h1
  rw [String.toList_append,z29,h1]
  rfl
 ·rename_i h
  obtain⟨n,rfl⟩:=Int.eq_ofNat_of_zero_le (show 0≤z by lia)
  exact FO n
theorem eY{z:Int}{G:List M}(h:Nz z):dJ [.im (.int z)] G=some (.im (.str (ay (tz z))),G):=by
 by_cases hz:z<0
 ·obtain⟨n,rfl⟩:∃n:Nat,z=-(n:Int):=⟨z.natAbs,by lia⟩
  have e:=xG (n:=n) (G:=G) (by have:=h.abs;lia)
  have hl:=k7 n 17 (by have:=h.abs;lia)
  have ht:tz (-(n:Int))=[45]++dg n:=by unfold tz;rw [if_pos hz];simp
  have c:=i4 (a:=[45]) (b:=dg n) (Z:=[↑(.int (-(n:Int)))]) (G:=G) (by simp;lia)
  have hn:0<n:=by lia
  rw [ht]
  refine aZ rfl (bw (Z1:=[↑(.int (-(n:Int)))]) ?_)
  unfold fw
  refine ai (a:=true) (Z1:=[↑(.int (-(n:Int)))]) (G1:=G) (by simp! [hn]) ?_
  refine aO rfl (ai (a:=[⇑(.int (n:Int))]) (Z1:=[↑(.int (-(n:Int)))]) (G1:=G) (by simp! []) (bL rfl rfl e)) ?_
  rw [show ("-" : Str)=ay [45] by decide +kernel]
  exact c
 ·obtain⟨n,rfl⟩:=Int.eq_ofNat_of_zero_le (show 0≤z by lia)
  have e:=xG (n:=n) (G:=G) (by have:=h.abs;lia)
  have ht:tz (n:Int)=dg n:=by unfold tz;rw [if_neg hz];rfl
  rw [ht]
  simp! [dJ,hz,e]
theorem xM:("-0" : Str)=ay [45,48]:=by decide +kernel
theorem xN:("-" : Str)=ay [45]:=by decide +kernel
theorem nD{z:Int}{G:List M}(h:Nz z):iF [.im (.str (ay (tz z)))] G=some (.im (.int z),G):=by
 have hl:=k7 z.natAbs 17 h.abs
 have en:=F3 (w:=z.natAbs) (G:=G) h.abs
 by_cases hz:z<0
 ·have ht:tz z=45::dg z.natAbs:=by unfold tz;rw [if_pos hz]
  rw [ht]
  have h1:k5 (ay (45::dg z.natAbs)) (ay [45])=true:=by
   unfold k5
   rw [cP,cP]
   simp [Builtin.Str.subAt,ay,Str.length]
  have h2:Txt.slice (ay (45::dg z.natAbs)) (some (1:Int)) none=ay (dg z.natAbs):=by
   have:=FP (ay (45::dg z.natAbs)) (a:=1) (by rw [cP];simp)
   exact this
  have h3:(ay (45::dg z.natAbs) == ay [45,48])=false:=by
   rw [k9]
   refine decide_eq_false λe=>?_
   injection e with _ e
   have:=xA z.natAbs [] e
   lia
  have h4:(ay (dg z.natAbs)).length=(dg z.natAbs).length:=cP _
  have h5:¬ (18:Int)<((dg z.natAbs).length:Int):=by lia
  have h6:(ay (45::dg z.natAbs)).length≤1000000:=by rw [cP];simp;lia
  have h7:-((z.natAbs:Nat):Int)=z:=by lia
  have h8:(ay (dg z.natAbs)).length≤1000000:=by rw [cP];lia
  suffices q:iF [.im (.str (ay (45::dg z.natAbs)))] G=some (.im (.int (-((z.natAbs:Nat):Int))),G) by rw [h7] at q;exact q
  have h9:(dg z.natAbs).length≤1000000:=by lia
  clear ht
  generalize z.natAbs=n at h1 h2 h3 h4 h5 h6 h8 h9 en ⊢
  generalize ay (45::dg n)=x at h1 h2 h3 h6 ⊢
  generalize ay (dg n)=y at h2 h4 h8 en
  generalize (dg n).length=k at h4 h5 h9
  simp only [iF,xN,xM]
  simp! [cW,wx,jS,bT,ba,cM,jH,dS,h1,h2,h3,h4,h5,h6,h8,h9,en]
 ·have ht:tz z=dg z.natAbs:=by unfold tz;rw [if_neg hz]
  rw [ht]
  have h7:((z.natAbs:Nat):Int)=z:=by lia
  cases e:dg z.natAbs with
  | nil=>exact absurd e (qH _)
  | cons c r =>
   have hc:=nC z.natAbs c (by rw [e];exact List.mem_cons_self)
   rw [e] at en hl
   have h1:k5 (ay (c::r)) (ay [45])=false:=by
    unfold k5
    rw [cP,cP]
    have:c≠45:=by lia
    simp [Builtin.Str.subAt,ay,Str.length,this]
   have h3:(ay (c::r) == ay [45,48])=false:=by
    rw [k9]
    refine decide_eq_false λe=>?_
    injection e with e _
    lia
   have h4:(ay (c::r)).length=(c::r).length:=cP _
   have h5:¬ (18:Int)<(((c::r).length:Nat):Int):=by lia
   have h8:(ay (c::r)).length≤1000000:=by rw [cP];lia
   suffices q:iF [.im (.str (ay (c::r)))] G=some (.im (.int ((z.natAbs:Nat):Int)),G) by rw [h7] at q;exact q
   have h9:(c::r).length≤1000000:=by lia
   generalize z.natAbs=n at en ⊢
   generalize ay (c::r)=y at h1 h3 h4 h8 en ⊢
   generalize (c::r).length=k at h4 h5 h9
   simp only [iF,xN,xM]
   simp! [cW,wx,jS,h1,h3,h4,h5,h8,h9,en]
theorem F4{G:List M}:iF [.im (.str "none")] G=some (.im .non,G):=by kernel_rfl
end
section
variable {d l:Nat}
inductive Sd where
 | no|nm (z:Int)|pr (a b:Int)
noncomputable def Sd.i:Sd->I
 | .no=>.non
 | .nm z=>.int z
 | .pr a b=>.tup [.int a,.int b]
noncomputable def Sd.ok:Sd->Prop
 | .no=>True
 | .nm z=>Nz z
 | .pr a b=>Nz a/\Nz b
noncomputable def Sd.tx:Sd->List Nat
 | .no=>[110,111,110,101]
 | .nm z=>tz z
 | .pr a b=>tz a++44::tz b
structure An where
 s:Sd
 t:Int
noncomputable def An.i(a:An):I:=.tup [a.s.i,.int a.t]
noncomputable def An.ok(a:An):Prop:=a.s.ok/\Nz a.t
inductive Pl where
 | one (z:Int)|two (a b:Int)
noncomputable def Pl.i:Pl->I
 | .one z=>.int z
 | .two a b=>.tup [.int a,.int b]
noncomputable def Pl.ok(f:Nat):Pl->Prop
 | .one z=>f<2/\Nz z
 | .two a b=>f=2/\Nz a/\Nz b
noncomputable def Pl.tx:Pl->List Nat
 | .one z=>tz z
 | .two a b=>tz a++46::tz b
noncomputable def bx:Nat->List Nat
 | 0=>[99,97,108,108,115]
 | 1=>[114,111,119,115]
 | _=>[100,101,101,100,115]
noncomputable def cn:Nat->List Int
 | 0=>[0,1]
 | 1=>[0]
 | _=>[1]
noncomputable def bz(w:Nat):I:=.tup ((cn w).map I.int)
structure Qn where
 f:Nat
 p:Pl
 w:Nat
 as:List An
noncomputable def Qn.i(q:Qn):I:=.tup [.str "asked",.str (ay (bx q.f)),q.p.i,bz q.w,.tup (q.as.map An.i)]
structure Qn.ok(q:Qn):Prop where
 f:q.f<3
 p:q.p.ok q.f
 w:q.w<3
 as:q.as.length=(cn q.w).length
 an:∀a∈q.as,a.ok
structure Pt where
 k:Int
 w:Int
 ss:List Int
noncomputable def Pt.i(p:Pt):I:=.tup [.int p.k,.int p.w,.tup (p.ss.map I.int)]
noncomputable def Pt.ok(p:Pt):Prop:=Nz p.k/\Nz p.w/\p.ss.length≤6/\∀s∈p.ss,Nz s
structure Pp where
 b:Int
 ps:List Pt
 a:Int
noncomputable def Pp.i(p:Pp):I:=.tup [.int p.b,.tup (p.ps.map Pt.i),.int p.a]
noncomputable def Pp.ok(p:Pp):Prop:=Nz p.b/\Nz p.a/\p.ps.length≤6/\∀x∈p.ps,x.ok
noncomputable def fW:Option Pp->I
 | none=>.non
 | some p=>p.i
noncomputable def i5:List (List Nat):=[[115,105,108,101,110,116],[102,111,114,109],[108,97,116,101],[116,119,105,99,101],[99,111,117,110,116],[99,108,111,115,101,100],[100,101,101,100]]
noncomputable def sI(x:List Nat):I:=.str (ay x)
structure Rc where
 a:Int
 b:Int
 qs:List Qn
 w:Nat
 ws:List (List Nat)
 p:Option Pp
noncomputable def Rc.cI(r:Rc):I:=.tup [.str "claims",.int r.a,.int r.b]
noncomputable def Rc.oI(r:Rc):I:=.tup [.str "out",bz r.w,.tup (r.ws.map sI),fW r.p]
noncomputable def Rc.i(r:Rc):I:=.tup (r.cI::r.qs.map Qn.i++[r.oI])
structure Rc.ok(r:Rc):Prop where
 a:Nz r.a
 b:Nz r.b
 ql:r.qs.length≤11
 qs:∀q∈r.qs,q.ok
 w:r.w<3
 wl:r.ws.length=(cn r.w).length
 ws:∀x∈r.ws,x∈i5
 p:∀p,r.p=some p->p.ok
theorem eZ{G:List M}(D:DG G d l):∃z G',eQ [.im (.ref d)] G=some (.im (.int z),G')/\Nz z/\DG G' d l/\Oth d l G G':=by
 obtain⟨r1,G1,e1,p0,p1,D1,o1⟩:=dG (many:=5) D (by decide) (by decide)
 by_cases h:r1<3
 ·obtain⟨k,hk,k0,k1⟩:∃k,dN [I.int 3,I.int 30,I.int 400] r1=some (.int k)/\0<k/\k≤400:=by
   rcases (show r1=0∨r1=1∨r1=2 by lia) with z|z|z<;>subst z
   ·exact⟨3,at0 _ _,by decide,by decide⟩
   ·exact⟨30,g0 _ _ _,by decide,by decide⟩
   ·exact⟨400,at2 _ _ _ _,by decide,by decide⟩
  obtain⟨r2,G2,e2,q0,q1,D2,o2⟩:=dG (many:=k) D1 k0 (Int.lt_of_le_of_lt k1 (by decide))
  refine⟨r2,G2,?_,by unfold Nz;lia,D2,o1.trans o2⟩
  simp! [eQ,e1,h,hk,e2]
 ·obtain⟨r2,G2,e2,q0,q1,D2,o2⟩:=dG (many:=9) D1 (by decide) (by decide)
  obtain⟨r3,G3,e3,s0,s1,D3,o3⟩:=dG (many:=1000000000000000000) D2 (by decide) (by decide)
  obtain⟨r4,G4,e4,t0,t1,D4,o4⟩:=dG (many:=2) D3 (by decide) (by decide)
  have o:=((o1.trans o2).trans o3).trans o4
  have c1:-18446744073709551616<r4/\r4<18446744073709551616:=⟨by lia,by lia⟩
  have c2:-18446744073709551616<r4*5/\r4*5<18446744073709551616:=⟨by lia,by lia⟩
  rcases (show r1=3∨r1=4 by lia) with z|z<;>subst z
  ·exact⟨-1-r2,G4,by simp! [eQ,e1,e2,e3,e4,c1,c2,at0],by unfold Nz;lia,D4,o⟩
  ·exact⟨r3-r4*5*100000000000000000,G4,by simp! [eQ,e1,e2,e3,e4,c1,c2,g0],by unfold Nz;lia,D4,o⟩
theorem y7f{G:List M}(D:DG G d l):∃(a:An) (G':List M),lH [.im (.ref d)] G=some (.im a.i,G')/\a.ok/\DG G' d l/\Oth d l G G':=by
 obtain⟨r1,G1,e1,p0,p1,D1,o1⟩:=dG (many:=4) D (by decide) (by decide)
 obtain⟨z1,G2,e2,n2,D2,o2⟩:=eZ D1
 by_cases h:r1=0
 ·subst h
  exact⟨⟨.no,z1⟩,G2,by simp! [lH,e1,e2,An.i,Sd.i],⟨trivial,n2⟩,D2,o1.trans o2⟩
 ·obtain⟨z2,G3,e3,n3,D3,o3⟩:=eZ D2
  by_cases h1:r1=1
  ·subst h1
   obtain⟨z3,G4,e4,n4,D4,o4⟩:=eZ D3
   exact⟨⟨.pr z1 z2,z3⟩,G4,by simp! [lH,e1,e2,e3,e4,An.i,Sd.i],⟨⟨n2,n3⟩,n4⟩,D4,((o1.trans o2).trans o3).trans o4⟩
  ·have h':(r1 == 0)=false:=by simp [h]
   have h1':(r1 == 1)=false:=by simp [h1]
   exact⟨⟨.nm z1,z2⟩,G3,by simp! [lH,e1,e2,e3,h',h1',An.i,Sd.i],⟨n2,n3⟩,D3,(o1.trans o2).trans o3⟩
theorem xO{r:Int}(h0:0≤r)(h1:r<3):∃f:Nat,f<3/\dN [I.str "calls",I.str "rows",I.str "deeds"] r=some (.str (ay (bx f))):=by
 rcases (show r=0∨r=1∨r=2 by lia) with z|z|z<;>subst z
 ·exact⟨0,by decide,by rw [at0,show ("calls" : Str)=ay (bx 0) by decide +kernel]⟩
 ·exact⟨1,by decide,by rw [g0,show ("rows" : Str)=ay (bx 1) by decide +kernel]⟩
 ·exact⟨2,by decide,by rw [at2,show ("deeds" : Str)=ay (bx 2) by decide +kernel]⟩
theorem qJ{f:Nat}(h:f<3):(ay (bx f) == ("deeds" : Str))=decide (f=2):=by
 rcases (show f=0∨f=1∨f=2 by lia) with z|z|z<;>subst z<;>decide +kernel
theorem xP{r:Int}(h0:0≤r)(h1:r<4):∃w:Nat,w<3/\dN [I.tup [.int 0,.int 1],I.tup [.int 0,.int 1],I.tup [.int 0],I.tup [.int 1]] r=some (bz w):=by
 rcases (show r=0∨r=1∨r=2∨r=3 by lia) with z|z|z|z<;>subst z
 ·exact⟨0,by decide,at0 _ _⟩
 ·exact⟨0,by decide,g0 _ _ _⟩
 ·exact⟨1,by decide,at2 _ _ _ _⟩
 ·exact⟨2,by decide,at3 _ _ _ _ _⟩
theorem eM(w:Nat):(cn w).length≤2:=by unfold cn;split<;>simp
theorem y81{G:List M}{w:Nat}{Z:De}(D:DG G d l):∃(as:List An) (G':List M),fD (b9 ⇑(bz w) (cn w).length) c1 bb (bd (ag (aa 1) ae) (aJ 1 lH)) [↑(.ref d)] 0 (cn w).length [] Z G=some (as.map An.i,G')/\as.length=(cn w).length/\(∀a∈as,a.ok)/\DG G' d l/\Oth d l G G':=by
 obtain⟨ds,G',e,as,ed,la,ha,D',o⟩:=n9 (w:=b9 ⇑(bz w) (cn w).length) (c:=c1) (tt:=bb) (te:=bd (ag (aa 1) ae) (aJ 1 lH)) (di:=[↑(.ref d)]) (Z:=Z) (λi acc G'=>∃as:List An,acc=as.map An.i/\as.length=i/\(∀a∈as,a.ok)/\DG G' d l/\Oth d l G G')
  (λi acc g hi ⟨as,ea,la,ha,D',o⟩=>by
   have hi:i<(cn w).length:=hi
   obtain⟨a,g',e,ok,D2,o2⟩:=y7f D'
   refine⟨.int (cn w)[i],[.int (cn w)[i]],_,_,a.i,[↑(.int (cn w)[i]),↑(.ref d)],g',?_,rfl,rfl,ai (ai rfl rfl) (bL rfl rfl e),as++[a],by rw [ea,z29];rfl,by rw [z18,la];rfl,λx hx=>?_,D2,o.trans o2⟩
   ·show ((cn w).map I.int)[i]?=_
    rw [List.getElem?_map,z15 hi];rfl
   ·rcases z1a.mp hx with q|q
    ·exact ha x q
    ·rw [z22.mp q];exact ok)
  (λ_ _ _=>by simp [b9,bz,sq,pk]) (cn w).length 0 [] G (by simp [b9]) ⟨[],rfl,rfl,λ_ h=>(by cases h),D,Oth.refl _ _ _⟩
 exact⟨as,G',by rw [ed] at e;exact e,la,ha,D',o⟩
end
section
variable {d l:Nat}
theorem gx{xs:List I}{n:Nat}{Z:De}{G:List M}(h:xs.length=n):br [⇑(.tup xs)] Z G=some (b9 ⇑(.tup xs) n):=by subst h;simp [br,pM,zh,ke]
theorem qK{k n:Nat}{xs:List I}{Z:De}{G:List M}(h:G[k]?=some (.lst xs))(hn:xs.length=n):br [⇑(.ref k)] Z G=some (b9 ⇑(.ref k) n):=by subst hn;simp [br,pM,ke,sq,pk,h]
theorem F5{G:List M}(D:DG G d l):∃(q:Qn) (G':List M),zm [.im (.ref d)] G=some (.im q.i,G')/\q.ok/\DG G' d l/\Oth d l G G':=by
 obtain⟨r1,G1,e1,p0,p1,D1,o1⟩:=dG (many:=3) D (by decide) (by decide)
 obtain⟨f,hf,ef⟩:=xO p0 p1
 obtain⟨z1,G2,e2,n2,D2,o2⟩:=eZ D1
 have hb:=qJ hf
 obtain⟨p,G3,e3,hp,D3,o3⟩:∃(p:Pl) (G3:List M),aM (ax (ak cV (aa 1) (ah (.str "deeds")))) (bp (bd (ag (aa 2) (ag (bd (ag (aa 0) ae) (aJ 1 eQ)) ae)) bq) (bf 2)) aU [↑(.ref d),↑(.str (ay (bx f))),↑(.int z1),none] G2=some (.nx [↑(.ref d),↑(.str (ay (bx f))),↑p.i,none] G3)/\p.ok f/\DG G3 d l/\Oth d l G2 G3:=by
  by_cases h:f=2
  ·obtain⟨z2,G3,e3,n3,D3,o3⟩:=eZ D2
   rw [decide_eq_true h] at hb
   exact⟨.two z1 z2,G3,by simp! [hb,e3,Pl.i],⟨h,n2,n3⟩,D3,o3⟩
  ·rw [decide_eq_false h] at hb
   exact⟨.one z1,G2,by simp! [hb,Pl.i],⟨by lia,n2⟩,D2,Oth.refl _ _ _⟩
 obtain⟨r4,G4,e4,q0,q1,D4,o4⟩:=dG (many:=4) D3 (by decide) (by decide)
 obtain⟨w,hw,ew⟩:=xP q0 q1
 obtain⟨as,G5,e5,la,ha,D5,o5⟩:=y81 (w:=w) (Z:=[↑(.ref d),↑(.str (ay (bx f))),↑p.i,↑(bz w)]) D4
 refine⟨⟨f,p,w,as⟩,G5,?_,⟨hf,hp,hw,la,ha⟩,D5,(((o1.trans o2).trans o3).trans o4).trans o5⟩
 have hl:=eM w
 refine aZ rfl (aw (Z1:=[↑(.ref d),↑(.str (ay (bx f))),none,none]) (G1:=G1) (by simp! [e1,ef]) (aw (Z1:=[↑(.ref d),↑(.str (ay (bx f))),↑(.int z1),none]) (G1:=G2) (by simp! [e2]) (aw e3 (aw (Z1:=[↑(.ref d),↑(.str (ay (bx f))),↑p.i,↑(bz w)]) (G1:=G4) (by simp! [e4,ew]) (bw (Z1:=[↑(.ref d),↑(.str (ay (bx f))),↑p.i,↑(bz w)]) ?_)))))
 have ec:bd (ag (da (bX (one (aa 3)) br) [0] c1 bb (bd (ag (aa 1) ae) (aJ 1 lH))) ae) cf [↑(.ref d),↑(.str (ay (bx f))),↑p.i,↑(bz w)] G4=some (⇑(.tup (as.map An.i)),[↑(.ref d),↑(.str (ay (bx f))),↑p.i,↑(bz w)],G5):=by
  refine ai (ai (iX (Z0:=[↑(.ref d),↑(.str (ay (bx f))),↑p.i,↑(bz w)]) (G0:=G4) (Z1:=[↑(.ref d),↑(.str (ay (bx f))),↑p.i,↑(bz w)]) (G1:=G4) (by rfl) (cA (es:=[⇑(bz w)]) rfl (gx (z14 _))) (by show (cn w).length≤100000;lia) e5) rfl) ?_
  simp [cf,sq,pk]
 refine ai (ai rfl (ai (ai rfl (ai (ai rfl (ai (ai rfl (ai (ai ec rfl) rfl)) rfl)) rfl)) rfl)) ?_
 simp! [Qn.i]
noncomputable def jZ(d:Nat)(ps:List Pt)(v2 v3:Option Vl):De:=[↑(.ref d),↥(ps.map Pt.i),v2,v3]
theorem F6{G:List M}{n:Nat}{Z:De}(D:DG G d l):∃(ss:List Int) (G':List M),fD (nz n) c1 bb (bd (ag (aa 1) ae) (aJ 1 eQ)) [↑(.ref d)] 0 n [] Z G=some (ss.map I.int,G')/\ss.length=n/\(∀s∈ss,Nz s)/\DG G' d l/\Oth d l G G':=by
 obtain⟨ds,G',e,ss,ed,la,ha,D',o⟩:=n9 (w:=nz n) (c:=c1) (tt:=bb) (te:=bd (ag (aa 1) ae) (aJ 1 eQ)) (di:=[↑(.ref d)]) (Z:=Z) (λi acc G'=>∃ss:List Int,acc=ss.map I.int/\ss.length=i/\(∀s∈ss,Nz s)/\DG G' d l/\Oth d l G G')
  (λi acc g hi ⟨ss,ea,la,ha,D',o⟩=>by
   obtain⟨z,g',e,ok,D2,o2⟩:=eZ D'
   refine⟨.int i,[.int i],_,_,.int z,[↑(.int i),↑(.ref d)],g',rfl,rfl,rfl,ai (ai rfl rfl) (bL rfl rfl e),ss++[z],by rw [ea,z29];rfl,by rw [z18,la];rfl,λx hx=>?_,D2,o.trans o2⟩
   rcases z1a.mp hx with q|q
   ·exact ha x q
   ·rw [z22.mp q];exact ok)
  (λ_ _ _=>rfl) n 0 [] G (by simp [nz]) ⟨[],rfl,rfl,λ_ h=>(by cases h),D,Oth.refl _ _ _⟩
 exact⟨ss,G',by rw [ed] at e;exact e,la,ha,D',o⟩
theorem F7{G:List M}{ps:List Pt}{v2 v3:Option Vl}(D:DG G d l)(hl:ps.length≤100):∃(p:Pt) (v3':Option Vl) (G':List M),Fn (jZ d ps v2 v3) G=some (.nx (jZ d (ps++[p]) v2 v3') G')/\p.ok/\DG G' d l/\Oth d l G G':=by
 obtain⟨r1,G1,e1,p0,p1,D1,o1⟩:=dG (many:=7) D (by decide) (by decide)
 obtain⟨n,rfl⟩:=Int.eq_ofNat_of_zero_le p0
 obtain⟨ss,G2,e2,ls,hs,D2,o2⟩:=F6 (n:=n) (Z:=jZ d ps v2 v3) D1
 obtain⟨z1,G3,e3,n3,D3,o3⟩:=eZ D2
 obtain⟨z2,G4,e4,n4,D4,o4⟩:=eZ D3
 refine⟨⟨z1,z2,ss⟩,↑(.tup (ss.map I.int)),G4,?_,⟨n3,n4,by show ss.length≤6;lia,hs⟩,D4,((o1.trans o2).trans o3).trans o4⟩
 have ec:bd (ag (da (bX (ag (bd (ag (aa 0) (ag (ah (.int 7)) ae)) (aJ 2 eA)) ae) fZ) [0] c1 bb (bd (ag (aa 1) ae) (aJ 1 eQ))) ae) cf (jZ d ps v2 v3) G=some (⇑(.tup (ss.map I.int)),jZ d ps v2 v3,G2):=by
  refine ai (ai (iX (Z0:=jZ d ps v2 v3) (G0:=G) (Z1:=jZ d ps v2 v3) (G1:=G1) (by rfl) (qx (n:=n) (ai (ai (a:=[⇑(.ref d),⇑(.int 7)]) rfl (bL rfl rfl e1)) rfl) rfl (by lia)) (by show n≤100000;lia) e2) rfl) ?_
  simp [cf,sq,pk]
 refine aw (cy ec rfl) ?_
 have hn:(ps.map Pt.i).length<1000000:=by rw [z14];lia
 have hn':ps.length<1000000:=by lia
 simp! [jZ,e3,e4,hn,hn',Pt.i]
theorem F8{G:List M}(D:DG G d l):∃(p:Pp) (G':List M),xi [.im (.ref d)] G=some (.im p.i,G')/\p.ok/\DG G' d l/\Oth d l G G':=by
 obtain⟨r1,G1,e1,p0,p1,D1,o1⟩:=dG (many:=7) D (by decide) (by decide)
 obtain⟨n,rfl⟩:=Int.eq_ofNat_of_zero_le p0
 obtain⟨Z',G2,e2,ps,v2,v3,ed,lp,hp,D2,o2⟩:=ie (w:=nz n) (g:=bf 2) (b:=Fn) (λi Z G'=>∃(ps:List Pt) (v2 v3:Option Vl),Z=jZ d ps v2 v3/\ps.length=i/\(∀p∈ps,p.ok)/\DG G' d l/\Oth d l G1 G')
  (λi Z g hi ⟨ps,v2,v3,ed,lp,hp,D',o⟩=>by
   have hi:i<n:=hi
   subst ed
   obtain⟨p,v3',g',e,ok,D2,o2⟩:=F7 (ps:=ps) (v2:=↑(.int i)) (v3:=v3) D' (by lia)
   refine⟨.int i,_,g,_,g',rfl,rfl,e,ps++[p],_,_,rfl,by rw [z18,lp];rfl,λx hx=>?_,D2,o.trans o2⟩
   rcases z1a.mp hx with q|q
   ·exact hp x q
   ·rw [z22.mp q];exact ok)
  (λ_ _ _=>rfl) n 0 (jZ d [] none none) G1 (by simp [nz]) ⟨[],none,none,rfl,rfl,λ_ h=>(by cases h),D1,Oth.refl _ _ _⟩
 subst ed
 have lp:ps.length=n:=lp
 obtain⟨z1,G3,e3,n3,D3,o3⟩:=eZ D2
 obtain⟨z2,G4,e4,n4,D4,o4⟩:=eZ D3
 refine⟨⟨z1,ps,z2⟩,G4,?_,⟨n3,n4,by show ps.length≤6;lia,hp⟩,D4,((o1.trans o2).trans o3).trans o4⟩
 refine aZ rfl (aw (Z1:=jZ d [] none none) (G1:=G) rfl (aw (fQ (qx (n:=n) (ai (ai (a:=[⇑(.ref d),⇑(.int 7)]) rfl (bL rfl rfl e1)) rfl) rfl (by lia)) e2) (bw (Z1:=jZ d ps v2 v3) ?_)))
 have hl:ps.length≤1000000:=by lia
 simp! [jZ,e3,e4,cf,Pp.i,hl]
end
section
variable {d l:Nat}
noncomputable def ij:List I:=[.str "silent",.str "form",.str "late",.str "twice",.str "count",.str "closed",.str "deed"]
theorem xQ:ij=i5.map sI:=by
 simp only [ij,i5,sI,z19,List.map_nil]
 rw [show ("silent" : Str)=ay [115,105,108,101,110,116] by decide +kernel,show ("form" : Str)=ay [102,111,114,109] by decide +kernel,show ("late" : Str)=ay [108,97,116,101] by decide +kernel,show ("twice" : Str)=ay [116,119,105,99,101] by decide +kernel,show ("count" : Str)=ay [99,111,117,110,116] by decide +kernel,show ("closed" : Str)=ay [99,108,111,115,101,100] by decide +kernel,show ("deed" : Str)=ay [100,101,101,100] by decide +kernel]
theorem xR{r:Int}(h0:0≤r)(h1:r<3):∃w:Nat,w<3/\dN [I.tup [.int 0],I.tup [.int 1],I.tup [.int 0,.int 1]] r=some (bz w):=by
 rcases (show r=0∨r=1∨r=2 by lia) with z|z|z<;>subst z
 ·exact⟨1,by decide,at0 _ _⟩
 ·exact⟨2,by decide,g0 _ _ _⟩
 ·exact⟨0,by decide,at2 _ _ _ _⟩
theorem F9{G:List M}{w k:Nat}{Z:De}(D:DG G d l)(hk:G[k]?=some (.lst ij))(k1:k≠d)(k2:k≠l):∃(ws:List (List Nat)) (G':List M),fD (b9 ⇑(bz w) (cn w).length) c1 bb (ak aH (aa 1) (bd (ag (aa 2) (ag (ah (.int 7)) ae)) (aJ 2 eA))) [↑(.ref k),↑(.ref d)] 0 (cn w).length [] Z G=some (ws.map sI,G')/\ws.length=(cn w).length/\(∀x∈ws,x∈i5)/\DG G' d l/\Oth d l G G':=by
 obtain⟨ds,G',e,ws,ed,la,ha,D',o⟩:=n9 (w:=b9 ⇑(bz w) (cn w).length) (c:=c1) (tt:=bb) (te:=ak aH (aa 1) (bd (ag (aa 2) (ag (ah (.int 7)) ae)) (aJ 2 eA))) (di:=[↑(.ref k),↑(.ref d)]) (Z:=Z) (λi acc G'=>∃ws:List (List Nat),acc=ws.map sI/\ws.length=i/\(∀x∈ws,x∈i5)/\DG G' d l/\Oth d l G G')
  (λi acc g hi ⟨ws,ea,la,ha,D',o⟩=>by
   have hi:i<(cn w).length:=hi
   obtain⟨r,g',e,p0,p1,D2,o2⟩:=dG (many:=7) D' (by decide) (by decide)
   obtain⟨j,rfl⟩:=Int.eq_ofNat_of_zero_le p0
   have hj:j<i5.length:=by show j<7;lia
   obtain⟨x,hxx,hm⟩:∃x,i5[j]?=some x/\x∈i5:=⟨i5[j],z15 hj,z2e hj⟩
   have hx':dN ij (j:Int)=some (sI x):=by rw [xQ];exact nR (by rw [List.getElem?_map,hxx];rfl)
   have hk':g'[k]?=some (.lst ij):=by rw [(o.trans o2).at_ k k1 k2];exact hk
   refine⟨.int (cn w)[i],[.int (cn w)[i]],_,_,sI x,[↑(.int (cn w)[i]),↑(.ref k),↑(.ref d)],g',?_,rfl,rfl,aO rfl (ai (a:=[⇑(.ref d),⇑(.int 7)]) rfl (bL rfl rfl e)) ?_,ws++[x],by rw [ea,z29];rfl,by rw [z18,la];rfl,λy hy=>?_,D2,o.trans o2⟩
   ·show ((cn w).map I.int)[i]?=_
    rw [List.getElem?_map,z15 hi];rfl
   ·simp! [hk',hx']
   ·rcases z1a.mp hy with q|q
    ·exact ha y q
    ·rw [z22.mp q];exact hm)
  (λ_ _ _=>by simp [b9,bz,sq,pk]) (cn w).length 0 [] G (by simp [b9]) ⟨[],rfl,rfl,λ_ h=>(by cases h),D,Oth.refl _ _ _⟩
 exact⟨ws,G',by rw [ed] at e;exact e,la,ha,D',o⟩
noncomputable def fR(d:Nat)(c:I)(qs:List Qn)(v1 v3 v4 v5 v6:Option Vl):De:=[↑(.ref d),v1,↥(c::qs.map Qn.i),v3,v4,v5,v6]
theorem xS{G:List M}(D:DG G d l):∃(r:Rc) (G':List M),ny [.im (.ref d)] G=some (.im r.i,G')/\r.ok/\DG G' d l/\Mor d l G G':=by
 obtain⟨z1,G1,e1,n1,D1,o1⟩:=eZ D
 obtain⟨z2,G2,e2,n2,D2,o2⟩:=eZ D1
 obtain⟨r3,G3,e3,p0,p1,D3,o3⟩:=dG (many:=2) D2 (by decide) (by decide)
 obtain⟨k,hk,k0,k1⟩:∃k,dN [I.int 4,I.int 12] r3=some (.int k)/\0<k/\k≤12:=by
  rcases (show r3=0∨r3=1 by lia) with z|z<;>subst z
  ·exact⟨4,at0 _ _,by decide,by decide⟩
  ·exact⟨12,g0 _ _ _,by decide,by decide⟩
 obtain⟨r4,G4,e4,q0,q1,D4,o4⟩:=dG (many:=k) D3 k0 (Int.lt_of_le_of_lt k1 (by decide))
 obtain⟨n,rfl⟩:=Int.eq_ofNat_of_zero_le q0
 let c:I:=.tup [.str "claims",.int z1,.int z2]
 obtain⟨Z',G5,e5,qs,v3,ed,lq,hq,D5,o5⟩:=ie (w:=nz n) (g:=bf 3) (b:=y29) (λi Z G'=>∃(qs:List Qn) (v3:Option Vl),Z=fR d c qs ↥ij v3 none none none/\qs.length=i/\(∀q∈qs,q.ok)/\DG G' d l/\Oth d l G4 G')
  (λi Z g hi ⟨qs,v3,ed,lq,hq,D',o⟩=>by
   have hi:i<n:=hi
   subst ed
   obtain⟨q,g',e,ok,D2,o2⟩:=F5 D'
   refine⟨.int i,fR d c qs ↥ij ↑(.int i) none none none,g,fR d c (qs++[q]) ↥ij ↑(.int i) none none none,g',rfl,rfl,?_,qs++[q],_,rfl,by rw [z18,lq];rfl,λx hx=>?_,D2,o.trans o2⟩
   ·have hn:(qs.map Qn.i).length+1<1000000:=by rw [z14];lia
    have hn':qs.length+1<1000000:=by lia
    refine dh (e:=⇑.non) (ic (e:=.s 2) rfl rfl (ai (ai (ai rfl rfl) (bL rfl rfl e)) rfl) ?_)
    simp [fR,dU,pk,dz,fV,gZ,de,hn,hn']
   ·rcases z1a.mp hx with q|q
    ·exact hq x q
    ·rw [z22.mp q];exact ok)
  (λ_ _ _=>rfl) n 0 (fR d c [] ↥ij none none none none) G4 (by simp [nz]) ⟨[],none,rfl,rfl,λ_ h=>(by cases h),D4,Oth.refl _ _ _⟩
 subst ed
 have lq:qs.length=n:=lq
 obtain⟨r6,G6,e6,t0,t1,D6,o6⟩:=dG (many:=3) D5 (by decide) (by decide)
 obtain⟨w,hw,ew⟩:=xR t0 t1
 have lt:=D6.lt
 obtain⟨ws,G7,e7,lw,hws,D7,o7⟩:=F9 (w:=w) (k:=G6.length) (Z:=fR d c qs ↑(.ref G6.length) v3 ↑(bz w) none none) (D6.app [M.lst ij]) (by simp) (by lia) (by lia)
 obtain⟨r8,G8,e8,u0,u1,D8,o8⟩:=dG (many:=2) D7 (by decide) (by decide)
 have m6:Mor d l G G6:=((((o1.trans o2).trans o3).trans o4).trans (o5.trans o6)).mor
 have m8:Mor d l G G8:=(m6.trans (Mor.app [M.lst ij])).trans (o7.trans o8).mor
 obtain⟨p,G9,e9,hp,D9,m9⟩:∃(p:Option Pp) (G9:List M),aM (ax (ak cV (bd (ag (aa 0) (ag (ah (.int 2)) ae)) (aJ 2 eA)) (ah (.int 0)))) (bp (bd (ag (aa 0) ae) (aJ 1 xi)) (bf 6)) aU (fR d c qs ↑(.ref G6.length) v3 ↑(bz w) ↑(.tup (ws.map sI)) ↑.non) G7=some (.nx (fR d c qs ↑(.ref G6.length) v3 ↑(bz w) ↑(.tup (ws.map sI)) ↑(fW p)) G9)/\(∀x,p=some x->x.ok)/\DG G9 d l/\Mor d l G8 G9:=by
  by_cases h:r8=0
  ·subst h
   obtain⟨p,G9,e9,ok,D9,o9⟩:=F8 D8
   exact⟨some p,G9,by simp! [fR,e8,e9,fW],λx hx=>by cases hx;exact ok,D9,o9.mor⟩
  ·have h':(r8 == 0)=false:=by simp [h]
   exact⟨none,G8,by simp! [fR,e8,h',fW],λx hx=>(by cases hx),D8,Mor.refl _ _ _⟩
 refine⟨⟨z1,z2,qs,w,ws,p⟩,G9,?_,⟨n1,n2,by show qs.length≤11;lia,hq,hw,lw,hws,hp⟩,D9,m8.trans m9⟩
 have hl:=eM w
 refine aZ rfl (aw (Z1:=[↑(.ref d),↥ij,none,none,none,none,none]) (G1:=G) rfl (aw (Z1:=fR d c [] ↥ij none none none none) (G1:=G2) (by simp! [fR,c,e1,e2]) (aw (fQ (qx (n:=n) (Z1:=fR d c [] ↥ij none none none none) (G1:=G4) (by simp! [fR,c,e3,e4,hk]) rfl (by lia)) e5) (aw (Z1:=fR d c qs ↥ij v3 ↑(bz w) none none) (G1:=G6) (by simp! [fR,e6,ew]) (aw (Z1:=fR d c qs ↑(.ref G6.length) v3 ↑(bz w) ↑(.tup (ws.map sI)) none) (G1:=G7) (cy (x:=.im (.tup (ws.map sI))) (Z1:=fR d c qs ↑(.ref G6.length) v3 ↑(bz w) none none) (G1:=G7) ?_ rfl) (aw (Z1:=fR d c qs ↑(.ref G6.length) v3 ↑(bz w) ↑(.tup (ws.map sI)) ↑.non) (G1:=G7) rfl (aw e9 (bw (Z1:=fR d c qs ↑(.ref G6.length) v3 ↑(bz w) ↑(.tup (ws.map sI)) ↑(fW p)) ?_))))))))
 ·refine ai (ai (iX (Z0:=fR d c qs ↑(.ref G6.length) v3 ↑(bz w) none none) (G0:=G6++[M.lst ij]) (Z1:=fR d c qs ↑(.ref G6.length) v3 ↑(bz w) none none) (G1:=G6++[M.lst ij]) (by rfl) (cA (es:=[⇑(bz w)]) rfl (gx (z14 _))) (by show (cn w).length≤100000;lia) e7) rfl) ?_
  simp [cf,sq,pk]
 ·have h1:qs.length+1≤1000000:=by lia
  have h2:qs.length+1+1≤1000000:=by lia
  simp! [fR,c,cf,mL,nZ,h1,h2,Rc.i,Rc.cI,Rc.oI]
end
section
theorem ff(c:Nat):∀ps:List (List Nat),jz [c] ps=jn c ps
 | []=>rfl
 | [p]=>rfl
 | p::q::r=>by rw [qG [c] p (by simp),iZ c p (by simp),ff c (q::r)];simp
theorem fg{z:List Nat}{ps:List (List Nat)}{Z:De}{G:List M}(h:(ps.map (·.length)).sum+ps.length*z.length≤1000000):bR [⇑(.str (ay z)),.v (.ow (.lst (ps.map sI)))] Z G=some (⇑(.str (ay (jz z ps))),Z,G):=by
 have e:fN (ps.map sI)=some (ps.map ay):=by
  have:ps.map sI=(ps.map ay).map I.str:=by rw [z2f];rfl
  rw [this,qg]
 have hz:(((ps.map ay)).map (·.length)).sum+(ps.map ay).length*(ay z).length≤1000000:=by
  rw [z2f,z14,cP]
  have:((λx:Str=>x.length) ∘ ay)=λp:List Nat=>p.length:=by funext p;exact cP p
  rw [this];exact h
 unfold bR
 dsimp only [pk]
 rw [e]
 dsimp only
 rw [if_pos hz,FX]
theorem i6{z:Str}{i:Nat}{m:M}{Z:De}{G:List M}(h:pk Z G (.s i)=some m):bR [⇑(.str z),.s i] Z G=bR [⇑(.str z),.v (.ow m)] Z G:=by
 unfold bR
 dsimp only
 rw [h]
 rfl
theorem xT{w:Wk}{g:GF}{b:SF}{i r:Nat}{Z Z1 Z2:De}{G G1 G2:List M}{d:I}(h1:w.at_ i Z G=some d)(h2:g (.im d) Z G=some (Z1,G1))(h3:b Z1 G1=some (.nx Z2 G2)):bP w g b i (r+1) Z G=bP w g b (i+1) r Z2 G2:=by
 rw [bP,h1];dsimp only;rw [h2];dsimp only;rw [h3]
theorem cw{α:Type}{xs:List α}{fi fo:α->I}{te:Mo Ev}{e:Ev}{Z:De}{G:List M}(hs:sq Z G e=some (xs.map fi))(h:∀x∈xs,te [↑(fi x)] G=some (⇑(fo x),[↑(fi x)],G)):fD (b9 e xs.length) c1 bb te [] 0 xs.length [] Z G=some (xs.map fo,G):=by
 obtain⟨ds,G',e2,ed,eg⟩:=n9 (w:=b9 e xs.length) (c:=c1) (tt:=bb) (te:=te) (di:=[]) (Z:=Z) (λi acc G'=>acc=(xs.take i).map fo/\G'=G)
  (λi acc g hi ⟨ea,eg⟩=>by
   have hi:i<xs.length:=hi
   subst eg
   refine⟨fi xs[i],[fi xs[i]],_,_,fo xs[i],[↑(fi xs[i])],g,?_,rfl,rfl,h _ (z2e hi),?_,rfl⟩
   ·simp [b9,hs,hi]
   ·rw [ea,List.take_add_one,z15 hi,z29];rfl)
  (λacc g ⟨_,eg⟩=>by subst eg;simp [b9,hs]) xs.length 0 [] G (by simp [b9]) ⟨rfl,rfl⟩
 have ed:ds=(xs.take xs.length).map fo:=ed
 rw [ed,eg,List.take_length] at e2
 exact e2
noncomputable def ik:List Nat:=[99,108,97,105,109,115]
noncomputable def eB:List Nat:=[98,121]
noncomputable def cH:List Nat:=[111,117,116]
noncomputable def dj:List Nat:=[112,97,112,101,114]
noncomputable def il:List Nat:=[116,111]
noncomputable def fj:List Nat:=[108,101,97,102]
noncomputable def g8:Nat->List (List Nat)
 | 0=>[]
 | 1=>[eB,[48]]
 | _=>[eB,[49]]
noncomputable def An.W(a:An):List (List Nat):=[a.s.tx,tz a.t]
noncomputable def ip:List An->List (List Nat)
 | [a]=>[58]::a.W
 | [a,b]=>[58]::a.W++[124]::b.W
 | _=>[]
noncomputable def Qn.W(q:Qn):List (List Nat):=bx q.f::q.p.tx::g8 q.w++ip q.as
noncomputable def oW:List Int->List (List Nat)->List (List Nat)
 | k::ks,x::xs=>tz k::x::oW ks xs
 | _,_=>[]
noncomputable def Pp.W(p:Pp):List (List Nat):=[dj,tz p.b,il,tz p.a]
noncomputable def Pt.W(p:Pt):List (List Nat):=fj::tz p.k::tz p.w::eB::p.ss.map tz
noncomputable def Rc.W0(r:Rc):List (List Nat):=[ik,tz r.a,tz r.b]
noncomputable def Rc.Wo(r:Rc):List (List Nat):=cH::oW (cn r.w) r.ws
noncomputable def je:Option Pp->List (List (List Nat))
 | none=>[]
 | some p=>p.W::p.ps.map Pt.W
noncomputable def Rc.rows(r:Rc):List (List (List Nat)):=r.W0::r.qs.map Qn.W++r.Wo::je r.p
noncomputable def rI(w:List (List Nat)):I:=sI (jn 32 w)
theorem qL{z:Int}(h:Nz z):z.natAbs.log2<1920:=by
 have:=h.abs
 by_cases h0:z.natAbs=0
 ·rw [h0];decide
 ·exact z1e ((Nat.log2_lt h0).mpr (Nat.lt_trans this (by decide:10 ^ 18<2 ^ 60))) (by decide)
theorem dZ{z:Int}{Z:De}{G:List M}(h:Nz z):b7 [⇑(.int z)] Z G=some (⇑(sI (tz z)),Z,G):=by
 unfold b7
 dsimp only
 rw [if_pos (qL h),xK]
 rfl
theorem Sd.len{s:Sd}(h:s.ok):s.tx.length≤39:=by
 cases s with
 | no=>decide
 | nm z=>have:=bH h;show (tz z).length≤39;lia
 | pr a b =>
  have h1:=bH h.1
  have h2:=bH h.2
  show (tz a++44::tz b).length≤39
  simp;lia
theorem Gd{s:Sd}{G:List M}(h:s.ok):xj [.im s.i] G=some (.im (sI s.tx),G):=by
 cases s with
 | no =>
  have:("none" : Str)=ay [110,111,110,101]:=by decide +kernel
  simp! [xj,Sd.i,Sd.tx,sI,this]
 | nm z =>
  refine aZ rfl (aw (Z1:=[↑(.int z)]) (G1:=G) (by simp! [Sd.i]) (aw (Z1:=[↑(.int z)]) (G1:=G) (by simp! [bJ,jc,dD]) (bw (Z1:=[↑(.int z)]) (ai (ai rfl rfl) (dZ h)))))
 | pr a b =>
  have l1:=bH h.1
  have l2:=bH h.2
  let Z:De:=[↑(.tup [.int a,.int b])]
  refine aZ rfl (aw (Z1:=Z) (G1:=G) (by simp! [Sd.i,Z]) (ib (df (Z1:=Z) (G1:=G) (by simp! [bJ,jc,dD,Z]) (bw (Z1:=Z) ?_))))
  have i1:ak aH (aa 0) (ah (.int 0)) Z G=some (⇑(.int a),Z,G):=by simp! [Z,at0]
  have i2:ak aH (aa 0) (ah (.int 1)) Z G=some (⇑(.int b),Z,G):=by simp! [Z,g0]
  have e:(Sd.pr a b).tx=(tz a++[44])++tz b:=by simp [Sd.tx]
  rw [e]
  refine aO (aO (ai (ai i1 rfl) (dZ h.1)) rfl ?_) (ai (ai i2 rfl) (dZ h.2)) (i4 (by simp;lia))
  rw [show ("," : Str)=ay [44] by decide +kernel]
  exact i4 (by simp;lia)
end
section
theorem Gf{p:Pl}{f:Nat}{Z:De}{G:List M}(h:p.ok f):∃x:List Nat,du [⇑p.i] Z G=some (⇑(sI x),Z,G)/\∀z,p=.one z->x=p.tx:=by
 cases p with
 | one z=>exact⟨tz z,dZ h.2,λ_ _=>rfl⟩
 | two a b =>
  have l1:=bH h.2.1
  have l2:=bH h.2.2
  have hr:m5 (.tuple [.int a,.int b])=true:=by
   have h3:=tupleText_len_le (PyData.shownAll [.int a,.int b])
   have h4:((PyData.shownAll [.int a,.int b]).map (·.length)).sum≤38:=by
    simp only [PyData.shownAll,PyData.shown,xK,z19,List.map_nil,cP,List.sum_cons,List.sum_nil]
    lia
   unfold m5
   simp only [PyData.showable,PyData.showableAll,PyData.depth,PyData.depthAll,qL h.2.1,qL h.2.2,decide_true,Bool.and_self,Bool.true_and,z24,decide_eq_true_eq]
   refine⟨by simp,?_⟩
   simp only [PyData.shown]
   have:(PyData.shownAll [.int a,.int b]).length=2:=rfl
   lia
  refine⟨(PyData.shown (.tuple [.int a,.int b])).cps.toList,?_,λz e=>by cases e⟩
  show kX [⇑(.tup [.int a,.int b])] Z G=_
  unfold kX
  have e:fO [.int a,.int b]=some [.int a,.int b]:=by simp [fO,jM]
  dsimp only
  rw [e]
  dsimp only
  rw [if_pos hr,sI,qB]
noncomputable def aD(q:Qn)(ws:List (List Nat))(v6 v7:Option Vl):De:=[↑q.i,↑(sI (bx q.f)),↑q.p.i,↑(bz q.w),↑(.tup (q.as.map An.i)),↥(ws.map sI),v6,v7]
theorem xU{q:Qn}{ws ys:List (List Nat)}{v6 v7:Option Vl}{G:List M}{fs:Mo (List Ev)}(h:ws.length+ys.length≤1000)(hf:fs (aD q ws v6 v7) G=some ([.v (.ow (.lst (ys.map sI)))],aD q ws v6 v7,G)):bF (dr bW (aa 5) fs) (aD q ws v6 v7) G=some (.nx (aD q (ws++ys) v6 v7) G):=by
 refine dh (e:=⇑.non) (ic (e:=.s 5) rfl rfl hf ?_)
 have h':(ws.map sI).length+(ys.map sI).length≤1000000:=by simp;lia
 have h'':ws.length+ys.length≤1000000:=by lia
 simp [aD,bW,bW.y2a6,pk,dz,sq,h',h'']
theorem Gg{q:Qn}{ws:List (List Nat)}{c:Nat}{a:An}{G:List M}(ha:a.ok)(hl:ws.length≤100):Fo (aD q ws ↑(sI [c]) ↑a.i) G=some (.nx (aD q (ws++[c]::a.W) ↑(sI [c]) ↑a.i) G):=by
 have e:=Gd (G:=G) ha.1
 refine xU (ys:=[c]::a.W) (by simp [An.W];lia) ?_
 have i1:ak aH (aa 7) (ah (.int 0)) (aD q ws ↑(sI [c]) ↑a.i) G=some (⇑a.s.i,aD q ws ↑(sI [c]) ↑a.i,G):=by simp! [aD,An.i,at0]
 have i2:ak aH (aa 7) (ah (.int 1)) (aD q ws ↑(sI [c]) ↑a.i) G=some (⇑(.int a.t),aD q ws ↑(sI [c]) ↑a.i,G):=by simp! [aD,An.i,g0]
 refine ai (ai (a:=[⇑(sI [c]),⇑(sI a.s.tx),⇑(sI (tz a.t))]) (Z1:=aD q ws ↑(sI [c]) ↑a.i) (G1:=G) (ai rfl (ai (ai (ai (ai i1 rfl) (bL rfl rfl e)) (ai (ai (ai (ai i2 rfl) (dZ ha.2)) rfl) rfl)) rfl)) ?_) rfl
 simp [aT,fV,gZ,An.W]
theorem lg{xs ys:List I}{g:GF}{b:SF}{i r:Nat}{Z Z1 Z2:De}{G G1 G2:List M}{x y:I}(h1:xs[i]?=some x)(h1':ys[i]?=some y)(h2:g (.im (.tup [x,y])) Z G=some (Z1,G1))(h3:b Z1 G1=some (.nx Z2 G2)):bP (fz xs ys) g b i (r+1) Z G=bP (fz xs ys) g b (i+1) r Z2 G2 :=
 xT (d:=.tup [x,y]) (by simp [fz,h1,h1']) h2 h3
noncomputable def rT:List I:=[sI [58],sI [124]]
theorem xV:(":|" : Str).cps.toList.map (λc=>I.str ⟨#[c]⟩)=rT:=by
 have:(":|" : Str).cps.toList=[58,124]:=by decide +kernel
 rw [this];rfl
theorem y8c{q:Qn}{ws:List (List Nat)}{G:List M}(h:q.ok)(hl:ws.length≤10):∃v6 v7,bP (fz rT (q.as.map An.i)) (cj [6,7]) Fo 0 (fz rT (q.as.map An.i)).n (aD q ws none none) G=some (.nx (aD q (ws++ip q.as) v6 v7) G):=by
 have hl2:=h.as
 have hw:=eM q.w
 have ha:=h.an
 generalize hq:q.as=as at *
 have e0:∀ws v6 v7,aD q ws v6 v7=aD q ws v6 v7:=λ_ _ _=>rfl
 match as,hq with
 | [],hq=>exact absurd hl2 (by have:=h.w;unfold cn;split<;>simp)
 | [a],hq =>
  refine⟨↑(sI [58]),↑a.i,?_⟩
  show bP (fz rT [a.i]) _ _ 0 1 _ G=_
  rw [lg (x:=sI [58]) (y:=a.i) (Z1:=aD q ws ↑(sI [58]) ↑a.i) (G1:=G) rfl rfl rfl (Gg (ha a (by simp)) (by lia))]
  rfl
 | [a,b],hq =>
  refine⟨↑(sI [124]),↑b.i,?_⟩
  show bP (fz rT [a.i,b.i]) _ _ 0 2 _ G=_
  rw [lg (x:=sI [58]) (y:=a.i) (Z1:=aD q ws ↑(sI [58]) ↑a.i) (G1:=G) rfl rfl rfl (Gg (ha a (by simp)) (by lia)),lg (x:=sI [124]) (y:=b.i) (Z1:=aD q (ws++[58]::a.W) ↑(sI [124]) ↑b.i) (G1:=G) rfl rfl rfl (Gg (ha b (by simp)) (by simp [An.W];lia))]
  rw [show ws++ip [a,b]=ws++[58]::a.W++[124]::b.W by simp [ip]]
  rfl
 | a::b::c::r,hq=>simp at hl2;lia
end
section
theorem Gh{fo fi fv:Mo Ev}{v o i:Ev}{Z Z1 Z2 Z3 Z4:De}{G G1 G2 G3 G4:List M}(h1:fv Z G=some (v,Z1,G1))(h2:fo Z1 G1=some (o,Z2,G2))(h3:fi Z2 G2=some (i,Z3,G3))(k:de [v,o,i] Z3 G3=some (Z4,G4)):fM fo fi fv Z G=some (.nx Z4 G4):=by
 unfold fM bd rt
 rw [h1];dsimp only;rw [h2];dsimp only;rw [h3];dsimp only;rw [k]
theorem qM{z:Int}{Z:De}{G:List M}(h:Nz z):du [⇑(.int z)] Z G=some (⇑(sI (tz z)),Z,G):=dZ h
theorem nF:("by" : Str)=ay eB:=by decide +kernel
theorem fS:(" " : Str)=ay [32]:=by decide +kernel
theorem Pl.len{p:Pl}{f:Nat}(h:p.ok f):p.tx.length≤39:=by
 cases p with
 | one z=>have:=bH h.2;show (tz z).length≤39;lia
 | two a b =>
  have h1:=bH h.2.1
  have h2:=bH h.2.2
  show (tz a++46::tz b).length≤39
  simp;lia
theorem xW(f:Nat):(bx f).length≤5:=by unfold bx;split<;>decide
theorem qN(w:Nat):(g8 w).length≤2/\∀x∈g8 w,x.length≤2:=by
 unfold g8
 split
 ·exact⟨by decide,λx h=>by cases h⟩
 ·exact⟨by decide,λx h=>by simp [eB] at h;rcases h with e|e<;>subst e<;>decide⟩
 ·exact⟨by decide,λx h=>by simp [eB] at h;rcases h with e|e<;>subst e<;>decide⟩
theorem An.y61{a:An}(h:a.ok):∀x∈a.W,x.length≤39:=λx hx=>by
 have h1:=Sd.len h.1
 have h2:=bH h.2
 simp only [An.W,zb,List.not_mem_nil,or_false] at hx
 rcases hx with e|e<;>subst e<;>lia
theorem y79{as:List An}(h:∀a∈as,a.ok)(hl:as.length≤2):(ip as).length≤6/\∀x∈ip as,x.length≤39:=by
 match as with
 | []=>exact⟨by decide,λx h=>by cases h⟩
 | [a] =>
  refine⟨by simp [ip,An.W],λx hx=>?_⟩
  rcases zb.mp hx with e|e
  ·subst e;decide
  ·exact An.y61 (h a (by simp)) x e
 | [a,b] =>
  refine⟨by simp [ip,An.W],λx hx=>?_⟩
  rcases z1a.mp hx with hx|hx
  ·rcases zb.mp hx with e|e
   ·subst e;decide
   ·exact An.y61 (h a (by simp)) x e
  ·rcases zb.mp hx with e|e
   ·subst e;decide
   ·exact An.y61 (h b (by simp)) x e
 | a::b::c::r=>simp at hl
theorem eN{ws:List (List Nat)}{m:Nat}(h:∀x∈ws,x.length≤m):(ws.map (·.length)).sum≤ws.length*m:=by
 induction ws with
 | nil=>simp
 | cons x r ih =>
  have h1:=h x List.mem_cons_self
  have h2:=ih λy hy=>h y (z1d _ hy)
  rw [z19,List.sum_cons,z20,Nat.add_mul]
  lia
theorem lh(c:Nat):∀ws:List (List Nat),(jn c ws).length≤(ws.map (·.length)).sum+ws.length
 | []=>by simp [jn]
 | [p]=>by simp [jn]
 | p::q::r=>by
  rw [iZ c p (by simp),z18,z20,z19,List.sum_cons,z20]
  have:=lh c (q::r)
  lia
theorem Qn.y62{q:Qn}(h:q.ok):q.W.length≤10/\∀x∈q.W,x.length≤39:=by
 have hw:=eM q.w
 obtain⟨a1,a2⟩:=y79 h.an (by rw [h.as];exact hw)
 obtain⟨b1,b2⟩:=qN q.w
 refine⟨by simp [Qn.W];lia,λx hx=>?_⟩
 rcases z1a.mp hx with hx|hx
 ·rcases zb.mp hx with e|hx
  ·subst e;have:=xW q.f;lia
  ·rcases zb.mp hx with e|hx
   ·subst e;exact Pl.len h.p
   ·have:=b2 x hx;lia
 ·exact a2 x hx
theorem Gi(a b c d e:I):fK [a,b,c,d,e] (some 1) none=[b,c,d,e]:=by
 have:=yeb (xs:=[a,b,c,d,e]) (m:=1) (by simp)
 exact this
theorem y8e{q:Qn}{G:List M}(h:q.ok):rO [.im q.i] G=some (.im (rI q.W),G):=by
 have hw:=eM q.w
 obtain⟨x,e2,hx⟩:=Gf (Z:=[↑q.i,↑(sI (bx q.f)),↑q.p.i,↑(bz q.w),↑(.tup (q.as.map An.i)),none,none,none]) (G:=G) h.p
 have s2:aM (bd (bd (ag (aa 2) (ag (ah (.ty "tuple")) ae)) bJ) bS) (fM (aa 5) (ah (.int 1)) (ak ck (ak ck (bd (ag (ak aH (aa 2) (ah (.int 0))) ae) du) (ah (.str "."))) (bd (ag (ak aH (aa 2) (ah (.int 1))) ae) du))) aU (aD q [bx q.f,x] none none) G=some (.nx (aD q [bx q.f,q.p.tx] none none) G):=by
  have hp:=h.p
  generalize hq:q.p=p at *
  cases p with
  | one z =>
   rw [hx z rfl]
   refine bG (Z1:=aD q [bx q.f,(Pl.one z).tx] none none) (G1:=G) ?_ rfl
   simp! [aD,hq,Pl.i,bJ,jc,dD]
  | two a b =>
   have l1:=bH hp.2.1
   have l2:=bH hp.2.2
   refine df (Z1:=aD q [bx q.f,x] none none) (G1:=G) (by simp! [aD,hq,Pl.i,bJ,jc,dD]) ?_
   have i1:ak aH (aa 2) (ah (.int 0)) (aD q [bx q.f,x] none none) G=some (⇑(.int a),aD q [bx q.f,x] none none,G):=by simp! [aD,hq,Pl.i,at0]
   have i2:ak aH (aa 2) (ah (.int 1)) (aD q [bx q.f,x] none none) G=some (⇑(.int b),aD q [bx q.f,x] none none,G):=by simp! [aD,hq,Pl.i,g0]
   have e:ak ck (ak ck (bd (ag (ak aH (aa 2) (ah (.int 0))) ae) du) (ah (.str "."))) (bd (ag (ak aH (aa 2) (ah (.int 1))) ae) du) (aD q [bx q.f,x] none none) G=some (⇑(sI (Pl.two a b).tx),aD q [bx q.f,x] none none,G):=by
    rw [show (Pl.two a b).tx=(tz a++[46])++tz b by simp [Pl.tx]]
    refine aO (aO (ai (ai i1 rfl) (qM hp.2.1)) rfl ?_) (ai (ai i2 rfl) (qM hp.2.2)) (i4 (by simp;lia))
    rw [show ("." : Str)=ay [46] by decide +kernel]
    exact i4 (by simp;lia)
   refine Gh e rfl rfl ?_
   have hi:kd 2 1=some 1:=by decide
   simp [aD,de,pk,dz,hi]
 obtain⟨ws3,e3,hws⟩:∃ws3,aM (ax (ak cV (bd (ag (aa 3) ae) bD) (ah (.int 1)))) (bF (dr bW (aa 5) (ag (bd (ag (ah (.str "by")) (ag (bd (ag (ak aH (aa 3) (ah (.int 0))) ae) du) ae)) aT) ae))) aU (aD q [bx q.f,q.p.tx] none none) G=some (.nx (aD q ws3 none none) G)/\ws3=bx q.f::q.p.tx::g8 q.w:=by
  have hwh:=h.w
  have key:∀k:Int,Nz k->cn q.w=[k]->g8 q.w=[eB,tz k]->aM (ax (ak cV (bd (ag (aa 3) ae) bD) (ah (.int 1)))) (bF (dr bW (aa 5) (ag (bd (ag (ah (.str "by")) (ag (bd (ag (ak aH (aa 3) (ah (.int 0))) ae) du) ae)) aT) ae))) aU (aD q [bx q.f,q.p.tx] none none) G=some (.nx (aD q (bx q.f::q.p.tx::g8 q.w) none none) G):=λk hk e1 e2=>by
   rw [e2]
   refine df (Z1:=aD q [bx q.f,q.p.tx] none none) (G1:=G) (by simp! [aD,bz,e1]) (xU (ws:=[bx q.f,q.p.tx]) (ys:=[eB,tz k]) (by simp) ?_)
   have i1:ak aH (aa 3) (ah (.int 0)) (aD q [bx q.f,q.p.tx] none none) G=some (⇑(.int k),aD q [bx q.f,q.p.tx] none none,G):=by simp! [aD,bz,e1,at0]
   refine ai (ai (a:=[⇑(sI eB),⇑(sI (tz k))]) (Z1:=aD q [bx q.f,q.p.tx] none none) (G1:=G) (ai (a:=⇑(sI eB)) (by rw [nF];rfl) (ai (ai (ai (ai i1 rfl) (qM hk)) rfl) rfl)) ?_) rfl
   simp [aT,fV,gZ]
  rcases (show q.w=0∨q.w=1∨q.w=2 by lia) with z|z|z
  ·refine⟨_,?_,rfl⟩
   rw [z]
   refine bG (Z1:=aD q [bx q.f,q.p.tx] none none) (G1:=G) (by simp! [aD,bz,z,cn]) rfl
  ·exact⟨_,key 0 (by unfold Nz;decide) (by rw [z];rfl) (by rw [z];decide),rfl⟩
  ·exact⟨_,key 1 (by unfold Nz;decide) (by rw [z];rfl) (by rw [z];decide),rfl⟩
 obtain⟨b1,_⟩:=qN q.w
 obtain⟨v6,v7,e4⟩:=y8c (ws:=ws3) (G:=G) h (by rw [hws];simp;lia)
 have e5:ws3++ip q.as=q.W:=by rw [hws];rfl
 rw [e5] at e4
 obtain⟨c1,c2⟩:=Qn.y62 h
 have c3:=eN c2
 refine aZ rfl (aw (Z1:=[↑q.i,↑(sI (bx q.f)),↑q.p.i,↑(bz q.w),↑(.tup (q.as.map An.i)),none,none,none]) (G1:=G) ?_ (aw (Z1:=aD q [bx q.f,x] none none) (G1:=G) (cy (x:=.ow (.lst ([bx q.f,x].map sI))) (ai (ai rfl (ai (ai (ai rfl e2) rfl) rfl)) rfl) rfl) (aw s2 (aw e3 (aw (fQ (cA (es:=[⇑(.str ":|"),⇑(.tup (q.as.map An.i))]) (Z1:=aD q ws3 none none) (G1:=G) (w:=fz rT (q.as.map An.i)) rfl ?_) e4) (bw (Z1:=aD q q.W v6 v7) ?_))))))
 ·refine cy (x:=.im (.tup [sI (bx q.f),q.p.i,bz q.w,.tup (q.as.map An.i)])) (Z1:=[↑q.i,none,none,none,none,none,none,none]) (G1:=G) ?_ rfl
  simp! [bT,ba,cM,jH,dS,Qn.i,Gi,sI]
 ·show gv _ _ _=_
  unfold gv
  simp [nr,xV]
 ·refine ig (e:=⇑(.str " ")) rfl rfl (es:=[.s 5]) rfl ?_
  rw [fS,i6 (m:=.lst (q.W.map sI)) rfl,fg (by simp;lia),ff]
  rfl
end
section
theorem y92(ps:List I)(x:I):dN (ps++[x]) (-1)=some x:=by
 have h1:(1:Int)≤(ps.length:Int)+1:=by lia
 have e:(-1+((ps.length:Int)+1)).toNat=ps.length:=by lia
 unfold dN kd
 simp [h1,e]
theorem yec(c o:I)(xs:List I):fK (c::xs++[o]) (some 1) (some (-1))=xs:=by
 have hn:(c::xs++[o]).length=xs.length+2:=by simp
 have e1:HT.sIx (xs.length+2) 0 (some 1)=1:=(HT.y411 _ _ 1).trans (by lia)
 have e2:HT.sIx (xs.length+2) (xs.length+2) (some (-1))=xs.length+1:=by
  show (if (-1:Int)<0 then ((-1:Int)+((xs.length+2:Nat):Int)).toNat else min (-1:Int).toNat (xs.length+2))=_
  rw [if_pos (by decide)];lia
 unfold fK
 rw [hn,e1,e2]
 simp
noncomputable def cg(r:Rc)(rows:List (List (List Nat)))(ws:Option (List (List Nat)))(t:Bool)(v7 v8 v9:Option Vl):De:=[↑r.i,↥(rows.map rI),if t then ↑(.str "out") else none,if t then ↑(bz r.w) else none,if t then ↑(.tup (r.ws.map sI)) else none,if t then ↑(fW r.p) else none,ws.map λw=>.ow (.lst (w.map sI)),v7,v8,v9]
theorem Gj{r:Rc}{rows:List (List (List Nat))}{ws:List (List Nat)}{k:Int}{x:List Nat}{v9:Option Vl}{G:List M}(hk:Nz k)(hl:ws.length≤100):Fp (cg r rows (some ws) true ↑(.int k) ↑(sI x) v9) G=some (.nx (cg r rows (some (ws++[tz k,x])) true ↑(.int k) ↑(sI x) v9) G):=by
 refine dh (e:=⇑.non) (ic (e:=.s 6) rfl rfl (ai (ai (a:=[⇑(sI (tz k)),⇑(sI x)]) (Z1:=cg r rows (some ws) true ↑(.int k) ↑(sI x) v9) (G1:=G) (ai (ai (ai rfl rfl) (dZ hk)) rfl) rfl) rfl) ?_)
 have h1:ws.length+2≤1000000:=by lia
 simp [cg,bW,bW.y2a6,pk,dz,sq,h1]
theorem qO{w:Nat}:∀k∈cn w,Nz k:=by
 unfold cn Nz
 split<;>simp
theorem xX{r:Rc}{rows:List (List (List Nat))}{G:List M}{ks:List Int}{xs:List (List Nat)}(hk:∀k∈ks,Nz k)(hl:ks.length=xs.length)(hs:ks.length≤2):∀{ks2:List Int} {xs2:List (List Nat)} {ws:List (List Nat)} {i:Nat} {v7 v8 v9:Option Vl},ks.drop i=ks2->xs.drop i=xs2->ws.length+2*ks2.length≤10->∃v7' v8',bP (fz (ks.map I.int) (xs.map sI)) (cj [7,8]) Fp i ks2.length (cg r rows (some ws) true v7 v8 v9) G=some (.nx (cg r rows (some (ws++oW ks2 xs2)) true v7' v8' v9) G)
 | [],xs2,ws,i,v7,v8,v9,e1,e2,h=>⟨v7,v8,by rw [show oW [] xs2=[] by unfold oW;rfl,z17];rfl⟩
 | k::ks2,[],ws,i,v7,v8,v9,e1,e2,h=>by
  have h1:=congrArg List.length e1
  have h2:=congrArg List.length e2
  simp at h1 h2
  lia
 | k::ks2,x::xs2,ws,i,v7,v8,v9,e1,e2,h=>by
  have g1:ks[i]?=some k:=by have:=congrArg (·[0]?) e1;simpa using this
  have g2:xs[i]?=some x:=by have:=congrArg (·[0]?) e2;simpa using this
  have f1:ks.drop (i+1)=ks2:=by have:=congrArg (List.drop 1) e1;simpa [Nat.add_comm] using this
  have f2:xs.drop (i+1)=xs2:=by have:=congrArg (List.drop 1) e2;simpa [Nat.add_comm] using this
  have hh:ws.length+2*(ks2.length+1)≤10:=h
  obtain⟨v7',v8',e⟩:=xX hk hl hs (ks2:=ks2) (xs2:=xs2) (ws:=ws++[tz k,x]) (i:=i+1) (v7:=↑(.int k)) (v8:=↑(sI x)) (v9:=v9) f1 f2 (by simp;lia)
  refine⟨v7',v8',?_⟩
  show bP _ _ _ i (ks2.length+1) _ G=_
  rw [lg (x:=.int k) (y:=sI x) (Z1:=cg r rows (some ws) true ↑(.int k) ↑(sI x) v9) (G1:=G) (by rw [List.getElem?_map,g1];rfl) (by rw [List.getElem?_map,g2];rfl) rfl (Gj (hk k (z30 g1)) (by lia)),e]
  simp [oW]
theorem qP:("leaf" : Str)=ay fj:=by decide +kernel
theorem Pt.y62{p:Pt}(h:p.ok):p.W.length≤10/\∀x∈p.W,x.length≤39:=by
 have hs:=h.2.2.1
 refine⟨by simp [Pt.W];lia,λx hx=>?_⟩
 simp only [Pt.W,zb] at hx
 rcases hx with e|e|e|e|hx
 ·subst e;decide
 ·subst e;have:=bH h.1;lia
 ·subst e;have:=bH h.2.1;lia
 ·subst e;decide
 ·obtain⟨s,hs,rfl⟩:=z2b.mp hx
  have:=bH (h.2.2.2 s hs);lia
theorem Gk{r:Rc}{rows:List (List (List Nat))}{ws:Option (List (List Nat))}{p:Pt}{G:List M}(h:p.ok)(hl:rows.length≤100):xk (cg r rows ws true ↑(.int p.k) ↑(.int p.w) ↑(.tup (p.ss.map I.int))) G=some (.nx (cg r (rows++[p.W]) ws true ↑(.int p.k) ↑(.int p.w) ↑(.tup (p.ss.map I.int))) G):=by
 let Z:=cg r rows ws true ↑(.int p.k) ↑(.int p.w) ↑(.tup (p.ss.map I.int))
 have hs:=h.2.2.1
 have hc:da (bX (one (aa 9)) br) [] c1 bb (bd (ag (aa 0) ae) b7) Z G=some (.v (.ow (.lst ((p.ss.map tz).map sI))),Z,G):=by
  have hm:=cw (xs:=p.ss) (fi:=I.int) (fo:=λs=>sI (tz s)) (te:=bd (ag (aa 0) ae) b7) (e:=⇑(.tup (p.ss.map I.int))) (Z:=Z) (G:=G) rfl (λs hs'=>ai (ai rfl rfl) (dZ (h.2.2.2 s hs')))
  refine (iX (by rfl) (cA (es:=[⇑(.tup (p.ss.map I.int))]) (Z1:=Z) (G1:=G) rfl (gx (z14 _))) (by show p.ss.length≤100000;lia) hm).trans ?_
  rw [z2f];rfl
 have hj:cW bR (ah (.str " ")) (ag (ak ck (bd (ag (ah (.str "leaf")) (ag (bd (ag (aa 7) ae) b7) (ag (bd (ag (aa 8) ae) b7) (ag (ah (.str "by")) ae)))) aT) (da (bX (one (aa 9)) br) [] c1 bb (bd (ag (aa 0) ae) b7))) ae) Z G=some (⇑(rI p.W),Z,G):=by
  obtain⟨c1,c2⟩:=Pt.y62 h
  have c3:=eN c2
  have ec:ck [.v (.ow (.lst ([fj,tz p.k,tz p.w,eB].map sI))),.v (.ow (.lst ((p.ss.map tz).map sI)))] Z G=some (.v (.ow (.lst (p.W.map sI))),Z,G):=by
   have h1:4+p.ss.length≤1000000:=by lia
   simp [ck,eP,pQ,cv,mL,nZ,pP,pk,h1,Pt.W]
  refine ig (e:=⇑(.str " ")) rfl rfl (es:=[.v (.ow (.lst (p.W.map sI)))]) (Z2:=Z) (G2:=G) (ai (aO (x:=.v (.ow (.lst ([fj,tz p.k,tz p.w,eB].map sI)))) (Z1:=Z) (G1:=G) (ai (a:=[⇑(sI fj),⇑(sI (tz p.k)),⇑(sI (tz p.w)),⇑(sI eB)]) (Z1:=Z) (G1:=G) (ai (by rw [qP];rfl) (ai (ai (ai (ai rfl rfl) (dZ h.1)) (ai (ai (ai (ai rfl rfl) (dZ h.2.1)) (ai (ai (by rw [nF];rfl) rfl) rfl)) rfl)) rfl)) rfl) hc ec) rfl) ?_
  rw [fS,fg (by simp;lia),ff]
  rfl
 refine dh (e:=⇑.non) (ic (e:=.s 1) rfl rfl (ai hj rfl) ?_)
 have h1:rows.length<1000000:=by lia
 simp [cg,Z,dU,pk,dz,fV,gZ,de,h1]
end
section
theorem Gm(k a b:List Nat):jn 32 [k,a,b]=((k++[32])++a++[32])++b:=by simp [jn]
theorem Gn:("claims " : Str)=ay (ik++[32]):=by decide +kernel
theorem xY:("paper " : Str)=ay (dj++[32]):=by decide +kernel
theorem Gp:(" to " : Str)=ay ([32]++il++[32]):=by decide +kernel
theorem Gq{r:Rc}{ps:List Pt}{ws:Option (List (List Nat))}{G:List M}(h:∀p∈ps,p.ok)(hs:ps.length≤6){rows:List (List (List Nat))}{v7 v8 v9:Option Vl}(hl:rows.length≤90):∃v7' v8' v9',bP (b9 ⇑(.tup (ps.map Pt.i)) ps.length) (cj [7,8,9]) xk 0 ps.length (cg r rows ws true v7 v8 v9) G=some (.nx (cg r (rows++ps.map Pt.W) ws true v7' v8' v9') G):=by
 obtain⟨Z',G',e,v7',v8',v9',ed,eg⟩:=ie (w:=b9 ⇑(.tup (ps.map Pt.i)) ps.length) (g:=cj [7,8,9]) (b:=xk) (λi Z G'=>∃v7 v8 v9,Z=cg r (rows++(ps.take i).map Pt.W) ws true v7 v8 v9/\G'=G)
  (λi Z g hi ⟨v7,v8,v9,ed,eg⟩=>by
   have hi:i<ps.length:=hi
   subst ed;subst eg
   refine⟨ps[i].i,cg r (rows++(ps.take i).map Pt.W) ws true ↑(.int ps[i].k) ↑(.int ps[i].w) ↑(.tup (ps[i].ss.map I.int)),g,_,g,?_,rfl,Gk (h _ (z2e hi)) (by simp;lia),↑(.int ps[i].k),↑(.int ps[i].w),↑(.tup (ps[i].ss.map I.int)),?_,rfl⟩
   ·simp [b9,sq,pk,hi]
   ·rw [List.take_add_one,z15 hi,z29,<- z31];rfl)
  (λZ g ⟨_,_,_,ed,_⟩=>by simp [b9,sq,pk]) ps.length 0 (cg r rows ws true v7 v8 v9) G (by simp [b9]) ⟨v7,v8,v9,by simp,rfl⟩
 refine⟨v7',v8',v9',?_⟩
 have ed:Z'=cg r (rows++(ps.take ps.length).map Pt.W) ws true v7' v8' v9':=ed
 rw [ed,eg,List.take_length] at e
 exact e
theorem xZ{ks:List Int}{xs:List (List Nat)}(hk:∀k∈ks,Nz k)(hx:∀x∈xs,x∈i5):(oW ks xs).length≤2*ks.length/\∀y∈oW ks xs,y.length≤39:=by
 induction ks generalizing xs with
 | nil=>exact⟨by simp [oW],λy hy=>by simp [oW] at hy⟩
 | cons k ks ih =>
  cases xs with
  | nil=>exact⟨by simp [oW],λy hy=>by simp [oW] at hy⟩
  | cons x xs =>
   obtain⟨h1,h2⟩:=ih (xs:=xs) (λz hz=>hk z (z1d _ hz)) (λz hz=>hx z (z1d _ hz))
   refine⟨by simp [oW];lia,λy hy=>?_⟩
   simp only [oW,zb] at hy
   rcases hy with e|e|e
   ·subst e;have:=bH (hk k List.mem_cons_self);lia
   ·subst e
    have:=hx y List.mem_cons_self
    simp only [i5,zb,List.not_mem_nil,or_false] at this
    rcases this with e|e|e|e|e|e|e<;>subst e<;>decide
   ·exact h2 y e
theorem Rc.y63{r:Rc}(h:r.ok):r.Wo.length≤5/\∀x∈r.Wo,x.length≤39:=by
 have hw:=eM r.w
 obtain⟨h1,h2⟩:=xZ (ks:=cn r.w) (xs:=r.ws) qO h.ws
 refine⟨by simp [Rc.Wo];lia,λx hx=>?_⟩
 rcases zb.mp hx with e|e
 ·subst e;decide
 ·exact h2 x e
noncomputable def r0(r:Rc):De:=[↑r.i,none,none,none,none,none,none,none,none,none]
theorem Gr{r:Rc}{G:List M}(h:r.ok):zo [.im r.i] G=some (.ow (.lst (r.rows.map rI)),G):=by
 have la:=bH h.a
 have lb:=bH h.b
 have hw:=eM r.w
 have hql:=h.ql
 have e0:bd (ag (ak ck (ak ck (ak ck (ah (.str "claims ")) (bd (ag (ak aH (ak aH (aa 0) (ah (.int 0))) (ah (.int 1))) ae) b7)) (ah (.str " "))) (bd (ag (ak aH (ak aH (aa 0) (ah (.int 0))) (ah (.int 2))) ae) b7)) ae) aT (r0 r) G=some (.v (.ow (.lst [rI r.W0])),r0 r,G):=by
  have i0:ak aH (aa 0) (ah (.int 0)) (r0 r) G=some (⇑r.cI,r0 r,G):=by simp! [r0,Rc.i,at0]
  have i1:ak aH (ak aH (aa 0) (ah (.int 0))) (ah (.int 1)) (r0 r) G=some (⇑(.int r.a),r0 r,G):=aO i0 rfl (by simp! [Rc.cI,g0])
  have i2:ak aH (ak aH (aa 0) (ah (.int 0))) (ah (.int 2)) (r0 r) G=some (⇑(.int r.b),r0 r,G):=aO i0 rfl (by simp! [Rc.cI,at2])
  have lk:ik.length=6:=rfl
  refine ai (ai (aO (aO (aO rfl (ai (ai i1 rfl) (dZ h.a)) (by rw [Gn];exact i4 (by simp;lia))) rfl (by rw [fS];exact i4 (by simp;lia))) (ai (ai i2 rfl) (dZ h.b)) (i4 (by simp;lia))) rfl) ?_
  rw [<- Gm]
  rfl
 have hm:=cw (xs:=r.qs) (fi:=Qn.i) (fo:=λq=>rI q.W) (te:=bd (ag (aa 0) ae) (aJ 1 rO)) (e:=⇑(.tup (r.qs.map Qn.i))) (Z:=cg r [r.W0] none false none none none) (G:=G) rfl (λq hq=>ai (ai rfl rfl) (bL rfl rfl (y8e (h.qs q hq))))
 have e1:bF (dr bW (aa 1) (ag (da (bX (one (bT (aa 0) (ba (ah (.int 1))) (ba (a7 gh (ah (.int 1)))))) br) [] c1 bb (bd (ag (aa 0) ae) (aJ 1 rO))) ae)) (cg r [r.W0] none false none none none) G=some (.nx (cg r (r.W0::r.qs.map Qn.W) none false none none none) G):=by
  have es:bT (aa 0) (ba (ah (.int 1))) (ba (a7 gh (ah (.int 1)))) (cg r [r.W0] none false none none none) G=some (⇑(.tup (r.qs.map Qn.i)),cg r [r.W0] none false none none none,G):=by
   have hx:fK (r.cI::(r.qs.map Qn.i++[r.oI])) (some 1) (some (-1))=r.qs.map Qn.i:=yec r.cI r.oI (r.qs.map Qn.i)
   simp! [cg,bT,ba,cM,jH,dS,Rc.i,hx]
  refine dh (e:=⇑.non) (ic (e:=.s 1) rfl rfl (ai (iX (by rfl) (cA (es:=[⇑(.tup (r.qs.map Qn.i))]) (Z1:=cg r [r.W0] none false none none none) (G1:=G) (ai es rfl) (gx (z14 _))) (by show r.qs.length≤100000;lia) hm) rfl) ?_)
  have h1:1+r.qs.length≤1000000:=by lia
  simp [cg,bW,bW.y2a6,pk,dz,sq,h1]
 obtain⟨v7,v8,e3⟩:=xX (r:=r) (rows:=r.W0::r.qs.map Qn.W) (G:=G) (ks:=cn r.w) (xs:=r.ws) qO h.wl.symm hw (ws:=[cH]) (i:=0) (v7:=none) (v8:=none) (v9:=none) rfl rfl (by simp;lia)
 obtain⟨o1,o2⟩:=Rc.y63 h
 have o3:=eN o2
 have e4:bF (dr dU (aa 1) (ag (cW bR (ah (.str " ")) (ag (aa 6) ae)) ae)) (cg r (r.W0::r.qs.map Qn.W) (some r.Wo) true v7 v8 none) G=some (.nx (cg r (r.W0::r.qs.map Qn.W++[r.Wo]) (some r.Wo) true v7 v8 none) G):=by
  refine dh (e:=⇑.non) (ic (e:=.s 1) rfl rfl (ai (a:=⇑(rI r.Wo)) (Z1:=cg r (r.W0::r.qs.map Qn.W) (some r.Wo) true v7 v8 none) (G1:=G) (ig (e:=⇑(.str " ")) rfl rfl (es:=[.s 6]) rfl ?_) rfl) ?_)
  ·rw [fS,i6 (m:=.lst (r.Wo.map sI)) rfl,fg (by simp;lia),ff];rfl
  ·have h1:r.qs.length+1<1000000:=by lia
   simp [cg,dU,pk,dz,fV,gZ,de,h1]
 obtain⟨w7,w8,w9,e5⟩:∃w7 w8 w9,aM (ax (a7 (c6 false) (aa 5))) (au (bF (dr dU (aa 1) (ag (ak ck (ak ck (ak ck (ah (.str "paper ")) (bd (ag (ak aH (aa 5) (ah (.int 0))) ae) b7)) (ah (.str " to "))) (bd (ag (ak aH (aa 5) (ah (.int 2))) ae) b7)) ae))) (c9 (bX (one (ak aH (aa 5) (ah (.int 1)))) br) (cj [7,8,9]) xk)) aU (cg r (r.W0::r.qs.map Qn.W++[r.Wo]) (some r.Wo) true v7 v8 none) G=some (.nx (cg r r.rows (some r.Wo) true w7 w8 w9) G):=by
  cases hp:r.p with
  | none =>
   refine⟨v7,v8,none,?_⟩
   rw [show r.rows=r.W0::r.qs.map Qn.W++[r.Wo] by simp [Rc.rows,hp,je]]
   refine bG (Z1:=cg r (r.W0::r.qs.map Qn.W++[r.Wo]) (some r.Wo) true v7 v8 none) (G1:=G) (by simp! [cg,hp,fW]) rfl
  | some p =>
   have ok:=h.p p hp
   have l1:=bH ok.1
   have l2:=bH ok.2.1
   let Z:=cg r (r.W0::r.qs.map Qn.W++[r.Wo]) (some r.Wo) true v7 v8 none
   have i0:ak aH (aa 5) (ah (.int 0)) Z G=some (⇑(.int p.b),Z,G):=by simp! [Z,cg,hp,fW,Pp.i,at0]
   have i1:ak aH (aa 5) (ah (.int 1)) (cg r (r.W0::r.qs.map Qn.W++[r.Wo]++[p.W]) (some r.Wo) true v7 v8 none) G=some (⇑(.tup (p.ps.map Pt.i)),cg r (r.W0::r.qs.map Qn.W++[r.Wo]++[p.W]) (some r.Wo) true v7 v8 none,G):=by simp! [cg,hp,fW,Pp.i,g0]
   have i2:ak aH (aa 5) (ah (.int 2)) Z G=some (⇑(.int p.a),Z,G):=by simp! [Z,cg,hp,fW,Pp.i,at2]
   obtain⟨w7,w8,w9,e⟩:=Gq (r:=r) (ps:=p.ps) (ws:=some r.Wo) (G:=G) ok.2.2.2 ok.2.2.1 (rows:=r.W0::r.qs.map Qn.W++[r.Wo]++[p.W]) (v7:=v7) (v8:=v8) (v9:=none) (by simp;lia)
   refine⟨w7,w8,w9,?_⟩
   rw [show r.rows=r.W0::r.qs.map Qn.W++[r.Wo]++[p.W]++p.ps.map Pt.W by simp [Rc.rows,hp,je]]
   refine df (Z1:=Z) (G1:=G) (by simp! [Z,cg,hp,fW,Pp.i]) (aw (Z1:=cg r (r.W0::r.qs.map Qn.W++[r.Wo]++[p.W]) (some r.Wo) true v7 v8 none) (G1:=G) (dh (e:=⇑.non) (ic (e:=.s 1) rfl rfl (ai (a:=⇑(rI p.W)) (Z1:=Z) (G1:=G) ?_ rfl) ?_)) (fQ (cA (es:=[⇑(.tup (p.ps.map Pt.i))]) (ai i1 rfl) (gx (z14 _))) e))
   ·have lk:dj.length=5:=rfl
    have lk2:il.length=2:=rfl
    have e6:p.W=[dj,tz p.b,il,tz p.a]:=rfl
    rw [rI,e6,show jn 32 [dj,tz p.b,il,tz p.a]=((dj++[32])++tz p.b++([32]++il++[32]))++tz p.a by simp [jn]]
    exact aO (aO (aO rfl (ai (ai i0 rfl) (dZ ok.1)) (by rw [xY];exact i4 (by simp;lia))) rfl (by rw [Gp];exact i4 (by simp;lia))) (ai (ai i2 rfl) (dZ ok.2.1)) (i4 (by simp;lia))
   ·have h1:r.qs.length+1+1<1000000:=by lia
    simp [Z,cg,dU,pk,dz,fV,gZ,de,h1]
 refine aZ rfl (aw (Z1:=cg r [r.W0] none false none none none) (G1:=G) (cy e0 rfl) (aw e1 (aw (Z1:=cg r (r.W0::r.qs.map Qn.W) none true none none none) (G1:=G) ?_ (aw (Z1:=cg r (r.W0::r.qs.map Qn.W) (some [cH]) true none none none) (G1:=G) ?_ (aw (fQ (cA (es:=[⇑(bz r.w),⇑(.tup (r.ws.map sI))]) (Z1:=cg r (r.W0::r.qs.map Qn.W) (some [cH]) true none none none) (G1:=G) (w:=fz ((cn r.w).map I.int) (r.ws.map sI)) rfl rfl) ?_) (aw e4 (aw e5 ?_)))))))
 ·refine cy (x:=.im r.oI) (Z1:=cg r (r.W0::r.qs.map Qn.W) none false none none none) (G1:=G) (aO rfl (y:=⇑(.int (-1))) (Z2:=cg r (r.W0::r.qs.map Qn.W) none false none none none) (G2:=G) rfl ?_) rfl
  have hx:dN (r.cI::(r.qs.map Qn.i++[r.oI])) (-1)=some r.oI:=y92 (r.cI::r.qs.map Qn.i) r.oI
  simp [aH,eP,kf,sq,pk,Rc.i,hx]
 ·rw [show ([cH]:List (List Nat))=[cH] from rfl]
  refine cy (x:=.ow (.lst ([cH].map sI))) (Z1:=cg r (r.W0::r.qs.map Qn.W) none true none none none) (G1:=G) ?_ rfl
  have:("out" : Str)=ay cH:=by decide +kernel
  simp! [cg,sI,this]
 ·have e:(fz ((cn r.w).map I.int) (r.ws.map sI)).n=(cn r.w).length:=by simp [fz,h.wl]
  rw [e]
  exact e3
 ·simp! [cg]
end
section
theorem x8{zs:List Int}{Z:De}{G:List M}{e:Ev}(h:∀z∈zs,Nz z)(hs:sq Z G e=some (zs.map I.int)):fD (b9 e zs.length) c1 bb (bd (ag (aa 0) ae) (aJ 1 dJ)) [] 0 zs.length [] Z G=some ((zs.map tz).map sI,G):=by
 have:=cw (xs:=zs) (fi:=I.int) (fo:=λz=>sI (tz z)) (te:=bd (ag (aa 0) ae) (aJ 1 dJ)) (e:=e) (Z:=Z) (G:=G) hs (λz hz=>ai (ai rfl rfl) (bL rfl rfl (eY (h z hz))))
 rw [this,z2f];rfl
theorem x9{a b:Int}{c:Nat}{G:List M}(ha:Nz a)(hb:Nz b):cW bR (ah (.str (ay [c]))) (ag (da (bX (one (aa 0)) br) [] c1 bb (bd (ag (aa 0) ae) (aJ 1 dJ))) ae) [↑(.tup [.int a,.int b])] G=some (⇑(sI (tz a++c::tz b)),[↑(.tup [.int a,.int b])],G):=by
 have l1:=bH ha
 have l2:=bH hb
 have hc:=x8 (zs:=[a,b]) (Z:=[↑(.tup [.int a,.int b])]) (G:=G) (e:=⇑(.tup [.int a,.int b])) (λz hz=>by simp at hz;rcases hz with e|e<;>subst e<;>assumption) rfl
 refine ig (e:=⇑(.str (ay [c]))) rfl rfl (es:=[.v (.ow (.lst ([tz a,tz b].map sI)))]) (ai (iX (by rfl) (cA (es:=[⇑(.tup [.int a,.int b])]) rfl (gx rfl)) (by show 2≤100000;decide) hc) rfl) ?_
 rw [fg (by simp;lia),ff]
 rfl
theorem Gu{p:Pl}{f:Nat}{G:List M}(h:p.ok f):zr [.im p.i] G=some (.im (sI p.tx),G):=by
 cases p with
 | one z =>
  refine aZ rfl (aw (Z1:=[↑(.int z)]) (G1:=G) (by simp! [Pl.i,bJ,jc,dD]) (bw (Z1:=[↑(.int z)]) (ai (ai rfl rfl) (bL rfl rfl (eY h.2)))))
 | two a b =>
  refine aZ rfl (ib (df (Z1:=[↑(.tup [.int a,.int b])]) (G1:=G) (by simp! [Pl.i,bJ,jc,dD]) (bw (Z1:=[↑(.tup [.int a,.int b])]) ?_)))
  rw [show ("." : Str)=ay [46] by decide +kernel]
  exact x9 h.2.1 h.2.2
theorem Gv{s:Sd}{G:List M}(h:s.ok):rP [.im s.i] G=some (.im (sI s.tx),G):=by
 cases s with
 | no =>
  have:("none" : Str)=ay [110,111,110,101]:=by decide +kernel
  simp! [rP,Sd.i,Sd.tx,sI,this]
 | nm z =>
  refine aZ rfl (aw (Z1:=[↑(.int z)]) (G1:=G) (by simp! [Sd.i]) (aw (Z1:=[↑(.int z)]) (G1:=G) (by simp! [bJ,jc,dD]) (bw (Z1:=[↑(.int z)]) (ai (ai rfl rfl) (bL rfl rfl (eY h))))))
 | pr a b =>
  refine aZ rfl (aw (Z1:=[↑(.tup [.int a,.int b])]) (G1:=G) (by simp! [Sd.i]) (ib (df (Z1:=[↑(.tup [.int a,.int b])]) (G1:=G) (by simp! [bJ,jc,dD]) (bw (Z1:=[↑(.tup [.int a,.int b])]) ?_))))
  rw [show ("," : Str)=ay [44] by decide +kernel]
  exact x9 h.1 h.2
noncomputable def fT(q:Qn)(ws:Option (List (List Nat)))(v7:Option Vl):De:=[↑q.i,↑(.str "asked"),↑(sI (bx q.f)),↑q.p.i,↑(bz q.w),↑(.tup (q.as.map An.i)),ws.map λw=>.ow (.lst (w.map sI)),v7]
noncomputable def An.tx(a:An):List Nat:=a.s.tx++[32]++tz a.t
theorem y8b{q:Qn}(h:q.ok):jn 32 (bx q.f::q.p.tx::g8 q.w)++[32,58,32]++jz [32,124,32] (q.as.map An.tx)=jn 32 q.W:=by
 have hl:=h.as
 have hw:=eM q.w
 unfold Qn.W
 generalize q.as=as at hl ⊢
 generalize e:bx q.f::q.p.tx::g8 q.w=ws
 have ne:ws≠[]:=by rw [<- e];simp
 match as with
 | []=>exact absurd hl (by unfold cn;split<;>simp)
 | [a] =>
  rw [qC 32 ne (by simp [ip])]
  simp [ip,An.W,An.tx,jn,jz]
 | [a,b] =>
  rw [qC 32 ne (by simp [ip])]
  simp [ip,An.W,An.tx,jn,jz]
 | a::b::c::r=>simp at hl;lia
theorem Gw{q:Qn}{G:List M}(h:q.ok):zt [.im q.i] G=some (.im (rI q.W),G):=by
 have hw:=eM q.w
 have e1:=Gu (G:=G) h.p
 obtain⟨ws3,e3,hws⟩:∃ws3,aM (ax (ak cV (bd (ag (aa 4) ae) bD) (ah (.int 1)))) (bF (dr bW (aa 6) (ag (bd (ag (ah (.str "by")) (ag (bd (ag (ak aH (aa 4) (ah (.int 0))) ae) (aJ 1 dJ)) ae)) aT) ae))) aU (fT q (some [bx q.f,q.p.tx]) none) G=some (.nx (fT q (some ws3) none) G)/\ws3=bx q.f::q.p.tx::g8 q.w:=by
  have hwh:=h.w
  have key:∀k:Int,Nz k->cn q.w=[k]->g8 q.w=[eB,tz k]->aM (ax (ak cV (bd (ag (aa 4) ae) bD) (ah (.int 1)))) (bF (dr bW (aa 6) (ag (bd (ag (ah (.str "by")) (ag (bd (ag (ak aH (aa 4) (ah (.int 0))) ae) (aJ 1 dJ)) ae)) aT) ae))) aU (fT q (some [bx q.f,q.p.tx]) none) G=some (.nx (fT q (some (bx q.f::q.p.tx::g8 q.w)) none) G):=λk hk e1 e2=>by
   rw [e2]
   refine df (Z1:=fT q (some [bx q.f,q.p.tx]) none) (G1:=G) (by simp! [fT,bz,e1]) (dh (e:=⇑.non) (ic (e:=.s 6) rfl rfl (es:=[.v (.ow (.lst ([eB,tz k].map sI)))]) (Z2:=fT q (some [bx q.f,q.p.tx]) none) (G2:=G) ?_ (by simp [fT,bW,bW.y2a6,pk,dz,sq])))
   have i1:ak aH (aa 4) (ah (.int 0)) (fT q (some [bx q.f,q.p.tx]) none) G=some (⇑(.int k),fT q (some [bx q.f,q.p.tx]) none,G):=by simp! [fT,bz,e1,at0]
   refine ai (ai (a:=[⇑(sI eB),⇑(sI (tz k))]) (Z1:=fT q (some [bx q.f,q.p.tx]) none) (G1:=G) (ai (a:=⇑(sI eB)) (by rw [nF];rfl) (ai (ai (ai (ai i1 rfl) (bL rfl rfl (eY hk))) rfl) rfl)) ?_) rfl
   simp [aT,fV,gZ]
  rcases (show q.w=0∨q.w=1∨q.w=2 by lia) with z|z|z
  ·refine⟨_,?_,rfl⟩
   rw [z]
   refine bG (Z1:=fT q (some [bx q.f,q.p.tx]) none) (G1:=G) (by simp! [fT,bz,z,cn]) rfl
  ·exact⟨_,key 0 (by unfold Nz;decide) (by rw [z];rfl) (by rw [z];decide),rfl⟩
  ·exact⟨_,key 1 (by unfold Nz;decide) (by rw [z];rfl) (by rw [z];decide),rfl⟩
 have hm:=cw (xs:=q.as) (fi:=An.i) (fo:=λa=>sI a.tx) (te:=ak ck (ak ck (bd (ag (ak aH (aa 0) (ah (.int 0))) ae) (aJ 1 rP)) (ah (.str " "))) (bd (ag (ak aH (aa 0) (ah (.int 1))) ae) (aJ 1 dJ))) (e:=⇑(.tup (q.as.map An.i))) (Z:=fT q (some ws3) none) (G:=G) rfl (λa ha=>by
  have ok:=h.an a ha
  have l1:=Sd.len ok.1
  have l2:=bH ok.2
  have i0:ak aH (aa 0) (ah (.int 0)) [↑a.i] G=some (⇑a.s.i,[↑a.i],G):=by simp! [An.i,at0]
  have i1:ak aH (aa 0) (ah (.int 1)) [↑a.i] G=some (⇑(.int a.t),[↑a.i],G):=by simp! [An.i,g0]
  exact aO (aO (ai (ai i0 rfl) (bL rfl rfl (Gv ok.1))) rfl (by rw [fS];exact i4 (by simp;lia))) (ai (ai i1 rfl) (bL rfl rfl (eY ok.2))) (i4 (by simp;lia)))
 obtain⟨b1,b2⟩:=qN q.w
 have l1:=xW q.f
 have l2:=Pl.len h.p
 have c2:∀x∈ws3,x.length≤39:=λx hx=>by
  rw [hws] at hx
  rcases zb.mp hx with e|hx
  ·subst e;lia
  ·rcases zb.mp hx with e|hx
   ·subst e;lia
   ·have:=b2 x hx;lia
 have c1:ws3.length≤4:=by rw [hws];simp;lia
 have c3:=eN c2
 have c4:=lh 32 ws3
 have d1:q.as.length≤2:=by rw [h.as];exact hw
 have d2:∀x∈q.as.map An.tx,x.length≤59:=λx hx=>by
  obtain⟨a,ha,rfl⟩:=z2b.mp hx
  have l1:=Sd.len (h.an a ha).1
  have l2:=bH (h.an a ha).2
  simp [An.tx];lia
 have d3:=eN d2
 have d4:∀as:List (List Nat),(jz [32,124,32] as).length≤(as.map (·.length)).sum+3*as.length:=λas=>by
  induction as with
  | nil=>simp [jz]
  | cons a r ih =>
   cases r with
   | nil=>simp [jz]
   | cons b r=>rw [qG _ _ (by simp)];simp at ih ⊢;lia
 have d5:=d4 (q.as.map An.tx)
 rw [z14] at d3 d5
 have hm':(q.as.map λa=>sI a.tx)=(q.as.map An.tx).map sI:=by rw [z2f];rfl
 rw [hm'] at hm
 refine aZ rfl (aw (Z1:=fT q none none) (G1:=G) (cy (x:=.im q.i) rfl rfl) (aw (Z1:=fT q (some [bx q.f,q.p.tx]) none) (G1:=G) (cy (x:=.ow (.lst ([bx q.f,q.p.tx].map sI))) (ai (ai rfl (ai (ai (ai rfl (bL rfl rfl e1)) rfl) rfl)) rfl) rfl) (aw e3 (aw (Z1:=fT q (some ws3) ↥((q.as.map An.tx).map sI)) (G1:=G) (cy (x:=.ow (.lst ((q.as.map An.tx).map sI))) (iX (by rfl) (cA (es:=[⇑(.tup (q.as.map An.i))]) (Z1:=fT q (some ws3) none) (G1:=G) rfl (gx (z14 _))) (by show q.as.length≤100000;lia) hm) rfl) (bw (Z1:=fT q (some ws3) ↥((q.as.map An.tx).map sI)) ?_)))))
 rw [rI,<- y8b h,<- hws]
 refine aO (x:=⇑(sI (jn 32 ws3++[32,58,32]))) (Z1:=fT q (some ws3) ↥((q.as.map An.tx).map sI)) (G1:=G) (aO (x:=⇑(sI (jn 32 ws3))) (Z1:=fT q (some ws3) ↥((q.as.map An.tx).map sI)) (G1:=G) (ig (e:=⇑(.str " ")) rfl rfl (es:=[.s 6]) rfl ?_) rfl ?_) (y:=⇑(sI (jz [32,124,32] (q.as.map An.tx)))) (Z2:=fT q (some ws3) ↥((q.as.map An.tx).map sI)) (G2:=G) (ig (e:=⇑(.str " | ")) rfl rfl (es:=[.s 7]) rfl ?_) (i4 (by simp;lia))
 ·rw [fS,i6 (m:=.lst (ws3.map sI)) rfl,fg (by simp;lia),ff];rfl
 ·rw [show (" : " : Str)=ay [32,58,32] by decide +kernel];exact i4 (by simp;lia)
 ·rw [show (" | " : Str)=ay [32,124,32] by decide +kernel,i6 (m:=.lst ((q.as.map An.tx).map sI)) rfl,fg (by rw [z14];simp only [z20,List.length_nil];lia)];rfl
end
section
noncomputable def j4(p:Pp)(rows:List (List (List Nat)))(v5 v6 v7 v8:Option Vl):De:=[↑p.i,↑(.int p.b),↑(.tup (p.ps.map Pt.i)),↑(.int p.a),↥(rows.map rI),v5,v6,v7,v8]
theorem Gx{p:Pp}{rows:List (List (List Nat))}{t:Pt}{v8:Option Vl}{G:List M}(h:t.ok)(hl:rows.length≤100):Fs (j4 p rows ↑(.int t.k) ↑(.int t.w) ↑(.tup (t.ss.map I.int)) v8) G=some (.nx (j4 p (rows++[t.W]) ↑(.int t.k) ↑(.int t.w) ↑(.tup (t.ss.map I.int)) ↥([fj,tz t.k,tz t.w,eB].map sI)) G):=by
 have hs:=h.2.2.1
 let Z:=j4 p rows ↑(.int t.k) ↑(.int t.w) ↑(.tup (t.ss.map I.int)) ↥([fj,tz t.k,tz t.w,eB].map sI)
 have hm:=x8 (zs:=t.ss) (Z:=Z) (G:=G) (e:=⇑(.tup (t.ss.map I.int))) h.2.2.2 rfl
 have hc:da (bX (one (aa 7)) br) [] c1 bb (bd (ag (aa 0) ae) (aJ 1 dJ)) Z G=some (.v (.ow (.lst ((t.ss.map tz).map sI))),Z,G) :=
  iX (by rfl) (cA (es:=[⇑(.tup (t.ss.map I.int))]) (Z1:=Z) (G1:=G) rfl (gx (z14 _))) (by show t.ss.length≤100000;lia) hm
 obtain⟨c1,c2⟩:=Pt.y62 h
 have c3:=eN c2
 have ec:ck [.s 8,.v (.ow (.lst ((t.ss.map tz).map sI)))] Z G=some (.v (.ow (.lst (t.W.map sI))),Z,G):=by
  have h1:4+t.ss.length≤1000000:=by lia
  simp [Z,j4,ck,eP,pQ,cv,mL,nZ,pP,pk,h1,Pt.W]
 refine aw (Z1:=Z) (G1:=G) (cy (x:=.ow (.lst ([fj,tz t.k,tz t.w,eB].map sI))) (ai (a:=[⇑(sI fj),⇑(sI (tz t.k)),⇑(sI (tz t.w)),⇑(sI eB)]) (Z1:=j4 p rows ↑(.int t.k) ↑(.int t.w) ↑(.tup (t.ss.map I.int)) v8) (G1:=G) (ai (by rw [qP];rfl) (ai (ai (ai (ai rfl rfl) (bL rfl rfl (eY h.1))) (ai (ai (ai (ai rfl rfl) (bL rfl rfl (eY h.2.1))) (ai (ai (by rw [nF];rfl) rfl) rfl)) rfl)) rfl)) rfl) rfl) (dh (e:=⇑.non) (ic (e:=.s 4) rfl rfl (ai (a:=⇑(rI t.W)) (Z1:=Z) (G1:=G) (ig (e:=⇑(.str " ")) rfl rfl (es:=[.v (.ow (.lst (t.W.map sI)))]) (Z2:=Z) (G2:=G) (ai (aO rfl hc ec) rfl) ?_) rfl) ?_))
 ·rw [fS,fg (by simp;lia),ff]
  rfl
 ·have h1:rows.length<1000000:=by lia
  simp [Z,j4,dU,pk,dz,fV,gZ,de,h1]
theorem yg:("paper" : Str)=ay dj:=by decide +kernel
theorem t_e:("to" : Str)=ay il:=by decide +kernel
theorem Gy{p:Pp}{G:List M}(h:p.ok):zu [.im p.i] G=some (.ow (.lst ((p.W::p.ps.map Pt.W).map rI)),G):=by
 have l1:=bH h.1
 have l2:=bH h.2.1
 have hs:=h.2.2.1
 obtain⟨Z',G',e,v5,v6,v7,v8,ed,eg⟩:=ie (w:=b9 ⇑(.tup (p.ps.map Pt.i)) p.ps.length) (g:=cj [5,6,7]) (b:=Fs) (λi Z G'=>∃v5 v6 v7 v8,Z=j4 p (p.W::(p.ps.take i).map Pt.W) v5 v6 v7 v8/\G'=G)
  (λi Z g hi ⟨v5,v6,v7,v8,ed,eg⟩=>by
   have hi:i<p.ps.length:=hi
   subst ed;subst eg
   refine⟨p.ps[i].i,j4 p (p.W::(p.ps.take i).map Pt.W) ↑(.int p.ps[i].k) ↑(.int p.ps[i].w) ↑(.tup (p.ps[i].ss.map I.int)) v8,g,_,g,?_,rfl,Gx (h.2.2.2 _ (z2e hi)) (by simp;lia),↑(.int p.ps[i].k),↑(.int p.ps[i].w),↑(.tup (p.ps[i].ss.map I.int)),↥([fj,tz p.ps[i].k,tz p.ps[i].w,eB].map sI),?_,rfl⟩
   ·simp [b9,sq,pk,hi]
   ·rw [List.take_add_one,z15 hi,z29];rfl)
  (λZ g ⟨_,_,_,_,ed,_⟩=>by simp [b9,sq,pk]) p.ps.length 0 (j4 p [p.W] none none none none) G (by simp [b9]) ⟨none,none,none,none,by simp,rfl⟩
 have ed:Z'=j4 p (p.W::(p.ps.take p.ps.length).map Pt.W) v5 v6 v7 v8:=ed
 rw [ed,eg,List.take_length] at e
 refine aZ rfl (aw (Z1:=[↑p.i,↑(.int p.b),↑(.tup (p.ps.map Pt.i)),↑(.int p.a),none,none,none,none,none]) (G1:=G) (cy (x:=.im p.i) rfl rfl) (aw (Z1:=j4 p [p.W] none none none none) (G1:=G) (cy (x:=.ow (.lst [rI p.W])) (ai (ai (a:=⇑(rI p.W)) (Z1:=[↑p.i,↑(.int p.b),↑(.tup (p.ps.map Pt.i)),↑(.int p.a),none,none,none,none,none]) (G1:=G) (ig (e:=⇑(.str " ")) rfl rfl (es:=[.v (.ow (.lst (p.W.map sI)))]) (ai (ai (a:=[⇑(sI dj),⇑(sI (tz p.b)),⇑(sI il),⇑(sI (tz p.a))]) (ai (by rw [yg];rfl) (ai (ai (ai (ai rfl rfl) (bL rfl rfl (eY h.1))) (ai (ai (by rw [t_e];rfl) (ai (ai (ai (ai rfl rfl) (bL rfl rfl (eY h.2.1))) rfl) rfl)) rfl)) rfl)) rfl) rfl) ?_) rfl) rfl) rfl) (aw (fQ (cA (es:=[⇑(.tup (p.ps.map Pt.i))]) (Z1:=j4 p [p.W] none none none none) (G1:=G) rfl (gx (z14 _))) e) ?_)))
 ·have lk:dj.length=5:=rfl
  have lk2:il.length=2:=rfl
  rw [fS,fg (by simp [Pp.W];lia),ff]
  rfl
 ·simp! [j4]
noncomputable def gz(r:Rc)(ws:List (List Nat))(v6 v7:Option Vl):De:=[↑r.oI,↑(.str "out"),↑(bz r.w),↑(.tup (r.ws.map sI)),↑(fW r.p),↥(ws.map sI),v6,v7]
theorem Gz{r:Rc}{ws:List (List Nat)}{k:Int}{x:List Nat}{G:List M}(hk:Nz k)(hl:ws.length≤100):zv (gz r ws ↑(.int k) ↑(sI x)) G=some (.nx (gz r (ws++[tz k,x]) ↑(.int k) ↑(sI x)) G):=by
 refine dh (e:=⇑.non) (ic (e:=.s 5) rfl rfl (ai (ai (a:=[⇑(sI (tz k)),⇑(sI x)]) (Z1:=gz r ws ↑(.int k) ↑(sI x)) (G1:=G) (ai (ai (ai rfl rfl) (bL rfl rfl (eY hk))) rfl) rfl) rfl) ?_)
 have h1:ws.length+2≤1000000:=by lia
 simp [gz,bW,bW.y2a6,pk,dz,sq,h1]
theorem yh{r:Rc}{G:List M}{ks:List Int}{xs:List (List Nat)}(hk:∀k∈ks,Nz k)(hl:ks.length=xs.length):∀{ks2:List Int} {xs2:List (List Nat)} {ws:List (List Nat)} {i:Nat} {v6 v7:Option Vl},ks.drop i=ks2->xs.drop i=xs2->ws.length+2*ks2.length≤10->∃v6' v7',bP (fz (ks.map I.int) (xs.map sI)) (cj [6,7]) zv i ks2.length (gz r ws v6 v7) G=some (.nx (gz r (ws++oW ks2 xs2) v6' v7') G)
 | [],xs2,ws,i,v6,v7,e1,e2,h=>⟨v6,v7,by rw [show oW [] xs2=[] by unfold oW;rfl,z17];rfl⟩
 | k::ks2,[],ws,i,v6,v7,e1,e2,h=>by
  have h1:=congrArg List.length e1
  have h2:=congrArg List.length e2
  simp at h1 h2
  lia
 | k::ks2,x::xs2,ws,i,v6,v7,e1,e2,h=>by
  have g1:ks[i]?=some k:=by have:=congrArg (·[0]?) e1;simpa using this
  have g2:xs[i]?=some x:=by have:=congrArg (·[0]?) e2;simpa using this
  have f1:ks.drop (i+1)=ks2:=by have:=congrArg (List.drop 1) e1;simpa [Nat.add_comm] using this
  have f2:xs.drop (i+1)=xs2:=by have:=congrArg (List.drop 1) e2;simpa [Nat.add_comm] using this
  have hh:ws.length+2*(ks2.length+1)≤10:=h
  obtain⟨v6',v7',e⟩:=yh hk hl (ks2:=ks2) (xs2:=xs2) (ws:=ws++[tz k,x]) (i:=i+1) (v6:=↑(.int k)) (v7:=↑(sI x)) f1 f2 (by simp;lia)
  refine⟨v6',v7',?_⟩
  show bP _ _ _ i (ks2.length+1) _ G=_
  rw [lg (x:=.int k) (y:=sI x) (Z1:=gz r ws ↑(.int k) ↑(sI x)) (G1:=G) (by rw [List.getElem?_map,g1];rfl) (by rw [List.getElem?_map,g2];rfl) rfl (Gz (hk k (z30 g1)) (by lia)),e]
  simp [oW]
theorem qQ:("out" : Str)=ay cH:=by decide +kernel
theorem GA{r:Rc}{G:List M}(h:r.ok):zw [.im r.oI] G=some (.ow (.lst ((r.Wo::je r.p).map rI)),G):=by
 have hw:=eM r.w
 obtain⟨v6,v7,e3⟩:=yh (r:=r) (G:=G) (ks:=cn r.w) (xs:=r.ws) qO h.wl.symm (ws:=[cH]) (i:=0) (v6:=none) (v7:=none) rfl rfl (by simp;lia)
 obtain⟨o1,o2⟩:=Rc.y63 h
 have o3:=eN o2
 have e3:bP (fz ((cn r.w).map I.int) (r.ws.map sI)) (cj [6,7]) zv 0 (fz ((cn r.w).map I.int) (r.ws.map sI)).n (gz r [cH] none none) G=some (.nx (gz r r.Wo v6 v7) G):=by
  have e:(fz ((cn r.w).map I.int) (r.ws.map sI)).n=(cn r.w).length:=by simp [fz,h.wl]
  rw [e];exact e3
 refine aZ rfl (aw (Z1:=[↑r.oI,↑(.str "out"),↑(bz r.w),↑(.tup (r.ws.map sI)),↑(fW r.p),none,none,none]) (G1:=G) (cy (x:=.im r.oI) rfl rfl) (aw (Z1:=gz r [cH] none none) (G1:=G) (cy (x:=.ow (.lst ([cH].map sI))) (ai (ai (by rw [qQ];rfl) rfl) rfl) rfl) (aw (fQ (cA (es:=[⇑(bz r.w),⇑(.tup (r.ws.map sI))]) (Z1:=gz r [cH] none none) (G1:=G) rfl rfl) e3) (bw (Z1:=gz r r.Wo v6 v7) (aO (x:=.v (.ow (.lst [rI r.Wo]))) (Z1:=gz r r.Wo v6 v7) (G1:=G) (ai (ai (a:=⇑(rI r.Wo)) (ig (e:=⇑(.str " ")) rfl rfl (es:=[.s 5]) rfl ?_) rfl) rfl) (y:=.v (.ow (.lst ((je r.p).map rI)))) (Z2:=gz r r.Wo v6 v7) (G2:=G) ?_ ?_)))))
 ·rw [fS,i6 (m:=.lst (r.Wo.map sI)) rfl,fg (by simp;lia),ff];rfl
 ·unfold fw
  cases hp:r.p with
  | none=>exact ai (a:=true) (Z1:=gz r r.Wo v6 v7) (G1:=G) (by simp! [gz,hp,fW]) rfl
  | some p =>
   refine ai (a:=false) (Z1:=gz r r.Wo v6 v7) (G1:=G) (by simp! [gz,hp,fW,Pp.i]) (by rw [if_neg zf];exact ai (a:=[⇑p.i]) (Z1:=gz r r.Wo v6 v7) (G1:=G) (by simp! [gz,hp,fW]) (bL rfl rfl (Gy (h.p p hp))))
 ·have h1:1+(je r.p).length≤1000000:=by
   cases hp:r.p with
   | none=>simp [je]
   | some p=>have:=(h.p p hp).2.2.1;simp [je];lia
  simp [ck,eP,pQ,cv,mL,nZ,pP,pk,h1]
end
section
inductive Rw where
 | c (a b:Int)|q (u:Qn)|o (r:Rc)
noncomputable def Rw.i:Rw->I
 | .c a b=>.tup [.str "claims",.int a,.int b]
 | .q u=>u.i
 | .o r=>r.oI
noncomputable def Rw.W:Rw->List (List (List Nat))
 | .c a b=>[[ik,tz a,tz b]]
 | .q u=>[u.W]
 | .o r=>r.Wo::je r.p
noncomputable def Rw.ok:Rw->Prop
 | .c a b=>Nz a/\Nz b
 | .q u=>u.ok
 | .o r=>r.ok
noncomputable def Rc.pre(r:Rc):List Rw:=.c r.a r.b::r.qs.map .q
noncomputable def Rc.all(r:Rc):List Rw:=r.pre++[.o r]
theorem Rc.y379(r:Rc):r.pre.map Rw.i=r.cI::r.qs.map Qn.i:=by simp [Rc.pre,Rw.i,Rc.cI]
theorem Rc.all_i(r:Rc):r.i=.tup (r.all.map Rw.i):=by simp [Rc.all,Rc.i,Rc.y379,Rw.i]
theorem Rc.y378(r:Rc):r.pre.flatMap Rw.W=r.W0::r.qs.map Qn.W:=by
 have:∀qs:List Qn,(qs.map Rw.q).flatMap Rw.W=qs.map Qn.W:=λqs=>by induction qs<;>simp_all [Rw.W]
 simp only [Rc.pre,List.flatMap_cons,this];rfl
theorem Rc.y77(r:Rc):r.all.flatMap Rw.W=r.rows:=by simp [Rc.all,Rc.y378,Rw.W,Rc.rows]
theorem Rc.y37a{r:Rc}(h:r.ok):∀x∈r.pre,x.ok:=λx hx=>by
 rcases zb.mp hx with e|hx
 ·subst e;exact⟨h.a,h.b⟩
 ·obtain⟨q,hq,rfl⟩:=z2b.mp hx;exact h.qs q hq
theorem Rc.y78{r:Rc}(h:r.ok):∀x∈r.all,x.ok:=λx hx=>by
 rcases z1a.mp hx with hx|hx
 ·exact Rc.y37a h x hx
 ·rw [z22.mp hx];exact h
theorem y60{a b:Int}(h:Nz a/\Nz b):([ik,tz a,tz b]:List (List Nat)).length≤10/\∀x∈([ik,tz a,tz b]:List (List Nat)),x.length≤39:=by
 have l1:=bH h.1
 have l2:=bH h.2
 have l3:ik.length=6:=rfl
 refine⟨by simp,?_⟩
 simp
 lia
theorem Pp.y62{p:Pp}(h:p.ok):p.W.length≤10/\∀x∈p.W,x.length≤39:=by
 have l1:=bH h.1
 have l2:=bH h.2.1
 have l3:dj.length=5:=rfl
 have l4:il.length=2:=rfl
 refine⟨by simp [Pp.W],?_⟩
 simp [Pp.W]
 lia
theorem Rw.y62{x:Rw}(h:x.ok):x.W.length≤8/\∀w∈x.W,w.length≤10/\∀y∈w,y.length≤39:=by
 cases x with
 | c a b=>exact⟨by simp [W],λw hw=>by rw [z22.mp hw];exact y60 h⟩
 | q q=>exact⟨by simp [W],λw hw=>by rw [z22.mp hw];exact Qn.y62 h⟩
 | o r =>
  have h:r.ok:=h
  obtain⟨o1,o2⟩:=Rc.y63 h
  cases hp:r.p with
  | none =>
   refine⟨by simp [W,hp,je],λw hw=>?_⟩
   rw [W,hp] at hw
   rw [z22.mp hw]
   exact⟨by lia,o2⟩
  | some p =>
   have ok:=h.p p hp
   have:=ok.2.2.1
   refine⟨by simp [W,hp,je];lia,λw hw=>?_⟩
   rw [W,hp] at hw
   rcases zb.mp hw with e|hw
   ·subst e;exact⟨by lia,o2⟩
   ·rcases zb.mp hw with e|hw
    ·subst e;exact Pp.y62 ok
    ·obtain⟨t,ht,rfl⟩:=z2b.mp hw
     exact Pt.y62 (ok.2.2.2 t ht)
theorem Rw.y64{xs:List Rw}(h:∀x∈xs,x.ok):(xs.flatMap Rw.W).length≤8*xs.length/\∀w∈xs.flatMap Rw.W,w.length≤10/\∀y∈w,y.length≤39:=by
 constructor
 ·induction xs with
  | nil=>simp
  | cons x xs ih =>
   have h1:=(Rw.y62 (h x List.mem_cons_self)).1
   have h2:=ih λy hy=>h y (z1d _ hy)
   rw [List.flatMap_cons,z18,z20];lia
 ·intro w hw
  obtain⟨x,hx,hw⟩:=List.mem_flatMap.mp hw
  exact (Rw.y62 (h x hx)).2 w hw
noncomputable def g9(i:I)(rows:List (List (List Nat)))(v2:Option Vl):De:=[↑i,↥(rows.map rI),v2]
theorem yd2:("claims" : Str)=ay ik:=by decide +kernel
theorem GB{i:I}{rows:List (List (List Nat))}{x:Rw}{G:List M}(h:x.ok)(hl:rows.length≤1000):Ft (g9 i rows ↑x.i) G=some (.nx (g9 i (rows++x.W) ↑x.i) G):=by
 let Z:=g9 i rows ↑x.i
 have hl1:rows.length<1000000:=by lia
 cases x with
 | c a b =>
  have i0:ak aH (aa 2) (ah (.int 0)) Z G=some (⇑(.str "claims"),Z,G):=by simp! [Z,g9,Rw.i,at0]
  have i1:ak aH (aa 2) (ah (.int 1)) Z G=some (⇑(.int a),Z,G):=by simp! [Z,g9,Rw.i,g0]
  have i2:ak aH (aa 2) (ah (.int 2)) Z G=some (⇑(.int b),Z,G):=by simp! [Z,g9,Rw.i,at2]
  obtain⟨c1,c2⟩:=y60 h
  have c3:=eN c2
  refine df (Z1:=Z) (G1:=G) (ai (aO i0 rfl rfl) rfl) (dh (e:=⇑.non) (ic (e:=.s 1) rfl rfl (ai (a:=⇑(rI [ik,tz a,tz b])) (Z1:=Z) (G1:=G) (ig (e:=⇑(.str " ")) rfl rfl (es:=[.v (.ow (.lst ([ik,tz a,tz b].map sI)))]) (Z2:=Z) (G2:=G) (ai (ai (a:=[⇑(sI ik),⇑(sI (tz a)),⇑(sI (tz b))]) (Z1:=Z) (G1:=G) (ai (by rw [yd2];rfl) (ai (ai (ai (ai i1 rfl) (bL rfl rfl (eY h.1))) (ai (ai (ai (ai i2 rfl) (bL rfl rfl (eY h.2))) rfl) rfl)) rfl)) rfl) rfl) ?_) rfl) ?_))
  ·rw [fS,fg (by simp at c3 ⊢;lia),ff]
   rfl
  ·simp [Z,g9,dU,pk,dz,fV,gZ,de,hl1,Rw.W]
 | q q =>
  have h:q.ok:=h
  have i0:ak aH (aa 2) (ah (.int 0)) Z G=some (⇑(.str "asked"),Z,G):=by simp! [Z,g9,Rw.i,Qn.i,at0]
  refine bG (Z1:=Z) (G1:=G) (ai (aO i0 rfl rfl) rfl) (df (Z1:=Z) (G1:=G) (ai (aO i0 rfl rfl) rfl) (dh (e:=⇑.non) (ic (e:=.s 1) rfl rfl (ai (a:=⇑(rI q.W)) (Z1:=Z) (G1:=G) (ai (ai rfl rfl) (bL rfl rfl (Gw h))) rfl) ?_)))
  simp [Z,g9,dU,pk,dz,fV,gZ,de,hl1,Rw.W]
 | o r =>
  have h:r.ok:=h
  have i0:ak aH (aa 2) (ah (.int 0)) Z G=some (⇑(.str "out"),Z,G):=by simp! [Z,g9,Rw.i,Rc.oI,at0]
  have hw:=(Rw.y62 (x:=.o r) h).1
  refine bG (Z1:=Z) (G1:=G) (ai (aO i0 rfl rfl) rfl) (bG (Z1:=Z) (G1:=G) (ai (aO i0 rfl rfl) rfl) (dh (e:=⇑.non) (ic (e:=.s 1) rfl rfl (ai (a:=.v (.ow (.lst ((r.Wo::je r.p).map rI)))) (Z1:=Z) (G1:=G) (ai (ai rfl rfl) (bL rfl rfl (GA h))) rfl) ?_)))
  have h1:rows.length+((je r.p).length+1)≤1000000:=by simp [Rw.W] at hw;lia
  simp [Z,g9,bW,bW.y2a6,pk,dz,sq,h1,Rw.W]
theorem qR:("\n" : Str)=ay [10]:=by decide +kernel
theorem yi{xs:List Rw}{G:List M}(h:∀x∈xs,x.ok)(hl:xs.length≤20):qu [.im (.tup (xs.map Rw.i))] G=some (.im (sI (jn 10 ((xs.flatMap Rw.W).map (jn 32)))),G):=by
 obtain⟨Z',G',e,v2,ed,eg⟩:=ie (w:=b9 ⇑(.tup (xs.map Rw.i)) xs.length) (g:=bf 2) (b:=Ft) (λi Z G'=>∃v2,Z=g9 (.tup (xs.map Rw.i)) ((xs.take i).flatMap Rw.W) v2/\G'=G)
  (λi Z g hi ⟨v2,ed,eg⟩=>by
   have hi:i<xs.length:=hi
   subst ed;subst eg
   have hk:=(Rw.y64 (xs:=xs.take i) λy hy=>h y (List.mem_of_mem_take hy)).1
   have hk2:(xs.take i).length≤xs.length:=by simp;lia
   refine⟨xs[i].i,g9 (.tup (xs.map Rw.i)) ((xs.take i).flatMap Rw.W) ↑xs[i].i,g,_,g,?_,rfl,GB (h _ (z2e hi)) (by lia),↑xs[i].i,?_,rfl⟩
   ·simp [b9,sq,pk,hi]
   ·rw [List.take_add_one,z15 hi,List.flatMap_append];simp)
  (λZ g ⟨_,ed,_⟩=>by simp [b9,sq,pk]) xs.length 0 (g9 (.tup (xs.map Rw.i)) [] none) G (by simp [b9]) ⟨none,by simp,rfl⟩
 have ed:Z'=g9 (.tup (xs.map Rw.i)) ((xs.take xs.length).flatMap Rw.W) v2:=ed
 rw [ed,eg,List.take_length] at e
 obtain⟨c1,c2⟩:=Rw.y64 h
 have c3:∀w∈(xs.flatMap Rw.W).map (jn 32),w.length≤400:=λw hw=>by
  obtain⟨u,hu,rfl⟩:=z2b.mp hw
  have a1:=lh 32 u
  have a2:=eN (c2 u hu).2
  have a3:=(c2 u hu).1
  lia
 have c4:=eN c3
 rw [z14] at c4
 have er:(xs.flatMap Rw.W).map rI=((xs.flatMap Rw.W).map (jn 32)).map sI:=by rw [z2f];rfl
 refine aZ rfl (aw (Z1:=g9 (.tup (xs.map Rw.i)) [] none) (G1:=G) (cy (x:=.ow (.lst [])) rfl rfl) (aw (fQ (cA (es:=[⇑(.tup (xs.map Rw.i))]) (Z1:=g9 (.tup (xs.map Rw.i)) [] none) (G1:=G) rfl (gx (z14 _))) e) (bw (Z1:=g9 (.tup (xs.map Rw.i)) (xs.flatMap Rw.W) v2) (ig (e:=⇑(.str "\n")) rfl rfl (es:=[.s 1]) rfl ?_))))
 rw [qR,i6 (m:=.lst ((xs.flatMap Rw.W).map rI)) rfl,er,fg (by rw [z14];simp only [z20,List.length_nil];lia),ff];rfl
end
section
noncomputable def cm(G G':List M):Prop:=G.length≤G'.length/\∀j,j<G.length->G'[j]?=G[j]?
theorem cm.refl(G:List M):cm G G:=⟨z13 _,λ_ _=>rfl⟩
theorem cm.trans{a b c:List M}(h:cm a b)(k:cm b c):cm a c:=⟨z21 h.1 k.1,λj hj=>(k.2 j (z1e hj h.1)).trans (h.2 j hj)⟩
theorem cm.app(G L:List M):cm G (G++L):=⟨by simp,λj hj=>z2a hj⟩
theorem cm.get{a b:List M}(h:cm a b){j:Nat}{m:M}(hj:a[j]?=some m):b[j]?=some m:=(h.2 j (z1f.mp hj).1).trans hj
theorem iq(G:List M)(m:M):(G++[m])[G.length]?=some m:=by simp
theorem kne{a b:List Nat}{s:Str}(hs:s=ay b)(h:a≠b):(ay a == s)=false:=by rw [hs,k9];exact decide_eq_false h
theorem lr{a:List Nat}{s:Str}(hs:s=ay a):(ay a == s)=true:=by rw [hs];simp
theorem j5{ws:List (List Nat)}{f:Mo Ev}{Z:De}{G:List M}{j q:Nat}{p:List Nat}(h:f Z G=some (⇑(.ref q),Z,G))(hq:G[q]?=some (.lst (ws.map sI)))(hp:ws[j]?=some p):ak aH f (ah (.int (j:Int))) Z G=some (⇑(sI p),Z,G):=by
 refine aO h rfl ?_
 have:dN (ws.map sI) (j:Int)=some (sI p):=nR (by rw [List.getElem?_map,hp];rfl)
 simp [aH,eP,kf,sq,pk,hq,this]
theorem qS{Z:De}{G:List M}{f:Mo Ev}{a b:Str}(h:f Z G=some (⇑(.str a),Z,G)):ax (ak cV f (ah (.str b))) Z G=some (a == b,Z,G):=by
 refine bN (aO h rfl ?_)
 simp! []
theorem ir{Z:De}{G:List M}{f:Mo Ev}{a b:Str}{c:Bool}(h:f Z G=some (⇑(.str a),Z,G))(hb:(a == b)=c):ax (ak gP f (ah (.str b))) Z G=some (!c,Z,G):=by
 refine bN (aO h rfl ?_)
 simp! [hb]
theorem qT{ws:List (List Nat)}{f:Mo Ev}{Z:De}{G:List M}{q:Nat}(h:f Z G=some (⇑(.ref q),Z,G))(hq:G[q]?=some (.lst (ws.map sI))):bd (ag f ae) bD Z G=some (⇑(.int (ws.length:Int)),Z,G):=by
 refine ai (ai h rfl) ?_
 simp [bD,sq,pk,hq]
theorem qU{ws:List (List Nat)}{f:Mo Ev}{Z:De}{G:List M}{q n:Nat}(h:f Z G=some (⇑(.ref q),Z,G))(hq:G[q]?=some (.lst (ws.map sI)))(hn:n≤ws.length):bT f (ba (ah (.int (n:Int)))) cM Z G=some (.v (.ow (.lst ((ws.drop n).map sI))),Z,G):=by
 have hc:fK (ws.map sI) (some (n:Int)) none=(ws.drop n).map sI:=by
  unfold fK
  rw [HT.y411,HT.y412,z14,List.map_drop,Nat.min_eq_left hn]
  rw [z34 (by simp)]
 refine ai h ?_
 have:dS (some (n:Int)) none [⇑(.ref q),⇑(.int (n:Int))] Z G=some (.v (.ow (.lst ((ws.drop n).map sI))),Z,G):=by
  simp [dS,eV,sq,pk,hq,hc]
 exact this
theorem yj{ws:List (List Nat)}{f:Mo Ev}{Z:De}{G:List M}{q n m:Nat}(h:f Z G=some (⇑(.ref q),Z,G))(hq:G[q]?=some (.lst (ws.map sI)))(hn:n≤m)(hm:m≤ws.length):bT f (ba (ah (.int (n:Int)))) (ba (ah (.int (m:Int)))) Z G=some (.v (.ow (.lst (((ws.drop n).take (m-n)).map sI))),Z,G):=by
 have hc:fK (ws.map sI) (some (n:Int)) (some (m:Int))=((ws.drop n).take (m-n)).map sI:=by
  unfold fK
  rw [HT.y411,HT.y411,z14,Nat.min_eq_left hm,Nat.min_eq_left (by lia),List.map_take,List.map_drop]
 refine ai h ?_
 have:dS (some (n:Int)) (some (m:Int)) [⇑(.ref q),⇑(.int (n:Int)),⇑(.int (m:Int))] Z G=some (.v (.ow (.lst (((ws.drop n).take (m-n)).map sI))),Z,G):=by
  simp [dS,eV,sq,pk,hq,hc]
 exact this
theorem qV{c:Mo Bool}{Z:De}{G:List M}(h:c Z G=some (true,Z,G)):fB c Z G=some (false,Z,G):=ai h rfl
theorem GC{zs:List Int}{Z:De}{G:List M}:ia [⇑.non,⇑(.tup (zs.map I.int))] Z G=some (⇑(.bl false),Z,G):=by
 have h1:((zs.map I.int).all λx=>c7 x||qj x)=true:=by simp [c7]
 have h2:(zs.map I.int).any hZ=false:=by simp [hZ]
 show (if _ then _ else _)=_
 rw [if_pos h1,h2]
theorem yk{zs:List Int}{k:Nat}{v:Vl}{G G1:List M}(hb:cF (aa 0) [some v,none] G=some (⇑(.ref k),[↑(.ref k),none],G1))(hq:G1[k]?=some (.lst ((zs.map tz).map sI)))(h:∀z∈zs,Nz z)(hl:zs.length≤100):jY [v] G=some (.im (.tup (zs.map I.int)),G1):=by
 have hm:=cw (xs:=zs) (fi:=λz=>sI (tz z)) (fo:=I.int) (te:=bd (ag (aa 0) ae) (aJ 1 iF)) (e:=⇑(.ref k)) (Z:=[↑(.ref k),none]) (G:=G1) (by simp [sq,pk,hq]) (λz hz=>ai (ai rfl rfl) (bL rfl rfl (nD (h z hz))))
 refine aZ rfl (aw (Z1:=[↑(.ref k),↑(.tup (zs.map I.int))]) (G1:=G1) (cy (x:=.im (.tup (zs.map I.int))) (Z1:=[↑(.ref k),none]) (G1:=G1) (ai (a:=[.v (.ow (.lst (zs.map I.int)))]) (ai (iX (by rfl) (cA (es:=[⇑(.ref k)]) (Z1:=[↑(.ref k),none]) (G1:=G1) (ai hb rfl) (qK hq (by simp))) (by show zs.length≤100000;lia) hm) rfl) rfl) rfl) (bw (Z1:=[↑(.ref k),↑(.tup (zs.map I.int))]) ?_))
 unfold fw
 exact ai (bN (aO rfl rfl GC)) rfl
theorem GD{zs:List Int}{k:Nat}{G:List M}(hq:G[k]?=some (.lst ((zs.map tz).map sI)))(h:∀z∈zs,Nz z)(hl:zs.length≤100):jY [.im (.ref k)] G=some (.im (.tup (zs.map I.int)),G):=yk rfl hq h hl
theorem nG{zs:List Int}{G:List M}(h:∀z∈zs,Nz z)(hl:zs.length≤100):jY [.ow (.lst ((zs.map tz).map sI))] G=some (.im (.tup (zs.map I.int)),G++[.lst ((zs.map tz).map sI)]):=yk rfl (iq _ _) h hl
theorem qW{z:Int}{c:Nat}(h:c≠45)(h2:c<48∨57<c):c∉tz z:=λhc=>by
 rcases xJ z c hc with e|e
 ·exact h e
 ·lia
theorem ym{a b:Int}{c:Nat}{s:Str}{G:List M}(ha:Nz a)(hb:Nz b)(hs:s=ay [c])(h:c≠45)(h2:c<48∨57<c):∃G',qv [.im (sI (tz a++c::tz b)),.im (.str s)] G=some (.im (.tup [.int a,.int b]),G')/\cm G G':=by
 have l1:=bH ha
 have l2:=bH hb
 have hp:jd c (tz a++c::tz b)=[tz a,tz b]:=by rw [qE c _ (qW h h2),qD c (qW h h2)]
 have e1:gn [⇑(sI (tz a++c::tz b)),⇑(.str s)] [↑(sI (tz a++c::tz b)),↑(.str s),none] G=some (.v (.ow (.lst (([a,b].map tz).map sI))),[↑(sI (tz a++c::tz b)),↑(.str s),none],G):=by
  have z3:(s.length == 0)=false:=by rw [hs,cP];rfl
  have z4:(ay (tz a++c::tz b)).length≤1000000:=by rw [cP];simp;lia
  unfold gn
  dsimp only [sI]
  rw [if_pos ⟨z3,z4⟩,hs,show ay [c]=⟨#[c]⟩ from rfl,xy,qA,hp]
  rfl
 refine⟨_,aZ rfl (aw (Z1:=[↑(sI (tz a++c::tz b)),↑(.str s),↥(([a,b].map tz).map sI)]) (G1:=G) (cy (ig rfl rfl rfl e1) rfl) (bw (Z1:=[↑(sI (tz a++c::tz b)),↑(.str s),↑(.ref G.length)]) ?_)),cm.app G [.lst (([a,b].map tz).map sI)]⟩
 unfold fw
 refine ai (a:=true) (Z1:=[↑(sI (tz a++c::tz b)),↑(.str s),↥(([a,b].map tz).map sI)]) (G1:=G) rfl ?_
 rw [if_pos rfl]
 exact ai (ai rfl rfl) (bL rfl rfl (GD (zs:=[a,b]) (iq _ _) (by simpa using ⟨ha,hb⟩) (by simp)))
theorem yn:("." : Str)=ay [46]:=by decide +kernel
theorem ydb:("," : Str)=ay [44]:=by decide +kernel
theorem GG{f:Nat}{p:Pl}{G:List M}(hf:f<3)(h:p.ok f):∃G',zD [.im (sI (bx f)),.im (sI p.tx)] G=some (.im p.i,G')/\cm G G':=by
 cases p with
 | one z =>
  have h:f<2/\Nz z:=h
  refine⟨G,aZ rfl (bw (Z1:=[↑(sI (bx f)),↑(sI (tz z))]) ?_),cm.refl G⟩
  unfold fw
  refine ai (qS rfl) ?_
  rw [qJ hf,decide_eq_false (by lia),if_neg zf]
  exact ai (ai rfl rfl) (bL rfl rfl (nD h.2))
 | two a b =>
  have h:f=2/\Nz a/\Nz b:=h
  obtain⟨G',e,x⟩:=ym (G:=G) h.2.1 h.2.2 yn (by decide) (by decide)
  refine⟨G',aZ rfl (bw (Z1:=[↑(sI (bx f)),↑(sI (Pl.two a b).tx)]) ?_),x⟩
  unfold fw
  refine ai (qS rfl) ?_
  rw [qJ hf,decide_eq_true h.1,if_pos rfl]
  exact ai (ai rfl rfl) (bL rfl rfl e)
end
section
noncomputable def gW(a:An)(v1 v2:Option Vl):De:=[↥(a.W.map sI),v1,v2]
theorem yo:("none" : Str)=ay Sd.no.tx:=by decide +kernel
theorem GH{a:An}{v1:Option Vl}{G:List M}(h:a.s.ok):∃G',fw (ax (ak (gm false) (ah (.str ",")) (ak aH (aa 0) (ah (.int 0))))) (bd (ag (ak aH (aa 0) (ah (.int 0))) (ag (ah (.str ",")) ae)) (aJ 2 qv)) (bd (ag (ak aH (aa 0) (ah (.int 0))) ae) (aJ 1 iF)) (gW a v1 none) G=some (⇑a.s.i,gW a v1 none,G')/\cm G G':=by
 have i0:∀G,ak aH (aa 0) (ah (.int 0)) (gW a v1 none) G=some (⇑(sI a.s.tx),gW a v1 none,G):=λG=>by simp! [gW,An.W,at0]
 have t:ax (ak (gm false) (ah (.str ",")) (ak aH (aa 0) (ah (.int 0)))) (gW a v1 none) G=some (decide (44∈a.s.tx),gW a v1 none,G):=by
  refine bN (aO rfl (i0 G) ?_)
  rw [ydb]
  show some (Ev.v (.im (.bl (jO (ay a.s.tx) (ay [44])))),_,_)=_
  rw [xH,qA]
 cases hs:a.s with
 | no =>
  refine⟨G,?_,cm.refl G⟩
  unfold fw
  refine ai t ?_
  rw [hs,decide_eq_false (by decide),if_neg zf]
  refine ai (ai (i0 G) rfl) (bL rfl rfl ?_)
  rw [hs,sI,<- yo]
  exact F4
 | nm z =>
  rw [hs] at h
  refine⟨G,?_,cm.refl G⟩
  unfold fw
  refine ai t ?_
  rw [hs,decide_eq_false (p:=44∈(Sd.nm z).tx) (qW (z:=z) (c:=44) (by decide) (by decide)),if_neg zf]
  refine ai (ai (i0 G) rfl) (bL rfl rfl ?_)
  rw [hs]
  exact nD h
 | pr x y =>
  rw [hs] at h
  obtain⟨G',e,x⟩:=ym (G:=G) h.1 h.2 ydb (by decide) (by decide)
  refine⟨G',?_,x⟩
  unfold fw
  refine ai t ?_
  rw [hs,decide_eq_true (by simp [Sd.tx]),if_pos rfl]
  refine ai (ai (i0 G) (ai (ai rfl rfl) rfl)) (bL rfl rfl ?_)
  rw [hs]
  exact e
theorem GI{a:An}{G:List M}(h:a.ok):∃G',rS [.ow (.lst (a.W.map sI))] G=some (.im a.i,G')/\cm G G':=by
 have i1:ak aH (aa 0) (ah (.int 1)) (gW a none none) G=some (⇑(sI (tz a.t)),gW a none none,G):=by simp! [gW,An.W,g0]
 obtain⟨G',e,x⟩:=GH (v1:=↑(.int a.t)) (G:=G) h.1
 refine⟨G',aZ rfl (aw (Z1:=gW a ↑(.int a.t) none) (G1:=G) (cy (ai (ai i1 rfl) (bL rfl rfl (nD h.2))) rfl) (aw (Z1:=gW a ↑(.int a.t) ↑a.s.i) (G1:=G') (cy e rfl) (aw (Z1:=gW a ↑(.int a.t) ↑a.s.i) (G1:=G') (bG (Z1:=gW a ↑(.int a.t) ↑a.s.i) (G1:=G') (dF (Z1:=gW a ↑(.int a.t) ↑a.s.i) (G1:=G') rfl ?_) rfl) rfl))),x⟩
 cases hs:a.s with
 | no =>
  refine qw (Z1:=gW a ↑(.int a.t) ↑.non) (G1:=G') rfl ?_
  have i0:ak aH (aa 0) (ah (.int 0)) (gW a ↑(.int a.t) ↑.non) G'=some (⇑(.str (ay Sd.no.tx)),gW a ↑(.int a.t) ↑.non,G'):=by simp! [gW,An.W,at0,hs,sI]
  exact ir i0 (lr yo)
 | nm z=>exact zG rfl
 | pr y z=>exact zG rfl
theorem GJ{as:List An}{Z:De}{G:List M}:ia [⇑.non,⇑(.tup (as.map An.i))] Z G=some (⇑(.bl false),Z,G):=by
 have h1:((as.map An.i).all λx=>c7 x||qj x)=true:=by
  rw [List.all_map]
  refine z36.mpr λa _=>?_
  show (c7 a.i||qj a.i)=true
  unfold An.i
  simp [qj]
 have h2:(as.map An.i).any hZ=false:=by
  rw [List.any_map]
  refine List.any_eq_false.mpr λa _=>?_
  show ¬ hZ a.i=true
  unfold An.i
  simp [hZ]
 show (if _ then _ else _)=_
 rw [if_pos h1,h2]
theorem yda:(":" : Str)=ay [58]:=by decide +kernel
theorem yp:("|" : Str)=ay [124]:=by decide +kernel
theorem nH{Z:De}{G:List M}{f:Mo Ev}{a:List Nat}{b:Str}{c:Bool}(h:f Z G=some (⇑(sI a),Z,G))(hb:(ay a == b)=c):ax (ak cV f (ah (.str b))) Z G=some (c,Z,G):=by rw [<- hb];exact qS h
noncomputable def oD(ws:List (List Nat))(v1 v2:Option Vl):De:=[↥(ws.map sI),v1,v2]
theorem rV{ws:List (List Nat)}{v1 v2:Option Vl}{G:List M}{j:Nat}{p:List Nat}(hp:ws[j]?=some p):ak aH (aa 0) (ah (.int (j:Int))) (oD ws v1 v2) G=some (⇑(sI p),oD ws v1 v2,G):=by
 refine aO (x:=.s 0) rfl rfl ?_
 have:dN (ws.map sI) (j:Int)=some (sI p):=nR (by rw [List.getElem?_map,hp];rfl)
 simp [oD,aH,eP,kf,sq,pk,this]
theorem qX{ws:List (List Nat)}{v1 v2:Option Vl}{G:List M}{n:Nat}{b:Bool}(hb:decide (ws.length=n)=b):ax (ak cV (bd (ag (aa 0) ae) bD) (ah (.int (n:Int)))) (oD ws v1 v2) G=some (b,oD ws v1 v2,G):=by
 refine bN (aO (x:=⇑(.int (ws.length:Int))) (Z1:=oD ws v1 v2) (G1:=G) (ai (ai (a:=.s 0) rfl rfl) (by simp [oD,bD,sq,pk])) rfl ?_)
 have:((ws.length:Int) == (n:Int))=b:=by rw [<- hb];by_cases h:ws.length=n<;>simp [h]<;>lia
 simp! [this]
theorem qY{ws:List (List Nat)}{v1 v2:Option Vl}{G:List M}{n m:Nat}(hn:n≤m)(hm:m≤ws.length):bT (aa 0) (ba (ah (.int (n:Int)))) (ba (ah (.int (m:Int)))) (oD ws v1 v2) G=some (.v (.ow (.lst (((ws.drop n).take (m-n)).map sI))),oD ws v1 v2,G):=by
 have hc:fK (ws.map sI) (some (n:Int)) (some (m:Int))=((ws.drop n).take (m-n)).map sI:=by
  unfold fK
  rw [HT.y411,HT.y411,z14,Nat.min_eq_left hm,Nat.min_eq_left (by lia),List.map_take,List.map_drop]
 refine ai (a:=.s 0) rfl ?_
 have:dS (some (n:Int)) (some (m:Int)) [.s 0,⇑(.int (n:Int)),⇑(.int (m:Int))] (oD ws v1 v2) G=some (.v (.ow (.lst (((ws.drop n).take (m-n)).map sI))),oD ws v1 v2,G):=by
  simp [oD,dS,eV,sq,pk,hc]
 exact this
theorem yb4:("by" : Str)=ay eB:=by decide +kernel
theorem GK:∀w,w=1∨w=2->∃k:Int,cn w=[k]/\g8 w=[eB,[(48+k).toNat]]/\gS [("0",0),("1",1)] (ay [(48+k).toNat])=some k:=by
 rintro w (rfl|rfl)
 ·exact⟨0,rfl,rfl,by decide +kernel⟩
 ·exact⟨1,rfl,rfl,by decide +kernel⟩
theorem y82{w:Nat}{as:List An}{G:List M}(hw:w<3)(hl:as.length=(cn w).length)(h:∀a∈as,a.ok):∃G',zE [.ow (.lst ((g8 w++ip as).map sI))] G=some (.im (.tup [bz w,.tup (as.map An.i)]),G')/\cm G G':=by
 have fin:∀(ws:List (List Nat)) (G':List M),aG (fw (ax (ak ia (ah .non) (aa 2))) (ah .non) (bd (ag (aa 1) (ag (aa 2) ae)) bq)) (oD ws ↑(bz w) ↑(.tup (as.map An.i))) G'=some (.rt (.im (.tup [bz w,.tup (as.map An.i)])) G'):=λws G'=>by
  refine bw (Z1:=oD ws ↑(bz w) ↑(.tup (as.map An.i))) ?_
  unfold fw
  exact ai (bN (aO rfl rfl GJ)) rfl
 by_cases z:w=0
 ·subst z
  match as,hl,h,fin with
  | [a,b],_,h,fin =>
   let ws:List (List Nat):=[58]::a.W++[124]::b.W
   obtain⟨G1,e1,x1⟩:=GI (G:=G) (h a (by simp))
   obtain⟨G2,e2,x2⟩:=GI (G:=G1) (h b (by simp))
   refine⟨G2,aZ rfl (aw (Z1:=oD ws ↑(bz 0) ↑(.tup ([a,b].map An.i))) (G1:=G2) (df (Z1:=oD ws none none) (G1:=G) (qw (Z1:=oD ws none none) (G1:=G) (qX (n:=6) rfl) (qw (Z1:=oD ws none none) (G1:=G) (nH (rV (j:=0) (p:=[58]) rfl) (lr yda)) (nH (rV (j:=3) (p:=[124]) rfl) (lr yp)))) (aw (Z1:=oD ws ↑(bz 0) none) (G1:=G) (cy (x:=.im (bz 0)) rfl rfl) (cy (x:=.im (.tup ([a,b].map An.i))) (Z1:=oD ws ↑(bz 0) none) (G1:=G2) (ai (ai (ai (ai (qY (n:=1) (m:=3) (by decide) (by simp [ws,An.W])) rfl) (bL rfl rfl e1)) (ai (ai (ai (ai (qY (n:=4) (m:=6) (by decide) (by simp [ws,An.W])) rfl) (bL rfl rfl e2)) rfl) rfl)) rfl) rfl))) (fin ws G2)),x1.trans x2⟩
 ·obtain⟨k,k1,k2,k3⟩:=GK w (by lia)
  rw [k1] at hl
  match as,hl,h,fin with
  | [a],_,h,fin =>
   let ws:List (List Nat):=eB::[(48+k).toNat]::[58]::a.W
   have ew:g8 w++ip [a]=ws:=by rw [k2];rfl
   rw [ew]
   obtain⟨G1,e1,x1⟩:=GI (G:=G) (h a (by simp))
   have ei:bz w=.tup [.int k]:=by rw [bz,k1];rfl
   have f1:=fin ws G1
   rw [ei] at f1 ⊢
   have t1:a7 (jW [("0",0),("1",1)]) (ak aH (aa 0) (ah (.int 1))) (oD ws none none) G=some (⇑(.bl true),oD ws none none,G):=cO (rV (j:=1) (p:=[(48+k).toNat]) rfl) (by simp [jW,sI,k3])
   have t2:a7 (gu [("0",0),("1",1)]) (ak aH (aa 0) (ah (.int 1))) (oD ws none none) G=some (⇑(.int k),oD ws none none,G):=cO (rV (j:=1) (p:=[(48+k).toNat]) rfl) (by simp [gu,sI,k3])
   refine⟨G1,aZ rfl (aw (Z1:=oD ws ↑(.tup [.int k]) ↑(.tup ([a].map An.i))) (G1:=G1) (bG (Z1:=oD ws none none) (G1:=G) (zG (qX (n:=6) rfl)) (df (Z1:=oD ws none none) (G1:=G) (qw (Z1:=oD ws none none) (G1:=G) (qX (n:=5) rfl) (qw (Z1:=oD ws none none) (G1:=G) (nH (rV (j:=0) (p:=eB) rfl) (lr yb4)) (qw (Z1:=oD ws none none) (G1:=G) (bN t1) (nH (rV (j:=2) (p:=[58]) rfl) (lr yda))))) (aw (Z1:=oD ws ↑(.tup [.int k]) none) (G1:=G) (cy (x:=.im (.tup [.int k])) (ai (ai t2 rfl) rfl) rfl) (cy (x:=.im (.tup ([a].map An.i))) (Z1:=oD ws ↑(.tup [.int k]) none) (G1:=G1) (ai (ai (ai (ai (qY (n:=3) (m:=5) (by decide) (by simp [ws,An.W])) rfl) (bL rfl rfl e1)) rfl) rfl) rfl)))) f1),x1⟩
end
section
noncomputable def rD(q:Nat)(v1 v2:Option Vl):De:=[↑(.ref q),v1,v2]
theorem yd0{a b:Int}{q:Nat}{G:List M}(ha:Nz a)(hb:Nz b)(hq:G[q]?=some (.lst ([ik,tz a,tz b].map sI))):∃G',zC [.im (.ref q)] G=some (.im (.tup [.str "claims",.int a,.int b]),G')/\cm G G':=by
 let G1:=G++[.lst (([a,b].map tz).map sI)]
 have hq1:G1[q]?=_:=(cm.app G _).get hq
 let Z:De:=[↑(.ref q),↑(.tup [.int a,.int b])]
 refine⟨G1,aZ rfl (aw (Z1:=Z) (G1:=G1) (cy (x:=.im (.tup [.int a,.int b])) (Z1:=[↑(.ref q),none]) (G1:=G1) (ai (ai (qU (n:=1) rfl hq (by simp)) rfl) (bL rfl rfl (nG (zs:=[a,b]) (by simpa using ⟨ha,hb⟩) (by simp)))) rfl) (aw (Z1:=Z) (G1:=G1) (bG (Z1:=Z) (G1:=G1) (dF (Z1:=Z) (G1:=G1) (ir (j5 (j:=0) (p:=ik) rfl hq1 rfl) (lr yd2)) (dF (Z1:=Z) (G1:=G1) rfl rfl)) rfl) (bw (Z1:=Z) ?_))),cm.app G _⟩
 have i0:ak aH (aa 1) (ah (.int 0)) Z G1=some (⇑(.int a),Z,G1):=by simp! [Z,at0]
 have i1:ak aH (aa 1) (ah (.int 1)) Z G1=some (⇑(.int b),Z,G1):=by simp! [Z,g0]
 exact ai (ai rfl (ai (ai i0 (ai (ai i1 rfl) rfl)) rfl)) rfl
theorem yq{f:Nat}{Z:De}{G:List M}(h:f<3):p9 [⇑(sI (bx f)),⇑(.con (List.map I.str ["calls","rows","deeds"]))] Z G=some (⇑(.bl false),Z,G):=by
 rcases (show f=0∨f=1∨f=2 by lia) with z|z|z<;>subst z
 ·kernel_rfl
 ·kernel_rfl
 ·kernel_rfl
theorem y8d{u:Qn}{q:Nat}{G:List M}(h:u.ok)(hq:G[q]?=some (.lst (u.W.map sI))):∃G',zF [.im (.ref q)] G=some (.im u.i,G')/\cm G G':=by
 obtain⟨G1,e1,x1⟩:=GG (G:=G) h.f h.p
 obtain⟨G2,e2,x2⟩:=y82 (G:=G1) h.w h.as h.an
 have q1:=x1.get hq
 have q2:=x2.get q1
 have l:ax (ak n5 (bd (ag (aa 0) ae) bD) (ah (.int 2))) (rD q none none) G=some (false,rD q none none,G):=by
  refine bN (aO (qT rfl hq) rfl ?_)
  have:¬ ((u.W.length:Nat):Int)<2:=by simp [Qn.W];lia
  simp! [this]
 refine⟨G2,aZ rfl (aw (Z1:=rD q none none) (G1:=G) (bG (Z1:=rD q none none) (G1:=G) (dF (Z1:=rD q none none) (G1:=G) (bN (aO (j5 (j:=0) (p:=bx u.f) rfl hq rfl) rfl (yq h.f))) l) rfl) (aw (Z1:=rD q ↑u.p.i none) (G1:=G1) (cy (x:=.im u.p.i) (Z1:=rD q none none) (G1:=G1) (ai (ai (j5 (j:=0) (p:=bx u.f) rfl hq rfl) (ai (ai (j5 (j:=1) (p:=u.p.tx) rfl hq rfl) rfl) rfl)) (bL rfl rfl e1)) rfl) (aw (Z1:=rD q ↑u.p.i ↑(.tup [bz u.w,.tup (u.as.map An.i)])) (G1:=G2) (cy (x:=.im (.tup [bz u.w,.tup (u.as.map An.i)])) (Z1:=rD q ↑u.p.i none) (G1:=G2) (ai (ai (qU (n:=2) rfl q1 (by simp [Qn.W])) rfl) (bL rfl rfl e2)) rfl) (aw (Z1:=rD q ↑u.p.i ↑(.tup [bz u.w,.tup (u.as.map An.i)])) (G1:=G2) (bG (Z1:=rD q ↑u.p.i ↑(.tup [bz u.w,.tup (u.as.map An.i)])) (G1:=G2) (dF (Z1:=rD q ↑u.p.i ↑(.tup [bz u.w,.tup (u.as.map An.i)])) (G1:=G2) ?_ rfl) rfl) (bw (Z1:=rD q ↑u.p.i ↑(.tup [bz u.w,.tup (u.as.map An.i)])) ?_))))),x1.trans x2⟩
 ·cases u.p<;>rfl
 ·let Z:=rD q ↑u.p.i ↑(.tup [bz u.w,.tup (u.as.map An.i)])
  have i0:ak aH (aa 2) (ah (.int 0)) Z G2=some (⇑(bz u.w),Z,G2):=by simp! [Z,rD,at0]
  have i1:ak aH (aa 2) (ah (.int 1)) Z G2=some (⇑(.tup (u.as.map An.i)),Z,G2):=by simp! [Z,rD,g0]
  exact ai (ai rfl (ai (ai (j5 (j:=0) (p:=bx u.f) rfl q2 rfl) (ai (ai rfl (ai (ai i0 (ai (ai i1 rfl) rfl)) rfl)) rfl)) rfl)) rfl
theorem GL{a b:Int}{q:Nat}{G:List M}(ha:Nz a)(hb:Nz b)(hq:G[q]?=some (.lst ([dj,tz a,il,tz b].map sI))):∃G',rR [.im (.ref q)] G=some (.im (.tup [.int a,.int b]),G')/\cm G G':=by
 refine⟨_,aZ rfl (aw (Z1:=[↑(.ref q)]) (G1:=G) (bG (Z1:=[↑(.ref q)]) (G1:=G) (dF (Z1:=[↑(.ref q)]) (G1:=G) (bN (aO (qT rfl hq) rfl rfl)) (dF (Z1:=[↑(.ref q)]) (G1:=G) (ir (j5 (j:=0) (p:=dj) rfl hq rfl) (lr yg)) (ir (j5 (j:=2) (p:=il) rfl hq rfl) (lr t_e)))) rfl) (bw (Z1:=[↑(.ref q)]) (ai (a:=[.v (.ow (.lst (([a,b].map tz).map sI)))]) (ai (ai (ai (j5 (j:=1) (p:=tz a) rfl hq rfl) (ai (ai (j5 (j:=3) (p:=tz b) rfl hq rfl) rfl) rfl)) rfl) rfl) (bL rfl rfl (nG (zs:=[a,b]) (by simpa using ⟨ha,hb⟩) (by simp)))))),cm.app G _⟩
theorem GN{p:Pt}{q:Nat}{G:List M}(h:p.ok)(hq:G[q]?=some (.lst (p.W.map sI))):∃G',zB [.im (.ref q)] G=some (.im p.i,G')/\cm G G':=by
 let G1:=G++[.lst (([p.k,p.w].map tz).map sI)]
 let G2:=G1++[.lst ((p.ss.map tz).map sI)]
 have q1:G1[q]?=_:=(cm.app G _).get hq
 have hs:=h.2.2.1
 have l:ax (ak n5 (bd (ag (aa 0) ae) bD) (ah (.int 4))) (rD q none none) G=some (false,rD q none none,G):=by
  refine bN (aO (qT rfl hq) rfl ?_)
  have:¬ ((p.W.length:Nat):Int)<4:=by simp [Pt.W];lia
  simp! [this]
 let i1:I:=.tup [.int p.k,.int p.w]
 let i2:I:=.tup (p.ss.map I.int)
 refine⟨G2,aZ rfl (aw (Z1:=rD q none none) (G1:=G) (bG (Z1:=rD q none none) (G1:=G) (dF (Z1:=rD q none none) (G1:=G) l (dF (Z1:=rD q none none) (G1:=G) (ir (j5 (j:=0) (p:=fj) rfl hq rfl) (lr qP)) (ir (j5 (j:=3) (p:=eB) rfl hq rfl) (lr yb4)))) rfl) (aw (Z1:=rD q ↑i1 none) (G1:=G1) (cy (x:=.im i1) (Z1:=rD q none none) (G1:=G1) (ai (ai (yj (n:=1) (m:=3) rfl hq (by decide) (by simp [Pt.W])) rfl) (bL rfl rfl (nG (zs:=[p.k,p.w]) (by simpa using ⟨h.1,h.2.1⟩) (by simp)))) rfl) (aw (Z1:=rD q ↑i1 ↑i2) (G1:=G2) (cy (x:=.im i2) (Z1:=rD q ↑i1 none) (G1:=G2) (ai (ai (qU (n:=4) rfl q1 (by simp [Pt.W])) rfl) (bL rfl rfl (nG (zs:=p.ss) h.2.2.2 (by lia)))) rfl) (aw (Z1:=rD q ↑i1 ↑i2) (G1:=G2) (bG (Z1:=rD q ↑i1 ↑i2) (G1:=G2) (dF (Z1:=rD q ↑i1 ↑i2) (G1:=G2) rfl rfl) rfl) (bw (Z1:=rD q ↑i1 ↑i2) ?_))))),(cm.app G _).trans (cm.app G1 _)⟩
 have j0:ak aH (aa 1) (ah (.int 0)) (rD q ↑i1 ↑i2) G2=some (⇑(.int p.k),rD q ↑i1 ↑i2,G2):=by simp! [i1,rD,at0]
 have j1:ak aH (aa 1) (ah (.int 1)) (rD q ↑i1 ↑i2) G2=some (⇑(.int p.w),rD q ↑i1 ↑i2,G2):=by simp! [i1,rD,g0]
 exact ai (ai j0 (ai (ai j1 rfl) rfl)) rfl
end
section
theorem nI{ws:List (List Nat)}{xs:List I}{Z:De}{G:List M}{q:Nat}{lo:Int}{f:Mo Ev}(h:f Z G=some (⇑(.ref q),Z,G))(hq:G[q]?=some (.lst (ws.map sI)))(hx:fL (ws.map sI) (some lo) none (some 2)=xs):kR f (ba (ah (.int lo))) cM (ah (.int 2)) Z G=some (.v (.ow (.lst xs)),Z,G):=by
 refine ai h (ai (a:=[⇑(.int lo)]) (Z1:=Z) (G1:=G) rfl (ai (a:=[]) (Z1:=Z) (G1:=G) rfl (ai (a:=[⇑(.int 2)]) (Z1:=Z) (G1:=G) rfl ?_)))
 simp [jH,eV,sq,pk,hq,hx]
theorem GO{c:Mo Bool}{Z Z1:De}{G G1:List M}(h:c Z G=some (true,Z1,G1)):fB c Z G=some (false,Z1,G1):=ai h rfl
theorem GP{ws:List (List Nat)}{w:List Nat}{q:Nat}{G:List M}(hq:G[q]?=some (.lst ((w::ws).map sI)))(h:w≠cH):lI [.im (.ref q)] G=some (.im .non,G):=by
 refine aZ rfl (aw (Z1:=rD q ↥(fL ((w::ws).map sI) (some 1) none (some 2)) none) (G1:=G) (cy (nI rfl hq rfl) rfl) (aw (Z1:=rD q ↥(fL ((w::ws).map sI) (some 1) none (some 2)) ↥(fL ((w::ws).map sI) (some 2) none (some 2))) (G1:=G) (cy (nI rfl hq rfl) rfl) (ib (df (Z1:=rD q ↥(fL ((w::ws).map sI) (some 1) none (some 2)) ↥(fL ((w::ws).map sI) (some 2) none (some 2))) (G1:=G) (Fw (ir (j5 (j:=0) (p:=w) rfl hq rfl) (kne qQ h))) rfl))))
theorem GQ{x:List Nat}{Z:De}{G:List M}(h:x∈i5):vS [⇑(sI x),⇑(.con (List.map I.str ["silent","form","late","twice","count","closed","deed"]))] Z G=some (⇑(.bl true),Z,G):=by
 simp only [i5,zb,List.not_mem_nil,or_false] at h
 rcases h with e|e|e|e|e|e|e<;>subst e<;>kernel_rfl
noncomputable def wc(k:Int):List Nat:=[(48+k).toNat]
theorem yad:∀xs:List (List Nat),m3 (xs.map λ_=>I.bl true)=some (xs.map λ_=>true)
 | []=>rfl
 | x::xs=>by
  have:=yad xs
  simp [m3,this]
noncomputable def l3:List M:=[.lst [.str "0"],.lst [.str "1"],.lst [.str "0",.str "1"]]
theorem qZ{ks:List Int}{xs:List (List Nat)}{q:Nat}{G:List M}(hq:G[q]?=some (.lst ((cH::oW ks xs).map sI)))(h1:fL ((cH::oW ks xs).map sI) (some 1) none (some 2)=(ks.map wc).map sI)(h2:fL ((cH::oW ks xs).map sI) (some 2) none (some 2)=xs.map sI)(hk:∀k∈ks,gS [("0",0),("1",1)] (ay (wc k))=some k)(hx:∀x∈xs,x∈i5)(hl:ks.length=xs.length)(hs:ks.length≤2)
  (hn:([[I.str "0"],[I.str "1"],[I.str "0",I.str "1"]].any λys=>jT ys ((ks.map wc).map sI))=true):∃G',lI [.im (.ref q)] G=some (.im (.tup [.str "out",.tup (ks.map I.int),.tup (xs.map sI),.non]),G')/\cm G G':=by
 let w1:M:=.lst ((ks.map wc).map sI)
 let w2:M:=.lst (xs.map sI)
 let G1:=G++[.lst [.str "0"]]++[.lst [.str "1"]]++[.lst [.str "0",.str "1"]]
 let G2:=G1++[w2]
 let G3:=G2++[w1]
 have x1:cm G G1:=((cm.app _ _).trans (cm.app _ _)).trans (cm.app _ _)
 let Z1:=rD q (some (.ow w1)) (some (.ow w2))
 let Z2:=rD q (some (.ow w1)) ↑(.ref G1.length)
 let Z3:=rD q ↑(.ref G2.length) ↑(.ref G1.length)
 have t1:ak jV (aa 1) (bd (ag (cF (bd (ag (ah (.str "0")) ae) aT)) (ag (cF (bd (ag (ah (.str "1")) ae) aT)) (ag (cF (bd (ag (ah (.str "0")) (ag (ah (.str "1")) ae)) aT)) ae))) bq) Z1 G=some (⇑(.bl false),Z1,G1):=by
  refine aO (x:=.s 1) (y:=⇑(.tup [.ref G.length,.ref (G++[M.lst [I.str "0"]]).length,.ref (G++[M.lst [I.str "0"]]++[M.lst [I.str "1"]]).length])) (Z2:=Z1) (G2:=G1) rfl rfl ?_
  have r:jU G1 [.ref G.length,.ref (G++[M.lst [I.str "0"]]).length,.ref (G++[M.lst [I.str "0"]]++[M.lst [I.str "1"]]).length]=some [[.str "0"],[.str "1"],[.str "0",.str "1"]]:=by
   have a2:G1[(G++[M.lst [I.str "0"]]++[M.lst [I.str "1"]]).length]?=some (.lst [.str "0",.str "1"]):=iq _ _
   have a1:G1[(G++[M.lst [I.str "0"]]).length]?=some (.lst [.str "1"]):=(cm.app _ _).get (iq _ _)
   have a0:G1[G.length]?=some (.lst [.str "0"]):=((cm.app _ _).trans (cm.app _ _)).get (iq G (.lst [.str "0"]))
   simp only [jU,a0,a1,a2]
  have p:pk Z1 G1 (.s 1)=some w1:=rfl
  have f1:(((ks.map wc).map sI).all c7&&([[I.str "0"],[I.str "1"],[I.str "0",I.str "1"]]:List (List I)).all λys=>ys.all c7)=true:=by simp [c7,sI]
  unfold jV
  dsimp only
  rw [p,r]
  dsimp only [w1]
  rw [if_pos f1,hn]
  rfl
 have t2:ax (ak gP (bd (ag (aa 2) ae) bD) (bd (ag (aa 1) ae) bD)) Z1 G1=some (false,Z1,G1):=by
  refine bN ?_
  have:((xs.length:Nat):Int)=ks.length:=by lia
  simp! [Z1,rD,w1,w2,this]
 have m1:=cw (xs:=xs) (fi:=sI) (fo:=λ_=>I.bl true) (te:=ak vS (aa 0) (ah (.con (List.map I.str ["silent","form","late","twice","count","closed","deed"])))) (e:=⇑(.ref G1.length)) (Z:=Z2) (G:=G2) (by have:=iq G1 w2;simp [sq,pk,G2,this];rfl) (λx x1=>aO rfl rfl (GQ (hx x x1)))
 have c1':da (bX (one (cF (aa 2))) br) [] c1 bb (ak vS (aa 0) (ah (.con (List.map I.str ["silent","form","late","twice","count","closed","deed"])))) Z1 G1=some (.v (.ow (.lst (xs.map λ_=>I.bl true))),Z2,G2):=iX (by rfl) (cA (es:=[⇑(.ref G1.length)]) (Z1:=Z2) (G1:=G2) rfl (qK (xs:=xs.map sI) (n:=xs.length) (iq G1 w2) (by simp))) (by show xs.length≤100000;lia) m1
 have m2:=cw (xs:=ks) (fi:=λk=>sI (wc k)) (fo:=I.int) (te:=a7 (gu [("0",0),("1",1)]) (aa 0)) (e:=⇑(.ref G2.length)) (Z:=Z3) (G:=G3) (by have:=iq G2 w1;simp [sq,pk,G3,this];simp [w1]) (λk k1=>cO rfl (by simp [gu,sI,hk k k1]))
 have c2':da (bX (one (cF (aa 1))) br) [] c1 bb (a7 (gu [("0",0),("1",1)]) (aa 0)) Z2 G2=some (.v (.ow (.lst (ks.map I.int))),Z3,G3):=iX (by rfl) (cA (es:=[⇑(.ref G2.length)]) (Z1:=Z3) (G1:=G3) rfl (qK (xs:=(ks.map wc).map sI) (n:=ks.length) (iq G2 w1) (by simp))) (by show ks.length≤100000;lia) m2
 have t3:bd (ag (aa 2) ae) cf Z3 G3=some (⇑(.tup (xs.map sI)),Z3,G3):=by
  have:G3[G1.length]?=some w2:=(cm.app _ _).get (iq _ _)
  refine ai (a:=[⇑(.ref G1.length)]) (Z1:=Z3) (G1:=G3) rfl ?_
  simp [cf,sq,pk,this,w2]
 refine⟨G3,aZ rfl (aw (Z1:=rD q (some (.ow w1)) none) (G1:=G) (cy (nI rfl hq h1) rfl) (aw (Z1:=Z1) (G1:=G) (cy (nI rfl hq h2) rfl) (aw (Z1:=Z1) (G1:=G1) (bG (Z1:=Z1) (G1:=G1) (dF (Z1:=Z1) (G1:=G) (ir (j5 (j:=0) (p:=cH) rfl hq rfl) (lr qQ)) (dF (Z1:=Z1) (G1:=G1) (bN t1) t2)) rfl) (aw (Z1:=Z2) (G1:=G2) (bG (Z1:=Z2) (G1:=G2) (GO (ai (a:=⇑(.bl true)) (Z1:=Z2) (G1:=G2) (ai (ai c1' rfl) ?_) rfl)) rfl) (bw (Z1:=Z3) (ai (ai rfl (ai (ai (a:=⇑(.tup (ks.map I.int))) (Z1:=Z3) (G1:=G3) (ai (ai c2' rfl) rfl) (ai (ai t3 (ai (ai rfl rfl) rfl)) rfl)) rfl)) rfl)))))),(x1.trans (cm.app _ _)).trans (cm.app _ _)⟩
 have b:=yad xs
 have b2:(xs.map λ_=>true).all id=true:=by simp
 simp [m4,pk,b]
theorem GR{r:Rc}{q:Nat}{G:List M}(h:r.ok)(hq:G[q]?=some (.lst (r.Wo.map sI))):∃G',lI [.im (.ref q)] G=some (.im (.tup [.str "out",bz r.w,.tup (r.ws.map sI),.non]),G')/\cm G G':=by
 have hw:=h.w
 have hl:=h.wl
 have hx:=h.ws
 unfold Rc.Wo at hq
 unfold bz
 generalize r.ws=xs at *
 rcases (show r.w=0∨r.w=1∨r.w=2 by lia) with z|z|z<;>rw [z] at hl hq ⊢
 ·match xs,hl,hq,hx with
  | [x,y],hl,hq,hx=>exact qZ hq (by kernel_rfl) (by kernel_rfl) (by decide +kernel) hx rfl (by decide) (by decide +kernel)
 ·match xs,hl,hq,hx with
  | [x],hl,hq,hx=>exact qZ hq (by kernel_rfl) (by kernel_rfl) (by decide +kernel) hx rfl (by decide) (by decide +kernel)
 ·match xs,hl,hq,hx with
  | [x],hl,hq,hx=>exact qZ hq (by kernel_rfl) (by kernel_rfl) (by decide +kernel) hx rfl (by decide) (by decide +kernel)
end
section
noncomputable def lu(t l:Nat)(ov en:I):M:=.obj "RecordReading" [("told",.ref t),("over",ov),("ends",en),("leaves",.ref l)]
theorem ly(a b c d:I):List.lookup ("told" : Str) [("told",a),("over",b),("ends",c),("leaves",d)]=some a:=by kernel_rfl
theorem iu(a b c d:I):List.lookup ("over" : Str) [("told",a),("over",b),("ends",c),("leaves",d)]=some b:=by kernel_rfl
theorem i7(a b c d:I):List.lookup ("ends" : Str) [("told",a),("over",b),("ends",c),("leaves",d)]=some c:=by kernel_rfl
theorem yr(a b c d:I):List.lookup ("leaves" : Str) [("told",a),("over",b),("ends",c),("leaves",d)]=some d:=by kernel_rfl
theorem GS(a b c d:I):List.lookup ("take" : Str) [("told",a),("over",b),("ends",c),("leaves",d)]=none:=by kernel_rfl
theorem yt(a b c d:I):List.lookup ("keep" : Str) [("told",a),("over",b),("ends",c),("leaves",d)]=none:=by kernel_rfl
theorem yu(a b c d:I):List.lookup ("keep_leaf" : Str) [("told",a),("over",b),("ends",c),("leaves",d)]=none:=by kernel_rfl
theorem GU(a b c d:I):List.lookup ("made_record" : Str) [("told",a),("over",b),("ends",c),("leaves",d)]=none:=by kernel_rfl
theorem yw(a b c d x:I):gc "over" x [("told",a),("over",b),("ends",c),("leaves",d)]=([("told",a),("over",x),("ends",c),("leaves",d)]:List (Str×I)):=by kernel_rfl
theorem GV(a b c d x:I):gc "ends" x [("told",a),("over",b),("ends",c),("leaves",d)]=([("told",a),("over",b),("ends",x),("leaves",d)]:List (Str×I)):=by kernel_rfl
theorem cB{c f:Str}{fs:List (Str×I)}{d:I}{fo:Mo Ev}{Z:De}{G:List M}{k:Nat}(h:fo Z G=some (⇑(.ref k),Z,G))(hg:G[k]?=some (.obj c fs))(hf:fs.lookup f=some d):a7 (bM c f) fo Z G=some (⇑d,Z,G):=by
 refine cO h ?_
 simp [bM,hg,hf]
theorem lz{c m:Str}{n:Nat}{fn:FF}{fo:Mo Ev}{fa:Mo (List Ev)}{fs:List (Str×I)}{Z:De}{G:List M}{k:Nat}{r:Option (Ev×De×List M)}(h:fo Z G=some (⇑(.ref k),Z,G))(hg:G[k]?=some (.obj c fs))(hf:fs.lookup m=none)(ha:bd fa (λes=>aJ n fn (⇑(.ref k)::es)) Z G=r):fE c m n fn fo fa Z G=r:=by
 unfold fE
 refine ai h ?_
 dsimp only
 rw [hg]
 dsimp only
 rw [if_pos ⟨rfl,by rw [hf];rfl⟩]
 exact ha
theorem rf{c f:Str}{fs:List (Str×I)}{d:I}{fo fv:Mo Ev}{Z Z1:De}{G G1:List M}{k:Nat}(hv:fv Z G=some (⇑d,Z1,G1))(h:fo Z1 G1=some (⇑(.ref k),Z1,G1))(hg:G1[k]?=some (.obj c fs))(hl:fs.length<1000):dA c f fo fv Z G=some (.nx Z1 (G1.set k (.obj c (gc f d fs)))):=by
 unfold dA
 rw [hv];dsimp only;rw [h];dsimp only;rw [hg];dsimp only
 rw [if_pos ⟨rfl,hl⟩]
theorem rg{Z:De}{G:List M}{fo:Mo Ev}{j:Nat}{ys:List I}{b:Bool}(h:fo Z G=some (⇑(.ref j),Z,G))(hj:G[j]?=some (.lst ys))(hb:(!ys.isEmpty)=b):bd fo bS Z G=some (b,Z,G):=by
 refine ai h ?_
 rw [<- hb]
 simp [bS,pk,sq,hj]
structure Rd(G:List M)(r t l kw:Nat)(ts ls:List I)(ov en:I)(W:List I):Prop where
 ho:G[r]?=some (lu t l ov en)
 ht:G[t]?=some (.lst ts)
 hl:G[l]?=some (.lst ls)
 hk:G[kw]?=some (.lst W)
 n:t≠l
 k1:kw≠t
 k2:kw≠l
theorem j6{G:List M}{i j:Nat}{cc:Str}{fs:List (Str×I)}{ys:List I}(a:G[i]?=some (.obj cc fs))(b:G[j]?=some (.lst ys)):i≠j:=λe=>by rw [e,b] at a;cases a
theorem nE{G:List M}{j i:Nat}{m:M}{x:Option M}(h:i≠j)(e:G[j]?=x):(G.set i m)[j]?=x:=by rw [z2d h];exact e
variable {G G1:List M}{r t l kw:Nat}{ts ls W:List I}{ov en:I}
theorem Rd.ext(R:Rd G r t l kw ts ls ov en W)(x:cm G G1):Rd G1 r t l kw ts ls ov en W:=⟨x.get R.ho,x.get R.ht,x.get R.hl,x.get R.hk,R.n,R.k1,R.k2⟩
theorem Rd.sett{ys:List I}(R:Rd G r t l kw ts ls ov en W):Rd (G.set t (.lst ys)) r t l kw ys ls ov en W:=⟨nE (j6 R.ho R.ht).symm R.ho,iY R.ht,nE R.n R.hl,nE R.k1.symm R.hk,R.n,R.k1,R.k2⟩
theorem Rd.setl{ys:List I}(R:Rd G r t l kw ts ls ov en W):Rd (G.set l (.lst ys)) r t l kw ts ys ov en W:=⟨nE (j6 R.ho R.hl).symm R.ho,nE R.n.symm R.ht,iY R.hl,nE R.k2.symm R.hk,R.n,R.k1,R.k2⟩
theorem Rd.seto{o2 e2:I}(R:Rd G r t l kw ts ls ov en W):Rd (G.set r (lu t l o2 e2)) r t l kw ts ls o2 e2 W:=⟨iY R.ho,nE (j6 R.ho R.ht) R.ht,nE (j6 R.ho R.hl) R.hl,nE (j6 R.ho R.hk) R.hk,R.n,R.k1,R.k2⟩
theorem yx{xs:List I}(R:Rd G r t l kw ts ls ov en W)(h:ts.length<1000):xm [.im (.ref r),.im (.tup xs)] G=some (.im (.bl true),G.set t (.lst (ts++[.tup xs]))):=by
 refine aZ rfl (aw (Z1:=[↑(.ref r),↑(.tup xs)]) (G1:=G.set t (.lst (ts++[.tup xs]))) (dh (e:=⇑.non) (ic (e:=⇑(.ref t)) (cB rfl R.ho (ly _ _ _ _)) (by simp [gk,pk,R.ht]) (ai rfl rfl) ?_)) rfl)
 have h1:ts.length<1000000:=by lia
 simp [dU,pk,dz,fV,gZ,de,R.ht,h1]
theorem GW{xs:List I}(R:Rd G r t l kw ts ls ov en W)(h:ls.length<1000):zy [.im (.ref r),.im (.tup xs)] G=some (.im (.bl true),G.set l (.lst (ls++[.tup xs]))):=by
 refine aZ rfl (aw (Z1:=[↑(.ref r),↑(.tup xs)]) (G1:=G.set l (.lst (ls++[.tup xs]))) (dh (e:=⇑.non) (ic (e:=⇑(.ref l)) (cB rfl R.ho (yr _ _ _ _)) (by simp [gk,pk,R.hl]) (ai rfl rfl) ?_)) rfl)
 have h1:ls.length<1000000:=by lia
 simp [dU,pk,dz,fV,gZ,de,R.hl,h1]
noncomputable def cQ(r:Nat)(w:Vl):De:=[↑(.ref r),some w]
theorem GX{a b:Int}(R:Rd G r t l kw [] ls .non .non W)(ha:Nz a)(hb:Nz b):∃G',lJ [.im (.ref r),.ow (.lst ([ik,tz a,tz b].map sI))] G=some (.im (.bl true),G')/\Rd G' r t l kw [.tup [.str "claims",.int a,.int b]] ls .non .non W:=by
 let w:Vl:=.ow (.lst ([ik,tz a,tz b].map sI))
 let G1:=G++[.lst ([ik,tz a,tz b].map sI)]
 obtain⟨G2,e,x⟩:=yd0 (q:=G.length) (G:=G1) ha hb (iq _ _)
 have R2:=(R.ext (cm.app G _)).ext x
 refine⟨_,aZ rfl (aw (Z1:=cQ r w) (G1:=G) (bG (Z1:=cQ r w) (G1:=G) (bN (cO (cB rfl R.ho (i7 _ _ _ _)) rfl)) rfl) (aw (Z1:=cQ r w) (G1:=G) (bG (Z1:=cQ r w) (G1:=G) (bN (cO (cB rfl R.ho (iu _ _ _ _)) rfl)) rfl) (ib (df (Z1:=cQ r w) (G1:=G) (ai (rg (cB rfl R.ho (ly _ _ _ _)) R.ht rfl) rfl) (bw (Z1:=cQ r (.im (.ref G.length))) (lz rfl R.ho (yt _ _ _ _) (ai (a:=[⇑(.tup [.str "claims",.int a,.int b])]) (Z1:=cQ r (.im (.ref G.length))) (G1:=G2) (ai (ai (ai rfl rfl) (bL rfl rfl e)) rfl) (bL rfl rfl (yx R2 (by simp)))))))))),R2.sett⟩
theorem GY{u:Qn}(R:Rd G r t l kw ts ls .non .non W)(h:u.ok)(h1:ts≠[])(h2:ts.length<1000):∃G',lJ [.im (.ref r),.ow (.lst (u.W.map sI))] G=some (.im (.bl true),G')/\Rd G' r t l kw (ts++[u.i]) ls .non .non W:=by
 let w:Vl:=.ow (.lst (u.W.map sI))
 let G1:=G++[.lst (u.W.map sI)]
 have hf:=h.f
 have no:bx u.f≠cH:=by rcases (show u.f=0∨u.f=1∨u.f=2 by lia) with z|z|z<;>rw [z]<;>decide
 have R1:=R.ext (cm.app G [.lst (u.W.map sI)])
 have e0:=GP (ws:=u.p.tx::g8 u.w++ip u.as) (w:=bx u.f) (G:=G1) (q:=G.length) (iq _ _) no
 have R1':=R1.seto (o2:=.non) (e2:=.non)
 obtain⟨G2,e,x⟩:=y8d (q:=G.length) (G:=G1.set r (lu t l .non .non)) h (nE (j6 R1.ho (iq G (.lst (u.W.map sI)))) (iq _ _))
 have R2:=R1'.ext x
 have ne:(!ts.isEmpty)=true:=by cases ts with
  | nil=>exact absurd rfl h1
  | cons a b=>rfl
 have hs:dA "RecordReading" "over" (aa 0) (bd (ag (cF (aa 1)) ae) (aJ 1 lI)) (cQ r w) G=some (.nx (cQ r (.im (.ref G.length))) (G1.set r (lu t l .non .non))):=by
  have:=rf (f:="over") (fo:=aa 0) (fv:=bd (ag (cF (aa 1)) ae) (aJ 1 lI)) (Z:=cQ r w) (Z1:=cQ r (.im (.ref G.length))) (G:=G) (G1:=G1) (k:=r) (d:=.non) (ai (ai rfl rfl) (bL rfl rfl e0)) rfl R1.ho (by simp)
  rw [yw] at this
  exact this
 refine⟨_,aZ rfl (aw (Z1:=cQ r w) (G1:=G) (bG (Z1:=cQ r w) (G1:=G) (bN (cO (cB rfl R.ho (i7 _ _ _ _)) rfl)) rfl) (aw (Z1:=cQ r w) (G1:=G) (bG (Z1:=cQ r w) (G1:=G) (bN (cO (cB rfl R.ho (iu _ _ _ _)) rfl)) rfl) (aw (Z1:=cQ r w) (G1:=G) (bG (Z1:=cQ r w) (G1:=G) (qV (rg (cB rfl R.ho (ly _ _ _ _)) R.ht ne)) rfl) (aw hs (bw (Z1:=cQ r (.im (.ref G.length))) (ai (cO (cB rfl R1'.ho (iu _ _ _ _)) rfl) (lz rfl R1'.ho (yt _ _ _ _) (ai (a:=[⇑u.i]) (Z1:=cQ r (.im (.ref G.length))) (G1:=G2) (ai (ai (ai rfl rfl) (bL rfl rfl e)) rfl) (bL rfl rfl (yx R2 h2)))))))))),R2.sett⟩
theorem GZ{c:Rc}(R:Rd G r t l kw ts ls .non .non W)(h:c.ok)(h1:ts≠[]):∃G',lJ [.im (.ref r),.ow (.lst (c.Wo.map sI))] G=some (.im (.bl true),G')/\Rd G' r t l kw ts ls (.tup [.str "out",bz c.w,.tup (c.ws.map sI),.non]) .non W:=by
 let w:Vl:=.ow (.lst (c.Wo.map sI))
 obtain⟨G1,e,x⟩:=GR (q:=G.length) (G:=G++[.lst (c.Wo.map sI)]) h (iq _ _)
 have R1:=(R.ext (cm.app G [.lst (c.Wo.map sI)])).ext x
 have R2:=R1.seto (o2:=.tup [.str "out",bz c.w,.tup (c.ws.map sI),.non]) (e2:=.non)
 have ne:(!ts.isEmpty)=true:=by cases ts with
  | nil=>exact absurd rfl h1
  | cons a b=>rfl
 have hs:dA "RecordReading" "over" (aa 0) (bd (ag (cF (aa 1)) ae) (aJ 1 lI)) (cQ r w) G=some (.nx (cQ r (.im (.ref G.length))) (G1.set r (lu t l (.tup [.str "out",bz c.w,.tup (c.ws.map sI),.non]) .non))):=by
  have:=rf (f:="over") (fo:=aa 0) (fv:=bd (ag (cF (aa 1)) ae) (aJ 1 lI)) (Z:=cQ r w) (Z1:=cQ r (.im (.ref G.length))) (G:=G) (G1:=G1) (k:=r) (d:=.tup [.str "out",bz c.w,.tup (c.ws.map sI),.non]) (ai (ai rfl rfl) (bL rfl rfl e)) rfl R1.ho (by simp)
  rw [yw] at this
  exact this
 exact⟨_,aZ rfl (aw (Z1:=cQ r w) (G1:=G) (bG (Z1:=cQ r w) (G1:=G) (bN (cO (cB rfl R.ho (i7 _ _ _ _)) rfl)) rfl) (aw (Z1:=cQ r w) (G1:=G) (bG (Z1:=cQ r w) (G1:=G) (bN (cO (cB rfl R.ho (iu _ _ _ _)) rfl)) rfl) (aw (Z1:=cQ r w) (G1:=G) (bG (Z1:=cQ r w) (G1:=G) (qV (rg (cB rfl R.ho (ly _ _ _ _)) R.ht ne)) rfl) (aw hs (bw (Z1:=cQ r (.im (.ref G.length))) (ai (cO (cB rfl R2.ho (iu _ _ _ _)) rfl) rfl)))))),R2⟩
theorem Ha{a b:Int}{os:List I}(R:Rd G r t l kw ts ls (.tup os) .non W)(ha:Nz a)(hb:Nz b):∃G',lJ [.im (.ref r),.ow (.lst ([dj,tz a,il,tz b].map sI))] G=some (.im (.bl true),G')/\Rd G' r t l kw ts ls (.tup os) (.tup [.int a,.int b]) W:=by
 let w:Vl:=.ow (.lst ([dj,tz a,il,tz b].map sI))
 obtain⟨G1,e,x⟩:=GL (q:=G.length) (G:=G++[.lst ([dj,tz a,il,tz b].map sI)]) ha hb (iq _ _)
 have R1:=(R.ext (cm.app G [.lst ([dj,tz a,il,tz b].map sI)])).ext x
 have R2:=R1.seto (o2:=.tup os) (e2:=.tup [.int a,.int b])
 have hs:dA "RecordReading" "ends" (aa 0) (bd (ag (cF (aa 1)) ae) (aJ 1 rR)) (cQ r w) G=some (.nx (cQ r (.im (.ref G.length))) (G1.set r (lu t l (.tup os) (.tup [.int a,.int b])))):=by
  have:=rf (f:="ends") (fo:=aa 0) (fv:=bd (ag (cF (aa 1)) ae) (aJ 1 rR)) (Z:=cQ r w) (Z1:=cQ r (.im (.ref G.length))) (G:=G) (G1:=G1) (k:=r) (d:=.tup [.int a,.int b]) (ai (ai rfl rfl) (bL rfl rfl e)) rfl R1.ho (by simp)
  rw [GV] at this
  exact this
 exact⟨_,aZ rfl (aw (Z1:=cQ r w) (G1:=G) (bG (Z1:=cQ r w) (G1:=G) (bN (cO (cB rfl R.ho (i7 _ _ _ _)) rfl)) rfl) (ib (df (Z1:=cQ r w) (G1:=G) (bN (cO (cB rfl R.ho (iu _ _ _ _)) rfl)) (aw hs (bw (Z1:=cQ r (.im (.ref G.length))) (cO (cB rfl R2.ho (i7 _ _ _ _)) rfl)))))),R2⟩
theorem Hb{p:Pt}{es:List I}(R:Rd G r t l kw ts ls ov (.tup es) W)(h:p.ok)(h2:ls.length<1000):∃G',lJ [.im (.ref r),.ow (.lst (p.W.map sI))] G=some (.im (.bl true),G')/\Rd G' r t l kw ts (ls++[p.i]) ov (.tup es) W:=by
 let w:Vl:=.ow (.lst (p.W.map sI))
 obtain⟨G1,e,x⟩:=GN (q:=G.length) (G:=G++[.lst (p.W.map sI)]) h (iq _ _)
 have R1:=(R.ext (cm.app G [.lst (p.W.map sI)])).ext x
 exact⟨_,aZ rfl (ib (df (Z1:=cQ r w) (G1:=G) (bN (cO (cB rfl R.ho (i7 _ _ _ _)) rfl)) (bw (Z1:=cQ r (.im (.ref G.length))) (lz rfl R.ho (yu _ _ _ _) (ai (a:=[⇑p.i]) (Z1:=cQ r (.im (.ref G.length))) (G1:=G1) (ai (ai (ai rfl rfl) (bL rfl rfl e)) rfl) (bL rfl rfl (GW R1 h2))))))),R1.setl⟩
end
section
noncomputable def Wd(x:List Nat):Prop:=∀c∈x,c≠10/\c≠32
theorem dH(z:Int):Wd (tz z):=λc hc=>by have:=xJ z c hc;lia
theorem Wd.mid{a b:List Nat}{c:Nat}(ha:Wd a)(hb:Wd b)(hc:c≠10/\c≠32):Wd (a++c::b):=λd hd=>by
 rcases z1a.mp hd with h|h
 ·exact ha d h
 ·rcases zb.mp h with e|h
  ·subst e;exact hc
  ·exact hb d h
theorem Sd.wd(s:Sd):Wd s.tx:=by
 cases s with
 | no=>unfold Wd;decide
 | nm z=>exact dH z
 | pr a b=>exact (dH a).mid (dH b) (by decide)
theorem Pl.wd(p:Pl):Wd p.tx:=by
 cases p with
 | one z=>exact dH z
 | two a b=>exact (dH a).mid (dH b) (by decide)
theorem Hc(f:Nat):Wd (bx f):=by unfold bx;split<;>(unfold Wd;decide)
theorem Hd(w:Nat):∀x∈g8 w,Wd x:=by unfold g8;split<;>(unfold Wd;decide)
theorem An.wd(a:An):∀x∈a.W,Wd x:=λx hx=>by
 unfold An.W at hx
 rcases zb.mp hx with e|hx
 ·subst e;exact a.s.wd
 ·rw [z22.mp hx];exact dH _
theorem y7a(as:List An):∀x∈ip as,Wd x:=λx hx=>by
 have h58:Wd [58]:=by unfold Wd;decide
 have h124:Wd [124]:=by unfold Wd;decide
 match as,hx with
 | [a],hx =>
  rcases zb.mp hx with e|hx
  ·subst e;exact h58
  ·exact a.wd x hx
 | [a,b],hx =>
  rcases z1a.mp hx with hx|hx
  ·rcases zb.mp hx with e|hx
   ·subst e;exact h58
   ·exact a.wd x hx
  ·rcases zb.mp hx with e|hx
   ·subst e;exact h124
   ·exact b.wd x hx
theorem Qn.wd(q:Qn):∀x∈q.W,Wd x:=λx hx=>by
 rcases z1a.mp hx with hx|hx
 ·rcases zb.mp hx with e|hx
  ·subst e;exact Hc _
  ·rcases zb.mp hx with e|hx
   ·subst e;exact q.p.wd
   ·exact Hd _ x hx
 ·exact y7a _ x hx
theorem yy:∀(ks:List Int) {xs:List (List Nat)},(∀x∈xs,Wd x)->∀x∈oW ks xs,Wd x
 | [],xs,_,x,hx=>by simp [oW] at hx
 | k::ks,[],_,x,hx=>by simp [oW] at hx
 | k::ks,y::ys,h,x,hx=>by
  rw [oW] at hx
  rcases zb.mp hx with e|hx
  ·subst e;exact dH k
  ·rcases zb.mp hx with e|hx
   ·subst e;exact h _ List.mem_cons_self
   ·exact yy ks (λz hz=>h z (z1d _ hz)) x hx
theorem He:∀x∈i5,Wd x:=by unfold Wd;decide
theorem j7{k:List Nat}(h:k=ik∨k=cH∨k=dj∨k=il∨k=fj∨k=eB):Wd k:=by
 rcases h with e|e|e|e|e|e<;>subst e<;>(unfold Wd;decide)
noncomputable def Wr(row:List (List Nat)):Prop:=row≠[]/\∀x∈row,Wd x
theorem Rc.wr{r:Rc}(h:r.ok):∀row∈r.rows,Wr row:=λrow hr=>by
 rcases z1a.mp hr with hr|hr
 ·rcases zb.mp hr with e|hr
  ·subst e
   refine⟨by simp [Rc.W0],λx hx=>?_⟩
   unfold Rc.W0 at hx
   simp only [zb,List.not_mem_nil,or_false] at hx
   rcases hx with e|e|e<;>subst e
   ·exact j7 (.inl rfl)
   ·exact dH _
   ·exact dH _
  ·obtain⟨q,hq,rfl⟩:=z2b.mp hr
   exact⟨by simp [Qn.W],q.wd⟩
 ·rcases zb.mp hr with e|hr
  ·subst e
   refine⟨by simp [Rc.Wo],λx hx=>?_⟩
   rcases zb.mp hx with e|hx
   ·subst e;exact j7 (.inr (.inl rfl))
   ·exact yy _ (λy hy=>He y (h.ws y hy)) x hx
  ·cases hp:r.p with
   | none=>rw [hp] at hr;simp [je] at hr
   | some p =>
    rw [hp] at hr
    rcases zb.mp hr with e|hr
    ·subst e
     refine⟨by simp [Pp.W],λx hx=>?_⟩
     unfold Pp.W at hx
     simp only [zb,List.not_mem_nil,or_false] at hx
     rcases hx with e|e|e|e<;>subst e
     ·exact j7 (.inr (.inr (.inl rfl)))
     ·exact dH _
     ·exact j7 (.inr (.inr (.inr (.inl rfl))))
     ·exact dH _
    ·obtain⟨t,ht,rfl⟩:=z2b.mp hr
     refine⟨by simp [Pt.W],λx hx=>?_⟩
     unfold Pt.W at hx
     simp only [zb] at hx
     rcases hx with e|e|e|e|e
     ·subst e;exact j7 (.inr (.inr (.inr (.inr (.inl rfl)))))
     ·subst e;exact dH _
     ·subst e;exact dH _
     ·subst e;exact j7 (.inr (.inr (.inr (.inr (.inr rfl)))))
     ·obtain⟨z,_,rfl⟩:=z2b.mp e;exact dH z
theorem yz{c s:Nat}:∀{ws:List (List Nat)},c∈jn s ws->c=s∨∃w∈ws,c∈w
 | [],h=>by simp [jn] at h
 | [w],h=>.inr ⟨w,by simp,h⟩
 | w::v::r,h=>by
  rw [jn] at h
  rcases z1a.mp h with h|h
  ·exact .inr ⟨w,by simp,h⟩
  ·rcases zb.mp h with e|h
   ·exact .inl e
   ·rcases yz h with e|⟨u,hu,hc⟩
    ·exact .inl e
    ·exact .inr ⟨u,z1d _ hu,hc⟩
theorem Wr.nl{row:List (List Nat)}(h:Wr row):(10:Nat)∉jn 32 row:=λhc=>by
 rcases yz hc with e|⟨w,hw,hc⟩
 ·exact absurd e (by decide)
 ·exact (h.2 w hw 10 hc).1 rfl
theorem Wr.sp{row:List (List Nat)}(h:Wr row):jd 32 (jn 32 row)=row:=nB 32 h.1 λw hw hc=>(h.2 w hw 32 hc).2 rfl
theorem yA{c:Nat}{s:Str}{t:List Nat}{ps:List (List Nat)}{f:Mo Ev}{Z:De}{G:List M}(hv:f Z G=some (⇑(sI t),Z,G))(hc:s=ay [c])(hl:t.length≤1000000)(hs:jd c t=ps):cW gn f (ag (ah (.str s)) ae) Z G=some (.v (.ow (.lst (ps.map sI))),Z,G):=by
 have z3:(s.length == 0)=false:=by rw [hc,cP];rfl
 refine ig hv rfl (ai rfl rfl) ?_
 unfold gn
 dsimp only [sI]
 rw [if_pos ⟨z3,by rw [cP];exact hl⟩,hc,show ay [c]=⟨#[c]⟩ from rfl,xy,qA,hs,z2f]
 rfl
noncomputable def lL(r t l kw:Nat)(W:List I):List (List (List Nat))->List M->List M->Prop
 | [],G,G'=>G=G'
 | row::bA,G,G'=>∃G1,(∃ov en,G[r]?=some (lu t l ov en))/\lJ [.im (.ref r),.ow (.lst (row.map sI))] G=some (.im (.bl true),G1)/\G1[kw]?=some (.lst W)/\lL r t l kw W bA G1 G'
variable {G:List M}{r t l kw:Nat}{ts ls W:List I}{ov en:I}
theorem lL.app{G1 G2:List M}:∀{a b:List (List (List Nat))} {G:List M},lL r t l kw W a G G1->lL r t l kw W b G1 G2->lL r t l kw W (a++b) G G2
 | [],b,G,h,k=>by cases (show G=G1 from h);exact k
 | x::a,b,G,⟨g,o,e,q,h⟩,k=>⟨g,o,e,q,lL.app h k⟩
theorem yB:∀{qs:List Qn} {ts:List I} {G:List M},Rd G r t l kw ts ls .non .non W->(∀q∈qs,q.ok)->ts≠[]->ts.length+qs.length<1000->∃G',lL r t l kw W (qs.map Qn.W) G G'/\Rd G' r t l kw (ts++qs.map Qn.i) ls .non .non W
 | [],ts,G,R,_,_,_=>⟨G,rfl,by simpa using R⟩
 | q::qs,ts,G,R,h,h1,h2=>by
  rw [z20] at h2
  obtain⟨G1,e,R1⟩:=GY R (h q List.mem_cons_self) h1 (by lia)
  obtain⟨G2,s,R2⟩:=yB (qs:=qs) R1 (λy hy=>h y (z1d _ hy)) (by simp) (by simp;lia)
  exact⟨G2,⟨G1,⟨_,_,R.ho⟩,e,R1.hk,s⟩,by rw [z31] at R2;exact R2⟩
theorem yC{es:List I}:∀{ps:List Pt} {ls:List I} {G:List M},Rd G r t l kw ts ls ov (.tup es) W->(∀p∈ps,p.ok)->ls.length+ps.length<1000->∃G',lL r t l kw W (ps.map Pt.W) G G'/\Rd G' r t l kw ts (ls++ps.map Pt.i) ov (.tup es) W
 | [],ls,G,R,_,_=>⟨G,rfl,by simpa using R⟩
 | p::ps,ls,G,R,h,h2=>by
  rw [z20] at h2
  obtain⟨G1,e,R1⟩:=Hb R (h p List.mem_cons_self) (by lia)
  obtain⟨G2,s,R2⟩:=yC (ps:=ps) R1 (λy hy=>h y (z1d _ hy)) (by simp;lia)
  exact⟨G2,⟨G1,⟨_,_,R.ho⟩,e,R1.hk,s⟩,by rw [z31] at R2;exact R2⟩
noncomputable def yD:Option Pp->I
 | none=>.non
 | some p=>.tup [.int p.b,.int p.a]
noncomputable def lvI:Option Pp->List I
 | none=>[]
 | some p=>p.ps.map Pt.i
noncomputable def rh(c:Rc):I:=.tup [.str "out",bz c.w,.tup (c.ws.map sI),.non]
theorem Hf{c:Rc}(R:Rd G r t l kw [] [] .non .non W)(h:c.ok):∃G',lL r t l kw W c.rows G G'/\Rd G' r t l kw (c.cI::c.qs.map Qn.i) (lvI c.p) (rh c) (yD c.p) W:=by
 have hq:=h.ql
 obtain⟨G1,e1,R1⟩:=GX R h.a h.b
 obtain⟨G2,s2,R2⟩:=yB (qs:=c.qs) R1 h.qs (by simp) (by simp;lia)
 obtain⟨G3,e3,R3⟩:=GZ R2 h (by simp)
 cases hp:c.p with
 | none =>
  refine⟨G3,?_,R3⟩
  unfold Rc.rows
  rw [hp]
  exact⟨G1,⟨_,_,R.ho⟩,e1,R1.hk,s2.app ⟨G3,⟨_,_,R2.ho⟩,e3,R3.hk,rfl⟩⟩
 | some p =>
  have ok:=h.p p hp
  obtain⟨G4,e4,R4⟩:=Ha R3 ok.1 ok.2.1
  obtain⟨G5,s5,R5⟩:=yC (ps:=p.ps) R4 ok.2.2.2 (by have:=ok.2.2.1;simp;lia)
  refine⟨G5,?_,R5⟩
  unfold Rc.rows
  rw [hp]
  exact⟨G1,⟨_,_,R.ho⟩,e1,R1.hk,s2.app ⟨G3,⟨_,_,R2.ho⟩,e3,R3.hk,⟨G4,⟨_,_,R3.ho⟩,e4,R4.hk,s5⟩⟩⟩
end
section
variable {G:List M}{r t l kw:Nat}{ts ls W:List I}{ov en:I}
theorem Hg:(("told" : Str)="over")=False:=eq_false (by decide +kernel)
theorem Hh:(("told" : Str)="ends")=False:=eq_false (by decide +kernel)
theorem Hi:(("told" : Str)="leaves")=False:=eq_false (by decide +kernel)
theorem Hj:(("over" : Str)="ends")=False:=eq_false (by decide +kernel)
theorem Hk:(("over" : Str)="leaves")=False:=eq_false (by decide +kernel)
theorem Hl:(("ends" : Str)="leaves")=False:=eq_false (by decide +kernel)
theorem Hm:rQ [.im (.ref G.length)] (G++[M.obj "RecordReading" []])=some (.im .non,G++[lu (G.length+1) (G.length+2) .non .non,M.lst [],M.lst []]):=by
 simp! [rQ,gc,List.set_append,lu,Hg,Hh,Hi,Hj,Hk,Hl]
theorem Hn{Z:De}{u:Nat}{xs:List I}(hu:G[u]?=some (.lst xs)):cf [⇑(.ref u)] Z G=some (⇑(.tup xs),Z,G):=by simp [cf,sq,pk,hu]
noncomputable def iG(r:Nat)(c:Rc)(p:I):De:=[↑(.ref r),↑(.str "out"),↑(bz c.w),↑(.tup (c.ws.map sI)),↑p]
theorem Ho{c:Rc}(R:Rd G r t l kw (c.cI::c.qs.map Qn.i) (lvI c.p) (rh c) (yD c.p) W)(h:c.ok):zx [.im (.ref r)] G=some (.im c.i,G):=by
 have hq:=h.ql
 have fo:a7 (bM "RecordReading" "over") (aa 0) [↑(.ref r),none,none,none,none] G=some (⇑(rh c),[↑(.ref r),none,none,none,none],G):=cB rfl R.ho (iu _ _ _ _)
 have fe:∀p,a7 (bM "RecordReading" "ends") (aa 0) (iG r c p) G=some (⇑(yD c.p),iG r c p,G):=λp=>cB rfl R.ho (i7 _ _ _ _)
 have s2:aM (ax (a7 (c6 false) (a7 (bM "RecordReading" "ends") (aa 0)))) (bp (bd (ag (ak aH (a7 (bM "RecordReading" "ends") (aa 0)) (ah (.int 0))) (ag (bd (ag (a7 (bM "RecordReading" "leaves") (aa 0)) ae) cf) (ag (ak aH (a7 (bM "RecordReading" "ends") (aa 0)) (ah (.int 1))) ae))) bq) (bf 4)) aU (iG r c .non) G=some (.nx (iG r c (fW c.p)) G):=by
  cases hp:c.p with
  | none =>
   rw [hp] at fe
   exact bG (bN (cO (fe _) rfl)) rfl
  | some p =>
   rw [hp] at fe
   have i0:ak aH (a7 (bM "RecordReading" "ends") (aa 0)) (ah (.int 0)) (iG r c .non) G=some (⇑(.int p.b),iG r c .non,G):=aO (fe _) rfl (by simp [yD,aH,eP,kf,sq,pk,at0])
   have i1:ak aH (a7 (bM "RecordReading" "ends") (aa 0)) (ah (.int 1)) (iG r c .non) G=some (⇑(.int p.a),iG r c .non,G):=aO (fe _) rfl (by simp [yD,aH,eP,kf,sq,pk,g0])
   have hl:=R.hl
   rw [hp] at hl
   exact df (Z1:=iG r c .non) (G1:=G) (bN (cO (fe _) rfl)) (cy (x:=.im p.i) (Z1:=iG r c .non) (G1:=G) (ai (ai i0 (ai (ai (ai (ai (cB rfl R.ho (yr _ _ _ _)) rfl) (Hn hl)) (ai (ai i1 rfl) rfl)) rfl)) rfl) rfl)
 have ft:a7 (bM "RecordReading" "told") (aa 0) (iG r c (fW c.p)) G=some (⇑(.ref t),iG r c (fW c.p),G):=cB rfl R.ho (ly _ _ _ _)
 refine aZ rfl (aw (Z1:=iG r c .non) (G1:=G) (cy fo rfl) (aw s2 (bw (Z1:=iG r c (fW c.p)) (ai (a:=[.v (.ow (.lst ((c.cI::c.qs.map Qn.i)++[c.oI])))]) (Z1:=iG r c (fW c.p)) (G1:=G) (ai (aO ft (y:=.v (.ow (.lst [c.oI]))) (Z2:=iG r c (fW c.p)) (G2:=G) rfl ?_) rfl) rfl))))
 have h1:c.qs.length+1+1≤1000000:=by lia
 have ht:=R.ht
 simp [ck,eP,pQ,cv,mL,nZ,pP,pk,ht,h1]
theorem Hq{row:List (List Nat)}{G1:List M}{v0 v2 v3:Option Vl}(ho:∃ov en,G[r]?=some (lu t l ov en))(h:Wr row)(hl:(jn 32 row).length≤1000000)(e:lJ [.im (.ref r),.ow (.lst (row.map sI))] G=some (.im (.bl true),G1)):Fu [v0,↑(.ref r),v2,v3,↑(rI row)] G=some (.nx [v0,↑(.ref r),v2,v3,↑(rI row)] G1):=by
 obtain⟨ov,en,ho⟩:=ho
 refine bG (Z1:=[v0,↑(.ref r),v2,v3,↑(rI row)]) (G1:=G1) (ai (a:=true) (Z1:=[v0,↑(.ref r),v2,v3,↑(rI row)]) (G1:=G1) (ai (a:=⇑(.bl true)) (Z1:=[v0,↑(.ref r),v2,v3,↑(rI row)]) (G1:=G1) (lz rfl ho (GS _ _ _ _) (ai (a:=[.v (.ow (.lst (row.map sI)))]) (Z1:=[v0,↑(.ref r),v2,v3,↑(rI row)]) (G1:=G) (ai (yA rfl fS hl h.sp) rfl) (bL rfl rfl e))) rfl) rfl) rfl
theorem yE{xs:List I}{i:Nat}{x:I}{r:List I}(h:xs.drop i=x::r):xs.drop (i+1)=r:=by rw [<- List.tail_drop,h];rfl
theorem yF{N:Nat}{v0 v2:Option Vl}:∀(rows:List (List (List Nat))) {i:Nat} {G G':List M} {v3 v4:Option Vl},lL r t l kw W rows G G'->(∀x∈rows,Wr x/\(jn 32 x).length≤1000000)->G[kw]?=some (.lst W)->W.length=N->W.drop i=rows.map rI->∃v3' v4',bP (rN ⇑(.ref kw) N) (cj [3,4]) Fu i rows.length [v0,↑(.ref r),v2,v3,v4] G=some (.nx [v0,↑(.ref r),v2,v3',v4'] G')
 | [],i,G,G',v3,v4,hr,_,hk,hn,_=>by
  cases (show G=G' from hr)
  refine⟨v3,v4,?_⟩
  show bP _ _ _ i 0 _ _=_
  unfold bP
  rw [if_pos]
  simp [rN,sq,pk,hk,hn]
 | row::rows,i,G,G',v3,v4,⟨G1,ho,e,q,hr⟩,ok,hk,hn,hd=>by
  obtain⟨v3',v4',e2⟩:=yF (v0:=v0) (v2:=v2) rows (i:=i+1) (v3:=↑(.int i)) (v4:=↑(rI row)) hr (λy hy=>ok y (z1d _ hy)) q hn (yE hd)
  have ok1:=ok row List.mem_cons_self
  refine⟨v3',v4',(xT (r:=rows.length) (d:=.tup [.int i,rI row]) (Z1:=[v0,↑(.ref r),v2,↑(.int i),↑(rI row)]) (G1:=G) ?_ rfl (Hq ho ok1.1 ok1.2 e)).trans e2⟩
  have hi:W[i]?=some (rI row):=by
   have:=congrArg List.head? hd
   rw [List.head?_drop] at this
   exact this
  simp [rN,sq,pk,hk,hi]
noncomputable def Rc.tx(c:Rc):List Nat:=jn 10 (c.rows.map (jn 32))
theorem Rc.y402{c:Rc}(h:c.ok):c.rows.length≤104/\∀w∈c.rows,(jn 32 w).length≤400:=by
 obtain⟨c1,c2⟩:=Rw.y64 (Rc.y78 h)
 rw [Rc.y77] at c1 c2
 have hq:=h.ql
 refine⟨by simp [Rc.all,Rc.pre] at c1;lia,λw hw=>?_⟩
 have a1:=lh 32 w
 have a2:=eN (c2 w hw).2
 have a3:=(c2 w hw).1
 lia
theorem Rc.y553{c:Rc}(h:c.ok):c.tx.length≤100000:=by
 obtain⟨h1,h2⟩:=Rc.y402 h
 have h3:=eN (ws:=c.rows.map (jn 32)) (m:=400) λx hx=>by obtain⟨w,hw,rfl⟩:=z2b.mp hx;exact h2 w hw
 have h4:=lh 10 (c.rows.map (jn 32))
 rw [z14] at h3 h4
 unfold Rc.tx
 lia
theorem Hr(c:Rc):c.rows.map (jn 32)≠[]:=by simp [Rc.rows]
noncomputable def jf(c:Rc)(v1 v2 v3 v4:Option Vl):De:=[↑(sI c.tx),v1,v2,v3,v4]
theorem Hs{c:Rc}(h:c.ok):∃G',xn [.im (sI c.tx)] G=some (.im c.i,G'):=by
 obtain⟨G0,hG0⟩:∃G0,G0=G++[lu (G.length+1) (G.length+2) .non .non,M.lst [],M.lst []]:=⟨_,rfl⟩
 have l0:G0.length=G.length+3:=by rw [hG0];simp
 obtain⟨G1,hG1⟩:∃G1,G1=G0++[M.lst (c.rows.map rI)]:=⟨_,rfl⟩
 have hk:G1[G0.length]?=some (.lst (c.rows.map rI)):=by rw [hG1];simp
 have x01:cm G0 G1:=by rw [hG1];exact cm.app _ _
 have R1:Rd G1 G.length (G.length+1) (G.length+2) G0.length [] [] .non .non (c.rows.map rI):=⟨x01.get (by rw [hG0];simp),x01.get (by rw [hG0];simp),x01.get (by rw [hG0];simp),hk,by lia,by lia,by lia⟩
 obtain⟨G2,s2,R2⟩:=Hf R1 h
 obtain⟨n1,n2⟩:=Rc.y402 h
 obtain⟨v3,v4,el⟩:=yF (N:=c.rows.length) (v0:=↑(sI c.tx)) (v2:=↑(.ref G0.length)) c.rows (i:=0) (v3:=none) (v4:=none) s2 (λx hx=>⟨Rc.wr h x hx,by have:=n2 x hx;lia⟩) hk (by simp) (by simp)
 have em:=Ho R2 h
 have emk:iR "RecordReading" 1 rQ [] (jf c none none none none) G=some (⇑(.ref G.length),jf c none none none none,G0):=by
  have e:=Hm (G:=G)
  rw [<- hG0] at e
  simp [iR,mE,e]
 have hi:bX (ag (cF (aa 2)) ae) jR (jf c ↑(.ref G.length) ↥(c.rows.map rI) none none) G0=some (rN ⇑(.ref G0.length) c.rows.length,[⇑(.ref G0.length)],jf c ↑(.ref G.length) ↑(.ref G0.length) none none,G1):=by
  refine cA (ai (a:=⇑(.ref G0.length)) (Z1:=jf c ↑(.ref G.length) ↑(.ref G0.length) none none) (G1:=G1) (by rw [hG1];rfl) rfl) ?_
  simp [jR,ke,sq,pk,hk]
 have hm:ax (a7 (c6 true) (a7 (bM "RecordReading" "over") (aa 1))) (jf c ↑(.ref G.length) ↑(.ref G0.length) v3 v4) G2=some (false,jf c ↑(.ref G.length) ↑(.ref G0.length) v3 v4,G2):=bN (cO (cB rfl R2.ho (iu _ _ _ _)) rfl)
 have hs:jd 10 c.tx=c.rows.map (jn 32):=nB 10 (Hr c) λq hq=>by obtain⟨x,hx,rfl⟩:=z2b.mp hq;exact (Rc.wr h x hx).nl
 have er:(c.rows.map (jn 32)).map sI=c.rows.map rI:=by rw [z2f];rfl
 have sp:=yA (f:=aa 0) (Z:=jf c ↑(.ref G.length) none none none) (G:=G0) (c:=10) rfl qR (by have:=Rc.y553 h;lia) hs
 rw [er] at sp
 exact⟨G2,aZ rfl (aw (Z1:=jf c ↑(.ref G.length) none none none) (G1:=G0) (cy (x:=.im (.ref G.length)) (Z1:=jf c none none none none) (G1:=G0) (ai rfl emk) rfl) (aw (Z1:=jf c ↑(.ref G.length) ↥(c.rows.map rI) none none) (G1:=G0) (cy (x:=.ow (.lst (c.rows.map rI))) (Z1:=jf c ↑(.ref G.length) none none none) (G1:=G0) sp rfl) (aw (fQ hi el) (aw (Z1:=jf c ↑(.ref G.length) ↑(.ref G0.length) v3 v4) (G1:=G2) (bG hm rfl) (bw (Z1:=jf c ↑(.ref G.length) ↑(.ref G0.length) v3 v4) (G1:=G2) (lz rfl R2.ho (GU _ _ _ _) (ai rfl (bL rfl rfl em))))))))⟩
end
section
theorem y71{n:Nat}{G:List M}:gw (n+1) [.im .non,.im .non] G=some (.im (.bl true),G):=by
 simp! [gw,kY]
theorem y70{n:Nat}{w:Int}{G:List M}:gw (n+1) [.im (.int w),.im (.int w)] G=some (.im (.bl true),G):=by
 simp! [gw,bJ,jc,dD]
theorem y73{n:Nat}{x:Str}{G:List M}:gw (n+1) [.im (.str x),.im (.str x)] G=some (.im (.bl true),G):=by
 simp! [gw,kY,bJ,jc,dD]
theorem y74{n:Nat}{xs:List I}{G:List M}(h:∀x∈xs,gw n [.im x,.im x] G=some (.im (.bl true),G))(hl:xs.length≤1000):gw (n+1) [.im (.tup xs),.im (.tup xs)] G=some (.im (.bl true),G):=by
 have hn:(fz xs xs).n=xs.length:=by simp [fz]
 have hc:fD (fz xs xs) (cN 2) bb (bd (ag (aa 0) (ag (aa 1) ae)) (aJ 2 (gw n))) [] 0 xs.length [] [↑(.tup xs),↑(.tup xs)] G=some ((List.replicate xs.length true).map I.bl,G):=by
  obtain⟨ds,G',e2,ed,eg⟩:=n9 (w:=fz xs xs) (c:=cN 2) (tt:=bb) (te:=bd (ag (aa 0) (ag (aa 1) ae)) (aJ 2 (gw n))) (di:=[]) (Z:=[↑(.tup xs),↑(.tup xs)]) (λi acc G'=>acc=(List.replicate i true).map I.bl/\G'=G)
   (λi acc g hi ⟨ea,eg⟩=>by
    rw [hn] at hi
    subst eg
    refine⟨.tup [xs[i],xs[i]],[xs[i],xs[i]],_,_,.bl true,[↑xs[i],↑xs[i]],g,by simp [fz,hi],rfl,rfl,ai (ai rfl (ai (ai rfl rfl) rfl)) (bL rfl rfl (h xs[i] (z2e hi))),by rw [ea,List.replicate_succ',z29];rfl,rfl⟩)
   (λ_ _ p=>rfl) xs.length 0 [] G (by rw [hn];lia) ⟨rfl,rfl⟩
  rw [hn] at ed
  rw [ed,eg] at e2
  exact e2
 have y1c0:bd (ag (da (bX (ag (aa 0) (ag (aa 1) ae)) gv) [] (cN 2) bb (bd (ag (aa 0) (ag (aa 1) ae)) (aJ 2 (gw n)))) ae) m4 [↑(.tup xs),↑(.tup xs)] G=some (⇑(.bl true),[↑(.tup xs),↑(.tup xs)],G):=by
  refine ai (ai (iX (by rfl) (cA (es:=[⇑(.tup xs),⇑(.tup xs)]) (w:=fz xs xs) rfl rfl) (by rw [hn];lia) (by rw [hn];exact hc)) rfl) ?_
  unfold m4
  dsimp only [pk]
  rw [yab]
  dsimp only
  have:(List.replicate xs.length true).all id=true:=by simp
  rw [this]
 refine aZ rfl (aw (Z1:=[↑(.tup xs),↑(.tup xs)]) (G1:=G) (bG (Z1:=[↑(.tup xs),↑(.tup xs)]) (G1:=G) (dF (Z1:=[↑(.tup xs),↑(.tup xs)]) (G1:=G) rfl rfl) rfl) (ib (df (Z1:=[↑(.tup xs),↑(.tup xs)]) (G1:=G) (by simp! [bJ,jc,dD]) (bw (Z1:=[↑(.tup xs),↑(.tup xs)]) ?_))))
 unfold kY
 refine ai (a:=⇑(.bl true)) (Z1:=[↑(.tup xs),↑(.tup xs)]) (G1:=G) (by simp! []) ?_
 exact y1c0
noncomputable def Ni:Nat->I->Prop
 | 0,_=>False
 | n+1,x=>match x with
  | .tup xs=>xs.length≤1000/\∀y∈xs,Ni n y
  | .non=>True
  | .int _=>True
  | .str _=>True
  | _=>False
theorem y72:∀{n:Nat} {x:I} {G:List M},Ni n x->gw n [.im x,.im x] G=some (.im (.bl true),G)
 | 0,x,G,h=>h.elim
 | n+1,x,G,h=>by
  unfold Ni at h
  split at h
  ·exact y74 (λy hy=>y72 (h.2 y hy)) h.1
  ·exact y71
  ·exact y70
  ·exact y73
  ·exact h.elim
theorem Ni.tup{n:Nat}{xs:List I}(h1:xs.length≤1000)(h2:∀y∈xs,Ni n y):Ni (n+1) (.tup xs):=by unfold Ni;exact⟨h1,h2⟩
theorem Ni.int{n:Nat}{z:Int}:Ni (n+1) (.int z):=by unfold Ni;trivial
theorem Ni.str{n:Nat}{z:Str}:Ni (n+1) (.str z):=by unfold Ni;trivial
theorem Ni.non{n:Nat}:Ni (n+1) .non:=by unfold Ni;trivial
theorem Ni.ints{n:Nat}{zs:List Int}(h:zs.length≤1000):Ni (n+2) (.tup (zs.map I.int)):=Ni.tup (by simpa using h) λy hy=>by obtain⟨z,_,rfl⟩:=z2b.mp hy;exact Ni.int
theorem Sd.ni{n:Nat}(s:Sd):Ni (n+2) s.i:=by
 cases s with
 | no=>exact Ni.non
 | nm z=>exact Ni.int
 | pr a b=>exact Ni.ints (zs:=[a,b]) (by simp)
theorem Pl.ni{n:Nat}(s:Pl):Ni (n+2) s.i:=by
 cases s with
 | one z=>exact Ni.int
 | two a b=>exact Ni.ints (zs:=[a,b]) (by simp)
theorem An.ni{n:Nat}(a:An):Ni (n+3) a.i:=Ni.tup (by simp) λy hy=>by
 simp only [zb,List.not_mem_nil,or_false] at hy
 rcases hy with e|e<;>subst e
 ·exact a.s.ni
 ·exact Ni.int
theorem yG{n:Nat}(w:Nat):Ni (n+2) (bz w):=Ni.ints (by have:=eM w;lia)
theorem Qn.ni{n:Nat}{q:Qn}(h:q.ok):Ni (n+5) q.i:=Ni.tup (by simp) λy hy=>by
 simp only [zb,List.not_mem_nil,or_false] at hy
 rcases hy with e|e|e|e|e<;>subst e
 ·exact Ni.str
 ·exact Ni.str
 ·exact q.p.ni
 ·exact yG _
 ·refine Ni.tup (by have:=eM q.w;have:=h.as;simp;lia) λy hy=>?_
  obtain⟨a,_,rfl⟩:=z2b.mp hy
  exact a.ni
theorem Pt.ni{n:Nat}{p:Pt}(h:p.ok):Ni (n+3) p.i:=Ni.tup (by simp) λy hy=>by
 simp only [zb,List.not_mem_nil,or_false] at hy
 rcases hy with e|e|e<;>subst e
 ·exact Ni.int
 ·exact Ni.int
 ·exact Ni.ints (by have:=h.2.2.1;lia)
theorem Pp.ni{n:Nat}{p:Pp}(h:p.ok):Ni (n+5) p.i:=Ni.tup (by simp) λy hy=>by
 simp only [zb,List.not_mem_nil,or_false] at hy
 rcases hy with e|e|e<;>subst e
 ·exact Ni.int
 ·refine Ni.tup (by have:=h.2.2.1;simp;lia) λy hy=>?_
  obtain⟨a,ha,rfl⟩:=z2b.mp hy
  exact Pt.ni (h.2.2.2 a ha)
 ·exact Ni.int
theorem Rc.ni{r:Rc}(h:r.ok):Ni 12 r.i:=Ni.tup (by have:=h.ql;simp;lia) λy hy=>by
 rcases z1a.mp hy with hy|hy
 ·rcases zb.mp hy with e|hy
  ·subst e
   refine Ni.tup (by simp) λy hy=>?_
   simp only [zb,List.not_mem_nil,or_false] at hy
   rcases hy with e|e|e<;>subst e
   ·exact Ni.str
   ·exact Ni.int
   ·exact Ni.int
  ·obtain⟨q,hq,rfl⟩:=z2b.mp hy
   exact Qn.ni (h.qs q hq)
 ·rw [z22.mp hy]
  refine Ni.tup (by simp) λy hy=>?_
  simp only [zb,List.not_mem_nil,or_false] at hy
  rcases hy with e|e|e|e<;>subst e
  ·exact Ni.str
  ·exact yG _
  ·refine Ni.tup (by have:=eM r.w;have:=h.wl;simp;lia) λy hy=>?_
   obtain⟨x,_,rfl⟩:=z2b.mp hy
   exact Ni.str
  ·cases hp:r.p with
   | none=>exact Ni.non
   | some p=>exact Pp.ni (h.p p hp)
end
section
noncomputable def dk(r:Rc)(v2 v3:Option Vl):De:=[↑r.i,↥(r.rows.map rI),v2,v3]
theorem gA{ws:List (List (List Nat))}{Z:De}{G:List M}(h:ws.length≤104)(h2:∀w∈ws,(jn 32 w).length≤400):bR [⇑(.str "\n"),.v (.ow (.lst (ws.map rI)))] Z G=some (⇑(sI (jn 10 (ws.map (jn 32)))),Z,G):=by
 have h3:=eN (ws:=ws.map (jn 32)) (m:=400) λx hx=>by obtain⟨w,hw,rfl⟩:=z2b.mp hx;exact h2 w hw
 rw [z14] at h3
 have er:ws.map rI=(ws.map (jn 32)).map sI:=by rw [z2f];rfl
 rw [qR,er,fg (by rw [z14];simp only [z20,List.length_nil];lia),ff];rfl
theorem Ht{r:Rc}{G:List M}(h:r.ok):∃G',xo [.im r.i] G=some (.im (.bl true),G'):=by
 obtain⟨n1,n2⟩:=Rc.y402 h
 have hq:=h.ql
 have e1:=Gr (G:=G) h
 have e2:qu [.im r.i] G=some (.im (sI r.tx),G):=by
  have:=yi (G:=G) (Rc.y78 h) (by simp [Rc.all,Rc.pre];lia)
  rw [Rc.y77,<- Rc.all_i] at this
  exact this
 obtain⟨G',e3⟩:=Hs (G:=G) h
 have e4:=y72 (G:=G') (Rc.ni h)
 let x:Option Vl:=↑(sI r.tx)
 let m:Nat:=r.qs.length+1
 let n:Option Vl:=↑(.int (m:Int))
 have t1:bd (bd (ag (aa 2) (ag (ah (.ty "str")) ae)) bJ) bS (dk r x none) G=some (true,dk r x none,G):=by simp! [x,dk,sI,bJ,jc,dD]
 have j1:cW bR (ah (.str "\n")) (ag (aa 1) ae) (dk r x none) G=some (⇑(sI r.tx),dk r x none,G):=ig (e:=⇑(.str "\n")) rfl rfl (es:=[.s 1]) rfl (by rw [i6 (m:=.lst (r.rows.map rI)) rfl];exact gA n1 n2)
 have t2:ax (ak gP (aa 2) (cW bR (ah (.str "\n")) (ag (aa 1) ae))) (dk r x none) G=some (false,dk r x none,G):=bN (aO (x:=⇑(sI r.tx)) rfl j1 (by simp! [sI]))
 have ln:bd (ag (aa 0) ae) bD (dk r x none) G=some (⇑(.int ((m+1:Nat):Int)),dk r x none,G):=by simp! [m,dk,Rc.i]
 have sb:ak fH (bd (ag (aa 0) ae) bD) (ah (.int 1)) (dk r x none) G=some (⇑(.int (m:Int)),dk r x none,G):=by
  refine aO ln rfl ?_
  have hm:m≤12:=by show r.qs.length+1≤12;lia
  have c:((m+1:Nat):Int)-1=m:=by lia
  simp! []
 have al:bd (ag (bd (ag (aa 2) ae) (aJ 1 xn)) (ag (aa 0) ae)) (aJ 2 (gw 12)) (dk r x n) G=some (⇑(.bl true),dk r x n,G'):=ai (ai (ai (ai rfl rfl) (bL rfl rfl e3)) (ai (ai rfl rfl) rfl)) (bL rfl rfl e4)
 have c1:fK (r.cI::r.qs.map Qn.i++[r.oI]) none (some (m:Int))=r.pre.map Rw.i:=by rw [yed,Rc.y379,List.take_left' (by simp [m])]
 have c2:fK (r.rows.map rI) none (some (m:Int))=(r.pre.flatMap Rw.W).map rI:=by
  rw [yed,Rc.y378,<- List.map_take,Rc.rows,List.take_left' (by simp [m])]
 have s1:bT (aa 0) cM (ba (aa 3)) (dk r x n) G'=some (⇑(.tup (r.pre.map Rw.i)),dk r x n,G'):=by
  rw [<- c1];rfl
 have s2:bT (aa 1) cM (ba (aa 3)) (dk r x n) G'=some (.v (.ow (.lst ((r.pre.flatMap Rw.W).map rI))),dk r x n,G'):=by
  rw [<- c2]
  refine ai (a:=.s 1) (Z1:=dk r x n) (G1:=G') rfl ?_
  have:dS none (some (m:Int)) [.s 1,⇑(.int (m:Int))] (dk r x n) G'=some (.v (.ow (.lst (fK (r.rows.map rI) none (some (m:Int))))),dk r x n,G'):=by
   simp [dk,dS,eV,sq,pk]
  exact this
 have e5:=yi (G:=G') (Rc.y37a h) (by simp [Rc.pre];lia)
 have hp:∀w∈r.pre.flatMap Rw.W,w∈r.rows:=λw hw=>by
  rw [<- Rc.y77,Rc.all,List.flatMap_append]
  exact List.mem_append_left _ hw
 have hpl:(r.pre.flatMap Rw.W).length≤104:=by rw [Rc.y378];simp;lia
 have j2:cW bR (ah (.str "\n")) (ag (bT (aa 1) cM (ba (aa 3))) ae) (dk r x n) G'=some (⇑(sI (jn 10 ((r.pre.flatMap Rw.W).map (jn 32)))),dk r x n,G'):=ig (e:=⇑(.str "\n")) rfl rfl (ai s2 rfl) (gA hpl λw hw=>n2 w (hp w hw))
 have eq:ak cV (bd (ag (bT (aa 0) cM (ba (aa 3))) ae) (aJ 1 qu)) (cW bR (ah (.str "\n")) (ag (bT (aa 1) cM (ba (aa 3))) ae)) (dk r x n) G'=some (⇑(.bl true),dk r x n,G'):=aO (ai (ai s1 rfl) (bL rfl rfl e5)) j2 (by simp! [sI])
 refine⟨G',aZ rfl (aw (Z1:=dk r none none) (G1:=G) (cy (x:=.ow (.lst (r.rows.map rI))) (Z1:=[↑r.i,none,none,none]) (G1:=G) (ai (ai rfl rfl) (bL rfl rfl e1)) rfl) (aw (Z1:=dk r x none) (G1:=G) (cy (x:=.im (sI r.tx)) (Z1:=dk r none none) (G1:=G) (ai (ai rfl rfl) (bL rfl rfl e2)) rfl) (aw (Z1:=dk r x none) (G1:=G) (bG (Z1:=dk r x none) (G1:=G) (dF (Z1:=dk r x none) (G1:=G) (qV t1) t2) rfl) (aw (Z1:=dk r x n) (G1:=G) (cy sb rfl) (bw (Z1:=dk r x n) ?_)))))⟩
 unfold kY
 exact ai al eq
end
section
theorem Hu(ns:List Int)(h:ns.length≤63):∃G,Fv [.im (.fro (ns.map I.int))] []=some (.im (.bl true),G):=by
 obtain⟨a,so,le,e1,a0,a1,hle⟩:=yfb (b:=0) (G:=[]) h (by lia)
 have e1':xg [.im (.fro (ns.map I.int)),.im (.int 0)] []=some (.ow (.dic (dY a 0 1)),[M.lst (so.map I.int),M.lst (le.map I.int)]):=e1
 obtain⟨sc,hsc⟩:∃sc,sc=I.fro (ns.map I.int):=⟨_,rfl⟩
 rw [<- hsc] at e1' ⊢
 have D0:DG [M.lst (so.map I.int),M.lst (le.map I.int),M.dic (dY a 0 1)] 2 1:=⟨a,0,le,rfl,rfl,by decide,a0,a1,Int.le_refl _,hle⟩
 obtain⟨t1,G2,e3,k1,D1,_⟩:=xS D0
 obtain⟨t2,G3,e4,k2,_,_⟩:=xS D1
 have ok:∀t∈[t1,t2,t1,t2],t.ok:=λt ht=>by
  simp only [zb,List.not_mem_nil,or_false] at ht
  rcases ht with e|e|e|e<;>subst e<;>first|exact k1|exact k2
 obtain⟨ds,G4,e5,ed,_⟩:=n9 (w:=b9 ⇑(.tup ([t1,t2,t1,t2].map Rc.i)) 4) (c:=c1) (tt:=bb) (te:=bd (ag (aa 0) ae) (aJ 1 xo)) (di:=[]) (Z:=[↑sc,↑(.ref 2),↑t1.i,↑t2.i]) (λi acc G'=>acc=(List.replicate i true).map I.bl/\True)
  (λi acc g hi ⟨ea,_⟩=>by
   have hi:i < [t1,t2,t1,t2].length:=hi
   obtain⟨g',e⟩:=Ht (G:=g) (ok _ (z2e hi))
   refine⟨([t1,t2,t1,t2][i]).i,[([t1,t2,t1,t2][i]).i],_,_,.bl true,[↑([t1,t2,t1,t2][i]).i],g',?_,rfl,rfl,ai (ai rfl rfl) (bL rfl rfl e),by rw [ea,List.replicate_succ',z29];rfl,trivial⟩
   show ([t1,t2,t1,t2].map Rc.i)[i]?=_
   rw [List.getElem?_map,z15 hi];rfl)
  (λ_ _ _=>rfl) 4 0 [] G3 rfl ⟨rfl,trivial⟩
 have ed:ds=(List.replicate 4 true).map I.bl:=ed
 refine⟨G4,aZ rfl ?_⟩
 refine aw (cy (x:=.ow (.dic (dY a 0 1))) (Z1:=[↑sc,none,none,none]) (G1:=[M.lst (so.map I.int),M.lst (le.map I.int)]) (ai (a:=[⇑sc,⇑(.int 0)]) rfl (bL (xs:=[.im sc,.im (.int 0)]) rfl rfl e1')) rfl) ?_
 refine aw (Z1:=[↑sc,↑(.ref 2),↑t1.i,↑t2.i]) (G1:=G3) ?_ ?_
 ·unfold k4
  have b1:bd (ag (cF (aa 1)) ae) (aJ 1 ny) [↑sc,some (.ow (.dic (dY a 0 1))),none,none] [M.lst (so.map I.int),M.lst (le.map I.int)]=some (⇑t1.i,[↑sc,↑(.ref 2),none,none],G2):=ai (ai rfl rfl) (bL rfl rfl e3)
  have b2:bd (ag (cF (aa 1)) ae) (aJ 1 ny) [↑sc,↑(.ref 2),none,none] G2=some (⇑t2.i,[↑sc,↑(.ref 2),none,none],G3):=ai (ai rfl rfl) (bL rfl rfl e4)
  have b3:ag (bd (ag (cF (aa 1)) ae) (aJ 1 ny)) (ag (bd (ag (cF (aa 1)) ae) (aJ 1 ny)) ae) [↑sc,some (.ow (.dic (dY a 0 1))),none,none] [M.lst (so.map I.int),M.lst (le.map I.int)]=some ([⇑t1.i,⇑t2.i],[↑sc,↑(.ref 2),none,none],G3):=ai b1 (ai (ai b2 rfl) rfl)
  rw [show ([↑sc,none,none,none]:De).set 1 (some (.ow (.dic (dY a 0 1))))=[↑sc,some (.ow (.dic (dY a 0 1))),none,none] from rfl,b3]
  rfl
 refine bw (Z1:=[↑sc,↑(.ref 2),↑t1.i,↑t2.i]) (ai (ai (iX (by rfl) (cA (es:=[⇑(.tup ([t1,t2,t1,t2].map Rc.i))]) (w:=b9 ⇑(.tup ([t1,t2,t1,t2].map Rc.i)) 4) rfl rfl) (show 4≤100000 by decide) e5) rfl) ?_)
 rw [ed]
 rfl
end
end Q
set_option maxHeartbeats 4000000
namespace Q
open PySem PySem.Spec PyProof.Rows L2 B
noncomputable def top(i:Nat):Stmt:=PySem.Challenge.pw_stepcourt_k49_records_written_and_read.main.body.getD i (.Pass ⟨0,0,0,0⟩)
abbrev Hv:List Str:=["_law_record_here","_law_found","_law_word","_law_who","_law_told","_law_paper_here","_law_words","_law_k","_law_one","_law_siblings"]
abbrev gB:List Str:=["_law_deal_here"]
abbrev Hw:List Str:=["_law_script","_law_base","_law_some","_law_number_here","_law_one"]
abbrev rj:List Str:=["_law_deal_here","_law_many"]
abbrev nL5:List Str:=["_law_deal_here","_law_words","_law_found","_law_k","_law_who","_law_told","_law_paper_here"]
abbrev fX:List Str:=["words"]
abbrev Hx:List Str:=["silent","form","late","twice","count","closed","deed"]
abbrev rl:List Str:=["_law_one","_law_other"]
abbrev nL9:List Str:=["paper","before","paths","after","rows","k","word","siblings","words"]
abbrev i8:List Str:=["_law_record_here"]
abbrev yH:List Str:=["row","word","floor","place","who","answers","words","said"]
abbrev yI:List Str:=["_law_deal_here","_law_paths","_law_k","_law_siblings"]
abbrev yJ:List Str:=["_law_script","_law_deal_here","_law_one","_law_other"]
abbrev yK:List Str:=["_law_deal_here","_law_floor","_law_place","_law_who"]
structure Tx(P:Program)(w:World)(K:W.Frag)(mg:Str->Option Value)(κ:Str->Addr):Prop where
 yb8:Cls K (κ "RecordReading")
 y18a:mg "RecordReading" = some (.ref (κ "RecordReading"))
 y28d:iC K (κ "RecordReading") "ends"
 y28e:iC K (κ "RecordReading") "leaves"
 y28f:iC K (κ "RecordReading") "over"
 y290:iC K (κ "RecordReading") "told"
 y213:∃t,mg "FIGURES" = some (.str "0123456789" t)
 y214:∃a,mg "FLOORS" = some (.ref a)/\bt K (λ_=>none) a (List.map V.str ["calls","rows","deeds"])
 y215:∃t,mg "MOST_FIGURES" = some (.int 18 t)
 y216:∃d,mg "WHO" = some (.ref d)/\nq P w K d [("0",0),("1",1)]
 y217:∃a,mg "WORDS" = some (.ref a)/\bt K (λ_=>none) a (List.map V.str Hx)
 y95:mg "all" = none
 y96:mg "bool" = none
 y97:mg "enumerate" = none
 y98:mg "int" = none
 y99:mg "isinstance" = none
 y9a:mg "len" = none
 y9b:mg "list" = none
 b_max:mg "max" = none
 y9c:mg "range" = none
 y9d:mg "reversed" = none
 y9e:mg "str" = none
 y9f:mg "tuple" = none
 ya0:mg "zip" = none
section
variable {P:Program}{w:World}{K:W.Frag}{mg:Str->Option Value}{base:Heap}{κ:Str->Addr}
theorem lA:y4a Hw ["_law_script","_law_base"] (aK (top 33)):=bo
theorem Hy{f:Addr}{fd:FuncData}(F:Fun K "_law_deal" "_law_deal" (top 33) f fd)(E:Tx P w K mg κ):y49 P w K mg base bU 1 f fd ["_law_script","_law_base"] (aR K κ 2 xg) :=
 bj F lA rfl rfl λcdv A outer s H _ hr=>(av (wt (i:=2) (iD (osc:=(aK (top 33))) (N:=Hw) (xs:=["_law_one"]) (ys:=[]) (ix:=[]) rfl rfl (by decide +kernel)) (c5 (eK (af 0) (cG (af 1)) (cG ao))) (λz=>dB) (λz=>(DI hr E.b_max (aj (af 0) (aj (aQ (jC hr) jD ao (af 0)) aq)))) lA.nd)
 (av (aN (i:=3) lA.nd (aQ (b6 hr) bg ao (af 1)))
 (av (fG (c5 (cJ (af 2))) (kG (i:=4) lA.nd)
 (aA (aN (i:=3) lA.nd (aQ (gM hr) gN (aQ (b6 hr) bg (aQ (gK hr) gL (af 3) ao) (aQ (gM hr) gN (af 4) ao)) ao))))
 (aA (aL (wm hr (Ec aB (af 3) (Ec aB ao (Ec aB (cJ (DJ E.y9b E.y9d (eL (iD (osc:=(aK (top 33))) (N:=Hw) (xs:=["_law_one"]) (ys:=[]) (ix:=[]) rfl rfl (by decide +kernel)) (c5 (cJ (af 2))) (λz=>(wq (Du hr (af 0) (aQ (pU hr) pV ao ao)))) (λz=>(af 0))))) wj)))))))))
theorem nJ:y4a ["_law_deal_here","_law_many","_law_number_here","_law_one","_law_other"] rj (aK (top 34)):=bo
theorem Hz{f:Addr}{fd:FuncData}(F:Fun K "_law_draw" "_law_draw" (top 34) f fd)(E:Tx P w K mg κ):y49 P w K mg base bU 1 f fd rj (aR K κ 2 eA) :=
 bj F nJ rfl rfl λcdv A outer s H _ hr=>(av (vC (gg (dw (cL hr (aI hr (af 0) aB) ao) (iU (mW hr (dq hr E.y9a (aj (aI hr (af 0) aB) aq)) ao))))
 (aA (mY hr (af 0) aB (DT (aI hr (af 0) aB)))))
 (av (aN (i:=2) nJ.nd (aI hr (af 0) aB))
 (av (a8 (mW hr (af 2) ao)
 (av (mY hr (af 0) aB (aQ (vE hr) vF (af 2) (af 1)))
 (aA (aL (aQ (gM hr) gN (af 2) (af 1)))))
 bu)
 (av (aN (i:=3) nJ.nd (aQ (gM hr) gN (aQ (b6 hr) bg (aQ (gK hr) gL (aI hr (af 0) aB) ao) ao) ao))
 (av (mY hr (af 0) aB (aQ (gM hr) gN (aQ (b6 hr) bg (aQ (gK hr) gL (af 3) ao) ao) ao))
 (av (aN (i:=4) nJ.nd (aQ (gM hr) gN (aQ (gK hr) gL (aI hr (af 0) aB) (aI hr (af 0) aB)) ao))
 (aA (aL (aQ (gM hr) gN (aQ (b6 hr) bg (aQ (gK hr) gL (aQ (gM hr) gN (aQ (gK hr) gL (af 3) (af 3)) ao) ao) (af 4)) (af 1))))))))))
theorem yL:y4a ["_law_deal_here","_law_form"] gB (aK (top 35)):=bo
theorem HA{f:Addr}{fd:FuncData}(F:Fun K "_law_number" "_law_number" (top 35) f fd)(E:Tx P w K mg κ)(y1a2:bZ P w K mg base "_law_draw" 1 rj (aR K κ 2 eA)):y49 P w K mg base bU 2 f fd gB (aR K κ 1 eQ) :=
 bj F yL rfl rfl λcdv A outer s H _ hr=>(av (aN (i:=1) yL.nd (aE y1a2 (rm hr) (aj (af 0) (aj ao aq))))
 (av (a8 (mV hr (af 1) ao)
 (aA (aL (aE y1a2 (rm hr) (aj (af 0) (aj (aI hr (bC (aj ao (aj ao (aj ao aq)))) (af 1)) aq)))))
 bu)
 (aA (aL (aI hr (bC (aj (aQ (jC hr) jD (aQ (jC hr) jD ao ao) (aE y1a2 (rm hr) (aj (af 0) (aj ao aq)))) (aj (aQ (jC hr) jD (aE y1a2 (rm hr) (aj (af 0) (aj (aQ (pU hr) pV ao ao) aq))) (aQ (gK hr) gL (aQ (gK hr) gL (aE y1a2 (rm hr) (aj (af 0) (aj ao aq))) ao) (aQ (pU hr) pV ao ao))) aq))) (aQ (jC hr) jD (af 1) ao))))))
theorem nK:y4a yI gB (aK (top 38)):=bo
theorem HB{f:Addr}{fd:FuncData}(F:Fun K "_law_paper" "_law_paper" (top 38) f fd)(E:Tx P w K mg κ)(y1a3:bZ P w K mg base "_law_number" 2 gB (aR K κ 1 eQ))(y1a2:bZ P w K mg base "_law_draw" 1 rj (aR K κ 2 eA)):y49 P w K mg base bU 3 f fd gB (aR K κ 1 xi) :=
 bj F nK rfl rfl λcdv A outer s H _ hr=>(av (aN (i:=1) nK.nd (bC aq))
 (av (fG (qf E.y9c (aj (aE y1a2 (rm hr) (aj (af 0) (aj ao aq))) aq)) (kG (i:=2) nK.nd)
 (av (aN (i:=3) nK.nd (gj hr E.y9f (aj (eL (iD (osc:=(aK (top 38))) (N:=yI) (xs:=["_law_j"]) (ys:=gB) (ix:=[0]) rfl rfl (by decide +kernel)) (qf E.y9c (aj (aE y1a2 (rm hr) (aj (af 0) (aj ao aq))) aq)) (λz=>dB) (λz=>(aE y1a3 (rm hr) (aj (af 1) aq)))) aq)))
 (aA (cU (eW hr (af 1) (aj (bQ (aj (aE y1a3 (rm hr) (aj (af 0) aq)) (aj (aE y1a3 (rm hr) (aj (af 0) aq)) (aj (af 3) aq)))) aq))))))
 (aA (aL (bQ (aj (aE y1a3 (rm hr) (aj (af 0) aq)) (aj (gj hr E.y9f (aj (af 1) aq)) (aj (aE y1a3 (rm hr) (aj (af 0) aq)) aq))))))))
theorem lB:y4a ["_law_deal_here","_law_form","_law_said"] gB (aK (top 36)):=bo
theorem HC{f:Addr}{fd:FuncData}(F:Fun K "_law_answer" "_law_answer" (top 36) f fd)(E:Tx P w K mg κ)(y1a3:bZ P w K mg base "_law_number" 2 gB (aR K κ 1 eQ))(y1a2:bZ P w K mg base "_law_draw" 1 rj (aR K κ 2 eA)):y49 P w K mg base bU 3 f fd gB (aR K κ 1 lH) :=
 bj F lB rfl rfl λcdv A outer s H _ hr=>(av (aN (i:=1) lB.nd (aE y1a2 (rm hr) (aj (af 0) (aj ao aq))))
 (av (a8 (cL hr (af 1) ao)
 (aA (aN (i:=2) lB.nd cu))
 (aA (a8 (cL hr (af 1) ao)
 (aA (aN (i:=2) lB.nd (bQ (aj (aE y1a3 (rm hr) (aj (af 0) aq)) (aj (aE y1a3 (rm hr) (aj (af 0) aq)) aq)))))
 (aA (aN (i:=2) lB.nd (aE y1a3 (rm hr) (aj (af 0) aq)))))))
 (aA (aL (bQ (aj (af 2) (aj (aE y1a3 (rm hr) (aj (af 0) aq)) aq)))))))
theorem lC:y4a yK gB (aK (top 37)):=bo
theorem HD{f:Addr}{fd:FuncData}(F:Fun K "_law_question" "_law_question" (top 37) f fd)(E:Tx P w K mg κ)(y19f:bZ P w K mg base "_law_answer" 3 gB (aR K κ 1 lH))(y1a2:bZ P w K mg base "_law_draw" 1 rj (aR K κ 2 eA))(y1a3:bZ P w K mg base "_law_number" 2 gB (aR K κ 1 eQ)):y49 P w K mg base bU 4 f fd gB (aR K κ 1 zm) :=
 bj F lC rfl rfl λcdv A outer s H _ hr=>(av (aN (i:=1) lC.nd (aI hr (bC (aj aB (aj aB (aj aB aq)))) (aE y1a2 (rm hr) (aj (af 0) (aj ao aq)))))
 (av (aN (i:=2) lC.nd (aE y1a3 (rm hr) (aj (af 0) aq)))
 (av (a8 (cL hr (af 1) aB)
 (aA (aN (i:=2) lC.nd (bQ (aj (af 2) (aj (aE y1a3 (rm hr) (aj (af 0) aq)) aq)))))
 bu)
 (av (aN (i:=3) lC.nd (aI hr (bC (aj (bQ (aj ao (aj ao aq))) (aj (bQ (aj ao (aj ao aq))) (aj (bQ (aj ao aq)) (aj (bQ (aj ao aq)) aq))))) (aE y1a2 (rm hr) (aj (af 0) (aj ao aq)))))
 (aA (aL (bQ (aj aB (aj (af 1) (aj (af 2) (aj (af 3) (aj (gj hr E.y9f (aj (eL (iD (osc:=(aK (top 37))) (N:=yK) (xs:=["_law_k"]) (ys:=gB) (ix:=[0]) rfl rfl (by decide +kernel)) (c5 (af 3)) (λz=>dB) (λz=>(aE y19f (rm hr) (aj (af 1) aq)))) aq)) aq))))))))))))
theorem iw:y4a nL5 gB (aK (top 39)):=bo
theorem HE{f:Addr}{fd:FuncData}(F:Fun K "_law_record" "_law_record" (top 39) f fd)(E:Tx P w K mg κ)(y1a2:bZ P w K mg base "_law_draw" 1 rj (aR K κ 2 eA))(y1a4:bZ P w K mg base "_law_paper" 3 gB (aR K κ 1 xi))(y1a5:bZ P w K mg base "_law_question" 4 gB (aR K κ 1 zm))(y1a3:bZ P w K mg base "_law_number" 2 gB (aR K κ 1 eQ)):y49 P w K mg base bU 5 f fd gB (aR K κ 1 ny) :=
 bj F iw rfl rfl λcdv A outer s H _ hr=>(av (aN (i:=1) iw.nd (bC (aj aB (aj aB (aj aB (aj aB (aj aB (aj aB (aj aB aq)))))))))
 (av (aN (i:=2) iw.nd (bC (aj (bQ (aj aB (aj (aE y1a3 (rm hr) (aj (af 0) aq)) (aj (aE y1a3 (rm hr) (aj (af 0) aq)) aq)))) aq)))
 (av (fG (qf E.y9c (aj (aE y1a2 (rm hr) (aj (af 0) (aj (aI hr (bC (aj ao (aj ao aq))) (aE y1a2 (rm hr) (aj (af 0) (aj ao aq)))) aq))) aq)) (kG (i:=3) iw.nd)
 (aA (cU (eW hr (af 2) (aj (aE y1a5 (rm hr) (aj (af 0) aq)) aq)))))
 (av (aN (i:=4) iw.nd (aI hr (bC (aj (bQ (aj ao aq)) (aj (bQ (aj ao aq)) (aj (bQ (aj ao (aj ao aq))) aq)))) (aE y1a2 (rm hr) (aj (af 0) (aj ao aq)))))
 (av (aN (i:=5) iw.nd (gj hr E.y9f (aj (eL (iD (osc:=(aK (top 39))) (N:=nL5) (xs:=["_law_k"]) (ys:=["_law_words","_law_deal_here"]) (ix:=[1,0]) rfl rfl (by decide +kernel)) (c5 (af 4)) (λz=>dB) (λz=>(aI hr (af 1) (aE y1a2 (rm hr) (aj (af 2) (aj ao aq)))))) aq)))
 (av (aN (i:=6) iw.nd cu)
 (av (a8 (cL hr (aE y1a2 (rm hr) (aj (af 0) (aj ao aq))) ao)
 (aA (aN (i:=6) iw.nd (aE y1a4 (rm hr) (aj (af 0) aq))))
 bu)
 (aA (aL (aQ (b6 hr) bg (gj hr E.y9f (aj (af 2) aq)) (bQ (aj (bQ (aj aB (aj (af 4) (aj (af 5) (aj (af 6) aq))))) aq))))))))))))
theorem HF:y4a ["_law_said"] ["_law_said"] (aK (top 40)):=bo
theorem HG{f:Addr}{fd:FuncData}(F:Fun K "_law_said_text" "_law_said_text" (top 40) f fd)(E:Tx P w K mg κ):y49 P w K mg base bU 1 f fd ["_law_said"] (aR K κ 1 xj) :=
 bj F HF rfl rfl λcdv A outer s H _ hr=>(av (a8 (eG (af 0))
 (aA (aL aB))
 bu)
 (av (a8 (c0 (dE hr E.y99 (aj (af 0) (aj (dC (by rfl) E.y9f PyProof.Rows.boot_tuple) aq))))
 (aA (aL (aQ (b6 hr) bg (aQ (b6 hr) bg (fP hr E.y9e (aj (aI hr (af 0) ao) aq)) aB) (fP hr E.y9e (aj (aI hr (af 0) ao) aq)))))
 bu)
 (aA (aL (fP hr E.y9e (aj (af 0) aq))))))
theorem iy:y4a ["_law_row","_law_floor","_law_place","_law_who","_law_said","_law_words","_law_sign","_law_one"] ["_law_row"] (aK (top 41)):=bo
theorem HH{f:Addr}{fd:FuncData}(F:Fun K "_law_asked_text" "_law_asked_text" (top 41) f fd)(E:Tx P w K mg κ)(y1a9:bZ P w K mg base "_law_said_text" 1 ["_law_said"] (aR K κ 1 xj)):y49 P w K mg base bU 2 f fd ["_law_row"] (aR K κ 1 rO) :=
 bj F iy rfl rfl λcdv A outer s H _ hr=>(av (jL (eK (af 0) (cG ao) gQ) (eX (cZ (i:=1) iy.nd (cZ (i:=2) iy.nd (cZ (i:=3) iy.nd (cZ (i:=4) iy.nd eS))))))
 (av (aN (i:=5) iy.nd (bC (aj (af 1) (aj (k6 hr E.y9e (aj (af 2) aq)) aq))))
 (av (a8 (c0 (dE hr E.y99 (aj (af 2) (aj (dC (by rfl) E.y9f PyProof.Rows.boot_tuple) aq))))
 (aA (mY hr (af 5) ao (aQ (b6 hr) bg (aQ (b6 hr) bg (k6 hr E.y9e (aj (aI hr (af 2) ao) aq)) aB) (k6 hr E.y9e (aj (aI hr (af 2) ao) aq)))))
 bu)
 (av (a8 (cL hr (dq hr E.y9a (aj (af 3) aq)) ao)
 (aA (cU (iW hr (af 5) (aj (bC (aj aB (aj (k6 hr E.y9e (aj (aI hr (af 3) ao) aq)) aq))) aq))))
 bu)
 (av (fG (nv E.ya0 (aj aB (aj (af 4) aq))) (eX (cZ (i:=6) iy.nd (cZ (i:=7) iy.nd eS)))
 (aA (cU (iW hr (af 5) (aj (bC (aj (af 6) (aj (aE y1a9 (rm hr) (aj (aI hr (af 7) ao) aq)) (aj (k6 hr E.y9e (aj (aI hr (af 7) ao) aq)) aq)))) aq)))))
 (aA (aL (dX hr aB (aj (af 5) aq)))))))))
theorem fm:y4a Hv i8 (aK (top 42)):=bo
theorem HI{f:Addr}{fd:FuncData}(F:Fun K "_law_record_rows" "_law_record_rows" (top 42) f fd)(E:Tx P w K mg κ)(y1a0:bZ P w K mg base "_law_asked_text" 2 ["_law_row"] (aR K κ 1 rO)):y49 P w K mg base bU 3 f fd i8 (aR K κ 1 zo) :=
 bj F fm rfl rfl λcdv A outer s H _ hr=>(av (aN (i:=1) fm.nd (bC (aj (aQ (b6 hr) bg (aQ (b6 hr) bg (aQ (b6 hr) bg aB (fP hr E.y9e (aj (aI hr (aI hr (af 0) ao) ao) aq))) aB) (fP hr E.y9e (aj (aI hr (aI hr (af 0) ao) ao) aq))) aq)))
 (av (cU (iW hr (af 1) (aj (eL (iD (osc:=(aK (top 42))) (N:=Hv) (xs:=["_law_row"]) (ys:=[]) (ix:=[]) rfl rfl (by decide +kernel)) (c5 (eK (af 0) (cG ao) (cG (mO ao)))) (λz=>dB) (λz=>(aE y1a0 (rm hr) (aj (af 0) aq)))) aq)))
 (av (jL (aI hr (af 0) (mO ao)) (eX (cZ (i:=2) fm.nd (cZ (i:=3) fm.nd (cZ (i:=4) fm.nd (cZ (i:=5) fm.nd eS))))))
 (av (aN (i:=6) fm.nd (bC (aj (af 2) aq)))
 (av (fG (nv E.ya0 (aj (af 3) (aj (af 4) aq))) (eX (cZ (i:=7) fm.nd (cZ (i:=8) fm.nd eS)))
 (aA (cU (iW hr (af 6) (aj (bC (aj (fP hr E.y9e (aj (af 7) aq)) (aj (af 8) aq))) aq)))))
 (av (cU (eW hr (af 1) (aj (dX hr aB (aj (af 6) aq)) aq)))
 (av (a8 (kF (af 5))
 (av (cU (eW hr (af 1) (aj (aQ (b6 hr) bg (aQ (b6 hr) bg (aQ (b6 hr) bg aB (fP hr E.y9e (aj (aI hr (af 5) ao) aq))) aB) (fP hr E.y9e (aj (aI hr (af 5) ao) aq))) aq)))
 (aA (fG (c5 (aI hr (af 5) ao)) (eX (cZ (i:=7) fm.nd (cZ (i:=8) fm.nd (cZ (i:=9) fm.nd eS))))
 (aA (cU (eW hr (af 1) (aj (dX hr aB (aj (aQ (b6 hr) bg (bC (aj aB (aj (fP hr E.y9e (aj (af 7) aq)) (aj (fP hr E.y9e (aj (af 8) aq)) (aj aB aq))))) (eL (iD (osc:=(aK (top 42))) (N:=Hv) (xs:=["_law_seal"]) (ys:=[]) (ix:=[]) rfl rfl (by decide +kernel)) (c5 (af 9)) (λz=>dB) (λz=>(fP hr E.y9e (aj (af 0) aq))))) aq)) aq)))))))
 bu)
 (aA (aL (af 1))))))))))
theorem rn:y4a ["number","figures"] ["number"] (aK (top 6)):=bo
theorem HJ{f:Addr}{fd:FuncData}(F:Fun K "figures_of" "figures_of" (top 6) f fd)(E:Tx P w K mg κ):y49 P w K mg base bU 1 f fd ["number"] (aR K κ 1 xl) :=
 bj F rn rfl rfl λcdv A outer s H _ hr=>(av (aN (i:=1) rn.nd (bC aq))
 (av (vC (mW hr (af 0) ao)
 (av (cU (eW hr (af 1) (aj (aI hr (nh (by rfl) E.y213) (aQ (gM hr) gN (af 0) ao)) aq)))
 (aA (aN (i:=0) rn.nd (aQ (vE hr) vF (af 0) ao)))))
 (av (cU (eW hr (af 1) (aj (aI hr (nh (by rfl) E.y213) (af 0)) aq)))
 (aA (aL (ES E.y9d aB (af 1)))))))
theorem HK:y4a ["number"] ["number"] (aK (top 12)):=bo
theorem HL{f:Addr}{fd:FuncData}(F:Fun K "show_number" "show_number" (top 12) f fd)(E:Tx P w K mg κ)(y1ae:bZ P w K mg base "figures_of" 1 ["number"] (aR K κ 1 xl)):y49 P w K mg base bU 2 f fd ["number"] (aR K κ 1 dJ) :=
 bj F HK rfl rfl λcdv A outer s H _ hr=>(aA (aL (gJ (mV hr (af 0) ao) (aQ (b6 hr) bg aB (aE y1ae (rm hr) (aj (mO (af 0)) aq))) (aE y1ae (rm hr) (aj (af 0) aq)))))
theorem HM:y4a ["place"] ["place"] (aK (top 14)):=bo
theorem HN{f:Addr}{fd:FuncData}(F:Fun K "show_place" "show_place" (top 14) f fd)(E:Tx P w K mg κ)(y1b9:bZ P w K mg base "show_number" 2 ["number"] (aR K κ 1 dJ)):y49 P w K mg base bU 3 f fd ["place"] (aR K κ 1 zr) :=
 bj F HM rfl rfl λcdv A outer s H _ hr=>(av (a8 (c0 (dE hr E.y99 (aj (af 0) (aj (dC (by rfl) E.y9f PyProof.Rows.boot_tuple) aq))))
 (aA (aL (dX hr aB (aj (eL (iD (osc:=(aK (top 14))) (N:=["place"]) (xs:=["part"]) (ys:=[]) (ix:=[]) rfl rfl (by decide +kernel)) (c5 (af 0)) (λz=>dB) (λz=>(aE y1b9 (rm hr) (aj (af 0) aq)))) aq))))
 bu)
 (aA (aL (aE y1b9 (rm hr) (aj (af 0) aq)))))
theorem HP:y4a ["said"] ["said"] (aK (top 13)):=bo
theorem HQ{f:Addr}{fd:FuncData}(F:Fun K "show_said" "show_said" (top 13) f fd)(E:Tx P w K mg κ)(y1b9:bZ P w K mg base "show_number" 2 ["number"] (aR K κ 1 dJ)):y49 P w K mg base bU 3 f fd ["said"] (aR K κ 1 rP) :=
 bj F HP rfl rfl λcdv A outer s H _ hr=>(av (a8 (eG (af 0))
 (aA (aL aB))
 bu)
 (av (a8 (c0 (dE hr E.y99 (aj (af 0) (aj (dC (by rfl) E.y9f PyProof.Rows.boot_tuple) aq))))
 (aA (aL (dX hr aB (aj (eL (iD (osc:=(aK (top 13))) (N:=["said"]) (xs:=["part"]) (ys:=[]) (ix:=[]) rfl rfl (by decide +kernel)) (c5 (af 0)) (λz=>dB) (λz=>(aE y1b9 (rm hr) (aj (af 0) aq)))) aq))))
 bu)
 (aA (aL (aE y1b9 (rm hr) (aj (af 0) aq))))))
theorem iz:y4a yH ["row"] (aK (top 15)):=bo
theorem HR{f:Addr}{fd:FuncData}(F:Fun K "show_asked" "show_asked" (top 15) f fd)(E:Tx P w K mg κ)(y1be:bZ P w K mg base "show_said" 3 ["said"] (aR K κ 1 rP))(y1b9:bZ P w K mg base "show_number" 2 ["number"] (aR K κ 1 dJ))(y1bc:bZ P w K mg base "show_place" 3 ["place"] (aR K κ 1 zr)):y49 P w K mg base bU 4 f fd ["row"] (aR K κ 1 zt) :=
 bj F iz rfl rfl λcdv A outer s H _ hr=>(av (jL (af 0) (eX (cZ (i:=1) iz.nd (cZ (i:=2) iz.nd (cZ (i:=3) iz.nd (cZ (i:=4) iz.nd (cZ (i:=5) iz.nd eS)))))))
 (av (aN (i:=6) iz.nd (bC (aj (af 2) (aj (aE y1bc (rm hr) (aj (af 3) aq)) aq))))
 (av (a8 (cL hr (dq hr E.y9a (aj (af 4) aq)) ao)
 (aA (cU (iW hr (af 6) (aj (bC (aj aB (aj (aE y1b9 (rm hr) (aj (aI hr (af 4) ao) aq)) aq))) aq))))
 bu)
 (av (wt (i:=7) (iD (osc:=(aK (top 15))) (N:=yH) (xs:=["answer"]) (ys:=[]) (ix:=[]) rfl rfl (by decide +kernel)) (c5 (af 5)) (λz=>dB) (λz=>(aQ (b6 hr) bg (aQ (b6 hr) bg (aE y1be (rm hr) (aj (aI hr (af 0) ao) aq)) aB) (aE y1b9 (rm hr) (aj (aI hr (af 0) ao) aq)))) iz.nd)
 (aA (aL (aQ (b6 hr) bg (aQ (b6 hr) bg (dX hr aB (aj (af 6) aq)) aB) (dX hr aB (aj (af 7) aq)))))))))
theorem gX:y4a nL9 ["paper"] (aK (top 16)):=bo
theorem HS{f:Addr}{fd:FuncData}(F:Fun K "show_paper" "show_paper" (top 16) f fd)(E:Tx P w K mg κ)(y1b9:bZ P w K mg base "show_number" 2 ["number"] (aR K κ 1 dJ)):y49 P w K mg base bU 3 f fd ["paper"] (aR K κ 1 zu) :=
 bj F gX rfl rfl λcdv A outer s H _ hr=>(av (jL (af 0) (eX (cZ (i:=1) gX.nd (cZ (i:=2) gX.nd (cZ (i:=3) gX.nd eS)))))
 (av (aN (i:=4) gX.nd (bC (aj (dX hr aB (aj (bC (aj aB (aj (aE y1b9 (rm hr) (aj (af 1) aq)) (aj aB (aj (aE y1b9 (rm hr) (aj (af 3) aq)) aq))))) aq)) aq)))
 (av (fG (c5 (af 2)) (eX (cZ (i:=5) gX.nd (cZ (i:=6) gX.nd (cZ (i:=7) gX.nd eS))))
 (av (aN (i:=8) gX.nd (bC (aj aB (aj (aE y1b9 (rm hr) (aj (af 5) aq)) (aj (aE y1b9 (rm hr) (aj (af 6) aq)) (aj aB aq))))))
 (aA (cU (eW hr (af 4) (aj (dX hr aB (aj (aQ (b6 hr) bg (af 8) (eL (iD (osc:=(aK (top 16))) (N:=nL9) (xs:=["sibling"]) (ys:=[]) (ix:=[]) rfl rfl (by decide +kernel)) (c5 (af 7)) (λz=>dB) (λz=>(aE y1b9 (rm hr) (aj (af 0) aq))))) aq)) aq))))))
 (aA (aL (af 4))))))
theorem iA:y4a ["row","word","who","words","paper","shown","one","told"] ["row"] (aK (top 17)):=bo
theorem HU{f:Addr}{fd:FuncData}(F:Fun K "show_out" "show_out" (top 17) f fd)(E:Tx P w K mg κ)(y1bb:bZ P w K mg base "show_paper" 3 ["paper"] (aR K κ 1 zu))(y1b9:bZ P w K mg base "show_number" 2 ["number"] (aR K κ 1 dJ)):y49 P w K mg base bU 4 f fd ["row"] (aR K κ 1 zw) :=
 bj F iA rfl rfl λcdv A outer s H _ hr=>(av (jL (af 0) (eX (cZ (i:=1) iA.nd (cZ (i:=2) iA.nd (cZ (i:=3) iA.nd (cZ (i:=4) iA.nd eS))))))
 (av (aN (i:=5) iA.nd (bC (aj aB aq)))
 (av (fG (nv E.ya0 (aj (af 2) (aj (af 3) aq))) (eX (cZ (i:=6) iA.nd (cZ (i:=7) iA.nd eS)))
 (aA (cU (iW hr (af 5) (aj (bC (aj (aE y1b9 (rm hr) (aj (af 6) aq)) (aj (af 7) aq))) aq)))))
 (aA (aL (aQ (b6 hr) bg (bC (aj (dX hr aB (aj (af 5) aq)) aq)) (gJ (eG (af 4)) (bC aq) (aE y1bb (rm hr) (aj (af 4) aq)))))))))
theorem rq:y4a ["record","rows","row"] ["record"] (aK (top 18)):=bo
theorem HV{f:Addr}{fd:FuncData}(F:Fun K "show_record" "show_record" (top 18) f fd)(E:Tx P w K mg κ)(y1b9:bZ P w K mg base "show_number" 2 ["number"] (aR K κ 1 dJ))(y1b8:bZ P w K mg base "show_asked" 4 ["row"] (aR K κ 1 zt))(y1ba:bZ P w K mg base "show_out" 4 ["row"] (aR K κ 1 zw)):y49 P w K mg base bU 5 f fd ["record"] (aR K κ 1 qu) :=
 bj F rq rfl rfl λcdv A outer s H _ hr=>(av (aN (i:=1) rq.nd (bC aq))
 (av (fG (c5 (af 0)) (kG (i:=2) rq.nd)
 (aA (a8 (cL hr (aI hr (af 2) ao) aB)
 (aA (cU (eW hr (af 1) (aj (dX hr aB (aj (bC (aj aB (aj (aE y1b9 (rm hr) (aj (aI hr (af 2) ao) aq)) (aj (aE y1b9 (rm hr) (aj (aI hr (af 2) ao) aq)) aq)))) aq)) aq))))
 (aA (a8 (cL hr (aI hr (af 2) ao) aB)
 (aA (cU (eW hr (af 1) (aj (aE y1b8 (rm hr) (aj (af 2) aq)) aq))))
 (aA (cU (iW hr (af 1) (aj (aE y1ba (rm hr) (aj (af 2) aq)) aq)))))))))
 (aA (aL (dX hr aB (aj (af 1) aq))))))
theorem HW:y4a rl rl (aK (top 43)):=bo
theorem HX{f:Addr}{fd:FuncData}{n:Nat}(F:Fun K "_law_alike" "_law_alike" (top 43) f fd)(E:Tx P w K mg κ)(y19e:bZ P w K mg base "_law_alike" (1+n) rl (aR K κ 2 (gw n))):y49 P w K mg base bU (1+n+1) f fd rl (aR K κ 2 (gw (n+1))):=by
 unfold gw
 exact bj F HW rfl rfl λcdv A outer s H _ hr=>(av (a8 (gg (cK (eG (af 0)) (dQ (eG (af 1)))))
 (aA (aL (kZ (vB (af 0)) (kT (vB (af 1))))))
 bu)
 (av (a8 (gg (dw (c0 (dE hr E.y99 (aj (af 0) (aj (dC (by rfl) E.y9f PyProof.Rows.boot_tuple) aq)))) (iU (c0 (dE hr E.y99 (aj (af 1) (aj (dC (by rfl) E.y9f PyProof.Rows.boot_tuple) aq)))))))
 (aA (aL (kZ (mU hr (dq hr E.y9a (aj (af 0) aq)) (dq hr E.y9a (aj (af 1) aq))) (kT (qi hr E.y95 (aj (Ek (iD (osc:=(aK (top 43))) (N:=rl) (xs:=["_law_part","_law_more"]) (ys:=[]) (ix:=[]) rfl rfl (by decide +kernel)) (nv E.ya0 (aj (af 0) (aj (af 1) aq))) (λz=>dB) (λz=>(aE y19e (rm hr) (aj (af 0) (aj (af 1) aq))))) aq))))))
 bu)
 (av (a8 (gg (cK (c0 (dE hr E.y99 (aj (af 0) (aj (dC (by rfl) E.y9e PyProof.Rows.boot_str) aq)))) (dQ (c0 (dE hr E.y99 (aj (af 1) (aj (dC (by rfl) E.y9e PyProof.Rows.boot_str) aq)))))))
 (aA (aL (kZ (dE hr E.y99 (aj (af 0) (aj (dC (by rfl) E.y9e PyProof.Rows.boot_str) aq))) (kZ (dE hr E.y99 (aj (af 1) (aj (dC (by rfl) E.y9e PyProof.Rows.boot_str) aq))) (kT (mU hr (af 0) (af 1)))))))
 bu)
 (av (a8 (gg (cK (jA (c0 (dE hr E.y99 (aj (af 0) (aj (dC (by rfl) E.y98 PyProof.Rows.boot_int) aq))))) (cK (jA (c0 (dE hr E.y99 (aj (af 1) (aj (dC (by rfl) E.y98 PyProof.Rows.boot_int) aq))))) (cK (c0 (dE hr E.y99 (aj (af 0) (aj (dC (by rfl) E.y96 PyProof.Rows.boot_bool) aq)))) (dQ (c0 (dE hr E.y99 (aj (af 1) (aj (dC (by rfl) E.y96 PyProof.Rows.boot_bool) aq)))))))))
 (aA (aL vx))
 bu)
 (aA (aL (mU hr (af 0) (af 1))))))))
theorem HY:y4a ["self"] ["self"] (aK (bh (top 30) 0)):=bo
theorem HZ{f:Addr}{fd:FuncData}(F:Fun K "__init__" "RecordReading.__init__" (bh (top 30) 0) f fd)(E:Tx P w K mg κ):y49 P w K mg base bU 1 f fd ["self"] (aR K κ 1 rQ) :=
 bj F HY rfl rfl λcdv A outer s H _ hr=>(av (jK E.yb8 E.y290 (af 0) (cJ (bC aq)))
 (av (jK E.yb8 E.y28f (af 0) cu)
 (av (jK E.yb8 E.y28d (af 0) cu)
 (aA (jK E.yb8 E.y28e (af 0) (cJ (bC aq)))))))
theorem j8:y4a ["self","word","who","words","paper"] ["self"] (aK (bh (top 30) 4)):=bo
theorem Ia{f:Addr}{fd:FuncData}(F:Fun K "made_record" "RecordReading.made_record" (bh (top 30) 4) f fd)(E:Tx P w K mg κ):y49 P w K mg base bU 1 f fd ["self"] (aR K κ 1 zx) :=
 bj F j8 rfl rfl λcdv A outer s H _ hr=>(av (jL (dW E.yb8 E.y28f (af 0)) (eX (cZ (i:=1) j8.nd (cZ (i:=2) j8.nd (cZ (i:=3) j8.nd (cZ (i:=4) j8.nd eS))))))
 (av (a8 (kF (dW E.yb8 E.y28d (af 0)))
 (aA (aN (i:=4) j8.nd (bQ (aj (aI hr (dW E.yb8 E.y28d (af 0)) ao) (aj (gj hr E.y9f (aj (dW E.yb8 E.y28e (af 0)) aq)) (aj (aI hr (dW E.yb8 E.y28d (af 0)) ao) aq))))))
 bu)
 (aA (aL (gj hr E.y9f (aj (aQ (b6 hr) bg (dW E.yb8 E.y290 (af 0)) (bC (aj (bQ (aj (af 1) (aj (af 2) (aj (af 3) (aj (af 4) aq))))) aq))) aq))))))
theorem rz:y4a ["words","who","told"] fX (aK (top 27)):=bo
theorem Ib{f:Addr}{fd:FuncData}(F:Fun K "out_from" "out_from" (top 27) f fd)(E:Tx P w K mg κ):y49 P w K mg base bU 1 f fd fX (aR K κ 1 lI) :=
 bj F rz rfl rfl λcdv A outer s H _ hr=>(av (aN (i:=1) rz.nd (vX (af 0) (cG ao) gQ ao))
 (av (aN (i:=2) rz.nd (vX (af 0) (cG ao) gQ ao))
 (av (a8 (gg (cK (eU hr (aI hr (af 0) ao) aB) (cK (Fj hr (af 1) (bQ (aj (cJ (bC (aj aB aq))) (aj (cJ (bC (aj aB aq))) (aj (cJ (bC (aj aB (aj aB aq)))) aq))))) (dQ (eU hr (dq hr E.y9a (aj (af 2) aq)) (dq hr E.y9a (aj (af 1) aq)))))))
 (aA (aL cu))
 bu)
 (av (a8 (jA (c0 (qi hr E.y95 (aj (eL (iD (osc:=(aK (top 27))) (N:=["words","who","told"]) (xs:=["word"]) (ys:=[]) (ix:=[]) rfl rfl (by decide +kernel)) (c5 (cJ (af 2))) (λz=>dB) (λz=>(DB hr (af 0) (wM (ys:=Hx) (by rfl) E.y217)))) aq))))
 (aA (aL cu))
 bu)
 (aA (aL (bQ (aj aB (aj (gj hr E.y9f (aj (eL (iD (osc:=(aK (top 27))) (N:=["words","who","told"]) (xs:=["one"]) (ys:=[]) (ix:=[]) rfl rfl (by decide +kernel)) (c5 (cJ (af 1))) (λz=>dB) (λz=>(xf (by rfl) E.y216 (af 0)))) aq)) (aj (gj hr E.y9f (aj (af 2) aq)) (aj cu aq)))))))))))
theorem Ic:y4a ["self","leaf"] ["self","leaf"] (aK (bh (top 30) 3)):=bo
theorem Ie{f:Addr}{fd:FuncData}(F:Fun K "keep_leaf" "RecordReading.keep_leaf" (bh (top 30) 3) f fd)(E:Tx P w K mg κ):y49 P w K mg base bU 1 f fd ["self","leaf"] (aR K κ 2 zy) :=
 bj F Ic rfl rfl λcdv A outer s H _ hr=>(av (cU (eW hr (dW E.yb8 E.y28e (af 0)) (aj (af 1) aq)))
 (aA (aL (mK (af 1)))))
theorem nL:y4a ["text","number","sign"] ["text"] (aK (top 5)):=bo
theorem Ig{f:Addr}{fd:FuncData}(F:Fun K "number_in" "number_in" (top 5) f fd)(E:Tx P w K mg κ):y49 P w K mg base bU 1 f fd ["text"] (aR K κ 1 zA) :=
 bj F nL rfl rfl λcdv A outer s H _ hr=>(av (a8 (gg (cK (cL hr (af 0) aB) (dQ (gg (dw (cL hr (aI hr (af 0) ao) aB) (iU (eU hr (af 0) aB)))))))
 (aA (aL cu))
 bu)
 (av (aN (i:=1) nL.nd ao)
 (av (fG (wO (af 0)) (kG (i:=2) nL.nd)
 (av (a8 (EO hr (af 2) (nh (by rfl) E.y213))
 (aA (aL cu))
 bu)
 (aA (aN (i:=1) nL.nd (aQ (b6 hr) bg (aQ (gK hr) gL ao (af 1)) (ER hr (nh (by rfl) E.y213) (aj (af 2) aq)))))))
 (aA (aL (af 1))))))
theorem nM:y4a ["text","below","figures","number"] ["text"] (aK (top 19)):=bo
theorem Ih{f:Addr}{fd:FuncData}(F:Fun K "number_from" "number_from" (top 19) f fd)(E:Tx P w K mg κ)(y1b1:bZ P w K mg base "number_in" 1 ["text"] (aR K κ 1 zA)):y49 P w K mg base bU 2 f fd ["text"] (aR K κ 1 iF) :=
 bj F nM rfl rfl λcdv A outer s H _ hr=>(av (aN (i:=1) nM.nd (Fi hr (af 0) (aj aB aq)))
 (av (aN (i:=2) nM.nd (gJ (c0 (af 1)) (eK (af 0) (cG ao) gQ) (af 0)))
 (av (a8 (gg (cK (mW hr (dq hr E.y9a (aj (af 2) aq)) (Eu (by rfl) E.y215)) (dQ (cL hr (af 0) aB))))
 (aA (aL cu))
 bu)
 (av (aN (i:=3) nM.nd (aE y1b1 (rm hr) (aj (af 2) aq)))
 (aA (aL (gJ (gg (dw (c0 (af 1)) (iU (kF (af 3))))) (mO (af 3)) (af 3))))))))
theorem yM:y4a ["texts","numbers"] ["texts"] (aK (top 20)):=bo
theorem Ii{f:Addr}{fd:FuncData}(F:Fun K "numbers_from" "numbers_from" (top 20) f fd)(E:Tx P w K mg κ)(y1b0:bZ P w K mg base "number_from" 2 ["text"] (aR K κ 1 iF)):y49 P w K mg base bU 3 f fd ["texts"] (aR K κ 1 jY) :=
 bj F yM rfl rfl λcdv A outer s H _ hr=>(av (aN (i:=1) yM.nd (gj hr E.y9f (aj (eL (iD (osc:=(aK (top 20))) (N:=["texts","numbers"]) (xs:=["text"]) (ys:=[]) (ix:=[]) rfl rfl (by decide +kernel)) (c5 (cJ (af 0))) (λz=>dB) (λz=>(aE y1b0 (rm hr) (aj (af 0) aq)))) aq)))
 (aA (aL (gJ (xc hr cu (af 1)) cu (af 1)))))
theorem Ij:y4a fX fX (aK (top 28)):=bo
theorem Ik{f:Addr}{fd:FuncData}(F:Fun K "paper_ends" "paper_ends" (top 28) f fd)(E:Tx P w K mg κ)(y1b2:bZ P w K mg base "numbers_from" 3 ["texts"] (aR K κ 1 jY)):y49 P w K mg base bU 4 f fd fX (aR K κ 1 rR) :=
 bj F Ij rfl rfl λcdv A outer s H _ hr=>(av (a8 (gg (cK (eU hr (dq hr E.y9a (aj (af 0) aq)) ao) (cK (eU hr (aI hr (af 0) ao) aB) (dQ (eU hr (aI hr (af 0) ao) aB)))))
 (aA (aL cu))
 bu)
 (aA (aL (aE y1b2 (rm hr) (aj (bC (aj (aI hr (af 0) ao) (aj (aI hr (af 0) ao) aq))) aq)))))
theorem Il:y4a ["self","row"] ["self","row"] (aK (bh (top 30) 2)):=bo
theorem Im{f:Addr}{fd:FuncData}(F:Fun K "keep" "RecordReading.keep" (bh (top 30) 2) f fd)(E:Tx P w K mg κ):y49 P w K mg base bU 1 f fd ["self","row"] (aR K κ 2 xm) :=
 bj F Il rfl rfl λcdv A outer s H _ hr=>(av (cU (eW hr (dW E.yb8 E.y290 (af 0)) (aj (af 1) aq)))
 (aA (aL (mK (af 1)))))
theorem rA:y4a ["words","ends","siblings"] fX (aK (top 29)):=bo
theorem Io{f:Addr}{fd:FuncData}(F:Fun K "leaf_from" "leaf_from" (top 29) f fd)(E:Tx P w K mg κ)(y1b2:bZ P w K mg base "numbers_from" 3 ["texts"] (aR K κ 1 jY)):y49 P w K mg base bU 4 f fd fX (aR K κ 1 zB) :=
 bj F rA rfl rfl λcdv A outer s H _ hr=>(av (a8 (gg (cK (mV hr (dq hr E.y9a (aj (af 0) aq)) ao) (cK (eU hr (aI hr (af 0) ao) aB) (dQ (eU hr (aI hr (af 0) ao) aB)))))
 (aA (aL cu))
 bu)
 (av (aN (i:=1) rA.nd (aE y1b2 (rm hr) (aj (eK (af 0) (cG ao) (cG ao)) aq)))
 (av (aN (i:=2) rA.nd (aE y1b2 (rm hr) (aj (eK (af 0) (cG ao) gQ) aq)))
 (av (a8 (gg (cK (eG (af 1)) (dQ (eG (af 2)))))
 (aA (aL cu))
 bu)
 (aA (aL (bQ (aj (aI hr (af 1) ao) (aj (aI hr (af 1) ao) (aj (af 2) aq))))))))))
theorem yN:y4a ["words","numbers"] fX (aK (top 25)):=bo
theorem Ip{f:Addr}{fd:FuncData}(F:Fun K "claims_from" "claims_from" (top 25) f fd)(E:Tx P w K mg κ)(y1b2:bZ P w K mg base "numbers_from" 3 ["texts"] (aR K κ 1 jY)):y49 P w K mg base bU 4 f fd fX (aR K κ 1 zC) :=
 bj F yN rfl rfl λcdv A outer s H _ hr=>(av (aN (i:=1) yN.nd (aE y1b2 (rm hr) (aj (eK (af 0) (cG ao) gQ) aq)))
 (av (a8 (gg (cK (eU hr (aI hr (af 0) ao) aB) (cK (eG (af 1)) (dQ (eU hr (dq hr E.y9a (aj (af 1) aq)) ao)))))
 (aA (aL cu))
 bu)
 (aA (aL (bQ (aj aB (aj (aI hr (af 1) ao) (aj (aI hr (af 1) ao) aq))))))))
theorem yO:y4a ["text","sign","parts"] ["text","sign"] (aK (top 21)):=bo
theorem Iq{f:Addr}{fd:FuncData}(F:Fun K "pair_from" "pair_from" (top 21) f fd)(E:Tx P w K mg κ)(y1b2:bZ P w K mg base "numbers_from" 3 ["texts"] (aR K κ 1 jY)):y49 P w K mg base bU 4 f fd ["text","sign"] (aR K κ 2 qv) :=
 bj F yO rfl rfl λcdv A outer s H _ hr=>(av (aN (i:=2) yO.nd (qo hr (af 0) (aj (af 1) aq)))
 (aA (aL (gJ (cL hr (dq hr E.y9a (aj (af 2) aq)) ao) (aE y1b2 (rm hr) (aj (cJ (af 2)) aq)) cu))))
theorem Ir:y4a ["floor","text"] ["floor","text"] (aK (top 22)):=bo
theorem Iu{f:Addr}{fd:FuncData}(F:Fun K "place_from" "place_from" (top 22) f fd)(E:Tx P w K mg κ)(y1b4:bZ P w K mg base "pair_from" 4 ["text","sign"] (aR K κ 2 qv))(y1b0:bZ P w K mg base "number_from" 2 ["text"] (aR K κ 1 iF)):y49 P w K mg base bU 5 f fd ["floor","text"] (aR K κ 2 zD) :=
 bj F Ir rfl rfl λcdv A outer s H _ hr=>(aA (aL (gJ (cL hr (af 0) aB) (aE y1b4 (rm hr) (aj (af 1) (aj aB aq))) (aE y1b0 (rm hr) (aj (af 1) aq)))))
theorem rB:y4a ["words","late","said"] fX (aK (top 23)):=bo
theorem Iv{f:Addr}{fd:FuncData}(F:Fun K "answer_from" "answer_from" (top 23) f fd)(E:Tx P w K mg κ)(y1b4:bZ P w K mg base "pair_from" 4 ["text","sign"] (aR K κ 2 qv))(y1b0:bZ P w K mg base "number_from" 2 ["text"] (aR K κ 1 iF)):y49 P w K mg base bU 5 f fd fX (aR K κ 1 rS) :=
 bj F rB rfl rfl λcdv A outer s H _ hr=>(av (aN (i:=1) rB.nd (aE y1b0 (rm hr) (aj (aI hr (af 0) ao) aq)))
 (av (aN (i:=2) rB.nd (gJ (wN hr aB (aI hr (af 0) ao)) (aE y1b4 (rm hr) (aj (aI hr (af 0) ao) (aj aB aq))) (aE y1b0 (rm hr) (aj (aI hr (af 0) ao) aq))))
 (av (a8 (gg (cK (eG (af 1)) (dQ (gg (dw (eG (af 2)) (iU (eU hr (aI hr (af 0) ao) aB)))))))
 (aA (aL cu))
 bu)
 (aA (aL (bQ (aj (af 2) (aj (af 1) aq))))))))
theorem lD:y4a ["words","who","answers"] fX (aK (top 24)):=bo
theorem Iw{f:Addr}{fd:FuncData}(F:Fun K "answers_from" "answers_from" (top 24) f fd)(E:Tx P w K mg κ)(y1aa:bZ P w K mg base "answer_from" 5 fX (aR K κ 1 rS)):y49 P w K mg base bU 6 f fd fX (aR K κ 1 zE) :=
 bj F lD rfl rfl λcdv A outer s H _ hr=>(av (a8 (gg (dw (cL hr (dq hr E.y9a (aj (af 0) aq)) ao) (dw (cL hr (aI hr (af 0) ao) aB) (iU (cL hr (aI hr (af 0) ao) aB)))))
 (av (aN (i:=1) lD.nd (bQ (aj ao (aj ao aq))))
 (aA (aN (i:=2) lD.nd (bQ (aj (aE y1aa (rm hr) (aj (eK (af 0) (cG ao) (cG ao)) aq)) (aj (aE y1aa (rm hr) (aj (eK (af 0) (cG ao) (cG ao)) aq)) aq))))))
 (aA (a8 (gg (dw (cL hr (dq hr E.y9a (aj (af 0) aq)) ao) (dw (cL hr (aI hr (af 0) ao) aB) (dw (Fm (by rfl) E.y216 (aI hr (af 0) ao)) (iU (cL hr (aI hr (af 0) ao) aB))))))
 (av (aN (i:=1) lD.nd (bQ (aj (xf (by rfl) E.y216 (aI hr (af 0) ao)) aq)))
 (aA (aN (i:=2) lD.nd (bQ (aj (aE y1aa (rm hr) (aj (eK (af 0) (cG ao) (cG ao)) aq)) aq)))))
 (aA (aL cu)))))
 (aA (aL (gJ (xc hr cu (af 2)) cu (bQ (aj (af 1) (aj (af 2) aq)))))))
theorem rC:y4a ["words","place","told"] fX (aK (top 26)):=bo
theorem Iy{f:Addr}{fd:FuncData}(F:Fun K "asked_from" "asked_from" (top 26) f fd)(E:Tx P w K mg κ)(y1ab:bZ P w K mg base "answers_from" 6 fX (aR K κ 1 zE))(y1b6:bZ P w K mg base "place_from" 5 ["floor","text"] (aR K κ 2 zD)):y49 P w K mg base bU 7 f fd fX (aR K κ 1 zF) :=
 bj F rC rfl rfl λcdv A outer s H _ hr=>(av (a8 (gg (cK (vU hr (aI hr (af 0) ao) (wM (ys:=["calls","rows","deeds"]) (by rfl) E.y214)) (dQ (mV hr (dq hr E.y9a (aj (af 0) aq)) ao))))
 (aA (aL cu))
 bu)
 (av (aN (i:=1) rC.nd (aE y1b6 (rm hr) (aj (aI hr (af 0) ao) (aj (aI hr (af 0) ao) aq))))
 (av (aN (i:=2) rC.nd (aE y1ab (rm hr) (aj (eK (af 0) (cG ao) gQ) aq)))
 (av (a8 (gg (cK (eG (af 1)) (dQ (eG (af 2)))))
 (aA (aL cu))
 bu)
 (aA (aL (bQ (aj aB (aj (aI hr (af 0) ao) (aj (af 1) (aj (aI hr (af 2) ao) (aj (aI hr (af 2) ao) aq))))))))))))
theorem Iz:y4a ["self","words"] ["self","words"] (aK (bh (top 30) 1)):=bo
theorem IA{f:Addr}{fd:FuncData}(F:Fun K "take" "RecordReading.take" (bh (top 30) 1) f fd)(E:Tx P w K mg κ)(y19a:qc P w K mg base (κ "RecordReading") "keep" 1 ["self","row"] (aR K κ 2 xm))(y1ac:bZ P w K mg base "asked_from" 7 fX (aR K κ 1 zF))(y1b3:bZ P w K mg base "out_from" 1 fX (aR K κ 1 lI))(y1ad:bZ P w K mg base "claims_from" 4 fX (aR K κ 1 zC))(y1b5:bZ P w K mg base "paper_ends" 4 fX (aR K κ 1 rR))(y19b:qc P w K mg base (κ "RecordReading") "keep_leaf" 1 ["self","leaf"] (aR K κ 2 zy))(y1af:bZ P w K mg base "leaf_from" 4 fX (aR K κ 1 zB)):y49 P w K mg base bU 8 f fd ["self","words"] (aR K κ 2 lJ) :=
 bj F Iz rfl rfl λcdv A outer s H _ hr=>(av (a8 (kF (dW E.yb8 E.y28d (af 0)))
 (aA (aL (mZ y19b E.yb8 (rm hr) (af 0) (aj (aE y1af (rm hr) (aj (cJ (af 1)) aq)) aq))))
 bu)
 (av (a8 (kF (dW E.yb8 E.y28f (af 0)))
 (av (jK E.yb8 E.y28d (af 0) (aE y1b5 (rm hr) (aj (cJ (af 1)) aq)))
 (aA (aL (mK (dW E.yb8 E.y28d (af 0))))))
 bu)
 (av (a8 (jA (c0 (dW E.yb8 E.y290 (af 0))))
 (aA (aL (mZ y19a E.yb8 (rm hr) (af 0) (aj (aE y1ad (rm hr) (aj (cJ (af 1)) aq)) aq))))
 bu)
 (av (jK E.yb8 E.y28f (af 0) (aE y1b3 (rm hr) (aj (cJ (af 1)) aq)))
 (aA (aL (Ed (mK (dW E.yb8 E.y28f (af 0))) (kT (mZ y19a E.yb8 (rm hr) (af 0) (aj (aE y1ac (rm hr) (aj (cJ (af 1)) aq)) aq))))))))))
theorem lE:y4a ["text","reading","rows","number","row"] ["text"] (aK (top 31)):=bo
theorem IB{f:Addr}{fd:FuncData}(F:Fun K "read_record" "read_record" (top 31) f fd)(E:Tx P w K mg κ)(y19c:qc P w K mg base (κ "RecordReading") "made_record" 1 ["self"] (aR K κ 1 zx))(y19d:qc P w K mg base (κ "RecordReading") "take" 8 ["self","words"] (aR K κ 2 lJ))(y199:qe P w K mg base (κ "RecordReading") 1 ["self"] (aR K κ 1 rQ)):y49 P w K mg base bU 9 f fd ["text"] (aR K κ 1 xn) :=
 bj F lE rfl rfl λcdv A outer s H _ hr=>(av (aN (i:=1) lE.nd (Eg y199 (rm hr) E.y18a))
 (av (aN (i:=2) lE.nd (qo hr (af 0) (aj aB aq)))
 (av (fG (E1 E.y97 (aj (cJ (af 2)) aq)) (eX (cZ (i:=3) lE.nd (cZ (i:=4) lE.nd eS)))
 (aA (a8 (jA (c0 (mZ y19d E.yb8 (rm hr) (af 1) (aj (qo hr (af 4) (aj aB aq)) aq))))
 (aA wL)
 bu)))
 (av (a8 (eG (dW E.yb8 E.y28f (af 1)))
 (aA wL)
 bu)
 (aA (aL (Ef y19c E.yb8 (rm hr) (af 1))))))))
theorem nN:y4a ["_law_record_here","_law_rows","_law_found","_law_many"] i8 (aK (top 44)):=bo
theorem IC{f:Addr}{fd:FuncData}(F:Fun K "_law_right" "_law_right" (top 44) f fd)(E:Tx P w K mg κ)(y1bd:bZ P w K mg base "show_record" 5 ["record"] (aR K κ 1 qu))(y1b7:bZ P w K mg base "read_record" 9 ["text"] (aR K κ 1 xn))(y19e:bZ P w K mg base "_law_alike" 13 rl (aR K κ 2 (gw 12)))(y1a7:bZ P w K mg base "_law_record_rows" 3 i8 (aR K κ 1 zo)):y49 P w K mg base bU 14 f fd i8 (aR K κ 1 xo) :=
 bj F nN rfl rfl λcdv A outer s H _ hr=>(av (aN (i:=1) nN.nd (aE y1a7 (rm hr) (aj (af 0) aq)))
 (av (aN (i:=2) nN.nd (aE y1bd (rm hr) (aj (af 0) aq)))
 (av (a8 (gg (cK (jA (c0 (dE hr E.y99 (aj (af 2) (aj (dC (by rfl) E.y9e PyProof.Rows.boot_str) aq))))) (dQ (eU hr (af 2) (dX hr aB (aj (af 1) aq))))))
 (aA (aL vx))
 bu)
 (av (aN (i:=3) nN.nd (aQ (jC hr) jD (dq hr E.y9a (aj (af 0) aq)) ao))
 (aA (aL (kZ (aE y19e (rm hr) (aj (aE y1b7 (rm hr) (aj (af 2) aq)) (aj (af 0) aq))) (kT (mU hr (aE y1bd (rm hr) (aj (eK (af 0) gQ (cG (af 3))) aq)) (dX hr aB (aj (eK (af 1) gQ (cG (af 3))) aq)))))))))))
theorem rE:y4a yJ ["_law_script"] (aK (top 45)):=bo
theorem ID{f:Addr}{fd:FuncData}(F:Fun K "law" "law" (top 45) f fd)(E:Tx P w K mg κ)(y1a8:bZ P w K mg base "_law_right" 14 i8 (aR K κ 1 xo))(y1a6:bZ P w K mg base "_law_record" 5 gB (aR K κ 1 ny))(y1a1:bZ P w K mg base "_law_deal" 1 ["_law_script","_law_base"] (aR K κ 2 xg)):y49 P w K mg base bU 15 f fd ["_law_script"] (aR K κ 1 Fv) :=
 bj F rE rfl rfl λcdv A outer s H _ hr=>(av (aN (i:=1) rE.nd (aE y1a1 (rm hr) (aj (af 0) (aj ao aq))))
 (av (wQ (i:=2) (j:=3) rE.nd (aj (aE y1a6 (rm hr) (aj (cJ (af 1)) aq)) (aj (aE y1a6 (rm hr) (aj (cJ (af 1)) aq)) aq)))
 (aA (aL (qi hr E.y95 (aj (eL (iD (osc:=(aK (top 45))) (N:=yJ) (xs:=i8) (ys:=[]) (ix:=[]) rfl rfl (by decide +kernel)) (c5 (bQ (aj (af 2) (aj (af 3) (aj (af 2) (aj (af 3) aq)))))) (λz=>dB) (λz=>(aE y1a8 (rm hr) (aj (af 0) aq)))) aq))))))
end
end Q
namespace Q
open PySem PySem.Spec PyProof.Rows L2 B
noncomputable def nO(K:W.Frag):Sp:=λvs H Q _=>∃(a:Addr) (ns:List Int),vs=[.ref a]/\mi H/\bB K H a (ns.map V.int)/\ns.length≤63/\∀H',Q (.bl true) H'
theorem yP{K:W.Frag}{ι:List Addr}{H:Hp}:∀ns:List Int,y5a K ι H (ns.map V.int) (ns.map I.int)
 | []=>.nil
 | n::ns=>.cons (.int n) (yP ns)
theorem IE{P:Program}{w:World}{K:W.Frag}{mg:Str->Option Value}{base:Heap}{κ:Str->Addr}{f:Addr}{fd:FuncData}(h:y49 P w K mg base bU 15 f fd ["_law_script"] (aR K κ 1 Fv)):y49 P w K mg base bU 15 f fd ["_law_script"] (nO K):=by
 refine h.imp λvs H Q E q=>?_
 obtain⟨a,ns,rfl,ho,hs,hl,k⟩:=q
 have fr:oX K H a (ns.map V.int):=by
  rcases hs with (z|⟨o,z⟩)|z
  ·rcases ho a with e|⟨o,xs,e⟩<;>(rw [z] at e;cases e)
  ·exact .inl ⟨o,z⟩
  ·exact .inr (.inr z)
 obtain⟨G,e⟩:=Hu ns hl
 refine⟨[],[.im (.fro (ns.map I.int))],[],_,G,rfl,⟨.cons (.im (.fro fr (yP ns))) .nil,.nil,λx=>?_⟩,e,λv ι' H' s st=>?_⟩
 ·have:own (List.map some [V.ref a]) (List.map some [Vl.im (.fro (ns.map I.int))])=[]:=by show bO _ _++[]=[];rw [gF];rfl
  rw [this];simp
 ·have:=s.sl
  cases this with
  | cons q _=>cases q with
   | im r=>cases r;exact k _
theorem oa:∀(us:List Value),us.length=1->∃x0,us=[x0]
 | [x0],_=>⟨x0,rfl⟩
theorem og:∀(us:List Value),us.length=2->∃x0 x1,us=[x0,x1]
 | [x0,x1],_=>⟨x0,x1,rfl⟩
noncomputable def y4(x q:Str)(st:Stmt)(ps:List Str):Prop:=∀(kV doc pm:Value) (an:Option Addr) (cdv ct:Value) (us:List Value),us.length=ps.length->bindArgs (W.fnOf x q (jo st) (hG st) (aK st) .none kV doc pm an cdv ct) ⟨us,[]⟩=pure (ps.zip us)
noncomputable abbrev NF(K:W.Frag)(x q:Str)(st:Stmt)(f:Addr)(d:FuncData):Prop:=W.nsIn K mainGlobals x=some (some (.ref f))/\Fun K x q st f d
noncomputable abbrev NM(K:W.Frag)(C:Addr)(x q:Str)(st:Stmt)(f:Addr)(d:FuncData):Prop:=W.findIn K (.ref C) x=some (some (.ref f))/\W.isFn K (.ref f)=true/\Fun K x q st f d
section
variable {K:W.Frag}{mg:Str->Option Value}{h:Heap}{k:Nat}{ps:List Str}{sp:Sp}{f:Addr}{fd:FuncData}{C:Addr}{x q m:Str}{st:Stmt}(P:Program)(w:World)(base:Heap)
theorem bE(X:K.In h)(G:h.Ns mainGlobals mg)(A:NF K x q st f fd)(o:y49 P w K mg base bU k f fd ps sp)(hb:y4 x q st ps:=by intro _ _ _ _ _ _ us hl;first|(obtain⟨_,rfl⟩:=oa us hl;rfl)|(obtain⟨_,_,rfl⟩:=og us hl;rfl)):bZ P w K mg base x k ps sp:=⟨f,fd,W.mg_of X G A.1,A.2.kp,A.2.binds hb,o⟩
theorem nP(A:NM K C x q st f fd)(o:y49 P w K mg base bU k f fd ps sp)(hb:y4 x q st ps:=by intro _ _ _ _ _ _ us hl;first|(obtain⟨_,rfl⟩:=oa us hl;rfl)|(obtain⟨_,_,rfl⟩:=og us hl;rfl)):qc P w K mg base C x k ps sp:=⟨f,fd,⟨A.1,A.2.1,A.2.2.kp⟩,A.2.2.binds hb,o⟩
theorem yQ(mk:W.makesIn K C=true)(kc:W.keepIn K (.ref C)=true)(A:NM K C "__init__" q st f fd)(o:y49 P w K mg base bU k f fd ps sp)(hb:y4 "__init__" q st ps:=by intro _ _ _ _ _ _ us hl;first|(obtain⟨_,rfl⟩:=oa us hl;rfl)|(obtain⟨_,_,rfl⟩:=og us hl;rfl)):qe P w K mg base C k ps sp:=⟨f,fd,⟨mk,A.1,A.2.1,kc⟩,A.2.2.binds hb,o⟩
end
theorem all_mk{l:W.OpenLaw}{w:World}{K:W.Frag}{h:Heap}{mg:Str->Option Value}{fa y8 f1 f2 f3 f4 f5 f6 f7 f8 f9 f10 f11 f12 f13 f14 f15 f16 f17 f18 f19 f20 f21 f22 f23 f24 f25 f26 f27 f28 f29 f30 f31 f32 f33 f34 f35 f36 f37 f38 f39:Addr}(X:K.In h)(G:h.Ns mainGlobals mg)(hfa:mg "law" = some (.ref fa))
  {d1 d2 d3 d4 d5 d6 d7 d8 d9 d10 d11 d12 d13 d14 d15 d16 d17 d18 d19 d20 d21 d22 d23 d24 d25 d26 d27 d28 d29 d30 d31 d32 d33 d34 d35 d36 d37 d38 d39:FuncData}
  (y65:W.nsIn K mainGlobals "RecordReading" = some (some (.ref y8)))
  (A1:NF K "_law_deal" "_law_deal" (top 33) f1 d1)
  (A2:NF K "_law_draw" "_law_draw" (top 34) f2 d2)
  (A3:NF K "_law_number" "_law_number" (top 35) f3 d3)
  (A4:NF K "_law_paper" "_law_paper" (top 38) f4 d4)
  (A5:NF K "_law_answer" "_law_answer" (top 36) f5 d5)
  (A6:NF K "_law_question" "_law_question" (top 37) f6 d6)
  (A7:NF K "_law_record" "_law_record" (top 39) f7 d7)
  (A8:NF K "_law_said_text" "_law_said_text" (top 40) f8 d8)
  (A9:NF K "_law_asked_text" "_law_asked_text" (top 41) f9 d9)
  (A10:NF K "_law_record_rows" "_law_record_rows" (top 42) f10 d10)
  (A11:NF K "figures_of" "figures_of" (top 6) f11 d11)
  (A12:NF K "show_number" "show_number" (top 12) f12 d12)
  (A13:NF K "show_place" "show_place" (top 14) f13 d13)
  (A14:NF K "show_said" "show_said" (top 13) f14 d14)
  (A15:NF K "show_asked" "show_asked" (top 15) f15 d15)
  (A16:NF K "show_paper" "show_paper" (top 16) f16 d16)
  (A17:NF K "show_out" "show_out" (top 17) f17 d17)
  (A18:NF K "show_record" "show_record" (top 18) f18 d18)
  (A19:NF K "_law_alike" "_law_alike" (top 43) f19 d19)
  (A20:NM K y8 "__init__" "RecordReading.__init__" (bh (top 30) 0) f20 d20)
  (A21:NM K y8 "made_record" "RecordReading.made_record" (bh (top 30) 4) f21 d21)
  (A22:NF K "out_from" "out_from" (top 27) f22 d22)
  (A23:NM K y8 "keep_leaf" "RecordReading.keep_leaf" (bh (top 30) 3) f23 d23)
  (A24:NF K "number_in" "number_in" (top 5) f24 d24)
  (A25:NF K "number_from" "number_from" (top 19) f25 d25)
  (A26:NF K "numbers_from" "numbers_from" (top 20) f26 d26)
  (A27:NF K "paper_ends" "paper_ends" (top 28) f27 d27)
  (A28:NM K y8 "keep" "RecordReading.keep" (bh (top 30) 2) f28 d28)
  (A29:NF K "leaf_from" "leaf_from" (top 29) f29 d29)
  (A30:NF K "claims_from" "claims_from" (top 25) f30 d30)
  (A31:NF K "pair_from" "pair_from" (top 21) f31 d31)
  (A32:NF K "place_from" "place_from" (top 22) f32 d32)
  (A33:NF K "answer_from" "answer_from" (top 23) f33 d33)
  (A34:NF K "answers_from" "answers_from" (top 24) f34 d34)
  (A35:NF K "asked_from" "asked_from" (top 26) f35 d35)
  (A36:NM K y8 "take" "RecordReading.take" (bh (top 30) 1) f36 d36)
  (A37:NF K "read_record" "read_record" (top 31) f37 d37)
  (A38:NF K "_law_right" "_law_right" (top 44) f38 d38)
  (A39:NF K "law" "law" (top 45) f39 d39)
  (y353:W.plainGet K y8 Str.empty=true) (y1c8:W.hasDictIn K y8=true) (y36c:W.plainOver K y8=true) (y41e:W.findIn K (.ref y8) "__setattr__" = some (some (.builtin "object.__setattr__"))) (y279:W.makesIn K y8=true) (y219:W.keepIn K (.ref y8)=true)
  (nf0:W.findIn K (.ref y8) "ends" = some none)
  (nf1:W.findIn K (.ref y8) "leaves" = some none)
  (nf2:W.findIn K (.ref y8) "over" = some none)
  (nf3:W.findIn K (.ref y8) "told" = some none)
  {y4d1:Tok} (y21a:W.nsIn K mainGlobals "FIGURES" = some (some (.str "0123456789" y4d1)))
  {y4c1:Addr} {y4cc:Option Addr} {y4cf:Array Value} {y4d4:Nat} {y4db:Array (Option Value)} (y21b:W.nsIn K mainGlobals "FLOORS" = some (some (.ref y4c1))) (y232:K.lookup y4c1=some ⟨.type "tuple",y4cc,.seq y4cf y4d4,y4db⟩) (y235:az (List.map V.str ["calls","rows","deeds"]) y4cf.toList)
  {y4d2:Tok} (y21c:W.nsIn K mainGlobals "MOST_FIGURES" = some (some (.int 18 y4d2)))
  {y4c2:Addr} (y21d:W.nsIn K mainGlobals "WHO" = some (some (.ref y4c2))) (y234:PyProof.Rows.KTD.tabLook PyProof.Rows.KTD.flatLooks (λb=>K.lookup b) y4c2 [("0",.int 0),("1",.int 1)]=true) (y231:PyProof.Rows.KTD.hashesOf (λb=>K.lookup b) y4c2=List.map (λp:Str×PyData=>(PySem.strKind l.prog w).hash p.1) [("0",.int 0),("1",.int 1)])
  {y4c3:Addr} {y4cd:Option Addr} {y4d0:Array Value} {y4d5:Nat} {y4dc:Array (Option Value)} (y21e:W.nsIn K mainGlobals "WORDS" = some (some (.ref y4c3))) (y233:K.lookup y4c3=some ⟨.type "tuple",y4cd,.seq y4d0 y4d5,y4dc⟩) (y236:az (List.map V.str Hx) y4d0.toList)
  (z0:W.nsIn K mainGlobals "all" = some none)
  (z1:W.nsIn K mainGlobals "bool" = some none)
  (z2:W.nsIn K mainGlobals "enumerate" = some none)
  (z3:W.nsIn K mainGlobals "int" = some none)
  (z4:W.nsIn K mainGlobals "isinstance" = some none)
  (z5:W.nsIn K mainGlobals "len" = some none)
  (z6:W.nsIn K mainGlobals "list" = some none)
  (z7:W.nsIn K mainGlobals "max" = some none)
  (z8:W.nsIn K mainGlobals "range" = some none)
  (z9:W.nsIn K mainGlobals "reversed" = some none)
  (z10:W.nsIn K mainGlobals "str" = some none)
  (z11:W.nsIn K mainGlobals "tuple" = some none)
  (z12:W.nsIn K mainGlobals "zip" = some none)
  : ∃fd:FuncData,(∀(s:Shared) (v:Value),BindsTo s fd ⟨[v],[]⟩ [("_law_script",v)])/\∀base:Heap,K.In base->base.Ns mainGlobals mg->y49 l.prog w K mg base bU 15 fa fd ["_law_script"] (nO K):=by
 have e:=hfa.symm.trans (W.mg_of X G A39.1)
 cases e
 obtain⟨κ,hκ⟩:∃κ:Str->Addr,κ "RecordReading" = y8:=⟨λc:Str=>if c="RecordReading" then y8 else 0,if_pos rfl⟩
 subst hκ
 have E:Tx l.prog w K mg κ:=⟨⟨y353,y1c8,y36c,y41e⟩,W.mg_of X G y65,nf0,nf1,nf2,nf3,⟨_,W.mg_of X G y21a⟩,⟨_,W.mg_of X G y21b,.inr ⟨_,_,_,y232,rfl,rfl,(by have q:=y235.length;have q2:y4cf.toList.length=y4cf.size:=Array.length_toList;rw [<- q2,<- q];exact Nat.le_of_ble_eq_true rfl),y235⟩⟩,⟨_,W.mg_of X G y21c⟩,⟨_,W.mg_of X G y21d,λh X1=>W.kt_tab_in l.prog w X1 y234 (by decide +kernel) y231⟩,⟨_,W.mg_of X G y21e,.inr ⟨_,_,_,y233,rfl,rfl,(by have q:=y236.length;have q2:y4d0.toList.length=y4d0.size:=Array.length_toList;rw [<- q2,<- q];exact Nat.le_of_ble_eq_true rfl),y236⟩⟩,W.mg_none_of X G z0,W.mg_none_of X G z1,W.mg_none_of X G z2,W.mg_none_of X G z3,W.mg_none_of X G z4,W.mg_none_of X G z5,W.mg_none_of X G z6,W.mg_none_of X G z7,W.mg_none_of X G z8,W.mg_none_of X G z9,W.mg_none_of X G z10,W.mg_none_of X G z11,W.mg_none_of X G z12⟩
 obtain⟨_,_,kV,dc,pm,an,cd,ct,_,rfl,_,_⟩:=A39.2.ex
 refine⟨W.fnOf "law" "law" (jo (top 45)) (hG (top 45)) (aK (top 45)) .none kV dc pm an cd ct,λs v=>.of_eq rfl,λbase _ _=>?_⟩
 have y1a1:=bE l.prog w base X G A1 (Hy A1.2 E )
 have y1a2:=bE l.prog w base X G A2 (Hz A2.2 E )
 have y1a3:=bE l.prog w base X G A3 (HA A3.2 E y1a2)
 have y1a4:=bE l.prog w base X G A4 (HB A4.2 E y1a3 y1a2)
 have y19f:=bE l.prog w base X G A5 (HC A5.2 E y1a3 y1a2)
 have y1a5:=bE l.prog w base X G A6 (HD A6.2 E y19f y1a2 y1a3)
 have y1a6:=bE l.prog w base X G A7 (HE A7.2 E y1a2 y1a4 y1a5 y1a3)
 have y1a9:=bE l.prog w base X G A8 (HG A8.2 E )
 have y1a0:=bE l.prog w base X G A9 (HH A9.2 E y1a9)
 have y1a7:=bE l.prog w base X G A10 (HI A10.2 E y1a0)
 have y1ae:=bE l.prog w base X G A11 (HJ A11.2 E )
 have y1b9:=bE l.prog w base X G A12 (HL A12.2 E y1ae)
 have y1bc:=bE l.prog w base X G A13 (HN A13.2 E y1b9)
 have y1be:=bE l.prog w base X G A14 (HQ A14.2 E y1b9)
 have y1b8:=bE l.prog w base X G A15 (HR A15.2 E y1be y1b9 y1bc)
 have y1bb:=bE l.prog w base X G A16 (HS A16.2 E y1b9)
 have y1ba:=bE l.prog w base X G A17 (HU A17.2 E y1bb y1b9)
 have y1bd:=bE l.prog w base X G A18 (HV A18.2 E y1b9 y1b8 y1ba)
 have y3e9:∀n:Nat,y49 l.prog w K mg base bU (1+n) f19 _ rl (aR K κ 2 (gw n)):=λn=>by
  induction n with
  | zero=>exact (by unfold gw;exact El)
  | succ n ih=>exact HX A19.2 E (bE l.prog w base X G A19 (ih))
 have y19e:=(bE l.prog w base X G A19 ((y3e9 12)))
 have y199:=yQ l.prog w base y279 y219 A20 (HZ A20.2.2 E )
 have y19c:=nP l.prog w base A21 (Ia A21.2.2 E )
 have y1b3:=bE l.prog w base X G A22 (Ib A22.2 E )
 have y19b:=nP l.prog w base A23 (Ie A23.2.2 E )
 have y1b1:=bE l.prog w base X G A24 (Ig A24.2 E )
 have y1b0:=bE l.prog w base X G A25 (Ih A25.2 E y1b1)
 have y1b2:=bE l.prog w base X G A26 (Ii A26.2 E y1b0)
 have y1b5:=bE l.prog w base X G A27 (Ik A27.2 E y1b2)
 have y19a:=nP l.prog w base A28 (Im A28.2.2 E )
 have y1af:=bE l.prog w base X G A29 (Io A29.2 E y1b2)
 have y1ad:=bE l.prog w base X G A30 (Ip A30.2 E y1b2)
 have y1b4:=bE l.prog w base X G A31 (Iq A31.2 E y1b2)
 have y1b6:=bE l.prog w base X G A32 (Iu A32.2 E y1b4 y1b0)
 have y1aa:=bE l.prog w base X G A33 (Iv A33.2 E y1b4 y1b0)
 have y1ab:=bE l.prog w base X G A34 (Iw A34.2 E y1aa)
 have y1ac:=bE l.prog w base X G A35 (Iy A35.2 E y1ab y1b6)
 have y19d:=nP l.prog w base A36 (IA A36.2.2 E y19a y1ac y1b3 y1ad y1b5 y19b y1af)
 have y1b7:=bE l.prog w base X G A37 (IB A37.2 E y19c y19d y199)
 have y1a8:=bE l.prog w base X G A38 (IC A38.2 E y1bd y1b7 y19e y1a7)
 exact IE (κ:=κ) (ID A39.2 E y1a8 y1a6 y1a1)
theorem walk{l:W.OpenLaw}{q:Program}{loose:List Str}{XP:(Str->Option Value)->Heap->Prop}{YP:World->Heap->Prop}{d:DefRec}{K:Params->W.Frag}(hn:l.most=some 63)(hdf:d.params.defaults=[])
  (hY:∀(w:World) (h:Heap),YP w h->(K w.params).In h)
  (F:∀(w:World) (mg:Str->Option Value) (fa:Addr) (h:Heap),(K w.params).In h->h.Ns mainGlobals mg->mg d.name=some (.ref fa) ->
   ∃fd:FuncData,(∀(s:Shared) (u:Value),BindsTo s fd ⟨[u],[]⟩ [("_law_script",u)])/\∀base:Heap,(K w.params).In base->base.Ns mainGlobals mg->y49 l.prog w (K w.params) mg base bU 15 fa fd ["_law_script"] (nO (K w.params))) :
  W.WalkO q loose XP YP l.row.toRowW d [] (λf vs=>PySem.call f vs) :=
 L2.y59e (n:=63) (k:=15) (x:="_law_script") (CX:=λ_=>bU) (sp:=λw=>nO (K w.params)) hn (by decide) hdf ⟨rfl,by decide,by decide,rfl⟩ hY F (λ_ _ a ns hl ho hS=>⟨a,ns,rfl,ho,hS,hl,λ_=>rfl⟩) λ_ _ _ _ _ z=>z
end Q
open PySem PySem.W PyProof.Rows
set_option maxRecDepth 100000 in
set_option maxHeartbeats 0 in
theorem PySem.W.Fast.y4fc:True:=trivial
theorem PySem.W.Fast.y504:True:=trivial
theorem PySem.W.Fast.y532:True:=trivial
theorem PySem.W.Fast.y4f5:True:=trivial
theorem PySem.W.Fast.y4f6:True:=trivial
theorem PySem.W.Fast.y534:True:=trivial
theorem PySem.W.Fast.y4ff:True:=trivial
theorem PySem.W.Fast.y54c:True:=trivial
theorem PySem.W.Fast.y522:True:=trivial
theorem PySem.W.Fast.y52a:True:=trivial
theorem PySem.W.Fast.y51c:True:=trivial
theorem PySem.W.Fast.y52c:True:=trivial
theorem PySem.W.Fast.y54e:True:=trivial
theorem PySem.W.Fast.y526:True:=trivial
theorem PySem.W.Fast.y517:True:=trivial
theorem PySem.W.Fast.y4f7:True:=trivial
theorem PySem.W.Fast.y4f2:True:=trivial
theorem PySem.W.Fast.y510:True:=trivial
theorem PySem.W.Fast.y50b:True:=trivial
theorem PySem.W.Fast.y53c:True:=trivial
theorem PySem.W.Fast.y50d:True:=trivial
theorem PySem.W.Fast.y507:True:=trivial
theorem PySem.W.Fast.y543:True:=trivial
theorem PySem.W.Fast.y4f0:True:=trivial
theorem PySem.W.Fast.y501:True:=trivial
theorem PySem.W.Fast.y545:True:=trivial
theorem PySem.W.Fast.y4fe:True:=trivial
theorem PySem.W.Fast.y52b:True:=trivial
theorem PySem.W.Fast.y547:True:=trivial
theorem PySem.W.Fast.y51b:True:=trivial
theorem PySem.W.Fast.y535:True:=trivial
theorem PySem.W.Fast.y4fd:True:=trivial
theorem PySem.W.Fast.y4ef:True:=trivial
theorem PySem.W.Fast.y521:True:=trivial
theorem PySem.W.Fast.y524:True:=trivial
theorem PySem.W.Fast.y53b:True:=trivial
theorem PySem.W.Fast.y50f:True:=trivial
theorem PySem.W.Fast.y51e:True:=trivial
theorem PySem.W.Fast.y508:True:=trivial
theorem PySem.W.Fast.y546:True:=trivial
theorem PySem.W.Fast.y4ed:True:=trivial
theorem PySem.W.Fast.y531:True:=trivial
theorem PySem.W.Fast.y552:True:=trivial
theorem PySem.W.Fast.y52d:True:=trivial
theorem PySem.W.Fast.y51d:True:=trivial
theorem PySem.W.Fast.y4fb:True:=trivial
theorem PySem.W.Fast.y525:True:=trivial
theorem PySem.W.Fast.y4f3:True:=trivial
theorem PySem.W.Fast.y54d:True:=trivial
theorem PySem.W.Fast.y4f1:True:=trivial
theorem PySem.W.Fast.y544:True:=trivial
theorem PySem.W.Fast.y50e:True:=trivial
theorem PySem.W.Fast.y519:True:=trivial
theorem PySem.W.Fast.y549:True:=trivial
theorem PySem.W.Fast.y516:True:=trivial
theorem PySem.W.Fast.y52f:True:=trivial
theorem PySem.W.Fast.y539:True:=trivial
theorem PySem.W.Fast.y533:True:=trivial
theorem PySem.W.Fast.y4f8:True:=trivial
theorem PySem.W.Fast.y515:True:=trivial
theorem PySem.W.Fast.y514:True:=trivial
theorem PySem.W.Fast.y500:True:=trivial
theorem PySem.W.Fast.y548:True:=trivial
theorem PySem.W.Fast.y528:True:=trivial
theorem PySem.W.Fast.y4f9:True:=trivial
theorem PySem.W.Fast.y503:True:=trivial
theorem PySem.W.Fast.y54b:True:=trivial
theorem PySem.W.Fast.y4fa:True:=trivial
theorem PySem.W.Fast.y540:True:=trivial
theorem PySem.W.Fast.y530:True:=trivial
theorem PySem.W.Fast.y51a:True:=trivial
theorem PySem.W.Fast.y551:True:=trivial
theorem PySem.W.Fast.y4ee:True:=trivial
theorem PySem.W.Fast.y53a:True:=trivial
theorem PySem.W.Fast.y520:True:=trivial
theorem PySem.W.Fast.y4f4:True:=trivial
theorem PySem.W.Fast.y52e:True:=trivial
theorem PySem.W.Fast.y538:True:=trivial
theorem PySem.W.Fast.y513:True:=trivial
theorem PySem.W.Fast.y53f:True:=trivial
theorem PySem.W.Fast.y529:True:=trivial
theorem PySem.W.Fast.y50c:True:=trivial
theorem PySem.W.Fast.y523:True:=trivial
theorem PySem.W.Fast.y527:True:=trivial
theorem PySem.W.Fast.y537:True:=trivial
theorem PySem.W.Fast.y512:True:=trivial
theorem PySem.W.Fast.y50a:True:=trivial
theorem PySem.W.Fast.y506:True:=trivial
theorem PySem.W.Fast.y505:True:=trivial
theorem PySem.W.Fast.y53d:True:=trivial
theorem PySem.W.Fast.y54f:True:=trivial
theorem PySem.W.Fast.y536:True:=trivial
theorem PySem.W.Fast.y542:True:=trivial
theorem PySem.W.Fast.y53e:True:=trivial
theorem PySem.W.Fast.y51f:True:=trivial
theorem PySem.W.Fast.y518:True:=trivial
theorem PySem.W.Fast.y541:True:=trivial
theorem PySem.W.Fast.y509:True:=trivial
theorem PySem.W.Fast.y550:True:=trivial
theorem PySem.W.Fast.y511:True:=trivial
theorem PySem.W.Fast.y502:True:=trivial
theorem PySem.W.Fast.y54a:True:=trivial
theorem PySem.Challenge.cw_stepcourt_k49_records_written_and_read_holds : PySem.Challenge.rw_stepcourt_k49_records_written_and_read.Holds := by
 refine zTop ?_
 k_fill
 refine Q.walk (l:=PySem.Challenge.rw_stepcourt_k49_records_written_and_read) rfl rfl (λw h Y=>W.kIn_of Y) ?F
 case F =>
  intro w mg fa h KX G hmg
  refine' Q.all_mk KX G hmg ..
  all_goals first|k_is|(refine' ⟨?a,L2.y184 ?l ?c ?k⟩;case a|l|c|k=>k_is)|(refine' ⟨?a,?i,L2.y184 ?l ?c ?k⟩;case a|i|l|c|k=>k_is)|kernel_rfl|(repeat (first|exact .nil|refine .cons ⟨_,rfl⟩ ?_))
