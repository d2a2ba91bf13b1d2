import PyProof.Rows.All
import Wide.All
import OpenK.AllK
import Wide.FinOn
import Lean
import PyProof.EqAt
import PyProof.EqKinds
import PyProof.TupleCall
import KE.KDictOf
import KE.KDictSum
import KE.KIntText
import KE.KLam
import KE.KNestM
import KE.KPairComp
import KE.KSortKey
import KE.KSortTup
import KE.KTab
import KE.LcSums
import PyProof.AttrMissHeap
import PyProof.Conv_int_bool
import PyProof.DictValues
import PyProof.Draws
import PyProof.EnumFor
import PyProof.EnumMake
import PyProof.EnumStmt
import PyProof.FactsAll.list_1
import PyProof.ListStr
import PyProof.NeKinds
import PyProof.ReprLen
import PyProof.ReprRoads
import PyProof.Rows.EnumRows
import PyProof.Rows.SetFrom
import PyProof.Rows.SortRev
import PyProof.Rows.StrBin
import PyProof.Rows.TupAdd
import PyProof.SetRoads
import PyProof.StrBlockG
import PyProof.StrBlockI
import PyProof.StrLawsChain
import PyProof.StrLawsIn
import PyProof.StrLawsRepr
import PyProof.StrLawsTight
import PyProof.StrWalks
import PyProof.WalksMore
import PyProof.ZipIter
import PySem.Challenge.RW_cheaptree_k32_nets_changed
set_option compiler.extract_closed false
set_option Elab.async false
set_option linter.all false
set_option maxRecDepth 100000
namespace PySem.W.Fast
def tw4009947575662879913:=()
def tw6765830191731703151:=()
def tw14161481941044238989:=()
def tw1121933776022317211:=()
def tw12544005838791971050:=()
def tw17705964900236103471:=()
def tw12176949098176416258:=()
def tw5942696542892463887:=()
def tw10643727606800283041:=()
def tw12108902311103977741:=()
def tw10009994227615095433:=()
def tw6931271384033974099:=()
def tw7345285702779349285:=()
def tw9109812456065272306:=()
def tw14614808109267648583:=()
def tw6233396714130131713:=()
def tw6084697489306172411:=()
def tw1784024945440557493:=()
def tw118174920047261291:=()
def tw12716517699832801219:=()
def tw18163080291099394505:=()
def tw9645216450959836248:=()
def tw16555366726005402766:=()
def tw8196070815901494420:=()
def tw5517889641292575412:=()
def tw16321170323032296863:=()
def tw16585097102830158278:=()
def tw7455106176864631557:=()
def tw13375563086997252156:=()
def tw9403161119874522843:=()
def tw6510810380062526936:=()
def tw5341888722846121224:=()
def tw17982734174412597998:=()
def tw5000089530103928443:=()
def tw3367475726688912728:=()
def tw10628318332444966521:=()
def tw12536659402692027854:=()
def tw1228061043819689022:=()
def tw3392758559629894541:=()
def tw12521744970202000526:=()
def tw12333175054865399042:=()
def tw17298734670693935623:=()
def tw6307815418672184612:=()
def tw16445436826543983098:=()
def tw6739289403012234765:=()
def tw4622428641093426950:=()
def tw11964659679802406617:=()
def tw13315354222297797748:=()
def tw16427103277896636915:=()
def tw17654728596618611158:=()
def tw16910460808545045247:=()
def tw1351880984481492241:=()
def tw2102225225534220569:=()
def tw1238845995150388605:=()
def tw4266269411551764807:=()
def tw4152788299222090681:=()
def tw8944698701982857844:=()
def tw6791154478262351168:=()
def tw5927124465952083200:=()
def tw13748303923764973808:=()
def tw7008803134041867487:=()
def tw5280823883257782516:=()
def tw25961134080643106:=()
def tw11710208817301925387:=()
def tw5563196013306695722:=()
def tw6464716579509235443:=()
def tw2564325717170484176:=()
def tw17903925482631992098:=()
def tw16439393838049884336:=()
def tw8624166253785931030:=()
def tw8508540545932744026:=()
def tw9019306114317251704:=()
def tw322021140322504136:=()
def tw1960525528872403609:=()
def tw14454791497128324223:=()
def tw8525708348821955388:=()
def tw8575119732435172337:=()
def tw10681210948154930553:=()
def tw10663723504150119476:=()
def tw859018144135558382:=()
def tw7394255548009603579:=()
def tw7804152160913376337:=()
def tw9460948055606597790:=()
def tw13322096803992706625:=()
def tw403872064571836495:=()
def tw563586145491015812:=()
def tw3616636939419417294:=()
def tw4327555724316788616:=()
def tw11670929062448483130:=()
def tw15514116992576207007:=()
def tw10073840423510681050:=()
def tw8868328515946572602:=()
def tw2404257872342491586:=()
def tw14235330710840045011:=()
def tw12937407188770389823:=()
def tw9967129601001757150:=()
def tw9205915954000827051:=()
def tw2972735352640999453:=()
def tw15321978108858776131:=()
def tw2561846494475373911:=()
def tw15553502190285155761:=()
def tw1801648407484440859:=()
def tw16049267958219015147:=()
def tw11573090039078972100:=()
def tw15455613312798861962:=()
def tw2135296078424715655:=()
def tw12552876822509934452:=()
def tw14962590113683953750:=()
def tw8928360536575040838:=()
def tw18143228132137759915:=()
def tw10616019911393804240:=()
def tw10610447140060434218:=()
def tw10624527080567206146:=()
def tw11281936279951154746:=()
def tw11493950907662087751:=()
def tw11469343015489418059:=()
def tw1063566306649214433:=()
def tw2044080126492776750:=()
def tw16343534578781292027:=()
def tw4697123285849551592:=()
def tw11982628210754088253:=()
def tw5124107663462117086:=()
def tw414571360469102243:=()
def tw18218331738793989:=()
def tw15821327464818769109:=()
def tw15483279283132232789:=()
def tw15143878460199150169:=()
def tw13401916210955665754:=()
def tw5972940263853701375:=()
def tw3075153911903269294:=()
def tw16802452118703664362:=()
def tw16734694020805204920:=()
def tw13811048924839631726:=()
def tw13808000913734819368:=()
def tw12179581717745688319:=()
def tw10103750842611190211:=()
def tw6560024418695897052:=()
def tw5250761540619251965:=()
def tw4819728176457047821:=()
def tw4106944814787012172:=()
def tw2446215410317044324:=()
def tw1878428779920710802:=()
def tw12263370995864751713:=()
def tw5578364709546488386:=()
def tw17399299890727060427:=()
def tw8766039616771318062:=()
def tw3653494669420719077:=()
def tw6024258750247839506:=()
def tw8312071974289815800:=()
def tw5943351253613459176:=()
def tw7240503291036540833:=()
def tw4813407638868491439:=()
end PySem.W.Fast
theorem Z0 (h:0=0:=by first | exact .inl rfl | exact .inr rfl | assumption):True:=trivial
theorem Z1 (h:0=0:=by decide):True:=trivial
theorem Z2 (h:0=0:=by rfl):True:=trivial
theorem Z3 (h:0=0:=by intro _; rfl):True:=trivial
theorem Z4 (h:0=0:=by with_unfolding_all rfl):True:=trivial
theorem Z5 (h:0=0:=by first | exact Or.inl rfl | exact Or.inr (Or.inl rfl) | exact Or.inr (Or.inr rfl)):True:=trivial
theorem Z6 (h:0=0:=by simp):True:=trivial
theorem Z7 (h:0=0:=by exact fun _ _=>rfl):True:=trivial
theorem Z8 (h:0=0:=by exact ⟨rfl,rfl,rfl,rfl⟩):True:=trivial
namespace L2
open PySem PySem.Spec PyProof.Rows
noncomputable abbrev Key:=Sum Int Str
noncomputable def keyIs:Key->Value->Bool
 | .inl k,v=>Value.isInt k v
 | .inr x,v=>Value.isStrOf x v
noncomputable def keyH (w:World):Key->Int
 | .inl k=>hashInt k
 | .inr x=>hashStr w x
theorem bi:∀ {k:Key} {v:Value},keyIs k v=true->(∃ i t,k=Sum.inl i/\v=Value.int i t)\/(∃ x t,k=Sum.inr x/\v=Value.str x t)
 | .inl i,v,h=>by
  obtain ⟨t,e⟩:=Value.isInt_shape (k:=i) (v:=v) h
  exact .inl ⟨i,t,rfl,e⟩
 | .inr x,v,h=>by
  obtain ⟨t,e⟩:=Value.isStrOf_shape (x:=x) (v:=v) h
  exact .inr ⟨x,t,rfl,e⟩
theorem qq (i:Int) (t:Tok):keyIs (.inl i) (.int i t)=true:=by simp [keyIs,Value.isInt]
theorem qp (x:Str) (t:Tok):keyIs (.inr x) (.str x t)=true:=by simp [keyIs,Value.isStrOf]
theorem vR (a b:Int):decide ((Sum.inl a:Key)=Sum.inl b)=(a==b):=by
 by_cases e:a=b
 ·subst e; simp
 ·have h:¬ (Sum.inl a:Key)=Sum.inl b:=fun q=>e (Sum.inl.inj q)
  rw [decide_eq_false h]
  exact (beq_eq_false_iff_ne.mpr e).symm
theorem vO (a b:Str):decide ((Sum.inr a:Key)=Sum.inr b)=decide (a=b):=by
 by_cases e:a=b
 ·subst e; simp
 ·have h:¬ (Sum.inr a:Key)=Sum.inr b:=fun q=>e (Sum.inr.inj q)
  rw [decide_eq_false h,decide_eq_false e]
theorem vQ (a:Int) (b:Str):decide ((Sum.inl a:Key)=Sum.inr b)=false:=decide_eq_false (fun q=>nomatch q)
theorem vP (a:Str) (b:Int):decide ((Sum.inr a:Key)=Sum.inl b)=false:=decide_eq_false (fun q=>nomatch q)
noncomputable def aO (prog:Program) (w:World):PySem.KeyKind prog w Key where
 is:=keyIs
 hash:=keyH w
 inj:=fun v a b ha hb=>by
  rcases bi ha with ⟨i,t,rfl,rfl⟩ | ⟨x,t,rfl,rfl⟩
  ·rcases bi hb with ⟨j,u,rfl,e⟩ | ⟨y,u,rfl,e⟩
   ·injection e with e1 _; rw [e1]
   ·exact nomatch e
  ·rcases bi hb with ⟨j,u,rfl,e⟩ | ⟨y,u,rfl,e⟩
   ·exact nomatch e
   ·injection e with e1 _; rw [e1]
 byValue:=fun k v h=>by
  rcases bi h with ⟨i,t,rfl,rfl⟩ | ⟨x,t,rfl,rfl⟩ <;> rfl
 pyHash:=fun hv h=>by
  rcases bi hv with ⟨i,t,rfl,rfl⟩ | ⟨x,t,rfl,rfl⟩
  ·exact wpAny_pyHash_int h
  ·exact wpAny_pyHash_str h
 eqBool:=fun hu hv h=>by
  rcases bi hu with ⟨i,t,rfl,rfl⟩ | ⟨x,t,rfl,rfl⟩
  ·rcases bi hv with ⟨j,u,rfl,rfl⟩ | ⟨y,u,rfl,rfl⟩
   ·rw [vR] at h; exact wpAny_eqBool_int h
   ·rw [vQ] at h; exact SeqAt.EqAt.int_str i t y u _ _ _ _ h
  ·rcases bi hv with ⟨j,u,rfl,rfl⟩ | ⟨y,u,rfl,rfl⟩
   ·rw [vP] at h; exact SeqAt.EqAt.str_int x t j u _ _ _ _ h
   ·rw [vO] at h; exact wpAny_eqBool_str h
 «strs»:=fun k x t v h=>by
  rcases bi h with ⟨i,u,rfl,e⟩ | ⟨y,u,rfl,e⟩
  ·exact nomatch e
  ·injection e with e1 _
   subst e1
   cases v <;> rfl
theorem np (prog:Program) (w:World) (i:Int) (t:Tok):(aO prog w).is (.inl i) (.int i t)=true:=qq i t
theorem g5 (prog:Program) (w:World) (x:Str) (t:Tok):(aO prog w).is (.inr x) (.str x t)=true:=qp x t
end L2
namespace L2
open PySem PySem.Spec PyProof.Rows
inductive V where
 | non | bl (b:Bool) | int (i:Int) | str (x:Str) | byt (b:Array UInt8) | flt (b:UInt64) | ref (a:Addr) | ty (n:String)
 deriving DecidableEq
noncomputable def RelV:V->Value->Prop
 | .non,u=>u=Value.none
 | .bl b,u=>u=Value.bool b
 | .int i,u=>∃ t,u=Value.int i t
 | .str x,u=>∃ t,u=Value.str x t
 | .byt b,u=>∃ t,u=Value.bytes b t
 | .flt b,u=>∃ t,u=Value.float b t
 | .ref a,u=>u=Value.ref a
 | .ty n,u=>u=Value.type n
noncomputable abbrev Vals:List V->List Value->Prop:=Paired RelV
theorem Vals.length {xs:List V} {us:List Value} (r:Vals xs us):xs.length=us.length:=Paired.length r
theorem Vals.get:∀ {xs:List V} {us:List Value} {i:Nat} {x:V},Vals xs us->xs[i]?=some x->∃ u,us[i]?=some u/\RelV x u
 | _,_,_,_,.nil,e=>by simp at e
 | _,_,0,_,.cons r _,e=>by simp at e; subst e; exact ⟨_,rfl,r⟩
 | _,_,i+1,x,.cons _ t,e=>by
  obtain ⟨u,h1,h2⟩:=Vals.get (i:=i) (x:=x) t (by simpa using e)
  exact ⟨u,by simpa using h1,h2⟩
theorem Vals.set {x:V} {u:Value} (r:RelV x u):∀ {xs:List V} {us:List Value} (i:Nat),Vals xs us->Vals (xs.set i x) (us.set i u)
 | _,_,_,.nil=>.nil
 | _,_,0,.cons _ t=>.cons r t
 | _,_,i+1,.cons q t=>.cons q (Vals.set r i t)
theorem Vals.append:∀ {xs ys:List V} {us ws:List Value},Vals xs us->Vals ys ws->Vals (xs++ys) (us++ws)
 | _,_,_,_,.nil,s=>s
 | _,_,_,_,.cons r t,s=>.cons r (Vals.append t s)
theorem Vals.take:∀ {xs:List V} {us:List Value} (n:Nat),Vals xs us->Vals (xs.take n) (us.take n)
 | _,_,0,_=>.nil
 | _,_,_+1,.nil=>.nil
 | _,_,n+1,.cons r t=>.cons r (Vals.take n t)
theorem Vals.drop:∀ {xs:List V} {us:List Value} (n:Nat),Vals xs us->Vals (xs.drop n) (us.drop n)
 | _,_,0,r=>r
 | _,_,_+1,.nil=>.nil
 | _,_,n+1,.cons _ t=>Vals.drop n t
noncomputable def RelO:Option V->Option Value->Prop
 | some v,some u=>RelV v u
 | none,none=>True
 | _,_=>False
noncomputable def KV {κ:Type}:List (κ×V)->List (κ×Value)->Prop:=Paired fun (p:κ×V) (q:κ×Value)=>p.1=q.1/\RelV p.2 q.2
noncomputable def kV:Key->V
 | .inl i=>.int i
 | .inr x=>.str x
inductive HO where
 | lst (xs:List V)
 | tup (xs:List V)
 | dK (kvs:List (Key×V)) | dT (kvs:List (List Key×V))
 | set (S:Int->Bool) (n:Nat)
 | ins (C dx:Addr) (fs:List (Str×V))
 | own (x:Addr)
 | xd (fs:List (Str×V))
 | met (f x:Addr)
 | rng (lo hi:Int)
 | frz (o:Obj) (u:HO)
 | tbl (ps:Array Value)
 | ext (φ:Heap->Prop)
noncomputable abbrev Hp:=Addr->Option HO
noncomputable def upd (H:Hp) (a:Addr) (o:HO):Hp:=fun b=>if b=a then some o else H b
theorem am {H:Hp} {a:Addr} {o:HO}:upd H a o a=some o:=by unfold upd; rw [if_pos rfl]
theorem aq {H:Hp} {a b:Addr} {o:HO} (h:b≠a):upd H a o b=H b:=by unfold upd; rw [if_neg h]
theorem tq {H:Hp} {a:Addr} {o u:HO}:upd (upd H a o) a u=upd H a u:=by
 funext b; unfold upd; split <;> rfl
theorem sY {H:Hp} {a b:Addr} {o u:HO} (h:H a=some o) (h':H b=some u) (d:o≠u):a≠b:=by
 intro e; subst e; rw [h] at h'; exact d (Option.some.inj h')
theorem aF {H:Hp} {a b:Addr} {o:HO} (h:H a=some o) (h':H b=none):a≠b:=by
 intro e; subst e; rw [h] at h'; cases h'
section
variable (P:Program) (w:World)
noncomputable def ObjOk (H:Hp) (h:Heap) (a:Addr):HO->Prop
 | .lst xs=>xs.length<=sizeLine/\∃ (its:List Value) (n:Nat),Vals xs its/\h.get? a=some { cls:=.type "list",data:=.seq its.toArray n }
 | .tup xs=>xs.length<=sizeLine/\∃ its:List Value,Vals xs its/\IsTup h a its.toArray
 | .dK kvs=>kvs.length<=sizeLine/\(a==sysModules)=false/\∃ vs,KV kvs vs/\h.DictOf (aO P w) a vs
 | .dT kvs=>kvs.length<=sizeLine/\(a==sysModules)=false/\∃ xs:List (List Key×Addr×Value),
   Paired (fun (p:List Key×V) (q:List Key×Addr×Value)=>p.1=q.1/\H q.2.1=some (.tup (p.1.map kV))/\RelV p.2 q.2.2) kvs xs /\
   ∃ o es ep,h.get? a=some o/\o.ExactDict/\o.data=.dict es ep/\es.toList=xs.map (entryOfKey (tupleKind (aO P w)))/\(xs.map (·.1)).Nodup
 | .set S n=>h.SetOf (intKind P w) a S n
 | .ins C dx fs=>H dx=some (.own a)/\fs.length<=1000/\dx≠a/\h.get? a=some (PySem.W.instObj C dx) /\
   ∃ mA,h.Ns1 dx mA/\(∀ f,RelO (fs.lookup f) (mA f))/\PySem.Within mA (fs.map (·.1))
 | .own _=>∃ o,h.get? a=some o
 | .xd fs=>∃ mA,h.Ns1 a mA/\∀ f,RelO (fs.lookup f) (mA f)
 | .rng lo hi=>∃ t u v,h.get? a=some { cls:=.type "range",data:=.fields #[.int lo t,.int hi u,.int 1 v] }
 | .frz o u=>h.get? a=some o/\ObjOk H h a u
 | .tbl ps=>h.get? a=some { cls:=.none,data:=.fields ps }
 | .met f x=>h.get? a=some (PySem.W.methodObj (.ref f) (.ref x))
 | .ext φ=>φ h/\(∃ o,h.get? a=some o)/\∀ h1 h2:Heap,φ h1->(∀ o,h1.get? a=some o->h2.get? a=some o)->φ h2
noncomputable def HOk (H:Hp) (h:Heap):Prop:=∀ a o,H a=some o->ObjOk P w H h a o
end
section
variable {P:Program} {w:World} {H H':Hp} {h h':Heap} {a:Addr} {o:HO}
theorem ObjOk.lt (x:ObjOk P w H h a o):a<h.objs.size:=by
 cases o with
 | lst xs=>obtain ⟨_,_,_,_,e⟩:=x; exact Heap.lt_size e
 | tup xs=>obtain ⟨_,_,_,p⟩:=x; exact p.lt
 | dK kvs=>obtain ⟨_,_,_,_,o,_,_,e,_⟩:=x; exact Heap.lt_size e
 | dT kvs=>obtain ⟨_,_,_,_,o,_,_,e,_⟩:=x; exact Heap.lt_size e
 | set S n=>obtain ⟨o,_,_,_,e,_⟩:=x; exact Heap.lt_size e
 | ins C dx fs=>obtain ⟨_,_,_,e,_⟩:=x; exact Heap.lt_size e
 | own y=>obtain ⟨_,e⟩:=x; exact Heap.lt_size e
 | xd fs=>obtain ⟨_,⟨_,_,_,e,_⟩,_⟩:=x; exact Heap.lt_size e
 | rng lo hi=>obtain ⟨_,_,_,e⟩:=x; exact Heap.lt_size e
 | frz ob u=>obtain ⟨e,_⟩:=x; exact Heap.lt_size e
 | tbl ps=>exact Heap.lt_size (show h.get? a=some _ from x)
 | met f y=>exact Heap.lt_size (show h.get? a=some _ from x)
 | ext φ=>obtain ⟨_,⟨_,e⟩,_⟩:=x; exact Heap.lt_size e
theorem Paired.mapP {α β:Type} {F G:α->β->Prop}:∀ {l₁:List α} {l₂:List β},Paired F l₁ l₂->(∀ a b,F a b->G a b)->Paired G l₁ l₂
 | _,_,.nil,_=>.nil
 | _,_,.cons r t,f=>.cons (f _ _ r) (Paired.mapP t f)
theorem ObjOk.stay (x:ObjOk P w H h a o) (k:∀ b u,(b=a\/H b=some (.own a))->h.get? b=some u->h'.get? b=some u)
  (ho:∀ b,H b=some (.own a)->H' b=some (.own a)) (ht:∀ b xs,H b=some (.tup xs)->H' b=some (.tup xs)):ObjOk P w H' h' a o:=by
 induction o with
 | lst xs=>obtain ⟨z,its,n,r,e⟩:=x; exact ⟨z,its,n,r,k _ _ (.inl rfl) e⟩
 | tup xs=>obtain ⟨z,its,r,ob,e,c⟩:=x; exact ⟨z,its,r,ob,k _ _ (.inl rfl) e,c⟩
 | dK kvs=>obtain ⟨z,y,vs,r,ob,es,ep,e,c⟩:=x; exact ⟨z,y,vs,r,ob,es,ep,k _ _ (.inl rfl) e,c⟩
 | dT kvs =>
  obtain ⟨z,y,xs,r,ob,es,ep,e,c⟩:=x
  exact ⟨z,y,xs,Paired.mapP r fun p q z=>⟨z.1,ht _ _ z.2.1,z.2.2⟩,ob,es,ep,k _ _ (.inl rfl) e,c⟩
 | set S n=>obtain ⟨ob,es,ep,t,e,c⟩:=x; exact ⟨ob,es,ep,t,k _ _ (.inl rfl) e,c⟩
 | ins C dx fs =>
  obtain ⟨d,z,ne,e,mA,⟨od,es,ep,e2,c⟩,r⟩:=x
  exact ⟨ho _ d,z,ne,k _ _ (.inl rfl) e,mA,⟨od,es,ep,k _ _ (.inr d) e2,c⟩,r⟩
 | own y=>obtain ⟨ob,e⟩:=x; exact ⟨ob,k _ _ (.inl rfl) e⟩
 | xd fs=>obtain ⟨mA,⟨od,es,ep,e,c⟩,r⟩:=x; exact ⟨mA,⟨od,es,ep,k _ _ (.inl rfl) e,c⟩,r⟩
 | rng lo hi=>obtain ⟨t,u,v,e⟩:=x; exact ⟨t,u,v,k _ _ (.inl rfl) e⟩
 | frz ob u ih=>obtain ⟨e,q⟩:=x; exact ⟨k _ _ (.inl rfl) e,ih q⟩
 | tbl ps =>
  have e:h.get? a=some { cls:=.none,data:=.fields ps }:=x
  show h'.get? a=some { cls:=.none,data:=.fields ps }
  exact k a _ (.inl rfl) e
 | met f y =>
  have e:h.get? a=some (PySem.W.methodObj (.ref f) (.ref y)):=x
  show h'.get? a=some (PySem.W.methodObj (.ref f) (.ref y))
  exact k a _ (.inl rfl) e
 | ext φ=>obtain ⟨p,⟨o,e⟩,st⟩:=x; exact ⟨st _ _ p fun o q=>k _ _ (.inl rfl) q,⟨o,k _ _ (.inl rfl) e⟩,st⟩
theorem HOk.lt (x:HOk P w H h) (e:H a=some o):a<h.objs.size:=(x a o e).lt
theorem HOk.fresh (x:HOk P w H h) (e:h.objs.size<=a):H a=none:=by
 cases q:H a with
 | none=>rfl
 | some u=>exact absurd (Nat.lt_of_lt_of_le (x.lt q) e) (Nat.lt_irrefl _)
theorem HOk.kept (x:HOk P w H h) (k:∀ b u,h.get? b=some u->h'.get? b=some u):HOk P w H h':=fun a o e =>
 (x a o e).stay (fun b u _ q=>k b u q) (fun _ q=>q) fun _ _ q=>q
theorem HOk.laid (x:HOk P w H h) (k:∀ b u,h.get? b=some u->h'.get? b=some u) (hp:h.objs.size<=a) (new:ObjOk P w (upd H a o) h' a o):HOk P w (upd H a o) h':=fun b u e=>by
 have hn:=x.fresh hp
 by_cases hb:b=a
 ·subst hb; rw [am] at e; cases e; exact new
 ·rw [aq hb] at e
  exact (x b u e).stay (fun c v _ q=>k c v q) (fun c q=>by rw [aq (aF q hn)]; exact q) fun c xs q=>by rw [aq (aF q hn)]; exact q
end
noncomputable def Rd (H:Hp) (a:Addr) (u:HO):Prop:=H a=some u\/∃ o,H a=some (.frz o u)
theorem Rd.ok {P:Program} {w:World} {H:Hp} {h:Heap} {a:Addr} {u:HO} (r:Rd H a u) (x:HOk P w H h):ObjOk P w H h a u:=by
 rcases r with r | ⟨o,r⟩
 ·exact x a u r
 ·obtain ⟨_,q⟩:=x a _ r
  exact q
noncomputable def Mut:Option HO->Prop
 | some (.lst _)=>True
 | some (.dK _)=>True
 | some (.dT _)=>True
 | some (.set _ _)=>True
 | some (.ins _ _ _)=>True
 | some (.ext _)=>True
 | _=>False
section
variable {P:Program} {w:World} {H:Hp} {h h':Heap} {x e:Addr} {o':HO}
theorem HOk.write (ok:HOk P w H h) (mu:Mut (H x)) (he:e=x\/H e=some (.own x)) (k:∀ b u,b≠e->h.get? b=some u->h'.get? b=some u) (heo:∃ u,h'.get? e=some u)
  (new:ObjOk P w (upd H x o') h' x o'):HOk P w (upd H x o') h':=fun b u q=>by
 have nown:∀ c y,H c=some (.own y)->c≠x:=fun c y r z=>by subst z; rw [r] at mu; exact mu
 have ntup:∀ c xs,H c=some (.tup xs)->c≠x:=fun c xs r z=>by subst z; rw [r] at mu; exact mu
 by_cases hb:b=x
 ·subst hb; rw [am] at q; cases q; exact new
 ·rw [aq hb] at q
  by_cases hbe:b=e
  ·have q':H b=some (.own x):=by
    rcases he with z | z
    ·exact absurd (hbe.trans z) hb
    ·rw [hbe]; exact z
   rw [q] at q'; cases q'
   obtain ⟨v,hv⟩:=heo
   exact ⟨v,by rw [hbe]; exact hv⟩
  ·refine (ok b u q).stay (fun c v hc r=>k c v ?_ r) (fun c r=>by rw [aq (nown c b r)]; exact r) fun c xs r=>by rw [aq (ntup c xs r)]; exact r
   rcases hc with rfl | hc
   ·exact hbe
   ·rintro rfl
    rcases he with z | z
    ·exact nown c b hc z
    ·rw [hc] at z; cases z; exact hb rfl
end
structure Un (fs ex:List Addr) (H H':Hp) (h h':Heap):Prop where
 keep:∀ b o,h.get? b=some o->H b=none->b∉fs->b∉ex->h'.get? b=some o
 slot:∀ b o,h.get? b=some o->H b=none->b∈fs->b∉ex->∃ sl,h'.get? b=some { o with slots:=sl }
 free:∀ b o,h.get? b=some o->H b=none->b∉ex->H' b=none
 there:∀ b o,h.get? b=some o->b∉ex->∃ o',h'.get? b=some o'
 tups:∀ b xs,H b=some (.tup xs)->H' b=some (.tup xs)
 frzs:∀ b o u,H b=some (.frz o u)->H' b=some (.frz o u)
 tbls:∀ b ps,H b=some (.tbl ps)->∃ more,H' b=some (.tbl (ps++more))
section
variable {fs fs' ex ex':List Addr} {H H1 H2:Hp} {h h1 h2 h':Heap} {a x e:Addr} {o:HO}
theorem Un.any (u:Un fs ex H H1 h h1) {b:Addr} {ob:Obj} (q:h.get? b=some ob) (n:H b=none) (hx:b∉ex):∃ sl,h1.get? b=some { ob with slots:=sl }:=by
 by_cases hb:b∈fs
 ·exact u.slot b ob q n hb hx
 ·exact ⟨ob.slots,u.keep b ob q n hb hx⟩
theorem Un.kept (k:∀ b u,h.get? b=some u->h'.get? b=some u):Un fs ex H H h h' :=
 ⟨fun b ob q _ _ _=>k b ob q,fun b ob q _ _ _=>⟨ob.slots,k b ob q⟩,fun _ _ _ n _=>n,fun b ob q _=>⟨ob,k b ob q⟩,fun _ _ q=>q,fun _ _ _ q=>q,fun _ ps q=>⟨#[],by rw [q]; simp⟩⟩
theorem Un.refl:Un fs ex H H h h:=Un.kept fun _ _ q=>q
theorem Un.laid (k:∀ b u,h.get? b=some u->h'.get? b=some u) (hp:h.objs.size<=a) (hn:H a=none):Un fs ex H (upd H a o) h h' where
 keep:=fun b u q _ _ _=>k b u q
 slot:=fun b u q _ _ _=>⟨u.slots,k b u q⟩
 free:=fun b u q n _=>by rw [aq (Nat.ne_of_lt (Nat.lt_of_lt_of_le (Heap.lt_size q) hp))]; exact n
 there:=fun b u q _=>⟨u,k b u q⟩
 tups:=fun b xs q=>by rw [aq (aF q hn)]; exact q
 frzs:=fun b u xs q=>by rw [aq (aF q hn)]; exact q
 tbls:=fun b ps q=>⟨#[],by rw [aq (aF q hn),q]; simp⟩
theorem Un.write (mu:Mut (H x)) (he:e=x\/H e=some (.own x)) (k:∀ b u,b≠e->h.get? b=some u->h'.get? b=some u) (heo:∃ u,h'.get? e=some u):Un fs ex H (upd H x o) h h':=by
 have hx:∀ b,H b=none->b≠x:=fun b n z=>by subst z; rw [n] at mu; exact mu
 have hb:∀ b,H b=none->b≠e:=fun b n z=>by
  subst z
  rcases he with r | r
  ·exact hx b n r
  ·rw [n] at r; cases r
 have hm:∀ b u,H b=some u->¬ Mut (some u)->b≠x:=fun b u q nm z=>by subst z; rw [q] at mu; exact nm mu
 refine ⟨fun b u q n _ _=>k b u (hb b n) q,fun b u q n _ _=>⟨u.slots,k b u (hb b n) q⟩,fun b u q n _=>by rw [aq (hx b n)]; exact n,fun b u q _=>?_,
  fun b xs q=>by rw [aq (hm b _ q fun z=>z)]; exact q,fun b u xs q=>by rw [aq (hm b _ q fun z=>z)]; exact q,fun b ps q=>⟨#[],by rw [aq (hm b _ q fun z=>z),q]; simp⟩⟩
 by_cases hbe:b=e
 ·subst hbe; exact heo
 ·exact ⟨u,k b u hbe q⟩
end
noncomputable def trk (h:Heap) (H:Hp):List Addr:=(List.range h.objs.size).filter fun a=>(H a).isSome
noncomputable def hidT (h:Heap) (H:Hp):Heap:=PySem.W.hideAll h (trk h H)
theorem qx (h:Heap) (H:Hp):(hidT h H).objs.size=h.objs.size:=PySem.W.hideAll_size _ _
theorem sn {h:Heap} {H:Hp} {b:Addr} {o:Obj} (e:h.get? b=some o) (n:H b=none):(hidT h H).get? b=some o :=
 PySem.W.hideAll_get _ e fun hm=>by
  have q:(H b).isSome=true:=(List.mem_filter.mp hm).2
  rw [n] at q; simp at q
theorem ua {h:Heap} {H:Hp} {b:Addr} {o:Obj} (e:(hidT h H).get? b=some o):h.get? b=some o/\H b=none:=by
 have e':h.get? b=some o:=PySem.W.of_hideAll (trk h H) e
 refine ⟨e',?_⟩
 cases q:H b with
 | none=>rfl
 | some x =>
  have hm:b∈trk h H:=List.mem_filter.mpr ⟨List.mem_range.mpr (Heap.lt_size e'),by simp [q]⟩
  have z:(hidT h H).get? b=none:=PySem.W.hideAll_none (trk h H) hm
  rw [z] at e; cases e
noncomputable def gR (g h:Heap) (L:Addr):List (Addr×Obj):=(List.range h.objs.size).filterMap fun a=>if a=L\/(g.get? a).isSome=true then none else (h.get? a).map fun o=>(a,o)
theorem eO {g h:Heap} {L a:Addr} {o:Obj} (h1:a≠L) (h2:g.get? a=none) (h3:h.get? a=some o):(a,o)∈gR g h L :=
 List.mem_filterMap.mpr ⟨a,List.mem_range.mpr (Heap.lt_size h3),by simp [h1,h2,h3]⟩
theorem jP {g h:Heap} {L:Addr} {p:Addr×Obj} (hp:p∈gR g h L):p.1≠L/\g.get? p.1=none/\h.get? p.1=some p.2:=by
 obtain ⟨b,_,e⟩:=List.mem_filterMap.mp hp
 split at e
 ·cases e
 ·rename_i hn
  cases q:h.get? b with
  | none=>rw [q] at e; simp at e
  | some u =>
   rw [q] at e
   simp only [Option.map_some,Option.some.injEq] at e
   subst e
   refine ⟨fun z=>hn (.inl z),?_,q⟩
   show g.get? b=none
   cases r:g.get? b with
   | none=>rfl
   | some v=>exact (hn (.inr (by simp [r]))).elim
theorem iA {g h:Heap} {L:Addr}:News g L h (gR g h L):=fun p hp=>let ⟨a,b,c⟩:=jP hp; ⟨c,a,b⟩
end L2
namespace L2
open PySem PySem.Spec PyProof.Rows
structure Mod (K:PySem.W.Frag) (mg:Str->Option Value) (base:Heap):Prop where
 kin:K.In base
 glob:base.Ns mainGlobals mg
 blt:∃ mb,base.Ns builtinsNs mb/\∀ x:Str,x ≠ "__name__" -> mb x=bootBuiltins x
 nolimit:base.NoLimit
structure Cx where
 prog:Program
 w:World
 K:PySem.W.Frag
 mg:Str->Option Value
 base:Heap
 A:Around
 N:List Str
 s₀:Shared
 H₀:Hp
 env:Env
 outer:List Env
 stack:List Env
 ex:List Addr
 fn:Str->Bool
 calm:Bool
 pn:List (Addr×Obj)
 xe:Value->Shared->Prop
noncomputable def frs (l:List Env):List Addr:=l.filterMap (·.frame)
noncomputable abbrev Cx.fs (X:Cx):List Addr:=frs X.outer
noncomputable def Vis (sc:Scope) (x:Str):Prop:=sc.names.lookup x=some .local\/sc.names.lookup x=some .cell\/sc.names.lookup x=some .free
noncomputable def Loc (sc:Scope) (x:Str):Prop:=sc.names.lookup x=some .local\/sc.names.lookup x=some .cell
noncomputable def Look (env:Env) (h:Heap) (m:Str->Option Value) (x:Str) (u:Value):Prop :=
 (env.kindOf x=some .local/\m x=some u)\/((env.kindOf x=some .cell\/env.kindOf x=some .free)/\∃ c,env.cells.lookup x=some c/\h.IsCell c (some u))
structure Cx.Ok (X:Cx):Prop where
 mod:Mod X.K X.mg X.base
 kind:X.env.scope.kind=.function
 glob:X.env.globals=mainGlobals
 blt:X.env.builtins=builtinsNs
 above:X.s₀.heap.objs.size<=X.env.locals
 inj:∀ x y c,X.env.cells.lookup x=some c->X.env.cells.lookup y=some c->x=y
 has:∀ x,(X.env.kindOf x=some .cell\/X.env.kindOf x=some .free)->∃ c,X.env.cells.lookup x=some c
 cab:∀ x c,X.fn x=true->X.env.cells.lookup x=some c->X.s₀.heap.objs.size<=c
 hd:X.calm=true->X.A.handled=none
 frames:X.A.frames=some X.stack
 stk:X.stack=X.outer\/(X.stack=X.env::X.outer/\X.env.frame=some X.env.locals)
 exf:∀ b∈X.ex,b≠X.env.locals/\∀ x c,X.env.cells.lookup x=some c->c≠b
 bs:∀ b o,X.base.get? b=some o->X.s₀.heap.get? b=some o/\X.H₀ b=none
 bsz:X.base.objs.size<=X.s₀.heap.objs.size
 noex:∀ b o,X.base.get? b=some o->b∉X.ex
 exfs:∀ b∈X.ex,b∉X.fs
 funs:X.s₀.heap.FunFrames X.base X.outer
 frf:∀ b∈X.fs,X.H₀ b=none
structure Inv (X:Cx) (pins:List (Addr×Obj)) (σ:List (Option V)) (H:Hp) (s:Shared):Prop where
 ok:X.Ok
 os:s.os=X.s₀.os
 bare:AllBare s.gens
 base:Un X.fs X.ex X.H₀ H X.s₀.heap s.heap
 loc:∃ m,s.heap.Ns X.env.locals m/\∀ (i:Nat) (x:Str) (v:V),X.N[i]?=some x->σ[i]?=some (some v)->Vis X.env.scope x->∃ u,RelV v u/\Look X.env s.heap m x u
 cell:∀ x c,X.env.cells.lookup x=some c->∃ v,s.heap.IsCell c v
 free:H X.env.locals=none
 freeC:∀ x c,X.env.cells.lookup x=some c->H c=none
 pin:∀ p∈X.pn++pins,s.heap.get? p.1=some p.2/\H p.1=none/\p.1≠X.env.locals/\p.1∉X.fs/\∀ v,p.2.data≠.cell v
 hok:HOk X.prog X.w H s.heap
 len:σ.length=X.N.length
section
variable {X:Cx} {pins:List (Addr×Obj)} {σ:List (Option V)} {H H':Hp} {s:Shared} {h':Heap}
theorem Cx.Ok.nofr (ok:X.Ok) {b:Addr} {o:Obj} (e:X.base.get? b=some o):b∉X.fs:=fun hb=>by
 have:=(ok.funs.mem hb).1
 rw [e] at this; cases this
theorem Inv.bs (I:Inv X pins σ H s):∀ b o,X.base.get? b=some o->s.heap.get? b=some o/\H b=none:=fun b o e =>
 ⟨I.base.keep b o (I.ok.bs b o e).1 (I.ok.bs b o e).2 (I.ok.nofr e) (I.ok.noex b o e),I.base.free b o (I.ok.bs b o e).1 (I.ok.bs b o e).2 (I.ok.noex b o e)⟩
theorem Inv.bk (I:Inv X pins σ H s):∀ b o,X.base.get? b=some o->s.heap.get? b=some o:=fun b o e=>(I.bs b o e).1
theorem Inv.mod (I:Inv X pins σ H s):Mod X.K X.mg X.base:=I.ok.mod
theorem Inv.kIn (I:Inv X pins σ H s):X.K.In s.heap:=I.ok.mod.kin.keeps I.bk
theorem Inv.fr (I:Inv X pins σ H s):∃ m,Fr X.base X.env.locals s.heap m :=
 let ⟨m,hn,_⟩:=I.loc
 ⟨m,hn,I.bk,Nat.le_trans I.ok.bsz I.ok.above⟩
theorem Inv.lt (I:Inv X pins σ H s):X.env.locals<s.heap.objs.size:=let ⟨_,hn,_⟩:=I.loc; hn.lt
theorem Inv.sz (I:Inv X pins σ H s):X.s₀.heap.objs.size<=s.heap.objs.size:=Nat.le_trans I.ok.above (Nat.le_of_lt I.lt)
theorem Inv.nofs (I:Inv X pins σ H s) {a:Addr} (h:s.heap.objs.size<=a):a∉X.fs:=fun hb=>by
 obtain ⟨_,o,ho,_⟩:=I.ok.funs.mem hb
 exact absurd (Nat.lt_of_lt_of_le (Heap.lt_size ho) (Nat.le_trans I.sz h)) (Nat.lt_irrefl _)
theorem Inv.cne (I:Inv X pins σ H s):∀ x c,X.env.cells.lookup x=some c->c≠X.env.locals:=fun x c e z=>by
 obtain ⟨v,o,ho,hd⟩:=I.cell x c e
 obtain ⟨m,⟨o',es,ep,ho',hd',_⟩,_⟩:=I.loc
 rw [z,ho'] at ho; cases ho; rw [hd'] at hd; cases hd
theorem Inv.funs (I:Inv X pins σ H s):s.heap.FunFrames X.base X.outer:=by
 have all:∀ (l:List Env),(∀ b∈frs l,b∈X.fs)->X.s₀.heap.FunFrames X.base l->s.heap.FunFrames X.base l:=by
  intro l
  induction l with
  | nil=>intro _ _; trivial
  | cons env r ih =>
   intro hs hl
   obtain ⟨hk,⟨L,o,hf,hn,ho,hd⟩,hr⟩:=hl
   have hL:L∈X.fs:=hs L (by unfold frs; rw [List.filterMap_cons,hf]; exact List.mem_cons_self)
   obtain ⟨sl,e⟩:=I.base.slot L o ho (I.ok.frf L hL) hL fun z=>I.ok.exfs L z hL
   exact ⟨hk,⟨L,_,hf,hn,e,hd⟩,ih (fun b hb=>hs b (by unfold frs; rw [List.filterMap_cons,hf]; exact List.mem_cons_of_mem _ hb)) hr⟩
 exact all X.outer (fun _ hb=>hb) I.ok.funs
theorem Inv.stack (I:Inv X pins σ H s):s.heap.FunFrames X.base X.stack:=by
 rcases I.ok.stk with e | ⟨e,hf⟩
 ·rw [e]; exact I.funs
 ·rw [e]
  obtain ⟨m,hn,_⟩:=I.loc
  refine .cons (by rw [I.ok.kind]; decide) hf hn ?_ I.funs
  exact Heap.get?_none_of_le (Nat.le_trans I.ok.bsz I.ok.above)
theorem Inv.stkSub (I:Inv X pins σ H s):∀ b∈frs X.stack,b∈X.env.locals::X.fs:=fun b hb=>by
 rcases I.ok.stk with e | ⟨e,hf⟩
 ·rw [e] at hb; exact List.mem_cons_of_mem _ hb
 ·rw [e] at hb
  unfold frs at hb
  rw [List.filterMap_cons,hf] at hb
  exact hb
theorem Inv.stkFree (I:Inv X pins σ H s):∀ b∈frs X.stack,H b=none:=fun b hb=>by
 rcases List.mem_cons.mp (I.stkSub b hb) with e | hb
 ·rw [e]; exact I.free
 ·obtain ⟨_,o,ho,_⟩:=I.ok.funs.mem hb
  exact I.base.free b o ho (I.ok.frf b hb) fun z=>I.ok.exfs b z hb
theorem Inv.step {g':Array GenState} {t':Nat} {d':Drawn} {ch:List Addr} (I:Inv X pins σ H s)
  (hch:∀ b∈ch,(b∈X.ex\/X.s₀.heap.objs.size<=b)/\b≠X.env.locals/\(∀ x c,X.env.cells.lookup x=some c->c≠b)/\∀ p∈X.pn++pins,p.1≠b)
  (keep:∀ b o,b≠X.env.locals->b∉X.fs->b∉ch->s.heap.get? b=some o->H b=none->h'.get? b=some o)
  (slot:∀ b o,b≠X.env.locals->b∈X.fs->b∉ch->s.heap.get? b=some o->H b=none->∃ sl,h'.get? b=some { o with slots:=sl }) (free:∀ b o,b∉ch->s.heap.get? b=some o->H b=none->H' b=none)
  (there:∀ b o,b∉ch->s.heap.get? b=some o->∃ o',h'.get? b=some o')
  (tups:∀ b xs,H b=some (.tup xs)->H' b=some (.tup xs)) (frzs:∀ b o u,H b=some (.frz o u)->H' b=some (.frz o u)) (tbls:∀ b ps,H b=some (.tbl ps)->∃ more,H' b=some (.tbl (ps++more)))
  (ns:∀ m,s.heap.Ns X.env.locals m->h'.Ns X.env.locals m) (hok:HOk X.prog X.w H' h') (hg:AllBare g') :
  Inv X pins σ H' { s with heap:=h',gens:=g',drawn:=d',toks:=t' }:=by
 have neL:∀ b o,X.s₀.heap.get? b=some o->b≠X.env.locals:=fun b o e=>Nat.ne_of_lt (Nat.lt_of_lt_of_le (Heap.lt_size e) I.ok.above)
 have neC:∀ b o,X.s₀.heap.get? b=some o->b∉X.ex->b∉ch:=fun b o e hx hb=>by
  rcases (hch b hb).1 with z | z
  ·exact hx z
  ·exact absurd (Nat.lt_of_lt_of_le (Heap.lt_size e) z) (Nat.lt_irrefl _)
 have cellK:∀ x c,X.env.cells.lookup x=some c->∀ v,s.heap.IsCell c v->h'.IsCell c v:=fun x c e v ⟨o,ho,hd⟩=>by
  have nch:c∉ch:=fun z=>(hch c z).2.2.1 x c e rfl
  by_cases hc:c∈X.fs
  ·obtain ⟨sl,q⟩:=slot c o (I.cne x c e) hc nch ho (I.freeC x c e)
   exact ⟨_,q,hd⟩
  ·exact ⟨o,keep c o (I.cne x c e) hc nch ho (I.freeC x c e),hd⟩
 refine ⟨I.ok,I.os,hg,⟨fun b o e n hb hx=>?_,fun b o e n hb hx=>?_,fun b o e n hx=>?_,fun b o e hx=>?_,fun b xs e=>tups b xs (I.base.tups b xs e),fun b o xs e=>frzs b o xs (I.base.frzs b o xs e),fun b ps e=>?_⟩,?_,fun x c e=>?_,?_,fun x c e=>?_,fun p hp=>?_,hok,I.len⟩
 ·exact keep b o (neL b o e) hb (neC b o e hx) (I.base.keep b o e n hb hx) (I.base.free b o e n hx)
 ·obtain ⟨sl,e1⟩:=I.base.slot b o e n hb hx
  obtain ⟨sl',e2⟩:=slot b _ (neL b o e) hb (neC b o e hx) e1 (I.base.free b o e n hx)
  exact ⟨sl',e2⟩
 ·obtain ⟨o',e1⟩:=I.base.there b o e hx
  exact free b o' (neC b o e hx) e1 (I.base.free b o e n hx)
 ·obtain ⟨o',e1⟩:=I.base.there b o e hx
  exact there b o' (neC b o e hx) e1
 ·obtain ⟨m1,e1⟩:=I.base.tbls b ps e
  obtain ⟨m2,e2⟩:=tbls b _ e1
  exact ⟨m1++m2,by rw [e2,Array.append_assoc]⟩
 ·obtain ⟨m,hn,hl⟩:=I.loc
  refine ⟨m,ns m hn,fun i x v e1 e2 e3=>?_⟩
  obtain ⟨u,r,l⟩:=hl i x v e1 e2 e3
  refine ⟨u,r,?_⟩
  rcases l with l | ⟨k,c,e,z⟩
  ·exact .inl l
  ·exact .inr ⟨k,c,e,cellK x c e _ z⟩
 ·obtain ⟨v,z⟩:=I.cell x c e
  exact ⟨v,cellK x c e v z⟩
 ·obtain ⟨m,⟨o,_,_,ho,_⟩,_⟩:=I.loc
  exact free _ o (fun z=>(hch _ z).2.1 rfl) ho I.free
 ·obtain ⟨v,o,ho,hd⟩:=I.cell x c e
  exact free c o (fun z=>(hch c z).2.2.1 x c e rfl) ho (I.freeC x c e)
 ·obtain ⟨e,n,ne,nf,d⟩:=I.pin p hp
  have nch:p.1∉ch:=fun z=>(hch p.1 z).2.2.2 p hp rfl
  exact ⟨keep p.1 p.2 ne nf nch e n,free p.1 p.2 nch e n,ne,nf,d⟩
theorem Inv.un {t':Nat} (I:Inv X pins σ H s) (u:Un X.fs [] H H' s.heap h') (hok:HOk X.prog X.w H' h'):Inv X pins σ H' { s with heap:=h',toks:=t' }:=by
 obtain ⟨m,⟨o,es,ep,ho,r⟩,_⟩:=id I.loc
 obtain ⟨sl,hL⟩:=u.any ho I.free (by simp)
 exact I.step (g':=s.gens) (d':=s.drawn) (ch:=[]) (fun _ z=>nomatch z) (fun b o _ hb _ e n=>u.keep b o e n hb (by simp)) (fun b o _ hb _ e n=>u.slot b o e n hb (by simp)) (fun b o _ e n=>u.free b o e n (by simp)) (fun b o _ e=>u.there b o e (by simp)) u.tups u.frzs u.tbls (fun m' hm=>by
  obtain ⟨o',es',ep',ho',r'⟩:=hm
  rw [ho] at ho'; cases ho'
  exact ⟨_,es',ep',hL,r'⟩) hok I.bare
theorem Inv.call {g':Array GenState} {t':Nat} {d':Drawn} {ch:List Addr} (I:Inv X pins σ H s) (u:Un (frs X.stack) ch H H' s.heap h') (hok:HOk X.prog X.w H' h') (hg:AllBare g')
  (hch:∀ b∈ch,(b∈X.ex\/X.s₀.heap.objs.size<=b)/\b≠X.env.locals/\(∀ x c,X.env.cells.lookup x=some c->c≠b)/\∀ p∈X.pn++pins,p.1≠b) :
  Inv X pins σ H' { s with heap:=h',gens:=g',drawn:=d',toks:=t' }:=by
 obtain ⟨m,⟨o,es,ep,ho,r⟩,_⟩:=id I.loc
 obtain ⟨sl,hL⟩:=u.any ho I.free fun z=>(hch _ z).2.1 rfl
 exact I.step (ch:=ch) hch (fun b o hL hb hc e n=>u.keep b o e n (fun z=>(List.mem_cons.mp (I.stkSub b z)).elim hL hb) hc) (fun b o _ _ hc e n=>u.any e n hc) (fun b o hc e n=>u.free b o e n hc) (fun b o hc e=>u.there b o e hc) u.tups u.frzs u.tbls (fun m' hm=>by
  obtain ⟨o',es',ep',ho',r'⟩:=hm
  rw [ho] at ho'; cases ho'
  exact ⟨_,es',ep',hL,r'⟩) hok hg
theorem Inv.turned {t':Nat} {it:Addr} (I:Inv X pins σ H s) (k:∀ b o,b≠it->s.heap.get? b=some o->h'.get? b=some o) (hn:H it=none) (hL:it≠X.env.locals)
  (h1:it∈X.ex\/X.s₀.heap.objs.size<=it) (h2:∀ x c,X.env.cells.lookup x=some c->c≠it) (h3:∀ p∈X.pn++pins,p.1≠it):Inv X pins σ H { s with heap:=h',toks:=t' }:=by
 have nit:∀ b u,H b=some u->b≠it:=fun b u e z=>by rw [z,hn] at e; cases e
 refine I.step (g':=s.gens) (d':=s.drawn) (ch:=[it]) (fun b hb=>?_) (fun b o _ _ hc e _=>k b o (fun z=>hc (by simp [z])) e) (fun b o _ _ hc e _=>⟨o.slots,k b o (fun z=>hc (by simp [z])) e⟩) (fun _ _ _ _ n=>n)
  (fun b o hc e=>⟨o,k b o (fun z=>hc (by simp [z])) e⟩) (fun _ _ e=>e) (fun _ _ _ e=>e) (fun b ps e=>⟨#[],by rw [e]; simp⟩) (fun m hm=>?_) (fun b u e=>?_) I.bare
 ·have e:b=it:=by simpa using hb
  subst e
  exact ⟨h1,hL,h2,h3⟩
 ·obtain ⟨o,es,ep,ho,r⟩:=hm
  exact ⟨o,es,ep,k _ o (Ne.symm hL) ho,r⟩
 ·refine (I.hok b u e).stay (fun c v hc q=>k c v ?_ q) (fun _ q=>q) fun _ _ q=>q
  rcases hc with z | z
  ·rw [z]; exact nit b u e
  ·exact nit c _ z
theorem Inv.tok (I:Inv X pins σ H s) (t:Nat):Inv X pins σ H { s with toks:=t }:=I.un (h':=s.heap) (t':=t) Un.refl I.hok
theorem Inv.kept {t':Nat} (I:Inv X pins σ H s) (k:∀ b u,s.heap.get? b=some u->h'.get? b=some u):Inv X pins σ H { s with heap:=h',toks:=t' }:=I.un (Un.kept k) (I.hok.kept k)
theorem Inv.laid {a:Addr} {o:HO} {t':Nat} (I:Inv X pins σ H s) (k:∀ b u,s.heap.get? b=some u->h'.get? b=some u) (hp:s.heap.objs.size<=a) (new:ObjOk X.prog X.w (upd H a o) h' a o) :
  Inv X pins σ (upd H a o) { s with heap:=h',toks:=t' }:=I.un (Un.laid k hp (I.hok.fresh hp)) (I.hok.laid k hp new)
theorem Inv.write {x e:Addr} {o:HO} {t':Nat} (I:Inv X pins σ H s) (mu:Mut (H x)) (he:e=x\/H e=some (.own x)) (k:∀ b u,b≠e->s.heap.get? b=some u->h'.get? b=some u) (heo:∃ u,h'.get? e=some u)
  (new:ObjOk X.prog X.w (upd H x o) h' x o):Inv X pins σ (upd H x o) { s with heap:=h',toks:=t' }:=I.un (Un.write mu he k heo) (I.hok.write mu he k heo new)
theorem Inv.weak {σ':List (Option V)} (I:Inv X pins σ H s) (hl:σ'.length=σ.length) (w:∀ (i:Nat) v,σ'[i]?=some (some v)->σ[i]?=some (some v)):Inv X pins σ' H s :=
 ⟨I.ok,I.os,I.bare,I.base,let ⟨m,hn,hl'⟩:=I.loc; ⟨m,hn,fun i x v e1 e2 e3=>hl' i x v e1 (w i v e2) e3⟩,I.cell,I.free,I.freeC,I.pin,I.hok,hl.trans I.len⟩
theorem Inv.pins_of {pins':List (Addr×Obj)} (I:Inv X pins σ H s) (h:∀ p∈pins',s.heap.get? p.1=some p.2/\H p.1=none/\p.1≠X.env.locals/\p.1∉X.fs/\∀ v,p.2.data≠.cell v):Inv X pins' σ H s :=
 ⟨I.ok,I.os,I.bare,I.base,I.loc,I.cell,I.free,I.freeC,fun p hp=>(List.mem_append.mp hp).elim (fun z=>I.pin p (List.mem_append_left _ z)) (h p),I.hok,I.len⟩
theorem mf {N:List Str} (hN:N.Nodup) {i j:Nat} {x:Str} (a:N[i]?=some x) (b:N[j]?=some x):i=j:=by
 obtain ⟨h1,e1⟩:=List.getElem?_eq_some_iff.mp a
 obtain ⟨h2,e2⟩:=List.getElem?_eq_some_iff.mp b
 exact (List.getElem_inj hN).mp (e1.trans e2.symm)
theorem kC {M:Model} {A:Around} {E:Value->Shared->Prop} {i:Nat} {x:Str} {v:V} {u:Value} {Q:Unit->Shared->Prop} (I:Inv X pins σ H s) (hN:X.N.Nodup) (hi:X.N[i]?=some x) (hx:Loc X.env.scope x) (r:RelV v u)
  (h:∀ s',Inv X pins (σ.set i (some v)) H s'->(∃ a,Heap.SameBut a s.heap s'.heap/\(a=X.env.locals\/X.env.cells.lookup x=some a))->Q () s') (hf:autoParam (X.fn x=true\/X.env.scope.names.lookup x=some .local) Z0._auto_1):wpAny M A (storeName X.env x u) Q E s:=by
 obtain ⟨m,hn,hl⟩:=id I.loc
 have hcls:(X.env.scope.kind==.class || (X.env.scope.kind==.module && X.env.locals != X.env.globals))=false:=by rw [I.ok.kind]; rfl
 have hiσ:i<σ.length:=by rw [I.len]; exact (List.getElem?_eq_some_iff.mp hi).1
 have cne:=I.cne
 have tracked:∀ {a:Addr} {h':Heap},(∃ o,s.heap.get? a=some o/\H a=none)->Heap.SameBut a s.heap h'->HOk X.prog X.w H h':=fun {a h'} ha hs b ob e=>by
  obtain ⟨_,_,hfree⟩:=ha
  refine (I.hok b ob e).stay (fun c w' hc q=>(hs.2 c ?_).trans q) (fun _ q=>q) fun _ _ q=>q
  rintro rfl
  rcases hc with rfl | hc
  ·rw [hfree] at e; cases e
  ·rw [hfree] at hc; cases hc
 rcases hx with hk | hk
 ·refine wpAny_storeName_local hk hn (fun h' hn' hs=>?_) hcls
  obtain ⟨oL,_,_,hoL,_⟩:=id hn
  refine h _ ⟨I.ok,I.os,I.bare,⟨fun b o e n hb hx=>?_,fun b o e n hb hx=>?_,I.base.free,fun b o e hx=>?_,I.base.tups,I.base.frzs,I.base.tbls⟩,⟨_,hn',fun j y v' e1 e2 e3=>?_⟩,fun y c e=>?_,I.free,I.freeC,fun p hp=>?_,tracked ⟨oL,hoL,I.free⟩ hs,by simpa using I.len⟩ ⟨_,hs,.inl rfl⟩
  ·exact (hs.2 b (Nat.ne_of_lt (Nat.lt_of_lt_of_le (Heap.lt_size e) I.ok.above))).trans (I.base.keep b o e n hb hx)
  ·obtain ⟨sl,e1⟩:=I.base.slot b o e n hb hx
   exact ⟨sl,(hs.2 b (Nat.ne_of_lt (Nat.lt_of_lt_of_le (Heap.lt_size e) I.ok.above))).trans e1⟩
  ·obtain ⟨o',e1⟩:=I.base.there b o e hx
   exact ⟨o',(hs.2 b (Nat.ne_of_lt (Nat.lt_of_lt_of_le (Heap.lt_size e) I.ok.above))).trans e1⟩
  ·by_cases hj:j=i
   ·subst hj
    rw [hi] at e1; cases e1
    rw [List.getElem?_set_self hiσ] at e2
    cases e2
    exact ⟨u,r,.inl ⟨hk,by simp⟩⟩
   ·rw [List.getElem?_set_ne (Ne.symm hj)] at e2
    obtain ⟨u',r',q⟩:=hl j y v' e1 e2 e3
    refine ⟨u',r',?_⟩
    rcases q with ⟨k,e⟩ | ⟨k,c,e,z⟩
    ·refine .inl ⟨k,?_⟩
     have:y≠x:=fun e=>hj (mf hN e1 (e ▸ hi))
     simp [this,e]
    ·exact .inr ⟨k,c,e,z.sameBut hs (cne y c e)⟩
  ·obtain ⟨w',z⟩:=I.cell y c e
   exact ⟨w',z.sameBut hs (cne y c e)⟩
  ·obtain ⟨e,n,ne,nf,d⟩:=I.pin p hp
   exact ⟨(hs.2 p.1 ne).trans e,n,ne,nf,d⟩
 ·have hfn:X.fn x=true:=by
   rcases hf with z | z
   ·exact z
   ·rw [z] at hk; cases hk
  obtain ⟨c,hc⟩:=I.ok.has x (.inl hk)
  obtain ⟨w',z⟩:=I.cell x c hc
  refine wpAny_storeName_cell I.ok.kind hk hc z (fun h' hc' hs=>?_)
  obtain ⟨oc,hoc,hocd⟩:=id z
  refine h { s with heap:=h' } ⟨I.ok,I.os,I.bare,⟨fun b o e n hb hx=>?_,fun b o e n hb hx=>?_,I.base.free,fun b o e hx=>?_,I.base.tups,I.base.frzs,I.base.tbls⟩,⟨m,hn.sameBut hs (Ne.symm (cne x c hc)),fun j y v' e1 e2 e3=>?_⟩,fun y c' e=>?_,I.free,I.freeC,fun p hp=>?_,tracked ⟨oc,hoc,I.freeC x c hc⟩ hs,by simpa using I.len⟩ ⟨c,hs,.inr hc⟩
  ·exact (hs.2 b (Nat.ne_of_lt (Nat.lt_of_lt_of_le (Heap.lt_size e) (I.ok.cab x c hfn hc)))).trans (I.base.keep b o e n hb hx)
  ·obtain ⟨sl,e1⟩:=I.base.slot b o e n hb hx
   exact ⟨sl,(hs.2 b (Nat.ne_of_lt (Nat.lt_of_lt_of_le (Heap.lt_size e) (I.ok.cab x c hfn hc)))).trans e1⟩
  ·obtain ⟨o',e1⟩:=I.base.there b o e hx
   exact ⟨o',(hs.2 b (Nat.ne_of_lt (Nat.lt_of_lt_of_le (Heap.lt_size e) (I.ok.cab x c hfn hc)))).trans e1⟩
  ·by_cases hj:j=i
   ·subst hj
    rw [hi] at e1; cases e1
    rw [List.getElem?_set_self hiσ] at e2
    cases e2
    exact ⟨u,r,.inr ⟨.inl hk,c,hc,hc'⟩⟩
   ·rw [List.getElem?_set_ne (Ne.symm hj)] at e2
    obtain ⟨u',r',q⟩:=hl j y v' e1 e2 e3
    refine ⟨u',r',?_⟩
    rcases q with q | ⟨k,c',e,z'⟩
    ·exact .inl q
    ·refine .inr ⟨k,c',e,z'.sameBut hs ?_⟩
     rintro rfl
     exact hj (mf hN e1 (I.ok.inj _ _ _ e hc ▸ hi))
  ·by_cases hcc:c'=c
   ·subst hcc; exact ⟨_,hc'⟩
   ·obtain ⟨w2,z2⟩:=I.cell y c' e
    exact ⟨w2,z2.sameBut hs hcc⟩
  ·obtain ⟨e,n,ne,nf,d⟩:=I.pin p hp
   refine ⟨(hs.2 p.1 ?_).trans e,n,ne,nf,d⟩
   intro q
   rw [q,hoc] at e
   have q':oc=p.2:=Option.some.inj e
   exact d w' (by rw [<- q']; exact hocd)
theorem fC {M:Model} {A:Around} {E:Value->Shared->Prop} {i:Nat} {x:Str} {v:V} {u:Value} {Q:Unit->Shared->Prop} (I:Inv X pins σ H s) (hN:X.N.Nodup) (hi:X.N[i]?=some x) (hx:Loc X.env.scope x) (r:RelV v u)
  (h:∀ s',Inv X pins (σ.set i (some v)) H s'->Q () s') (hf:autoParam (X.fn x=true\/X.env.scope.names.lookup x=some .local) Z0._auto_1):wpAny M A (storeName X.env x u) Q E s :=
 kC I hN hi hx r (fun s' I' _=>h s' I') hf
theorem Inv.call' {s':Shared} {ch:List Addr} (I:Inv X pins σ H s) (ho:s'.os=s.os) (u:Un (frs X.stack) ch H H' s.heap s'.heap) (hok:HOk X.prog X.w H' s'.heap) (hg:AllBare s'.gens)
  (hch:∀ b∈ch,(b∈X.ex\/X.s₀.heap.objs.size<=b)/\b≠X.env.locals/\(∀ x c,X.env.cells.lookup x=some c->c≠b)/\∀ p∈X.pn++pins,p.1≠b):Inv X pins σ H' s':=by
 obtain ⟨h',g',d',t',o'⟩:=s'
 have e:o'=s.os:=ho
 subst e
 exact I.call (g':=g') (t':=t') (d':=d') u hok hg hch
end
noncomputable abbrev XK:=Value->Option Addr->Hp->Prop
noncomputable abbrev St:=List (Option V)
noncomputable abbrev VK:=V->Hp->Prop
noncomputable abbrev TE:=St->Hp->VK->Prop
noncomputable abbrev TT:=St->Hp->(Bool->Hp->Prop)->Prop
noncomputable abbrev TA:=St->Hp->(List V->Hp->Prop)->Prop
structure Ends where
 nx:St->Hp->Prop
 rt:VK
 bk:St->Hp->Prop:=fun _ _=>False
 ct:St->Hp->Prop:=fun _ _=>False
noncomputable abbrev TS:=Ends->St->Hp->Prop
noncomputable def EP (X:Cx) (pins:List (Addr×Obj)) (σ:St) (Q:VK) (u:Value) (s':Shared):Prop:=∃ v H',Inv X pins σ H' s'/\RelV v u/\Q v H'
noncomputable def TP (X:Cx) (pins:List (Addr×Obj)) (σ:St) (Q:Bool->Hp->Prop) (b:Bool) (s':Shared):Prop:=∃ H',Inv X pins σ H' s'/\Q b H'
noncomputable def AP (X:Cx) (pins:List (Addr×Obj)) (σ:St) (Q:List V->Hp->Prop) (us:List Value) (s':Shared):Prop:=∃ vs H',Inv X pins σ H' s'/\Vals vs us/\Q vs H'
noncomputable def SP (X:Cx) (pins:List (Addr×Obj)) (D:Ends) (f:Flow) (s':Shared):Prop :=
 match f with
 | .next=>∃ σ' H',Inv X pins σ' H' s'/\D.nx σ' H'
 | .brk=>∃ σ' H',Inv X pins σ' H' s'/\D.bk σ' H'
 | .cont=>∃ σ' H',Inv X pins σ' H' s'/\D.ct σ' H'
 | .ret u=>∃ v σ' H',Inv X pins σ' H' s'/\RelV v u/\D.rt v H'
noncomputable def PE (X:Cx) (e:Expr) (t:TE):Prop :=
 ∀ (pins:List (Addr×Obj)) (s:Shared) (σ:St) (H:Hp) (Q:VK),Inv X pins σ H s->t σ H Q->wpAny (model X.prog X.w) X.A (eval e X.env) (EP X pins σ Q) X.xe s
noncomputable def PT (X:Cx) (e:Expr) (t:TT):Prop :=
 ∀ (pins:List (Addr×Obj)) (s:Shared) (σ:St) (H:Hp) (Q:Bool->Hp->Prop),Inv X pins σ H s->t σ H Q->wpAny (model X.prog X.w) X.A (isTrue e X.env (eval e X.env)) (TP X pins σ Q) X.xe s
noncomputable def PW (X:Cx) (e:Expr) (t:TT):Prop :=
 ∀ (whole:Sem Value) (pins:List (Addr×Obj)) (s:Shared) (σ:St) (H:Hp) (Q:Bool->Hp->Prop),Inv X pins σ H s->t σ H Q->wpAny (model X.prog X.w) X.A (isTrue e X.env whole) (TP X pins σ Q) X.xe s
theorem PW.pt {X:Cx} {e:Expr} {t:TT} (h:PW X e t):PT X e t:=h _
noncomputable def PA (X:Cx) (es:List Expr) (t:TA):Prop :=
 ∀ (pos:Pos) (pins:List (Addr×Obj)) (s:Shared) (σ:St) (H:Hp) (Q:List V->Hp->Prop),Inv X pins σ H s->t σ H Q->wpAny (model X.prog X.w) X.A (spliced (backTo pos (starEach es X.env))) (AP X pins σ Q) X.xe s
noncomputable def PS (X:Cx) (st:Stmt) (t:TS):Prop :=
 ∀ (pins:List (Addr×Obj)) (s:Shared) (σ:St) (H:Hp) (D:Ends),Inv X pins σ H s->t D σ H->wpAny (model X.prog X.w) X.A (exec st X.env) (SP X pins D) X.xe s
noncomputable def PSs (X:Cx) (st:List Stmt) (t:TS):Prop :=
 ∀ (pins:List (Addr×Obj)) (s:Shared) (σ:St) (H:Hp) (D:Ends),Inv X pins σ H s->t D σ H->wpAny (model X.prog X.w) X.A (execs st X.env) (SP X pins D) X.xe s
theorem thn {α:Type} {t:Sem α} {Q Q':α->Shared->Prop} {M:Model} {A:Around} {E:Value->Shared->Prop} {s:Shared} (h:wpAny M A t Q E s) (hQ:∀ a s,Q a s->Q' a s):wpAny M A t Q' E s:=wpAny_mono h hQ fun _ _ x=>x
end L2
namespace L2
open PySem PySem.Spec PyProof.Rows
section
variable {X:Cx}
noncomputable def tVar (i:Nat):TE:=fun σ H Q=>∃ v,σ[i]?=some (some v)/\Q v H
noncomputable def tC (v:V):TE:=fun _ H Q=>Q v H
theorem vm {i:Nat} {x:Str} {pos:Pos} (hN:X.N[i]?=some x) (hv:Vis X.env.scope x) (hd:autoParam ((x==("__debug__" : Str))=false) Z1._auto_1) (hcd:autoParam ((x==("__classdict__" : Str))=false) Z1._auto_1):PE X (.Name x pos) (tVar i):=by
 intro pins s σ H Q I h
 obtain ⟨v,e,h⟩:=h
 obtain ⟨m,hn,hl⟩:=I.loc
 obtain ⟨u,r,l⟩:=hl i x v hN e hv
 have fin:EP X pins σ Q u s:=⟨v,H,I,r,h⟩
 rcases l with ⟨hk,hm⟩ | ⟨hk,c,hc,hcell⟩
 ·exact wpAny_Name (wpAny_loadName_local I.ok.kind hk hn hm fin) hd
 ·rcases hk with hk | hk
  ·exact wpAny_Name (wpAny_loadName_cell I.ok.kind hk hc hcell fin) hd
  ·exact wpAny_Name (wpAny_loadName_free I.ok.kind hk hc hcell fin hcd) hd
theorem aK {i j pos}:PE X (.Constant (.int i) j pos) (tC (.int i)):=fun _ _ _ H _ I h=>wpAny_Constant_int ⟨.int i,H,I.tok _,⟨_,rfl⟩,h⟩
theorem wG {b j pos}:PE X (.Constant (.bool b) j pos) (tC (.bl b)):=fun _ _ _ H _ I h=>Constant_bool ⟨.bl b,H,I,rfl,h⟩
theorem vt {j pos}:PE X (.Constant .none j pos) (tC .non):=fun _ _ _ H _ I h=>Constant_none ⟨.non,H,I,rfl,h⟩
theorem vo {x j pos}:PE X (.Constant (.str x) j pos) (tC (.str x)):=fun _ _ _ H _ I h=>Calls.Constant_str ⟨.str x,H,I.tok _,⟨_,rfl⟩,h⟩
noncomputable def Gl (X:Cx) (x:Str):Prop:=X.env.kindOf x=some .globalImplicit
theorem j4 {E:Value->Shared->Prop} {pins:List (Addr×Obj)} {s:Shared} {σ:St} {H:Hp} {x:Str} {u:Value} {pos:Pos} {Q:Value->Shared->Prop} (I:Inv X pins σ H s) (hg:Gl X x) (hm:X.mg x=some u) (h:Q u s)
  (hd:autoParam ((x==("__debug__" : Str))=false) Z1._auto_1):wpAny (model X.prog X.w) X.A (eval (.Name x pos) X.env) Q E s :=
 Calls.Name_function_global I.ok.kind hg (Calls.loadGlobal_global (by rw [I.ok.glob]; exact I.mod.glob.keeps I.bk) hm h) hd
theorem gg {E:Value->Shared->Prop} {pins:List (Addr×Obj)} {s:Shared} {σ:St} {H:Hp} {x:Str} {u:Value} {pos:Pos} {Q:Value->Shared->Prop} (I:Inv X pins σ H s) (hg:Gl X x) (hm:X.mg x=none) (hv:bootBuiltins x=some u) (h:Q u s)
  (hn:autoParam (x ≠ "__name__") Z1._auto_1) (hd:autoParam ((x==("__debug__" : Str))=false) Z1._auto_1):wpAny (model X.prog X.w) X.A (eval (.Name x pos) X.env) Q E s:=by
 obtain ⟨mb,h1,h2⟩:=I.mod.blt
 exact Calls.Name_function_global I.ok.kind hg (Calls.loadGlobal_builtin (by rw [I.ok.glob]; exact I.mod.glob.keeps I.bk) hm (by rw [I.ok.blt]; exact h1.keeps I.bk) ((h2 x hn).trans hv) h) hd
theorem tT {x:Str} {v:V} {u:Value} {pos:Pos} (hg:Gl X x) (hm:X.mg x=some u) (r:RelV v u) (hd:autoParam ((x==("__debug__" : Str))=false) Z1._auto_1):PE X (.Name x pos) (tC v) :=
 fun _ _ _ H _ I h=>j4 I hg hm ⟨v,H,I,r,h⟩ hd
theorem tU {x:Str} {v:V} {u:Value} {pos:Pos} (hg:Gl X x) (hm:X.mg x=none) (hv:bootBuiltins x=some u) (r:RelV v u) (hn:autoParam (x ≠ "__name__") Z1._auto_1) (hd:autoParam ((x==("__debug__" : Str))=false) Z1._auto_1):PE X (.Name x pos) (tC v) :=
 fun _ _ _ H _ I h=>gg I hg hm hv ⟨v,H,I,r,h⟩ hn hd
variable {a b:Expr} {ta tb:TE} {pos:Pos}
variable {tA tB':TT} {rest:List Expr}
noncomputable def tAnd (t u:TT):TT:=fun σ H Q=>t σ H fun c H1=>if c=true then u σ H1 Q else Q false H1
noncomputable def tOr (t u:TT):TT:=fun σ H Q=>t σ H fun c H1=>if c=true then Q true H1 else u σ H1 Q
noncomputable def tNot (t:TT):TT:=fun σ H Q=>t σ H fun c H1=>Q (!c) H1
theorem pw_and1 (ha:PT X a tA):PW X (.BoolOp .And [a] pos) tA:=by
 intro wh pins s σ H Q I h
 refine isTrue_and (thn (ha pins s σ H Q I h) fun c s1 e=>?_)
 cases c with
 | true=>exact isTrue_and_nil e
 | false=>exact e
theorem pw_or1 (ha:PT X a tA):PW X (.BoolOp .Or [a] pos) tA:=by
 intro wh pins s σ H Q I h
 refine isTrue_or (thn (ha pins s σ H Q I h) fun c s1 e=>?_)
 cases c with
 | false=>exact isTrue_or_nil e
 | true=>exact e
theorem pw_and (ha:PT X a tA) (hb:PW X (.BoolOp .And (b::rest) pos) tB'):PW X (.BoolOp .And (a::b::rest) pos) (tAnd tA tB'):=by
 intro wh pins s σ H Q I h
 refine isTrue_and (thn (ha pins s σ H _ I h) fun c s1 ⟨H1,I1,q1⟩=>?_)
 cases c with
 | true=>exact hb wh pins s1 σ H1 Q I1 q1
 | false=>exact ⟨H1,I1,q1⟩
theorem pw_or (ha:PT X a tA) (hb:PW X (.BoolOp .Or (b::rest) pos) tB'):PW X (.BoolOp .Or (a::b::rest) pos) (tOr tA tB'):=by
 intro wh pins s σ H Q I h
 refine isTrue_or (thn (ha pins s σ H _ I h) fun c s1 ⟨H1,I1,q1⟩=>?_)
 cases c with
 | true=>exact ⟨H1,I1,q1⟩
 | false=>exact hb wh pins s1 σ H1 Q I1 q1
theorem vc (ha:PT X a tA):PT X (.UnaryOp .Not a pos) (tNot tA):=by
 intro pins s σ H Q I h
 exact isTrue_not (ha pins s σ H (fun c H1=>Q (!c) H1) I h)
noncomputable def tAndV (ta tb:TE):TE:=fun σ H Q=>ta σ H fun x H1=>∃ c,x=.bl c/\if c=true then tb σ H1 Q else Q (.bl false) H1
noncomputable def tNotV (ta:TE):TE:=fun σ H Q=>ta σ H fun x H1=>∃ c,x=.bl c/\Q (.bl (!c)) H1
theorem vp {op} {t:TE} (h:PE X a t):PE X (.BoolOp op [a] pos) t:=fun pins s σ H Q I hw=>BoolOp_one (h pins s σ H Q I hw)
theorem vy (ha:PE X a ta) (hb:PE X (.BoolOp .And (b::rest) pos) tb):PE X (.BoolOp .And (a::b::rest) pos) (tAndV ta tb):=by
 intro pins s σ H Q I h
 refine BoolOp_and (thn (ha pins s σ H _ I h) fun v s1 ⟨x,H1,I1,r1,q1⟩=>?_)
 obtain ⟨c,rfl,q1⟩:=q1
 cases r1
 refine wpAny_truthy_bool ?_
 cases c with
 | true=>exact hb pins s1 σ H1 Q I1 q1
 | false=>exact ⟨.bl false,H1,I1,rfl,q1⟩
theorem vq (ha:PE X a ta):PE X (.UnaryOp .Not a pos) (tNotV ta):=by
 intro pins s σ H Q I h
 refine UnaryOp_ (thn (ha pins s σ H _ I h) fun v s1 ⟨x,H1,I1,r1,q1⟩=>?_)
 obtain ⟨c,rfl,q1⟩:=q1
 cases r1
 exact not_of (wpAny_truthy_bool ⟨.bl (!c),H1,I1,rfl,q1⟩)
noncomputable def tIf (t:TT) (ta tb:TE):TE:=fun σ H Q=>t σ H fun c H1=>if c=true then ta σ H1 Q else tb σ H1 Q
theorem rJ {c:Expr} (hc:PT X c tA) (ha:PE X a ta) (hb:PE X b tb):PE X (.IfExp c a b pos) (tIf tA ta tb):=by
 intro pins s σ H Q I h
 refine wpAny_IfExp (thn (hc pins s σ H _ I h) fun d s1 ⟨H1,I1,q1⟩=>?_)
 cases d with
 | true=>exact ha pins s1 σ H1 Q I1 q1
 | false=>exact hb pins s1 σ H1 Q I1 q1
end
end L2
namespace L2
open PySem PySem.Spec PyProof.Rows
noncomputable def SqL (K:PySem.W.Frag) (H:Hp) (a:Addr) (xs:List V):Prop :=
 Rd H a (.lst xs) \/
  ∃ (o:Obj) (its:Array Value) (n:Nat),K.lookup a=some o/\o.cls=.type "list" /\ o.dict=none/\o.data=.seq its n/\its.size<=sizeLine/\Vals xs its.toList
noncomputable def SqT (K:PySem.W.Frag) (H:Hp) (a:Addr) (xs:List V):Prop :=
 Rd H a (.tup xs) \/
  ∃ (o:Obj) (its:Array Value) (n:Nat),K.lookup a=some o/\o.cls=.type "tuple" /\ o.data=.seq its n/\its.size<=sizeLine/\Vals xs its.toList
noncomputable def absV:Value->Option V
 | .none=>some .non
 | .bool b=>some (.bl b)
 | .int i _=>some (.int i)
 | .str x _=>some (.str x)
 | .bytes b _=>some (.byt b)
 | .float b _=>some (.flt b)
 | .ref a=>some (.ref a)
 | .type n=>some (.ty n)
 | _=>none
theorem RelV.abs {x:V} {u:Value} (r:RelV x u):absV u=some x:=by
 cases x with
 | non=>cases r; rfl
 | bl _=>cases r; rfl
 | int _=>obtain ⟨t,rfl⟩:=r; rfl
 | str _=>obtain ⟨t,rfl⟩:=r; rfl
 | byt _=>obtain ⟨t,rfl⟩:=r; rfl
 | flt _=>obtain ⟨t,rfl⟩:=r; rfl
 | ref _=>cases r; rfl
 | ty _=>cases r; rfl
theorem RelV.inj {x y:V} {u:Value} (r:RelV x u) (q:RelV y u):x=y:=Option.some.inj (r.abs.symm.trans q.abs)
theorem Vals.inj:∀ {xs ys:List V} {us:List Value},Vals xs us->Vals ys us->xs=ys
 | _,_,_,.nil,.nil=>rfl
 | _,_,_,.cons r t,.cons r' t'=>by rw [r.inj r',Vals.inj t t']
section
variable {X:Cx} {pins:List (Addr×Obj)} {σ:St} {H:Hp} {s:Shared} {a:Addr} {xs ys:List V}
theorem SqL.of {K:PySem.W.Frag} (h:H a=some (.lst xs)):SqL K H a xs:=.inl (.inl h)
theorem Inv.list (I:Inv X pins σ H s) (h:SqL X.K H a xs):∃ its:List Value,Vals xs its/\PlainL s.heap a its.toArray/\xs.length<=sizeLine:=by
 rcases h with h | ⟨o,its,n,hk,hc,hd,hs,hz,r⟩
 ·obtain ⟨z,its,n,r,e⟩:=h.ok I.hok
  exact ⟨its,r,⟨_,n,e,rfl,rfl,rfl⟩,z⟩
 ·refine ⟨its.toList,r,⟨o,n,I.kIn a o hk,hc,hd,by simpa using hs⟩,?_⟩
  have e:=r.length
  simp only [Array.length_toList] at e
  omega
theorem Inv.tuple (I:Inv X pins σ H s) (h:SqT X.K H a xs):∃ its:List Value,Vals xs its/\IsTup s.heap a its.toArray/\xs.length<=sizeLine:=by
 rcases h with h | ⟨o,its,n,hk,hc,hs,hz,r⟩
 ·obtain ⟨z,its,r,p⟩:=h.ok I.hok
  exact ⟨its,r,p,z⟩
 ·refine ⟨its.toList,r,⟨o,I.kIn a o hk,hc,n,by simpa using hs⟩,?_⟩
  have e:=r.length
  simp only [Array.length_toList] at e
  omega
theorem Inv.list_inj (I:Inv X pins σ H s) (h:SqL X.K H a xs) (h':SqL X.K H a ys):xs=ys:=by
 obtain ⟨its,r,⟨o,n,e,_,_,d⟩,_⟩:=I.list h
 obtain ⟨its',r',⟨o',n',e',_,_,d'⟩,_⟩:=I.list h'
 rw [e] at e'; cases e'
 rw [d] at d'
 injection d' with d1 _
 have:its=its':=by simpa using congrArg Array.toList d1
 subst this
 exact r.inj r'
theorem Inv.tuple_inj (I:Inv X pins σ H s) (h:SqT X.K H a xs) (h':SqT X.K H a ys):xs=ys:=by
 obtain ⟨its,r,⟨o,e,_,n,d⟩,_⟩:=I.tuple h
 obtain ⟨its',r',⟨o',e',_,n',d'⟩,_⟩:=I.tuple h'
 rw [e] at e'; cases e'
 rw [d] at d'
 injection d' with d1 _
 have:its=its':=by simpa using congrArg Array.toList d1
 subst this
 exact r.inj r'
end
noncomputable abbrev Cx.wish (X:Cx) (E:Value->Shared->Prop):Cx:={ X with xe:=E }
noncomputable abbrev Cx.nox (X:Cx):Cx:=X.wish fun _ _=>False
theorem Cx.Ok.wish {X:Cx} (ok:X.Ok) (E:Value->Shared->Prop):(X.wish E).Ok :=
 ⟨ok.mod,ok.kind,ok.glob,ok.blt,ok.above,ok.inj,ok.has,ok.cab,ok.hd,ok.frames,ok.stk,ok.exf,ok.bs,ok.bsz,ok.noex,ok.exfs,ok.funs,ok.frf⟩
theorem Cx.Ok.unwish {X:Cx} {E:Value->Shared->Prop} (ok:(X.wish E).Ok):X.Ok :=
 ⟨ok.mod,ok.kind,ok.glob,ok.blt,ok.above,ok.inj,ok.has,ok.cab,ok.hd,ok.frames,ok.stk,ok.exf,ok.bs,ok.bsz,ok.noex,ok.exfs,ok.funs,ok.frf⟩
section
variable {X:Cx} {pins:List (Addr×Obj)} {σ:St} {H:Hp} {s:Shared} {E:Value->Shared->Prop}
theorem Inv.wish (I:Inv X pins σ H s) (E:Value->Shared->Prop):Inv (X.wish E) pins σ H s:=⟨I.ok.wish E,I.os,I.bare,I.base,I.loc,I.cell,I.free,I.freeC,I.pin,I.hok,I.len⟩
theorem Inv.unwish (I:Inv (X.wish E) pins σ H s):Inv X pins σ H s:=⟨I.ok.unwish,I.os,I.bare,I.base,I.loc,I.cell,I.free,I.freeC,I.pin,I.hok,I.len⟩
theorem SP.unwish {D:Ends} {f:Flow} {s':Shared} (h:SP (X.wish E) pins D f s'):SP X pins D f s':=by
 cases f with
 | next=>obtain ⟨σ',H',I,q⟩:=h; exact ⟨σ',H',I.unwish,q⟩
 | brk=>obtain ⟨σ',H',I,q⟩:=h; exact ⟨σ',H',I.unwish,q⟩
 | cont=>obtain ⟨σ',H',I,q⟩:=h; exact ⟨σ',H',I.unwish,q⟩
 | ret u=>obtain ⟨v,σ',H',I,r,q⟩:=h; exact ⟨v,σ',H',I.unwish,r,q⟩
theorem PSs.nox {st:List Stmt} {t:TS} (h:PSs X.nox st t):PSs X st t:=fun pins s σ H D I hw =>
 wpAny_mono (h pins s σ H D (I.wish _) hw) (fun _ _ q=>q.unwish) fun _ _ z=>False.elim z
end
section
variable {X:Cx} {st:Stmt} {rest:List Stmt} {t u:TS} {e:Expr} {te:TE} {pos:Pos}
noncomputable def tNext:TS:=fun D σ H=>D.nx σ H
noncomputable def tSeq (t u:TS):TS:=fun D σ H=>t { D with nx:=u D } σ H
theorem nG:PSs X [] tNext:=fun _ _ σ H _ I h=>wpAny_execs_nil ⟨σ,H,I,h⟩
theorem bM (h1:PS X st t) (h2:PSs X rest u):PSs X (st::rest) (tSeq t u):=by
 intro pins s σ H D I h
 refine wpAny_execs_cons (thn (h1 pins s σ H { D with nx:=u D } I h) fun f s1 q=>?_)
 cases f with
 | next =>
  obtain ⟨σ',H',I',q⟩:=q
  exact h2 pins s1 σ' H' D I' q
 | ret v=>exact q
 | brk=>exact q
 | cont=>exact q
theorem cI (h1:PS X st t):PSs X [st] t:=by
 intro pins s σ H D I h
 refine wpAny_execs_cons (thn (h1 pins s σ H D I h) fun f s1 q=>?_)
 cases f with
 | next=>exact wpAny_execs_nil q
 | ret v=>exact q
 | brk=>exact q
 | cont=>exact q
theorem Inv.quiet {pins:List (Addr×Obj)} {σ:St} {H:Hp} {s:Shared} (I:Inv X pins σ H s):interactive X.env=false:=by simp [interactive,I.ok.kind]
noncomputable def tDrop (te:TE):TS:=fun D σ H=>te σ H fun _ H1=>D.nx σ H1
theorem nH (he:PE X e te) (hs:autoParam (swapsWith e none pos.line X.env=pure false) Z2._auto_1):PS X (.Expr e pos) (tDrop te):=by
 intro pins s σ H D I h
 exact wpAny_Expr_any (thn (he pins s σ H _ I h) fun v s1 ⟨x,H1,I1,r1,q1⟩=>⟨σ,H1,I1,q1⟩) I.quiet hs
noncomputable def tRet (te:TE):TS:=fun D σ H=>te σ H D.rt
theorem ga (he:PE X e te):PS X (.Return (some e) pos) (tRet te):=by
 intro pins s σ H D I h
 exact wpAny_Return_some (thn (he pins s σ H _ I h) fun v s1 ⟨x,H1,I1,r1,q1⟩=>⟨x,σ,H1,I1,r1,q1⟩)
noncomputable def tIfS (c:TT) (t u:TS):TS:=fun D σ H=>c σ H fun b H1=>if b=true then t D σ H1 else u D σ H1
theorem sQ {c:Expr} {a b:List Stmt} {tc:TT} (hc:PT X c tc) (ha:PSs X a t) (hb:PSs X b u):PS X (.If c a b pos) (tIfS tc t u):=by
 intro pins s σ H D I h
 refine wpAny_If (thn (hc pins s σ H _ I h) fun d s1 ⟨H1,I1,q1⟩=>?_)
 cases d with
 | true=>exact ha pins s1 σ H1 D I1 q1
 | false=>exact hb pins s1 σ H1 D I1 q1
end
noncomputable abbrev TG:=V->St->Hp->(St->Hp->Prop)->Prop
noncomputable abbrev TGs:=List V->St->Hp->(St->Hp->Prop)->Prop
noncomputable def PG (X:Cx) (target:Expr) (t:TG):Prop :=
 ∀ (pins:List (Addr×Obj)) (s:Shared) (σ:St) (H:Hp) (v:V) (u:Value) (Q:St->Hp->Prop),Inv X pins σ H s->RelV v u->t v σ H Q ->
  wpAny (model X.prog X.w) X.A (assign target X.env u) (fun _ s'=>∃ σ' H',Inv X pins σ' H' s'/\Q σ' H') X.xe s
noncomputable def PGs (X:Cx) (ts:List Expr) (t:TGs):Prop :=
 ∀ (pins:List (Addr×Obj)) (s:Shared) (σ:St) (H:Hp) (vs:List V) (us:List Value) (Q:St->Hp->Prop),Inv X pins σ H s->Vals vs us->t vs σ H Q ->
  wpAny (model X.prog X.w) X.A (assignInOrder ((assignEach ts X.env).map (·.2)) us) (fun _ s'=>∃ σ' H',Inv X pins σ' H' s'/\Q σ' H') X.xe s
noncomputable abbrev TSet:=V->V->V->Hp->(Hp->Prop)->Prop
noncomputable def PSet (X:Cx) (t:TSet):Prop :=
 ∀ (pins:List (Addr×Obj)) (s:Shared) (σ:St) (H:Hp) (o i v:V) (ov iv u:Value) (Q:Hp->Prop),Inv X pins σ H s->RelV o ov->RelV i iv->RelV v u->t o i v H Q ->
  wpAny (model X.prog X.w) X.A (setItem ov iv u) (fun _ s'=>∃ H',Inv X pins σ H' s'/\Q H') X.xe s
section
variable {X:Cx} {pos:Pos}
noncomputable def gName (i:Nat):TG:=fun v σ H Q=>Q (σ.set i (some v)) H
theorem aN {i:Nat} {x:Str} (hN:X.N.Nodup) (hi:X.N[i]?=some x) (hx:Loc X.env.scope x) (hf:autoParam (X.fn x=true\/X.env.scope.names.lookup x=some .local) Z0._auto_1):PG X (.Name x pos) (gName i):=by
 intro pins s σ H v u Q I r h
 exact wpAny_assign_Name (fC I hN hi hx r (fun s' I'=>⟨_,H,I',h⟩) hf)
noncomputable def gNil:TGs:=fun vs σ H Q=>vs=[]/\Q σ H
noncomputable def gCons (t:TG) (u:TGs):TGs:=fun vs σ H Q=>∃ v r,vs=v::r/\t v σ H fun σ' H'=>u r σ' H' Q
theorem jM:PGs X [] gNil:=by
 intro pins s σ H vs us Q I r h
 obtain ⟨e,h⟩:=h
 subst e
 cases r
 exact assignInOrder_nil ⟨σ,H,I,h⟩
theorem dz {e:Expr} {es:List Expr} {t:TG} {u:TGs} (h1:PG X e t) (h2:PGs X es u)
  (hs:autoParam ((assignEach (e::es) X.env).map (·.2)=assign e X.env::(assignEach es X.env).map (·.2)) Z2._auto_1):PGs X (e::es) (gCons t u):=by
 intro pins s σ H vs us Q I r h
 obtain ⟨v,vr,e1,h⟩:=h
 subst e1
 cases r with
 | cons r rr =>
  rw [hs]
  refine assignInOrder_cons (thn (h1 pins s σ H _ _ _ I r h) fun _ s1 ⟨σ1,H1,I1,q1⟩=>?_)
  exact h2 pins s1 σ1 H1 _ _ Q I1 rr q1
noncomputable def gTup (K:PySem.W.Frag) (n:Nat) (t:TGs):TG:=fun v σ H Q=>∃ a xs,v=.ref a/\SqT K H a xs/\xs.length=n/\t xs σ H Q
theorem lV {es:List Expr} {k:Nat} {t:TGs} {n:Nat} (hc:X.calm=true) (h:PGs X es t)
  (hn:autoParam ((assignEach es X.env).length=n) Z2._auto_1) (hst:autoParam ((assignEach es X.env).findIdx? (·.1)=none) Z2._auto_1):PG X (.Tuple es k pos) (gTup X.K n t):=by
 intro pins s σ H v u Q I r hw
 obtain ⟨a,xs,e1,hq,hl,hw⟩:=hw
 subst e1
 cases r
 obtain ⟨its,rv,ht,hz⟩:=I.tuple hq
 refine assign_Tuple_tuple (I.ok.hd hc) ht (by simp [hn,<- hl,rv.length]) hst fun h' hx=>?_
 have I1:Inv X pins σ H { s with heap:=h' }:=I.kept (t':=s.toks) fun b o e=>hx b o (Nat.ne_of_lt (Heap.lt_size e)) e
 exact h pins _ σ H xs _ Q I1 (by simpa using rv) hw
noncomputable def gSub (to ti:TE) (t:TSet):TG:=fun v σ H Q=>to σ H fun o H1=>ti σ H1 fun i H2=>t o i v H2 fun H3=>Q σ H3
theorem lW {o i:Expr} {to ti:TE} {t:TSet} (ho:PE X o to) (hi:PE X i ti) (hs:PSet X t)
  (ha:autoParam (∀ v,assign (.Subscript o i pos) X.env v=(do
   let ov <- holding [v] (eval o X.env)
   let iv <- holding [v,ov] (eval i X.env)
   standAt pos
   holding [v,ov,iv] (setItem ov iv v)
   release [v,ov,iv] [])) Z3._auto_1):PG X (.Subscript o i pos) (gSub to ti t):=by
 intro pins s σ H v u Q I r h
 rw [ha]
 refine wpAny_bind (wpAny_holding (thn (ho pins s σ H _ I h) fun ov s1 ⟨x,H1,I1,r1,q1⟩=>?_))
 refine wpAny_bind (wpAny_holding (thn (hi pins s1 σ H1 _ I1 q1) fun iv s2 ⟨y,H2,I2,r2,q2⟩=>?_))
 refine wpAny_bind (wpAny_standAt (wpAny_bind (wpAny_holding (thn (hs pins s2 σ H2 x y v ov iv u _ I2 r1 r2 r q2) fun _ s3 ⟨H3,I3,q3⟩=>?_))))
 exact wpAny_release ⟨σ,H3,I3,q3⟩
noncomputable def tAsg (te:TE) (g:TG):TS:=fun D σ H=>te σ H fun x H1=>g x σ H1 D.nx
theorem i9 {tg e:Expr} {te:TE} {g:TG} (he:PE X e te) (hg:PG X tg g) (hs:autoParam (swapsWithSole [tg] e pos.line X.env=pure false) Z2._auto_1) (hw:autoParam (swappedStores [tg] e X.env=pure none) Z2._auto_1)
  (h1:autoParam ((assignEach [tg] X.env).map (·.2)=[assign tg X.env]) Z2._auto_1):PS X (.Assign [tg] e pos) (tAsg te g):=by
 intro pins s σ H D I h
 refine wpAny_Assign_stores (thn (he pins s σ H _ I h) fun v s1 ⟨x,H1,I1,r1,q1⟩=>?_) hs hw
 rw [h1]
 exact thn (hg pins s1 σ H1 x v _ I1 r1 q1) fun _ s2 q=>q
theorem dy {i:Nat} {x:Str} {e:Expr} {te:TE} {pos':Pos} (hN:X.N.Nodup) (hi:X.N[i]?=some x) (hx:Loc X.env.scope x) (he:PE X e te) (hs:autoParam (swapsWith e (some (.Name x pos')) pos.line X.env=pure false) Z2._auto_1) (hf:autoParam (X.fn x=true\/X.env.scope.names.lookup x=some .local) Z0._auto_1) :
  PS X (.Assign [.Name x pos'] e pos) (tAsg te (gName i)):=by
 intro pins s σ H D I h
 refine wpAny_Assign_Name (thn (he pins s σ H _ I h) fun v s1 ⟨y,H1,I1,r1,q1⟩=>?_) hs
 exact fC I1 hN hi hx r1 (fun s2 I2=>⟨_,H1,I2,q1⟩) hf
noncomputable def tPar (i j:Nat) (ta:TA):TS:=fun D σ H=>ta σ H fun vs H1=>∃ v w,vs=[v,w]/\D.nx ((σ.set i (some v)).set j (some w)) H1
theorem vd {i j:Nat} {x y:Str} {a b:Expr} {ta:TA} {px py pt:Pos} {kt k2 pt2} (hc:X.calm=true) (hN:X.N.Nodup) (hi:X.N[i]?=some x) (hj:X.N[j]?=some y) (hij:i≠j)
  (hx:X.env.scope.names.lookup x=some .local) (hy:X.env.scope.names.lookup y=some .local) (ha:PA X [a,b] ta)
  (hw:swappedStores [.Tuple [.Name x px,.Name y py] kt pt] (.Tuple [a,b] k2 pt2) X.env=pure (some [x,y]))
  (hs:autoParam (swapsWithSole [.Tuple [.Name x px,.Name y py] kt pt] (.Tuple [a,b] k2 pt2) pos.line X.env=pure false) Z2._auto_1) :
  PS X (.Assign [.Tuple [.Name x px,.Name y py] kt pt] (.Tuple [a,b] k2 pt2) pos) (tPar i j ta):=by
 intro pins s σ H D I h
 rw [exec_Assign_arm]
 refine wpAny_bind (wpAny_standAt ?_)
 rw [hs]
 refine wpAny_bind (wpAny_pure ?_)
 rw [if_neg (by decide)]
 refine wpAny_bind (Tuple_ (thn (ha _ pins s σ H _ I h) fun us s1 ⟨vs,H1,I1,r1,q1⟩=>?_))
 obtain ⟨v,w,e1,q1⟩:=q1
 subst e1
 obtain ⟨u1,u2,rfl,rv,rw'⟩:∃ u1 u2,us=[u1,u2]/\RelV v u1/\RelV w u2:=by
  cases r1 with
  | cons p q =>
   cases q with
   | cons p' q' =>
    cases q'
    exact ⟨_,_,rfl,p,p'⟩
 refine wpAny_newObj_type ?_ (by show 2<=sizeLine; decide)
 have I2:Inv X pins σ H1 { s1 with heap:=s1.heap.push { cls:=.type "tuple",data:=.seq [u1,u2].toArray } }:=I1.kept (t':=s1.toks) fun b o e=>Heap.get?_push_of_some _ e
 rw [hw]
 refine wpAny_bind (wpAny_pure ?_)
 show wpAny (model X.prog X.w) X.A (do rule "assign.swapped-stores"; let items <- unpackItems (.ref s1.heap.objs.size) 2 none; assignInOrder [fun v=>bindName X.env y v,fun v=>bindName X.env x v] items.reverse; pure Flow.next) _ _ _
 refine wpAny_bind (wpAny_rule (wpAny_bind (unpackItems_tuple (items:=#[u1,u2]) (I.ok.hd hc) (IsTup.new s1.heap _) fun h' hx'=>?_)))
 have I3:=I2.kept (h':=h') (t':=s1.toks) fun b o e=>hx' b o (Nat.ne_of_lt (Heap.lt_size e)) e
 show wpAny _ _ (assignInOrder [fun v=>bindName X.env y v,fun v=>bindName X.env x v] [u2,u1] >>= fun _=>pure Flow.next) _ _ _
 refine wpAny_bind (assignInOrder_cons (wpAny_bindName (fC I3 hN hj (.inl hy) rw' (fun s2 I4=>?_) (.inr hy))))
 refine assignInOrder_cons (wpAny_bindName (fC I4 hN hi (.inl hx) rv (fun s3 I5=>assignInOrder_nil (wpAny_pure ?_)) (.inr hx)))
 rw [List.set_comm _ _ (Ne.symm hij)] at I5
 exact ⟨_,H1,I5,q1⟩
end
section
variable {X:Cx} {pos:Pos}
noncomputable def tWhile (c:TT) (tb:TS):TS:=fun D σ H=>∃ W:Nat->St->Hp->Prop,(∃ m,W m σ H)/\∀ m σ H,W m σ H ->
 c σ H fun b H1=>if b=true then ∃ N:St->Hp->Prop,(∀ σ' H',N σ' H'->∃ m',m'<m/\W m' σ' H')/\tb { D with nx:=N,ct:=N,bk:=D.nx } σ H1 else D.nx σ H1
theorem rF {c:Expr} {body:List Stmt} {tc:TT} {tb:TS} (hp:PassesOwn (model X.prog X.w) X.A X.env X.xe) (hc:PT X c tc) (hb:PSs X body tb):PS X (.While c body [] pos) (tWhile tc tb):=by
 intro pins s σ H D I h
 obtain ⟨W,⟨m0,w0⟩,turn⟩:=h
 refine wpAny_While (codeAny_whileLoop (fun n s'=>∃ σ' H',Inv X pins σ' H' s'/\W n σ' H') ?_ m0 ⟨σ,H,I,w0⟩)
 rintro n s1 ⟨σ1,H1,I1,w1⟩
 refine wpAny_passesOwn hp (thn (hc pins s1 σ1 H1 _ I1 (turn n σ1 H1 w1)) fun b s2 ⟨H2,I2,q2⟩=>?_)
 cases b with
 | true =>
  obtain ⟨N,hN,q2⟩:=q2
  rw [if_pos rfl]
  refine wpAny_passesOwn hp (thn (hb pins s2 σ1 H2 _ I2 q2) fun f s3 q3=>?_)
  cases f with
  | next =>
   obtain ⟨σ3,H3,I3,n3⟩:=q3
   obtain ⟨m',hm,w3⟩:=hN σ3 H3 n3
   exact ⟨m',hm,σ3,H3,I3,w3⟩
  | cont =>
   obtain ⟨σ3,H3,I3,n3⟩:=q3
   obtain ⟨m',hm,w3⟩:=hN σ3 H3 n3
   exact ⟨m',hm,σ3,H3,I3,w3⟩
  | brk=>exact q3
  | ret v=>exact q3
 | false =>
  rw [if_neg Bool.false_ne_true]
  exact wpAny_execs_nil ⟨σ1,H2,I2,q2⟩
end
structure It where
 go:Nat->Hp->Prop
 yld:Nat->Hp->V->Hp->Prop
 stop:Nat->Hp->Prop
noncomputable def FpOk (X:Cx) (pins:List (Addr×Obj)) (H:Hp) (b:Addr):Prop :=
 H b=none/\b≠X.env.locals/\b∉X.fs/\(b∈X.ex\/X.s₀.heap.objs.size<=b)/\(∀ x c,X.env.cells.lookup x=some c->c≠b)/\∀ p∈X.pn++pins,p.1≠b
theorem Inv.fpOk {X:Cx} {pins:List (Addr×Obj)} {σ:St} {H H':Hp} {s:Shared} {b:Addr} (I:Inv X pins σ H s) (hb:s.heap.objs.size<=b) (hn:H' b=none):FpOk X pins H' b:=by
 refine ⟨hn,Nat.ne_of_gt (Nat.lt_of_lt_of_le I.lt hb),I.nofs hb,.inr (Nat.le_trans I.sz hb),fun x c e z=>?_,fun p hp z=>?_⟩
 ·obtain ⟨v,q⟩:=I.cell x c e
  exact absurd (Nat.lt_of_lt_of_le q.lt (by rw [z]; exact hb)) (Nat.lt_irrefl _)
 ·exact absurd (Nat.lt_of_lt_of_le (Heap.lt_size (I.pin p hp).1) (by rw [z]; exact hb)) (Nat.lt_irrefl _)
structure Turn (P:Program) (w:World) (K:PySem.W.Frag) (tg:Expr) (J:It) (fp:List Addr) (it:Addr) (tn:Nat->Heap->Prop):Prop where
 mem:it∈fp
 obj:∀ i h,tn i h->∀ b∈fp,∃ o,h.get? b=some o/\∀ v,o.data≠.cell v
 keep:∀ i h h',tn i h->(∀ b∈fp,∀ o,h.get? b=some o->h'.get? b=some o)->tn i h'
 item:∀ (X:Cx),X.prog=P->X.w=w->X.K=K->X.calm=true->∀ (i:Nat) (pins:List (Addr×Obj)) (s:Shared) (σ:St) (H:Hp) (E:Value->Shared->Prop),Inv X pins σ H s->(∀ b∈fp,FpOk X pins H b)->tn i s.heap->J.go i H ->
  wpAny (model P w) X.A (pyNext (.ref it)) (fun r s1=>∃ u,r=some u /\
   wpAny (model P w) X.A (letOwnedTupleGo tg (.ref it) u) (fun _ s2=>∃ x H',Inv X pins σ H' s2/\RelV x u/\J.yld i H x H'/\tn (i+1) s2.heap/\∀ b∈fp,H' b=none) E s1) E s
 done:∀ (X:Cx),X.prog=P->X.w=w->X.K=K->X.calm=true->∀ (i:Nat) (pins:List (Addr×Obj)) (s:Shared) (σ:St) (H:Hp) (E:Value->Shared->Prop),Inv X pins σ H s->(∀ b∈fp,FpOk X pins H b)->tn i s.heap->J.stop i H ->
  wpAny (model P w) X.A (pyNext (.ref it)) (fun r s1=>r=none/\Inv X pins σ H s1) E s
 self:∀ (A:Around) (i:Nat) (s:Shared) (Q:Value->Shared->Prop) (E:Value->Shared->Prop),tn i s.heap->Q (.ref it) s->wpAny (model P w) A (pyIter (.ref it)) Q E s
noncomputable abbrev TI:=St->Hp->(It->Hp->Prop)->Prop
noncomputable def PIE (X:Cx) (pins:List (Addr×Obj)) (σ:St) (tg:Expr) (R:It->Hp->Prop) (itv:Value) (s2:Shared):Prop :=
 ∃ (it:Addr) (fp:List Addr) (tn:Nat->Heap->Prop) (J:It) (H':Hp),itv=.ref it/\Inv X pins σ H' s2/\Turn X.prog X.w X.K tg J fp it tn/\tn 0 s2.heap/\(∀ b∈fp,FpOk X pins H' b)/\R J H'
noncomputable def PI (X:Cx) (tg iter:Expr) (wi:TI):Prop :=
 ∀ (pins:List (Addr×Obj)) (s:Shared) (σ:St) (H:Hp) (R:It->Hp->Prop),Inv X pins σ H s->wi σ H R ->
  wpAny (model X.prog X.w) X.A (eval iter X.env) (fun v s1=>wpAny (model X.prog X.w) X.A (pyIter v) (PIE X pins σ tg R) X.xe s1) X.xe s
theorem lC {M:Model} {A:Around} {E:Value->Shared->Prop} {s:Shared} {tg:Expr} {it:Addr} {u:Value} {o:Obj} {n:String} {vs:Array Value} {Q:Unit->Shared->Prop} (ho:s.heap.get? it=some o) (hc:o.cls=.type n) (hd:o.data=.fields vs)
  (hn:["enumerate", "zip", "dict_itemiterator", "dict_reverseitemiterator", "odict_iterator", "itertools.zip_longest", "itertools.pairwise"].contains n=false) (hQ:Q () s):wpAny M A (letOwnedTupleGo tg (.ref it) u) Q E s:=by
 unfold letOwnedTupleGo
 cases tg <;> first
  | exact wpAny_pure hQ
  | (cases u <;> first
    | exact wpAny_pure hQ
    | (
      refine wpAny_bind (wpAny_load ho ?_)
      rw [hc,hd]
      show wpAny M A (if (["enumerate", "zip", "dict_itemiterator", "dict_reverseitemiterator", "odict_iterator", "itertools.zip_longest", "itertools.pairwise"].contains n && vs[0]?==some (rawInt _))=true then _ else _) Q E s
      rw [if_neg (by intro h; rw [hn,Bool.false_and] at h; cases h)]
      exact wpAny_pure hQ))
noncomputable def Itl (K:PySem.W.Frag) (a:Addr):It :=
 ⟨fun i H=>∃ xs x,SqL K H a xs/\xs[i]?=some x,fun i H x H'=>H'=H/\∀ xs,SqL K H a xs->xs[i]?=some x,fun i H=>∃ xs,SqL K H a xs/\xs.length<=i⟩
noncomputable def Itt (K:PySem.W.Frag) (a:Addr):It :=
 ⟨fun i H=>∃ xs x,SqT K H a xs/\xs[i]?=some x,fun i H x H'=>H'=H/\∀ xs,SqT K H a xs->xs[i]?=some x,fun i H=>∃ xs,SqT K H a xs/\xs.length<=i⟩
noncomputable def Itr (lo:Int) (n:Nat):It:=⟨fun i _=>i<n,fun i H x H'=>H'=H/\x=.int (lo+i),fun i _=>n<=i⟩
theorem kA {P:Program} {w:World} {K:PySem.W.Frag} {tg:Expr} (a it:Addr):Turn P w K tg (Itl K a) [it] it (fun i h=>h.IsListIter it a i) where
 mem:=by simp
 obj:=fun i h st b hb=>by
  have e:b=it:=by simpa using hb
  subst e
  obtain ⟨o,e,c,d⟩:=st
  exact ⟨o,e,fun v z=>by rw [d] at z; cases z⟩
 keep:=fun i h h' st k=>st.at fun o e=>k it (by simp) o e
 item:=by
  intro X hP hw hK hc i pins s σ H E I hf st hg
  subst hP hw hK
  obtain ⟨xs,x,hq,hx⟩:=hg
  obtain ⟨its,rv,p,hz⟩:=I.list hq
  obtain ⟨u,hu,ru⟩:=rv.get hx
  obtain ⟨f0,f1,f2,f3,f4,f5⟩:=hf it (by simp)
  refine wpAny_pyNext_list_item st p.isList (x:=u) (by simpa using hu) fun h' st' sb=>?_
  have I1:Inv X pins σ H { s with heap:=h' }:=I.turned (t':=s.toks) (fun b o hb e=>(sb.2 b hb).trans e) f0 f1 f3 f4 f5
  obtain ⟨o,e,c,d⟩:=id st'
  exact ⟨u,rfl,lC (s:={ s with heap:=h' }) e c d (by decide) ⟨x,H,I1,ru,⟨rfl,fun ys hy=>by rw [I.list_inj hy hq]; exact hx⟩,st',fun b hb=>(hf b hb).1⟩⟩
 done:=by
  intro X hP hw hK hc i pins s σ H E I hf st hg
  subst hP hw hK
  obtain ⟨xs,hq,hx⟩:=hg
  obtain ⟨its,rv,p,hz⟩:=I.list hq
  obtain ⟨f0,f1,f2,f3,f4,f5⟩:=hf it (by simp)
  have hl:=rv.length
  exact wpAny_pyNext_list_end (I.ok.hd hc) st p.isList (by simp; omega) fun h' eb=>⟨rfl,I.turned (t':=s.toks) (fun b o hb e=>eb b o hb e) f0 f1 f3 f4 f5⟩
 self:=fun _ _ _ _ _ st h=>wpAny_pyIter_listiter st h
theorem oh {P:Program} {w:World} {K:PySem.W.Frag} {tg:Expr} (a it:Addr):Turn P w K tg (Itt K a) [it] it (fun i h=>h.IsTupleIter it a i) where
 mem:=by simp
 obj:=fun i h st b hb=>by
  have e:b=it:=by simpa using hb
  subst e
  obtain ⟨o,e,c,d⟩:=st
  exact ⟨o,e,fun v z=>by rw [d] at z; cases z⟩
 keep:=fun i h h' st k=>st.at fun o e=>k it (by simp) o e
 item:=by
  intro X hP hw hK hc i pins s σ H E I hf st hg
  subst hP hw hK
  obtain ⟨xs,x,hq,hx⟩:=hg
  obtain ⟨its,rv,p,hz⟩:=I.tuple hq
  obtain ⟨u,hu,ru⟩:=rv.get hx
  obtain ⟨f0,f1,f2,f3,f4,f5⟩:=hf it (by simp)
  refine wpAny_pyNext_tuple_item st (show s.heap.IsTuple a its.toArray from p) (x:=u) (by simpa using hu) fun h' st' sb=>?_
  have I1:Inv X pins σ H { s with heap:=h' }:=I.turned (t':=s.toks) (fun b o hb e=>(sb.2 b hb).trans e) f0 f1 f3 f4 f5
  obtain ⟨o,e,c,d⟩:=id st'
  exact ⟨u,rfl,lC (s:={ s with heap:=h' }) e c d (by decide) ⟨x,H,I1,ru,⟨rfl,fun ys hy=>by rw [I.tuple_inj hy hq]; exact hx⟩,st',fun b hb=>(hf b hb).1⟩⟩
 done:=by
  intro X hP hw hK hc i pins s σ H E I hf st hg
  subst hP hw hK
  obtain ⟨xs,hq,hx⟩:=hg
  obtain ⟨its,rv,p,hz⟩:=I.tuple hq
  obtain ⟨f0,f1,f2,f3,f4,f5⟩:=hf it (by simp)
  have hl:=rv.length
  exact wpAny_pyNext_tuple_end (I.ok.hd hc) st (show s.heap.IsTuple a its.toArray from p) (by simp; omega) fun h' eb=>⟨rfl,I.turned (t':=s.toks) (fun b o hb e=>eb b o hb e) f0 f1 f3 f4 f5⟩
 self:=fun _ _ _ _ _ st h=>wpAny_pyIter_tupleiter st h
theorem oi {P:Program} {w:World} {K:PySem.W.Frag} {tg:Expr} (it:Addr) (lo:Int) (n:Nat):Turn P w K tg (Itr lo n) [it] it (fun i h=>IsRangeIter h it (lo+(i:Nat)*1) ((n:Int) - (i:Nat)) 1) where
 mem:=by simp
 obj:=fun i h st b hb=>by
  have e:b=it:=by simpa using hb
  subst e
  exact ⟨_,st,fun v z=>by
   have z':Data.fields _=Data.cell v:=z
   cases z'⟩
 keep:=fun i h h' st k=>k it (by simp) _ st
 item:=by
  intro X hP hw hK hc i pins s σ H E I hf st hg
  subst hP hw hK
  obtain ⟨f0,f1,f2,f3,f4,f5⟩:=hf it (by simp)
  have W:=Walks.range (prog:=X.prog) (w:=X.w) (I.ok.hd hc) it lo 1 n
  refine W.item i s _ _ hg st fun v h' tk hv st' kk=>?_
  obtain ⟨t,rfl⟩:=hv
  have I1:Inv X pins σ H { s with heap:=h',toks:=tk }:=I.turned (fun b o hb e=>kk b o (by simpa using hb) e) f0 f1 f3 f4 f5
  refine ⟨_,rfl,lC (s:={ s with heap:=h',toks:=tk }) (n := "range_iterator") st' rfl rfl (by decide) ⟨.int (lo+i),H,I1,⟨t,?_⟩,⟨rfl,rfl⟩,st',fun b hb=>(hf b hb).1⟩⟩
  rw [Int.mul_one]
 done:=by
  intro X hP hw hK hc i pins s σ H E I hf st hg
  subst hP hw hK
  obtain ⟨f0,f1,f2,f3,f4,f5⟩:=hf it (by simp)
  exact wpAny_pyNext_range_end (I.ok.hd hc) st (by have:n<=i:=hg; omega) fun h' eb=>⟨rfl,I.turned (t':=s.toks) (fun b o hb e=>eb b o hb e) f0 f1 f3 f4 f5⟩
 self:=fun _ _ _ _ _ st h=>wpAny_pyIter_rangeiter st h
end L2
namespace L2
open PySem PySem.Spec PyProof.Rows
section
variable {X:Cx} {tg:Expr}
noncomputable def iList (K:PySem.W.Frag) (tl:TE):TI:=fun σ H R=>tl σ H fun x H1=>∃ a,x=.ref a/\(∃ xs,SqL K H1 a xs)/\R (Itl K a) H1
theorem nI {l:Expr} {tl:TE} (hl:PE X l tl):PI X tg l (iList X.K tl):=by
 intro pins s σ H R I h
 refine thn (hl pins s σ H _ I h) fun v s1 ⟨x,H1,I1,r1,q1⟩=>?_
 obtain ⟨a,e,⟨xs,hq⟩,q⟩:=q1
 subst e
 cases r1
 obtain ⟨its,rv,p,hz⟩:=I1.list hq
 refine wpAny_pyIter_list p.isList ?_
 refine ⟨s1.heap.objs.size,[s1.heap.objs.size],_,_,H1,rfl,I1.kept (t':=s1.toks) fun b o e=>Heap.get?_push_of_some _ e,kA a _,⟨_,Heap.get?_push_size _ rfl,rfl,rfl⟩,fun b hb=>?_,q⟩
 have e:b=s1.heap.objs.size:=by simpa using hb
 subst e
 exact I1.fpOk (Nat.le_refl _) (I1.hok.fresh (Nat.le_refl _))
theorem rz {pins:List (Addr×Obj)} {σ:St} {H:Hp} {s:Shared} {R:It->Hp->Prop} {E:Value->Shared->Prop} {lo hi:Int} {t u v:Tok} {tk:Nat} (I:Inv X pins σ H s) (h1 : -(2 ^ 62)<=lo) (h2:lo<2 ^ 62) (h3 : -(2 ^ 62)<=hi) (h4:hi<2 ^ 62)
  (q:R (Itr lo (hi - lo).toNat) H):wpAny (model X.prog X.w) X.A (pyIter (.ref s.heap.objs.size)) (PIE X pins σ tg R) E { s with heap:=s.heap.push { cls:=.type "range",data:=.fields #[.int lo t,.int hi u,.int 1 v] },toks:=tk }:=by
 refine wpAny_pyIter_range (IsRange.new ..) (small_one h1 h2 h3 h4) ?_
 have I1:Inv X pins σ H { s with heap:=s.heap.push { cls:=.type "range",data:=.fields #[.int lo t,.int hi u,.int 1 v] },toks:=tk }:=I.kept fun b o e=>Heap.get?_push_of_some _ e
 refine ⟨(s.heap.push { cls:=.type "range",data:=.fields #[.int lo t,.int hi u,.int 1 v] }).objs.size,[(s.heap.push { cls:=.type "range",data:=.fields #[.int lo t,.int hi u,.int 1 v] }).objs.size],_,_,H,rfl,
  I1.kept (t':=tk) fun b o e=>Heap.get?_push_of_some _ e,oi _ lo (hi - lo).toNat,?_,fun b hb=>?_,q⟩
 ·have e1:lo+((0:Nat):Int)*1=lo:=by simp
  have e2:(((hi - lo).toNat:Nat):Int) - ((0:Nat):Int)=Builtin.Range.rangeSize lo hi 1:=by rw [rangeSize_one]; split <;> omega
  show IsRangeIter _ _ (lo+((0:Nat):Int)*1) ((((hi - lo).toNat:Nat):Int) - ((0:Nat):Int)) 1
  rw [e1,e2]
  exact Heap.get?_push_size _ rfl
 ·have e:b=(s.heap.push { cls:=.type "range",data:=.fields #[.int lo t,.int hi u,.int 1 v] }).objs.size:=by simpa using hb
  subst e
  exact I1.fpOk (Nat.le_refl _) (I1.hok.fresh (Nat.le_refl _))
noncomputable def iRng1 (ta:TA):TI:=fun σ H R=>ta σ H fun vs H1=>∃ j:Int,vs=[.int j] /\ -(2 ^ 62)<=j/\j<2 ^ 62/\R (Itr 0 j.toNat) H1
theorem pO {a:Expr} {ta:TA} {p pos:Pos} (hg:Gl X "range") (hm:X.mg "range" = none) (ha:PA X [a] ta) (hs:autoParam (starEach [a] X.env=[(false,eval a X.env)]) Z2._auto_1):PI X tg (.Call (.Name "range" p) [a] [] pos) (iRng1 ta):=by
 intro pins s σ H R I h
 refine Call_ (gg I hg hm boot_range (PyProof.Rows.callWith_type1 (thn (ha pos pins s σ H _ I h) fun us s1 ⟨vs,H1,I1,r1,q1⟩=>?_) hs rfl))
 obtain ⟨j,e,q1,q2,q⟩:=q1
 subst e
 cases r1 with
 | cons r rr =>
  cases rr
  obtain ⟨t,rfl⟩:=r
  exact call_range_1 (rz I1 (by omega) (by omega) q1 q2 (by simpa using q))
noncomputable def tFor (wi:TI) (g:TG) (tb:TS):TS:=fun D σ H=>wi σ H fun J H1=>∃ W:Nat->Nat->St->Hp->Prop,(∃ m,W 0 m σ H1)/\∀ i m σ H,W i m σ H ->
 (J.stop i H/\D.nx σ H)\/(J.go i H/\∃ N:St->Hp->Prop,(∀ σ' H',N σ' H'->∃ m',m'<m/\W (i+1) m' σ' H')/\∀ x H',J.yld i H x H'->g x σ H' fun σ2 H2=>tb { D with nx:=N,ct:=N,bk:=D.nx } σ2 H2)
noncomputable def pinsAt (fp:List Addr) (h:Heap):List (Addr×Obj):=fp.filterMap fun b=>(h.get? b).map fun o=>(b,o)
theorem bZ {fp:List Addr} {h:Heap} {b:Addr} {o:Obj} (hb:b∈fp) (e:h.get? b=some o):(b,o)∈pinsAt fp h:=List.mem_filterMap.mpr ⟨b,hb,by rw [e]; rfl⟩
theorem qe {fp:List Addr} {h:Heap} {p:Addr×Obj} (hp:p∈pinsAt fp h):p.1∈fp/\h.get? p.1=some p.2:=by
 obtain ⟨b,hb,e⟩:=List.mem_filterMap.mp hp
 cases q:h.get? b with
 | none=>rw [q] at e; cases e
 | some o =>
  rw [q] at e
  have e':(b,o)=p:=Option.some.inj e
  subst e'
  exact ⟨hb,q⟩
theorem Inv.pinned {pins:List (Addr×Obj)} {σ:St} {H:Hp} {s:Shared} {fp:List Addr} (I:Inv X pins σ H s) (hf:∀ b∈fp,FpOk X pins H b) (ho:∀ b∈fp,∃ o,s.heap.get? b=some o/\∀ v,o.data≠.cell v):Inv X (pins++pinsAt fp s.heap) σ H s :=
 I.pins_of fun p hp=>(List.mem_append.mp hp).elim (fun z=>I.pin p (List.mem_append_right _ z)) fun z=>by
  obtain ⟨hb,e⟩:=qe z
  obtain ⟨f0,f1,f2,_⟩:=hf p.1 hb
  obtain ⟨o,e',d⟩:=ho p.1 hb
  rw [e] at e'; cases e'
  exact ⟨e,f0,f1,f2,d⟩
theorem Inv.unpinned {pins pl:List (Addr×Obj)} {σ:St} {H:Hp} {s:Shared} (I:Inv X (pins++pl) σ H s):Inv X pins σ H s:=I.pins_of fun p hp=>I.pin p (List.mem_append_right _ (List.mem_append_left _ hp))
theorem pL {iter:Expr} {body:List Stmt} {wi:TI} {g:TG} {tb:TS} {pos:Pos} (hp:PassesOwn (model X.prog X.w) X.A X.env X.xe) (hc:X.calm=true) (hi:PI X tg iter wi) (hg:PG X tg g) (hb:PSs X body tb)
  (hs:autoParam (∀ x,foldedSetIterable iter X.env x=pure x) Z3._auto_1):PS X (.For tg iter body [] pos) (tFor wi g tb):=by
 intro pins s σ H D I h
 refine wpAny_For (thn (hi pins s σ H _ I h) fun v s1 h1=>thn h1 fun itv s2 h2=>?_) hs
 obtain ⟨it,fp,tn,J,H2,e,I2,T,st2,f2,W,⟨m0,w0⟩,turn⟩:=h2
 subst e
 have stat:∀ {H':Hp},(∀ b∈fp,H' b=none)->∀ b∈fp,FpOk X pins H' b:=fun hn b hb=>⟨hn b hb,(f2 b hb).2⟩
 refine codeAny_forLoop_any (fun n s'=>∃ i σ' H',Inv X pins σ' H' s'/\tn i s'.heap/\(∀ b∈fp,H' b=none)/\W i n σ' H') ?_ m0 ⟨0,σ,H2,I2,st2,fun b hb=>(f2 b hb).1,w0⟩
 rintro n s3 ⟨i,σ3,H3,I3,st3,fr3,w3⟩
 rcases turn i n σ3 H3 w3 with ⟨stop,qn⟩ | ⟨go,N,hN,step⟩
 ·refine wpAny_passesOwn hp (thn (T.done X rfl rfl rfl hc i pins s3 σ3 H3 X.xe I3 (stat fr3) st3 stop) fun r s4 ⟨hr,I4⟩=>?_)
  subst hr
  exact wpAny_execs_nil ⟨σ3,H3,I4,qn⟩
 ·refine wpAny_passesOwn hp (thn (T.item X rfl rfl rfl hc i pins s3 σ3 H3 X.xe I3 (stat fr3) st3 go) fun r s4 ⟨u,hr,h4⟩=>?_)
  subst hr
  refine wpAny_passesOwn hp (thn h4 fun _ s5 ⟨x,H5,I5,r5,y5,st5,fr5⟩=>?_)
  have I5':=I5.pinned (stat fr5) (T.obj _ _ st5)
  refine wpAny_passesOwn hp (thn (hg _ s5 σ3 H5 x u _ I5' r5 (step x H5 y5)) fun _ s6 ⟨σ6,H6,I6,q6⟩=>?_)
  refine wpAny_passesOwn hp (thn (hb _ s6 σ6 H6 _ I6 q6) fun f s7 q7=>?_)
  have again:∀ {σ7:St} {H7:Hp},Inv X (pins++pinsAt fp s5.heap) σ7 H7 s7->N σ7 H7->∃ m,m<n/\∃ i σ' H',Inv X pins σ' H' s7/\tn i s7.heap/\(∀ b∈fp,H' b=none)/\W i m σ' H':=fun {σ7 H7} I7 n7=>by
   obtain ⟨m',hm,w7⟩:=hN σ7 H7 n7
   refine ⟨m',hm,i+1,σ7,H7,I7.unpinned,T.keep _ _ _ st5 fun b hb o e=>(I7.pin (b,o) (List.mem_append_right _ (List.mem_append_right _ (bZ hb e)))).1,fun b hb=>?_,w7⟩
   obtain ⟨o,e,d⟩:=T.obj _ _ st5 b hb
   exact (I7.pin (b,o) (List.mem_append_right _ (List.mem_append_right _ (bZ hb e)))).2.1
  cases f with
  | next=>obtain ⟨σ7,H7,I7,n7⟩:=q7; exact again I7 n7
  | cont=>obtain ⟨σ7,H7,I7,n7⟩:=q7; exact again I7 n7
  | brk=>obtain ⟨σ7,H7,I7,q7⟩:=q7; exact ⟨σ7,H7,I7.unpinned,q7⟩
  | ret v=>obtain ⟨x7,σ7,H7,I7,r7,q7⟩:=q7; exact ⟨x7,σ7,H7,I7.unpinned,r7,q7⟩
end
theorem su {K:PySem.W.Frag} {a:Addr} {xs:List V} {g:TG} {tb:TS} {D:Ends} {σ:St} {H:Hp} (Pv:Nat->St->Hp->Prop) (h0:Pv 0 σ H) (hl:∀ i σ H,i<=xs.length->Pv i σ H->SqL K H a xs)
  (hs:∀ i x σ H,xs[i]?=some x->Pv i σ H->g x σ H fun σ2 H2=>tb { D with nx:=Pv (i+1),ct:=Pv (i+1),bk:=D.nx } σ2 H2) (hd:∀ σ H,Pv xs.length σ H->D.nx σ H) :
  ∃ W:Nat->Nat->St->Hp->Prop,(∃ m,W 0 m σ H)/\∀ i m σ H,W i m σ H ->
   ((Itl K a).stop i H/\D.nx σ H)\/((Itl K a).go i H/\∃ N:St->Hp->Prop,(∀ σ' H',N σ' H'->∃ m',m'<m/\W (i+1) m' σ' H')/\∀ x H',(Itl K a).yld i H x H'->g x σ H' fun σ2 H2=>tb { D with nx:=N,ct:=N,bk:=D.nx } σ2 H2):=by
 refine ⟨fun i m σ H=>m=xs.length - i/\i<=xs.length/\Pv i σ H,⟨xs.length,by simp,Nat.zero_le _,h0⟩,?_⟩
 rintro i m σ H ⟨rfl,hi,p⟩
 have q:=hl i σ H hi p
 by_cases hlt:i<xs.length
 ·refine .inr ⟨⟨xs,xs[i],q,by simp [hlt]⟩,Pv (i+1),fun σ' H' p'=>⟨xs.length - (i+1),by omega,rfl,hlt,p'⟩,fun x H' y=>?_⟩
  obtain ⟨e,y⟩:=y
  subst e
  exact hs i x σ _ (y xs q) p
 ·have e:i=xs.length:=by omega
  subst e
  exact .inl ⟨⟨xs,q,Nat.le_refl _⟩,hd σ H p⟩
end L2
namespace L2
open PySem PySem.Spec PyProof.Rows
noncomputable abbrev R2:=V->V->Hp->VK->Prop
noncomputable def OpR (X:Cx) (f:Value->Value->Sem Value) (r:R2):Prop :=
 ∀ (pins:List (Addr×Obj)) (s:Shared) (σ:St) (H:Hp) (x y:V) (v u:Value) (Q:VK),Inv X pins σ H s->RelV x v->RelV y u->r x y H Q ->
  wpAny (model X.prog X.w) X.A (f v u) (EP X pins σ Q) X.xe s
noncomputable def CallR (X:Cx) (f:Value) (r:List V->Hp->VK->Prop):Prop :=
 ∀ (pins:List (Addr×Obj)) (s:Shared) (σ:St) (H:Hp) (xs:List V) (us:List Value) (Q:VK),Inv X pins σ H s->Vals xs us->r xs H Q ->
  wpAny (model X.prog X.w) X.A (call f us) (EP X pins σ Q) X.xe s
noncomputable def TruR (X:Cx) (r:V->Hp->(Bool->Hp->Prop)->Prop):Prop :=
 ∀ (pins:List (Addr×Obj)) (s:Shared) (σ:St) (H:Hp) (x:V) (v:Value) (Q:Bool->Hp->Prop),Inv X pins σ H s->RelV x v->r x H Q ->
  wpAny (model X.prog X.w) X.A (truthy v) (TP X pins σ Q) X.xe s
noncomputable def tOp (r:R2) (ta tb:TE):TE:=fun σ H Q=>ta σ H fun x H1=>tb σ H1 fun y H2=>r x y H2 Q
noncomputable def rI (C:Int->Int->Prop) (g:Int->Int->V):R2:=fun x y H Q=>∃ i j,x=.int i/\y=.int j/\C i j/\Q (g i j) H
noncomputable def rI0 (g:Int->Int->V):R2:=fun x y H Q=>∃ i j,x=.int i/\y=.int j/\Q (g i j) H
section
variable {X:Cx} {a b c:Expr} {ta tb tc:TE} {pos:Pos}
theorem binT (ha:PE X a ta) (hb:PE X b tb) {pins:List (Addr×Obj)} {s:Shared} {σ:St} {H:Hp} {R:V->V->Hp->Prop} (I:Inv X pins σ H s)
  (h:ta σ H fun x H1=>tb σ H1 fun y H2=>R x y H2) {Q:Value->Shared->Prop} {f:Value->Value->Sem Value}
  (hf:∀ v u s2 x y H2,Inv X pins σ H2 s2->RelV x v->RelV y u->R x y H2->wpAny (model X.prog X.w) X.A (f v u) Q X.xe s2) :
  wpAny (model X.prog X.w) X.A (eval a X.env) (fun v s₁=>wpAny (model X.prog X.w) X.A (eval b X.env) (fun u s₂=>wpAny (model X.prog X.w) X.A (f v u) Q X.xe s₂) X.xe s₁) X.xe s:=by
 refine thn (ha pins s σ H _ I h) fun v s1 ⟨x,H1,I1,r1,q1⟩=>?_
 refine thn (hb pins s1 σ H1 _ I1 q1) fun u s2 ⟨y,H2,I2,r2,q2⟩=>?_
 exact hf v u s2 x y H2 I2 r1 r2 q2
theorem bw {op:Operator} {r:R2} (ho:OpR X (binaryOp op) r) (ha:PE X a ta) (hb:PE X b tb):PE X (.BinOp a op b pos) (tOp r ta tb):=by
 intro pins s σ H Q I h
 exact wpAny_BinOp (binT ha hb I h fun v u s2 x y H2 I2 rx ry q=>ho pins s2 σ H2 x y v u Q I2 rx ry q)
theorem opI {f:Value->Value->Sem Value} {C:Int->Int->Prop} {g:Int->Int->Int}
  (rule:∀ (i j:Int) (t u:Tok) (s:Shared) (Q:Value->Shared->Prop) (E:Value->Shared->Prop),C i j->Q (.int (g i j) s.toks) { s with toks:=s.toks+1 }->wpAny (model X.prog X.w) X.A (f (.int i t) (.int j u)) Q E s) :
  OpR X f (rI C fun i j=>.int (g i j)):=by
 intro pins s σ H x y v u Q I rx ry h
 obtain ⟨i,j,rfl,rfl,hc,q⟩:=h
 obtain ⟨t,rfl⟩:=rx
 obtain ⟨t',rfl⟩:=ry
 exact rule i j t t' s _ _ hc ⟨.int (g i j),H,I.tok _,⟨_,rfl⟩,q⟩
theorem opI0 {f:Value->Value->Sem Value} {g:Int->Int->Int}
  (rule:∀ (i j:Int) (t u:Tok) (s:Shared) (Q:Value->Shared->Prop) (E:Value->Shared->Prop),Q (.int (g i j) s.toks) { s with toks:=s.toks+1 }->wpAny (model X.prog X.w) X.A (f (.int i t) (.int j u)) Q E s) :
  OpR X f (rI0 fun i j=>.int (g i j)):=by
 intro pins s σ H x y v u Q I rx ry h
 obtain ⟨i,j,rfl,rfl,q⟩:=h
 obtain ⟨t,rfl⟩:=rx
 obtain ⟨t',rfl⟩:=ry
 exact rule i j t t' s _ _ ⟨.int (g i j),H,I.tok _,⟨_,rfl⟩,q⟩
theorem opB0 {f:Value->Value->Sem Value} {g:Int->Int->Bool}
  (rule:∀ (i j:Int) (t u:Tok) (s:Shared) (Q:Value->Shared->Prop) (E:Value->Shared->Prop),Q (.bool (g i j)) s->wpAny (model X.prog X.w) X.A (f (.int i t) (.int j u)) Q E s) :
  OpR X f (rI0 fun i j=>.bl (g i j)):=by
 intro pins s σ H x y v u Q I rx ry h
 obtain ⟨i,j,rfl,rfl,q⟩:=h
 obtain ⟨t,rfl⟩:=rx
 obtain ⟨t',rfl⟩:=ry
 exact rule i j t t' s _ _ ⟨.bl (g i j),H,I,rfl,q⟩
noncomputable def CDiv (i j:Int):Prop:=0<j/\j<1073741824
noncomputable def CPow (i j:Int):Prop:=0<=j/\j<=1000000/\i.natAbs<2 ^ 64
noncomputable def CMul (i j:Int):Prop:=(-(2 ^ 64)<i/\i<2 ^ 64)\/(-(2 ^ 64)<j/\j<2 ^ 64)
theorem CMul.ok {i j:Int} (h:CMul i j):IntMulOk i j:=by
 rcases h with ⟨h1,h2⟩ | ⟨h1,h2⟩
 ·exact .of_left (intBits_le_64 h1 h2)
 ·exact .of_right (intBits_le_64 h1 h2)
theorem gc:OpR X (binaryOp .Add) (rI0 fun i j=>.int (i+j)):=opI0 fun _ _ _ _ _ _ _ q=>add_int q
theorem vA:OpR X (binaryOp .Sub) (rI0 fun i j=>.int (i - j)):=opI0 fun _ _ _ _ _ _ _ q=>sub_int q
theorem je:OpR X (binaryOp .Mult) (rI CMul fun i j=>.int (i*j)):=opI fun _ _ _ _ _ _ _ hc q=>mul_int q hc.ok
theorem jO:OpR X (binaryOp .FloorDiv) (rI CDiv fun i j=>.int (i / j)):=opI fun i j _ _ _ _ _ hc q=>by
 have h1:(0:Int)<j:=hc.1
 have h2:j<1073741824:=hc.2
 exact floordiv_int (by omega) (by rw [Int.fdiv_eq_ediv_of_nonneg i (by omega)]; exact q) (.inl (PyProof.noPylong_small (by omega)))
theorem dB:OpR X (binaryOp .Mod) (rI (fun _ j=>0<j) fun i j=>.int (i % j)):=opI fun i j _ _ _ _ _ hc q=>by
 have h1:(0:Int)<j:=hc
 exact mod_int' (by omega) (by rw [Int.fmod_eq_emod_of_nonneg i (by omega)]; exact q)
theorem ma:OpR X (binaryOp .Pow) (rI CPow fun i j=>.int (i ^ j.toNat)):=opI fun _ _ _ _ _ _ _ hc q=>pow_int_small hc.1 hc.2.1 hc.2.2 q
end
noncomputable def scal:V->V->Bool
 | .non,.non=>true | .non,.int _=>true | .int _,.non=>true | .non,.bl _=>true | .bl _,.non=>true | .non,.str _=>true | .str _,.non=>true
 | .int _,.int _=>true | .bl _,.bl _=>true | .str _,.str _=>true | .byt _,.byt _=>true
 | .int _,.str _=>true | .str _,.int _=>true | .bl _,.str _=>true | .str _,.bl _=>true
 | _,_=>false
noncomputable def rEq:R2:=fun x y H Q=>scal x y=true/\Q (.bl (decide (x=y))) H
noncomputable def rNe:R2:=fun x y H Q=>scal x y=true/\Q (.bl (!decide (x=y))) H
theorem nY {i j:Int}:decide (V.int i=V.int j)=(i==j):=by
 rw [Bool.eq_iff_iff]
 simp
theorem qN {i j:Bool}:decide (V.bl i=V.bl j)=(i==j):=by
 rw [Bool.eq_iff_iff]
 simp
theorem nX {i j:Str}:decide (V.str i=V.str j)=(i==j):=by
 rw [Bool.eq_iff_iff]
 simp
theorem nZ {i j:Array UInt8}:decide (V.byt i=V.byt j)=(i.toList==j.toList):=by
 rw [Bool.eq_iff_iff]
 cases i
 cases j
 simp
section
variable {X:Cx} {a b c:Expr} {ta tb tc:TE} {pos:Pos}
theorem aI {pins:List (Addr×Obj)} {σ:St} {H:Hp} {s:Shared} {Q:VK} {k k':Bool} (I:Inv X pins σ H s) (q:Q (.bl k) H) (e:k=k'):EP X pins σ Q (.bool k') s:=by
 subst e
 exact ⟨.bl k,H,I,rfl,q⟩
theorem wL:OpR X (compareOp .Eq) rEq:=by
 intro pins s σ H x y v u Q I rx ry h
 obtain ⟨hs,q⟩:=h
 cases x with
 | non =>
  cases rx
  cases y with
  | non=>cases ry; exact PySem.EqNone.eq_none_none (aI I q (by simp))
  | bl j=>cases ry; exact PySem.EqNone.eq_none_bool (aI I q (by simp))
  | int j=>obtain ⟨t',rfl⟩:=ry; exact PySem.EqNone.eq_none_int (aI I q (by simp))
  | str j=>obtain ⟨t',rfl⟩:=ry; exact PySem.EqNone.eq_none_str (aI I q (by simp))
  | _=>exact absurd (show false=true from hs) Bool.false_ne_true
 | bl i =>
  cases rx
  cases y with
  | non=>cases ry; exact PySem.EqNone.eq_bool_none (aI I q (by simp))
  | bl j=>cases ry; exact eq_bool (aI I q qN)
  | str j=>obtain ⟨t',rfl⟩:=ry; exact PySem.EqMixed.eq_bool_str (aI I q (by simp))
  | _=>exact absurd (show false=true from hs) Bool.false_ne_true
 | int i =>
  obtain ⟨t,rfl⟩:=rx
  cases y with
  | non=>cases ry; exact PySem.EqNone.eq_int_none (aI I q (by simp))
  | int j=>obtain ⟨t',rfl⟩:=ry; exact eq_int (aI I q nY)
  | str j=>obtain ⟨t',rfl⟩:=ry; exact PySem.EqMixed.eq_int_str (aI I q (by simp))
  | _=>exact absurd (show false=true from hs) Bool.false_ne_true
 | str i =>
  obtain ⟨t,rfl⟩:=rx
  cases y with
  | non=>cases ry; exact PySem.EqNone.eq_str_none (aI I q (by simp))
  | bl j=>cases ry; exact PySem.EqMixed.eq_str_bool (aI I q (by simp))
  | int j=>obtain ⟨t',rfl⟩:=ry; exact PySem.EqMixed.eq_str_int (aI I q (by simp))
  | str j=>obtain ⟨t',rfl⟩:=ry; exact eq_str (aI I q nX)
  | _=>exact absurd (show false=true from hs) Bool.false_ne_true
 | byt i =>
  obtain ⟨t,rfl⟩:=rx
  cases y with
  | byt j=>obtain ⟨t',rfl⟩:=ry; exact PySem.W.eq_bytes (aI I q nZ)
  | _=>exact absurd (show false=true from hs) Bool.false_ne_true
 | _=>cases y <;> exact absurd (show false=true from hs) Bool.false_ne_true
theorem wH:OpR X (compareOp .NotEq) rNe:=by
 intro pins s σ H x y v u Q I rx ry h
 obtain ⟨hs,q⟩:=h
 cases x with
 | non =>
  cases rx
  cases y with
  | non=>cases ry; exact PySem.EqNone.ne_none_none (aI I q (by simp))
  | bl j=>cases ry; exact PySem.EqNone.ne_none_bool (aI I q (by simp))
  | int j=>obtain ⟨t',rfl⟩:=ry; exact PySem.EqNone.ne_none_int (aI I q (by simp))
  | str j=>obtain ⟨t',rfl⟩:=ry; exact PySem.EqNone.ne_none_str (aI I q (by simp))
  | _=>exact absurd (show false=true from hs) Bool.false_ne_true
 | bl i =>
  cases rx
  cases y with
  | non=>cases ry; exact PySem.EqNone.ne_bool_none (aI I q (by simp))
  | bl j=>cases ry; exact ne_bool (aI I q (congrArg not qN))
  | str j=>obtain ⟨t',rfl⟩:=ry; exact PySem.EqMixed.ne_bool_str (aI I q (by simp))
  | _=>exact absurd (show false=true from hs) Bool.false_ne_true
 | int i =>
  obtain ⟨t,rfl⟩:=rx
  cases y with
  | non=>cases ry; exact PySem.EqNone.ne_int_none (aI I q (by simp))
  | int j=>obtain ⟨t',rfl⟩:=ry; exact ne_int (aI I q (congrArg not nY))
  | str j=>obtain ⟨t',rfl⟩:=ry; exact PySem.EqMixed.ne_int_str (aI I q (by simp))
  | _=>exact absurd (show false=true from hs) Bool.false_ne_true
 | str i =>
  obtain ⟨t,rfl⟩:=rx
  cases y with
  | non=>cases ry; exact PySem.EqNone.ne_str_none (aI I q (by simp))
  | bl j=>cases ry; exact PySem.EqMixed.ne_str_bool (aI I q (by simp))
  | int j=>obtain ⟨t',rfl⟩:=ry; exact PySem.EqMixed.ne_str_int (aI I q (by simp))
  | str j=>obtain ⟨t',rfl⟩:=ry; exact ne_str (aI I q (congrArg not nX))
  | _=>exact absurd (show false=true from hs) Bool.false_ne_true
 | byt i =>
  obtain ⟨t,rfl⟩:=rx
  cases y with
  | byt j=>obtain ⟨t',rfl⟩:=ry; exact PySem.W.ne_bytes (aI I q (congrArg not nZ))
  | _=>exact absurd (show false=true from hs) Bool.false_ne_true
 | _=>cases y <;> exact absurd (show false=true from hs) Bool.false_ne_true
theorem wI:OpR X (compareOp .Lt) (rI0 fun i j=>.bl (decide (i<j))):=opB0 fun _ _ _ _ _ _ _ q=>lt_int q
theorem wJ:OpR X (compareOp .LtE) (rI0 fun i j=>.bl (decide (i<=j))):=opB0 fun _ _ _ _ _ _ _ q=>le_int q
theorem sV:OpR X (compareOp .Gt) (rI0 fun i j=>.bl (decide (j<i))):=opB0 fun _ _ _ _ _ _ _ q=>gt_int q
theorem wK:OpR X (compareOp .GtE) (rI0 fun i j=>.bl (decide (j<=i))):=opB0 fun _ _ _ _ _ _ _ q=>ge_int q
theorem qa:OpR X (compareOp .Lt) (fun x y H Q=>∃ i j,x=.str i/\y=.str j/\Q (.bl (decide (i.cps.toList<j.cps.toList))) H):=by
 intro pins s σ H x y v u Q I rx ry h
 obtain ⟨i,j,rfl,rfl,q⟩:=h
 obtain ⟨t,rfl⟩:=rx
 obtain ⟨t',rfl⟩:=ry
 exact lt_str (aI I q rfl)
theorem qd:OpR X (compareOp .In) (fun x y H Q=>∃ i j,x=.str i/\y=.str j/\Q (.bl (!(Builtin.Str.occurrences j i 0 j.length 1).isEmpty)) H):=by
 intro pins s σ H x y v u Q I rx ry h
 obtain ⟨i,j,rfl,rfl,q⟩:=h
 obtain ⟨t,rfl⟩:=rx
 obtain ⟨t',rfl⟩:=ry
 exact in_str (aI I q rfl)
theorem vD:OpR X (compareOp .Is) (fun x y H Q=>y=.non/\Q (.bl (decide (x=.non))) H):=by
 intro pins s σ H x y v u Q I rx ry h
 obtain ⟨rfl,q⟩:=h
 cases ry
 refine is_none_gen (aI I q ?_)
 cases x <;> first
  | (cases rx; rfl)
  | (obtain ⟨t,rfl⟩:=rx; rfl)
theorem t4:OpR X (compareOp .IsNot) (fun x y H Q=>y=.non/\Q (.bl (!decide (x=.non))) H):=by
 intro pins s σ H x y v u Q I rx ry h
 obtain ⟨rfl,q⟩:=h
 cases ry
 refine isnot_none_gen (aI I q ?_)
 cases x <;> first
  | (cases rx; rfl)
  | (obtain ⟨t,rfl⟩:=rx; rfl)
theorem nomark (b:Expr) {op:CmpOp} (h:autoParam (op≠.In) Z1._auto_1) (h2:autoParam (op≠.NotIn) Z1._auto_1):behindInMarks op b=false:=by
 have e1:(op==CmpOp.In)=false:=by cases op <;> first | rfl | exact absurd rfl h
 have e2:(op==CmpOp.NotIn)=false:=by cases op <;> first | rfl | exact absurd rfl h2
 cases b <;> simp [behindInMarks,e1,e2]
theorem nJ {op:CmpOp} {r:R2} (ho:OpR X (compareOp op) r) (ha:PE X a ta) (hb:PE X b tb) (hm:behindInMarks op b=false):PE X (.Compare a [op] [b] pos) (tOp r ta tb):=by
 intro pins s σ H Q I h
 exact wpAny_Compare1 (binT ha hb I h fun v u s2 x y H2 I2 rx ry q=>ho pins s2 σ H2 x y v u Q I2 rx ry q) hm
noncomputable def tTest (t:TE):TT:=fun σ H Q=>t σ H fun x H'=>∃ k,x=.bl k/\Q k H'
theorem eZ {op:CmpOp} {r:R2} (ho:OpR X (compareOp op) r) (ha:PE X a ta) (hb:PE X b tb) (hm:behindInMarks op b=false):PT X (.Compare a [op] [b] pos) (tTest (tOp r ta tb)):=by
 intro pins s σ H Q I h
 refine wpAny_isTrue_Compare1 (thn (ha pins s σ H _ I h) fun v s1 ⟨x,H1,I1,r1,q1⟩=>thn (hb pins s1 σ H1 _ I1 q1) fun u s2 ⟨y,H2,I2,r2,q2⟩ =>
  thn (ho pins s2 σ H2 x y v u _ I2 r1 r2 q2) fun c s3 ⟨z,H3,I3,r3,k,e,q3⟩=>?_) hm
 subst e
 cases r3
 exact wpAny_truthy_bool ⟨H3,I3,q3⟩
noncomputable def tChain (r r':R2) (ta tb tc:TE):TE:=fun σ H Q=>ta σ H fun x H1=>tb σ H1 fun y H2=>r x y H2 fun z H3=>∃ k,z=.bl k /\
 (if k=true then tc σ H3 fun w' H4=>r' y w' H4 Q else Q (.bl false) H3)
theorem rN {op op':CmpOp} {r r':R2} (ho:OpR X (compareOp op) r) (ho':OpR X (compareOp op') r') (ha:PE X a ta) (hb:PE X b tb) (hc:PE X c tc)
  (hm:autoParam (lastMarks [op,op'] [b,c]=false) Z4._auto_1):PE X (.Compare a [op,op'] [b,c] pos) (tChain r r' ta tb tc):=by
 intro pins s σ H Q I h
 refine Compare_chain (thn (ha pins s σ H _ I h) fun v s1 ⟨x,H1,I1,r1,q1⟩=>chain_link (thn (hb pins s1 σ H1 _ I1 q1) fun u s2 ⟨y,H2,I2,r2,q2⟩ =>
  thn (ho pins s2 σ H2 x y v u _ I2 r1 r2 q2) fun d s3 ⟨z,H3,I3,r3,k,e,q3⟩=>?_)) hm
 subst e
 cases r3
 refine wpAny_truthy_bool ?_
 cases k with
 | false=>exact ite_ff ⟨.bl false,H3,I3,rfl,q3⟩
 | true=>exact ite_tt (chain_last (thn (hc pins s3 σ H3 _ I3 q3) fun w' s4 ⟨z',H4,I4,r4,q4⟩=>ho' pins s4 σ H4 y z' u w' Q I4 r2 r4 q4))
theorem rE {op op':CmpOp} {r r':R2} (ho:OpR X (compareOp op) r) (ho':OpR X (compareOp op') r') (ha:PE X a ta) (hb:PE X b tb) (hc:PE X c tc)
  (hm:autoParam (lastMarks [op,op'] [b,c]=false) Z4._auto_1):PT X (.Compare a [op,op'] [b,c] pos) (tTest (tChain r r' ta tb tc)):=by
 intro pins s σ H Q I h
 refine isTrue_chain (thn (ha pins s σ H _ I h) fun v s1 ⟨x,H1,I1,r1,q1⟩=>test_link (thn (hb pins s1 σ H1 _ I1 q1) fun u s2 ⟨y,H2,I2,r2,q2⟩ =>
  thn (ho pins s2 σ H2 x y v u _ I2 r1 r2 q2) fun d s3 ⟨z,H3,I3,r3,k,e,q3⟩=>?_)) hm
 subst e
 cases r3
 refine wpAny_truthy_bool ?_
 cases k with
 | false =>
  obtain ⟨k',e',q'⟩:=q3
  cases e'
  exact ite_ff ⟨H3,I3,q'⟩
 | true =>
  refine ite_tt (test_last (thn (hc pins s3 σ H3 _ I3 q3) fun w' s4 ⟨z',H4,I4,r4,q4⟩=>thn (ho' pins s4 σ H4 y z' u w' _ I4 r2 r4 q4) fun d' s5 ⟨z2,H5,I5,r5,k2,e2,q5⟩=>?_))
  subst e2
  cases r5
  exact wpAny_truthy_bool ⟨H5,I5,q5⟩
noncomputable def TruV (K:PySem.W.Frag) (x:V) (H:Hp) (k:Bool):Prop :=
 match x with
 | .non=>k=false
 | .bl b=>k=b
 | .int i=>k=(i != 0)
 | .str y=>y.length<=sizeLine/\k=((y.length:Int) != 0)
 | .byt y=>y.size<=sizeLine/\k=((y.size:Int) != 0)
 | .ref p=>(∃ xs,SqL K H p xs/\k=!xs.isEmpty)\/(∃ xs,SqT K H p xs/\k=!xs.isEmpty)\/∃ kvs,H p=some (.dK kvs)/\k=!kvs.isEmpty
 | _=>False
theorem oI {κ:Type} {kvs:List (κ×V)} {vs:List (κ×Value)} (r:KV kvs vs):(!vs.isEmpty)=!kvs.isEmpty:=by
 cases r <;> rfl
theorem jn {xs:List V} {its:List Value} (r:Vals xs its):(!its.toArray.isEmpty)=!xs.isEmpty:=by
 cases r <;> simp
theorem line63:(sizeLine:Nat)<2 ^ 63:=by rw [sizeLine_eq]; decide
theorem uZ:TruR X (fun x H Q=>∃ k,TruV X.K x H k/\Q k H):=by
 intro pins s σ H x v Q I rx h
 obtain ⟨k,e,q⟩:=h
 have hl:=line63
 have hs:sizeLine=16777216:=sizeLine_eq
 cases x with
 | non =>
  cases rx
  have e':k=false:=e
  subst e'
  exact truthy_none ⟨H,I,q⟩
 | bl b =>
  cases rx
  have e':k=b:=e
  subst e'
  exact wpAny_truthy_bool ⟨H,I,q⟩
 | int i =>
  obtain ⟨t,rfl⟩:=rx
  have e':k=(i != 0):=e
  subst e'
  exact PySem.P.truthy_int ⟨H,I,q⟩
 | str y =>
  obtain ⟨t,rfl⟩:=rx
  obtain ⟨hy,e'⟩:y.length<=sizeLine/\k=((y.length:Int) != 0):=e
  subst e'
  exact PySem.P.truthy_str (by omega) ⟨H,I.tok _,q⟩
 | byt y =>
  obtain ⟨t,rfl⟩:=rx
  obtain ⟨hy,e'⟩:y.size<=sizeLine/\k=((y.size:Int) != 0):=e
  subst e'
  exact PySem.W.truthy_bytes (by omega) ⟨H,I.tok _,q⟩
 | ref p =>
  cases rx
  have e':(∃ xs,SqL X.K H p xs/\k=!xs.isEmpty)\/(∃ xs,SqT X.K H p xs/\k=!xs.isEmpty)\/∃ kvs,H p=some (.dK kvs)/\k=!kvs.isEmpty:=e
  rcases e' with ⟨xs,hx,e'⟩ | ⟨xs,hx,e'⟩ | ⟨kvs,hx,e'⟩
  ·subst e'
   obtain ⟨its,r,pl,hz⟩:=I.list hx
   have hlen:=r.length
   exact wpAny_truthy_list pl.isList (by simp only [List.size_toArray]; omega) ⟨H,I.tok _,by rw [jn r]; exact q⟩
  ·subst e'
   obtain ⟨its,r,pl,hz⟩:=I.tuple hx
   have hlen:=r.length
   exact truthy_tuple pl (by simp only [List.size_toArray]; omega) ⟨H,I.tok _,by rw [jn r]; exact q⟩
  ·subst e'
   obtain ⟨hz,hS,vs,r,m⟩:kvs.length<=sizeLine/\(p==sysModules)=false/\∃ vs,KV kvs vs/\s.heap.DictOf (aO X.prog X.w) p vs:=I.hok p _ hx
   have hlen:kvs.length=vs.length:=Paired.length r
   exact wpAny_truthy_dict hS m (by omega) ⟨H,I.tok _,by rw [oI r]; exact q⟩
 | _=>exact (show False from e).elim
theorem rD (ha:PE X a ta) (he:∀ whole,isTrue a X.env whole=(do let v <- whole; standAt a.pos; holding [v] (truthy v))) :
  PT X a (fun σ H Q=>ta σ H fun x H'=>∃ k,TruV X.K x H' k/\Q k H'):=by
 intro pins s σ H Q I h
 exact isTrue_plain (thn (ha pins s σ H _ I h) fun v s1 ⟨x,H1,I1,r1,q1⟩=>uZ pins s1 σ H1 x v Q I1 r1 q1) (he _)
theorem oE:OpR X (binaryOp .Add) (fun x y H Q=>∃ i j,x=.str i/\y=.str j/\i.length+j.length<=sizeLine/\Q (.str (i++j)) H):=by
 intro pins s σ H x y v u Q I rx ry h
 obtain ⟨i,j,rfl,rfl,hz,q⟩:=h
 obtain ⟨t,rfl⟩:=rx
 obtain ⟨t',rfl⟩:=ry
 exact add_str (fun t' tk=>⟨.str (i++j),H,I.tok _,⟨_,rfl⟩,q⟩) hz
theorem vals1 {x:V} {us:List Value} (r:Vals [x] us):∃ u,us=[u]/\RelV x u:=by
 cases r with
 | cons r1 r2=>cases r2; exact ⟨_,rfl,r1⟩
theorem vals2 {x y:V} {us:List Value} (r:Vals [x,y] us):∃ u w',us=[u,w']/\RelV x u/\RelV y w':=by
 cases r with
 | cons r1 r2 =>
  cases r2 with
  | cons r3 r4=>cases r4; exact ⟨_,_,rfl,r1,r3⟩
theorem mR:CallR X (.builtin "abs") (fun xs H Q=>∃ i,xs=[.int i]/\Q (.int (if i<0 then -i else i)) H):=by
 intro pins s σ H xs us Q I r h
 obtain ⟨i,rfl,q⟩:=h
 obtain ⟨u,rfl,t,rfl⟩:=vals1 r
 exact call_abs_int fun u tk=>⟨.int (if i<0 then -i else i),H,I.tok _,⟨_,rfl⟩,q⟩
theorem qU (hc:X.calm=true):CallR X (.builtin "max") (fun xs H Q=>∃ i j,xs=[.int i,.int j]/\Q (.int (if j > i then j else i)) H):=by
 intro pins s σ H xs us Q I r h
 obtain ⟨i,j,rfl,q⟩:=h
 obtain ⟨u,w',rfl,⟨t,rfl⟩,⟨t',rfl⟩⟩:=vals2 r
 refine max_two_ints (I.ok.hd hc) fun h' tk k=>⟨_,H,I.kept k,?_,q⟩
 by_cases hj:j > i
 ·rw [if_pos hj,if_pos hj]; exact ⟨_,rfl⟩
 ·rw [if_neg hj,if_neg hj]; exact ⟨_,rfl⟩
theorem qT (hc:X.calm=true):CallR X (.builtin "min") (fun xs H Q=>∃ i j,xs=[.int i,.int j]/\Q (.int (if j<i then j else i)) H):=by
 intro pins s σ H xs us Q I r h
 obtain ⟨i,j,rfl,q⟩:=h
 obtain ⟨u,w',rfl,⟨t,rfl⟩,⟨t',rfl⟩⟩:=vals2 r
 refine min_two_ints (I.ok.hd hc) fun h' tk k=>⟨_,H,I.kept k,?_,q⟩
 by_cases hj:j<i
 ·rw [if_pos hj,if_pos hj]; exact ⟨_,rfl⟩
 ·rw [if_neg hj,if_neg hj]; exact ⟨_,rfl⟩
end
end L2
namespace L2
open PySem PySem.Spec PyProof.Rows
structure ObjM (h:Heap) (x dx C:Addr) (mA:Str->Option Value):Prop where
 obj:h.get? x=some (PySem.W.instObj C dx)
 ns:h.Ns1 dx mA
 ne:dx≠x
theorem qm {h:Heap} {dx:Addr} {mA:Str->Option Value} (n:h.Ns1 dx mA):∃ od,h.get? dx=some od/\∀ name,PySem.W.lookIn name od=some (mA name):=by
 obtain ⟨o,es,ep,ho,hd,hk,_,hm⟩:=n
 refine ⟨o,ho,fun name=>?_⟩
 have e:=hm name
 unfold nsFind findBy at e
 rw [<- Array.find?_toList] at e
 unfold PySem.W.lookIn
 rw [hd]
 dsimp only
 split
 ·rename_i y q
  rw [q] at e
  exact congrArg some e
 ·rename_i q
  rw [q] at e
  have a:es.toList.any (·.refKey)=false:=by
   rw [List.any_eq_false]
   intro y hy
   obtain ⟨z,t,hkey⟩:=hk y (Array.mem_toList_iff.mp hy)
   simp [DictEntry.refKey,hkey]
  have a':¬ es.toList.any (·.refKey)=true:=by rw [a]; exact Bool.false_ne_true
  rw [if_neg a']
  exact congrArg some e
theorem ObjM.look {h:Heap} {x dx C:Addr} {mA:Str->Option Value} (I:ObjM h x dx C mA):∃ od,PySem.W.InstAt h x (PySem.W.instObj C dx) C (some od)/\∀ name,PySem.W.lookIn name od=some (mA name) :=
 let ⟨od,ho,hl⟩:=qm I.ns
 ⟨od,⟨I.obj,rfl,rfl,ho⟩,hl⟩
section
variable {prog:Program} {w:World} {A:Around} {E:Value->Shared->Prop} {s:Shared} {K:PySem.W.Frag} {x dx C f:Addr} {mA:Str->Option Value} {name:Str} {v:Value}
end
theorem RelO.some_of {v:V} {o:Option Value} (r:RelO (some v) o):∃ u,o=some u/\RelV v u:=by
 cases o with
 | none=>exact (show False from r).elim
 | some u=>exact ⟨u,rfl,r⟩
section
variable {P:Program} {w:World} {H H':Hp} {h h':Heap} {a C dx:Addr} {fs fs':List (Str×V)}
theorem ur (hok:HOk P w H h) (e:H a=some (.ins C dx fs)):∃ mA,ObjM h a dx C mA/\(∀ f,RelO (fs.lookup f) (mA f))/\PySem.Within mA (fs.map (·.1))/\fs.length<=1000/\H dx=some (.own a):=by
 obtain ⟨d,z,ne,ob,mA,n,r,q⟩:=(show ObjOk P w H h a (.ins C dx fs) from hok a _ e)
 exact ⟨mA,⟨ob,n,ne⟩,r,q,z,d⟩
end
structure Cls (K:PySem.W.Frag) (C:Addr):Prop where
 pg:PySem.W.plainGet K C Str.empty=true
 hd:PySem.W.hasDictIn K C=true
 po:PySem.W.plainOver K C=true
 sa:PySem.W.findIn K (.ref C) "__setattr__" = some (some (.builtin "object.__setattr__"))
theorem Cls.get {K:PySem.W.Frag} {C:Addr} (c:Cls K C) (f:Str):PySem.W.plainGet K C f=true:=c.pg
section
variable {X:Cx} {pins:List (Addr×Obj)} {σ:St} {H:Hp} {s:Shared} {a C dx:Addr} {fs:List (Str×V)} {f:Str} {v:V} {A:Around} {E:Value->Shared->Prop}
end
section
variable {X:Cx} {o e value:Expr} {f:Str} {pos pos' tpos:Pos} {ta tv:TE}
end
section
variable {X:Cx} {pins:List (Addr×Obj)} {σ:St} {H:Hp} {s:Shared} {A:Around} {E:Value->Shared->Prop} {Q:Value->Shared->Prop} {c:Value} {b:Bool}
inductive TyOf (K:PySem.W.Frag) (H:Hp):V->Value->Prop where
 | non:TyOf K H .non (.type "NoneType")
 | bl (x:Bool):TyOf K H (.bl x) (.type "bool")
 | int (i:Int):TyOf K H (.int i) (.type "int")
 | str (x:Str):TyOf K H (.str x) (.type "str")
 | flt (x:UInt64):TyOf K H (.flt x) (.type "float")
 | lst {a:Addr} {xs:List V} (e:H a=some (.lst xs)):TyOf K H (.ref a) (.type "list")
 | frz {a:Addr} {o:Obj} {xs:List V} (e:H a=some (.frz o (.lst xs))):TyOf K H (.ref a) (.type "list")
 | tup {a:Addr} {xs:List V} (e:H a=some (.tup xs)):TyOf K H (.ref a) (.type "tuple")
 | dK {a:Addr} {kvs:List (Key×V)} (e:H a=some (.dK kvs)):TyOf K H (.ref a) (.type "dict")
 | dT {a:Addr} {kvs:List (List Key×V)} (e:H a=some (.dT kvs)):TyOf K H (.ref a) (.type "dict")
 | ins {a C dx:Addr} {fs:List (Str×V)} (e:H a=some (.ins C dx fs)) (cl:Cls K C) (ha:PySem.W.findIn K (.ref C) "__class__" = some (some (.builtin "object.__class__")))
   (hn:PySem.W.specialIn K (.builtin "object.__class__") "__get__" = some (some (.builtin "getset_descriptor.__get__"))) (htk:PySem.W.takesIn K (.builtin "object.__class__")=some true)
   (hm:PySem.W.mroIn K C (.type "object")=some true):TyOf K H (.ref a) (.ref C)
theorem qt {x:V} {u t:Value} (I:Inv X pins σ H s) (rx:RelV x u) (ty:TyOf X.K H x t) (e:PySem.W.kitOne X.K t c=some b) (h:∀ tk,Q (.bool b) { s with toks:=tk }) :
  wpAny (model X.prog X.w) A (call (.builtin "isinstance") [u,c]) Q E s:=by
 cases ty with
 | non=>cases (show u=Value.none from rx); exact PySem.W.kia_one PySem.W.kitx_none I.kIn True.intro e (fun z=>nomatch z) h
 | bl y=>cases (show u=Value.bool y from rx); exact PySem.W.kia_one PySem.W.kitx_bool I.kIn True.intro e (fun z=>nomatch z) h
 | int i=>obtain ⟨t,q⟩:=(show ∃ t,u=Value.int i t from rx); cases q; exact PySem.W.kia_one PySem.W.kitx_int I.kIn True.intro e (fun z=>nomatch z) h
 | str y=>obtain ⟨t,q⟩:=(show ∃ t,u=Value.str y t from rx); cases q; exact PySem.W.kia_one PySem.W.kitx_str I.kIn True.intro e (fun z=>nomatch z) h
 | flt y=>obtain ⟨t,q⟩:=(show ∃ t,u=Value.float y t from rx); cases q; exact PySem.W.kia_one PySem.W.kitx_float I.kIn True.intro e (fun z=>nomatch z) h
 | @lst a xs ea =>
  cases (show u=Value.ref a from rx)
  obtain ⟨_,_,n,_,h1⟩:=(show ObjOk X.prog X.w H s.heap a (.lst xs) from I.hok a _ ea)
  exact PySem.W.kia_one PySem.W.kitx_list I.kIn ⟨_,h1,rfl⟩ e (fun z=>nomatch z) h
 | @frz a ob xs ea =>
  cases (show u=Value.ref a from rx)
  obtain ⟨_,_,_,n,_,h1⟩:=(show ObjOk X.prog X.w H s.heap a (.frz ob (.lst xs)) from I.hok a _ ea)
  exact PySem.W.kia_one PySem.W.kitx_list I.kIn ⟨_,h1,rfl⟩ e (fun z=>nomatch z) h
 | @tup a xs ea =>
  cases (show u=Value.ref a from rx)
  obtain ⟨_,_,_,p⟩:=(show ObjOk X.prog X.w H s.heap a (.tup xs) from I.hok a _ ea)
  obtain ⟨o,h1,h2,_⟩:=p
  exact PySem.W.kia_one PySem.W.kitx_tuple I.kIn ⟨o,h1,h2⟩ e (fun z=>nomatch z) h
 | @dK a kvs ea =>
  cases (show u=Value.ref a from rx)
  obtain ⟨_,_,vs,_,p⟩:=(show ObjOk X.prog X.w H s.heap a (.dK kvs) from I.hok a _ ea)
  obtain ⟨o,es,ep,h1,h2,_⟩:=p
  exact PySem.W.kia_one PySem.W.kitx_dict I.kIn ⟨o,h1,h2.1⟩ e (fun z=>nomatch z) h
 | @dT a kvs ea =>
  cases (show u=Value.ref a from rx)
  obtain ⟨_,_,xs,_,o,es,ep,h1,h2,_⟩:=(show ObjOk X.prog X.w H s.heap a (.dT kvs) from I.hok a _ ea)
  exact PySem.W.kia_one PySem.W.kitx_dict I.kIn ⟨o,h1,h2.1⟩ e (fun z=>nomatch z) h
 | @ins a C dx fs ea cl ha hn htk hm =>
  cases (show u=Value.ref a from rx)
  obtain ⟨mA,O,_⟩:=ur I.hok ea
  obtain ⟨od,J,_⟩:=O.look
  exact PySem.W.kia_one (PySem.W.kitx_own (cl.get _) cl.hd ha hn htk hm) I.kIn J e (fun z=>nomatch z) h
end
end L2
namespace L2
open PySem PySem.Spec PyProof.Rows
structure Room (k:Nat) (A:Around):Prop where
 hd:A.handled=none
 dp:A.depth+3*k+5<recursionLimit
 un:A.units+16*k+200<cLine
 gd:A.guards=some []
theorem Room.mono {j k:Nat} {A:Around} (r:Room k A) (h:j<=k):Room j A:=⟨r.hd,by have:=r.dp; omega,by have:=r.un; omega,r.gd⟩
theorem Room.deeper {k:Nat} {A:Around} (r:Room (k+1) A) (env:Env):Room k (A.deeper env) :=
 ⟨r.hd,by have:=r.dp; show A.depth+1+3*k+5<_; omega,by have:=r.un; show A.units+3+16*k+200<_; omega,r.gd⟩
theorem Room.depth {k:Nat} {A:Around} (r:Room k A):A.depth<recursionLimit:=by have:=r.dp; omega
theorem Room.units0 {k:Nat} {A:Around} (r:Room k A):A.units<cLine:=by have:=r.un; omega
noncomputable def tNil:TA:=fun _ H Q=>Q [] H
noncomputable def tCons (ta:TE) (tr:TA):TA:=fun σ H Q=>ta σ H fun x H1=>tr σ H1 fun xs H2=>Q (x::xs) H2
section
variable {X:Cx} {e:Expr} {es:List Expr} {te:TE} {t:TA} {pos:Pos}
theorem bI:PA X [] tNil:=fun _ _ _ _ H Q I h=>Calls.spliced_nil ⟨[],H,I,.nil,h⟩
theorem bn (ha:PE X e te) (hr:PA X es t) (hs:autoParam (starEach (e::es) X.env=(false,eval e X.env)::starEach es X.env) Z2._auto_1):PA X (e::es) (tCons te t):=by
 intro pos pins s σ H Q I h
 rw [hs]
 show wpAny _ _ (spliced ((false,eval e X.env)::backTo pos (starEach es X.env))) _ _ s
 refine Calls.spliced_cons (thn (ha pins s σ H _ I h) fun u s1 ⟨x,H1,I1,r1,q1⟩=>?_)
 exact thn (hr pos pins s1 σ H1 _ I1 q1) fun us s2 ⟨xs,H2,I2,r2,q2⟩=>⟨x::xs,H2,I2,.cons r1 r2,q2⟩
noncomputable def tTup (t:TA):TE:=fun σ H Q=>t σ H fun xs H1=>xs.length<=sizeLine/\∀ p,H1 p=none->Q (.ref p) (upd H1 p (.tup xs))
noncomputable def tLst (t:TA):TE:=fun σ H Q=>t σ H fun xs H1=>xs.length<=sizeLine/\∀ p,H1 p=none->Q (.ref p) (upd H1 p (.lst xs))
theorem vn {x1} (h:PA X es t):PE X (.Tuple es x1 pos) (tTup t):=by
 intro pins s σ H Q I hq
 refine wpAny_Tuple_spliced (thn (h pos pins s σ H _ I hq) fun us s1 ⟨xs,H1,I1,r,z,q⟩=>⟨by rw [<- r.length]; exact z,?_⟩)
 have hf:H1 s1.heap.objs.size=none:=I1.hok.fresh (Nat.le_refl _)
 refine ⟨.ref s1.heap.objs.size,upd H1 s1.heap.objs.size (.tup xs),I1.laid (t':=s1.toks) (fun b u e=>Heap.get?_push_of_some _ e) (Nat.le_refl _) ?_,rfl,q _ hf⟩
 exact ⟨z,us,r,⟨_,Heap.get?_push_size _ rfl,rfl,_,rfl⟩⟩
theorem ja (h:PA X es t):PE X (.List es pos) (tLst t):=by
 intro pins s σ H Q I hq
 refine wpAny_List_spliced (thn (h pos pins s σ H _ I hq) fun us s1 ⟨xs,H1,I1,r,z,q⟩=>⟨by rw [<- r.length]; exact z,?_⟩)
 have hf:H1 s1.heap.objs.size=none:=I1.hok.fresh (Nat.le_refl _)
 refine ⟨.ref s1.heap.objs.size,upd H1 s1.heap.objs.size (.lst xs),I1.laid (t':=s1.toks) (fun b u e=>Heap.get?_push_of_some _ e) (Nat.le_refl _) ?_,rfl,q _ hf⟩
 exact ⟨z,us,0,r,Heap.get?_push_size _ rfl⟩
end
noncomputable abbrev Sp:=List V->Hp->VK->XK->Prop
noncomputable abbrev CXT:=List Env->Hp->Shared->XK->Value->Shared->Prop
structure Env0 (P:Program) (w:World) (K:PySem.W.Frag) (mg:Str->Option Value) (base:Heap) (A:Around) (outer:List Env) (s:Shared) (H:Hp):Prop where
 frames:A.frames=some outer
 mod:Mod K mg base
 bs:∀ b o,base.get? b=some o->s.heap.get? b=some o/\H b=none
 bsz:base.objs.size<=s.heap.objs.size
 funs:s.heap.FunFrames base outer
 frf:∀ b∈frs outer,H b=none
 hok:HOk P w H s.heap
 bare:AllBare s.gens
noncomputable def CE (outer:List Env) (P:Program) (w:World) (H:Hp) (s:Shared) (Q:VK) (u:Value) (s':Shared):Prop :=
 ∃ v H',s'.os=s.os/\AllBare s'.gens/\Un (frs outer) [] H H' s.heap s'.heap/\HOk P w H' s'.heap/\RelV v u/\Q v H'
noncomputable def CR (CX:CXT) (outer:List Env) (P:Program) (w:World) (H:Hp) (s:Shared) (Q:VK) (E:XK) (r:Result) (s':Shared):Prop :=
 match r with
 | .ok (.ret u)=>CE outer P w H s Q u s'
 | .ok _=>False
 | .error e=>CX outer H s E e s'
structure FnOk (P:Program) (w:World) (K:PySem.W.Frag) (mg:Str->Option Value) (base:Heap) (CX:CXT) (k:Nat) (f:Addr) (fd:FuncData) (ps:List Str) (sp:Sp):Prop where
 len:∀ vs H Q E,sp vs H Q E->vs.length=ps.length
 run:∀ (A:Around) (outer:List Env) (s:Shared) (H:Hp) (args:Args) (us:List Value) (vs:List V) (Q:VK) (E:XK),Room k A->Env0 P w K mg base A outer s H->BindsTo s fd args (ps.zip us)->Vals vs us->sp vs H Q E ->
  codeAny (model P w) A (.call (.ref f) args) (CR CX outer P w H s Q E) s
theorem FnOk.mono {P:Program} {w:World} {K:PySem.W.Frag} {mg:Str->Option Value} {base:Heap} {CX:CXT} {j k:Nat} {f:Addr} {fd:FuncData} {ps:List Str} {sp:Sp} (F:FnOk P w K mg base CX j f fd ps sp) (h:j<=k) :
  FnOk P w K mg base CX k f fd ps sp:=⟨F.len,fun A outer s H args us vs Q E hr=>F.run A outer s H args us vs Q E (hr.mono h)⟩
theorem FnOk.imp {P:Program} {w:World} {K:PySem.W.Frag} {mg:Str->Option Value} {base:Heap} {CX:CXT} {k:Nat} {f:Addr} {fd:FuncData} {ps:List Str} {sp sp':Sp} (F:FnOk P w K mg base CX k f fd ps sp)
  (h:∀ vs H Q E,sp' vs H Q E->sp vs H Q E):FnOk P w K mg base CX k f fd ps sp' :=
 ⟨fun vs H Q E q=>F.len vs H Q E (h _ _ _ _ q),fun A outer s H args us vs Q E hr he hb hv hs=>F.run A outer s H args us vs Q E hr he hb hv (h _ _ _ _ hs)⟩
section
variable {X:Cx} {pins:List (Addr×Obj)} {σ:St} {H:Hp} {s s':Shared}
theorem Inv.env0 (I:Inv X pins σ H s):Env0 X.prog X.w X.K X.mg X.base X.A X.stack s H :=
 ⟨I.ok.frames,I.ok.mod,I.bs,Nat.le_trans I.ok.bsz I.sz,I.stack,I.stkFree,I.hok,I.bare⟩
theorem Inv.after {Q:VK} {u:Value} (I:Inv X pins σ H s) (h:CE X.stack X.prog X.w H s Q u s'):EP X pins σ Q u s':=by
 obtain ⟨v,H',os,bare,un,hok,r,q⟩:=h
 obtain ⟨hh,g,d,t,os'⟩:=s'
 obtain rfl:os'=s.os:=os
 exact ⟨v,H',I.call (h':=hh) (g':=g) (d':=d) (t':=t) (ch:=[]) un hok bare (fun b z=>absurd z (by simp)),r,q⟩
end
noncomputable def tCall (sp:Sp) (dvs:List V) (E:XK) (t:TA):TE:=fun σ H Q=>t σ H fun vs H1=>sp (vs++dvs) H1 Q E
noncomputable def Binds (K:PySem.W.Frag) (fd:FuncData) (ps:List Str) (ds:List Value):Prop :=
 ∀ (s:Shared) (us:List Value),K.In s.heap->(us++ds).length=ps.length->BindsTo s fd ⟨us,[]⟩ (ps.zip (us++ds))
theorem Binds.all {K:PySem.W.Frag} {fd:FuncData} {ps:List Str} (h:∀ us:List Value,us.length=ps.length->bindArgs fd ⟨us,[]⟩=pure (ps.zip us)):Binds K fd ps []:=fun s us _ hl=>by
 rw [List.append_nil] at hl ⊢
 exact .of_eq (h us hl)
noncomputable def Passes (CX:CXT) (X:Cx) (E:XK):Prop:=∀ (pins:List (Addr×Obj)) (σ:St) (H:Hp) (s:Shared) (e:Value) (s':Shared),Inv X pins σ H s->CX X.stack H s E e s'->X.xe e s'
section
variable {X:Cx} {CX:CXT} {k:Nat} {f C:Addr} {fd:FuncData} {ps:List Str} {sp:Sp} {dvs:List V} {ds:List Value} {E:XK} {x m:Str} {p pos apos:Pos} {e o:Expr} {es:List Expr} {ta:TE} {t:TA}
theorem pE {pins:List (Addr×Obj)} {σ:St} {H:Hp} {s:Shared} {Q:VK} {us:List Value} {vs:List V} (F:FnOk X.prog X.w X.K X.mg X.base CX k f fd ps sp) (hr:Room k X.A) (hb:Binds X.K fd ps ds) (hd:Vals dvs ds) (hx:Passes CX X E)
  (I:Inv X pins σ H s) (r:Vals vs us) (h:sp (vs++dvs) H Q E):wpAny (model X.prog X.w) X.A (call (.ref f) us) (EP X pins σ Q) X.xe s:=by
 have r2:Vals (vs++dvs) (us++ds):=r.append hd
 have hl:(us++ds).length=ps.length:=by rw [<- r2.length]; exact F.len _ _ _ _ h
 refine wpAny_call (codeAny_mono (F.run X.A X.stack s H ⟨us,[]⟩ (us++ds) (vs++dvs) Q E hr I.env0 (hb s us I.kIn hl) r2 h) fun r s' hq=>?_)
 cases r with
 | error e=>exact hx pins σ H s e s' I hq
 | ok fl =>
  cases fl with
  | ret u=>exact I.after hq
  | next=>exact False.elim hq
  | brk=>exact False.elim hq
  | cont=>exact False.elim hq
theorem jN (F:FnOk X.prog X.w X.K X.mg X.base CX k f fd ps sp) (hr:Room k X.A) (hg:Gl X x) (hm:X.mg x=some (.ref f)) (hk:PySem.W.keepIn X.K (.ref f)=true) (hb:Binds X.K fd ps ds) (hd:Vals dvs ds) (hx:Passes CX X E)
  (ha:PA X (e::es) t) (hdb:autoParam ((x==("__debug__" : Str))=false) Z1._auto_1) (he:autoParam (starEach (e::es) X.env=(false,eval e X.env)::starEach es X.env) Z2._auto_1) (hpl:autoParam ((backTo pos (starEach es X.env)).any (·.1)=false) Z2._auto_1) :
  PE X (.Call (.Name x p) (e::es) [] pos) (tCall sp dvs E t):=by
 intro pins s σ H Q I h
 refine wpAny_Call_Name_kw (j4 I hg hm ?_ hdb)
 refine PySem.W.callWith_K (h₀:=X.base) I.ok.mod.kin hk (thn (ha pos pins s σ H _ I h) fun us s1 ⟨vs,H1,I1,r,q⟩=>⟨I1.kIn,?_⟩) he hpl
 exact pE F hr hb hd hx I1 r q
end
section
variable {X:Cx} {CX:CXT} {k:Nat} {f C:Addr} {fd:FuncData} {ps ks:List Str} {sp:Sp} {E:XK} {x m:Str} {p pos apos kpos:Pos} {e o:Expr} {es:List Expr} {kws:List Keyword} {te ta:TE} {t tk:TA} {nm:Option Str}
variable {g:List Value->List Value->List Value} {gV:List V->List V->List V}
end
structure aD (N P:List Str) (sc:Scope):Prop where
 kind:sc.kind=.function
 co:sc.isCoroutine=false
 gen:sc.isGenerator=false
 nd:N.Nodup
 pre:N.take P.length=P
 par:∀ x∈P,sc.names.lookup x=some .local\/sc.names.lookup x=some .cell
 nofree:∀ y∈sc.names,y.2≠.free
theorem kU {kindOf:Str->Option NameKind} {x:Str}:∀ {binds:List (Str×Value)} {m:Str->Option Value},(∀ v,(x,v)∉binds)->bindL kindOf binds m x=m x
 | [],_,_=>rfl
 | (n,v)::r,m,h=>by
  unfold bindL
  rw [kU fun w hw=>h w (List.mem_cons_of_mem _ hw)]
  split
  ·have:x≠n:=by rintro rfl; exact h v List.mem_cons_self
   simp [this]
  ·rfl
theorem kX {kindOf:Str->Option NameKind} {x:Str}:∀ {binds:List (Str×Value)} {m:Str->Option Value},(∀ v,(x,v)∉binds)->bindC kindOf binds m x=m x
 | [],_,_=>rfl
 | (n,v)::r,m,h=>by
  unfold bindC
  rw [kX fun w hw=>h w (List.mem_cons_of_mem _ hw)]
  split
  ·rfl
  ·have:x≠n:=by rintro rfl; exact h v List.mem_cons_self
   simp [this]
theorem kW {kindOf:Str->Option NameKind} {x:Str} {v:Value}:∀ {P:List Str} {vs:List Value} {i:Nat} {m:Str->Option Value},P.Nodup->P[i]?=some x->vs[i]?=some v->kindOf x=some .local ->
  bindL kindOf (P.zip vs) m x=some v
 | [],_,_,_,_,h,_,_=>by simp at h
 | _::_,[],_,_,_,_,h,_=>by simp at h
 | p::P,w::vs,0,m,nd,h1,h2,hk=>by
  simp at h1 h2; subst h1; subst h2
  show bindL kindOf ((p,w)::P.zip vs) m p=_
  unfold bindL
  rw [kU fun v hv=>(List.nodup_cons.mp nd).1 (List.of_mem_zip hv).1,if_pos hk]
  simp
 | p::P,w::vs,i+1,m,nd,h1,h2,hk=>by
  show bindL kindOf ((p,w)::P.zip vs) m x=_
  unfold bindL
  exact kW (i:=i) (List.nodup_cons.mp nd).2 (by simpa using h1) (by simpa using h2) hk
theorem kY {kindOf:Str->Option NameKind} {x:Str} {v:Value}:∀ {P:List Str} {vs:List Value} {i:Nat} {m:Str->Option Value},P.Nodup->P[i]?=some x->vs[i]?=some v->kindOf x≠some .local ->
  bindC kindOf (P.zip vs) m x=some v
 | [],_,_,_,_,h,_,_=>by simp at h
 | _::_,[],_,_,_,_,h,_=>by simp at h
 | p::P,w::vs,0,m,nd,h1,h2,hk=>by
  simp at h1 h2; subst h1; subst h2
  show bindC kindOf ((p,w)::P.zip vs) m p=_
  unfold bindC
  rw [kX fun v hv=>(List.nodup_cons.mp nd).1 (List.of_mem_zip hv).1,if_neg hk]
  simp
 | p::P,w::vs,i+1,m,nd,h1,h2,hk=>by
  show bindC kindOf ((p,w)::P.zip vs) m x=_
  unfold bindC
  exact kY (i:=i) (List.nodup_cons.mp nd).2 (by simpa using h1) (by simpa using h2) hk
noncomputable def start (N:List Str) (vs:List V):St:=vs.map some++List.replicate (N.length - vs.length) none
noncomputable def cxOf (CX:CXT) (P:Program) (w:World) (K:PySem.W.Frag) (mg:Str->Option Value) (base:Heap) (N:List Str) (qual:Str) (scope:Scope) (f:Addr) (cd:Value) (A:Around) (outer:List Env) (s:Shared) (H:Hp) (E:XK):Cx where
 prog:=P
 w:=w
 K:=K
 mg:=mg
 base:=base
 A:=A.deeper (envOfC qual scope s.heap.objs.size f cd)
 N:=N
 s₀:=s
 H₀:=H
 env:=envOfC qual scope s.heap.objs.size f cd
 outer:=outer
 stack:=envOfC qual scope s.heap.objs.size f cd::outer
 ex:=[]
 calm:=true
 fn:=fun _=>true
 pn:=[]
 xe:=fun e s'=>wpAny (model P w) (A.deeper (envOfC qual scope s.heap.objs.size f cd)) (leaving (envOfC qual scope s.heap.objs.size f cd) e) (fun _ s''=>CX outer H s E e s'') (fun e' s''=>CX outer H s E e' s'') s'
theorem mM {sc:Scope} {n:Nat} {x:Str} (h:sc.names.lookup x=some .cell):∃ c,(cellsFrom n sc.names []).lookup x=some c:=by
 have q:=PySem.W.cellsFrom_some sc.names n [] (.inl h)
 exact Option.isSome_iff_exists.mp q
theorem qv {CX:CXT} {P:Program} {w:World} {K:PySem.W.Frag} {mg:Str->Option Value} {base:Heap} {N ps:List Str} {qual:Str} {scope:Scope} {f:Addr} {cd:Value} {A:Around} {outer:List Env} {s s1:Shared} {H:Hp} {E:XK} {us:List Value} {vs:List V}
  (S:aD N ps scope) (hd:A.handled=none) (e0:Env0 P w K mg base A outer s H) (hl:vs.length=ps.length) (r:Vals vs us)
  (x:InCallC s s.heap.objs.size (bindL (envOfC qual scope s.heap.objs.size f cd).kindOf (ps.zip us) fun _=>none) (cellsFrom (s.heap.objs.size+1) scope.names []) (bindC (envOfC qual scope s.heap.objs.size f cd).kindOf (ps.zip us) fun _=>none) s1) :
  Inv (cxOf CX P w K mg base N qual scope f cd A outer s H E) [] (start N vs) H s1:=by
 have hpl:ps.length<=N.length:=by have:=congrArg List.length S.pre; rw [List.length_take] at this; omega
 obtain ⟨h1,tk,rfl,hk⟩:=x.done
 have noA:∀ b:Addr,b∉(cxOf CX P w K mg base N qual scope f cd A outer s H E).ex:=fun b z=>absurd (show b∈([]:List Addr) from z) (by simp)
 refine ⟨⟨e0.mod,S.kind,rfl,rfl,Nat.le_refl _,fun y z c h1 h2=>?_,fun y hy=>?_,fun y c _ h=>?_,fun _=>hd,Around.frames_deeper e0.frames,.inr ⟨rfl,rfl⟩,fun b z=>absurd z (noA b),e0.bs,e0.bsz,fun b _ _=>noA b,fun b z=>absurd z (noA b),e0.funs,e0.frf⟩,
  rfl,e0.bare,Un.kept hk,⟨_,x.toInCall.ns,fun i y v h1 h2 h3=>?_⟩,fun y c h=>⟨_,x.cell y c h⟩,e0.hok.fresh (Nat.le_refl _),fun y c h=>?_,fun p hp=>absurd (show p∈([]:List (Addr×Obj)) from hp) (by simp),e0.hok.kept hk,?_⟩
 ·exact name_of_addr x.apart (PySem.mem_of_lookup h1) (PySem.mem_of_lookup h2)
 ·have hy:scope.names.lookup y=some .cell\/scope.names.lookup y=some .free:=hy
  rcases hy with hy | hy
  ·exact mM hy
  ·exact absurd rfl (S.nofree _ (PySem.mem_of_lookup hy))
 ·exact Nat.le_of_lt (x.above y c (PySem.mem_of_lookup h))
 ·have hi:i<vs.length:=by
   unfold start at h2
   by_cases hi:i<vs.length
   ·exact hi
   ·rw [List.getElem?_append_right (by simpa using hi)] at h2
    rw [List.getElem?_replicate] at h2
    split at h2 <;> cases h2
  have ha:vs[i]?=some v:=by
   unfold start at h2
   rw [List.getElem?_append_left (by simpa using hi),List.getElem?_map] at h2
   cases e:vs[i]? with
   | none=>rw [e] at h2; cases h2
   | some a=>rw [e] at h2; cases h2; rfl
  obtain ⟨u,hu,rv⟩:=r.get ha
  have hp:ps[i]?=some y:=by
   rw [<- S.pre,List.getElem?_take_of_lt (by omega)]; exact h1
  have ndP:ps.Nodup:=by rw [<- S.pre]; exact S.nd.sublist (List.take_sublist _ _)
  refine ⟨u,rv,?_⟩
  rcases S.par y (List.mem_of_getElem? hp) with k | k
  ·exact .inl ⟨k,kW ndP hp hu k⟩
  ·obtain ⟨c,e⟩:=mM (n:=s.heap.objs.size+1) k
   refine .inr ⟨.inl k,c,e,?_⟩
   have q:=x.cell y c e
   rw [kY ndP hp hu (by show scope.names.lookup y≠_; rw [k]; decide)] at q
   exact q
 ·exact e0.hok.fresh (Nat.le_of_lt (x.above y c (PySem.mem_of_lookup h)))
 ·unfold start
  show _=N.length
  rw [List.length_append,List.length_map,List.length_replicate]
  omega
theorem wN {CX:CXT} {P:Program} {w:World} {K:PySem.W.Frag} {mg:Str->Option Value} {base:Heap} {k:Nat} {f:Addr} {name qual:Str} {params:Arguments} {body:List Stmt} {scope:Scope} {dV kV doc pm cdv ct oc:Value} {an od:Option Addr}
  {osl:Array (Option Value)} {N ps:List Str} {sp:Sp} (lk:K.lookup f=some ⟨oc,od,.func (PySem.W.fnOf name qual params body scope dV kV doc pm an cdv ct),osl⟩) (hcd:PySem.W.codeIn K cdv qual=true) (S:aD N ps scope)
  (len:∀ vs H Q E,sp vs H Q E->vs.length=ps.length)
  (hbody:∀ (A:Around) (outer:List Env) (s:Shared) (H:Hp) (vs:List V) (Q:VK) (E:XK),Room k (A.deeper (envOfC qual scope s.heap.objs.size f cdv))->sp vs H Q E ->
   ∃ t,PSs (cxOf CX P w K mg base N qual scope f cdv A outer s H E) body t/\t { nx:=fun _ H'=>Q .non H',rt:=Q } (start N vs) H) :
  FnOk P w K mg base CX (k+1) f (PySem.W.fnOf name qual params body scope dV kV doc pm an cdv ct) ps sp:=by
 refine ⟨len,fun A outer s H args us vs Q E hr e0 hb r hsp=>?_⟩
 have hl:=len _ _ _ _ hsp
 have KX:K.In s.heap:=e0.mod.kin.keeps fun b o e=>(e0.bs b o e).1
 have lim:s.heap.NoLimit:=e0.mod.nolimit.keeps fun b o e=>(e0.bs b o e).1
 have hkind:∀ y∈ps.zip us,scope.names.lookup y.1=some .local\/(scope.names.lookup y.1=some .cell/\((cellsFrom (s.heap.objs.size+1) scope.names []).lookup y.1).isSome=true):=fun ⟨n,v⟩ hy=>by
  rcases S.par n (List.of_mem_zip hy).1 with q | q
  ·exact .inl q
  ·exact .inr ⟨q,PySem.W.cellsFrom_some _ _ _ (.inl q)⟩
 refine codeAny_call_function hr.depth (KX _ _ lk) rfl S.co S.gen rfl (PySem.W.codeRec_of KX hcd) (hb _ _ _ _ ?_)
 refine wpAny_newFunctionEnv_cells S.kind hkind fun env he s1 x=>?_
 subst he
 refine ⟨lim.keeps x.toInCall.keep,codeAny_func ?_⟩
 obtain ⟨t,ht,hq⟩:=hbody A outer s H vs Q E (hr.deeper _) hsp
 have I:Inv (cxOf CX P w K mg base N qual scope f cdv A outer s H E) [] (start N vs) H s1:=qv S hr.hd e0 hl r x
 refine wpAny_mono (ht [] s1 (start N vs) H _ I hq) (fun fl s' hs=>?_) fun e s' hs=>hs
 have fin:∀ {σ':St} {H':Hp} {v:V} {u:Value},Inv (cxOf CX P w K mg base N qual scope f cdv A outer s H E) [] σ' H' s'->RelV v u->Q v H'->CE outer P w H s Q u s' :=
  fun {σ' H' v u} J rv q=>⟨v,H',J.os,J.bare,J.base,J.hok,rv,q⟩
 cases fl with
 | ret u =>
  obtain ⟨v,σ',H',J,rv,q⟩:=hs
  exact fin J rv q
 | next =>
  obtain ⟨σ',H',J,q⟩:=hs
  exact fin (v:=V.non) (u:=Value.none) J rfl q
 | brk =>
  obtain ⟨_,_,_,q⟩:=hs
  exact False.elim q
 | cont =>
  obtain ⟨_,_,_,q⟩:=hs
  exact False.elim q
end L2
namespace L2
open PySem PySem.Spec PyProof.Rows
section
variable {X:Cx} {x:Str} {p pos:Pos} {e:Expr} {es:List Expr} {t:TA} {id T:String} {r:List V->Hp->VK->Prop}
noncomputable def tCB (r:List V->Hp->VK->Prop) (t:TA):TE:=fun σ H Q=>t σ H fun vs H1=>r vs H1 Q
theorem bu (hc:CallR X (.builtin id) r) (hg:Gl X x) (hm:X.mg x=none) (hv:bootBuiltins x=some (.builtin id)) (ha:PA X (e::es) t) (hn:autoParam (x ≠ "__name__") Z1._auto_1) (hdb:autoParam ((x==("__debug__" : Str))=false) Z1._auto_1)
  (he:autoParam (starEach (e::es) X.env=(false,eval e X.env)::starEach es X.env) Z2._auto_1) (hpl:autoParam ((backTo pos (starEach es X.env)).any (·.1)=false) Z2._auto_1):PE X (.Call (.Name x p) (e::es) [] pos) (tCB r t):=by
 intro pins s σ H Q I h
 refine wpAny_Call_Name_kw (gg I hg hm hv ?_ hn hdb)
 exact PyProof.Rows.callWith_builtin1 (thn (ha pos pins s σ H _ I h) fun us s1 ⟨vs,H1,I1,r1,q1⟩=>hc pins s1 σ H1 vs us Q I1 r1 q1) he hpl
theorem gb (hc:CallR X (.type T) r) (hg:Gl X x) (hm:X.mg x=none) (hv:bootBuiltins x=some (.type T)) (ha:PA X (e::es) t) (hn:autoParam (x ≠ "__name__") Z1._auto_1) (hdb:autoParam ((x==("__debug__" : Str))=false) Z1._auto_1)
  (he:autoParam (starEach (e::es) X.env=(false,eval e X.env)::starEach es X.env) Z2._auto_1) (hpl:autoParam ((backTo pos (starEach es X.env)).any (·.1)=false) Z2._auto_1):PE X (.Call (.Name x p) (e::es) [] pos) (tCB r t):=by
 intro pins s σ H Q I h
 refine wpAny_Call_Name_kw (gg I hg hm hv ?_ hn hdb)
 exact PyProof.Rows.callWith_type1 (thn (ha pos pins s σ H _ I h) fun us s1 ⟨vs,H1,I1,r1,q1⟩=>hc pins s1 σ H1 vs us Q I1 r1 q1) he hpl
end
end L2
namespace HT
open PySem PyProof.Rows
section
open PySem.SeqAt
open PySem.AutoSeq1 (wpAny_loadPart')
open PySem.MeetsSeq PySem.MeetsSeq2 PySem.MeetsSeq3
end
section
variable {prog:Program} {w:World} {A:Around} {E:Value->Shared->Prop} {s:Shared}
theorem cat_tup {t b:Addr} {vs ws:List Value} {Q:Value->Shared->Prop} (ht:IsTup s.heap t vs.toArray) (hb:IsTup s.heap b ws.toArray) (hv:vs≠[])
  (h1:ws=[]->Q (.ref t) s) (h2:ws≠[]->Q (.ref s.heap.objs.size) { s with heap:=s.heap.push { cls:=.type "tuple",data:=.seq (vs++ws).toArray } })
  (hsz:vs.length+ws.length<=sizeLine):wpAny (model prog w) A (binaryOp .Add (.ref t) (.ref b)) Q E s:=by
 obtain ⟨⟨cls,dd,data,sl⟩,ho,hc,n,hd⟩:=id ht
 obtain ⟨⟨cls2,dd2,data2,sl2⟩,ho2,hc2,n2,hd2⟩:=id hb
 simp only at hc hd hc2 hd2
 subst hc hd hc2 hd2
 have e:vs.toArray++ws.toArray=(vs++ws).toArray:=by simp
 by_cases hw:ws=[]
 ·exact concat_meets ⟨_,ho,rfl⟩ ⟨_,ho2,rfl⟩ noFill_tuple_add seq_tuple_add PySem.F.slot_tuple_add PySem.F.entry_tuple_add (PySem.F.args_tuple_add_2 _ _)
   (tuple_addW1 t b vs.toArray ws.toArray n n2 dd dd2 sl sl2 (by simpa using hv) (by simp [hw])) ⟨ho,ho2,h1 hw⟩
 ·refine concat_meets ⟨_,ho,rfl⟩ ⟨_,ho2,rfl⟩ noFill_tuple_add seq_tuple_add PySem.F.slot_tuple_add PySem.F.entry_tuple_add (PySem.F.args_tuple_add_2 _ _)
   (tuple_addW2 t b vs.toArray ws.toArray n n2 dd dd2 sl sl2 (by simpa using hv) (by simpa using hw) (by rw [List.size_toArray,List.size_toArray]; exact hsz)) ⟨ho,ho2,?_⟩
  rw [e]
  exact h2 hw
noncomputable def sIx (n d:Nat):Option Int->Nat
 | none=>d
 | some v=>if v<0 then (v+(n:Int)).toNat else min v.toNat n
theorem sIx_none (n d:Nat):sIx n d none=d:=rfl
theorem sIx_nat (n d k:Nat):sIx n d (some (k:Int))=min k n:=by
 show (if (k:Int)<0 then ((k:Int)+(n:Int)).toNat else min (k:Int).toNat n)=min k n
 rw [if_neg (by omega),Int.toNat_natCast]
theorem u6 (n d:Nat) (hd:d<=n) (o:Option Int):sIx n d o<=n:=by
 cases o with
 | none=>exact hd
 | some v =>
  show (if v<0 then (v+(n:Int)).toNat else min v.toNat n)<=n
  by_cases hv:v<0
  ·rw [if_pos hv]; omega
  ·rw [if_neg hv]; exact Nat.min_le_right _ _
theorem n6 (v:Int) (n d:Nat):(if v<0 then max (v+(n:Int)) 0 else min v (n:Int))=((sIx n d (some v):Nat):Int):=by
 show (if v<0 then max (v+(n:Int)) 0 else min v (n:Int))=(((if v<0 then (v+(n:Int)).toNat else min v.toNat n):Nat):Int)
 by_cases hv:v<0
 ·simp only [if_pos hv]; omega
 ·simp only [if_neg hv]; omega
theorem oY (lo hi:Option Int) (n:Nat):Builtin.Slice.sliceAdjust lo hi 1 (n:Int)=(((sIx n 0 lo:Nat):Int),((sIx n n hi:Nat):Int)):=by
 have h1:¬ ((1:Int)<0):=by omega
 unfold Builtin.Slice.sliceAdjust
 simp only [h1,if_false]
 refine Prod.ext ?_ ?_
 ·cases lo with
  | none=>rfl
  | some v=>exact n6 v n 0
 ·cases hi with
  | none=>rfl
  | some v=>exact n6 v n n
theorem oB (i j:Nat):Builtin.Slice.slicePlaces (i:Int) (j:Int) 1=j - i:=by
 unfold Builtin.Slice.slicePlaces
 have h1:(1:Int) > 0:=by omega
 simp only [h1,if_true,Int.ediv_one]
 split <;> omega
theorem i5 {v:Value} {o:Option Int} {Q:Option Int->Shared->Prop} (p:IsPart v o) (h:Q o s):wpAny (model prog w) A (Builtin.Slice.slicePartIndex v) Q E s:=by
 cases p with
 | none=>exact slicePart_none h
 | int i t=>exact slicePart_int h
theorem sliceApplied_gen {sl:Addr} {vl vu:Value} {lo hi:Option Int} {n:Nat} {Q:Int×Int×Nat->Shared->Prop} (hs:s.heap.IsSliceOf sl vl vu .none) (pl:IsPart vl lo) (pu:IsPart vu hi)
  (h:Q (((sIx n 0 lo:Nat):Int),1,sIx n n hi - sIx n 0 lo) s):wpAny (model prog w) A (Builtin.Slice.sliceApplied (.ref sl) (pure (n:Int))) Q E s:=by
 obtain ⟨os,hos,hcs,hds⟩:=id hs
 unfold Builtin.Slice.sliceApplied Builtin.Slice.sliceFields
 refine wpAny_bind (wpAny_bind (wpAny_field hos hds (x:=vl) rfl (wpAny_bind (wpAny_field hos hds (x:=vu) rfl (wpAny_bind (wpAny_field hos hds (x:=.none) rfl (wpAny_pure ?_)))))))
 refine wpAny_bind (slicePart_none ?_)
 show wpAny _ _ (if ((1:Int)==0)=true then _ else _) _ _ s
 rw [if_neg (by decide)]
 refine wpAny_bind (i5 pl (wpAny_bind (i5 pu (wpAny_bind (wpAny_pure ?_)))))
 show wpAny _ _ (match Builtin.Slice.sliceAdjust lo hi 1 (n:Int) with | (lo,hi)=>pure (lo,(1:Int),Builtin.Slice.slicePlaces lo hi 1)) _ _ s
 rw [oY lo hi n]
 show wpAny _ _ (pure (((sIx n 0 lo:Nat):Int),(1:Int),Builtin.Slice.slicePlaces ((sIx n 0 lo:Nat):Int) ((sIx n n hi:Nat):Int) 1)) _ _ s
 rw [oB]
 exact wpAny_pure h
theorem rH (xs:Array Value) (i k:Nat):((List.range k).filterMap fun (m:Nat)=>xs[((i:Int)+(m:Int)*1).toNat]?).toArray=((xs.toList.drop i).take k).toArray:=by
 have e:(fun (m:Nat)=>xs[((i:Int)+(m:Int)*1).toNat]?)=fun m=>xs[i+m]?:=by
  funext m
  have:((i:Int)+(m:Int)*1).toNat=i+m:=by omega
  rw [this]
 rw [e]
 have:=pick_run xs i k
 rw [List.filterMap_map] at this
 have e2:((fun x=>xs[x]?) ∘ fun x=>i+x)=fun m=>xs[i+m]?:=rfl
 rw [e2] at this
 rw [this]
theorem getItem_tuple_cut {t sl:Addr} {items:Array Value} {vl vu:Value} {lo hi:Option Int} {Q:Value->Shared->Prop} (ht:IsTup s.heap t items) (hs:s.heap.IsSliceOf sl vl vu .none) (pl:IsPart vl lo) (pu:IsPart vu hi)
  (hw:¬ (sIx items.size 0 lo=0/\sIx items.size items.size hi=items.size))
  (h:Q (.ref s.heap.objs.size) { s with heap:=s.heap.push { cls:=.type "tuple",data:=.seq ((items.toList.drop (sIx items.size 0 lo)).take (sIx items.size items.size hi - sIx items.size 0 lo)).toArray } })
  (hsz:items.size<=sizeLine):wpAny (model prog w) A (getItem (.ref t) (.ref sl)) Q E s:=by
 have htake:sizeOk (.seq ((items.toList.drop (sIx items.size 0 lo)).take (sIx items.size items.size hi - sIx items.size 0 lo)).toArray):=by
  show ((items.toList.drop (sIx items.size 0 lo)).take (sIx items.size items.size hi - sIx items.size 0 lo)).toArray.size<=sizeLine
  rw [List.size_toArray,List.length_take,List.length_drop,Array.length_toList]
  omega
 have hj:sIx items.size items.size hi<=items.size:=u6 _ _ (Nat.le_refl _) hi
 obtain ⟨os,hos,hcs,hds⟩:=id hs
 have hTs:s.TypeIs (.ref sl) "slice" := ⟨os,hos,hcs⟩
 unfold getItem
 try with_reducible refine wpAny_holding ?_
 first | refine wpAny_bind (wpAny_pure ?_) | skip
 refine wpAny_bind (wpAny_sequenceKey ht.typeIs (by decide) ?_)
 refine wpAny_bind (wpAny_callSpecial?_slot (name:=Str.ofString "__getitem__") ht.typeIs PyProof.Rows.slot_tuple_getitem
  (wpAny_call_entry PyProof.Rows.slot_tuple_getitem ht.typeIs entry_tuple_getitem ?_ (args_tuple_getitem _ _)))
 show wpAny _ _ (Builtin.Tuple.tupleItemsOf (.ref t) >>= _) _ _ s
 refine wpAny_bind (tupleItemsOf_ ht ?_)
 refine wpAny_bind (wpAny_typeOf hTs ?_)
 rw [if_pos (by decide)]
 refine wpAny_bind (sliceApplied_gen hs pl pu ?_)
 have hno:¬ ((((sIx items.size 0 lo:Nat):Int)==0 && (1:Int)==1 && (sIx items.size items.size hi - sIx items.size 0 lo)==items.size)=true):=by
  intro q
  rw [Bool.and_eq_true,Bool.and_eq_true] at q
  have q1:((sIx items.size 0 lo:Nat):Int)=0:=eq_of_beq q.1.1
  have q2:sIx items.size items.size hi - sIx items.size 0 lo=items.size:=eq_of_beq q.2
  exact hw ⟨by omega,by omega⟩
 show wpAny _ _ (if (((sIx items.size 0 lo:Nat):Int)==0 && (1:Int)==1 && (sIx items.size items.size hi - sIx items.size 0 lo)==items.size)=true then _ else _) _ _ s
 rw [if_neg hno,rH]
 first
  | exact wpAny_bind (m:=Builtin.Tuple.tupleExact _) (wpAny_newObj_type (wpAny_pure ⟨_,rfl,wpAny_pure h⟩) htake)
  | exact wpAny_bind (m:=Builtin.Tuple.tupleExact _) (wpAny_newObj_type (wpAny_bind (wpAny_pure (wpAny_pure ⟨_,rfl,wpAny_pure h⟩))) htake)
  | exact wpAny_bind (wpAny_bind (m:=Builtin.Tuple.tupleExact _) (wpAny_newObj_type (wpAny_pure (wpAny_pure ⟨_,rfl,wpAny_pure h⟩)) htake))
  | exact wpAny_bind (wpAny_bind (m:=Builtin.Tuple.tupleExact _) (wpAny_newObj_type (wpAny_pure ⟨_,rfl,wpAny_pure h⟩) htake))
end
end HT
namespace L2
open PySem PySem.Spec PyProof.Rows
noncomputable abbrev TO:=St->Hp->(Option Int->Hp->Prop)->Prop
noncomputable def PO (X:Cx) (e:Option Expr) (t:TO):Prop :=
 ∀ (pins:List (Addr×Obj)) (s:Shared) (σ:St) (H:Hp) (Q:Option Int->Hp->Prop),Inv X pins σ H s->t σ H Q ->
  wpAny (model X.prog X.w) X.A (evalPart e X.env) (fun u s'=>∃ o H',Inv X pins σ H' s'/\IsPart u o/\Q o H') X.xe s
noncomputable def tB:TO:=fun _ H Q=>Q none H
noncomputable def tPart (t:TE):TO:=fun σ H Q=>t σ H fun x H1=>∃ i,x=.int i/\Q (some i) H1
section
variable {X:Cx} {e:Expr} {te:TE} {lo hi:Option Expr} {tl th:TO} {pos p2:Pos}
theorem jK:PO X none tB:=by
 intro pins s σ H Q I h
 rw [evalPart_none]
 exact wpAny_pure ⟨none,H,I,.none,h⟩
theorem jJ (h:PE X e te):PO X (some e) (tPart te):=by
 intro pins s σ H Q I hw
 rw [evalPart_some]
 refine thn (h pins s σ H _ I hw) fun u s1 ⟨x,H1,I1,r1,q1⟩=>?_
 obtain ⟨i,rfl,q⟩:=q1
 obtain ⟨t,rfl⟩:=r1
 exact ⟨some i,H1,I1,.int i t,q⟩
noncomputable def SlR (X:Cx) (r:V->Option Int->Option Int->Hp->VK->Prop):Prop :=
 ∀ (pins:List (Addr×Obj)) (s:Shared) (σ:St) (H:Hp) (x:V) (v vl vu:Value) (lo hi:Option Int) (sl:Addr) (Q:VK),Inv X pins σ H s->RelV x v->s.heap.IsSliceOf sl vl vu .none->IsPart vl lo->IsPart vu hi->r x lo hi H Q ->
  ∃ T id,typeLookup (.type T) "__getitem__" = pure (some (.builtin id))/\s.TypeIs v T/\wpAny (model X.prog X.w) X.A (getItem v (.ref sl)) (EP X pins σ Q) X.xe s
theorem SlR.or {r r':V->Option Int->Option Int->Hp->VK->Prop} (h:SlR X r) (h':SlR X r'):SlR X (fun x lo hi H Q=>r x lo hi H Q\/r' x lo hi H Q):=by
 intro pins s σ H x v vl vu lo hi sl Q I rx hs pl pu q
 rcases q with q | q
 ·exact h pins s σ H x v vl vu lo hi sl Q I rx hs pl pu q
 ·exact h' pins s σ H x v vl vu lo hi sl Q I rx hs pl pu q
noncomputable def tSl (r:V->Option Int->Option Int->Hp->VK->Prop) (te:TE) (tl th:TO):TE:=fun σ H Q=>te σ H fun x H1=>tl σ H1 fun l H2=>th σ H2 fun u H3=>r x l u H3 Q
theorem io {r:V->Option Int->Option Int->Hp->VK->Prop} (hr:SlR X r) (he:PE X e te) (hl:PO X lo tl) (hu:PO X hi th):PE X (.Subscript e (.Slice lo hi none p2) pos) (tSl r te tl th):=by
 intro pins s σ H Q I h
 refine Subscript_ (thn (he pins s σ H _ I h) fun v s1 ⟨x,H1,I1,r1,q1⟩=>?_)
 refine wpAny_Slice (thn (hl pins s1 σ H1 _ I1 q1) fun vl s2 ⟨l,H2,I2,pl,q2⟩=>thn (hu pins s2 σ H2 _ I2 q2) fun vu s3 ⟨u,H3,I3,pu,q3⟩=>?_)
 rw [evalPart_none]
 refine wpAny_pure ?_
 have I4:Inv X pins σ H3 { s3 with heap:=s3.heap.push { cls:=.type "slice",data:=.fields #[vl,vu,.none] } }:=I3.kept (t':=s3.toks) fun b ob q=>Heap.get?_push_of_some _ q
 obtain ⟨T,id,hT,ht,hg⟩:=hr pins { s3 with heap:=s3.heap.push { cls:=.type "slice",data:=.fields #[vl,vu,.none] } } σ H3 x v vl vu l u s3.heap.objs.size Q I4 r1 (Heap.IsSliceOf.new ..) pl pu q3
 show wpAny (model X.prog X.w) X.A (subscriptTail e (.Slice lo hi none p2) v (.ref s3.heap.objs.size)) (EP X pins σ Q) X.xe { s3 with heap:=s3.heap.push { cls:=.type "slice",data:=.fields #[vl,vu,.none] } }
 exact tail_any (ops:=[.ref s3.heap.objs.size,v]) ht hT hg (by with_unfolding_all rfl)
noncomputable def cutV (xs:List V) (lo hi:Option Int):List V:=(xs.drop (HT.sIx xs.length 0 lo)).take (HT.sIx xs.length xs.length hi - HT.sIx xs.length 0 lo)
theorem g9 (xs:List V) (lo hi:Option Int):(cutV xs lo hi).length<=xs.length:=by
 unfold cutV
 rw [List.length_take,List.length_drop]
 omega
noncomputable def rSlT (K:PySem.W.Frag):V->Option Int->Option Int->Hp->VK->Prop:=fun x lo hi H Q=>∃ a xs,x=.ref a/\SqT K H a xs /\
 ¬ (HT.sIx xs.length 0 lo=0/\HT.sIx xs.length xs.length hi=xs.length)/\∀ p,H p=none->Q (.ref p) (upd H p (.tup (cutV xs lo hi)))
theorem u5:SlR X (rSlT X.K):=by
 intro pins s σ H x v vl vu lo hi sl Q I rx hs pl pu h
 obtain ⟨a,xs,rfl,hx,hw,q⟩:=h
 cases rx
 obtain ⟨its,r,ht,hz⟩:=I.tuple hx
 have hlen:its.toArray.size=xs.length:=by rw [List.size_toArray]; exact r.length.symm
 refine ⟨"tuple",_,PyProof.Rows.slot_tuple_getitem.lookup,ht.typeIs,?_⟩
 refine HT.getItem_tuple_cut ht hs pl pu (by rw [hlen]; exact hw) ?_ (by rw [hlen]; exact hz)
 rw [hlen]
 refine ⟨.ref s.heap.objs.size,_,I.laid (t':=s.toks) (o:=.tup (cutV xs lo hi)) (fun b ob q=>Heap.get?_push_of_some _ q) (Nat.le_refl _) ?_,rfl,q _ (I.hok.fresh (Nat.le_refl _))⟩
 exact ⟨Nat.le_trans (g9 xs lo hi) hz,_,(r.drop (HT.sIx xs.length 0 lo)).take (HT.sIx xs.length xs.length hi - HT.sIx xs.length 0 lo),IsTup.new _ _⟩
noncomputable def rCatT (K:PySem.W.Frag):R2:=fun x y H Q=>∃ a b xs ys,x=.ref a/\y=.ref b/\SqT K H a xs/\SqT K H b ys/\xs≠[]/\xs.length+ys.length<=sizeLine /\
 (ys=[]->Q (.ref a) H)/\(ys≠[]->∀ p,H p=none->Q (.ref p) (upd H p (.tup (xs++ys))))
theorem Vals.nil_iff {xs:List V} {us:List Value} (r:Vals xs us):us=[]↔xs=[]:=by
 cases r with
 | nil=>simp
 | cons _ _=>simp
theorem t7:OpR X (binaryOp .Add) (rCatT X.K):=by
 intro pins s σ H x y v u Q I rx ry h
 obtain ⟨a,b,xs,ys,rfl,rfl,ha,hb,hx,hz,q1,q2⟩:=h
 cases rx
 cases ry
 obtain ⟨its,r1,p1,_⟩:=I.tuple ha
 obtain ⟨its2,r2,p2,_⟩:=I.tuple hb
 refine HT.cat_tup p1 p2 (fun z=>hx (r1.nil_iff.mp z)) (fun z=>⟨.ref a,H,I,rfl,q1 (r2.nil_iff.mp z)⟩) (fun z=>?_) (by rw [<- r1.length,<- r2.length]; exact hz)
 refine ⟨.ref s.heap.objs.size,_,I.laid (t':=s.toks) (o:=.tup (xs++ys)) (fun b ob q=>Heap.get?_push_of_some _ q) (Nat.le_refl _) ?_,rfl,q2 (fun w=>z (r2.nil_iff.mpr w)) _ (I.hok.fresh (Nat.le_refl _))⟩
 exact ⟨by rw [List.length_append]; exact hz,_,r1.append r2,IsTup.new _ _⟩
end
end L2
namespace L2
open PySem PySem.Spec PyProof.Rows
noncomputable def ixN (n:Nat) (i:Int):Option Nat:=if 0<=i then (if i<n then some i.toNat else none) else if -(n:Int)<=i then some (i+n).toNat else none
noncomputable def atI {α:Type} (xs:List α) (i:Int):Option α:=(ixN xs.length i).bind fun j=>xs[j]?
theorem nR {n:Nat} {i:Int} {j:Nat} (h:ixN n i=some j):seqIndex? i n=some j/\j<n /\ -(n:Int)<=i/\i<n:=by
 unfold ixN at h
 by_cases h0:0<=i
 ·rw [if_pos h0] at h
  by_cases h1:i<n
  ·rw [if_pos h1] at h
   have e:i.toNat=j:=Option.some.inj h
   exact ⟨by rw [seqIndex_of h0 h1,e],by omega,by omega,h1⟩
  ·rw [if_neg h1] at h; cases h
 ·rw [if_neg h0] at h
  by_cases h1 : -(n:Int)<=i
  ·rw [if_pos h1] at h
   have e:(i+n).toNat=j:=Option.some.inj h
   exact ⟨by rw [seqIndex_neg (by omega) h1,e],by omega,h1,by omega⟩
  ·rw [if_neg h1] at h; cases h
theorem ku {α:Type} {xs:List α} {i:Int} {v:α} (h:atI xs i=some v):∃ j,seqIndex? i xs.length=some j/\xs[j]?=some v/\j<xs.length /\ -(xs.length:Int)<=i/\i<xs.length:=by
 unfold atI at h
 cases e:ixN xs.length i with
 | none=>rw [e] at h; cases h
 | some j =>
  rw [e] at h
  obtain ⟨h1,h2,h3,h4⟩:=nR e
  exact ⟨j,h1,h,h2,h3,h4⟩
theorem ai {α:Type} {xs:List α} {j:Nat} {v:α} (h:xs[j]?=some v):atI xs (j:Int)=some v:=by
 have hj:j<xs.length:=(List.getElem?_eq_some_iff.mp h).1
 have e:ixN xs.length (j:Int)=some j:=by
  unfold ixN
  rw [if_pos (by omega),if_pos (by omega)]; simp
 unfold atI; rw [e]; exact h
noncomputable def kw (b:Expr):Prop:=∀ o i,subscripted b false o i=operate [o,i] (getItem o i)
noncomputable def IxR (X:Cx) (r:R2):Prop :=
 ∀ (value slice:Expr) (pins:List (Addr×Obj)) (s:Shared) (σ:St) (H:Hp) (x y:V) (v u:Value) (Q:VK),Inv X pins σ H s->RelV x v->RelV y u->r x y H Q ->
  subscripted slice false v u=operate [v,u] (getItem v u)->wpAny (model X.prog X.w) X.A (subscriptTail value slice v u) (EP X pins σ Q) X.xe s
noncomputable def MtR (X:Cx) (id:String) (r:V->List V->Hp->VK->Prop):Prop :=
 ∀ (pins:List (Addr×Obj)) (s:Shared) (σ:St) (H:Hp) (x:V) (xs:List V) (v:Value) (us:List Value) (Q:VK),Inv X pins σ H s->RelV x v->Vals xs us->r x xs H Q ->
  wpAny (model X.prog X.w) X.A (call (.builtin id) (v::us)) (EP X pins σ Q) X.xe s
section
variable {X:Cx} {a b:Expr} {ta tb:TE} {pos:Pos}
theorem IxR.or {r r':R2} (h:IxR X r) (h':IxR X r'):IxR X (fun x y H Q=>r x y H Q\/r' x y H Q):=by
 intro value slice pins s σ H x y v u Q I rx ry q hs
 rcases q with q | q
 ·exact h value slice pins s σ H x y v u Q I rx ry q hs
 ·exact h' value slice pins s σ H x y v u Q I rx ry q hs
theorem bN {r:R2} (hr:IxR X r) (ha:PE X a ta) (hb:PE X b tb) (hs:kw b):PE X (.Subscript a b pos) (tOp r ta tb):=by
 intro pins s σ H Q I h
 exact Subscript_ (binT ha hb I h fun v u s2 x y H2 I2 rx ry q=>hr a b pins s2 σ H2 x y v u Q I2 rx ry q (hs _ _))
noncomputable def rIxL (K:PySem.W.Frag):R2:=fun x y H Q=>∃ p xs i v,x=.ref p/\y=.int i/\SqL K H p xs/\atI xs i=some v/\Q v H
noncomputable def rIxT (K:PySem.W.Frag):R2:=fun x y H Q=>∃ p xs i v,x=.ref p/\y=.int i/\SqT K H p xs/\atI xs i=some v/\Q v H
noncomputable def rIxS:R2:=fun x y H Q=>∃ z i c,x=.str z/\y=.int i/\z.length<=sizeLine/\atI z.cps.toList i=some c/\Q (.str ⟨#[c]⟩) H
theorem ix_list:IxR X (rIxL X.K):=by
 intro value slice pins s σ H x y v u Q I rx ry h hs
 obtain ⟨p,xs,i,z,rfl,rfl,hq,he,q⟩:=h
 cases rx
 obtain ⟨t,rfl⟩:=ry
 obtain ⟨its,r,pl,hz⟩:=I.list hq
 obtain ⟨j,h1,h2,h3,h4,h5⟩:=ku he
 obtain ⟨w,ew,rw'⟩:=r.get h2
 have hl:=r.length
 have hn:=line63
 have fin:EP X pins σ Q w s:=⟨z,H,I,rw',q⟩
 by_cases h0:0<=i
 ·have hj:i.toNat=j:=by
   rw [seqIndex_of h0 h5] at h1
   exact Option.some.inj h1
  exact item_listR pl.isList h0 (by omega) (by rw [hj]; simpa using ew) fin hs
 ·have hj:(i+(its.toArray.size:Int)).toNat=j:=by
   rw [seqIndex_neg (by omega) h4] at h1
   rw [List.size_toArray,<- hl]
   exact Option.some.inj h1
  exact subscriptTail_builtinR (x:=w) pl.isList.typeIs slot_list_getitem.lookup
   (wpAny_getItem_list_neg (Q:=fun r s'=>r=w/\EP X pins σ Q r s') pl.isList (by omega) (by rw [List.size_toArray] <;> omega) (by omega) (by rw [hj]; simpa using ew) ⟨rfl,fin⟩) hs
theorem ix_tup:IxR X (rIxT X.K):=by
 intro value slice pins s σ H x y v u Q I rx ry h hs
 obtain ⟨p,xs,i,z,rfl,rfl,hq,he,q⟩:=h
 cases rx
 obtain ⟨t,rfl⟩:=ry
 obtain ⟨its,r,pl,hz⟩:=I.tuple hq
 obtain ⟨j,h1,h2,h3,h4,h5⟩:=ku he
 obtain ⟨w,ew,rw'⟩:=r.get h2
 have hl:=r.length
 have hn:=line63
 have fin:EP X pins σ Q w s:=⟨z,H,I,rw',q⟩
 exact subscriptTail_builtinR (x:=w) pl.typeIs slot_tuple_getitem.lookup
  (getItem_tuple (j:=j) (Q:=fun r s'=>r=w/\EP X pins σ Q r s') pl (by omega) (by omega) (by rw [List.size_toArray,<- hl]; exact h1) (by simpa using ew) ⟨rfl,fin⟩) hs
theorem vT:IxR X rIxS:=by
 intro value slice pins s σ H x y v u Q I rx ry h hs
 obtain ⟨z,i,c,rfl,rfl,hz,he,q⟩:=h
 obtain ⟨t,rfl⟩:=rx
 obtain ⟨t',rfl⟩:=ry
 obtain ⟨j,h1,h2,h3,h4,h5⟩:=ku he
 have hl:z.cps.toList.length=z.length:=by simp [Str.length]
 rw [hl] at h1 h4 h5
 have hn:=line63
 exact tail_any (typeIs_str s z t) slot_str_getitem.lookup (getItem_str (c:=c) (by
  have e1:decide (i < -(2 ^ 63:Int))=false:=decide_eq_false (by omega)
  have e2:decide (i ≥ 2 ^ 63)=false:=decide_eq_false (by omega)
  rw [e1,e2,Bool.or_false]) (by rw [h1]; simpa using h2) ⟨.str ⟨#[c]⟩,H,I.tok _,⟨_,rfl⟩,q⟩) hs
noncomputable def rIx (K:PySem.W.Frag):R2:=fun x y H Q=>rIxL K x y H Q\/rIxT K x y H Q\/rIxS x y H Q
theorem ix_seq:IxR X (rIx X.K):=ix_list.or (ix_tup.or vT)
theorem oG (its:List Value) (n j:Nat) (u:Value):Obj.mapSeq (·.setIfInBounds j u) { cls:=.type "list",data:=.seq its.toArray n }={ cls:=.type "list",data:=.seq (its.set j u).toArray n }:=by
 simp [Obj.mapSeq]
theorem Inv.lst {pins:List (Addr×Obj)} {σ:St} {H:Hp} {s:Shared} {p:Addr} {xs:List V} (I:Inv X pins σ H s) (h:H p=some (.lst xs)) :
  ∃ (its:List Value) (n:Nat),Vals xs its/\s.heap.get? p=some { cls:=.type "list",data:=.seq its.toArray n }/\xs.length<=sizeLine:=by
 obtain ⟨z,its,n,r,e⟩:=I.hok p _ h
 exact ⟨its,n,r,e,z⟩
theorem Inv.lstUpd {pins:List (Addr×Obj)} {σ:St} {H:Hp} {s:Shared} {p:Addr} {xs ys:List V} {its its':List Value} {n n':Nat} {f:Obj->Obj} (I:Inv X pins σ H s) (h:H p=some (.lst xs))
  (ho:s.heap.get? p=some { cls:=.type "list",data:=.seq its.toArray n }) (hf:f { cls:=.type "list",data:=.seq its.toArray n }={ cls:=.type "list",data:=.seq its'.toArray n' }) (r:Vals ys its') (hz:ys.length<=sizeLine) (t:Nat) :
  Inv X pins σ (upd H p (.lst ys)) { s with heap:=s.heap.update p f,toks:=t }:=by
 have e:(s.heap.update p f).get? p=some { cls:=.type "list",data:=.seq its'.toArray n' }:=by
  rw [Heap.get?_update_self f ho (by rw [hf] <;> rfl),hf]
 refine I.write (x:=p) (e:=p) (by rw [h]; trivial) (.inl rfl) (fun b u hb q=>(Heap.get?_update_other _ _ (Ne.symm hb)).trans q) ⟨_,e⟩ ?_
 exact ⟨hz,its',n',r,e⟩
noncomputable def rSetL:V->V->V->Hp->(Hp->Prop)->Prop:=fun o i v H Q=>∃ p xs k j,o=.ref p/\i=.int k/\H p=some (.lst xs)/\ixN xs.length k=some j/\Q (upd H p (.lst (xs.set j v)))
theorem ia:PSet X rSetL:=by
 intro pins s σ H o i v ov iv u Q I ro ri rv h
 obtain ⟨p,xs,k,j,rfl,rfl,hp,hj,q⟩:=h
 cases ro
 obtain ⟨t,rfl⟩:=ri
 obtain ⟨its,n,r,ho,hz⟩:=I.lst hp
 obtain ⟨h1,h2,h3,h4⟩:=nR hj
 have hl:=r.length
 have hn:=line63
 have I':Inv X pins σ (upd H p (.lst (xs.set j v))) { s with heap:=s.heap.update p (Obj.mapSeq (·.setIfInBounds j u)) } :=
  I.lstUpd hp ho (oG its n j u) (r.set rv j) (by rw [List.length_set]; exact hz) s.toks
 by_cases h0:0<=k
 ·have hk:k.toNat=j:=by
   rw [seqIndex_of h0 h4] at h1
   exact Option.some.inj h1
  exact PySem.W.ki_setAt ho h0 (by omega) (by rw [List.size_toArray,<- hl]; exact h4) (by rw [hk]; exact ⟨_,I',q⟩)
 ·have hk:(k+(its.toArray.size:Int)).toNat=j:=by
   rw [seqIndex_neg (by omega) h3] at h1
   rw [List.size_toArray,<- hl]
   exact Option.some.inj h1
  exact PySem.W.ki_setBack ho (by omega) (by rw [List.size_toArray,<- hl]; exact h3) (by omega) (by rw [hk]; exact ⟨_,I',q⟩)
theorem lJ (lo hi:Option Int) (n:Nat):(sliceBounds lo hi none n).1=((HT.sIx n 0 lo:Nat):Int)/\(sliceBounds lo hi none n).2.1=((HT.sIx n n hi:Nat):Int)/\(sliceBounds lo hi none n).2.2=1:=by
 refine ⟨?_,?_,rfl⟩
 ·cases lo with
  | none=>simp [sliceBounds,HT.sIx]
  | some i =>
   simp only [sliceBounds,HT.sIx,Option.getD_none,show (1:Int) > 0 by decide,if_true]
   by_cases h:i<0
   ·simp only [h,if_true] <;> omega
   ·simp only [h,if_false] <;> omega
 ·cases hi with
  | none=>simp [sliceBounds,HT.sIx]
  | some i =>
   simp only [sliceBounds,HT.sIx,Option.getD_none,show (1:Int) > 0 by decide,if_true]
   by_cases h:i<0
   ·simp only [h,if_true] <;> omega
   ·simp only [h,if_false] <;> omega
theorem la (its:List Value) (lo hi:Option Int):slicePick its.toArray lo hi none=((its.drop (HT.sIx its.length 0 lo)).take (HT.sIx its.length its.length hi - HT.sIx its.length 0 lo)).toArray:=by
 obtain ⟨h1,h2,h3⟩:=lJ lo hi its.toArray.size
 unfold slicePick
 rw [h1,h2,h3]
 simp only [sliceRange_one,pick_run,List.size_toArray] <;> rfl
noncomputable def rSlL (K:PySem.W.Frag):V->Option Int->Option Int->Hp->VK->Prop:=fun x lo hi H Q=>∃ a xs,x=.ref a/\SqL K H a xs/\∀ p,H p=none->Q (.ref p) (upd H p (.lst (cutV xs lo hi)))
theorem jA:SlR X (rSlL X.K):=by
 intro pins s σ H x v vl vu lo hi sl Q I rx hs pl pu h
 obtain ⟨a,xs,rfl,hx,q⟩:=h
 cases rx
 obtain ⟨its,r,ht,hz⟩:=I.list hx
 have hlen:=r.length
 refine ⟨"list",_,slot_list_getitem.lookup,ht.isList.typeIs,?_⟩
 refine wpAny_getItem_list_slice ht.isList hs pl pu .none (by simp) ?_ (by rw [List.size_toArray] <;> omega)
 rw [la,<- hlen]
 refine ⟨.ref s.heap.objs.size,_,I.laid (t':=s.toks) (o:=.lst (cutV xs lo hi)) (fun b ob q=>Heap.get?_push_of_some _ q) (Nat.le_refl _) ?_,rfl,q _ (I.hok.fresh (Nat.le_refl _))⟩
 exact ⟨Nat.le_trans (g9 xs lo hi) hz,_,0,(r.drop (HT.sIx xs.length 0 lo)).take (HT.sIx xs.length xs.length hi - HT.sIx xs.length 0 lo),Heap.get?_push_size _ rfl⟩
theorem me:OpR X (compareOp .NotIn) (fun x y H Q=>∃ i j,x=.str i/\y=.str j/\Q (.bl (!(!(Builtin.Str.occurrences j i 0 j.length 1).isEmpty))) H):=by
 intro pins s σ H x y v u Q I rx ry h
 obtain ⟨i,j,rfl,rfl,q⟩:=h
 obtain ⟨t,rfl⟩:=rx
 obtain ⟨t',rfl⟩:=ry
 exact notIn_str ⟨.bl _,H,I,rfl,q⟩
theorem gv:CallR X (.builtin "len") (fun xs H Q=>∃ p ys,xs=[.ref p]/\(SqL X.K H p ys\/SqT X.K H p ys)/\Q (.int ys.length) H):=by
 intro pins s σ H xs us Q I r h
 obtain ⟨p,ys,rfl,hq,q⟩:=h
 obtain ⟨u,rfl,rx⟩:=vals1 r
 cases rx
 have hn:=line63
 rcases hq with hq | hq
 ·obtain ⟨its,r',pl,hz⟩:=I.list hq
  have hlen:=r'.length
  exact Calls.call_len_list pl.isList (by simp only [List.size_toArray] <;> omega) ⟨.int ys.length,H,I.tok _,⟨s.toks+1,by rw [List.size_toArray,hlen]⟩,q⟩
 ·obtain ⟨its,r',pl,hz⟩:=I.tuple hq
  have hlen:=r'.length
  exact len_tuple pl (by simp only [List.size_toArray] <;> omega) ⟨.int ys.length,H,I.tok _,⟨s.toks+1,by rw [List.size_toArray,hlen]⟩,q⟩
theorem mQ:CallR X (.builtin "len") (fun xs H Q=>∃ z,xs=[.str z]/\z.length<=sizeLine/\Q (.int z.length) H):=by
 intro pins s σ H xs us Q I r h
 obtain ⟨z,rfl,hz,q⟩:=h
 obtain ⟨u,rfl,t,rfl⟩:=vals1 r
 have hn:=line63
 exact len_str (by omega) ⟨.int z.length,H,I.tok _,⟨_,rfl⟩,q⟩
theorem CallR.or {f:Value} {r r':List V->Hp->VK->Prop} (h:CallR X f r) (h':CallR X f r'):CallR X f (fun xs H Q=>r xs H Q\/r' xs H Q):=by
 intro pins s σ H xs us Q I rs q
 rcases q with q | q
 ·exact h pins s σ H xs us Q I rs q
 ·exact h' pins s σ H xs us Q I rs q
theorem mP:CallR X (.type "list") (fun xs H Q=>∃ p ys,xs=[.ref p]/\(SqL X.K H p ys\/SqT X.K H p ys)/\∀ l,H l=none->Q (.ref l) (upd H l (.lst ys))):=by
 intro pins s σ H xs us Q I r h
 obtain ⟨p,ys,rfl,hq,q⟩:=h
 obtain ⟨u,rfl,rx⟩:=vals1 r
 cases rx
 have fin:∀ (its:List Value),Vals ys its->ys.length<=sizeLine->∀ (h':Heap) (c':Nat),(∀ b o',s.heap.get? b=some o'->h'.get? b=some o') ->
   h'.get? s.heap.objs.size=some { cls:=.type "list",dict:=none,data:=.seq its.toArray c',slots:=#[] }->EP X pins σ Q (.ref s.heap.objs.size) { s with heap:=h' }:=fun its r' hz h' c' kp e =>
  ⟨.ref s.heap.objs.size,_,I.laid (t':=s.toks) kp (Nat.le_refl _) (show ObjOk X.prog X.w _ h' _ (.lst ys) from ⟨hz,its,c',r',e⟩),rfl,q _ (I.hok.fresh (Nat.le_refl _))⟩
 rcases hq with hq | hq
 ·obtain ⟨its,r',pl,hz⟩:=I.list hq
  have hlen:=r'.length
  obtain ⟨o,ho,hc,n,hd⟩:=pl.isList
  exact call_list_seq p (.inl rfl) ho hc hd (fun h' c' kp e=>fin its r' hz h' c' kp e) (by simp only [List.size_toArray] <;> omega)
 ·obtain ⟨its,r',pl,hz⟩:=I.tuple hq
  have hlen:=r'.length
  obtain ⟨o,ho,hc,n,hd⟩:=pl
  exact call_list_seq p (.inr rfl) ho hc hd (fun h' c' kp e=>fin its r' hz h' c' kp e) (by simp only [List.size_toArray] <;> omega)
theorem lw:CallR X (.type "tuple") (fun xs H Q=>∃ p ys,xs=[.ref p]/\((SqL X.K H p ys/\∀ l,H l=none->Q (.ref l) (upd H l (.tup ys)))\/(SqT X.K H p ys/\Q (.ref p) H))):=by
 intro pins s σ H xs us Q I r h
 obtain ⟨p,ys,rfl,h⟩:=h
 obtain ⟨u,rfl,rx⟩:=vals1 r
 cases rx
 rcases h with ⟨hq,q⟩ | ⟨hq,q⟩
 ·obtain ⟨its,r',pl,hz⟩:=I.list hq
  have hlen:=r'.length
  refine call_tuple_list pl.isList (fun h' kp=>?_) (by simp only [List.size_toArray] <;> omega)
  have I1:Inv X pins σ H { s with heap:=h' }:=I.kept (t':=s.toks) kp
  have I2:Inv X pins σ (upd H h'.objs.size (.tup ys)) { s with heap:=h'.push { cls:=.type "tuple",data:=.seq its.toArray } } :=
   I1.laid (t':=s.toks) (fun b o e=>Heap.get?_push_of_some _ e) (Nat.le_refl _) (show ObjOk X.prog X.w _ _ _ (.tup ys) from ⟨hz,its,r',IsTup.new _ _⟩)
  exact ⟨.ref h'.objs.size,_,I2,rfl,q _ (I1.hok.fresh (Nat.le_refl _))⟩
 ·obtain ⟨its,r',pl,hz⟩:=I.tuple hq
  exact call_tuple_same pl ⟨.ref p,H,I,rfl,q⟩
noncomputable def tyV (K:PySem.W.Frag) (T:String) (x:V) (H:Hp):Prop:=match x with
 | .str _=>T = "str"
 | .int _=>T = "int"
 | .ref p=>(T = "list" /\ ∃ xs,SqL K H p xs)\/(T = "tuple" /\ ∃ o,K.lookup p=some o/\o.cls=.type "tuple" /\ o.dict=none) \/
   (T = "dict" /\ ((∃ kvs,H p=some (.dK kvs))\/∃ kvs,H p=some (.dT kvs)))\/(T = "set" /\ ∃ S n,H p=some (.set S n))
 | _=>False
theorem uX {pins:List (Addr×Obj)} {σ:St} {H:Hp} {s:Shared} {T:String} {x:V} {v:Value} (I:Inv X pins σ H s) (r:RelV x v) (ty:tyV X.K T x H) :
  s.TypeIs v T/\∀ a,v=.ref a->∃ ob,s.heap.get? a=some ob/\ob.dict=none:=by
 cases x with
 | str z =>
  obtain ⟨t,rfl⟩:=r
  cases (show T = "str" from ty)
  exact ⟨typeIs_str s z t,fun _ e=>nomatch e⟩
 | int i =>
  obtain ⟨t,rfl⟩:=r
  cases (show T = "int" from ty)
  exact ⟨typeIs_int s i t,fun _ e=>nomatch e⟩
 | ref p =>
  cases r
  rcases ty with ⟨rfl,xs,hq⟩ | ⟨rfl,o,hk,hc,hd⟩ | ⟨rfl,hk⟩ | ⟨rfl,S,n,hk⟩
  ·obtain ⟨its,_,pl,_⟩:=I.list hq
   refine ⟨pl.isList.typeIs,fun a e=>?_⟩
   cases e
   obtain ⟨o,n,e,c,hd,_⟩:=pl
   exact ⟨o,e,hd⟩
  ·refine ⟨⟨o,I.kIn p o hk,hc⟩,fun a e=>?_⟩
   cases e
   exact ⟨o,I.kIn _ o hk,hd⟩
  ·have z:∃ o,s.heap.get? p=some o/\o.ExactDict:=by
    rcases hk with ⟨kvs,hk⟩ | ⟨kvs,hk⟩
    ·obtain ⟨_,_,_,_,o,_,_,e,ex,_⟩:=I.hok p _ hk
     exact ⟨o,e,ex⟩
    ·obtain ⟨_,_,_,_,o,_,_,e,ex,_⟩:=I.hok p _ hk
     exact ⟨o,e,ex⟩
   obtain ⟨o,e,ex⟩:=z
   refine ⟨⟨o,e,ex.1⟩,fun a e2=>?_⟩
   cases e2
   exact ⟨o,e,ex.2.1⟩
  ·obtain ⟨o,_,_,_,e,ex,_⟩:=I.hok p _ hk
   refine ⟨⟨o,e,ex.1⟩,fun a e2=>?_⟩
   cases e2
   exact ⟨o,e,ex.2.1⟩
 | _=>exact False.elim ty
noncomputable def tBM (K:PySem.W.Frag) (T:String) (r:V->List V->Hp->VK->Prop) (to:TE) (t:TA):TE:=fun σ H Q=>to σ H fun x H1=>tyV K T x H1/\t σ H1 fun xs H2=>r x xs H2 Q
variable {o e:Expr} {es:List Expr} {to:TE} {t:TA} {name:Str} {apos cpos:Pos} {T id:String} {r:V->List V->Hp->VK->Prop}
theorem sT (pa:PlainAttrs T) (slot:Slot T name id) (hty:typeOf (.builtin id)=pure (.type "method_descriptor")) (hm:MtR X id r) (ho:PE X o to) (ha:PA X (e::es) t)
  (hbase:autoParam (attributeBase o name X.env (eval o X.env)=eval o X.env) Z2._auto_1)
  (hfew:autoParam (((backTo cpos (starEach (e::es) X.env)).all (fun x=>!x.1) && (backToKw cpos (keywordEach [] X.env)).all (fun x=>x.1.isSome)
   && decide ((e::es).length+([]:List Keyword).length+(if ([]:List Keyword).isEmpty then 0 else 1)<30))=true) Z2._auto_1)
  (hline:autoParam ((apos.endLine==cpos.line)=true) Z2._auto_1) (hs:autoParam (starEach (e::es) X.env=(false,eval e X.env)::starEach es X.env) Z2._auto_1) (hplain:autoParam ((backTo cpos (starEach es X.env)).any (·.1)=false) Z2._auto_1) :
  PE X (.Call (.Attribute o name apos) (e::es) [] cpos) (tBM X.K T r to t):=by
 intro pins s σ H Q I h
 refine wpAny_Call_method_late hbase hfew hline rfl (thn (ho pins s σ H _ I h) fun v s1 ⟨x,H1,I1,r1,ty,q1⟩=>?_)
 obtain ⟨h1,h2⟩:=uX I1 r1 ty
 refine ⟨T,id,pa,slot,hty,h1,h2,?_⟩
 have hA:=ha cpos pins s1 σ H1 _ I1 q1
 rw [hs] at hA ⊢
 refine Calls.callWith_builtin (by show (false || (backTo cpos (starEach es X.env)).any (·.1))=false; rw [hplain] <;> rfl) (Calls.evalArgs_plain ?_)
 exact thn hA fun us s2 ⟨vs,H2,I2,r2,q2⟩=>hm pins s2 σ H2 x vs v us Q I2 r1 r2 q2
/- xs.append(e),list.index on a module's tuple .. are MtR facts of 06m -/
end
end L2
namespace L2
open PySem PySem.Spec PyProof.Rows
noncomputable def MtM (X:Cx) (id:String) (r:V->List V->Hp->VK->Prop):Prop :=
 ∀ (pins:List (Addr×Obj)) (s:Shared) (σ:St) (H:Hp) (x:V) (xs:List V) (v:Value) (us:List Value) (Q:VK),Inv X pins σ H s->RelV x v->Vals xs us->r x xs H Q ->
  wpAny (model X.prog X.w) X.A (call (.builtin id) (v::us)) (EP X pins σ Q) X.xe s
theorem Vals.one:∀ {x:V} {us:List Value},Vals [x] us->∃ u,us=[u]/\RelV x u
 | _,_,.cons r .nil=>⟨_,rfl,r⟩
theorem Vals.eraseIdx:∀ {xs:List V} {us:List Value} (i:Nat),Vals xs us->Vals (xs.eraseIdx i) (us.eraseIdx i)
 | _,_,_,.nil=>.nil
 | _,_,0,.cons _ t=>t
 | _,_,i+1,.cons r t=>.cons r (Vals.eraseIdx i t)
theorem Vals.rep {xs:List V} {us:List Value} (h:Vals xs us):∀ k:Nat,Vals (List.replicate k xs).flatten (List.replicate k us).flatten
 | 0=>.nil
 | k+1=>by
  rw [List.replicate_succ,List.replicate_succ,List.flatten_cons,List.flatten_cons]
  exact Vals.append h (Vals.rep h k)
theorem kI {α:Type}:∀ (l:List α) (i:Nat),(l.eraseIdx i).length<=l.length
 | [],_=>Nat.le_refl _
 | _::_,0=>Nat.le_succ _
 | _::r,i+1=>Nat.succ_le_succ (kI r i)
theorem kO (its:List Value):∀ (k:Nat) (acc:List Value),
  List.foldl (fun x1 x2=>x1++x2) acc.toArray (List.replicate k its.toArray)=(acc++(List.replicate k its).flatten).toArray
 | 0,acc=>by simp
 | k+1,acc=>by
  have e:acc.toArray++its.toArray=(acc++its).toArray:=by simp
  have e2:(acc++its)++(List.replicate k its).flatten=acc++(List.replicate (k+1) its).flatten:=by
   rw [List.replicate_succ,List.flatten_cons,List.append_assoc]
  rw [<- e2,<- kO its k (acc++its),<- e,List.replicate_succ,List.foldl_cons]
section
variable {X:Cx} {pins:List (Addr×Obj)} {σ:St} {H:Hp} {s:Shared} {l b:Addr} {xs ys zs:List V}
theorem Inv.lset {its its':List Value} {n:Nat} {f:Array Value->Array Value} {t':Nat} (I:Inv X pins σ H s) (hH:H l=some (.lst xs))
  (e:s.heap.get? l=some { cls:=.type "list",data:=.seq its.toArray n }) (hf:f its.toArray=its'.toArray) (hv:Vals ys its') (hz:ys.length<=sizeLine) :
  Inv X pins σ (upd H l (.lst ys)) { s with heap:=s.heap.update l (Obj.mapSeq f),toks:=t' }:=by
 have q:=PySem.IsL.update e f
 rw [hf] at q
 refine I.write (x:=l) (e:=l) (by rw [hH]; exact trivial) (.inl rfl) (fun b' u hb hu=>(Heap.get?_update_other s.heap (Obj.mapSeq f) (Ne.symm hb)).trans hu) ⟨_,q⟩ ?_
 exact ⟨hz,its',_,hv,q⟩
theorem Inv.lnew {its:List Value} {t':Nat} (I:Inv X pins σ H s) (hv:Vals ys its) (hz:ys.length<=sizeLine) :
  Inv X pins σ (upd H s.heap.objs.size (.lst ys)) { s with heap:=s.heap.push { cls:=.type "list",data:=.seq its.toArray },toks:=t' } :=
 I.laid (fun _ _ q=>Heap.get?_push_of_some _ q) (Nat.le_refl _) ⟨hz,its,0,hv,Heap.get?_push_size _ rfl⟩
theorem Inv.fresh (I:Inv X pins σ H s):H s.heap.objs.size=none:=I.hok.fresh (Nat.le_refl _)
theorem Inv.lstM (I:Inv X pins σ H s) (hH:H l=some (.lst xs)):xs.length<=sizeLine/\∃ (its:List Value) (n:Nat),Vals xs its/\xs.length=its.length/\s.heap.get? l=some { cls:=.type "list",data:=.seq its.toArray n }:=by
 obtain ⟨z,its,n,r,e⟩:=I.hok l _ hH
 exact ⟨z,its,n,r,r.length,e⟩
theorem rX {n:Nat} (h:n<=sizeLine):Builtin.List.listTooLong n=false:=by
 unfold Builtin.List.listTooLong
 exact decide_eq_false (by omega)
end
section
variable {X:Cx}
noncomputable def nF:V->List V->Hp->VK->Prop:=fun x vs H Q=>∃ l xs y,x=.ref l/\vs=[y]/\H l=some (.lst xs)/\xs.length<sizeLine/\Q .non (upd H l (.lst (xs++[y])))
theorem cV:MtM X "list.append" nF:=by
 intro pins s σ H x vs v us Q I rx rv h
 obtain ⟨l,xs,y,rfl,rfl,hH,hz,q⟩:=h
 cases rx
 obtain ⟨u,rfl,ru⟩:=rv.one
 obtain ⟨z,its,n,r,hl,e⟩:=I.lstM hH
 refine call_meets F.slot_list_append ⟨_,e,rfl⟩ F.entry_list_append (F.args_list_append_2 _ _) (PySem.list_append l its.toArray n u (by rw [List.size_toArray]; omega)) ⟨e,?_⟩
 refine ⟨.non,_,I.lset (its':=its++[u]) hH e (by simp) (r.append (.cons ru .nil)) ?_,rfl,q⟩
 rw [List.length_append,List.length_singleton]
 omega
noncomputable def rPopAt:V->List V->Hp->VK->Prop:=fun x vs H Q=>∃ l xs i k y,x=.ref l/\vs=[.int i]/\H l=some (.lst xs) /\ -(2 ^ 63)<=i/\i<2 ^ 63/\seqIndex? i xs.length=some k/\xs[k]?=some y/\Q y (upd H l (.lst (xs.eraseIdx k)))
theorem r9:MtM X "list.pop" rPopAt:=by
 intro pins s σ H x vs v us Q I rx rv h
 obtain ⟨l,xs,i,k,y,rfl,rfl,hH,h1,h2,hk,hy,q⟩:=h
 cases rx
 obtain ⟨u,rfl,ru⟩:=rv.one
 obtain ⟨t,rfl⟩:=ru
 obtain ⟨z,its,n,r,hl,e⟩:=I.lstM hH
 obtain ⟨w,hw,rw'⟩:=r.get hy
 refine call_meets F.slot_list_pop ⟨_,e,rfl⟩ F.entry_list_pop (F.args_list_pop_2 _ _)
  (MeetsSeq.list_pop_at l its.toArray n i t k w (fitsIndex_both h1 h2) (by rw [List.size_toArray,<- hl]; exact hk) (by rw [<- Array.getElem?_toList]; exact hw) (by rw [List.size_toArray]; omega)) ⟨e,?_⟩
 refine ⟨y,_,I.lset (its':=its.eraseIdx k) hH e ?_ (r.eraseIdx k) ?_,rw',q⟩
 ·show its.toArray.eraseIdxIfInBounds k=(its.eraseIdx k).toArray
  rw [List.eraseIdxIfInBounds_toArray]
 ·have:=kI xs k
  omega
noncomputable def rCat:R2:=fun x y H Q=>∃ l b xs zs,x=.ref l/\y=.ref b/\H l=some (.lst xs)/\H b=some (.lst zs)/\xs.length+zs.length<=sizeLine/\∀ p,H p=none->Q (.ref p) (upd H p (.lst (xs++zs)))
theorem vF:OpR X (binaryOp .Add) rCat:=by
 intro pins s σ H x y v u Q I rx ry h
 obtain ⟨l,b,xs,zs,rfl,rfl,hH,hB,hz,q⟩:=h
 cases rx
 cases ry
 obtain ⟨z,its,n,r,hl,e⟩:=I.lstM hH
 obtain ⟨z2,its2,n2,r2,hl2,e2⟩:=I.lstM hB
 refine PySem.P.add_list e e2 ?_ (by rw [List.size_toArray,List.size_toArray]; omega)
 have ea:its.toArray++its2.toArray=(its++its2).toArray:=by simp
 rw [ea]
 exact ⟨.ref _,_,I.lnew (t':=s.toks) (r.append r2) (by rw [List.length_append]; omega),rfl,q _ I.fresh⟩
noncomputable def rRep:R2:=fun x y H Q=>∃ l k xs,x=.ref l/\y=.int k/\H l=some (.lst xs) /\ -(2 ^ 63)<=k/\k<2 ^ 63/\xs.length*k.toNat<=sizeLine /\
 ∀ p,H p=none->Q (.ref p) (upd H p (.lst (List.replicate k.toNat xs).flatten))
theorem ug {α:Type} (xs:List α) (k:Nat):(List.replicate k xs).flatten.length=k*xs.length:=by
 induction k with
 | zero=>simp
 | succ k ih=>rw [List.replicate_succ,List.flatten_cons,List.length_append,ih,Nat.succ_mul,Nat.add_comm]
theorem vC:OpR X (binaryOp .Mult) rRep:=by
 intro pins s σ H x y v u Q I rx ry h
 obtain ⟨l,k,xs,rfl,rfl,hH,h1,h2,hz,q⟩:=h
 cases rx
 obtain ⟨t,rfl⟩:=ry
 obtain ⟨z,its,n,r,hl,e⟩:=I.lstM hH
 have hlen:its.toArray.size*k.toNat<=sizeLine:=by rw [List.size_toArray,<- hl]; exact hz
 have hcap:¬ its.toArray.size*k.toNat > (2 ^ 63 - 1) / 8:=by
  have:(sizeLine:Nat)<=(2 ^ 63 - 1) / 8:=by decide
  omega
 have hfit:¬ (!Builtin.List.listFitsIndex k)=true:=by
  rw [fitsIndex_both h1 h2]
  exact Bool.false_ne_true
 have hlong:¬ Builtin.List.listTooLong (its.toArray.size*k.toNat)=true:=by
  rw [rX hlen]
  exact Bool.false_ne_true
 have hnew:List.foldl (fun x1 x2=>x1++x2) #[] (List.replicate (if its.toArray.isEmpty=true then 0 else k.toNat) its.toArray)=(List.replicate k.toNat its).flatten.toArray:=by
  have f0:∀ m:Nat,List.foldl (fun x1 x2=>x1++x2) #[] (List.replicate m its.toArray)=(List.replicate m its).flatten.toArray:=fun m=>by
   have:=kO its m []
   rw [List.nil_append] at this
   exact this
  rw [f0]
  cases its with
  | nil=>simp
  | cons a r'=>rw [if_neg (by simp)]
 refine wpAny_binaryOp_repeat_ref (T := "list") (U := "int") (by decide) ⟨_,e,rfl⟩ (fun s'=>typeIs_int s' k t) noFill_list_mul F.fills_int_mul F.slot_int_rmul repeat_list F.slot_int_index.lookup
  (call_meets F.slot_int_rmul (typeIs_int s k t) F.entry_int_rmul (F.args_int_rmul_2 _ _) (int___rmul___int_list k t l its.toArray n)
   ⟨e,rfl,⟨_,e,rfl⟩,call_meets F.slot_list_mul ⟨_,e,rfl⟩ F.entry_list_mul (F.args_list_mul_2 _ _) (AutoListH.list___mul___list_int_3 l its.toArray n k t hfit hcap hlong) ⟨e,?_⟩⟩)
 rw [hnew]
 exact ⟨.ref _,_,I.lnew (t':=s.toks) (r.rep k.toNat) (by rw [ug,Nat.mul_comm]; exact hz),rfl,q _ I.fresh⟩
end
section
variable {prog:Program} {w:World} {A:Around} {E:Value->Shared->Prop} {s:Shared}
set_option maxRecDepth 100000 in
end
section
variable {X:Cx}
end
end L2
namespace Att
open PySem PySem.W PySem.Calls PyProof.Rows
theorem jo {P:Params} {h:Heap}:∀ (ns:List Int) (vs:List Value),WellAll P h vs (ns.map WData.int)->IntsAre vs ns:=by
 intro ns
 induction ns with
 | nil =>
  intro vs w
  rw [List.map_nil] at w
  cases w
  exact .nil
 | cons n ns ih =>
  intro vs w
  rw [List.map_cons] at w
  cases w with
  | cons a b =>
   cases a
   exact .cons _ _ (ih _ b)
theorem pB {l:OpenLaw} {n:Nat} (hn:l.most=some n) {P:Params} {h:Heap} {args:List WData} {vals:List Value}
  (hpre:l.row.toRowW.claim.pre args=true) (hwl:WellAll P h vals args) :
  ∃ a vs ns,vals=[Value.ref a]/\args=[WData.list (ns.map WData.int)]/\h.get? a=some { cls:=.type "list",data:=.seq vs.toArray }/\IntsAre vs ns/\ns.length<=n:=by
 have hsh:WShape.hasAll [] args [.list .int]=true:=(pre_splitW hpre).1
 have hc:l.pre.holds [] { args:=args }=true:=(pre_splitW hpre).2
 obtain ⟨d,r,rfl,h1,h2⟩:=hasAllW_cons hsh
 obtain rfl:=hasAllW_nil h2
 obtain ⟨xs,rfl,h3⟩:=hasW_list h1
 obtain ⟨ns,rfl⟩:=items_int h3
 have hlen:ns.length<=n:=by
  unfold OpenLaw.pre at hc
  have h4:(WTm.not (.lt (.lit (.int (n:Int))) (.len (.arg 0)))).holds [] { args:=[.list (ns.map .int)] }=true:=by
   have h4:=(holds_andW hc).1
   rw [hn] at h4
   exact h4
  have h5:=condW_of h4 (w_not (w_lt w_lit (w_len_list (w_arg rfl))))
  rw [List.length_map] at h5
  refine Nat.le_of_not_lt fun q=>?_
  have q':(n:Int)<((ns.length:Nat):Int):=by omega
  first
   | (rw [decide_eq_true q'] at h5; exact absurd h5 (by decide))
   | (simp at h5; omega)
 cases hwl with
 | cons w1 w2 =>
  cases w2
  cases w1 with
  | list ho hall=>exact ⟨_,_,ns,rfl,rfl,ho,jo ns _ hall,hlen⟩
theorem pN (l:OpenLaw) (args:List WData):l.row.toRowW.claim.post args (.bool true) args=true :=
 postW_of (r:=l.row.toRowW) (X:=(true==true))
  (show WShape.has [] (.bool true) .bool=true by first | rfl | decide | simp [WShape.has,WShape.arms,WShape.armsAll])
  (show (WTm.eq .res (.lit (.bool true))).value [] { args:=args,res:=some (.bool true),after:=args }=some (.bool (true==true)) from w_eq_bool (w_res rfl) w_lit) rfl
theorem attach_call {l:OpenLaw} {n:Nat} {q:Program} {loose:List Str} {XP:(Str->Option Value)->Heap->Prop} {YP:World->Heap->Prop} {d:DefRec}
  (hn:l.most=some n) (hdf:d.params.defaults=[])
  (call:∀ (w:World) (s₀ s₁:Shared) (mg mb:Str->Option Value) (fa:Addr) (o:Obj) (pm cd doc:Value) (a:Addr) (vs:List Value) (ns:List Int),
   Ground q loose [] XP w s₀ mg mb s₁.heap->YP w s₁.heap ->
   s₁.heap.get? fa=some o->o.data=.func (docDef d.name d.params d.body d.scope pm cd doc)->s₁.heap.CodeRec cd d.name->mg d.name=some (.ref fa) ->
   s₁.heap.get? a=some { cls:=.type "list",data:=.seq vs.toArray }->IntsAre vs ns->ns.length<=n->s₁.gens=#[] ->
   codeAny (model l.prog w) callerA (.call (.ref fa) ⟨[.ref a],[]⟩) (fun r s'=>r=.ok (.ret (.bool true))/\OldK s₁.heap s'.heap/\s'.os=s₁.os/\AllBare s'.gens) s₁) :
  WalkO q loose XP YP l.row.toRowW d [] (fun f vs=>PySem.call f vs):=by
 intro w s₀ s₁ mg mb G Y fa o pm cd doc dV kV ho hd hcd hD hmg hg args vals as hpre hlay hrd hwl hlo
 obtain rfl:dV=.none:=Dflts.none hD hdf
 obtain rfl:kV=.none:=Dflts.noKw hD
 obtain ⟨a,vs,ns,rfl,rfl,hobj,hints,hlen⟩:=pB hn hpre hwl
 refine enter_call (codeAny_mono (call w s₀ s₁ mg mb fa o pm cd doc a vs ns G Y ho (fd_plain hd) hcd hmg hobj hints hlen hg) fun r s' hq=>?_)
 obtain ⟨rfl,h2,h3,h4⟩:=hq
 exact ⟨.inl ⟨.bool true,.bool true,[],rfl,fun _=>rfl,.bool true,pN l _,fun _=>⟨List.Pairwise.nil,fun _ hm=>(nomatch hm)⟩⟩,h2,h3,h4⟩
section
variable {prog:Program} {w:World} {A:Around} {E:Value->Shared->Prop} {s:Shared} {K:Frag}
end
end Att
namespace L2
open PySem PySem.Spec PyProof.Rows
theorem kz:∀ {vs:List Value} {ns:List Int},IntsAre vs ns->Vals (ns.map V.int) vs
 | _,_,.nil=>.nil
 | _,_,.cons n t h=>.cons ⟨t,rfl⟩ (kz h)
noncomputable def Only (H:Hp):Prop:=∀ b,H b=none\/∃ o xs,H b=some (.frz o (.lst xs))
theorem si {P:Program} {w:World} {K:PySem.W.Frag} {mg mb:Str->Option Value} {CX:CXT} {k:Nat} {fa a:Addr} {fd:FuncData} {x:Str} {sp:Sp} {s₁:Shared} {vs:List Value} {ns:List Int}
  (KX:K.In s₁.heap) (hns:s₁.heap.Ns mainGlobals mg) (hb:s₁.heap.Ns builtinsNs mb) (hbb:∀ x:Str,x ≠ "__name__" -> mb x=bootBuiltins x) (hlim:s₁.heap.NoLimit) (hg:s₁.gens=#[])
  (ha:s₁.heap.get? a=some { cls:=.type "list",data:=.seq vs.toArray }) (hi:IntsAre vs ns) (hl:ns.length<=sizeLine) (hr:Room k callerA)
  (F:∀ base:Heap,K.In base->base.Ns mainGlobals mg->FnOk P w K mg base CX k fa fd [x] sp) (hbind:∀ (s:Shared) (u:Value),BindsTo s fd ⟨[u],[]⟩ [(x,u)])
  (hsp:∀ H:Hp,Only H->SqL K H a (ns.map V.int)->sp [.ref a] H (fun v _=>v=.bl true) fun _ _ _=>False)
  (hCX:∀ H e s',CX [] H s₁ (fun _ _ _=>False) e s'->False) :
  codeAny (model P w) callerA (.call (.ref fa) ⟨[.ref a],[]⟩) (fun r s'=>r=.ok (.ret (.bool true))/\OldK s₁.heap s'.heap/\s'.os=s₁.os/\AllBare s'.gens) s₁:=by
 have rv:=kz hi
 have lenV:=hi.length
 have core:∀ H:Hp,Only H->SqL K H a (ns.map V.int)->HOk P w H s₁.heap->(∀ b,H b≠none->b=a)->(H a≠none->K.lookup a=none) ->
   codeAny (model P w) callerA (.call (.ref fa) ⟨[.ref a],[]⟩) (fun r s'=>r=.ok (.ret (.bool true))/\OldK s₁.heap s'.heap/\s'.os=s₁.os/\AllBare s'.gens) s₁:=by
  intro H hO hS hok hA hK
  have base_of:∀ {b:Addr} {o:Obj},s₁.heap.get? b=some o->H b=none->(hidT s₁.heap H).get? b=some o:=fun e n=>sn e n
  have noA:∀ {b:Addr} {o:Obj} {es:Array DictEntry} {ep:Nat},s₁.heap.get? b=some o->o.data=.dict es ep->H b=none:=fun {b o es ep} e d=>by
   cases q:H b with
   | none=>rfl
   | some u =>
    have e':b=a:=hA b (by rw [q]; simp)
    subst e'
    rw [ha] at e; cases e
    have d':Data.seq vs.toArray _=Data.dict es ep:=d
    cases d'
  have nsK:∀ {b:Addr} {m:Str->Option Value},s₁.heap.Ns b m->(hidT s₁.heap H).Ns b m:=fun {b m} ⟨o,es,ep,e,d,r⟩=>⟨o,es,ep,base_of e (noA e d),d,r⟩
  have hKb:K.In (hidT s₁.heap H):=fun b o e=>base_of (KX b o e) (by
   cases q:H b with
   | none=>rfl
   | some u =>
    have e':b=a:=hA b (by rw [q]; simp)
    subst e'
    rw [hK (by rw [q]; simp)] at e; cases e)
  have hM:Mod K mg (hidT s₁.heap H):=⟨hKb,nsK hns,⟨mb,nsK hb,hbb⟩,let ⟨mc,h1,h2⟩:=hlim; ⟨mc,nsK h1,h2⟩⟩
  have e0:Env0 P w K mg (hidT s₁.heap H) callerA [] s₁ H:=⟨rfl,hM,fun b o e=>ua e,Nat.le_of_eq (qx _ _),trivial,fun b hb=>absurd (show b∈([]:List Addr) from hb) (by simp),hok,.of_eq hg⟩
  refine codeAny_mono ((F _ hKb (nsK hns)).run callerA [] s₁ H ⟨[.ref a],[]⟩ [.ref a] [.ref a] _ _ hr e0 (hbind s₁ (.ref a)) (.cons rfl .nil) (hsp H hO hS)) fun r s' h=>?_
  cases r with
  | error e=>exact (hCX H e s' h).elim
  | ok fl =>
   cases fl with
   | next=>exact False.elim h
   | brk=>exact False.elim h
   | cont=>exact False.elim h
   | ret u =>
    obtain ⟨v,H',os,bare,un,hok',r',q⟩:=h
    have q':v=.bl true:=q
    subst q'
    obtain rfl:u=Value.bool true:=r'
    refine ⟨rfl,OldK.of_keep fun b o e=>?_,os,bare⟩
    cases q:H b with
    | none=>exact un.keep b o e q (by intro z; exact absurd (show b∈([]:List Addr) from z) (by simp)) (by simp)
    | some u =>
     rcases hO b with z | ⟨ob,xs,z⟩
     ·rw [q] at z; cases z
     ·have z2:=un.frzs b ob _ z
      obtain ⟨e1,_⟩:=hok b _ z
      obtain ⟨e2,_⟩:=hok' b _ z2
      rw [e] at e1; cases e1
      exact e2
 cases hk:K.lookup a with
 | some o =>
  have e:=KX a o hk
  rw [ha] at e
  cases e
  refine core (fun _=>none) (fun _=>.inl rfl) (.inr ⟨_,vs.toArray,_,hk,rfl,rfl,rfl,by rw [List.size_toArray,lenV]; exact hl,by simpa using rv⟩) (fun b u z=>by have z':(none:Option HO)=some u:=z; cases z') (fun b z=>absurd rfl z) fun z=>absurd rfl z
 | none =>
  refine core (fun b=>if b=a then some (.frz { cls:=.type "list",data:=.seq vs.toArray } (.lst (ns.map V.int))) else none) (fun b=>?_) (.inl (.inr ⟨{ cls:=.type "list",data:=.seq vs.toArray },if_pos rfl⟩)) (fun b u z=>?_) (fun b z=>?_) fun _=>hk
  ·by_cases hb:b=a
   ·exact .inr ⟨_,_,if_pos hb⟩
   ·exact .inl (if_neg hb)
  ·by_cases hb:b=a
   ·have z':=(if_pos hb).symm.trans z
    cases z'
    subst hb
    exact ⟨ha,by rw [List.length_map]; exact hl,vs,_,rv,ha⟩
   ·have z':=(if_neg hb).symm.trans z
    cases z'
  ·by_cases hb:b=a
   ·exact hb
   ·exact absurd (if_neg hb) z
end L2
namespace L2
open PySem PySem.Spec PyProof.Rows
theorem nz {l:PySem.W.OpenLaw} {n k:Nat} {q:Program} {loose:List Str} {XP:(Str->Option Value)->Heap->Prop} {YP:World->Heap->Prop} {d:DefRec} {K:Params->PySem.W.Frag} {CX:World->CXT} {sp:World->Sp} {x:Str}
  (hn:l.most=some n) (hn2:n<=sizeLine) (hdf:d.params.defaults=[]) (hr:Room k callerA)
  (hY:∀ (w:World) (h:Heap),YP w h->(K w.params).In h)
  (F:∀ (w:World) (mg:Str->Option Value) (fa:Addr) (h:Heap),(K w.params).In h->h.Ns mainGlobals mg->mg d.name=some (.ref fa) ->
   ∃ fd:FuncData,(∀ (s:Shared) (u:Value),BindsTo s fd ⟨[u],[]⟩ [(x,u)]) /\
    ∀ base:Heap,(K w.params).In base->base.Ns mainGlobals mg->FnOk l.prog w (K w.params) mg base (CX w) k fa fd [x] (sp w))
  (hsp:∀ (w:World) (H:Hp) (a:Addr) (ns:List Int),ns.length<=n->Only H->SqL (K w.params) H a (ns.map V.int)->sp w [.ref a] H (fun v _=>v=.bl true) fun _ _ _=>False)
  (hCX:∀ (w:World) (H:Hp) (s:Shared) (e:Value) (s':Shared),CX w [] H s (fun _ _ _=>False) e s'->False) :
  PySem.W.WalkO q loose XP YP l.row.toRowW d [] (fun f vs=>PySem.call f vs):=by
 refine Att.attach_call hn hdf fun w s₀ s₁ mg mb fa o pm cd doc a vs ns G Y ho hd hcd hmg hobj hints hlen hg=>?_
 have KX:=hY w _ Y
 obtain ⟨fd,hb,hF⟩:=F w mg fa _ KX G.T.g hmg
 exact si KX G.T.g G.T.b G.T.builtins G.T.nolimit hg hobj hints (Nat.le_trans hlen hn2) hr hF hb (fun H hO hS=>hsp w H a ns hlen hO hS) fun H e s'=>hCX w H s₁ e s'
end L2
/- THE LAST THEOREM (shape; LID,My.* are yours):
  My.Adr: a structure of the addresses that your layer names (classes,functions); My.Txt K t: a structure (Prop) of the equations over K;
  My.txt_mk:{K} {implicit addresses ..} (e1:nsIn K mainGlobals "law" = some (some (.ref f))) (e2:K.lookup f=some ⟨oc,od,.func (fnOf "law" "law" params body scope dV kV doc pm an cdv ct),sl⟩) (e3:codeIn K cdv "law" = true) ..:∃ t,My.Txt K t
set_option maxRecDepth 100000 in
set_option maxHeartbeats 0 in
theorem PySem.Challenge.cw_LID_holds : PySem.Challenge.rw_LID.Holds := by
 w_on; o_law; k_head; (case hw=>w_witness2)
 k_fill
 refine L2.nz (l:=PySem.Challenge.rw_LID) (n:=63) (k:=40) (x := "script") (CX:=fun w=>..) (sp:=fun _=>My.sp_law) rfl (by decide) rfl ⟨rfl,by decide,by decide⟩ (fun w h Y=>PySem.W.kIn_of Y) ?F ?S ?C
 case F =>
  intro w mg fa h KX G hmg
  have T:∃ t,My.Txt (L2.KOf KX) t:=by
   dsimp only [L2.KOf]                          -- K must stand as «<heap const> w.params» for k_is
   refine' My.txt_mk ?e1 ?e2 ?e3 ..
   (case e1=>PySem.W.k_is)                    -- in the order: a name->its address->its object->its parts
   (case e2=>PySem.W.k_is)
   ..
  obtain ⟨t,T⟩:=T
  have e0:=hmg.symm.trans (PySem.W.mg_of KX G T.law)
  cases e0                                       -- fa is the law's own address
  exact ⟨_,fun s u=>.of_eq rfl,fun base kb nb=>My.law_fn T kb nb⟩     -- if «.of_eq rfl» comes too early: refine' ⟨_,?b,fun base kb nb=>My.law_fn T kb nb⟩; exact fun s u=>.of_eq rfl
 case S=>exact fun w H a ns hl hO hS=>..
 case C=>exact ..
(the tactic k_is has no namespace: write k_is) -/
namespace L2
open PySem PySem.Spec PyProof.Rows
noncomputable def dr (s:Stmt):Arguments:=match s with
 | .FunctionDef _ a _ _ _ _ _ _ _ _=>a
 | _=>{ posonlyargs:=[],args:=[],vararg:=none,kwonlyargs:=[],kw_defaults:=[],kwarg:=none,defaults:=[] }
noncomputable def b5 (s:Stmt):List Stmt:=match s with
 | .FunctionDef _ _ b _ _ _ _ _ _ _=>b
 | _=>[]
noncomputable def av (s:Stmt):Scope:=match s with
 | .FunctionDef _ _ _ _ _ _ sc _ _ _=>sc
 | _=>{ kind:=.function,names:=[],isGenerator:=false,isCoroutine:=false }
noncomputable abbrev CX0:CXT:=fun _ _ _ _ _ _=>False
noncomputable abbrev E0:XK:=fun _ _ _=>False
theorem pass0 {X:Cx}:Passes CX0 X E0:=fun _ _ _ _ _ _ _ h=>h.elim
structure Fun (K:PySem.W.Frag) (x qual:Str) (st:Stmt) (f:Addr) (fd:FuncData):Prop where
 ex:∃ (oc:Value) (od:Option Addr) (kV doc pm:Value) (an:Option Addr) (cdv ct:Value) (osl:Array (Option Value)),
  fd=PySem.W.fnOf x qual (dr st) (b5 st) (av st) .none kV doc pm an cdv ct/\K.lookup f=some ⟨oc,od,.func fd,osl⟩/\PySem.W.codeIn K cdv qual=true
 kp:PySem.W.keepIn K (.ref f)=true
section
variable {P:Program} {w:World} {K:PySem.W.Frag} {mg:Str->Option Value} {base:Heap}
theorem Fun.ok {x qual:Str} {st:Stmt} {f:Addr} {fd:FuncData} {N ps:List Str} {k:Nat} {sp:Sp} (F:Fun K x qual st f fd) (S:aD N ps (av st)) (len:∀ vs H Q E,sp vs H Q E->vs.length=ps.length)
  (hbody:∀ (cdv:Value) (A:Around) (outer:List Env) (s:Shared) (H:Hp) (vs:List V) (Q:VK) (E:XK),Room k (A.deeper (envOfC qual (av st) s.heap.objs.size f cdv))->sp vs H Q E ->
   ∃ t,PSs (cxOf CX0 P w K mg base N qual (av st) f cdv A outer s H E).nox (b5 st) t/\t { nx:=fun _ H'=>Q .non H',rt:=Q } (start N vs) H):FnOk P w K mg base CX0 (k+1) f fd ps sp:=by
 obtain ⟨oc,od,kV,doc,pm,an,cdv,ct,osl,rfl,lk,hcd⟩:=F.ex
 refine wN lk hcd S len fun A outer s H vs Q E hr hsp=>?_
 obtain ⟨t,h,q⟩:=hbody cdv A outer s H vs Q E hr hsp
 exact ⟨t,h.nox,q⟩
theorem Fun.binds {x qual:Str} {st:Stmt} {f:Addr} {fd:FuncData} {ps:List Str} (F:Fun K x qual st f fd)
  (h:∀ (kV doc pm:Value) (an:Option Addr) (cdv ct:Value) (us:List Value),us.length=ps.length->bindArgs (PySem.W.fnOf x qual (dr st) (b5 st) (av st) .none kV doc pm an cdv ct) ⟨us,[]⟩=pure (ps.zip us)):Binds K fd ps []:=by
 obtain ⟨oc,od,kV,doc,pm,an,cdv,ct,osl,rfl,lk,hcd⟩:=F.ex
 exact .all (h kV doc pm an cdv ct)
theorem qD {x qual:Str} {st:Stmt} {f:Addr} {oc:Value} {od an:Option Addr} {osl:Array (Option Value)} {kV doc pm cdv ct:Value} (l:K.lookup f=some ⟨oc,od,.func (PySem.W.fnOf x qual (dr st) (b5 st) (av st) .none kV doc pm an cdv ct),osl⟩)
  (c:PySem.W.codeIn K cdv qual=true) (k:PySem.W.keepIn K (.ref f)=true):Fun K x qual st f (PySem.W.fnOf x qual (dr st) (b5 st) (av st) .none kV doc pm an cdv ct):=⟨⟨oc,od,kV,doc,pm,an,cdv,ct,osl,rfl,l,c⟩,k⟩
end
section
variable {X:Cx}
theorem pv (i:Nat) {x:Str} {pos:Pos} (hN:autoParam (X.N[i]?=some x) Z2._auto_1) (hv:autoParam (Vis X.env.scope x) Z5._auto_1) (hd:autoParam ((x==("__debug__" : Str))=false) Z1._auto_1)
  (hcd:autoParam ((x==("__classdict__" : Str))=false) Z1._auto_1):PE X (.Name x pos) (tVar i):=vm hN hv hd hcd
end
theorem iteF {A B:Prop} (h:B):if false=true then A else B:=by
 rw [if_neg Bool.false_ne_true]
 exact h
theorem iteT {A B:Prop} (h:A):if true=true then A else B:=by
 rw [if_pos rfl]
 exact h
theorem ite2 {c A B:Prop} [Decidable c] (h1:c->A) (h2:¬ c->B):if c then A else B:=by
 by_cases h:c
 ·rw [if_pos h]
  exact h1 h
 ·rw [if_neg h]
  exact h2 h
noncomputable def Same (H H':Hp):Prop:=∀ b o,H b=some o->H' b=some o
theorem Same.refl (H:Hp):Same H H:=fun _ _ h=>h
theorem Same.free {H H':Hp} (e:Same H H') {l:Addr} (h:H' l=Option.none):H l=Option.none:=by
 cases q:H l with
 | none=>rfl
 | some o =>
  rw [e l o q] at h
  cases h
theorem Same.seq {K:PySem.W.Frag} {H H':Hp} {a:Addr} {xs:List V} (e:Same H H') (h:SqL K H a xs):SqL K H' a xs:=by
 rcases h with (h | ⟨o,h⟩) | h
 ·exact .inl (.inl (e _ _ h))
 ·exact .inl (.inr ⟨o,e _ _ h⟩)
 ·exact .inr h
end L2
namespace L2
open PySem PySem.Spec PyProof.Rows
section
variable {κ:Type} [DecidableEq κ]
noncomputable def valV (kvs:List (κ×V)) (k:κ):Option V:=(kvs.find? fun kv=>decide (kv.1=k)).map (·.2)
noncomputable def putK (kvs:List (κ×V)) (k:κ) (v:V):List (κ×V) :=
 if (kvs.any fun kv=>decide (kv.1=k))=true then kvs.map (fun kv=>if kv.1=k then (kv.1,v) else kv) else kvs++[(k,v)]
noncomputable def dropK (kvs:List (κ×V)) (k:κ):List (κ×V):=kvs.filter fun kv=>decide (kv.1≠k)
theorem ft {p:κ×V} {r:List (κ×V)} {k:κ} (e:p.1=k):valV (p::r) k=some p.2:=by simp [valV,List.find?_cons,e]
theorem fu {p:κ×V} {r:List (κ×V)} {k:κ} (e:¬ p.1=k):valV (p::r) k=valV r k:=by simp [valV,List.find?_cons,e]
theorem lF (k:κ):∀ kvs:List (κ×V),(kvs.any fun kv=>decide (kv.1=k))=(valV kvs k).isSome
 | []=>rfl
 | p::r=>by
  rw [List.any_cons]
  by_cases e:p.1=k
  ·simp only [ft e,decide_eq_true e,Bool.true_or,Option.isSome_some]
  ·rw [fu e,decide_eq_false e,Bool.false_or]; exact lF k r
theorem eR (kvs:List (κ×V)) (k:κ) (v:V):(putK kvs k v).length<=kvs.length+1:=by
 unfold putK
 split
 ·rw [List.length_map]; omega
 ·rw [List.length_append,List.length_cons,List.length_nil]; omega
theorem RelO.isSome_eq {o:Option V} {u:Option Value} (r:RelO o u):o.isSome=u.isSome:=by
 cases o with
 | none=>cases u with
  | none=>rfl
  | some _=>exact (show False from r).elim
 | some _=>cases u with
  | none=>exact (show False from r).elim
  | some _=>rfl
theorem KV.val {kvs:List (κ×V)} {vs:List (κ×Value)} (r:KV kvs vs) (k:κ):RelO (valV kvs k) (valueAt vs k):=by
 unfold KV at r
 induction r with
 | nil=>exact True.intro
 | @cons p q ps qs h t ih =>
  obtain ⟨h1,h2⟩:=h
  by_cases e:p.1=k
  ·have e':q.1=k:=h1.symm.trans e
   have b:valueAt (q::qs) k=some q.2:=by simp [valueAt,List.find?_cons,e']
   rw [ft e,b]; exact h2
  ·have e':¬ q.1=k:=fun z=>e (h1.trans z)
   have b:valueAt (q::qs) k=valueAt qs k:=by simp [valueAt,List.find?_cons,e']
   rw [fu e,b]; exact ih
theorem KV.any {kvs:List (κ×V)} {vs:List (κ×Value)} (r:KV kvs vs) (k:κ):(kvs.any fun kv=>decide (kv.1=k))=vs.any fun kv=>decide (kv.1=k):=by
 unfold KV at r
 induction r with
 | nil=>rfl
 | cons h t ih=>rw [List.any_cons,List.any_cons,ih,h.1]
theorem KV.repl {kvs:List (κ×V)} {vs:List (κ×Value)} (r:KV kvs vs) (k:κ) {y:V} {u:Value} (ry:RelV y u) :
  KV (kvs.map fun kv=>if kv.1=k then (kv.1,y) else kv) (vs.map fun kv=>if kv.1=k then (kv.1,u) else kv):=by
 unfold KV at r ⊢
 induction r with
 | nil=>exact .nil
 | @cons p q ps qs h t ih =>
  rw [List.map_cons,List.map_cons]
  refine .cons ?_ ih
  obtain ⟨h1,h2⟩:=h
  by_cases e:p.1=k
  ·rw [if_pos e,if_pos (h1.symm.trans e)]; exact ⟨h1,ry⟩
  ·rw [if_neg e,if_neg (fun z=>e (h1.trans z))]; exact ⟨h1,h2⟩
theorem KV.put {kvs:List (κ×V)} {vs:List (κ×Value)} (r:KV kvs vs) (k:κ) {y:V} {u:Value} (ry:RelV y u):KV (putK kvs k y) (stored vs k u):=by
 unfold putK stored
 rw [r.any k]
 by_cases e:(vs.any fun kv=>decide (kv.1=k))=true
 ·rw [if_pos e,if_pos e]; exact r.repl k ry
 ·rw [if_neg e,if_neg e]; exact Paired.snoc r ⟨rfl,ry⟩
theorem KV.drop {kvs:List (κ×V)} {vs:List (κ×Value)} (r:KV kvs vs) (k:κ):KV (dropK kvs k) (without vs k):=by
 unfold KV at r ⊢
 unfold dropK without
 induction r with
 | nil=>exact .nil
 | @cons p q ps qs h t ih =>
  obtain ⟨h1,h2⟩:=h
  rw [List.filter_cons,List.filter_cons]
  by_cases e:p.1=k
  ·have a:¬ decide (p.1≠k)=true:=by simp [e]
   have b:¬ decide (q.1≠k)=true:=by simp [h1.symm.trans e]
   rw [if_neg a,if_neg b]; exact ih
  ·have e':¬ q.1=k:=fun z=>e (h1.trans z)
   have a:decide (p.1≠k)=true:=by simp [e]
   have b:decide (q.1≠k)=true:=by simp [e']
   rw [if_pos a,if_pos b]; exact .cons ⟨h1,h2⟩ ih
theorem KV.keys {kvs:List (κ×V)} {vs:List (κ×Value)} (r:KV kvs vs):kvs.map (·.1)=vs.map (·.1):=by
 unfold KV at r
 induction r with
 | nil=>rfl
 | cons h t ih=>rw [List.map_cons,List.map_cons,ih,h.1]
theorem KV.length {kvs:List (κ×V)} {vs:List (κ×Value)} (r:KV kvs vs):kvs.length=vs.length:=Paired.length r
theorem sD (kvs:List (κ×V)) (k:κ):(dropK kvs k).length<=kvs.length:=List.length_filter_le _ _
end
theorem fI {P:Program} {w:World} {k:Key} {u:Value} (r:RelV (kV k) u):(aO P w).is k u=true:=by
 cases k with
 | inl i=>obtain ⟨t,e⟩:=(show ∃ t,u=Value.int i t from r); subst e; exact np P w i t
 | inr x=>obtain ⟨t,e⟩:=(show ∃ t,u=Value.str x t from r); subst e; exact g5 P w x t
theorem kJ {P:Program} {w:World}:∀ {ks:List Key} {us:List Value},Vals (ks.map kV) us->ItemsAre (aO P w) ks us
 | [],_,r=>by rw [List.map_nil] at r; cases r; exact .nil
 | k::ks,_,r=>by
  rw [List.map_cons] at r
  cases r with
  | cons h t=>exact .cons (fI h) (kJ t)
noncomputable abbrev KT (H:Hp):List (List Key×V)->List (List Key×Addr×Value)->Prop:=Paired fun p q=>p.1=q.1/\H q.2.1=some (.tup (p.1.map kV))/\RelV p.2 q.2.2
theorem KT.val {H:Hp} {kvs:List (List Key×V)} {xs:List (List Key×Addr×Value)} (r:KT H kvs xs) (k:List Key):RelO (valV kvs k) ((atKey xs k).map (·.2)):=by
 induction r with
 | nil=>exact True.intro
 | @cons p q ps qs h t ih =>
  obtain ⟨h1,_,h2⟩:=h
  by_cases e:p.1=k
  ·have e':q.1=k:=h1.symm.trans e
   have b:atKey (q::qs) k=some q.2:=by simp [atKey,List.find?_cons,e']
   rw [ft e,b]; exact h2
  ·have e':¬ q.1=k:=fun z=>e (h1.trans z)
   have b:atKey (q::qs) k=atKey qs k:=by simp [atKey,List.find?_cons,e']
   rw [fu e,b]; exact ih
theorem KT.repl {H:Hp} {kvs:List (List Key×V)} {xs:List (List Key×Addr×Value)} (r:KT H kvs xs) (k:List Key) {y:V} {u:Value} (ry:RelV y u) :
  KT H (kvs.map fun kv=>if kv.1=k then (kv.1,y) else kv) (xs.map (putAt k u)):=by
 induction r with
 | nil=>exact .nil
 | @cons p q ps qs h t ih =>
  rw [List.map_cons,List.map_cons]
  refine .cons ?_ ih
  obtain ⟨h1,h2,h3⟩:=h
  unfold putAt
  by_cases e:p.1=k
  ·rw [if_pos e,if_pos (h1.symm.trans e)]; exact ⟨h1,h2,ry⟩
  ·rw [if_neg e,if_neg (fun z=>e (h1.trans z))]; exact ⟨h1,h2,h3⟩
theorem KT.put {H:Hp} {kvs:List (List Key×V)} {xs:List (List Key×Addr×Value)} (r:KT H kvs xs) (k:List Key) {b:Addr} {y:V} {u:Value} (hb:H b=some (.tup (k.map kV))) (ry:RelV y u) :
  KT H (putK kvs k y) (storedH xs k b u):=by
 have e:(kvs.any fun kv=>decide (kv.1=k))=(atKey xs k).isSome:=by
  rw [lF,(r.val k).isSome_eq,Option.isSome_map]
 unfold putK storedH
 rw [e]
 by_cases q:(atKey xs k).isSome=true
 ·rw [if_pos q,if_pos q]; exact r.repl k ry
 ·rw [if_neg q,if_neg q]; exact Paired.snoc r ⟨rfl,hb,ry⟩
theorem KT.keeps {H H':Hp} {kvs:List (List Key×V)} {xs:List (List Key×Addr×Value)} (r:KT H kvs xs) (ht:∀ b ys,H b=some (.tup ys)->H' b=some (.tup ys)):KT H' kvs xs :=
 Paired.mapP r fun _ _ z=>⟨z.1,ht _ _ z.2.1,z.2.2⟩
section
variable {P:Program} {w:World} {H:Hp} {h:Heap} {a:Addr}
theorem sP {u:HO} (ok:HOk P w H h) (e:Rd H a u):ObjOk P w H h a u:=e.ok ok
theorem fJ {kvs:List (Key×V)} (ok:HOk P w H h) (e:Rd H a (.dK kvs)):kvs.length<=sizeLine/\(a==sysModules)=false/\∃ vs,KV kvs vs/\h.DictOf (aO P w) a vs :=
 show ObjOk P w H h a (.dK kvs) from sP ok e
theorem jr {kvs:List (Key×V)} (ok:HOk P w H h) (e:H a=some (.dK kvs)):kvs.length<=sizeLine/\(a==sysModules)=false/\∃ vs,KV kvs vs/\h.DictOf (aO P w) a vs:=fJ ok (.inl e)
theorem gh {ks:List Key} (ok:HOk P w H h) (e:H a=some (.tup (ks.map kV))):(tupleKind (aO P w)).is h ks a:=by
 obtain ⟨_,its,r,o,h1,h2,n,h3⟩:=(show ObjOk P w H h a (.tup (ks.map kV)) from ok a _ e)
 exact ⟨o,its.toArray,n,h1,h2,h3,by simpa using kJ r⟩
theorem gO {kvs:List (List Key×V)} (ok:HOk P w H h) (e:Rd H a (.dT kvs)):kvs.length<=sizeLine/\(a==sysModules)=false /\
  ∃ xs,KT H kvs xs/\h.DictOfH (tupleKind (aO P w)) a xs:=by
 obtain ⟨z,y,xs,r,o,es,ep,h1,h2,h3,h4,h5⟩:=(show ObjOk P w H h a (.dT kvs) from sP ok e)
 refine ⟨z,y,xs,r,o,es,ep,h1,h2,h3,h4,fun x hx=>?_,h5⟩
 have all:∀ {l:List (List Key×V)} {m:List (List Key×Addr×Value)},KT H l m->∀ x∈m,(tupleKind (aO P w)).is h x.1 x.2.1:=by
  intro l m q
  induction q with
  | nil=>intro x hx; exact nomatch hx
  | @cons p q ps qs hq t ih =>
   intro x hx
   rcases List.mem_cons.mp hx with e | hx
   ·subst e
    exact gh ok (by rw [<- hq.1]; exact hq.2.1)
   ·exact ih x hx
 exact all r x hx
theorem wP {kvs:List (List Key×V)} (ok:HOk P w H h) (e:H a=some (.dT kvs)):kvs.length<=sizeLine/\(a==sysModules)=false /\
  ∃ xs,KT H kvs xs/\h.DictOfH (tupleKind (aO P w)) a xs:=gO ok (.inl e)
end
noncomputable def DGet (H:Hp) (a:Addr) (y:V) (r:Option V):Prop :=
 (∃ kvs k,Rd H a (.dK kvs)/\y=kV k/\r=valV kvs k)\/∃ kvs k b,Rd H a (.dT kvs)/\y=.ref b/\H b=some (.tup (k.map kV))/\r=valV kvs k
noncomputable def DPut (H:Hp) (a:Addr) (y v:V) (H':Hp):Prop :=
 (∃ kvs k,H a=some (.dK kvs)/\y=kV k/\kvs.length<sizeLine/\H'=upd H a (.dK (putK kvs k v))) \/
 ∃ kvs k b,H a=some (.dT kvs)/\y=.ref b/\H b=some (.tup (k.map kV))/\kvs.length<sizeLine/\H'=upd H a (.dT (putK kvs k v))
theorem DGet.k {H:Hp} {a:Addr} {kvs:List (Key×V)} {k:Key} (e:H a=some (.dK kvs)):DGet H a (kV k) (valV kvs k):=.inl ⟨kvs,k,.inl e,rfl,rfl⟩
theorem DPut.k {H:Hp} {a:Addr} {kvs:List (Key×V)} {k:Key} {v:V} (e:H a=some (.dK kvs)) (hl:kvs.length<sizeLine):DPut H a (kV k) v (upd H a (.dK (putK kvs k v))):=.inl ⟨kvs,k,e,rfl,hl,rfl⟩
section
variable {X:Cx} {pins:List (Addr×Obj)} {σ:St} {H:Hp} {s:Shared} {a:Addr} {y v:V} {u r:Value} {o:Option V} {A:Around} {E:Value->Shared->Prop}
theorem Inv.big (I:Inv X pins σ H s):sysModules<s.heap.objs.size:=by
 have h:mainGlobals<s.heap.objs.size:=(I.mod.glob.keeps I.bk).lt
 exact Nat.lt_trans (by decide) h
theorem qP {Q:Value->Shared->Prop} (hu:A.units+1<cLine) (I:Inv X pins σ H s) (g:DGet H a y (some v)) (ry:RelV y u) (h:∀ w' s',Inv X pins σ H s'->RelV v w'->Q w' s') :
  wpAny (model X.prog X.w) A (getItem (.ref a) u) Q E s:=by
 rcases g with ⟨kvs,k,e,ey,l⟩ | ⟨kvs,k,b,e,ey,eb,l⟩
 ·subst ey
  obtain ⟨z,hd,vs,rel,dd⟩:=fJ I.hok e
  obtain ⟨w',hw,rw'⟩:=RelO.some_of (v:=v) (o:=valueAt vs k) (by rw [l]; exact rel.val k)
  exact wpAny_getItem_of (fI ry) dd.mapOf hw (h w' _ (I.tok _) rw')
 ·subst ey
  cases (show u=Value.ref b from ry)
  obtain ⟨z,hd,xs,rel,dd⟩:=gO I.hok e
  obtain ⟨w',hw,rw'⟩:=RelO.some_of (v:=v) (o:=(atKey xs k).map (·.2)) (by rw [l]; exact rel.val k)
  obtain ⟨p,hp,hp2⟩:=Option.map_eq_some_iff.mp hw
  refine wpAny_getItem_heap (tupleKind_room_in1 hu) (gh I.hok eb) dd hp ?_
  rw [hp2]
  exact h w' _ (I.tok _) rw'
theorem wT {Q:Value->Shared->Prop} (hu:A.units+1<cLine) (I:Inv X pins σ H s) (g:DGet H a y o) (ry:RelV y u) (h:∀ s',Inv X pins σ H s'->Q (.bool o.isSome) s') :
  wpAny (model X.prog X.w) A (compareOp .In u (.ref a)) Q E s:=by
 rcases g with ⟨kvs,k,e,ey,l⟩ | ⟨kvs,k,b,e,ey,eb,l⟩
 ·subst ey
  obtain ⟨z,hd,vs,rel,dd⟩:=fJ I.hok e
  refine wpAny_in_of (fI ry) hd dd.mapOf ?_
  rw [<- (rel.val k).isSome_eq,<- l]
  exact h _ (I.tok _)
 ·subst ey
  cases (show u=Value.ref b from ry)
  obtain ⟨z,hd,xs,rel,dd⟩:=gO I.hok e
  refine wpAny_in_heap (tupleKind_room_in1 hu) (gh I.hok eb) hd dd ?_
  have q:=(rel.val k).isSome_eq
  rw [Option.isSome_map] at q
  rw [<- q,<- l]
  exact h _ (I.tok _)
theorem uJ {Q:Value->Shared->Prop} (hu:A.units+1<cLine) (I:Inv X pins σ H s) (g:DGet H a y o) (ry:RelV y u) (h:∀ s',Inv X pins σ H s'->Q (.bool (!o.isSome)) s') :
  wpAny (model X.prog X.w) A (compareOp .NotIn u (.ref a)) Q E s:=by
 rcases g with ⟨kvs,k,e,ey,l⟩ | ⟨kvs,k,b,e,ey,eb,l⟩
 ·subst ey
  obtain ⟨z,hd,vs,rel,dd⟩:=fJ I.hok e
  refine wpAny_notIn_of (fI ry) hd dd.mapOf ?_
  rw [<- (rel.val k).isSome_eq,<- l]
  exact h _ (I.tok _)
 ·subst ey
  cases (show u=Value.ref b from ry)
  obtain ⟨z,hd,xs,rel,dd⟩:=gO I.hok e
  refine wpAny_notIn_heap (tupleKind_room_in1 hu) (gh I.hok eb) hd dd ?_
  have q:=(rel.val k).isSome_eq
  rw [Option.isSome_map] at q
  rw [<- q,<- l]
  exact h _ (I.tok _)
theorem gP {h':Heap} {t':Nat} {ob:HO} (I:Inv X pins σ H s) (mu:Mut (H a)) (hs:Heap.SameBut a s.heap h') (he:∃ q,h'.get? a=some q) (new:ObjOk X.prog X.w (upd H a ob) h' a ob) :
  Inv X pins σ (upd H a ob) { s with heap:=h',toks:=t' } :=
 I.write (x:=a) (e:=a) mu (.inl rfl) (fun b q hb z=>(hs.2 b hb).trans z) he new
theorem mH {P:Program} {w:World} {H':Hp} {h':Heap} {kvs:List (Key×V)} {vs:List (Key×Value)} (z:kvs.length<=sizeLine) (hd:(a==sysModules)=false) (rel:KV kvs vs) (dd:h'.DictOf (aO P w) a vs) :
  ObjOk P w H' h' a (.dK kvs):=⟨z,hd,vs,rel,dd⟩
theorem qO {H':Hp} {Q:Unit->Shared->Prop} (hu:A.units+1<cLine) (I:Inv X pins σ H s) (g:DPut H a y v H') (ry:RelV y u) (rv:RelV v r) (h:∀ s',Inv X pins σ H' s'->Q () s') :
  wpAny (model X.prog X.w) A (setItem (.ref a) u r) Q E s:=by
 rcases g with ⟨kvs,k,e,ey,l,eH⟩ | ⟨kvs,k,b,e,ey,eb,l,eH⟩
 ·subst ey eH
  obtain ⟨z,hd,vs,rel,dd⟩:=jr I.hok e
  have hz:vs.length<=sizeLine:=by rw [<- rel.length]; exact z
  have hl:(putK kvs k v).length<=sizeLine:=by have:=eR kvs k v; omega
  refine wpAny_setItem_pairs (hsz:=hz) (fI ry) dd fun h' dd' hs=>h _ ?_
  have he:∃ q,h'.get? a=some q:=let ⟨q,_,_,hq,_⟩:=dd'; ⟨q,hq⟩
  exact gP I (by rw [e]; exact True.intro) hs he (mH hl hd (rel.put k rv) dd')
 ·subst ey eH
  cases (show u=Value.ref b from ry)
  obtain ⟨z,hd,xs,rel,dd⟩:=wP I.hok e
  have hz:xs.length<=sizeLine:=by rw [<- Paired.length rel]; exact z
  have hl:(putK kvs k v).length<=sizeLine:=by have:=eR kvs k v; omega
  refine wpAny_setItem_heap (hsz:=hz) (tupleKind_room_in1 hu) (gh I.hok eb) dd fun h' dd' hs=>h _ ?_
  obtain ⟨q,es,ep,hq,h2,h3,h4,_,h5⟩:=dd'
  refine gP I (by rw [e]; exact True.intro) hs ⟨q,hq⟩ ⟨hl,hd,_,(rel.put k eb rv).keeps fun c ys ec=>?_,q,es,ep,hq,h2,h3,h4,h5⟩
  rw [aq (sY ec e (fun z=>nomatch z))]
  exact ec
end
section
variable {X:Cx} {pins:List (Addr×Obj)} {σ:St} {H:Hp} {s:Shared} {a:Addr} {kvs:List (Key×V)} {k:Key} {u:Value} {A:Around} {E:Value->Shared->Prop}
theorem wQ {v:V} {more:List Value} {Q:Value->Shared->Prop} (I:Inv X pins σ H s) (e:H a=some (.dK kvs)) (ry:RelV (kV k) u) (l:valV kvs k=some v) (hm:more=[]\/∃ x,more=[x])
  (h:∀ w' s',Inv X pins σ (upd H a (.dK (dropK kvs k))) s'->RelV v w'->Q w' s'):wpAny (model X.prog X.w) A (call (.builtin "dict.pop") (.ref a::u::more)) Q E s:=by
 obtain ⟨z,hd,vs,rel,dd⟩:=jr I.hok e
 obtain ⟨w',hw,rw'⟩:=RelO.some_of (v:=v) (o:=valueAt vs k) (by rw [<- l]; exact rel.val k)
 have hp:(keyPart u).isSome=true:=by
  cases k with
  | inl i=>obtain ⟨t,q⟩:=(show ∃ t,u=Value.int i t from ry); subst q; rfl
  | inr x=>obtain ⟨t,q⟩:=(show ∃ t,u=Value.str x t from ry); subst q; rfl
 have ha:argsOk "dict.pop" ⟨.ref a::u::more,[]⟩:=by
  rcases hm with q | ⟨x,q⟩
  ·subst q; exact PySem.F.args_dict_pop_2 _ _
  ·subst q; exact PySem.F.args_dict_pop_3 _ _ _
 refine call_meetsIn PySem.F.slot_dict_pop dd.typeIs PySem.F.entry_dict_pop ha (meets_dict_pop_there (aO X.prog X.w) a (fI ry) more hm hp)
  ⟨vs,w',dd,by rw [<- rel.length]; exact z,hw,fun h' dd' hs=>h w' _ ?_ rw'⟩
 have he:∃ q,h'.get? a=some q:=let ⟨q,_,_,hq,_⟩:=dd'; ⟨q,hq⟩
 exact gP I (by rw [e]; exact True.intro) hs he (mH (Nat.le_trans (sD kvs k) z) hd (rel.drop k) dd')
theorem wR {Q:Value->Shared->Prop} (I:Inv X pins σ H s) (e:Rd H a (.dK kvs)) (h:∀ t s',Inv X pins σ H s'->Q (.int kvs.length t) s'):wpAny (model X.prog X.w) A (call (.builtin "len") [.ref a]) Q E s:=by
 obtain ⟨z,hd,vs,rel,dd⟩:=fJ I.hok e
 refine call_len_dict hd dd (by rw [<- rel.length]; rw [sizeLine_eq] at z; omega) ?_
 rw [<- rel.length]
 exact h _ _ (I.tok _)
end
noncomputable def NoSl (i:Expr):Prop:=∀ ov iv,subscripted i false ov iv=operate [ov,iv] (getItem ov iv)
theorem tD {prog:Program} {w:World} {A:Around} {E:Value->Shared->Prop} {s:Shared} {env:Env} {value slice:Expr} {pos:Pos} {T id:String} {Q:Value->Shared->Prop}
  (hl:typeLookup (.type T) "__getitem__" = pure (some (.builtin id))) (hs:NoSl slice)
  (h:wpAny (model prog w) A (eval value env) (fun o s₁=>wpAny (model prog w) A (eval slice env) (fun i s₂=>s₂.TypeIs o T/\wpAny (model prog w) A (getItem o i) Q E s₂) E s₁) E s) :
  wpAny (model prog w) A (eval (.Subscript value slice pos) env) Q E s:=by
 refine Subscript_ (wpAny_mono h (fun o s₁ h₁=>wpAny_mono h₁ (fun i s₂ h₂=>?_) fun _ _ x=>x) fun _ _ x=>x)
 obtain ⟨hT,h₂⟩:=h₂
 unfold subscriptTail
 refine wpAny_bind ?_
 rw [getitemInPython_of_ne hT.not_modules]
 refine wpAny_bind (wpAny_specialOf hT hl ?_)
 have fin:wpAny (model prog w) A (subscripted slice false o i) (fun r s₃=>wpAny (model prog w) A (letTemporaryGo value o r >>= fun _=>pure r) Q E s₃) E s₂:=by
  rw [hs o i]
  exact wpAny_operating (wpAny_mono h₂ (fun r s₃ h₃=>wpAny_bind (wpAny_letTemporaryGo (wpAny_pure h₃))) fun _ _ x=>x)
 first
  | exact wpAny_pure (wpAny_bind fin)
  | exact wpAny_bind (wpAny_pure (wpAny_bind fin))
  | exact wpAny_bind fin
theorem nu {X:Cx} {pins:List (Addr×Obj)} {σ:St} {H:Hp} {s:Shared} {a:Addr} {y:V} {o:Option V} (I:Inv X pins σ H s) (g:DGet H a y o):s.TypeIs (.ref a) "dict" := by
 rcases g with ⟨kvs,k,e,_,_⟩ | ⟨kvs,k,b,e,_,_,_⟩
 ·obtain ⟨_,_,vs,_,dd⟩:=fJ I.hok e
  exact dd.typeIs
 ·obtain ⟨_,_,xs,_,dd⟩:=gO I.hok e
  exact dd.typeIs
section
variable {X:Cx} {o i e value:Expr} {pos pos' tpos:Pos} {td ty tv:TE}
end
theorem sE {P:Program} {w:World} {H:Hp} (h:Heap) (hb:sysModules<h.objs.size):ObjOk P w H (h.push { cls:=.type "dict",data:=.dict #[] }) h.objs.size (.dK []) :=
 ⟨Nat.zero_le _,beq_eq_false_iff_ne.mpr (Ne.symm (Nat.ne_of_lt hb)),[],.nil,Heap.DictOf.new h⟩
section
variable {X:Cx} {pos:Pos}
end
noncomputable def tPairs:List (TE×TE)->St->Hp->(List (V×V)->Hp->Prop)->Prop
 | [],_,H,Q=>Q [] H
 | (tk,tv)::r,σ,H,Q=>tk σ H fun x H1=>tv σ H1 fun y H2=>tPairs r σ H2 fun ps H3=>Q ((x,y)::ps) H3
noncomputable abbrev VV:List (V×V)->List (Value×Value)->Prop:=Paired fun p q=>RelV p.1 q.1/\RelV p.2 q.2
noncomputable def PPs (X:Cx) (pos:Pos) (keys:List (Option Expr)) (values:List Expr) (trs:List (TE×TE)):Prop :=
 ∀ (pins:List (Addr×Obj)) (s:Shared) (σ:St) (H:Hp) (Q:List (V×V)->Hp->Prop),Inv X pins σ H s->tPairs trs σ H Q ->
  wpAny (model X.prog X.w) X.A (evalPairs (pairTrees keys values X.env pos)) (fun vs s'=>∃ ps H',Inv X pins σ H' s'/\VV ps vs/\Q ps H') X.xe s
theorem tR {X:Cx} {pos:Pos}:PPs X pos [] [] []:=fun pins s σ H Q I h=>pairTrees_nil_walk ⟨[],H,I,.nil,h⟩
theorem rG {X:Cx} {pos:Pos} {k v:Expr} {ks:List (Option Expr)} {vs:List Expr} {tk tv:TE} {trs:List (TE×TE)} (hk:PE X k tk) (hv:PE X v tv) (hr:PPs X pos ks vs trs) :
  PPs X pos (some k::ks) (v::vs) ((tk,tv)::trs):=fun pins s σ H Q I h =>
 pairTrees_cons_walk (thn (hk pins s σ H _ I h) fun u s1 ⟨x,H1,I1,rx,q1⟩=>thn (hv pins s1 σ H1 _ I1 q1) fun w2 s2 ⟨y,H2,I2,ry,q2⟩ =>
  thn (hr pins s2 σ H2 _ I2 q2) fun ws s3 ⟨ps,H3,I3,rel,q3⟩=>⟨(x,y)::ps,H3,I3,.cons ⟨rx,ry⟩ rel,q3⟩)
noncomputable def mergeK (kvs more:List (Key×V)):List (Key×V):=more.foldl (fun acc kv=>putK acc kv.1 kv.2) kvs
structure M1 (X:Cx) (o:Expr) (m:Str) (apos:Pos) (e:Expr) (cpos:Pos):Prop where
 base:attributeBase o m X.env (eval o X.env)=eval o X.env
 few:((backTo cpos (starEach [e] X.env)).all (fun x=>!x.1) && (backToKw cpos (keywordEach [] X.env)).all (fun x=>x.1.isSome)
  && decide (([e]:List Expr).length+([]:List Keyword).length+(if ([]:List Keyword).isEmpty then 0 else 1)<30))=true
 line:(apos.endLine==cpos.line)=true
 trees:backTo cpos (starEach [e] X.env)=[(false,eval e X.env)]
noncomputable def IsD (H:Hp) (a:Addr):Prop:=(∃ kvs,Rd H a (.dK kvs))\/∃ kvs,Rd H a (.dT kvs)
theorem qu {X:Cx} {pins:List (Addr×Obj)} {σ:St} {H:Hp} {s:Shared} {a:Addr} (I:Inv X pins σ H s) (d:IsD H a) :
  s.TypeIs (.ref a) "dict" /\ (∀ b,Value.ref a=.ref b->∃ ob,s.heap.get? b=some ob/\ob.dict=none)/\(a==sysModules)=false:=by
 rcases d with ⟨kvs,e⟩ | ⟨kvs,e⟩
 ·obtain ⟨_,hd,vs,_,dd⟩:=fJ I.hok e
  refine ⟨dd.typeIs,fun b q=>?_,hd⟩
  cases q
  obtain ⟨ob,_,_,h1,h2,_⟩:=dd
  exact ⟨ob,h1,h2.2.1⟩
 ·obtain ⟨_,hd,xs,_,dd⟩:=gO I.hok e
  refine ⟨dd.typeIs,fun b q=>?_,hd⟩
  cases q
  obtain ⟨ob,_,_,h1,h2,_⟩:=dd
  exact ⟨ob,h1,h2.2.1⟩
section
variable {X:Cx} {pins:List (Addr×Obj)} {σ:St} {H:Hp} {s:Shared} {a:Addr} {y d:V} {u r:Value} {o:Option V} {A:Around} {E:Value->Shared->Prop}
end
noncomputable def tDPop1 (td ty:TE):TE:=fun σ H Q=>td σ H fun x H1=>∃ a,x=.ref a/\IsD H1 a/\ty σ H1 fun y H2=>∃ kvs k v,H2 a=some (.dK kvs)/\y=kV k/\valV kvs k=some v/\Q v (upd H2 a (.dK (dropK kvs k)))
section
variable {X:Cx} {o e f:Expr} {apos cpos:Pos} {td ty tx:TE}
theorem rM (ho:PE X o td) (he:PE X e ty) (m:M1 X o "pop" apos e cpos):PE X (.Call (.Attribute o "pop" apos) [e] [] cpos) (tDPop1 td ty):=by
 intro pins s σ H Q I h
 refine wpAny_Call_method m.base m.few m.line PySem.F.plainAttrs_dict PySem.F.slot_dict_pop PySem.F.type_dict_pop (thn (ho pins s σ H _ I h) fun u s1 ⟨x,H1,I1,rx,a,ex,d,q1⟩=>?_)
 subst ex
 obtain rfl:u=Value.ref a:=rx
 obtain ⟨t1,t2,_⟩:=qu I1 d
 refine ⟨t1,t2,?_⟩
 rw [m.trees]
 refine Calls.callWith_builtin rfl (Calls.evalArgs_plain (Calls.spliced_cons (thn (he pins s1 σ H1 _ I1 q1) fun iv s2 ⟨y,H2,I2,ry,kvs,k,v,ea,ey,l,q2⟩=>Calls.spliced_nil ?_)))
 subst ey
 exact wQ I2 ea ry l (.inl rfl) fun w' s3 I3 rw'=>⟨v,_,I3,rw',q2⟩
end
section
variable {X:Cx} {pins:List (Addr×Obj)} {σ:St} {H:Hp} {s:Shared} {a:Addr} {kvs:List (Key×V)} {A:Around} {E:Value->Shared->Prop}
end
section
variable {X:Cx} {pins:List (Addr×Obj)} {σ:St} {H:Hp} {s:Shared} {a:Addr} {y:V} {u:Value} {A:Around} {E:Value->Shared->Prop}
end
end L2
namespace L2
open PySem PySem.Spec PyProof.Rows
section
variable {X:Cx}
theorem qV:CallR X (.builtin "len") (fun xs H Q=>∃ a kvs,xs=[V.ref a]/\H a=some (.dK kvs)/\Q (.int kvs.length) H):=by
 intro pins s σ H xs us Q I r h
 obtain ⟨a,kvs,rfl,ha,q⟩:=h
 obtain ⟨u,rfl,ru⟩:=vals1 r
 cases ru
 exact wR I (.inl ha) fun t s' I'=>⟨.int kvs.length,H,I',⟨t,rfl⟩,q⟩
end
section
variable {κ:Type} [DecidableEq κ]
end
end L2
set_option maxHeartbeats 4000000
namespace L2
open PySem PySem.Spec PyProof.Rows
noncomputable def clOf (cells:List (Str×Addr)):List (Str×NameKind)->List (Str×Addr)->List (Str×Addr)
 | [],acc=>acc
 | (n,k)::r,acc=>if k==.free then clOf cells r ((n,(cells.lookup n).getD 0)::acc) else clOf cells r acc
theorem jt {env:Env}:∀ (names:List (Str×NameKind)) (acc:List (Str×Addr)),(∀ x∈names,x.2=.free->∃ c,env.cells.lookup x.1=some c) ->
  (forIn names acc fun (x:Str×NameKind) (cs:List (Str×Addr))=>match x with
   | (name,kind)=>if (kind==NameKind.free)=true then (do let c <- cellOf env name; pure (ForInStep.yield ((name,c)::cs))) else pure (ForInStep.yield cs):Sem (List (Str×Addr)))=pure (clOf env.cells names acc)
 | [],acc,_=>by simp [clOf]
 | (n,k)::r,acc,h=>by
  have hr:=fun acc=>jt (env:=env) r acc fun x hx=>h x (List.mem_cons_of_mem _ hx)
  rw [List.forIn_cons]
  unfold clOf
  by_cases hk:(k==NameKind.free)=true
  ·obtain ⟨c,hc⟩:=h (n,k) List.mem_cons_self (by simpa using hk)
   have hc':env.cells.lookup n=some c:=hc
   have e:cellOf env n=pure c:=by unfold cellOf; rw [hc']
   rw [if_pos hk]
   dsimp only
   rw [if_pos hk,e,pure_bind,pure_bind]
   rw [hc']
   exact hr _
  ·rw [if_neg hk]
   dsimp only
   rw [if_neg hk,pure_bind]
   exact hr acc
theorem fS {scope:Scope} {env:Env} (h:∀ x∈scope.names,x.2=.free->∃ c,env.cells.lookup x.1=some c):closureFor scope env=pure (clOf env.cells scope.names []):=by
 have e:=jt (env:=env) scope.names [] h
 unfold closureFor
 simp only [pure_bind,bind_pure]
 exact e
theorem dM {cells:List (Str×Addr)} {x:Str} {c:Addr}:∀ {names:List (Str×NameKind)} {acc:List (Str×Addr)},(∀ y∈names,y.2=.free->∃ c,cells.lookup y.1=some c)->(∀ c,acc.lookup x=some c->cells.lookup x=some c) ->
  (clOf cells names acc).lookup x=some c->cells.lookup x=some c
 | [],acc,_,ha,e=>ha c e
 | (n,k)::r,acc,h,ha,e=>by
  have hr:∀ y∈r,y.2=.free->∃ c,cells.lookup y.1=some c:=fun y hy=>h y (List.mem_cons_of_mem _ hy)
  unfold clOf at e
  split at e
  ·rename_i hk
   refine dM hr (fun c' e'=>?_) e
   rw [List.lookup_cons] at e'
   split at e'
   ·rename_i hx
    obtain ⟨c0,hc⟩:=h (n,k) List.mem_cons_self (by simpa using hk)
    have hc':cells.lookup n=some c0:=hc
    rw [hc'] at e'
    have:x=n:=by simpa using hx
    rw [this,hc']; exact e'
   ·exact ha c' e'
  ·exact dM hr ha e
theorem fL {cells:List (Str×Addr)} {x:Str}:∀ {names:List (Str×NameKind)} {acc:List (Str×Addr)},((x,NameKind.free)∈names\/∃ c,acc.lookup x=some c)->∃ c,(clOf cells names acc).lookup x=some c
 | [],acc,h=>by
  rcases h with h | h
  ·simp at h
  ·exact h
 | (n,k)::r,acc,h=>by
  unfold clOf
  split
  ·refine fL ?_
   rcases h with h | ⟨c,h⟩
   ·rcases List.mem_cons.mp h with e | e
    ·cases e
     exact .inr ⟨_,by rw [List.lookup_cons]; simp; rfl⟩
    ·exact .inl e
   ·refine .inr ?_
    rw [List.lookup_cons]
    split
    ·exact ⟨_,rfl⟩
    ·exact ⟨c,h⟩
  ·rename_i hk
   refine fL ?_
   rcases h with h | h
   ·rcases List.mem_cons.mp h with e | e
    ·cases e
     exact absurd rfl hk
    ·exact .inl e
   ·exact .inr h
noncomputable def cxComp (X:Cx) (scope:Scope) (N:List Str) (C:Addr) (s₀:Shared) (H₀:Hp) (ex:List Addr) (pn:List (Addr×Obj)):Cx :=
 { X with N:=N,s₀:=s₀,H₀:=H₀,env:=compEnvC scope (clOf X.env.cells scope.names []) C X.env,outer:=X.stack,stack:=X.stack,ex:=ex,fn:=fun _=>false,pn:=pn,xe:=fun _ _=>False }
noncomputable def capS (js:List (Option Nat)) (σ:St):St:=js.map fun o=>o.bind fun j=>(σ[j]?).getD none
noncomputable def capOk (M:List Str) (scope:Scope) (N:List Str) (js:List (Option Nat)):Bool :=
 decide (N.length=js.length) && (N.zip js).all fun p=>match p.2 with
  | none=>true
  | some j=>decide (M[j]?=some p.1) && (decide (scope.names.lookup p.1=some .free) || decide (scope.names.lookup p.1=none))
noncomputable def scOk (env:Env) (scope:Scope):Bool :=
 scope.names.all fun x=>match x.2 with
  | .free=>decide (env.kindOf x.1=some .cell) || decide (env.kindOf x.1=some .free)
  | .cell=>false
  | .local=>decide (scope.names.lookup x.1=some .local)
  | _=>true
theorem i7 {scope:Scope} {env:Env} {x:Str} {k:NameKind}:∀ {names:List (Str×NameKind)},(∀ y∈names,y.2≠.cell)->(k=.cell\/k=.free) ->
  (names.map fun (n,k)=>if (k==NameKind.free && env.scope.kind==.function && env.kindOf n==some .cell) then (n,NameKind.cell) else (n,k)).lookup x=some k->(x,NameKind.free)∈names:=by
 intro names hn hk h
 have hm:=PySem.mem_of_lookup h
 obtain ⟨⟨n,k0⟩,h0,e⟩:=List.mem_map.mp hm
 dsimp only at e
 split at e
 ·rename_i hc
  cases e
  simp only [Bool.and_eq_true] at hc
  have:k0=.free:=by simpa using hc.1.1
  subst this
  exact h0
 ·cases e
  rcases hk with e | e
  ·exact absurd e (hn _ h0)
  ·subst e; exact h0
theorem f9 {env:Env} {x:Str}:∀ {names:List (Str×NameKind)},names.lookup x=some .free ->
  (names.map fun (n,k)=>if (k==NameKind.free && env.scope.kind==.function && env.kindOf n==some .cell) then (n,NameKind.cell) else (n,k)).lookup x=some .cell \/
  (names.map fun (n,k)=>if (k==NameKind.free && env.scope.kind==.function && env.kindOf n==some .cell) then (n,NameKind.cell) else (n,k)).lookup x=some .free
 | [],h=>by simp at h
 | (n,k)::r,h=>by
  have ih:=@f9 env x r
  show List.lookup x ((if (k==NameKind.free && env.scope.kind==.function && env.kindOf n==some .cell)=true then (n,NameKind.cell) else (n,k))::_)=_\/List.lookup x ((if (k==NameKind.free && env.scope.kind==.function && env.kindOf n==some .cell)=true then (n,NameKind.cell) else (n,k))::_)=_
  cases hx:x==n with
  | true =>
   simp only [List.lookup_cons,hx] at h
   cases h
   by_cases hc:(NameKind.free==NameKind.free && env.scope.kind==.function && env.kindOf n==some .cell)=true
   ·rw [if_pos hc]; left; simp only [List.lookup_cons,hx]
   ·rw [if_neg hc]; right; simp only [List.lookup_cons,hx]
  | false =>
   simp only [List.lookup_cons,hx] at h
   by_cases hc:(k==NameKind.free && env.scope.kind==.function && env.kindOf n==some .cell)=true
   ·rw [if_pos hc]; simp only [List.lookup_cons,hx]; exact ih h
   ·rw [if_neg hc]; simp only [List.lookup_cons,hx]; exact ih h
section
variable {X:Cx} {pins:List (Addr×Obj)} {σ:St} {H:Hp} {s:Shared}
structure ScOk (env:Env) (scope:Scope):Prop where
 fr:∀ x∈scope.names,x.2=.free->env.kindOf x.1=some .cell\/env.kindOf x.1=some .free
 nc:∀ x∈scope.names,x.2≠.cell
 lc:∀ x∈scope.names,x.2=.local->scope.names.lookup x.1=some .local
theorem nC {env:Env} {scope:Scope} (h:scOk env scope=true):ScOk env scope:=by
 have q:=List.all_eq_true.mp h
 refine ⟨fun x hx e=>?_,fun x hx e=>?_,fun x hx e=>?_⟩
 ·have:=q x hx
  rw [e] at this
  simp only [Bool.or_eq_true,decide_eq_true_eq] at this
  exact this
 ·have:=q x hx
  rw [e] at this
  cases this
 ·have:=q x hx
  rw [e] at this
  simpa using this
theorem ScOk.cells {scope:Scope} (h:ScOk X.env scope) (ok:X.Ok):∀ x∈scope.names,x.2=.free->∃ c,X.env.cells.lookup x.1=some c:=fun x hx e=>ok.has x.1 (h.fr x hx e)
structure CapOk (M:List Str) (scope:Scope) (N:List Str) (js:List (Option Nat)):Prop where
 len:N.length=js.length
 at':∀ (i:Nat) (x:Str) (j:Nat),N[i]?=some x->js[i]?=some (some j)->M[j]?=some x/\(scope.names.lookup x=some .free\/scope.names.lookup x=none)
theorem mO {M:List Str} {scope:Scope} {N:List Str} {js:List (Option Nat)} (h:capOk M scope N js=true):CapOk M scope N js:=by
 unfold capOk at h
 rw [Bool.and_eq_true] at h
 refine ⟨of_decide_eq_true h.1,fun i x j hx hj=>?_⟩
 have hm:(x,some j)∈N.zip js:=by
  refine List.mem_of_getElem? (i:=i) ?_
  rw [List.getElem?_zip_eq_some]
  exact ⟨hx,hj⟩
 have q:=List.all_eq_true.mp h.2 _ hm
 simp only [Bool.and_eq_true,Bool.or_eq_true,decide_eq_true_eq] at q
 exact q
theorem f8 {env:Env} {x:Str}:∀ {names:List (Str×NameKind)},names.lookup x=none ->
  (names.map fun (n,k)=>if (k==NameKind.free && env.scope.kind==.function && env.kindOf n==some .cell) then (n,NameKind.cell) else (n,k)).lookup x=none
 | [],h=>rfl
 | (n,k)::r,h=>by
  have ih:=@f8 env x r
  show List.lookup x ((if (k==NameKind.free && env.scope.kind==.function && env.kindOf n==some .cell)=true then (n,NameKind.cell) else (n,k))::_)=_
  cases hx:x==n with
  | true=>simp only [List.lookup_cons,hx] at h; cases h
  | false =>
   simp only [List.lookup_cons,hx] at h
   by_cases hc:(k==NameKind.free && env.scope.kind==.function && env.kindOf n==some .cell)=true
   ·rw [if_pos hc]; simp only [List.lookup_cons,hx]; exact ih h
   ·rw [if_neg hc]; simp only [List.lookup_cons,hx]; exact ih h
theorem my {scope:Scope} {N:List Str} {js:List (Option Nat)} {C:Addr} {fp:List Addr} {h₁:Heap} {tk:Nat} (I:Inv X pins σ H s) (hsc:ScOk X.env scope) (hcap:CapOk X.N scope N js) (hkind:scope.kind=.function)
  (hf:∀ b∈fp,FpOk X pins H b) (hfo:∀ b∈fp,b<s.heap.objs.size) (hC:C=s.heap.objs.size) (keep:∀ b o,s.heap.get? b=some o->h₁.get? b=some o) (hns:h₁.Ns C fun _=>none) :
  Inv (cxComp X scope N C s H fp (X.pn++pins)) [] (capS js σ) H { s with heap:=h₁,toks:=tk }:=by
 have hcs:=hsc.cells I.ok
 have clX:∀ x c,(clOf X.env.cells scope.names []).lookup x=some c->X.env.cells.lookup x=some c:=fun x c e=>dM hcs (fun c e=>by simp at e) e
 have neC:∀ b o,s.heap.get? b=some o->b≠C:=fun b o e=>by rw [hC]; exact Nat.ne_of_lt (Heap.lt_size e)
 refine ⟨⟨I.ok.mod,hkind,I.ok.glob,I.ok.blt,Nat.le_of_eq hC.symm,fun x y c e1 e2=>?_,fun x hx=>?_,fun x c e=>?_,I.ok.hd,I.ok.frames,.inl rfl,fun b hb=>⟨?_,fun x c e=>?_⟩,I.bs,Nat.le_trans I.ok.bsz I.sz,fun b o e hb=>?_,fun b hb z=>?_,I.stack,I.stkFree⟩,
  rfl,I.bare,Un.kept keep,⟨_,hns,fun i x v h1 h2 h3=>?_⟩,fun x c e=>?_,I.hok.fresh (Nat.le_of_eq hC.symm),fun x c e=>I.freeC x c (clX x c e),fun p hp=>?_,I.hok.kept keep,?_⟩
 ·exact I.ok.inj x y c (clX x c e1) (clX y c e2)
 ·have hm:(x,NameKind.free)∈scope.names:=by
   rcases hx with hx | hx
   ·exact i7 (scope:=scope) (env:=X.env) (k:=.cell) hsc.nc (.inl rfl) hx
   ·exact i7 (scope:=scope) (env:=X.env) (k:=.free) hsc.nc (.inr rfl) hx
  exact fL (.inl hm)
 ·exact absurd e (by intro z; cases z)
 ·show b≠C
  rw [hC]; exact Nat.ne_of_lt (hfo b hb)
 ·exact (hf b hb).2.2.2.2.1 x c (clX x c e)
 ·obtain ⟨_,_,_,q,_⟩:=hf b hb
  rcases q with q | q
  ·exact I.ok.noex b o e q
  ·exact absurd (Nat.lt_of_lt_of_le (Heap.lt_size (I.ok.bs b o e).1) q) (Nat.lt_irrefl _)
 ·obtain ⟨_,q1,q2,_⟩:=hf b hb
  rcases List.mem_cons.mp (I.stkSub b z) with e | e
  ·exact q1 e
  ·exact q2 e
 ·have h1:N[i]?=some x:=h1
  unfold capS at h2
  rw [List.getElem?_map] at h2
  cases ej:js[i]? with
  | none=>rw [ej] at h2; cases h2
  | some o =>
   cases o with
   | none=>rw [ej] at h2; cases h2
   | some j =>
    rw [ej] at h2
    have h2':(σ[j]?).getD none=some v:=by simpa using h2
    have hσ:σ[j]?=some (some v):=by
     cases eσ:σ[j]? with
     | none=>rw [eσ] at h2'; cases h2'
     | some w'=>rw [eσ] at h2'; exact congrArg some h2'
    obtain ⟨hM,hfr⟩:=hcap.at' i x j h1 ej
    rcases hfr with hfr | hfr
    case inr =>
     have hn:=f8 (env:=X.env) hfr
     rcases h3 with h3 | h3 | h3
     ·exact absurd (hn.symm.trans h3) (by simp)
     ·exact absurd (hn.symm.trans h3) (by simp)
     ·exact absurd (hn.symm.trans h3) (by simp)
    have hmem:=PySem.mem_of_lookup hfr
    have hXk:=hsc.fr _ hmem rfl
    have hvis:Vis X.env.scope x:=hXk.elim (fun z=>.inr (.inl z)) fun z=>.inr (.inr z)
    obtain ⟨m,hn,hl⟩:=I.loc
    obtain ⟨u,ru,lk⟩:=hl j x v hM hσ hvis
    refine ⟨u,ru,?_⟩
    rcases lk with ⟨k,_⟩ | ⟨k,c,ec,z⟩
    ·rcases hXk with q | q
     ·rw [show X.env.kindOf x=some .cell from q] at k; cases k
     ·rw [show X.env.kindOf x=some .free from q] at k; cases k
    ·obtain ⟨c',hc'⟩:=fL (cells:=X.env.cells) (acc:=[]) (.inl hmem)
     have e2:=clX x c' hc'
     rw [ec] at e2; cases e2
     refine .inr ⟨f9 (env:=X.env) hfr,c,hc',?_⟩
     obtain ⟨o,ho,hd⟩:=z
     exact ⟨o,keep _ _ ho,hd⟩
 ·obtain ⟨v,o,ho,hd⟩:=I.cell x c (clX x c e)
  exact ⟨v,o,keep _ _ ho,hd⟩
 ·have hp':p∈X.pn++pins:=by
   have hp2:p∈(X.pn++pins)++[]:=hp
   rwa [List.append_nil] at hp2
  obtain ⟨e,n,ne,nf,d⟩:=I.pin p hp'
  refine ⟨keep _ _ e,n,neC _ _ e,fun z=>?_,d⟩
  rcases List.mem_cons.mp (I.stkSub p.1 z) with q | q
  ·exact ne q
  ·exact nf q
 ·unfold capS
  rw [List.length_map]
  exact hcap.len.symm
theorem mz {scope:Scope} {N:List Str} {C:Addr} {fp:List Addr} {σ':St} {H':Hp} {s':Shared} (I:Inv X pins σ H s) (J:Inv (cxComp X scope N C s H fp (X.pn++pins)) [] σ' H' s') (hf:∀ b∈fp,FpOk X pins H b):Inv X pins σ H' s' :=
 I.call' (ch:=fp) J.os J.base J.hok J.bare fun b hb=>let ⟨_,q1,_,q3,q4,q5⟩:=hf b hb; ⟨q3,q1,q4,q5⟩
end
noncomputable def Gsets (js:List (Option Nat)) (g:TG):Prop:=∀ x σ H Q,g x σ H Q->g x σ H fun σ' H'=>Q σ' H'/\σ'.length=σ.length/\∀ (k j:Nat),js[k]?=some (some j)->σ'[k]?=σ[k]?
noncomputable def Gss (js:List (Option Nat)) (g:TGs):Prop:=∀ x σ H Q,g x σ H Q->g x σ H fun σ' H'=>Q σ' H'/\σ'.length=σ.length/\∀ (k j:Nat),js[k]?=some (some j)->σ'[k]?=σ[k]?
theorem j7 {js:List (Option Nat)} {i:Nat} (h:autoParam (js[i]?=some none) Z2._auto_1):Gsets js (gName i):=by
 intro x σ H Q hq
 refine ⟨hq,by simp,fun k j hk=>?_⟩
 rw [List.getElem?_set_ne]
 rintro rfl
 rw [h] at hk; cases hk
theorem wg {js:List (Option Nat)}:Gss js gNil:=by
 rintro x σ H Q ⟨e,hq⟩
 exact ⟨e,hq,rfl,fun _ _ _=>rfl⟩
theorem ut {js:List (Option Nat)} {t:TG} {u:TGs} (h1:Gsets js t) (h2:Gss js u) (mono:∀ x σ H Q Q',(∀ a b,Q a b->Q' a b)->t x σ H Q->t x σ H Q') (mono2:∀ x σ H Q Q',(∀ a b,Q a b->Q' a b)->u x σ H Q->u x σ H Q'):Gss js (gCons t u):=by
 rintro x σ H Q ⟨v,r,e,hq⟩
 refine ⟨v,r,e,mono _ _ _ _ _ (fun σ1 H1 hh=>?_) (h1 v σ H _ hq)⟩
 obtain ⟨a,l1,k1⟩:=hh
 exact mono2 _ _ _ _ _ (fun σ2 H2 ⟨b,l2,k2⟩=>⟨b,l2.trans l1,fun k j hk=>(k2 k j hk).trans (k1 k j hk)⟩) (h2 r σ1 H1 _ a)
theorem wf {K:PySem.W.Frag} {js:List (Option Nat)} {n:Nat} {t:TGs} (h:Gss js t):Gsets js (gTup K n t):=by
 rintro x σ H Q ⟨a,xs,e,hs,hl,hq⟩
 exact ⟨a,xs,e,hs,hl,h xs σ H Q hq⟩
theorem gM {i:Nat}:∀ x σ H (Q Q':St->Hp->Prop),(∀ a b,Q a b->Q' a b)->gName i x σ H Q->gName i x σ H Q':=fun _ _ _ _ _ h q=>h _ _ q
theorem j8 {t:TG} {u:TGs} (m1:∀ x σ H (Q Q':St->Hp->Prop),(∀ a b,Q a b->Q' a b)->t x σ H Q->t x σ H Q') (m2:∀ x σ H (Q Q':St->Hp->Prop),(∀ a b,Q a b->Q' a b)->u x σ H Q->u x σ H Q') :
  ∀ x σ H (Q Q':St->Hp->Prop),(∀ a b,Q a b->Q' a b)->gCons t u x σ H Q->gCons t u x σ H Q':=fun _ _ _ _ _ h ⟨v,r,e,q⟩=>⟨v,r,e,m1 _ _ _ _ _ (fun _ _=>m2 _ _ _ _ _ h) q⟩
noncomputable def PF (X:Cx) (ifs:List Expr) (t:TT):Prop :=
 ∀ (pins:List (Addr×Obj)) (s:Shared) (σ:St) (H:Hp) (Q:Bool->Hp->Prop),Inv X pins σ H s->t σ H Q ->
  wpAny (model X.prog X.w) X.A (forIn ifs true fun c r=>if r=true then do let ok <- isTrue c X.env (eval c X.env); pure (ForInStep.yield ok) else pure (ForInStep.yield r)) (TP X pins σ Q) X.xe s
noncomputable def tYes:TT:=fun _ H Q=>Q true H
theorem vk {X:Cx}:PF X [] tYes:=fun pins s σ H Q I h=>wpAny_tests_nil ⟨H,I,h⟩
theorem pP {X:Cx} {c:Expr} {t:TT} (h:PT X c t):PF X [c] t:=fun pins s σ H Q I hq=>wpAny_tests_one (h pins s σ H Q I hq)
noncomputable def tLC (wi:TI) (g:TG) (tc:TT) (te:TE) (js:List (Option Nat)):TE:=fun σ H Q=>wi σ H fun J H1=>∀ l,H1 l=none ->
 ∃ W:Nat->Nat->List V->Hp->Prop,(∃ m,W 0 m [] (upd H1 l (.lst [])))/\∀ i m ys H2,W i m ys H2 ->
  (J.stop i H2/\Q (.ref l) H2)\/(J.go i H2/\∀ x H3,J.yld i H2 x H3->g x (capS js σ) H3 fun σ4 H4=>tc σ4 H4 fun b H5 =>
   if b=true then te σ4 H5 fun y H6=>H6 l=some (.lst ys)/\ys.length<sizeLine/\∃ m',m'<m/\W (i+1) m' (ys++[y]) (upd H6 l (.lst (ys++[y]))) else ∃ m',m'<m/\W (i+1) m' ys H5)
section
variable {X:Cx} {tg elt iter:Expr} {ifs:List Expr} {scope:Scope} {pos:Pos} {wi:TI} {g:TG} {tc:TT} {te:TE} {N:List Str} {js:List (Option Nat)}
theorem nP {use:Option (Value->Sem Unit)} {pins:List (Addr×Obj)} {s:Shared} {σ:St} {H:Hp} {Q:VK} {QQ:Value->Shared->Prop} {E:Value->Shared->Prop} {pos':Pos} (hc:X.calm=true) (hx:X.xe=fun _ _=>False) (hi:PI X tg iter wi)
  (hg:∀ C s₀ H₀ ex pn,PG (cxComp X scope N C s₀ H₀ ex pn) tg g) (ht:∀ C s₀ H₀ ex pn,PF (cxComp X scope N C s₀ H₀ ex pn) ifs tc) (he:∀ C s₀ H₀ ex pn,PE (cxComp X scope N C s₀ H₀ ex pn) elt te) (hgs:Gsets js g)
  (hsc:scOk X.env scope=true) (hcap:capOk X.N scope N js=true) (hkind:scope.kind=.function) (hs:∀ x,foldedSetIterable iter X.env x=pure x)
  (I:Inv X pins σ H s) (h:tLC wi g tc te js σ H Q)
  (fin:∀ (l C:Addr) (H':Hp) (s':Shared),Inv X pins σ H' s'->Q (.ref l) H'->H' C=none->C≠X.env.locals->X.s₀.heap.objs.size<=C->(∀ x c,X.env.cells.lookup x=some c->c≠C)->(∀ p∈X.pn++pins,p.1≠C)->(∃ m,s'.heap.Ns C m)->compPost (model X.prog X.w) X.A E use QQ (.ref l) C (.ok .next) s') :
  wpAny (model X.prog X.w) X.A (comprehension (.ListComp elt [⟨tg,iter,ifs,0⟩] scope pos) scope X.env pos' (newList []) false (eval iter X.env) use) QQ E s:=by
 have SC:=nC hsc
 have CP:=mO hcap
 refine wpAny_comprehension_free (cl:=clOf X.env.cells scope.names []) rfl hs (fS (SC.cells I.ok)) hkind SC.lc ?_
 refine wpAny_mono (hi pins s σ H _ I h) (fun v s1 h1=>wpAny_mono h1 (fun itv s2 h2=>?_) (fun _ _ z=>by rw [hx] at z; exact z.elim)) (fun _ _ z=>by rw [hx] at z; exact z.elim)
 obtain ⟨it,fp,tn,J,H2,rfl,I2,T,st2,f2,hq⟩:=h2
 have hD0:H2 s2.heap.objs.size=none:=I2.hok.fresh (Nat.le_refl _)
 obtain ⟨W,⟨m0,w0⟩,turn⟩:=hq s2.heap.objs.size hD0
 refine wpAny_newObj_type (wpAny_newFunctionEnv (fun x hx=>SC.nc x hx) (by intro y hy; simp at hy) (fun h₁ hns₁ hsb₁=>?_) hkind)
 dsimp only at hns₁ hsb₁ ⊢
 generalize hH3:s2.heap.push { cls:=.type "list",dict:=none,data:=.seq ([]:List Value).toArray }=hp3 at hns₁ hsb₁ ⊢
 have hCs:hp3.objs.size=s2.heap.objs.size+1:=by rw [<- hH3,Heap.size_push]
 have I3:Inv X pins σ (upd H2 s2.heap.objs.size (.lst [])) { s2 with heap:=hp3 }:=by
  rw [<- hH3]
  exact I2.laid (t':=s2.toks) (fun b u e=>Heap.get?_push_of_some _ e) (Nat.le_refl _) ⟨by show 0<=_; exact Nat.zero_le _,[],_,.nil,Heap.get?_push_size _ rfl⟩
 have keep:∀ b o,hp3.get? b=some o->h₁.get? b=some o:=fun b o e=>hsb₁.extBut b o (Nat.ne_of_lt (Heap.lt_size e)) (Heap.get?_push_of_some _ e)
 have fpo:∀ b∈fp,b<s2.heap.objs.size:=fun b hb=>by
  obtain ⟨o,e,_⟩:=T.obj _ _ st2 b hb
  exact Heap.lt_size e
 have f3:∀ b∈fp,FpOk X pins (upd H2 s2.heap.objs.size (.lst [])) b:=fun b hb=>⟨by rw [aq (Nat.ne_of_lt (fpo b hb))]; exact (f2 b hb).1,(f2 b hb).2⟩
 have J4:=my (tk:=s2.toks+([]:List (Str×Value)).length) (C:=hp3.objs.size) (fp:=fp) (h₁:=h₁) (scope:=scope) (N:=N) (js:=js) I3 SC CP hkind f3 (fun b hb=>by show b<hp3.objs.size; rw [hCs]; exact Nat.lt_succ_of_lt (fpo b hb)) rfl keep (by
  have:(fun x=>List.lookup x ([]:List (Str×Value)).reverse)=fun _=>none:=by funext x; rfl
  rw [this] at hns₁; exact hns₁)
 have st4:tn 0 h₁:=T.keep _ _ _ st2 fun b hb o e=>keep b o (by rw [<- hH3]; exact Heap.get?_push_of_some _ e)
 have loop:∀ s4:Shared,s4={ s2 with heap:=h₁,toks:=s2.toks+([]:List (Str×Value)).length } ->
   codeAny (model X.prog X.w) X.A (.compLoop (.ListComp elt [⟨tg,iter,ifs,0⟩] scope pos) 0 (.ref it) (.ref s2.heap.objs.size) (compEnvC scope (clOf X.env.cells scope.names []) hp3.objs.size X.env)) (compPost (model X.prog X.w) X.A E use QQ (.ref s2.heap.objs.size) hp3.objs.size) s4:=by
  rintro s4 rfl
  generalize hY:cxComp X scope N hp3.objs.size { s2 with heap:=hp3 } (upd H2 s2.heap.objs.size (.lst [])) fp (X.pn++pins)=Y at J4
  have fpY:∀ {H':Hp},(∀ b∈fp,H' b=none)->∀ b∈fp,FpOk Y [] H' b:=fun hn b hb=>by
   subst hY
   refine ⟨hn b hb,?_,?_,.inl hb,fun x c e=>?_,fun p hp=>?_⟩
   ·show b≠hp3.objs.size
    rw [hCs]; exact Nat.ne_of_lt (Nat.lt_succ_of_lt (fpo b hb))
   ·intro z
    rcases List.mem_cons.mp (I3.stkSub b z) with q | q
    ·exact (f3 b hb).2.1 q
    ·exact (f3 b hb).2.2.1 q
   ·exact (f3 b hb).2.2.2.2.1 x c (dM (SC.cells I.ok) (fun c e=>by simp at e) e)
   ·exact (f3 b hb).2.2.2.2.2 p (by simpa [cxComp] using hp)
  have hgY:PG Y tg g:=by subst hY; exact hg _ _ _ _ _
  have htY:PF Y ifs tc:=by subst hY; exact ht _ _ _ _ _
  have heY:PE Y elt te:=by subst hY; exact he _ _ _ _ _
  have eA:Y.A=X.A:=by subst hY; rfl
  have eP:Y.prog=X.prog:=by subst hY; rfl
  have eW:Y.w=X.w:=by subst hY; rfl
  have eK:Y.K=X.K:=by subst hY; rfl
  have eC:Y.calm=true:=by subst hY; exact hc
  have eX:Y.xe=fun _ _=>False:=by subst hY; rfl
  have eE:Y.env=compEnvC scope (clOf X.env.cells scope.names []) hp3.objs.size X.env:=by subst hY; rfl
  have T':Turn Y.prog Y.w Y.K tg J fp it tn:=by rw [eP,eW,eK]; exact T
  have eL:(capS js σ).length=js.length:=by unfold capS; rw [List.length_map]
  rw [<- eP,<- eW,<- eA,<- eE]
  refine codeAny_loop rfl (fun n s'=>∃ i ys H',Inv Y [] (capS js σ) H' s'/\tn i s'.heap/\(∀ b∈fp,H' b=none)/\W i n ys H') (fun n s' hI=>?_) m0 ⟨0,[],_,J4,st4,fun b hb=>(f3 b hb).1,w0⟩
  obtain ⟨i,ys,H5,I5,st5,fr5,w5⟩:=hI
  show wpAny _ Y.A ((compTurn (.ListComp elt [⟨tg,iter,ifs,0⟩] scope pos) 0 (.ref it) (.ref s2.heap.objs.size) Y.env).onRaise (fun x=>do noteFrame x Y.env; theTreesLotGoes x)) _ _ s'
  refine wpAny_noted ?_
  rw [compTurn_list]
  refine wpAny_bind (wpAny_standAt (wpAny_bind ?_))
  have noE:∀ (x:Value) (s:Shared) (P:Prop),Y.xe x s->P:=fun x s P z=>by rw [eX] at z; exact z.elim
  rcases turn i n ys H5 w5 with ⟨stop,qn⟩ | ⟨go,step⟩
  ·refine wpAny_mono (T'.done Y rfl rfl rfl eC i [] s' _ H5 Y.xe I5 (fpY fr5) st5 stop) (fun r s6 ⟨hr,I6⟩=>?_) fun x s z=>noE x s _ z
   subst hr
   refine wpAny_pure ?_
   show compPost _ _ _ _ _ _ _ _ _
   rw [eP,eW,eA]
   have back:Inv X pins σ H5 s6:=by subst hY; exact mz I3 I6 f3
   have hn6:∃ m,s6.heap.Ns hp3.objs.size m:=by
    obtain ⟨m,hm,_⟩:=I6.loc
    have:Y.env.locals=hp3.objs.size:=by rw [eE]; rfl
    rw [this] at hm
    exact ⟨m,hm⟩
   have hC6:H5 hp3.objs.size=none:=by
    have:=I6.free
    have e:Y.env.locals=hp3.objs.size:=by rw [eE]; rfl
    rw [e] at this; exact this
   refine fin s2.heap.objs.size hp3.objs.size H5 s6 back qn hC6 ?_ ?_ ?_ ?_ hn6
   ·exact Nat.ne_of_gt I3.lt
   ·exact I3.sz
   ·intro x c e z
    obtain ⟨v,o,ho,_⟩:=I3.cell x c e
    exact absurd (Heap.lt_size ho) (by rw [z]; exact Nat.lt_irrefl _)
   ·intro p hp z
    have:=Heap.lt_size (I3.pin p hp).1
    rw [z] at this; exact absurd this (Nat.lt_irrefl _)
  ·refine wpAny_mono (T'.item Y rfl rfl rfl eC i [] s' _ H5 Y.xe I5 (fpY fr5) st5 go) (fun r s6 h6=>?_) fun x s z=>noE x s _ z
   obtain ⟨u,hr,h6⟩:=h6
   subst hr
   dsimp only
   refine wpAny_bind ?_
   refine wpAny_mono h6 (fun _ s7 h7=>?_) fun x s z=>noE x s _ z
   obtain ⟨x,H7,I7,r7,y7,st7,fr7⟩:=h7
   have I7':=I7.pinned (fpY fr7) (T.obj _ _ st7)
   have g7:=hgs x (capS js σ) H7 _ (step x H7 y7)
   refine wpAny_bind ?_
   refine wpAny_mono (hgY _ s7 (capS js σ) H7 x u _ I7' r7 g7) (fun _ s8 h8=>?_) fun x s z=>noE x s _ z
   obtain ⟨σ8,H8,I8,q8,l8,k8⟩:=h8
   refine wpAny_bind ?_
   refine wpAny_mono (htY _ s8 σ8 H8 _ I8 q8) (fun b s9 h9=>?_) fun x s z=>noE x s _ z
   obtain ⟨H9,I9,q9⟩:=h9
   have again:∀ {s':Shared} {H':Hp},Inv Y ([]++pinsAt fp s7.heap) σ8 H' s'->Inv Y [] (capS js σ) H' s'/\tn (i+1) s'.heap/\∀ b∈fp,H' b=none:=fun {s' H'} I'=>by
    refine ⟨(I'.unpinned).weak l8.symm fun k v e=>?_,T.keep _ _ _ st7 fun b hb o e=>(I'.pin (b,o) (List.mem_append_right _ (List.mem_append_right _ (bZ hb e)))).1,fun b hb=>?_⟩
    ·cases ej:js[k]? with
     | none =>
      unfold capS at e
      rw [List.getElem?_map,ej] at e; cases e
     | some o =>
      cases o with
      | none =>
       unfold capS at e
       rw [List.getElem?_map,ej] at e; cases e
      | some j=>rw [k8 k j ej]; exact e
    ·obtain ⟨o,e,d⟩:=T.obj _ _ st7 b hb
     exact (I'.pin (b,o) (List.mem_append_right _ (List.mem_append_right _ (bZ hb e)))).2.1
   cases b with
   | false =>
    rw [if_neg Bool.false_ne_true] at q9
    obtain ⟨m',hm,w9⟩:=q9
    obtain ⟨a1,a2,a3⟩:=again I9
    exact wpAny_pure ⟨rfl,m',hm,i+1,ys,H9,a1,a2,a3,w9⟩
   | true =>
    rw [if_pos rfl] at q9
    refine wpAny_bind (wpAny_bind ?_)
    refine wpAny_mono (heY _ s9 σ8 H9 _ I9 q9) (fun y s10 h10=>?_) fun x s z=>noE x s _ z
    obtain ⟨yv,H10,I10,r10,e10,z10,m',hm,w10⟩:=h10
    refine wpAny_bind ?_
    refine wpAny_mono (cV (X:=Y) _ s10 σ8 H10 (.ref s2.heap.objs.size) [yv] (.ref s2.heap.objs.size) [y] (fun _ H'=>H'=upd H10 s2.heap.objs.size (.lst (ys++[yv]))) I10 rfl (.cons r10 .nil) ⟨_,ys,yv,rfl,rfl,e10,z10,rfl⟩) (fun _ s11 h11=>?_) fun x s z=>noE x s _ z
    obtain ⟨_,H11,I11,_,e11⟩:=h11
    subst e11
    obtain ⟨a1,a2,a3⟩:=again I11
    exact wpAny_pure (wpAny_pure ⟨rfl,m',hm,i+1,ys++[yv],_,a1,a2,a3,w10⟩)
 exact codeAny_compStart_list (loop _ rfl) (T.self X.A 0 _ _ _ st4 (loop _ rfl))
theorem sR (hi:PI X tg iter wi) (hg:∀ C s₀ H₀ ex pn,PG (cxComp X scope N C s₀ H₀ ex pn) tg g) (ht:∀ C s₀ H₀ ex pn,PF (cxComp X scope N C s₀ H₀ ex pn) ifs tc) (he:∀ C s₀ H₀ ex pn,PE (cxComp X scope N C s₀ H₀ ex pn) elt te) (hgs:Gsets js g)
  (hc:autoParam (X.calm=true) Z2._auto_1) (hx:autoParam (X.xe=(fun _ _=>False)) Z2._auto_1) (hsc:autoParam (scOk X.env scope=true) Z2._auto_1) (hcap:autoParam (capOk X.N scope N js=true) Z2._auto_1) (hkind:autoParam (scope.kind=.function) Z2._auto_1) (hs:autoParam (∀ x,foldedSetIterable iter X.env x=pure x) Z3._auto_1) :
  PE X (.ListComp elt [⟨tg,iter,ifs,0⟩] scope pos) (tLC wi g tc te js):=by
 intro pins s σ H Q I h
 rw [eval_ListComp]
 refine nP (use:=none) hc hx hi hg ht he hgs hsc hcap hkind hs I h fun l C H' s' I' q f0 f1 f2 f3 f4 ⟨m,hm⟩=>?_
 refine ⟨m,hm,fun h' sb=>⟨.ref l,H',?_,rfl,q⟩⟩
 exact I'.turned (t':=s'.toks) (it:=C) (fun b o hb e=>sb.extBut b o hb e) f0 f1 (.inr f2) f3 f4
theorem wE {i:Nat} {y:Str} {py spos:Pos} (hN:X.N.Nodup) (hy:X.N[i]?=some y) (hk:X.env.scope.names.lookup y=some .local) (hi:PI X tg iter wi) (hg:∀ C s₀ H₀ ex pn,PG (cxComp X scope N C s₀ H₀ ex pn) tg g) (ht:∀ C s₀ H₀ ex pn,PF (cxComp X scope N C s₀ H₀ ex pn) ifs tc) (he:∀ C s₀ H₀ ex pn,PE (cxComp X scope N C s₀ H₀ ex pn) elt te) (hgs:Gsets js g)
  (hsw:autoParam (swapsWith (.ListComp elt [⟨tg,iter,ifs,0⟩] scope pos) (some (.Name y py)) spos.line X.env=pure true) Z2._auto_1)
  (hc:autoParam (X.calm=true) Z2._auto_1) (hx:autoParam (X.xe=(fun _ _=>False)) Z2._auto_1) (hsc:autoParam (scOk X.env scope=true) Z2._auto_1) (hcap:autoParam (capOk X.N scope N js=true) Z2._auto_1) (hkind:autoParam (scope.kind=.function) Z2._auto_1) (hs:autoParam (∀ x,foldedSetIterable iter X.env x=pure x) Z3._auto_1) :
  PS X (.Assign [.Name y py] (.ListComp elt [⟨tg,iter,ifs,0⟩] scope pos) spos) (tAsg (tLC wi g tc te js) (gName i)):=by
 intro pins s σ H D I h
 rw [exec_Assign_Name_used _ _ _ _ hsw]
 refine wpAny_bind (wpAny_standAt (wpAny_bind ?_))
 show wpAny _ X.A (do let _ <- comprehension (.ListComp elt [⟨tg,iter,ifs,0⟩] scope pos) scope X.env _ (newList []) false (eval iter X.env) (some (assign (.Name y py) X.env))) _ _ s
 refine wpAny_bind (wpAny_mono (nP (use:=some (assign (.Name y py) X.env)) (E:=X.xe) (QQ:=fun _ s'=>SP X pins D .next s') hc hx hi hg ht he hgs hsc hcap hkind hs I h fun l C H' s' I' q f0 f1 f2 f3 f4 ⟨m,hm⟩=>?_) (fun _ s' hq=>wpAny_pure (wpAny_pure hq)) fun _ _ e=>e)
 show wpAny _ X.A (assign (.Name y py) X.env (.ref l)) _ _ _
 refine wpAny_assign_Name (kC I' hN hy (.inl hk) (v:=.ref l) rfl (fun s'' I'' ⟨a,sb,ha⟩=>?_) (.inr hk))
 have haC:C≠a:=by
  rcases ha with rfl | ha
  ·exact f1
  ·exact fun z=>f3 _ _ ha z.symm
 refine ⟨m,hm.sameBut sb haC,fun h' sb'=>⟨_,H',?_,q⟩⟩
 exact I''.turned (t':=s''.toks) (it:=C) (fun b o hb e=>sb'.extBut b o hb e) f0 f1 (.inr f2) f3 f4
end
end L2
namespace Srt
open PySem PySem.W PyProof.Rows
noncomputable def pw {α:Type} (lt:Nat->Nat->Bool) (n:Nat):KasT α->(α->Prop)->Prop
 | .ret a,Q=>Q a
 | .ask i j k,Q=>i<n/\j<n/\i≠j/\pw lt n (k (lt i j)) Q
theorem pw_bind {α β:Type} {lt:Nat->Nat->Bool} {n:Nat} {f:α->KasT β} {Q:β->Prop}:∀ (t:KasT α),pw lt n t (fun a=>pw lt n (f a) Q)->pw lt n (t.bind f) Q
 | .ret _,h=>h
 | .ask i j k,h=>⟨h.1,h.2.1,h.2.2.1,pw_bind (k (lt i j)) h.2.2.2⟩
structure Ord (lt:Nat->Nat->Bool) (n:Nat):Prop where
 irr:∀ i,i<n->lt i i=false
 tr:∀ i j k,i<n->j<n->k<n->lt i j=true->lt j k=true->lt i k=true
 tot:∀ i j,i<n->j<n->i≠j->lt i j=false->lt j i=true
section
variable {lt:Nat->Nat->Bool} {n:Nat}
noncomputable def at' (p:Array Nat) (i:Nat):Nat:=p.getD i 0
structure Pm (p:Array Nat) (n:Nat):Prop where
 sz:p.size=n
 lt:∀ i,i<n->at' p i<n
 nd:∀ i j,i<n->j<n->at' p i=at' p j->i=j
theorem bD (p:Array Nat) (i:Nat):at' p i=(p[i]?).getD 0:=by
 unfold at'
 by_cases h:i<p.size
 ·simp [Array.getD,h]
 ·simp [Array.getD,h]
noncomputable def Asc (lt:Nat->Nat->Bool) (p:Array Nat) (k:Nat):Prop:=∀ i j,i<j->j<k->lt (at' p i) (at' p j)=true
noncomputable def Dsc (lt:Nat->Nat->Bool) (p:Array Nat) (k:Nat):Prop:=∀ i j,i<j->j<k->lt (at' p j) (at' p i)=true
theorem mT (o:Ord lt n) {p:Array Nat} (P:Pm p n):∀ (f m:Nat) (Q:Nat->Prop),1<=m->m+f<=n->Asc lt p m->(∀ m',m<=m'->m'<=m+f->Asc lt p m'->(m'<m+f->lt (at' p m') (at' p (m' - 1))=true)->Q m')->pw lt n (kas_asc p f m) Q
 | 0,m,Q,_,_,ha,h=>h m (Nat.le_refl _) (Nat.le_refl _) ha fun z=>absurd z (Nat.lt_irrefl _)
 | f+1,m,Q,h1,hm,ha,h=>by
  refine ⟨P.lt _ (by omega),P.lt _ (by omega),fun z=>(by have:=P.nd _ _ (by omega) (by omega) z; omega),?_⟩
  cases c:lt (p.getD m 0) (p.getD (m - 1) 0) with
  | true =>
   show Q m
   exact h m (Nat.le_refl _) (by omega) ha fun _=>c
  | false =>
   show pw lt n (kas_asc p f (m+1)) Q
   have e:lt (at' p (m - 1)) (at' p m)=true:=o.tot _ _ (P.lt _ (by omega)) (P.lt _ (by omega)) (fun z=>by have:=P.nd _ _ (by omega) (by omega) z; omega) c
   refine mT o P f (m+1) Q (by omega) (by omega) (fun i j hij hj=>?_) fun m' a b c d=>h m' (by omega) (by omega) c fun z=>d (by omega)
   by_cases ej:j=m
   ·subst ej
    by_cases ei:i=j - 1
    ·subst ei; exact e
    ·exact o.tr _ (at' p (j - 1)) _ (P.lt _ (by omega)) (P.lt _ (by omega)) (P.lt _ (by omega)) (ha i (j - 1) (by omega) (by omega)) e
   ·exact ha i j hij (by omega)
theorem nV (o:Ord lt n) {p:Array Nat} (P:Pm p n):∀ (f m:Nat) (Q:Array Nat×Nat×Nat->Prop),1<=m->m+f<=n->Dsc lt p m->(∀ m',m<=m'->m'<=m+f->Dsc lt p m'->Q (p,m',0))->pw lt n (kas_desc f p m 0) Q
 | 0,m,Q,_,_,ha,h=>h m (Nat.le_refl _) (Nat.le_refl _) ha
 | f+1,m,Q,h1,hm,ha,h=>by
  refine ⟨P.lt _ (by omega),P.lt _ (by omega),fun z=>(by have:=P.nd _ _ (by omega) (by omega) z; omega),?_⟩
  cases c:lt (p.getD m 0) (p.getD (m - 1) 0) with
  | true =>
   show pw lt n (if 0 > 0 then kas_desc f (kas_rev p (m - (0+1)) m) (m+1) 0 else kas_desc f p (m+1) 0) Q
   rw [if_neg (Nat.lt_irrefl 0)]
   refine nV o P f (m+1) Q (by omega) (by omega) (fun i j hij hj=>?_) fun m' a b c=>h m' (by omega) (by omega) c
   by_cases ej:j=m
   ·subst ej
    by_cases ei:i=j - 1
    ·subst ei; exact c
    ·exact o.tr _ (at' p (j - 1)) _ (P.lt _ (by omega)) (P.lt _ (by omega)) (P.lt _ (by omega)) c (ha i (j - 1) (by omega) (by omega))
   ·exact ha i j hij (by omega)
  | false =>
   have e:lt (at' p (m - 1)) (at' p m)=true:=o.tot _ _ (P.lt _ (by omega)) (P.lt _ (by omega)) (fun z=>by have:=P.nd _ _ (by omega) (by omega) z; omega) c
   show pw lt n (KasT.ask (p.getD (m - 1) 0) (p.getD m 0) _) Q
   refine ⟨P.lt _ (by omega),P.lt _ (by omega),fun z=>(by have:=P.nd _ _ (by omega) (by omega) z; omega),?_⟩
   rw [show lt (p.getD (m - 1) 0) (p.getD m 0)=true from e]
   exact h m (Nat.le_refl _) (by omega) ha
theorem lN {p:Array Nat} {m i:Nat} (hm:m<=p.size) (hi:i<m):at' (kas_rev p 0 m) i=at' p (m - 1 - i):=by
 rw [bD,bD]
 unfold kas_rev
 rw [getElem?_mirror hm _ (by omega)]
 have e:0+m - 1 - i=m - 1 - i:=by omega
 split
 ·rw [e]
 ·rename_i h
  have:i=m - 1 - i:=by omega
  rw [<- this]
theorem tL {p:Array Nat} {m i:Nat} (hm:m<=p.size) (hi:m<=i):at' (kas_rev p 0 m) i=at' p i:=by
 rw [bD,bD]
 unfold kas_rev
 rw [getElem?_mirror hm _ (by omega),if_neg (by omega)]
theorem u7 {p:Array Nat} {m:Nat} (P:Pm p n) (hm:m<=n):Pm (kas_rev p 0 m) n:=by
 have hs:m<=p.size:=by rw [P.sz]; exact hm
 have key:∀ i,i<n->∃ i',i'<n/\at' (kas_rev p 0 m) i=at' p i'/\((i<m/\i'=m - 1 - i)\/(m<=i/\i'=i)):=fun i hi=>by
  by_cases h:i<m
  ·exact ⟨m - 1 - i,by omega,lN hs h,.inl ⟨h,rfl⟩⟩
  ·exact ⟨i,hi,tL hs (by omega),.inr ⟨by omega,rfl⟩⟩
 refine ⟨by unfold kas_rev; rw [mirror_size]; exact P.sz,fun i hi=>?_,fun i j hi hj e=>?_⟩
 ·obtain ⟨i',h1,h2,_⟩:=key i hi
  rw [h2]; exact P.lt i' h1
 ·obtain ⟨i',h1,h2,h3⟩:=key i hi
  obtain ⟨j',k1,k2,k3⟩:=key j hj
  rw [h2,k2] at e
  have:=P.nd _ _ h1 k1 e
  omega
theorem rk (o:Ord lt n) {p:Array Nat} (P:Pm p n) {m:Nat} {Q:Nat×Array Nat->Prop} (h1:1<=m) (hm:m<=n) (hd:Dsc lt p m) (h:∀ m' q,1<=m'->m'<=n->Pm q n->Asc lt q m'->Q (m',q)):pw lt n (kas_tail3 m n p) Q:=by
 refine pw_bind _ ?_
 have P':=u7 P hm
 have hs:m<=p.size:=by rw [P.sz]; exact hm
 refine mT o P' _ _ _ h1 (by omega) (fun i j hij hj=>?_) fun m' a b c _=>h m' _ (by omega) (by omega) P' c
 rw [lN hs (by omega),lN hs hj]
 exact hd _ _ (by omega) (by omega)
theorem sJ (o:Ord lt n) {p:Array Nat} (P:Pm p n) (h2:2<=n) {Q:Nat×Array Nat->Prop} (h:∀ m q,1<=m->m<=n->Pm q n->Asc lt q m->Q (m,q)):pw lt n (kas_count n p) Q:=by
 refine pw_bind _ ?_
 refine mT o P _ _ _ (Nat.le_refl 1) (by omega) (fun i j hij hj=>by omega) fun m a b c d=>?_
 by_cases e:(m==n)=true
 ·rw [if_pos e]
  exact h m p (by omega) (by omega) P c
 ·rw [if_neg e]
  have hne:m≠n:=fun z=>e (by simp [z])
  by_cases hm:m > 1
  ·rw [if_pos hm]
   refine ⟨P.lt _ (by omega),P.lt _ (by omega),fun z=>(by have:=P.nd _ _ (by omega) (by omega) z; omega),?_⟩
   rw [show lt (p.getD 0 0) (p.getD (m - 1) 0)=true from c 0 (m - 1) (by omega) (by omega)]
   exact h m p (by omega) (by omega) P c
  ·rw [if_neg hm]
   have hm1:m=1:=by omega
   subst hm1
   refine pw_bind _ ?_
   have d1:lt (at' p 1) (at' p (1 - 1))=true:=d (by omega)
   refine nV o P _ _ _ (by omega) (by omega) (fun i j hij hj=>?_) fun m' a b hd=>?_
   ·have:i=0:=by omega
    have:j=1:=by omega
    subst i j
    exact d1
   ·show pw lt n (if 0 > 0 then kas_tail3 m' n (kas_rev p (m' - (0+1)) m') else kas_tail3 m' n p) Q
    rw [if_neg (Nat.lt_irrefl 0)]
    exact rk o P (by omega) (by omega) hd h
theorem im (o:Ord lt n) {p:Array Nat} (P:Pm p n) {k:Nat} (hk:k<n) (ha:Asc lt p k):∀ (f l r:Nat) (Q:Nat->Prop),l<=r->r<=k->r<=l+f->(∀ i,i<l->lt (at' p i) (at' p k)=true)->(∀ i,r<=i->i<k->lt (at' p k) (at' p i)=true) ->
  (∀ l',l'<=k->(∀ i,i<l'->lt (at' p i) (at' p k)=true)->(∀ i,l'<=i->i<k->lt (at' p k) (at' p i)=true)->Q l')->pw lt n (kas_place p k f l r) Q
 | 0,l,r,Q,hl,hr,hf,h1,h2,h=>by
  have:l=r:=by omega
  subst this
  exact h l hr h1 h2
 | f+1,l,r,Q,hl,hr,hf,h1,h2,h=>by
  unfold kas_place
  by_cases hlr:l ≥ r
  ·rw [if_pos hlr]
   have:l=r:=by omega
   subst this
   exact h l hr h1 h2
  ·rw [if_neg hlr]
   have hm:(l+r) / 2<k:=by omega
   refine ⟨P.lt _ hk,P.lt _ (by omega),fun z=>(by have:=P.nd _ _ hk (by omega) z; omega),?_⟩
   cases c:lt (p.getD k 0) (p.getD ((l+r) / 2) 0) with
   | true =>
    show pw lt n (kas_place p k f l ((l+r) / 2)) Q
    refine im o P hk ha f l _ Q (by omega) (by omega) (by omega) h1 (fun i hi hik=>?_) h
    by_cases e:i=(l+r) / 2
    ·subst e; exact c
    ·exact o.tr _ (at' p ((l+r) / 2)) _ (P.lt _ hk) (P.lt _ (by omega)) (P.lt _ (by omega)) c (ha _ _ (by omega) hik)
   | false =>
    show pw lt n (kas_place p k f ((l+r) / 2+1) r) Q
    have e:lt (at' p ((l+r) / 2)) (at' p k)=true:=o.tot _ _ (P.lt _ hk) (P.lt _ (by omega)) (fun z=>by have:=P.nd _ _ hk (by omega) z; omega) c
    refine im o P hk ha f _ r Q (by omega) hr (by omega) (fun i hi=>?_) h2 h
    by_cases e':i=(l+r) / 2
    ·subst e'; exact e
    ·exact o.tr _ (at' p ((l+r) / 2)) _ (P.lt _ (by omega)) (P.lt _ (by omega)) (P.lt _ hk) (ha _ _ (by omega) (by omega)) e
theorem gy {p:Array Nat} {k l i:Nat} (hk:k<p.size) (hl:l<=k):at' (bubble p k (k - l)) i=if i=l then at' p k else if l<i/\i<=k then at' p (i - 1) else at' p i:=by
 rw [bD]
 rw [getElem?_bubble hk (k - l) (by omega)]
 have e:k - (k - l)=l:=by omega
 rw [e]
 split
 ·rw [bD]
 ·split
  ·rw [bD]
  ·rw [bD]
theorem qW (o:Ord lt n):∀ (f k:Nat) (p:Array Nat) (Q:Array Nat->Prop),Pm p n->Asc lt p k->k+f=n->(∀ q,Pm q n->Asc lt q n->Q q)->pw lt n (kas_bin f p k) Q
 | 0,k,p,Q,P,ha,hk,h=>by
  have:k=n:=by omega
  subst this
  exact h p P ha
 | f+1,k,p,Q,P,ha,hk,h=>by
  have hkn:k<n:=by omega
  have hs:k<p.size:=by rw [P.sz]; exact hkn
  refine pw_bind _ (im o P hkn ha k 0 k _ (Nat.zero_le _) (Nat.le_refl _) (by omega) (fun i hi=>by omega) (fun i hi hik=>by omega) fun l hl h1 h2=>?_)
  refine qW o f (k+1) _ Q ⟨by rw [bubble_size]; exact P.sz,fun i hi=>?_,fun i j hi hj e=>?_⟩ (fun i j hij hj=>?_) (by omega) h
  ·rw [gy hs hl]
   split
   ·exact P.lt _ hkn
   ·split
    ·exact P.lt _ (by omega)
    ·exact P.lt _ hi
  ·rw [gy hs hl,gy hs hl] at e
   have P1:=P.nd
   split at e
   ·split at e
    ·omega
    ·split at e
     ·have:=P1 _ _ hkn (by omega) e; omega
     ·have:=P1 _ _ hkn (by omega) e; omega
   ·split at e
    ·split at e
     ·have:=P1 _ _ (by omega) hkn e; omega
     ·split at e
      ·have:=P1 _ _ (by omega) (by omega) e; omega
      ·have:=P1 _ _ (by omega) (by omega) e; omega
    ·split at e
     ·have:=P1 _ _ (by omega) hkn e; omega
     ·split at e
      ·have:=P1 _ _ (by omega) (by omega) e; omega
      ·have:=P1 _ _ (by omega) (by omega) e; omega
  ·rw [gy hs hl,gy hs hl]
   split
   ·split
    ·omega
    ·split
     ·exact h2 _ (by omega) (by omega)
     ·omega
   ·split
    ·split
     ·omega
     ·split
      ·exact ha _ _ (by omega) (by omega)
      ·omega
    ·split
     ·exact h1 _ (by omega)
     ·split
      ·exact ha _ _ (by omega) (by omega)
      ·exact ha _ _ hij (by omega)
theorem tE (o:Ord lt n) (h2:2<=n) {Q:Array Nat->Prop} (h:∀ p,Pm p n->Asc lt p n->Q p):pw lt n (kas_sort n) Q:=by
 have P0:Pm (List.toArray (List.range n)) n:=by
  have e:∀ i,i<n->at' (List.toArray (List.range n)) i=i:=fun i hi=>by rw [bD]; simp [hi]
  refine ⟨by simp,fun i hi=>by rw [e i hi]; exact hi,fun i j hi hj q=>by rw [e i hi,e j hj] at q; exact q⟩
 refine pw_bind _ (sJ o P0 h2 fun m q h1 hm P ha=>?_)
 show pw lt n (if m<n then kas_bin (n - max m 1) q (max m 1) else .ret q) Q
 by_cases e:m<n
 ·rw [if_pos e]
  have em:max m 1=m:=by omega
  rw [em]
  exact qW o _ _ _ _ P ha (by omega) h
 ·rw [if_neg e]
  have:m=n:=by omega
  subst this
  exact h q P ha
end
theorem pw_wp {α:Type} {lt:Nat->Nat->Bool} {n:Nat} {cmp:Nat->Nat->(Bool->Shared->Prop)->Shared->Prop} {Q:α->Prop} {QQ:α->Shared->Prop} {J:Shared->Prop}
  (hc:∀ i j C s,i<n->j<n->i≠j->J s->(∀ s',J s'->C (lt i j) s')->cmp i j C s) (hq:∀ a s,J s->Q a->QQ a s):∀ (t:KasT α) (s:Shared),J s->pw lt n t Q->t.kasWp cmp QQ s
 | .ret a,s,hj,h=>hq a s hj h
 | .ask i j k,s,hj,h=>hc i j _ s h.1 h.2.1 h.2.2.1 hj fun s' hj'=>pw_wp hc hq (k (lt i j)) s' hj' h.2.2.2
end Srt
namespace L2
open PySem PySem.Spec PyProof.Rows
theorem fA {ss:List Str}:∀ {us:List Value},Vals (ss.map V.str) us->StrsAre us ss:=by
 induction ss with
 | nil=>intro us r; cases r; exact .nil
 | cons x r ih =>
  intro us h
  cases h with
  | cons h1 h2 =>
   obtain ⟨t,rfl⟩:=h1
   exact .cons x t (ih h2)
theorem cT:∀ {us:List Value} {ss:List Str},StrsAre us ss->Vals (ss.map V.str) us
 | _,_,.nil=>.nil
 | _,_,.cons x t h=>.cons ⟨t,rfl⟩ (cT h)
noncomputable def ltS (a b:Str):Prop:=a.cps.toList<b.cps.toList
instance (a b:Str):Decidable (ltS a b):=inferInstanceAs (Decidable (a.cps.toList<b.cps.toList))
theorem gX:∀ (l:List Str) (p:Str),risingS p l=true->(∀ y∈l,¬ ltS y p)/\l.Pairwise (fun a b=>¬ ltS b a)
 | [],p,_=>⟨(fun _ h=>nomatch h),List.Pairwise.nil⟩
 | x::r,p,h=>by
  have h':(!ltCps x.cps.toList p.cps.toList && risingS x r)=true:=h
  rw [Bool.and_eq_true] at h'
  obtain ⟨h1,h2⟩:=h'
  have hx:¬ ltS x p:=by
   unfold ltS
   rw [ltCps_eq] at h1
   simpa using h1
  obtain ⟨a,b⟩:=gX r x h2
  refine ⟨fun y hy=>?_,List.pairwise_cons.mpr ⟨a,b⟩⟩
  rcases List.mem_cons.mp hy with rfl | hy
  ·exact hx
  ·intro z
   have:=a y hy
   unfold ltS at *
   exact hx (List.lt_of_le_of_lt (List.not_lt.mp this) z)
theorem cQ {l:List Str} (h:sortedS l=true):l.Pairwise (fun a b=>¬ ltS b a):=by
 cases l with
 | nil=>exact List.Pairwise.nil
 | cons x r =>
  obtain ⟨a,b⟩:=gX r x h
  exact List.pairwise_cons.mpr ⟨a,b⟩
section
variable {X:Cx}
noncomputable def rSortS (K:PySem.W.Frag):List V->Hp->VK->Prop:=fun xs H Q=>∃ (p:Addr) (ss:List Str),xs=[.ref p]/\SqL K H p (ss.map V.str)/\ss.length<64 /\
 ∀ (l:Addr) (ss':List Str),H l=none->ss'.Perm ss->ss'.Pairwise (fun a b=>¬ ltS b a)->Q (.ref l) (upd H l (.lst (ss'.map V.str)))
theorem oQ:CallR X (.builtin "sorted") (rSortS X.K):=by
 intro pins s σ H xs us Q I r h
 obtain ⟨p,ss,rfl,hq,h64,k⟩:=h
 obtain ⟨u,rfl,ru⟩:=r.one
 cases ru
 obtain ⟨its,rv,pl,hz⟩:=I.list hq
 have hS:=fA rv
 have hl:=rv.length
 rw [List.length_map] at hl
 refine sorted_strs pl.isList hS (by omega) fun out ss' a1 a2 a3=>?_
 obtain ⟨e,he⟩:=sortedAll_at s.heap its out
 have hn:H (s.heap.objs.size+1)=none:=I.hok.fresh (Nat.le_succ _)
 refine ⟨.ref (s.heap.objs.size+1),_,I.laid (t':=s.toks) (a:=s.heap.objs.size+1) (o:=.lst (ss'.map V.str)) (fun b o q=>sortedAll_old q) (Nat.le_succ _) ?_,rfl,k _ ss' hn a2 (cQ a3)⟩
 refine ⟨by rw [List.length_map,a2.length_eq,sizeLine_eq]; omega,out.toList,e,cT a1,?_⟩
 rw [Array.toArray_toList]
 exact he
end
section
variable {prog:Program} {w:World} {A:Around} {E:Value->Shared->Prop} {s:Shared}
noncomputable def dt (vs:List Value):Sem PySem.Fin:=do
 let l <- newList vs
 let _ <- holding [l] (call (.builtin "list.sort") [l] [])
 ret l
theorem fV {x:Value} {vs:List Value} {Q:Value->Shared->Prop} (hc:∀ R:List Value->Shared->Prop,(∀ h1 tk,(∀ b o,s.heap.get? b=some o->h1.get? b=some o)->R vs { s with heap:=h1,toks:=tk })->wpAny (model prog w) A.in1 (collect x) R E s)
  (h:∀ h1 tk,(∀ b o,s.heap.get? b=some o->h1.get? b=some o)->wpAny (model prog w) A.in1 (dt vs) (fun fin s'=>∃ v,fin=.done (.ret v)/\Q v s') E { s with heap:=h1,toks:=tk }):wpAny (model prog w) A (call (.builtin "sorted") [x]) Q E s:=by
 refine Calls.call_function_entry kind_sorted plain_sorted entry_sorted (args_sorted1 _) (?_:wpAny (model prog w) A.in1 (Builtin.«sorted» ⟨[x],[]⟩) _ _ s)
 unfold Builtin.«sorted»
 exact wpAny_bind (m:=checkCount "sorted" 1 1 _) (wpAny_pure (wpAny_bind (hc _ fun h1 tk kk=>h h1 tk kk)))
theorem om {vs:List Value} {Q:Value->Shared->Prop} (h2:vs.length<2) (h:∀ h' e,(∀ b o,s.heap.get? b=some o->h'.get? b=some o)->h'.get? s.heap.objs.size=some (seqObj "list" vs.toArray e)->Q (.ref s.heap.objs.size) { s with heap:=h' }) :
  wpAny (model prog w) A (dt vs) (fun fin s'=>∃ v,fin=.done (.ret v)/\Q v s') E s:=by
 have hz:vs.length<=sizeLine:=by rw [sizeLine_eq]; omega
 unfold dt
 refine wpAny_bind (wpAny_newList ?_ hz)
 have hoL:(s.heap.push (seqObj "list" vs.toArray 0)).get? s.heap.objs.size=some (seqObj "list" vs.toArray 0):=Heap.get?_push_size _ rfl
 refine (?_:wpAny _ _ _ _ _ { s with heap:=s.heap.push (seqObj "list" vs.toArray 0) })
 generalize hB':s.heap.push (seqObj "list" vs.toArray 0)=hB at hoL ⊢
 have kB:∀ b o,s.heap.get? b=some o->hB.get? b=some o:=fun b o e=>by rw [<- hB']; exact Heap.get?_push_of_some _ e
 refine wpAny_bind (wpAny_holding (wpAny_call_entry slot_list_sort ⟨_,hoL,rfl⟩ entry_list_sort ?body (args_list_sort _)))
 case body =>
  rw [list_sort_plain]
  obtain ⟨e1,ho1⟩:∃ e1,(hB.update s.heap.objs.size (Obj.mapSeq fun _=>#[])).get? s.heap.objs.size=some (seqObj "list" #[] e1):=⟨_,get?_update_seq hoL fun _=>#[]⟩
  refine wpAny_bind (listItems_at hoL rfl (wpAny_bind (listUpdate_at hoL rfl ?_ (by rw [List.size_toArray]; exact hz) (Nat.zero_le _))))
  refine wpAny_bind (seqEpoch_at ho1 rfl (wpAny_bind (wpAny_newTuple ?_ (by show vs.length<=_; exact hz))))
  refine wpAny_bind (wpAny_newList (wpAny_holding ?_) (Nat.zero_le _))
  have ho6:(((hB.update s.heap.objs.size (Obj.mapSeq fun _=>#[])).push (seqObj "tuple" vs.toArray 0)).push (seqObj "list" #[] 0)).get? s.heap.objs.size=some (seqObj "list" #[] e1) :=
   Heap.get?_push_of_some _ (Heap.get?_push_of_some _ ho1)
  refine (?_:wpAny (model prog w) _ _ _ _ { s with heap:=((hB.update s.heap.objs.size (Obj.mapSeq fun _=>#[])).push (seqObj "tuple" vs.toArray 0)).push (seqObj "list" #[] 0) })
  dsimp only
  have hlt:vs.toArray.size<2:=by rw [List.size_toArray]; exact h2
  rw [if_pos hlt,if_pos hlt]
  refine wpAny_bind (wpAny_pure ?_)
  rw [StateT.run_pure]
  refine wpAny_bind (wpAny_pure ?_)
  dsimp only
  have eo:(arrOf (SortSt.mk' general' (vs.toArray.zip vs.toArray) #[] 7 none)).map (·.2)=vs.toArray:=by
   show (vs.toArray.zip vs.toArray).map (·.2)=vs.toArray
   apply Array.ext
   ·simp
   ·intro i h1 h2
    simp
  rw [eo]
  refine wpAny_bind (seqEpoch_at ho6 rfl (wpAny_bind (listUpdate_at ho6 rfl ?_ (Nat.zero_le _) (by rw [List.size_toArray]; first | exact hz | exact Nat.le_succ_of_le hz))))
  simp only [bne_self_eq_false,Bool.false_eq_true,if_false]
  refine wpAny_pure ⟨_,rfl,wpAny_pure ⟨_,rfl,h _ _ (fun b o e=>?_) (get?_update_seq ho6 fun _=>vs.toArray)⟩⟩
  have hb:b≠s.heap.objs.size:=Nat.ne_of_lt (Heap.lt_size e)
  rw [Heap.get?_update_ne _ _ _ _ hb]
  refine Heap.get?_push_of_some _ (Heap.get?_push_of_some _ ?_)
  rw [Heap.get?_update_ne _ _ _ _ hb]
  exact kB b o e
end
section
variable {X:Cx} {pins:List (Addr×Obj)} {σ:St} {H:Hp} {s:Shared}
theorem vH {h:Heap} {a:Addr} {m m':Str->Option Value} (x:h.Ns a m) (y:h.Ns a m'):m=m':=by
 obtain ⟨o,es,ep,ho,hd,_,hm⟩:=x
 obtain ⟨o',es',ep',ho',hd',_,hm'⟩:=y
 rw [ho] at ho'; cases ho'
 rw [hd] at hd'; cases hd'
 funext n
 rw [<- hm n,<- hm' n]
theorem ObjOk.there {P:Program} {w:World} {H:Hp} {h:Heap} {a:Addr} {o:HO} (x:ObjOk P w H h a o):∃ u,h.get? a=some u:=by
 cases o with
 | lst xs=>obtain ⟨_,_,_,_,e⟩:=x; exact ⟨_,e⟩
 | tup xs=>obtain ⟨_,_,_,o,e,_⟩:=x; exact ⟨_,e⟩
 | dK kvs=>obtain ⟨_,_,_,_,o,_,_,e,_⟩:=x; exact ⟨_,e⟩
 | dT kvs=>obtain ⟨_,_,_,_,o,_,_,e,_⟩:=x; exact ⟨_,e⟩
 | set S n=>obtain ⟨o,_,_,_,e,_⟩:=x; exact ⟨_,e⟩
 | ins C dx fs=>obtain ⟨_,_,_,e,_⟩:=x; exact ⟨_,e⟩
 | own y=>exact x
 | xd fs=>obtain ⟨_,⟨_,_,_,e,_⟩,_⟩:=x; exact ⟨_,e⟩
 | rng lo hi=>obtain ⟨_,_,_,e⟩:=x; exact ⟨_,e⟩
 | frz ob u=>obtain ⟨e,_⟩:=x; exact ⟨_,e⟩
 | tbl ps=>exact ⟨_,show h.get? a=some _ from x⟩
 | met f y=>exact ⟨_,show h.get? a=some _ from x⟩
 | ext φ=>obtain ⟨_,e,_⟩:=x; exact e
theorem HOk.dead {P:Program} {w:World} {H:Hp} {h:Heap} {a:Addr} (x:HOk P w H h) (e:h.get? a=none):H a=none:=by
 cases q:H a with
 | none=>rfl
 | some u =>
  obtain ⟨o,z⟩:=(x a u q).there
  rw [e] at z; cases z
theorem Inv.laidL {h':Heap} {D:Addr} {xs:List V} {m:Str->Option Value} (I:Inv X pins σ H s) (hm:s.heap.Ns X.env.locals m) (hm':h'.Ns X.env.locals m) (k:∀ b o,b≠X.env.locals->s.heap.get? b=some o->h'.get? b=some o)
  (hD:s.heap.get? D=none) (new:ObjOk X.prog X.w (upd H D (.lst xs)) h' D (.lst xs)):Inv X pins σ (upd H D (.lst xs)) { s with heap:=h' }:=by
 have fr:H D=none:=I.hok.dead hD
 have nD:∀ b o,s.heap.get? b=some o->b≠D:=fun b o e z=>by rw [z,hD] at e; cases e
 have nt:∀ b u,H b=some u->b≠D:=fun b u e=>aF e fr
 have ntL:∀ b u,H b=some u->b≠X.env.locals:=fun b u e=>aF e I.free
 refine I.step (g':=s.gens) (d':=s.drawn) (t':=s.toks) (ch:=[]) (fun _ z=>nomatch z) (fun b o hb _ _ e _=>k b o hb e) (fun b o hb _ _ e _=>⟨o.slots,k b o hb e⟩) (fun b o _ e n=>by rw [aq (nD b o e)]; exact n)
  (fun b o _ e=>?_) (fun b ys e=>by rw [aq (nt b _ e)]; exact e) (fun b o u e=>by rw [aq (nt b _ e)]; exact e) (fun b ps e=>⟨#[],by rw [aq (nt b _ e),e]; simp⟩) (fun m2 h2=>by rw [vH h2 hm]; exact hm') (fun b u e=>?_) I.bare
 ·by_cases hb:b=X.env.locals
  ·subst hb
   obtain ⟨o',_,_,ho',_⟩:=hm'
   exact ⟨o',ho'⟩
  ·exact ⟨o,k b o hb e⟩
 ·by_cases hb:b=D
  ·subst hb
   rw [am] at e
   cases e
   exact new
  ·rw [aq hb] at e
   refine (I.hok b u e).stay (fun c v hc q=>k c v ?_ q) (fun c q=>by rw [aq (nt c _ q)]; exact q) fun c ys q=>by rw [aq (nt c _ q)]; exact q
   rcases hc with z | z
   ·rw [z]; exact ntL b u e
   ·exact ntL c _ z
structure Rows (K:PySem.W.Frag) (H:Hp) (vs:List V) (nm:List Str):Prop where
 len:vs.length=nm.length
 row:∀ (i:Nat) (v:V) (x:Str),vs[i]?=some v->nm[i]?=some x->∃ a r,v=.ref a/\SqT K H a (.str x::r)
 nd:nm.Nodup
noncomputable def rSortR (K:PySem.W.Frag):List V->Hp->VK->Prop:=fun xs H Q=>∃ p vs nm,xs=[.ref p]/\SqL K H p vs/\vs.length<64/\Rows K H vs nm /\
 ∀ l (ix:List Nat),H l=none->ix.length=vs.length->ix.Nodup->(∀ i∈ix,i<vs.length)->(ix.map fun i=>nm.getD i ⟨#[]⟩).Pairwise ltS->Q (.ref l) (upd H l (.lst (ix.map fun i=>vs.getD i .non)))
theorem Vals.pick {xs:List V} {us:List Value} (r:Vals xs us):∀ (ix:List Nat),(∀ i∈ix,i<xs.length)->Vals (ix.map fun i=>xs.getD i .non) (ix.map fun i=>us.getD i Value.none)
 | [],_=>.nil
 | i::ix,h=>by
  refine .cons ?_ (Vals.pick r ix fun j hj=>h j (List.mem_cons_of_mem _ hj))
  have hi:=h i List.mem_cons_self
  have e:xs[i]?=some (xs[i]):=by simp [hi]
  obtain ⟨u,hu,ru⟩:=r.get e
  have e1:xs.getD i .non=xs[i]:=by simp [hi]
  have e2:us.getD i Value.none=u:=by rw [List.getD_eq_getElem?_getD,hu]; rfl
  show RelV (xs.getD i .non) (us.getD i Value.none)
  rw [e1,e2]
  exact ru
theorem hV {A:Around} {E:Value->Shared->Prop} {its:List Value} {vs:List V} {nm:List Str} {Q:VK} (I:Inv X pins σ H s) (rv:Vals vs its) (hz:its.length<=sizeLine) (h64:vs.length<64) (R:Rows X.K H vs nm)
  (k:∀ l (ix:List Nat),H l=none->ix.length=vs.length->ix.Nodup->(∀ i∈ix,i<vs.length)->(ix.map fun i=>nm.getD i ⟨#[]⟩).Pairwise ltS->Q (.ref l) (upd H l (.lst (ix.map fun i=>vs.getD i .non)))) :
  wpAny (model X.prog X.w) A (dt its) (fun fin s'=>∃ v,fin=.done (.ret v)/\∃ x H',Inv X pins σ H' s'/\RelV x v/\Q x H') E s:=by
 have hl:=rv.length
 by_cases h2:its.length<2
 ·refine om h2 fun h' e kk he=>?_
  have hn:H s.heap.objs.size=none:=I.hok.fresh (Nat.le_refl _)
  have ei:(List.range vs.length).map (fun i=>vs.getD i V.non)=vs:=by
   apply List.ext_getElem?
   intro i
   rw [List.getElem?_map]
   by_cases hi:i<vs.length
   ·rw [List.getElem?_range hi]; simp [hi]
   ·rw [List.getElem?_eq_none (by simpa using hi),List.getElem?_eq_none (by omega)]; rfl
  have q:=k s.heap.objs.size (List.range vs.length) hn (by simp) List.nodup_range (fun i hi=>List.mem_range.mp hi) (by
   match hv:vs.length,hl with
   | 0,_=>simp
   | 1,_=>simp [List.range_succ]
   | n+2,hl=>omega)
  rw [ei] at q
  exact ⟨.ref s.heap.objs.size,_,I.laid (t':=s.toks) (a:=s.heap.objs.size) (o:=.lst vs) kk (Nat.le_refl _) ⟨by rw [hl]; exact hz,its,e,rv,he⟩,rfl,q⟩
 ·obtain ⟨m,F⟩:=I.fr
  unfold dt
  refine wpAny_bind (wpAny_newList ?_ hz)
  have hoL:(s.heap.push (seqObj "list" its.toArray 0)).get? s.heap.objs.size=some (seqObj "list" its.toArray 0):=Heap.get?_push_size _ rfl
  have hL:X.env.locals<s.heap.objs.size:=F.ns.lt
  refine wpAny_bind (wpAny_holding (wpAny_call_entry slot_list_sort ⟨_,hoL,rfl⟩ entry_list_sort ?body (args_list_sort _)))
  refine PySem.W.kat_list_sort (s:={ s with heap:=s.heap.push (seqObj "list" its.toArray 0) }) (F.kept fun b o e=>Heap.get?_push_of_some _ e) ((iA (g:=X.base) (h:=s.heap) (L:=X.env.locals)).grown fun b o e=>Heap.get?_push_of_some _ e) hoL (Nat.ne_of_gt hL)
   (Heap.get?_none_of_le (Nat.le_trans F.above (Nat.le_of_lt hL))) (fun p hp=>Nat.ne_of_lt (Heap.lt_size ((iA (g:=X.base) (h:=s.heap) (L:=X.env.locals)) p hp).1)) (by omega) (by omega) fun e1 h' F' N'=>?_
  have hD:∀ q∈gR X.base s.heap X.env.locals,q.1<s.heap.objs.size:=fun q hq=>Heap.lt_size ((iA (g:=X.base) (h:=s.heap) (L:=X.env.locals)) q hq).1
  generalize hDe:s.heap.objs.size=D at hD N' ⊢
  have keep1:∀ b o,b≠X.env.locals->s.heap.get? b=some o->h'.get? b=some o:=fun b o hb e=>by
   cases q:X.base.get? b with
   | some ob =>
    have:=I.bk b ob q
    rw [e] at this; cases this
    exact F'.keep b _ q
   | none=>exact (N' (b,o) (List.mem_cons_of_mem _ (eO hb q e))).1
  have hDs:∀ b o,b≠X.env.locals->X.base.get? b=none->s.heap.get? b=some o->b<D:=fun b o hb hn e=>hD (b,o) (eO hb hn e)
  have rowAt:∀ i,i<its.length->∃ a ob vv x t n,its.getD i Value.none=.ref a/\h'.get? a=some ob/\ob.cls=.type "tuple" /\ ob.data=.seq vv n/\vv[0]?=some (.str x t)/\nm[i]?=some x/\s.heap.get? a=some ob:=fun i hi=>by
   have hi':i<vs.length:=by omega
   have e:vs[i]?=some vs[i]:=by simp [hi']
   obtain ⟨u,hu,ru⟩:=rv.get e
   have hin:i<nm.length:=by rw [<- R.len]; exact hi'
   have en:nm[i]?=some nm[i]:=by simp [hin]
   obtain ⟨a,rr,ev,ha⟩:=R.row i _ _ e en
   rw [ev] at ru
   cases ru
   obtain ⟨tits,tv,⟨ob,hob,hc,n,hd⟩,z1⟩:=I.tuple ha
   cases tv with
   | cons t1 t2 =>
    obtain ⟨t,rfl⟩:=t1
    refine ⟨a,ob,_,nm[i],t,n,by rw [List.getD_eq_getElem?_getD,hu]; rfl,keep1 a ob ?_ hob,hc,hd,by simp,en,hob⟩
    rintro rfl
    obtain ⟨m,⟨o2,es,ep,g1,g2,_⟩,_⟩:=I.loc
    rw [hob] at g1; cases g1
    rw [hd] at g2; cases g2
  have tups:PySem.W.KatTups h' its ((List.range its.length).map fun i=>match its.getD i Value.none with | .ref a=>(match h'.get? a with | some ob=>(match ob.data with | .seq vv _=>(vv[0]?).getD .none | _=>.none) | none=>.none) | _=>.none):=by
   have go:∀ (us:List Value) (f:Nat->Value) (k0:Nat),(∀ i,i<us.length->∃ a ob vv n,us.getD i Value.none=.ref a/\h'.get? a=some ob/\ob.cls=.type "tuple" /\ ob.data=.seq vv n/\vv[0]?=some (f (k0+i))) ->
     PySem.W.KatTups h' us ((List.range us.length).map fun i=>f (k0+i)):=by
    intro us
    induction us with
    | nil=>intro f k0 _; exact trivial
    | cons u us ih =>
     intro f k0 hh
     obtain ⟨a,ob,vv,n,e1,e2,e3,e4,e5⟩:=hh 0 (by simp)
     have e1':u=.ref a:=by simpa using e1
     subst e1'
     rw [List.length_cons,List.range_succ_eq_map,List.map_cons,List.map_map]
     refine ⟨⟨a,ob,vv,n,rfl,e2,e3,e4,e5⟩,?_⟩
     have:=ih f (k0+1) fun i hi=>by
      obtain ⟨a,ob,vv,n,e1,e2,e3,e4,e5⟩:=hh (i+1) (by simpa using hi)
      exact ⟨a,ob,vv,n,by simpa using e1,e2,e3,e4,by rw [show k0+1+i=k0+(i+1) by omega]; exact e5⟩
     have ef:(fun i=>f (k0+i)) ∘ Nat.succ=fun i=>f (k0+1+i):=by
      funext i
      show f (k0+(i+1))=f (k0+1+i)
      rw [show k0+(i+1)=k0+1+i by omega]
     rw [ef]
     exact this
   have:=go its (fun i=>match its.getD i Value.none with | .ref a=>(match h'.get? a with | some ob=>(match ob.data with | .seq vv _=>(vv[0]?).getD .none | _=>.none) | none=>.none) | _=>.none) 0 fun i hi=>by
    obtain ⟨a,ob,vv,x,t,n,e1,e2,e3,e4,e5,_⟩:=rowAt i hi
    refine ⟨a,ob,vv,n,e1,e2,e3,e4,?_⟩
    rw [Nat.zero_add,e1,e5]
    simp only [e2,e4,e5]
    rfl
   simpa using this
  refine PySem.W.kat_kind (T:=.type "str") tups (by rw [List.length_map,List.length_range]; omega) (fun v hv=>?_) rfl ?_
  ·obtain ⟨i,hi,rfl⟩:=List.mem_map.mp hv
   obtain ⟨a,ob,vv,x,t,n,e1,e2,e3,e4,e5,_⟩:=rowAt i (List.mem_range.mp hi)
   rw [e1]
   simp only [e2,e4,e5]
   exact PySem.W.Looks.of_pure rfl
  ·-- the questions
   have hT:((Value.type "str") != (Value.type "tuple"))=true:=by decide
   rw [hT]
   let lt:Nat->Nat->Bool:=fun i j=>decide (ltS (nm.getD i ⟨#[]⟩) (nm.getD j ⟨#[]⟩))
   have cinj:∀ i j,i<its.length->j<its.length->(nm.getD i ⟨#[]⟩).cps.toList=(nm.getD j ⟨#[]⟩).cps.toList->i=j:=fun i j hi hj e=>by
    have hi':i<nm.length:=by rw [<- R.len]; omega
    have hj':j<nm.length:=by rw [<- R.len]; omega
    have e':nm.getD i ⟨#[]⟩=nm.getD j ⟨#[]⟩:=by
     generalize nm.getD i ⟨#[]⟩=x at e ⊢
     generalize nm.getD j ⟨#[]⟩=y at e ⊢
     obtain ⟨x⟩:=x
     obtain ⟨y⟩:=y
     exact congrArg Str.mk (Array.toList_inj.mp e)
    rw [List.getD_eq_getElem?_getD,List.getD_eq_getElem?_getD,List.getElem?_eq_getElem hi',List.getElem?_eq_getElem hj'] at e'
    exact (List.getElem_inj R.nd).mp e'
   have o:Srt.Ord lt its.length:=by
    refine ⟨fun i _=>?_,fun i j k _ _ _ a b=>?_,fun i j hi hj ne e=>?_⟩
    ·show decide _=false
     simp [ltS,List.lt_irrefl]
    ·have a':=of_decide_eq_true a
     have b':=of_decide_eq_true b
     exact decide_eq_true (List.lt_trans (show _<_ from a') b')
    ·have e':=of_decide_eq_false e
     refine decide_eq_true ?_
     unfold ltS at e' ⊢
     rcases Nat.lt_or_ge 0 0 with z | _
     ·omega
     ·have le:=List.not_lt.mp e'
      rcases List.le_iff_lt_or_eq.mp le with z | z
      ·exact z
      ·exact absurd (cinj j i hj hi z).symm ne
   refine Srt.pw_wp (lt:=lt) (n:=its.length) (Q:=fun p=>Srt.Pm p its.length/\Srt.Asc lt p its.length) (J:=fun s'=>s'={ s with heap:=h' }) ?_ ?_ (PySem.W.kas_sort its.length) _ rfl (Srt.tE o (by omega) fun p a b=>⟨a,b⟩)
   ·rintro i j C s' hi hj ne rfl hC
    obtain ⟨a,ob,vv,x,t,n,e1,e2,e3,e4,e5,e6,_⟩:=rowAt i hi
    obtain ⟨a',ob',vv',x',t',n',f1,f2,f3,f4,f5,f6,_⟩:=rowAt j hj
    show wpAny _ _ (keyLt' (tuples' true) (its.getD i Value.none) (its.getD j Value.none)) _ _ _
    rw [e1,f1]
    refine PySem.W.kat_lt e2 e4 f2 f4 ?_
    have g1:vv.toList=.str x t::vv.toList.tail:=by
     cases h:vv.toList with
     | nil =>
          have:vv[0]?=vv.toList[0]?:=by simp
          rw [this,h] at e5; cases e5
     | cons y r =>
            have:vv[0]?=vv.toList[0]?:=by simp
            rw [this,h] at e5
            have:y=.str x t:=by simpa using e5
            rw [this]; rfl
    have g2:vv'.toList=.str x' t'::vv'.toList.tail:=by
     cases h:vv'.toList with
     | nil =>
          have:vv'[0]?=vv'.toList[0]?:=by simp
          rw [this,h] at f5; cases f5
     | cons y r =>
            have:vv'[0]?=vv'.toList[0]?:=by simp
            rw [this,h] at f5
            have:y=.str x' t':=by simpa using f5
            rw [this]; rfl
    rw [g1,g2,List.zip_cons_cons]
    have d1:nm.getD i ⟨#[]⟩=x:=by rw [List.getD_eq_getElem?_getD,e6]; rfl
    have d2:nm.getD j ⟨#[]⟩=x':=by rw [List.getD_eq_getElem?_getD,f6]; rfl
    have hne:x≠x':=fun z=>ne (cinj i j hi hj (by rw [d1,d2,z]))
    refine PySem.W.kat_cons (wpAny_eqBool_str ?_)
    rw [decide_eq_false hne]
    refine PySem.W.kat_no ?_
    show wpAny _ _ (oneLt' true (.str x t) (.str x' t')) _ _ _
    refine oneLt_str ?_
    have:=hC _ rfl
    have el:lt i j=decide (x.cps.toList<x'.cps.toList):=by
     show decide (ltS _ _)=_
     rw [d1,d2]; rfl
    rw [el] at this
    exact this
   ·rintro pa s' rfl ⟨P,As⟩
    refine PySem.W.KasFin.intro F' N' (.head fun q hq=>?_) fun h2' c F2 N2=>?_
    ·exact Nat.ne_of_lt (hD q hq)
    ·have keep2:∀ b o,b≠X.env.locals->s.heap.get? b=some o->h2'.get? b=some o:=fun b o hb e=>by
      cases q:X.base.get? b with
      | some ob =>
       have:=I.bk b ob q
       rw [e] at this; cases this
       exact F2.keep b _ q
      | none=>exact (N2 (b,o) (List.mem_cons_of_mem _ (eO hb q e))).1
     have hDo:=(N2 _ List.mem_cons_self)
     have hDsz:s.heap.get? D=none:=by
      cases q:s.heap.get? D with
      | none=>rfl
      | some od=>exact absurd (hDs D od hDo.2.1 hDo.2.2 q) (Nat.lt_irrefl _)
     have hlt':∀ i∈pa.toList,i<vs.length:=fun i hi=>by
      obtain ⟨j,hj,rfl⟩:=Array.mem_iff_getElem.mp (Array.mem_toList_iff.mp hi)
      have:=P.lt j (by rw [<- P.sz]; exact hj)
      rw [Srt.bD] at this
      simp only [Array.getElem?_eq_getElem hj,Option.getD_some] at this
      omega
     have q:=k D pa.toList (I.hok.dead hDsz) (by rw [Array.length_toList,P.sz]; omega) ?_ hlt' ?_
     ·refine ⟨_,rfl,wpAny_pure ⟨_,rfl,.ref D,_,I.laidL (xs:=pa.toList.map fun i=>vs.getD i .non) F.ns F2.ns keep2 hDsz ⟨?_,pa.toList.map fun i=>its.getD i Value.none,c,rv.pick _ hlt',hDo.1⟩,rfl,q⟩⟩
      rw [List.length_map,Array.length_toList,P.sz]; exact hz
     ·rw [List.nodup_iff_pairwise_ne,List.pairwise_iff_getElem]
      intro i j hi hj hij e
      have hi':i<pa.size:=by simpa using hi
      have hj':j<pa.size:=by simpa using hj
      have:=P.nd i j (by rw [<- P.sz]; exact hi') (by rw [<- P.sz]; exact hj') (by rw [Srt.bD,Srt.bD]; simpa [hi',hj'] using e)
      omega
     ·rw [List.pairwise_map,List.pairwise_iff_getElem]
      intro i j hi hj hij
      have hi':i<pa.size:=by simpa using hi
      have hj':j<pa.size:=by simpa using hj
      have:=As i j hij (by rw [<- P.sz]; exact hj')
      rw [Srt.bD,Srt.bD] at this
      have:=of_decide_eq_true this
      simpa [hi',hj'] using this
theorem oS:CallR X (.builtin "sorted") (rSortR X.K):=by
 intro pins s σ H xs us Q I r h
 obtain ⟨p,vs,nm,rfl,hq,h64,R,k⟩:=h
 obtain ⟨u,rfl,ru⟩:=r.one
 cases ru
 obtain ⟨its,rv,pl,hz⟩:=I.list hq
 refine fV (fun R' g=>collect_list pl.isList (g _ s.toks fun b o e=>?_) (by rw [<- rv.length]; exact hz)) fun h1 tk kk=>hV (I.kept kk) rv (by rw [<- rv.length]; exact hz) h64 R k
 have hb:b<s.heap.objs.size:=Heap.lt_size e
 rw [Heap.get?_update_ne _ _ _ _ (Nat.ne_of_lt hb)]
 exact Heap.get?_push_of_some _ e
end
end L2
namespace L2
open PySem PySem.Spec PyProof.Rows
section
open PySem.SeqAt
open PySem.AutoSeq1 (wpAny_loadPart')
open PySem.MeetsSeq PySem.MeetsSeq2 PySem.MeetsSeq3
end
section
variable {X:Cx}
noncomputable def rNeNil (K:PySem.W.Frag):R2:=fun x y H Q=>∃ a b xs,x=.ref a/\y=.ref b/\SqL K H a xs/\SqL K H b []/\Q (.bl (!xs.isEmpty)) H
theorem ir (hu:X.A.units<cLine):OpR X (compareOp .NotEq) (rNeNil X.K):=by
 intro pins s σ H x y v u Q I rx ry h
 obtain ⟨a,b,xs,rfl,rfl,ha,hb,q⟩:=h
 cases rx
 cases ry
 obtain ⟨its,r1,p1,_⟩:=I.list ha
 obtain ⟨its2,r2,p2,_⟩:=I.list hb
 cases r2
 have fin:∀ k,k=(!xs.isEmpty)->EP X pins σ Q (.bool k) s:=fun k e=>by subst e; exact ⟨.bl _,H,I,rfl,q⟩
 cases r1 with
 | nil=>exact SeqAt.RcNeAt.lists (e:=fun _=>true) p1.isList p2.isList rfl hu (fun j h1 h2=>absurd h1 (by simp)) X.prog X.w X.xe _ (fin _ rfl)
 | cons _ _=>exact SeqAt.RcNeAt.lists_lengths p1.isList p2.isList (by simp) hu X.prog X.w X.xe _ (fin _ rfl)
noncomputable def repS (x:Str) (n:Nat):Str:=⟨(List.replicate n x.cps.toList).flatten.toArray⟩
noncomputable def rMulS:R2:=fun x y H Q=>∃ (z:Str) (i:Int),x=.str z/\y=.int i/\0<=i/\i<=1000/\z.length<=1000/\Q (.str (repS z i.toNat)) H
theorem kP (x:Array Nat):∀ (n:Nat) (acc:Array Nat),((List.replicate n x).foldl (·++·) acc)=acc++(List.replicate n x.toList).flatten.toArray
 | 0,acc=>by simp
 | n+1,acc=>by
  rw [List.replicate_succ,List.foldl_cons,kP x n,List.replicate_succ,List.flatten_cons]
  apply Array.toList_inj.mp
  simp
theorem tu (x:Str) (i:Int) (h:0<=i):Txt.mul x i=repS x i.toNat:=by
 unfold Txt.mul repS
 by_cases h1:i<1
 ·have:i=0:=by omega
  subst this
  rfl
 ·rw [if_neg h1]
  by_cases h2:(i==1 || x.length==0)=true
  ·rw [if_pos h2]
   rw [Bool.or_eq_true] at h2
   obtain ⟨x⟩:=x
   rcases h2 with z | z
   ·have:i=1:=by simpa using z
    subst this
    congr 1
    apply Array.toList_inj.mp
    simp
   ·have hz:x.size=0:=by simpa [Str.length] using z
    have:x=#[]:=Array.eq_empty_of_size_eq_zero hz
    subst this
    congr 1
    apply Array.toList_inj.mp
    simp
  ·rw [if_neg h2,kP]
   congr 1
   simp
theorem t5:OpR X (binaryOp .Mult) rMulS:=by
 intro pins s σ H x y v u Q I rx ry h
 obtain ⟨z,i,rfl,rfl,h0,h1,h2,q⟩:=h
 obtain ⟨t,rfl⟩:=rx
 obtain ⟨t',rfl⟩:=ry
 refine SB.mul ⟨?_,fun _ _ hh=>?_,fun _ _=>?_⟩ fun t2 k=>?_
 ·rw [decide_eq_false (by omega),decide_eq_false (by omega)]; rfl
 ·have:((2:Int) ^ 63 - 1) / i ≥ 2 ^ 50:=by
   apply (Int.le_ediv_iff_mul_le (by omega)).mpr
   have:(2:Int) ^ 50*i<=2 ^ 50*1000:=Int.mul_le_mul_of_nonneg_left h1 (by decide)
   have e:(2:Int) ^ 50*1000<=2 ^ 63 - 1:=by decide
   omega
  have e:(2:Int) ^ 50 > 1000:=by decide
  omega
 ·have:z.length*i.toNat<=1000*1000:=Nat.mul_le_mul h2 (by omega)
  refine decide_eq_false ?_
  rw [sizeLine_eq]
  omega
 ·rw [tu z i h0]
  exact ⟨.str (repS z i.toNat),H,I.tok k,⟨_,rfl⟩,q⟩
noncomputable def rIsi (K:PySem.W.Frag):List V->Hp->VK->Prop:=fun xs H Q=>∃ x t c b,xs=[x,.ty c]/\TyOf K H x t/\PySem.W.kitOne K t (.type c)=some b/\Q (.bl b) H
theorem sN:CallR X (.builtin "isinstance") (rIsi X.K):=by
 intro pins s σ H xs us Q I r h
 obtain ⟨x,t,c,b,rfl,ty,e,q⟩:=h
 cases r with
 | cons r1 r2 =>
  cases r2 with
  | cons r2 r3 =>
   cases r3
   cases r2
   exact qt I r1 ty e fun tk=>⟨.bl b,H,I.tok tk,rfl,q⟩
end
noncomputable def tDC (wi:TI) (g:TG) (tc:TT) (tk te:TE) (js:List (Option Nat)):TE:=fun σ H Q=>wi σ H fun J H1=>∀ l,H1 l=none ->
 ∃ W:Nat->Nat->List (Key×V)->Hp->Prop,(∃ m,W 0 m [] (upd H1 l (.dK [])))/\∀ i m ys H2,W i m ys H2 ->
  (J.stop i H2/\Q (.ref l) H2)\/(J.go i H2/\∀ x H3,J.yld i H2 x H3->g x (capS js σ) H3 fun σ4 H4=>tc σ4 H4 fun b H5 =>
   if b=true then tk σ4 H5 fun kk H6=>te σ4 H6 fun y H7=>∃ key,kk=kV key/\H7 l=some (.dK ys)/\ys.length<sizeLine/\∃ m',m'<m/\W (i+1) m' (putK ys key y) (upd H7 l (.dK (putK ys key y))) else ∃ m',m'<m/\W (i+1) m' ys H5)
section
variable {X:Cx} {tg kx vx iter:Expr} {ifs:List Expr} {scope:Scope} {pos:Pos} {wi:TI} {g:TG} {tc:TT} {tk te:TE} {N:List Str} {js:List (Option Nat)}
theorem uI {use:Option (Value->Sem Unit)} {pins:List (Addr×Obj)} {s:Shared} {σ:St} {H:Hp} {Q:VK} {QQ:Value->Shared->Prop} {E:Value->Shared->Prop} {pos':Pos} (hc:X.calm=true) (hx:X.xe=fun _ _=>False) (hi:PI X tg iter wi)
  (hg:∀ C s₀ H₀ ex pn,PG (cxComp X scope N C s₀ H₀ ex pn) tg g) (ht:∀ C s₀ H₀ ex pn,PF (cxComp X scope N C s₀ H₀ ex pn) ifs tc) (hk:∀ C s₀ H₀ ex pn,PE (cxComp X scope N C s₀ H₀ ex pn) kx tk) (he:∀ C s₀ H₀ ex pn,PE (cxComp X scope N C s₀ H₀ ex pn) vx te) (hgs:Gsets js g)
  (hsc:scOk X.env scope=true) (hcap:capOk X.N scope N js=true) (hkind:scope.kind=.function) (hs:∀ x,foldedSetIterable iter X.env x=pure x)
  (I:Inv X pins σ H s) (h:tDC wi g tc tk te js σ H Q)
  (fin:∀ (l C:Addr) (H':Hp) (s':Shared),Inv X pins σ H' s'->Q (.ref l) H'->H' C=none->C≠X.env.locals->X.s₀.heap.objs.size<=C->(∀ x c,X.env.cells.lookup x=some c->c≠C)->(∀ p∈X.pn++pins,p.1≠C)->(∃ m,s'.heap.Ns C m)->compPost (model X.prog X.w) X.A E use QQ (.ref l) C (.ok .next) s') :
  wpAny (model X.prog X.w) X.A (comprehension (.DictComp kx vx [⟨tg,iter,ifs,0⟩] scope pos) scope X.env pos' newDict false (eval iter X.env) use) QQ E s:=by
 have SC:=nC hsc
 have CP:=mO hcap
 refine wpAny_comprehension_free (cl:=clOf X.env.cells scope.names []) rfl hs (fS (SC.cells I.ok)) hkind SC.lc ?_
 refine wpAny_mono (hi pins s σ H _ I h) (fun v s1 h1=>wpAny_mono h1 (fun itv s2 h2=>?_) (fun _ _ z=>by rw [hx] at z; exact z.elim)) (fun _ _ z=>by rw [hx] at z; exact z.elim)
 obtain ⟨it,fp,tn,J,H2,rfl,I2,T,st2,f2,hq⟩:=h2
 have hD0:H2 s2.heap.objs.size=none:=I2.hok.fresh (Nat.le_refl _)
 obtain ⟨W,⟨m0,w0⟩,turn⟩:=hq s2.heap.objs.size hD0
 refine wpAny_bind (wpAny_alloc (wpAny_pure (wpAny_newFunctionEnv (fun x hx=>SC.nc x hx) (by intro y hy; simp at hy) (fun h₁ hns₁ hsb₁=>?_) hkind)))
 dsimp only at hns₁ hsb₁ ⊢
 generalize hH3:s2.heap.push ({ cls:=.type "dict",data:=.dict #[] }:Obj)=hp3 at hns₁ hsb₁ ⊢
 have hCs:hp3.objs.size=s2.heap.objs.size+1:=by rw [<- hH3,Heap.size_push]
 have I3:Inv X pins σ (upd H2 s2.heap.objs.size (.dK [])) { s2 with heap:=hp3 }:=by
  rw [<- hH3]
  exact I2.laid (t':=s2.toks) (fun b u e=>Heap.get?_push_of_some _ e) (Nat.le_refl _) (sE s2.heap I2.big)
 have keep:∀ b o,hp3.get? b=some o->h₁.get? b=some o:=fun b o e=>hsb₁.extBut b o (Nat.ne_of_lt (Heap.lt_size e)) (Heap.get?_push_of_some _ e)
 have fpo:∀ b∈fp,b<s2.heap.objs.size:=fun b hb=>by
  obtain ⟨o,e,_⟩:=T.obj _ _ st2 b hb
  exact Heap.lt_size e
 have f3:∀ b∈fp,FpOk X pins (upd H2 s2.heap.objs.size (.dK [])) b:=fun b hb=>⟨by rw [aq (Nat.ne_of_lt (fpo b hb))]; exact (f2 b hb).1,(f2 b hb).2⟩
 have J4:=my (tk:=s2.toks+([]:List (Str×Value)).length) (C:=hp3.objs.size) (fp:=fp) (h₁:=h₁) (scope:=scope) (N:=N) (js:=js) I3 SC CP hkind f3 (fun b hb=>by show b<hp3.objs.size; rw [hCs]; exact Nat.lt_succ_of_lt (fpo b hb)) rfl keep (by
  have:(fun x=>List.lookup x ([]:List (Str×Value)).reverse)=fun _=>none:=by funext x; rfl
  rw [this] at hns₁; exact hns₁)
 have st4:tn 0 h₁:=T.keep _ _ _ st2 fun b hb o e=>keep b o (by rw [<- hH3]; exact Heap.get?_push_of_some _ e)
 have loop:∀ s4:Shared,s4={ s2 with heap:=h₁,toks:=s2.toks+([]:List (Str×Value)).length } ->
   codeAny (model X.prog X.w) X.A (.compLoop (.DictComp kx vx [⟨tg,iter,ifs,0⟩] scope pos) 0 (.ref it) (.ref s2.heap.objs.size) (compEnvC scope (clOf X.env.cells scope.names []) hp3.objs.size X.env)) (compPost (model X.prog X.w) X.A E use QQ (.ref s2.heap.objs.size) hp3.objs.size) s4:=by
  rintro s4 rfl
  generalize hY:cxComp X scope N hp3.objs.size { s2 with heap:=hp3 } (upd H2 s2.heap.objs.size (.dK [])) fp (X.pn++pins)=Y at J4
  have fpY:∀ {H':Hp},(∀ b∈fp,H' b=none)->∀ b∈fp,FpOk Y [] H' b:=fun hn b hb=>by
   subst hY
   refine ⟨hn b hb,?_,?_,.inl hb,fun x c e=>?_,fun p hp=>?_⟩
   ·show b≠hp3.objs.size
    rw [hCs]; exact Nat.ne_of_lt (Nat.lt_succ_of_lt (fpo b hb))
   ·intro z
    rcases List.mem_cons.mp (I3.stkSub b z) with q | q
    ·exact (f3 b hb).2.1 q
    ·exact (f3 b hb).2.2.1 q
   ·exact (f3 b hb).2.2.2.2.1 x c (dM (SC.cells I.ok) (fun c e=>by simp at e) e)
   ·exact (f3 b hb).2.2.2.2.2 p (by simpa [cxComp] using hp)
  have hgY:PG Y tg g:=by subst hY; exact hg _ _ _ _ _
  have htY:PF Y ifs tc:=by subst hY; exact ht _ _ _ _ _
  have hkY:PE Y kx tk:=by subst hY; exact hk _ _ _ _ _
  have heY:PE Y vx te:=by subst hY; exact he _ _ _ _ _
  have eA:Y.A=X.A:=by subst hY; rfl
  have eP:Y.prog=X.prog:=by subst hY; rfl
  have eW:Y.w=X.w:=by subst hY; rfl
  have eK:Y.K=X.K:=by subst hY; rfl
  have eC:Y.calm=true:=by subst hY; exact hc
  have eX:Y.xe=fun _ _=>False:=by subst hY; rfl
  have eE:Y.env=compEnvC scope (clOf X.env.cells scope.names []) hp3.objs.size X.env:=by subst hY; rfl
  have T':Turn Y.prog Y.w Y.K tg J fp it tn:=by rw [eP,eW,eK]; exact T
  have eL:(capS js σ).length=js.length:=by unfold capS; rw [List.length_map]
  rw [<- eP,<- eW,<- eA,<- eE]
  refine codeAny_loop rfl (fun n s'=>∃ i ys H',Inv Y [] (capS js σ) H' s'/\tn i s'.heap/\(∀ b∈fp,H' b=none)/\W i n ys H') (fun n s' hI=>?_) m0 ⟨0,[],_,J4,st4,fun b hb=>(f3 b hb).1,w0⟩
  obtain ⟨i,ys,H5,I5,st5,fr5,w5⟩:=hI
  show wpAny _ Y.A ((compTurn (.DictComp kx vx [⟨tg,iter,ifs,0⟩] scope pos) 0 (.ref it) (.ref s2.heap.objs.size) Y.env).onRaise (fun x=>do noteFrame x Y.env; theTreesLotGoes x)) _ _ s'
  refine wpAny_noted ?_
  rw [compTurn_dict]
  refine wpAny_bind (wpAny_standAt (wpAny_bind ?_))
  have noE:∀ (x:Value) (s:Shared) (P:Prop),Y.xe x s->P:=fun x s P z=>by rw [eX] at z; exact z.elim
  rcases turn i n ys H5 w5 with ⟨stop,qn⟩ | ⟨go,step⟩
  ·refine wpAny_mono (T'.done Y rfl rfl rfl eC i [] s' _ H5 Y.xe I5 (fpY fr5) st5 stop) (fun r s6 ⟨hr,I6⟩=>?_) fun x s z=>noE x s _ z
   subst hr
   refine wpAny_pure ?_
   show compPost _ _ _ _ _ _ _ _ _
   rw [eP,eW,eA]
   have back:Inv X pins σ H5 s6:=by subst hY; exact mz I3 I6 f3
   have hn6:∃ m,s6.heap.Ns hp3.objs.size m:=by
    obtain ⟨m,hm,_⟩:=I6.loc
    have:Y.env.locals=hp3.objs.size:=by rw [eE]; rfl
    rw [this] at hm
    exact ⟨m,hm⟩
   have hC6:H5 hp3.objs.size=none:=by
    have:=I6.free
    have e:Y.env.locals=hp3.objs.size:=by rw [eE]; rfl
    rw [e] at this; exact this
   refine fin s2.heap.objs.size hp3.objs.size H5 s6 back qn hC6 ?_ ?_ ?_ ?_ hn6
   ·exact Nat.ne_of_gt I3.lt
   ·exact I3.sz
   ·intro x c e z
    obtain ⟨v,o,ho,_⟩:=I3.cell x c e
    exact absurd (Heap.lt_size ho) (by rw [z]; exact Nat.lt_irrefl _)
   ·intro p hp z
    have:=Heap.lt_size (I3.pin p hp).1
    rw [z] at this; exact absurd this (Nat.lt_irrefl _)
  ·refine wpAny_mono (T'.item Y rfl rfl rfl eC i [] s' _ H5 Y.xe I5 (fpY fr5) st5 go) (fun r s6 h6=>?_) fun x s z=>noE x s _ z
   obtain ⟨u,hr,h6⟩:=h6
   subst hr
   dsimp only
   refine wpAny_bind ?_
   refine wpAny_mono h6 (fun _ s7 h7=>?_) fun x s z=>noE x s _ z
   obtain ⟨x,H7,I7,r7,y7,st7,fr7⟩:=h7
   have I7':=I7.pinned (fpY fr7) (T.obj _ _ st7)
   have g7:=hgs x (capS js σ) H7 _ (step x H7 y7)
   refine wpAny_bind ?_
   refine wpAny_mono (hgY _ s7 (capS js σ) H7 x u _ I7' r7 g7) (fun _ s8 h8=>?_) fun x s z=>noE x s _ z
   obtain ⟨σ8,H8,I8,q8,l8,k8⟩:=h8
   refine wpAny_bind ?_
   refine wpAny_mono (htY _ s8 σ8 H8 _ I8 q8) (fun b s9 h9=>?_) fun x s z=>noE x s _ z
   obtain ⟨H9,I9,q9⟩:=h9
   have again:∀ {s':Shared} {H':Hp},Inv Y ([]++pinsAt fp s7.heap) σ8 H' s'->Inv Y [] (capS js σ) H' s'/\tn (i+1) s'.heap/\∀ b∈fp,H' b=none:=fun {s' H'} I'=>by
    refine ⟨(I'.unpinned).weak l8.symm fun k v e=>?_,T.keep _ _ _ st7 fun b hb o e=>(I'.pin (b,o) (List.mem_append_right _ (List.mem_append_right _ (bZ hb e)))).1,fun b hb=>?_⟩
    ·cases ej:js[k]? with
     | none =>
      unfold capS at e
      rw [List.getElem?_map,ej] at e; cases e
     | some o =>
      cases o with
      | none =>
       unfold capS at e
       rw [List.getElem?_map,ej] at e; cases e
      | some j=>rw [k8 k j ej]; exact e
    ·obtain ⟨o,e,d⟩:=T.obj _ _ st7 b hb
     exact (I'.pin (b,o) (List.mem_append_right _ (List.mem_append_right _ (bZ hb e)))).2.1
   cases b with
   | false =>
    rw [if_neg Bool.false_ne_true] at q9
    obtain ⟨m',hm,w9⟩:=q9
    obtain ⟨a1,a2,a3⟩:=again I9
    exact wpAny_pure ⟨rfl,m',hm,i+1,ys,H9,a1,a2,a3,w9⟩
   | true =>
    rw [if_pos rfl] at q9
    refine wpAny_bind (wpAny_bind ?_)
    refine wpAny_mono (hkY _ s9 σ8 H9 _ I9 q9) (fun kv s10 h10=>?_) fun x s z=>noE x s _ z
    obtain ⟨kk,H10,I10,r10,q10⟩:=h10
    refine wpAny_bind (wpAny_holding ?_)
    refine wpAny_mono (heY _ s10 σ8 H10 _ I10 q10) (fun vv s11 h11=>?_) fun x s z=>noE x s _ z
    obtain ⟨yv,H11,I11,r11,key,ek,e11,z11,m',hm,w11⟩:=h11
    subst ek
    refine wpAny_bind (wpAny_standAt (wpAny_holding ?_))
    obtain ⟨zz,hd,vs,rel,dd⟩:=jr I11.hok e11
    have hz:vs.length<=sizeLine:=by rw [<- rel.length]; exact zz
    have hl:(putK ys key yv).length<=sizeLine:=by have:=eR ys key yv; omega
    refine wpAny_dictSet_pairs (hsz:=hz) (fI r10) dd fun h' dd' hs=>?_
    have he:∃ q,h'.get? s2.heap.objs.size=some q:=let ⟨q,_,_,hq,_⟩:=dd'; ⟨q,hq⟩
    have I12:Inv Y _ σ8 (upd H11 s2.heap.objs.size (.dK (putK ys key yv))) { s11 with heap:=h',toks:=s11.toks+1 }:=gP (t':=s11.toks+1) I11 (by rw [e11]; exact True.intro) hs he (mH hl hd (rel.put key r11) dd')
    obtain ⟨a1,a2,a3⟩:=again I12
    exact wpAny_pure ⟨rfl,m',hm,i+1,putK ys key yv,_,a1,a2,a3,w11⟩
 exact codeAny_compStart_dict (loop _ rfl) (T.self X.A 0 _ _ _ st4 (loop _ rfl))
theorem wF (hi:PI X tg iter wi) (hg:∀ C s₀ H₀ ex pn,PG (cxComp X scope N C s₀ H₀ ex pn) tg g) (ht:∀ C s₀ H₀ ex pn,PF (cxComp X scope N C s₀ H₀ ex pn) ifs tc) (hk:∀ C s₀ H₀ ex pn,PE (cxComp X scope N C s₀ H₀ ex pn) kx tk) (he:∀ C s₀ H₀ ex pn,PE (cxComp X scope N C s₀ H₀ ex pn) vx te) (hgs:Gsets js g)
  (hc:autoParam (X.calm=true) Z2._auto_1) (hx:autoParam (X.xe=(fun _ _=>False)) Z2._auto_1) (hsc:autoParam (scOk X.env scope=true) Z2._auto_1) (hcap:autoParam (capOk X.N scope N js=true) Z2._auto_1) (hkind:autoParam (scope.kind=.function) Z2._auto_1) (hs:autoParam (∀ x,foldedSetIterable iter X.env x=pure x) Z3._auto_1) :
  PE X (.DictComp kx vx [⟨tg,iter,ifs,0⟩] scope pos) (tDC wi g tc tk te js):=by
 intro pins s σ H Q I h
 show wpAny _ X.A (comprehension (.DictComp kx vx [⟨tg,iter,ifs,0⟩] scope pos) scope X.env _ newDict false (eval iter X.env)) _ _ s
 refine uI (use:=none) hc hx hi hg ht hk he hgs hsc hcap hkind hs I h fun l C H' s' I' q f0 f1 f2 f3 f4 ⟨m,hm⟩=>?_
 refine ⟨m,hm,fun h' sb=>⟨.ref l,H',?_,rfl,q⟩⟩
 exact I'.turned (t':=s'.toks) (it:=C) (fun b o hb e=>sb.extBut b o hb e) f0 f1 (.inr f2) f3 f4
end
end L2
namespace L2
open PySem PySem.Spec PyProof.Rows
section
variable {X:Cx}
theorem hJ:∀ {bs:List Bool} {us:List Value},Vals (bs.map V.bl) us->LSm.BoolsAre us bs
 | [],_,r=>by cases r; exact .nil
 | b::bs,_,r=>by
  cases r with
  | cons r1 r2=>cases r1; exact .cons b (hJ r2)
theorem dN (hc:X.calm=true):CallR X (.builtin "all") (fun xs H Q=>∃ (p:Addr) (bs:List Bool),xs=[.ref p]/\SqL X.K H p (bs.map V.bl)/\Q (.bl (bs.all id)) H):=by
 intro pins s σ H xs us Q I r h
 obtain ⟨p,bs,rfl,hq,q⟩:=h
 obtain ⟨u,rfl,ru⟩:=r.one
 cases ru
 obtain ⟨its,rv,pl,hz⟩:=I.list hq
 have hb:=hJ rv
 have hl:=pl.isList
 have hlt:p<s.heap.objs.size:=by obtain ⟨_,e,_⟩:=hl; exact Heap.lt_size e
 refine call_all_walk (wpAny_pyIter_list hl ⟨s.heap.objs.size,[s.heap.objs.size,p],[s.heap.objs.size],its.toArray.size,_,_,fun i=>(bs[i]?).getD true,rfl,
  Walks.list (A:=X.A.in1) (I.ok.hd hc) _ p (Nat.ne_of_lt hlt) its.toArray,⟨⟨_,Heap.get?_push_size _ rfl,rfl,rfl⟩,hl.push _⟩,fun i v s' Q' E' hP hQ=>?_,fun h' tk hk=>?_⟩)
 ·obtain ⟨b,eb,rfl⟩:=hb.get i v (by simpa using hP)
  simp only [eb,Option.getD_some] at hQ
  exact wpAny_truthy_bool hQ
 ·have eb:((List.range its.toArray.size).all fun i=>(bs[i]?).getD true)=bs.all id:=by
   rw [List.size_toArray,hb.length,LSm.range_all bs]
  rw [eb]
  exact ⟨.bl (bs.all id),H,I.kept (LSm.kept_iter hk),rfl,q⟩
end
end L2
namespace L2
open PySem PySem.Spec PyProof.Rows
section
variable {prog:Program} {w:World} {A:Around} {E:Value->Shared->Prop} {s:Shared}
theorem jQ {j t:Addr} {n:Nat} {its:Array Value} {x:Value} {Q:Value->Shared->Prop} (gj:s.heap.IsTupleIter j t n) (gt:s.heap.IsTuple t its) (gx:its[n]?=some x)
  (k:∀ h',h'.IsTupleIter j t (n+1)->Heap.SameBut j s.heap h'->Q x { s with heap:=h' }):wpAny (model prog w) A (Builtin.SmallTypes.nextOf (.ref j)) Q E s:=by
 obtain ⟨oj,j1,j2,j3⟩:=id gj
 obtain ⟨ot,t1,_,m,t3⟩:=gt
 unfold Builtin.SmallTypes.nextOf
 refine wpAny_bind (wpAny_callSpecial?_slot (name:=Str.ofString "__next__") gj.typeIs F.slot_tuple_iterator_next (wpAny_call_entry F.slot_tuple_iterator_next gj.typeIs F.entry_tuple_iterator_next ?_ (F.args_tuple_iterator_next_1 _)))
 show wpAny _ _ (field (.ref j) 0 >>= _) _ _ s
 refine wpAny_bind (wpAny_field j1 j3 (x:=.ref t) rfl ?_)
 show wpAny _ _ (if (Value.ref t==.none)=true then _ else _) _ _ s
 rw [if_neg (show ¬ ((Value.ref t==.none)=true) from Bool.false_ne_true)]
 show wpAny _ _ (field (.ref j) 1 >>= _) _ _ s
 refine wpAny_bind (wpAny_field j1 j3 (x:=.int n 0) rfl ?_)
 refine wpAny_bind (m:=seqItems? (.ref t)) (wpAny_seqItems t1 t3 ?_)
 simp only [Int.toNat_natCast,gx]
 refine wpAny_bind (wpAny_setField j1 j3 (by simp) (wpAny_pure ⟨x,rfl,wpAny_pure (k _ ⟨_,Heap.get?_update_self _ j1 (Obj.isFreed_of_fields (Obj.data_mapFields j3 _)),(Obj.cls_mapFields ..).trans j2,?_⟩ (Heap.SameBut.update ..))⟩))
 rw [Obj.data_mapFields j3]
 simp [rawInt]
theorem endTup {j t:Addr} {n:Nat} {its:Array Value} {Q:Value->Shared->Prop} (hh:A.handled=none) (gj:s.heap.IsTupleIter j t n) (gt:s.heap.IsTuple t its) (gx:its[n]?=none)
  (k:∀ h' e,Heap.ExtBut j s.heap h'->(∃ o,h'.get? e=some o/\o.cls=.type "StopIteration")->E (.ref e) { s with heap:=h' }):wpAny (model prog w) A (Builtin.SmallTypes.nextOf (.ref j)) Q E s:=by
 obtain ⟨oj,j1,j2,j3⟩:=id gj
 obtain ⟨ot,t1,_,m,t3⟩:=gt
 unfold Builtin.SmallTypes.nextOf
 refine wpAny_bind (wpAny_callSpecial?_slot (name:=Str.ofString "__next__") gj.typeIs F.slot_tuple_iterator_next (wpAny_call_entry F.slot_tuple_iterator_next gj.typeIs F.entry_tuple_iterator_next ?_ (F.args_tuple_iterator_next_1 _)))
 show wpAny _ _ (field (.ref j) 0 >>= _) _ _ s
 refine wpAny_bind (wpAny_field j1 j3 (x:=.ref t) rfl ?_)
 show wpAny _ _ (if (Value.ref t==.none)=true then _ else _) _ _ s
 rw [if_neg (show ¬ ((Value.ref t==.none)=true) from Bool.false_ne_true)]
 show wpAny _ _ (field (.ref j) 1 >>= _) _ _ s
 refine wpAny_bind (wpAny_field j1 j3 (x:=.int n 0) rfl ?_)
 refine wpAny_bind (m:=seqItems? (.ref t)) (wpAny_seqItems t1 t3 ?_)
 simp only [Int.toNat_natCast,gx]
 refine wpAny_bind (wpAny_rule (wpAny_bind (wpAny_setField j1 j3 (by simp) ?_)))
 refine wpAny_bind (m:=newExc (.type "StopIteration") []) ?_
 simp only [newExc,newTuple]
 refine wpAny_bind (wpAny_newObj_type (wpAny_bind (m:=firstArgMember _ _) (wpAny_of_eq (a:=Value.none) (by first | rfl | (simp only [firstArgMember]; rfl)) (wpAny_newObj_type ?_ (by size_fits)))) (by size_fits))
 simp only [raiseNew]
 refine wpAny_bind (wpAny_handled ?_)
 first | rw [show A.in1.handled=none from hh] | rw [hh]
 exact wpAny_bind (wpAny_pure (wpAny_throw (k _ _ (((Heap.SameBut.update ..).extBut.push _).push _) ⟨_,Heap.get?_push_size _ rfl,rfl⟩)))
structure ZipT (h:Heap) (z u o i1 i2 t1 t2:Addr) (n:Nat):Prop where
 zz:IsZip h z u o .none
 uu:IsPair h u (.ref i1) (.ref i2)
 oo:∃ a b,IsPair h o a b
 a1:h.IsTupleIter i1 t1 n
 a2:h.IsTupleIter i2 t2 n
structure Five (z u o i1 i2:Addr):Prop where
 uz:u≠z
 oz:o≠z
 x1z:i1≠z
 x2z:i2≠z
 uo:u≠o
 u1:u≠i1
 u2:u≠i2
 o1:o≠i1
 o2:o≠i2
 xx:i1≠i2
theorem tupAt {h h':Heap} {a:Addr} {its:Array Value} (x:h.IsTuple a its) (k:∀ o,h.get? a=some o->h'.get? a=some o):h'.IsTuple a its:=by
 obtain ⟨o,e,r⟩:=x
 exact ⟨o,k o e,r⟩
theorem itrAt {h h':Heap} {a t:Addr} {n:Nat} (x:h.IsTupleIter a t n) (k:∀ o,h.get? a=some o->h'.get? a=some o):h'.IsTupleIter a t n:=by
 obtain ⟨o,e,r⟩:=x
 exact ⟨o,k o e,r⟩
theorem dh {h:Heap} {t z u o:Addr} {v:Value} {its:Array Value} (x:h.IsTuple t its) (y:IsZip h z u o v):t≠z:=by
 rintro rfl
 obtain ⟨q,e,c,_⟩:=x
 rw [y] at e; cases e
 simp at c
theorem iU {h:Heap} {t j b:Addr} {n:Nat} {its:Array Value} (x:h.IsTuple t its) (y:h.IsTupleIter j b n):t≠j:=by
 rintro rfl
 obtain ⟨q,e,c,_⟩:=x
 obtain ⟨q',e',c',_⟩:=y
 rw [e] at e'; cases e'
 rw [c] at c'
 simp at c'
theorem o4 {z u o i1 i2 t1 t2:Addr} {n:Nat} {xs ys:Array Value} {x y:Value} {Q:Option Value->Shared->Prop} (D:Five z u o i1 i2) (Z:ZipT s.heap z u o i1 i2 t1 t2 n) (ho1:t1≠o) (ho2:t2≠o)
  (g1:s.heap.IsTuple t1 xs) (g2:s.heap.IsTuple t2 ys) (e1:xs[n]?=some x) (e2:ys[n]?=some y)
  (k:∀ h',IsZip h' z u o (rawInt s.heap.objs.size)->IsPair h' u (.ref i1) (.ref i2)->IsPair h' o x y->h'.IsTupleIter i1 t1 (n+1)->h'.IsTupleIter i2 t2 (n+1)->IsPair h' s.heap.objs.size x y->h'.objs.size=s.heap.objs.size+1 ->
   (∀ c q,c∉[z,o,i1,i2]->s.heap.get? c=some q->h'.get? c=some q)->Q (some (.ref s.heap.objs.size)) { s with heap:=h' }) :
  wpAny (model prog w) A (pyNext (.ref z)) Q E s:=by
 obtain ⟨zz,uu,⟨a,b,oo⟩,a1,a2⟩:=Z
 have z1:=dh g1 zz
 have z2:=dh g2 zz
 have hty:s.TypeIs (.ref z) "zip" := ⟨_,zz,rfl⟩
 unfold pyNext
 refine wpAny_bind (wpAny_attempt (wpAny_callSpecial?_slot (name:=Str.ofString "__next__") hty F.slot_zip_next (wpAny_call_entry F.slot_zip_next hty F.entry_zip_next ?_ (F.args_zip_next_1 _))))
 refine wpAny_bind (m:=field (.ref z) 2) (wpAny_field zz rfl (x:=.bool false) rfl ?_)
 refine wpAny_bind (m:=field (.ref z) 3) (wpAny_field zz rfl (x:=.ref u) rfl ?_)
 refine wpAny_bind (wpAny_seqItems uu rfl ?_)
 refine wpAny_bind (m:=Builtin.SmallTypes.ownedTupleIsFree (.ref z)) ?_
 unfold Builtin.SmallTypes.ownedTupleIsFree
 refine wpAny_bind (wpAny_field zz rfl (x:=.none) rfl (wpAny_pure ?_))
 simp only [if_true]
 refine wpAny_bind (wpAny_rule (wpAny_bind (wpAny_field zz rfl (x:=.ref o) rfl (wpAny_bind (wpAny_setField_rec zz (by simp) fun p1 q1 k1=>?_)))))
 replace q1:IsZip p1 z u o .ellipsis:=q1
 refine wpAny_bind ?_
 simp only [List.zipIdx_cons,List.zipIdx_nil,List.forIn_cons,List.forIn_nil]
 refine wpAny_bind (wpAny_bind (wpAny_onRaise ?_))
 refine wpAny_bind (m:=Builtin.SmallTypes.nextOf (.ref i1)) (jQ (itrAt a1 fun q e=>k1.extBut _ _ D.x1z e) (tupAt g1 fun q e=>k1.extBut _ _ z1 e) e1 fun p2 q2 k2=>wpAny_pure ?_)
 have r2:IsPair p2 o a b:=k2.extBut _ _ D.o1 (k1.extBut _ _ D.oz oo)
 refine wpAny_bind (wpAny_seqItems r2 rfl (wpAny_bind (wpAny_updateSeq_pair r2 fun p3 q3 k3=>?_)))
 replace q3:IsPair p3 o x b:=q3
 refine wpAny_bind (wpAny_letGo (wpAny_pure (wpAny_bind (wpAny_bind (wpAny_onRaise ?_)))))
 refine wpAny_bind (m:=Builtin.SmallTypes.nextOf (.ref i2)) (jQ (itrAt a2 fun q e=>k3.extBut _ _ D.o2.symm (k2.extBut _ _ D.xx.symm (k1.extBut _ _ D.x2z e)))
  (tupAt g2 fun q e=>k3.extBut _ _ ho2 (k2.extBut _ _ (iU g2 a1) (k1.extBut _ _ z2 e))) e2 fun p4 q4 k4=>wpAny_pure ?_)
 have r4:IsPair p4 o x b:=k4.extBut _ _ D.o2 q3
 refine wpAny_bind (wpAny_seqItems r4 rfl (wpAny_bind (wpAny_updateSeq_pair r4 fun p5 q5 k5=>?_)))
 replace q5:IsPair p5 o x y:=q5
 refine wpAny_bind (wpAny_letGo (wpAny_pure (wpAny_pure ?_)))
 refine wpAny_bind (wpAny_seqItems q5 rfl (wpAny_bind (wpAny_newTuple ?_)))
 have sz:p5.objs.size=s.heap.objs.size:=by rw [k5.1,k4.1,k3.1,k2.1,k1.1]
 have all5:∀ c q,c≠z->c≠o->c≠i1->c≠i2->s.heap.get? c=some q->p5.get? c=some q:=fun c q c1 c2 c3 c4 e=>k5.extBut _ _ c2 (k4.extBut _ _ c4 (k3.extBut _ _ c2 (k2.extBut _ _ c3 (k1.extBut _ _ c1 e))))
 have z5:IsZip p5 z u o .ellipsis:=k5.extBut _ _ D.oz.symm (k4.extBut _ _ D.x2z.symm (k3.extBut _ _ D.oz.symm (k2.extBut _ _ D.x1z.symm q1)))
 have b1:p5.IsTupleIter i1 t1 (n+1):=itrAt q2 fun q e=>k5.extBut _ _ D.o1.symm (k4.extBut _ _ D.xx (k3.extBut _ _ D.o1.symm e))
 have b2:p5.IsTupleIter i2 t2 (n+1):=itrAt q4 fun q e=>k5.extBut _ _ D.o2.symm e
 refine wpAny_bind (m:=Builtin.SmallTypes.ownedTupleHandOut (.ref z) (.ref p5.objs.size)) ?_
 unfold Builtin.SmallTypes.ownedTupleHandOut
 have z6:IsZip (p5.push { cls:=.type "tuple",data:=.seq #[x,y] }) z u o .ellipsis:=Heap.get?_push_of_some _ z5
 refine wpAny_bind (wpAny_setField_rec z6 (by simp) fun p7 q7 k7=>?_)
 replace q7:IsZip p7 z u o (rawInt p5.objs.size):=q7
 refine wpAny_setField_rec q7 (by simp) fun p8 q8 k8=>?_
 replace q8:IsZip p8 z u o (rawInt p5.objs.size):=q8
 have up:∀ c q,c≠z->p5.get? c=some q->p8.get? c=some q:=fun c q c1 e=>k8.extBut _ _ c1 (k7.extBut _ _ c1 (Heap.get?_push_of_some _ e))
 have zlt:p5.objs.size≠z:=Nat.ne_of_gt (Heap.lt_size z5)
 have new8:IsPair p8 p5.objs.size x y:=k8.extBut _ _ zlt (k7.extBut _ _ zlt (Heap.get?_push_size _ rfl))
 have s8:p8.objs.size=p5.objs.size+1:=by rw [k8.1,k7.1,Heap.size_push]
 rw [sz] at q8 new8 s8
 refine wpAny_pure ⟨_,rfl,wpAny_pure ?_⟩
 show Q (some (.ref p5.objs.size)) _
 rw [sz]
 exact k p8 q8 (up _ _ D.uz (all5 _ _ D.uz D.uo D.u1 D.u2 uu)) (up _ _ D.oz q5) (itrAt b1 fun q e=>up _ _ D.x1z e) (itrAt b2 fun q e=>up _ _ D.x2z e) new8 s8 fun c q hc e=>by
  simp only [List.mem_cons,List.not_mem_nil,or_false,not_or] at hc
  exact up c q hc.1 (all5 c q hc.1 hc.2.1 hc.2.2.1 hc.2.2.2 e)
theorem qX {z u o i1 i2 t1 t2:Addr} {n:Nat} {xs ys:Array Value} {Q:Option Value->Shared->Prop} (hh:A.handled=none) (D:Five z u o i1 i2) (Z:ZipT s.heap z u o i1 i2 t1 t2 n) (ho1:t1≠o) (ho2:t2≠o)
  (g1:s.heap.IsTuple t1 xs) (g2:s.heap.IsTuple t2 ys) (e:xs[n]?=none\/ys[n]?=none)
  (k:∀ h',(∀ c q,c∉[z,o,i1,i2]->s.heap.get? c=some q->h'.get? c=some q)->Q none { s with heap:=h' }) :
  wpAny (model prog w) A (pyNext (.ref z)) Q E s:=by
 obtain ⟨zz,uu,⟨a,b,oo⟩,a1,a2⟩:=Z
 have z1:=dh g1 zz
 have z2:=dh g2 zz
 have hty:s.TypeIs (.ref z) "zip" := ⟨_,zz,rfl⟩
 unfold pyNext
 have fin:∀ (h':Heap) (x:Addr),(∀ c q,c∉[z,o,i1,i2]->s.heap.get? c=some q->h'.get? c=some q)->(∃ q,h'.get? x=some q/\q.cls=.type "StopIteration") ->
   wpAny (model prog w) A (do if (<- isInstance (.ref x) (.type "StopIteration")) then pure none else throw (.ref x)) Q E { s with heap:=h' }:=fun h' x kk ⟨q,hq,hc⟩ =>
  wpAny_bind (wpAny_isInstance (T := "StopIteration") (b:=true) ⟨q,hq,hc⟩ isSubtype_stop (wpAny_pure (k _ kk)))
 refine wpAny_bind (wpAny_attempt (wpAny_callSpecial?_slot (name:=Str.ofString "__next__") hty F.slot_zip_next (wpAny_call_entry F.slot_zip_next hty F.entry_zip_next ?_ (F.args_zip_next_1 _))))
 refine wpAny_bind (m:=field (.ref z) 2) (wpAny_field zz rfl (x:=.bool false) rfl ?_)
 refine wpAny_bind (m:=field (.ref z) 3) (wpAny_field zz rfl (x:=.ref u) rfl ?_)
 refine wpAny_bind (wpAny_seqItems uu rfl ?_)
 refine wpAny_bind (m:=Builtin.SmallTypes.ownedTupleIsFree (.ref z)) ?_
 unfold Builtin.SmallTypes.ownedTupleIsFree
 refine wpAny_bind (wpAny_field zz rfl (x:=.none) rfl (wpAny_pure ?_))
 simp only [if_true]
 refine wpAny_bind (wpAny_rule (wpAny_bind (wpAny_field zz rfl (x:=.ref o) rfl (wpAny_bind (wpAny_setField_rec zz (by simp) fun p1 q1 k1=>?_)))))
 replace q1:IsZip p1 z u o .ellipsis:=q1
 refine wpAny_bind ?_
 simp only [List.zipIdx_cons,List.zipIdx_nil,List.forIn_cons,List.forIn_nil]
 refine wpAny_bind (wpAny_bind (wpAny_onRaise ?_))
 cases e1:xs[n]? with
 | none =>
  refine wpAny_bind (m:=Builtin.SmallTypes.nextOf (.ref i1)) (endTup hh (itrAt a1 fun q e=>k1.extBut _ _ D.x1z e) (tupAt g1 fun q e=>k1.extBut _ _ z1 e) e1 fun p2 x k2 ⟨ox,x1,x2⟩=>?_)
  have q2:IsZip p2 z u o .ellipsis:=k2 _ _ D.x1z.symm q1
  have xz:x≠z:=fun q=>by subst q; rw [q2] at x1; cases x1; simp at x2
  refine wpAny_setField_rec q2 (by simp) fun p3 _ k3=>fin p3 x (fun c q hc e=>?_) ⟨ox,k3.extBut _ _ xz x1,x2⟩
  simp only [List.mem_cons,List.not_mem_nil,or_false,not_or] at hc
  exact k3.extBut _ _ hc.1 (k2 _ _ hc.2.2.1 (k1.extBut _ _ hc.1 e))
 | some x0 =>
  have e2:ys[n]?=none:=by rcases e with h | h; rw [e1] at h; cases h; exact h
  refine wpAny_bind (m:=Builtin.SmallTypes.nextOf (.ref i1)) (jQ (itrAt a1 fun q e=>k1.extBut _ _ D.x1z e) (tupAt g1 fun q e=>k1.extBut _ _ z1 e) e1 fun p2 q2 k2=>wpAny_pure ?_)
  have r2:IsPair p2 o a b:=k2.extBut _ _ D.o1 (k1.extBut _ _ D.oz oo)
  refine wpAny_bind (wpAny_seqItems r2 rfl (wpAny_bind (wpAny_updateSeq_pair r2 fun p3 q3 k3=>?_)))
  refine wpAny_bind (wpAny_letGo (wpAny_pure (wpAny_bind (wpAny_bind (wpAny_onRaise ?_)))))
  refine wpAny_bind (m:=Builtin.SmallTypes.nextOf (.ref i2)) (endTup hh (itrAt a2 fun q e=>k3.extBut _ _ D.o2.symm (k2.extBut _ _ D.xx.symm (k1.extBut _ _ D.x2z e)))
   (tupAt g2 fun q e=>k3.extBut _ _ ho2 (k2.extBut _ _ (iU g2 a1) (k1.extBut _ _ z2 e))) e2 fun p4 x k4 ⟨ox,x1,x2⟩=>?_)
  have q4:IsZip p4 z u o .ellipsis:=k4 _ _ D.x2z.symm (k3.extBut _ _ D.oz.symm (k2.extBut _ _ D.x1z.symm q1))
  have xz:x≠z:=fun q=>by subst q; rw [q4] at x1; cases x1; simp at x2
  refine wpAny_setField_rec q4 (by simp) fun p5 _ k5=>fin p5 x (fun c q hc e=>?_) ⟨ox,k5.extBut _ _ xz x1,x2⟩
  simp only [List.mem_cons,List.not_mem_nil,or_false,not_or] at hc
  exact k5.extBut _ _ hc.1 (k4 _ _ hc.2.2.2 (k3.extBut _ _ hc.2.1 (k2.extBut _ _ hc.2.2.1 (k1.extBut _ _ hc.1 e))))
end
end L2
namespace L2
open PySem PySem.Spec PyProof.Rows
noncomputable abbrev zT1 (h:Heap) (t1:Addr):Heap:=h.push { cls:=.type "tuple_iterator",data:=.fields #[.ref t1,.int 0 0] }
noncomputable abbrev zT2 (h:Heap) (t1 t2:Addr):Heap:=(zT1 h t1).push { cls:=.type "tuple_iterator",data:=.fields #[.ref t2,.int 0 0] }
noncomputable abbrev zT3 (h:Heap) (t1 t2:Addr):Heap:=(zT2 h t1 t2).push { cls:=.type "tuple",data:=.seq #[.ref h.objs.size,.ref (zT1 h t1).objs.size] }
noncomputable abbrev zT4 (h:Heap) (t1 t2:Addr):Heap:=(zT3 h t1 t2).push { cls:=.type "tuple",data:=.seq #[.none,.none] }
noncomputable abbrev zT5 (h:Heap) (t1 t2:Addr):Heap:=(zT4 h t1 t2).push { cls:=.type "zip",data:=.fields #[.none,.bool false,.bool false,.ref (zT2 h t1 t2).objs.size,.ref (zT3 h t1 t2).objs.size] }
theorem se (t1 t2:Addr) (xs ys:Array Value):Meets (Builtin.«zip.__new__» ⟨[.type "zip",.ref t1,.ref t2],[]⟩)
  (fun _ R s=>s.heap.IsTuple t1 xs/\s.heap.IsTuple t2 ys/\R (.ok (.ret (.ref (zT4 s.heap t1 t2).objs.size))) { s with heap:=zT5 s.heap t1 t2 }) :=
 .of_wp fun prog w A R s q=>by
  obtain ⟨hp,g,d,tk,os⟩:=s
  obtain ⟨g1,g2,q⟩:=q
  have hs:=sub_zip
  have m1:Heap.IsTuple (Shared.heap ⟨hp,g,d,tk,os⟩) t1 xs:=g1
  have m2:Heap.IsTuple (Shared.heap ⟨hp.push { cls:=.type "tuple_iterator",data:=.fields #[.ref t1,.int 0 0] },g,d,tk,os⟩) t2 ys:=Heap.IsTuple.push g2 _
  wp_walk using wpAny_pyIter_tuple m1,wpAny_pyIter_tuple m2
  exact ⟨_,rfl,q⟩
section
variable {prog:Program} {w:World} {A:Around} {E:Value->Shared->Prop} {s:Shared}
theorem uP {t1 t2:Addr} {xs ys:Array Value} {Q:Value->Shared->Prop} (g1:s.heap.IsTuple t1 xs) (g2:s.heap.IsTuple t2 ys)
  (k:∀ h',ZipT h' (s.heap.objs.size+4) (s.heap.objs.size+2) (s.heap.objs.size+3) s.heap.objs.size (s.heap.objs.size+1) t1 t2 0->h'.objs.size=s.heap.objs.size+5->(∀ c o,s.heap.get? c=some o->h'.get? c=some o)->Q (.ref (s.heap.objs.size+4)) { s with heap:=h' }) :
  wpAny (model prog w) A (call (.type "zip") [.ref t1,.ref t2]) Q E s:=by
 refine callType_new F.called_zip (by decide) (F.typeCall_zip_2 _ _) (F.newCall_zip_2 _ _) (fun obj=>F.args_object_init_3 obj _ _) F.entry_zip_new (se t1 t2 xs ys) ⟨g1,g2,?_⟩
 have z1:(zT1 s.heap t1).objs.size=s.heap.objs.size+1:=Heap.size_push ..
 have z2:(zT2 s.heap t1 t2).objs.size=s.heap.objs.size+2:=by rw [Heap.size_push,z1]
 have z3:(zT3 s.heap t1 t2).objs.size=s.heap.objs.size+3:=by rw [Heap.size_push,z2]
 have z4:(zT4 s.heap t1 t2).objs.size=s.heap.objs.size+4:=by rw [Heap.size_push,z3]
 have z5:(zT5 s.heap t1 t2).objs.size=s.heap.objs.size+5:=by rw [Heap.size_push,z4]
 have up:∀ {h:Heap} {o o':Obj} {c:Addr},h.get? c=some o'->(h.push o).get? c=some o':=fun e=>Heap.get?_push_of_some _ e
 have y5:(zT5 s.heap t1 t2).get? (zT4 s.heap t1 t2).objs.size=some _:=Heap.get?_push_size _ rfl
 have y4:(zT5 s.heap t1 t2).get? (zT3 s.heap t1 t2).objs.size=some _:=up (Heap.get?_push_size _ rfl)
 have y3:(zT5 s.heap t1 t2).get? (zT2 s.heap t1 t2).objs.size=some _:=up (up (Heap.get?_push_size _ rfl))
 have y2:(zT5 s.heap t1 t2).get? (zT1 s.heap t1).objs.size=some _:=up (up (up (Heap.get?_push_size _ rfl)))
 have y1:(zT5 s.heap t1 t2).get? s.heap.objs.size=some _:=up (up (up (up (Heap.get?_push_size _ rfl))))
 show _/\_
 rw [z2,z3,z4] at y5
 rw [z1,z2] at y3
 rw [z3] at y4
 rw [z1] at y2
 rw [z4]
 exact ⟨⟨_,y5,rfl⟩,k _ ⟨y5,y3,⟨_,_,y4⟩,⟨_,y1,rfl,rfl⟩,⟨_,y2,rfl,rfl⟩⟩ z5 fun c o e=>up (up (up (up (up e))))⟩
end
section
variable {X:Cx} {pins:List (Addr×Obj)} {σ:St} {H:Hp} {s:Shared}
theorem Inv.turnedL {t':Nat} {fp:List Addr} {h':Heap} (I:Inv X pins σ H s) (k:∀ b o,b∉fp->s.heap.get? b=some o->h'.get? b=some o) (hf:∀ b∈fp,FpOk X pins H b):Inv X pins σ H { s with heap:=h',toks:=t' }:=by
 have nit:∀ b u,H b=some u->b∉fp:=fun b u e z=>by rw [(hf b z).1] at e; cases e
 refine I.step (g':=s.gens) (d':=s.drawn) (ch:=fp) (fun b hb=>?_) (fun b o _ _ hc e _=>k b o hc e) (fun b o _ _ hc e _=>⟨o.slots,k b o hc e⟩) (fun _ _ _ _ n=>n)
  (fun b o hc e=>⟨o,k b o hc e⟩) (fun _ _ e=>e) (fun _ _ _ e=>e) (fun b ps e=>⟨#[],by rw [e]; simp⟩) (fun m hm=>?_) (fun b u e=>?_) I.bare
 ·obtain ⟨f0,f1,f2,f3,f4,f5⟩:=hf b hb
  exact ⟨f3,f1,f4,f5⟩
 ·obtain ⟨o,es,ep,ho,r⟩:=hm
  exact ⟨o,es,ep,k _ o (fun z=>(hf _ z).2.1 rfl) ho,r⟩
 ·refine (I.hok b u e).stay (fun c v hc q=>k c v ?_ q) (fun _ q=>q) fun _ _ q=>q
  rcases hc with z | z
  ·rw [z]; exact nit b u e
  ·exact nit c _ z
end
noncomputable def Itz (K:PySem.W.Frag) (a b:Addr):It :=
 ⟨fun i H=>∃ xs ys x y,SqT K H a xs/\SqT K H b ys/\xs[i]?=some x/\ys[i]?=some y,
  fun i H v H'=>∃ p x y,v=.ref p/\H p=none/\H'=upd H p (.tup [x,y])/\∀ xs ys,SqT K H a xs->SqT K H b ys->xs[i]?=some x/\ys[i]?=some y,
  fun i H=>∃ xs ys,SqT K H a xs/\SqT K H b ys/\(xs.length<=i\/ys.length<=i)⟩
theorem oZ {h h':Heap} {z u o i1 i2 t1 t2:Addr} {n:Nat} (Z:ZipT h z u o i1 i2 t1 t2 n) (k:∀ b∈[z,u,o,i1,i2],∀ q,h.get? b=some q->h'.get? b=some q):ZipT h' z u o i1 i2 t1 t2 n:=by
 obtain ⟨zz,uu,⟨a,b,oo⟩,a1,a2⟩:=Z
 exact ⟨k z (by simp) _ zz,k u (by simp) _ uu,⟨a,b,k o (by simp) _ oo⟩,itrAt a1 fun q e=>k i1 (by simp) q e,itrAt a2 fun q e=>k i2 (by simp) q e⟩
theorem re {P:Program} {w:World} {K:PySem.W.Frag} {elts:List Expr} {x1:_} {pos:Pos} (a b z u o i1 i2:Addr) (D:Five z u o i1 i2) (ho1:a≠o) (ho2:b≠o) :
  Turn P w K (.Tuple elts x1 pos) (Itz K a b) [z,u,o,i1,i2] z (fun n h=>ZipT h z u o i1 i2 a b n) where
 mem:=by simp
 obj:=fun n h Z c hc=>by
  obtain ⟨zz,uu,⟨p,q,oo⟩,⟨o1,e1,c1,d1⟩,⟨o2,e2,c2,d2⟩⟩:=Z
  simp only [List.mem_cons,List.not_mem_nil,or_false] at hc
  rcases hc with rfl | rfl | rfl | rfl | rfl
  ·exact ⟨_,zz,fun v e=>(by cases (show Data.fields _=Data.cell v from e))⟩
  ·exact ⟨_,uu,fun v e=>(by cases (show Data.seq _ _=Data.cell v from e))⟩
  ·exact ⟨_,oo,fun v e=>(by cases (show Data.seq _ _=Data.cell v from e))⟩
  ·exact ⟨_,e1,fun v e=>(by rw [d1] at e; cases e)⟩
  ·exact ⟨_,e2,fun v e=>(by rw [d2] at e; cases e)⟩
 keep:=fun n h h' Z k=>oZ Z k
 item:=by
  intro X hP hw hK hc n pins s σ H E I hf Z hg
  subst hP hw hK
  obtain ⟨xs,ys,x,y,hx,hy,ex,ey⟩:=hg
  obtain ⟨is1,rv1,p1,hz1⟩:=I.tuple hx
  obtain ⟨is2,rv2,p2,hz2⟩:=I.tuple hy
  obtain ⟨v1,e1,r1⟩:=rv1.get ex
  obtain ⟨v2,e2,r2⟩:=rv2.get ey
  have hfree:H s.heap.objs.size=none:=I.hok.fresh (Nat.le_refl _)
  refine o4 D Z ho1 ho2 (show s.heap.IsTuple a is1.toArray from p1) (show s.heap.IsTuple b is2.toArray from p2) (x:=v1) (y:=v2) (by simpa using e1) (by simpa using e2) fun h' q1 q2 q3 q4 q5 q6 q7 kk=>?_
  refine ⟨_,rfl,wpAny_letOwnedTupleGo_zip (s:={ s with heap:=h' }) q1 fun h2 w1 w2=>?_⟩
  have old:∀ c∈[z,u,o,i1,i2],c<s.heap.objs.size:=fun c hc=>by
   obtain ⟨zz,uu,⟨p,q,oo⟩,⟨o1,e1,c1,d1⟩,⟨o2,e2,c2,d2⟩⟩:=Z
   simp only [List.mem_cons,List.not_mem_nil,or_false] at hc
   rcases hc with rfl | rfl | rfl | rfl | rfl
   ·exact Heap.lt_size zz
   ·exact Heap.lt_size uu
   ·exact Heap.lt_size oo
   ·exact Heap.lt_size e1
   ·exact Heap.lt_size e2
  have hnz:s.heap.objs.size≠z:=Nat.ne_of_gt (old z (by simp))
  have I1:Inv X pins σ (upd H s.heap.objs.size (.tup [x,y])) { s with heap:=s.heap.push { cls:=.type "tuple",data:=.seq #[v1,v2] } } :=
   I.laid (t':=s.toks) (fun b u e=>Heap.get?_push_of_some _ e) (Nat.le_refl _) ⟨by show 2<=sizeLine; decide,[v1,v2],.cons r1 (.cons r2 .nil),⟨_,Heap.get?_push_size _ rfl,rfl,_,rfl⟩⟩
  have hf1:∀ c∈[z,u,o,i1,i2],FpOk X pins (upd H s.heap.objs.size (.tup [x,y])) c:=fun c hc=>⟨by rw [aq (Nat.ne_of_lt (old c hc))]; exact (hf c hc).1,(hf c hc).2⟩
  have I2:Inv X pins σ (upd H s.heap.objs.size (.tup [x,y])) { s with heap:=h2 }:=by
   refine I1.turnedL (t':=s.toks) (h':=h2) (fun c q hc e=>?_) hf1
   have hcz:c≠z:=fun e=>hc (by simp [e])
   refine w2.extBut _ _ hcz ?_
   by_cases hcs:c=s.heap.objs.size
   ·subst hcs
    have:(s.heap.push { cls:=.type "tuple",data:=.seq #[v1,v2] }).get? s.heap.objs.size=some { cls:=.type "tuple",data:=.seq #[v1,v2] }:=Heap.get?_push_size _ rfl
    have e':some { cls:=.type "tuple",data:=.seq #[v1,v2] }=some q:=this.symm.trans e
    rw [<- e']; exact q6
   ·refine kk c q (fun z=>hc ?_) ?_
    ·simp only [List.mem_cons,List.not_mem_nil,or_false] at z ⊢
     rcases z with z | z | z | z
     ·exact .inl z
     ·exact .inr (.inr (.inl z))
     ·exact .inr (.inr (.inr (.inl z)))
     ·exact .inr (.inr (.inr (.inr z)))
    ·exact (Heap.get?_push_ne _ _ _ hcs).symm.trans e
  refine ⟨.ref s.heap.objs.size,_,I2,rfl,⟨_,x,y,rfl,hfree,rfl,fun xs' ys' g1 g2=>?_⟩,?_,fun c hc=>(hf1 c hc).1⟩
  ·rw [I.tuple_inj g1 hx,I.tuple_inj g2 hy]
   exact ⟨ex,ey⟩
  ·exact ⟨w1,w2.extBut _ _ D.uz q2,⟨_,_,w2.extBut _ _ D.oz q3⟩,itrAt q4 fun q e=>w2.extBut _ _ D.x1z e,itrAt q5 fun q e=>w2.extBut _ _ D.x2z e⟩
 done:=by
  intro X hP hw hK hc n pins s σ H E I hf Z hg
  subst hP hw hK
  obtain ⟨xs,ys,hx,hy,hl⟩:=hg
  obtain ⟨is1,rv1,p1,hz1⟩:=I.tuple hx
  obtain ⟨is2,rv2,p2,hz2⟩:=I.tuple hy
  have l1:=rv1.length
  have l2:=rv2.length
  refine qX (I.ok.hd hc) D Z ho1 ho2 (show s.heap.IsTuple a is1.toArray from p1) (show s.heap.IsTuple b is2.toArray from p2) ?_ fun h' kk=>⟨rfl,I.turnedL (t':=s.toks) (fun c q hc e=>kk c q (fun z=>hc ?_) e) hf⟩
  ·rcases hl with h | h
   ·exact .inl (by simp; omega)
   ·exact .inr (by simp; omega)
  ·simp only [List.mem_cons,List.not_mem_nil,or_false] at z ⊢
   rcases z with z | z | z | z
   ·exact .inl z
   ·exact .inr (.inr (.inl z))
   ·exact .inr (.inr (.inr (.inl z)))
   ·exact .inr (.inr (.inr (.inr z)))
 self:=fun _ _ _ _ _ Z h=>wpAny_pyIter_zip Z.zz h
theorem five (n:Nat):Five (n+4) (n+2) (n+3) n (n+1) :=
 ⟨show ¬ ((n+2:Nat)=n+4) by omega,show ¬ ((n+3:Nat)=n+4) by omega,show ¬ ((n:Nat)=n+4) by omega,show ¬ ((n+1:Nat)=n+4) by omega,show ¬ ((n+2:Nat)=n+3) by omega,show ¬ ((n+2:Nat)=n) by omega,show ¬ ((n+2:Nat)=n+1) by omega,show ¬ ((n+3:Nat)=n) by omega,show ¬ ((n+3:Nat)=n+1) by omega,show ¬ ((n:Nat)=n+1) by omega⟩
section
variable {X:Cx}
end
end L2
namespace L2
open PySem PySem.Spec PyProof.Rows
section
variable {prog:Program} {w:World} {A:Around} {E:Value->Shared->Prop} {s:Shared}
theorem gU {t sl:Addr} {its:Array Value} {vl vu:Value} {lo hi:Option Int} {Q:Value->Shared->Prop} (g:IsTup s.heap t its) (hs:s.heap.IsSliceOf sl vl vu .none) (pl:IsPart vl lo) (pu:IsPart vu hi)
  (hw:HT.sIx its.size 0 lo=0/\HT.sIx its.size its.size hi=its.size) (k:Q (.ref t) s):wpAny (model prog w) A (getItem (.ref t) (.ref sl)) Q E s:=by
 obtain ⟨q,q1,q2,q3⟩:=id hs
 have ty:s.TypeIs (.ref sl) "slice" := ⟨q,q1,q2⟩
 unfold getItem
 try with_reducible refine wpAny_holding ?_
 first | refine wpAny_bind (wpAny_pure ?_) | skip
 refine wpAny_bind (wpAny_sequenceKey g.typeIs (by decide) (wpAny_bind (wpAny_callSpecial?_slot (name:=Str.ofString "__getitem__") g.typeIs PyProof.Rows.slot_tuple_getitem (wpAny_call_entry PyProof.Rows.slot_tuple_getitem g.typeIs entry_tuple_getitem ?_ (args_tuple_getitem _ _)))))
 refine wpAny_bind (m:=Builtin.Tuple.tupleItemsOf (.ref t)) (tupleItemsOf_ g (wpAny_bind (wpAny_typeOf ty ?_)))
 rw [if_pos (by decide)]
 refine wpAny_bind (HT.sliceApplied_gen hs pl pu ?_)
 show wpAny _ _ (if (((HT.sIx its.size 0 lo:Nat):Int)==0 && (1:Int)==1 && (HT.sIx its.size its.size hi - HT.sIx its.size 0 lo)==its.size)=true then _ else _) _ _ s
 rw [if_pos (by rw [hw.1,hw.2]; simp)]
 refine wpAny_bind ?_
 unfold Builtin.Tuple.tupleIsExact
 refine wpAny_bind (wpAny_typeOf g.typeIs (wpAny_pure ?_))
 rw [if_pos (by decide)]
 exact wpAny_bind (wpAny_rule (wpAny_pure ⟨_,rfl,wpAny_pure k⟩))
end
section
variable {X:Cx}
noncomputable def rSlW (K:PySem.W.Frag):V->Option Int->Option Int->Hp->VK->Prop:=fun x lo hi H Q=>∃ a xs,x=.ref a/\SqT K H a xs /\
 (HT.sIx xs.length 0 lo=0/\HT.sIx xs.length xs.length hi=xs.length->Q (.ref a) H)/\∀ p,H p=none->Q (.ref p) (upd H p (.tup (cutV xs lo hi)))
theorem tG:SlR X (rSlW X.K):=by
 intro pins s σ H x v vl vu lo hi sl Q I rx hs pl pu h
 obtain ⟨a,xs,rfl,hx,hq,q⟩:=h
 by_cases hw:HT.sIx xs.length 0 lo=0/\HT.sIx xs.length xs.length hi=xs.length
 ·cases rx
  obtain ⟨its,r,ht,hz⟩:=I.tuple hx
  have hn:its.toArray.size=xs.length:=by rw [List.size_toArray]; exact r.length.symm
  refine ⟨"tuple",_,PyProof.Rows.slot_tuple_getitem.lookup,ht.typeIs,gU ht hs pl pu (by rw [hn]; exact hw) ⟨.ref a,H,I,rfl,hq hw⟩⟩
 ·exact u5 pins s σ H (.ref a) v vl vu lo hi sl Q I rx hs pl pu ⟨a,xs,rfl,hx,hw,q⟩
end
end L2
namespace L2
open PySem PySem.Spec PyProof.Rows
section
variable {prog:Program} {w:World} {A:Around} {E:Value->Shared->Prop} {s:Shared}
theorem i0 {x:Value} {Q:Value->Shared->Prop} (hc:wpAny (model prog w) A.in1 (collect x) (fun vs s1=>∃ (ss:List Str) (h1:Heap) (tk:Nat),s1={ s with heap:=h1,toks:=tk }/\StrsAre vs ss/\vs.length<64 /\
   (∀ (h2:Heap) (out:List Value) (ss':List Str) (n:Nat),(∀ b o,h1.get? b=some o->h2.get? b=some o)->h2.get? h1.objs.size=some (seqObj "list" out.toArray n)->StrsAre out ss'->ss'.Perm ss->sortedS ss'=true->Q (.ref h1.objs.size) { s with heap:=h2,toks:=tk })) E s) :
  wpAny (model prog w) A (call (.builtin "sorted") [x]) Q E s:=by
 refine Calls.call_function_entry kind_sorted plain_sorted entry_sorted (args_sorted1 _) ?_
 unfold Builtin.«sorted»
 refine wpAny_bind (m:=checkCount "sorted" 1 1 _) (wpAny_pure (wpAny_bind (wpAny_mono hc (fun vs s1 hv=>?_) fun _ _ e=>e)))
 obtain ⟨ss,h1,tk,rfl,hS,h64,k⟩:=hv
 refine wpAny_bind (wpAny_newList ?_ (by rw [sizeLine_eq]; omega))
 have at1:(h1.push (seqObj "list" vs.toArray 0)).get? h1.objs.size=some (seqObj "list" vs.toArray 0):=Heap.get?_push_size _ rfl
 refine wpAny_bind (wpAny_holding (wpAny_call_entry slot_list_sort ⟨_,at1,rfl⟩ entry_list_sort (list_sort_treeK strKind_oneLt at1 hS.keysOf (fun v₁ v₂ rest e=>keyKind_strs (by rw [<- e]; exact hS)) h64 fun st p q=>⟨_,rfl,?_⟩) (args_list_sort _)))
 obtain ⟨ss',b1,b2,b3⟩:=sorted_out_str hS p q
 obtain ⟨n,at2⟩:=sortedHeap_at (out:=(arrOf st).map (·.2)) at1
 refine wpAny_pure ⟨_,rfl,k _ ((arrOf st).map (·.2)).toList ss' n (fun b o e=>?_) (by rw [Array.toArray_toList]; exact at2) b1 b2 b3⟩
 have lt:=Heap.lt_size e
 rw [sortedHeap_old (Nat.ne_of_lt lt) (by rw [size_push']; exact Nat.lt_succ_of_lt lt)]
 exact Heap.get?_push_of_some _ e
end
section
variable {X:Cx}
theorem mw {P:Program} {w:World}:∀ {kvs:List (Key×Value)} {ss:List Str} {vs:List Value},kvs.map (·.1)=ss.map Sum.inr->vs.length=kvs.length->(∀ (j:Nat) (v:Value),vs[j]?=some v->∃ k x,kvs[j]?=some (k,x)/\(aO P w).is k v=true)->StrsAre vs ss
 | [],ss,vs,e,hl,_=>by
  have:ss=[]:=by cases ss with | nil=>rfl | cons _ _=>cases e
  subst this
  have:vs=[]:=List.length_eq_zero_iff.mp hl
  subst this
  exact .nil
 | (k,x)::r,ss,vs,e,hl,h=>by
  cases ss with
  | nil=>cases e
  | cons y ys =>
   cases vs with
   | nil=>cases hl
   | cons v us =>
    rw [List.map_cons,List.map_cons] at e
    injection e with e1 e2
    obtain ⟨k',x',e3,e4⟩:=h 0 v rfl
    have e3':(k,x)=(k',x'):=Option.some.inj e3
    cases e3'
    have e1':k=Sum.inr y:=e1
    subst e1'
    obtain ⟨t,rfl⟩:=Value.isStrOf_shape (x:=y) (v:=v) e4
    exact .cons y t (mw e2 (by simpa using hl) fun j u hj=>h (j+1) u hj)
noncomputable def rSortD:List V->Hp->VK->Prop:=fun xs H Q=>∃ (d:Addr) (kvs:List (Key×V)) (ss:List Str),xs=[.ref d]/\H d=some (.dK kvs)/\kvs.map (·.1)=ss.map Sum.inr/\ss.length<64 /\
 ∀ (l:Addr) (ss':List Str),H l=none->ss'.Perm ss->ss'.Pairwise (fun a b=>¬ ltS b a)->Q (.ref l) (upd H l (.lst (ss'.map V.str)))
theorem oU (hc:X.calm=true):CallR X (.builtin "sorted") rSortD:=by
 intro pins s σ H xs us Q I r h
 obtain ⟨d,kvs,ss,rfl,hd,hk,h64,k⟩:=h
 obtain ⟨u,rfl,ru⟩:=r.one
 cases ru
 obtain ⟨hz,lo,vs,hkv,hD⟩:=I.hok d _ hd
 obtain ⟨ep,hat⟩:=hD.dictAt
 have hkeys:vs.map (·.1)=ss.map Sum.inr:=by rw [<- hk]; exact hkv.keys.symm
 have hlen:vs.length=ss.length:=by have:=congrArg List.length hkeys; simpa using this
 refine i0 (PySem.W.kdu_collect (A:=X.A.in1) (PySem.W.kdl_dict (knd:=aO X.prog X.w) (kvs:=vs) (ep:=ep) lo) (I.ok.hd hc) hat (by rw [hlen,sizeLine_eq]; omega) fun h1 tk acc kk hit=>?_)
 have hl:acc.toList.length=vs.length:=by rw [Array.length_toList]; exact hit.1
 have hS:StrsAre acc.toList ss:=mw hkeys hl fun j v e=>hit.2 j v (by rw [<- Array.getElem?_toList]; exact e)
 refine ⟨ss,h1,tk,rfl,hS,by rw [hl,hlen]; exact h64,fun h2 out ss' n k2 e2 o1 o2 o3=>?_⟩
 have I1:Inv X pins σ H { s with heap:=h1,toks:=tk }:=I.kept kk
 refine ⟨.ref h1.objs.size,_,I1.laid (t':=tk) (a:=h1.objs.size) (o:=.lst (ss'.map V.str)) (fun b o q=>k2 b o q) (Nat.le_refl _) ?_,rfl,k _ ss' (I1.hok.fresh (Nat.le_refl _)) o2 (cQ o3)⟩
 exact ⟨by rw [List.length_map,o2.length_eq,sizeLine_eq]; omega,out,n,cT o1,e2⟩
end
noncomputable def setS (P:Program) (w:World) (a:Addr) (S:Str->Bool) (n:Nat):HO:=.ext fun h=>h.SetOf (PySem.strKind P w) a S n
section
variable {X:Cx}
theorem pY:OpR X (compareOp .NotIn) (fun x y H Q=>∃ z a S n,x=.str z/\y=.ref a/\H a=some (setS X.prog X.w a S n)/\Q (.bl (!S z)) H):=by
 intro pins s σ H x y v u Q I rx ry h
 obtain ⟨z,a,S,n,rfl,rfl,ha,q⟩:=h
 obtain ⟨t,rfl⟩:=rx
 cases ry
 obtain ⟨x,_,_⟩:=I.hok a _ ha
 exact wpAny_notInSet_of (knd:=PySem.strKind X.prog X.w) (strKind_is _ _ _ _) rfl x ⟨.bl (!S z),H,I.tok _,rfl,q⟩
end
end L2
namespace L2
open PySem PySem.Spec PyProof.Rows
section
variable {prog:Program} {w:World} {A:Around} {E:Value->Shared->Prop} {s:Shared}
noncomputable def strAt (us:Array Value) (i:Nat):Str:=match us[i]? with | some (.str x _)=>x | _=>⟨#[]⟩
theorem uN {us:Array Value} (hn:∀ v∈us,∃ x t,v=.str x t):CmpOf prog w A .Lt (fun i v=>us[i]?=some v) (fun i j=>decide (ltS (strAt us i) (strAt us j))):=fun i j vi vj s Q E hi hj q=>by
 obtain ⟨x,t,rfl⟩:=hn vi (Array.mem_of_getElem? hi)
 obtain ⟨y,t',rfl⟩:=hn vj (Array.mem_of_getElem? hj)
 have e1:strAt us i=x:=by unfold strAt; rw [hi]
 have e2:strAt us j=y:=by unfold strAt; rw [hj]
 dsimp only at q
 rw [e1,e2] at q
 exact PySem.richCompare_gives (op:=.Lt) (typeIs_str s x t) (typeIs_str s y t') F.slot_str_lt F.entry_str_lt (F.args_str_lt_2 _ _) (gives_str_lt x y t t') (fun e=>nomatch e) q
theorem uO {us:Array Value} (hn:∀ v∈us,∃ x t,v=.str x t):CmpOf prog w A .Gt (fun i v=>us[i]?=some v) (fun i j=>decide (ltS (strAt us j) (strAt us i))):=fun i j vi vj s Q E hi hj q=>by
 obtain ⟨x,t,rfl⟩:=hn vi (Array.mem_of_getElem? hi)
 obtain ⟨y,t',rfl⟩:=hn vj (Array.mem_of_getElem? hj)
 have e1:strAt us i=x:=by unfold strAt; rw [hi]
 have e2:strAt us j=y:=by unfold strAt; rw [hj]
 dsimp only at q
 rw [e1,e2] at q
 exact PySem.richCompare_gives (op:=.Gt) (typeIs_str s x t) (typeIs_str s y t') F.slot_str_gt F.entry_str_gt (F.args_str_gt_2 _ _) (gives_str_gt x y t t') (fun e=>nomatch e) q
theorem twoS {x y:Str} {t t':Tok}:∀ v∈(#[.str x t,.str y t']:Array Value),∃ z u,v=.str z u:=fun v hv=>by
 simp only [List.mem_toArray,List.mem_cons,List.not_mem_nil,or_false] at hv
 rcases hv with rfl | rfl
 ·exact ⟨x,t,rfl⟩
 ·exact ⟨y,t',rfl⟩
theorem sd {x y:Str} {t t':Tok} {Q:Value->Shared->Prop} (hh:A.handled=none) (k:∀ h' tk,(∀ c o,s.heap.get? c=some o->h'.get? c=some o)->Q (if ltS y x then .str y t' else .str x t) { s with heap:=h',toks:=tk }) :
  wpAny (model prog w) A (call (.builtin "min") [.str x t,.str y t']) Q E s:=by
 have g:(s.heap.push { cls:=.type "tuple",data:=.seq #[.str x t,.str y t'] }).IsTuple s.heap.objs.size #[.str x t,.str y t']:=⟨_,Heap.get?_push_size _ rfl,rfl,0,rfl⟩
 have sz:(s.heap.push { cls:=.type "tuple",data:=.seq #[.str x t,.str y t'] }).objs.size=s.heap.objs.size+1:=Heap.size_push ..
 refine call_min_two (wpAny_pyIter_tuple g ⟨_,[_,s.heap.objs.size],[_],_,_,_,_,rfl,Walks.tuple (A:=A.in1) hh _ s.heap.objs.size (by rw [sz]; exact Nat.ne_of_lt (Nat.lt_succ_self _)) #[.str x t,.str y t'],
  ⟨⟨_,Heap.get?_push_size _ rfl,rfl,rfl⟩,g.push _⟩,fun c hc=>?_,by simp,uN twoS,fun v h' tk hP hk=>?_⟩)
 ·show c<((s.heap.push _).push _).objs.size
  rw [Heap.size_push,sz]
  simp only [List.mem_cons,List.not_mem_nil,or_false] at hc
  rcases hc with rfl | rfl
  ·rw [sz]; exact Nat.lt_succ_self _
  ·exact Nat.lt_succ_of_lt (Nat.lt_succ_self _)
 ·have old:∀ c o,s.heap.get? c=some o->h'.get? c=some o:=fun c o e=>by
   refine hk c o (fun z=>?_) (Heap.get?_push_of_some _ (Heap.get?_push_of_some _ e))
   have lt:=Heap.lt_size e
   rw [List.mem_singleton.mp z,sz] at lt
   exact Nat.lt_irrefl _ (Nat.lt_of_succ_lt lt)
  have q:=k h' tk old
  have ev:v=if ltS y x then Value.str y t' else Value.str x t:=by
   by_cases c:ltS y x
   ·simp [argBest,strAt,c] at hP
    rw [if_pos c]; exact hP.symm
   ·simp [argBest,strAt,c] at hP
    rw [if_neg c]; exact hP.symm
  rw [ev]; exact q
theorem sg {x y:Str} {t t':Tok} {Q:Value->Shared->Prop} (hh:A.handled=none) (k:∀ h' tk,(∀ c o,s.heap.get? c=some o->h'.get? c=some o)->Q (if ltS x y then .str y t' else .str x t) { s with heap:=h',toks:=tk }) :
  wpAny (model prog w) A (call (.builtin "max") [.str x t,.str y t']) Q E s:=by
 have g:(s.heap.push { cls:=.type "tuple",data:=.seq #[.str x t,.str y t'] }).IsTuple s.heap.objs.size #[.str x t,.str y t']:=⟨_,Heap.get?_push_size _ rfl,rfl,0,rfl⟩
 have sz:(s.heap.push { cls:=.type "tuple",data:=.seq #[.str x t,.str y t'] }).objs.size=s.heap.objs.size+1:=Heap.size_push ..
 refine call_max_two (wpAny_pyIter_tuple g ⟨_,[_,s.heap.objs.size],[_],_,_,_,_,rfl,Walks.tuple (A:=A.in1) hh _ s.heap.objs.size (by rw [sz]; exact Nat.ne_of_lt (Nat.lt_succ_self _)) #[.str x t,.str y t'],
  ⟨⟨_,Heap.get?_push_size _ rfl,rfl,rfl⟩,g.push _⟩,fun c hc=>?_,by simp,uO twoS,fun v h' tk hP hk=>?_⟩)
 ·show c<((s.heap.push _).push _).objs.size
  rw [Heap.size_push,sz]
  simp only [List.mem_cons,List.not_mem_nil,or_false] at hc
  rcases hc with rfl | rfl
  ·rw [sz]; exact Nat.lt_succ_self _
  ·exact Nat.lt_succ_of_lt (Nat.lt_succ_self _)
 ·have old:∀ c o,s.heap.get? c=some o->h'.get? c=some o:=fun c o e=>by
   refine hk c o (fun z=>?_) (Heap.get?_push_of_some _ (Heap.get?_push_of_some _ e))
   have lt:=Heap.lt_size e
   rw [List.mem_singleton.mp z,sz] at lt
   exact Nat.lt_irrefl _ (Nat.lt_of_succ_lt lt)
  have q:=k h' tk old
  have ev:v=if ltS x y then Value.str y t' else Value.str x t:=by
   by_cases c:ltS x y
   ·simp [argBest,strAt,c] at hP
    rw [if_pos c]; exact hP.symm
   ·simp [argBest,strAt,c] at hP
    rw [if_neg c]; exact hP.symm
  rw [ev]; exact q
end
section
variable {X:Cx}
noncomputable def minS (x y:Str):Str:=if ltS y x then y else x
noncomputable def maxS (x y:Str):Str:=if ltS x y then y else x
theorem oW (hc:X.calm=true):CallR X (.builtin "min") (fun xs H Q=>∃ x y,xs=[.str x,.str y]/\Q (.str (minS x y)) H):=by
 intro pins s σ H xs us Q I r h
 obtain ⟨x,y,rfl,q⟩:=h
 obtain ⟨u,v,rfl,⟨t,rfl⟩,⟨t',rfl⟩⟩:=vals2 r
 refine sd (I.ok.hd hc) fun h' tk k=>⟨.str (minS x y),H,I.kept k,?_,q⟩
 unfold minS
 split <;> exact ⟨_,rfl⟩
theorem oX (hc:X.calm=true):CallR X (.builtin "max") (fun xs H Q=>∃ x y,xs=[.str x,.str y]/\Q (.str (maxS x y)) H):=by
 intro pins s σ H xs us Q I r h
 obtain ⟨x,y,rfl,q⟩:=h
 obtain ⟨u,v,rfl,⟨t,rfl⟩,⟨t',rfl⟩⟩:=vals2 r
 refine sg (I.ok.hd hc) fun h' tk k=>⟨.str (maxS x y),H,I.kept k,?_,q⟩
 unfold maxS
 split <;> exact ⟨_,rfl⟩
end
end L2
namespace L2
open PySem PySem.Spec PyProof.Rows
noncomputable def Its (x:Str):It:=⟨fun i _=>i<x.cps.size,fun i H v H'=>H'=H/\∃ c,x.cps[i]?=some c/\v=.str ⟨#[c]⟩,fun i _=>x.cps.size<=i⟩
theorem fB (x:Str):strIterType x = "str_ascii_iterator" \/ strIterType x = "str_iterator" := by
 unfold strIterType
 split
 ·exact .inl rfl
 ·exact .inr rfl
theorem rg {P:Program} {w:World} {K:PySem.W.Frag} {tg:Expr} (x:Str) (t:Tok) (it:Addr):Turn P w K tg (Its x) [it] it (fun i h=>h.IsStrIter it (strIterType x) x t i) where
 mem:=by simp
 obj:=fun i h st b hb=>by
  have e:b=it:=by simpa using hb
  subst e
  obtain ⟨o,e,c,d⟩:=st
  exact ⟨o,e,fun v z=>by rw [d] at z; cases z⟩
 keep:=fun i h h' st k=>by
  obtain ⟨o,e,r⟩:=st
  exact ⟨o,k it (by simp) o e,r⟩
 item:=by
  intro X hP hw hK hc i pins s σ H E I hf st hg
  subst hP hw hK
  have hg':i<x.cps.size:=hg
  have hx:x.cps[i]?=some x.cps[i]:=by simp [hg']
  obtain ⟨f0,f1,f2,f3,f4,f5⟩:=hf it (by simp)
  have fin:∀ h',h'.IsStrIter it (strIterType x) x t (i+1)->Heap.SameBut it s.heap h'->∃ u,some (Value.str ⟨#[x.cps[i]]⟩ s.toks)=some u /\
    wpAny (model X.prog X.w) X.A (letOwnedTupleGo tg (.ref it) u) (fun _ s2=>∃ y H',Inv X pins σ H' s2/\RelV y u/\(Its x).yld i H y H'/\s2.heap.IsStrIter it (strIterType x) x t (i+1)/\∀ b∈[it],H' b=none) E { s with heap:=h',toks:=s.toks+1 }:=fun h' st' sb=>by
   have I1:Inv X pins σ H { s with heap:=h',toks:=s.toks+1 }:=I.turned (fun b o hb e=>(sb.2 b hb).trans e) f0 f1 f3 f4 f5
   obtain ⟨o,e,c,d⟩:=id st'
   refine ⟨_,rfl,lC (s:={ s with heap:=h',toks:=s.toks+1 }) e c d (by rcases fB x with z | z <;> rw [z] <;> decide) ⟨.str ⟨#[x.cps[i]]⟩,H,I1,⟨_,rfl⟩,⟨rfl,_,hx,rfl⟩,st',fun b hb=>(hf b hb).1⟩⟩
  rcases fB x with z | z
  ·rw [z] at st fin
   exact wpAny_pyNext_ascii_item st hx fun h' st' sb=>by have:=fin h' st' sb; rw [z]; exact this
  ·rw [z] at st fin
   exact wpAny_pyNext_wide_item st hx fun h' st' sb=>by have:=fin h' st' sb; rw [z]; exact this
 done:=by
  intro X hP hw hK hc i pins s σ H E I hf st hg
  subst hP hw hK
  have hg':x.cps.size<=i:=hg
  have hx:x.cps[i]?=none:=by simp [hg']
  obtain ⟨f0,f1,f2,f3,f4,f5⟩:=hf it (by simp)
  rcases fB x with z | z
  ·rw [z] at st
   exact wpAny_pyNext_ascii_end (I.ok.hd hc) st hx fun h' eb=>⟨rfl,I.turned (t':=s.toks) (fun b o hb e=>eb b o hb e) f0 f1 f3 f4 f5⟩
  ·rw [z] at st
   exact wpAny_pyNext_wide_end (I.ok.hd hc) st hx fun h' eb=>⟨rfl,I.turned (t':=s.toks) (fun b o hb e=>eb b o hb e) f0 f1 f3 f4 f5⟩
 self:=fun A i s Q E st h=>by
  obtain ⟨o,e,c,d⟩:=st
  rcases fB x with z | z
  ·rw [z] at c
   exact wpAny_pyIter_slot (T := "str_ascii_iterator") ⟨o,e,c⟩ F.slot_str_ascii_iterator_iter (wpAny_call_entry F.slot_str_ascii_iterator_iter ⟨o,e,c⟩ F.entry_str_ascii_iterator_iter (wpAny_pure ⟨_,rfl, "str_ascii_iterator",_,⟨o,e,c⟩,F.slot_str_ascii_iterator_next.lookup,h⟩) (F.args_str_ascii_iterator_iter_1 _))
  ·rw [z] at c
   exact wpAny_pyIter_slot (T := "str_iterator") ⟨o,e,c⟩ F.slot_str_iterator_iter (wpAny_call_entry F.slot_str_iterator_iter ⟨o,e,c⟩ F.entry_str_iterator_iter (wpAny_pure ⟨_,rfl, "str_iterator",_,⟨o,e,c⟩,F.slot_str_iterator_next.lookup,h⟩) (F.args_str_iterator_iter_1 _))
section
variable {X:Cx} {tg:Expr}
noncomputable def iStr (tl:TE):TI:=fun σ H R=>tl σ H fun x H1=>∃ z,x=.str z/\R (Its z) H1
theorem vg {l:Expr} {tl:TE} (hl:PE X l tl):PI X tg l (iStr tl):=by
 intro pins s σ H R I h
 refine thn (hl pins s σ H _ I h) fun v s1 ⟨x,H1,I1,r1,q1⟩=>?_
 obtain ⟨z,rfl,q⟩:=q1
 obtain ⟨t,rfl⟩:=r1
 refine wpAny_pyIter_strU ⟨s1.heap.objs.size,[s1.heap.objs.size],_,_,H1,rfl,I1.kept (t':=s1.toks) fun b o e=>Heap.get?_push_of_some _ e,rg z t _,⟨_,Heap.get?_push_size _ rfl,rfl,rfl⟩,fun b hb=>?_,q⟩
 have e:b=s1.heap.objs.size:=by simpa using hb
 subst e
 exact I1.fpOk (Nat.le_refl _) (I1.hok.fresh (Nat.le_refl _))
theorem qb:OpR X (compareOp .LtE) (fun x y H Q=>∃ i j,x=.str i/\y=.str j/\Q (.bl (!decide (j.cps.toList<i.cps.toList))) H):=by
 intro pins s σ H x y v u Q I rx ry h
 obtain ⟨i,j,rfl,rfl,q⟩:=h
 obtain ⟨t,rfl⟩:=rx
 obtain ⟨t',rfl⟩:=ry
 exact PySem.P.le_str ⟨.bl _,H,I,rfl,q⟩
theorem vE:OpR X (compareOp .Is) (fun x y H Q=>∃ a b,x=.bl a/\y=.bl b/\Q (.bl (a==b)) H):=by
 intro pins s σ H x y v u Q I rx ry h
 obtain ⟨a,b,rfl,rfl,q⟩:=h
 cases rx
 cases ry
 exact is_bool ⟨.bl _,H,I,rfl,q⟩
theorem qc:OpR X (compareOp .IsNot) (fun x y H Q=>∃ a b,x=.bl a/\y=.bl b/\Q (.bl (a != b)) H):=by
 intro pins s σ H x y v u Q I rx ry h
 obtain ⟨a,b,rfl,rfl,q⟩:=h
 cases rx
 cases ry
 exact isnot_bool ⟨.bl _,H,I,rfl,q⟩
end
end L2
namespace L2
open PySem PySem.Spec PyProof.Rows
section
variable {X:Cx}
noncomputable def rCatW (K:PySem.W.Frag):R2:=fun x y H Q=>∃ a b xs ys,x=.ref a/\y=.ref b/\SqT K H a xs/\SqT K H b ys/\xs.length+ys.length<=sizeLine /\
 (xs=[]->Q (.ref b) H)/\(ys=[]->Q (.ref a) H)/\∀ p,H p=none->Q (.ref p) (upd H p (.tup (xs++ys)))
theorem t6:OpR X (binaryOp .Add) (rCatW X.K):=by
 intro pins s σ H x y v u Q I rx ry h
 obtain ⟨a,b,xs,ys,rfl,rfl,ha,hb,hz,q0,q1,q2⟩:=h
 by_cases hx:xs=[]
 ·cases rx
  cases ry
  obtain ⟨its,r1,p1,_⟩:=I.tuple ha
  obtain ⟨its2,r2,p2,_⟩:=I.tuple hb
  subst hx
  cases r1
  obtain ⟨⟨c1,d1,e1,l1⟩,g1,g2,n,g3⟩:=id p1
  obtain ⟨⟨c2,d2,e2,l2⟩,k1,k2,n2,k3⟩:=id p2
  simp only at g2 g3 k2 k3
  subst g2 g3 k2 k3
  exact concat_meets ⟨_,g1,rfl⟩ ⟨_,k1,rfl⟩ noFill_tuple_add seq_tuple_add PySem.F.slot_tuple_add PySem.F.entry_tuple_add (PySem.F.args_tuple_add_2 _ _)
   (tuple_addW0 a b _ _ n n2 d1 d2 l1 l2 (by simp)) ⟨g1,k1,⟨.ref b,H,I,rfl,q0 rfl⟩⟩
 ·exact t7 pins s σ H (.ref a) (.ref b) v u Q I rx ry ⟨a,b,xs,ys,rfl,rfl,ha,hb,hx,hz,q1,fun _=>q2⟩
end
end L2
namespace L2
open PySem PySem.Spec PyProof.Rows
section
variable {prog:Program} {w:World} {A:Around} {E:Value->Shared->Prop} {s:Shared}
end
section
variable {X:Cx} {e st:Expr} {te tst:TE} {pos p2:Pos}
end
end L2
namespace L2
open PySem PySem.Spec PyProof.Rows
section
variable {prog:Program} {w:World} {A:Around} {E:Value->Shared->Prop}
end
section
variable {X:Cx} {pos:Pos}
end
end L2
namespace L2
open PySem PySem.Spec PyProof.Rows
end L2
namespace PySem
open Sem (wp)
theorem mt:typeLookup (.type "list") "keys" = pure none:=by rw [typeLookup_type,builtinLookup_eq_fast]; kernel_rfl
theorem j5 {prog:Program} {w:World} {A:Around} {E:Value->Shared->Prop} {s:Shared} {a:Addr} {xs:Array Value} {k:Nat} {sl:Array (Option Value)} {Q:Option Value->Shared->Prop}
  (hx:s.heap.get? a=some { cls:=.type "list",dict:=none,data:=.seq xs k,slots:=sl }) (hA:A.handled=none)
  (h:∀ h' tk e,Heap.NewExcOf s.heap h' e "AttributeError" -> Q none { s with heap:=h',toks:=tk }) :
  wpAny (model prog w) A (getAttr? (.ref a) "keys") Q E s:=by
 obtain ⟨hp,g,d,tk,os⟩:=s
 have hT:∀ tk',(⟨hp,g,d,tk',os⟩:Shared).TypeIs (.ref a) "list" := fun _=>⟨_,hx,rfl⟩
 have f1:=sub_AttributeError
 have f3:=F.slot_list_getattribute.lookup
 have f4:=F.slot_list_getattribute.bind (.ref a)
 have f5:=am_list_getattr_none
 unfold getAttr? getAttrBy? getAttrBy
 repeat (any_goals (first | assumption | exact hT _ | ((with_reducible show wpAny _ _ (call (Value.builtin "list.__getattribute__") _ _) _ _ _); refine call_meets F.slot_list_getattribute (hT _) am_entry_list_getattribute (F.args_list_getattribute_2 _ _) (meets_getattribute_miss_list a xs k sl "keys" _ mt (by decide +kernel) (by size_fits)) ⟨hx,hA,fun h' tk' e hx'=>?_⟩) | wp_step))
 obtain ⟨t',u',he⟩:=hx'.there
 show wpAny _ _ (getattributeRaised _ _ _ _ _ _ _) _ _ _
 unfold getattributeRaised
 have hTe:∀ tk',(⟨h',g,d,tk',os⟩:Shared).TypeIs (.ref e) "AttributeError" := fun _=>⟨_,he,rfl⟩
 repeat (any_goals (first | assumption | exact hTe _ | wp_step))
 exact h _ _ _ hx'.of
end PySem
namespace PySem
open PySem.Spec PyProof.Rows
theorem F.entry_dict_loop:entryFor table "dict.update.loop" = some Builtin.«dict.update.loop»:=entryFor_of_tree (by kernel_rfl)
theorem F.plain_dict_loop:plainId "dict.update.loop" = true:=by decide +kernel
section
variable {prog:Program} {w:World} {K:Type} [DecidableEq K] {knd:KeyKind prog w K} {A:Around} {R:Result->Shared->Prop}
theorem eD {h h':Heap} {d:Addr} {kvs:List (K×Value)} (x:h.DictOf knd d kvs) (k:∀ o,h.get? d=some o->h'.get? d=some o):h'.DictOf knd d kvs:=by
 obtain ⟨o,es,ep,ho,r⟩:=x
 exact ⟨o,es,ep,k _ ho,r⟩
theorem km {d it l:Addr} {items:Array Value} (ks:Nat->K) (vs:Nat->Value) (hsz:items.size<=1000) (hdi:d≠it) (hdl:d≠l) (hil:l≠it) (hA:A.in1.handled=none) :
  ∀ (k i:Nat) (s:Shared) (kvs:List (K×Value)),items.size - i=k->i<=items.size->kvs.length<=i->s.heap.DictOf knd d kvs->s.heap.IsListIter it l i->s.heap.IsList l items ->
  (∀ j,j<items.size->∃ p key,items[j]?=some (.ref p)/\p≠d/\p≠it/\s.heap.IsTuple p #[key,vs j]/\knd.is (ks j) key=true) ->
  (∀ h' tk,h'.DictOf knd d ((List.range' i k).foldl (fun kvs j=>stored kvs (ks j) (vs j)) kvs)->(∀ b o,b≠d->b≠it->s.heap.get? b=some o->h'.get? b=some o)->R (.ok (.ret .none)) { s with heap:=h',toks:=tk }) ->
  codeAny (model prog w) A (.builtin "dict.update.loop" ⟨[.ref d,.ref it,rawInt i,.none],[]⟩) R s:=by
 intro k
 induction k with
 | zero =>
  intro i s kvs hk hi hlen hD hI hL hP hR
  refine codeAny_builtin F.entry_dict_loop ?_
  rw [Around.under_plainId F.plain_dict_loop _]
  show wpAny _ A.in1 (pyNext (.ref it) >>= _) _ _ s
  refine wpAny_bind (wpAny_pyNext_list_end hA hI hL (by rw [Array.getElem?_eq_none]; omega) fun h' kk=>?_)
  show wpAny _ A.in1 (Builtin.Dict.addKeywords d [] >>= _) _ _ _
  refine wpAny_bind (m:=Builtin.Dict.addKeywords d []) (wpAny_pure (wpAny_pure (hR h' s.toks (eD hD fun o e=>kk _ _ hdi e) fun b o h1 h2 e=>kk _ _ h2 e)))
 | succ k ih =>
  intro i s kvs hk hi hlen hD hI hL hP hR
  have hlt:i<items.size:=by omega
  obtain ⟨p,key,ep,pd,pt,hp,hkey⟩:=hP i hlt
  refine codeAny_builtin F.entry_dict_loop ?_
  rw [Around.under_plainId F.plain_dict_loop _]
  show wpAny _ A.in1 (pyNext (.ref it) >>= _) _ _ s
  refine wpAny_bind (wpAny_pyNext_list_item hI hL ep fun h1 I1 k1=>?_)
  have e1:∀ b o,b≠it->s.heap.get? b=some o->h1.get? b=some o:=fun b o h e=>k1.extBut _ _ h e
  have hp1:h1.IsTuple p #[key,vs i]:=by
   obtain ⟨o,e,r⟩:=hp
   exact ⟨o,e1 _ _ pt e,r⟩
  refine wpAny_bind (wpAny_holding ?_)
  refine wpAny_bind (wpAny_tryCatch ?_)
  obtain ⟨op,op1,op2,opm,op3⟩:=id hp1
  unfold Builtin.Dict.pairItems
  refine wpAny_bind (wpAny_typeOf (T := "tuple") ⟨op,op1,op2⟩ ?_)
  rw [if_pos (show ((Value.type "tuple" == Value.type "list") || (Value.type "tuple" == Value.type "tuple"))=true by decide)]
  refine wpAny_bind (wpAny_seqItems op1 op3 (wpAny_pure ?_))
  show wpAny _ A.in1 (holding [key,vs i] (dictSet d key (vs i))) _ _ _
  have hD1:h1.DictOf knd d kvs:=eD hD fun o e=>e1 _ _ hdi e
  refine wpAny_holding (wpAny_dictSet_pairs hkey hD1 (fun h2 D2 k2=>?_) (by rw [sizeLine_eq]; omega))
  have e2:∀ b o,b≠d->b≠it->s.heap.get? b=some o->h2.get? b=some o:=fun b o h h' e=>k2.extBut _ _ h (e1 _ _ h' e)
  refine wpAny_pure ⟨plainId_quiet F.plain_dict_loop _,ih (i+1) _ _ (by omega) hlt ?_ D2 ?_ ?_ ?_ ?_⟩
  ·exact Nat.le_trans (stored_length_le kvs (ks i) (vs i)) (by omega)
  ·obtain ⟨o,e,r⟩:=I1
   exact ⟨o,k2.extBut _ _ hdi.symm e,r⟩
  ·obtain ⟨o,e,r⟩:=hL
   exact ⟨o,e2 _ _ hdl.symm hil e,r⟩
  ·intro j hj
   obtain ⟨p',key',q1,q2,q3,⟨o,e,r⟩,q5⟩:=hP j hj
   exact ⟨p',key',q1,q2,q3,⟨o,e2 _ _ q2 q3 e,r⟩,q5⟩
  ·intro h' tk D' kk
   refine hR h' tk ?_ fun b o h h3 e=>kk _ _ h h3 (e2 _ _ h h3 e)
   rw [List.range'_succ,List.foldl_cons]
   exact D'
end
section
variable {prog:Program} {w:World} {K:Type} [DecidableEq K] {knd:KeyKind prog w K} {A:Around} {E:Value->Shared->Prop} {s:Shared}
theorem ju {l:Addr} {items:Array Value} {n:Nat} {sl:Array (Option Value)} {Q:Value->Shared->Prop} (ks:Nat->K) (vs:Nat->Value) (hsz:items.size<=1000) (hA:A.handled=none)
  (hx:s.heap.get? l=some { cls:=.type "list",dict:=none,data:=.seq items n,slots:=sl })
  (hP:∀ j,j<items.size->∃ p key,items[j]?=some (.ref p)/\s.heap.IsTuple p #[key,vs j]/\knd.is (ks j) key=true)
  (hQ:∀ h' tk,h'.DictOf knd s.heap.objs.size ((List.range' 0 items.size).foldl (fun kvs j=>stored kvs (ks j) (vs j)) [])->(∀ b o,s.heap.get? b=some o->h'.get? b=some o)->Q (.ref s.heap.objs.size) { s with heap:=h',toks:=tk }) :
  wpAny (model prog w) A (call (.type "dict") [.ref l]) Q E s:=by
 refine callType_codes (Q₁:=fun obj s₁=>obj=.ref s.heap.objs.size/\s₁={ s with heap:=s.heap.push { cls:=.type "dict",data:=.dict #[] } }) F.kt_called_dict (F.kt_typeCall_dict_1 _) F.entry_dict_init (kt_code_dict_new _ ⟨rfl,rfl⟩) ?_
 rintro obj s₁ ⟨rfl,rfl⟩
 have hnew:(s.heap.push { cls:=.type "dict",data:=.dict #[] }).DictOf knd s.heap.objs.size []:=Heap.DictOf.new s.heap
 have hx1:(s.heap.push { cls:=.type "dict",data:=.dict #[] }).get? l=some { cls:=.type "list",dict:=none,data:=.seq items n,slots:=sl }:=Heap.get?_push_of_some _ hx
 refine ⟨hnew.typeIs,F.args_dict_init_2 _ _,?_⟩
 unfold Builtin.«dict.__init__»
 refine wpAny_bind ?_
 unfold Builtin.Dict.selfAndRest
 refine wpAny_bind (wpAny_notOrdered_dict hnew.typeIs ?_)
 show wpAny _ _ (pure (s.heap.objs.size,[Value.ref l])) _ _ _
 refine wpAny_pure ?_
 show wpAny _ _ (Builtin.Dict.updateFrom "dict.__init__" s.heap.objs.size (.ref l) [] .none) _ _ _
 unfold Builtin.Dict.updateFrom
 refine wpAny_bind (wpAny_typeOf (T := "list") ⟨_,hx1,rfl⟩ ?_)
 rw [if_pos (by decide)]
 refine wpAny_bind (m:=getAttr? (.ref l) "keys") (j5 hx1 hA fun h2 tk e ne=>?_)
 rw [if_pos (by rfl)]
 have up:∀ b o,s.heap.get? b=some o->h2.get? b=some o:=fun b o q=>ne.keeps _ _ (Heap.get?_push_of_some _ q)
 have hx2:=up _ _ hx
 have hD2:h2.DictOf knd s.heap.objs.size []:=eD hnew fun o q=>ne.keeps _ _ q
 have hl2:h2.IsList l items:=⟨_,hx2,rfl,n,rfl⟩
 have ddl:s.heap.objs.size≠l:=Nat.ne_of_gt (Heap.lt_size hx)
 have ddi:s.heap.objs.size≠h2.objs.size:=by
  obtain ⟨_,_,_,ho,_⟩:=hD2
  exact Nat.ne_of_lt (Heap.lt_size ho)
 have dli:l≠h2.objs.size:=Nat.ne_of_lt (Heap.lt_size hx2)
 refine wpAny_bind (wpAny_rule (wpAny_bind (wpAny_pyIter_list (s:={ s with heap:=h2,toks:=tk }) hl2 ?_)))
 refine wpAny_pure ⟨plainId_quiet F.plain_dict_loop _,?_⟩
 refine km (A:=A.in1) (knd:=knd) (it:=h2.objs.size) ks vs hsz ddi ddl dli hA items.size 0 _ [] (by omega) (Nat.zero_le _) (Nat.le_refl _) (eD hD2 fun o q=>Heap.get?_push_of_some _ q) ⟨_,Heap.get?_push_size _ rfl,rfl,rfl⟩ ⟨_,Heap.get?_push_of_some _ hx2,rfl,n,rfl⟩ ?_ ?_
 ·intro j hj
  obtain ⟨p,key,q1,⟨o,q2,r⟩,q3⟩:=hP j hj
  exact ⟨p,key,q1,Nat.ne_of_lt (Heap.lt_size q2),Nat.ne_of_lt (Heap.lt_size (up _ _ q2)),⟨o,Heap.get?_push_of_some _ (up _ _ q2),r⟩,q3⟩
 ·intro h' tk' D kk
  exact ⟨rfl,hQ h' tk' D fun b o q=>kk b o (Nat.ne_of_lt (Heap.lt_size q)) (Nat.ne_of_lt (Heap.lt_size (up _ _ q))) (Heap.get?_push_of_some _ (up _ _ q))⟩
end
end PySem
namespace L2
open PySem PySem.Spec PyProof.Rows
theorem nQ (prs:List (Str×V)) (vf:Nat->Value) (h:∀ j (hj:j<prs.length),RelV prs[j].2 (vf j)):∀ n,n<=prs.length ->
  KV ((prs.take n).foldl (fun kvs kv=>putK kvs (Sum.inr kv.1:Key) kv.2) []) ((List.range' 0 n).foldl (fun kvs j=>stored kvs (Sum.inr ((prs[j]?.getD (Str.empty,V.non)).1):Key) (vf j)) [])
 | 0,_=>.nil
 | n+1,hn=>by
  have ih:=nQ prs vf h n (by omega)
  have hlt:n<prs.length:=by omega
  rw [List.range'_1_concat,List.foldl_append,List.take_succ,List.foldl_append,List.getElem?_eq_getElem hlt]
  simp only [Option.toList_some,List.foldl_cons,List.foldl_nil,Nat.zero_add]
  rw [List.getElem?_eq_getElem hlt,Option.getD_some]
  exact ih.put _ (h n hlt)
theorem sv (prs:List (Str×V)):∀ (kvs:List (Key×V)),(prs.foldl (fun kvs kv=>putK kvs (Sum.inr kv.1:Key) kv.2) kvs).length<=kvs.length+prs.length:=by
 induction prs with
 | nil=>intro kvs; simp
 | cons x r ih =>
  intro kvs
  rw [List.foldl_cons,List.length_cons]
  have:=ih (putK kvs (Sum.inr x.1) x.2)
  have h2:(putK kvs (Sum.inr x.1:Key) x.2).length<=kvs.length+1:=by
   unfold putK
   split
   ·rw [List.length_map]; omega
   ·rw [List.length_append]; simp
  omega
section
variable {X:Cx}
end
end L2
namespace Q
open PySem L2
inductive PV where
 | non | bl (b:Bool) | int (i:Int) | str (x:Str) | tup (xs:List PV) | lst (xs:List PV) | dic (kvs:List (Key×PV)) | set (xs:List Str) | scr (ns:List Int)
noncomputable def ScrAt (K:PySem.W.Frag) (F:Hp) (a:Addr) (ns:List Int):Prop:=(∃ o,F a=some (.frz o (.lst (ns.map V.int)))) \/
 ∃ (o:Obj) (its:Array Value) (n:Nat),K.lookup a=some o/\o.cls=.type "list" /\ o.dict=none/\o.data=.seq its n/\its.size<=sizeLine/\Vals (ns.map V.int) its.toList
mutual
inductive Rep (K:PySem.W.Frag) (F:Hp):V->PV->Prop where
 | non:Rep K F .non .non
 | bl (b:Bool):Rep K F (.bl b) (.bl b)
 | int (i:Int):Rep K F (.int i) (.int i)
 | str (x:Str):Rep K F (.str x) (.str x)
 | tup {a:Addr} {vs:List V} {xs:List PV}:SqT K F a vs->Reps K F vs xs->Rep K F (.ref a) (.tup xs)
 | lst {a:Addr} {vs:List V} {xs:List PV}:F a=some (.lst vs)->Reps K F vs xs->Rep K F (.ref a) (.lst xs)
 | dic {a:Addr} {vs:List (Key×V)} {xs:List (Key×PV)}:F a=some (.dK vs)->RepsK K F vs xs->Rep K F (.ref a) (.dic xs)
 | scr {a:Addr} {ns:List Int}:ScrAt K F a ns->Rep K F (.ref a) (.scr ns)
inductive Reps (K:PySem.W.Frag) (F:Hp):List V->List PV->Prop where
 | nil:Reps K F [] []
 | cons {v:V} {x:PV} {vs:List V} {xs:List PV}:Rep K F v x->Reps K F vs xs->Reps K F (v::vs) (x::xs)
inductive RepsK (K:PySem.W.Frag) (F:Hp):List (Key×V)->List (Key×PV)->Prop where
 | nil:RepsK K F [] []
 | cons {k:Key} {v:V} {x:PV} {vs:List (Key×V)} {xs:List (Key×PV)}:Rep K F v x->RepsK K F vs xs->RepsK K F ((k,v)::vs) ((k,x)::xs)
end
section
variable {K:PySem.W.Frag} {F F' H:Hp}
theorem bc {a:Addr} {xs:List V} (s:Same F F') (h:SqL K F a xs):SqL K F' a xs:=by
 rcases h with (h | ⟨o,h⟩) | h
 ·exact .inl (.inl (s _ _ h))
 ·exact .inl (.inr ⟨o,s _ _ h⟩)
 ·exact .inr h
theorem au {a:Addr} {xs:List V} (s:Same F F') (h:SqT K F a xs):SqT K F' a xs:=by
 rcases h with (h | ⟨o,h⟩) | h
 ·exact .inl (.inl (s _ _ h))
 ·exact .inl (.inr ⟨o,s _ _ h⟩)
 ·exact .inr h
theorem ib {a:Addr} {ns:List Int} (s:Same F F') (h:ScrAt K F a ns):ScrAt K F' a ns:=by
 rcases h with ⟨o,h⟩ | h
 ·exact .inl ⟨o,s _ _ h⟩
 ·exact .inr h
theorem ScrAt.sq {a:Addr} {ns:List Int} (h:ScrAt K F a ns):SqL K F a (ns.map V.int):=by
 rcases h with ⟨o,h⟩ | h
 ·exact .inl (.inr ⟨o,h⟩)
 ·exact .inr h
theorem Rep.mono {v:V} {x:PV} (s:Same F F') (h:Rep K F v x):Rep K F' v x :=
 Rep.rec (K:=K) (F:=F) (motive_1:=fun v x _=>Rep K F' v x) (motive_2:=fun vs xs _=>Reps K F' vs xs) (motive_3:=fun vs xs _=>RepsK K F' vs xs)
  .non .bl .int .str (fun a _ b=>.tup (au s a) b) (fun a _ b=>.lst (s _ _ a) b) (fun a _ b=>.dic (s _ _ a) b) (fun a=>.scr (ib s a)) .nil (fun _ _ a b=>.cons a b) .nil (fun _ _ a b=>.cons a b) h
theorem Reps.mono {vs:List V} {xs:List PV} (s:Same F F') (h:Reps K F vs xs):Reps K F' vs xs :=
 Reps.rec (K:=K) (F:=F) (motive_1:=fun v x _=>Rep K F' v x) (motive_2:=fun vs xs _=>Reps K F' vs xs) (motive_3:=fun vs xs _=>RepsK K F' vs xs)
  .non .bl .int .str (fun a _ b=>.tup (au s a) b) (fun a _ b=>.lst (s _ _ a) b) (fun a _ b=>.dic (s _ _ a) b) (fun a=>.scr (ib s a)) .nil (fun _ _ a b=>.cons a b) .nil (fun _ _ a b=>.cons a b) h
theorem RepsK.mono {vs:List (Key×V)} {xs:List (Key×PV)} (s:Same F F') (h:RepsK K F vs xs):RepsK K F' vs xs :=
 RepsK.rec (K:=K) (F:=F) (motive_1:=fun v x _=>Rep K F' v x) (motive_2:=fun vs xs _=>Reps K F' vs xs) (motive_3:=fun vs xs _=>RepsK K F' vs xs)
  .non .bl .int .str (fun a _ b=>.tup (au s a) b) (fun a _ b=>.lst (s _ _ a) b) (fun a _ b=>.dic (s _ _ a) b) (fun a=>.scr (ib s a)) .nil (fun _ _ a b=>.cons a b) .nil (fun _ _ a b=>.cons a b) h
theorem Reps.ind {motive:∀ vs xs,Reps K F vs xs->Prop} {vs:List V} {xs:List PV} (h:Reps K F vs xs) (nil:motive [] [] .nil) (cons:∀ {v x vs xs} (a:Rep K F v x) (r:Reps K F vs xs),motive vs xs r->motive (v::vs) (x::xs) (.cons a r)):motive vs xs h :=
 Reps.rec (K:=K) (F:=F) (motive_1:=fun _ _ _=>True) (motive_2:=motive) (motive_3:=fun _ _ _=>True)
  trivial (fun _=>trivial) (fun _=>trivial) (fun _=>trivial) (fun _ _ _=>trivial) (fun _ _ _=>trivial) (fun _ _ _=>trivial) (fun _=>trivial) nil (fun a r _ b=>cons a r b) trivial (fun _ _ _ _=>trivial) h
theorem RepsK.ind {motive:∀ vs xs,RepsK K F vs xs->Prop} {vs:List (Key×V)} {xs:List (Key×PV)} (h:RepsK K F vs xs) (nil:motive [] [] .nil) (cons:∀ {k v x vs xs} (a:Rep K F v x) (r:RepsK K F vs xs),motive vs xs r->motive ((k,v)::vs) ((k,x)::xs) (.cons a r)):motive vs xs h :=
 RepsK.rec (K:=K) (F:=F) (motive_1:=fun _ _ _=>True) (motive_2:=fun _ _ _=>True) (motive_3:=motive)
  trivial (fun _=>trivial) (fun _=>trivial) (fun _=>trivial) (fun _ _ _=>trivial) (fun _ _ _=>trivial) (fun _ _ _=>trivial) (fun _=>trivial) trivial (fun _ _ _ _=>trivial) nil (fun a r _ b=>cons a r b) h
theorem Reps.len {vs:List V} {xs:List PV} (h:Reps K F vs xs):vs.length=xs.length:=by
 induction h using Reps.ind with
 | nil=>rfl
 | cons _ _ ih=>exact congrArg (·+1) ih
theorem Reps.get {vs:List V} {xs:List PV} {i:Nat} {x:PV} (h:Reps K F vs xs) (e:xs[i]?=some x):∃ v,vs[i]?=some v/\Rep K F v x:=by
 induction h using Reps.ind generalizing i with
 | nil=>cases e
 | cons a _ ih=>cases i with
  | zero=>cases e; exact ⟨_,rfl,a⟩
  | succ i=>exact ih e
theorem Reps.getV {vs:List V} {xs:List PV} {i:Nat} {v:V} (h:Reps K F vs xs) (e:vs[i]?=some v):∃ x,xs[i]?=some x/\Rep K F v x:=by
 induction h using Reps.ind generalizing i with
 | nil=>cases e
 | cons a _ ih=>cases i with
  | zero=>cases e; exact ⟨_,rfl,a⟩
  | succ i=>exact ih e
theorem Reps.app {vs ws:List V} {xs ys:List PV} (h:Reps K F vs xs) (k:Reps K F ws ys):Reps K F (vs++ws) (xs++ys):=by
 induction h using Reps.ind with
 | nil=>exact k
 | cons a _ ih=>exact .cons a ih
theorem Reps.take {vs:List V} {xs:List PV} (n:Nat) (h:Reps K F vs xs):Reps K F (vs.take n) (xs.take n):=by
 induction h using Reps.ind generalizing n with
 | nil=>cases n <;> exact .nil
 | cons a _ ih=>cases n with
  | zero=>exact .nil
  | succ n=>exact .cons a (ih n)
theorem Reps.drop {vs:List V} {xs:List PV} (n:Nat) (h:Reps K F vs xs):Reps K F (vs.drop n) (xs.drop n):=by
 induction h using Reps.ind generalizing n with
 | nil=>cases n <;> exact .nil
 | cons a r ih=>cases n with
  | zero=>exact .cons a r
  | succ n=>exact ih n
theorem Reps.setL {vs:List V} {xs:List PV} {v:V} {x:PV} (n:Nat) (k:Rep K F v x) (h:Reps K F vs xs):Reps K F (vs.set n v) (xs.set n x):=by
 induction h using Reps.ind generalizing n with
 | nil=>exact .nil
 | cons a r ih=>cases n with
  | zero=>exact .cons k r
  | succ n=>exact .cons a (ih n)
theorem RepsK.len {vs:List (Key×V)} {xs:List (Key×PV)} (h:RepsK K F vs xs):vs.length=xs.length:=by
 induction h using RepsK.ind with
 | nil=>rfl
 | cons _ _ ih=>exact congrArg (·+1) ih
theorem RepsK.keys {vs:List (Key×V)} {xs:List (Key×PV)} (h:RepsK K F vs xs):vs.map (·.1)=xs.map (·.1):=by
 induction h using RepsK.ind with
 | nil=>rfl
 | cons _ _ ih=>exact congrArg (List.cons _) ih
end
structure Sl where
 k:Nat
 v:PV
noncomputable abbrev En:=List (Option Sl)
structure ObK where
 P:Hp->Hp->Addr->List Addr->PV->Prop
 mono:∀ F F' H H' a l x,P F H a l x->Same F F'->(∀ c∈l,H' c=H c)->P F' H' a l x
structure Md where
 P:Program
 w:World
 K:PySem.W.Frag
 ob:ObK
structure Zn where
 H₀:Hp
 F₀:Hp
 S:List Addr
 oa:Nat->Option Addr:=fun _=>none
 sS:∀ b∈S,H₀ b≠none
noncomputable def OwnAt (M:Md) (F H:Hp) (a:Addr):PV->Prop
 | .lst xs=>∃ vs,H a=some (.lst vs)/\Reps M.K F vs xs
 | .dic xs=>∃ vs,H a=some (.dK vs)/\RepsK M.K F vs xs
 | .set xs=>H a=some (setS M.P M.w a (fun s=>decide (s∈xs)) xs.length)
 | _=>False
theorem OwnAt.mono {M:Md} {F F' H H':Hp} {a:Addr} {x:PV} (s:Same F F') (e:H' a=H a) (h:OwnAt M F H a x):OwnAt M F' H' a x:=by
 cases x <;> try exact h.elim
 ·obtain ⟨vs,h1,h2⟩:=h
  exact ⟨vs,e.trans h1,h2.mono s⟩
 ·obtain ⟨vs,h1,h2⟩:=h
  exact ⟨vs,e.trans h1,h2.mono s⟩
 ·exact e.trans h
noncomputable def SlOk (M:Md) (Z:Zn) (F H:Hp) (v:V) (s:Sl) (fp:List Addr):Prop :=
 (s.k=0/\fp=[]/\Rep M.K F v s.v)\/(s.k=1/\∃ a,v=.ref a/\fp=[a]/\Z.H₀ a=none/\OwnAt M F H a s.v) \/
 ((s.k=2\/s.k=4)/\∃ a,v=.ref a/\(∀ c∈fp,c∈Z.S\/Z.H₀ c=none)/\M.ob.P F H a fp s.v) \/
 (s.k=3/\∃ a,v=.ref a/\fp=[a]/\a∈Z.S/\OwnAt M F H a s.v)
structure Slots (M:Md) (Z:Zn) (F:Hp) (σ:St) (H:Hp) (env:En) (fp:Nat->List Addr):Prop where
 at':∀ i s,env[i]?=some (some s)->∃ v,σ[i]?=some (some v)/\SlOk M Z F H v s (fp i)
 al:∀ i a,a∈fp i->H a≠none/\F a=none
 dj:∀ i j a,i≠j->a∈fp i->a∉fp j
 oa:∀ i a s,Z.oa i=some a->env[i]?=some (some s)->s.k=2->σ[i]?=some (some (.ref a))
structure Sok (M:Md) (Z:Zn) (F:Hp) (σ:St) (H:Hp) (env:En):Prop where
 sF:Same F H
 sG:∀ b o,Z.H₀ b=some o->b∉Z.S->H b=some o
 pr:∀ b,Z.H₀ b≠none->H b≠none
 gr:Same Z.F₀ F
 nw:∀ a,F a≠none->Z.F₀ a≠none\/Z.H₀ a=none
 len:env.length=σ.length
 sl:∃ fp,Slots M Z F σ H env fp
section
variable {M:Md} {Z:Zn} {F F' H H':Hp} {σ:St} {env:En} {v:V} {s:Sl} {fp:List Addr}
theorem SlOk.mono (s1:Same F F') (e:∀ c∈fp,H' c=H c) (h:SlOk M Z F H v s fp):SlOk M Z F' H' v s fp:=by
 rcases h with ⟨a,b,c⟩ | ⟨a,p,rfl,rfl,c,d⟩ | ⟨a,p,rfl,c,d⟩ | ⟨a,p,rfl,rfl,c,d⟩
 ·exact .inl ⟨a,b,c.mono s1⟩
 ·exact .inr (.inl ⟨a,p,rfl,rfl,c,d.mono s1 (e p (by simp))⟩)
 ·exact .inr (.inr (.inl ⟨a,p,rfl,c,M.ob.mono _ _ _ _ _ _ _ d s1 e⟩))
 ·exact .inr (.inr (.inr ⟨a,p,rfl,rfl,c,d.mono s1 (e p (by simp))⟩))
theorem aj {H:Hp}:Same H H:=fun _ _ h=>h
theorem ag {A B C:Hp} (x:Same A B) (y:Same B C):Same A C:=fun a o h=>y a o (x a o h)
theorem az {F:Hp} {p:Addr} {o:HO} (h:F p=none):Same F (upd F p o):=fun a u e=>by rw [aq (aF e h)]; exact e
theorem Same.none_of {A B:Hp} (s:Same A B) {a:Addr} (h:B a=none):A a=none:=by
 cases e:A a with
 | none=>rfl
 | some o=>rw [s a o e] at h; cases h
theorem Slots.move {fp:Nat->List Addr} (L:Slots M Z F σ H env fp) (s1:Same F F') (s3:∀ i c o,c∈fp i->H c=some o->H' c=some o) (nw:∀ a,F' a≠none->F a≠none\/H a=none):Slots M Z F' σ H' env fp:=by
 refine ⟨fun i s h=>?_,fun i a h=>?_,L.dj,L.oa⟩
 ·obtain ⟨v,h1,h2⟩:=L.at' i s h
  refine ⟨v,h1,h2.mono s1 fun c hc=>?_⟩
  cases e:H c with
  | none=>exact absurd e (L.al i c hc).1
  | some o=>exact s3 i c o hc e
 ·obtain ⟨h1,h2⟩:=L.al i a h
  constructor
  ·cases e:H a with
   | none=>exact absurd e h1
   | some o=>rw [s3 i a o h e]; simp
  ·cases e:F' a with
   | none=>rfl
   | some o =>
    rcases nw a (by rw [e]; simp) with z | z
    ·exact absurd h2 z
    ·exact absurd z h1
theorem Slots.put {fp:Nat->List Addr} {i:Nat} {l:List Addr} (L:Slots M Z F σ H env fp) (hk:s.k≠2) (hi:i<σ.length) (h:SlOk M Z F H v s l) (al:∀ a∈l,H a≠none/\F a=none) (dj:∀ j a,j≠i->a∈l->a∉fp j) :
  Slots M Z F (σ.set i (some v)) H (env.set i (some s)) (fun j=>if j=i then l else fp j):=by
 refine ⟨fun j t e=>?_,fun j a e=>?_,fun j k a hjk e z=>?_,fun j a t e1 e2 e3=>?_⟩
 case refine_4 =>
  by_cases q:j=i
  ·subst q
   rw [List.getElem?_set] at e2
   simp only [if_true] at e2
   split at e2
   ·cases e2; exact absurd e3 hk
   ·cases e2
  ·rw [List.getElem?_set_ne (Ne.symm q)] at e2
   rw [List.getElem?_set_ne (Ne.symm q)]
   exact L.oa j a t e1 e2 e3
 ·by_cases q:j=i
  ·subst q
   rw [List.getElem?_set] at e
   simp only [if_true] at e
   split at e
   ·first | (exfalso; revert e; simp; done) | cases e
    exact ⟨v,by simp [hi],by rw [if_pos rfl]; exact h⟩
   ·first | (exfalso; revert e; simp; done) | cases e
  ·rw [List.getElem?_set_ne (Ne.symm q)] at e
   rw [List.getElem?_set_ne (Ne.symm q),if_neg q]
   exact L.at' j t e
 ·by_cases q:j=i
  ·rw [if_pos q] at e; exact al a e
  ·rw [if_neg q] at e; exact L.al j a e
 ·by_cases q:j=i
  ·rw [if_pos q] at e
   rw [if_neg (fun y=>hjk (q.trans y.symm))] at z
   exact dj k a (fun y=>hjk (q.trans y.symm)) e z
  ·rw [if_neg q] at e
   by_cases q2:k=i
   ·rw [if_pos q2] at z
    exact dj j a q z e
   ·rw [if_neg q2] at z
    exact L.dj j k a hjk e z
theorem Slots.push {fp:Nat->List Addr} {l:List Addr} (L:Slots M Z F σ H env fp) (hk:s.k≠2) (hn:env.length=σ.length) (h:SlOk M Z F H v s l) (al:∀ a∈l,H a≠none/\F a=none) (dj:∀ j a,a∈l->a∉fp j) :
  Slots M Z F (σ++[some v]) H (env++[some s]) (fun j=>if j=env.length then l else fp j):=by
 refine ⟨fun j t e=>?_,fun j a e=>?_,fun j k a hjk e z=>?_,fun j a t e1 e2 e3=>?_⟩
 case refine_4 =>
  by_cases q:j=env.length
  ·subst q
   simp at e2
   subst e2
   exact absurd e3 hk
  ·have hj:j<env.length:=by
    have:j<(env++[some s]).length:=by
     rcases Nat.lt_or_ge j (env++[some s]).length with y | y
     ·exact y
     ·rw [List.getElem?_eq_none y] at e2; cases e2
    simp at this; omega
   rw [List.getElem?_append_left hj] at e2
   rw [List.getElem?_append_left (by omega)]
   exact L.oa j a t e1 e2 e3
 ·by_cases q:j=env.length
  ·subst q
   simp at e
   subst e
   exact ⟨v,by rw [hn]; simp,by rw [if_pos rfl]; exact h⟩
  ·rw [if_neg q]
   have hj:j<env.length:=by
    have:j<(env++[some s]).length:=by
     rcases Nat.lt_or_ge j (env++[some s]).length with y | y
     ·exact y
     ·rw [List.getElem?_eq_none y] at e; cases e
    simp at this; omega
   rw [List.getElem?_append_left hj] at e
   rw [List.getElem?_append_left (by omega)]
   exact L.at' j t e
 ·by_cases q:j=env.length
  ·rw [if_pos q] at e; exact al a e
  ·rw [if_neg q] at e; exact L.al j a e
 ·by_cases q:j=env.length
  ·rw [if_pos q] at e
   rw [if_neg (fun y=>hjk (q.trans y.symm))] at z
   exact dj k a e z
  ·rw [if_neg q] at e
   by_cases q2:k=env.length
   ·rw [if_pos q2] at z
    exact dj j a z e
   ·rw [if_neg q2] at z
    exact L.dj j k a hjk e z
theorem Slots.drop {fp:Nat->List Addr} (L:Slots M Z F (σ++[some v]) H (env++[some s]) fp) (hn:env.length=σ.length):Slots M Z F σ H env fp:=by
 have lt:∀ {j:Nat} {t:Sl},env[j]?=some (some t)->j<env.length:=fun {j t} e=>by
  rcases Nat.lt_or_ge j env.length with y | y
  ·exact y
  ·rw [List.getElem?_eq_none y] at e; cases e
 refine ⟨fun j t e=>?_,L.al,L.dj,fun j a t e1 e2 e3=>?_⟩
 ·have hj:=lt e
  obtain ⟨v',h1,h2⟩:=L.at' j t (by rw [List.getElem?_append_left hj]; exact e)
  rw [List.getElem?_append_left (by omega)] at h1
  exact ⟨v',h1,h2⟩
 ·have hj:=lt e2
  have:=L.oa j a t e1 (by rw [List.getElem?_append_left hj]; exact e2) e3
  rw [List.getElem?_append_left (by omega)] at this
  exact this
theorem Slots.last {fp:Nat->List Addr} (L:Slots M Z F (σ++[some v]) H (env++[some s]) fp) (hn:env.length=σ.length):SlOk M Z F H v s (fp env.length):=by
 obtain ⟨v',h1,h2⟩:=L.at' env.length s (by simp)
 rw [hn] at h1
 simp at h1
 subst h1
 exact h2
theorem Sok.h0 (K:Sok M Z F σ H env) {a:Addr} (h:H a=none):Z.H₀ a=none:=by
 cases e:Z.H₀ a with
 | none=>rfl
 | some o=>exact absurd h (K.pr a (by rw [e]; simp))
theorem Sok.move (K:Sok M Z F σ H env) (s1:Same F F') (s2:Same F' H') (s3:Same H H') (nw:∀ a,F' a≠none->F a≠none\/H a=none):Sok M Z F' σ H' env:=by
 obtain ⟨fp,L⟩:=K.sl
 refine ⟨s2,fun b o h1 h2=>s3 b o (K.sG b o h1 h2),fun b h=>?_,ag K.gr s1,fun a h=>?_,K.len,fp,L.move s1 (fun _ c o _ e=>s3 c o e) nw⟩
 ·cases e:H b with
  | none=>exact absurd e (K.pr b h)
  | some o=>rw [s3 b o e]; simp
 ·rcases nw a h with h1 | h1
  ·exact K.nw a h1
  ·exact .inr (K.h0 h1)
theorem Sok.lay {p:Addr} {o:HO} (K:Sok M Z F σ H env) (h:H p=none):Sok M Z (upd F p o) σ (upd H p o) env:=by
 have hF:F p=none:=Same.none_of K.sF h
 refine K.move (az hF) (fun a u e=>?_) (az h) fun a e=>?_
 ·by_cases q:a=p
  ·subst q; rw [am] at e ⊢; exact e
  ·rw [aq q] at e ⊢; exact K.sF a u e
 ·by_cases q:a=p
  ·subst q; exact .inr h
  ·rw [aq q] at e; exact .inl e
theorem Sok.slots {σ':St} {env':En} {fp:Nat->List Addr} (K:Sok M Z F σ H env) (hn:env'.length=σ'.length) (L:Slots M Z F σ' H env' fp):Sok M Z F σ' H env':=⟨K.sF,K.sG,K.pr,K.gr,K.nw,hn,fp,L⟩
theorem Sok.own {p:Addr} {o:HO} {x:PV} (K:Sok M Z F σ H env) (h:H p=none) (hx:OwnAt M F (upd H p o) p x):Sok M Z F (σ++[some (.ref p)]) (upd H p o) (env++[some ⟨1,x⟩]):=by
 have hF:F p=none:=Same.none_of K.sF h
 have K1:Sok M Z F σ (upd H p o) env:=K.move aj (fun a u e=>by rw [aq (aF e hF)]; exact K.sF a u e) (az h) fun a e=>.inl e
 obtain ⟨fp,L⟩:=K.sl
 have L1:Slots M Z F σ (upd H p o) env fp:=L.move aj (fun _ c u _ e=>az h c u e) fun a e=>.inl e
 refine K1.slots (by simp [K.len]) (L1.push (l:=[p]) (by simp) K.len (.inr (.inl ⟨rfl,p,rfl,rfl,K.h0 h,hx⟩)) (fun a ha=>?_) fun j a ha hj=>?_)
 ·simp at ha; subst ha
  exact ⟨by rw [am]; simp,hF⟩
 ·simp at ha; subst ha
  exact (L.al j a hj).1 h
theorem Sok.drop (K:Sok M Z F (σ++[some v]) H (env++[some s])):Sok M Z F σ H env:=by
 have hn:env.length=σ.length:=by have:=K.len; simpa using this
 obtain ⟨fp,L⟩:=K.sl
 exact K.slots hn (L.drop hn)
theorem OwnAt.rep {a:Addr} {o:HO} {x:PV} (h:OwnAt M F H a x) (hx:∀ xs,x≠.set xs) (hF:F a=none) (ho:H a=some o):Rep M.K (upd F a o) (.ref a) x:=by
 have s1:Same F (upd F a o):=az hF
 cases x <;> try exact h.elim
 ·obtain ⟨vs,h1,h2⟩:=h
  rw [ho] at h1; cases h1
  exact .lst am (h2.mono s1)
 ·obtain ⟨vs,h1,h2⟩:=h
  rw [ho] at h1; cases h1
  exact .dic am (h2.mono s1)
 ·exact absurd rfl (hx _)
theorem Sok.frz {fp:Nat->List Addr} {i:Nat} {a:Addr} {o:HO} {σ':St} {env':En} (K:Sok M Z F σ H env) (L:Slots M Z F σ H env fp) (hf:fp i=[a]) (h0:Z.H₀ a=none) (ho:H a=some o)
  (hn:env'.length=σ'.length) (hs:∀ j s,j≠i->env'[j]?=some (some s)->env[j]?=some (some s)/\σ'[j]?=σ[j]?)
  (hi:∀ s,env'[i]?=some (some s)->∃ v,σ'[i]?=some (some v)/\s.k=0/\Rep M.K (upd F a o) v s.v):Sok M Z (upd F a o) σ' H env':=by
 have ha:=L.al i a (by rw [hf]; simp)
 have s1:Same F (upd F a o):=az ha.2
 refine ⟨fun b u e=>?_,K.sG,K.pr,ag K.gr s1,fun b e=>?_,hn,fun j=>if j=i then [] else fp j,fun j s h=>?_,fun j b h=>?_,fun j k b hjk h z=>?_,fun j b t e1 e2 e3=>?_⟩
 ·by_cases q:b=a
  ·subst q; rw [am] at e; cases e; exact ho
  ·rw [aq q] at e; exact K.sF b u e
 ·by_cases q:b=a
  ·subst q; exact .inr h0
  ·rw [aq q] at e; exact K.nw b e
 ·by_cases q:j=i
  ·subst q
   obtain ⟨v,h1,h2,h3⟩:=hi s h
   exact ⟨v,h1,.inl ⟨h2,if_pos rfl,h3⟩⟩
  ·obtain ⟨e1,e2⟩:=hs j s q h
   obtain ⟨v,h1,h2⟩:=L.at' j s e1
   exact ⟨v,by rw [e2]; exact h1,by rw [if_neg q]; exact h2.mono s1 fun _ _=>rfl⟩
 ·by_cases q:j=i
  ·rw [if_pos q] at h; simp at h
  ·rw [if_neg q] at h
   have hb:=L.al j b h
   have:b≠a:=fun z=>L.dj j i b q h (by rw [hf,z]; simp)
   exact ⟨hb.1,by rw [aq this]; exact hb.2⟩
 ·by_cases q:j=i
  ·rw [if_pos q] at h; simp at h
  ·rw [if_neg q] at h
   by_cases q2:k=i
   ·rw [if_pos q2] at z; simp at z
   ·rw [if_neg q2] at z; exact L.dj j k b hjk h z
 ·by_cases q:j=i
  ·subst q
   obtain ⟨_,_,h2,_⟩:=hi t e2
   rw [e3] at h2; cases h2
  ·obtain ⟨f1,f2⟩:=hs j t q e2
   rw [f2]; exact L.oa j b t e1 f1 e3
theorem dG {H:Hp} {a:Addr} (h:H a≠none):∃ o,H a=some o:=by
 cases e:H a with
 | none=>exact absurd e h
 | some o=>exact ⟨o,rfl⟩
theorem Sok.freezeL {x:PV} (K:Sok M Z F (σ++[some v]) H (env++[some ⟨1,x⟩])) (hx:∀ xs,x≠.set xs):∃ F',Same F F'/\Sok M Z F' σ H env/\Rep M.K F' v x:=by
 have hn:env.length=σ.length:=by have:=K.len; simpa using this
 obtain ⟨fp,L⟩:=K.sl
 rcases L.last hn with ⟨e,_⟩ | ⟨_,a,rfl,hf,h0,hw⟩ | ⟨e,_⟩ | ⟨e,_⟩
 ·first | (exfalso; revert e; simp; done) | cases e
 ·have ha:=L.al env.length a (by rw [hf]; simp)
  obtain ⟨o,ho⟩:=dG ha.1
  refine ⟨upd F a o,az ha.2,K.frz L hf h0 ho hn (fun j s _ e=>?_) (fun s e=>?_),hw.rep hx ha.2 ho⟩
  ·have hj:j<env.length:=by
    rcases Nat.lt_or_ge j env.length with y | y
    ·exact y
    ·rw [List.getElem?_eq_none y] at e; cases e
   rw [List.getElem?_append_left hj,List.getElem?_append_left (by omega)]
   exact ⟨e,rfl⟩
  ·simp at e
 ·first | (exfalso; revert e; simp; done) | cases e
 ·first | (exfalso; revert e; simp; done) | cases e
theorem Sok.freeze {i:Nat} {x:PV} (K:Sok M Z F σ H env) (hi:env[i]?=some (some ⟨1,x⟩)) (hx:∀ xs,x≠.set xs):∃ F' v,σ[i]?=some (some v)/\Same F F'/\Sok M Z F' σ H (env.set i (some ⟨0,x⟩))/\Rep M.K F' v x:=by
 obtain ⟨fp,L⟩:=K.sl
 obtain ⟨v,hv,h⟩:=L.at' i _ hi
 rcases h with ⟨e,_⟩ | ⟨_,a,rfl,hf,h0,hw⟩ | ⟨e,_⟩ | ⟨e,_⟩
 ·first | (exfalso; revert e; simp; done) | cases e
 ·have ha:=L.al i a (by rw [hf]; simp)
  obtain ⟨o,ho⟩:=dG ha.1
  refine ⟨upd F a o,_,hv,az ha.2,K.frz L hf h0 ho (by simp [K.len]) (fun j s q e=>?_) (fun s e=>?_),hw.rep hx ha.2 ho⟩
  ·rw [List.getElem?_set_ne (Ne.symm q)] at e
   exact ⟨e,rfl⟩
  ·rw [List.getElem?_set] at e
   simp only [if_true] at e
   split at e
   ·first | (exfalso; revert e; simp; done) | cases e
    exact ⟨_,hv,rfl,hw.rep hx ha.2 ho⟩
   ·first | (exfalso; revert e; simp; done) | cases e
 ·first | (exfalso; revert e; simp; done) | cases e
 ·first | (exfalso; revert e; simp; done) | cases e
theorem Sok.put {i:Nat} {x:PV} (K:Sok M Z F σ H env) (h:Rep M.K F v x):Sok M Z F (σ.set i (some v)) H (env.set i (some ⟨0,x⟩)):=by
 obtain ⟨fp,L⟩:=K.sl
 rcases Nat.lt_or_ge i env.length with hi | hi
 case inr =>
  rw [List.set_eq_of_length_le hi,List.set_eq_of_length_le (by have:=K.len; omega)]
  exact K
 exact K.slots (by simp [K.len]) (L.put (l:=[]) (by simp) (by have:=K.len; omega) (.inl ⟨rfl,rfl,h⟩) (fun a h=>by simp at h) fun j a _ h=>by simp at h)
theorem Sok.take {i:Nat} (K:Sok M Z F (σ++[some v]) H (env++[some s])) (hk:autoParam (s.k≠2) Z6._auto_1):Sok M Z F (σ.set i (some v)) H (env.set i (some s)):=by
 have hn:env.length=σ.length:=by have:=K.len; simpa using this
 rcases Nat.lt_or_ge i env.length with hi | hi
 case inr =>
  rw [List.set_eq_of_length_le hi,List.set_eq_of_length_le (by omega)]
  exact K.drop
 obtain ⟨fp,L⟩:=K.sl
 have hl:=L.last hn
 refine K.slots (by simp [hn]) (Slots.put (l:=fp env.length) (fp:=fun j=>if j=env.length then [] else fp j) ⟨fun j t e=>?_,fun j a e=>?_,fun j k a hjk e z=>?_,(L.drop hn).oa⟩ hk (by omega) hl (fun a=>L.al _ a) fun j a _ h z=>?_)
 ·have hj:j<env.length:=by
   rcases Nat.lt_or_ge j env.length with y | y
   ·exact y
   ·rw [List.getElem?_eq_none y] at e; cases e
  rw [if_neg (by omega)]
  obtain ⟨v',h1,h2⟩:=L.at' j t (by rw [List.getElem?_append_left hj]; exact e)
  rw [List.getElem?_append_left (by omega)] at h1
  exact ⟨v',h1,h2⟩
 ·split at e
  ·simp at e
  ·exact L.al j a e
 ·split at e
  ·simp at e
  ·split at z
   ·simp at z
   ·exact L.dj j k a hjk e z
 ·split at z
  ·simp at z
  ·rename_i q
   exact L.dj env.length j a (Ne.symm q) h z
theorem Sok.write {i k:Nat} {a:Addr} {o:HO} {x y:PV} (K:Sok M Z F σ H env) (hk:k=1\/k=3) (hi:env[i]?=some (some ⟨k,x⟩)) (hv:σ[i]?=some (some (.ref a))) (hw:OwnAt M F (upd H a o) a y):Sok M Z F σ (upd H a o) (env.set i (some ⟨k,y⟩)):=by
 obtain ⟨fp,L⟩:=K.sl
 obtain ⟨v,hv',h⟩:=L.at' i _ hi
 rw [hv] at hv'; cases hv'
 obtain ⟨hf,hd,hnew⟩:fp i=[a]/\(Z.H₀ a=none\/a∈Z.S)/\SlOk M Z F (upd H a o) (.ref a) ⟨k,y⟩ [a]:=by
  rcases h with ⟨e,_⟩ | ⟨e,a',ea,hf,h0,hx⟩ | ⟨e,_⟩ | ⟨e,a',ea,hf,h0,hx⟩
  ·rcases hk with rfl | rfl <;> exact absurd e (by simp)
  ·cases ea
   exact ⟨hf,.inl h0,.inr (.inl ⟨e,a,rfl,rfl,h0,hw⟩)⟩
  ·rcases hk with rfl | rfl <;> exact absurd e (by simp)
  ·cases ea
   exact ⟨hf,.inr h0,.inr (.inr (.inr ⟨e,a,rfl,rfl,h0,hw⟩))⟩
 have ha:=L.al i a (by rw [hf]; simp)
 refine ⟨fun b u e=>?_,fun b u h1 h2=>?_,fun b h=>?_,K.gr,K.nw,by simp [K.len],fp,fun j s e=>?_,fun j b h=>?_,L.dj,fun j b t e1 e2 e3=>?_⟩
 ·rw [aq (aF e ha.2)]; exact K.sF b u e
 ·have:b≠a:=by
   rcases hd with h0 | h0
   ·exact aF h1 h0
   ·exact fun z=>h2 (by rw [z]; exact h0)
  rw [aq this]; exact K.sG b u h1 h2
 ·by_cases q:b=a
  ·subst q; rw [am]; simp
  ·rw [aq q]; exact K.pr b h
 ·by_cases q:j=i
  ·subst q
   rw [List.getElem?_set] at e
   simp only [if_true] at e
   split at e
   ·first | (exfalso; revert e; simp; done) | cases e
    exact ⟨_,hv,by rw [hf]; exact hnew⟩
   ·first | (exfalso; revert e; simp; done) | cases e
  ·rw [List.getElem?_set_ne (Ne.symm q)] at e
   obtain ⟨v,h1,h2⟩:=L.at' j s e
   refine ⟨v,h1,h2.mono aj fun c hc=>aq fun z=>?_⟩
   exact L.dj j i c q hc (by rw [hf,z]; simp)
 ·have hb:=L.al j b h
  refine ⟨?_,hb.2⟩
  by_cases q:b=a
  ·subst q; rw [am]; simp
  ·rw [aq q]; exact hb.1
 ·by_cases q:j=i
  ·subst q
   rw [List.getElem?_set] at e2
   simp only [if_true] at e2
   split at e2
   ·cases e2; rcases hk with rfl | rfl <;> cases e3
   ·cases e2
  ·rw [List.getElem?_set_ne (Ne.symm q)] at e2
   exact L.oa j b t e1 e2 e3
end
noncomputable def Vw (M:Md) (F H:Hp) (v:V) (x:PV):Prop:=Rep M.K F v x\/∃ a,v=.ref a/\OwnAt M F H a x
section
variable {M:Md} {Z:Zn} {F F' H H':Hp} {σ:St} {env:En} {v:V}
theorem Vw.lst {xs:List PV} (h:Vw M F H v (.lst xs)) (s:Same F H):∃ a vs,v=.ref a/\H a=some (.lst vs)/\Reps M.K F vs xs:=by
 rcases h with h | ⟨a,rfl,vs,h1,h2⟩
 ·cases h with
  | lst h1 h2=>exact ⟨_,_,rfl,s _ _ h1,h2⟩
 ·exact ⟨a,vs,rfl,h1,h2⟩
theorem Vw.tup {xs:List PV} (h:Vw M F H v (.tup xs)) (s:Same F H):∃ a vs,v=.ref a/\SqT M.K H a vs/\Reps M.K F vs xs:=by
 rcases h with h | ⟨a,rfl,h⟩
 ·cases h with
  | tup h1 h2=>exact ⟨_,_,rfl,au s h1,h2⟩
 ·exact h.elim
theorem Vw.dic {xs:List (Key×PV)} (h:Vw M F H v (.dic xs)) (s:Same F H):∃ a vs,v=.ref a/\H a=some (.dK vs)/\RepsK M.K F vs xs:=by
 rcases h with h | ⟨a,rfl,vs,h1,h2⟩
 ·cases h with
  | dic h1 h2=>exact ⟨_,_,rfl,s _ _ h1,h2⟩
 ·exact ⟨a,vs,rfl,h1,h2⟩
theorem Vw.int {i:Int} (h:Vw M F H v (.int i)):v=.int i:=by
 rcases h with h | ⟨a,rfl,h⟩
 ·cases h; rfl
 ·exact h.elim
theorem Vw.bl {b:Bool} (h:Vw M F H v (.bl b)):v=.bl b:=by
 rcases h with h | ⟨a,rfl,h⟩
 ·cases h; rfl
 ·exact h.elim
theorem Vw.str {x:Str} (h:Vw M F H v (.str x)):v=.str x:=by
 rcases h with h | ⟨a,rfl,h⟩
 ·cases h; rfl
 ·exact h.elim
theorem Vw.non (h:Vw M F H v .non):v=.non:=by
 rcases h with h | ⟨a,rfl,h⟩
 ·cases h; rfl
 ·exact h.elim
theorem Sok.vw {i:Nat} {s:Sl} (K:Sok M Z F σ H env) (hi:env[i]?=some (some s)) (hk:s.k≠2/\s.k≠4):∃ v,σ[i]?=some (some v)/\Vw M F H v s.v:=by
 obtain ⟨fp,L⟩:=K.sl
 obtain ⟨v,hv,h⟩:=L.at' i _ hi
 rcases h with ⟨_,_,h⟩ | ⟨_,a,rfl,_,_,h⟩ | ⟨e,_⟩ | ⟨_,a,rfl,_,_,h⟩
 ·exact ⟨v,hv,.inl h⟩
 ·exact ⟨_,hv,.inr ⟨a,rfl,h⟩⟩
 ·exact (e.elim hk.1 hk.2).elim
 ·exact ⟨_,hv,.inr ⟨a,rfl,h⟩⟩
theorem Sok.val {i:Nat} {x:PV} (K:Sok M Z F σ H env) (hi:env[i]?=some (some ⟨0,x⟩)):∃ v,σ[i]?=some (some v)/\Rep M.K F v x:=by
 obtain ⟨fp,L⟩:=K.sl
 obtain ⟨v,hv,h⟩:=L.at' i _ hi
 rcases h with ⟨_,_,h⟩ | ⟨e,_⟩ | ⟨e,_⟩ | ⟨e,_⟩
 ·exact ⟨v,hv,h⟩
 ·first | (exfalso; revert e; simp; done) | cases e
 ·first | (exfalso; revert e; simp; done) | cases e
 ·first | (exfalso; revert e; simp; done) | cases e
theorem Sok.ownAt {i k:Nat} {x:PV} (K:Sok M Z F σ H env) (hk:k=1\/k=3) (hi:env[i]?=some (some ⟨k,x⟩)):∃ a,σ[i]?=some (some (.ref a))/\OwnAt M F H a x:=by
 obtain ⟨fp,L⟩:=K.sl
 obtain ⟨v,hv,h⟩:=L.at' i _ hi
 rcases h with ⟨e,_⟩ | ⟨_,a,rfl,_,_,h⟩ | ⟨e,_⟩ | ⟨_,a,rfl,_,_,h⟩
 ·rcases hk with rfl | rfl <;> exact absurd e (by simp)
 ·exact ⟨a,hv,h⟩
 ·rcases hk with rfl | rfl <;> exact absurd e (by simp)
 ·exact ⟨a,hv,h⟩
end
end Q
namespace Q
open PySem L2
noncomputable abbrev WE:=En->(PV->En->Prop)->Prop
noncomputable abbrev WT:=En->(Bool->En->Prop)->Prop
noncomputable abbrev WA:=En->(List PV->En->Prop)->Prop
structure Wd where
 nx:En->Prop
 rt:PV->En->Prop
 bk:En->Prop:=fun _=>False
 ct:En->Prop:=fun _=>False
 rf:PV->En->Prop:=fun _ _=>False
 ro:PV->Nat->En->Prop:=fun _ _ _=>False
noncomputable abbrev WS:=Wd->En->Prop
noncomputable abbrev md (ob:ObK) (X:Cx):Md:=⟨X.prog,X.w,X.K,ob⟩
structure EvS (ob:ObK) (X:Cx) (e:Expr) (f:WE):Prop where
 ex:∃ t:TE,PE X e t/\∀ (Z:Zn) (F:Hp) (σ:St) (H:Hp) (env:En) (P:PV->En->Prop) (Q:VK),Sok (md ob X) Z F σ H env->f env P ->
  (∀ x env' v F' H',P x env'->Same F F'->Sok (md ob X) Z F' σ H' env'->Rep X.K F' v x->Q v H')->t σ H Q
structure EvW (ob:ObK) (X:Cx) (e:Expr) (f:WE):Prop where
 ex:∃ t:TE,PE X e t/\∀ (Z:Zn) (F:Hp) (σ:St) (H:Hp) (env:En) (P:PV->En->Prop) (Q:VK),Sok (md ob X) Z F σ H env->f env P ->
  (∀ x env' v F' H',P x env'->Same F F'->Sok (md ob X) Z F' σ H' env'->Vw (md ob X) F' H' v x->Q v H')->t σ H Q
structure EvF (ob:ObK) (X:Cx) (e:Expr) (f:WE):Prop where
 ex:∃ t:TE,PE X e t/\∀ (Z:Zn) (F:Hp) (σ:St) (H:Hp) (env:En) (P:PV->En->Prop) (Q:VK),Sok (md ob X) Z F σ H env->f env P ->
  (∀ x env' v F' H',P x env'->Same F F'->(∀ xs,x≠.set xs)->Sok (md ob X) Z F' (σ++[some v]) H' (env'++[some ⟨1,x⟩])->Q v H')->t σ H Q
structure EvT (ob:ObK) (X:Cx) (e:Expr) (f:WT):Prop where
 ex:∃ t:TT,PT X e t/\∀ (Z:Zn) (F:Hp) (σ:St) (H:Hp) (env:En) (P:Bool->En->Prop) (Q:Bool->Hp->Prop),Sok (md ob X) Z F σ H env->f env P ->
  (∀ b env' F' H',P b env'->Same F F'->Sok (md ob X) Z F' σ H' env'->Q b H')->t σ H Q
structure EvP (ob:ObK) (X:Cx) (e:Expr) (f:WT):Prop where
 ex:∃ t:TT,PW X e t/\∀ (Z:Zn) (F:Hp) (σ:St) (H:Hp) (env:En) (P:Bool->En->Prop) (Q:Bool->Hp->Prop),Sok (md ob X) Z F σ H env->f env P ->
  (∀ b env' F' H',P b env'->Same F F'->Sok (md ob X) Z F' σ H' env'->Q b H')->t σ H Q
structure EvA (ob:ObK) (X:Cx) (es:List Expr) (f:WA):Prop where
 ex:∃ t:TA,PA X es t/\∀ (Z:Zn) (F:Hp) (σ:St) (H:Hp) (env:En) (P:List PV->En->Prop) (Q:List V->Hp->Prop),Sok (md ob X) Z F σ H env->f env P ->
  (∀ xs env' vs F' H',P xs env'->xs.length=es.length->Same F F'->Sok (md ob X) Z F' σ H' env'->Reps X.K F' vs xs->Q vs H')->t σ H Q
noncomputable def eC (x:PV):WE:=fun env P=>P x env
noncomputable def eV (i:Nat):WE:=fun env P=>match env[i]? with
 | some (some ⟨0,x⟩)=>P x env
 | some (some ⟨1,.lst xs⟩)=>P (.lst xs) (env.set i (some ⟨0,.lst xs⟩))
 | some (some ⟨1,.dic xs⟩)=>P (.dic xs) (env.set i (some ⟨0,.dic xs⟩))
 | _=>False
noncomputable def eVW (i:Nat):WE:=fun env P=>match env[i]? with
 | some (some ⟨0,x⟩)=>P x env
 | some (some ⟨1,x⟩)=>P x env
 | some (some ⟨3,x⟩)=>P x env
 | _=>False
noncomputable def opt {α:Type} (o:Option α) (P:α->Prop):Prop:=∃ z,o=some z/\P z
theorem opt_some {α:Type} {z:α} {P:α->Prop}:opt (some z) P↔P z:=⟨fun ⟨_,e,h⟩=>by cases e; exact h,fun h=>⟨z,rfl,h⟩⟩
noncomputable def aNil:WA:=fun env P=>P [] env
noncomputable def aCons (a:WE) (r:WA):WA:=fun env P=>a env fun x e1=>r e1 fun xs e2=>P (x::xs) e2
noncomputable def eTup (a:WA):WE:=fun env P=>a env fun xs e=>P (.tup xs) e
noncomputable def eLst (a:WA):WE:=fun env P=>a env fun xs e=>P (.lst xs) e
noncomputable def eOp (g:PV->PV->Option PV) (a b:WE):WE:=fun env P=>a env fun x e1=>b e1 fun y e2=>opt (g x y) fun z=>P z e2
noncomputable def eUn (g:PV->Option PV) (a:WE):WE:=fun env P=>a env fun x e1=>opt (g x) fun z=>P z e1
noncomputable def eOpS (g:PV->PV->Option PV) (i:Nat) (b:WE):WE:=fun env P=>(env[i]?).join.isSome=true/\b env fun y e2=>eVW i e2 fun x _=>opt (g x y) fun z=>P z e2
noncomputable def tBool (a:WE):WT:=fun env P=>a env fun x e=>opt (match x with | .bl b=>some b | _=>none) fun b=>P b e
noncomputable def tAnd (a b:WT):WT:=fun env P=>a env fun x e=>if x=true then b e P else P false e
noncomputable def tOr (a b:WT):WT:=fun env P=>a env fun x e=>if x=true then P true e else b e P
noncomputable def tNot (a:WT):WT:=fun env P=>a env fun x e=>P (!x) e
noncomputable def eIf (c:WT) (a b:WE):WE:=fun env P=>c env fun x e=>if x=true then a e P else b e P
section
variable {ob:ObK} {X:Cx} {e a b c:Expr} {es:List Expr} {pos:Pos} {f g h:WE}
theorem EvS.w (he:EvS ob X e f):EvW ob X e f:=by
 obtain ⟨t,ht,h⟩:=he.ex
 exact ⟨t,ht,fun Z F σ H env P Q K hf k=>h Z F σ H env P Q K hf fun x env' v F' H' p s K' r=>k x env' v F' H' p s K' (.inl r)⟩
theorem EvF.s (he:EvF ob X e f):EvS ob X e f:=by
 obtain ⟨t,ht,h⟩:=he.ex
 refine ⟨t,ht,fun Z F σ H env P Q K hf k=>h Z F σ H env P Q K hf fun x env' v F' H' p s hx K'=>?_⟩
 obtain ⟨F2,s2,K2,r⟩:=K'.freezeL hx
 exact k x env' v F2 H' p (ag s s2) K2 r
theorem dJ {v:V} {x:PV} (hp:PE X e (tC v)) (hr:∀ F,Rep X.K F v x):EvS ob X e (eC x) :=
 ⟨_,hp,fun Z F σ H env P Q K hf k=>k x env v F H hf aj K (hr F)⟩
theorem ad {i j}:EvS ob X (.Constant (.int i) j pos) (eC (.int i)):=dJ aK fun _=>.int i
theorem bB {i j}:EvS ob X (.Constant (.bool i) j pos) (eC (.bl i)):=dJ wG fun _=>.bl i
theorem qI {j}:EvS ob X (.Constant .none j pos) (eC .non):=dJ vt fun _=>.non
theorem ba {i j}:EvS ob X (.Constant (.str i) j pos) (eC (.str i)):=dJ vo fun _=>.str i
theorem ac (i:Nat) {x:Str} (hp:PE X (.Name x pos) (tVar i)):EvS ob X (.Name x pos) (eV i):=by
 refine ⟨_,hp,fun Z F σ H env P Q K hf k=>?_⟩
 unfold eV at hf
 split at hf
 ·rename_i y hy
  obtain ⟨v,hv,r⟩:=K.val hy
  exact ⟨v,hv,k _ _ v F H hf aj K r⟩
 ·rename_i y hy
  obtain ⟨F',v,hv,s,K',r⟩:=K.freeze hy (fun _=>by simp)
  exact ⟨v,hv,k _ _ v F' H hf s K' r⟩
 ·rename_i y hy
  obtain ⟨F',v,hv,s,K',r⟩:=K.freeze hy (fun _=>by simp)
  exact ⟨v,hv,k _ _ v F' H hf s K' r⟩
 ·exact hf.elim
theorem ao (i:Nat) {x:Str} (hp:PE X (.Name x pos) (tVar i)):EvW ob X (.Name x pos) (eVW i):=by
 refine ⟨_,hp,fun Z F σ H env P Q K hf k=>?_⟩
 unfold eVW at hf
 split at hf
 ·rename_i y hy
  obtain ⟨v,hv,r⟩:=K.vw hy (by simp)
  exact ⟨v,hv,k _ _ v F H hf aj K r⟩
 ·rename_i y hy
  obtain ⟨v,hv,r⟩:=K.vw hy (by simp)
  exact ⟨v,hv,k _ _ v F H hf aj K r⟩
 ·rename_i y hy
  obtain ⟨v,hv,r⟩:=K.vw hy (by simp)
  exact ⟨v,hv,k _ _ v F H hf aj K r⟩
 ·exact hf.elim
theorem ae:EvA ob X [] aNil:=⟨_,bI,fun Z F σ H env P Q K hf k=>k [] env [] F H hf rfl aj K .nil⟩
theorem ab {fa:WA} (he:EvS ob X e f) (hr:EvA ob X es fa) (hs:autoParam (starEach (e::es) X.env=(false,eval e X.env)::starEach es X.env) Z2._auto_1):EvA ob X (e::es) (aCons f fa):=by
 obtain ⟨t,ht,h⟩:=he.ex
 obtain ⟨u,hu,g⟩:=hr.ex
 refine ⟨_,bn ht hu hs,fun Z F σ H env P Q K hf k=>?_⟩
 refine h Z F σ H env _ _ K hf fun x e1 v F1 H1 p s1 K1 r1=>?_
 refine g Z F1 σ H1 e1 _ _ K1 p fun xs e2 vs F2 H2 p2 hl s2 K2 r2=>?_
 exact k (x::xs) e2 (v::vs) F2 H2 p2 (by simp [hl]) (ag s1 s2) K2 (.cons (r1.mono s2) r2)
theorem aL {fa:WA} {x1} (ha:EvA ob X es fa) (hn:autoParam (es.length<=1000) Z1._auto_1):EvS ob X (.Tuple es x1 pos) (eTup fa):=by
 obtain ⟨t,ht,h⟩:=ha.ex
 refine ⟨_,vn ht,fun Z F σ H env P Q K hf k=>?_⟩
 refine h Z F σ H env _ _ K hf fun xs e1 vs F1 H1 p hl s1 K1 r1=>⟨?_,fun q hq=>?_⟩
 ·rw [r1.len,hl,sizeLine_eq]; omega
 ·have hF:F1 q=none:=Same.none_of K1.sF hq
  exact k _ e1 _ _ _ p (ag s1 (az hF)) (K1.lay hq) (.tup (.inl (.inl am)) (r1.mono (az hF)))
theorem cY {fa:WA} (ha:EvA ob X es fa) (hn:autoParam (es.length<=1000) Z1._auto_1):EvF ob X (.List es pos) (eLst fa):=by
 obtain ⟨t,ht,h⟩:=ha.ex
 refine ⟨_,ja ht,fun Z F σ H env P Q K hf k=>?_⟩
 refine h Z F σ H env _ _ K hf fun xs e1 vs F1 H1 p hl s1 K1 r1=>⟨?_,fun q hq=>?_⟩
 ·rw [r1.len,hl,sizeLine_eq]; omega
 ·exact k _ e1 _ _ _ p s1 (fun _=>by simp) (K1.own hq ⟨vs,am,r1⟩)
noncomputable def OpQ (ob:ObK) (X:Cx) (r:R2) (g:PV->PV->Option PV):Prop :=
 ∀ (Z:Zn) (F:Hp) (σ:St) (H:Hp) (env:En) (v u:V) (x y z:PV) (Q:VK),Sok (md ob X) Z F σ H env->Vw (md ob X) F H v x->Vw (md ob X) F H u y->g x y=some z ->
  (∀ v' F' H',Same F F'->Sok (md ob X) Z F' σ H' env->Rep X.K F' v' z->Q v' H')->r v u H Q
noncomputable def OpQS (ob:ObK) (X:Cx) (r:R2) (g:PV->PV->Option PV):Prop :=
 ∀ (Z:Zn) (F:Hp) (σ:St) (H:Hp) (env:En) (v u:V) (x y z:PV) (Q:VK),Sok (md ob X) Z F σ H env->Rep X.K F v x->Vw (md ob X) F H u y->g x y=some z ->
  (∀ v' F' H',Same F F'->Sok (md ob X) Z F' σ H' env->Rep X.K F' v' z->Q v' H')->r v u H Q
theorem OpQ.s {r:R2} {o:PV->PV->Option PV} (h:OpQ ob X r o):OpQS ob X r o:=fun Z F σ H env v u x y z Q K rx ry=>h Z F σ H env v u x y z Q K (.inl rx) ry
theorem gI {r:R2} {o:PV->PV->Option PV} {ta tb:TE} (hq:OpQS ob X r o)
  (ha:∀ (Z:Zn) (F:Hp) (σ:St) (H:Hp) (env:En) (P:PV->En->Prop) (Q:VK),Sok (md ob X) Z F σ H env->f env P->(∀ x env' v F' H',P x env'->Same F F'->Sok (md ob X) Z F' σ H' env'->Rep X.K F' v x->Q v H')->ta σ H Q)
  (hb:∀ (Z:Zn) (F:Hp) (σ:St) (H:Hp) (env:En) (P:PV->En->Prop) (Q:VK),Sok (md ob X) Z F σ H env->g env P->(∀ x env' v F' H',P x env'->Same F F'->Sok (md ob X) Z F' σ H' env'->Vw (md ob X) F' H' v x->Q v H')->tb σ H Q) :
  ∀ (Z:Zn) (F:Hp) (σ:St) (H:Hp) (env:En) (P:PV->En->Prop) (Q:VK),Sok (md ob X) Z F σ H env->eOp o f g env P->(∀ x env' v F' H',P x env'->Same F F'->Sok (md ob X) Z F' σ H' env'->Rep X.K F' v x->Q v H')->tOp r ta tb σ H Q:=by
 intro Z F σ H env P Q K hf k
 refine ha Z F σ H env _ _ K hf fun x e1 v F1 H1 p s1 K1 r1=>?_
 refine hb Z F1 σ H1 e1 _ _ K1 p fun y e2 u F2 H2 p2 s2 K2 r2=>?_
 obtain ⟨z,ez,p3⟩:=p2
 exact hq Z F2 σ H2 e2 v u x y z Q K2 (r1.mono s2) r2 ez fun v' F' H' s3 K3 r3=>k z e2 v' F' H' p3 (ag s1 (ag s2 s3)) K3 r3
theorem rU {r:R2} {o:PV->PV->Option PV} {tb:TE} {i:Nat} (hq:OpQ ob X r o)
  (hb:∀ (Z:Zn) (F:Hp) (σ:St) (H:Hp) (env:En) (P:PV->En->Prop) (Q:VK),Sok (md ob X) Z F σ H env->g env P->(∀ x env' v F' H',P x env'->Same F F'->Sok (md ob X) Z F' σ H' env'->Vw (md ob X) F' H' v x->Q v H')->tb σ H Q) :
  ∀ (Z:Zn) (F:Hp) (σ:St) (H:Hp) (env:En) (P:PV->En->Prop) (Q:VK),Sok (md ob X) Z F σ H env->eOpS o i g env P->(∀ x env' v F' H',P x env'->Same F F'->Sok (md ob X) Z F' σ H' env'->Rep X.K F' v x->Q v H')->tOp r (tVar i) tb σ H Q:=by
 intro Z F σ H env P Q K hf k
 obtain ⟨hd,hf⟩:=hf
 obtain ⟨v,hv⟩:∃ v,σ[i]?=some (some v):=by
  cases e:env[i]? with
  | none=>rw [e] at hd; cases hd
  | some w =>
   cases w with
   | none=>rw [e] at hd; cases hd
   | some s =>
    obtain ⟨fp,L⟩:=K.sl
    obtain ⟨v,hv,_⟩:=L.at' i s e
    exact ⟨v,hv⟩
 refine ⟨v,hv,hb Z F σ H env _ _ K hf fun y e2 u F2 H2 p2 s2 K2 r2=>?_⟩
 unfold eVW at p2
 have fin:∀ (s:Sl),(s.k≠2/\s.k≠4)->e2[i]?=some (some s)->opt (o s.v y) (fun z=>P z e2)->r v u H2 Q:=fun s hk hs ⟨z,ez,p3⟩=>by
  obtain ⟨v',hv',rv⟩:=K2.vw hs hk
  rw [hv] at hv'; cases hv'
  exact hq Z F2 σ H2 e2 v u s.v y z Q K2 rv r2 ez fun v' F' H' s3 K3 r3=>k z e2 v' F' H' p3 (ag s2 s3) K3 r3
 split at p2
 ·rename_i hy; exact fin _ (by simp) hy p2
 ·rename_i hy; exact fin _ (by simp) hy p2
 ·rename_i hy; exact fin _ (by simp) hy p2
 ·exact p2.elim
end
end Q
namespace Q
open PySem L2 PyProof.Rows
noncomputable def valP (kvs:List (Key×PV)) (k:Key):Option PV:=(kvs.find? fun kv=>decide (kv.1=k)).map (·.2)
noncomputable def putP (kvs:List (Key×PV)) (k:Key) (v:PV):List (Key×PV) :=
 if (kvs.any fun kv=>decide (kv.1=k))=true then kvs.map (fun kv=>if kv.1=k then (kv.1,v) else kv) else kvs++[(k,v)]
noncomputable def keyP:PV->Option Key
 | .int i=>some (.inl i)
 | .str s=>some (.inr s)
 | _=>none
section
variable {K:PySem.W.Frag} {F:Hp}
theorem RepsK.val {k:Key} {vs:List (Key×V)} {xs:List (Key×PV)} (h:RepsK K F vs xs):(valV vs k=none/\valP xs k=none)\/∃ v x,valV vs k=some v/\valP xs k=some x/\Rep K F v x:=by
 induction h using RepsK.ind with
 | nil=>exact .inl ⟨rfl,rfl⟩
 | @cons k' v x vs xs h _ ih =>
  by_cases e:k'=k
  ·exact .inr ⟨v,x,ft e,by simp [valP,List.find?_cons,e],h⟩
  ·rw [fu (p:=(k',v)) e]
   have e2:valP ((k',x)::xs) k=valP xs k:=by simp [valP,List.find?_cons,e]
   rw [e2]
   exact ih
theorem RepsK.any {k:Key} {vs:List (Key×V)} {xs:List (Key×PV)} (h:RepsK K F vs xs):(vs.any fun kv=>decide (kv.1=k))=xs.any fun kv=>decide (kv.1=k):=by
 induction h using RepsK.ind with
 | nil=>rfl
 | cons _ _ ih=>exact congrArg (_ || ·) ih
theorem RepsK.app {vs ws:List (Key×V)} {xs ys:List (Key×PV)} (h:RepsK K F vs xs) (k:RepsK K F ws ys):RepsK K F (vs++ws) (xs++ys):=by
 induction h using RepsK.ind with
 | nil=>exact k
 | cons a _ ih=>exact .cons a ih
theorem RepsK.mapPut {k:Key} {v:V} {x:PV} (hv:Rep K F v x) {vs:List (Key×V)} {xs:List (Key×PV)} (h:RepsK K F vs xs):RepsK K F (vs.map fun kv=>if kv.1=k then (kv.1,v) else kv) (xs.map fun kv=>if kv.1=k then (kv.1,x) else kv):=by
 induction h using RepsK.ind with
 | nil=>exact .nil
 | @cons k' v' x' vs xs a _ ih =>
  rw [List.map_cons,List.map_cons]
  dsimp only
  by_cases e:k'=k
  ·rw [if_pos e,if_pos e]; exact .cons hv ih
  ·rw [if_neg e,if_neg e]; exact .cons a ih
theorem RepsK.put {k:Key} {v:V} {x:PV} {vs:List (Key×V)} {xs:List (Key×PV)} (h:RepsK K F vs xs) (hv:Rep K F v x):RepsK K F (putK vs k v) (putP xs k x):=by
 unfold putK putP
 rw [h.any]
 split
 ·exact h.mapPut hv
 ·exact h.app (.cons hv .nil)
theorem j6 {x:PV} {k:Key} {v:V} (h:keyP x=some k) (r:Rep K F v x):v=kV k:=by
 cases r <;> cases h <;> rfl
end
noncomputable def ixPV:PV->PV->Option PV
 | .tup xs,.int i=>atI xs i
 | .lst xs,.int i=>atI xs i
 | .str s,.int i=>if s.length<=100000 then (atI s.cps.toList i).map fun c=>.str ⟨#[c]⟩ else none
 | .dic kvs,y=>(keyP y).bind (valP kvs)
 | _,_=>none
noncomputable def rIxD:R2:=fun x y H Q=>∃ a v,x=.ref a/\DGet H a y (some v)/\Q v H
section
variable {ob:ObK} {X:Cx} {a b c e:Expr} {f g h:WE} {pos:Pos}
theorem um (hu:X.A.units+1<cLine):IxR X rIxD:=by
 intro value slice pins s σ H x y v u Q I rx ry h hs
 obtain ⟨a,z,rfl,g,q⟩:=h
 cases rx
 exact tail_any (nu I g) PySem.F.slot_dict_getitem.lookup (qP hu I g ry fun w' s3 I3 rw'=>⟨z,H,I3,rw',q⟩) hs
noncomputable def rIxA (K:PySem.W.Frag):R2:=fun x y H Q=>rIx K x y H Q\/rIxD x y H Q
theorem qr (hu:X.A.units+1<cLine):IxR X (rIxA X.K):=ix_seq.or (um hu)
theorem oe {K:PySem.W.Frag} {F:Hp} {vs:List V} {xs:List PV} {i:Int} {z:PV} (r:Reps K F vs xs) (h:atI xs i=some z):∃ v,atI vs i=some v/\Rep K F v z:=by
 unfold atI at h ⊢
 rw [r.len]
 cases e:ixN xs.length i with
 | none=>rw [e] at h; cases h
 | some j =>
  rw [e] at h
  exact r.get h
theorem vwKey {M:Md} {F H:Hp} {v:V} {x:PV} {k:Key} (h:Vw M F H v x) (hk:keyP x=some k):v=kV k:=by
 cases x <;> try cases hk
 ·exact h.int
 ·exact h.str
theorem opq_ix:OpQ ob X (rIxA X.K) ixPV:=by
 intro Z F σ H env v u x y z Q K rx ry hz k
 unfold ixPV at hz
 split at hz
 ·obtain ⟨p,vs,rfl,h1,h2⟩:=rx.tup K.sF
  rw [ry.int]
  obtain ⟨w,e1,e2⟩:=oe h2 hz
  exact .inl (.inr (.inl ⟨p,vs,_,w,rfl,rfl,h1,e1,k w F H aj K e2⟩))
 ·obtain ⟨p,vs,rfl,h1,h2⟩:=rx.lst K.sF
  rw [ry.int]
  obtain ⟨w,e1,e2⟩:=oe h2 hz
  exact .inl (.inl ⟨p,vs,_,w,rfl,rfl,.inl (.inl h1),e1,k w F H aj K e2⟩)
 ·rename_i s i
  split at hz
  ·rename_i hl
   rw [rx.str,ry.int]
   cases e:atI s.cps.toList i with
   | none=>rw [e] at hz; cases hz
   | some c =>
    rw [e] at hz; cases hz
    exact .inl (.inr (.inr ⟨s,i,c,rfl,rfl,by rw [sizeLine_eq]; omega,e,k _ F H aj K (.str _)⟩))
  ·cases hz
 ·rename_i kvs
  obtain ⟨p,vs,rfl,h1,h2⟩:=rx.dic K.sF
  cases e:keyP y with
  | none=>rw [e] at hz; cases hz
  | some kk =>
   rw [e] at hz
   have hz:valP kvs kk=some z:=hz
   rw [vwKey ry e]
   rcases h2.val (k:=kk) with ⟨_,e2⟩ | ⟨w,w',e1,e2,e3⟩
   ·rw [e2] at hz; cases hz
   ·rw [e2] at hz; cases hz
    refine .inr ⟨p,w,rfl,?_,k w F H aj K e3⟩
    rw [<- e1]; exact DGet.k h1
 ·cases hz
theorem ap (hu:X.A.units+1<cLine) (ha:EvS ob X a f) (hb:EvW ob X b g) (hs:autoParam (kw b) Z7._auto_1):EvS ob X (.Subscript a b pos) (eOp ixPV f g):=by
 obtain ⟨ta,ha,ka⟩:=ha.ex
 obtain ⟨tb,hb,kb⟩:=hb.ex
 exact ⟨_,bN (qr hu) ha hb hs,gI opq_ix.s ka kb⟩
theorem wk (i:Nat) {x:Str} {p:Pos} (hu:X.A.units+1<cLine) (ha:PE X (.Name x p) (tVar i)) (hb:EvW ob X b g) (hs:autoParam (kw b) Z7._auto_1):EvS ob X (.Subscript (.Name x p) b pos) (eOpS ixPV i g):=by
 obtain ⟨tb,hb,kb⟩:=hb.ex
 exact ⟨_,bN (qr hu) ha hb hs,rU opq_ix kb⟩
theorem OpR.or {fn:Value->Value->Sem Value} {r r':R2} (h:OpR X fn r) (h':OpR X fn r'):OpR X fn (fun x y H Q=>r x y H Q\/r' x y H Q):=by
 intro pins s σ H x y v u Q I rx ry q
 rcases q with q | q
 ·exact h pins s σ H x y v u Q I rx ry q
 ·exact h' pins s σ H x y v u Q I rx ry q
noncomputable def addPV:PV->PV->Option PV
 | .int i,.int j=>some (.int (i+j))
 | .str s,.str t=>if s.length+t.length<=100000 then some (.str (s++t)) else none
 | .tup xs,.tup ys=>if xs.length+ys.length<=100000 then some (.tup (xs++ys)) else none
 | .lst xs,.lst ys=>if xs.length+ys.length<=100000 then some (.lst (xs++ys)) else none
 | _,_=>none
theorem Vw.tupR {M:Md} {F H:Hp} {v:V} {xs:List PV} (h:Vw M F H v (.tup xs)):Rep M.K F v (.tup xs):=by
 rcases h with h | ⟨a,rfl,h⟩
 ·exact h
 ·exact h.elim
noncomputable def rAddA (K:PySem.W.Frag):R2:=fun x y H Q=>((rI0 fun i j=>.int (i+j)) x y H Q\/∃ i j,x=.str i/\y=.str j/\i.length+j.length<=sizeLine/\Q (.str (i++j)) H)\/(rCatW K x y H Q\/rCat x y H Q)
theorem t8:OpR X (binaryOp .Add) (rAddA X.K):=OpR.or (OpR.or gc oE) (OpR.or t6 vF)
theorem tY:OpQ ob X (rAddA X.K) addPV:=by
 intro Z F σ H env v u x y z Q K rx ry hz k
 unfold addPV at hz
 split at hz
 ·cases hz
  rw [rx.int,ry.int]
  exact .inl (.inl ⟨_,_,rfl,rfl,k _ F H aj K (.int _)⟩)
 ·split at hz
  ·cases hz
   rw [rx.str,ry.str]
   exact .inl (.inr ⟨_,_,rfl,rfl,by rw [sizeLine_eq]; omega,k _ F H aj K (.str _)⟩)
  ·cases hz
 ·rename_i xs ys
  split at hz
  ·cases hz
   obtain ⟨p,vs,rfl,h1,h2⟩:=rx.tup K.sF
   obtain ⟨q,ws,rfl,g1,g2⟩:=ry.tup K.sF
   have hl:=h2.len
   have gl:=g2.len
   refine .inr (.inl ⟨p,q,vs,ws,rfl,rfl,h1,g1,by rw [sizeLine_eq]; omega,?_⟩)
   refine ⟨fun e=>k _ F H aj K ?_,fun e=>k _ F H aj K ?_,fun r hr=>?_⟩
   ·subst e
    have:xs=[]:=List.length_eq_zero_iff.mp hl.symm
    subst this
    exact ry.tupR
   ·subst e
    have:ys=[]:=List.length_eq_zero_iff.mp gl.symm
    subst this
    rw [List.append_nil]
    exact rx.tupR
   ·have hF:F r=none:=Same.none_of K.sF hr
    exact k _ _ _ (az hF) (K.lay hr) (.tup (.inl (.inl am)) ((h2.app g2).mono (az hF)))
  ·cases hz
 ·rename_i xs ys
  split at hz
  ·cases hz
   obtain ⟨p,vs,rfl,h1,h2⟩:=rx.lst K.sF
   obtain ⟨q,ws,rfl,g1,g2⟩:=ry.lst K.sF
   have hl:=h2.len
   have gl:=g2.len
   refine .inr (.inr ⟨p,q,vs,ws,rfl,rfl,h1,g1,by rw [sizeLine_eq]; omega,fun r hr=>?_⟩)
   have hF:F r=none:=Same.none_of K.sF hr
   exact k _ _ _ (az hF) (K.lay hr) (.lst am ((h2.app g2).mono (az hF)))
  ·cases hz
 ·cases hz
end
end Q
namespace Q
open PySem L2 PyProof.Rows
section
variable {ob:ObK} {X:Cx} {a b c e:Expr} {f g h:WE} {pos:Pos}
theorem fm {op:Operator} {r:R2} {o:PV->PV->Option PV} (hr:OpR X (binaryOp op) r) (hq:OpQ ob X r o) (ha:EvS ob X a f) (hb:EvW ob X b g):EvS ob X (.BinOp a op b pos) (eOp o f g):=by
 obtain ⟨ta,ha,ka⟩:=ha.ex
 obtain ⟨tb,hb,kb⟩:=hb.ex
 exact ⟨_,bw hr ha hb,gI hq.s ka kb⟩
theorem aM (ha:EvS ob X a f) (hb:EvW ob X b g):EvS ob X (.BinOp a .Add b pos) (eOp addPV f g):=fm t8 tY ha hb
noncomputable def iI (C:Int->Int->Bool) (h:Int->Int->Int):PV->PV->Option PV
 | .int i,.int j=>if C i j=true then some (.int (h i j)) else none
 | _,_=>none
theorem gJ {C:Int->Int->Bool} {D:Int->Int->Prop} {h:Int->Int->Int} (hC:∀ i j,C i j=true->D i j):OpQ ob X (rI D fun i j=>.int (h i j)) (iI C h):=by
 intro Z F σ H env v u x y z Q K rx ry hz k
 unfold iI at hz
 split at hz
 ·split at hz
  ·rename_i hc
   cases hz
   rw [rx.int,ry.int]
   exact ⟨_,_,rfl,rfl,hC _ _ hc,k _ F H aj K (.int _)⟩
  ·cases hz
 ·cases hz
noncomputable def subPV:=iI (fun _ _=>true) fun i j=>i - j
noncomputable def cMul (i j:Int):Bool:=(decide (-(2 ^ 64)<i) && decide (i<2 ^ 64)) || (decide (-(2 ^ 64)<j) && decide (j<2 ^ 64))
noncomputable def mulPV:PV->PV->Option PV
 | .int i,.int j=>if cMul i j=true then some (.int (i*j)) else none
 | .str s,.int i=>if 0<=i/\i<=1000/\s.length<=1000 then some (.str (repS s i.toNat)) else none
 | .lst xs,.int i=>if -1000<=i/\i<=1000/\xs.length<=1000 then some (.lst (List.replicate i.toNat xs).flatten) else none
 | _,_=>none
noncomputable def modPV:=iI (fun _ j=>decide (0<j)) fun i j=>i % j
noncomputable def divPV:=iI (fun _ j=>decide (0<j) && decide (j<1073741824)) fun i j=>i / j
noncomputable def powPV:=iI (fun i j=>decide (0<=j) && decide (j<=1000000) && decide (i.natAbs<2 ^ 64)) fun i j=>i ^ j.toNat
theorem tZ:OpR X (binaryOp .Sub) (rI (fun _ _=>True) fun i j=>.int (i - j)):=by
 intro pins s σ H x y v u Q I rx ry h
 obtain ⟨i,j,e1,e2,_,q⟩:=h
 exact vA pins s σ H x y v u Q I rx ry ⟨i,j,e1,e2,q⟩
theorem cE (ha:EvS ob X a f) (hb:EvW ob X b g):EvS ob X (.BinOp a .Sub b pos) (eOp subPV f g):=fm tZ (gJ fun _ _ _=>trivial) ha hb
theorem dI (ha:EvS ob X a f) (hb:EvW ob X b g):EvS ob X (.BinOp a .Mod b pos) (eOp modPV f g):=fm dB (gJ fun _ _ h=>of_decide_eq_true h) ha hb
theorem qJ (ha:EvS ob X a f) (hb:EvW ob X b g):EvS ob X (.BinOp a .FloorDiv b pos) (eOp divPV f g):=fm jO (gJ fun _ _ h=>by simp at h; exact h) ha hb
theorem mF (ha:EvS ob X a f) (hb:EvW ob X b g):EvS ob X (.BinOp a .Pow b pos) (eOp powPV f g):=fm ma (gJ fun _ _ h=>by simp at h; exact ⟨h.1.1,h.1.2,h.2⟩) ha hb
theorem Reps.rep {K:PySem.W.Frag} {F:Hp} {vs:List V} {xs:List PV} (r:Reps K F vs xs):∀ n:Nat,Reps K F (List.replicate n vs).flatten (List.replicate n xs).flatten
 | 0=>.nil
 | n+1=>by
  rw [List.replicate_succ,List.replicate_succ,List.flatten_cons,List.flatten_cons]
  exact r.app (r.rep n)
theorem tX:OpQ ob X (fun x y H Q=>(rI CMul fun i j=>.int (i*j)) x y H Q\/(rMulS x y H Q\/rRep x y H Q)) mulPV:=by
 intro Z F σ H env v u x y z Q K rx ry hz k
 unfold mulPV at hz
 split at hz
 ·split at hz
  ·rename_i hc
   cases hz
   rw [rx.int,ry.int]
   refine .inl ⟨_,_,rfl,rfl,?_,k _ F H aj K (.int _)⟩
   unfold cMul at hc
   simp at hc
   exact hc
  ·cases hz
 ·split at hz
  ·rename_i hc
   cases hz
   rw [rx.str,ry.int]
   exact .inr (.inl ⟨_,_,rfl,rfl,hc.1,hc.2.1,hc.2.2,k _ F H aj K (.str _)⟩)
  ·cases hz
 ·rename_i xs i
  split at hz
  ·rename_i hc
   cases hz
   obtain ⟨p,vs,rfl,h1,h2⟩:=rx.lst K.sF
   rw [ry.int]
   have hl:=h2.len
   refine .inr (.inr ⟨p,i,vs,rfl,rfl,h1,by omega,by omega,?_,fun r hr=>?_⟩)
   ·rw [sizeLine_eq]
    have h3:i.toNat<=1000:=by omega
    have h4:vs.length<=1000:=by omega
    calc vs.length*i.toNat<=1000*1000:=Nat.mul_le_mul h4 h3
     _<=16777216:=by decide
   ·have hF:F r=none:=Same.none_of K.sF hr
    exact k _ _ _ (az hF) (K.lay hr) (.lst am ((h2.rep _).mono (az hF)))
  ·cases hz
 ·cases hz
theorem fj (ha:EvS ob X a f) (hb:EvW ob X b g):EvS ob X (.BinOp a .Mult b pos) (eOp mulPV f g):=fm (OpR.or je (OpR.or t5 vC)) tX ha hb
noncomputable def negPV:PV->Option PV
 | .int i=>some (.int (-i))
 | _=>none
theorem b8 {op:CmpOp} {r:R2} {o:PV->PV->Option PV} (hr:OpR X (compareOp op) r) (hq:OpQ ob X r o) (ha:EvS ob X a f) (hb:EvW ob X b g) (hm:behindInMarks op b=false):EvS ob X (.Compare a [op] [b] pos) (eOp o f g):=by
 obtain ⟨ta,ha,ka⟩:=ha.ex
 obtain ⟨tb,hb,kb⟩:=hb.ex
 exact ⟨_,nJ hr ha hb hm,gI hq.s ka kb⟩
theorem wo {op:CmpOp} {o:PV->PV->Option PV} (he:∃ t,PE X (.Compare a [op] [b] pos) t/\PT X (.Compare a [op] [b] pos) (tTest t)/\∀ (Z:Zn) (F:Hp) (σ:L2.St) (H:Hp) (env:En) (P:PV->En->Prop) (Q:VK),Sok (md ob X) Z F σ H env->f env P->(∀ x env' v F' H',P x env'->Same F F'->Sok (md ob X) Z F' σ H' env'->Rep X.K F' v x->Q v H')->t σ H Q):EvT ob X (.Compare a [op] [b] pos) (tBool f):=by
 obtain ⟨t,_,ht,h⟩:=he
 refine ⟨_,ht,fun Z F σ H env P Q K hf k=>h Z F σ H env _ _ K hf fun x e1 v F1 H1 p s1 K1 r1=>?_⟩
 obtain ⟨z,hz,p⟩:=p
 cases x <;> try (cases hz)
 cases r1
 exact ⟨_,rfl,k _ e1 F1 H1 p s1 K1⟩
theorem aw {op:CmpOp} {r:R2} {o:PV->PV->Option PV} (hr:OpR X (compareOp op) r) (hq:OpQ ob X r o) (ha:EvS ob X a f) (hb:EvW ob X b g) (hm:behindInMarks op b=false):EvT ob X (.Compare a [op] [b] pos) (tBool (eOp o f g)):=by
 obtain ⟨ta,ha,ka⟩:=ha.ex
 obtain ⟨tb,hb,kb⟩:=hb.ex
 exact wo (o:=o) ⟨_,nJ hr ha hb hm,eZ hr ha hb hm,gI hq.s ka kb⟩
theorem bE {r:R2} {o:PV->PV->Option PV} {P:V->V->Hp->V->Prop} (h:∀ (F H:Hp) (v u:V) (x y z:PV),Same F H->Vw (md ob X) F H v x->Vw (md ob X) F H u y->o x y=some z->∃ w,(∀ F,Rep X.K F w z)/\∀ Q:VK,Q w H->r v u H Q):OpQ ob X r o:=by
 intro Z F σ H env v u x y z Q K rx ry hz k
 obtain ⟨w,h1,h2⟩:=h F H v u x y z K.sF rx ry hz
 exact h2 Q (k w F H aj K (h1 F))
noncomputable def ltPV:PV->PV->Option PV
 | .int i,.int j=>some (.bl (decide (i<j)))
 | .str s,.str t=>some (.bl (decide (ltS s t)))
 | _,_=>none
noncomputable def lePV:PV->PV->Option PV
 | .int i,.int j=>some (.bl (decide (i<=j)))
 | .str s,.str t=>some (.bl (!decide (ltS t s)))
 | _,_=>none
noncomputable def gtPV:PV->PV->Option PV
 | .int i,.int j=>some (.bl (decide (j<i)))
 | _,_=>none
theorem dA:OpQ ob X (fun x y H Q=>(rI0 fun i j=>.bl (decide (i<j))) x y H Q\/∃ i j,x=.str i/\y=.str j/\Q (.bl (decide (i.cps.toList<j.cps.toList))) H) ltPV:=by
 refine bE (P:=fun _ _ _ _=>True) fun F H v u x y z sF rx ry hz=>?_
 unfold ltPV at hz
 split at hz
 ·cases hz
  rw [rx.int,ry.int]
  exact ⟨_,fun _=>.bl _,fun Q q=>.inl ⟨_,_,rfl,rfl,q⟩⟩
 ·cases hz
  rw [rx.str,ry.str]
  exact ⟨_,fun _=>.bl _,fun Q q=>.inr ⟨_,_,rfl,rfl,q⟩⟩
 ·cases hz
theorem jc:OpQ ob X (fun x y H Q=>(rI0 fun i j=>.bl (decide (i<=j))) x y H Q\/∃ i j,x=.str i/\y=.str j/\Q (.bl (!decide (j.cps.toList<i.cps.toList))) H) lePV:=by
 refine bE (P:=fun _ _ _ _=>True) fun F H v u x y z sF rx ry hz=>?_
 unfold lePV at hz
 split at hz
 ·cases hz
  rw [rx.int,ry.int]
  exact ⟨_,fun _=>.bl _,fun Q q=>.inl ⟨_,_,rfl,rfl,q⟩⟩
 ·cases hz
  rw [rx.str,ry.str]
  exact ⟨_,fun _=>.bl _,fun Q q=>.inr ⟨_,_,rfl,rfl,q⟩⟩
 ·cases hz
theorem pX:OpQ ob X (rI0 fun i j=>.bl (decide (j<i))) gtPV:=by
 refine bE (P:=fun _ _ _ _=>True) fun F H v u x y z sF rx ry hz=>?_
 unfold gtPV at hz
 split at hz
 ·cases hz
  rw [rx.int,ry.int]
  exact ⟨_,fun _=>.bl _,fun Q q=>⟨_,_,rfl,rfl,q⟩⟩
 ·cases hz
theorem fG:OpR X (compareOp .Lt) (fun x y H Q=>(rI0 fun i j=>.bl (decide (i<j))) x y H Q\/∃ i j,x=.str i/\y=.str j/\Q (.bl (decide (i.cps.toList<j.cps.toList))) H):=OpR.or wI qa
theorem lA:OpR X (compareOp .LtE) (fun x y H Q=>(rI0 fun i j=>.bl (decide (i<=j))) x y H Q\/∃ i j,x=.str i/\y=.str j/\Q (.bl (!decide (j.cps.toList<i.cps.toList))) H):=OpR.or wJ qb
noncomputable def isNonP:PV->Bool
 | .non=>true
 | _=>false
noncomputable def isPV:PV->PV->Option PV
 | x,.non=>some (.bl (isNonP x))
 | .bl a,.bl b=>some (.bl (a==b))
 | _,_=>none
noncomputable def isnPV:PV->PV->Option PV
 | x,.non=>some (.bl (!isNonP x))
 | .bl a,.bl b=>some (.bl (a != b))
 | _,_=>none
theorem o8 {M:Md} {F H:Hp} {v:V} {x:PV} (h:Vw M F H v x):decide (v=V.non)=isNonP x:=by
 rcases h with h | ⟨a,rfl,h⟩
 ·cases h <;> simp [isNonP]
 ·cases x <;> first | exact h.elim | simp [isNonP]
theorem pW:OpQ ob X (fun x y H Q=>(y=.non/\Q (.bl (decide (x=.non))) H)\/∃ a b,x=.bl a/\y=.bl b/\Q (.bl (a==b)) H) isPV:=by
 refine bE (P:=fun _ _ _ _=>True) fun F H v u x y z sF rx ry hz=>?_
 unfold isPV at hz
 split at hz
 ·cases hz
  rw [ry.non]
  refine ⟨_,fun _=>.bl _,fun Q q=>.inl ⟨rfl,?_⟩⟩
  rw [o8 rx]; exact q
 ·cases hz
  rw [rx.bl,ry.bl]
  exact ⟨_,fun _=>.bl _,fun Q q=>.inr ⟨_,_,rfl,rfl,q⟩⟩
 ·cases hz
theorem nM:OpQ ob X (fun x y H Q=>(y=.non/\Q (.bl (!decide (x=.non))) H)\/∃ a b,x=.bl a/\y=.bl b/\Q (.bl (a != b)) H) isnPV:=by
 refine bE (P:=fun _ _ _ _=>True) fun F H v u x y z sF rx ry hz=>?_
 unfold isnPV at hz
 split at hz
 ·cases hz
  rw [ry.non]
  refine ⟨_,fun _=>.bl _,fun Q q=>.inl ⟨rfl,?_⟩⟩
  rw [o8 rx]; exact q
 ·cases hz
  rw [rx.bl,ry.bl]
  exact ⟨_,fun _=>.bl _,fun Q q=>.inr ⟨_,_,rfl,rfl,q⟩⟩
 ·cases hz
theorem sU:OpR X (compareOp .Is) (fun x y H Q=>(y=.non/\Q (.bl (decide (x=.non))) H)\/∃ a b,x=.bl a/\y=.bl b/\Q (.bl (a==b)) H):=OpR.or vD vE
theorem pV:OpR X (compareOp .IsNot) (fun x y H Q=>(y=.non/\Q (.bl (!decide (x=.non))) H)\/∃ a b,x=.bl a/\y=.bl b/\Q (.bl (a != b)) H):=OpR.or t4 qc
noncomputable def truPV:PV->Option Bool
 | .non=>some false
 | .bl b=>some b
 | .int i=>some (i != 0)
 | .str s=>if s.length<=100000 then some ((s.length:Int) != 0) else none
 | .tup xs=>some (!xs.isEmpty)
 | .lst xs=>some (!xs.isEmpty)
 | .dic xs=>some (!xs.isEmpty)
 | _=>none
noncomputable def tTru (a:WE):WT:=fun env P=>a env fun x e=>opt (truPV x) fun b=>P b e
theorem aR (he:EvW ob X e f) (h:autoParam (∀ whole,isTrue e X.env whole=(do let v <- whole; standAt e.pos; holding [v] (truthy v))) Z3._auto_1):EvT ob X e (tTru f):=by
 obtain ⟨t,ht,k0⟩:=he.ex
 refine ⟨_,rD ht h,fun Z F σ H env P Q K hf k=>k0 Z F σ H env _ _ K hf fun x e1 v F1 H1 p s1 K1 r1=>?_⟩
 obtain ⟨z,hz,p⟩:=p
 refine ⟨z,?_,k _ e1 F1 H1 p s1 K1⟩
 have emp:∀ {α β:Type} {l:List α} {m:List β},l.length=m.length->l.isEmpty=m.isEmpty:=fun {α β l m} h=>by
  cases l <;> cases m <;> simp at h ⊢
 cases x <;> simp only [truPV] at hz
 ·cases hz; rw [r1.non]; rfl
 ·cases hz; rw [r1.bl]; rfl
 ·cases hz; rw [r1.int]; rfl
 ·split at hz
  ·cases hz; rw [r1.str]; exact ⟨by rw [sizeLine_eq]; omega,rfl⟩
  ·cases hz
 ·cases hz
  obtain ⟨p,vs,rfl,h1,h2⟩:=r1.tup K1.sF
  exact .inr (.inl ⟨vs,h1,by rw [emp h2.len]⟩)
 ·cases hz
  obtain ⟨p,vs,rfl,h1,h2⟩:=r1.lst K1.sF
  exact .inl ⟨vs,.inl (.inl h1),by rw [emp h2.len]⟩
 ·cases hz
  obtain ⟨p,vs,rfl,h1,h2⟩:=r1.dic K1.sF
  exact .inr (.inr ⟨vs,h1,by rw [emp h2.len]⟩)
 ·cases hz
 ·cases hz
variable {t u:WT} {rest:List Expr}
theorem bS (h:EvP ob X e t):EvT ob X e t:=by
 obtain ⟨w,hw,k⟩:=h.ex
 exact ⟨w,hw.pt,k⟩
theorem cK (h:EvT ob X a t):EvP ob X (.BoolOp .And [a] pos) t:=by
 obtain ⟨w,hw,k⟩:=h.ex
 exact ⟨w,pw_and1 hw,k⟩
theorem bW (h:EvT ob X a t):EvP ob X (.BoolOp .Or [a] pos) t:=by
 obtain ⟨w,hw,k⟩:=h.ex
 exact ⟨w,pw_or1 hw,k⟩
theorem dL (h:EvT ob X a t) (h2:EvP ob X (.BoolOp .And (b::rest) pos) u):EvP ob X (.BoolOp .And (a::b::rest) pos) (tAnd t u):=by
 obtain ⟨w,hw,k⟩:=h.ex
 obtain ⟨w2,hw2,k2⟩:=h2.ex
 refine ⟨_,pw_and hw hw2,fun Z F σ H env P Q K hf kk=>k Z F σ H env _ _ K hf fun x e1 F1 H1 p s1 K1=>?_⟩
 cases x with
 | true=>exact iteT (k2 Z F1 σ H1 e1 P Q K1 p fun x e2 F2 H2 p2 s2 K2=>kk x e2 F2 H2 p2 (ag s1 s2) K2)
 | false=>exact iteF (kk _ e1 F1 H1 p s1 K1)
theorem bG (h:EvT ob X a t) (h2:EvP ob X (.BoolOp .Or (b::rest) pos) u):EvP ob X (.BoolOp .Or (a::b::rest) pos) (tOr t u):=by
 obtain ⟨w,hw,k⟩:=h.ex
 obtain ⟨w2,hw2,k2⟩:=h2.ex
 refine ⟨_,pw_or hw hw2,fun Z F σ H env P Q K hf kk=>k Z F σ H env _ _ K hf fun x e1 F1 H1 p s1 K1=>?_⟩
 cases x with
 | true=>exact iteT (kk _ e1 F1 H1 p s1 K1)
 | false=>exact iteF (k2 Z F1 σ H1 e1 P Q K1 p fun x e2 F2 H2 p2 s2 K2=>kk x e2 F2 H2 p2 (ag s1 s2) K2)
theorem aX (h:EvT ob X a t):EvT ob X (.UnaryOp .Not a pos) (tNot t):=by
 obtain ⟨w,hw,k⟩:=h.ex
 exact ⟨_,vc hw,fun Z F σ H env P Q K hf kk=>k Z F σ H env _ _ K hf fun x e1 F1 H1 p s1 K1=>kk _ e1 F1 H1 p s1 K1⟩
theorem wm (hc:EvT ob X c t) (ha:EvS ob X a f) (hb:EvS ob X b g):EvS ob X (.IfExp c a b pos) (eIf t f g):=by
 obtain ⟨w,hw,k⟩:=hc.ex
 obtain ⟨ta,ha,ka⟩:=ha.ex
 obtain ⟨tb,hb,kb⟩:=hb.ex
 refine ⟨_,rJ hw ha hb,fun Z F σ H env P Q K hf kk=>k Z F σ H env _ _ K hf fun x e1 F1 H1 p s1 K1=>?_⟩
 cases x with
 | true=>exact iteT (ka Z F1 σ H1 e1 P Q K1 p fun x e2 v F2 H2 p2 s2 K2 r2=>kk x e2 v F2 H2 p2 (ag s1 s2) K2 r2)
 | false=>exact iteF (kb Z F1 σ H1 e1 P Q K1 p fun x e2 v F2 H2 p2 s2 K2 r2=>kk x e2 v F2 H2 p2 (ag s1 s2) K2 r2)
noncomputable def blPV:PV->Option Bool
 | .bl b=>some b
 | _=>none
noncomputable def eAnd (a b:WE):WE:=fun env P=>a env fun x e=>opt (blPV x) fun k=>if k=true then b e P else P (.bl false) e
noncomputable def eOr (a b:WE):WE:=fun env P=>a env fun x e=>opt (blPV x) fun k=>if k=true then P (.bl true) e else b e P
noncomputable def eNot (a:WE):WE:=fun env P=>a env fun x e=>opt (blPV x) fun k=>P (.bl (!k)) e
theorem cG {op} (h:EvS ob X a f):EvS ob X (.BoolOp op [a] pos) f:=by
 obtain ⟨t,ht,k⟩:=h.ex
 exact ⟨t,vp ht,k⟩
theorem ko {K:PySem.W.Frag} {F:Hp} {v:V} {x:PV} {k:Bool} (r:Rep K F v x) (h:blPV x=some k):v=.bl k/\x=.bl k:=by
 cases x <;> cases h
 cases r
 exact ⟨rfl,rfl⟩
theorem b9 (ha:EvS ob X a f) (hb:EvS ob X (.BoolOp .And (b::rest) pos) g):EvS ob X (.BoolOp .And (a::b::rest) pos) (eAnd f g):=by
 obtain ⟨ta,ha,ka⟩:=ha.ex
 obtain ⟨tb,hb,kb⟩:=hb.ex
 refine ⟨_,vy ha hb,fun Z F σ H env P Q K hf kk=>ka Z F σ H env _ _ K hf fun x e1 v F1 H1 p s1 K1 r1=>?_⟩
 obtain ⟨z,hz,p⟩:=p
 obtain ⟨rfl,rfl⟩:=ko r1 hz
 refine ⟨z,rfl,?_⟩
 cases z with
 | true=>exact iteT (kb Z F1 σ H1 e1 P Q K1 p fun x e2 v F2 H2 p2 s2 K2 r2=>kk x e2 v F2 H2 p2 (ag s1 s2) K2 r2)
 | false=>exact iteF (kk _ e1 _ F1 H1 p s1 K1 (.bl _))
theorem qH (ha:EvS ob X a f):EvS ob X (.UnaryOp .Not a pos) (eNot f):=by
 obtain ⟨ta,ha,ka⟩:=ha.ex
 refine ⟨_,vq ha,fun Z F σ H env P Q K hf kk=>ka Z F σ H env _ _ K hf fun x e1 v F1 H1 p s1 K1 r1=>?_⟩
 obtain ⟨z,hz,p⟩:=p
 obtain ⟨rfl,rfl⟩:=ko r1 hz
 exact ⟨z,rfl,kk _ e1 _ F1 H1 p s1 K1 (.bl _)⟩
end
end Q
namespace Q
open PySem L2 PyProof.Rows
noncomputable def eqPV:Nat->PV->PV->Option Bool
 | 0,_,_=>none
 | d+1,x,y=>match x,y with
  | .non,.non=>some true
  | .non,.bl _=>some false
  | .non,.int _=>some false
  | .non,.str _=>some false
  | .bl _,.non=>some false
  | .bl a,.bl b=>some (a==b)
  | .bl a,.int b=>some ((if a then 1 else 0)==b)
  | .bl _,.str _=>some false
  | .int _,.non=>some false
  | .int a,.bl b=>some (a==(if b then 1 else 0))
  | .int a,.int b=>some (a==b)
  | .int _,.str _=>some false
  | .str _,.non=>some false
  | .str _,.bl _=>some false
  | .str _,.int _=>some false
  | .str a,.str b=>some (a==b)
  | .tup xs,.tup ys=>((xs.zip ys).mapM fun p=>eqPV d p.1 p.2).map fun bs=>bs.all id && xs.length==ys.length
  | .lst xs,.lst ys=>if xs.length=ys.length then ((xs.zip ys).mapM fun p=>eqPV d p.1 p.2).map fun bs=>bs.all id else some false
  | .tup _,.lst _=>some false
  | .lst _,.tup _=>some false
  | .tup _,.non=>some false
  | .tup _,.bl _=>some false
  | .tup _,.int _=>some false
  | .tup _,.str _=>some false
  | .non,.tup _=>some false
  | .bl _,.tup _=>some false
  | .int _,.tup _=>some false
  | .str _,.tup _=>some false
  | .lst _,.non=>some false
  | .lst _,.bl _=>some false
  | .lst _,.int _=>some false
  | .lst _,.str _=>some false
  | .non,.lst _=>some false
  | .bl _,.lst _=>some false
  | .int _,.lst _=>some false
  | .str _,.lst _=>some false
  | _,_=>none
theorem br {α β:Type} {f:α->Option β}:∀ {l:List α} {m:List β},l.mapM f=some m->m.length=l.length/\∀ (i:Nat) (a:α),l[i]?=some a->∃ b,m[i]?=some b/\f a=some b
 | [],m,h=>by simp at h; subst h; exact ⟨rfl,fun i a e=>by simp at e⟩
 | a::l,m,h=>by
  rw [List.mapM_cons] at h
  cases ea:f a with
  | none=>rw [ea] at h; cases h
  | some b =>
   rw [ea] at h
   cases el:l.mapM f with
   | none=>rw [el] at h; cases h
   | some m' =>
    rw [el] at h
    have h:some (b::m')=some m:=h
    cases h
    obtain ⟨h1,h2⟩:=br el
    refine ⟨by simp [h1],fun i c e=>?_⟩
    cases i with
    | zero=>simp at e; subst e; exact ⟨b,rfl,ea⟩
    | succ i=>simp at e ⊢; exact h2 i c e
theorem Vals.getV:∀ {xs:List V} {us:List Value} {i:Nat} {u:Value},Vals xs us->us[i]?=some u->∃ x,xs[i]?=some x/\RelV x u
 | _,_,_,_,.nil,e=>by simp at e
 | _,_,0,_,.cons r _,e=>by simp at e; subst e; exact ⟨_,rfl,r⟩
 | _,_,i+1,x,.cons _ t,e=>by
  obtain ⟨u,h1,h2⟩:=Vals.getV (i:=i) (u:=x) t (by simpa using e)
  exact ⟨u,by simpa using h1,h2⟩
section
variable {X:Cx} {pins:List (Addr×Obj)} {σ:L2.St} {H F:Hp} {s:Shared}
theorem cJ (I:Inv X pins σ H s) {a:Addr} {vs ws:List V} (h1:SqL X.K H a vs) (h2:SqT X.K H a ws):False:=by
 obtain ⟨_,_,⟨o,n,e,c,_⟩,_⟩:=I.list h1
 obtain ⟨_,_,⟨o',e',c',_⟩,_⟩:=I.tuple h2
 rw [e] at e'; cases e'; rw [c] at c'; injection c' with c'; exact absurd c' (by decide)
theorem dP {e:Nat->Bool} {bs:List Bool} (h:∀ j,j<bs.length->bs[j]?=some (e j)):(List.range bs.length).all e=bs.all id:=by
 rw [Bool.eq_iff_iff,List.all_eq_true,List.all_eq_true]
 constructor
 ·intro q b hb
  obtain ⟨j,hj,rfl⟩:=List.mem_iff_getElem.mp hb
  have:=h j hj
  rw [List.getElem?_eq_getElem hj] at this
  have q2:=q j (List.mem_range.mpr hj)
  rw [<- Option.some.inj this] at q2
  exact q2
 ·intro q j hj
  have hj:=List.mem_range.mp hj
  have:=h j hj
  rw [List.getElem?_eq_getElem hj] at this
  rw [<- Option.some.inj this]
  exact q _ (List.getElem_mem hj)
theorem kQ (I:Inv X pins σ H s) (sF:Same F H):∀ {d:Nat} {v:V} {x y:PV} {k:Bool},Rep X.K F v x->Rep X.K F v y->eqPV d x y=some k->k=true:=by
 intro d
 induction d with
 | zero=>intro v x y k _ _ h; cases h
 | succ d ih =>
  intro v x y k rx ry h
  have lists:∀ {vs:List V} {xs ys:List PV} {bs:List Bool},Reps X.K F vs xs->Reps X.K F vs ys->(xs.zip ys).mapM (fun p=>eqPV d p.1 p.2)=some bs->bs.all id=true:=fun {vs xs ys bs} r1 r2 hm=>by
   obtain ⟨h1,h2⟩:=br hm
   rw [List.all_eq_true]
   intro b hb
   obtain ⟨j,hj,rfl⟩:=List.mem_iff_getElem.mp hb
   have hj2:j<(xs.zip ys).length:=by rw [<- h1]; exact hj
   obtain ⟨b',e1,e2⟩:=h2 j _ (List.getElem?_eq_getElem hj2)
   rw [List.getElem?_eq_getElem hj] at e1
   cases Option.some.inj e1
   have hx:xs[j]?=some (xs.zip ys)[j].1:=by
    have:=List.getElem?_eq_getElem hj2
    rw [List.getElem?_zip_eq_some] at this
    exact this.1
   have hy:ys[j]?=some (xs.zip ys)[j].2:=by
    have:=List.getElem?_eq_getElem hj2
    rw [List.getElem?_zip_eq_some] at this
    exact this.2
   obtain ⟨v1,q1,q2⟩:=r1.get hx
   obtain ⟨v2,q3,q4⟩:=r2.get hy
   rw [q1] at q3; cases q3
   exact ih q2 q4 e2
  cases rx with
  | non=>cases ry; cases h; rfl
  | bl b=>cases ry; cases h; simp
  | int b=>cases ry; cases h; simp
  | str b=>cases ry; cases h; simp
  | tup h1 r1 =>
   cases ry with
   | tup h2 r2 =>
    have:=I.tuple_inj (au sF h1) (au sF h2)
    subst this
    replace h:Option.map (fun bs:List Bool=>bs.all id && List.length _==List.length _) (List.mapM (fun p:PV×PV=>eqPV d p.1 p.2) (List.zip _ _))=some k:=h
    rw [Option.map_eq_some_iff] at h
    obtain ⟨bs,hb,e⟩:=h
    rw [<- e,lists r1 r2 hb,<- r1.len,<- r2.len]
    simp
   | lst h2 r2=>exact (cJ I (.inl (.inl (sF _ _ h2))) (au sF h1)).elim
   | dic h2 r2=>cases h
   | scr h2=>cases h
  | lst h1 r1 =>
   cases ry with
   | tup h2 r2=>exact (cJ I (.inl (.inl (sF _ _ h1))) (au sF h2)).elim
   | lst h2 r2 =>
    rw [h1] at h2; cases h2
    replace h:(if List.length _=List.length _ then Option.map (fun bs:List Bool=>bs.all id) (List.mapM (fun p:PV×PV=>eqPV d p.1 p.2) (List.zip _ _)) else some false)=some k:=h
    rw [if_pos (by rw [<- r1.len,<- r2.len])] at h
    rw [Option.map_eq_some_iff] at h
    obtain ⟨bs,hb,e⟩:=h
    rw [<- e,lists r1 r2 hb]
   | dic h2 r2=>cases h
   | scr h2=>cases h
  | dic h1 r1=>cases y <;> cases h
  | scr h1=>cases y <;> cases h
theorem eqAt (I:Inv X pins σ H s) (sF:Same F H):∀ {d:Nat} {A:Around} {v u:V} {x y:PV} {a b:Value} {k:Bool},A.units+d<cLine->Rep X.K F v x->Rep X.K F u y->RelV v a->RelV u b->eqPV d x y=some k->SeqAt.RcAt A s a b k/\SeqAt.EqAt A s a b k:=by
 intro d
 induction d with
 | zero=>intro A v u x y a b k _ _ _ _ _ h; cases h
 | succ d ih =>
  intro A v u x y a b k hu rx ry ra rb h
  have hu0:A.units<cLine:=by omega
  cases rx with
  | non =>
   cases ra
   cases ry with
   | non=>cases rb; cases h; exact ⟨SeqAt.RcAt.none_none,SeqAt.EqAt.same _⟩
   | bl b=>cases rb; cases h; exact ⟨SeqAt.RcAt.none_bool b,SeqAt.EqAt.none_bool b⟩
   | int b=>obtain ⟨t,rfl⟩:=rb; cases h; exact ⟨SeqAt.RcAt.none_int b t,SeqAt.EqAt.none_int b t⟩
   | str b=>obtain ⟨t,rfl⟩:=rb; cases h; exact ⟨SeqAt.RcAt.none_str b t,SeqAt.EqAt.none_str b t⟩
   | tup h1 r1 =>
    cases rb; cases h
    obtain ⟨its,_,p,_⟩:=I.tuple (au sF h1)
    exact ⟨SeqAt.RcAt.none_tuple p hu0,SeqAt.EqAt.none_tuple p hu0⟩
   | lst h1 r1 =>
    cases rb; cases h
    obtain ⟨its,_,p,_⟩:=I.list (.inl (.inl (sF _ _ h1)))
    exact ⟨SeqAt.RcAt.none_list p.isList hu0,SeqAt.EqAt.none_list p.isList hu0⟩
   | dic=>cases h
   | scr=>cases h
  | bl a =>
   cases ra
   cases ry with
   | non=>cases rb; cases h; exact ⟨SeqAt.RcAt.bool_none a,SeqAt.EqAt.bool_none a⟩
   | bl b=>cases rb; cases h; exact ⟨SeqAt.RcAt.bool_bool a b,SeqAt.EqAt.bool_bool a b⟩
   | int b=>obtain ⟨t,rfl⟩:=rb; cases h; exact ⟨SeqAt.RcAt.bool_int a b t,SeqAt.EqAt.bool_int a b t⟩
   | str b=>obtain ⟨t,rfl⟩:=rb; cases h; exact ⟨SeqAt.RcAt.bool_str a b t,SeqAt.EqAt.bool_str a b t⟩
   | tup h1 r1 =>
    cases rb; cases h
    obtain ⟨its,_,p,_⟩:=I.tuple (au sF h1)
    exact ⟨SeqAt.RcAt.bool_tuple a p hu0,SeqAt.EqAt.bool_tuple a p hu0⟩
   | lst h1 r1 =>
    cases rb; cases h
    obtain ⟨its,_,p,_⟩:=I.list (.inl (.inl (sF _ _ h1)))
    exact ⟨SeqAt.RcAt.bool_list a p.isList hu0,SeqAt.EqAt.bool_list a p.isList hu0⟩
   | dic=>cases h
   | scr=>cases h
  | int a =>
   obtain ⟨t',rfl⟩:=ra
   cases ry with
   | non=>cases rb; cases h; exact ⟨SeqAt.RcAt.int_none a t',SeqAt.EqAt.int_none a t'⟩
   | bl b=>cases rb; cases h; exact ⟨SeqAt.RcAt.int_bool a t' b,SeqAt.EqAt.int_bool a t' b⟩
   | int b=>obtain ⟨t,rfl⟩:=rb; cases h; exact ⟨SeqAt.RcAt.int_int a t' b t,SeqAt.EqAt.int_int a t' b t⟩
   | str b=>obtain ⟨t,rfl⟩:=rb; cases h; exact ⟨SeqAt.RcAt.int_str a t' b t,SeqAt.EqAt.int_str a t' b t⟩
   | tup h1 r1 =>
    cases rb; cases h
    obtain ⟨its,_,p,_⟩:=I.tuple (au sF h1)
    exact ⟨SeqAt.RcAt.int_tuple a t' p hu0,SeqAt.EqAt.int_tuple a t' p hu0⟩
   | lst h1 r1 =>
    cases rb; cases h
    obtain ⟨its,_,p,_⟩:=I.list (.inl (.inl (sF _ _ h1)))
    exact ⟨SeqAt.RcAt.int_list a t' p.isList hu0,SeqAt.EqAt.int_list a t' p.isList hu0⟩
   | dic=>cases h
   | scr=>cases h
  | str a =>
   obtain ⟨t',rfl⟩:=ra
   cases ry with
   | non=>cases rb; cases h; exact ⟨SeqAt.RcAt.str_none a t',SeqAt.EqAt.str_none a t'⟩
   | bl b=>cases rb; cases h; exact ⟨SeqAt.RcAt.str_bool a t' b,SeqAt.EqAt.str_bool a t' b⟩
   | int b=>obtain ⟨t,rfl⟩:=rb; cases h; exact ⟨SeqAt.RcAt.str_int a t' b t,SeqAt.EqAt.str_int a t' b t⟩
   | str b=>obtain ⟨t,rfl⟩:=rb; cases h; exact ⟨SeqAt.RcAt.str_str a t' b t,SeqAt.EqAt.str_str a t' b t⟩
   | tup h1 r1 =>
    cases rb; cases h
    obtain ⟨its,_,p,_⟩:=I.tuple (au sF h1)
    exact ⟨SeqAt.RcAt.str_tuple a t' p hu0,SeqAt.EqAt.str_tuple a t' p hu0⟩
   | lst h1 r1 =>
    cases rb; cases h
    obtain ⟨its,_,p,_⟩:=I.list (.inl (.inl (sF _ _ h1)))
    exact ⟨SeqAt.RcAt.str_list a t' p.isList hu0,SeqAt.EqAt.str_list a t' p.isList hu0⟩
   | dic=>cases h
   | scr=>cases h
  | @tup pa vs xs h1 r1 =>
   cases ra
   obtain ⟨its,rv,p,_⟩:=I.tuple (au sF h1)
   cases ry with
   | non=>cases rb; cases h; exact ⟨SeqAt.RcAt.tuple_none p hu0,SeqAt.EqAt.tuple_none p hu0⟩
   | bl b=>cases rb; cases h; exact ⟨SeqAt.RcAt.tuple_bool b p hu0,SeqAt.EqAt.tuple_bool b p hu0⟩
   | int b=>obtain ⟨t,rfl⟩:=rb; cases h; exact ⟨SeqAt.RcAt.tuple_int b t p hu0,SeqAt.EqAt.tuple_int b t p hu0⟩
   | str b=>obtain ⟨t,rfl⟩:=rb; cases h; exact ⟨SeqAt.RcAt.tuple_str b t p hu0,SeqAt.EqAt.tuple_str b t p hu0⟩
   | @tup pb ws ys h2 r2 =>
    cases rb
    have h0:=h
    obtain ⟨its2,rw',p2,_⟩:=I.tuple (au sF h2)
    replace h:Option.map (fun bs:List Bool=>bs.all id && xs.length==ys.length) (List.mapM (fun p:PV×PV=>eqPV d p.1 p.2) (xs.zip ys))=some k:=h
    rw [Option.map_eq_some_iff] at h
    obtain ⟨bs,hb,e⟩:=h
    obtain ⟨hbl,hbe⟩:=br hb
    have l1:its.length=xs.length:=by rw [<- rv.length,r1.len]
    have l2:its2.length=ys.length:=by rw [<- rw'.length,r2.len]
    have rc:SeqAt.RcAt A s (.ref pa) (.ref pb) k:=by
     have:=SeqAt.RcAt.tuples (e:=fun j=>bs.getD j false) p p2 hu0 (fun j j1 j2=>by
      simp only [List.size_toArray] at j1 j2
      have jx:j<xs.length:=by omega
      have jy:j<ys.length:=by omega
      have hz:(xs.zip ys)[j]?=some (xs[j],ys[j]):=by rw [List.getElem?_zip_eq_some]; exact ⟨by simp [jx],by simp [jy]⟩
      obtain ⟨b,e1,e2⟩:=hbe j _ hz
      obtain ⟨v1,q1,q2⟩:=r1.get (List.getElem?_eq_getElem jx)
      obtain ⟨v2,q3,q4⟩:=r2.get (List.getElem?_eq_getElem jy)
      obtain ⟨u1,q5,q6⟩:=rv.get q1
      obtain ⟨u2,q7,q8⟩:=rw'.get q3
      have g1:its.toArray[j]=u1:=by simpa [List.getElem?_eq_getElem j1] using q5
      have g2:its2.toArray[j]=u2:=by simpa [List.getElem?_eq_getElem j2] using q7
      rw [g1,g2]
      have hb':bs.getD j false=b:=by simp [List.getD,e1]
      rw [hb']
      exact (ih (A:=A.in1) (by show A.units+1+d<cLine; omega) q2 q4 q6 q8 e2).2)
     have e3:((List.range (min its.toArray.size its2.toArray.size)).all (fun j=>bs.getD j false) && its.toArray.size==its2.toArray.size)=k:=by
      have e4:min its.toArray.size its2.toArray.size=bs.length:=by
       rw [hbl,List.length_zip,List.size_toArray,List.size_toArray,l1,l2]
      rw [e4,dP (fun j hj=>by simp [List.getD,List.getElem?_eq_getElem hj]),List.size_toArray,List.size_toArray,l1,l2]
      exact e
     rw [e3] at this
     exact this
    refine ⟨rc,?_⟩
    by_cases q:pa=pb
    ·subst q
     have:k=true:=kQ I sF (.tup h1 r1) (.tup h2 r2) h0
     subst this
     exact SeqAt.EqAt.same _
    ·exact SeqAt.EqAt.of_refs q rc
   | lst h2 r2 =>
    cases rb; cases h
    obtain ⟨its2,_,p2,_⟩:=I.list (.inl (.inl (sF _ _ h2)))
    exact ⟨SeqAt.RcAt.tuple_list p p2.isList hu0,SeqAt.EqAt.tuple_list p p2.isList hu0⟩
   | dic=>cases h
   | scr=>cases h
  | @lst pa vs xs h1 r1 =>
   cases ra
   obtain ⟨its,rv,p,_⟩:=I.list (.inl (.inl (sF _ _ h1)))
   cases ry with
   | non=>cases rb; cases h; exact ⟨SeqAt.RcAt.list_none p.isList hu0,SeqAt.EqAt.list_none p.isList hu0⟩
   | bl b=>cases rb; cases h; exact ⟨SeqAt.RcAt.list_bool b p.isList hu0,SeqAt.EqAt.list_bool b p.isList hu0⟩
   | int b=>obtain ⟨t,rfl⟩:=rb; cases h; exact ⟨SeqAt.RcAt.list_int b t p.isList hu0,SeqAt.EqAt.list_int b t p.isList hu0⟩
   | str b=>obtain ⟨t,rfl⟩:=rb; cases h; exact ⟨SeqAt.RcAt.list_str b t p.isList hu0,SeqAt.EqAt.list_str b t p.isList hu0⟩
   | tup h2 r2 =>
    cases rb; cases h
    obtain ⟨its2,_,p2,_⟩:=I.tuple (au sF h2)
    exact ⟨SeqAt.RcAt.list_tuple p.isList p2 hu0,SeqAt.EqAt.list_tuple p.isList p2 hu0⟩
   | @lst pb ws ys h2 r2 =>
    cases rb
    have h0:=h
    obtain ⟨its2,rw',p2,_⟩:=I.list (.inl (.inl (sF _ _ h2)))
    have l1:its.length=xs.length:=by rw [<- rv.length,r1.len]
    have l2:its2.length=ys.length:=by rw [<- rw'.length,r2.len]
    have rc:SeqAt.RcAt A s (.ref pa) (.ref pb) k:=by
     replace h:(if xs.length=ys.length then Option.map (fun bs:List Bool=>bs.all id) (List.mapM (fun p:PV×PV=>eqPV d p.1 p.2) (xs.zip ys)) else some false)=some k:=h
     split at h
     ·rename_i hl
      rw [Option.map_eq_some_iff] at h
      obtain ⟨bs,hb,e⟩:=h
      obtain ⟨hbl,hbe⟩:=br hb
      have:=SeqAt.RcAt.lists (e:=fun j=>bs.getD j false) p.isList p2.isList (by rw [List.size_toArray,List.size_toArray]; omega) hu0 (fun j j1 j2=>by
       simp only [List.size_toArray] at j1 j2
       have jx:j<xs.length:=by omega
       have jy:j<ys.length:=by omega
       have hz:(xs.zip ys)[j]?=some (xs[j],ys[j]):=by rw [List.getElem?_zip_eq_some]; exact ⟨by simp [jx],by simp [jy]⟩
       obtain ⟨b,e1,e2⟩:=hbe j _ hz
       obtain ⟨v1,q1,q2⟩:=r1.get (List.getElem?_eq_getElem jx)
       obtain ⟨v2,q3,q4⟩:=r2.get (List.getElem?_eq_getElem jy)
       obtain ⟨u1,q5,q6⟩:=rv.get q1
       obtain ⟨u2,q7,q8⟩:=rw'.get q3
       have g1:its.toArray[j]=u1:=by simpa [List.getElem?_eq_getElem j1] using q5
       have g2:its2.toArray[j]=u2:=by simpa [List.getElem?_eq_getElem j2] using q7
       rw [g1,g2]
       have hb':bs.getD j false=b:=by simp [List.getD,e1]
       rw [hb']
       exact (ih (A:=A.in1) (by show A.units+1+d<cLine; omega) q2 q4 q6 q8 e2).2)
      have e3:((List.range its.toArray.size).all (fun j=>bs.getD j false))=k:=by
       have e4:its.toArray.size=bs.length:=by
        rw [hbl,List.length_zip,List.size_toArray,l1]; omega
       rw [e4,dP (fun j hj=>by simp [List.getD,List.getElem?_eq_getElem hj])]
       exact e
      rw [e3] at this
      exact this
     ·rename_i hl
      cases h
      exact SeqAt.RcAt.lists_lengths p.isList p2.isList (by simp only [List.size_toArray]; simpa [l1,l2] using hl) hu0
    refine ⟨rc,?_⟩
    by_cases q:pa=pb
    ·subst q
     have:k=true:=kQ I sF (.lst h1 r1) (.lst h2 r2) h0
     subst this
     exact SeqAt.EqAt.same _
    ·exact SeqAt.EqAt.of_refs q rc
   | dic=>cases h
   | scr=>cases h
  | dic h1 r1=>cases y <;> cases h
  | scr h1=>cases y <;> cases h
end
section
variable {ob:ObK} {X:Cx} {a b c e:Expr} {f g h:WE} {pos:Pos}
noncomputable def eqqPV (x y:PV):Option PV:=(eqPV 60 x y).map .bl
theorem Vw.frz {M:Md} {F H:Hp} {v:V} {x:PV} (h:Vw M F H v x) (s:Same F H) (hx:∀ xs,x≠.set xs):∃ F',Same F F'/\Same F' H/\Rep M.K F' v x:=by
 rcases h with h | ⟨a,rfl,h⟩
 ·exact ⟨F,aj,s,h⟩
 ·cases x <;> try exact h.elim
  ·rename_i xs
   obtain ⟨vs,h1,h2⟩:=h
   cases e:F a with
   | none =>
    refine ⟨upd F a (.lst vs),az e,fun b o q=>?_,.lst am (h2.mono (az e))⟩
    by_cases z:b=a
    ·subst z; rw [am] at q; cases q; exact h1
    ·rw [aq z] at q; exact s b o q
   | some o =>
    have:=s a o e
    rw [h1] at this; cases this
    exact ⟨F,aj,s,.lst e h2⟩
  ·rename_i xs
   obtain ⟨vs,h1,h2⟩:=h
   cases e:F a with
   | none =>
    refine ⟨upd F a (.dK vs),az e,fun b o q=>?_,.dic am (h2.mono (az e))⟩
    by_cases z:b=a
    ·subst z; rw [am] at q; cases q; exact h1
    ·rw [aq z] at q; exact s b o q
   | some o =>
    have:=s a o e
    rw [h1] at this; cases this
    exact ⟨F,aj,s,.dic e h2⟩
  ·exact absurd rfl (hx _)
noncomputable def rEqQ (K:PySem.W.Frag):R2:=fun v u H Q=>∃ F x y k,Same F H/\Rep K F v x/\Rep K F u y/\eqPV 60 x y=some k/\Q (.bl k) H
theorem aQ (hu:X.A.units+60<cLine):OpR X (compareOp .Eq) (rEqQ X.K):=by
 intro pins s σ H x y v u Q I rx ry h
 obtain ⟨F,p,q,k,sF,r1,r2,e,hq⟩:=h
 exact (eqAt I sF (A:=X.A) hu r1 r2 rx ry e).1 X.prog X.w X.xe _ ⟨.bl k,H,I,rfl,hq⟩
theorem aP:OpQ ob X (rEqQ X.K) eqqPV:=by
 refine bE (P:=fun _ _ _ _=>True) fun F H v u x y z sF rx ry hz=>?_
 unfold eqqPV at hz
 rw [Option.map_eq_some_iff] at hz
 obtain ⟨k,hk,rfl⟩:=hz
 have nx:∀ xs,x≠.set xs:=fun xs e=>by subst e; cases y <;> cases hk
 have ny:∀ xs,y≠.set xs:=fun xs e=>by subst e; cases x <;> cases hk
 obtain ⟨F1,s1,s2,r1⟩:=rx.frz sF nx
 have ry1:Vw (md ob X) F1 H u y:=by
  rcases ry with r | ⟨a,e,r⟩
  ·exact .inl (r.mono s1)
  ·exact .inr ⟨a,e,r.mono s1 rfl⟩
 obtain ⟨F2,s3,s4,r2⟩:=ry1.frz s2 ny
 exact ⟨_,fun _=>.bl _,fun Q q=>⟨F2,x,y,k,s4,r1.mono s3,r2,hk,q⟩⟩
noncomputable def toV:PV->Option V
 | .non=>some .non
 | .bl b=>some (.bl b)
 | .int i=>some (.int i)
 | .str s=>some (.str s)
 | _=>none
theorem ph {M:Md} {F H:Hp} {v w:V} {x:PV} (h:Vw M F H v x) (e:toV x=some w):v=w:=by
 cases x <;> cases e
 ·exact h.non
 ·exact h.bl
 ·exact h.int
 ·exact h.str
noncomputable def nePV:PV->PV->Option PV
 | .lst xs,.lst []=>some (.bl (!xs.isEmpty))
 | x,y=>(toV x).bind fun v=>(toV y).bind fun u=>if scal v u=true then some (.bl (!decide (v=u))) else none
theorem b7:OpQ ob X (fun x y H Q=>rNe x y H Q\/rNeNil X.K x y H Q) nePV:=by
 refine bE (P:=fun _ _ _ _=>True) fun F H v u x y z sF rx ry hz=>?_
 unfold nePV at hz
 split at hz
 ·cases hz
  rename_i xs
  obtain ⟨p,vs,rfl,h1,h2⟩:=rx.lst sF
  obtain ⟨q,ws,rfl,g1,g2⟩:=ry.lst sF
  cases g2
  refine ⟨_,fun _=>.bl _,fun Q hq=>.inr ⟨p,q,vs,rfl,rfl,.inl (.inl h1),.inl (.inl g1),?_⟩⟩
  have:vs.isEmpty=xs.isEmpty:=by have:=h2.len; cases vs <;> cases xs <;> simp at this ⊢
  rw [this]; exact hq
 ·cases e1:toV x with
  | none=>rw [e1] at hz; cases hz
  | some v' =>
   cases e2:toV y with
   | none=>rw [e1,e2] at hz; cases hz
   | some u' =>
    rw [e1,e2] at hz
    have hz:(if scal v' u'=true then some (PV.bl (!decide (v'=u'))) else none)=some z:=hz
    split at hz
    ·rename_i hs
     cases hz
     rw [ph rx e1,ph ry e2]
     exact ⟨_,fun _=>.bl _,fun Q q=>.inl ⟨hs,q⟩⟩
    ·cases hz
theorem cR (hu:X.A.units<cLine):OpR X (compareOp .NotEq) (fun x y H Q=>rNe x y H Q\/rNeNil X.K x y H Q):=OpR.or wH (ir hu)
end
end Q
namespace Q
open PySem L2 PyProof.Rows
section
variable {X:Cx} {pins:List (Addr×Obj)} {σ:L2.St} {H F:Hp} {s:Shared}
theorem Inv.noK (I:Inv X pins σ H s) {a:Addr} {o:Obj} (h:X.K.lookup a=some o):H a=none:=(I.bs a o (I.mod.kin a o h)).2
theorem mJ (I:Inv X pins σ H s) {a:Addr} {kvs:List (Key×V)} {vs:List V} (h1:H a=some (.dK kvs)) (h2:SqT X.K H a vs):False:=by
 obtain ⟨_,_,_,_,o,_,_,e,ex,_⟩:=I.hok a _ h1
 obtain ⟨_,_,⟨o',e',c',_⟩,_⟩:=I.tuple h2
 rw [e] at e'; cases e'; rw [ex.1] at c'; injection c' with c'; exact absurd c' (by decide)
theorem g6:∀ {ns ms:List Int},ns.map V.int=ms.map V.int->ns=ms
 | [],[],_=>rfl
 | n::ns,m::ms,h=>by
  rw [List.map_cons,List.map_cons] at h
  injection h with h1 h2
  injection h1 with h1
  rw [h1,g6 h2]
 | [],_::_,h=>by simp at h
 | _::_,[],h=>by simp at h
theorem Rep.inj (I:Inv X pins σ H s) (sF:Same F H) {v:V} {x y:PV} (h:Rep X.K F v x) (h':Rep X.K F v y):x=y:=by
 refine Rep.rec (K:=X.K) (F:=F) (motive_1:=fun v x _=>∀ y,Rep X.K F v y->x=y) (motive_2:=fun vs xs _=>∀ ys,Reps X.K F vs ys->xs=ys) (motive_3:=fun vs xs _=>∀ ys,RepsK X.K F vs ys->xs=ys)
  ?_ ?_ ?_ ?_ ?_ ?_ ?_ ?_ ?_ ?_ ?_ ?_ h y h'
 ·intro y h; cases h; rfl
 ·intro b y h; cases h; rfl
 ·intro b y h; cases h; rfl
 ·intro b y h; cases h; rfl
 ·intro a vs xs h1 _ ih y h
  cases h with
  | tup h2 r2 =>
   have:=I.tuple_inj (au sF h1) (au sF h2)
   subst this
   rw [ih _ r2]
  | lst h2 r2=>exact (cJ I (.inl (.inl (sF _ _ h2))) (au sF h1)).elim
  | dic h2 r2=>exact (mJ I (sF _ _ h2) (au sF h1)).elim
  | scr h2=>exact (cJ I (bc sF h2.sq) (au sF h1)).elim
 ·intro a vs xs h1 _ ih y h
  cases h with
  | tup h2 r2=>exact (cJ I (.inl (.inl (sF _ _ h1))) (au sF h2)).elim
  | lst h2 r2=>rw [h1] at h2; cases h2; rw [ih _ r2]
  | dic h2 r2=>rw [h1] at h2; cases h2
  | scr h2 =>
   rcases h2 with ⟨o,h2⟩ | ⟨o,_,_,h2,_⟩
   ·rw [h1] at h2; cases h2
   ·have:=sF _ _ h1; rw [Inv.noK I h2] at this; cases this
 ·intro a vs xs h1 _ ih y h
  cases h with
  | tup h2 r2=>exact (mJ I (sF _ _ h1) (au sF h2)).elim
  | lst h2 r2=>rw [h1] at h2; cases h2
  | dic h2 r2=>rw [h1] at h2; cases h2; rw [ih _ r2]
  | scr h2 =>
   rcases h2 with ⟨o,h2⟩ | ⟨o,_,_,h2,_⟩
   ·rw [h1] at h2; cases h2
   ·have:=sF _ _ h1; rw [Inv.noK I h2] at this; cases this
 ·intro a ns h1 y h
  cases h with
  | tup h2 r2=>exact (cJ I (bc sF h1.sq) (au sF h2)).elim
  | lst h2 r2 =>
   rcases h1 with ⟨o,h1⟩ | ⟨o,_,_,h1,_⟩
   ·rw [h1] at h2; cases h2
   ·have:=sF _ _ h2; rw [Inv.noK I h1] at this; cases this
  | dic h2 r2 =>
   rcases h1 with ⟨o,h1⟩ | ⟨o,_,_,h1,_⟩
   ·rw [h1] at h2; cases h2
   ·have:=sF _ _ h2; rw [Inv.noK I h1] at this; cases this
  | scr h2=>rw [g6 (I.list_inj (bc sF h1.sq) (bc sF h2.sq))]
 ·intro ys h; cases h; rfl
 ·intro v x vs xs _ _ ih1 ih2 ys h
  cases h with
  | cons h r=>rw [ih1 _ h,ih2 _ r]
 ·intro ys h; cases h; rfl
 ·intro k v x vs xs _ _ ih1 ih2 ys h
  cases h with
  | cons h r=>rw [ih1 _ h,ih2 _ r]
theorem gK (I:Inv X pins σ H s) (sF:Same F H) {A:Around} {d:Nat} {vs:List V} {us:List Value} {xs:List PV} {v:V} {u:Value} {x:PV} {ks:List Bool} (hu:A.units+d<cLine) (rv:Vals vs us) (r:Reps X.K F vs xs) (rx:Rep X.K F v x) (ru:RelV v u)
  (hk:xs.mapM (fun y=>eqPV d y x)=some ks):∃ e:Value->Bool,(∀ y,y∈us->SeqAt.EqAt A s y u (e y))/\us.any e=ks.any id/\us.countP e=ks.countP id/\(∀ (i:Nat) (w:Value),us[i]?=some w->ks[i]?=some (e w)):=by
 obtain ⟨hl,hb⟩:=br hk
 have l1:=rv.length
 have l2:=r.len
 have key:∀ (i:Nat) (w:Value),us[i]?=some w->∃ b y z,xs[i]?=some y/\vs[i]?=some z/\RelV z w/\Rep X.K F z y/\eqPV d y x=some b/\ks[i]?=some b:=fun i w hw=>by
  obtain ⟨z,e1,e2⟩:=Vals.getV rv hw
  obtain ⟨y,e3,e4⟩:=r.getV e1
  obtain ⟨b,e5,e6⟩:=hb i y e3
  exact ⟨b,y,z,e3,e1,e2,e4,e6,e5⟩
 let e:Value->Bool:=fun w=>(us.zip ks).any fun p=>p.1==w && p.2
 have four:∀ (i:Nat) (w:Value),us[i]?=some w->ks[i]?=some (e w):=by
  intro i w hw
  obtain ⟨b,y,z,e1,e2,e3,e4,e5,e6⟩:=key i w hw
  rw [e6]
  congr 1
  rw [Bool.eq_iff_iff,List.any_eq_true]
  constructor
  ·intro hb'
   refine ⟨(w,b),List.mem_of_getElem? (i:=i) (by rw [List.getElem?_zip_eq_some]; exact ⟨hw,e6⟩),by simp [hb']⟩
  ·rintro ⟨⟨w',b'⟩,hm,hp⟩
   simp only [Bool.and_eq_true] at hp
   obtain ⟨j,hj,ej⟩:=List.mem_iff_getElem.mp hm
   have hz:=List.getElem?_eq_getElem hj
   rw [ej,List.getElem?_zip_eq_some] at hz
   obtain ⟨hz1,hz2⟩:=hz
   have hww:w'=w:=eq_of_beq hp.1
   dsimp only at hz1 hz2
   rw [hww] at hz1
   obtain ⟨b2,y2,z2,f1,f2,f3,f4,f5,f6⟩:=key j w hz1
   have:z=z2:=e3.inj f3
   subst this
   have:=Rep.inj I sF e4 f4
   subst this
   rw [e5] at f5; cases f5
   rw [hz2] at f6; cases f6
   exact hp.2
 have hmap:ks=us.map e:=by
  refine List.ext_getElem? fun i=>?_
  rw [List.getElem?_map]
  cases q:us[i]? with
  | none =>
   have:us.length<=i:=List.getElem?_eq_none_iff.mp q
   rw [List.getElem?_eq_none (by omega)]; rfl
  | some w=>rw [four i w q]; rfl
 refine ⟨e,fun y hy=>?_,?_,?_,four⟩
 ·obtain ⟨i,hi,rfl⟩:=List.mem_iff_getElem.mp hy
  have hw:=List.getElem?_eq_getElem hi
  obtain ⟨b,y,z,e1,e2,e3,e4,e5,e6⟩:=key i _ hw
  have:=four i _ hw
  rw [e6] at this
  rw [<- Option.some.inj this]
  exact (eqAt I sF (A:=A) hu e4 rx e3 ru e5).2
 ·rw [hmap,List.any_map]; rfl
 ·rw [hmap,List.countP_map]; rfl
end
section
variable {ob:ObK} {X:Cx} {a b c e:Expr} {f g h:WE} {pos:Pos}
noncomputable def inB (x:PV):PV->Option Bool
 | .tup ys=>(ys.mapM fun y=>eqPV 60 y x).map fun ks=>ks.any id
 | .lst ys=>(ys.mapM fun y=>eqPV 60 y x).map fun ks=>ks.any id
 | .dic kvs=>(keyP x).map fun k=>(valP kvs k).isSome
 | .str s=>match x with
  | .str t=>some (!(Builtin.Str.occurrences s t 0 s.length 1).isEmpty)
  | _=>none
 | .set S=>match x with
  | .str t=>some (decide (t∈S))
  | _=>none
 | _=>none
noncomputable def noSet:PV->Bool
 | .set _=>false
 | _=>true
theorem mh {x:PV} (h:noSet x=true):∀ xs,x≠.set xs:=fun xs e=>by subst e; cases h
noncomputable def inPV (x y:PV):Option PV:=if noSet x=true then (inB x y).map .bl else none
noncomputable def ninPV (x y:PV):Option PV:=if noSet x=true then (inB x y).map fun b=>.bl (!b) else none
noncomputable def rInQ (P:Program) (w:World) (K:PySem.W.Frag) (neg:Bool):R2:=fun v u H Q=>∃ (F:Hp) (x:PV) (b:Bool),Same F H/\Q (.bl (if neg then !b else b)) H /\
 ((∃ p vs ys ks,u=.ref p/\(SqL K H p vs\/SqT K H p vs)/\Reps K F vs ys/\Rep K F v x/\ys.mapM (fun y=>eqPV 60 y x)=some ks/\b=ks.any id) \/
  (∃ p o,u=.ref p/\DGet H p v o/\b=o.isSome)\/(∃ i j,v=.str i/\u=.str j/\b=!(Builtin.Str.occurrences j i 0 j.length 1).isEmpty) \/
  (∃ z a S n,v=.str z/\u=.ref a/\H a=some (setS P w a S n)/\b=S z))
theorem jf (hu:X.A.units+62<cLine):OpR X (compareOp .In) (rInQ X.prog X.w X.K false):=by
 intro pins s σ H v u v' u' Q I rv ru h
 obtain ⟨F,x,b,sF,q,h⟩:=h
 have q:Q (.bl b) H:=q
 rcases h with ⟨p,vs,ys,ks,rfl,hs,hr,hx,hk,rfl⟩ | ⟨p,o,rfl,hd,rfl⟩ | ⟨i,j,rfl,rfl,rfl⟩ | ⟨z,a,S,n,rfl,rfl,ha,rfl⟩
 ·cases ru
  rcases hs with hs | hs
  ·obtain ⟨its,r,pl,_⟩:=I.list hs
   obtain ⟨e,e1,e2,_⟩:=gK I sF (A:=X.A.in1) (d:=60) (by show X.A.units+1+60<cLine; omega) r hr hx rv hk
   refine SeqAt.in_listAt e pl.isList (fun y hy=>e1 y (by simpa using hy)) ⟨.bl _,H,I,rfl,?_⟩
   rw [show its.toArray.any e=its.any e by simp,e2]; exact q
  ·obtain ⟨its,r,pl,_⟩:=I.tuple hs
   obtain ⟨e,e1,e2,_⟩:=gK I sF (A:=X.A.in1) (d:=60) (by show X.A.units+1+60<cLine; omega) r hr hx rv hk
   refine SeqAt.in_tupleAt e pl (fun y hy=>e1 y (by simpa using hy)) ⟨.bl _,H,I,rfl,?_⟩
   rw [show its.toArray.any e=its.any e by simp,e2]; exact q
 ·cases ru
  exact wT (by omega) I hd rv fun s3 I3=>⟨.bl _,H,I3,rfl,q⟩
 ·exact qd pins s σ H _ _ _ _ Q I rv ru ⟨i,j,rfl,rfl,q⟩
 ·cases ru
  obtain ⟨t,rfl⟩:=rv
  obtain ⟨x,_,_⟩:=I.hok a _ ha
  exact wpAny_inSet_of (knd:=PySem.strKind X.prog X.w) (strKind_is _ _ _ _) rfl x ⟨.bl (S z),H,I.tok _,rfl,q⟩
theorem dn (hu:X.A.units+62<cLine):OpR X (compareOp .NotIn) (rInQ X.prog X.w X.K true):=by
 intro pins s σ H v u v' u' Q I rv ru h
 obtain ⟨F,x,b,sF,q,h⟩:=h
 have q:Q (.bl (!b)) H:=q
 rcases h with ⟨p,vs,ys,ks,rfl,hs,hr,hx,hk,rfl⟩ | ⟨p,o,rfl,hd,rfl⟩ | ⟨i,j,rfl,rfl,rfl⟩ | ⟨z,a,S,n,rfl,rfl,ha,rfl⟩
 ·cases ru
  rcases hs with hs | hs
  ·obtain ⟨its,r,pl,_⟩:=I.list hs
   obtain ⟨e,e1,e2,_⟩:=gK I sF (A:=X.A.in1) (d:=60) (by show X.A.units+1+60<cLine; omega) r hr hx rv hk
   refine SeqAt.notIn_listAt e pl.isList (fun y hy=>e1 y (by simpa using hy)) ⟨.bl _,H,I,rfl,?_⟩
   rw [show its.toArray.any e=its.any e by simp,e2]; exact q
  ·obtain ⟨its,r,pl,_⟩:=I.tuple hs
   obtain ⟨e,e1,e2,_⟩:=gK I sF (A:=X.A.in1) (d:=60) (by show X.A.units+1+60<cLine; omega) r hr hx rv hk
   refine SeqAt.notIn_tupleAt e pl (fun y hy=>e1 y (by simpa using hy)) ⟨.bl _,H,I,rfl,?_⟩
   rw [show its.toArray.any e=its.any e by simp,e2]; exact q
 ·cases ru
  exact uJ (by omega) I hd rv fun s3 I3=>⟨.bl _,H,I3,rfl,q⟩
 ·exact me pins s σ H _ _ _ _ Q I rv ru ⟨i,j,rfl,rfl,q⟩
 ·exact pY pins s σ H _ _ _ _ Q I rv ru ⟨z,a,S,n,rfl,rfl,ha,q⟩
theorem qw {F H:Hp} {v u:V} {x y:PV} {b neg:Bool} (sF:Same F H) (nx:∀ xs,x≠.set xs) (rx:Vw (md ob X) F H v x) (ry:Vw (md ob X) F H u y) (hz:inB x y=some b) (Q:VK) (q:Q (.bl (if neg then !b else b)) H):rInQ X.prog X.w X.K neg v u H Q:=by
 unfold inB at hz
 have seq:∀ {p:Addr} {vs:List V} {ys:List PV},u=.ref p->(SqL X.K H p vs\/SqT X.K H p vs)->Reps X.K F vs ys->((ys.mapM fun y=>eqPV 60 y x).map fun ks=>ks.any id)=some b->rInQ X.prog X.w X.K neg v u H Q:=fun {p vs ys} hp hs hr hz=>by
  rw [Option.map_eq_some_iff] at hz
  obtain ⟨ks,hk,e⟩:=hz
  obtain ⟨F1,s1,s2,r1⟩:=rx.frz sF nx
  exact ⟨F1,x,b,s2,q,.inl ⟨p,vs,ys,ks,hp,hs,hr.mono s1,r1,hk,e.symm⟩⟩
 split at hz
 ·obtain ⟨p,vs,e,h1,h2⟩:=ry.tup sF
  exact seq e (.inr h1) h2 hz
 ·obtain ⟨p,vs,e,h1,h2⟩:=ry.lst sF
  exact seq e (.inl (.inl (.inl h1))) h2 hz
 ·obtain ⟨p,vs,e,h1,h2⟩:=ry.dic sF
  rw [Option.map_eq_some_iff] at hz
  obtain ⟨k,hk,rfl⟩:=hz
  have hv:=vwKey rx hk
  subst hv
  refine ⟨F,.non,_,sF,q,.inr (.inl ⟨p,valV vs k,e,DGet.k h1,?_⟩)⟩
  rcases h2.val (k:=k) with ⟨e1,e2⟩ | ⟨w,w',e1,e2,_⟩
  ·rw [e1,e2]; rfl
  ·rw [e1,e2]; rfl
 ·split at hz
  ·cases hz
   exact ⟨F,.non,_,sF,q,.inr (.inr (.inl ⟨_,_,rx.str,ry.str,rfl⟩))⟩
  ·cases hz
 ·split at hz
  ·cases hz
   rcases ry with r | ⟨p,rfl,r⟩
   ·cases r
   ·exact ⟨F,.non,_,sF,q,.inr (.inr (.inr ⟨_,p,_,_,rx.str,rfl,r,rfl⟩))⟩
  ·cases hz
 ·cases hz
theorem jd:OpQ ob X (rInQ X.prog X.w X.K false) inPV:=by
 refine bE (P:=fun _ _ _ _=>True) fun F H v u x y z sF rx ry hz=>?_
 unfold inPV at hz
 split at hz
 case isFalse=>cases hz
 rename_i nx
 rw [Option.map_eq_some_iff] at hz
 obtain ⟨b,hb,rfl⟩:=hz
 exact ⟨_,fun _=>.bl _,fun Q q=>qw sF (mh nx) rx ry hb Q q⟩
theorem dm:OpQ ob X (rInQ X.prog X.w X.K true) ninPV:=by
 refine bE (P:=fun _ _ _ _=>True) fun F H v u x y z sF rx ry hz=>?_
 unfold ninPV at hz
 split at hz
 case isFalse=>cases hz
 rename_i nx
 rw [Option.map_eq_some_iff] at hz
 obtain ⟨b,hb,rfl⟩:=hz
 exact ⟨_,fun _=>.bl _,fun Q q=>qw sF (mh nx) rx ry hb Q q⟩
end
end Q
namespace Q
open PySem L2 PyProof.Rows
inductive Vws (M:Md) (F H:Hp):List V->List PV->Prop where
 | nil:Vws M F H [] []
 | cons {v:V} {x:PV} {vs:List V} {xs:List PV}:Vw M F H v x->Vws M F H vs xs->Vws M F H (v::vs) (x::xs)
theorem Reps.vws {M:Md} {F H:Hp} {vs:List V} {xs:List PV} (h:Reps M.K F vs xs):Vws M F H vs xs:=by
 induction h using Reps.ind with
 | nil=>exact .nil
 | cons a _ ih=>exact .cons (.inl a) ih
theorem Vws.one {M:Md} {F H:Hp} {vs:List V} {x:PV} (h:Vws M F H vs [x]):∃ v,vs=[v]/\Vw M F H v x:=by
 cases h with
 | cons a r=>cases r; exact ⟨_,rfl,a⟩
theorem Vws.two {M:Md} {F H:Hp} {vs:List V} {x y:PV} (h:Vws M F H vs [x,y]):∃ v u,vs=[v,u]/\Vw M F H v x/\Vw M F H u y:=by
 cases h with
 | cons a r =>
  cases r with
  | cons b r=>cases r; exact ⟨_,_,rfl,a,b⟩
structure EvAW (ob:ObK) (X:Cx) (es:List Expr) (f:WA):Prop where
 ex:∃ t:TA,PA X es t/\∀ (Z:Zn) (F:Hp) (σ:L2.St) (H:Hp) (env:En) (P:List PV->En->Prop) (Q:List V->Hp->Prop),Sok (md ob X) Z F σ H env->f env P ->
  (∀ xs env' vs F' H',P xs env'->Same F F'->Sok (md ob X) Z F' σ H' env'->Vws (md ob X) F' H' vs xs->Q vs H')->t σ H Q
noncomputable def a1 (a:WE):WA:=fun env P=>a env fun x e=>P [x] e
noncomputable def eCB (o:List PV->Option PV) (fa:WA):WE:=fun env P=>fa env fun xs e=>opt (o xs) fun z=>P z e
section
variable {ob:ObK} {X:Cx} {a b c e:Expr} {es:List Expr} {f g h:WE} {fa:WA} {pos p:Pos} {x:Str} {idn T:String} {r:List V->Hp->VK->Prop} {o:List PV->Option PV}
theorem EvA.w (h:EvA ob X es fa):EvAW ob X es fa:=by
 obtain ⟨t,ht,k⟩:=h.ex
 exact ⟨t,ht,fun Z F σ H env P Q K hf kk=>k Z F σ H env P Q K hf fun xs e1 vs F1 H1 p _ s1 K1 r1=>kk xs e1 vs F1 H1 p s1 K1 r1.vws⟩
theorem bx (h:EvW ob X e f) (hs:autoParam (starEach [e] X.env=(false,eval e X.env)::starEach [] X.env) Z2._auto_1):EvAW ob X [e] (a1 f):=by
 obtain ⟨t,ht,k⟩:=h.ex
 exact ⟨_,bn ht bI hs,fun Z F σ H env P Q K hf kk=>k Z F σ H env _ _ K hf fun x e1 v F1 H1 p s1 K1 r1=>kk [x] e1 [v] F1 H1 p s1 K1 (.cons r1 .nil)⟩
noncomputable def CallQ (ob:ObK) (X:Cx) (r:List V->Hp->VK->Prop) (o:List PV->Option PV):Prop :=
 ∀ (Z:Zn) (F:Hp) (σ:L2.St) (H:Hp) (env:En) (vs:List V) (xs:List PV) (z:PV) (Q:VK),Sok (md ob X) Z F σ H env->Vws (md ob X) F H vs xs->o xs=some z ->
  (∀ v' F' H',Same F F'->Sok (md ob X) Z F' σ H' env->Rep X.K F' v' z->Q v' H')->r vs H Q
noncomputable def CallQF (ob:ObK) (X:Cx) (r:List V->Hp->VK->Prop) (o:List PV->Option PV):Prop :=
 ∀ (Z:Zn) (F:Hp) (σ:L2.St) (H:Hp) (env:En) (vs:List V) (xs:List PV) (z:PV) (Q:VK),Sok (md ob X) Z F σ H env->Vws (md ob X) F H vs xs->o xs=some z ->
  (∀ v' H',(∀ xs,z≠.set xs)->Sok (md ob X) Z F (σ++[some v']) H' (env++[some ⟨1,z⟩])->Q v' H')->r vs H Q
theorem pF {t:TA} (hq:CallQ ob X r o) (k:∀ (Z:Zn) (F:Hp) (σ:L2.St) (H:Hp) (env:En) (P:List PV->En->Prop) (Q:List V->Hp->Prop),Sok (md ob X) Z F σ H env->fa env P->(∀ xs env' vs F' H',P xs env'->Same F F'->Sok (md ob X) Z F' σ H' env'->Vws (md ob X) F' H' vs xs->Q vs H')->t σ H Q) :
  ∀ (Z:Zn) (F:Hp) (σ:L2.St) (H:Hp) (env:En) (P:PV->En->Prop) (Q:VK),Sok (md ob X) Z F σ H env->eCB o fa env P->(∀ x env' v F' H',P x env'->Same F F'->Sok (md ob X) Z F' σ H' env'->Rep X.K F' v x->Q v H')->tCB r t σ H Q:=by
 intro Z F σ H env P Q K hf kk
 refine k Z F σ H env _ _ K hf fun xs e1 vs F1 H1 p s1 K1 r1=>?_
 obtain ⟨z,hz,p⟩:=p
 exact hq Z F1 σ H1 e1 vs xs z Q K1 r1 hz fun v' F' H' s2 K2 r2=>kk z e1 v' F' H' p (ag s1 s2) K2 r2
theorem tK {t:TA} (hq:CallQF ob X r o) (k:∀ (Z:Zn) (F:Hp) (σ:L2.St) (H:Hp) (env:En) (P:List PV->En->Prop) (Q:List V->Hp->Prop),Sok (md ob X) Z F σ H env->fa env P->(∀ xs env' vs F' H',P xs env'->Same F F'->Sok (md ob X) Z F' σ H' env'->Vws (md ob X) F' H' vs xs->Q vs H')->t σ H Q) :
  ∀ (Z:Zn) (F:Hp) (σ:L2.St) (H:Hp) (env:En) (P:PV->En->Prop) (Q:VK),Sok (md ob X) Z F σ H env->eCB o fa env P->(∀ x env' v F' H',P x env'->Same F F'->(∀ xs,x≠.set xs)->Sok (md ob X) Z F' (σ++[some v]) H' (env'++[some ⟨1,x⟩])->Q v H')->tCB r t σ H Q:=by
 intro Z F σ H env P Q K hf kk
 refine k Z F σ H env _ _ K hf fun xs e1 vs F1 H1 p s1 K1 r1=>?_
 obtain ⟨z,hz,p⟩:=p
 exact hq Z F1 σ H1 e1 vs xs z Q K1 r1 hz fun v' H' hx K2=>kk z e1 v' F1 H' p s1 hx K2
theorem aV (hc:CallR X (.builtin idn) r) (hq:CallQ ob X r o) (hg:Gl X x) (hm:X.mg x=none) (hv:bootBuiltins x=some (.builtin idn)) (ha:EvAW ob X (e::es) fa) (hn:autoParam (x ≠ "__name__") Z1._auto_1) (hdb:autoParam ((x==("__debug__" : Str))=false) Z1._auto_1)
  (he:autoParam (starEach (e::es) X.env=(false,eval e X.env)::starEach es X.env) Z2._auto_1) (hpl:autoParam ((backTo pos (starEach es X.env)).any (·.1)=false) Z2._auto_1):EvS ob X (.Call (.Name x p) (e::es) [] pos) (eCB o fa):=by
 obtain ⟨t,ht,k⟩:=ha.ex
 exact ⟨_,bu hc hg hm hv ht hn hdb he hpl,pF hq k⟩
theorem dk (hc:CallR X (.type T) r) (hq:CallQ ob X r o) (hg:Gl X x) (hm:X.mg x=none) (hv:bootBuiltins x=some (.type T)) (ha:EvAW ob X (e::es) fa) (hn:autoParam (x ≠ "__name__") Z1._auto_1) (hdb:autoParam ((x==("__debug__" : Str))=false) Z1._auto_1)
  (he:autoParam (starEach (e::es) X.env=(false,eval e X.env)::starEach es X.env) Z2._auto_1) (hpl:autoParam ((backTo pos (starEach es X.env)).any (·.1)=false) Z2._auto_1):EvS ob X (.Call (.Name x p) (e::es) [] pos) (eCB o fa):=by
 obtain ⟨t,ht,k⟩:=ha.ex
 exact ⟨_,gb hc hg hm hv ht hn hdb he hpl,pF hq k⟩
theorem mG (hc:CallR X (.type T) r) (hq:CallQF ob X r o) (hg:Gl X x) (hm:X.mg x=none) (hv:bootBuiltins x=some (.type T)) (ha:EvAW ob X (e::es) fa) (hn:autoParam (x ≠ "__name__") Z1._auto_1) (hdb:autoParam ((x==("__debug__" : Str))=false) Z1._auto_1)
  (he:autoParam (starEach (e::es) X.env=(false,eval e X.env)::starEach es X.env) Z2._auto_1) (hpl:autoParam ((backTo pos (starEach es X.env)).any (·.1)=false) Z2._auto_1):EvF ob X (.Call (.Name x p) (e::es) [] pos) (eCB o fa):=by
 obtain ⟨t,ht,k⟩:=ha.ex
 exact ⟨_,gb hc hg hm hv ht hn hdb he hpl,tK hq k⟩
theorem Vw.scr {M:Md} {F H:Hp} {v:V} {ns:List Int} (h:Vw M F H v (.scr ns)) (s:Same F H):∃ a,v=.ref a/\SqL M.K H a (ns.map V.int):=by
 rcases h with h | ⟨a,rfl,h⟩
 ·cases h with
  | scr h=>exact ⟨_,rfl,bc s h.sq⟩
 ·exact h.elim
noncomputable def lenPV:List PV->Option PV
 | [.lst xs]=>some (.int xs.length)
 | [.tup xs]=>some (.int xs.length)
 | [.dic xs]=>some (.int xs.length)
 | [.str s]=>if s.length<=100000 then some (.int s.length) else none
 | [.scr ns]=>some (.int ns.length)
 | _=>none
noncomputable def rLen (K:PySem.W.Frag):List V->Hp->VK->Prop:=fun xs H Q=>(∃ p ys,xs=[.ref p]/\(SqL K H p ys\/SqT K H p ys)/\Q (.int ys.length) H)\/((∃ z,xs=[.str z]/\z.length<=sizeLine/\Q (.int z.length) H)\/∃ a kvs,xs=[V.ref a]/\H a=some (.dK kvs)/\Q (.int kvs.length) H)
theorem be:CallR X (.builtin "len") (rLen X.K):=CallR.or gv (CallR.or mQ qV)
theorem bf:CallQ ob X (rLen X.K) lenPV:=by
 intro Z F σ H env vs xs z Q K rv hz k
 unfold lenPV at hz
 split at hz
 ·cases hz
  obtain ⟨v,rfl,r⟩:=rv.one
  obtain ⟨p,vs,rfl,h1,h2⟩:=r.lst K.sF
  exact .inl ⟨p,vs,rfl,.inl (.inl (.inl h1)),k _ F H aj K (by rw [h2.len]; exact .int _)⟩
 ·cases hz
  obtain ⟨v,rfl,r⟩:=rv.one
  obtain ⟨p,vs,rfl,h1,h2⟩:=r.tup K.sF
  exact .inl ⟨p,vs,rfl,.inr h1,k _ F H aj K (by rw [h2.len]; exact .int _)⟩
 ·cases hz
  obtain ⟨v,rfl,r⟩:=rv.one
  obtain ⟨p,vs,rfl,h1,h2⟩:=r.dic K.sF
  exact .inr (.inr ⟨p,vs,rfl,h1,k _ F H aj K (by rw [h2.len]; exact .int _)⟩)
 ·split at hz
  ·cases hz
   obtain ⟨v,rfl,r⟩:=rv.one
   rw [r.str]
   exact .inr (.inl ⟨_,rfl,by rw [sizeLine_eq]; omega,k _ F H aj K (.int _)⟩)
  ·cases hz
 ·cases hz
  obtain ⟨v,rfl,r⟩:=rv.one
  obtain ⟨p,rfl,h1⟩:=r.scr K.sF
  exact .inl ⟨p,_,rfl,.inl h1,k _ F H aj K (by rw [List.length_map]; exact .int _)⟩
 ·cases hz
noncomputable def bH:List PV->Option PV
 | [.lst xs]=>some (.tup xs)
 | [.tup xs]=>some (.tup xs)
 | _=>none
noncomputable def rTuple (K:PySem.W.Frag):List V->Hp->VK->Prop:=fun xs H Q=>∃ p ys,xs=[.ref p]/\((SqL K H p ys/\∀ l,H l=none->Q (.ref l) (upd H l (.tup ys)))\/(SqT K H p ys/\Q (.ref p) H))
theorem bO:CallR X (.type "tuple") (rTuple X.K):=lw
theorem bP:CallQ ob X (rTuple X.K) bH:=by
 intro Z F σ H env vs xs z Q K rv hz k
 unfold bH at hz
 split at hz
 ·cases hz
  obtain ⟨v,rfl,r⟩:=rv.one
  obtain ⟨p,vs,rfl,h1,h2⟩:=r.lst K.sF
  refine ⟨p,vs,rfl,.inl ⟨.inl (.inl h1),fun l hl=>?_⟩⟩
  have hF:F l=none:=Same.none_of K.sF hl
  exact k _ _ _ (az hF) (K.lay hl) (.tup (.inl (.inl am)) (h2.mono (az hF)))
 ·cases hz
  obtain ⟨v,rfl,r⟩:=rv.one
  have r':=r.tupR
  obtain ⟨p,vs,rfl,h1,h2⟩:=r.tup K.sF
  exact ⟨p,vs,rfl,.inr ⟨h1,k _ F H aj K r'⟩⟩
 ·cases hz
noncomputable def listPV:List PV->Option PV
 | [.lst xs]=>some (.lst xs)
 | [.tup xs]=>some (.lst xs)
 | [.scr ns]=>some (.lst (ns.map .int))
 | _=>none
noncomputable def rList (K:PySem.W.Frag):List V->Hp->VK->Prop:=fun xs H Q=>∃ p ys,xs=[.ref p]/\(SqL K H p ys\/SqT K H p ys)/\∀ l,H l=none->Q (.ref l) (upd H l (.lst ys))
theorem uL:CallR X (.type "list") (rList X.K):=mP
theorem ee {K:PySem.W.Frag} {F:Hp}:∀ (ns:List Int),Reps K F (ns.map V.int) (ns.map PV.int)
 | []=>.nil
 | n::ns=>.cons (.int n) (ee ns)
theorem uM:CallQF ob X (rList X.K) listPV:=by
 intro Z F σ H env vs xs z Q K rv hz k
 unfold listPV at hz
 split at hz
 ·cases hz
  obtain ⟨v,rfl,r⟩:=rv.one
  obtain ⟨p,vs,rfl,h1,h2⟩:=r.lst K.sF
  exact ⟨p,vs,rfl,.inl (.inl (.inl h1)),fun l hl=>k _ _ (fun _=>by simp) (K.own hl ⟨vs,am,h2⟩)⟩
 ·cases hz
  obtain ⟨v,rfl,r⟩:=rv.one
  obtain ⟨p,vs,rfl,h1,h2⟩:=r.tup K.sF
  exact ⟨p,vs,rfl,.inr h1,fun l hl=>k _ _ (fun _=>by simp) (K.own hl ⟨vs,am,h2⟩)⟩
 ·cases hz
  obtain ⟨v,rfl,r⟩:=rv.one
  obtain ⟨p,rfl,h1⟩:=r.scr K.sF
  exact ⟨p,_,rfl,.inl h1,fun l hl=>k _ _ (fun _=>by simp) (K.own hl ⟨_,am,ee _⟩)⟩
 ·cases hz
noncomputable def minPV:List PV->Option PV
 | [.int i,.int j]=>some (.int (if j<i then j else i))
 | [.str s,.str t]=>some (.str (minS s t))
 | _=>none
noncomputable def maxPV:List PV->Option PV
 | [.int i,.int j]=>some (.int (if j > i then j else i))
 | [.str s,.str t]=>some (.str (maxS s t))
 | _=>none
theorem wt (hc:X.calm=true):CallR X (.builtin "min") (fun xs H Q=>(∃ i j,xs=[.int i,.int j]/\Q (.int (if j<i then j else i)) H)\/∃ x y,xs=[.str x,.str y]/\Q (.str (minS x y)) H):=CallR.or (qT hc) (oW hc)
theorem qQ (hc:X.calm=true):CallR X (.builtin "max") (fun xs H Q=>(∃ i j,xs=[.int i,.int j]/\Q (.int (if j > i then j else i)) H)\/∃ x y,xs=[.str x,.str y]/\Q (.str (maxS x y)) H):=CallR.or (qU hc) (oX hc)
theorem wy:CallQ ob X (fun xs H Q=>(∃ i j,xs=[.int i,.int j]/\Q (.int (if j<i then j else i)) H)\/∃ x y,xs=[.str x,.str y]/\Q (.str (minS x y)) H) minPV:=by
 intro Z F σ H env vs xs z Q K rv hz k
 unfold minPV at hz
 split at hz
 ·cases hz
  obtain ⟨v,u,rfl,r1,r2⟩:=rv.two
  rw [r1.int,r2.int]
  exact .inl ⟨_,_,rfl,k _ F H aj K (.int _)⟩
 ·cases hz
  obtain ⟨v,u,rfl,r1,r2⟩:=rv.two
  rw [r1.str,r2.str]
  exact .inr ⟨_,_,rfl,k _ F H aj K (.str _)⟩
 ·cases hz
theorem qR:CallQ ob X (fun xs H Q=>(∃ i j,xs=[.int i,.int j]/\Q (.int (if j > i then j else i)) H)\/∃ x y,xs=[.str x,.str y]/\Q (.str (maxS x y)) H) maxPV:=by
 intro Z F σ H env vs xs z Q K rv hz k
 unfold maxPV at hz
 split at hz
 ·cases hz
  obtain ⟨v,u,rfl,r1,r2⟩:=rv.two
  rw [r1.int,r2.int]
  exact .inl ⟨_,_,rfl,k _ F H aj K (.int _)⟩
 ·cases hz
  obtain ⟨v,u,rfl,r1,r2⟩:=rv.two
  rw [r1.str,r2.str]
  exact .inr ⟨_,_,rfl,k _ F H aj K (.str _)⟩
 ·cases hz
noncomputable def intPV:PV->Option Int
 | .int i=>some i
 | _=>none
noncomputable def strPV:PV->Option Str
 | .str i=>some i
 | _=>none
theorem dv {α:Type} {K:PySem.W.Frag} {F:Hp} {g:PV->Option α} {w:α->V} (hg:∀ x a,g x=some a->∀ v,Rep K F v x->v=w a):∀ {xs:List PV} {as:List α} {vs:List V},xs.mapM g=some as->Reps K F vs xs->vs=as.map w
 | [],as,vs,h,r=>by simp at h; subst h; cases r; rfl
 | x::xs,as,vs,h,r=>by
  rw [List.mapM_cons] at h
  cases ea:g x with
  | none=>rw [ea] at h; cases h
  | some a =>
   rw [ea] at h
   cases el:xs.mapM g with
   | none=>rw [el] at h; cases h
   | some bs =>
    rw [el] at h
    have h:some (a::bs)=some as:=h
    cases h
    cases r with
    | cons r1 r2=>rw [List.map_cons,hg x a ea _ r1,dv hg el r2]
noncomputable def allPV:List PV->Option PV
 | [.lst xs]=>(xs.mapM blPV).map fun bs=>.bl (bs.all id)
 | _=>none
theorem wA {K:PySem.W.Frag} {F:Hp} (x:PV) (a:Bool) (h:blPV x=some a) (v:V) (r:Rep K F v x):v=.bl a:=by cases x <;> cases h; cases r; rfl
theorem jw {K:PySem.W.Frag} {F:Hp} (x:PV) (a:Str) (h:strPV x=some a) (v:V) (r:Rep K F v x):v=.str a:=by cases x <;> cases h; cases r; rfl
theorem gu:CallQ ob X (fun xs H Q=>∃ (p:Addr) (bs:List Bool),xs=[.ref p]/\SqL X.K H p (bs.map V.bl)/\Q (.bl (bs.all id)) H) allPV:=by
 intro Z F σ H env vs xs z Q K rv hz k
 unfold allPV at hz
 split at hz
 ·rw [Option.map_eq_some_iff] at hz
  obtain ⟨ns,hn,rfl⟩:=hz
  obtain ⟨v,rfl,r⟩:=rv.one
  obtain ⟨p,vs,rfl,h1,h2⟩:=r.lst K.sF
  have:=dv wA hn h2
  subst this
  exact ⟨p,ns,rfl,.inl (.inl h1),k _ F H aj K (.bl _)⟩
 ·cases hz
noncomputable abbrev WO:=En->(Option Int->En->Prop)->Prop
structure EvO (ob:ObK) (X:Cx) (e:Option Expr) (f:WO):Prop where
 ex:∃ t:TO,PO X e t/\∀ (Z:Zn) (F:Hp) (σ:L2.St) (H:Hp) (env:En) (P:Option Int->En->Prop) (Q:Option Int->Hp->Prop),Sok (md ob X) Z F σ H env->f env P ->
  (∀ i env' F' H',P i env'->Same F F'->Sok (md ob X) Z F' σ H' env'->Q i H')->t σ H Q
noncomputable def oNone:WO:=fun env P=>P none env
noncomputable def oSome (a:WE):WO:=fun env P=>a env fun x e=>opt (intPV x) fun i=>P (some i) e
theorem bR:EvO ob X none oNone:=⟨_,jK,fun Z F σ H env P Q K hf k=>k none env F H hf aj K⟩
theorem bA (h:EvW ob X e f):EvO ob X (some e) (oSome f):=by
 obtain ⟨t,ht,k⟩:=h.ex
 refine ⟨_,jJ ht,fun Z F σ H env P Q K hf kk=>k Z F σ H env _ _ K hf fun x e1 v F1 H1 p s1 K1 r1=>?_⟩
 obtain ⟨z,hz,p⟩:=p
 cases x <;> cases hz
 rw [r1.int]
 exact ⟨_,rfl,kk _ e1 F1 H1 p s1 K1⟩
noncomputable def cutP {α:Type} (xs:List α) (lo hi:Option Int):List α:=(xs.drop (HT.sIx xs.length 0 lo)).take (HT.sIx xs.length xs.length hi - HT.sIx xs.length 0 lo)
noncomputable def slPV:PV->Option Int->Option Int->Option PV
 | .lst xs,lo,hi=>some (.lst (cutP xs lo hi))
 | .tup xs,lo,hi=>some (.tup (cutP xs lo hi))
 | .scr ns,lo,hi=>some (.lst ((cutP ns lo hi).map .int))
 | _,_,_=>none
noncomputable def eSl (a:WE) (lo hi:WO):WE:=fun env P=>a env fun x e1=>lo e1 fun l e2=>hi e2 fun u e3=>opt (slPV x l u) fun z=>P z e3
theorem mL {K:PySem.W.Frag} {F:Hp} {vs:List V} {xs:List PV} {lo hi:Option Int} (r:Reps K F vs xs):Reps K F (cutV vs lo hi) (cutP xs lo hi):=by
 unfold cutV cutP
 rw [r.len]
 exact (r.drop _).take _
theorem uK {ns:List Int} {lo hi:Option Int}:cutV (ns.map V.int) lo hi=(cutP ns lo hi).map V.int:=by
 unfold cutV cutP
 rw [List.length_map,List.map_take,List.map_drop]
theorem cF {l u:Option Expr} {lo hi:WO} {p2:Pos} (ha:EvS ob X a f) (hl:EvO ob X l lo) (hu:EvO ob X u hi):EvS ob X (.Subscript a (.Slice l u none p2) pos) (eSl f lo hi):=by
 obtain ⟨t,ht,k⟩:=ha.ex
 obtain ⟨t1,ht1,k1⟩:=hl.ex
 obtain ⟨t2,ht2,k2⟩:=hu.ex
 refine ⟨_,io (SlR.or jA tG) ht ht1 ht2,fun Z F σ H env P Q K hf kk=>k Z F σ H env _ _ K hf fun x e1 v F1 H1 p s1 K1 r1=>?_⟩
 refine k1 Z F1 σ H1 e1 _ _ K1 p fun i e2 F2 H2 p2 s2 K2=>k2 Z F2 σ H2 e2 _ _ K2 p2 fun j e3 F3 H3 p3 s3 K3=>?_
 obtain ⟨z,hz,p3⟩:=p3
 have r3:=(r1.mono s2).mono s3
 have s4:=ag s1 (ag s2 s3)
 have r3':Vw (md ob X) F3 H3 v x:=.inl r3
 cases x <;> simp only [slPV] at hz <;> cases hz
 ·obtain ⟨q,vs,rfl,h1,h2⟩:=r3'.tup K3.sF
  refine .inr ⟨q,vs,rfl,h1,fun hw=>kk _ e3 _ F3 H3 p3 s4 K3 ?_,fun l hl=>?_⟩
  ·have:cutP (α:=PV) ‹_› i j=‹List PV›:=by
    unfold cutP
    rw [<- h2.len,hw.1,hw.2]
    simp [h2.len]
   rw [this]; exact r3
  ·have hF:F3 l=none:=Same.none_of K3.sF hl
   exact kk _ e3 _ _ _ p3 (ag s4 (az hF)) (K3.lay hl) (.tup (.inl (.inl am)) ((mL h2).mono (az hF)))
 ·obtain ⟨q,vs,rfl,h1,h2⟩:=r3'.lst K3.sF
  refine .inl ⟨q,vs,rfl,.inl (.inl h1),fun l hl=>?_⟩
  have hF:F3 l=none:=Same.none_of K3.sF hl
  exact kk _ e3 _ _ _ p3 (ag s4 (az hF)) (K3.lay hl) (.lst am ((mL h2).mono (az hF)))
 ·obtain ⟨q,rfl,h1⟩:=r3'.scr K3.sF
  refine .inl ⟨q,_,rfl,h1,fun l hl=>?_⟩
  have hF:F3 l=none:=Same.none_of K3.sF hl
  exact kk _ e3 _ _ _ p3 (ag s4 (az hF)) (K3.lay hl) (.lst (by rw [am,uK]) (ee _))
end
end Q
namespace Q
open PySem L2 PyProof.Rows
structure Lds (M:Md) (Z:Zn) (F:Hp) (P:Wd) (D:Ends):Prop where
 nx:∀ env σ F' H,P.nx env->Same F F'->Sok M Z F' σ H env->D.nx σ H
 rt:∀ x env v σ F' H,P.rt x env->Same F F'->Sok M Z F' σ H env->Rep M.K F' v x->D.rt v H
 bk:∀ env σ F' H,P.bk env->Same F F'->Sok M Z F' σ H env->D.bk σ H
 ct:∀ env σ F' H,P.ct env->Same F F'->Sok M Z F' σ H env->D.ct σ H
 rf:∀ x env v σ F' H,P.rf x env->Same F F'->(∀ xs,x≠.set xs)->Sok M Z F' (σ++[some v]) H (env++[some ⟨1,x⟩])->D.rt v H
 ro:∀ x i env v σ F' H,P.ro x i env->Same F F'->Sok M Z F' σ H env->env[i]?=some (some ⟨4,x⟩)->σ[i]?=some (some v)->D.rt v H
theorem Lds.mono {M:Md} {Z:Zn} {F F1:Hp} {P:Wd} {D:Ends} (h:Lds M Z F P D) (s:Same F F1):Lds M Z F1 P D :=
 ⟨fun e σ F' H p q=>h.nx e σ F' H p (ag s q),fun x e v σ F' H p q=>h.rt x e v σ F' H p (ag s q),fun e σ F' H p q=>h.bk e σ F' H p (ag s q),fun e σ F' H p q=>h.ct e σ F' H p (ag s q),fun x e v σ F' H p q=>h.rf x e v σ F' H p (ag s q),fun x i e v σ F' H p q=>h.ro x i e v σ F' H p (ag s q)⟩
structure EvX (ob:ObK) (X:Cx) (st:Stmt) (f:WS):Prop where
 ex:∃ t:TS,PS X st t/\∀ (Z:Zn) (F:Hp) (σ:L2.St) (H:Hp) (env:En) (P:Wd) (D:Ends),Sok (md ob X) Z F σ H env->f P env->Lds (md ob X) Z F P D->t D σ H
structure EvXs (ob:ObK) (X:Cx) (st:List Stmt) (f:WS):Prop where
 ex:∃ t:TS,PSs X st t/\∀ (Z:Zn) (F:Hp) (σ:L2.St) (H:Hp) (env:En) (P:Wd) (D:Ends),Sok (md ob X) Z F σ H env->f P env->Lds (md ob X) Z F P D->t D σ H
noncomputable abbrev WG:=PV->En->(En->Prop)->Prop
structure EvG (ob:ObK) (X:Cx) (tg:Expr) (f:WG):Prop where
 ex:∃ t:TG,PG X tg t/\∀ (Z:Zn) (F:Hp) (σ:L2.St) (H:Hp) (env:En) (v:V) (x:PV) (P:En->Prop) (Q:L2.St->Hp->Prop),Sok (md ob X) Z F σ H env->Rep X.K F v x->f x env P ->
  (∀ env' σ' F' H',P env'->Same F F'->Sok (md ob X) Z F' σ' H' env'->Q σ' H')->t v σ H Q
noncomputable abbrev WGs:=List PV->En->(En->Prop)->Prop
structure EvGs (ob:ObK) (X:Cx) (tgs:List Expr) (f:WGs):Prop where
 ex:∃ t:TGs,PGs X tgs t/\∀ (Z:Zn) (F:Hp) (σ:L2.St) (H:Hp) (env:En) (vs:List V) (xs:List PV) (P:En->Prop) (Q:L2.St->Hp->Prop),Sok (md ob X) Z F σ H env->Reps X.K F vs xs->f xs env P ->
  (∀ env' σ' F' H',P env'->Same F F'->Sok (md ob X) Z F' σ' H' env'->Q σ' H')->t vs σ H Q
noncomputable def sSeq (a b:WS):WS:=fun P env=>a { P with nx:=b P } env
noncomputable def sNil:WS:=fun P env=>P.nx env
noncomputable def sRet (a:WE):WS:=fun P env=>a env P.rt
noncomputable def sDrop (a:WE):WS:=fun P env=>a env fun _ e=>P.nx e
noncomputable def sIf (c:WT) (a b:WS):WS:=fun P env=>c env fun k e=>if k=true then a P e else b P e
noncomputable def sSet (i:Nat) (a:WE):WS:=fun P env=>a env fun x e=>P.nx (e.set i (some ⟨0,x⟩))
noncomputable def sSetO (i:Nat) (a:WE):WS:=fun P env=>a env fun x e=>P.nx (e.set i (some ⟨1,x⟩))
noncomputable def gN (i:Nat):WG:=fun x env P=>P (env.set i (some ⟨0,x⟩))
noncomputable def gsNil:WGs:=fun xs env P=>xs=[]/\P env
noncomputable def gsCons (g:WG) (r:WGs):WGs:=fun xs env P=>match xs with
 | []=>False
 | x::xs=>g x env fun e=>r xs e P
noncomputable def gT (r:WGs):WG:=fun x env P=>match x with
 | .tup xs=>r xs env P
 | _=>False
noncomputable def sAsg (a:WE) (g:WG):WS:=fun P env=>a env fun x e=>g x e P.nx
noncomputable def sPar (i j:Nat) (a:WA):WS:=fun P env=>a env fun xs e=>match xs with
 | [x,y]=>P.nx ((e.set i (some ⟨0,x⟩)).set j (some ⟨0,y⟩))
 | _=>False
section
variable {ob:ObK} {X:Cx} {a b c e tg:Expr} {st:Stmt} {sts:List Stmt} {es:List Expr} {f g h:WE} {fa:WA} {pos p:Pos} {u v:WS} {t:WT}
theorem aA:EvXs ob X [] sNil:=⟨_,nG,fun Z F σ H env P D K hf L=>L.nx env σ F H hf aj K⟩
theorem af (h1:EvX ob X st u) (h2:EvXs ob X sts v):EvXs ob X (st::sts) (sSeq u v):=by
 obtain ⟨t1,ht1,k1⟩:=h1.ex
 obtain ⟨t2,ht2,k2⟩:=h2.ex
 refine ⟨_,bM ht1 ht2,fun Z F σ H env P D K hf L=>k1 Z F σ H env _ _ K hf ⟨fun e σ' F' H' p s K'=>?_,L.rt,L.bk,L.ct,L.rf,L.ro⟩⟩
 exact k2 Z F' σ' H' e P D K' p (L.mono s)
theorem ak (h1:EvX ob X st u):EvXs ob X [st] u:=by
 obtain ⟨t1,ht1,k1⟩:=h1.ex
 exact ⟨t1,cI ht1,k1⟩
theorem ay (h:EvS ob X e f):EvX ob X (.Return (some e) pos) (sRet f):=by
 obtain ⟨t,ht,k⟩:=h.ex
 exact ⟨_,ga ht,fun Z F σ H env P D K hf L=>k Z F σ H env _ _ K hf fun x e1 v F1 H1 p s1 K1 r1=>L.rt x e1 v σ F1 H1 p s1 K1 r1⟩
theorem dq (h:EvW ob X e f) (hs:autoParam (swapsWith e none pos.line X.env=pure false) Z2._auto_1):EvX ob X (.Expr e pos) (sDrop f):=by
 obtain ⟨t,ht,k⟩:=h.ex
 exact ⟨_,nH ht hs,fun Z F σ H env P D K hf L=>k Z F σ H env _ _ K hf fun x e1 v F1 H1 p s1 K1 r1=>L.nx e1 σ F1 H1 p s1 K1⟩
theorem aH {s1 s2:List Stmt} (hc:EvT ob X c t) (ha:EvXs ob X s1 u) (hb:EvXs ob X s2 v):EvX ob X (.If c s1 s2 pos) (sIf t u v):=by
 obtain ⟨w,hw,k⟩:=hc.ex
 obtain ⟨ta,ha,ka⟩:=ha.ex
 obtain ⟨tb,hb,kb⟩:=hb.ex
 refine ⟨_,sQ hw ha hb,fun Z F σ H env P D K hf L=>k Z F σ H env _ _ K hf fun x e1 F1 H1 p s1 K1=>?_⟩
 cases x with
 | true=>exact iteT (ka Z F1 σ H1 e1 P D K1 p (L.mono s1))
 | false=>exact iteF (kb Z F1 σ H1 e1 P D K1 p (L.mono s1))
theorem aJ (i:Nat) {x:Str} {pos':Pos} (hN:X.N.Nodup) (hi:X.N[i]?=some x) (hx:Loc X.env.scope x) (he:EvS ob X e f) (hs:autoParam (swapsWith e (some (.Name x pos')) pos.line X.env=pure false) Z2._auto_1) (hf:autoParam (X.fn x=true\/X.env.scope.names.lookup x=some .local) Z0._auto_1) :
  EvX ob X (.Assign [.Name x pos'] e pos) (sSet i f):=by
 obtain ⟨t,ht,k⟩:=he.ex
 exact ⟨_,dy hN hi hx ht hs hf,fun Z F σ H env P D K hf L=>k Z F σ H env _ _ K hf fun x e1 v F1 H1 p s1 K1 r1=>L.nx _ _ F1 H1 p s1 (K1.put r1)⟩
theorem fg (i:Nat) {x:Str} {pos':Pos} (hN:X.N.Nodup) (hi:X.N[i]?=some x) (hx:Loc X.env.scope x) (he:EvF ob X e f) (hs:autoParam (swapsWith e (some (.Name x pos')) pos.line X.env=pure false) Z2._auto_1) (hf:autoParam (X.fn x=true\/X.env.scope.names.lookup x=some .local) Z0._auto_1) :
  EvX ob X (.Assign [.Name x pos'] e pos) (sSetO i f):=by
 obtain ⟨t,ht,k⟩:=he.ex
 exact ⟨_,dy hN hi hx ht hs hf,fun Z F σ H env P D K hf L=>k Z F σ H env _ _ K hf fun x e1 v F1 H1 p s1 _ K1=>L.nx _ _ F1 H1 p s1 K1.take⟩
theorem aU (i:Nat) {x:Str} (hN:X.N.Nodup) (hi:X.N[i]?=some x) (hx:Loc X.env.scope x) (hf:autoParam (X.fn x=true\/X.env.scope.names.lookup x=some .local) Z0._auto_1):EvG ob X (.Name x pos) (gN i) :=
 ⟨_,aN hN hi hx hf,fun Z F σ H env v x P Q K r hf k=>k _ _ F H hf aj (K.put r)⟩
theorem fq:EvGs ob X [] gsNil:=⟨_,jM,fun Z F σ H env vs xs P Q K r hf k=>by obtain ⟨rfl,hf⟩:=hf; cases r; exact ⟨rfl,k env σ F H hf aj K⟩⟩
theorem aZ {g:WG} {r:WGs} (h1:EvG ob X e g) (h2:EvGs ob X es r) (hs:autoParam ((assignEach (e::es) X.env).map (·.2)=assign e X.env::(assignEach es X.env).map (·.2)) Z2._auto_1):EvGs ob X (e::es) (gsCons g r):=by
 obtain ⟨t1,ht1,k1⟩:=h1.ex
 obtain ⟨t2,ht2,k2⟩:=h2.ex
 refine ⟨_,dz ht1 ht2 hs,fun Z F σ H env vs xs P Q K r hf k=>?_⟩
 cases r with
 | nil=>exact hf.elim
 | cons r1 r2 =>
  refine ⟨_,_,rfl,k1 Z F σ H env _ _ _ _ K r1 hf fun e1 σ1 F1 H1 p s1 K1=>?_⟩
  exact k2 Z F1 σ1 H1 e1 _ _ P Q K1 (r2.mono s1) p fun e2 σ2 F2 H2 p2 s2 K2=>k e2 σ2 F2 H2 p2 (ag s1 s2) K2
theorem gm {r:WGs} {k:Nat} {n:Nat} (hc:X.calm=true) (h:EvGs ob X es r) (hl:∀ xs env P,r xs env P->xs.length=n) (hn:autoParam ((assignEach es X.env).length=n) Z2._auto_1) (hst:autoParam ((assignEach es X.env).findIdx? (·.1)=none) Z2._auto_1):EvG ob X (.Tuple es k pos) (gT r):=by
 obtain ⟨t,ht,kk⟩:=h.ex
 refine ⟨_,lV hc ht hn hst,fun Z F σ H env v x P Q K r hf k=>?_⟩
 unfold gT at hf
 split at hf
 ·have hl:=hl _ _ _ hf
  cases r with
  | tup h1 h2=>exact ⟨_,_,rfl,au K.sF h1,by rw [h2.len]; exact hl,kk Z F σ H env _ _ P Q K h2 hf k⟩
 ·exact hf.elim
theorem gi:∀ xs env P,gsNil xs env P->xs.length=0:=fun xs env P h=>by obtain ⟨rfl,_⟩:=h; rfl
theorem bh {i:Nat} {r:WGs} {n:Nat} (h:∀ xs env P,r xs env P->xs.length=n):∀ xs env P,gsCons (gN i) r xs env P->xs.length=n+1:=fun xs env P q=>by
 cases xs with
 | nil=>exact q.elim
 | cons x xs=>exact congrArg (·+1) (h _ _ _ q)
theorem jq {g:WG} (he:EvS ob X e f) (hg:EvG ob X tg g) (hs:autoParam (swapsWithSole [tg] e pos.line X.env=pure false) Z2._auto_1) (hw:autoParam (swappedStores [tg] e X.env=pure none) Z2._auto_1)
  (h1:autoParam ((assignEach [tg] X.env).map (·.2)=[assign tg X.env]) Z2._auto_1):EvX ob X (.Assign [tg] e pos) (sAsg f g):=by
 obtain ⟨t,ht,k⟩:=he.ex
 obtain ⟨t1,ht1,k1⟩:=hg.ex
 refine ⟨_,i9 ht ht1 hs hw h1,fun Z F σ H env P D K hf L=>k Z F σ H env _ _ K hf fun x e1 v F1 H1 p s1 K1 r1=>?_⟩
 exact k1 Z F1 σ H1 e1 v x _ _ K1 r1 p fun e2 σ2 F2 H2 p2 s2 K2=>L.nx e2 σ2 F2 H2 p2 (ag s1 s2) K2
theorem wj (i j:Nat) {x y:Str} {px py pt:Pos} {kt k2 pt2} (hc:X.calm=true) (hN:X.N.Nodup) (hi:X.N[i]?=some x) (hj:X.N[j]?=some y) (hij:i≠j)
  (hx:X.env.scope.names.lookup x=some .local) (hy:X.env.scope.names.lookup y=some .local) (ha:EvA ob X [a,b] fa)
  (hw:swappedStores [.Tuple [.Name x px,.Name y py] kt pt] (.Tuple [a,b] k2 pt2) X.env=pure (some [x,y]))
  (hs:autoParam (swapsWithSole [.Tuple [.Name x px,.Name y py] kt pt] (.Tuple [a,b] k2 pt2) pos.line X.env=pure false) Z2._auto_1) :
  EvX ob X (.Assign [.Tuple [.Name x px,.Name y py] kt pt] (.Tuple [a,b] k2 pt2) pos) (sPar i j fa):=by
 obtain ⟨t,ht,k⟩:=ha.ex
 refine ⟨_,vd hc hN hi hj hij hx hy ht hw hs,fun Z F σ H env P D K hf L=>k Z F σ H env _ _ K hf fun xs e1 vs F1 H1 p hl s1 K1 r1=>?_⟩
 cases r1 with
 | nil=>cases hl
 | cons r1 r2=>cases r2 with
  | nil=>cases hl
  | cons r2 r3=>cases r3 with
   | nil=>exact ⟨_,_,rfl,L.nx _ _ F1 H1 p s1 ((K1.put r1).put r2)⟩
   | cons=>simp at hl
structure ItOk (M:Md) (J:It) (F:Hp) (xs:List PV):Prop where
 go:∀ (Z:Zn) (i:Nat) (σ:L2.St) (env:En) (F' H:Hp) (x:PV),Same F F'->Sok M Z F' σ H env->xs[i]?=some x->J.go i H/\∀ v H',J.yld i H v H'->∃ F'',Same F' F''/\Sok M Z F'' σ H' env/\Rep M.K F'' v x/\Same H H'/\∀ a,F'' a≠none->F' a≠none\/H a=none
 stop:∀ (Z:Zn) (i:Nat) (σ:L2.St) (env:En) (F' H:Hp),Same F F'->Sok M Z F' σ H env->xs.length<=i->J.stop i H
structure EvI (ob:ObK) (X:Cx) (tg it:Expr) (f:WA):Prop where
 ex:∃ wi:TI,PI X tg it wi/\∀ (Z:Zn) (F:Hp) (σ:L2.St) (H:Hp) (env:En) (P:List PV->En->Prop) (R:It->Hp->Prop),Sok (md ob X) Z F σ H env->f env P ->
  (∀ xs env' J F' H',P xs env'->Same F F'->Sok (md ob X) Z F' σ H' env'->ItOk (md ob X) J F' xs->R J H')->wi σ H R
theorem vY {M:Md} {F:Hp} {a:Addr} {vs:List V} {xs:List PV} (h:F a=some (.lst vs)) (r:Reps M.K F vs xs):ItOk M (Itl M.K a) F xs:=by
 refine ⟨fun Z i σ env F' H x s K e=>?_,fun Z i σ env F' H s K hl=>⟨vs,.inl (.inl (K.sF _ _ (s _ _ h))),by rw [r.len]; exact hl⟩⟩
 obtain ⟨v,hv,rv⟩:=r.get e
 have hH:SqL M.K H a vs:=.inl (.inl (K.sF _ _ (s _ _ h)))
 refine ⟨⟨vs,v,hH,hv⟩,fun v' H' y=>?_⟩
 obtain ⟨rfl,y⟩:=y
 have:=y vs hH
 rw [hv] at this; cases this
 exact ⟨F',aj,K,rv.mono s,aj,fun _ h=>.inl h⟩
theorem vV {M:Md} {F:Hp} {a:Addr} {vs:List V} {xs:List PV} (h:SqT M.K F a vs) (r:Reps M.K F vs xs):ItOk M (Itt M.K a) F xs:=by
 refine ⟨fun Z i σ env F' H x s K e=>?_,fun Z i σ env F' H s K hl=>⟨vs,au K.sF (au s h),by rw [r.len]; exact hl⟩⟩
 obtain ⟨v,hv,rv⟩:=r.get e
 have hH:SqT M.K H a vs:=au K.sF (au s h)
 refine ⟨⟨vs,v,hH,hv⟩,fun v' H' y=>?_⟩
 obtain ⟨rfl,y⟩:=y
 have:=y vs hH
 rw [hv] at this; cases this
 exact ⟨F',aj,K,rv.mono s,aj,fun _ h=>.inl h⟩
noncomputable def iSeq (K:PySem.W.Frag) (tl:TE):TI:=fun σ H R=>tl σ H fun x H1=>∃ a,x=.ref a/\(((∃ xs,SqL K H1 a xs)/\R (Itl K a) H1)\/((∃ xs,SqT K H1 a xs)/\R (Itt K a) H1))
theorem vh {l:Expr} {tl:TE} (hl:PE X l tl):PI X tg l (iSeq X.K tl):=by
 intro pins s σ H R I h
 refine thn (hl pins s σ H _ I h) fun v s1 ⟨x,H1,I1,r1,q1⟩=>?_
 obtain ⟨a,e,q⟩:=q1
 subst e
 cases r1
 rcases q with ⟨⟨xs,hq⟩,q⟩ | ⟨⟨xs,hq⟩,q⟩
 ·obtain ⟨its,rv,p,hz⟩:=I1.list hq
  refine wpAny_pyIter_list p.isList ?_
  refine ⟨s1.heap.objs.size,[s1.heap.objs.size],_,_,H1,rfl,I1.kept (t':=s1.toks) fun b o e=>Heap.get?_push_of_some _ e,kA a _,⟨_,Heap.get?_push_size _ rfl,rfl,rfl⟩,fun b hb=>?_,q⟩
  have e:b=s1.heap.objs.size:=by simpa using hb
  subst e
  exact I1.fpOk (Nat.le_refl _) (I1.hok.fresh (Nat.le_refl _))
 ·obtain ⟨its,rv,p,hz⟩:=I1.tuple hq
  refine wpAny_pyIter_tuple (show s1.heap.IsTuple a its.toArray from p) ?_
  refine ⟨s1.heap.objs.size,[s1.heap.objs.size],_,_,H1,rfl,I1.kept (t':=s1.toks) fun b o e=>Heap.get?_push_of_some _ e,oh a _,⟨_,Heap.get?_push_size _ rfl,rfl,rfl⟩,fun b hb=>?_,q⟩
  have e:b=s1.heap.objs.size:=by simpa using hb
  subst e
  exact I1.fpOk (Nat.le_refl _) (I1.hok.fresh (Nat.le_refl _))
noncomputable def iS (a:WE):WA:=fun env P=>a env fun x e=>match x with
 | .lst xs=>P xs e
 | .tup xs=>P xs e
 | _=>False
theorem bj (h:EvS ob X e f):EvI ob X tg e (iS f):=by
 obtain ⟨t,ht,k⟩:=h.ex
 refine ⟨_,vh ht,fun Z F σ H env P R K hf kk=>k Z F σ H env _ _ K hf fun x e1 v F1 H1 p s1 K1 r1=>?_⟩
 cases r1 with
 | tup h1 h2=>exact ⟨_,rfl,.inr ⟨⟨_,au K1.sF h1⟩,kk _ e1 _ F1 H1 p s1 K1 (vV h1 h2)⟩⟩
 | lst h1 h2=>exact ⟨_,rfl,.inl ⟨⟨_,.inl (.inl (K1.sF _ _ h1))⟩,kk _ e1 _ F1 H1 p s1 K1 (vY h1 h2)⟩⟩
 | _=>exact p.elim
noncomputable def rngP (lo:Int) (n:Nat):List PV:=(List.range n).map fun (k:Nat)=>.int (lo+(k:Int))
theorem vX {M:Md} {F:Hp} {lo:Int} {n:Nat}:ItOk M (Itr lo n) F (rngP lo n):=by
 refine ⟨fun Z i σ env F' H x s K e=>?_,fun Z i σ env F' H s K hl=>show n<=i by simpa [rngP] using hl⟩
 have hi:i<n:=by
  rcases Nat.lt_or_ge i n with h | h
  ·exact h
  ·rw [List.getElem?_eq_none (by simpa [rngP] using h)] at e; cases e
 have ex:x=.int (lo+i):=by
  unfold rngP at e
  rw [List.getElem?_map,List.getElem?_range hi] at e
  exact (Option.some.inj e).symm
 subst ex
 refine ⟨hi,fun v' H' y=>?_⟩
 obtain ⟨rfl,rfl⟩:=y
 exact ⟨F',aj,K,.int _,aj,fun _ h=>.inl h⟩
noncomputable def iR1 (a:WA):WA:=fun env P=>a env fun xs e=>match xs with
 | [.int j] => -1000000<=j/\j<=1000000/\P (rngP 0 j.toNat) e
 | _=>False
noncomputable def iR2 (a:WA):WA:=fun env P=>a env fun xs e=>match xs with
 | [.int i,.int j]=>(-1000000<=i/\i<=1000000 /\ -1000000<=j/\j<=1000000)/\P (rngP i (j - i).toNat) e
 | _=>False
theorem eB (hg:Gl X "range") (hm:X.mg "range" = none) (ha:EvA ob X [a] fa) (hs:autoParam (starEach [a] X.env=[(false,eval a X.env)]) Z2._auto_1):EvI ob X tg (.Call (.Name "range" p) [a] [] pos) (iR1 fa):=by
 obtain ⟨t,ht,k⟩:=ha.ex
 refine ⟨_,pO hg hm ht hs,fun Z F σ H env P R K hf kk=>k Z F σ H env _ _ K hf fun xs e1 vs F1 H1 p _ s1 K1 r1=>?_⟩
 split at p
 ·cases r1 with
  | cons r1 r2 =>
   cases r1
   cases r2
   exact ⟨_,rfl,by omega,by omega,kk _ e1 _ F1 H1 p.2.2 s1 K1 vX⟩
 ·exact p.elim
noncomputable def zipP (xs ys:List PV):List PV:=(xs.zip ys).map fun p=>.tup [p.1,p.2]
theorem vU {M:Md} {F:Hp} {a b:Addr} {vs ws:List V} {xs ys:List PV} (h1:SqT M.K F a vs) (r1:Reps M.K F vs xs) (h2:SqT M.K F b ws) (r2:Reps M.K F ws ys):ItOk M (Itz M.K a b) F (zipP xs ys):=by
 refine ⟨fun Z i σ env F' H x s K e=>?_,fun Z i σ env F' H s K hl=>⟨vs,ws,au K.sF (au s h1),au K.sF (au s h2),?_⟩⟩
 ·unfold zipP at e
  rw [List.getElem?_map] at e
  cases ez:(xs.zip ys)[i]? with
  | none=>rw [ez] at e; cases e
  | some q =>
   rw [ez] at e
   obtain ⟨x1,x2⟩:=q
   rw [List.getElem?_zip_eq_some] at ez
   have e:x=.tup [x1,x2]:=(Option.some.inj e).symm
   subst e
   obtain ⟨v1,q1,q2⟩:=r1.get ez.1
   obtain ⟨v2,q3,q4⟩:=r2.get ez.2
   have g1:=au K.sF (au s h1)
   have g2:=au K.sF (au s h2)
   refine ⟨⟨vs,ws,v1,v2,g1,g2,q1,q3⟩,fun v' H' y=>?_⟩
   obtain ⟨p,w1,w2,rfl,hp,rfl,y⟩:=y
   obtain ⟨y1,y2⟩:=y vs ws g1 g2
   rw [q1] at y1; cases y1
   rw [q3] at y2; cases y2
   have hF:F' p=none:=Same.none_of K.sF hp
   refine ⟨upd F' p (.tup [v1,v2]),az hF,K.lay hp,.tup (.inl (.inl am)) (.cons ((q2.mono s).mono (az hF)) (.cons ((q4.mono s).mono (az hF)) .nil)),az hp,fun c hc=>?_⟩
   by_cases z:c=p
   ·subst z; exact .inr hp
   ·rw [aq z] at hc; exact .inl hc
 ·have:=r1.len
  have:=r2.len
  simp only [zipP,List.length_map,List.length_zip] at hl
  omega
noncomputable def signsP (s:Str):List PV:=s.cps.toList.map fun c=>.str ⟨#[c]⟩
theorem vW {M:Md} {F:Hp} {s:Str}:ItOk M (Its s) F (signsP s):=by
 refine ⟨fun Z i σ env F' H x sm K e=>?_,fun Z i σ env F' H sm K hl=>show s.cps.size<=i by simpa [signsP] using hl⟩
 unfold signsP at e
 rw [List.getElem?_map] at e
 cases ez:s.cps.toList[i]? with
 | none=>rw [ez] at e; cases e
 | some c =>
  rw [ez] at e
  have e:x=.str ⟨#[c]⟩:=(Option.some.inj e).symm
  subst e
  have hi:i<s.cps.size:=by
   rcases Nat.lt_or_ge i s.cps.size with h | h
   ·exact h
   ·rw [List.getElem?_eq_none (by simpa using h)] at ez; cases ez
  refine ⟨hi,fun v' H' y=>?_⟩
  obtain ⟨rfl,c',hc',rfl⟩:=y
  rw [<- Array.getElem?_toList,ez] at hc'
  cases hc'
  exact ⟨F',aj,K,.str _,aj,fun _ h=>.inl h⟩
noncomputable def iStrP (a:WE):WA:=fun env P=>a env fun x e=>match x with
 | .str s=>P (signsP s) e
 | _=>False
theorem wq (h:EvS ob X e f):EvI ob X tg e (iStrP f):=by
 obtain ⟨t,ht,k⟩:=h.ex
 refine ⟨_,vg ht,fun Z F σ H env P R K hf kk=>k Z F σ H env _ _ K hf fun x e1 v F1 H1 p s1 K1 r1=>?_⟩
 cases r1 with
 | str s=>exact ⟨s,rfl,kk _ e1 _ F1 H1 p s1 K1 vW⟩
 | _=>exact p.elim
noncomputable def forGo (g:WG) (b:WS) (P:Wd):List PV->En->Prop
 | [],env=>P.nx env
 | x::xs,env=>g x env fun e=>b { P with nx:=forGo g b P xs,ct:=forGo g b P xs,bk:=P.nx } e
noncomputable def sFor (it:WA) (g:WG) (b:WS):WS:=fun P env=>it env fun xs e=>forGo g b P xs e
theorem gk {it:Expr} {g:WG} (hp:PassesOwn (model X.prog X.w) X.A X.env X.xe) (hc:X.calm=true) (hi:EvI ob X tg it fa) (hg:EvG ob X tg g) (hb:EvXs ob X sts u)
  (hs:autoParam (∀ x,foldedSetIterable it X.env x=pure x) Z3._auto_1):EvX ob X (.For tg it sts [] pos) (sFor fa g u):=by
 obtain ⟨wi,hwi,k⟩:=hi.ex
 obtain ⟨tg',htg,kg⟩:=hg.ex
 obtain ⟨tb,htb,kb⟩:=hb.ex
 refine ⟨_,pL hp hc hwi htg htb hs,fun Z F σ H env P D K hf L=>k Z F σ H env _ _ K hf fun xs e1 J F1 H1 p s1 K1 I1=>?_⟩
 have L1:=L.mono s1
 refine ⟨fun i m σ' H'=>m=xs.length - i/\∃ F' env',Same F1 F'/\Sok (md ob X) Z F' σ' H' env'/\forGo g u P (xs.drop i) env',⟨_,rfl,F1,e1,aj,K1,p⟩,?_⟩
 rintro i m σ' H' ⟨rfl,F',env',s,K',hg'⟩
 by_cases hlt:i<xs.length
 ·rw [List.drop_eq_getElem_cons hlt] at hg'
  obtain ⟨h1,h2⟩:=I1.go Z i σ' env' F' H' xs[i] s K' (by simp [hlt])
  refine .inr ⟨h1,fun σ2 H2=>∃ F2 e2,Same F1 F2/\Sok (md ob X) Z F2 σ2 H2 e2/\forGo g u P (xs.drop (i+1)) e2,fun σ2 H2 q=>⟨xs.length - (i+1),by omega,rfl,q⟩,fun v H2 y=>?_⟩
  obtain ⟨F2,s2,K2,r2,_,_⟩:=h2 v H2 y
  refine kg Z F2 σ' H2 env' v xs[i] _ _ K2 r2 hg' fun e3 σ3 F3 H3 p3 s3 K3=>?_
  have sF:=ag s (ag s2 s3)
  exact kb Z F3 σ3 H3 e3 _ _ K3 p3 ⟨fun e4 σ4 F4 H4 q s4 K4=>⟨F4,e4,ag sF s4,K4,q⟩,(L1.mono sF).rt,(L1.mono sF).nx,fun e4 σ4 F4 H4 q s4 K4=>⟨F4,e4,ag sF s4,K4,q⟩,(L1.mono sF).rf,(L1.mono sF).ro⟩
 ·rw [List.drop_eq_nil_of_le (by omega)] at hg'
  exact .inl ⟨I1.stop Z i σ' env' F' H' s K' (by omega),L1.nx env' σ' F' H' hg' s K'⟩
end
end Q
namespace Q
open PySem L2 PyProof.Rows
noncomputable def lend (s:Sl):Sl:=if s.k=1 then ⟨3,s.v⟩ else s
noncomputable def capE (js:List (Option Nat)) (env:En):En:=js.map fun o=>o.bind fun j=>((env[j]?).getD none).map lend
noncomputable def backS (s s':Sl):Option Sl:=if s'.k=3 then (if s.k=1\/s.k=3 then some ⟨s.k,s'.v⟩ else none) else if s'.k=2 then (if s.k=2 then some s' else none) else some s'
noncomputable def backE (js:List (Option Nat)) (env benv:En):En:=env.mapIdx fun j o=>match js.findIdx? (fun q=>q==some j) with
 | none=>o
 | some i=>match o,benv[i]? with
  | some s,some (some s')=>backS s s'
  | _,_=>none
noncomputable def jsOk (js:List (Option Nat)):Bool:=decide (js.filterMap id).Nodup
theorem iG:∀ {js:List (Option Nat)},(js.filterMap id).Nodup->∀ (i i':Nat) (j:Nat),js[i]?=some (some j)->js[i']?=some (some j)->i=i'
 | [],_,i,i',j,h,_=>by simp at h
 | none::js,hn,i,i',j,h,h'=>by
  cases i with
  | zero=>simp at h
  | succ i =>
   cases i' with
   | zero=>simp at h'
   | succ i' =>
    simp at h h' hn
    exact congrArg (·+1) (iG (js:=js) (by simpa using hn) i i' j h h')
 | some k::js,hn,i,i',j,h,h'=>by
  simp only [List.filterMap_cons,id] at hn
  obtain ⟨hk,hn⟩:=List.nodup_cons.mp hn
  have mem:∀ m,js[m]?=some (some k)->False:=fun m hm=>hk (List.mem_filterMap.mpr ⟨some k,List.mem_of_getElem? hm,rfl⟩)
  cases i with
  | zero =>
   simp at h; subst h
   cases i' with
   | zero=>rfl
   | succ i'=>exact (mem i' (by simpa using h')).elim
  | succ i =>
   cases i' with
   | zero=>simp at h'; subst h'; exact (mem i (by simpa using h)).elim
   | succ i'=>exact congrArg (·+1) (iG hn i i' j (by simpa using h) (by simpa using h'))
section
variable {M:Md} {Z:Zn} {F F' H H':Hp} {σ:L2.St} {env:En}
theorem SlOk.wr {v:V} {s:Sl} {fp:List Addr} (h:SlOk M Z F H v s fp):∀ c∈fp,c∈Z.S\/Z.H₀ c=none:=by
 rcases h with ⟨_,rfl,_⟩ | ⟨_,a,_,rfl,h0,_⟩ | ⟨_,a,_,h,_⟩ | ⟨_,a,_,rfl,h0,_⟩
 ·intro c hc; simp at hc
 ·intro c hc; simp at hc; subst hc; exact .inr h0
 ·exact h
 ·intro c hc; simp at hc; subst hc; exact .inl h0
noncomputable def capFp (js:List (Option Nat)) (env:En) (fp:Nat->List Addr) (i:Nat):List Addr:=match js[i]? with
 | some (some j)=>match env[j]? with
  | some (some _)=>fp j
  | _=>[]
 | _=>[]
noncomputable def capSs (js:List (Option Nat)) (env:En) (fp:Nat->List Addr) (H:Hp):List Addr:=((List.range js.length).flatMap (capFp js env fp)).filter fun b=>(H b).isSome
theorem qk {js:List (Option Nat)} {fp:Nat->List Addr} {i:Nat} {a:Addr} (h:a∈capFp js env fp i) (hH:H a≠none):a∈capSs js env fp H:=by
 refine List.mem_filter.mpr ⟨List.mem_flatMap.mpr ⟨i,List.mem_range.mpr ?_,h⟩,by obtain ⟨o,ho⟩:=dG hH; rw [ho]; rfl⟩
 rcases Nat.lt_or_ge i js.length with q | q
 ·exact q
 ·unfold capFp at h; rw [List.getElem?_eq_none q] at h; simp at h
theorem dC {js:List (Option Nat)} {fp:Nat->List Addr} {a:Addr} (h:a∈capSs js env fp H):∃ (i j:Nat) (s:Sl),js[i]?=some (some j)/\env[j]?=some (some s)/\a∈fp j:=by
 obtain ⟨i,_,h⟩:=List.mem_flatMap.mp (List.mem_filter.mp h).1
 unfold capFp at h
 split at h
 ·rename_i j ej
  split at h
  ·rename_i s es
   exact ⟨i,j,s,ej,es,h⟩
  ·simp at h
 ·simp at h
theorem sM {js:List (Option Nat)} {i:Nat} {s':Sl} (h:(capE js env)[i]?=some (some s')):∃ j s,js[i]?=some (some j)/\env[j]?=some (some s)/\s'=lend s:=by
 unfold capE at h
 rw [List.getElem?_map] at h
 cases ej:js[i]? with
 | none=>rw [ej] at h; cases h
 | some o =>
  cases o with
  | none=>rw [ej] at h; cases h
  | some j =>
   rw [ej] at h
   have h:((env[j]?).getD none).map lend=some s':=Option.some.inj h
   cases es:env[j]? with
   | none=>rw [es] at h; cases h
   | some o =>
    cases o with
    | none=>rw [es] at h; cases h
    | some s=>rw [es] at h; exact ⟨j,s,rfl,es,(Option.some.inj h).symm⟩
theorem mN {js:List (Option Nat)} {i j:Nat} {v:V} (h:js[i]?=some (some j)) (hv:σ[j]?=some (some v)):(capS js σ)[i]?=some (some v):=by
 unfold capS
 rw [List.getElem?_map,h]
 show some ((σ[j]?).getD none)=_
 rw [hv]; rfl
noncomputable def Zb (js:List (Option Nat)) (env:En) (fp:Nat->List Addr) (F H:Hp):Zn:={ H₀:=H,F₀:=F,S:=capSs js env fp H,sS:=fun b hb e=>by have:=(List.mem_filter.mp hb).2; rw [e] at this; cases this }
theorem mS {js:List (Option Nat)} {fp:Nat->List Addr} (hj:jsOk js=true) (K:Sok M Z F σ H env) (L:Slots M Z F σ H env fp):Sok M (Zb js env fp F H) F (capS js σ) H (capE js env):=by
 have hn:(js.filterMap id).Nodup:=of_decide_eq_true hj
 refine ⟨K.sF,fun b o h _=>h,fun b h=>h,aj,fun a h=>.inl h,by simp [capE,capS],capFp js env fp,fun i s' h=>?_,fun i a h=>?_,fun i i' a hii h h'=>?_,fun i a s e=>by cases e⟩
 ·obtain ⟨j,s,ej,es,rfl⟩:=sM h
  obtain ⟨v,hv,ok⟩:=L.at' j s es
  have ef:capFp js env fp i=fp j:=by unfold capFp; rw [ej]; dsimp only; rw [es]
  refine ⟨v,mN ej hv,?_⟩
  have inS:∀ c∈fp j,c∈(Zb js env fp F H).S:=fun c hc=>qk (i:=i) (by rw [ef]; exact hc) (L.al j c hc).1
  rw [ef]
  rcases ok with ⟨k,e,r⟩ | ⟨k,a,e,e2,h0,r⟩ | ⟨k,a,e,h0,r⟩ | ⟨k,a,e,e2,h0,r⟩
  ·have:lend s=s:=by unfold lend; rw [if_neg (by rw [k]; decide)]
   rw [this]; exact .inl ⟨k,e,r⟩
  ·have:lend s=⟨3,s.v⟩:=by unfold lend; rw [if_pos k]
   rw [this]; exact .inr (.inr (.inr ⟨rfl,a,e,e2,inS a (by rw [e2]; simp),r⟩))
  ·have:lend s=s:=by unfold lend; rw [if_neg (by rcases k with k | k <;> (rw [k]; decide))]
   rw [this]; exact .inr (.inr (.inl ⟨k,a,e,fun c hc=>.inl (inS c hc),r⟩))
  ·have:lend s=s:=by unfold lend; rw [if_neg (by rw [k]; decide)]
   rw [this]; exact .inr (.inr (.inr ⟨k,a,e,e2,inS a (by rw [e2]; simp),r⟩))
 ·unfold capFp at h
  split at h
  ·split at h
   ·exact L.al _ a h
   ·simp at h
  ·simp at h
 ·unfold capFp at h h'
  split at h
  ·rename_i j ej
   split at h'
   ·rename_i j' ej'
    split at h
    ·split at h'
     ·have:j≠j':=fun e=>by subst e; exact hii (iG hn i i' j ej ej')
      exact L.dj j j' a this h h'
     ·simp at h'
    ·simp at h
   ·simp at h'
  ·simp at h
theorem kT {js:List (Option Nat)} {fp:Nat->List Addr} {σb:L2.St} {benv:En} (hj:jsOk js=true) (K:Sok M Z F σ H env) (L:Slots M Z F σ H env fp) (Kb:Sok M (Zb js env fp F H) F' σb H' benv)
  (hσ:∀ (k j:Nat),js[k]?=some (some j)->σb[k]?=(capS js σ)[k]?) :
  ∃ fp',Slots M Z F' σ H' (backE js env benv) fp'/\Sok M Z F' σ H' (backE js env benv)/\∀ i a,a∈fp' i->(∃ i',a∈fp i')\/H a=none:=by
 have hn:(js.filterMap id).Nodup:=of_decide_eq_true hj
 obtain ⟨fb,Lb⟩:=Kb.sl
 have inS:∀ c∈capSs js env fp H,(c∈Z.S\/Z.H₀ c=none)/\∃ i',c∈fp i':=fun c hc=>by
  obtain ⟨i,j,s,e1,e2,e3⟩:=dC hc
  obtain ⟨v,_,ok⟩:=L.at' j s e2
  exact ⟨ok.wr c e3,j,e3⟩
 have fidx:∀ j i,js.findIdx? (fun q=>q==some j)=some i->js[i]?=some (some j):=fun j i h=>by
  rw [List.findIdx?_eq_some_iff_getElem] at h
  obtain ⟨hi,he,_⟩:=h
  rw [List.getElem?_eq_getElem hi,eq_of_beq he]
 have bget:∀ j,(backE js env benv)[j]?=(env[j]?).map fun o=>(match js.findIdx? (fun q=>q==some j) with
   | none=>o
   | some i=>match o,benv[i]? with
    | some s,some (some s')=>backS s s'
    | _,_=>none):=fun j=>by
  unfold backE
  rw [List.getElem?_mapIdx]
 have blk:∀ i s',benv[i]?=some (some s')->∀ c∈fb i,(c∈Z.S\/Z.H₀ c=none)/\((∃ i',c∈fp i')\/H c=none):=fun i s' e c hc=>by
  obtain ⟨v,_,ok⟩:=Lb.at' i s' e
  rcases ok.wr c hc with h | h
  ·exact ⟨(inS c h).1,.inl (inS c h).2⟩
  ·exact ⟨.inr (K.h0 h),.inr h⟩
 let fp':Nat->List Addr:=fun j=>match js.findIdx? (fun q=>q==some j) with
  | none=>fp j
  | some i=>match env[j]?,benv[i]? with
   | some (some s),some (some s')=>if (backS s s').isSome=true then fb i else []
   | _,_=>[]
 have keep:∀ c o,H c=some o->c∉capSs js env fp H->H' c=some o:=fun c o h1 h2=>Kb.sG c o h1 h2
 have S:Slots M Z F' σ H' (backE js env benv) fp':=by
  refine ⟨fun j t e=>?_,fun j a h=>?_,fun j j2 a hjj h h2=>?_,fun j a t e1 e e3=>?_⟩
  case refine_4 =>
   rw [bget] at e
   cases ej:env[j]? with
   | none=>rw [ej] at e; cases e
   | some o =>
    rw [ej] at e
    have e:=Option.some.inj e
    cases ei:js.findIdx? (fun q=>q==some j) with
    | none =>
     rw [ei] at e
     dsimp only at e
     subst e
     exact L.oa j a t e1 ej e3
    | some i =>
     rw [ei] at e
     dsimp only at e
     cases o with
     | none=>cases e
     | some s =>
      cases eb:benv[i]? with
      | none=>rw [eb] at e; cases e
      | some w =>
       cases w with
       | none=>rw [eb] at e; cases e
       | some s' =>
        rw [eb] at e
        dsimp only at e
        unfold backS at e
        split at e
        ·split at e
         ·rename_i h1 h2
          cases e
          rcases h2 with q | q
          ·rw [q] at e3; cases e3
          ·rw [q] at e3; cases e3
         ·cases e
        ·split at e
         ·split at e
          ·rename_i h1
           exact L.oa j a s e1 ej h1
          ·cases e
         ·rename_i h1
          cases e
          exact absurd e3 h1
  ·rw [bget] at e
   cases ej:env[j]? with
   | none=>rw [ej] at e; cases e
   | some o =>
    rw [ej] at e
    have e:=Option.some.inj e
    show ∃ v,σ[j]?=some (some v)/\SlOk M Z F' H' v t (match js.findIdx? (fun q=>q==some j) with
     | none=>fp j
     | some i=>match env[j]?,benv[i]? with
      | some (some s),some (some s')=>if (backS s s').isSome=true then fb i else []
      | _,_=>[])
    cases ei:js.findIdx? (fun q=>q==some j) with
    | none =>
     rw [ei] at e
     dsimp only at e
     subst e
     obtain ⟨v,hv,ok⟩:=L.at' j t ej
     refine ⟨v,hv,ok.mono Kb.gr fun c hc=>?_⟩
     have hc0:=L.al j c hc
     obtain ⟨o,ho⟩:=dG hc0.1
     rw [ho]
     refine keep c o ho fun hS=>?_
     obtain ⟨i,j',s,e1,e2,e3⟩:=dC hS
     have:j≠j':=fun z=>by
      subst z
      rw [List.findIdx?_eq_none_iff] at ei
      have:=ei (some j) (List.mem_of_getElem? e1)
      simp at this
     exact L.dj j j' c this hc e3
    | some i =>
     rw [ei] at e
     dsimp only at e ⊢
     have eij:=fidx j i ei
     cases o with
     | none=>cases e
     | some s =>
      rw [ej]
      cases eb:benv[i]? with
      | none=>rw [eb] at e; cases e
      | some w =>
       cases w with
       | none=>rw [eb] at e; cases e
       | some s' =>
        rw [eb] at e
        dsimp only at e ⊢
        rw [e,if_pos (Option.isSome_some)]
        obtain ⟨v0,hv0,ok0⟩:=L.at' j s ej
        obtain ⟨v,hv,ok⟩:=Lb.at' i s' eb
        rw [hσ i j eij,mN eij hv0] at hv
        cases hv
        refine ⟨v0,hv0,?_⟩
        unfold backS at e
        rcases ok with ⟨k,e1,r⟩ | ⟨k,a,e1,e2,h0,r⟩ | ⟨k,a,e1,h0,r⟩ | ⟨k,a,e1,e2,h0,r⟩
        ·rw [if_neg (by rw [k]; decide),if_neg (by rw [k]; decide)] at e
         cases e
         exact .inl ⟨k,e1,r⟩
        ·rw [if_neg (by rw [k]; decide),if_neg (by rw [k]; decide)] at e
         cases e
         exact .inr (.inl ⟨k,a,e1,e2,K.h0 h0,r⟩)
        ·rw [if_neg (by rcases k with k | k <;> (rw [k]; decide))] at e
         have e:s'=t:=by
          split at e
          ·split at e
           ·exact Option.some.inj e
           ·cases e
          ·exact Option.some.inj e
         subst e
         refine .inr (.inr (.inl ⟨k,a,e1,fun c hc=>(blk i _ eb c hc).1,r⟩))
        ·rw [if_pos k] at e
         split at e
         ·rename_i hk
          cases e
          rcases ok0 with ⟨k0,_⟩ | ⟨k0,a0,f1,f2,f3,_⟩ | ⟨k0,_⟩ | ⟨k0,a0,f1,f2,f3,_⟩
          ·rw [k0] at hk; rcases hk with z | z <;> cases z
          ·rw [e1] at f1; cases f1
           exact .inr (.inl ⟨k0,a,e1,e2,f3,r⟩)
          ·rcases k0 with k0 | k0 <;> (rw [k0] at hk; rcases hk with z | z <;> cases z)
          ·rw [e1] at f1; cases f1
           exact .inr (.inr (.inr ⟨k0,a,e1,e2,f3,r⟩))
         ·cases e
  ·have h:a∈(match js.findIdx? (fun q=>q==some j) with
     | none=>fp j
     | some i=>match env[j]?,benv[i]? with
      | some (some s),some (some s')=>if (backS s s').isSome=true then fb i else []
      | _,_=>[]):=h
   split at h
   ·rename_i ei
    have h0:=L.al j a h
    obtain ⟨o,ho⟩:=dG h0.1
    constructor
    ·intro z
     have:=Kb.pr a (by show H a≠none; exact h0.1)
     exact this z
    ·cases ef:F' a with
     | none=>rfl
     | some o =>
      rcases Kb.nw a (by rw [ef]; simp) with q | q
      ·exact absurd h0.2 q
      ·exact absurd q h0.1
   ·split at h
    ·split at h
     ·exact Lb.al _ a h
     ·simp at h
    ·simp at h
  ·have h:a∈(match js.findIdx? (fun q=>q==some j) with
     | none=>fp j
     | some i=>match env[j]?,benv[i]? with
      | some (some s),some (some s')=>if (backS s s').isSome=true then fb i else []
      | _,_=>[]):=h
   have h2:a∈(match js.findIdx? (fun q=>q==some j2) with
     | none=>fp j2
     | some i=>match env[j2]?,benv[i]? with
      | some (some s),some (some s')=>if (backS s s').isSome=true then fb i else []
      | _,_=>[]):=h2
   have mix:∀ {j1 i:Nat} {s':Sl},js.findIdx? (fun q=>q==some j1)=none->benv[i]?=some (some s')->a∈fp j1->a∈fb i->False:=fun {j1 i s'} e1 e2 m1 m2=>by
    obtain ⟨v,_,ok⟩:=Lb.at' i s' e2
    rcases ok.wr a m2 with q | q
    ·obtain ⟨i',j',s,q1,q2,q3⟩:=dC q
     have:j1≠j':=fun z=>by
      subst z
      rw [List.findIdx?_eq_none_iff] at e1
      have:=e1 (some j1) (List.mem_of_getElem? q1)
      simp at this
     exact L.dj j1 j' a this m1 q3
    ·exact (L.al j1 a m1).1 q
   split at h
   ·rename_i ei
    split at h2
    ·exact L.dj j j2 a hjj h h2
    ·split at h2
     ·rename_i eb
      split at h2
      ·exact mix ei eb h h2
      ·simp at h2
     ·simp at h2
   ·rename_i i ei
    split at h
    ·rename_i eb
     split at h
     ·split at h2
      ·rename_i ei2
       exact mix ei2 eb h2 h
      ·rename_i i2 ei2
       split at h2
       ·split at h2
        ·have:i≠i2:=fun z=>by
          subst z
          have q1:=fidx j i ei
          have q2:=fidx j2 i ei2
          rw [q1] at q2
          cases q2
          exact hjj rfl
         exact Lb.dj i i2 a this h h2
        ·simp at h2
       ·simp at h2
     ·simp at h
    ·simp at h
 refine ⟨fp',S,⟨Kb.sF,fun b o h1 h2=>keep b o (K.sG b o h1 h2) fun hS=>?_,fun b h=>Kb.pr b (K.pr b h),ag K.gr Kb.gr,fun a h=>?_,by unfold backE; rw [List.length_mapIdx]; exact K.len,fp',S⟩,fun j a h=>?_⟩
 ·rcases (inS b hS).1 with q | q
  ·exact h2 q
  ·rw [q] at h1; cases h1
 ·rcases Kb.nw a h with q | q
  ·exact K.nw a q
  ·exact .inr (K.h0 q)
 ·have h:a∈(match js.findIdx? (fun q=>q==some j) with
    | none=>fp j
    | some i=>match env[j]?,benv[i]? with
     | some (some s),some (some s')=>if (backS s s').isSome=true then fb i else []
     | _,_=>[]):=h
  split at h
  ·exact .inl ⟨j,h⟩
  ·split at h
   ·rename_i eb
    split at h
    ·exact (blk _ _ eb a h).2
    ·simp at h
   ·simp at h
end
end Q
namespace Q
open PySem L2 PyProof.Rows
noncomputable def rdE (M:Md) (f:WE):TE:=fun σ H Q=>∃ (Z:Zn) (F:Hp) (env:En) (P:PV->En->Prop),Sok M Z F σ H env/\f env P/\∀ x env' v F' H',P x env'->Same F F'->Sok M Z F' σ H' env'->Rep M.K F' v x->Q v H'
noncomputable def rdT (M:Md) (f:WT):TT:=fun σ H Q=>∃ (Z:Zn) (F:Hp) (env:En) (P:Bool->En->Prop),Sok M Z F σ H env/\f env P/\∀ b env' F' H',P b env'->Same F F'->Sok M Z F' σ H' env'->Q b H'
theorem EvS.pe {ob:ObK} {X:Cx} {e:Expr} {f:WE} (h:EvS ob X e f):PE X e (rdE (md ob X) f):=by
 obtain ⟨t,ht,k⟩:=h.ex
 rintro pins s σ H Q I ⟨Z,F,env,P,K,hf,kk⟩
 exact ht pins s σ H Q I (k Z F σ H env P Q K hf kk)
structure EvC (ob:ObK) (X:Cx) (ifs:List Expr) (f:WT):Prop where
 ex:PF X ifs (rdT (md ob X) f)
noncomputable def tYs:WT:=fun env P=>P true env
theorem bC {ob:ObK} {X:Cx}:EvC ob X [] tYs:=⟨by
 rintro pins s σ H Q I ⟨Z,F,env,P,K,hf,kk⟩
 exact vk pins s σ H Q I (kk true env F H hf aj K)⟩
theorem gp {ob:ObK} {X:Cx} {c:Expr} {t:WT} (h:EvT ob X c t):EvC ob X [c] t:=⟨by
 obtain ⟨w,hw,k⟩:=h.ex
 rintro pins s σ H Q I ⟨Z,F,env,P,K,hf,kk⟩
 exact pP hw pins s σ H Q I (k Z F σ H env P Q K hf kk)⟩
inductive Tgt where
 | nm (i:Nat) | tp (l:List Nat)
noncomputable def tgLs:List Nat->TGs
 | []=>gNil
 | i::l=>gCons (gName i) (tgLs l)
noncomputable def tgL (K:PySem.W.Frag):Tgt->TG
 | .nm i=>gName i
 | .tp l=>gTup K l.length (tgLs l)
noncomputable def setAll:List Nat->List PV->En->En
 | i::l,x::xs,env=>setAll l xs (env.set i (some ⟨0,x⟩))
 | _,_,env=>env
noncomputable def tgW:Tgt->WG
 | .nm i=>fun x env P=>P (env.set i (some ⟨0,x⟩))
 | .tp l=>fun x env P=>match x with
  | .tup xs=>xs.length=l.length/\P (setAll l xs env)
  | _=>False
noncomputable def tgFree (js:List (Option Nat)):Tgt->Bool
 | .nm i=>decide (js[i]?=some none)
 | .tp l=>l.all fun i=>decide (js[i]?=some none)
theorem qy {js:List (Option Nat)}:∀ {l:List Nat},(l.all fun i=>decide (js[i]?=some none))=true->Gss js (tgLs l)
 | [],_=>wg
 | i::l,h=>by
  rw [List.all_cons,Bool.and_eq_true] at h
  refine ut (j7 (of_decide_eq_true h.1)) (qy h.2) gM ?_
  have mono:∀ (l:List Nat),∀ x σ H (Q Q':L2.St->Hp->Prop),(∀ a b,Q a b->Q' a b)->tgLs l x σ H Q->tgLs l x σ H Q':=by
   intro l
   induction l with
   | nil=>exact fun x σ H Q Q' h q=>⟨q.1,h _ _ q.2⟩
   | cons i l ih=>exact j8 gM ih
  exact mono l
theorem dF {K:PySem.W.Frag} {js:List (Option Nat)} {T:Tgt} (h:tgFree js T=true):Gsets js (tgL K T):=by
 cases T with
 | nm i=>exact j7 (of_decide_eq_true h)
 | tp l=>exact wf (qy h)
section
variable {M:Md} {Z:Zn} {F H:Hp}
theorem tz {l:List Nat}:∀ {σ:L2.St} {env:En} {vs:List V} {xs:List PV} {Q:L2.St->Hp->Prop},Sok M Z F σ H env->Reps M.K F vs xs->xs.length=l.length->(∀ σ',Sok M Z F σ' H (setAll l xs env)->Q σ' H)->tgLs l vs σ H Q:=by
 induction l with
 | nil =>
  intro σ env vs xs Q K r hl k
  cases r with
  | nil=>exact ⟨rfl,k σ K⟩
  | cons _ _=>simp at hl
 | cons i l ih =>
  intro σ env vs xs Q K r hl k
  cases r with
  | nil=>simp at hl
  | cons r1 r2=>exact ⟨_,_,rfl,ih (K.put r1) r2 (by simpa using hl) k⟩
theorem pk {T:Tgt} {σ:L2.St} {env:En} {v:V} {x:PV} {P:En->Prop} {Q:L2.St->Hp->Prop} (K:Sok M Z F σ H env) (r:Rep M.K F v x) (hf:tgW T x env P) (k:∀ env' σ',P env'->Sok M Z F σ' H env'->Q σ' H):tgL M.K T v σ H Q:=by
 cases T with
 | nm i=>exact k _ _ hf (K.put r)
 | tp l =>
  cases r with
  | tup h1 h2 =>
   have hf:_/\_:=hf
   exact ⟨_,_,rfl,au K.sF h1,by rw [h2.len]; exact hf.1,tz K h2 hf.1 fun σ' K'=>k _ σ' hf.2 K'⟩
  | _=>exact (show False from hf).elim
end
noncomputable def lcGo (g:WG) (c:WT) (f:WE) (js:List (Option Nat)) (P:PV->En->Prop):List PV->En->List PV->Prop
 | [],env,acc=>P (.lst acc) env
 | x::xs,env,acc=>g x (capE js env) fun b1=>c b1 fun ok b2=>if ok=true then f b2 fun y b3=>acc.length<=100000/\lcGo g c f js P xs (backE js env b3) (acc++[y]) else lcGo g c f js P xs (backE js env b2) acc
noncomputable def eLC (fi:WA) (T:Tgt) (c:WT) (f:WE) (js:List (Option Nat)):WE:=fun env P=>fi env fun xs e=>lcGo (tgW T) c f js P xs e []
section
variable {ob:ObK} {X:Cx} {tg elt iter kx vx:Expr} {ifs:List Expr} {scope:Scope} {pos:Pos} {fi:WA} {T:Tgt} {c:WT} {f fk:WE} {N:List Str} {js:List (Option Nat)}
theorem Sok.touch {M:Md} {Z:Zn} {F H:Hp} {σ:L2.St} {env:En} {fp:Nat->List Addr} {l:Addr} {o:HO} (K:Sok M Z F σ H env) (L:Slots M Z F σ H env fp) (hF:F l=none) (h0:Z.H₀ l=none) (hl:∀ i,l∉fp i):Sok M Z F σ (upd H l o) env/\Slots M Z F σ (upd H l o) env fp:=by
 have S:Slots M Z F σ (upd H l o) env fp:=by
  refine ⟨fun i s e=>?_,fun i a h=>?_,L.dj,L.oa⟩
  ·obtain ⟨v,h1,h2⟩:=L.at' i s e
   exact ⟨v,h1,h2.mono aj fun c hc=>aq fun z:c=l=>hl i (by rw [<- z]; exact hc)⟩
  ·have:=L.al i a h
   refine ⟨?_,this.2⟩
   rw [aq (fun z:a=l=>hl i (by rw [<- z]; exact h))]; exact this.1
 refine ⟨⟨fun a u e=>?_,fun b u h1 h2=>?_,fun b h=>?_,K.gr,K.nw,K.len,fp,S⟩,S⟩
 ·rw [aq (aF e hF)]; exact K.sF a u e
 ·rw [aq (aF h1 h0)]; exact K.sG b u h1 h2
 ·by_cases q:b=l
  ·subst q; rw [am]; simp
  ·rw [aq q]; exact K.pr b h
theorem nO {Z:Zn} {F:Hp} {σ:L2.St} {H:Hp} {env:En} {P:PV->En->Prop} {Q:VK} {xs:List PV} {J:It} (hj:jsOk js=true) (hT:tgFree js T=true) (K:Sok (md ob X) Z F σ H env) (I1:ItOk (md ob X) J F xs) (hf:lcGo (tgW T) c f js P xs env [])
  (kk:∀ x env' v F' H',P x env'->Same F F'->(∀ xs,x≠.set xs)->Sok (md ob X) Z F' (σ++[some v]) H' (env'++[some ⟨1,x⟩])->Q v H') (l:Addr) (hl:H l=none) :
  ∃ W:Nat->Nat->List V->Hp->Prop,(∃ m,W 0 m [] (upd H l (.lst [])))/\∀ i m ys H2,W i m ys H2 ->
  (J.stop i H2/\Q (.ref l) H2)\/(J.go i H2/\∀ x H3,J.yld i H2 x H3->tgL X.K T x (capS js σ) H3 fun σ4 H4=>rdT (md ob X) c σ4 H4 fun b H5 =>
   if b=true then rdE (md ob X) f σ4 H5 fun y H6=>H6 l=some (.lst ys)/\ys.length<sizeLine/\∃ m',m'<m/\W (i+1) m' (ys++[y]) (upd H6 l (.lst (ys++[y]))) else ∃ m',m'<m/\W (i+1) m' ys H5):=by
 refine ⟨fun i m ys H'=>m=xs.length - i/\H' l=some (.lst ys)/\∃ F' env' yps fp,Same F F'/\Sok (md ob X) Z F' σ H' env'/\Slots (md ob X) Z F' σ H' env' fp/\F' l=none/\(∀ i,l∉fp i)/\Reps X.K F' ys yps/\lcGo (tgW T) c f js P (xs.drop i) env' yps,?_,?_⟩
 ·obtain ⟨fp,L⟩:=K.sl
  have hF:F l=none:=Same.none_of K.sF hl
  have hn:∀ i,l∉fp i:=fun i h=>(L.al i l h).1 hl
  obtain ⟨K1,L1⟩:=K.touch (o:=.lst []) L hF (K.h0 hl) hn
  exact ⟨_,rfl,am,F,env,[],fp,aj,K1,L1,hF,hn,.nil,hf⟩
 rintro i m ys H2 ⟨rfl,hl2,F',env',yps,fp,s,K',L',hF',hn,ry,hg⟩
 have h0:Z.H₀ l=none:=K.h0 hl
 by_cases hlt:i<xs.length
 ·rw [List.drop_eq_getElem_cons hlt] at hg
  obtain ⟨h1,h2⟩:=I1.go Z i σ env' F' H2 xs[i] s K' (by simp [hlt])
  refine .inr ⟨h1,fun v H3 y=>?_⟩
  obtain ⟨F2,s2,K2,r2,sH,nw⟩:=h2 v H3 y
  have L2':Slots (md ob X) Z F2 σ H3 env' fp:=L'.move s2 (fun _ c o _ e=>sH c o e) nw
  have hF2:F2 l=none:=by
   cases e:F2 l with
   | none=>rfl
   | some o =>
    rcases nw l (by rw [e]; simp) with q | q
    ·exact absurd hF' q
    ·rw [hl2] at q; cases q
  have hl3:H3 l=some (.lst ys):=sH _ _ hl2
  have Kb:=mS hj K2 L2'
  have hσ4:∀ {σ4:L2.St},(∀ (k j:Nat),js[k]?=some (some j)->σ4[k]?=(capS js σ)[k]?)->True:=fun _=>trivial
  have tg':=dF (K:=X.K) hT v (capS js σ) H3 _ (pk (M:=md ob X) (Q:=fun σ4 H4=>H4=H3/\∃ b1,Sok (md ob X) (Zb js env' fp F2 H3) F2 σ4 H3 b1/\c b1 fun ok b2=>if ok=true then f b2 fun y b3=>yps.length<=100000/\lcGo (tgW T) c f js P (xs.drop (i+1)) (backE js env' b3) (yps++[y]) else lcGo (tgW T) c f js P (xs.drop (i+1)) (backE js env' b2) yps) Kb r2 hg fun e4 σ4 p4 K4=>⟨rfl,e4,K4,p4⟩)
  have mono:∀ (Q1 Q2:L2.St->Hp->Prop),(∀ a b,Q1 a b->Q2 a b)->tgL X.K T v (capS js σ) H3 Q1->tgL X.K T v (capS js σ) H3 Q2:=by
   have monoL:∀ (l:List Nat),∀ x σ H (Q Q':L2.St->Hp->Prop),(∀ a b,Q a b->Q' a b)->tgLs l x σ H Q->tgLs l x σ H Q':=by
    intro l
    induction l with
    | nil=>exact fun x σ H Q Q' h q=>⟨q.1,h _ _ q.2⟩
    | cons i l ih=>exact j8 gM ih
   intro Q1 Q2 hq q
   cases T with
   | nm i=>exact hq _ _ q
   | tp l =>
    obtain ⟨a,xs,e1,e2,e3,e4⟩:=q
    exact ⟨a,xs,e1,e2,e3,monoL l _ _ _ _ _ hq e4⟩
  refine mono _ _ ?_ tg'
  rintro σ4 H4 ⟨⟨rfl,b1,K4,p4⟩,hlen,hcap⟩
  refine ⟨_,F2,b1,_,K4,p4,fun b b2 F5 H5 p5 s5 K5=>?_⟩
  have again:∀ {F6 H6:Hp} {b3:En} {ys':List V} {yps':List PV},Same F2 F6->Sok (md ob X) (Zb js env' fp F2 H4) F6 σ4 H6 b3->lcGo (tgW T) c f js P (xs.drop (i+1)) (backE js env' b3) yps'->Reps X.K F6 ys' yps' ->
    H6 l=some (.lst ys)/\(∃ m',m'<xs.length - i/\m'=xs.length - (i+1)/\(upd H6 l (.lst ys')) l=some (.lst ys')/\∃ F' env' yps fp,Same F F'/\Sok (md ob X) Z F' σ (upd H6 l (.lst ys')) env'/\Slots (md ob X) Z F' σ (upd H6 l (.lst ys')) env' fp/\F' l=none/\(∀ i,l∉fp i)/\Reps X.K F' ys' yps/\lcGo (tgW T) c f js P (xs.drop (i+1)) env' yps):=fun {F6 H6 b3 ys' yps'} s6 K6 p6 r6=>by
   obtain ⟨fp',L6,K6',hnew⟩:=kT hj K2 L2' K6 hcap
   have hl6:H6 l=some (.lst ys):=K6.sG l _ hl3 fun z=>by
    obtain ⟨_,j,_,_,_,hm⟩:=dC z
    exact hn j hm
   have hF6:F6 l=none:=by
    cases e:F6 l with
    | none=>rfl
    | some o =>
     rcases K6.nw l (by rw [e]; simp) with q | q
     ·exact absurd hF2 q
     ·exact absurd q (by show H4 l≠none; rw [hl3]; simp)
   have hn6:∀ i,l∉fp' i:=fun i h=>by
    rcases hnew i l h with ⟨i',q⟩ | q
    ·exact hn i' q
    ·rw [hl3] at q; cases q
   obtain ⟨K7,L7⟩:=K6'.touch (o:=.lst ys') L6 hF6 h0 hn6
   exact ⟨hl6,_,by omega,rfl,am,F6,_,_,fp',ag s (ag s2 s6),K7,L7,hF6,hn6,r6,p6⟩
  cases b with
  | false =>
   refine iteF ?_
   obtain ⟨hl5,m',h1,h2,h3,F',env',yps,fp,q1,q2,q3,q4⟩:=again (ys':=ys) s5 K5 p5 ((ry.mono s2).mono s5)
   have e:upd H5 l (.lst ys)=H5:=by
    funext a
    by_cases z:a=l
    ·subst z; rw [am,hl5]
    ·rw [aq z]
   rw [e] at h3 q2 q3
   exact ⟨m',h1,h2,h3,F',env',yps,fp,q1,q2,q3,q4⟩
  | true =>
   refine iteT ⟨_,F5,b2,_,K5,p5,fun y b3 v6 F6 H6 p6 s6 K6 r6=>?_⟩
   obtain ⟨hl6,q⟩:=again (ys':=ys++[v6]) (ag s5 s6) K6 p6.2 ((((ry.mono s2).mono s5).mono s6).app (.cons r6 .nil))
   refine ⟨hl6,?_,q⟩
   have:=p6.1
   rw [ry.len,sizeLine_eq]; omega
 ·rw [List.drop_eq_nil_of_le (by omega)] at hg
  refine .inl ⟨I1.stop Z i σ env' F' H2 s K' (by omega),kk _ env' _ F' H2 hg s (fun _=>by simp) ?_⟩
  refine K'.slots (by simp [K'.len]) (L'.push (l:=[l]) (by simp) K'.len (.inr (.inl ⟨rfl,l,rfl,rfl,h0,ys,hl2,ry⟩)) (fun a ha=>?_) fun j a ha=>?_)
  ·simp at ha; subst ha
   exact ⟨by rw [hl2]; simp,hF'⟩
  ·simp at ha; subst ha
   exact hn j
theorem bF (hi:EvI ob X tg iter fi) (hg:∀ C s₀ H₀ ex pn,PG (cxComp X scope N C s₀ H₀ ex pn) tg (tgL X.K T)) (ht:∀ C s₀ H₀ ex pn,EvC ob (cxComp X scope N C s₀ H₀ ex pn) ifs c) (he:∀ C s₀ H₀ ex pn,EvS ob (cxComp X scope N C s₀ H₀ ex pn) elt f)
  (hj:autoParam (jsOk js=true) Z2._auto_1) (hT:autoParam (tgFree js T=true) Z2._auto_1)
  (hc:autoParam (X.calm=true) Z2._auto_1) (hx:autoParam (X.xe=(fun _ _=>False)) Z2._auto_1) (hsc:autoParam (scOk X.env scope=true) Z2._auto_1) (hcap:autoParam (capOk X.N scope N js=true) Z2._auto_1) (hkind:autoParam (scope.kind=.function) Z2._auto_1) (hs:autoParam (∀ x,foldedSetIterable iter X.env x=pure x) Z3._auto_1) :
  EvF ob X (.ListComp elt [⟨tg,iter,ifs,0⟩] scope pos) (eLC fi T c f js):=by
 obtain ⟨wi,hwi,k⟩:=hi.ex
 refine ⟨_,sR (wi:=wi) (g:=tgL X.K T) (tc:=rdT (md ob X) c) (te:=rdE (md ob X) f) (js:=js) hwi hg (fun C s₀ H₀ ex pn=>(ht C s₀ H₀ ex pn).ex) (fun C s₀ H₀ ex pn=>(he C s₀ H₀ ex pn).pe) (dF hT) hc hx hsc hcap hkind hs,fun Z F σ H env P Q K hf kk=>?_⟩
 refine k Z F σ H env _ _ K hf fun xs e1 J F1 H1 p s1 K1 I1 l hl=>?_
 exact nO hj hT K1 I1 p (fun x e2 v F2 H2 p2 s2 hx2 K2=>kk x e2 v F2 H2 p2 (ag s1 s2) hx2 K2) l hl
end
end Q
namespace Q
open PySem L2 PyProof.Rows
noncomputable def dcGo (g:WG) (c:WT) (fk f:WE) (js:List (Option Nat)) (P:PV->En->Prop):List PV->En->List (Key×PV)->Prop
 | [],env,acc=>P (.dic acc) env
 | x::xs,env,acc=>g x (capE js env) fun b1=>c b1 fun ok b2=>if ok=true then fk b2 fun kk b3=>f b3 fun y b4=>acc.length<=100000/\opt (keyP kk) fun key=>dcGo g c fk f js P xs (backE js env b4) (putP acc key y) else dcGo g c fk f js P xs (backE js env b2) acc
noncomputable def eDC (fi:WA) (T:Tgt) (c:WT) (fk f:WE) (js:List (Option Nat)):WE:=fun env P=>fi env fun xs e=>dcGo (tgW T) c fk f js P xs e []
section
variable {ob:ObK} {X:Cx} {tg elt iter kx vx:Expr} {ifs:List Expr} {scope:Scope} {pos:Pos} {fi:WA} {T:Tgt} {c:WT} {f fk:WE} {N:List Str} {js:List (Option Nat)}
theorem uH {Z:Zn} {F:Hp} {σ:L2.St} {H:Hp} {env:En} {P:PV->En->Prop} {Q:VK} {xs:List PV} {J:It} (hj:jsOk js=true) (hT:tgFree js T=true) (K:Sok (md ob X) Z F σ H env) (I1:ItOk (md ob X) J F xs) (hf:dcGo (tgW T) c fk f js P xs env [])
  (kk:∀ x env' v F' H',P x env'->Same F F'->(∀ xs,x≠.set xs)->Sok (md ob X) Z F' (σ++[some v]) H' (env'++[some ⟨1,x⟩])->Q v H') (l:Addr) (hl:H l=none) :
  ∃ W:Nat->Nat->List (Key×V)->Hp->Prop,(∃ m,W 0 m [] (upd H l (.dK [])))/\∀ i m ys H2,W i m ys H2 ->
  (J.stop i H2/\Q (.ref l) H2)\/(J.go i H2/\∀ x H3,J.yld i H2 x H3->tgL X.K T x (capS js σ) H3 fun σ4 H4=>rdT (md ob X) c σ4 H4 fun b H5 =>
   if b=true then rdE (md ob X) fk σ4 H5 fun kk H6=>rdE (md ob X) f σ4 H6 fun y H7=>∃ key,kk=kV key/\H7 l=some (.dK ys)/\ys.length<sizeLine/\∃ m',m'<m/\W (i+1) m' (putK ys key y) (upd H7 l (.dK (putK ys key y))) else ∃ m',m'<m/\W (i+1) m' ys H5):=by
 refine ⟨fun i m ys H'=>m=xs.length - i/\H' l=some (.dK ys)/\∃ F' env' yps fp,Same F F'/\Sok (md ob X) Z F' σ H' env'/\Slots (md ob X) Z F' σ H' env' fp/\F' l=none/\(∀ i,l∉fp i)/\RepsK X.K F' ys yps/\dcGo (tgW T) c fk f js P (xs.drop i) env' yps,?_,?_⟩
 ·obtain ⟨fp,L⟩:=K.sl
  have hF:F l=none:=Same.none_of K.sF hl
  have hn:∀ i,l∉fp i:=fun i h=>(L.al i l h).1 hl
  obtain ⟨K1,L1⟩:=K.touch (o:=.dK []) L hF (K.h0 hl) hn
  exact ⟨_,rfl,am,F,env,[],fp,aj,K1,L1,hF,hn,.nil,hf⟩
 rintro i m ys H2 ⟨rfl,hl2,F',env',yps,fp,s,K',L',hF',hn,ry,hg⟩
 have h0:Z.H₀ l=none:=K.h0 hl
 by_cases hlt:i<xs.length
 ·rw [List.drop_eq_getElem_cons hlt] at hg
  obtain ⟨h1,h2⟩:=I1.go Z i σ env' F' H2 xs[i] s K' (by simp [hlt])
  refine .inr ⟨h1,fun v H3 y=>?_⟩
  obtain ⟨F2,s2,K2,r2,sH,nw⟩:=h2 v H3 y
  have L2':Slots (md ob X) Z F2 σ H3 env' fp:=L'.move s2 (fun _ c o _ e=>sH c o e) nw
  have hF2:F2 l=none:=by
   cases e:F2 l with
   | none=>rfl
   | some o =>
    rcases nw l (by rw [e]; simp) with q | q
    ·exact absurd hF' q
    ·rw [hl2] at q; cases q
  have hl3:H3 l=some (.dK ys):=sH _ _ hl2
  have Kb:=mS hj K2 L2'
  have hσ4:∀ {σ4:L2.St},(∀ (k j:Nat),js[k]?=some (some j)->σ4[k]?=(capS js σ)[k]?)->True:=fun _=>trivial
  have tg':=dF (K:=X.K) hT v (capS js σ) H3 _ (pk (M:=md ob X) (Q:=fun σ4 H4=>H4=H3/\∃ b1,Sok (md ob X) (Zb js env' fp F2 H3) F2 σ4 H3 b1/\c b1 fun ok b2=>if ok=true then fk b2 fun kk b3=>f b3 fun y b4=>yps.length<=100000/\opt (keyP kk) fun key=>dcGo (tgW T) c fk f js P (xs.drop (i+1)) (backE js env' b4) (putP yps key y) else dcGo (tgW T) c fk f js P (xs.drop (i+1)) (backE js env' b2) yps) Kb r2 hg fun e4 σ4 p4 K4=>⟨rfl,e4,K4,p4⟩)
  have mono:∀ (Q1 Q2:L2.St->Hp->Prop),(∀ a b,Q1 a b->Q2 a b)->tgL X.K T v (capS js σ) H3 Q1->tgL X.K T v (capS js σ) H3 Q2:=by
   have monoL:∀ (l:List Nat),∀ x σ H (Q Q':L2.St->Hp->Prop),(∀ a b,Q a b->Q' a b)->tgLs l x σ H Q->tgLs l x σ H Q':=by
    intro l
    induction l with
    | nil=>exact fun x σ H Q Q' h q=>⟨q.1,h _ _ q.2⟩
    | cons i l ih=>exact j8 gM ih
   intro Q1 Q2 hq q
   cases T with
   | nm i=>exact hq _ _ q
   | tp l =>
    obtain ⟨a,xs,e1,e2,e3,e4⟩:=q
    exact ⟨a,xs,e1,e2,e3,monoL l _ _ _ _ _ hq e4⟩
  refine mono _ _ ?_ tg'
  rintro σ4 H4 ⟨⟨rfl,b1,K4,p4⟩,hlen,hcap⟩
  refine ⟨_,F2,b1,_,K4,p4,fun b b2 F5 H5 p5 s5 K5=>?_⟩
  have again:∀ {F6 H6:Hp} {b3:En} {ys':List (Key×V)} {yps':List (Key×PV)},Same F2 F6->Sok (md ob X) (Zb js env' fp F2 H4) F6 σ4 H6 b3->dcGo (tgW T) c fk f js P (xs.drop (i+1)) (backE js env' b3) yps'->RepsK X.K F6 ys' yps' ->
    H6 l=some (.dK ys)/\(∃ m',m'<xs.length - i/\m'=xs.length - (i+1)/\(upd H6 l (.dK ys')) l=some (.dK ys')/\∃ F' env' yps fp,Same F F'/\Sok (md ob X) Z F' σ (upd H6 l (.dK ys')) env'/\Slots (md ob X) Z F' σ (upd H6 l (.dK ys')) env' fp/\F' l=none/\(∀ i,l∉fp i)/\RepsK X.K F' ys' yps/\dcGo (tgW T) c fk f js P (xs.drop (i+1)) env' yps):=fun {F6 H6 b3 ys' yps'} s6 K6 p6 r6=>by
   obtain ⟨fp',L6,K6',hnew⟩:=kT hj K2 L2' K6 hcap
   have hl6:H6 l=some (.dK ys):=K6.sG l _ hl3 fun z=>by
    obtain ⟨_,j,_,_,_,hm⟩:=dC z
    exact hn j hm
   have hF6:F6 l=none:=by
    cases e:F6 l with
    | none=>rfl
    | some o =>
     rcases K6.nw l (by rw [e]; simp) with q | q
     ·exact absurd hF2 q
     ·exact absurd q (by show H4 l≠none; rw [hl3]; simp)
   have hn6:∀ i,l∉fp' i:=fun i h=>by
    rcases hnew i l h with ⟨i',q⟩ | q
    ·exact hn i' q
    ·rw [hl3] at q; cases q
   obtain ⟨K7,L7⟩:=K6'.touch (o:=.dK ys') L6 hF6 h0 hn6
   exact ⟨hl6,_,by omega,rfl,am,F6,_,_,fp',ag s (ag s2 s6),K7,L7,hF6,hn6,r6,p6⟩
  cases b with
  | false =>
   refine iteF ?_
   obtain ⟨hl5,m',h1,h2,h3,F',env',yps,fp,q1,q2,q3,q4⟩:=again (ys':=ys) s5 K5 p5 ((ry.mono s2).mono s5)
   have e:upd H5 l (.dK ys)=H5:=by
    funext a
    by_cases z:a=l
    ·subst z; rw [am,hl5]
    ·rw [aq z]
   rw [e] at h3 q2 q3
   exact ⟨m',h1,h2,h3,F',env',yps,fp,q1,q2,q3,q4⟩
  | true =>
   refine iteT ⟨_,F5,b2,_,K5,p5,fun kx b3 v6 F6 H6 p6 s6 K6 r6=>⟨_,F6,b3,_,K6,p6,fun y b4 v7 F7 H7 p7 s7 K7 r7=>?_⟩⟩
   obtain ⟨p7,key,hkey,p8⟩:=p7
   have s67:=ag s5 (ag s6 s7)
   obtain ⟨hl6,q⟩:=again (ys':=putK ys key v7) s67 K7 p8 (((ry.mono s2).mono s67).put r7)
   refine ⟨key,j6 hkey r6,hl6,?_,q⟩
   rw [ry.len,sizeLine_eq]; omega
 ·rw [List.drop_eq_nil_of_le (by omega)] at hg
  refine .inl ⟨I1.stop Z i σ env' F' H2 s K' (by omega),kk _ env' _ F' H2 hg s (fun _=>by simp) ?_⟩
  refine K'.slots (by simp [K'.len]) (L'.push (l:=[l]) (by simp) K'.len (.inr (.inl ⟨rfl,l,rfl,rfl,h0,ys,hl2,ry⟩)) (fun a ha=>?_) fun j a ha=>?_)
  ·simp at ha; subst ha
   exact ⟨by rw [hl2]; simp,hF'⟩
  ·simp at ha; subst ha
   exact hn j
theorem wO (hi:EvI ob X tg iter fi) (hg:∀ C s₀ H₀ ex pn,PG (cxComp X scope N C s₀ H₀ ex pn) tg (tgL X.K T)) (ht:∀ C s₀ H₀ ex pn,EvC ob (cxComp X scope N C s₀ H₀ ex pn) ifs c) (hk:∀ C s₀ H₀ ex pn,EvS ob (cxComp X scope N C s₀ H₀ ex pn) kx fk) (he:∀ C s₀ H₀ ex pn,EvS ob (cxComp X scope N C s₀ H₀ ex pn) vx f)
  (hj:autoParam (jsOk js=true) Z2._auto_1) (hT:autoParam (tgFree js T=true) Z2._auto_1)
  (hc:autoParam (X.calm=true) Z2._auto_1) (hx:autoParam (X.xe=(fun _ _=>False)) Z2._auto_1) (hsc:autoParam (scOk X.env scope=true) Z2._auto_1) (hcap:autoParam (capOk X.N scope N js=true) Z2._auto_1) (hkind:autoParam (scope.kind=.function) Z2._auto_1) (hs:autoParam (∀ x,foldedSetIterable iter X.env x=pure x) Z3._auto_1) :
  EvF ob X (.DictComp kx vx [⟨tg,iter,ifs,0⟩] scope pos) (eDC fi T c fk f js):=by
 obtain ⟨wi,hwi,k⟩:=hi.ex
 refine ⟨_,wF (wi:=wi) (g:=tgL X.K T) (tc:=rdT (md ob X) c) (tk:=rdE (md ob X) fk) (te:=rdE (md ob X) f) (js:=js) hwi hg (fun C s₀ H₀ ex pn=>(ht C s₀ H₀ ex pn).ex) (fun C s₀ H₀ ex pn=>(hk C s₀ H₀ ex pn).pe) (fun C s₀ H₀ ex pn=>(he C s₀ H₀ ex pn).pe) (dF hT) hc hx hsc hcap hkind hs,fun Z F σ H env P Q K hf kk=>?_⟩
 refine k Z F σ H env _ _ K hf fun xs e1 J F1 H1 p s1 K1 I1 l hl=>?_
 exact uH hj hT K1 I1 p (fun x e2 v F2 H2 p2 s2 hx2 K2=>kk x e2 v F2 H2 p2 (ag s1 s2) hx2 K2) l hl
end
end Q
namespace Q
open PySem L2 PyProof.Rows
noncomputable abbrev LM:=List PV->List PV->Option (PV×List PV)
noncomputable def eLM (m:LM) (i:Nat) (fa:WA):WE:=fun env P=>(match env[i]? with | some (some ⟨1,.lst _⟩)=>True | some (some ⟨3,.lst _⟩)=>True | _=>False)/\fa env fun xs e=>match e[i]? with
 | some (some ⟨1,.lst ys⟩)=>opt (m ys xs) fun r=>P r.1 (e.set i (some ⟨1,.lst r.2⟩))
 | some (some ⟨3,.lst ys⟩)=>opt (m ys xs) fun r=>P r.1 (e.set i (some ⟨3,.lst r.2⟩))
 | _=>False
noncomputable def MtQ (K:PySem.W.Frag) (r:V->List V->Hp->VK->Prop) (m:LM):Prop :=
 ∀ (F H:Hp) (l:Addr) (ys vs:List V) (ps xs:List PV) (z:PV) (ps':List PV) (Q:VK),Same F H->H l=some (.lst ys)->Reps K F ys ps->Reps K F vs xs->m ps xs=some (z,ps') ->
  (∀ v ys',Rep K F v z->Reps K F ys' ps'->Q v (upd H l (.lst ys')))->r (.ref l) vs H Q
section
variable {ob:ObK} {X:Cx} {a b c e:Expr} {es:List Expr} {f g h:WE} {fa:WA} {pos p apos cpos:Pos} {x name:Str} {idn:String} {r:V->List V->Hp->VK->Prop} {m:LM}
theorem vK {t:TA} {i:Nat} (hq:MtQ X.K r m) (k:∀ (Z:Zn) (F:Hp) (σ:L2.St) (H:Hp) (env:En) (P:List PV->En->Prop) (Q:List V->Hp->Prop),Sok (md ob X) Z F σ H env->fa env P->(∀ xs env' vs F' H',P xs env'->xs.length=es.length->Same F F'->Sok (md ob X) Z F' σ H' env'->Reps X.K F' vs xs->Q vs H')->t σ H Q) :
  ∀ (Z:Zn) (F:Hp) (σ:L2.St) (H:Hp) (env:En) (P:PV->En->Prop) (Q:VK),Sok (md ob X) Z F σ H env->eLM m i fa env P->(∀ x env' v F' H',P x env'->Same F F'->Sok (md ob X) Z F' σ H' env'->Rep X.K F' v x->Q v H')->tBM X.K "list" r (tVar i) t σ H Q:=by
 intro Z F σ H env P Q K hf kk
 obtain ⟨h0,hf⟩:=hf
 obtain ⟨a,hσ,vs0,ha⟩:∃ a,σ[i]?=some (some (.ref a))/\∃ vs,H a=some (.lst vs):=by
  split at h0
  ·rename_i e
   obtain ⟨a,h1,vs,h2,_⟩:=K.ownAt (.inl rfl) e
   exact ⟨a,h1,vs,h2⟩
  ·rename_i e
   obtain ⟨a,h1,vs,h2,_⟩:=K.ownAt (.inr rfl) e
   exact ⟨a,h1,vs,h2⟩
  ·exact h0.elim
 refine ⟨_,hσ,.inl ⟨rfl,vs0,.inl (.inl ha)⟩,?_⟩
 refine k Z F σ H env _ _ K hf fun xs e1 vs F1 H1 p _ s1 K1 r1=>?_
 have fin:∀ (kd:Nat) (ys:List PV),kd=1\/kd=3->e1[i]?=some (some ⟨kd,.lst ys⟩)->opt (m ys xs) (fun r=>P r.1 (e1.set i (some ⟨kd,.lst r.2⟩)))->r (.ref a) vs H1 Q:=fun kd ys hk ei ⟨⟨z,ys'⟩,hm,p⟩=>by
  obtain ⟨a',h1,ws,h2,h3⟩:=K1.ownAt hk ei
  rw [hσ] at h1; cases h1
  refine hq F1 H1 a ws vs ys xs z ys' Q K1.sF h2 h3 r1 hm fun v us rv ru=>?_
  exact kk z _ v F1 _ p s1 (K1.write (o:=.lst us) hk ei hσ ⟨us,am,ru⟩) rv
 split at p
 ·rename_i ei; exact fin _ _ (.inl rfl) ei p
 ·rename_i ei; exact fin _ _ (.inr rfl) ei p
 ·exact p.elim
theorem lD (i:Nat) (slot:Slot "list" name idn) (hty:typeOf (.builtin idn)=pure (.type "method_descriptor")) (hm:MtR X idn r) (hq:MtQ X.K r m) (ho:PE X (.Name x p) (tVar i)) (ha:EvA ob X (e::es) fa)
  (hbase:autoParam (attributeBase (.Name x p) name X.env (eval (.Name x p) X.env)=eval (.Name x p) X.env) Z2._auto_1)
  (hfew:autoParam (((backTo cpos (starEach (e::es) X.env)).all (fun x=>!x.1) && (backToKw cpos (keywordEach [] X.env)).all (fun x=>x.1.isSome)
   && decide ((e::es).length+([]:List Keyword).length+(if ([]:List Keyword).isEmpty then 0 else 1)<30))=true) Z2._auto_1)
  (hline:autoParam ((apos.endLine==cpos.line)=true) Z2._auto_1) (hs:autoParam (starEach (e::es) X.env=(false,eval e X.env)::starEach es X.env) Z2._auto_1) (hplain:autoParam ((backTo cpos (starEach es X.env)).any (·.1)=false) Z2._auto_1) :
  EvS ob X (.Call (.Attribute (.Name x p) name apos) (e::es) [] cpos) (eLM m i fa):=by
 obtain ⟨t,ht,k⟩:=ha.ex
 exact ⟨_,sT PySem.F.plainAttrs_list slot hty hm ho ht hbase hfew hline hs hplain,vK hq k⟩
noncomputable def cq:LM:=fun ys xs=>match xs with
 | [x]=>if ys.length<=100000 then some (.non,ys++[x]) else none
 | _=>none
theorem eh:MtQ X.K nF cq:=by
 intro F H l ys vs ps xs z ps' Q sF hl ry rx hm k
 unfold cq at hm
 split at hm
 ·split at hm
  ·cases hm
   cases rx with
   | cons r1 r2 =>
    cases r2
    refine ⟨l,ys,_,rfl,rfl,hl,?_,k _ _ .non (ry.app (.cons r1 .nil))⟩
    rw [ry.len,sizeLine_eq]; omega
  ·cases hm
 ·cases hm
noncomputable def setPV:PV->PV->PV->Option PV
 | .lst xs,.int i,v=>(ixN xs.length i).map fun j=>.lst (xs.set j v)
 | .dic kvs,y,v=>if kvs.length<=100000 then (keyP y).map fun k=>.dic (putP kvs k v) else none
 | _,_,_=>none
noncomputable def sPut (i:Nat) (fv fk:WE):WS:=fun P env=>fv env fun v e1=>(e1[i]?).join.isSome=true/\fk e1 fun y e2=>match e2[i]? with
 | some (some ⟨1,x⟩)=>opt (setPV x y v) fun z=>P.nx (e2.set i (some ⟨1,z⟩))
 | some (some ⟨3,x⟩)=>opt (setPV x y v) fun z=>P.nx (e2.set i (some ⟨3,z⟩))
 | _=>False
end
end Q
namespace Q
open PySem L2 PyProof.Rows
section
variable {ob:ObK} {X:Cx} {a b c e ke:Expr} {es:List Expr} {f g h fk:WE} {fa:WA} {pos p apos cpos:Pos} {x name:Str}
noncomputable def rSetD:TSet:=fun o i v H Q=>∃ a H',o=.ref a/\DPut H a i v H'/\Q H'
theorem rp (hu:X.A.units+1<cLine):PSet X rSetD:=by
 intro pins s σ H o i v ov iv u Q I ro ri rv h
 obtain ⟨a,H',rfl,g,q⟩:=h
 cases ro
 exact qO hu I g ri rv fun s4 I4=>⟨H',I4,q⟩
theorem PSet.or {t u:TSet} (h:PSet X t) (h':PSet X u):PSet X (fun o i v H Q=>t o i v H Q\/u o i v H Q):=by
 intro pins s σ H o i v ov iv w Q I ro ri rv q
 rcases q with q | q
 ·exact h pins s σ H o i v ov iv w Q I ro ri rv q
 ·exact h' pins s σ H o i v ov iv w Q I ro ri rv q
theorem mD (i:Nat) {spos:Pos} (hu:X.A.units+1<cLine) (hv:EvS ob X e f) (ho:PE X (.Name x p) (tVar i)) (hk:EvS ob X ke fk)
  (hs:autoParam (swapsWithSole [.Subscript (.Name x p) ke pos] e spos.line X.env=pure false) Z2._auto_1) (hw:autoParam (swappedStores [.Subscript (.Name x p) ke pos] e X.env=pure none) Z2._auto_1)
  (h1:autoParam ((assignEach [.Subscript (.Name x p) ke pos] X.env).map (·.2)=[assign (.Subscript (.Name x p) ke pos) X.env]) Z2._auto_1)
  (ha:autoParam (∀ v,assign (.Subscript (.Name x p) ke pos) X.env v=(do
   let ov <- holding [v] (eval (.Name x p) X.env)
   let iv <- holding [v,ov] (eval ke X.env)
   standAt pos
   holding [v,ov,iv] (setItem ov iv v)
   release [v,ov,iv] [])) Z3._auto_1):EvX ob X (.Assign [.Subscript (.Name x p) ke pos] e spos) (sPut i f fk):=by
 obtain ⟨t,ht,k⟩:=hv.ex
 obtain ⟨t2,ht2,k2⟩:=hk.ex
 refine ⟨_,i9 ht (lW ho ht2 (PSet.or ia (rp hu)) ha) hs hw h1,fun Z F σ H env P D K hf L=>k Z F σ H env _ _ K hf fun v e1 v' F1 H1 p s1 K1 r1=>?_⟩
 obtain ⟨h0,p⟩:=p
 obtain ⟨w,hw⟩:∃ v,σ[i]?=some (some v):=by
  cases e:e1[i]? with
  | none=>rw [e] at h0; cases h0
  | some w =>
   cases w with
   | none=>rw [e] at h0; cases h0
   | some s =>
    obtain ⟨fp,L⟩:=K1.sl
    obtain ⟨v,hv,_⟩:=L.at' i s e
    exact ⟨v,hv⟩
 refine ⟨w,hw,k2 Z F1 σ H1 e1 _ _ K1 p fun y e2 y' F2 H2 p2 s2 K2 r2=>?_⟩
 have fin:∀ (kd:Nat) (x:PV),kd=1\/kd=3->e2[i]?=some (some ⟨kd,x⟩)->opt (setPV x y v) (fun z=>P.nx (e2.set i (some ⟨kd,z⟩)))->(rSetL w y' v' H2 fun H3=>D.nx σ H3)\/rSetD w y' v' H2 fun H3=>D.nx σ H3:=fun kd x hk ei ⟨z,hz,p⟩=>by
  obtain ⟨a,h1,hx⟩:=K2.ownAt hk ei
  rw [hw] at h1; cases h1
  have r1':=r1.mono s2
  unfold setPV at hz
  split at hz
  ·rw [Option.map_eq_some_iff] at hz
   obtain ⟨j,hj,rfl⟩:=hz
   obtain ⟨vs,h2,h3⟩:=hx
   cases r2
   exact .inl ⟨a,vs,_,j,rfl,rfl,h2,by rw [h3.len]; exact hj,L.nx _ _ F2 _ p (ag s1 s2) (K2.write (o:=.lst (vs.set j v')) hk ei hw ⟨_,am,h3.setL j r1'⟩)⟩
  ·split at hz
   ·rw [Option.map_eq_some_iff] at hz
    obtain ⟨j,hj,rfl⟩:=hz
    obtain ⟨vs,h2,h3⟩:=hx
    have hy:=j6 hj r2
    subst hy
    exact .inr ⟨a,_,rfl,DPut.k h2 (by rw [h3.len,sizeLine_eq]; omega),L.nx _ _ F2 _ p (ag s1 s2) (K2.write (o:=.dK (putK vs j v')) hk ei hw ⟨_,am,h3.put r1'⟩)⟩
   ·cases hz
  ·cases hz
 split at p2
 ·rename_i ei; exact fin _ _ (.inl rfl) ei p2
 ·rename_i ei; exact fin _ _ (.inr rfl) ei p2
 ·exact p2.elim
end
noncomputable abbrev Fd:=List PV->(PV->Prop)->Prop
noncomputable def spQ (M:Md) (n:Nat) (D:Fd):Sp:=fun vs H Q _=>∃ (F:Hp) (xs:List PV) (P:PV->Prop),Same F H/\Reps M.K F vs xs/\xs.length=n/\D xs P /\
 ∀ r v F' H',P r->Same H H'->Same F F'->Same F' H'->(∀ a,F' a≠none->F a≠none\/H a=none)->Rep M.K F' v r->Q v H'
noncomputable def startE (n:Nat) (xs:List PV):En:=xs.map (fun x=>some ⟨0,x⟩)++List.replicate (n - xs.length) none
noncomputable def endD (P:PV->Prop):Wd:={ nx:=fun _=>P .non,rt:=fun x _=>P x }
noncomputable def run (n:Nat) (u:WS):Fd:=fun xs P=>u (endD P) (startE n xs)
noncomputable abbrev FdO:=PV->List PV->(PV->PV->Prop)->Prop
noncomputable def spO (M:Md) (n:Nat) (D:FdO):Sp:=fun vs H Q _=>∃ (F:Hp) (a:Addr) (l:List Addr) (c:PV) (ws:List V) (xs:List PV) (P:PV->PV->Prop),vs=.ref a::ws/\Same F H/\Reps M.K F ws xs/\xs.length+1=n /\
 M.ob.P F H a l c/\(∀ b∈l,H b≠none/\F b=none)/\D c xs P /\
 ∀ r c' v F' H' l',P r c'->(∀ b o,H b=some o->b∉l->H' b=some o)->(∀ b,H b≠none->H' b≠none)->Same F F'->Same F' H'->(∀ a,F' a≠none->F a≠none\/H a=none)->M.ob.P F' H' a l' c'->(∀ b∈l',H' b≠none/\F' b=none)->(∀ b∈l',b∈l\/H b=none)->Rep M.K F' v r->Q v H'
noncomputable def ob0 (P:PV->Prop) (e:En):Prop:=match e[(0:Nat)]? with
 | some (some ⟨2,c⟩)=>P c
 | _=>False
noncomputable def endO (P:PV->PV->Prop):Wd:={ nx:=fun e=>ob0 (P .non) e,rt:=fun x e=>ob0 (P x) e }
noncomputable def runO (n:Nat) (u:WS):FdO:=fun c xs P=>u (endO P) (some ⟨2,c⟩::startE (n - 1) xs)
section
variable {M:Md} {F H:Hp}
theorem kD {N:List Str} {vs:List V} (h:vs.length<=N.length):(start N vs).length=N.length:=by
 unfold L2.start
 rw [List.length_append,List.length_map,List.length_replicate]; omega
theorem iY {n:Nat} {xs:List PV} (h:xs.length<=n):(startE n xs).length=n:=by
 unfold startE
 rw [List.length_append,List.length_map,List.length_replicate]; omega
theorem iZ {n:Nat} {xs:List PV} {i:Nat} {s:Sl} (h:(startE n xs)[i]?=some (some s)):∃ x,xs[i]?=some x/\s=⟨0,x⟩:=by
 unfold startE at h
 rcases Nat.lt_or_ge i xs.length with q | q
 ·rw [List.getElem?_append_left (by simpa using q),List.getElem?_map,List.getElem?_eq_getElem q] at h
  exact ⟨xs[i],by simp [q],(Option.some.inj (Option.some.inj h)).symm⟩
 ·rw [List.getElem?_append_right (by simpa using q),List.getElem?_replicate] at h
  split at h <;> cases h
theorem dY {N:List Str} {vs:List V} {i:Nat} {v:V} (h:vs[i]?=some v):(start N vs)[i]?=some (some v):=by
 unfold L2.start
 have q:i<vs.length:=by
  rcases Nat.lt_or_ge i vs.length with q | q
  ·exact q
  ·rw [List.getElem?_eq_none q] at h; cases h
 rw [List.getElem?_append_left (by simpa using q),List.getElem?_map,h]; rfl
theorem pq {N:List Str} {vs:List V} {xs:List PV} (sF:Same F H) (r:Reps M.K F vs xs) (hl:xs.length<=N.length):Sok M ⟨H,F,[],fun _=>none,fun _ h=>by simp at h⟩ F (start N vs) H (startE N.length xs):=by
 have hl':vs.length<=N.length:=by rw [r.len]; exact hl
 refine ⟨sF,fun b o h _=>h,fun b h=>h,aj,fun a h=>.inl h,by rw [iY hl,kD hl'],fun _=>[],fun i s h=>?_,fun i a h=>by simp at h,fun i j a _ h=>by simp at h,fun i a s h=>by cases h⟩
 obtain ⟨x,hx,rfl⟩:=iZ h
 obtain ⟨v,hv,rv⟩:=r.get hx
 exact ⟨v,dY hv,.inl ⟨rfl,rfl,rv⟩⟩
theorem oq {N:List Str} {ws:List V} {xs:List PV} {a:Addr} {l:List Addr} {c:PV} (sF:Same F H) (r:Reps M.K F ws xs) (hl:xs.length+1<=N.length) (ho:M.ob.P F H a l c) (hb:∀ b∈l,H b≠none/\F b=none) :
  Sok M ⟨H,F,l,fun i=>if i=0 then some a else none,fun b h=>(hb b h).1⟩ F (start N (.ref a::ws)) H (some ⟨2,c⟩::startE (N.length - 1) xs):=by
 have hl':ws.length+1<=N.length:=by rw [r.len]; exact hl
 refine ⟨sF,fun b o h _=>h,fun b h=>h,aj,fun a h=>.inl h,?_,fun i=>if i=0 then l else [],fun i s h=>?_,fun i b h=>?_,fun i j b hij h z=>?_,fun i b s h _ _=>?_⟩
 ·rw [List.length_cons,iY (by omega),kD (by simpa using hl')]; omega
 ·cases i with
  | zero =>
   have h:s=⟨2,c⟩:=by simpa using h.symm
   subst h
   exact ⟨.ref a,dY rfl,.inr (.inr (.inl ⟨.inl rfl,a,rfl,fun c hc=>.inl hc,ho⟩))⟩
  | succ i =>
   have h:(startE (N.length - 1) xs)[i]?=some (some s):=by simpa using h
   obtain ⟨x,hx,rfl⟩:=iZ h
   obtain ⟨v,hv,rv⟩:=r.get hx
   exact ⟨v,dY (by simpa using hv),.inl ⟨rfl,rfl,rv⟩⟩
 ·split at h
  ·exact hb b h
  ·simp at h
 ·split at h
  ·split at z
   ·rename_i h1 h2; exact hij (h1.trans h2.symm)
   ·simp at z
  ·simp at h
 ·dsimp only at h
  split at h
  ·rename_i e; subst e; cases h; exact dY rfl
  ·cases h
end
section
variable {P:Program} {w:World} {K:PySem.W.Frag} {mg:Str->Option Value} {base:Heap} {ob:ObK}
theorem bq {x qual:Str} {st:Stmt} {f:Addr} {fd:FuncData} {N ps:List Str} {k:Nat} {u:WS} (F:Fun K x qual st f fd) (S:aD N ps (av st)) (hn:ps.length<=N.length)
  (hb:∀ (cdv:Value) (A:Around) (outer:List Env) (s:Shared) (H:Hp) (E:XK),Room k (A.deeper (envOfC qual (av st) s.heap.objs.size f cdv))->EvXs ob (cxOf CX0 P w K mg base N qual (av st) f cdv A outer s H E).nox (b5 st) u) :
  FnOk P w K mg base CX0 (k+1) f fd ps (spQ ⟨P,w,K,ob⟩ ps.length (run N.length u)):=by
 refine F.ok S (fun vs H Q E h=>?_) (fun cdv A outer s H vs Q E hr h=>?_)
 ·obtain ⟨F,xs,P,_,r,hl,_⟩:=h
  rw [r.len]; exact hl
 ·obtain ⟨F,xs,P',sF,r,hl,hD,kk⟩:=h
  obtain ⟨t,ht,kt⟩:=(hb cdv A outer s H E hr).ex
  refine ⟨t,ht,kt ⟨H,F,[],fun _=>none,fun _ h=>by simp at h⟩ F (start N vs) H (startE N.length xs) (endD P') _ (pq (M:=⟨P,w,K,ob⟩) sF r (by omega)) hD ⟨fun env σ F' H' p s1 K1=>?_,fun x env v σ F' H' p s1 K1 rv=>?_,fun _ _ _ _ p=>p.elim,fun _ _ _ _ p=>p.elim,fun _ _ _ _ _ _ p=>p.elim,fun _ _ _ _ _ _ _ p=>p.elim⟩⟩
  ·exact kk .non .non F' H' p (fun b o h=>K1.sG b o h (by simp)) s1 K1.sF K1.nw .non
  ·exact kk x v F' H' p (fun b o h=>K1.sG b o h (by simp)) s1 K1.sF K1.nw rv
theorem cX {x qual:Str} {st:Stmt} {f:Addr} {fd:FuncData} {N ps:List Str} {k:Nat} {u:WS} (F:Fun K x qual st f fd) (S:aD N ps (av st)) (hn:ps.length<=N.length)
  (hb:∀ (cdv:Value) (A:Around) (outer:List Env) (s:Shared) (H:Hp) (E:XK),Room k (A.deeper (envOfC qual (av st) s.heap.objs.size f cdv))->EvXs ob (cxOf CX0 P w K mg base N qual (av st) f cdv A outer s H E).nox (b5 st) u) :
  FnOk P w K mg base CX0 (k+1) f fd ps (spO ⟨P,w,K,ob⟩ ps.length (runO N.length u)):=by
 refine F.ok S (fun vs H Q E h=>?_) (fun cdv A outer s H vs Q E hr h=>?_)
 ·obtain ⟨F,a,l,c,ws,xs,P,rfl,_,r,hl,_⟩:=h
  rw [List.length_cons,r.len]; exact hl
 ·obtain ⟨F,a,l,c,ws,xs,P',rfl,sF,r,hl,ho,hbl,hD,kk⟩:=h
  obtain ⟨t,ht,kt⟩:=(hb cdv A outer s H E hr).ex
  have fin:∀ (x:PV) (env:En) (v:V) (σ:L2.St) (F' H':Hp),ob0 (P' x) env->Same F F'->Sok ⟨P,w,K,ob⟩ ⟨H,F,l,fun i=>if i=0 then some a else none,fun b h=>(hbl b h).1⟩ F' σ H' env->Rep K F' v x->Q v H':=fun x env v σ F' H' p s1 K1 rv=>by
   unfold ob0 at p
   split at p
   ·rename_i c' e
    obtain ⟨fp,L⟩:=K1.sl
    obtain ⟨v0,hv0,ok⟩:=L.at' 0 _ e
    have hσ:=L.oa 0 a _ rfl e rfl
    rw [hσ] at hv0; cases hv0
    rcases ok with ⟨k0,_⟩ | ⟨k0,_⟩ | ⟨_,a',e',h1,h2⟩ | ⟨k0,_⟩
    ·cases k0
    ·cases k0
    ·cases e'
     exact kk x _ v F' H' (fp 0) p (fun b o h1 h2=>K1.sG b o h1 h2) (fun b h=>K1.pr b h) s1 K1.sF K1.nw h2 (fun b hb=>L.al 0 b hb) (fun b hb=>h1 b hb) rv
    ·cases k0
   ·exact p.elim
  refine ⟨t,ht,kt ⟨H,F,l,fun i=>if i=0 then some a else none,fun b h=>(hbl b h).1⟩ F (start N (.ref a::ws)) H (some ⟨2,c⟩::startE (N.length - 1) xs) (endO P') _ (oq (M:=⟨P,w,K,ob⟩) sF r (by omega) ho hbl) hD ⟨fun env σ F' H' p s1 K1=>?_,fun x env v σ F' H' p s1 K1 rv=>?_,fun _ _ _ _ p=>p.elim,fun _ _ _ _ p=>p.elim,fun _ _ _ _ _ _ p=>p.elim,fun _ _ _ _ _ _ _ p=>p.elim⟩⟩
  ·exact fin .non env .non σ F' H' p s1 K1 .non
  ·exact fin x env v σ F' H' p s1 K1 rv
end
noncomputable def eCall (D:Fd) (fa:WA):WE:=fun env P=>fa env fun xs e=>D xs fun r=>P r e
noncomputable def eCallO (D:FdO) (i:Nat) (fa:WA):WE:=fun env P=>(env[i]?).join.isSome=true/\fa env fun xs e=>match e[i]? with
 | some (some ⟨2,c⟩)=>D c xs fun r c'=>P r (e.set i (some ⟨2,c'⟩))
 | some (some ⟨4,c⟩)=>D c xs fun r c'=>P r (e.set i (some ⟨4,c'⟩))
 | _=>False
section
variable {ob:ObK} {X:Cx} {k:Nat} {fad:Addr} {fd:FuncData} {ps:List Str} {D:Fd} {DO:FdO} {x:Str} {p p1 pos:Pos} {e:Expr} {es:List Expr} {fa:WA}
theorem aG {n:Nat} (F:FnOk X.prog X.w X.K X.mg X.base CX0 k fad fd ps (spQ (md ob X) n D)) (hr:Room k X.A) (hm:X.mg x=some (.ref fad)) (hk:PySem.W.keepIn X.K (.ref fad)=true) (hb:Binds X.K fd ps []) (ha:EvA ob X (e::es) fa) (hn:autoParam (es.length+1=n) Z2._auto_1) (hg:autoParam (Gl X x) Z2._auto_1)
  (hdb:autoParam ((x==("__debug__" : Str))=false) Z1._auto_1) (he:autoParam (starEach (e::es) X.env=(false,eval e X.env)::starEach es X.env) Z2._auto_1) (hpl:autoParam ((backTo pos (starEach es X.env)).any (·.1)=false) Z2._auto_1) :
  EvS ob X (.Call (.Name x p) (e::es) [] pos) (eCall D fa):=by
 obtain ⟨t,ht,kt⟩:=ha.ex
 refine ⟨_,jN (E:=E0) F hr hg hm hk hb .nil pass0 ht hdb he hpl,fun Z F σ H env P Q K hf kk=>kt Z F σ H env _ _ K hf fun xs e1 vs F1 H1 p hl s1 K1 r1=>?_⟩
 rw [List.append_nil]
 refine ⟨F1,xs,fun r=>P r e1,K1.sF,r1,by rw [hl]; exact hn,p,fun r v F' H' pr sH sF sFH nw rv=>?_⟩
 exact kk r e1 v F' H' pr (ag s1 sF) (K1.move sF sFH sH nw) rv
theorem Sok.objS {M:Md} {Z:Zn} {F F' H H':Hp} {σ:L2.St} {env:En} {fp:Nat->List Addr} {i kd:Nat} {a:Addr} {c c':PV} {l':List Addr} (hk:kd=2\/kd=4) (K:Sok M Z F σ H env) (L:Slots M Z F σ H env fp) (hi:env[i]?=some (some ⟨kd,c⟩)) (hv:σ[i]?=some (some (.ref a)))
  (kp:∀ b o,H b=some o->b∉fp i->H' b=some o) (pr:∀ b,H b≠none->H' b≠none) (sF:Same F F') (sFH:Same F' H') (nw:∀ a,F' a≠none->F a≠none\/H a=none) (ho:M.ob.P F' H' a l' c') (hl:∀ b∈l',H' b≠none/\F' b=none) (hn:∀ b∈l',b∈fp i\/H b=none) :
  Sok M Z F' σ H' (env.set i (some ⟨kd,c'⟩))/\Slots M Z F' σ H' (env.set i (some ⟨kd,c'⟩)) (fun j=>if j=i then l' else fp j):=by
 obtain ⟨v0,hv0,ok0⟩:=L.at' i _ hi
 have wr:=ok0.wr
 have wr':∀ b∈l',b∈Z.S\/Z.H₀ b=none:=fun b hb=>by
  rcases hn b hb with q | q
  ·exact wr b q
  ·exact .inr (K.h0 q)
 have hlt:i<env.length:=by
  rcases Nat.lt_or_ge i env.length with q | q
  ·exact q
  ·rw [List.getElem?_eq_none q] at hi; cases hi
 suffices S:Slots M Z F' σ H' (env.set i (some ⟨kd,c'⟩)) (fun j=>if j=i then l' else fp j) from ⟨⟨sFH,fun b o h1 h2=>kp b o (K.sG b o h1 h2) fun z=>(wr b z).elim h2 fun q=>(by rw [q] at h1; cases h1),fun b h=>pr b (K.pr b h),ag K.gr sF,fun a h=>(nw a h).elim (K.nw a) fun q=>.inr (K.h0 q),by simp [K.len],_,S⟩,S⟩
 refine ⟨fun j s e=>?_,fun j b h=>?_,fun j j2 b hjj h z=>?_,fun j b s e1 e2 e3=>?_⟩
 ·by_cases q:j=i
  ·subst q
   rw [List.getElem?_set] at e
   simp only [if_true,hlt] at e
   cases e
   exact ⟨_,hv,by rw [if_pos rfl]; exact .inr (.inr (.inl ⟨hk,a,rfl,wr',ho⟩))⟩
  ·rw [List.getElem?_set_ne (Ne.symm q)] at e
   obtain ⟨v,h1,h2⟩:=L.at' j s e
   have h3:=h2.mono (H':=H') sF fun c hc=>by
    obtain ⟨o,ho⟩:=dG (L.al j c hc).1
    rw [ho]
    exact kp c o ho (L.dj j i c q hc)
   exact ⟨v,h1,by rw [if_neg q]; exact h3⟩
 ·by_cases q:j=i
  ·rw [if_pos q] at h; exact hl b h
  ·rw [if_neg q] at h
   have:=L.al j b h
   refine ⟨pr b this.1,?_⟩
   cases e:F' b with
   | none=>rfl
   | some o =>
    rcases nw b (by rw [e]; simp) with y | y
    ·exact absurd this.2 y
    ·exact absurd y this.1
 ·have mix:∀ j,j≠i->b∈l'->b∈fp j->False:=fun j hj m1 m2=>by
   rcases hn b m1 with y | y
   ·exact L.dj j i b hj m2 y
   ·exact (L.al j b m2).1 y
  by_cases q:j=i
  ·rw [if_pos q] at h
   rw [if_neg (fun y=>hjj (q.trans y.symm))] at z
   exact mix j2 (fun y=>hjj (q.trans y.symm)) h z
  ·rw [if_neg q] at h
   by_cases q2:j2=i
   ·rw [if_pos q2] at z; exact mix j q z h
   ·rw [if_neg q2] at z; exact L.dj j j2 b hjj h z
 ·by_cases q:j=i
  ·subst q
   rw [List.getElem?_set] at e2
   simp only [if_true,hlt] at e2
   cases e2
   exact L.oa j b _ e1 hi e3
  ·rw [List.getElem?_set_ne (Ne.symm q)] at e2
   exact L.oa j b s e1 e2 e3
theorem ar (i:Nat) {y:Str} {n:Nat} (F:FnOk X.prog X.w X.K X.mg X.base CX0 k fad fd ps (spO (md ob X) n DO)) (hr:Room k X.A) (hm:X.mg x=some (.ref fad)) (hk:PySem.W.keepIn X.K (.ref fad)=true) (hb:Binds X.K fd ps []) (ho:PE X (.Name y p1) (tVar i)) (ha:EvA ob X es fa) (hn:autoParam (es.length+1=n) Z2._auto_1) (hg:autoParam (Gl X x) Z2._auto_1)
  (hdb:autoParam ((x==("__debug__" : Str))=false) Z1._auto_1) (he:autoParam (starEach (.Name y p1::es) X.env=(false,eval (.Name y p1) X.env)::starEach es X.env) Z2._auto_1) (hpl:autoParam ((backTo pos (starEach es X.env)).any (·.1)=false) Z2._auto_1) :
  EvS ob X (.Call (.Name x p) (.Name y p1::es) [] pos) (eCallO DO i fa):=by
 obtain ⟨t,ht,kt⟩:=ha.ex
 refine ⟨_,jN (E:=E0) F hr hg hm hk hb .nil pass0 (bn ho ht he) hdb he hpl,fun Z F σ H env P Q K hf kk=>?_⟩
 obtain ⟨h0,hf⟩:=hf
 obtain ⟨w,hw⟩:∃ v,σ[i]?=some (some v):=by
  cases e:env[i]? with
  | none=>rw [e] at h0; cases h0
  | some w =>
   cases w with
   | none=>rw [e] at h0; cases h0
   | some s =>
    obtain ⟨fp,L⟩:=K.sl
    obtain ⟨v,hv,_⟩:=L.at' i s e
    exact ⟨v,hv⟩
 refine ⟨w,hw,kt Z F σ H env _ _ K hf fun xs e1 vs F1 H1 p hl s1 K1 r1=>?_⟩
 show spO (md ob X) n DO ((w::vs)++[]) H1 Q E0
 rw [List.append_nil]
 have fin:∀ (kd:Nat) (c:PV),kd=2\/kd=4->e1[i]?=some (some ⟨kd,c⟩)->DO c xs (fun r c'=>P r (e1.set i (some ⟨kd,c'⟩)))->spO (md ob X) n DO (w::vs) H1 Q E0:=fun kd c hkd ei p=>by
  obtain ⟨fp,L⟩:=K1.sl
  obtain ⟨v0,hv0,ok⟩:=L.at' i _ ei
  rw [hw] at hv0; cases hv0
  rcases ok with ⟨k0,_⟩ | ⟨k0,_⟩ | ⟨_,a,rfl,_,ho⟩ | ⟨k0,_⟩
  ·rcases hkd with rfl | rfl <;> cases k0
  ·rcases hkd with rfl | rfl <;> cases k0
  ·refine ⟨F1,a,fp i,c,vs,xs,_,rfl,K1.sF,r1,by rw [hl]; exact hn,ho,fun b hb=>L.al i b hb,p,fun r c' v F' H' l' pr kp pre sF sFH nw ho' hl' hn' rv=>?_⟩
   exact kk r _ v F' H' pr (ag s1 sF) (K1.objS hkd L ei hw kp pre sF sFH nw ho' hl' hn').1 rv
  ·rcases hkd with rfl | rfl <;> cases k0
 split at p
 ·rename_i ei; exact fin _ _ (.inl rfl) ei p
 ·rename_i ei; exact fin _ _ (.inr rfl) ei p
 ·exact p.elim
theorem aW {P:Program} {w:World} {K:PySem.W.Frag} {mg:Str->Option Value} {base:Heap} {n:Nat} {D D':Fd} (F:FnOk P w K mg base CX0 k fad fd ps (spQ ⟨P,w,K,ob⟩ n D)) (h:∀ xs P,D' xs P->D xs P):FnOk P w K mg base CX0 k fad fd ps (spQ ⟨P,w,K,ob⟩ n D') :=
 F.imp fun vs H Q E ⟨F,xs,P,a,b,c,d,e⟩=>⟨F,xs,P,a,b,c,h _ _ d,e⟩
theorem cv {P:Program} {w:World} {K:PySem.W.Frag} {mg:Str->Option Value} {base:Heap} {n:Nat} {D D':FdO} (F:FnOk P w K mg base CX0 k fad fd ps (spO ⟨P,w,K,ob⟩ n D)) (h:∀ c xs P,D' c xs P->D c xs P):FnOk P w K mg base CX0 k fad fd ps (spO ⟨P,w,K,ob⟩ n D') :=
 F.imp fun vs H Q E q=>by
  obtain ⟨F,a,l,c,ws,xs,P,a1,a2,a3,a4,a5,a6,a7,a8⟩:=q
  exact ⟨F,a,l,c,ws,xs,P,a1,a2,a3,a4,a5,a6,h _ _ _ a7,a8⟩
end
end Q
namespace Q
open PySem L2 PyProof.Rows
theorem hu1 {k:Nat} {A:Around} (r:Room k A):A.units+1<cLine:=by have:=r.un; omega
theorem hu0 {k:Nat} {A:Around} (r:Room k A):A.units<cLine:=by have:=r.un; omega
theorem hu60 {k:Nat} {A:Around} (r:Room k A):A.units+60<cLine:=by have:=r.un; omega
theorem hu62 {k:Nat} {A:Around} (r:Room k A):A.units+62<cLine:=by have:=r.un; omega
noncomputable def tyPV:PV->Option String
 | .non=>some "NoneType"
 | .bl _=>some "bool"
 | .int _=>some "int"
 | .str _=>some "str"
 | .tup _=>some "tuple"
 | .lst _=>some "list"
 | .dic _=>some "dict"
 | _=>none
noncomputable def isaP (T c:String):Bool:=T==c || (T == "bool" && c == "int")
noncomputable def isiPV (c:String) (x:PV):Option PV:=(tyPV x).map fun T=>.bl (isaP T c)
noncomputable def eIsi (c:String) (a:WE):WE:=eUn (isiPV c) a
theorem vM {K:PySem.W.Frag} {x:PV} {T:String} (h:tyPV x=some T) (c:String) (hc:c = "str" \/ c = "tuple" \/ c = "int" \/ c = "bool" \/ c = "list" \/ c = "dict"):PySem.W.kitOne K (.type T) (.type c)=some (isaP T c):=by
 cases x <;> cases h <;> rcases hc with rfl | rfl | rfl | rfl | rfl | rfl <;> rfl
section
variable {ob:ObK} {X:Cx} {a b c e:Expr} {es:List Expr} {f g h:WE} {fa:WA} {pos p p1:Pos} {x:Str}
noncomputable def rIsiT (K:PySem.W.Frag) (cl:String):List V->Hp->VK->Prop:=fun xs H Q=>rIsi K xs H Q\/∃ p vs,xs=[.ref p,.ty cl]/\SqT K H p vs/\PySem.W.kitOne K (.type "tuple") (.type cl)=some (isaP "tuple" cl)/\Q (.bl (isaP "tuple" cl)) H
theorem wx {cl:String}:CallR X (.builtin "isinstance") (rIsiT X.K cl):=by
 refine CallR.or sN ?_
 intro pins s σ H xs us Q I r h
 obtain ⟨p,vs,rfl,hp,hk,q⟩:=h
 cases r with
 | cons r1 r2 =>
  cases r2 with
  | cons r2 r3 =>
   cases r3
   cases r2
   cases r1
   obtain ⟨its,_,⟨o,h1,h2,_⟩,_⟩:=I.tuple hp
   exact PySem.W.kia_one PySem.W.kitx_tuple I.kIn ⟨o,h1,h2⟩ hk (fun z=>nomatch z) fun tk=>⟨.bl _,H,I.tok tk,rfl,q⟩
theorem bp (cl:String) {T:Str} (hc:cl = "str" \/ cl = "tuple" \/ cl = "int" \/ cl = "bool" \/ cl = "list" \/ cl = "dict") (hm:X.mg "isinstance" = none) (hT:X.mg T=none) (hb:bootBuiltins T=some (.type cl)) (ha:EvW ob X a f) (hg:autoParam (Gl X "isinstance") Z2._auto_1) (hgT:autoParam (Gl X T) Z2._auto_1) (hn:autoParam (T ≠ "__name__") Z1._auto_1) (hdb:autoParam ((T==("__debug__" : Str))=false) Z1._auto_1)
  (he:autoParam (starEach [a,.Name T p1] X.env=(false,eval a X.env)::starEach [.Name T p1] X.env) Z2._auto_1) (he2:autoParam (starEach [.Name T p1] X.env=(false,eval (.Name T p1) X.env)::starEach [] X.env) Z2._auto_1) (hpl:autoParam ((backTo pos (starEach [.Name T p1] X.env)).any (·.1)=false) Z2._auto_1) :
  EvS ob X (.Call (.Name "isinstance" p) [a,.Name T p1] [] pos) (eIsi cl f):=by
 obtain ⟨t,ht,k⟩:=ha.ex
 refine ⟨_,bu (wx (cl:=cl)) hg hm boot_isinstance (bn ht (bn (tU (v:=.ty cl) hgT hT hb rfl hn hdb) bI he2) he) (by decide) (by decide) he hpl,fun Z F σ H env P Q K hf kk=>k Z F σ H env _ _ K hf fun x e1 v F1 H1 p s1 K1 r1=>?_⟩
 obtain ⟨z,hz,p⟩:=p
 unfold isiPV at hz
 rw [Option.map_eq_some_iff] at hz
 obtain ⟨T',hT',rfl⟩:=hz
 have fin:∀ w,Rep X.K F1 w (.bl (isaP T' cl))->Q w H1:=fun w r=>kk _ e1 _ F1 H1 p s1 K1 r
 have q:=fin _ (.bl _)
 have kt:=vM (K:=X.K) hT' cl hc
 show rIsiT X.K cl [v,.ty cl] H1 Q
 cases x <;> cases hT'
 ·rw [r1.non]; exact .inl ⟨_,_,_,_,rfl,.non,kt,q⟩
 ·rw [r1.bl]; exact .inl ⟨_,_,_,_,rfl,.bl _,kt,q⟩
 ·rw [r1.int]; exact .inl ⟨_,_,_,_,rfl,.int _,kt,q⟩
 ·rw [r1.str]; exact .inl ⟨_,_,_,_,rfl,.str _,kt,q⟩
 ·obtain ⟨q',vs,rfl,h1,h2⟩:=r1.tup K1.sF
  exact .inr ⟨q',vs,rfl,h1,kt,q⟩
 ·obtain ⟨q',vs,rfl,h1,h2⟩:=r1.lst K1.sF
  exact .inl ⟨_,_,_,_,rfl,.lst h1,kt,q⟩
 ·obtain ⟨q',vs,rfl,h1,h2⟩:=r1.dic K1.sF
  exact .inl ⟨_,_,_,_,rfl,.dK h1,kt,q⟩
noncomputable def eChain (o o':PV->PV->Option PV) (fa fb fc:WE):WE:=fun env P=>fa env fun x e1=>fb e1 fun y e2=>opt (o x y) fun z=>opt (blPV z) fun k=>if k=true then fc e2 fun w e3=>opt (o' y w) fun z'=>P z' e3 else P (.bl false) e2
end
end Q
namespace Q
open PySem L2 PyProof.Rows
section
variable {ob:ObK} {X:Cx} {a b c e:Expr} {es:List Expr} {f g h:WE} {fa:WA} {pos p p1:Pos} {x:Str}
theorem uC {i:Int} (hm:∃ t,X.mg x=some (.int i t)) (hg:autoParam (Gl X x) Z2._auto_1) (hd:autoParam ((x==("__debug__" : Str))=false) Z1._auto_1):EvS ob X (.Name x pos) (eC (.int i)):=by
 obtain ⟨t,hm⟩:=hm
 exact dJ (tT (v:=.int i) hg hm ⟨t,rfl⟩ hd) fun _=>.int i
theorem kS {o o':PV->PV->Option PV} {r r':R2} {ta tb tc:TE} (hq:OpQ ob X r o) (hq':OpQ ob X r' o')
  (ka:∀ (Z:Zn) (F:Hp) (σ:L2.St) (H:Hp) (env:En) (P:PV->En->Prop) (Q:VK),Sok (md ob X) Z F σ H env->f env P->(∀ x env' v F' H',P x env'->Same F F'->Sok (md ob X) Z F' σ H' env'->Rep X.K F' v x->Q v H')->ta σ H Q)
  (kb:∀ (Z:Zn) (F:Hp) (σ:L2.St) (H:Hp) (env:En) (P:PV->En->Prop) (Q:VK),Sok (md ob X) Z F σ H env->g env P->(∀ x env' v F' H',P x env'->Same F F'->Sok (md ob X) Z F' σ H' env'->Rep X.K F' v x->Q v H')->tb σ H Q)
  (kc:∀ (Z:Zn) (F:Hp) (σ:L2.St) (H:Hp) (env:En) (P:PV->En->Prop) (Q:VK),Sok (md ob X) Z F σ H env->h env P->(∀ x env' v F' H',P x env'->Same F F'->Sok (md ob X) Z F' σ H' env'->Rep X.K F' v x->Q v H')->tc σ H Q) :
  ∀ (Z:Zn) (F:Hp) (σ:L2.St) (H:Hp) (env:En) (P:PV->En->Prop) (Q:VK),Sok (md ob X) Z F σ H env->eChain o o' f g h env P->(∀ x env' v F' H',P x env'->Same F F'->Sok (md ob X) Z F' σ H' env'->Rep X.K F' v x->Q v H')->tChain r r' ta tb tc σ H Q:=by
 intro Z F σ H env P Q K hf kk
 refine ka Z F σ H env _ _ K hf fun x e1 v F1 H1 p s1 K1 r1=>kb Z F1 σ H1 e1 _ _ K1 p fun y e2 u F2 H2 p2 s2 K2 r2=>?_
 obtain ⟨z,hz,k,hk,p2⟩:=p2
 refine hq Z F2 σ H2 e2 v u x y z _ K2 (.inl (r1.mono s2)) (.inl r2) hz fun v' F3 H3 s3 K3 r3=>?_
 obtain ⟨rfl,rfl⟩:=ko r3 hk
 refine ⟨k,rfl,?_⟩
 cases k with
 | true =>
  refine iteT (kc Z F3 σ H3 e2 _ _ K3 p2 fun w e4 w' F4 H4 p4 s4 K4 r4=>?_)
  obtain ⟨z',hz',p4⟩:=p4
  exact hq' Z F4 σ H4 e4 u w' y w z' Q K4 (.inl ((r2.mono s3).mono s4)) (.inl r4) hz' fun v5 F5 H5 s5 K5 r5=>kk z' e4 v5 F5 H5 p4 (ag s1 (ag s2 (ag s3 (ag s4 s5)))) K5 r5
 | false=>exact iteF (kk _ e2 _ F3 H3 p2 (ag s1 (ag s2 s3)) K3 (.bl _))
theorem sB {op op':CmpOp} {o o':PV->PV->Option PV} {r r':R2} (ho:OpR X (compareOp op) r) (hq:OpQ ob X r o) (ho':OpR X (compareOp op') r') (hq':OpQ ob X r' o') (ha:EvS ob X a f) (hb:EvS ob X b g) (hc:EvS ob X c h)
  (hm:autoParam (lastMarks [op,op'] [b,c]=false) Z4._auto_1):EvS ob X (.Compare a [op,op'] [b,c] pos) (eChain o o' f g h):=by
 obtain ⟨ta,ha,ka⟩:=ha.ex
 obtain ⟨tb,hb,kb⟩:=hb.ex
 obtain ⟨tc,hc,kc⟩:=hc.ex
 exact ⟨_,rN ho ho' ha hb hc hm,kS hq hq' ka kb kc⟩
theorem sC {op op':CmpOp} {o o':PV->PV->Option PV} {r r':R2} (ho:OpR X (compareOp op) r) (hq:OpQ ob X r o) (ho':OpR X (compareOp op') r') (hq':OpQ ob X r' o') (ha:EvS ob X a f) (hb:EvS ob X b g) (hc:EvS ob X c h)
  (hm:autoParam (lastMarks [op,op'] [b,c]=false) Z4._auto_1):EvT ob X (.Compare a [op,op'] [b,c] pos) (tBool (eChain o o' f g h)):=by
 obtain ⟨ta,ha,ka⟩:=ha.ex
 obtain ⟨tb,hb,kb⟩:=hb.ex
 obtain ⟨tc,hc,kc⟩:=hc.ex
 refine ⟨_,rE ho ho' ha hb hc hm,fun Z F σ H env P Q K hf k=>kS hq hq' ka kb kc Z F σ H env _ _ K hf fun x e1 v F1 H1 p s1 K1 r1=>?_⟩
 obtain ⟨z,hz,p⟩:=p
 cases x <;> try (cases hz)
 cases r1
 exact ⟨_,rfl,k _ e1 F1 H1 p s1 K1⟩
end
section
variable {ob:ObK} {X:Cx} {tg elt iter kx vx:Expr} {ifs:List Expr} {scope:Scope} {pos:Pos} {fi:WA} {T:Tgt} {c:WT} {f fk:WE} {N:List Str} {js:List (Option Nat)}
theorem Sok.takeV {M:Md} {Z:Zn} {F H:Hp} {σ:L2.St} {env:En} {v:V} {x:PV} {i:Nat} (K:Sok M Z F (σ++[some v]) H (env++[some ⟨1,x⟩])) (hx:∀ xs,x≠.set xs):∃ F',Same F F'/\Sok M Z F' (σ.set i (some v)) H (env.set i (some ⟨0,x⟩)):=by
 obtain ⟨F',s,K',r⟩:=K.freezeL hx
 exact ⟨F',s,K'.put r⟩
theorem qE (i:Nat) {y:Str} {py spos:Pos} (hN:X.N.Nodup) (hy:X.N[i]?=some y) (hk:X.env.scope.names.lookup y=some .local) (hi:EvI ob X tg iter fi) (hg:∀ C s₀ H₀ ex pn,PG (cxComp X scope N C s₀ H₀ ex pn) tg (tgL X.K T)) (ht:∀ C s₀ H₀ ex pn,EvC ob (cxComp X scope N C s₀ H₀ ex pn) ifs c) (he:∀ C s₀ H₀ ex pn,EvS ob (cxComp X scope N C s₀ H₀ ex pn) elt f)
  (hj:autoParam (jsOk js=true) Z2._auto_1) (hT:autoParam (tgFree js T=true) Z2._auto_1)
  (hsw:autoParam (swapsWith (.ListComp elt [⟨tg,iter,ifs,0⟩] scope pos) (some (.Name y py)) spos.line X.env=pure true) Z2._auto_1)
  (hc:autoParam (X.calm=true) Z2._auto_1) (hx:autoParam (X.xe=(fun _ _=>False)) Z2._auto_1) (hsc:autoParam (scOk X.env scope=true) Z2._auto_1) (hcap:autoParam (capOk X.N scope N js=true) Z2._auto_1) (hkind:autoParam (scope.kind=.function) Z2._auto_1) (hs:autoParam (∀ x,foldedSetIterable iter X.env x=pure x) Z3._auto_1) :
  EvX ob X (.Assign [.Name y py] (.ListComp elt [⟨tg,iter,ifs,0⟩] scope pos) spos) (sSet i (eLC fi T c f js)):=by
 obtain ⟨wi,hwi,k⟩:=hi.ex
 refine ⟨_,wE (i:=i) (wi:=wi) (g:=tgL X.K T) (tc:=rdT (md ob X) c) (te:=rdE (md ob X) f) (js:=js) hN hy hk hwi hg (fun C s₀ H₀ ex pn=>(ht C s₀ H₀ ex pn).ex) (fun C s₀ H₀ ex pn=>(he C s₀ H₀ ex pn).pe) (dF hT) hsw hc hx hsc hcap hkind hs,fun Z F σ H env P D K hf L=>?_⟩
 refine k Z F σ H env _ _ K hf fun xs e1 J F1 H1 p s1 K1 I1 l hl=>?_
 refine nO (P:=fun x e=>P.nx (e.set i (some ⟨0,x⟩))) (Q:=fun v H'=>D.nx (σ.set i (some v)) H') hj hT K1 I1 p (fun x e2 v F2 H2 p2 s2 hx2 K2=>?_) l hl
 obtain ⟨F3,s3,K3⟩:=K2.takeV (i:=i) hx2
 exact L.nx _ _ F3 H2 p2 (ag s1 (ag s2 s3)) K3
end
section
variable {ob:ObK} {X:Cx} {a b c e:Expr} {es:List Expr} {f g h:WE} {fa:WA} {pos p p1:Pos} {x:Str}
end
section
variable {P:Program} {w:World} {K:PySem.W.Frag} {mg:Str->Option Value} {base:Heap} {ob:ObK}
end
section
variable {ob:ObK} {X:Cx} {k:Nat} {fad:Addr} {fd:FuncData} {ps:List Str} {D:Fd} {DO:FdO} {x:Str} {p p1 pos:Pos} {e:Expr} {es:List Expr} {fa:WA}
end
end Q
namespace L2
open PySem PySem.Spec PyProof.Rows PySem.W
noncomputable def tabE (P:Addr) (ps:Array Value):HO:=.ext fun h=>h.get? P=some (tabObj ps)
noncomputable def codeE (c:Addr) (lq:Str):HO:=.ext fun h=>h.CodeRec (.ref c) lq
end L2
namespace Pre
open PySem L2
structure Sta (H:Hp) (a b:Addr):Prop where
 st:∃ (ns:List Int) (z:Int),H a=some (.lst [.ref b,.int z])/\H b=some (.lst (ns.map V.int))/\(∀ n∈ns,0<=n)/\0<=z/\z<2305843009213693951
noncomputable def But (a b:Addr) (H H':Hp):Prop:=∀ c o,H c=some o->c≠a->c≠b->H' c=some o
theorem But.refl (a b:Addr) (H:Hp):But a b H H:=fun _ _ h _ _=>h
theorem Sta.ne {H:Hp} {a b:Addr} (s:Sta H a b):a≠b:=by
 obtain ⟨ns,z,h1,h2,_⟩:=s.st
 refine sY h1 h2 fun e=>?_
 injection e with e
 cases ns with
 | nil=>cases e
 | cons n r=>injection e with e _; cases e
theorem Sta.grow {H:Hp} {a b p:Addr} {o:HO} (s:Sta H a b) (hp:H p=none):Sta (upd H p o) a b:=by
 obtain ⟨ns,z,h1,h2,h3⟩:=s.st
 exact ⟨ns,z,by rw [aq (aF h1 hp)]; exact h1,by rw [aq (aF h2 hp)]; exact h2,h3⟩
theorem But.grow {a b p:Addr} {H H':Hp} {o:HO} (x:But a b H H') (hp:H' p=none):But a b H (upd H' p o):=fun c u h h1 h2=>by
 have q:=x c u h h1 h2
 rw [aq (aF q hp)]; exact q
theorem But.seta {a b:Addr} {H H':Hp} {o:HO} (x:But a b H H'):But a b H (upd H' a o):=fun c u h h1 h2=>by rw [aq h1]; exact x c u h h1 h2
theorem But.setb {a b:Addr} {H H':Hp} {o:HO} (x:But a b H H'):But a b H (upd H' b o):=fun c u h h1 h2=>by rw [aq h2]; exact x c u h h1 h2
theorem Sta.setb {H:Hp} {a b:Addr} {ns:List Int} (s:Sta H a b) (hn:∀ n∈ns,0<=n):Sta (upd H b (.lst (ns.map V.int))) a b:=by
 have hne:=s.ne
 obtain ⟨_,z,h1,h2,_,h3⟩:=s.st
 exact ⟨ns,z,by rw [aq hne]; exact h1,am,hn,h3⟩
theorem Sta.seta {H:Hp} {a b:Addr} {z:Int} (s:Sta H a b) (h0:0<=z) (h1:z<2305843009213693951):Sta (upd H a (.lst [.ref b,.int z])) a b:=by
 have hne:=s.ne
 obtain ⟨ns,_,_,h2,h3,_⟩:=s.st
 exact ⟨ns,z,am,by rw [aq hne.symm]; exact h2,h3,h0,h1⟩
noncomputable def stK (b:Addr) (left seed many:Int):List (Key×V):=[(.inr (Str.ofString "cells"),.ref b),(.inr (Str.ofString "left"),.int left),(.inr (Str.ofString "seed"),.int seed),(.inr (Str.ofString "many"),.int many)]
structure StD (H:Hp) (a b:Addr) (f:Nat):Prop where
 st:∃ (ns:List Int) (left seed many:Int),H a=some (.dK (stK b left seed many))/\H b=some (.lst (ns.map V.int))/\0<=left/\0<=seed/\seed<2305843009213693951/\0<=many/\many+f<=1152921504606846976
noncomputable def gF (K:PySem.W.Frag):Sp:=fun vs H Q _=>∃ (s:Addr) (ns:List Int),vs=[.ref s]/\SqL K H s (ns.map V.int)/\ns.length<=63/\∀ (a b:Addr) (H':Hp),H a=none->H b=none->Sta H' a b->Same H H'->Q (.ref a) H'
noncomputable def spNext:Sp:=fun vs H Q _=>∃ (a b:Addr) (m:Int),vs=[.ref a,.int m]/\Sta H a b/\0<m/\m<1073741824/\∀ (r:Int) (H':Hp),0<=r->r<m->Sta H' a b->But a b H H'->Q (.int r) H'
noncomputable def spLaw (K:PySem.W.Frag):Sp:=fun vs H Q _=>∃ (a:Addr) (ns:List Int),vs=[.ref a]/\SqL K H a (ns.map V.int)/\ns.length<=63/\∀ H',Q (.bl true) H'
end Pre
namespace Q
open PySem L2 PyProof.Rows
noncomputable def DolAt (K:PySem.W.Frag) (F H:Hp) (a:Addr) (l:List Addr) (x:PV):Prop:=∃ ks:List (Key×Addr×List PV),x=.dic (ks.map fun t=>(t.1,.lst t.2.2))/\l=a::ks.map (·.2.1)/\H a=some (.dK (ks.map fun t=>(t.1,.ref t.2.1))) /\
 (ks.map (·.2.1)).Nodup/\∀ t∈ks,∃ vs,H t.2.1=some (.lst vs)/\Reps K F vs t.2.2
noncomputable def tabPV (lq:Str) (ln co:Nat) (P:Addr):PV:=.tup [.str lq,.int ln,.int co,.int (P:Nat)]
noncomputable def TabAt (H:Hp) (a:Addr) (l:List Addr) (x:PV):Prop:=∃ (lq:Str) (ln co:Nat) (ps:Array Value),x=tabPV lq ln co a/\H a=some (tabE a ps)/\PySem.TriplesOk ps.toList /\
 ((l=[a]/\codeAmong ⟨ln,co,0,0⟩ ps.toList=none)\/∃ c',c'≠a/\l=[a,c']/\codeAmong ⟨ln,co,0,0⟩ ps.toList=some (.ref c')/\H c'=some (codeE c' lq))
noncomputable def StaAt (H:Hp) (a:Addr) (l:List Addr) (x:PV):Prop:=(x=.non/\∃ b,l=[a,b]/\Pre.Sta H a b)\/∃ (f:Nat) (b:Addr),x=.int f/\l=[a,b]/\Pre.StD H a b f
noncomputable def obG (K:PySem.W.Frag):ObK where
 P:=fun F H a l x=>StaAt H a l x\/DolAt K F H a l x\/TabAt H a l x
 mono:=fun F F' H H' a l x h s e=>by
  rcases h with (⟨h0,b,rfl,ns,z,h1,h2,h3⟩ | ⟨f,b,h0,rfl,ns,q1,q2,q3,h1,h2,h3⟩) | ⟨ks,rfl,rfl,h1,h2,h3⟩ | ⟨lq,ln,co,ps,rfl,h1,h2,h3⟩
  ·exact .inl (.inl ⟨h0,b,rfl,ns,z,(e a (by simp)).trans h1,(e b (by simp)).trans h2,h3⟩)
  ·exact .inl (.inr ⟨f,b,h0,rfl,ns,q1,q2,q3,(e a (by simp)).trans h1,(e b (by simp)).trans h2,h3⟩)
  ·refine .inr (.inl ⟨ks,rfl,rfl,(e a (by simp)).trans h1,h2,fun t ht=>?_⟩)
   obtain ⟨vs,q1,q2⟩:=h3 t ht
   exact ⟨vs,(e _ (List.mem_cons_of_mem _ (List.mem_map_of_mem (f:=fun t=>t.2.1) ht))).trans q1,q2.mono s⟩
  ·refine .inr (.inr ⟨lq,ln,co,ps,rfl,?_,h2,?_⟩)
   ·rcases h3 with ⟨rfl,_⟩ | ⟨c',_,rfl,_⟩
    ·exact (e a (by simp)).trans h1
    ·exact (e a (by simp)).trans h1
   ·rcases h3 with ⟨rfl,h4⟩ | ⟨c',h4,rfl,h5,h6⟩
    ·exact .inl ⟨rfl,h4⟩
    ·exact .inr ⟨c',h4,rfl,h5,(e c' (by simp)).trans h6⟩
noncomputable def aB:FdO:=fun c xs P=>c=.non/\∃ m:Int,xs=[.int m]/\0<m/\m<1073741824/\∀ r:Int,0<=r->r<m->P (.int r) .non
theorem nB {H:Hp} {a b:Addr} (s:Pre.Sta H a b):H a≠none/\H b≠none:=by
 obtain ⟨ns,z,h1,h2,_⟩:=s.st
 exact ⟨by rw [h1]; simp,by rw [h2]; simp⟩
theorem rY {P:Program} {w:World} {K:PySem.W.Frag} {mg:Str->Option Value} {base:Heap} {k:Nat} {fad:Addr} {fd:FuncData} {ps:List Str} (F:FnOk P w K mg base CX0 k fad fd ps Pre.spNext):FnOk P w K mg base CX0 k fad fd ps (spO ⟨P,w,K,obG K⟩ 2 aB):=by
 refine F.imp fun vs H Q E h=>?_
 obtain ⟨F,a,l,c,ws,xs,P',rfl,sF,r,hl,ho,hb,⟨rfl,m,rfl,m0,m1,hP⟩,kk⟩:=h
 obtain ⟨b,rfl,S⟩:∃ b,l=[a,b]/\Pre.Sta H a b:=by
  rcases ho with (⟨_,h⟩ | ⟨_,_,h,_⟩) | ⟨ks,h,_⟩ | ⟨_,_,_,_,h,_⟩
  ·exact h
  ·cases h
  ·cases h
  ·cases h
 cases r with
 | cons r1 r2 =>
  cases r2
  cases r1
  refine ⟨a,b,m,rfl,S,m0,m1,fun r H' r0 r1 S' hB=>?_⟩
  have two:=nB S'
  have keep:∀ c o,H c=some o->c∉[a,b]->H' c=some o:=fun c o h hn=>by
   simp at hn
   exact hB c o h hn.1 hn.2
  refine kk (.int r) .non (.int r) F H' [a,b] (hP r r0 r1) keep (fun c h=>?_) aj (fun c o h=>?_) (fun c h=>.inl h) (.inl (.inl ⟨rfl,b,rfl,S'⟩)) (fun c hc=>?_) (fun c hc=>.inl hc) (.int r)
  ·by_cases q:c∈[a,b]
   ·simp at q
    rcases q with rfl | rfl
    ·exact two.1
    ·exact two.2
   ·obtain ⟨o,ho⟩:=dG h
    rw [keep c o ho q]; simp
  ·refine keep c o (sF c o h) fun q=>?_
   have:=(hb c q).2
   rw [h] at this; cases this
  ·refine ⟨?_,(hb c hc).2⟩
   simp at hc
   rcases hc with rfl | rfl
   ·exact two.1
   ·exact two.2
noncomputable def sBegin (i j:Nat):WS:=fun P env=>match env[j]? with
 | some (some ⟨0,x⟩)=>(∃ ns:List Int,(x=.scr ns\/x=.lst (ns.map .int))/\ns.length<=63)/\P.nx (env.set i (some ⟨4,.non⟩))
 | _=>False
theorem lO {K:PySem.W.Frag} {F:Hp} {ns:List Int} {vs:List V} (h:Reps K F vs (ns.map PV.int)):vs=ns.map V.int:=by
 induction ns generalizing vs with
 | nil=>cases h; rfl
 | cons n ns ih=>cases h with
  | cons a r=>cases a; exact congrArg (List.cons _) (ih r)
section
variable {X:Cx} {k:Nat} {fad:Addr} {fd:FuncData} {ps:List Str} {x y:Str} {p p1 pos pos':Pos}
theorem sx (i j:Nat) (hN:X.N.Nodup) (hi:X.N[i]?=some y) (hx:Loc X.env.scope y) (F:FnOk X.prog X.w X.K X.mg X.base CX0 k fad fd ps (Pre.gF X.K)) (hr:Room k X.A) (hm:X.mg "_law_begin" = some (.ref fad)) (hk:PySem.W.keepIn X.K (.ref fad)=true) (hb:Binds X.K fd ps []) (ho:PE X (.Name x p1) (tVar j))
  (hg:autoParam (Gl X "_law_begin") Z2._auto_1) (he:autoParam (starEach [.Name x p1] X.env=(false,eval (.Name x p1) X.env)::starEach [] X.env) Z2._auto_1) (hpl:autoParam ((backTo pos (starEach [] X.env)).any (·.1)=false) Z2._auto_1)
  {spos:Pos} (hs:autoParam (swapsWith (.Call (.Name "_law_begin" p) [.Name x p1] [] pos) (some (.Name y pos')) spos.line X.env=pure false) Z2._auto_1) (hf:autoParam (X.fn y=true\/X.env.scope.names.lookup y=some .local) Z0._auto_1) :
  EvX (obG X.K) X (.Assign [.Name y pos'] (.Call (.Name "_law_begin" p) [.Name x p1] [] pos) spos) (sBegin i j):=by
 refine ⟨_,dy hN hi hx (jN (E:=E0) F hr hg hm hk hb .nil pass0 (bn ho bI he) (by decide) he hpl) hs hf,fun Z F σ H env P D K hf L=>?_⟩
 unfold sBegin at hf
 split at hf
 ·rename_i v ej
  obtain ⟨⟨ns,hv,hn⟩,hp⟩:=hf
  obtain ⟨w,hw,r⟩:=K.val ej
  obtain ⟨s,rfl,hs⟩:∃ s,w=.ref s/\SqL X.K H s (ns.map V.int):=by
   rcases hv with rfl | rfl
   ·cases r with
    | scr h=>exact ⟨_,rfl,bc K.sF h.sq⟩
   ·cases r with
    | lst h1 h2 =>
     have:=lO h2
     subst this
     exact ⟨_,rfl,.inl (.inl (K.sF _ _ h1))⟩
  refine ⟨_,hw,s,ns,rfl,hs,hn,fun a b H' ha hb S sH=>?_⟩
  have hFa:F a=none:=Same.none_of K.sF ha
  have hFb:F b=none:=Same.none_of K.sF hb
  have K1:Sok (md (obG X.K) X) Z F σ H' env:=K.move aj (ag K.sF sH) sH fun _ h=>.inl h
  obtain ⟨fp,L0⟩:=K.sl
  have L1:Slots (md (obG X.K) X) Z F σ H' env fp:=L0.move aj (fun _ c o _ e=>sH c o e) fun _ h=>.inl h
  have two:=nB S
  refine L.nx _ _ F H' hp aj ?_
  rcases Nat.lt_or_ge i env.length with hlt | hge
  case inr =>
   rw [List.set_eq_of_length_le hge,List.set_eq_of_length_le (by have:=K.len; omega)]
   exact K1
  refine K1.slots (by simp [K.len]) (L1.put (l:=[a,b]) (by simp) (by have:=K.len; omega) (.inr (.inr (.inl ⟨.inr rfl,a,rfl,fun c hc=>.inr ?_,   .inl (.inl ⟨rfl,b,rfl,S⟩)⟩))) (fun c hc=>?_) fun j c _ hc hj=>?_)
  ·simp at hc
   rcases hc with rfl | rfl
   ·exact K.h0 ha
   ·exact K.h0 hb
  ·simp at hc
   rcases hc with rfl | rfl
   ·exact ⟨two.1,hFa⟩
   ·exact ⟨two.2,hFb⟩
  ·have:=(L0.al j c hj).1
   simp at hc
   rcases hc with rfl | rfl
   ·exact this ha
   ·exact this hb
 ·exact hf.elim
theorem vL {P:Program} {w:World} {K:PySem.W.Frag} {mg:Str->Option Value} {base:Heap} {ob:ObK} {D:Fd} (F:FnOk P w K mg base CX0 k fad fd ps (spQ ⟨P,w,K,ob⟩ 1 D))
  (h:∀ (ns:List Int) (x:PV),ns.length<=63->(x=.scr ns\/x=.lst (ns.map .int))->D [x] fun r=>r=.bl true):FnOk P w K mg base CX0 k fad fd ps (Pre.spLaw K):=by
 refine F.imp fun vs H Q E q=>?_
 obtain ⟨a,ns,rfl,hs,hn,kq⟩:=q
 have fin:∀ x,(x=.scr ns\/x=.lst (ns.map .int))->Rep K H (.ref a) x->spQ ⟨P,w,K,ob⟩ 1 D [.ref a] H Q E:=fun x hx r =>
  ⟨H,[x],_,aj,.cons r .nil,rfl,h ns x hn hx,fun r v F' H' e _ _ _ _ rv=>by subst e; cases rv; exact kq H'⟩
 rcases hs with (hs | ⟨o,hs⟩) | hs
 ·exact fin _ (.inr rfl) (.lst hs (ee ns))
 ·exact fin _ (.inl rfl) (.scr (.inl ⟨o,hs⟩))
 ·exact fin _ (.inl rfl) (.scr (.inr hs))
end
end Q
namespace Q
open PySem L2 PyProof.Rows
section
variable {M:Md} {Z:Zn} {F H:Hp} {σ:L2.St} {env:En} {p:Addr} {o:HO}
end
noncomputable def dispP:List (Key×PV)->List (Key×PV):=fun kvs=>kvs.foldl (fun acc kv=>putP acc kv.1 kv.2) []
noncomputable def eDs:List (WE×WE)->List (Key×PV)->WE
 | [],acc=>fun env P=>P (.dic (dispP acc)) env
 | (fk,fv)::r,acc=>fun env P=>fk env fun y e1=>fv e1 fun v e2=>opt (keyP y) fun k=>eDs r (acc++[(k,v)]) e2 P
inductive EvDs (ob:ObK) (X:Cx):List (Option Expr)->List Expr->List (WE×WE)->Prop where
 | nil:EvDs ob X [] [] []
 | cons {k v:Expr} {ks:List (Option Expr)} {vs:List Expr} {fk fv:WE} {l:List (WE×WE)}:EvS ob X k fk->EvS ob X v fv->EvDs ob X ks vs l->EvDs ob X (some k::ks) (v::vs) ((fk,fv)::l)
theorem qj {K:PySem.W.Frag} {F:Hp} {more:List (Key×V)} {mx:List (Key×PV)} {acc:List (Key×V)} {ax:List (Key×PV)} (h:RepsK K F more mx) (h2:RepsK K F acc ax):RepsK K F (mergeK acc more) (mx.foldl (fun acc kv=>putP acc kv.1 kv.2) ax):=by
 induction h using RepsK.ind generalizing acc ax with
 | nil=>exact h2
 | cons a _ ih=>exact ih (h2.put a)
section
variable {ob:ObK} {X:Cx} {pos:Pos}
theorem EvDs.run {keys:List (Option Expr)} {values:List Expr} {l:List (WE×WE)} (h:EvDs ob X keys values l):∃ trs,PPs X pos keys values trs/\∀ (Z:Zn) (F:Hp) (σ:L2.St) (H:Hp) (env:En) (P:PV->En->Prop) (acc:List (Key×PV)) (va:List (Key×V)) (Q:List (V×V)->Hp->Prop),Sok (md ob X) Z F σ H env->RepsK X.K F va acc->eDs l acc env P ->
  (∀ kvs vs env' F' H',P (.dic (dispP kvs)) env'->Same F F'->Sok (md ob X) Z F' σ H' env'->RepsK X.K F' (va++vs) kvs->vs.length=keys.length->Q (vs.map fun kv=>(kV kv.1,kv.2)) H')->tPairs trs σ H Q:=by
 induction h with
 | nil=>exact ⟨[],tR,fun Z F σ H env P acc va Q K ra hf kk=>kk acc [] env F H hf aj K (by rw [List.append_nil]; exact ra) rfl⟩
 | cons hk hv _ ih =>
  obtain ⟨tk,htk,kk⟩:=hk.ex
  obtain ⟨tv,htv,kv⟩:=hv.ex
  obtain ⟨trs,htr,kr⟩:=ih
  refine ⟨_,rG htk htv htr,fun Z F σ H env P acc va Q K ra hf fin=>?_⟩
  refine kk Z F σ H env _ _ K hf fun y e1 y' F1 H1 p1 s1 K1 r1=>kv Z F1 σ H1 e1 _ _ K1 p1 fun v e2 v' F2 H2 p2 s2 K2 r2=>?_
  obtain ⟨k,hk,p2⟩:=p2
  have hy:=j6 hk (r1.mono s2)
  subst hy
  refine kr Z F2 σ H2 e2 P _ (va++[(k,v')]) _ K2 ((ra.mono (ag s1 s2)).app (.cons r2 .nil)) p2 fun kvs vs e3 F3 H3 p3 s3 K3 r3 hl=>?_
  exact fin kvs ((k,v')::vs) e3 F3 H3 p3 (ag s1 (ag s2 s3)) K3 (by simpa using r3) (by simp [hl])
variable {e:Expr} {f:WE} {x:Str} {p apos cpos spos pos':Pos}
end
end Q
namespace Q
open PySem L2 PyProof.Rows
section
variable {M:Md} {Z:Zn} {F F' H H':Hp} {σ:L2.St} {env env':En}
end
theorem iE {α β:Type} {f:α->Option β} {l:List α} {m:List β} (h:l.mapM f=some m) (i:Nat) (b:β) (hb:m[i]?=some b):∃ a,l[i]?=some a/\f a=some b:=by
 obtain ⟨hl,h2⟩:=br h
 have hi:i<l.length:=by
  rw [<- hl]
  rcases Nat.lt_or_ge i m.length with q | q
  ·exact q
  ·rw [List.getElem?_eq_none q] at hb; cases hb
 obtain ⟨b',e1,e2⟩:=h2 i l[i] (by simp [hi])
 rw [hb] at e1; cases e1
 exact ⟨l[i],by simp [hi],e2⟩
section
variable {X:Cx} {iter:Expr} {scope:Scope} {pos p1 p2 p3:Pos} {fi:WA} {x t:Str}
end
section
variable {P:Program} {w:World} {K:PySem.W.Frag} {mg:Str->Option Value} {base:Heap}
end
end Q
namespace Q
open PySem L2 PyProof.Rows
noncomputable def StrsUp (ss ts:List Str):Prop:=ts.Perm ss/\ts.Pairwise fun a b=>¬ ltS b a
noncomputable def keyStr:Key->Option Str
 | .inr s=>some s
 | .inl _=>none
noncomputable def eSortS (fa:WA):WE:=fun env P=>fa env fun xs e=>match xs with
 | [.lst ys]=>∃ ss,ys.mapM strPV=some ss/\ss.length<64/\∀ ts,StrsUp ss ts->P (.lst (ts.map .str)) e
 | [.dic kvs]=>∃ ss,(kvs.map (·.1)).mapM keyStr=some ss/\ss.length<64/\∀ ts,StrsUp ss ts->P (.lst (ts.map .str)) e
 | _=>False
theorem cU {K:PySem.W.Frag} {F:Hp}:∀ (ss:List Str),Reps K F (ss.map V.str) (ss.map PV.str)
 | []=>.nil
 | s::ss=>.cons (.str s) (cU ss)
theorem jm:∀ {ks:List Key} {ss:List Str},ks.mapM keyStr=some ss->ks=ss.map Sum.inr
 | [],ss,h=>by simp at h; subst h; rfl
 | k::ks,ss,h=>by
  rw [List.mapM_cons] at h
  cases ea:keyStr k with
  | none=>rw [ea] at h; cases h
  | some a =>
   rw [ea] at h
   cases el:ks.mapM keyStr with
   | none=>rw [el] at h; cases h
   | some bs =>
    rw [el] at h
    have h:some (a::bs)=some ss:=h
    cases h
    rw [jm el,List.map_cons]
    cases k <;> cases ea
    rfl
section
variable {ob:ObK} {X:Cx} {a b c e:Expr} {es:List Expr} {f g h:WE} {fa:WA} {pos p p1:Pos} {x:Str}
theorem iM (hc:X.calm=true) (hg:Gl X "sorted") (hm:X.mg "sorted" = none) (ha:EvAW ob X (e::es) fa)
  (he:autoParam (starEach (e::es) X.env=(false,eval e X.env)::starEach es X.env) Z2._auto_1) (hpl:autoParam ((backTo pos (starEach es X.env)).any (·.1)=false) Z2._auto_1):EvF ob X (.Call (.Name "sorted" p) (e::es) [] pos) (eSortS fa):=by
 obtain ⟨t,ht,k⟩:=ha.ex
 refine ⟨_,bu (CallR.or oQ (oU hc)) hg hm boot_sorted ht (by decide) (by decide) he hpl,fun Z F σ H env P Q K hf kk=>k Z F σ H env _ _ K hf fun xs e1 vs F1 H1 p s1 K1 r1=>?_⟩
 split at p
 ·obtain ⟨ss,hs,hl,p⟩:=p
  obtain ⟨v,rfl,r⟩:=r1.one
  obtain ⟨q,vs,rfl,h1,h2⟩:=r.lst K1.sF
  have:=dv jw hs h2
  subst this
  exact .inl ⟨q,ss,rfl,.inl (.inl h1),hl,fun l ts hn hp hw=>kk _ e1 _ F1 _ (p ts ⟨hp,hw⟩) s1 (fun _=>by simp) (K1.own hn ⟨_,am,cU ts⟩)⟩
 ·obtain ⟨ss,hs,hl,p⟩:=p
  obtain ⟨v,rfl,r⟩:=r1.one
  obtain ⟨q,vs,rfl,h1,h2⟩:=r.dic K1.sF
  refine .inr ⟨q,vs,ss,rfl,h1,by rw [h2.keys]; exact jm hs,hl,fun l ts hn hp hw=>kk _ e1 _ F1 _ (p ts ⟨hp,hw⟩) s1 (fun _=>by simp) (K1.own hn ⟨_,am,cU ts⟩)⟩
 ·exact p.elim
noncomputable def pairK:PV->Option (Key×PV)
 | .tup [.str s,v]=>some (.inr s,v)
 | _=>none
noncomputable def dictPV:List PV->Option PV
 | [.lst xs]=>if xs.length<=1000 then (xs.mapM pairK).map fun kvs=>.dic (dispP kvs) else none
 | _=>none
noncomputable def rDictP (K:PySem.W.Frag):List V->Hp->VK->Prop:=fun xs H Q=>∃ (l:Addr) (ys:List V) (prs:List (Str×V)),xs=[.ref l]/\H l=some (.lst ys)/\ys.length=prs.length/\prs.length<=1000 /\
  (∀ j (hj:j<prs.length),∃ p,ys[j]?=some (.ref p)/\SqT K H p [.str prs[j].1,prs[j].2])/\∀ d,H d=none->Q (.ref d) (upd H d (.dK (prs.foldl (fun kvs kv=>putK kvs (Sum.inr kv.1:Key) kv.2) [])))
theorem n4 (hc:X.calm=true):CallR X (.type "dict") (rDictP X.K):=by
 intro pins s σ H xs us Q I r h
 obtain ⟨l,ys,prs,rfl,hl,hlen,hsz,hp,q⟩:=h
 obtain ⟨u,rfl,ru⟩:=r.one
 cases ru
 obtain ⟨z,its,n,rv,g⟩:=I.hok l _ hl
 have each:∀ j,∃ vv:Value,∀ hj:j<prs.length,∃ (p:Addr) (t:Tok),its[j]?=some (.ref p)/\s.heap.IsTuple p #[.str prs[j].1 t,vv]/\RelV prs[j].2 vv:=fun j=>by
  by_cases hj:j<prs.length
  ·obtain ⟨p,ey,hP⟩:=hp j hj
   obtain ⟨v1,e1,r1⟩:=rv.get ey
   cases r1
   obtain ⟨us2,rv2,g2,_⟩:=I.tuple hP
   cases rv2 with
   | cons ra rr =>
    cases rr with
    | cons rb rr =>
     cases rr
     obtain ⟨t,rfl⟩:=ra
     exact ⟨_,fun _=>⟨p,t,e1,g2,rb⟩⟩
  ·exact ⟨.none,fun h=>absurd h hj⟩
 obtain ⟨vf,hv⟩:=Classical.skolem.mp each
 have hli:its.length=prs.length:=by rw [<- hlen]; exact rv.length.symm
 refine ju (knd:=aO X.prog X.w) (items:=its.toArray) (n:=n) (fun j=>(Sum.inr ((prs[j]?.getD (Str.empty,V.non)).1):Key)) vf (by simp; omega) (I.ok.hd hc) g (fun j hj=>?_) fun h' tk D kk=>?_
 ·have hj':j<prs.length:=by simp at hj; omega
  obtain ⟨p,t,e1,g2,_⟩:=hv j hj'
  refine ⟨p,.str prs[j].1 t,by simpa using e1,g2,?_⟩
  rw [List.getElem?_eq_getElem hj',Option.getD_some]
  exact g5 _ _ _ _
 ·have hk:=nQ prs vf (fun j hj=>(hv j hj).choose_spec.choose_spec.2.2) prs.length (Nat.le_refl _)
  rw [List.take_length] at hk
  have ez:its.toArray.size=prs.length:=by simp; exact hli
  rw [ez] at D
  refine ⟨.ref s.heap.objs.size,_,I.laid (a:=s.heap.objs.size) (t':=tk) (o:=.dK (prs.foldl (fun kvs kv=>putK kvs (Sum.inr kv.1:Key) kv.2) [])) kk (Nat.le_refl _) ⟨?_,beq_eq_false_iff_ne.mpr (Ne.symm (Nat.ne_of_lt I.big)),_,hk,D⟩,rfl,q _ (I.hok.fresh (Nat.le_refl _))⟩
  refine Nat.le_trans (sv prs []) ?_
  rw [sizeLine_eq,List.length_nil]
  omega
theorem lX {K:PySem.W.Frag} {F:Hp}:∀ {xs:List PV} {vs:List V} {kvs:List (Key×PV)},xs.mapM pairK=some kvs->Reps K F vs xs->∃ prs:List (Str×V),prs.length=vs.length/\(∀ j (hj:j<prs.length),∃ p,vs[j]?=some (.ref p)/\SqT K F p [.str prs[j].1,prs[j].2])/\RepsK K F (prs.map fun q=>(Sum.inr q.1,q.2)) kvs
 | [],vs,kvs,h,r=>by simp at h; subst h; cases r; exact ⟨[],rfl,fun j hj=>by simp at hj,.nil⟩
 | x::xs,vs,kvs,h,r=>by
  rw [List.mapM_cons] at h
  cases ea:pairK x with
  | none=>rw [ea] at h; cases h
  | some a =>
   rw [ea] at h
   cases el:xs.mapM pairK with
   | none=>rw [el] at h; cases h
   | some bs =>
    rw [el] at h
    have h:some (a::bs)=some kvs:=h
    cases h
    cases r with
    | cons r1 r2 =>
     obtain ⟨prs,q1,q2,q3⟩:=lX el r2
     unfold pairK at ea
     split at ea
     ·cases ea
      cases r1 with
      | tup h1 h2 =>
       cases h2 with
       | cons h2 h3 =>
        cases h3 with
        | cons h3 h4 =>
         cases h4
         cases h2
         refine ⟨(_,_)::prs,by simp [q1],fun j hj=>?_,.cons h3 q3⟩
         cases j with
         | zero=>exact ⟨_,rfl,h1⟩
         | succ j=>simpa using q2 j (by simpa using hj)
     ·cases ea
theorem fR:∀ (prs:List (Str×V)) (acc:List (Key×V)),prs.foldl (fun kvs kv=>putK kvs (Sum.inr kv.1:Key) kv.2) acc=mergeK acc (prs.map fun q=>(Sum.inr q.1,q.2))
 | [],acc=>rfl
 | q::prs,acc=>by
  rw [List.foldl_cons,fR prs]
  rfl
theorem n5:CallQF ob X (rDictP X.K) dictPV:=by
 intro Z F σ H env vs xs z Q K rv hz k
 unfold dictPV at hz
 split at hz
 ·split at hz
  ·rename_i hlen
   rw [Option.map_eq_some_iff] at hz
   obtain ⟨kvs,hk,rfl⟩:=hz
   obtain ⟨v,rfl,r⟩:=rv.one
   obtain ⟨q,vs,rfl,h1,h2⟩:=r.lst K.sF
   obtain ⟨prs,q1,q2,q3⟩:=lX hk h2
   refine ⟨q,vs,prs,rfl,h1,q1.symm,by rw [q1,h2.len]; exact hlen,fun j hj=>?_,fun d hd=>?_⟩
   ·obtain ⟨p,e1,e2⟩:=q2 j hj
    exact ⟨p,e1,au K.sF e2⟩
   ·refine k _ _ (fun _=>by simp) (K.own hd ⟨_,am,?_⟩)
    rw [fR]
    exact qj q3 .nil
  ·cases hz
 ·cases hz
end
end Q
namespace Q
open PySem L2 PyProof.Rows
section
variable {ob:ObK} {X:Cx} {a b:Expr} {f g:WE} {pos:Pos}
end
end Q
namespace L2
open PySem PySem.Spec PyProof.Rows
section
variable {prog:Program} {w:World} {A:Around} {E:Value->Shared->Prop} {s:Shared}
theorem jR {j t:Addr} {n:Nat} {its:Array Value} {x:Value} {Q:Value->Shared->Prop} (gj:s.heap.IsListIter j t n) (gt:s.heap.IsList t its) (gx:its[n]?=some x)
  (k:∀ h',h'.IsListIter j t (n+1)->Heap.SameBut j s.heap h'->Q x { s with heap:=h' }):wpAny (model prog w) A (Builtin.SmallTypes.nextOf (.ref j)) Q E s:=by
 obtain ⟨oj,j1,j2,j3⟩:=id gj
 obtain ⟨ot,t1,_,m,t3⟩:=gt
 unfold Builtin.SmallTypes.nextOf
 refine wpAny_bind (wpAny_callSpecial?_slot (name:=Str.ofString "__next__") gj.typeIs PySem.slot_listiter_next (wpAny_call_entry PySem.slot_listiter_next gj.typeIs PySem.entry_listiter_next ?_ (PySem.args_listiter_next _)))
 show wpAny _ _ (field (.ref j) 0 >>= _) _ _ s
 refine wpAny_bind (wpAny_field j1 j3 (x:=.ref t) rfl ?_)
 show wpAny _ _ (if (Value.ref t==.none)=true then _ else _) _ _ s
 rw [if_neg (show ¬ ((Value.ref t==.none)=true) from Bool.false_ne_true)]
 show wpAny _ _ (field (.ref j) 1 >>= _) _ _ s
 refine wpAny_bind (wpAny_field j1 j3 (x:=.int n 0) rfl ?_)
 refine wpAny_bind (m:=seqItems? (.ref t)) (wpAny_seqItems t1 t3 ?_)
 simp only [Int.toNat_natCast,gx]
 refine wpAny_bind (wpAny_setField j1 j3 (by simp) (wpAny_pure ⟨x,rfl,wpAny_pure (k _ ⟨_,Heap.get?_update_self _ j1 (Obj.isFreed_of_fields (Obj.data_mapFields j3 _)),(Obj.cls_mapFields ..).trans j2,?_⟩ (Heap.SameBut.update ..))⟩))
 rw [Obj.data_mapFields j3]
 simp [rawInt]
theorem endLst {j t:Addr} {n:Nat} {its:Array Value} {Q:Value->Shared->Prop} (hh:A.handled=none) (gj:s.heap.IsListIter j t n) (gt:s.heap.IsList t its) (gx:its[n]?=none)
  (k:∀ h' e,Heap.ExtBut j s.heap h'->(∃ o,h'.get? e=some o/\o.cls=.type "StopIteration")->E (.ref e) { s with heap:=h' }):wpAny (model prog w) A (Builtin.SmallTypes.nextOf (.ref j)) Q E s:=by
 obtain ⟨oj,j1,j2,j3⟩:=id gj
 obtain ⟨ot,t1,_,m,t3⟩:=gt
 unfold Builtin.SmallTypes.nextOf
 refine wpAny_bind (wpAny_callSpecial?_slot (name:=Str.ofString "__next__") gj.typeIs PySem.slot_listiter_next (wpAny_call_entry PySem.slot_listiter_next gj.typeIs PySem.entry_listiter_next ?_ (PySem.args_listiter_next _)))
 show wpAny _ _ (field (.ref j) 0 >>= _) _ _ s
 refine wpAny_bind (wpAny_field j1 j3 (x:=.ref t) rfl ?_)
 show wpAny _ _ (if (Value.ref t==.none)=true then _ else _) _ _ s
 rw [if_neg (show ¬ ((Value.ref t==.none)=true) from Bool.false_ne_true)]
 show wpAny _ _ (field (.ref j) 1 >>= _) _ _ s
 refine wpAny_bind (wpAny_field j1 j3 (x:=.int n 0) rfl ?_)
 refine wpAny_bind (m:=seqItems? (.ref t)) (wpAny_seqItems t1 t3 ?_)
 simp only [Int.toNat_natCast,gx]
 refine wpAny_bind (wpAny_rule (wpAny_bind (wpAny_setField j1 j3 (by simp) ?_)))
 refine wpAny_bind (m:=newExc (.type "StopIteration") []) ?_
 simp only [newExc,newTuple]
 refine wpAny_bind (wpAny_newObj_type (wpAny_bind (m:=firstArgMember _ _) (wpAny_of_eq (a:=Value.none) (by first | rfl | (simp only [firstArgMember]; rfl)) (wpAny_newObj_type ?_ (by size_fits)))) (by size_fits))
 simp only [raiseNew]
 refine wpAny_bind (wpAny_handled ?_)
 first | rw [show A.in1.handled=none from hh] | rw [hh]
 exact wpAny_bind (wpAny_pure (wpAny_throw (k _ _ (((Heap.SameBut.update ..).extBut.push _).push _) ⟨_,Heap.get?_push_size _ rfl,rfl⟩)))
structure ZipL (h:Heap) (z u o i1 i2 t1 t2:Addr) (n:Nat):Prop where
 zz:IsZip h z u o .none
 uu:IsPair h u (.ref i1) (.ref i2)
 oo:∃ a b,IsPair h o a b
 a1:h.IsListIter i1 t1 n
 a2:h.IsListIter i2 t2 n
theorem lstAt {h h':Heap} {a:Addr} {its:Array Value} (x:h.IsList a its) (k:∀ o,h.get? a=some o->h'.get? a=some o):h'.IsList a its:=by
 obtain ⟨o,e,r⟩:=x
 exact ⟨o,k o e,r⟩
theorem itrAtL {h h':Heap} {a t:Addr} {n:Nat} (x:h.IsListIter a t n) (k:∀ o,h.get? a=some o->h'.get? a=some o):h'.IsListIter a t n:=by
 obtain ⟨o,e,r⟩:=x
 exact ⟨o,k o e,r⟩
theorem di {h:Heap} {t z u o:Addr} {v:Value} {its:Array Value} (x:h.IsList t its) (y:IsZip h z u o v):t≠z:=by
 rintro rfl
 obtain ⟨q,e,c,_⟩:=x
 rw [y] at e; cases e
 simp at c
theorem jl {h:Heap} {t j b:Addr} {n:Nat} {its:Array Value} (x:h.IsList t its) (y:h.IsListIter j b n):t≠j:=by
 rintro rfl
 obtain ⟨q,e,c,_⟩:=x
 obtain ⟨q',e',c',_⟩:=y
 rw [e] at e'; cases e'
 rw [c] at c'
 simp at c'
theorem o6 {z u o i1 i2 t1 t2:Addr} {n:Nat} {xs ys:Array Value} {x y:Value} {Q:Option Value->Shared->Prop} (D:Five z u o i1 i2) (Z:ZipL s.heap z u o i1 i2 t1 t2 n) (ho1:t1≠o) (ho2:t2≠o)
  (g1:s.heap.IsList t1 xs) (g2:s.heap.IsList t2 ys) (e1:xs[n]?=some x) (e2:ys[n]?=some y)
  (k:∀ h',IsZip h' z u o (rawInt s.heap.objs.size)->IsPair h' u (.ref i1) (.ref i2)->IsPair h' o x y->h'.IsListIter i1 t1 (n+1)->h'.IsListIter i2 t2 (n+1)->IsPair h' s.heap.objs.size x y->h'.objs.size=s.heap.objs.size+1 ->
   (∀ c q,c∉[z,o,i1,i2]->s.heap.get? c=some q->h'.get? c=some q)->Q (some (.ref s.heap.objs.size)) { s with heap:=h' }) :
  wpAny (model prog w) A (pyNext (.ref z)) Q E s:=by
 obtain ⟨zz,uu,⟨a,b,oo⟩,a1,a2⟩:=Z
 have z1:=di g1 zz
 have z2:=di g2 zz
 have hty:s.TypeIs (.ref z) "zip" := ⟨_,zz,rfl⟩
 unfold pyNext
 refine wpAny_bind (wpAny_attempt (wpAny_callSpecial?_slot (name:=Str.ofString "__next__") hty F.slot_zip_next (wpAny_call_entry F.slot_zip_next hty F.entry_zip_next ?_ (F.args_zip_next_1 _))))
 refine wpAny_bind (m:=field (.ref z) 2) (wpAny_field zz rfl (x:=.bool false) rfl ?_)
 refine wpAny_bind (m:=field (.ref z) 3) (wpAny_field zz rfl (x:=.ref u) rfl ?_)
 refine wpAny_bind (wpAny_seqItems uu rfl ?_)
 refine wpAny_bind (m:=Builtin.SmallTypes.ownedTupleIsFree (.ref z)) ?_
 unfold Builtin.SmallTypes.ownedTupleIsFree
 refine wpAny_bind (wpAny_field zz rfl (x:=.none) rfl (wpAny_pure ?_))
 simp only [if_true]
 refine wpAny_bind (wpAny_rule (wpAny_bind (wpAny_field zz rfl (x:=.ref o) rfl (wpAny_bind (wpAny_setField_rec zz (by simp) fun p1 q1 k1=>?_)))))
 replace q1:IsZip p1 z u o .ellipsis:=q1
 refine wpAny_bind ?_
 simp only [List.zipIdx_cons,List.zipIdx_nil,List.forIn_cons,List.forIn_nil]
 refine wpAny_bind (wpAny_bind (wpAny_onRaise ?_))
 refine wpAny_bind (m:=Builtin.SmallTypes.nextOf (.ref i1)) (jR (itrAtL a1 fun q e=>k1.extBut _ _ D.x1z e) (lstAt g1 fun q e=>k1.extBut _ _ z1 e) e1 fun p2 q2 k2=>wpAny_pure ?_)
 have r2:IsPair p2 o a b:=k2.extBut _ _ D.o1 (k1.extBut _ _ D.oz oo)
 refine wpAny_bind (wpAny_seqItems r2 rfl (wpAny_bind (wpAny_updateSeq_pair r2 fun p3 q3 k3=>?_)))
 replace q3:IsPair p3 o x b:=q3
 refine wpAny_bind (wpAny_letGo (wpAny_pure (wpAny_bind (wpAny_bind (wpAny_onRaise ?_)))))
 refine wpAny_bind (m:=Builtin.SmallTypes.nextOf (.ref i2)) (jR (itrAtL a2 fun q e=>k3.extBut _ _ D.o2.symm (k2.extBut _ _ D.xx.symm (k1.extBut _ _ D.x2z e)))
  (lstAt g2 fun q e=>k3.extBut _ _ ho2 (k2.extBut _ _ (jl g2 a1) (k1.extBut _ _ z2 e))) e2 fun p4 q4 k4=>wpAny_pure ?_)
 have r4:IsPair p4 o x b:=k4.extBut _ _ D.o2 q3
 refine wpAny_bind (wpAny_seqItems r4 rfl (wpAny_bind (wpAny_updateSeq_pair r4 fun p5 q5 k5=>?_)))
 replace q5:IsPair p5 o x y:=q5
 refine wpAny_bind (wpAny_letGo (wpAny_pure (wpAny_pure ?_)))
 refine wpAny_bind (wpAny_seqItems q5 rfl (wpAny_bind (wpAny_newTuple ?_)))
 have sz:p5.objs.size=s.heap.objs.size:=by rw [k5.1,k4.1,k3.1,k2.1,k1.1]
 have all5:∀ c q,c≠z->c≠o->c≠i1->c≠i2->s.heap.get? c=some q->p5.get? c=some q:=fun c q c1 c2 c3 c4 e=>k5.extBut _ _ c2 (k4.extBut _ _ c4 (k3.extBut _ _ c2 (k2.extBut _ _ c3 (k1.extBut _ _ c1 e))))
 have z5:IsZip p5 z u o .ellipsis:=k5.extBut _ _ D.oz.symm (k4.extBut _ _ D.x2z.symm (k3.extBut _ _ D.oz.symm (k2.extBut _ _ D.x1z.symm q1)))
 have b1:p5.IsListIter i1 t1 (n+1):=itrAtL q2 fun q e=>k5.extBut _ _ D.o1.symm (k4.extBut _ _ D.xx (k3.extBut _ _ D.o1.symm e))
 have b2:p5.IsListIter i2 t2 (n+1):=itrAtL q4 fun q e=>k5.extBut _ _ D.o2.symm e
 refine wpAny_bind (m:=Builtin.SmallTypes.ownedTupleHandOut (.ref z) (.ref p5.objs.size)) ?_
 unfold Builtin.SmallTypes.ownedTupleHandOut
 have z6:IsZip (p5.push { cls:=.type "tuple",data:=.seq #[x,y] }) z u o .ellipsis:=Heap.get?_push_of_some _ z5
 refine wpAny_bind (wpAny_setField_rec z6 (by simp) fun p7 q7 k7=>?_)
 replace q7:IsZip p7 z u o (rawInt p5.objs.size):=q7
 refine wpAny_setField_rec q7 (by simp) fun p8 q8 k8=>?_
 replace q8:IsZip p8 z u o (rawInt p5.objs.size):=q8
 have up:∀ c q,c≠z->p5.get? c=some q->p8.get? c=some q:=fun c q c1 e=>k8.extBut _ _ c1 (k7.extBut _ _ c1 (Heap.get?_push_of_some _ e))
 have zlt:p5.objs.size≠z:=Nat.ne_of_gt (Heap.lt_size z5)
 have new8:IsPair p8 p5.objs.size x y:=k8.extBut _ _ zlt (k7.extBut _ _ zlt (Heap.get?_push_size _ rfl))
 have s8:p8.objs.size=p5.objs.size+1:=by rw [k8.1,k7.1,Heap.size_push]
 rw [sz] at q8 new8 s8
 refine wpAny_pure ⟨_,rfl,wpAny_pure ?_⟩
 show Q (some (.ref p5.objs.size)) _
 rw [sz]
 exact k p8 q8 (up _ _ D.uz (all5 _ _ D.uz D.uo D.u1 D.u2 uu)) (up _ _ D.oz q5) (itrAtL b1 fun q e=>up _ _ D.x1z e) (itrAtL b2 fun q e=>up _ _ D.x2z e) new8 s8 fun c q hc e=>by
  simp only [List.mem_cons,List.not_mem_nil,or_false,not_or] at hc
  exact up c q hc.1 (all5 c q hc.1 hc.2.1 hc.2.2.1 hc.2.2.2 e)
theorem qY {z u o i1 i2 t1 t2:Addr} {n:Nat} {xs ys:Array Value} {Q:Option Value->Shared->Prop} (hh:A.handled=none) (D:Five z u o i1 i2) (Z:ZipL s.heap z u o i1 i2 t1 t2 n) (ho1:t1≠o) (ho2:t2≠o)
  (g1:s.heap.IsList t1 xs) (g2:s.heap.IsList t2 ys) (e:xs[n]?=none\/ys[n]?=none)
  (k:∀ h',(∀ c q,c∉[z,o,i1,i2]->s.heap.get? c=some q->h'.get? c=some q)->Q none { s with heap:=h' }) :
  wpAny (model prog w) A (pyNext (.ref z)) Q E s:=by
 obtain ⟨zz,uu,⟨a,b,oo⟩,a1,a2⟩:=Z
 have z1:=di g1 zz
 have z2:=di g2 zz
 have hty:s.TypeIs (.ref z) "zip" := ⟨_,zz,rfl⟩
 unfold pyNext
 have fin:∀ (h':Heap) (x:Addr),(∀ c q,c∉[z,o,i1,i2]->s.heap.get? c=some q->h'.get? c=some q)->(∃ q,h'.get? x=some q/\q.cls=.type "StopIteration") ->
   wpAny (model prog w) A (do if (<- isInstance (.ref x) (.type "StopIteration")) then pure none else throw (.ref x)) Q E { s with heap:=h' }:=fun h' x kk ⟨q,hq,hc⟩ =>
  wpAny_bind (wpAny_isInstance (T := "StopIteration") (b:=true) ⟨q,hq,hc⟩ isSubtype_stop (wpAny_pure (k _ kk)))
 refine wpAny_bind (wpAny_attempt (wpAny_callSpecial?_slot (name:=Str.ofString "__next__") hty F.slot_zip_next (wpAny_call_entry F.slot_zip_next hty F.entry_zip_next ?_ (F.args_zip_next_1 _))))
 refine wpAny_bind (m:=field (.ref z) 2) (wpAny_field zz rfl (x:=.bool false) rfl ?_)
 refine wpAny_bind (m:=field (.ref z) 3) (wpAny_field zz rfl (x:=.ref u) rfl ?_)
 refine wpAny_bind (wpAny_seqItems uu rfl ?_)
 refine wpAny_bind (m:=Builtin.SmallTypes.ownedTupleIsFree (.ref z)) ?_
 unfold Builtin.SmallTypes.ownedTupleIsFree
 refine wpAny_bind (wpAny_field zz rfl (x:=.none) rfl (wpAny_pure ?_))
 simp only [if_true]
 refine wpAny_bind (wpAny_rule (wpAny_bind (wpAny_field zz rfl (x:=.ref o) rfl (wpAny_bind (wpAny_setField_rec zz (by simp) fun p1 q1 k1=>?_)))))
 replace q1:IsZip p1 z u o .ellipsis:=q1
 refine wpAny_bind ?_
 simp only [List.zipIdx_cons,List.zipIdx_nil,List.forIn_cons,List.forIn_nil]
 refine wpAny_bind (wpAny_bind (wpAny_onRaise ?_))
 cases e1:xs[n]? with
 | none =>
  refine wpAny_bind (m:=Builtin.SmallTypes.nextOf (.ref i1)) (endLst hh (itrAtL a1 fun q e=>k1.extBut _ _ D.x1z e) (lstAt g1 fun q e=>k1.extBut _ _ z1 e) e1 fun p2 x k2 ⟨ox,x1,x2⟩=>?_)
  have q2:IsZip p2 z u o .ellipsis:=k2 _ _ D.x1z.symm q1
  have xz:x≠z:=fun q=>by subst q; rw [q2] at x1; cases x1; simp at x2
  refine wpAny_setField_rec q2 (by simp) fun p3 _ k3=>fin p3 x (fun c q hc e=>?_) ⟨ox,k3.extBut _ _ xz x1,x2⟩
  simp only [List.mem_cons,List.not_mem_nil,or_false,not_or] at hc
  exact k3.extBut _ _ hc.1 (k2 _ _ hc.2.2.1 (k1.extBut _ _ hc.1 e))
 | some x0 =>
  have e2:ys[n]?=none:=by rcases e with h | h; rw [e1] at h; cases h; exact h
  refine wpAny_bind (m:=Builtin.SmallTypes.nextOf (.ref i1)) (jR (itrAtL a1 fun q e=>k1.extBut _ _ D.x1z e) (lstAt g1 fun q e=>k1.extBut _ _ z1 e) e1 fun p2 q2 k2=>wpAny_pure ?_)
  have r2:IsPair p2 o a b:=k2.extBut _ _ D.o1 (k1.extBut _ _ D.oz oo)
  refine wpAny_bind (wpAny_seqItems r2 rfl (wpAny_bind (wpAny_updateSeq_pair r2 fun p3 q3 k3=>?_)))
  refine wpAny_bind (wpAny_letGo (wpAny_pure (wpAny_bind (wpAny_bind (wpAny_onRaise ?_)))))
  refine wpAny_bind (m:=Builtin.SmallTypes.nextOf (.ref i2)) (endLst hh (itrAtL a2 fun q e=>k3.extBut _ _ D.o2.symm (k2.extBut _ _ D.xx.symm (k1.extBut _ _ D.x2z e)))
   (lstAt g2 fun q e=>k3.extBut _ _ ho2 (k2.extBut _ _ (jl g2 a1) (k1.extBut _ _ z2 e))) e2 fun p4 x k4 ⟨ox,x1,x2⟩=>?_)
  have q4:IsZip p4 z u o .ellipsis:=k4 _ _ D.x2z.symm (k3.extBut _ _ D.oz.symm (k2.extBut _ _ D.x1z.symm q1))
  have xz:x≠z:=fun q=>by subst q; rw [q4] at x1; cases x1; simp at x2
  refine wpAny_setField_rec q4 (by simp) fun p5 _ k5=>fin p5 x (fun c q hc e=>?_) ⟨ox,k5.extBut _ _ xz x1,x2⟩
  simp only [List.mem_cons,List.not_mem_nil,or_false,not_or] at hc
  exact k5.extBut _ _ hc.1 (k4 _ _ hc.2.2.2 (k3.extBut _ _ hc.2.1 (k2.extBut _ _ hc.2.2.1 (k1.extBut _ _ hc.1 e))))
end
end L2
namespace L2
open PySem PySem.Spec PyProof.Rows
noncomputable abbrev zL1 (h:Heap) (t1:Addr):Heap:=h.push { cls:=.type "list_iterator",data:=.fields #[.ref t1,.int 0 0] }
noncomputable abbrev zL2 (h:Heap) (t1 t2:Addr):Heap:=(zL1 h t1).push { cls:=.type "list_iterator",data:=.fields #[.ref t2,.int 0 0] }
noncomputable abbrev zL3 (h:Heap) (t1 t2:Addr):Heap:=(zL2 h t1 t2).push { cls:=.type "tuple",data:=.seq #[.ref h.objs.size,.ref (zL1 h t1).objs.size] }
noncomputable abbrev zL4 (h:Heap) (t1 t2:Addr):Heap:=(zL3 h t1 t2).push { cls:=.type "tuple",data:=.seq #[.none,.none] }
noncomputable abbrev zL5 (h:Heap) (t1 t2:Addr):Heap:=(zL4 h t1 t2).push { cls:=.type "zip",data:=.fields #[.none,.bool false,.bool false,.ref (zL2 h t1 t2).objs.size,.ref (zL3 h t1 t2).objs.size] }
theorem sf (t1 t2:Addr) (xs ys:Array Value):Meets (Builtin.«zip.__new__» ⟨[.type "zip",.ref t1,.ref t2],[]⟩)
  (fun _ R s=>s.heap.IsList t1 xs/\s.heap.IsList t2 ys/\R (.ok (.ret (.ref (zL4 s.heap t1 t2).objs.size))) { s with heap:=zL5 s.heap t1 t2 }) :=
 .of_wp fun prog w A R s q=>by
  obtain ⟨hp,g,d,tk,os⟩:=s
  obtain ⟨g1,g2,q⟩:=q
  have hs:=sub_zip
  have m1:Heap.IsList (Shared.heap ⟨hp,g,d,tk,os⟩) t1 xs:=g1
  have m2:Heap.IsList (Shared.heap ⟨hp.push { cls:=.type "list_iterator",data:=.fields #[.ref t1,.int 0 0] },g,d,tk,os⟩) t2 ys:=Heap.IsList.push g2 _
  wp_walk using wpAny_pyIter_list m1,wpAny_pyIter_list m2
  exact ⟨_,rfl,q⟩
section
variable {prog:Program} {w:World} {A:Around} {E:Value->Shared->Prop} {s:Shared}
theorem uQ {t1 t2:Addr} {xs ys:Array Value} {Q:Value->Shared->Prop} (g1:s.heap.IsList t1 xs) (g2:s.heap.IsList t2 ys)
  (k:∀ h',ZipL h' (s.heap.objs.size+4) (s.heap.objs.size+2) (s.heap.objs.size+3) s.heap.objs.size (s.heap.objs.size+1) t1 t2 0->h'.objs.size=s.heap.objs.size+5->(∀ c o,s.heap.get? c=some o->h'.get? c=some o)->Q (.ref (s.heap.objs.size+4)) { s with heap:=h' }) :
  wpAny (model prog w) A (call (.type "zip") [.ref t1,.ref t2]) Q E s:=by
 refine callType_new F.called_zip (by decide) (F.typeCall_zip_2 _ _) (F.newCall_zip_2 _ _) (fun obj=>F.args_object_init_3 obj _ _) F.entry_zip_new (sf t1 t2 xs ys) ⟨g1,g2,?_⟩
 have z1:(zL1 s.heap t1).objs.size=s.heap.objs.size+1:=Heap.size_push ..
 have z2:(zL2 s.heap t1 t2).objs.size=s.heap.objs.size+2:=by rw [Heap.size_push,z1]
 have z3:(zL3 s.heap t1 t2).objs.size=s.heap.objs.size+3:=by rw [Heap.size_push,z2]
 have z4:(zL4 s.heap t1 t2).objs.size=s.heap.objs.size+4:=by rw [Heap.size_push,z3]
 have z5:(zL5 s.heap t1 t2).objs.size=s.heap.objs.size+5:=by rw [Heap.size_push,z4]
 have up:∀ {h:Heap} {o o':Obj} {c:Addr},h.get? c=some o'->(h.push o).get? c=some o':=fun e=>Heap.get?_push_of_some _ e
 have y5:(zL5 s.heap t1 t2).get? (zL4 s.heap t1 t2).objs.size=some _:=Heap.get?_push_size _ rfl
 have y4:(zL5 s.heap t1 t2).get? (zL3 s.heap t1 t2).objs.size=some _:=up (Heap.get?_push_size _ rfl)
 have y3:(zL5 s.heap t1 t2).get? (zL2 s.heap t1 t2).objs.size=some _:=up (up (Heap.get?_push_size _ rfl))
 have y2:(zL5 s.heap t1 t2).get? (zL1 s.heap t1).objs.size=some _:=up (up (up (Heap.get?_push_size _ rfl)))
 have y1:(zL5 s.heap t1 t2).get? s.heap.objs.size=some _:=up (up (up (up (Heap.get?_push_size _ rfl))))
 show _/\_
 rw [z2,z3,z4] at y5
 rw [z1,z2] at y3
 rw [z3] at y4
 rw [z1] at y2
 rw [z4]
 exact ⟨⟨_,y5,rfl⟩,k _ ⟨y5,y3,⟨_,_,y4⟩,⟨_,y1,rfl,rfl⟩,⟨_,y2,rfl,rfl⟩⟩ z5 fun c o e=>up (up (up (up (up e))))⟩
end
noncomputable def ItzL (K:PySem.W.Frag) (a b:Addr):It :=
 ⟨fun i H=>∃ xs ys x y,SqL K H a xs/\SqL K H b ys/\xs[i]?=some x/\ys[i]?=some y,
  fun i H v H'=>∃ p x y,v=.ref p/\H p=none/\H'=upd H p (.tup [x,y])/\∀ xs ys,SqL K H a xs->SqL K H b ys->xs[i]?=some x/\ys[i]?=some y,
  fun i H=>∃ xs ys,SqL K H a xs/\SqL K H b ys/\(xs.length<=i\/ys.length<=i)⟩
theorem o5 {h h':Heap} {z u o i1 i2 t1 t2:Addr} {n:Nat} (Z:ZipL h z u o i1 i2 t1 t2 n) (k:∀ b∈[z,u,o,i1,i2],∀ q,h.get? b=some q->h'.get? b=some q):ZipL h' z u o i1 i2 t1 t2 n:=by
 obtain ⟨zz,uu,⟨a,b,oo⟩,a1,a2⟩:=Z
 exact ⟨k z (by simp) _ zz,k u (by simp) _ uu,⟨a,b,k o (by simp) _ oo⟩,itrAtL a1 fun q e=>k i1 (by simp) q e,itrAtL a2 fun q e=>k i2 (by simp) q e⟩
theorem pf {P:Program} {w:World} {K:PySem.W.Frag} {elts:List Expr} {x1:_} {pos:Pos} (a b z u o i1 i2:Addr) (D:Five z u o i1 i2) (ho1:a≠o) (ho2:b≠o) :
  Turn P w K (.Tuple elts x1 pos) (ItzL K a b) [z,u,o,i1,i2] z (fun n h=>ZipL h z u o i1 i2 a b n) where
 mem:=by simp
 obj:=fun n h Z c hc=>by
  obtain ⟨zz,uu,⟨p,q,oo⟩,⟨o1,e1,c1,d1⟩,⟨o2,e2,c2,d2⟩⟩:=Z
  simp only [List.mem_cons,List.not_mem_nil,or_false] at hc
  rcases hc with rfl | rfl | rfl | rfl | rfl
  ·exact ⟨_,zz,fun v e=>(by cases (show Data.fields _=Data.cell v from e))⟩
  ·exact ⟨_,uu,fun v e=>(by cases (show Data.seq _ _=Data.cell v from e))⟩
  ·exact ⟨_,oo,fun v e=>(by cases (show Data.seq _ _=Data.cell v from e))⟩
  ·exact ⟨_,e1,fun v e=>(by rw [d1] at e; cases e)⟩
  ·exact ⟨_,e2,fun v e=>(by rw [d2] at e; cases e)⟩
 keep:=fun n h h' Z k=>o5 Z k
 item:=by
  intro X hP hw hK hc n pins s σ H E I hf Z hg
  subst hP hw hK
  obtain ⟨xs,ys,x,y,hx,hy,ex,ey⟩:=hg
  obtain ⟨is1,rv1,p1,hz1⟩:=I.list hx
  obtain ⟨is2,rv2,p2,hz2⟩:=I.list hy
  obtain ⟨v1,e1,r1⟩:=rv1.get ex
  obtain ⟨v2,e2,r2⟩:=rv2.get ey
  have hfree:H s.heap.objs.size=none:=I.hok.fresh (Nat.le_refl _)
  refine o6 D Z ho1 ho2 (show s.heap.IsList a is1.toArray from p1.isList) (show s.heap.IsList b is2.toArray from p2.isList) (x:=v1) (y:=v2) (by simpa using e1) (by simpa using e2) fun h' q1 q2 q3 q4 q5 q6 q7 kk=>?_
  refine ⟨_,rfl,wpAny_letOwnedTupleGo_zip (s:={ s with heap:=h' }) q1 fun h2 w1 w2=>?_⟩
  have old:∀ c∈[z,u,o,i1,i2],c<s.heap.objs.size:=fun c hc=>by
   obtain ⟨zz,uu,⟨p,q,oo⟩,⟨o1,e1,c1,d1⟩,⟨o2,e2,c2,d2⟩⟩:=Z
   simp only [List.mem_cons,List.not_mem_nil,or_false] at hc
   rcases hc with rfl | rfl | rfl | rfl | rfl
   ·exact Heap.lt_size zz
   ·exact Heap.lt_size uu
   ·exact Heap.lt_size oo
   ·exact Heap.lt_size e1
   ·exact Heap.lt_size e2
  have hnz:s.heap.objs.size≠z:=Nat.ne_of_gt (old z (by simp))
  have I1:Inv X pins σ (upd H s.heap.objs.size (.tup [x,y])) { s with heap:=s.heap.push { cls:=.type "tuple",data:=.seq #[v1,v2] } } :=
   I.laid (t':=s.toks) (fun b u e=>Heap.get?_push_of_some _ e) (Nat.le_refl _) ⟨by show 2<=sizeLine; decide,[v1,v2],.cons r1 (.cons r2 .nil),⟨_,Heap.get?_push_size _ rfl,rfl,_,rfl⟩⟩
  have hf1:∀ c∈[z,u,o,i1,i2],FpOk X pins (upd H s.heap.objs.size (.tup [x,y])) c:=fun c hc=>⟨by rw [aq (Nat.ne_of_lt (old c hc))]; exact (hf c hc).1,(hf c hc).2⟩
  have I2:Inv X pins σ (upd H s.heap.objs.size (.tup [x,y])) { s with heap:=h2 }:=by
   refine I1.turnedL (t':=s.toks) (h':=h2) (fun c q hc e=>?_) hf1
   have hcz:c≠z:=fun e=>hc (by simp [e])
   refine w2.extBut _ _ hcz ?_
   by_cases hcs:c=s.heap.objs.size
   ·subst hcs
    have:(s.heap.push { cls:=.type "tuple",data:=.seq #[v1,v2] }).get? s.heap.objs.size=some { cls:=.type "tuple",data:=.seq #[v1,v2] }:=Heap.get?_push_size _ rfl
    have e':some { cls:=.type "tuple",data:=.seq #[v1,v2] }=some q:=this.symm.trans e
    rw [<- e']; exact q6
   ·refine kk c q (fun z=>hc ?_) ?_
    ·simp only [List.mem_cons,List.not_mem_nil,or_false] at z ⊢
     rcases z with z | z | z | z
     ·exact .inl z
     ·exact .inr (.inr (.inl z))
     ·exact .inr (.inr (.inr (.inl z)))
     ·exact .inr (.inr (.inr (.inr z)))
    ·exact (Heap.get?_push_ne _ _ _ hcs).symm.trans e
  refine ⟨.ref s.heap.objs.size,_,I2,rfl,⟨_,x,y,rfl,hfree,rfl,fun xs' ys' g1 g2=>?_⟩,?_,fun c hc=>(hf1 c hc).1⟩
  ·rw [I.list_inj g1 hx,I.list_inj g2 hy]
   exact ⟨ex,ey⟩
  ·exact ⟨w1,w2.extBut _ _ D.uz q2,⟨_,_,w2.extBut _ _ D.oz q3⟩,itrAtL q4 fun q e=>w2.extBut _ _ D.x1z e,itrAtL q5 fun q e=>w2.extBut _ _ D.x2z e⟩
 done:=by
  intro X hP hw hK hc n pins s σ H E I hf Z hg
  subst hP hw hK
  obtain ⟨xs,ys,hx,hy,hl⟩:=hg
  obtain ⟨is1,rv1,p1,hz1⟩:=I.list hx
  obtain ⟨is2,rv2,p2,hz2⟩:=I.list hy
  have l1:=rv1.length
  have l2:=rv2.length
  refine qY (I.ok.hd hc) D Z ho1 ho2 (show s.heap.IsList a is1.toArray from p1.isList) (show s.heap.IsList b is2.toArray from p2.isList) ?_ fun h' kk=>⟨rfl,I.turnedL (t':=s.toks) (fun c q hc e=>kk c q (fun z=>hc ?_) e) hf⟩
  ·rcases hl with h | h
   ·exact .inl (by simp; omega)
   ·exact .inr (by simp; omega)
  ·simp only [List.mem_cons,List.not_mem_nil,or_false] at z ⊢
   rcases z with z | z | z | z
   ·exact .inl z
   ·exact .inr (.inr (.inl z))
   ·exact .inr (.inr (.inr (.inl z)))
   ·exact .inr (.inr (.inr (.inr z)))
 self:=fun _ _ _ _ _ Z h=>wpAny_pyIter_zip Z.zz h
section
variable {X:Cx}
end
end L2
namespace L2
open PySem PySem.Spec PyProof.Rows
section
variable {X:Cx}
noncomputable def iZipE (K:PySem.W.Frag) (ta:TA):TI:=fun σ H R=>ta σ H fun vs H1=>∃ a b,vs=[.ref a,.ref b]/\(((∃ xs,SqT K H1 a xs)/\(∃ ys,SqT K H1 b ys)/\R (Itz K a b) H1)\/((∃ xs,SqL K H1 a xs)/\(∃ ys,SqL K H1 b ys)/\R (ItzL K a b) H1))
theorem tS {elts:List Expr} {x1:_} {tpos:Pos} {a b:Expr} {ta:TA} {p pos:Pos} (hg:Gl X "zip") (hm:X.mg "zip" = none) (ha:PA X [a,b] ta) (hs:autoParam (starEach [a,b] X.env=[(false,eval a X.env),(false,eval b X.env)]) Z2._auto_1) (hs2:autoParam (starEach [b] X.env=[(false,eval b X.env)]) Z2._auto_1) :
  PI X (.Tuple elts x1 tpos) (.Call (.Name "zip" p) [a,b] [] pos) (iZipE X.K ta):=by
 intro pins s σ H R I h
 refine Call_ (gg I hg hm boot_zip (PyProof.Rows.callWith_type1 (thn (ha pos pins s σ H _ I h) fun us s1 ⟨vs,H1,I1,r1,q1⟩=>?_) (by rw [hs,hs2]) (by rw [hs2]; rfl)))
 obtain ⟨c,d,e,q1⟩:=q1
 subst e
 cases r1 with
 | cons ra rr =>
  cases rr with
  | cons rb rr =>
   cases rr
   cases ra
   cases rb
   rcases q1 with ⟨⟨xs,hx⟩,⟨ys,hy⟩,q⟩ | ⟨⟨xs,hx⟩,⟨ys,hy⟩,q⟩
   ·
    obtain ⟨is1,rv1,p1,hz1⟩:=I1.tuple hx
    obtain ⟨is2,rv2,p2,hz2⟩:=I1.tuple hy
    have g1:s1.heap.IsTuple c is1.toArray:=p1
    have g2:s1.heap.IsTuple d is2.toArray:=p2
    have lc:c<s1.heap.objs.size:=by obtain ⟨o,e,_⟩:=g1; exact Heap.lt_size e
    have ld:d<s1.heap.objs.size:=by obtain ⟨o,e,_⟩:=g2; exact Heap.lt_size e
    refine uP g1 g2 fun h' Z sz kk=>?_
    have I2:Inv X pins σ H1 { s1 with heap:=h' }:=I1.kept (t':=s1.toks) kk
    refine wpAny_pyIter_zip Z.zz ⟨_,_,_,_,H1,rfl,I2,re c d _ _ _ _ _ (five s1.heap.objs.size) (Nat.ne_of_lt (Nat.lt_of_lt_of_le lc (Nat.le_add_right _ _))) (Nat.ne_of_lt (Nat.lt_of_lt_of_le ld (Nat.le_add_right _ _))),Z,fun b' hb=>?_,q⟩
    have hge:s1.heap.objs.size<=b':=by
     simp only [List.mem_cons,List.not_mem_nil,or_false] at hb
     rcases hb with rfl | rfl | rfl | rfl | rfl
     all_goals first | exact Nat.le_refl _ | exact Nat.le_add_right _ _
    exact I1.fpOk hge (I1.hok.fresh hge)
   ·
    obtain ⟨is1,rv1,p1,hz1⟩:=I1.list hx
    obtain ⟨is2,rv2,p2,hz2⟩:=I1.list hy
    have g1:s1.heap.IsList c is1.toArray:=p1.isList
    have g2:s1.heap.IsList d is2.toArray:=p2.isList
    have lc:c<s1.heap.objs.size:=by obtain ⟨o,e,_⟩:=g1; exact Heap.lt_size e
    have ld:d<s1.heap.objs.size:=by obtain ⟨o,e,_⟩:=g2; exact Heap.lt_size e
    refine uQ g1 g2 fun h' Z sz kk=>?_
    have I2:Inv X pins σ H1 { s1 with heap:=h' }:=I1.kept (t':=s1.toks) kk
    refine wpAny_pyIter_zip Z.zz ⟨_,_,_,_,H1,rfl,I2,pf c d _ _ _ _ _ (five s1.heap.objs.size) (Nat.ne_of_lt (Nat.lt_of_lt_of_le lc (Nat.le_add_right _ _))) (Nat.ne_of_lt (Nat.lt_of_lt_of_le ld (Nat.le_add_right _ _))),Z,fun b' hb=>?_,q⟩
    have hge:s1.heap.objs.size<=b':=by
     simp only [List.mem_cons,List.not_mem_nil,or_false] at hb
     rcases hb with rfl | rfl | rfl | rfl | rfl
     all_goals first | exact Nat.le_refl _ | exact Nat.le_add_right _ _
    exact I1.fpOk hge (I1.hok.fresh hge)
end
end L2
namespace Q
open PySem L2
section
variable {ob:ObK} {X:Cx} {a b:Expr} {fa:WA} {pos p:Pos}
theorem uq {M:Md} {F:Hp} {a b:Addr} {vs ws:List V} {xs ys:List PV} (h1:SqL M.K F a vs) (r1:Reps M.K F vs xs) (h2:SqL M.K F b ws) (r2:Reps M.K F ws ys):ItOk M (ItzL M.K a b) F (zipP xs ys):=by
 refine ⟨fun Z i σ env F' H x s K e=>?_,fun Z i σ env F' H s K hl=>⟨vs,ws,bc K.sF (bc s h1),bc K.sF (bc s h2),?_⟩⟩
 ·unfold zipP at e
  rw [List.getElem?_map] at e
  cases ez:(xs.zip ys)[i]? with
  | none=>rw [ez] at e; cases e
  | some q =>
   rw [ez] at e
   obtain ⟨x1,x2⟩:=q
   rw [List.getElem?_zip_eq_some] at ez
   have e:x=.tup [x1,x2]:=(Option.some.inj e).symm
   subst e
   obtain ⟨v1,q1,q2⟩:=r1.get ez.1
   obtain ⟨v2,q3,q4⟩:=r2.get ez.2
   have g1:=bc K.sF (bc s h1)
   have g2:=bc K.sF (bc s h2)
   refine ⟨⟨vs,ws,v1,v2,g1,g2,q1,q3⟩,fun v' H' y=>?_⟩
   obtain ⟨p,w1,w2,rfl,hp,rfl,y⟩:=y
   obtain ⟨y1,y2⟩:=y vs ws g1 g2
   rw [q1] at y1; cases y1
   rw [q3] at y2; cases y2
   have hF:F' p=none:=Same.none_of K.sF hp
   refine ⟨upd F' p (.tup [v1,v2]),az hF,K.lay hp,.tup (.inl (.inl am)) (.cons ((q2.mono s).mono (az hF)) (.cons ((q4.mono s).mono (az hF)) .nil)),az hp,fun c hc=>?_⟩
   by_cases z:c=p
   ·subst z; exact .inr hp
   ·rw [aq z] at hc; exact .inl hc
 ·have:=r1.len
  have:=r2.len
  simp only [zipP,List.length_map,List.length_zip] at hl
  omega
noncomputable def iZE (a:WA):WA:=fun env P=>a env fun xs e=>match xs with
 | [.tup xs,.tup ys]=>P (zipP xs ys) e
 | [.lst xs,.lst ys]=>P (zipP xs ys) e
 | _=>False
theorem nT {elts:List Expr} {x1:_} {tpos:Pos} (hg:Gl X "zip") (hm:X.mg "zip" = none) (ha:EvA ob X [a,b] fa) (hs:autoParam (starEach [a,b] X.env=[(false,eval a X.env),(false,eval b X.env)]) Z2._auto_1) (hs2:autoParam (starEach [b] X.env=[(false,eval b X.env)]) Z2._auto_1) :
  EvI ob X (.Tuple elts x1 tpos) (.Call (.Name "zip" p) [a,b] [] pos) (iZE fa):=by
 obtain ⟨t,ht,k⟩:=ha.ex
 refine ⟨_,tS hg hm ht hs hs2,fun Z F σ H env P R K hf kk=>k Z F σ H env _ _ K hf fun xs e1 vs F1 H1 p _ s1 K1 r1=>?_⟩
 split at p
 ·cases r1 with
  | cons r1 r2 =>
   cases r2 with
   | cons r2 r3 =>
    cases r3
    cases r1 with
    | tup g1 g2 =>
     cases r2 with
     | tup g3 g4=>exact ⟨_,_,rfl,.inl ⟨⟨_,au K1.sF g1⟩,⟨_,au K1.sF g3⟩,kk _ e1 _ F1 H1 p s1 K1 (vU g1 g2 g3 g4)⟩⟩
 ·cases r1 with
  | cons r1 r2 =>
   cases r2 with
   | cons r2 r3 =>
    cases r3
    cases r1 with
    | lst g1 g2 =>
     cases r2 with
     | lst g3 g4=>exact ⟨_,_,rfl,.inr ⟨⟨_,bc K1.sF (.inl (.inl g1))⟩,⟨_,bc K1.sF (.inl (.inl g3))⟩,kk _ e1 _ F1 H1 p s1 K1 (uq (.inl (.inl g1)) g2 (.inl (.inl g3)) g4)⟩⟩
 ·exact p.elim
end
end Q
namespace Q
open PySem L2
theorem bJ {α:Type} {z:α} {P:α->Prop}:opt (some z) P=P z:=propext opt_some
theorem rT {α:Type} {P:α->Prop}:opt none P=False:=propext ⟨fun ⟨_,e,_⟩=>(nomatch e),fun h=>h.elim⟩
theorem aa {α:Type} {o:Option α} {z:α} {P:α->Prop} (h:o=some z) (k:P z):opt o P:=⟨z,h,k⟩
theorem cL {α:Type} (xs:List α) (n:Nat):cutP xs none (some (n:Int))=xs.take n:=by
 unfold cutP
 rw [HT.sIx_none,HT.sIx_nat,List.drop_zero,Nat.sub_zero]
 by_cases h:n<=xs.length
 ·rw [Nat.min_eq_left h]
 ·rw [Nat.min_eq_right (by omega),List.take_length,List.take_of_length_le (by omega)]
theorem eF {α:Type} (xs:List α) (n:Nat):cutP xs (some (n:Int)) none=xs.drop n:=by
 unfold cutP
 rw [HT.sIx_none,HT.sIx_nat]
 by_cases h:n<=xs.length
 ·rw [Nat.min_eq_left h,List.take_of_length_le (by simp)]
 ·rw [Nat.min_eq_right (by omega),List.drop_length,List.drop_of_length_le (by omega)]
  simp
theorem cr {g:WG} {c:WT} {f:WE} {js:List (Option Nat)} {P:PV->En->Prop} {env:En} (G:PV->Option PV):∀ {xs acc:List PV},(∀ x∈xs,∀ R:Option PV->En->Prop,R (G x) env ->
   g x (capE js env) fun b1=>c b1 fun ok b2=>if ok=true then f b2 fun y b3=>R (some y) (backE js env b3) else R none (backE js env b2))->acc.length+xs.length<=100000->P (.lst (acc++xs.filterMap G)) env->lcGo g c f js P xs env acc
 | [],acc,_,_,k=>by simpa [lcGo] using k
 | x::xs,acc,h,hl,k=>by
  have hl':acc.length+xs.length+1<=100000:=by simpa [Nat.add_assoc] using hl
  have hm:∀ {a b:Prop},(a->b)->a->b:=fun h=>h
  have:=h x (by simp) (fun o e=>(match o with | some y=>acc.length<=100000/\lcGo g c f js P xs e (acc++[y]) | none=>lcGo g c f js P xs e acc)) (by
   cases e:G x with
   | none =>
    refine cr G (fun y hy=>h y (by simp [hy])) (by omega) ?_
    simpa [List.filterMap_cons,e] using k
   | some y =>
    refine ⟨by omega,cr G (fun y hy=>h y (by simp [hy])) (by simp; omega) ?_⟩
    simpa [List.filterMap_cons,e] using k)
  exact this
theorem bb {g:WG} {f:WE} {js:List (Option Nat)} {P:PV->En->Prop} {env:En} (G:PV->PV):∀ {xs acc:List PV},(∀ x∈xs,∀ R:PV->En->Prop,R (G x) env->g x (capE js env) fun b1=>f b1 fun y b3=>R y (backE js env b3))->acc.length+xs.length<=100000->P (.lst (acc++xs.map G)) env->lcGo g tYs f js P xs env acc
 | [],acc,_,_,k=>by simpa [lcGo] using k
 | x::xs,acc,h,hl,k=>by
  have hl':acc.length+xs.length+1<=100000:=by simpa [Nat.add_assoc] using hl
  simp only [lcGo,tYs,if_true]
  exact h x (by simp) (fun y e=>acc.length<=100000/\lcGo g tYs f js P xs e (acc++[y])) ⟨by omega,bb G (fun y hy=>h y (by simp [hy])) (by simp; omega) (by simpa using k)⟩
theorem cu {g:WG} {b:WS} {P:Wd} (I:Nat->En->Prop):∀ {xs:List PV} {i:Nat} {env:En},I i env->(∀ (j:Nat) (x:PV) (e:En) (N:En->Prop),xs[j]?=some x->I (i+j) e->(∀ e',I (i+j+1) e'->N e')->g x e fun e1=>b { P with nx:=N,ct:=N,bk:=P.nx } e1)->(∀ e,I (i+xs.length) e->P.nx e)->forGo g b P xs env
 | [],i,env,h0,_,hd=>hd env (by simpa using h0)
 | x::xs,i,env,h0,hs,hd=>hs 0 x env (forGo g b P xs) rfl h0 fun e' h'=>cu I (i:=i+1) h' (fun j y e N hj hI k=>hs (j+1) y e N (by simpa using hj) (by rwa [Nat.add_assoc,Nat.add_comm 1 j] at hI) fun e' h=>k e' (by rwa [Nat.add_assoc i 1 j,Nat.add_comm 1 j])) fun e h=>hd e (by rwa [List.length_cons,Nat.add_comm xs.length 1,<- Nat.add_assoc])
theorem og:∀ (bs:List Bool),(bs.map PV.bl).mapM blPV=some bs
 | []=>rfl
 | b::bs=>by
  rw [List.map_cons,List.mapM_cons,og bs]; rfl
theorem da (bs:List Bool):allPV [.lst (bs.map .bl)]=some (.bl (bs.all id)):=by
 show ((bs.map PV.bl).mapM blPV).map _=_
 rw [og]; rfl
theorem ne_int (i j:Int):nePV (.int i) (.int j)=some (.bl (!decide (i=j))):=by
 show some (PV.bl (!decide (V.int i=V.int j)))=_
 congr 3
 simp
theorem ah {a b:WS} {P:Wd} {env:En} (h:∀ N:En->Prop,N=b P->a { P with nx:=N } env):sSeq a b P env:=h _ rfl
theorem fe {it:WA} {g:WG} {b:WS} {P:Wd} {env:En} (h:∀ (G:WG) (B:WS),G=g->B=b->it env fun xs e=>forGo G B P xs e):sFor it g b P env:=h _ _ rfl rfl
theorem vS {s:Sl}:(some (some s):Option (Option Sl)).join.isSome=true:=rfl
theorem mApp {zs:List PV} {x:PV} (h:zs.length<=100000):cq zs [x]=some (.non,zs++[x]):=if_pos h
section
variable {ob:ObK} {X:Cx} {k:Nat} {fad:Addr} {fd:FuncData} {ps:List Str} {x y:Str} {p p1 pos pos':Pos}
theorem qF (i j:Nat) (hN:X.N.Nodup) (hi:X.N[i]?=some y) (hx:Loc X.env.scope y) (F:FnOk X.prog X.w X.K X.mg X.base CX0 k fad fd ps (Pre.gF X.K)) (hr:Room k X.A) (hm:X.mg "_law_begin" = some (.ref fad)) (hk:PySem.W.keepIn X.K (.ref fad)=true) (hb:Binds X.K fd ps []) (ho:PE X (.Name x p1) (tVar j))
  (hob:autoParam (ob=obG X.K) Z2._auto_1) (hg:autoParam (Gl X "_law_begin") Z2._auto_1) (he:autoParam (starEach [.Name x p1] X.env=(false,eval (.Name x p1) X.env)::starEach [] X.env) Z2._auto_1) (hpl:autoParam ((backTo pos (starEach [] X.env)).any (·.1)=false) Z2._auto_1)
  {spos:Pos} (hs:autoParam (swapsWith (.Call (.Name "_law_begin" p) [.Name x p1] [] pos) (some (.Name y pos')) spos.line X.env=pure false) Z2._auto_1) (hf:autoParam (X.fn y=true\/X.env.scope.names.lookup y=some .local) Z0._auto_1) :
  EvX ob X (.Assign [.Name y pos'] (.Call (.Name "_law_begin" p) [.Name x p1] [] pos) spos) (sBegin i j):=by
 subst hob
 exact sx i j hN hi hx F hr hm hk hb ho hg he hpl hs hf
end
end Q
set_option hygiene false in
local macro_rules | `(tactic| lia)=>`(tactic| simp only [Q.run,Q.runO,Q.startE,Q.endD,Q.endO,Q.ob0,Q.sSeq,Q.sIf,Q.sRet,Q.sNil,Q.sSet,Q.sSetO,Q.sDrop,Q.sAsg,Q.tOr,Q.tAnd,Q.tNot,Q.tTru,Q.tBool,Q.eIsi,Q.eUn,Q.eOp,Q.eCB,Q.eC,Q.eV,Q.eVW,Q.a1,Q.aNil,Q.aCons,Q.eChain,Q.eAnd,Q.eOr,Q.eNot,Q.eTup,Q.eLst,Q.eLC,Q.iStrP,Q.iS,Q.iZE,Q.eSl,Q.oNone,Q.oSome,Q.eCall,Q.isiPV,Q.tyPV,Q.isaP,Q.lenPV,Q.lePV,Q.ltPV,Q.gtPV,Q.truPV,Q.blPV,Q.bJ,Q.rT,List.map_cons,List.map_nil,List.replicate,List.cons_append,List.nil_append,List.length_cons,List.length_nil,List.getElem?_cons_zero,List.getElem?_cons_succ,List.set_cons_zero,List.set_cons_succ,Option.map_some,if_true,Bool.not_true,Bool.not_false,Bool.false_eq_true,if_false,decide_true,decide_false,ite_true,ite_false,Q.tgW,Q.gT,Q.gN,Q.gsCons,Q.gsNil,Q.intPV,Q.slPV,String.reduceBEq,Bool.false_and,Bool.or_false,Bool.false_or,Bool.true_or,Bool.and_true,Bool.true_and,Nat.reduceAdd,Nat.reduceSub,Q.eCallO,Q.vS,true_and,Q.eLM,Q.negPV,Q.iR1,Q.iR2])
namespace Q
open PySem L2 PyProof.Rows
section
variable {ob:ObK} {X:Cx} {iter:Expr} {scope:Scope} {pos p1 p2 p3:Pos} {fi:WA} {x t:Str}
end
section
variable {P:Program} {w:World} {K:PySem.W.Frag} {mg:Str->Option Value} {base:Heap} {ob:ObK} {k:Nat} {fad:Addr} {fd:FuncData} {ps:List Str}
end
end Q
namespace Q
open PySem L2
theorem aC {c:WT} {a b:WS} {P:Wd} {env:En} (h:∀ (A B:WS),A=a->B=b->c env fun k e=>if k=true then A P e else B P e):sIf c a b P env:=h _ _ rfl rfl
theorem hU {α:Type} {f:α->Str} {g:α->PV}:∀ {l:List α} {a:α},(l.map f).Nodup->a∈l->valP (l.map fun x=>((Sum.inr (f x):Key),g x)) (Sum.inr (f a))=some (g a)
 | b::l,a,nd,h=>by
  unfold valP
  rw [List.map_cons,List.find?_cons]
  rw [List.map_cons,List.nodup_cons] at nd
  rcases List.mem_cons.mp h with rfl | h
  ·simp
  ·have hne:f b≠f a:=fun e=>nd.1 (by rw [e]; exact List.mem_map_of_mem h)
   have:decide ((Sum.inr (f b):Key)=Sum.inr (f a))=false:=by simp [hne]
   simp only [this]
   exact hU nd.2 h
theorem fF {α:Type} {f:α->Str} {g:α->PV} {l:List α} {y:Str} {v:PV} (h:y∉l.map f):putP (l.map fun x=>((Sum.inr (f x):Key),g x)) (Sum.inr y) v=(l.map fun x=>((Sum.inr (f x):Key),g x))++[(Sum.inr y,v)]:=by
 unfold putP
 rw [if_neg]
 rw [List.any_map]
 intro z
 rw [List.any_eq_true] at z
 obtain ⟨x,hx,e⟩:=z
 simp at e
 exact h (by rw [<- e]; exact List.mem_map_of_mem hx)
theorem uf {ys:List Str} {x:Str}:(ys.map PV.str).mapM (fun y=>eqPV 60 y (.str x))=some (ys.map fun y=>y==x):=by
 induction ys with
 | nil=>rfl
 | cons y ys ih =>
  rw [List.map_cons,List.mapM_cons,ih]
  rfl
theorem gL {ys:List Str} {x:Str}:inB (.str x) (.tup (ys.map .str))=some (decide (x∈ys)):=by
 show ((ys.map PV.str).mapM (fun y=>eqPV 60 y (.str x))).map (fun ks=>ks.any id)=_
 rw [uf]
 show some ((ys.map fun y=>y==x).any id)=_
 congr 1
 rw [List.any_map,Bool.eq_iff_iff,List.any_eq_true]
 simp
theorem sj {ys:List Str} {x:Str}:inB (.str x) (.lst (ys.map .str))=some (decide (x∈ys)):=gL
theorem kM {ys:List Str} {x:Str}:inPV (.str x) (.tup (ys.map .str))=some (.bl (decide (x∈ys))):=by
 show (inB _ _).map _=_
 rw [gL]; rfl
end Q
namespace L2
open PySem PySem.Spec PyProof.Rows
section
variable {X:Cx}
noncomputable def rSortT (K:PySem.W.Frag):List V->Hp->VK->Prop:=fun xs H Q=>∃ (p:Addr) (ss:List Str),xs=[.ref p]/\SqT K H p (ss.map V.str)/\ss.length<64 /\
 ∀ (l:Addr) (ss':List Str),H l=none->ss'.Perm ss->ss'.Pairwise (fun a b=>¬ ltS b a)->Q (.ref l) (upd H l (.lst (ss'.map V.str)))
theorem oP:CallR X (.builtin "sorted") (rSortT X.K):=by
 intro pins s σ H xs us Q I r h
 obtain ⟨p,ss,rfl,hq,h64,k⟩:=h
 obtain ⟨u,rfl,ru⟩:=r.one
 cases ru
 obtain ⟨its,rv,⟨o,g1,g2,n0,g3⟩,hz⟩:=I.tuple hq
 have hS:=fA rv
 have hl:=rv.length
 rw [List.length_map] at hl
 refine i0 (wpAny_collect_seq p (.inr rfl) g1 g2 g3 (fun h1 kk=>?_) (by rw [List.size_toArray,sizeLine_eq]; omega))
 refine ⟨ss,h1,s.toks,rfl,by simpa using hS,by simp; omega,fun h2 out ss' n k2 e2 o1 o2 o3=>?_⟩
 have I1:Inv X pins σ H { s with heap:=h1,toks:=s.toks }:=I.kept kk
 refine ⟨.ref h1.objs.size,_,I1.laid (t':=s.toks) (a:=h1.objs.size) (o:=.lst (ss'.map V.str)) (fun b o q=>k2 b o q) (Nat.le_refl _) ?_,rfl,k _ ss' (I1.hok.fresh (Nat.le_refl _)) o2 (cQ o3)⟩
 exact ⟨by rw [List.length_map,o2.length_eq,sizeLine_eq]; omega,out,n,cT o1,e2⟩
end
end L2
namespace Q
open PySem L2 PyProof.Rows
noncomputable def eSortT (fa:WA):WE:=fun env P=>fa env fun xs e=>match xs with
 | [.tup ys]=>∃ ss,ys.mapM strPV=some ss/\ss.length<64/\∀ ts,StrsUp ss ts->P (.lst (ts.map .str)) e
 | _=>False
section
variable {ob:ObK} {X:Cx} {a b c e:Expr} {es:List Expr} {f g h:WE} {fa:WA} {pos p p1:Pos} {x:Str}
theorem mE (hc:X.calm=true) (hg:Gl X "sorted") (hm:X.mg "sorted" = none) (ha:EvAW ob X (e::es) fa)
  (he:autoParam (starEach (e::es) X.env=(false,eval e X.env)::starEach es X.env) Z2._auto_1) (hpl:autoParam ((backTo pos (starEach es X.env)).any (·.1)=false) Z2._auto_1):EvF ob X (.Call (.Name "sorted" p) (e::es) [] pos) (eSortT fa):=by
 obtain ⟨t,ht,k⟩:=ha.ex
 refine ⟨_,bu oP hg hm boot_sorted ht (by decide) (by decide) he hpl,fun Z F σ H env P Q K hf kk=>k Z F σ H env _ _ K hf fun xs e1 vs F1 H1 p s1 K1 r1=>?_⟩
 split at p
 ·obtain ⟨ss,hs,hl,p⟩:=p
  obtain ⟨v,rfl,r⟩:=r1.one
  obtain ⟨q,vs,rfl,h1,h2⟩:=r.tup K1.sF
  have:=dv jw hs h2
  subst this
  exact ⟨q,ss,rfl,h1,hl,fun l ts hn hp hw=>kk _ e1 _ F1 _ (p ts ⟨hp,hw⟩) s1 (fun _=>by simp) (K1.own hn ⟨_,am,cU ts⟩)⟩
 ·exact p.elim
end
theorem uD {d:Nat}:∀ (a b:List Str),eqPV (d+2) (.tup (a.map .str)) (.tup (b.map .str))=some (decide (a=b)):=by
 intro a b
 have e:((a.map PV.str).zip (b.map PV.str)).mapM (fun p=>eqPV (d+1) p.1 p.2)=some ((a.zip b).map fun p=>p.1==p.2):=by
  rw [List.zip_map]
  generalize a.zip b=l
  induction l with
  | nil=>rfl
  | cons p l ih=>rw [List.map_cons,List.mapM_cons,ih]; rfl
 show (((a.map PV.str).zip (b.map PV.str)).mapM (fun p=>eqPV (d+1) p.1 p.2)).map (fun bs=>bs.all id && (a.map PV.str).length==(b.map PV.str).length)=_
 rw [e,List.length_map,List.length_map]
 show some (((a.zip b).map fun p=>p.1==p.2).all id && a.length==b.length)=_
 congr 1
 rw [List.all_map,Bool.eq_iff_iff,Bool.and_eq_true,decide_eq_true_eq,beq_iff_eq]
 clear e
 constructor
 ·rintro ⟨h1,h2⟩
  induction a generalizing b with
  | nil=>cases b with | nil=>rfl | cons _ _=>cases h2
  | cons x a ih =>
   cases b with
   | nil=>cases h2
   | cons y b =>
    rw [List.zip_cons_cons,List.all_cons,Bool.and_eq_true] at h1
    have exy:x=y:=by simpa using h1.1
    rw [exy,ih b h1.2 (by simpa using h2)]
 ·rintro rfl
  refine ⟨?_,rfl⟩
  rw [List.all_eq_true]
  rintro ⟨x,y⟩ hm
  have:x=y:=by
   obtain ⟨i,hi⟩:=List.getElem?_of_mem hm
   rw [List.getElem?_zip_eq_some] at hi
   have:=hi.1.symm.trans hi.2
   simpa using this
  simp [this]
end Q
namespace Q
open PySem L2 PyProof.Rows
noncomputable def fstS:PV->Option Str
 | .tup (.str s::_)=>some s
 | _=>none
noncomputable def eSortR (fa:WA):WE:=fun env P=>fa env fun xs e=>match xs with
 | [.lst ys]=>∃ nm:List Str,ys.mapM fstS=some nm/\nm.Nodup/\ys.length<64/\∀ ix:List Nat,ix.length=ys.length->(∀ i∈ix,i<ys.length)->(ix.map fun i=>nm.getD i ⟨#[]⟩).Pairwise ltS->P (.lst (ix.map fun i=>ys.getD i .non)) e
 | _=>False
theorem j9 {K:PySem.W.Frag} {F H:Hp} (sF:Same F H) {v:V} {y:PV} {x:Str} (r:Rep K F v y) (h:fstS y=some x):∃ a t,v=.ref a/\SqT K H a (.str x::t):=by
 unfold fstS at h
 split at h
 ·cases h
  cases r with
  | tup h1 h2=>cases h2 with
   | cons r1 r2=>cases r1; exact ⟨_,_,rfl,au sF h1⟩
 ·cases h
theorem ed {K:PySem.W.Frag} {F:Hp} {vs:List V} {ys:List PV} (r:Reps K F vs ys):∀ ix:List Nat,(∀ i∈ix,i<ys.length)->Reps K F (ix.map fun i=>vs.getD i .non) (ix.map fun i=>ys.getD i .non)
 | [],_=>.nil
 | i::ix,h=>by
  refine .cons ?_ (ed r ix fun j hj=>h j (List.mem_cons_of_mem _ hj))
  have hi:=h i List.mem_cons_self
  obtain ⟨v,hv,rv⟩:=r.get (List.getElem?_eq_getElem hi)
  show Rep K F (vs.getD i .non) (ys.getD i .non)
  rw [List.getD_eq_getElem?_getD,List.getD_eq_getElem?_getD,hv,List.getElem?_eq_getElem hi]
  exact rv
section
variable {ob:ObK} {X:Cx} {e:Expr} {es:List Expr} {fa:WA} {pos p:Pos}
theorem sA (hg:Gl X "sorted") (hm:X.mg "sorted" = none) (ha:EvAW ob X (e::es) fa)
  (he:autoParam (starEach (e::es) X.env=(false,eval e X.env)::starEach es X.env) Z2._auto_1) (hpl:autoParam ((backTo pos (starEach es X.env)).any (·.1)=false) Z2._auto_1):EvF ob X (.Call (.Name "sorted" p) (e::es) [] pos) (eSortR fa):=by
 obtain ⟨t,ht,k⟩:=ha.ex
 refine ⟨_,bu oS hg hm boot_sorted ht (by decide) (by decide) he hpl,fun Z F σ H env P Q K hf kk=>k Z F σ H env _ _ K hf fun xs e1 vs F1 H1 p s1 K1 r1=>?_⟩
 split at p
 ·obtain ⟨nm,hs,nd,hl,p⟩:=p
  obtain ⟨v,rfl,r⟩:=r1.one
  obtain ⟨q,vs,rfl,h1,h2⟩:=r.lst K1.sF
  have g1:=(br hs).1
  have hlen:=h2.len
  refine ⟨q,vs,nm,rfl,.inl (.inl h1),by omega,⟨by omega,fun i v x hv hx=>?_,nd⟩,fun l ix hn i1 i2 i3 i4=>?_⟩
  ·obtain ⟨y,hy,ry⟩:=h2.getV hv
   obtain ⟨y',e1,e2⟩:=iE hs i x hx
   rw [hy] at e1; cases e1
   exact j9 K1.sF ry e2
  ·exact kk _ e1 _ F1 _ (p ix (by omega) (fun i hi=>by have:=i3 i hi; omega) i4) s1 (fun _=>by simp) (K1.own hn ⟨_,am,ed h2 ix fun i hi=>by have:=i3 i hi; omega⟩)
 ·exact p.elim
end
end Q
namespace L2
open PySem PySem.Spec PyProof.Rows
section
variable {prog:Program} {w:World} {A:Around} {E:Value->Shared->Prop} {s:Shared}
end
end L2
namespace L2
open PySem PySem.Spec PyProof.Rows
section
variable {X:Cx}
end
end L2
namespace Q
open PySem L2 PyProof.Rows
noncomputable def neT:PV->PV->Option PV
 | .tup xs,.tup ys=>(eqPV 60 (.tup xs) (.tup ys)).map fun b=>.bl (!b)
 | _,_=>none
noncomputable def rNeT (K:PySem.W.Frag):R2:=fun v u H Q=>∃ F xs ys k,Same F H/\Rep K F v (.tup xs)/\Rep K F u (.tup ys)/\eqPV 60 (.tup xs) (.tup ys)=some k/\Q (.bl (!k)) H
section
variable {ob:ObK} {X:Cx} {a b c e:Expr} {es:List Expr} {f g h:WE} {fa:WA} {pos pos2 p p1 p2:Pos} {x:Str}
theorem pZ (hu:X.A.units+60<cLine):OpR X (compareOp .NotEq) (rNeT X.K):=by
 intro pins s σ H x y v u Q I rx ry h
 obtain ⟨F,xs,ys,k,sF,r1,r2,e,hq⟩:=h
 cases r1 with
 | tup h1 r1 =>
 cases r2 with
 | tup h2 r2 =>
 cases rx
 cases ry
 obtain ⟨its,rv,p,_⟩:=I.tuple (au sF h1)
 obtain ⟨its2,rw',p2,_⟩:=I.tuple (au sF h2)
 have l1:its.length=xs.length:=by rw [<- rv.length,r1.len]
 have l2:its2.length=ys.length:=by rw [<- rw'.length,r2.len]
 have e':((xs.zip ys).mapM fun p=>eqPV 59 p.1 p.2).map (fun bs=>bs.all id && xs.length==ys.length)=some k:=e
 rw [Option.map_eq_some_iff] at e'
 obtain ⟨bs,hb,ek⟩:=e'
 obtain ⟨hbl,hbe⟩:=br hb
 have t:=SeqAt.RcNeAt.tuples (A:=X.A) (e:=fun j=>bs.getD j false) p p2 (by omega) (fun j j1 j2=>by
  simp only [List.size_toArray] at j1 j2
  have jx:j<xs.length:=by omega
  have jy:j<ys.length:=by omega
  have hz:(xs.zip ys)[j]?=some (xs[j],ys[j]):=by rw [List.getElem?_zip_eq_some]; exact ⟨by simp [jx],by simp [jy]⟩
  obtain ⟨b,e1,e2⟩:=hbe j _ hz
  obtain ⟨v1,q1,q2⟩:=r1.get (List.getElem?_eq_getElem jx)
  obtain ⟨v2,q3,q4⟩:=r2.get (List.getElem?_eq_getElem jy)
  obtain ⟨u1,q5,q6⟩:=rv.get q1
  obtain ⟨u2,q7,q8⟩:=rw'.get q3
  have g1:its.toArray[j]=u1:=by simpa [List.getElem?_eq_getElem j1] using q5
  have g2:its2.toArray[j]=u2:=by simpa [List.getElem?_eq_getElem j2] using q7
  rw [g1,g2,show bs.getD j false=b by simp [List.getD,e1]]
  exact (eqAt I sF (A:=X.A.in1) (d:=59) (by show X.A.units+1+59<cLine; omega) q2 q4 q6 q8 e2).2)
 have e3:((List.range (min its.toArray.size its2.toArray.size)).all (fun j=>bs.getD j false) && its.toArray.size==its2.toArray.size)=k:=by
  have e4:min its.toArray.size its2.toArray.size=bs.length:=by rw [hbl,List.length_zip,List.size_toArray,List.size_toArray,l1,l2]
  rw [e4,dP (fun j hj=>by simp [List.getD,List.getElem?_eq_getElem hj]),List.size_toArray,List.size_toArray,l1,l2]
  exact ek
 rw [e3] at t
 exact t X.prog X.w X.xe _ ⟨.bl (!k),H,I,rfl,hq⟩
theorem nL:OpQ ob X (rNeT X.K) neT:=by
 refine bE (P:=fun _ _ _ _=>True) fun F H v u x y z sF rx ry hz=>?_
 unfold neT at hz
 split at hz
 ·rw [Option.map_eq_some_iff] at hz
  obtain ⟨k,hk,rfl⟩:=hz
  exact ⟨_,fun _=>.bl _,fun Q q=>⟨F,_,_,k,sF,rx.tupR,ry.tupR,hk,q⟩⟩
 ·cases hz
end
theorem uc (a b:List Str):neT (.tup (a.map .str)) (.tup (b.map .str))=some (.bl (!decide (a=b))):=by
 show (eqPV 60 (.tup (a.map .str)) (.tup (b.map .str))).map (fun b=>PV.bl (!b))=_
 rw [uD (d:=58)]; rfl
end Q
namespace L2
open PySem PySem.Spec PyProof.Rows PySem.W
section
variable {prog:Program} {w:World} {A:Around} {E:Value->Shared->Prop} {s:Shared}
end
end L2
namespace L2
open PySem PySem.Spec PyProof.Rows PySem.W
section
variable {prog:Program} {w:World} {A:Around} {E:Value->Shared->Prop} {s:Shared}
end
end L2
namespace L2
open PySem PySem.Spec PyProof.Rows PySem.W
section
variable {X:Cx} {pins:List (Addr×Obj)} {σ:St} {H:Hp} {z:Shared} {B:Around}
end
end L2
namespace L2
open PySem PySem.Spec PyProof.Rows PySem.W
section
variable {X:Cx} {lq d:Str} {lpos:Pos} {P c:Addr} {params:Arguments} {body:Expr} {scope:Scope}
end
end L2
namespace L2
open PySem PySem.Spec PyProof.Rows PySem.W
section
variable {X:Cx} {lq d x:Str} {lpos p p1 p2 p3 kpos pos:Pos} {P c:Addr} {params:Arguments} {scope:Scope} {e:Expr} {te:TE} {i k:Nat}
end
end L2
namespace L2
open PySem PySem.Spec PyProof.Rows
section
variable {P:Program} {w:World} {K:PySem.W.Frag} {mg:Str->Option Value} {base:Heap}
end
end L2
namespace Q
open PySem L2 PyProof.Rows
section
variable {P:Program} {w:World} {K:PySem.W.Frag} {mg:Str->Option Value} {base:Heap} {ob:ObK}
end
section
variable {ob:ObK} {X:Cx} {k:Nat} {fad:Addr} {fd:FuncData} {ps:List Str} {DO:FdO} {x:Str} {p pos:Pos} {e:Expr} {es:List Expr} {fa:WA}
end
end Q
namespace Q
open PySem L2 PyProof.Rows PySem.W
section
variable {X:Cx} {lq d x:Str} {lpos p p1 p2 p3 kpos pos:Pos} {T c:Addr} {params:Arguments} {scope:Scope} {e:Expr} {f:WE} {i j k:Nat} {ob:ObK}
end
end Q
namespace L2
open PySem PySem.Spec PyProof.Rows
end L2
namespace Q
open PySem L2 PyProof.Rows
end Q
namespace L2
open PySem PySem.Spec PyProof.Rows
section
variable {X:Cx}
end
end L2
namespace Q
open PySem L2 PyProof.Rows
end Q
namespace L2
open PySem PySem.Spec PyProof.Rows PySem.W
section
variable {prog:Program} {w:World} {A:Around} {E:Value->Shared->Prop} {s:Shared}
end
end L2
namespace Q
open PySem L2 PyProof.Rows
section
variable {ob:ObK} {X:Cx} {e:Expr} {f:WE} {p pos kpos p1:Pos} {kd:_}
end
theorem uy {P:Program} {w:World} {K:PySem.W.Frag} {mg:Str->Option Value} {base:Heap} {f:Addr} {fd:FuncData} {ps:List Str} {M:Md} {n:Nat}:FnOk P w K mg base CX0 0 f fd ps (spQ M n fun _ _=>False) :=
 ⟨fun _ _ _ _ ⟨_,_,_,_,_,_,h,_⟩=>h.elim,fun _ _ _ _ _ _ _ _ _ _ _ _ _ ⟨_,_,_,_,_,_,h,_⟩=>h.elim⟩
end Q
namespace L2
open PySem PySem.Spec PyProof.Rows
section
open PySem.SeqAt
open PySem.AutoSeq1 (wpAny_loadPart')
open PySem.MeetsSeq PySem.MeetsSeq2 PySem.MeetsSeq3
end
end L2
namespace Q
open PySem L2 PyProof.Rows
section
variable {X:Cx} {pins:List (Addr×Obj)} {σ:L2.St} {H F:Hp} {s:Shared}
end
section
variable {ob:ObK} {X:Cx}
end
end Q
namespace L2
open PySem PySem.Spec PyProof.Rows
section
variable {prog:Program} {w:World} {A:Around} {E:Value->Shared->Prop} {s:Shared} {a₀:Array Keyed} {κ:KeyKind}
end
section
variable {X:Cx}
end
end L2
namespace Q
open PySem L2 PyProof.Rows
section
variable {ob:ObK} {X:Cx} {a b c e:Expr} {es:List Expr} {f g h:WE} {fa:WA} {pos p p1:Pos} {x:Str}
end
section
variable {ob:ObK} {X:Cx}
end
section
variable {ob:ObK} {X:Cx} {a:Expr} {pos:Pos} {f:WE}
end
end Q
namespace L2
open PySem PySem.Spec PyProof.Rows
section
variable {X:Cx} {o e:Expr} {to te:TE} {apos pos:Pos}
end
section
open Builtin Builtin.Str
variable {prog:Program} {w:World} {A:Around} {E:Value->Shared->Prop} {s:Shared}
end
section
variable {X:Cx} {o e:Expr} {to te:TE} {apos pos:Pos}
noncomputable def tBot:TS:=fun _ _ _=>False
theorem ve {st:Stmt}:PS X st tBot:=fun _ _ _ _ _ _ h=>h.elim
end
end L2
namespace Q
open PySem L2 PyProof.Rows
section
variable {ob:ObK} {X:Cx} {a b e:Expr} {f g:WE} {apos pos:Pos}
noncomputable def sBot:WS:=fun _ _=>False
theorem fh {st:Stmt}:EvX ob X st sBot:=⟨tBot,ve,fun _ _ _ _ _ _ _ _ h _=>h.elim⟩
end
end Q
namespace L2
open PySem PySem.Spec PyProof.Rows
section
variable {prog:Program} {w:World} {A:Around} {E:Value->Shared->Prop} {s:Shared} {l b:Addr} {items items2:Array Value} {n n2:Nat}
end
section
variable {X:Cx}
end
end L2
namespace Q
open PySem L2 PyProof.Rows
section
variable {ob:ObK} {X:Cx} {e:Expr} {g:WE} {pos pos':Pos}
end
end Q
set_option maxHeartbeats 400000
namespace L2
open PySem PySem.Spec PyProof.Rows
section
variable {X:Cx}
end
end L2
namespace Q
open PySem L2 PyProof.Rows
section
variable {ob:ObK} {X:Cx} {a:Expr} {fa:WA} {p pos:Pos}
end
end Q
namespace Q
open PySem L2 PyProof.Rows
section
variable {ob:ObK} {X:Cx} {pos p p2:Pos} {x:Str}
end
end Q
namespace Pre
open PySem L2
end Pre
namespace Q
open PySem L2 PyProof.Rows
section
variable {X:Cx} {k:Nat} {fad:Addr} {fd:FuncData} {ps:List Str} {x y:Str} {p p1 pos pos':Pos}
end
section
variable {ob:ObK} {X:Cx} {k:Nat} {fad:Addr} {fd:FuncData} {ps:List Str} {x y:Str} {p p1 pos pos':Pos}
end
end Q
namespace Q
open PySem L2 PyProof.Rows
section
variable {X:Cx} {pins:List (Addr×Obj)} {s:Shared} {σ:L2.St} {H:Hp}
end
section
variable {ob:ObK} {X:Cx} {k:Nat}
end
end Q
namespace L2
open PySem PySem.Spec PyProof.Rows PySem.W
section
variable {prog:Program} {w:World} {A:Around} {E:Value->Shared->Prop} {s:Shared}
end
end L2
namespace Q
open PySem L2 PyProof.Rows
section
variable {ob:ObK} {X:Cx} {e:Expr} {es:List Expr} {fa:WA} {pos p:Pos}
end
end Q
set_option maxHeartbeats 1000000
namespace L2
open PySem PySem.Spec PyProof.Rows
open AutoSeq1 (wpAny_loadPart')
section
variable {prog:Program} {w:World} {A:Around} {E:Value->Shared->Prop} {s:Shared}
end
section
variable {X:Cx}
end
end L2
namespace Q
open PySem L2 PyProof.Rows
section
variable {ob:ObK} {X:Cx} {a:Expr} {fa:WA} {p pos:Pos}
end
end Q
namespace L2
open PySem PySem.Spec PyProof.Rows
theorem ng (t:SetTable) (n:Nat):(t.orStandIn n).led=t.led:=by
 unfold SetTable.orStandIn SetTable.standIn
 split <;> rfl
theorem oH (t:SetTable) (es:Array (Int×Value)) (h:Int) (x:Value):(layNew t es h x).2.1.led=t.led:=by
 unfold layNew
 split
 ·exact ng _ _
 ·rfl
theorem gY {t t':SetTable} {hs:Array Int} {n:Nat} {o:Array Nat} (e:t.relaid hs n=some (t',o)):t'.led=t.led/\t'.plain=t.plain:=by
 unfold SetTable.relaid SetTable.laid at e
 cases q:SetTable.layClean (SetTable.sizeAbove n - 1) hs with
 | none=>rw [q] at e; cases e
 | some ow =>
  rw [q] at e
  have e':=Option.some.inj e
  cases e'
  exact ⟨rfl,rfl⟩
theorem lP (t:SetTable) (es:Array (Int×Value)) (n:Nat):(relayAll t es n).2.1.led=t.led:=by
 unfold relayAll SetTable.standIn
 split
 ·rename_i e
  dsimp only
  split
  ·exact (gY e).1
  ·rfl
 ·rfl
theorem jI (t:SetTable) (es:Array (Int×Value)) (n:Nat) (h:t.plain=false):(relayAll t es n).2.1.plain=false:=by
 unfold relayAll SetTable.standIn
 split
 ·rename_i e
  dsimp only
  split
  ·exact (gY e).2.trans h
  ·rfl
 ·rfl
noncomputable def SetX (P:Program) (w:World) (h:Heap) (a:Addr) (ss:List Str):Prop :=
 ∃ o es ep t ks,h.get? a=some o/\o.ExactSet/\o.data=.set es ep t/\ElemsOf (strKind P w) es.toList/\StrsAre (es.toList.map (·.2)) ks/\ks.Perm ss/\es.size<scanBound/\t.fits es.size=true /\
  (w.params.followText "set-order" = false->t.led=true)/\(es.size≠0->t.plain=false)
theorem SetX.keep {P:Program} {w:World} {h h':Heap} {a:Addr} {ss:List Str} (x:SetX P w h a ss) (k:∀ o,h.get? a=some o->h'.get? a=some o):SetX P w h' a ss:=by
 obtain ⟨o,es,ep,t,ks,a1,r⟩:=x
 exact ⟨o,es,ep,t,ks,k o a1,r⟩
theorem cB {ks:List Str} {vs vs':List Value} (p:vs'.Perm vs):StrsAre vs ks->∃ ks',StrsAre vs' ks'/\ks'.Perm ks:=by
 induction p generalizing ks with
 | nil=>exact fun h=>⟨ks,h,.refl _⟩
 | cons x p ih =>
  intro h
  cases h with
  | cons s t r=>obtain ⟨k1,h1,p1⟩:=ih r; exact ⟨_,.cons s t h1,p1.cons _⟩
 | swap x y l =>
  intro h
  cases h with
  | cons s t r=>cases r with | cons s' t' r'=>exact ⟨_,.cons s' t' (.cons s t r'),.swap ..⟩
 | trans p1 p2 ih1 ih2 =>
  intro h
  obtain ⟨k2,h2,q2⟩:=ih2 h
  obtain ⟨k1,h1,q1⟩:=ih1 h2
  exact ⟨k1,h1,q1.trans q2⟩
theorem eI {P:Program} {w:World} {k:Str}:∀ {es:List (Int×Value)} {ks:List Str},StrsAre (es.map (·.2)) ks->(k∈ks↔∃ e∈es,(strKind P w).is k e.2=true)
 | [],ks,h=>by cases h; simp
 | e::es,ks,h=>by
  obtain ⟨hh,v⟩:=e
  cases h with
  | cons s t r =>
   rw [List.mem_cons,eI (P:=P) (w:=w) (k:=k) r]
   constructor
   ·rintro (rfl | ⟨e,he,q⟩)
    ·exact ⟨_,List.mem_cons_self,strKind_is _ _ _ _⟩
    ·exact ⟨e,List.mem_cons_of_mem _ he,q⟩
   ·rintro ⟨e,he,q⟩
    rcases List.mem_cons.mp he with rfl | he
    ·obtain ⟨t',e'⟩:=Value.isStrOf_shape (x:=k) (v:=Value.str s t) q
     cases e'
     exact .inl rfl
    ·exact .inr ⟨e,he,q⟩
section
variable {prog:Program} {w:World} {A:Around} {E:Value->Shared->Prop} {s:Shared}
theorem SetX.stored {h:Heap} {a:Addr} {o:Obj} {es:Array (Int×Value)} {ep:Nat} {t:SetTable} {ks ss:List Str} (ho:h.get? a=some o) (hex:o.ExactSet) (hd:o.data=.set es ep t)
  {es':Array (Int×Value)} {t':SetTable} (hel:ElemsOf (strKind prog w) es'.toList) (hks:StrsAre (es'.toList.map (·.2)) ks) (p:ks.Perm ss) (hb:es'.size<scanBound) (hf:t'.fits es'.size=true)
  (hled:w.params.followText "set-order" = false->t'.led=true) (hpl:es'.size≠0->t'.plain=false) :
  (h.update a (Obj.putSet es' t')).get? a=some { o with data:=.set es' (ep+1) t' }/\SetX prog w (h.update a (Obj.putSet es' t')) a ss:=by
 have hg:=Heap.get?_update_self (Obj.putSet es' t') ho (by rw [putSet_of es' t' hd]; rfl)
 rw [putSet_of es' t' hd] at hg
 exact ⟨hg,_,es',ep+1,t',ks,hg,hex,rfl,hel,hks,p,hb,hf,hled,hpl⟩
theorem addX {a:Addr} {ss:List Str} {k:Str} {tk:Tok} {Q:Bool->Shared->Prop} (hS:SetX prog w s.heap a ss) (hroom:ss.length+1<scanBound)
  (h:∀ b h',Heap.SameBut a s.heap h'->SetX prog w h' a (if k∈ss then ss else ss++[k])->Q b { s with heap:=h' }) :
  wpAny (model prog w) A (setAddHashed a (.str k tk) ((strKind prog w).hash k)) Q E s:=by
 obtain ⟨o,es,ep,t,ks,ho,hex,hd,hel,hks,p,hb,hf,hled,hpl⟩:=hS
 have hkey:(strKind prog w).is k (.str k tk)=true:=strKind_is _ _ _ _
 have hlen:es.size=ss.length:=by
  have:=hks.length
  rw [List.length_map,Array.length_toList] at this
  rw [this,p.length_eq]
 unfold setAddHashed setAddHashedIn
 refine wpAny_holding (wpAny_bind (wpAny_setState_of ho hd hf ?_))
 dsimp only
 rw [byScan_of (knd:=strKind prog w) rfl hb hel]
 simp only [↓reduceIte]
 unfold setAddByScan
 refine wpAny_bind (wpAny_bind (wpAny_rule (wpAny_bind (wpAny_setScan_of hkey ho hd hf hel ?_))))
 cases hr:List.findIdx? (fun e=>(strKind prog w).is k e.2) es.toList with
 | some j =>
  obtain ⟨hj,hpj,_⟩:=List.findIdx?_eq_some_iff_getElem.mp hr
  have hm:k∈ss:=p.mem_iff.mp ((eI hks).mpr ⟨_,List.getElem_mem hj,hpj⟩)
  have q:=h false s.heap (Heap.SameBut.refl a s.heap)
  rw [if_pos hm] at q
  exact wpAny_pure (wpAny_pure (q ⟨o,es,ep,t,ks,ho,hex,hd,hel,hks,p,hb,hf,hled,hpl⟩))
 | none =>
  have hm:k∉ss:=fun hk=>by
   obtain ⟨e,he,q⟩:=(eI (P:=prog) (w:=w) hks).mp (p.mem_iff.mpr hk)
   have:=List.findIdx?_eq_none_iff.mp hr e he
   rw [q] at this; cases this
  rw [if_neg hm] at h
  dsimp only
  have a1:=layNew_perm t es ((strKind prog w).hash k) (.str k tk)
  have a2:=layNew_fits t es ((strKind prog w).hash k) (.str k tk)
  have a3:=oH t es ((strKind prog w).hash k) (.str k tk)
  generalize layNew t es ((strKind prog w).hash k) (.str k tk)=L at a1 a2 a3 ⊢
  obtain ⟨es1,t1,wd,gave⟩:=L
  dsimp only at a1 a2 a3 ⊢
  rw [Array.toList_push] at a1
  have hel1:ElemsOf (strKind prog w) es1.toList:=(hel.push hkey rfl).perm a1
  obtain ⟨k1,hk1,p1⟩:=cB (ks:=ks++[k]) (a1.map (·.2)) (by
   rw [List.map_append]
   have:∀ {vs:List Value} {ks:List Str},StrsAre vs ks->StrsAre (vs++[Value.str k tk]) (ks++[k]):=fun {vs ks} z=>by
    induction z with
    | nil=>exact .cons _ _ .nil
    | cons s t r ih=>exact .cons s t ih
   exact this hks)
  have p2:k1.Perm (ss++[k]):=p1.trans (p.append_right [k])
  have z1:es1.size=ss.length+1:=by rw [<- Array.length_toList,a1.length_eq,List.length_append,Array.length_toList,hlen]; rfl
  have b1:es1.size<scanBound:=by rw [z1]; exact hroom
  have gw:∀ (b:Bool) {s₁:Shared} {Q':Unit->Shared->Prop},Q' () s₁->wpAny (model prog w) A (match b with | true=>rule "set.scan.the-table-gave-way" | false=>pure ()) Q' E s₁ :=
   fun b _ _ z=>by cases b <;> first | exact wpAny_pure z | exact wpAny_rule z
  have tail:∀ t2:SetTable,t2.fits es1.size=true->t2.led=t.led->t2.plain=false->wpAny (model prog w) A (do
    storeSet a es1 t2
    if (!wd && t2.tooFull)=true then do
      (match (relayAll t2 es1 (SetTable.grown es1.size)).2.2 with | true=>rule "set.scan.the-table-gave-way" | false=>pure ())
      storeSet a (relayAll t2 es1 (SetTable.grown es1.size)).1 (relayAll t2 es1 (SetTable.grown es1.size)).2.1
      pure (some true)
     else pure (some true)) (fun r s'=>∃ h',r=some true/\s'={ s with heap:=h' }/\Heap.SameBut a s.heap h'/\SetX prog w h' a (ss++[k])) E s:=by
   intro t2 f2 l2 q2
   refine wpAny_bind (wpAny_storeSet_of ho hd ?_ (fits_of_scanBound b1))
   obtain ⟨ho1,hS1⟩:=SetX.stored (prog:=prog) (w:=w) ho hex hd hel1 hk1 p2 b1 f2 (fun e=>l2.trans (hled e)) (fun _=>q2)
   have sb1:=Heap.SameBut.update s.heap a (Obj.putSet es1 t2)
   split
   ·have c1:=relayAll_perm t2 es1 (SetTable.grown es1.size)
    have c2:=relayAll_fits t2 es1 (SetTable.grown es1.size)
    have c3:=lP t2 es1 (SetTable.grown es1.size)
    have c4:=jI t2 es1 (SetTable.grown es1.size) q2
    generalize relayAll t2 es1 (SetTable.grown es1.size)=Rl at c1 c2 c3 c4 ⊢
    obtain ⟨es2,t3,g2⟩:=Rl
    dsimp only at c1 c2 c3 c4 ⊢
    obtain ⟨k2,hk2,p3⟩:=cB (c1.map (·.2)) hk1
    have z2:es2.size=es1.size:=by rw [<- Array.length_toList,c1.length_eq,Array.length_toList]
    have b2:es2.size<scanBound:=by rw [z2]; exact b1
    refine wpAny_bind (gw _ ?_)
    refine wpAny_bind (wpAny_storeSet_of ho1 rfl ?_ (fits_of_scanBound b2))
    obtain ⟨_,hS2⟩:=SetX.stored (prog:=prog) (w:=w) ho1 hex rfl (hel1.perm c1) hk2 (p3.trans p2) b2 c2 (fun e=>c3.trans (l2.trans (hled e))) (fun _=>c4)
    exact wpAny_pure ⟨_,rfl,rfl,sb1.trans (Heap.SameBut.update _ a _),hS2⟩
   ·exact wpAny_pure ⟨_,rfl,rfl,sb1,hS1⟩
  have done:∀ r s',(∃ h',r=some true/\s'={ s with heap:=h' }/\Heap.SameBut a s.heap h'/\SetX prog w h' a (ss++[k]))->wpAny (model prog w) A (match r with | some added=>pure added | none=>setAddHashedIn a (.str k tk) ((strKind prog w).hash k) 99999) Q E s':=by
   rintro _ _ ⟨h',rfl,rfl,sb,x⟩
   exact wpAny_pure (h true h' sb x)
  refine wpAny_bind (gw _ ?_)
  split
  ·refine wpAny_bind ?_
   rw [hashByValue_scannable 8 (x:=.str k tk) rfl]
   refine wpAny_pure ?_
   exact wpAny_mono (tail _ (SetTable.fits_plain_off a2) a3 rfl) done fun _ _ e=>e
  ·rename_i hp
   refine wpAny_bind (wpAny_pure ?_)
   simp only [↓reduceIte]
   exact wpAny_mono (tail _ a2 a3 (by simpa using hp)) done fun _ _ e=>e
end
noncomputable def ded (ss:List Str):List Str:=ss.foldl (fun acc k=>if k∈acc then acc else acc++[k]) []
theorem fK (ss:List Str) (k:Str):ded (ss++[k])=if k∈ded ss then ded ss else ded ss++[k]:=by unfold ded; rw [List.foldl_append]; rfl
theorem sI {ss:List Str} {j:Nat} (hj:j<ss.length):ded (ss.take (j+1))=if ss[j]∈ded (ss.take j) then ded (ss.take j) else ded (ss.take j)++[ss[j]]:=by
 rw [List.take_succ,List.getElem?_eq_getElem hj,Option.toList_some,fK]
theorem jz {α:Type} {p:List α->Prop} (h0:p []) (h1:∀ xs k,p xs->p (xs++[k])) (l:List α):p l:=by
 rw [<- List.reverse_reverse l]
 induction l.reverse with
 | nil=>exact h0
 | cons a r ih=>rw [List.reverse_cons]; exact h1 _ _ ih
theorem uG (x:Str) (ss:List Str):x∈ded ss↔x∈ss:=by
 induction ss using jz with
 | h0=>rfl
 | h1 xs k ih =>
  rw [fK]
  split
  ·rename_i h
   rw [List.mem_append,List.mem_singleton,<- ih]
   exact ⟨.inl,fun q=>q.elim id fun e=>e ▸ h⟩
  ·rw [List.mem_append,List.mem_append,ih]
theorem qM (ss:List Str):(ded ss).Nodup:=by
 induction ss using jz with
 | h0=>exact .nil
 | h1 xs k ih =>
  rw [fK]
  split
  ·exact ih
  ·rename_i h
   rw [List.nodup_append]
   exact ⟨ih,List.nodup_cons.mpr ⟨List.not_mem_nil,.nil⟩,fun a ha b hb e=>h (by rw [<- List.mem_singleton.mp hb,<- e]; exact ha)⟩
theorem nW (ss:List Str):(ded ss).length<=ss.length:=by
 induction ss using jz with
 | h0=>exact Nat.le_refl _
 | h1 xs k ih =>
  rw [fK,List.length_append]
  split
  ·exact Nat.le_trans ih (Nat.le_add_right ..)
  ·rw [List.length_append]; exact Nat.add_le_add_right ih _
section
variable {prog:Program} {w:World} {A:Around} {E:Value->Shared->Prop} {s:Shared}
theorem pA {R:Result->Shared->Prop} {I d:Addr} {fp wr:List Addr} {G:Array GenState->Array GenState->Prop} {P:Nat->Value->Prop} {St:Nat->Shared->Prop} {ss:List Str} (hb:ss.length+1<scanBound)
  (W:WalksS prog w A.in1 I fp wr G ss.length P St) (hd:d∉fp) (hP:∀ i v (hi:i<ss.length),P i v->∃ t,v=.str ss[i] t) :
  ∀ (m j:Nat) (z:Shared),ss.length - j=m->j<=ss.length->St j z->SetX prog w z.heap d (ded (ss.take j)) ->
   (∀ z',Moved (d::wr) G z z'->SetX prog w z'.heap d (ded (ss.take ss.length))->R (.ok (.ret .none)) z') ->
   codeAny (model prog w) A (.builtin "set.update.loop" ⟨[.ref d,.ref I],[]⟩) R z:=by
 have dw:d∉wr:=fun h=>hd (W.sub _ h)
 have inc:∀ b∈wr,b∈d::wr:=fun b hb=>List.mem_cons_of_mem _ hb
 intro m
 induction m with
 | zero =>
  intro j z hm hj st hs hR
  obtain rfl:j=ss.length:=by omega
  refine codeAny_builtin F.entry_set_update_loop ?_
  rw [Around.under_plainId F.plain_set_update_loop _]
  show wpAny _ A.in1 (pyNext (.ref I) >>= _) _ _ z
  exact wpAny_bind (W.done z _ _ st fun z' mv=>wpAny_pure (hR z' (mv.mono inc) (hs.keep fun o g=>mv.heap d _ dw g)))
 | succ m ih =>
  intro j z hm hj st hs hR
  have hl:j<ss.length:=by omega
  refine codeAny_builtin F.entry_set_update_loop ?_
  rw [Around.under_plainId F.plain_set_update_loop _]
  show wpAny _ A.in1 (pyNext (.ref I) >>= _) _ _ z
  refine wpAny_bind (W.item j z _ _ hl st fun v z' hv st' mv=>?_)
  obtain ⟨t,rfl⟩:=hP j v hl hv
  show wpAny _ A.in1 (holding [Value.str ss[j] t] (setAdd d (.str ss[j] t)) >>= _) _ _ z'
  refine wpAny_bind (wpAny_holding ?_)
  unfold setAdd
  refine wpAny_holding (wpAny_bind ((strKind prog w).pyHash (k:=ss[j]) (strKind_is _ _ _ _) ?_))
  have lz:(ded (ss.take j)).length+1<scanBound:=by
   have q1:=nW (ss.take j)
   have q2:(ss.take j).length<=ss.length:=by rw [List.length_take]; omega
   omega
  refine addX (s:={ z' with toks:=z'.toks+1 }) (show SetX prog w z'.heap d _ from hs.keep fun o g=>mv.heap d _ dw g) lz fun b h' sb hs2=>?_
  rw [<- sI hl] at hs2
  refine wpAny_pure ⟨plainId_quiet F.plain_set_update_loop _,ih (j+1) _ (by omega) hl (W.frame _ z' _ _ st' (Nat.le_succ _) fun b hb o e=>?_) hs2 fun z'' mv2 hs3=>?_⟩
  ·rw [sb.2 b fun q:b=d=>hd (q ▸ hb)]; exact e
  ·refine hR z'' (Moved.trans W.gtrans ((mv.mono inc).then_heap (Nat.le_succ _) fun b o hb e=>?_) mv2) hs3
   rw [sb.2 b fun q:b=d=>hb (q ▸ List.mem_cons_self)]; exact e
theorem mV (a:Value) {Q:Value->Shared->Prop} (h:Q (.ref s.heap.objs.size) { s with heap:=s.heap.push { cls:=.type "set",dict:=none,data:=.set #[] 0 (.fresh 0 0 (!w.params.followText "set-order")) } }) :
  codeAny (model prog w) A (.call (.builtin "set.__new__") ⟨[.type "set",a],[]⟩) (wants Q E) s:=by
 refine codeAny_of_tree (?_:wpAny _ A.in1 (checkBuiltinCall "set.__new__" ⟨[.type "set",a],[]⟩ >>= fun _=>again (.builtin "set.__new__" ⟨[.type "set",a],[]⟩)) _ _ s)
 refine wpAny_bind (wpAny_of_eq (F.newCall_set_1 a) (wpAny_pure ⟨plainId_quiet F.plain_set_new _,codeAny_builtin F.entry_set_new ?_⟩))
 rw [Around.under_plainId F.plain_set_new _]
 unfold Builtin.«set.__new__» Builtin.Frozenset.newClass
 have q0:=sub_set_self
 obtain ⟨h0,g0,d0,t0,o0⟩:=s
 dsimp only at h ⊢
 wp_walk
 refine wpAny_askSetting (wpAny_pure ?_)
 simp only [newObj]
 exact wpAny_bind (wpAny_alloc (wpAny_pure (wpAny_pure h)))
end
section
variable {prog:Program} {w:World} {A:Around} {E:Value->Shared->Prop} {s:Shared}
theorem kn {l:Addr} {items:Array Value} {ss:List Str} {Q:Value->Shared->Prop} (hh:A.handled=none) (hl:s.heap.IsList l items) (hi:StrsAre items.toList ss) (hb:ss.length+1<scanBound)
  (h:∀ (h':Heap) (tk:Nat),SetX prog w h' s.heap.objs.size (ded ss)->(∀ b o,b<s.heap.objs.size->s.heap.get? b=some o->h'.get? b=some o)->s.heap.objs.size<h'.objs.size->Q (.ref s.heap.objs.size) { s with heap:=h',toks:=tk }) :
  wpAny (model prog w) A (call (.type "set") [.ref l]) Q E s:=by
 obtain ⟨c,tl,hmro⟩:=F.called_set.mro
 have hmade:=F.called_set.made
 have hsub:=F.called_set.sub
 have hsz:items.size=ss.length:=by rw [<- Array.length_toList]; exact hi.length
 refine wpAny_call (codeAny_of_tree (?_:wpAny _ _ (callAny (.type "set") _) _ _ _))
 refine wpAny_pure ⟨Code.quiet_builtin _ (by decide +kernel),codeAny_builtin F.entry_type_call ?_⟩
 rw [Around.under_plain (weight_type_call_type "set" [.ref l] []) rfl]
 have h1:=F.called_set.notType
 have h2:=F.called_set.canCreate
 have hct:=F.typeCall_set_1 (.ref l)
 repeat (any_goals (first | assumption | wp_step))
 generalize hled:(!w.params.followText "set-order")=led
 refine codeAny_mono (mV (.ref l) (E:=E) (Q:=fun obj z=>obj=.ref s.heap.objs.size/\z={ s with heap:=s.heap.push { cls:=.type "set",dict:=none,data:=.set #[] 0 (.fresh 0 0 led) } }) (by rw [hled]; exact ⟨rfl,rfl⟩)) fun r z hr=>?_
 cases r with
 | error e=>exact hr
 | ok fl =>
 cases fl with
 | ret obj =>
  obtain ⟨rfl,rfl⟩:=hr
  have g0:(s.heap.push { cls:=.type "set",dict:=none,data:=.set #[] 0 (.fresh 0 0 led) }).get? s.heap.objs.size=some { cls:=.type "set",dict:=none,data:=.set #[] 0 (.fresh 0 0 led) }:=Heap.get?_push_size _ rfl
  have hT:Shared.TypeIs { s with heap:=s.heap.push { cls:=.type "set",dict:=none,data:=.set #[] 0 (.fresh 0 0 led) } } (.ref s.heap.objs.size) "set" := ⟨_,g0,rfl⟩
  have hli:=F.called_set.init.lookup
  have hbi:=F.called_set.init.bind (.ref s.heap.objs.size)
  repeat (any_goals (first | assumption | wp_step))
  refine codeAny_mono (codeAny_call_builtin (R:=wants (fun r z=>r=.none/\∃ h' tk,z={ s with heap:=h',toks:=tk }/\SetX prog w h' s.heap.objs.size (ded ss)/\(∀ b o,b<s.heap.objs.size->s.heap.get? b=some o->h'.get? b=some o)/\s.heap.objs.size<h'.objs.size) E)
   F.called_set.init.plain F.entry_set_init (check_set_init_1 hT ?_)) fun r z hr=>?_
  ·have tt:(s.heap.push { cls:=.type "set",dict:=none,data:=.set #[] 0 (.fresh 0 0 led) }).IsList l items:=by
    obtain ⟨o,e,r⟩:=hl
    exact ⟨o,Heap.get?_push_of_some _ e,r⟩
   obtain ⟨⟨ocls,odict,odata,oslots⟩,ho,hc,n0,hd⟩:=id tt
   simp only at hc hd
   subst hc hd
   have a1:=F.sub_list_set
   have a2:=F.sub_list_frozenset
   have a3:(Value.type "list" == Value.type "dict")=false:=by decide
   unfold Builtin.«set.__init__» noKeywords Builtin.Frozenset.updateFrom
   generalize hPI:pyIter=PI
   wp_walk
   subst hPI
   refine wpAny_pyIter_list (s:={ s with heap:=s.heap.push { cls:=.type "set",dict:=none,data:=.set #[] 0 (.fresh 0 0 led) } }) tt ?_
   refine wpAny_bind (wpAny_runValue ?_)
   have hlt:l<s.heap.objs.size:=by obtain ⟨o,e,_⟩:=hl; exact Heap.lt_size e
   have hn1:l≠(s.heap.push { cls:=.type "set",dict:=none,data:=.set #[] 0 (.fresh 0 0 led) }).objs.size:=by rw [Heap.size_push]; exact Nat.ne_of_lt (Nat.lt_succ_of_lt hlt)
   have hn2:s.heap.objs.size∉[(s.heap.push { cls:=.type "set",dict:=none,data:=.set #[] 0 (.fresh 0 0 led) }).objs.size,l]:=by
    rw [Heap.size_push]
    intro q
    rcases List.mem_cons.mp q with e | q
    ·exact absurd e (Nat.ne_of_lt (Nat.lt_succ_self _))
    ·exact absurd (List.mem_singleton.mp q) (Nat.ne_of_gt hlt)
   have W:=(Walks.list (prog:=prog) (w:=w) (A:=A.in1.in1.in1) (by simp [hh]) (s.heap.push { cls:=.type "set",dict:=none,data:=.set #[] 0 (.fresh 0 0 led) }).objs.size l hn1 items).toS
   rw [hsz] at W
   refine pA hb W hn2 (fun i v hi' hv=>?_) (ss.length - 0) 0 _ (by omega) (Nat.zero_le _) ⟨⟨_,Heap.get?_push_size _ rfl,rfl,rfl⟩,⟨_,Heap.get?_push_of_some _ ho,rfl,n0,rfl⟩⟩ ?_ ?_
   ·obtain ⟨t,e⟩:=hi.get i _ (List.getElem?_eq_getElem hi')
    rw [Array.getElem?_toList] at e
    exact ⟨t,Option.some.inj (hv.symm.trans e)⟩
   ·exact ⟨_,#[],0,_,[],Heap.get?_push_of_some _ g0,⟨rfl,rfl,rfl⟩,rfl,fun e he=>by simp at he,.nil,.nil,by decide,rfl,fun e=>by rw [<- hled,e]; rfl,fun e=>(e rfl).elim⟩
   ·intro z mv q
    rw [List.take_length] at q
    obtain ⟨h',g',d',tk',os'⟩:=z
    obtain rfl:g'=s.gens:=mv.gens
    obtain rfl:d'=s.drawn:=mv.drawn
    obtain rfl:os'=s.os:=mv.os
    refine wpAny_pure (wpAny_pure ⟨rfl,h',tk',rfl,q,fun b o hb e=>?_,?_⟩)
    ·refine mv.heap b o ?_ (Heap.get?_push_of_some _ (Heap.get?_push_of_some _ e))
     rw [Heap.size_push]
     intro q
     rcases List.mem_cons.mp q with e | q
     ·exact absurd e (Nat.ne_of_lt hb)
     ·exact absurd (List.mem_singleton.mp q) (Nat.ne_of_lt (Nat.lt_succ_of_lt hb))
    ·obtain ⟨o,_,_,_,_,e,_⟩:=q; exact Heap.lt_size e
  ·cases r with
   | error e=>exact hr
   | ok fl =>
   cases fl with
   | ret r =>
    obtain ⟨rfl,h',tk,rfl,q1,q2,q3⟩:=hr
    repeat (any_goals (first | assumption | wp_step))
    exact h _ _ q1 q2 q3
   | _=>exact hr.elim
 | _=>exact hr.elim
end
end L2
namespace L2
open PySem PySem.Spec PyProof.Rows
theorem slot_sit_next:Slot "set_iterator" "__next__" "set_iterator.__next__" :=
 .of (owner := "set_iterator") (n := "__next__") (by rw [typeLookup_type,builtinLookup_eq_fast]; kernel_rfl) (by decide +kernel) (by decide +kernel) (by decide +kernel)
  (by first | exact .inl (by decide +kernel) | exact .inr (by decide +kernel)) (by rw [isSubtype_type]; kernel_rfl)
theorem kh:entryFor table "set_iterator.__next__" = some Builtin.«set_iterator.__next__»:=entryFor_of_tree (by kernel_rfl)
theorem kG:Manifest.owners.lookup (String.ofList ("set_iterator".toList.reverse).reverse)=some Manifest.sig_set_iterator:=by kernel_rfl
theorem lx (a:Value):argsOk "set_iterator.__next__" ⟨[a],[]⟩:=by
 unfold argsOk; rw [signature?_of (id := "set_iterator.__next__") (n := "__next__".toList.reverse) (o := "set_iterator".toList.reverse) (by kernel_rfl) kG]; kernel_rfl
theorem kj:entryFor table "set.__iter__" = some Builtin.«frozenset.__iter__»:=entryFor_alias (id' := "frozenset.__iter__") (by kernel_rfl) rfl (by decide +kernel) (by kernel_rfl)
section
variable {prog:Program} {w:World} {A:Around} {E:Value->Shared->Prop} {s:Shared}
theorem kZ {src:Source} {n:Nat} {Q:Nat->Shared->Prop} (hn:n≠0) (h:∀ i,i<n->∀ d,Q i { s with drawn:=d }):wpAny (model prog w) A (choose src n) Q E s :=
 fun Γ p hΓ=>⟨hn,h _ (Nat.mod_lt _ (Nat.pos_of_ne_zero hn)) _⟩
theorem iH {α:Type}:∀ (l:List α) (i:Nat) (h:i<l.length),(l[i]::l.eraseIdx i).Perm l
 | x::r,0,_=>.refl _
 | x::r,i+1,h=>(List.Perm.swap ..).trans ((iH r i (Nat.lt_of_succ_lt_succ h)).cons x)
theorem dU {α:Type}:∀ (n:Nat) (xs:List α) (s:Shared) (Q:List α->Shared->Prop),xs.length=n->(∀ ys d,ys.Perm xs->Q ys { s with drawn:=d })->wpAny (model prog w) A (drawOrder n xs) Q E s
 | 0,xs,s,Q,hn,h=>by
  have:xs=[]:=List.length_eq_zero_iff.mp hn
  subst this
  exact wpAny_pure (h [] s.drawn .nil)
 | n+1,[],s,Q,hn,h=>by cases hn
 | n+1,x::r,s,Q,hn,h=>by
  unfold drawOrder
  have hne:(x::r).length≠0:=by simp
  refine wpAny_bind (kZ hne fun i hi d=>?_)
  rw [List.getElem?_eq_getElem hi]
  have hl:((x::r).eraseIdx i).length=n:=by rw [List.length_eraseIdx_of_lt hi,hn]; rfl
  refine wpAny_bind (dU n _ _ _ hl fun ys d' p=>wpAny_pure (h _ d' ?_))
  exact (p.cons _).trans (iH _ _ hi)
theorem kF {α:Type} (f:Nat->Nat):∀ (n k:Nat) (l:List α) (out:Array α),l.length=n->(pickOrder.go f n k l out).toList.Perm (out.toList++l)
 | 0,k,l,out,hn=>by
  have:l=[]:=List.length_eq_zero_iff.mp hn
  subst this
  unfold pickOrder.go
  rw [List.append_nil]
 | n+1,k,l,out,hn=>by
  unfold pickOrder.go
  have hi:f k % l.length<l.length:=Nat.mod_lt _ (by omega)
  rw [List.getElem?_eq_getElem hi]
  dsimp only
  refine (kF f n (k+1) _ _ (by rw [List.length_eraseIdx_of_lt hi,hn]; rfl)).trans ?_
  rw [Array.toList_push,List.append_assoc]
  exact (iH _ _ hi).append_left _
theorem jL {α:Type} (f:Nat->Nat) (xs:Array α):(pickOrder f xs).toList.Perm xs.toList:=by
 have:=kF f xs.size 0 xs.toList #[] (Array.length_toList ..)
 simpa [pickOrder] using this
noncomputable def SIter (h:Heap) (it:Addr) (f:Value) (i:Nat) (a:Addr) (n ep:Nat):Prop :=
 ∃ o,h.get? it=some o/\o.cls=.type "set_iterator" /\ o.data=.fields #[f,.int i 0,.ref a,.int n 0,.int ep 0]
theorem SIter.typeIs {it a:Addr} {f:Value} {i n ep:Nat} (x:SIter s.heap it f i a n ep):s.TypeIs (.ref it) "set_iterator" := let ⟨o,ho,hc,_⟩:=x; ⟨o,ho,hc⟩
noncomputable def SetAt (h:Heap) (a:Addr) (es:Array (Int×Value)) (ep:Nat) (t:SetTable):Prop:=∃ o,h.get? a=some o/\o.data=.set es ep t/\t.fits es.size=true
theorem fD {it a:Addr} {f:Value} {i n ep:Nat} {Q:Option Value->Shared->Prop} (x:SIter s.heap it f i a n ep)
  (h:wpAny (model prog w) A.in1 (Builtin.«set_iterator.__next__» ⟨[.ref it],[]⟩) (fun fin s'=>∃ v,fin=.done (.ret v)/\Q (some v) s') (fun e s'=>s'.TypeIs e "StopIteration" /\ Q none s') s) :
  wpAny (model prog w) A (pyNext (.ref it)) Q E s:=by
 unfold pyNext
 refine wpAny_bind (wpAny_attempt (wpAny_callSpecial?_slot (name:=Str.ofString "__next__") x.typeIs slot_sit_next (wpAny_call_entry slot_sit_next x.typeIs kh (wpAny_mono h ?_ ?_) (lx _))))
 ·rintro fin s' ⟨v,rfl,q⟩
  exact ⟨v,rfl,wpAny_pure q⟩
 ·rintro e s' ⟨hT,q⟩
  exact wpAny_bind (wpAny_isInstance (T := "StopIteration") (b:=true) hT isSubtype_stop (wpAny_pure q))
theorem kE {it a:Addr} {slot i n ep nx:Nat} {es:Array (Int×Value)} {t:SetTable} {v:Value} {Q:Option Value->Shared->Prop} (x:SIter s.heap it (.int slot 0) i a n ep) (hS:SetAt s.heap a es ep t) (hn:es.size=n)
  (hx:∀ (Q:Option (Value×Nat)->Shared->Prop) (E:Value->Shared->Prop),Q (some (v,nx)) s->wpAny (model prog w) A.in1 (setNext a slot i ep) Q E s)
  (k:∀ h',SIter h' it (.int nx 0) (i+1) a n ep->Heap.SameBut it s.heap h'->Q (some v) { s with heap:=h' }):wpAny (model prog w) A (pyNext (.ref it)) Q E s:=by
 refine fD x ?_
 obtain ⟨o,ho,hc,hd⟩:=x
 obtain ⟨os,hos,hds,hf⟩:=hS
 unfold Builtin.«set_iterator.__next__»
 refine wpAny_bind (m:=slotArgs "__next__" 0 _) (wpAny_pure ?_)
 refine wpAny_bind (wpAny_fieldsOf ho hd ?_)
 dsimp only
 refine wpAny_bind (wpAny_setEntries_of hos hds hf ?_)
 rw [if_neg (by rw [hn]; simp)]
 simp only [Int.toNat_natCast]
 refine wpAny_bind (hx _ _ ?_)
 dsimp only
 refine wpAny_bind (wpAny_setField ho hd (by simp) ?_)
 have h1:=Heap.get?_update_self (Obj.mapFields (·.setIfInBounds 0 (rawInt nx))) ho (Obj.isFreed_of_fields (Obj.data_mapFields hd _))
 refine wpAny_bind (wpAny_setField h1 (Obj.data_mapFields hd _) (by simp) (wpAny_pure ⟨v,rfl,k _ ?_ ?_⟩))
 ·refine ⟨_,Heap.get?_update_self _ h1 (Obj.isFreed_of_fields (Obj.data_mapFields (Obj.data_mapFields hd _) _)),(Obj.cls_mapFields ..).trans ((Obj.cls_mapFields ..).trans hc),?_⟩
  rw [Obj.data_mapFields (Obj.data_mapFields hd _)]; simp [rawInt]
 ·exact (Heap.SameBut.update ..).trans (Heap.SameBut.update ..)
theorem iX {h₁:Heap} {R:PySem.Fin->Shared->Prop} {Q:Option Value->Shared->Prop} (hh:A.handled=none) (k:∀ h',(∀ b o,h₁.get? b=some o->h'.get? b=some o)->Q none { s with heap:=h' }) :
  wpAny (model prog w) A.in1 (newExc (.type "StopIteration") [] >>= fun e=>raiseNew e) R (fun e s'=>s'.TypeIs e "StopIteration" /\ Q none s') { s with heap:=h₁ }:=by
 refine wpAny_bind ?_
 simp only [newExc,newTuple]
 refine wpAny_bind (wpAny_newObj_type ?_ (by size_fits))
 refine wpAny_bind (m:=firstArgMember _ _) (wpAny_of_eq (a:=Value.none) (by first | rfl | (simp only [firstArgMember]; rfl)) ?_)
 refine wpAny_newObj_type ?_ (by size_fits)
 simp only [raiseNew]
 refine wpAny_bind (wpAny_handled ?_)
 rw [show A.in1.handled=none from hh]
 exact wpAny_bind (wpAny_pure (wpAny_throw ⟨⟨_,Heap.get?_push_size _ rfl,rfl⟩,k _ fun b o e=>Heap.get?_push_of_some _ (Heap.get?_push_of_some _ e)⟩))
theorem hZ {it a:Addr} {slot i n ep:Nat} {es:Array (Int×Value)} {t:SetTable} {Q:Option Value->Shared->Prop} (hh:A.handled=none) (x:SIter s.heap it (.int slot 0) i a n ep) (hS:SetAt s.heap a es ep t) (hn:es.size=n)
  (hx:∀ (Q:Option (Value×Nat)->Shared->Prop) (E:Value->Shared->Prop),Q none s->wpAny (model prog w) A.in1 (setNext a slot i ep) Q E s)
  (k:∀ h',Heap.ExtBut it s.heap h'->Q none { s with heap:=h' }):wpAny (model prog w) A (pyNext (.ref it)) Q E s:=by
 refine fD x ?_
 obtain ⟨o,ho,hc,hd⟩:=x
 obtain ⟨os,hos,hds,hf⟩:=hS
 unfold Builtin.«set_iterator.__next__»
 refine wpAny_bind (m:=slotArgs "__next__" 0 _) (wpAny_pure ?_)
 refine wpAny_bind (wpAny_fieldsOf ho hd ?_)
 dsimp only
 refine wpAny_bind (wpAny_setEntries_of hos hds hf ?_)
 rw [if_neg (by rw [hn]; simp)]
 simp only [Int.toNat_natCast]
 refine wpAny_bind (hx _ _ ?_)
 dsimp only
 refine wpAny_bind (wpAny_setField ho hd (by simp) ?_)
 exact iX hh fun h' e=>k h' fun b o hb g=>e b o ((Heap.SameBut.update ..).extBut b o hb g)
noncomputable def PlAt (h:Heap) (T:Addr) (pl:List Nat):Prop:=∃ o m,h.get? T=some o/\o.data=.seq (pl.map fun (i:Nat)=>rawInt i).toArray m
theorem pz {it a T:Addr} {i n ep p:Nat} {pl:List Nat} {es:Array (Int×Value)} {t:SetTable} {v:Value} {hv:Int} {Q:Option Value->Shared->Prop} (x:SIter s.heap it (.ref T) i a n ep) (hS:SetAt s.heap a es ep t) (hn:es.size=n) (hT:PlAt s.heap T pl)
  (hp:pl[i]?=some p) (he:es[p]?=some (hv,v))
  (k:∀ h',SIter h' it (.ref T) (i+1) a n ep->Heap.SameBut it s.heap h'->Q (some v) { s with heap:=h' }):wpAny (model prog w) A (pyNext (.ref it)) Q E s:=by
 refine fD x ?_
 obtain ⟨o,ho,hc,hd⟩:=x
 obtain ⟨os,hos,hds,hf⟩:=hS
 obtain ⟨oT,m,hoT,hdT⟩:=hT
 unfold Builtin.«set_iterator.__next__»
 refine wpAny_bind (m:=slotArgs "__next__" 0 _) (wpAny_pure ?_)
 refine wpAny_bind (wpAny_fieldsOf ho hd ?_)
 dsimp only
 refine wpAny_bind (wpAny_setEntries_of hos hds hf ?_)
 rw [if_neg (by rw [hn]; simp)]
 refine wpAny_bind (wpAny_seqItems hoT hdT ?_)
 have e1:((pl.map fun (i:Nat)=>rawInt i).toArray)[(i:Int).toNat]?=some (.int p 0):=by
  rw [Int.toNat_natCast,List.getElem?_toArray,List.getElem?_map,hp]; rfl
 dsimp only
 rw [e1]
 dsimp only
 unfold setNextDrawn
 refine wpAny_bind (wpAny_bind (wpAny_setState_of hos hds hf ?_))
 dsimp only
 simp only [Int.toNat_natCast,bne_self_eq_false,Bool.false_eq_true,↓reduceIte,he]
 refine wpAny_pure ?_
 refine wpAny_bind (wpAny_setField ho hd (by simp) (wpAny_pure ⟨v,rfl,k _ ⟨_,Heap.get?_update_self _ ho (Obj.isFreed_of_fields (Obj.data_mapFields hd _)),(Obj.cls_mapFields ..).trans hc,?_⟩ (Heap.SameBut.update ..)⟩))
 rw [Obj.data_mapFields hd]; simp [rawInt]
theorem rn {it a T:Addr} {i n ep:Nat} {pl:List Nat} {es:Array (Int×Value)} {t:SetTable} {Q:Option Value->Shared->Prop} (hh:A.handled=none) (x:SIter s.heap it (.ref T) i a n ep) (hS:SetAt s.heap a es ep t) (hn:es.size=n) (hT:PlAt s.heap T pl)
  (hp:pl[i]?=none)
  (k:∀ h',Heap.ExtBut it s.heap h'->Q none { s with heap:=h' }):wpAny (model prog w) A (pyNext (.ref it)) Q E s:=by
 refine fD x ?_
 obtain ⟨o,ho,hc,hd⟩:=x
 obtain ⟨os,hos,hds,hf⟩:=hS
 obtain ⟨oT,m,hoT,hdT⟩:=hT
 unfold Builtin.«set_iterator.__next__»
 refine wpAny_bind (m:=slotArgs "__next__" 0 _) (wpAny_pure ?_)
 refine wpAny_bind (wpAny_fieldsOf ho hd ?_)
 dsimp only
 refine wpAny_bind (wpAny_setEntries_of hos hds hf ?_)
 rw [if_neg (by rw [hn]; simp)]
 refine wpAny_bind (wpAny_seqItems hoT hdT ?_)
 have e1:((pl.map fun (i:Nat)=>rawInt i).toArray)[(i:Int).toNat]?=none:=by
  rw [Int.toNat_natCast,List.getElem?_toArray,List.getElem?_map,hp]; rfl
 dsimp only
 rw [e1]
 dsimp only
 refine wpAny_bind (wpAny_setField ho hd (by simp) ?_)
 have h1:=Heap.get?_update_self (Obj.mapFields (·.setIfInBounds 0 (rawInt 0))) ho (Obj.isFreed_of_fields (Obj.data_mapFields hd _))
 refine wpAny_bind (wpAny_setField h1 (Obj.data_mapFields hd _) (by simp) ?_)
 exact iX hh fun h' e=>k h' fun b o hb g=>e b o (((Heap.SameBut.update ..).trans (Heap.SameBut.update ..)).extBut b o hb g)
end
end L2
namespace L2
open PySem PySem.Spec PyProof.Rows
section
variable {prog:Program} {w:World} {A:Around} {E:Value->Shared->Prop} {s:Shared}
theorem kH {a:Addr} {es:Array (Int×Value)} {ep slot i:Nat} {t:SetTable} {Q:Option (Value×Nat)->Shared->Prop} (ht:w.params.followText "set-order" = true) (hS:SetAt s.heap a es ep t)
  (h:Q (((pickOrder (w.params.setOrder a ep) es)[i]?).map fun e=>(e.2,slot)) s):wpAny (model prog w) A (setNext a slot i ep) Q E s:=by
 obtain ⟨o,ho,hd,hf⟩:=hS
 unfold setNext
 refine wpAny_bind (wpAny_setState_of ho hd hf ?_)
 dsimp only
 unfold setsByText
 refine wpAny_bind (wpAny_bind (wpAny_askSetting (wpAny_pure ?_)))
 rw [if_pos (show (model prog w).w.params.followText "set-order" = true from ht),if_neg (by simp)]
 unfold setWalk
 refine wpAny_bind (wpAny_bind (wpAny_setState_of ho hd hf ?_))
 dsimp only
 unfold setsByText
 refine wpAny_bind (wpAny_bind (wpAny_askSetting (wpAny_pure ?_)))
 rw [if_pos (show (model prog w).w.params.followText "set-order" = true from ht)]
 exact wpAny_bind (wpAny_askSetting (wpAny_pure (wpAny_pure h)))
theorem iz {a:Addr} {es:Array (Int×Value)} {ep slot i:Nat} {t:SetTable} {Q:Option (Value×Nat)->Shared->Prop} (ht:w.params.followText "set-order" = false) (hS:SetAt s.heap a es ep t) (hl:t.led=true) (hz:es.size<=1)
  (h:Q (match es[SetTable.below t.place slot]?,t.place[SetTable.below t.place slot]? with | some (_,x),some j=>some (x,j+1) | _,_=>none) s):wpAny (model prog w) A (setNext a slot i ep) Q E s:=by
 obtain ⟨o,ho,hd,hf⟩:=hS
 unfold setNext
 refine wpAny_bind (wpAny_setState_of ho hd hf ?_)
 dsimp only
 unfold setsByText
 refine wpAny_bind (wpAny_bind (wpAny_askSetting (wpAny_pure ?_)))
 rw [if_neg (show ¬ ((model prog w).w.params.followText "set-order" = true) from by show ¬ (w.params.followText "set-order" = true); rw [ht]; exact Bool.false_ne_true)]
 refine wpAny_ite_split (fun (hab:(!t.plain && decide (es.size > 1))=true)=>absurd hab (by rw [decide_eq_false (by omega),Bool.and_false]; exact Bool.false_ne_true)) (fun _=>?_)
 refine wpAny_bind (?_:wpAny _ _ (if (!t.led && !es.isEmpty)=true then unsupported _ else pure ()) _ _ _)
 rw [if_neg (by rw [hl]; simp)]
 refine wpAny_pure (wpAny_pure ?_)
 exact h
end
end L2
namespace L2
open PySem PySem.Spec PyProof.Rows
theorem fP:Slot "set_iterator" "__iter__" "set_iterator.__iter__" :=
 .of (owner := "set_iterator") (n := "__iter__") (by rw [typeLookup_type,builtinLookup_eq_fast]; kernel_rfl) (by decide +kernel) (by decide +kernel) (by decide +kernel)
  (by first | exact .inl (by decide +kernel) | exact .inr (by decide +kernel)) (by rw [isSubtype_type]; kernel_rfl)
theorem ki:entryFor table "set_iterator.__iter__" = some Builtin.«dict_keyiterator.__iter__»:=entryFor_alias (id' := "dict_keyiterator.__iter__") (by kernel_rfl) rfl (by decide +kernel) (by kernel_rfl)
theorem ly (a:Value):argsOk "set_iterator.__iter__" ⟨[a],[]⟩:=by
 unfold argsOk; rw [signature?_of (id := "set_iterator.__iter__") (n := "__iter__".toList.reverse) (o := "set_iterator".toList.reverse) (by kernel_rfl) kG]; kernel_rfl
section
variable {prog:Program} {w:World} {A:Around} {E:Value->Shared->Prop} {s:Shared}
theorem hW {it a:Addr} {f:Value} {i n ep:Nat} {Q:Value->Shared->Prop} (x:SIter s.heap it f i a n ep) (h:Q (.ref it) s):wpAny (model prog w) A (pyIter (.ref it)) Q E s:=by
 refine wpAny_pyIter_slot x.typeIs fP (wpAny_call_entry fP x.typeIs ki (?_:wpAny _ _ (ret (.ref it)) _ _ s) (ly _))
 exact wpAny_pure ⟨_,rfl, "set_iterator",_,x.typeIs,slot_sit_next.lookup,h⟩
theorem SIter.keep {h h':Heap} {it a:Addr} {f:Value} {i n ep:Nat} (x:SIter h it f i a n ep) (k:∀ o,h.get? it=some o->h'.get? it=some o):SIter h' it f i a n ep:=let ⟨o,e,r⟩:=x; ⟨o,k o e,r⟩
theorem SetAt.keep {h h':Heap} {a:Addr} {es:Array (Int×Value)} {ep:Nat} {t:SetTable} (x:SetAt h a es ep t) (k:∀ o,h.get? a=some o->h'.get? a=some o):SetAt h' a es ep t:=let ⟨o,e,r⟩:=x; ⟨o,k o e,r⟩
theorem PlAt.keep {h h':Heap} {T:Addr} {pl:List Nat} (x:PlAt h T pl) (k:∀ o,h.get? T=some o->h'.get? T=some o):PlAt h' T pl:=let ⟨o,m,e,r⟩:=x; ⟨o,m,k o e,r⟩
theorem walkT (hh:A.handled=none) (ht:w.params.followText "set-order" = true) {it a:Addr} {es:Array (Int×Value)} {ep:Nat} {t:SetTable} (hne:a≠it) :
  Walks prog w A it [it,a,it] [it] ((pickOrder (w.params.setOrder a ep) es).toList.map (·.2)).length (fun i v=>((pickOrder (w.params.setOrder a ep) es).toList.map (·.2))[i]?=some v)
   (fun i h=>SIter h it (.int ((0:Nat):Int) 0) i a es.size ep/\SetAt h a es ep t) where
 sub:=fun b hb=>by simp at hb; simp [hb]
 frame:=fun _ _ _ st k=>⟨st.1.keep fun o e=>k it (by simp) o e,st.2.keep fun o e=>k a (by simp) o e⟩
 item:=fun i s Q E hi st k=>by
  have hi':i<(pickOrder (w.params.setOrder a ep) es).toList.length:=by rw [List.length_map] at hi; exact hi
  refine kE (nx:=0) (v:=((pickOrder (w.params.setOrder a ep) es).toList[i]).2) st.1 st.2 rfl (fun Q E q=>kH ht st.2 ?_) fun h' x sb=>k _ h' s.toks ?_ ⟨x,st.2.keep fun o e=>sb.extBut a o hne e⟩ fun b o hb e=>sb.extBut b o (fun z=>hb (by simp [z])) e
  ·rw [<- Array.getElem?_toList,List.getElem?_eq_getElem hi']; exact q
  ·rw [List.getElem?_map,List.getElem?_eq_getElem hi']; rfl
 done:=fun s Q E st k=>by
  refine hZ hh st.1 st.2 rfl (fun Q E q=>kH ht st.2 ?_) fun h' x=>k h' s.toks fun b o hb e=>x b o (fun z=>hb (by simp [z])) e
  rw [List.length_map,<- Array.getElem?_toList,List.getElem?_eq_none (Nat.le_refl _)]
  exact q
 self:=fun i s Q E st h=>hW st.1 h
theorem n8 (xs:Array Nat) (hz:xs.size<=1):SetTable.below xs 0=0:=by
 unfold SetTable.below
 rcases Nat.lt_or_ge xs.size 1 with h | h
 ·have:xs.size=0:=by omega
  rw [this]; rfl
 ·have:xs.size=1:=by omega
  rw [this]
  unfold SetTable.below.go
  simp only [Nat.zero_lt_one,↓reduceIte,Nat.not_lt_zero]
  unfold SetTable.below.go
  rfl
theorem uR (xs:Array Nat) (p:Nat) (hz:xs.size=1) (hp:xs[0]?=some p):SetTable.below xs (p+1)=1:=by
 unfold SetTable.below
 rw [hz]
 unfold SetTable.below.go
 have e:xs.getD 0 (p+1)=p:=by rw [Array.getD_eq_getD_getElem?,hp]; rfl
 simp only [Nat.zero_lt_one,↓reduceIte]
 rw [show (0+1) / 2=0 from rfl,e,if_pos (Nat.lt_succ_self p)]
 unfold SetTable.below.go
 rfl
theorem walk1 (hh:A.handled=none) (ht:w.params.followText "set-order" = false) {it a:Addr} {es:Array (Int×Value)} {ep:Nat} {t:SetTable} (hne:a≠it) (hl:t.led=true) (hz:es.size<=1) (hf:t.fits es.size=true) :
  Walks prog w A it [it,a,it] [it] (es.toList.map (·.2)).length (fun i v=>(es.toList.map (·.2))[i]?=some v)
   (fun i h=>SIter h it (.int ((if i=0 then 0 else t.place.getD 0 0+1:Nat):Int) 0) i a es.size ep/\SetAt h a es ep t):=by
 have hps:t.place.size=es.size:=by
  unfold SetTable.fits at hf
  rw [Bool.and_eq_true] at hf
  exact eq_of_beq hf.1
 refine ⟨fun b hb=>by simp at hb; simp [hb],fun _ _ _ st k=>⟨st.1.keep fun o e=>k it (by simp) o e,st.2.keep fun o e=>k a (by simp) o e⟩,fun i s Q E hi st k=>?_,fun s Q E st k=>?_,fun i s Q E st h=>hW st.1 h⟩
 ·have h1:es.toList.length=1:=by rw [List.length_map] at hi; rw [Array.length_toList] at hi ⊢; omega
  have hs1:es.size=1:=by rw [<- Array.length_toList]; exact h1
  have hi0:i=0:=by rw [List.length_map,h1] at hi; omega
  subst hi0
  have hlt:0<es.toList.length:=by rw [h1]; exact Nat.zero_lt_one
  obtain ⟨p,hp⟩:∃ p,t.place[0]?=some p:=⟨_,Array.getElem?_eq_getElem (by rw [hps,hs1]; exact Nat.zero_lt_one)⟩
  have hg:t.place.getD 0 0=p:=by rw [Array.getD_eq_getD_getElem?,hp]; rfl
  rw [if_pos rfl] at st
  refine kE (nx:=p+1) (v:=(es.toList[0]).2) st.1 st.2 rfl (fun Q E q=>iz ht st.2 hl hz ?_) fun h' x sb=>k _ h' s.toks ?_ ⟨?_,st.2.keep fun o e=>sb.extBut a o hne e⟩ fun b o hb e=>sb.extBut b o (fun z=>hb (by simp [z])) e
  ·rw [n8 _ (by rw [hps]; exact hz),hp,<- Array.getElem?_toList,List.getElem?_eq_getElem hlt]; exact q
  ·rw [List.getElem?_map,List.getElem?_eq_getElem hlt]; rfl
  ·rw [if_neg (by omega),hg]; exact x
 ·rcases Nat.lt_or_ge es.size 1 with h | h
  ·have h0:es.size=0:=by omega
   rw [List.length_map,Array.length_toList,h0,if_pos rfl] at st
   refine hZ hh st.1 st.2 h0 (fun Q E q=>iz ht st.2 hl hz ?_) fun h' x=>k h' s.toks fun b o hb e=>x b o (fun z=>hb (by simp [z])) e
   rw [n8 _ (by rw [hps]; exact hz),Array.getElem?_eq_none (by omega)]; exact q
  ·have hs1:es.size=1:=by omega
   rw [List.length_map,Array.length_toList,hs1,if_neg (by decide)] at st
   obtain ⟨p,hp⟩:∃ p,t.place[0]?=some p:=⟨_,Array.getElem?_eq_getElem (by rw [hps,hs1]; exact Nat.zero_lt_one)⟩
   have hg:t.place.getD 0 0=p:=by rw [Array.getD_eq_getD_getElem?,hp]; rfl
   rw [hg] at st
   refine hZ hh st.1 st.2 hs1 (fun Q E q=>iz ht st.2 hl hz ?_) fun h' x=>k h' s.toks fun b o hb e=>x b o (fun z=>hb (by simp [z])) e
   rw [uR _ p (by rw [hps]; exact hs1) hp,Array.getElem?_eq_none (by omega)]; exact q
theorem walkD (hh:A.handled=none) {it a T:Addr} {es:Array (Int×Value)} {ep:Nat} {t:SetTable} {pl:List Nat} {vs:List Value} (hne:a≠it) (hT:T≠it) (hv:vs.length=pl.length) (hp:∀ i p:Nat,pl[i]?=some p->∃ h v,es[p]?=some (h,v)/\vs[i]?=some v) :
  Walks prog w A it [it,a,T] [it] vs.length (fun i v=>vs[i]?=some v) (fun i h=>SIter h it (.ref T) i a es.size ep/\SetAt h a es ep t/\PlAt h T pl) where
 sub:=fun b hb=>by simp at hb; simp [hb]
 frame:=fun _ _ _ st k=>⟨st.1.keep fun o e=>k it (by simp) o e,st.2.1.keep fun o e=>k a (by simp) o e,st.2.2.keep fun o e=>k T (by simp) o e⟩
 item:=fun i s Q E hi st k=>by
  obtain ⟨h,v,e1,e2⟩:=hp i _ (List.getElem?_eq_getElem (by rw [<- hv]; exact hi))
  exact pz st.1 st.2.1 rfl st.2.2 (List.getElem?_eq_getElem (by rw [<- hv]; exact hi)) e1 fun h' x sb=>k _ h' s.toks e2 ⟨x,st.2.1.keep fun o e=>sb.extBut a o hne e,st.2.2.keep fun o e=>sb.extBut T o hT e⟩ fun b o hb e=>sb.extBut b o (fun z=>hb (by simp [z])) e
 done:=fun s Q E st k=>rn hh st.1 st.2.1 rfl st.2.2 (List.getElem?_eq_none (by omega)) fun h' x=>k h' s.toks fun b o hb e=>x b o (fun z=>hb (by simp [z])) e
 self:=fun i s Q E st h=>hW st.1 h
end
end L2
namespace L2
open PySem PySem.Spec PyProof.Rows
section
variable {prog:Program} {w:World} {A:Around} {E:Value->Shared->Prop} {s:Shared}
theorem pI {α:Type} (d:α):∀ l:List α,(List.range l.length).map (fun p=>l.getD p d)=l:=fun l=>by
 refine List.ext_getElem? fun i=>?_
 rw [List.getElem?_map]
 rcases Nat.lt_or_ge i l.length with h | h
 ·rw [List.getElem?_range h,List.getElem?_eq_getElem h,Option.map_some,List.getD_eq_getElem?_getD,List.getElem?_eq_getElem h]; rfl
 ·rw [List.getElem?_eq_none (by rw [List.length_range]; exact h),List.getElem?_eq_none h]; rfl
theorem SetX.typeIs {a:Addr} {ss:List Str} (x:SetX prog w s.heap a ss):s.TypeIs (.ref a) "set" := let ⟨o,_,_,_,_,ho,hc,_⟩:=x; ⟨o,ho,hc.1⟩
theorem iterX {a:Addr} {ss:List Str} {Q:Value->Shared->Prop} (hh:A.handled=none) (hS:SetX prog w s.heap a ss)
  (h:∀ (h':Heap) (d:Drawn) (it T:Addr) (vs:List Value) (ks:List Str) (St:Nat->Heap->Prop),s.heap.objs.size<=it->s.heap.objs.size<=T->StrsAre vs ks->ks.Perm ss->(∀ b o,s.heap.get? b=some o->h'.get? b=some o) ->
   Walks prog w A it [it,a,T] [it] vs.length (fun i v=>vs[i]?=some v) St->St 0 h'->Q (.ref it) { s with heap:=h',drawn:=d }):wpAny (model prog w) A (pyIter (.ref a)) Q E s:=by
 have hT:=hS.typeIs
 obtain ⟨o,es,ep,t,ks,ho,hex,hd,hel,hks,p,hb,hf,hled,hpl⟩:=hS
 have hlt:=Heap.lt_size ho
 refine wpAny_pyIter_slot hT PySem.F.slot_set_iter (wpAny_call_entry PySem.F.slot_set_iter hT kj ?_ (PySem.F.args_set_iter_1 _))
 unfold Builtin.«frozenset.__iter__» Builtin.Frozenset.slot0 slotArgs
 simp only [List.isEmpty_nil,Bool.not_true,Bool.false_eq_true,↓reduceIte,bind_assoc,List.length_nil,bne_self_eq_false]
 unfold Builtin.Frozenset.addrOf Builtin.Frozenset.sizeOf
 refine wpAny_bind (wpAny_pure ?_)
 try dsimp only
 refine wpAny_bind (wpAny_pure ?_)
 refine wpAny_bind (wpAny_bind (wpAny_setEntries_of ho hd hf (wpAny_pure ?_)))
 have hS:SetAt s.heap a es ep t:=⟨o,ho,hd,hf⟩
 have hdr:∀ (Q:Bool->Shared->Prop) (E:Value->Shared->Prop),Q (!w.params.followText "set-order" && (!t.plain && decide (es.size > 1))) s->wpAny (model prog w) A.in1 (setDrawn a) Q E s:=fun Q E q=>by
  unfold setDrawn
  refine wpAny_bind (wpAny_setState_of ho hd hf ?_)
  dsimp only
  unfold setsByText
  exact wpAny_bind (wpAny_bind (wpAny_askSetting (wpAny_pure (wpAny_pure q))))
 refine wpAny_bind (hdr _ _ ?_)
 have plain:∀ (vs:List Value) (ks:List Str) (St:Nat->Heap->Prop),StrsAre vs ks->ks.Perm ss->Walks prog w A s.heap.objs.size [s.heap.objs.size,a,s.heap.objs.size] [s.heap.objs.size] vs.length (fun i v=>vs[i]?=some v) St ->
   (∀ h':Heap,SIter h' s.heap.objs.size (.int ((0:Nat):Int) 0) 0 a es.size ep->SetAt h' a es ep t->St 0 h')->wpAny (model prog w) A.in1 (do
     let first <- pure (rawInt 0)
     let e <- setEpoch a
     let it <- newFields "set_iterator" [first,rawInt 0,Value.ref a,rawInt es.size,rawInt e]
     ret it) (fun fin s'=>∃ v,fin=.done (.ret v)/\∃ T' r,s'.TypeIs v T'/\typeLookup (.type T') (Str.ofString "__next__")=pure (some r)/\Q v s') E s:=by
  intro vs ks St h1 h2 W hst
  refine wpAny_bind (wpAny_pure ?_)
  refine wpAny_bind (wpAny_setEpoch_of ho hd hf ?_)
  refine wpAny_bind (wpAny_newObj_type (wpAny_pure ⟨_,rfl, "set_iterator",_,⟨_,Heap.get?_push_size _ rfl,rfl⟩,slot_sit_next.lookup,?_⟩))
  exact h _ s.drawn _ _ vs ks St (Nat.le_refl _) (Nat.le_refl _) h1 h2 (fun b o e=>Heap.get?_push_of_some _ e) W (hst _ ⟨_,Heap.get?_push_size _ rfl,rfl,rfl⟩ (hS.keep fun o e=>Heap.get?_push_of_some _ e))
 cases ht:w.params.followText "set-order" with
 | true =>
  rw [Bool.not_true,Bool.false_and,if_neg Bool.false_ne_true]
  obtain ⟨k1,a1,a2⟩:=cB ((jL (w.params.setOrder a ep) es).map (·.2)) hks
  exact plain _ k1 _ a1 (a2.trans p) (walkT hh ht (Nat.ne_of_lt hlt)) fun h' x y=>⟨x,y⟩
 | false =>
  rcases Nat.lt_or_ge 1 es.size with hz | hz
  ·rw [hpl (by omega),decide_eq_true hz]
   refine (?_:wpAny _ _ (if true=true then _ else _) _ _ _)
   rw [if_pos rfl]
   refine wpAny_bind (dU _ _ _ _ List.length_range fun pl d pp=>?_)
   refine wpAny_bind ?_
   unfold newTuple
   have hlen:pl.length=es.size:=by rw [pp.length_eq,List.length_range]
   refine wpAny_newObj_type ?_ (by
    show ((pl.map fun (i:Nat)=>rawInt i).toArray).size<=sizeLine
    rw [List.size_toArray,List.length_map,hlen]; exact fits_of_scanBound hb)
   refine wpAny_bind (wpAny_setEpoch_of (Heap.get?_push_of_some _ ho) hd hf ?_)
   refine wpAny_bind (wpAny_newObj_type (wpAny_pure ⟨_,rfl, "set_iterator",_,⟨_,Heap.get?_push_size _ rfl,rfl⟩,slot_sit_next.lookup,?_⟩))
   have e0:(pl.map (fun p=>(es.toList.getD p (0,.none)).2)).Perm (es.toList.map (·.2)):=by
    have q:=pp.map (fun p=>(es.toList.getD p (0,.none)).2)
    rw [<- Array.length_toList] at q
    have e:=congrArg (List.map (·.2)) (pI ((0:Int),Value.none) es.toList)
    rw [List.map_map] at e
    exact q.trans (by rw [<- e]; exact .refl _)
   obtain ⟨k1,a1,a2⟩:=cB e0 hks
   refine h _ d _ s.heap.objs.size _ k1 _ ?_ (Nat.le_refl _) a1 (a2.trans p) (fun b o e=>Heap.get?_push_of_some _ (Heap.get?_push_of_some _ e))
    (walkD (t:=t) (ep:=ep) (es:=es) (pl:=pl) hh ?_ ?_ (List.length_map ..) fun i q hq=>?_) ⟨⟨_,Heap.get?_push_size _ rfl,rfl,rfl⟩,hS.keep fun o e=>Heap.get?_push_of_some _ (Heap.get?_push_of_some _ e),⟨_,_,Heap.get?_push_of_some _ (Heap.get?_push_size _ rfl),rfl⟩⟩
   ·rw [Heap.size_push]; exact Nat.le_succ _
   ·rw [Heap.size_push]; exact Nat.ne_of_lt (Nat.lt_succ_of_lt hlt)
   ·rw [Heap.size_push]; exact Nat.ne_of_lt (Nat.lt_succ_self _)
   ·have hm:q∈List.range es.size:=pp.mem_iff.mp (List.mem_of_getElem? hq)
    have hq2:q<es.toList.length:=by rw [Array.length_toList]; exact List.mem_range.mp hm
    refine ⟨_,_,(by rw [<- Array.getElem?_toList]; exact List.getElem?_eq_getElem hq2),?_⟩
    rw [List.getElem?_map,hq,Option.map_some,List.getD_eq_getElem?_getD,List.getElem?_eq_getElem hq2]; rfl
  ·rw [decide_eq_false (by omega),Bool.and_false,Bool.and_false,if_neg Bool.false_ne_true]
   exact plain _ ks _ hks p (walk1 hh ht (Nat.ne_of_lt hlt) (hled ht) hz hf) fun h' x y=>⟨x,y⟩
end
end L2
namespace L2
open PySem PySem.Spec PyProof.Rows PySem.Calls PyProof.V
section
variable {prog:Program} {w:World} {A:Around} {E:Value->Shared->Prop} {s:Shared}
theorem sk {r:Addr} {Q:Bool->Shared->Prop} (hT:s.TypeIs (.ref r) "set") (h:Q false s):wpAny (model prog w) A (Builtin.List.listLengthHint (.ref r)) Q E s:=by
 unfold Builtin.List.listLengthHint
 refine wpAny_bind (wpAny_specialOf hT PySem.F.slot_set_len.lookup ?_)
 generalize hn:("set.__len__" : String)=nm
 wp_delta
 rw [show splitId nm=some ("set", "__len__") from by subst hn; decide +kernel]
 subst hn
 refine wpAny_bind (wpAny_isInstance (T := "set") (b:=true) hT (by rw [isSubtype_type]; kernel_rfl) ?_)
 refine wpAny_ite_split (fun q=>absurd q (by decide)) fun _=>wpAny_ite_split (fun _=>?_) fun q=>absurd (by decide +kernel) q
 exact wpAny_bind (wpAny_typeOf hT (wpAny_pure h))
theorem uB {R:Result->Shared->Prop} {r S:Addr} {ss:List Str} (hh:A.handled=none) (hX:SetX prog w s.heap r ss) (hSr:S≠r) (res:Value) (c₀:Nat) (hS:s.heap.get? S=some { cls:=.type "list",data:=.seq #[] c₀ }) (hn:ss.length<=sizeLine)
  (hR:∀ h' tk d acc c' ks,(∀ b o,b≠S->s.heap.get? b=some o->h'.get? b=some o)->h'.get? S=some { cls:=.type "list",dict:=none,data:=.seq acc c',slots:=#[] }->StrsAre acc.toList ks->ks.Perm ss->R (.ok (.ret res)) { s with heap:=h',toks:=tk,drawn:=d }) :
  wpAny (model prog w) A.in1 (Builtin.List.listExtendWith (.ref S) (.ref r) res)
   (fun fin s'=>match fin with | .done f=>R (.ok f) s' | .again c'=>c'.quiet=true/\codeAny (model prog w) A c' R s') (fun e s'=>R (.error e) s') s:=by
 have hlS:=Heap.lt_size hS
 unfold Builtin.List.listExtendWith
 refine wpAny_bind (wpAny_typeOf (T := "set") hX.typeIs ?_)
 have h1:Builtin.List.listSameRef (.ref S) (.ref r)=false:=by simp [Builtin.List.listSameRef,hSr]
 have h2:(Value.type "set" == Value.type "list")=false:=by decide
 have h3:(Value.type "set" == Value.type "tuple")=false:=by decide
 simp only [h1,h2,h3,Bool.or_false,Bool.false_eq_true,if_false]
 refine wpAny_bind (iterX hh hX fun hp d it T vs ks St l1 l2 a1 a2 kp W st=>?_)
 have hz:vs.length<=sizeLine:=by rw [a1.length,a2.length_eq]; exact hn
 have hSf:S∉[it,r,T]:=by
  simp only [List.mem_cons,List.not_mem_nil,or_false,not_or]
  exact ⟨Nat.ne_of_lt (Nat.lt_of_lt_of_le hlS l1),hSr,Nat.ne_of_lt (Nat.lt_of_lt_of_le hlS l2)⟩
 have key:∀ (h:Heap) (c₁ tk:Nat),St 0 h->(∀ b o,b≠S->s.heap.get? b=some o->h.get? b=some o)->h.get? S=some { cls:=.type "list",data:=.seq #[] c₁ } ->
   codeAny (model prog w) A (.builtin "list.extend.loop" ⟨[.ref S,.ref it,res],[]⟩) R { s with heap:=h,toks:=tk,drawn:=d }:=by
  intro h c₁ tk hst hk hS₁
  refine codeAny_extend_loopS W.toS hz S hSf res vs.length 0 _ #[] c₁ rfl (Nat.zero_le _) hst hS₁ (ItemsOf.nil _) fun s' acc c' hm hS' hacc=>?_
  rw [Moved.eq_with hm]
  have hev:acc.toList=vs:=by
   refine List.ext_getElem? fun i=>?_
   rcases Nat.lt_or_ge i vs.length with q | q
   ·have hi:i<acc.size:=by rw [hacc.1]; exact q
    rw [Array.getElem?_toList,Array.getElem?_eq_getElem hi]
    exact (hacc.2 i _ (Array.getElem?_eq_getElem hi)).symm
   ·rw [List.getElem?_eq_none q,List.getElem?_eq_none (by rw [Array.length_toList,hacc.1]; exact q)]
  refine hR s'.heap s'.toks d acc c' ks (fun b o hb e=>hm.heap b o (fun q=>?_) (hk b o hb e)) hS' (by rw [hev]; exact a1) a2
  rcases List.mem_cons.mp q with z | q
  ·exact hb z
  ·exact absurd (Heap.lt_size e) (by rw [List.mem_singleton.mp q]; exact Nat.not_lt.mpr l1)
 have hS₁:=kp _ _ hS
 have hX1:SetX prog w hp r ss:=hX.keep fun o e=>kp _ _ e
 refine wpAny_bind (wpAny_holding (sk hX1.typeIs ?_))
 refine wpAny_ite_split (fun _=>?_) (fun _=>wpAny_pure ⟨plainId_quiet PySem.F.plain_extend_loop _,key _ c₀ _ st (fun b o _ e=>kp _ _ e) hS₁⟩)
 refine wpAny_bind (wpAny_rule (wpAny_bind ?_))
 refine (?_:wpAny _ _ (updateSeq S (·.push .none) >>= fun _=>updateSeq S (·.pop)) _ _ _)
 refine wpAny_bind (wpAny_updateSeq hS₁ rfl ?_)
 have hS₂:=Heap.get?_update_self (Obj.mapSeq (·.push Value.none)) hS₁ rfl
 refine wpAny_updateSeq (hz:=by seq_fits) hS₂ rfl ?_
 have hS₃:=Heap.get?_update_self (Obj.mapSeq (·.pop)) hS₂ rfl
 have oth:∀ b,b≠S->∀ o,hp.get? b=some o->((hp.update S (Obj.mapSeq (·.push Value.none))).update S (Obj.mapSeq (·.pop))).get? b=some o:=fun b hb o e =>
  (Heap.get?_update_other _ _ (Ne.symm hb)).trans ((Heap.get?_update_other _ _ (Ne.symm hb)).trans e)
 exact wpAny_pure ⟨plainId_quiet PySem.F.plain_extend_loop _,key _ _ _ (W.frame 0 _ _ st fun b hb o e=>oth b (fun z=>hSf (z ▸ hb)) o e) (fun b o hb e=>oth b hb o (kp _ _ e)) hS₃⟩
theorem sL {R:List Value->Shared->Prop} {r:Addr} {ss:List Str} (hh:A.handled=none) (hX:SetX prog w s.heap r ss) (hn:ss.length<=sizeLine)
  (h:∀ (h':Heap) (tk:Nat) (d:Drawn) (vs:List Value) (ks:List Str),(∀ b o,s.heap.get? b=some o->h'.get? b=some o)->StrsAre vs ks->ks.Perm ss->R vs { s with heap:=h',toks:=tk,drawn:=d }) :
  wpAny (model prog w) A (collect (.ref r)) R E s:=by
 have hlt:r<s.heap.objs.size:=by obtain ⟨o,_,_,_,_,e,_⟩:=hX; exact Heap.lt_size e
 unfold collect
 refine wpAny_bind (wpAny_runValue (codeAny_builtin entry_proto_collect' ?_))
 rw [Around.under_plainId PySem.F.plain_proto_collect _]
 refine (?_:wpAny _ A.in1 (newList [] >>= fun l=>again (.builtin "list.__iadd__" ⟨[l,.ref r],[]⟩)) _ _ s)
 refine wpAny_bind (wpAny_newObj_type (wpAny_pure ⟨plainId_quiet PySem.F.plain_list_iadd _,codeAny_builtin entry_list_iadd' ?_⟩))
 rw [Around.under_plainId PySem.F.plain_list_iadd _]
 have e1:(s.heap.push { cls:=.type "list",data:=.seq ([]:List Value).toArray }).get? s.heap.objs.size=some { cls:=.type "list",data:=.seq #[] }:=Heap.get?_push_size _ rfl
 refine (?_:wpAny _ A.in1 (Builtin.List.listExtendWith (.ref s.heap.objs.size) (.ref r) (.ref s.heap.objs.size)) _ _ _)
 have key:=uB (A:=A) (s:={ s with heap:=s.heap.push { cls:=.type "list",data:=.seq ([]:List Value).toArray } })
  (R:=fun q s'=>∃ h' tk d acc c' ks,q=.ok (.ret (.ref s.heap.objs.size))/\s'={ s with heap:=h',toks:=tk,drawn:=d }/\(∀ b o,s.heap.get? b=some o->h'.get? b=some o) /\
   h'.get? s.heap.objs.size=some { cls:=.type "list",dict:=none,data:=.seq acc c',slots:=#[] }/\StrsAre acc.toList ks/\ks.Perm ss)
  hh (hX.keep fun o e=>Heap.get?_push_of_some _ e) (Nat.ne_of_gt hlt) (.ref s.heap.objs.size) 0 e1 hn
  fun h' tk d acc c' ks k1 k2 k3 k4=>⟨h',tk,d,acc,c',ks,rfl,rfl,fun b o e=>k1 b o (Nat.ne_of_lt (Heap.lt_size e)) (Heap.get?_push_of_some _ e),k2,k3,k4⟩
 refine wpAny_mono key (fun fin s' x=>?_) fun e s' x=>?_
 ·cases fin with
  | done f =>
   obtain ⟨h',tk,d,acc,c',ks,e,rfl,k1,k2,k3,k4⟩:=x
   cases e
   exact wpAny_bind (wpAny_load k2 (wpAny_pure (h h' tk d _ ks k1 k3 k4)))
  | again c₁ =>
   refine ⟨x.1,codeAny_mono x.2 fun q s₂ y=>?_⟩
   obtain ⟨h',tk,d,acc,c',ks,rfl,rfl,k1,k2,k3,k4⟩:=y
   exact wpAny_bind (wpAny_load k2 (wpAny_pure (h h' tk d _ ks k1 k3 k4)))
 ·obtain ⟨_,_,_,_,_,_,e',_⟩:=x
  cases e'
end
end L2
namespace L2
open PySem PySem.Spec PyProof.Rows
section
variable {prog:Program} {w:World} {A:Around} {E:Value->Shared->Prop} {s:Shared}
theorem ol {x:Value} {Q:Value->Shared->Prop} (hc:wpAny (model prog w) A.in1 (collect x) (fun vs s1=>∃ ss:List Str,StrsAre vs ss/\vs.length<64 /\
   (∀ (h2:Heap) (out:List Value) (ss':List Str) (n:Nat),(∀ b o,s1.heap.get? b=some o->h2.get? b=some o)->h2.get? s1.heap.objs.size=some (seqObj "list" out.toArray n)->StrsAre out ss'->ss'.Perm ss->sortedS ss'=true->Q (.ref s1.heap.objs.size) { s1 with heap:=h2 })) E s) :
  wpAny (model prog w) A (call (.builtin "sorted") [x]) Q E s:=by
 refine Calls.call_function_entry kind_sorted plain_sorted entry_sorted (args_sorted1 _) ?_
 unfold Builtin.«sorted»
 refine wpAny_bind (m:=checkCount "sorted" 1 1 _) (wpAny_pure (wpAny_bind (wpAny_mono hc (fun vs s1 hv=>?_) fun _ _ e=>e)))
 obtain ⟨ss,hS,h64,k⟩:=hv
 refine wpAny_bind (wpAny_newList ?_ (by rw [sizeLine_eq]; omega))
 have at1:(s1.heap.push (seqObj "list" vs.toArray 0)).get? s1.heap.objs.size=some (seqObj "list" vs.toArray 0):=Heap.get?_push_size _ rfl
 refine wpAny_bind (wpAny_holding (wpAny_call_entry slot_list_sort ⟨_,at1,rfl⟩ entry_list_sort (list_sort_treeK strKind_oneLt at1 hS.keysOf (fun v₁ v₂ rest e=>keyKind_strs (by rw [<- e]; exact hS)) h64 fun st p q=>⟨_,rfl,?_⟩) (args_list_sort _)))
 obtain ⟨ss',b1,b2,b3⟩:=sorted_out_str hS p q
 obtain ⟨n,at2⟩:=sortedHeap_at (out:=(arrOf st).map (·.2)) at1
 refine wpAny_pure ⟨_,rfl,k _ ((arrOf st).map (·.2)).toList ss' n (fun b o e=>?_) (by rw [Array.toArray_toList]; exact at2) b1 b2 b3⟩
 have lt:=Heap.lt_size e
 rw [sortedHeap_old (Nat.ne_of_lt lt) (by rw [size_push']; exact Nat.lt_succ_of_lt lt)]
 exact Heap.get?_push_of_some _ e
end
theorem Inv.drw {X:Cx} {pins:List (Addr×Obj)} {σ:List (Option V)} {H:Hp} {s:Shared} (I:Inv X pins σ H s) (d:Drawn):Inv X pins σ H { s with drawn:=d } :=
 ⟨I.ok,I.os,I.bare,I.base,I.loc,I.cell,I.free,I.freeC,I.pin,I.hok,I.len⟩
noncomputable def setXo (P:Program) (w:World) (a:Addr) (ss:List Str):HO:=.ext fun h=>SetX P w h a ss
theorem setXOk {P:Program} {w:World} {H:Hp} {h:Heap} {a:Addr} {ss:List Str} (x:SetX P w h a ss):ObjOk P w H h a (setXo P w a ss) :=
 ⟨x,(by obtain ⟨o,_,_,_,_,e,_⟩:=x; exact ⟨o,e⟩),fun h1 h2 y k=>SetX.keep y k⟩
section
variable {X:Cx}
noncomputable def rSetLX (P:Program) (w:World):List V->Hp->VK->Prop:=fun xs H Q=>∃ (p:Addr) (ss:List Str),xs=[.ref p]/\H p=some (.lst (ss.map V.str))/\ss.length<=1000/\∀ l,H l=none->Q (.ref l) (upd H l (setXo P w l (ded ss)))
theorem oV (hc:X.calm=true):CallR X (.type "set") (rSetLX X.prog X.w):=by
 intro pins s σ H xs us Q I r h
 obtain ⟨p,ss,rfl,hq,hl,k⟩:=h
 obtain ⟨u,rfl,ru⟩:=r.one
 cases ru
 obtain ⟨_,its,n,rv,g⟩:=I.hok p _ hq
 refine kn (I.ok.hd hc) ⟨_,g,rfl,n,rfl⟩ (by simpa using fA rv) (by unfold scanBound; omega) fun h' tk q1 q2 q3=>?_
 exact ⟨.ref s.heap.objs.size,_,I.laid (t':=tk) (o:=setXo X.prog X.w s.heap.objs.size (ded ss)) (fun b o e=>q2 b o (Heap.lt_size e) e) (Nat.le_refl _) (setXOk q1),rfl,k _ (I.hok.fresh (Nat.le_refl _))⟩
noncomputable def rSortX (P:Program) (w:World):List V->Hp->VK->Prop:=fun xs H Q=>∃ (a:Addr) (ss:List Str),xs=[.ref a]/\H a=some (setXo P w a ss)/\ss.length<64 /\
 ∀ (l:Addr) (ts:List Str),H l=none->ts.Perm ss->ts.Pairwise (fun a b=>¬ ltS b a)->Q (.ref l) (upd H l (.lst (ts.map V.str)))
theorem oN (hc:X.calm=true):CallR X (.builtin "sorted") (rSortX X.prog X.w):=by
 intro pins s σ H xs us Q I r h
 obtain ⟨a,ss,rfl,ha,h64,k⟩:=h
 obtain ⟨u,rfl,ru⟩:=r.one
 cases ru
 obtain ⟨x,_,_⟩:=I.hok a _ ha
 refine ol (sL (A:=X.A.in1) (I.ok.hd hc) x (by rw [sizeLine_eq]; omega) fun h1 tk d vs ks kk a1 a2=>?_)
 refine ⟨ks,a1,by rw [a1.length,a2.length_eq]; exact h64,fun h2 out ss' n k2 e2 o1 o2 o3=>?_⟩
 have I1:Inv X pins σ H { s with heap:=h1,toks:=tk }:=I.kept kk
 have I2:=I1.laid (t':=tk) (a:=h1.objs.size) (o:=.lst (ss'.map V.str)) (fun b o q=>k2 b o q) (Nat.le_refl _) ⟨by rw [List.length_map,o2.length_eq,a2.length_eq,sizeLine_eq]; omega,out,n,cT o1,e2⟩
 exact ⟨.ref h1.objs.size,_,I2.drw d,rfl,k _ ss' (I1.hok.fresh (Nat.le_refl _)) (o2.trans a2) (cQ o3)⟩
end
end L2
namespace Q
open PySem L2 PyProof.Rows
noncomputable def iO (fa:WA):WE:=fun env P=>fa env fun xs e=>match xs with
 | [.lst ys]=>∃ ss,ys.mapM strPV=some ss/\ss.length<=1000/\(ded ss).length<64/\∀ ts,StrsUp (ded ss) ts->P (.lst (ts.map .str)) e
 | _=>False
section
variable {ob:ObK} {X:Cx} {a b c e:Expr} {es:List Expr} {f g h:WE} {fa:WA} {pos pos2 p p1 p2:Pos} {x:Str}
theorem oM (hc:X.calm=true) (hg:Gl X "sorted") (hm:X.mg "sorted" = none) (hg2:Gl X "set") (hm2:X.mg "set" = none) (ha:EvAW ob X [e] fa) (he2:autoParam (starEach [e] X.env=(false,eval e X.env)::starEach [] X.env) Z2._auto_1)
  (he:autoParam (starEach [.Call (.Name "set" p2) [e] [] pos2] X.env=(false,eval (.Call (.Name "set" p2) [e] [] pos2) X.env)::starEach [] X.env) Z2._auto_1) (hpl2:autoParam ((backTo pos2 (starEach [] X.env)).any (·.1)=false) Z2._auto_1) (hpl:autoParam ((backTo pos (starEach [] X.env)).any (·.1)=false) Z2._auto_1) :
  EvF ob X (.Call (.Name "sorted" p) [.Call (.Name "set" p2) [e] [] pos2] [] pos) (iO fa):=by
 obtain ⟨t,ht,k⟩:=ha.ex
 refine ⟨_,bu (oN hc) hg hm boot_sorted (bn (gb (oV hc) hg2 hm2 PyProof.Rows.boot_set ht (by decide) (by decide) he2 hpl2) bI he) (by decide) (by decide) he hpl,fun Z F σ H env P Q K hf kk=>k Z F σ H env _ _ K hf fun xs e1 vs F1 H1 p s1 K1 r1=>?_⟩
 split at p
 ·obtain ⟨ss,hs,hl,h64,p⟩:=p
  obtain ⟨v,rfl,r⟩:=r1.one
  obtain ⟨q,vs,rfl,h1,h2⟩:=r.lst K1.sF
  have:=dv jw hs h2
  subst this
  refine ⟨q,ss,rfl,h1,hl,fun l hn=>⟨l,_,rfl,am,h64,fun m ts hm hp hw=>?_⟩⟩
  have sH:Same H1 (upd H1 l (setXo X.prog X.w l (ded ss))):=az hn
  have K2:=K1.move aj (ag K1.sF sH) sH fun _ h=>.inl h
  exact kk _ e1 _ F1 _ (p ts ⟨hp,hw⟩) s1 (fun _=>by simp) (K2.own hm ⟨_,am,cU ts⟩)
 ·exact p.elim
end
end Q
namespace L2
open PySem PySem.Spec PyProof.Rows PyProof.Rows.KTD
noncomputable def FnTab (h:Heap) (a:Addr) (D:List (Str×Addr)):Prop:=TabOf (fun (f:Addr) v=>v=Value.ref f) h a D
section
variable {prog:Program} {w:World} {A:Around} {E:Value->Shared->Prop} {s:Shared}
theorem FnTab.typeIs {a:Addr} {D:List (Str×Addr)} (T:FnTab s.heap a D):s.TypeIs (.ref a) "dict" := let ⟨_,o,_,_,ho,hc,_⟩:=T; ⟨o,ho,hc.1⟩
theorem uA {a f:Addr} {D:List (Str×Addr)} {k:Str} {tk:Tok} {Q:Value->Shared->Prop} (T:FnTab s.heap a D) (hf:datumAt k D=some f) (h:Q (.ref f) { s with toks:=s.toks+1 }) :
  wpAny (model prog w) A (getItem (.ref a) (.str k tk)) Q E s:=by
 have hT:=T.typeIs
 obtain ⟨_,o,es,ep,ho,hc,hd,hr⟩:=T
 unfold getItem
 try with_reducible refine wpAny_holding ?_
 refine wpAny_bind (wpAny_sequenceKey hT (by decide) (wpAny_bind (wpAny_callSpecial?_slot (name:=Str.ofString "__getitem__") hT slot_dict_getitem (wpAny_call_entry slot_dict_getitem hT entry_dict_getitem (?_:wpAny _ _ (dictGet a (.str k tk) >>= _) _ _ s) (args_dict_getitem _ _)))))
 unfold dictGet
 refine wpAny_bind (wpAny_holding (wpAny_bind (wpAny_pyHash_str (wpAny_bind (kt_dictFind_strs (s:={ s with toks:=s.toks+1 }) ho hd (by obtain ⟨l⟩:=es; simpa using hr.exact) ?_)))))
 obtain ⟨v,hv,rfl⟩:=hr.find_some hf
 have hq:findBy (fun k v=>v.isStr k) es k=some (.ref f):=by
  rw [<- hv]
  obtain ⟨l⟩:=es
  simp [findBy]
 rw [findBy_of_findIdx?] at hq
 cases hi:es.findIdx? fun e=>e.key.isStr k with
 | none=>rw [hi] at hq; cases hq
 | some i =>
  rw [hi] at hq
  have hq':(es[i]?).map (·.val)=some (.ref f):=hq
  refine wpAny_bind (wpAny_dictEntries (s:={ s with toks:=s.toks+1 }) ho hd (wpAny_pure ?_))
  rw [hq']
  exact wpAny_pure ⟨_,rfl,wpAny_pure h⟩
end
section
variable {X:Cx}
noncomputable def tFn (D:List (Str×Addr)) (tk:TE):TE:=fun σ H Q=>tk σ H fun y H1=>∃ k f,y=.str k/\datumAt k D=some f/\Q (.ref f) H1
theorem rK {tb:Str} {dd:Addr} {D:List (Str×Addr)} {ke:Expr} {tk:TE} {p1 pos:Pos} (hg:Gl X tb) (hm:X.mg tb=some (.ref dd)) (hT:∀ h,X.K.In h->FnTab h dd D) (hk:PE X ke tk) (hs:NoSl ke) (hdb:autoParam ((tb==("__debug__" : Str))=false) Z1._auto_1) :
  PE X (.Subscript (.Name tb p1) ke pos) (tFn D tk):=by
 intro pins s σ H Q I h
 refine tD PySem.F.slot_dict_getitem.lookup hs (j4 I hg hm (thn (hk pins s σ H _ I h) fun iv s2 ⟨y,H2,I2,ry,k,f,ey,hf,q⟩=>?_) hdb)
 subst ey
 obtain ⟨t,rfl⟩:=ry
 have T:=hT _ I2.kIn
 exact ⟨T.typeIs,uA T hf ⟨.ref f,H2,I2.tok _,rfl,q⟩⟩
structure DEnt (P:Program) (w:World) (K:PySem.W.Frag) (mg:Str->Option Value) (base:Heap) (k:Nat) (f:Addr) (sp:Sp):Prop where
 ex:∃ fd ps,FnOk P w K mg base CX0 k f fd ps sp/\PySem.W.keepIn K (.ref f)=true/\Binds K fd ps []
noncomputable def tCallL (i:Nat) (E:XK) (sps:List (Addr×Sp)) (t:TA):TE:=fun σ H Q=>∃ f sp,(f,sp)∈sps/\σ[i]?=some (some (.ref f))/\t σ H fun vs H1=>sp vs H1 Q E
theorem rO {E:XK} {i k:Nat} {x:Str} {e:Expr} {es:List Expr} {t:TA} {p pos:Pos} {sps:List (Addr×Sp)} (hS:∀ q∈sps,DEnt X.prog X.w X.K X.mg X.base k q.1 q.2) (hr:Room k X.A) (hx:Passes CX0 X E) (ho:PE X (.Name x p) (tVar i)) (ha:PA X (e::es) t)
  (he:autoParam (starEach (e::es) X.env=(false,eval e X.env)::starEach es X.env) Z2._auto_1) (hpl:autoParam ((backTo pos (starEach es X.env)).any (·.1)=false) Z2._auto_1):PE X (.Call (.Name x p) (e::es) [] pos) (tCallL i E sps t):=by
 intro pins s σ H Q I h
 obtain ⟨f,sp,hm,hσ,q⟩:=h
 obtain ⟨fd,ps,F,hk,hb⟩:=(hS _ hm).ex
 refine wpAny_Call_Name_kw (thn (ho pins s σ H (fun v H1=>v=.ref f/\t σ H1 fun vs H2=>sp vs H2 Q E) I ⟨.ref f,hσ,rfl,q⟩) fun v s1 ⟨y,H1,I1,ry,ey,q1⟩=>?_)
 subst ey
 obtain rfl:v=Value.ref f:=ry
 refine PySem.W.callWith_K (h₀:=X.base) I1.ok.mod.kin hk (thn (ha pos pins s1 σ H1 _ I1 q1) fun us s2 ⟨vs,H2,I2,r,q2⟩=>⟨I2.kIn,?_⟩) he hpl
 exact pE F hr hb .nil hx I2 r (by rw [List.append_nil]; exact q2)
end
end L2
namespace Q
open PySem L2 PyProof.Rows PyProof.Rows.KTD
theorem Sok.setN {M:Md} {Z:Zn} {F H:Hp} {σ:L2.St} {env:En} {i:Nat} {v:Option V} (K:Sok M Z F σ H env) (h:env[i]?=some none):Sok M Z F (σ.set i v) H env:=by
 obtain ⟨fp,L⟩:=K.sl
 have ne:∀ j s,env[j]?=some (some s)->j≠i:=fun j s e z=>by rw [z,h] at e; cases e
 refine ⟨K.sF,K.sG,K.pr,K.gr,K.nw,by rw [List.length_set]; exact K.len,fp,fun j s e=>?_,L.al,L.dj,fun j a s e1 e2 e3=>?_⟩
 ·obtain ⟨v',h1,h2⟩:=L.at' j s e
  exact ⟨v',by rw [List.getElem?_set_ne (Ne.symm (ne j s e))]; exact h1,h2⟩
 ·rw [List.getElem?_set_ne (Ne.symm (ne j s e2))]; exact L.oa j a s e1 e2 e3
noncomputable def sDisp (i:Nat) (T:List (Str×Fd)) (fk:WE) (fa:WA):WS:=fun P env=>fk env fun x e=>match x with
 | .str k=>∃ D,datumAt k T=some D/\e[i]?=some none/\fa e fun xs e2=>D xs fun r=>P.rt r e2
 | _=>False
theorem gq {α β:Type} (g:α->β) (k:Str):∀ (T:List (Str×α)),datumAt k (T.map fun q=>(q.1,g q.2))=(datumAt k T).map g
 | []=>rfl
 | (x,d)::T=>by
  show (if decide (k=x)=true then some (g d) else datumAt k (T.map fun q=>(q.1,g q.2)))=Option.map g (if decide (k=x)=true then some d else datumAt k T)
  split
  ·rfl
  ·exact gq g k T
theorem kR {α:Type} {k:Str} {d:α}:∀ {T:List (Str×α)},datumAt k T=some d->∃ x,(x,d)∈T
 | (x,d')::T,h=>by
  have h':(if decide (k=x)=true then some d' else datumAt k T)=some d:=h
  split at h'
  ·cases h'; exact ⟨x,List.mem_cons_self⟩
  ·obtain ⟨y,hy⟩:=kR h'; exact ⟨y,List.mem_cons_of_mem _ hy⟩
section
variable {ob:ObK} {X:Cx} {e ke:Expr} {es:List Expr} {fk:WE} {fa:WA} {x y tb:Str} {p p1 p2 p3 py pos pos1 pos2 pos3:Pos}
theorem sw (i:Nat) {k n:Nat} {dd:Addr} {T:List (Str×Addr×Fd)} (hN:X.N.Nodup) (hy:X.N[i]?=some y) (hl:Loc X.env.scope y) (hg:Gl X tb) (hm:X.mg tb=some (.ref dd)) (hT:∀ h,X.K.In h->FnTab h dd (T.map fun q=>(q.1,q.2.1)))
  (hS:∀ q∈T,DEnt X.prog X.w X.K X.mg X.base k q.2.1 (spQ (md ob X) n q.2.2)) (hr:Room k X.A) (hk:EvS ob X ke fk) (hns:NoSl ke) (ho:PE X (.Name y p2) (tVar i)) (ha:EvA ob X (e::es) fa) (hn:autoParam (es.length+1=n) Z2._auto_1)
  (he:autoParam (starEach (e::es) X.env=(false,eval e X.env)::starEach es X.env) Z2._auto_1) (hpl:autoParam ((backTo pos3 (starEach es X.env)).any (·.1)=false) Z2._auto_1) (hdb:autoParam ((tb==("__debug__" : Str))=false) Z1._auto_1)
  (hs:autoParam (swapsWith (.Subscript (.Name tb p1) ke pos) (some (.Name y py)) pos1.line X.env=pure false) Z2._auto_1) (hf:autoParam (X.fn y=true\/X.env.scope.names.lookup y=some .local) Z0._auto_1) :
  EvXs ob X [.Assign [.Name y py] (.Subscript (.Name tb p1) ke pos) pos1,.Return (some (.Call (.Name y p2) (e::es) [] pos3)) pos2] (sDisp i (T.map fun q=>(q.1,q.2.2)) fk fa):=by
 obtain ⟨t1,h1,k1⟩:=hk.ex
 obtain ⟨t2,h2,k2⟩:=ha.ex
 have hS':∀ q∈T.map (fun q=>(q.2.1,spQ (md ob X) n q.2.2)),DEnt X.prog X.w X.K X.mg X.base k q.1 q.2:=fun q hq=>by
  obtain ⟨z,hz,rfl⟩:=List.mem_map.mp hq
  exact hS z hz
 refine ⟨_,bM (dy hN hy hl (rK hg hm hT h1 hns hdb) hs hf) (cI (ga (rO (E:=E0) hS' hr pass0 ho h2 he hpl))),fun Z F σ H env P D K hf L=>?_⟩
 refine k1 Z F σ H env _ _ K hf fun v e1 u F1 H1 pv s1 K1 r1=>?_
 split at pv
 ·rename_i kk
  obtain ⟨Df,hd,hi,pv⟩:=pv
  rw [gq] at hd
  cases hz:datumAt kk T with
  | none=>rw [hz] at hd; cases hd
  | some z =>
   rw [hz] at hd
   have ez:z.2=Df:=Option.some.inj hd
   subst ez
   cases r1
   obtain ⟨x',hx'⟩:=kR hz
   refine ⟨kk,z.1,rfl,by rw [gq,hz]; rfl,?_⟩
   have K2:Sok (md ob X) Z F1 (σ.set i (some (.ref z.1))) H1 e1:=K1.setN hi
   have hlt:i<σ.length:=by
    have:=K1.len
    rcases Nat.lt_or_ge i e1.length with q | q
    ·omega
    ·rw [List.getElem?_eq_none q] at hi; cases hi
   refine ⟨z.1,_,List.mem_map.mpr ⟨(x',z),hx',rfl⟩,by rw [List.getElem?_set_self hlt],k2 Z F1 _ H1 e1 _ _ K2 pv fun xs e2 vs F2 H2 p2 hl2 s2 K3 r2=>?_⟩
   refine ⟨F2,xs,fun r=>P.rt r e2,K3.sF,r2,by rw [hl2]; exact hn,p2,fun r v F' H' pr sH sF sFH nw rv=>?_⟩
   exact L.rt r e2 v _ F' H' pr (ag s1 (ag s2 sF)) (K3.move sF sFH sH nw) rv
 ·exact pv.elim
end
end Q
namespace L2
open PySem PySem.Spec PyProof.Rows
section
variable {X:Cx}
noncomputable def tP (K:PySem.W.Frag):List V->Hp->VK->Prop:=fun xs H Q=>∃ p vs nm,xs=[.ref p]/\SqT K H p vs/\vs.length<64/\Rows K H vs nm /\
 ∀ l (ix:List Nat),H l=none->ix.length=vs.length->ix.Nodup->(∀ i∈ix,i<vs.length)->(ix.map fun i=>nm.getD i ⟨#[]⟩).Pairwise ltS->Q (.ref l) (upd H l (.lst (ix.map fun i=>vs.getD i .non)))
theorem nv:CallR X (.builtin "sorted") (tP X.K):=by
 intro pins s σ H xs us Q I r h
 obtain ⟨p,vs,nm,rfl,hq,h64,R,k⟩:=h
 obtain ⟨u,rfl,ru⟩:=r.one
 cases ru
 obtain ⟨its,rv,⟨o,g1,g2,n0,g3⟩,hz⟩:=I.tuple hq
 have hl:=rv.length
 exact fV (vs:=its) (fun R' g=>wpAny_collect_seq p (.inr rfl) g1 g2 g3 (fun h1 kk=>g h1 s.toks kk) (by rw [List.size_toArray,sizeLine_eq]; omega)) fun h1 tk kk=>hV (I.kept kk) rv (by rw [sizeLine_eq]; omega) h64 R k
noncomputable def viewO (r d:Addr):HO:=.ext fun h=>h.IsValuesView r d
theorem viewOk {P:Program} {w:World} {H:Hp} {h:Heap} {r d:Addr} (x:h.IsValuesView r d):ObjOk P w H h r (viewO r d) :=
 ⟨x,(by obtain ⟨o,e,_⟩:=x; exact ⟨o,e⟩),fun h1 h2 ⟨o,e,r⟩ k=>⟨o,k o e,r⟩⟩
noncomputable def tDVals (to:TE):TE:=fun σ H Q=>to σ H fun v H1=>∃ d kvs,v=.ref d/\H1 d=some (.dK kvs)/\∀ r,H1 r=none->Q (.ref r) (upd H1 r (viewO r d))
theorem rL {o:Expr} {to:TE} {apos pos:Pos} (ho:PE X o to) (hbase:autoParam (attributeBase o "values" X.env (eval o X.env)=eval o X.env) Z2._auto_1) (hline:autoParam ((apos.endLine==pos.line)=true) Z2._auto_1) :
  PE X (.Call (.Attribute o "values" apos) [] [] pos) (tDVals to):=by
 intro pins s σ H Q I h
 refine wpAny_Call_method0_late hbase hline (thn (ho pins s σ H _ I h) fun v s1 ⟨x,H1,I1,r1,q1⟩=>?_)
 obtain ⟨d,kvs,ex,hd,q1⟩:=q1
 subst ex
 cases r1
 obtain ⟨t1,t2,t3⟩:=qu I1 (.inl ⟨kvs,.inl hd⟩)
 refine ⟨"dict", "dict.values",PySem.F.plainAttrs_dict,PySem.F.slot_dict_values,PySem.F.type_dict_values,t1,t2,Calls.callWith_builtin rfl (PySem.evalArgs_none ?_)⟩
 obtain ⟨hz,_,vs,rel,dd⟩:=jr I1.hok hd
 refine call_meetsIn PySem.F.slot_dict_values dd.typeIs PySem.F.entry_dict_values (PySem.F.args_dict_values_1 _) (meets_dict_values (aO X.prog X.w) d t3) ⟨⟨vs,dd⟩,?_⟩
 exact ⟨.ref s1.heap.objs.size,_,I1.laid (t':=s1.toks) (o:=viewO s1.heap.objs.size d) (fun b o e=>Heap.get?_push_of_some _ e) (Nat.le_refl _) (viewOk ⟨_,Heap.get?_push_size _ rfl,rfl,rfl⟩),rfl,q1 _ (I1.hok.fresh (Nat.le_refl _))⟩
noncomputable def rSortV (K:PySem.W.Frag):List V->Hp->VK->Prop:=fun xs H Q=>∃ (r d:Addr) (kvs:List (Key×V)) (nm:List Str),xs=[.ref r]/\H r=some (viewO r d)/\H d=some (.dK kvs)/\kvs.length<64/\Rows K H (kvs.map (·.2)) nm /\
 ∀ l (ix:List Nat),H l=none->ix.length=(kvs.map (·.2)).length->ix.Nodup->(∀ i∈ix,i<(kvs.map (·.2)).length)->(ix.map fun i=>nm.getD i ⟨#[]⟩).Pairwise ltS->Q (.ref l) (upd H l (.lst (ix.map fun i=>(kvs.map (·.2)).getD i .non)))
theorem uk {kvs:List (Key×V)} {vs:List (Key×Value)} (r:KV kvs vs):Vals (kvs.map (·.2)) (vs.map (·.2)):=by
 induction r with
 | nil=>exact .nil
 | cons h t ih=>exact .cons h.2 ih
theorem oO (hc:X.calm=true):CallR X (.builtin "sorted") (rSortV X.K):=by
 intro pins s σ H xs us Q I rr h
 obtain ⟨r,d,kvs,nm,rfl,hr,hd,h64,R,k⟩:=h
 obtain ⟨u,rfl,ru⟩:=rr.one
 cases ru
 obtain ⟨hv,_,_⟩:=I.hok r _ hr
 obtain ⟨hz,_,vs,rel,dd⟩:=jr I.hok hd
 obtain ⟨o,es,ep,ho,hx,hdat,hk,hp,hn⟩:=dd
 have D:s.heap.DictAt (aO X.prog X.w) d vs ep:=⟨o,es,ho,hx,hdat,hk,hp,hn⟩
 have hl:=rel.length
 refine fV (vs:=vs.map (·.2)) (fun R' g=>PySem.W.kdu_collect (A:=X.A.in1) (PySem.W.kdl_values (knd:=aO X.prog X.w) (kvs:=vs) (ep:=ep)) (I.ok.hd hc) ⟨hv,D⟩ (by rw [sizeLine_eq]; omega) fun h1 tk acc kk hit=>?_)
  fun h1 tk kk=>hV (I.kept kk) (uk rel) (by rw [List.length_map,sizeLine_eq]; omega) (by rw [List.length_map]; exact h64) R k
 have e:acc.toList=vs.map (·.2):=by
  refine List.ext_getElem? fun i=>?_
  rcases Nat.lt_or_ge i acc.size with q | q
  ·obtain ⟨k',hk'⟩:=hit.2 i _ (Array.getElem?_eq_getElem q)
   rw [Array.getElem?_toList,Array.getElem?_eq_getElem q,List.getElem?_map,hk']; rfl
  ·rw [List.getElem?_eq_none (by rw [Array.length_toList]; exact q),List.getElem?_eq_none (by rw [List.length_map,<- hit.1]; exact q)]
 rw [e]
 exact g h1 tk kk
end
end L2
namespace Q
open PySem L2 PyProof.Rows
noncomputable def kl (fa:WA):WE:=fun env P=>fa env fun xs e=>match xs with
 | [.tup ys]=>∃ nm:List Str,ys.mapM fstS=some nm/\nm.Nodup/\ys.length<64/\∀ ix:List Nat,ix.length=ys.length->(∀ i∈ix,i<ys.length)->(ix.map fun i=>nm.getD i ⟨#[]⟩).Pairwise ltS->P (.lst (ix.map fun i=>ys.getD i .non)) e
 | _=>False
noncomputable def eSortV (i:Nat):WE:=fun env P=>match env[i]? with
 | some (some ⟨1,.dic kvs⟩)=>∃ nm:List Str,(kvs.map (·.2)).mapM fstS=some nm/\nm.Nodup/\kvs.length<64/\∀ ix:List Nat,ix.length=kvs.length->(∀ i∈ix,i<kvs.length)->(ix.map fun i=>nm.getD i ⟨#[]⟩).Pairwise ltS->P (.lst (ix.map fun i=>(kvs.map (·.2)).getD i .non)) env
 | _=>False
theorem rq {K:PySem.W.Frag} {F:Hp} {vs:List (Key×V)} {xs:List (Key×PV)} (h:RepsK K F vs xs):Reps K F (vs.map (·.2)) (xs.map (·.2)):=by
 induction h using RepsK.ind with
 | nil=>exact .nil
 | cons a r ih=>exact .cons a ih
noncomputable def dropP (kvs:List (Key×PV)) (k:Key):List (Key×PV):=kvs.filter fun q=>decide (q.1≠k)
noncomputable def eDPop (i:Nat) (fk:WE):WE:=fun env P=>(∃ kvs,env[i]?=some (some ⟨1,.dic kvs⟩))/\fk env fun y e=>match e[i]?,keyP y with
 | some (some ⟨1,.dic kvs⟩),some k=>∃ z,valP kvs k=some z/\P z (e.set i (some ⟨1,.dic (dropP kvs k)⟩))
 | _,_=>False
theorem pH {K:PySem.W.Frag} {F:Hp} {k:Key} {vs:List (Key×V)} {xs:List (Key×PV)} (h:RepsK K F vs xs):RepsK K F (dropK vs k) (dropP xs k):=by
 induction h using RepsK.ind with
 | nil=>exact .nil
 | @cons k' v x vs xs a r ih =>
  unfold dropK dropP at ih ⊢
  rw [List.filter_cons,List.filter_cons]
  dsimp only
  split
  ·exact .cons a ih
  ·exact ih
section
variable {ob:ObK} {X:Cx} {e ke:Expr} {es:List Expr} {fa:WA} {fk:WE} {x:Str} {pos p p1 apos cpos pos2:Pos}
theorem qG (hg:Gl X "sorted") (hm:X.mg "sorted" = none) (ha:EvAW ob X (e::es) fa)
  (he:autoParam (starEach (e::es) X.env=(false,eval e X.env)::starEach es X.env) Z2._auto_1) (hpl:autoParam ((backTo pos (starEach es X.env)).any (·.1)=false) Z2._auto_1):EvF ob X (.Call (.Name "sorted" p) (e::es) [] pos) (kl fa):=by
 obtain ⟨t,ht,k⟩:=ha.ex
 refine ⟨_,bu nv hg hm boot_sorted ht (by decide) (by decide) he hpl,fun Z F σ H env P Q K hf kk=>k Z F σ H env _ _ K hf fun xs e1 vs F1 H1 p s1 K1 r1=>?_⟩
 split at p
 ·obtain ⟨nm,hs,nd,hl,p⟩:=p
  obtain ⟨v,rfl,r⟩:=r1.one
  obtain ⟨q,vs,rfl,h1,h2⟩:=r.tup K1.sF
  have g1:=(br hs).1
  have hlen:=h2.len
  refine ⟨q,vs,nm,rfl,h1,by omega,⟨by omega,fun i v x hv hx=>?_,nd⟩,fun l ix hn i1 i2 i3 i4=>?_⟩
  ·obtain ⟨y,hy,ry⟩:=h2.getV hv
   obtain ⟨y',e1,e2⟩:=iE hs i x hx
   rw [hy] at e1; cases e1
   exact j9 K1.sF ry e2
  ·exact kk _ e1 _ F1 _ (p ix (by omega) (fun i hi=>by have:=i3 i hi; omega) i4) s1 (fun _=>by simp) (K1.own hn ⟨_,am,ed h2 ix fun i hi=>by have:=i3 i hi; omega⟩)
 ·exact p.elim
theorem sy (i:Nat) (hc:X.calm=true) (hg:Gl X "sorted") (hm:X.mg "sorted" = none) (ho:PE X (.Name x p1) (tVar i)) (hbase:autoParam (attributeBase (.Name x p1) "values" X.env (eval (.Name x p1) X.env)=eval (.Name x p1) X.env) Z2._auto_1) (hline:autoParam ((apos.endLine==pos2.line)=true) Z2._auto_1)
  (he:autoParam (starEach [.Call (.Attribute (.Name x p1) "values" apos) [] [] pos2] X.env=(false,eval (.Call (.Attribute (.Name x p1) "values" apos) [] [] pos2) X.env)::starEach [] X.env) Z2._auto_1) (hpl:autoParam ((backTo pos (starEach [] X.env)).any (·.1)=false) Z2._auto_1) :
  EvF ob X (.Call (.Name "sorted" p) [.Call (.Attribute (.Name x p1) "values" apos) [] [] pos2] [] pos) (eSortV i):=by
 refine ⟨_,bu (oO hc) hg hm boot_sorted (bn (rL ho hbase hline) bI he) (by decide) (by decide) he hpl,fun Z F σ H env P Q K hf kk=>?_⟩
 unfold eSortV at hf
 split at hf
 ·rename_i kvs ei
  obtain ⟨nm,hs,nd,hl,hf⟩:=hf
  obtain ⟨d,h1,vs,h2,h3⟩:=K.ownAt (.inl rfl) ei
  have h4:=rq h3
  have g1:=(br hs).1
  have hlen:=h4.len
  rw [List.length_map,List.length_map] at hlen
  rw [List.length_map] at g1
  refine ⟨_,h1,d,vs,rfl,h2,fun r hn=>?_⟩
  have sH:Same H (upd H r (viewO r d)):=az hn
  have K2:=K.move aj (ag K.sF sH) sH fun _ h=>.inl h
  have hdr:d≠r:=fun z=>by rw [z,hn] at h2; cases h2
  refine ⟨r,d,vs,nm,rfl,am,(by rw [aq hdr]; exact h2),by omega,⟨by rw [List.length_map]; omega,fun i v x hv hx=>?_,nd⟩,fun l ix hn2 i1 i2 i3 i4=>?_⟩
  ·obtain ⟨y,hy,ry⟩:=h4.getV hv
   obtain ⟨y',e1,e2⟩:=iE hs i x hx
   rw [hy] at e1; cases e1
   exact j9 K2.sF ry e2
  ·rw [List.length_map] at i1 i3
   exact kk _ env _ F _ (hf ix (by omega) (fun i hi=>by have:=i3 i hi; omega) i4) aj (fun _=>by simp) (K2.own hn2 ⟨_,am,ed h4 ix fun i hi=>by have:=i3 i hi; rw [List.length_map]; omega⟩)
 ·exact hf.elim
theorem nS (i:Nat) (ho:PE X (.Name x p) (tVar i)) (hk:EvS ob X ke fk) (m:autoParam (M1 X (.Name x p) "pop" apos ke cpos) Z8._auto_1):EvS ob X (.Call (.Attribute (.Name x p) "pop" apos) [ke] [] cpos) (eDPop i fk):=by
 obtain ⟨t,ht,k⟩:=hk.ex
 refine ⟨_,rM ho ht m,fun Z F σ H env P Q K hf kk=>?_⟩
 obtain ⟨⟨kvs,ei⟩,hf⟩:=hf
 obtain ⟨d,h1,vs,h2,h3⟩:=K.ownAt (.inl rfl) ei
 refine ⟨_,h1,d,rfl,.inl ⟨vs,.inl h2⟩,k Z F σ H env _ _ K hf fun y e1 v F1 H1 p s1 K1 r1=>?_⟩
 split at p
 ·rename_i kvs2 kx ei2 hkx
  obtain ⟨z,hz,p⟩:=p
  obtain ⟨d',g1,vs2,g2,g3⟩:=K1.ownAt (.inl rfl) ei2
  rw [h1] at g1; cases g1
  rcases g3.val (k:=kx) with ⟨_,e2⟩ | ⟨w1,w2,e1',e2,e3⟩
  ·rw [e2] at hz; cases hz
  ·rw [e2] at hz; cases hz
   have hv:v=kV kx:=vwKey (M:=md ob X) (F:=F1) (H:=H1) (.inl r1) hkx
   refine ⟨vs2,kx,w1,g2,hv,e1',?_⟩
   exact kk _ _ _ F1 _ p s1 (K1.write (.inl rfl) ei2 h1 ⟨_,am,pH g3⟩) e3
 ·exact p.elim
end
end Q
namespace Pre
open PySem L2
noncomputable def top (i:Nat):Stmt:=PySem.Challenge.pw_cheaptree_k32_nets_changed.main.body.getD i (.Pass ⟨0,0,0,0⟩)
noncomputable abbrev jE:Stmt:=top 8
noncomputable abbrev ie:Stmt:=top 9
noncomputable abbrev fY:Stmt:=top 10
noncomputable abbrev f7:Stmt:=top 11
noncomputable abbrev sIsTie:Stmt:=top 12
noncomputable abbrev ii:Stmt:=top 13
noncomputable abbrev sIsNet:Stmt:=top 14
noncomputable abbrev eM:Stmt:=top 15
noncomputable abbrev cC:Stmt:=top 17
noncomputable abbrev jF:Stmt:=top 18
noncomputable abbrev eN:Stmt:=top 19
noncomputable abbrev du:Stmt:=top 20
noncomputable abbrev fX:Stmt:=top 21
noncomputable abbrev ic:Stmt:=top 22
noncomputable abbrev fW:Stmt:=top 23
noncomputable abbrev ig:Stmt:=top 25
noncomputable abbrev sBegin:Stmt:=top 27
noncomputable abbrev sNext:Stmt:=top 28
noncomputable abbrev sWords:Stmt:=top 29
noncomputable abbrev sCost:Stmt:=top 30
noncomputable abbrev sEnds:Stmt:=top 31
noncomputable abbrev sNet:Stmt:=top 32
noncomputable abbrev sOf:Stmt:=top 33
noncomputable abbrev sFresh:Stmt:=top 34
noncomputable abbrev jD:Stmt:=top 35
noncomputable abbrev sDeed:Stmt:=top 36
noncomputable abbrev fZ:Stmt:=top 37
noncomputable abbrev sSame:Stmt:=top 38
noncomputable abbrev sLaw:Stmt:=top 39
structure Named (K:PySem.W.Frag) (mg:Str->Option Value) (x:Str) (f:Addr):Prop where
 mg:mg x=some (.ref f)
 kp:PySem.W.keepIn K (.ref f)=true
structure Df (K:PySem.W.Frag) (mg:Str->Option Value) (name:Str) (st:Stmt) (ps:List Str) where
 f:Addr
 fd:FuncData
 F:Fun K name name st f fd
 b:Binds K fd ps []
 n:Named K mg name f
structure TabAt (K:PySem.W.Frag) (mg:Str->Option Value) (x:Str) (D:List (Str×Addr)) where
 a:Addr
 mg:mg x=some (.ref a)
 tab:∀ h:Heap,K.In h->FnTab h a D
section
set_option genInjectivity false
set_option genSizeOf false
structure Ev (K:PySem.W.Frag) (mg:Str->Option Value) where
 fIsWord:Df K mg "is_word" jE ["thing"]
 fIsWhole:Df K mg "is_whole" ie ["thing"]
 fIsRising:Df K mg "is_rising" fY ["words"]
 fAreWords:Df K mg "are_words" f7 ["thing"]
 fIsTie:Df K mg "is_tie" sIsTie ["thing"]
 fAreTies:Df K mg "are_ties" ii ["thing"]
 fIsNet:Df K mg "is_net" sIsNet ["thing"]
 fTiesByName:Df K mg "ties_by_name" eM ["net"]
 fAreEndsAndCost:Df K mg "are_ends_and_cost" cC ["parts"]
 fIsDeed:Df K mg "is_deed" jF ["thing"]
 fPlaceComes:Df K mg "place_comes" eN ["net", "deed"]
 fPlaceLeaves:Df K mg "place_leaves" du ["net", "deed"]
 fTieComes:Df K mg "tie_comes" fX ["net", "deed"]
 fTieGoes:Df K mg "tie_goes" ic ["net", "deed"]
 fTieCosts:Df K mg "tie_costs" fW ["net", "deed"]
 fChanged:Df K mg "changed" ig ["net", "deed"]
 fBegin:Df K mg "_law_begin" sBegin ["_law_script"]
 fNext:Df K mg "_law_next" sNext ["_law_state", "_law_many"]
 fWords:Df K mg "_law_words" sWords ["_law_state", "_law_many"]
 fCost:Df K mg "_law_cost" sCost ["_law_state", "_law_which"]
 fEnds:Df K mg "_law_ends" sEnds ["_law_state", "_law_family", "_law_many", "_law_k"]
 fNet:Df K mg "_law_net" sNet ["_law_state", "_law_most", "_law_ties_most"]
 fOf:Df K mg "_law_of" sOf ["_law_state", "_law_some"]
 fFresh:Df K mg "_law_fresh" sFresh ["_law_state", "_law_taken"]
 fNewTie:Df K mg "_law_new_tie" jD ["_law_state", "_law_net_here", "_law_far"]
 fDeed:Df K mg "_law_deed" sDeed ["_law_state", "_law_net_here"]
 fChangedL:Df K mg "_law_changed" fZ ["_law_net_here", "_law_deed_here"]
 fSame:Df K mg "_law_same" sSame ["_law_found", "_law_due"]
 fLaw:Df K mg "law" sLaw ["_law_script"]
 t_DEEDS:TabAt K mg "DEEDS" [("place",fPlaceComes.f),("leave",fPlaceLeaves.f),("tie",fTieComes.f),("untie",fTieGoes.f),("cost",fTieCosts.f)]
 b_ValueError:mg "ValueError" = none
 b_abs:mg "abs" = none
 b_all:mg "all" = none
 b_bool:mg "bool" = none
 b_dict:mg "dict" = none
 b_int:mg "int" = none
 b_isinstance:mg "isinstance" = none
 b_len:mg "len" = none
 b_list:mg "list" = none
 b_max:mg "max" = none
 b_min:mg "min" = none
 b_range:mg "range" = none
 b_set:mg "set" = none
 b_sorted:mg "sorted" = none
 b_str:mg "str" = none
 b_tuple:mg "tuple" = none
 b_zip:mg "zip" = none
 c_LONGEST_WORD:∃ t,mg "LONGEST_WORD" = some (.int 8 t)
end
end Pre
namespace Pre
open PySem L2
theorem uj {K:PySem.W.Frag} {a l:Addr} {xs:List V} {js:List (Option Nat)} {σ:St} {H:Hp} {QQ:Hp->Prop} {g:TG} {tc:TT} {te:TE} (Pv:Nat->List V->Hp->Prop) (h0:Pv 0 [] H) (hl:∀ i ys H,i<=xs.length->Pv i ys H->SqL K H a xs)
  (hs:∀ i x ys H (N:List V->Hp->Prop),xs[i]?=some x->Pv i ys H->(∀ ys' H',Pv (i+1) ys' H'->N ys' H')->g x (capS js σ) H fun σ4 H4=>tc σ4 H4 fun b H5=>if b=true then te σ4 H5 fun y H6=>H6 l=some (.lst ys)/\ys.length<sizeLine/\N (ys++[y]) (upd H6 l (.lst (ys++[y]))) else N ys H5)
  (hd:∀ ys H,Pv xs.length ys H->QQ H) :
  ∃ W:Nat->Nat->List V->Hp->Prop,(∃ m,W 0 m [] H)/\∀ i m ys H2,W i m ys H2 ->
  ((Itl K a).stop i H2/\QQ H2)\/((Itl K a).go i H2/\∀ x H3,(Itl K a).yld i H2 x H3->g x (capS js σ) H3 fun σ4 H4=>tc σ4 H4 fun b H5 =>
   if b=true then te σ4 H5 fun y H6=>H6 l=some (.lst ys)/\ys.length<sizeLine/\∃ m',m'<m/\W (i+1) m' (ys++[y]) (upd H6 l (.lst (ys++[y]))) else ∃ m',m'<m/\W (i+1) m' ys H5):=by
 refine ⟨fun i m ys H=>m=xs.length - i/\i<=xs.length/\Pv i ys H,⟨xs.length,by simp,Nat.zero_le _,h0⟩,?_⟩
 rintro i m ys H2 ⟨rfl,hi,p⟩
 have q:=hl i ys H2 hi p
 by_cases hlt:i<xs.length
 ·refine .inr ⟨⟨xs,xs[i],q,by simp [hlt]⟩,fun x H3 y=>?_⟩
  obtain ⟨e,y⟩:=y
  subst e
  exact hs i x ys _ (fun ys' H'=>∃ m',m'<xs.length - i/\m'=xs.length - (i+1)/\i+1<=xs.length/\Pv (i+1) ys' H') (y xs q) p fun ys' H' h=>⟨_,by omega,rfl,hlt,h⟩
 ·have e:i=xs.length:=by omega
  subst e
  exact .inl ⟨⟨xs,q,Nat.le_refl _⟩,hd ys _ p⟩
theorem ue:(["_law_cell"]:List Str).Nodup:=by decide +kernel
section
variable {P:Program} {w:World} {K:PySem.W.Frag} {mg:Str->Option Value} {base:Heap}
theorem sq {H:Hp} {a:Addr} {xs:List V} (h:H a=some (.lst xs)):SqL K H a xs:=.inl (.inl h)
theorem scNext:aD ["_law_state", "_law_many", "_law_digit"] ["_law_state", "_law_many"] (av sNext):=⟨rfl,rfl,rfl,by decide +kernel,rfl,by decide +kernel,by decide +kernel⟩
theorem t9 {f:Addr} {fd:FuncData} (F:Fun K "_law_next" "_law_next" sNext f fd):FnOk P w K mg base CX0 1 f fd ["_law_state", "_law_many"] spNext:=by
 refine F.ok scNext (fun vs H Q E h=>?_) (fun cdv A outer s H vs Q E hr h=>?_)
 ·obtain ⟨a,b,m,rfl,_⟩:=h
  rfl
 ·obtain ⟨a,b,m,rfl,S,m0,m1,k⟩:=h
  have hu:=hr.units0
  refine ⟨_,bM (rF PassesOwn.never (PW.pt (pw_and (eZ (ir hu) (bN ix_list (pv 0) aK (fun _ _=>rfl)) (ja bI) (nomark _)) (pw_and1 (eZ wL (bN ix_list (bN ix_list (pv 0) aK (fun _ _=>rfl)) aK (fun _ _=>rfl)) aK (nomark _)))))
    (cI (nH (sT PySem.F.plainAttrs_list PySem.F.slot_list_pop PySem.F.type_list_pop r9 (bN ix_list (pv 0) aK (fun _ _=>rfl)) (bn aK bI)))))
   (bM (sQ (eZ (ir hu) (bN ix_list (pv 0) aK (fun _ _=>rfl)) (ja bI) (nomark _))
    (bM (dy (i:=2) scNext.nd rfl (Or.inl rfl) (bw dB (bN ix_list (bN ix_list (pv 0) aK (fun _ _=>rfl)) aK (fun _ _=>rfl)) (pv 1)))
    (bM (i9 (bw jO (bN ix_list (bN ix_list (pv 0) aK (fun _ _=>rfl)) aK (fun _ _=>rfl)) (pv 1)) (lW (bN ix_list (pv 0) aK (fun _ _=>rfl)) aK ia))
    (cI (ga (pv 2)))))
    nG)
   (bM (i9 (bw dB (bw gc (bw je (bN ix_list (pv 0) aK (fun _ _=>rfl)) aK) aK) aK) (lW (pv 0) aK ia))
   (cI (ga (bw dB (bw jO (bw dB (bw je (bN ix_list (pv 0) aK (fun _ _=>rfl)) (bN ix_list (pv 0) aK (fun _ _=>rfl))) aK) aK) (pv 1)))))),?_⟩
  refine ⟨fun n σ' H'=>σ'=[some (.ref a),some (.int m),none]/\But a b H H'/\∃ (ns:List Int) (z:Int),H' a=some (.lst [.ref b,.int z])/\H' b=some (.lst (ns.map V.int))/\(∀ n∈ns,0<=n)/\0<=z/\z<2305843009213693951/\ns.length=n,?_,?_⟩
  ·obtain ⟨ns,z,h1,h2,h3,h4,h5⟩:=S.st
   exact ⟨_,rfl,But.refl a b H,ns,z,h1,h2,h3,h4,h5,rfl⟩
  rintro n σ' H' ⟨rfl,hB,ns,z,ha,hb,hn,z0,z1,hl⟩
  have S':Sta H' a b:=⟨ns,z,ha,hb,hn,z0,z1⟩
  have behind:∀ (H1:Hp),But a b H H1->Sta H1 a b->tSeq (tIfS (tTest (tOp (rNeNil K) (tOp (rIxL K) (tVar 0) (tC (.int 0))) (tLst tNil))) (tSeq (tAsg (tOp (rI (fun _ j=>0<j) fun i j=>.int (i % j)) (tOp (rIxL K) (tOp (rIxL K) (tVar 0) (tC (.int 0))) (tC (.int 0))) (tVar 1)) (gName 2))
    (tSeq (tAsg (tOp (rI CDiv fun i j=>.int (i / j)) (tOp (rIxL K) (tOp (rIxL K) (tVar 0) (tC (.int 0))) (tC (.int 0))) (tVar 1)) (gSub (tOp (rIxL K) (tVar 0) (tC (.int 0))) (tC (.int 0)) rSetL)) (tRet (tVar 2)))) tNext)
    (tSeq (tAsg (tOp (rI (fun _ j=>0<j) fun i j=>.int (i % j)) (tOp (rI0 fun i j=>.int (i+j)) (tOp (rI CMul fun i j=>.int (i*j)) (tOp (rIxL K) (tVar 0) (tC (.int 1))) (tC (.int 6364136223846793))) (tC (.int 1442695040888963))) (tC (.int 2305843009213693951))) (gSub (tVar 0) (tC (.int 1)) rSetL))
     (tRet (tOp (rI (fun _ j=>0<j) fun i j=>.int (i % j)) (tOp (rI CDiv fun i j=>.int (i / j)) (tOp (rI (fun _ j=>0<j) fun i j=>.int (i % j)) (tOp (rI CMul fun i j=>.int (i*j)) (tOp (rIxL K) (tVar 0) (tC (.int 1))) (tOp (rIxL K) (tVar 0) (tC (.int 1)))) (tC (.int 2305843009213693921))) (tC (.int 65537))) (tVar 1))))
    { nx:=fun _ H'=>Q .non H',rt:=Q } [some (.ref a),some (.int m),none] H1:=by
   intro H1 hB1 S1
   have hne:=S1.ne
   obtain ⟨ns,z,ha,hb,hn,z0,z1⟩:=S1.st
   refine ⟨_,rfl,a,_,_,_,rfl,rfl,sq ha,ai (j:=0) rfl,Nat.zero_le _,fun p hp=>?_⟩
   have ha':∀ o,(upd H1 p o) a=some (.lst [.ref b,.int z]):=fun o=>by rw [aq (aF ha hp)]; exact ha
   have hb':∀ o,(upd H1 p o) b=some (.lst (ns.map V.int)):=fun o=>by rw [aq (aF hb hp)]; exact hb
   have S2:=S1.grow (o:=.lst []) hp
   have B2:=hB1.grow (o:=.lst []) hp
   refine ⟨b,p,_,rfl,rfl,sq (hb' _),sq am,_,rfl,?_⟩
   cases ns with
   | nil =>
    refine iteF ?_
    refine ⟨_,rfl,a,_,_,_,rfl,rfl,sq (ha' _),ai (j:=1) rfl,_,_,rfl,rfl,.inr ⟨by decide,by decide⟩,_,_,rfl,rfl,_,_,rfl,rfl,(by show (0:Int)<_; decide),_,rfl,a,_,_,1,rfl,rfl,ha' _,rfl,?_⟩
    have z2:0<=(z*6364136223846793+1442695040888963) % 2305843009213693951:=Int.emod_nonneg _ (by decide)
    have z3:(z*6364136223846793+1442695040888963) % 2305843009213693951<2305843009213693951:=Int.emod_lt_of_pos _ (by decide)
    have S3:=S2.seta z2 z3
    have B3:But a b H (upd (upd H1 p (.lst [])) a (.lst [.ref b,.int ((z*6364136223846793+1442695040888963) % 2305843009213693951)])):=B2.seta
    refine ⟨_,rfl,a,_,_,_,rfl,rfl,sq am,ai (j:=1) rfl,_,rfl,a,_,_,_,rfl,rfl,sq am,ai (j:=1) rfl,_,_,rfl,rfl,.inl ⟨by omega,by omega⟩,_,_,rfl,rfl,(by show (0:Int)<_; decide),_,_,rfl,rfl,⟨by decide,by decide⟩,_,rfl,_,_,rfl,rfl,m0,?_⟩
    exact k _ _ (Int.emod_nonneg _ (by omega)) (Int.emod_lt_of_pos _ m0) S3 B3
   | cons x r =>
    refine iteT ?_
    have x0:0<=x:=hn x List.mem_cons_self
    refine ⟨_,rfl,a,_,_,_,rfl,rfl,sq (ha' _),ai (j:=0) rfl,b,_,_,_,rfl,rfl,sq (hb' _),ai (j:=0) rfl,_,rfl,_,_,rfl,rfl,m0,?_⟩
    refine ⟨_,rfl,a,_,_,_,rfl,rfl,sq (ha' _),ai (j:=0) rfl,b,_,_,_,rfl,rfl,sq (hb' _),ai (j:=0) rfl,_,rfl,_,_,rfl,rfl,⟨m0,m1⟩,_,rfl,a,_,_,_,rfl,rfl,sq (ha' _),ai (j:=0) rfl,b,_,_,0,rfl,rfl,hb' _,(by simp [ixN]),_,rfl,?_⟩
    refine k _ _ (Int.emod_nonneg _ (by omega)) (Int.emod_lt_of_pos _ m0) (S2.setb (ns:=x / m::r) fun n hm=>?_) B2.setb
    rcases List.mem_cons.mp hm with rfl | hm
    ·exact Int.ediv_nonneg x0 (by omega)
    ·exact hn n (List.mem_cons_of_mem _ hm)
  refine ⟨_,rfl,a,_,_,_,rfl,rfl,sq ha,ai (j:=0) rfl,Nat.zero_le _,fun p hp=>?_⟩
  have ha':∀ o,(upd H' p o) a=some (.lst [.ref b,.int z]):=fun o=>by rw [aq (aF ha hp)]; exact ha
  have hb':∀ o,(upd H' p o) b=some (.lst (ns.map V.int)):=fun o=>by rw [aq (aF hb hp)]; exact hb
  have S2:=S'.grow (o:=.lst []) hp
  have B2:=hB.grow (o:=.lst []) hp
  refine ⟨b,p,_,rfl,rfl,sq (hb' _),sq am,_,rfl,?_⟩
  cases ns with
  | nil =>
   refine iteF (iteF ?_)
   exact behind _ B2 S2
  | cons x r =>
   refine iteT ?_
   refine ⟨_,rfl,a,_,_,_,rfl,rfl,sq (ha' _),ai (j:=0) rfl,b,_,_,_,rfl,rfl,sq (hb' _),ai (j:=0) rfl,rfl,_,rfl,?_⟩
   refine ite2 (fun _=>?_) (fun _=>behind _ B2 S2)
   refine ⟨fun σ' H''=>σ'=[some (.ref a),some (.int m),none]/\But a b H H''/\H'' a=some (.lst [.ref b,.int z])/\H'' b=some (.lst (r.map V.int)),fun σ' H'' h=>⟨r.length,by rw [<- hl,List.length_cons]; exact Nat.lt_succ_self _,h.1,h.2.1,r,z,h.2.2.1,h.2.2.2,fun n hm=>hn n (List.mem_cons_of_mem _ hm),z0,z1,rfl⟩,?_⟩
   refine ⟨_,rfl,a,_,_,_,rfl,rfl,sq (ha' _),ai (j:=0) rfl,.inl ⟨rfl,_,SqL.of (hb' _)⟩,b,_,0,0,_,rfl,rfl,hb' _,by decide,by decide,?_,rfl,rfl,B2.setb,by rw [aq S'.ne]; exact ha' _,am⟩
   simp [seqIndex?]
structure Bt (mg:Str->Option Value):Prop where
 len:mg "len" = none
 abs:mg "abs" = none
 range:mg "range" = none
 max:mg "max" = none
 sorted:mg "sorted" = none
 tuple:mg "tuple" = none
theorem scBegin:aD ["_law_script", "_law_seed", "_law_cell"] ["_law_script"] (av sBegin):=⟨rfl,rfl,rfl,by decide +kernel,rfl,by decide +kernel,by decide +kernel⟩
theorem rV {f:Addr} {fd:FuncData} (F:Fun K "_law_begin" "_law_begin" sBegin f fd) (B:Bt mg):FnOk P w K mg base CX0 1 f fd ["_law_script"] (gF K):=by
 refine F.ok scBegin (fun vs H Q E h=>?_) (fun cdv A outer s H vs Q E hr h=>?_)
 ·obtain ⟨a,ns,rfl,_⟩:=h
  rfl
 ·obtain ⟨a,ns,rfl,hS,hlen,k⟩:=h
  refine ⟨_,bM (dy (i:=1) scBegin.nd rfl (Or.inl rfl) (bw gc (bu gv (by rfl) B.len PySem.boot_len (bn (pv 0) bI)) aK))
   (bM (pL PassesOwn.never rfl (nI (io jA (pv 0) jK (jJ aK))) (aN (i:=2) scBegin.nd rfl (Or.inl rfl))
    (cI (dy (i:=1) scBegin.nd rfl (Or.inl rfl) (bw dB (bw gc (bw gc (bw je (pv 1) aK) (bw dB (pv 2) (bw ma aK aK))) aK) aK))))
   (cI (ga (ja (bn (sR (N:=["_law_cell"]) (js:=[none]) (nI (io jA (pv 0) jK (jJ aK))) (fun _ _ _ _ _=>aN (i:=0) ue rfl (Or.inl rfl))
    (fun _ _ _ _ _=>pP (eZ wK (bu mR (by rfl) B.abs PyProof.Rows.boot_abs (bn (pv 0) bI)) (bw ma aK aK) (nomark _)))
    (fun _ _ _ _ _=>bu mR (by rfl) B.abs PyProof.Rows.boot_abs (bn (pv 0) bI)) j7) (bn (pv 1) bI)))))),?_⟩
  refine ⟨_,rfl,a,_,rfl,.inl hS,_,_,rfl,rfl,?_⟩
  have cut:∀ (H':Hp),Same H H'->cutV (ns.map V.int) none (some 63)=ns.map V.int:=fun _ _=>by
   unfold cutV
   rw [HT.sIx_none]
   have e:HT.sIx (ns.map V.int).length (ns.map V.int).length (some 63)=(ns.map V.int).length:=by
    have:=HT.sIx_nat (ns.map V.int).length (ns.map V.int).length 63
    refine this.trans ?_
    rw [List.length_map]; omega
   rw [e,Nat.sub_zero,List.drop_zero,List.take_length]
  have grow:∀ {H':Hp} {p:Addr} {o:HO},Same H H'->H' p=none->Same H (upd H' p o):=fun {H' p o} hs hp c u h=>by
   have q:=hs c u h
   rw [aq (aF q hp)]; exact q
  refine ⟨_,rfl,63,rfl,a,_,rfl,hS,fun p hp=>?_⟩
  rw [cut H (Same.refl H)]
  have hp1:SqL K (upd H p (.lst (ns.map V.int))) p (ns.map V.int):=sq am
  refine ⟨p,rfl,⟨_,hp1⟩,su (K:=K) (a:=p) (xs:=ns.map V.int) (fun i σ H2=>∃ (z:Int) (v:Option V),σ=[some (.ref a),some (.int z),v]/\H2=upd H p (.lst (ns.map V.int))/\0<=z/\z<2305843009213693951)
   ⟨_,none,rfl,rfl,by show (0:Int)<=((ns.map V.int).length:Nat)+3; omega,by show ((ns.map V.int).length:Nat)+(3:Int)<_; rw [List.length_map]; omega⟩ (fun i σ H2 _ ⟨_,_,_,e,_⟩=>by rw [e]; exact hp1) ?_ ?_⟩
  ·rintro i y σ H2 hi ⟨z,v,rfl,rfl,z0,z1⟩
   obtain ⟨c,rfl⟩:∃ c,y=V.int c:=by
    rw [List.getElem?_map] at hi
    cases e:ns[i]? with
    | none=>rw [e] at hi; cases hi
    | some c=>rw [e] at hi; exact ⟨c,(Option.some.inj hi).symm⟩
   refine ⟨_,rfl,_,_,rfl,rfl,.inr ⟨by decide,by decide⟩,_,rfl,_,_,rfl,rfl,⟨by decide,by decide,by decide⟩,_,_,rfl,rfl,(by show (0:Int)<10 ^ 30; decide),_,_,rfl,rfl,_,_,rfl,rfl,_,_,rfl,rfl,(by show (0:Int)<_; decide),?_⟩
   exact ⟨_,_,rfl,rfl,Int.emod_nonneg _ (by decide),Int.emod_lt_of_pos _ (by decide)⟩
  ·rintro σ H2 ⟨z,v,rfl,rfl,z0,z1⟩
   have hs1:Same H (upd H p (.lst (ns.map V.int))):=grow (Same.refl H) hp
   refine ⟨_,rfl,63,rfl,a,_,rfl,hs1.seq hS,fun p2 hp2=>?_⟩
   rw [cut H (Same.refl H)]
   have hs2:Same H (upd (upd H p (.lst (ns.map V.int))) p2 (.lst (ns.map V.int))):=grow hs1 hp2
   refine ⟨p2,rfl,⟨_,sq am⟩,fun l hl=>?_⟩
   generalize hH3:upd (upd H p (.lst (ns.map V.int))) p2 (.lst (ns.map V.int))=H3 at hs2 hl ⊢
   have hp2':H3 p2=some (.lst (ns.map V.int)):=by rw [<- hH3]; exact am
   refine uj (K:=K) (a:=p2) (l:=l) (xs:=ns.map V.int) (fun i ys H4=>∃ ms:List Int,ys=ms.map V.int/\(∀ n∈ms,0<=n)/\ms.length<=i/\H4=upd H3 l (.lst ys))
    ⟨[],rfl,(fun _ h=>nomatch h),Nat.le_refl _,rfl⟩ (fun i ys H4 _ ⟨_,_,_,_,e⟩=>by rw [e]; exact sq (by rw [aq (aF hp2' hl)]; exact hp2')) ?_ ?_
   ·rintro i x ys H4 N hi ⟨ms,rfl,hm,hml,rfl⟩ hN
    obtain ⟨c,rfl⟩:∃ c,x=V.int c:=by
     rw [List.getElem?_map] at hi
     cases e:ns[i]? with
     | none=>rw [e] at hi; cases hi
     | some c=>rw [e] at hi; exact ⟨c,(Option.some.inj hi).symm⟩
    have hil:i<(ns.map V.int).length:=(List.getElem?_eq_some_iff.mp hi).1
    rw [List.length_map] at hil
    refine ⟨_,rfl,_,rfl,_,_,rfl,rfl,⟨by decide,by decide,by decide⟩,_,_,rfl,rfl,_,rfl,?_⟩
    refine ite2 (fun _=>?_) (fun _=>hN _ _ ⟨ms,rfl,hm,by omega,rfl⟩)
    refine ⟨_,rfl,c,rfl,am,by rw [List.length_map,sizeLine_eq]; omega,hN _ _ ⟨ms++[if c<0 then -c else c],by simp,fun n hn=>?_,by rw [List.length_append,List.length_singleton]; omega,by rw [tq]⟩⟩
    rcases List.mem_append.mp hn with q | q
    ·exact hm n q
    ·have:n=if c<0 then -c else c:=by simpa using q
     rw [this]; split <;> omega
   ·rintro ys H4 ⟨ms,rfl,hm,hml,rfl⟩
    refine ⟨_,rfl,(by show 2<=sizeLine; decide),fun q hq=>?_⟩
    have hlq:l≠q:=fun e=>by rw [e,am] at hq; cases hq
    refine k q l _ ((grow hs2 hl).free hq) (hs2.free hl) ⟨ms,z,am,by rw [aq hlq,am],hm,z0,z1⟩ (grow (grow hs2 hl) hq)
end
end Pre
namespace Pre
open PySem L2 Q
structure IsWord (x:Str):Prop where
 lo:1<=x.cps.toList.length
 hi:x.cps.toList.length<=8
 ok:∀ c∈x.cps.toList,97<=c/\c<=122
noncomputable def ch (i:Nat):Str:=⟨#[97+i]⟩
noncomputable def wl (b s t f n k:Nat):List Nat:=if n<8/\s=6 then List.replicate (k+1) (97+b) else (List.replicate t (97+b)++[97+(f+5*k) % 26,97+(f+k / 26) % 26])++List.replicate (s - t) (97+b)
noncomputable def wd (b s t f n k:Nat):Str:=⟨(wl b s t f n k).toArray⟩
theorem s0 {b s t f n k:Nat} (hb:b<26) (hs:s<7) (ht:t<=s) (hk:k<n):IsWord (wd b s t f n k):=by
 have e:(wd b s t f n k).cps.toList=wl b s t f n k:=by simp [wd]
 refine ⟨?_,?_,?_⟩
 ·rw [e]; unfold wl; split
  ·simp
  ·simp; omega
 ·rw [e]; unfold wl; split
  ·simp; omega
  ·simp; omega
 ·rw [e]; unfold wl
  intro c hc
  split at hc
  ·have:=List.eq_of_mem_replicate hc
   omega
  ·rcases List.mem_append.mp hc with h | h
   ·rcases List.mem_append.mp h with h | h
    ·have:=List.eq_of_mem_replicate h; omega
    ·simp only [List.mem_cons,List.not_mem_nil,or_false] at h
     have:=Nat.mod_lt (f+5*k) (show 0<26 by decide)
     have:=Nat.mod_lt (f+k / 26) (show 0<26 by decide)
     omega
   ·have:=List.eq_of_mem_replicate h; omega
theorem nN (f a b:Nat) (h:(f+a) % 26=(f+b) % 26):a % 26=b % 26:=by omega
theorem uT:∀ k:Nat,k<60->∀ k':Nat,k'<60->(5*k) % 26=(5*k') % 26->(k / 26) % 26=(k' / 26) % 26->k=k':=by decide +kernel
theorem uS {b s t f n k k':Nat} (hk:k<60) (hk':k'<60) (h:wd b s t f n k=wd b s t f n k'):k=k':=by
 have e:wl b s t f n k=wl b s t f n k':=by
  have:=congrArg (fun x:Str=>x.cps.toList) h
  simpa [wd] using this
 unfold wl at e
 split at e
 ·have:=congrArg List.length e
  rw [List.length_replicate,List.length_replicate] at this
  exact Nat.succ.inj this
 ·have e1:=List.append_cancel_right e
  have e2:=List.append_cancel_left e1
  simp only [List.cons.injEq,and_true] at e2
  exact uT k hk k' hk' (nN f _ _ (Nat.add_left_cancel e2.1)) (nN f _ _ (Nat.add_left_cancel e2.2))
noncomputable def wds (b s t f n:Nat) (m:Nat):List Str:=(List.range m).map (wd b s t f n)
theorem o7 {b s t f n m:Nat} (hm:m<=60):(wds b s t f n m).Nodup:=by
 unfold wds
 rw [List.nodup_iff_pairwise_ne,List.pairwise_map]
 have:=(List.nodup_iff_pairwise_ne.mp (List.nodup_range (n:=m)))
 refine List.Pairwise.imp_of_mem (fun {x y} hx hy hne e=>?_) this
 exact hne (uS (by have:=List.mem_range.mp hx; omega) (by have:=List.mem_range.mp hy; omega) e)
theorem qZ {b s t f n:Nat} (hb:b<26) (hs:s<7) (ht:t<=s):∀ x∈wds b s t f n n,IsWord x:=fun x hx=>by
 obtain ⟨k,hk,rfl⟩:=List.mem_map.mp hx
 exact s0 hb hs ht (List.mem_range.mp hk)
theorem rd (b s t f n m:Nat):wds b s t f n (m+1)=wds b s t f n m++[wd b s t f n m]:=by
 unfold wds
 rw [List.range_succ,List.map_append]; rfl
theorem jv {x y:Str} (h:x.cps.toList=y.cps.toList):x=y:=by
 obtain ⟨x⟩:=x
 obtain ⟨y⟩:=y
 exact congrArg Str.mk (Array.toList_inj.mp h)
theorem i6 (b m:Nat):(repS (ch b) m).cps.toList=List.replicate m (97+b):=by
 unfold repS ch
 induction m with
 | zero=>rfl
 | succ m ih =>
  simp only [List.replicate_succ,List.flatten_cons] at ih ⊢
  simpa using ih
theorem fM (x y:Str):(x++y).cps.toList=x.cps.toList++y.cps.toList:=by
 show (x.cps++y.cps).toList=_
 simp
noncomputable def abc:Str := "abcdefghijklmnopqrstuvwxyz"
theorem wC:∀ i:Nat,i<26->abc.cps.toList[i]?=some (97+i):=by decide +kernel
structure Tie where
 nm:Str
 one:Str
 oth:Str
 cost:Int
noncomputable def t0:Tie:=⟨⟨#[]⟩,⟨#[]⟩,⟨#[]⟩,0⟩
structure TieOk (t:Tie):Prop where
 nm:IsWord t.nm
 one:IsWord t.one
 oth:IsWord t.oth
 lt:ltS t.one t.oth
 lo : -(10 ^ 30)<t.cost
 hi:t.cost<10 ^ 30
structure NetOk (ps:List Str) (ts:List Tie):Prop where
 rise:ps.Pairwise ltS
 word:∀ x∈ps,IsWord x
 names:(ts.map Tie.nm).Pairwise ltS
 tie:∀ t∈ts,TieOk t
theorem mr {x y:Str} (h1:¬ ltS y x) (h2:x≠y):ltS x y:=by
 unfold ltS at *
 rcases List.le_iff_lt_or_eq.mp (List.not_lt.mp h1) with z | z
 ·exact z
 ·exact absurd (jv z) h2
theorem uY {x y:Str} {l:List Str} (hp:l.Perm [x,y]) (hs:l.Pairwise fun a b=>¬ ltS b a) (hn:x≠y):∃ u v,l=[u,v]/\ltS u v/\(u=x\/u=y)/\(v=x\/v=y):=by
 have hl:=hp.length_eq
 match l,hl with
 | [u,v],_ =>
  have hu:u=x\/u=y:=by simpa using hp.mem_iff.mp (show u∈[u,v] by simp)
  have hv:v=x\/v=y:=by simpa using hp.mem_iff.mp (show v∈[u,v] by simp)
  have nd:[u,v].Nodup:=hp.nodup_iff.mpr (by simp [hn])
  have hne:u≠v:=by simpa using nd
  refine ⟨u,v,rfl,mr ?_ hne,hu,hv⟩
  have:=List.rel_of_pairwise_cons hs (show v∈[v] by simp)
  exact this
theorem gG {l:List Str} (hs:l.Pairwise fun a b=>¬ ltS b a) (hn:l.Nodup):l.Pairwise ltS:=by
 have:=List.nodup_iff_pairwise_ne.mp hn
 exact (hs.and this).imp fun ⟨h1,h2⟩=>mr h1 h2
noncomputable def tiePV (t:Tie):PV:=.tup [.str t.nm,.str t.one,.str t.oth,.int t.cost]
noncomputable def netPV (ps:List Str) (ts:List Tie):PV:=.tup [.tup (ps.map .str),.tup (ts.map tiePV)]
noncomputable def cw:FdO:=fun c xs P=>c=.non/\∃ n:Nat,xs=[.int n]/\n<=60/\∀ ws:List Str,ws.length=n->ws.Nodup->(∀ x∈ws,IsWord x)->P (.lst (ws.map .str)) .non
noncomputable def dS:FdO:=fun c xs P=>c=.non/\∃ q:Int,xs=[.int q]/\∀ c:Int,-(10 ^ 30)<c->c<10 ^ 30->P (.int c) .non
noncomputable def ky:FdO:=fun c xs P=>c=.non/\∃ M T:Int,xs=[.int M,.int T]/\0<=M/\M<=40/\0<=T/\T<=50/\∀ (ps:List Str) (ts:List Tie),NetOk ps ts->(ps.length:Int)<=M->(ts.length:Int)<=T->P (netPV ps ts) .non
noncomputable def iP:FdO:=fun c xs P=>c=.non/\∃ f m k:Int,xs=[.int f,.int m,.int k]/\2<=m/\m<=100/\∀ i j:Int,0<=i->i<m->0<=j->j<m->i≠j->P (.tup [.int i,.int j]) .non
section
variable {P:Program} {w:World} {K:PySem.W.Frag} {mg:Str->Option Value} {base:Heap}
theorem vB (Y:Ev K mg):Bt mg:=⟨Y.b_len,Y.b_abs,Y.b_range,Y.b_max,Y.b_sorted,Y.b_tuple⟩
theorem aE (Y:Ev K mg):FnOk P w K mg base CX0 1 Y.fNext.f Y.fNext.fd ["_law_state", "_law_many"] (spO ⟨P,w,K,obG K⟩ 2 aB):=rY (t9 Y.fNext.F)
theorem qC (Y:Ev K mg):FnOk P w K mg base CX0 1 Y.fBegin.f Y.fBegin.fd ["_law_script"] (gF K):=rV Y.fBegin.F (vB Y)
end
end Pre
namespace Pre
open PySem L2 Q
noncomputable def okc (c:Nat):Bool:=decide (97<=c) && decide (c<=122)
noncomputable def wordB (x:Str):Bool:=decide (1<=x.length) && decide (x.length<=8) && x.cps.toList.all okc
theorem wordB_iff {x:Str}:wordB x=true↔IsWord x:=by
 unfold wordB okc
 rw [Bool.and_eq_true,Bool.and_eq_true,decide_eq_true_eq,decide_eq_true_eq,List.all_eq_true]
 have e:x.length=x.cps.toList.length:=by simp [Str.length]
 rw [e]
 constructor
 ·rintro ⟨⟨a,b⟩,c⟩
  exact ⟨a,b,fun d hd=>by have:=c d hd; rw [Bool.and_eq_true,decide_eq_true_eq,decide_eq_true_eq] at this; exact this⟩
 ·rintro ⟨a,b,c⟩
  exact ⟨⟨a,b⟩,fun d hd=>by rw [Bool.and_eq_true,decide_eq_true_eq,decide_eq_true_eq]; exact c d hd⟩
noncomputable def risL (ws:List Str):List Bool:=(ws.zip (ws.drop 1)).map fun p=>decide (ltS p.1 p.2)
noncomputable def risB (ws:List Str):Bool:=(risL ws).all id
noncomputable def Plain:PV->Prop
 | .str s=>s.length<=1000
 | .set _=>False
 | .scr _=>False
 | _=>True
noncomputable def PlainT:PV->Prop
 | .tup xs=>xs.length<=1000/\∀ y∈xs,Plain y
 | x=>Plain x
noncomputable def PlainU:PV->Prop
 | .tup xs=>xs.length<=1000/\∀ y∈xs,PlainT y
 | x=>Plain x
noncomputable def PlainN:PV->Prop
 | .tup [a,b]=>PlainT a/\PlainU b
 | .tup _=>True
 | x=>Plain x
noncomputable def wordP:PV->Bool
 | .str x=>wordB x
 | _=>false
noncomputable def wholeP:PV->Bool
 | .int _=>true
 | _=>false
noncomputable def wordsP:PV->Bool
 | .tup xs=>xs.all wordP && risB (xs.filterMap strPV)
 | _=>false
noncomputable def ltP:PV->PV->Bool
 | .str x,.str y=>decide (ltS x y)
 | _,_=>false
noncomputable def tieP:PV->Bool
 | .tup [a,b,c,d]=>wordP a && (wordP b && (wordP c && (ltP b c && wholeP d)))
 | _=>false
noncomputable def nameP:PV->Option Str
 | .tup (.str a::_)=>some a
 | _=>none
noncomputable def tiesP:PV->Bool
 | .tup xs=>xs.all tieP && risB (xs.filterMap nameP)
 | _=>false
noncomputable def netP:PV->Bool
 | .tup [a,b]=>wordsP a && tiesP b
 | _=>false
noncomputable def aY:Fd:=fun xs P=>∃ x,xs=[x]/\Plain x/\P (.bl (wordP x))
noncomputable def bX:Fd:=fun xs P=>∃ x,xs=[x]/\Plain x/\P (.bl (wholeP x))
noncomputable def ck:Fd:=fun xs P=>∃ ws:List Str,(xs=[.tup (ws.map .str)]\/xs=[.lst (ws.map .str)])/\ws.length<=1000/\P (.bl (risB ws))
noncomputable def de:Fd:=fun xs P=>∃ x,xs=[x]/\PlainT x/\P (.bl (wordsP x))
noncomputable def fN:Fd:=fun xs P=>∃ x,xs=[x]/\PlainT x/\P (.bl (tieP x))
noncomputable def dQ:Fd:=fun xs P=>∃ x,xs=[x]/\PlainU x/\P (.bl (tiesP x))
noncomputable def fO:Fd:=fun xs P=>∃ x,xs=[x]/\PlainN x/\P (.bl (netP x))
end Pre
namespace Pre
open PySem L2 Q
theorem ql {x y:Str} (h:ltS x y):x≠y:=fun e=>by subst e; exact List.lt_irrefl _ h
theorem cm {ps:List Str} {ts:List Tie} (h:NetOk ps ts):(ts.map Tie.nm).Nodup:=List.nodup_iff_pairwise_ne.mpr (h.names.imp fun z=>ql z)
theorem cW {α:Type} [DecidableEq α]:∀ {xs ys:List α},xs.Nodup->(∀ x∈xs,x∈ys)->xs.length<=ys.length
 | [],_,_,_=>Nat.zero_le _
 | x::r,ys,nd,h=>by
  obtain ⟨n1,n2⟩:=List.nodup_cons.mp nd
  have hx:=h x List.mem_cons_self
  have:=cW (xs:=r) (ys:=ys.erase x) n2 fun z hz=>by
   have hzx:z≠x:=fun e=>n1 (by rw [<- e]; exact hz)
   exact (List.mem_erase_of_ne hzx).mpr (h z (List.mem_cons_of_mem _ hz))
  rw [List.length_erase_of_mem hx] at this
  have hp:=List.length_pos_of_mem hx
  rw [List.length_cons]
  omega
theorem gf {x y z:Str} (a:ltS x y) (b:ltS y z):ltS x z:=List.lt_trans a b
theorem jZ (x:Str):¬ ltS x x:=List.lt_irrefl _
theorem jk {x y:Str} (a:ltS x y):¬ ltS y x:=fun b=>jZ x (gf a b)
theorem jY (x y:Str):ltS x y\/x=y\/ltS y x:=by
 by_cases h:ltS y x
 ·exact .inr (.inr h)
 ·by_cases e:x=y
  ·exact .inr (.inl e)
  ·exact .inl (mr h e)
theorem dl {xs:List Str} (h:xs.Pairwise ltS):xs.Nodup:=List.nodup_iff_pairwise_ne.mpr (h.imp fun z=>ql z)
open Classical in
theorem gH:∀ {a b:List Str},a.Perm b->a.Pairwise ltS->b.Pairwise ltS->a=b
 | [],b,p,_,_=>(List.nil_perm.mp p).symm
 | x::a,[],p,_,_=>by have:=p.length_eq; simp at this
 | x::a,y::b,p,ha,hb=>by
  have e:x=y:=Classical.byContradiction fun ne=>by
   rw [List.pairwise_cons] at ha hb
   have h1:x∈b:=by
    rcases List.mem_cons.mp (p.mem_iff.mp List.mem_cons_self) with z | z
    ·exact absurd z ne
    ·exact z
   have h2:y∈a:=by
    rcases List.mem_cons.mp (p.mem_iff.mpr List.mem_cons_self) with z | z
    ·exact absurd z.symm ne
    ·exact z
   exact jZ _ (gf (ha.1 y h2) (hb.1 x h1))
  subst e
  rw [gH (List.perm_cons _ |>.mp p) (List.pairwise_cons.mp ha).2 (List.pairwise_cons.mp hb).2]
theorem lL:∀ {a b:List Tie},a.Perm b->(a.map Tie.nm).Pairwise ltS->(b.map Tie.nm).Pairwise ltS->a=b
 | [],b,p,_,_=>(List.nil_perm.mp p).symm
 | x::a,[],p,_,_=>by have:=p.length_eq; simp at this
 | x::a,y::b,p,ha,hb=>by
  have e:x=y:=Classical.byContradiction fun ne=>by
   rw [List.map_cons,List.pairwise_cons] at ha hb
   have h1:x∈b:=by
    rcases List.mem_cons.mp (p.mem_iff.mp List.mem_cons_self) with z | z
    ·exact absurd z ne
    ·exact z
   have h2:y∈a:=by
    rcases List.mem_cons.mp (p.mem_iff.mpr List.mem_cons_self) with z | z
    ·exact absurd z.symm ne
    ·exact z
   exact jZ _ (gf (ha.1 y.nm (List.mem_map_of_mem h2)) (hb.1 x.nm (List.mem_map_of_mem h1)))
  subst e
  rw [List.map_cons,List.pairwise_cons] at ha hb
  rw [lL (List.perm_cons _ |>.mp p) ha.2 hb.2]
theorem ul {us:List Tie} {ix:List Nat} (hl:ix.length=us.length) (nd:ix.Nodup) (lt:∀ i∈ix,i<us.length):(ix.map fun i=>us.getD i t0).Perm us:=by
 have h1:ix.Perm (List.range us.length):=by
  refine (List.perm_ext_iff_of_nodup nd List.nodup_range).mpr fun i=>?_
  rw [List.mem_range]
  refine ⟨lt i,fun hi=>?_⟩
  have:=cW nd (fun x hx=>List.mem_range.mpr (lt x hx))
  exact Classical.byContradiction fun hn=>by
   have h2:(i::ix).Nodup:=List.nodup_cons.mpr ⟨hn,nd⟩
   have h3:=cW (ys:=List.range us.length) h2 (fun x hx=>by
    rcases List.mem_cons.mp hx with rfl | hx
    ·exact List.mem_range.mpr hi
    ·exact List.mem_range.mpr (lt x hx))
   simp at h3; omega
 have h2:((List.range us.length).map fun i=>us.getD i t0)=us:=by
  apply List.ext_getElem?
  intro i
  rw [List.getElem?_map]
  by_cases hi:i<us.length
  ·rw [List.getElem?_range hi]; simp [hi]
  ·rw [List.getElem?_eq_none (by simpa using hi),List.getElem?_eq_none (by omega)]; rfl
 have h3:=h1.map fun i=>us.getD i t0
 rw [h2] at h3
 exact h3
end Pre
namespace Pre
open PySem L2 Q
inductive Deed where
 | pla (p:Str)
 | lea (p:Str)
 | tie (n a b:Str) (c:Int)
 | unt (n:Str)
 | cos (n:Str) (c:Int)
noncomputable def deedPV:Deed->PV
 | .pla p=>.tup [.str "place",.str p]
 | .lea p=>.tup [.str "leave",.str p]
 | .tie n a b c=>.tup [.str "tie",.str n,.str a,.str b,.int c]
 | .unt n=>.tup [.str "untie",.str n]
 | .cos n c=>.tup [.str "cost",.str n,.int c]
structure NetS (ps:List Str) (ts:List Tie):Prop where
 ok:NetOk ps ts
 pl:ps.length<=60
 tl:ts.length<=60
noncomputable def Bd (n:Int):Prop := -(10 ^ 30)<n/\n<10 ^ 30
noncomputable def DOk (ps:List Str) (ts:List Tie):Deed->Prop
 | .pla p=>IsWord p/\p∉ps
 | .lea p=>p∈ps
 | .tie n a b c=>IsWord n/\IsWord a/\IsWord b/\a≠b/\n∉ts.map Tie.nm/\Bd c
 | .unt n=>n∈ts.map Tie.nm
 | .cos n c=>n∈ts.map Tie.nm/\Bd c
noncomputable def insS (p:Str) (ps:List Str):List Str:=ps.filter (fun q=>decide (ltS q p))++p::ps.filter (fun q=>!decide (ltS q p))
noncomputable def insT (t:Tie) (ts:List Tie):List Tie:=ts.filter (fun q=>decide (ltS q.nm t.nm))++t::ts.filter (fun q=>!decide (ltS q.nm t.nm))
noncomputable def mkT (n a b:Str) (c:Int):Tie:=⟨n,minS a b,maxS a b,c⟩
noncomputable def chgP (ps:List Str):Deed->List Str
 | .pla p=>insS p ps
 | .lea p=>ps.filter fun q=>!decide (q=p)
 | _=>ps
noncomputable def chgT (ts:List Tie):Deed->List Tie
 | .tie n a b c=>insT (mkT n a b c) ts
 | .unt n=>ts.filter fun t=>!decide (t.nm=n)
 | .cos n c=>ts.map fun t=>if t.nm=n then { t with cost:=c } else t
 | _=>ts
theorem et (p:Str) (ps:List Str):(insS p ps).Perm (ps++[p]):=by
 unfold insS
 refine List.perm_middle.trans ?_
 refine ((List.filter_append_perm (fun q=>decide (ltS q p)) ps).cons p).trans ?_
 exact (List.perm_append_comm (l₁:=[p]) (l₂:=ps))
theorem er (t:Tie) (ts:List Tie):(insT t ts).Perm (ts++[t]):=by
 unfold insT
 refine List.perm_middle.trans ?_
 refine ((List.filter_append_perm (fun q:Tie=>decide (ltS q.nm t.nm)) ts).cons t).trans ?_
 exact (List.perm_append_comm (l₁:=[t]) (l₂:=ts))
theorem lB {x y:Str} (h1:¬ ltS x y) (h2:x≠y):ltS y x:=by
 rcases jY x y with h | h | h
 ·exact absurd h h1
 ·exact absurd h h2
 ·exact h
theorem kL {p:Str} {ps:List Str} (h:ps.Pairwise ltS) (hp:p∉ps):(insS p ps).Pairwise ltS:=by
 unfold insS
 rw [List.pairwise_append]
 refine ⟨h.sublist List.filter_sublist,List.pairwise_cons.mpr ⟨fun y hy=>?_,h.sublist List.filter_sublist⟩,fun x hx y hy=>?_⟩
 ·obtain ⟨h1,h2⟩:=List.mem_filter.mp hy
  exact lB (by simpa using h2) (fun e=>hp (e ▸ h1))
 ·have hx2:ltS x p:=by simpa using (List.mem_filter.mp hx).2
  rcases List.mem_cons.mp hy with rfl | hy
  ·exact hx2
  ·obtain ⟨h1,h2⟩:=List.mem_filter.mp hy
   exact gf hx2 (lB (by simpa using h2) (fun e=>hp (e ▸ h1)))
theorem kK {t:Tie} {ts:List Tie} (h:(ts.map Tie.nm).Pairwise ltS) (hp:t.nm∉ts.map Tie.nm):((insT t ts).map Tie.nm).Pairwise ltS:=by
 unfold insT
 rw [List.map_append,List.map_cons,List.pairwise_append]
 refine ⟨h.sublist (List.filter_sublist.map _),List.pairwise_cons.mpr ⟨fun y hy=>?_,h.sublist (List.filter_sublist.map _)⟩,fun x hx y hy=>?_⟩
 ·obtain ⟨u,hu,rfl⟩:=List.mem_map.mp hy
  obtain ⟨h1,h2⟩:=List.mem_filter.mp hu
  exact lB (by simpa using h2) (fun e=>hp (e ▸ List.mem_map_of_mem h1))
 ·obtain ⟨v,hv,rfl⟩:=List.mem_map.mp hx
  have hx2:ltS v.nm t.nm:=by simpa using (List.mem_filter.mp hv).2
  rcases List.mem_cons.mp hy with rfl | hy
  ·exact hx2
  ·obtain ⟨u,hu,rfl⟩:=List.mem_map.mp hy
   obtain ⟨h1,h2⟩:=List.mem_filter.mp hu
   exact gf hx2 (lB (by simpa using h2) (fun e=>hp (e ▸ List.mem_map_of_mem h1)))
theorem jj {a b:Str} (h:a≠b):ltS (minS a b) (maxS a b):=by
 unfold minS maxS
 rcases jY a b with z | z | z
 ·rw [if_neg (jk z),if_pos z]; exact z
 ·exact absurd z h
 ·rw [if_pos z,if_neg (jk z)]; exact z
theorem mq {a b:Str} (ha:IsWord a) (hb:IsWord b):IsWord (minS a b)/\IsWord (maxS a b):=by
 unfold minS maxS
 constructor <;> split <;> assumption
theorem wz (ts:List Tie) (n:Str) (c:Int):(ts.map fun t=>if t.nm=n then { t with cost:=c } else t).map Tie.nm=ts.map Tie.nm:=by
 rw [List.map_map]
 refine List.map_congr_left fun t _=>?_
 show Tie.nm (if t.nm=n then { t with cost:=c } else t)=t.nm
 split <;> rfl
theorem qS {ps:List Str} {ts:List Tie} {d:Deed} (h:NetOk ps ts) (hd:DOk ps ts d):NetOk (chgP ps d) (chgT ts d):=by
 cases d with
 | pla p =>
  refine ⟨kL h.rise hd.2,fun x hx=>?_,h.names,h.tie⟩
  rcases List.mem_append.mp ((et p ps).mem_iff.mp hx) with z | z
  ·exact h.word x z
  ·rw [List.mem_singleton.mp z]; exact hd.1
 | lea p=>exact ⟨h.rise.sublist List.filter_sublist,fun x hx=>h.word x (List.mem_filter.mp hx).1,h.names,h.tie⟩
 | tie n a b c =>
  obtain ⟨h1,h2,h3,h4,h5,h6⟩:=hd
  refine ⟨h.rise,h.word,kK h.names h5,fun t ht=>?_⟩
  rcases List.mem_append.mp ((er (mkT n a b c) ts).mem_iff.mp ht) with z | z
  ·exact h.tie t z
  ·rw [List.mem_singleton.mp z]
   exact ⟨h1,(mq h2 h3).1,(mq h2 h3).2,jj h4,h6.1,h6.2⟩
 | unt n=>exact ⟨h.rise,h.word,h.names.sublist (List.filter_sublist.map _),fun t ht=>h.tie t (List.mem_filter.mp ht).1⟩
 | cos n c =>
  refine ⟨h.rise,h.word,(by show (List.map Tie.nm (ts.map fun t=>if t.nm=n then { t with cost:=c } else t)).Pairwise ltS; rw [wz]; exact h.names),fun t ht=>?_⟩
  obtain ⟨u,hu,rfl⟩:=List.mem_map.mp ht
  have q:=h.tie u hu
  split
  ·exact ⟨q.nm,q.one,q.oth,q.lt,hd.2.1,hd.2.2⟩
  ·exact q
theorem gQ {ps:List Str} {ts:List Tie} (d:Deed):(chgP ps d).length<=ps.length+1/\(chgT ts d).length<=ts.length+1:=by
 cases d with
 | pla p=>exact ⟨by show (insS p ps).length<=_; rw [(et p ps).length_eq,List.length_append]; exact Nat.le_refl _,Nat.le_succ _⟩
 | lea p=>exact ⟨Nat.le_succ_of_le (List.length_filter_le _ _),Nat.le_succ _⟩
 | tie n a b c=>exact ⟨Nat.le_succ _,by show (insT _ ts).length<=_; rw [(er _ ts).length_eq,List.length_append]; exact Nat.le_refl _⟩
 | unt n=>exact ⟨Nat.le_succ _,Nat.le_succ_of_le (List.length_filter_le _ _)⟩
 | cos n c=>exact ⟨Nat.le_succ _,by show (ts.map _).length<=_; rw [List.length_map]; exact Nat.le_succ _⟩
end Pre
namespace Pre
open PySem L2 Q
noncomputable def Tr:Nat->PV->Prop
 | 0,_=>False
 | d+1,x=>(∃ s,x=.str s)\/(∃ n,x=.int n)\/∃ l,x=.tup l/\l.length<=1000/\∀ y∈l,Tr d y
noncomputable def gB:Fd:=fun xs P=>∃ a,xs=[a,a]/\Tr 1 a/\P (.bl true)
noncomputable def gA:Fd:=fun xs P=>∃ a,xs=[a,a]/\Tr 2 a/\P (.bl true)
noncomputable def gz:Fd:=fun xs P=>∃ a,xs=[a,a]/\Tr 3 a/\P (.bl true)
noncomputable def dR:Fd:=fun xs P=>∃ a,xs=[a,a]/\Tr 4 a/\P (.bl true)
noncomputable def bv:Fd:=fun xs P=>∃ (ps:List Str) (ts:List Tie),xs=[netPV ps ts]/\ts.length<=1000/\(ts.map Tie.nm).Nodup/\P (.dic (ts.map fun t=>(Sum.inr t.nm,tiePV t)))
noncomputable def bo:Fd:=fun xs P=>∃ (a b:Str) (c:Int),xs=[.tup [.str a,.str b,.int c]]/\IsWord a/\IsWord b/\a≠b/\P (.bl true)
noncomputable def DW:Deed->Prop
 | .pla p=>IsWord p
 | .lea p=>IsWord p
 | .tie n a b _=>IsWord n/\IsWord a/\IsWord b/\a≠b
 | .unt n=>IsWord n
 | .cos n _=>IsWord n
noncomputable def cS:Fd:=fun xs P=>∃ d:Deed,xs=[deedPV d]/\DW d/\P (.bl true)
noncomputable def bU:Fd:=fun xs P=>∃ (ps:List Str) (ts:List Tie) (p:Str),xs=[netPV ps ts,deedPV (.pla p)]/\NetS ps ts/\DOk ps ts (.pla p)/\P (netPV (insS p ps) ts)
noncomputable def bQ:Fd:=fun xs P=>∃ (ps:List Str) (ts:List Tie) (p:Str),xs=[netPV ps ts,deedPV (.lea p)]/\NetS ps ts/\DOk ps ts (.lea p)/\P (netPV (chgP ps (.lea p)) ts)
noncomputable def cj:Fd:=fun xs P=>∃ (ps:List Str) (ts:List Tie) (n a b:Str) (c:Int),xs=[netPV ps ts,deedPV (.tie n a b c)]/\NetS ps ts/\DOk ps ts (.tie n a b c)/\P (netPV ps (insT (mkT n a b c) ts))
noncomputable def cH:Fd:=fun xs P=>∃ (ps:List Str) (ts:List Tie) (n:Str),xs=[netPV ps ts,deedPV (.unt n)]/\NetS ps ts/\DOk ps ts (.unt n)/\P (netPV ps (chgT ts (.unt n)))
noncomputable def ci:Fd:=fun xs P=>∃ (ps:List Str) (ts:List Tie) (n:Str) (c:Int),xs=[netPV ps ts,deedPV (.cos n c)]/\NetS ps ts/\DOk ps ts (.cos n c)/\P (netPV ps (chgT ts (.cos n c)))
noncomputable def ca:Fd:=fun xs P=>∃ (ps:List Str) (ts:List Tie) (d:Deed),xs=[netPV ps ts,deedPV d]/\NetS ps ts/\DOk ps ts d/\P (netPV (chgP ps d) (chgT ts d))
noncomputable def eU:Fd:=fun xs P=>∃ (ps:List Str) (ts:List Tie) (d:Deed),xs=[netPV ps ts,deedPV d]/\NetS ps ts/\DOk ps ts d/\P (netPV (chgP ps d) (chgT ts d))
noncomputable def db:FdO:=fun c xs P=>c=.non/\∃ ys:List PV,(xs=[.lst ys]\/xs=[.tup ys])/\ys≠[]/\ys.length<=1000/\∀ y∈ys,P y .non
noncomputable def eG:FdO:=fun c xs P=>c=.non/\∃ tk:List Str,(xs=[.lst (tk.map .str)]\/xs=[.tup (tk.map .str)])/\tk.length<=30/\∀ x:Str,IsWord x->x∉tk->P (.str x) .non
noncomputable def eT:FdO:=fun c xs P=>c=.non/\∃ (ps:List Str) (ts:List Tie) (far:List Str),xs=[netPV ps ts,.lst (far.map .str)]/\NetOk ps ts/\ps.length<=12/\ts.length<30/\far.length<=60/\far.Nodup/\(∀ x∈far,IsWord x/\x∉ps) /\
 ∀ (n a b:Str) (c:Int),DOk ps ts (.tie n a b c)->P (deedPV (.tie n a b c)) .non
noncomputable def iQ:FdO:=fun c xs P=>c=.non/\∃ (ps:List Str) (ts:List Tie),xs=[netPV ps ts]/\NetOk ps ts/\ps.length<=12/\ts.length<=30/\∀ d:Deed,DOk ps ts d->(chgP ps d).length<=12->(chgT ts d).length<=30->P (deedPV d) .non
end Pre
namespace Pre
open PySem L2 Q
noncomputable def cM:WS :=
  (sSeq (sIf (tOr (tNot (tTru (eIsi "str" (eVW 0)))) (tNot (tBool (eChain lePV lePV (eC (.int 1)) (eCB lenPV (a1 (eVW 0))) (eC (.int 8)))))) (sRet (eC (.bl false))) sNil)
  (sRet (eCB allPV (aCons (eLC (iStrP (eV 0)) (.nm 0) tYs (eChain lePV lePV (eC (.str "a")) (eV 0) (eC (.str "z"))) [none]) aNil))))
noncomputable def cy:WS :=
  (sRet (eAnd (eIsi "int" (eVW 0)) (eNot (eIsi "bool" (eVW 0)))))
noncomputable def cf:WS :=
  (sRet (eCB allPV (aCons (eLC (iZE (aCons (eV 0) (aCons (eSl (eV 0) (oSome (eC (.int 1))) oNone) aNil))) (.tp [0,1]) tYs (eOp ltPV (eV 0) (eVW 1)) [none,none]) aNil)))
noncomputable def cg:WS :=
  (sSeq (sIf (tOr (tNot (tTru (eIsi "tuple" (eVW 0)))) (tNot (tTru (eCB allPV (aCons (eLC (iS (eV 0)) (.nm 0) tYs (eCall aY (aCons (eV 0) aNil)) [none]) aNil))))) (sRet (eC (.bl false))) sNil)
  (sRet (eCall ck (aCons (eV 0) aNil))))
noncomputable def df:WS :=
  (sSeq (sIf (tOr (tNot (tTru (eIsi "tuple" (eVW 0)))) (tBool (eOp nePV (eCB lenPV (a1 (eVW 0))) (eC (.int 4))))) (sRet (eC (.bl false))) sNil)
  (sSeq (sAsg (eV 0) (gT (gsCons (gN 1) (gsCons (gN 2) (gsCons (gN 3) (gsCons (gN 4) gsNil))))))
  (sSeq (sIf (tOr (tNot (tTru (eCall aY (aCons (eV 1) aNil)))) (tOr (tNot (tTru (eCall aY (aCons (eV 2) aNil)))) (tNot (tTru (eCall aY (aCons (eV 3) aNil)))))) (sRet (eC (.bl false))) sNil)
  (sRet (eAnd (eOp ltPV (eV 2) (eVW 3)) (eCall bX (aCons (eV 4) aNil)))))))
noncomputable def cz:WS :=
  (sSeq (sIf (tOr (tNot (tTru (eIsi "tuple" (eVW 0)))) (tNot (tTru (eCB allPV (aCons (eLC (iS (eV 0)) (.nm 0) tYs (eCall fN (aCons (eV 0) aNil)) [none]) aNil))))) (sRet (eC (.bl false))) sNil)
  (sRet (eCall ck (aCons (eLC (iS (eV 0)) (.nm 0) tYs (eOp ixPV (eV 0) (eC (.int 0))) [none]) aNil))))
noncomputable def dg:WS :=
  (sSeq (sIf (tOr (tNot (tTru (eIsi "tuple" (eVW 0)))) (tBool (eOp nePV (eCB lenPV (a1 (eVW 0))) (eC (.int 2))))) (sRet (eC (.bl false))) sNil)
  (sRet (eAnd (eCall de (aCons (eOp ixPV (eV 0) (eC (.int 0))) aNil)) (eCall dQ (aCons (eOp ixPV (eV 0) (eC (.int 1))) aNil)))))
noncomputable def bK:WS :=
  (sRet (eDC (iS (eOp ixPV (eV 0) (eC (.int 1)))) (.nm 0) tYs (eOp ixPV (eV 0) (eC (.int 0))) (eV 0) [none]))
noncomputable def bm:WS :=
  (sSeq (sIf (tOr (tBool (eOp nePV (eCB lenPV (a1 (eVW 0))) (eC (.int 3)))) (tOr (tNot (tTru (eCall aY (aCons (eOp ixPV (eV 0) (eC (.int 0))) aNil)))) (tNot (tTru (eCall aY (aCons (eOp ixPV (eV 0) (eC (.int 1))) aNil)))))) (sRet (eC (.bl false))) sNil)
  (sRet (eAnd (eOp nePV (eOp ixPV (eV 0) (eC (.int 0))) (eOp ixPV (eV 0) (eC (.int 1)))) (eCall bX (aCons (eOp ixPV (eV 0) (eC (.int 2))) aNil)))))
noncomputable def b6:WS :=
  (sSeq (sIf (tOr (tNot (tTru (eIsi "tuple" (eVW 0)))) (tOr (tBool (eOp ltPV (eCB lenPV (a1 (eVW 0))) (eC (.int 2)))) (tOr (tNot (tTru (eCall aY (aCons (eOp ixPV (eV 0) (eC (.int 0))) aNil)))) (tNot (tTru (eCall aY (aCons (eOp ixPV (eV 0) (eC (.int 1))) aNil))))))) (sRet (eC (.bl false))) sNil)
  (sSeq (sSet 1 (eSl (eV 0) (oSome (eC (.int 2))) oNone))
  (sSeq (sIf (tBool (eOp eqqPV (eOp ixPV (eV 0) (eC (.int 0))) (eC (.str "tie")))) (sRet (eCall bo (aCons (eV 1) aNil))) sNil)
  (sSeq (sIf (tBool (eOp eqqPV (eOp ixPV (eV 0) (eC (.int 0))) (eC (.str "cost")))) (sRet (eAnd (eOp eqqPV (eCB lenPV (a1 (eVW 1))) (eC (.int 1))) (eCall bX (aCons (eOp ixPV (eV 1) (eC (.int 0))) aNil)))) sNil)
  (sRet (eAnd (eOp inPV (eOp ixPV (eV 0) (eC (.int 0))) (eTup (aCons (eC (.str "place")) (aCons (eC (.str "leave")) (aCons (eC (.str "untie")) aNil))))) (eOp eqqPV (eCB lenPV (a1 (eVW 1))) (eC (.int 0)))))))))
noncomputable def bT:WS :=
  (sSeq (sSet 2 (eOp ixPV (eV 1) (eC (.int 1))))
  (sSeq (sIf (tBool (eOp inPV (eV 2) (eOp ixPV (eV 0) (eC (.int 0))))) sBot sNil)
  (sRet (eTup (aCons (eCB bH (aCons (eSortT (aCons (eOp addPV (eOp ixPV (eV 0) (eC (.int 0))) (eTup (aCons (eV 2) aNil))) aNil)) aNil)) (aCons (eOp ixPV (eV 0) (eC (.int 1))) aNil))))))
noncomputable def bL:WS :=
  (sSeq (sSet 2 (eOp ixPV (eV 1) (eC (.int 1))))
  (sSeq (sIf (tBool (eOp ninPV (eV 2) (eOp ixPV (eV 0) (eC (.int 0))))) sBot sNil)
  (sRet (eTup (aCons (eCB bH (aCons (eLC (iS (eOp ixPV (eV 0) (eC (.int 0)))) (.nm 0) (tBool (eOp nePV (eV 0) (eVW 1))) (eV 0) [none,some 2]) aNil)) (aCons (eOp ixPV (eV 0) (eC (.int 1))) aNil))))))
noncomputable def ce:WS :=
  (sSeq (sAsg (eSl (eV 1) (oSome (eC (.int 1))) oNone) (gT (gsCons (gN 2) (gsCons (gN 3) (gsCons (gN 4) (gsCons (gN 5) gsNil))))))
  (sSeq (sIf (tBool (eOp inPV (eV 2) (eCall bv (aCons (eV 0) aNil)))) sBot sNil)
  (sSeq (sSet 6 (eTup (aCons (eV 2) (aCons (eCB minPV (aCons (eV 3) (aCons (eV 4) aNil))) (aCons (eCB maxPV (aCons (eV 3) (aCons (eV 4) aNil))) (aCons (eV 5) aNil))))))
  (sRet (eTup (aCons (eOp ixPV (eV 0) (eC (.int 0))) (aCons (eCB bH (aCons (kl (aCons (eOp addPV (eOp ixPV (eV 0) (eC (.int 1))) (eTup (aCons (eV 6) aNil))) aNil)) aNil)) aNil)))))))
noncomputable def cx:WS :=
  (sSeq (sSet 2 (eOp ixPV (eV 1) (eC (.int 1))))
  (sSeq (sIf (tBool (eOp ninPV (eV 2) (eCall bv (aCons (eV 0) aNil)))) sBot sNil)
  (sRet (eTup (aCons (eOp ixPV (eV 0) (eC (.int 0))) (aCons (eCB bH (aCons (eLC (iS (eOp ixPV (eV 0) (eC (.int 1)))) (.nm 0) (tBool (eOp nePV (eOp ixPV (eV 0) (eC (.int 0))) (eVW 1))) (eV 0) [none,some 2]) aNil)) aNil))))))
noncomputable def cb:WS :=
  (sSeq (sAsg (eSl (eV 1) (oSome (eC (.int 1))) oNone) (gT (gsCons (gN 2) (gsCons (gN 3) gsNil))))
  (sSeq (sIf (tBool (eOp ninPV (eV 2) (eCall bv (aCons (eV 0) aNil)))) sBot sNil)
  (sRet (eTup (aCons (eOp ixPV (eV 0) (eC (.int 0))) (aCons (eCB bH (aCons (eLC (iS (eOp ixPV (eV 0) (eC (.int 1)))) (.nm 0) tYs (eIf (tBool (eOp eqqPV (eOp ixPV (eV 0) (eC (.int 0))) (eVW 1))) (eOp addPV (eSl (eV 0) oNone (oSome (eC (.int 3)))) (eTup (aCons (eV 2) aNil))) (eV 0)) [none,some 2,some 3]) aNil)) aNil))))))
noncomputable def cN:WS :=
  (sSeq (sIf (tNot (tTru (eCall cS (aCons (eV 1) aNil)))) sBot sNil)
  (sDisp 2 [("place",bU),("leave",bQ),("tie",cj),("untie",cH),("cost",ci)] (eOp ixPV (eV 1) (eC (.int 0))) (aCons (eV 0) (aCons (eV 1) aNil))))
noncomputable def dW:WS :=
  (sSeq (sSet 2 (eC (.str "abcdefghijklmnopqrstuvwxyz")))
  (sSeq (sSet 3 (eOp ixPV (eV 2) (eCallO aB 0 (aCons (eC (.int 26)) aNil))))
  (sSeq (sSet 4 (eCallO aB 0 (aCons (eC (.int 7)) aNil)))
  (sSeq (sSet 5 (eCallO aB 0 (aCons (eOp addPV (eV 4) (eC (.int 1))) aNil)))
  (sSeq (sSet 6 (eCallO aB 0 (aCons (eC (.int 26)) aNil)))
  (sSeq (sSetO 7 (eLst aNil))
  (sSeq (sFor (iR1 (aCons (eV 1) aNil)) (gN 8) (sSeq (sSet 9 (eOp addPV (eOp ixPV (eV 2) (eOp modPV (eOp addPV (eV 6) (eOp mulPV (eC (.int 5)) (eVW 8))) (eC (.int 26)))) (eOp ixPV (eV 2) (eOp modPV (eOp addPV (eV 6) (eOp divPV (eV 8) (eC (.int 26)))) (eC (.int 26))))))
  (sIf (tAnd (tBool (eOp ltPV (eV 1) (eC (.int 8)))) (tBool (eOp eqqPV (eV 4) (eC (.int 6))))) (sDrop (eLM cq 7 (aCons (eOp mulPV (eV 3) (eOp addPV (eV 8) (eC (.int 1)))) aNil))) (sDrop (eLM cq 7 (aCons (eOp addPV (eOp addPV (eOp mulPV (eV 3) (eVW 5)) (eVW 9)) (eOp mulPV (eV 3) (eOp subPV (eV 4) (eVW 5)))) aNil))))))
  (sRet (eV 7)))))))))
noncomputable def fz:WS :=
  (sSeq (sIf (tBool (eOp eqqPV (eV 1) (eC (.int 0)))) (sRet (eC (.int 5))) sNil)
  (sSeq (sIf (tBool (eOp eqqPV (eV 1) (eC (.int 1)))) (sRet (eOp subPV (eCallO aB 0 (aCons (eC (.int 3)) aNil)) (eC (.int 1)))) sNil)
  (sSeq (sIf (tBool (eOp eqqPV (eV 1) (eC (.int 2)))) (sRet (eOp subPV (eCallO aB 0 (aCons (eC (.int 200)) aNil)) (eC (.int 100)))) sNil)
  (sRet (eOp ixPV (eLst (aCons (eOp subPV (eOp powPV (eC (.int 10)) (eC (.int 30))) (eC (.int 1))) (aCons (eOp subPV (eC (.int 1)) (eOp powPV (eC (.int 10)) (eC (.int 30)))) (aCons (eC (.int 0)) (aCons (eCallO aB 0 (aCons (eOp powPV (eC (.int 10)) (eC (.int 9))) aNil)) aNil))))) (eCallO aB 0 (aCons (eC (.int 4)) aNil)))))))
noncomputable def fx:WS :=
  (sSeq (sIf (tBool (eOp eqqPV (eV 1) (eC (.int 2)))) (sRet (eTup (aCons (eOp modPV (eV 3) (eVW 2)) (aCons (eOp modPV (eOp addPV (eV 3) (eC (.int 1))) (eVW 2)) aNil)))) sNil)
  (sSeq (sIf (tBool (eOp eqqPV (eV 1) (eC (.int 3)))) (sRet (eTup (aCons (eC (.int 0)) (aCons (eOp addPV (eC (.int 1)) (eCallO aB 0 (aCons (eOp subPV (eV 2) (eC (.int 1))) aNil))) aNil)))) sNil)
  (sSeq (sIf (tAnd (tBool (eOp eqqPV (eV 1) (eC (.int 4)))) (tBool (eOp gtPV (eV 2) (eC (.int 3))))) (sSeq (sSet 4 (eOp divPV (eV 2) (eC (.int 2))))
  (sSeq (sSet 5 (eCallO aB 0 (aCons (eC (.int 2)) aNil)))
  (sSeq (sSet 6 (eCallO aB 0 (aCons (eV 4) aNil)))
  (sRet (eTup (aCons (eOp addPV (eOp mulPV (eV 5) (eVW 4)) (eVW 6)) (aCons (eOp addPV (eOp mulPV (eV 5) (eVW 4)) (eOp modPV (eOp addPV (eOp addPV (eV 6) (eC (.int 1))) (eCallO aB 0 (aCons (eOp subPV (eV 4) (eC (.int 1))) aNil))) (eVW 4))) aNil))))))) sNil)
  (sSeq (sSet 6 (eCallO aB 0 (aCons (eV 2) aNil)))
  (sRet (eTup (aCons (eV 6) (aCons (eOp modPV (eOp addPV (eOp addPV (eV 6) (eC (.int 1))) (eCallO aB 0 (aCons (eOp subPV (eV 2) (eC (.int 1))) aNil))) (eVW 2)) aNil))))))))
noncomputable def gC:WS :=
  (sSeq (sSet 3 (eCallO aB 0 (aCons (eOp addPV (eV 1) (eC (.int 1))) aNil)))
  (sSeq (sSet 4 (eCallO cw 0 (aCons (eOp addPV (eV 3) (eC (.int 2))) aNil)))
  (sSeq (sSet 5 (eSl (eV 4) oNone (oSome (eCB maxPV (aCons (eC (.int 2)) (aCons (eOp addPV (eV 3) (eCallO aB 0 (aCons (eC (.int 3)) aNil))) aNil))))))
  (sSeq (sSet 6 (eCallO aB 0 (aCons (eOp addPV (eV 2) (eC (.int 1))) aNil)))
  (sSeq (sSet 7 (eCallO cw 0 (aCons (eV 6) aNil)))
  (sSeq (sPar 8 9 (aCons (eCallO aB 0 (aCons (eC (.int 5)) aNil)) (aCons (eCallO aB 0 (aCons (eC (.int 4)) aNil)) aNil)))
  (sSeq (sSetO 10 (eLst aNil))
  (sSeq (sFor (iR1 (aCons (eV 6) aNil)) (gN 11) (sSeq (sAsg (eCallO iP 0 (aCons (eV 8) (aCons (eCB lenPV (a1 (eVW 5))) (aCons (eV 11) aNil)))) (gT (gsCons (gN 12) (gsCons (gN 13) gsNil))))
  (sSeq (sSet 14 (eSortS (aCons (eLst (aCons (eOp ixPV (eV 5) (eVW 12)) (aCons (eOp ixPV (eV 5) (eVW 13)) aNil))) aNil)))
  (sDrop (eLM cq 10 (aCons (eTup (aCons (eOp ixPV (eV 7) (eVW 11)) (aCons (eOp ixPV (eV 14) (eC (.int 0))) (aCons (eOp ixPV (eV 14) (eC (.int 1))) (aCons (eCallO dS 0 (aCons (eV 9) aNil)) aNil))))) aNil))))))
  (sRet (eTup (aCons (eCB bH (aCons (eSortS (aCons (eSl (eV 4) oNone (oSome (eVW 3))) aNil)) aNil)) (aCons (eCB bH (aCons (eSortR (a1 (eVW 10))) aNil)) aNil))))))))))))
noncomputable def iT:WS :=
  (sRet (eOp ixPV (eV 1) (eCallO aB 0 (aCons (eCB lenPV (a1 (eVW 1))) aNil))))
noncomputable def dX:WS :=
  (sRet (eOp ixPV (eLC (iS (eCallO cw 0 (aCons (eC (.int 31)) aNil))) (.nm 0) (tBool (eOp ninPV (eV 0) (eVW 1))) (eV 0) [none,some 1]) (eC (.int 0))))
noncomputable def cO:WS :=
  (sSeq (sSet 3 (eOp addPV (eCB listPV (aCons (eOp ixPV (eV 1) (eC (.int 0))) aNil)) (eVW 2)))
  (sSeq (sIf (tOr (tBool (eOp ltPV (eCB lenPV (a1 (eVW 3))) (eC (.int 2)))) (tBool (eOp eqqPV (eCallO aB 0 (aCons (eC (.int 8)) aNil)) (eC (.int 0))))) (sSet 3 (eOp addPV (eV 3) (eSl (eLC (iS (eCallO cw 0 (aCons (eC (.int 14)) aNil))) (.nm 0) (tBool (eOp ninPV (eV 0) (eVW 1))) (eV 0) [none,some 3]) oNone (oSome (eC (.int 2)))))) sNil)
  (sSeq (sSet 4 (eCallO aB 0 (aCons (eCB lenPV (a1 (eVW 3))) aNil)))
  (sSeq (sSet 5 (eOp ixPV (eV 3) (eOp modPV (eOp addPV (eOp addPV (eV 4) (eC (.int 1))) (eCallO aB 0 (aCons (eOp subPV (eCB lenPV (a1 (eVW 3))) (eC (.int 1))) aNil))) (eCB lenPV (a1 (eVW 3))))))
  (sSeq (sSet 6 (eCallO eG 0 (aCons (eLC (iS (eOp ixPV (eV 1) (eC (.int 1)))) (.nm 0) tYs (eOp ixPV (eV 0) (eC (.int 0))) [none]) aNil)))
  (sRet (eTup (aCons (eC (.str "tie")) (aCons (eV 6) (aCons (eOp ixPV (eV 3) (eVW 4)) (aCons (eV 5) (aCons (eCallO dS 0 (aCons (eCallO aB 0 (aCons (eC (.int 4)) aNil)) aNil)) aNil))))))))))))
noncomputable def fy:WS :=
  (sSeq (sSet 2 (eLC (iS (eOp ixPV (eV 1) (eC (.int 1)))) (.nm 0) tYs (eOp ixPV (eV 0) (eC (.int 0))) [none]))
  (sSeq (sSet 3 (iO (aCons (eOp addPV (eLC (iS (eOp ixPV (eV 1) (eC (.int 1)))) (.nm 0) tYs (eOp ixPV (eV 0) (eC (.int 1))) [none]) (eLC (iS (eOp ixPV (eV 1) (eC (.int 1)))) (.nm 0) tYs (eOp ixPV (eV 0) (eC (.int 2))) [none])) aNil)))
  (sSeq (sSet 4 (eLC (iS (eV 3)) (.nm 0) (tBool (eOp ninPV (eV 0) (eOp ixPV (eV 1) (eC (.int 0))))) (eV 0) [none,some 1]))
  (sSeq (sSet 5 (eCallO aB 0 (aCons (eC (.int 7)) aNil)))
  (sSeq (sIf (tAnd (tBool (eOp eqqPV (eV 5) (eC (.int 0)))) (tBool (eOp ltPV (eCB lenPV (aCons (eOp ixPV (eV 1) (eC (.int 0))) aNil)) (eC (.int 12))))) (sSeq (sIf (tAnd (tBool (eOp nePV (eV 4) (eLst aNil))) (tBool (eOp gtPV (eCallO aB 0 (aCons (eC (.int 4)) aNil)) (eC (.int 0))))) (sRet (eTup (aCons (eC (.str "place")) (aCons (eCallO db 0 (aCons (eV 4) aNil)) aNil)))) sNil)
  (sRet (eTup (aCons (eC (.str "place")) (aCons (eCallO eG 0 (aCons (eOp ixPV (eV 1) (eC (.int 0))) aNil)) aNil))))) sNil)
  (sSeq (sIf (tAnd (tBool (eOp eqqPV (eV 5) (eC (.int 1)))) (tBool (eOp neT (eOp ixPV (eV 1) (eC (.int 0))) (eTup aNil)))) (sRet (eTup (aCons (eC (.str "leave")) (aCons (eCallO db 0 (aCons (eOp ixPV (eV 1) (eC (.int 0))) aNil)) aNil)))) sNil)
  (sSeq (sIf (tAnd (tBool (eOp eqqPV (eV 5) (eC (.int 2)))) (tBool (eOp nePV (eV 2) (eLst aNil)))) (sRet (eTup (aCons (eC (.str "untie")) (aCons (eCallO db 0 (aCons (eV 2) aNil)) aNil)))) sNil)
  (sSeq (sIf (tAnd (tBool (eOp inPV (eV 5) (eTup (aCons (eC (.int 3)) (aCons (eC (.int 4)) aNil))))) (tBool (eOp nePV (eV 2) (eLst aNil)))) (sRet (eTup (aCons (eC (.str "cost")) (aCons (eCallO db 0 (aCons (eV 2) aNil)) (aCons (eCallO dS 0 (aCons (eCallO aB 0 (aCons (eC (.int 4)) aNil)) aNil)) aNil))))) sNil)
  (sSeq (sIf (tBool (eOp ltPV (eCB lenPV (a1 (eVW 2))) (eC (.int 30)))) (sRet (eCallO eT 0 (aCons (eV 1) (aCons (eV 4) aNil)))) sNil)
  (sRet (eTup (aCons (eC (.str "untie")) (aCons (eCallO db 0 (aCons (eV 2) aNil)) aNil)))))))))))))
noncomputable def cP:WS :=
  (sSeq (sSetO 2 (eCB dictPV (aCons (eLC (iS (eOp ixPV (eV 0) (eC (.int 0)))) (.nm 0) tYs (eTup (aCons (eV 0) (aCons (eC (.bl true)) aNil))) [none]) aNil)))
  (sSeq (sSetO 3 (eCB dictPV (aCons (eLC (iS (eOp ixPV (eV 0) (eC (.int 1)))) (.nm 0) tYs (eTup (aCons (eOp ixPV (eV 0) (eC (.int 0))) (aCons (eV 0) aNil))) [none]) aNil)))
  (sSeq (sIf (tBool (eOp eqqPV (eOp ixPV (eV 1) (eC (.int 0))) (eC (.str "place")))) (sPut 2 (eC (.bl true)) (eOp ixPV (eV 1) (eC (.int 1)))) (sIf (tBool (eOp eqqPV (eOp ixPV (eV 1) (eC (.int 0))) (eC (.str "leave")))) (sDrop (eDPop 2 (eOp ixPV (eV 1) (eC (.int 1))))) (sIf (tBool (eOp eqqPV (eOp ixPV (eV 1) (eC (.int 0))) (eC (.str "untie")))) (sDrop (eDPop 3 (eOp ixPV (eV 1) (eC (.int 1))))) (sIf (tBool (eOp eqqPV (eOp ixPV (eV 1) (eC (.int 0))) (eC (.str "cost")))) (sPut 3 (eOp addPV (eSl (eOpS ixPV 3 (eOp ixPV (eV 1) (eC (.int 1)))) oNone (oSome (eC (.int 3)))) (eTup (aCons (eOp ixPV (eV 1) (eC (.int 2))) aNil))) (eOp ixPV (eV 1) (eC (.int 1)))) (sSeq (sSet 4 (eSortT (aCons (eSl (eV 1) (oSome (eC (.int 2))) (oSome (eC (.int 4)))) aNil)))
  (sPut 3 (eTup (aCons (eOp ixPV (eV 1) (eC (.int 1))) (aCons (eOp ixPV (eV 4) (eC (.int 0))) (aCons (eOp ixPV (eV 4) (eC (.int 1))) (aCons (eOp ixPV (eV 1) (eC (.int 4))) aNil))))) (eOp ixPV (eV 1) (eC (.int 1)))))))))
  (sRet (eTup (aCons (eCB bH (aCons (eSortS (a1 (eVW 2))) aNil)) (aCons (eCB bH (aCons (eSortV 3) aNil)) aNil)))))))
noncomputable def bV (D:Fd):WS :=
  (sSeq (sIf (tTru (eIsi "tuple" (eVW 1))) (sSeq (sIf (tOr (tNot (tTru (eIsi "tuple" (eVW 0)))) (tBool (eOp nePV (eCB lenPV (a1 (eVW 0))) (eCB lenPV (a1 (eVW 1)))))) (sRet (eC (.bl false))) sNil)
  (sRet (eCB allPV (aCons (eLC (iZE (aCons (eV 0) (aCons (eV 1) aNil))) (.tp [0,1]) tYs (eCall D (aCons (eV 0) (aCons (eV 1) aNil))) [none,none]) aNil)))) sNil)
  (sSeq (sIf (tBool (eOp isPV (eV 1) (eC .non))) (sRet (eOp isPV (eV 0) (eC .non))) sNil)
  (sSeq (sIf (tTru (eIsi "bool" (eVW 1))) (sRet (eAnd (eIsi "bool" (eVW 0)) (eOp eqqPV (eV 0) (eVW 1)))) sNil)
  (sSeq (sIf (tTru (eIsi "str" (eVW 1))) (sRet (eAnd (eIsi "str" (eVW 0)) (eOp eqqPV (eV 0) (eVW 1)))) sNil)
  (sRet (eAnd (eIsi "int" (eVW 0)) (eAnd (eNot (eIsi "bool" (eVW 0))) (eOp eqqPV (eV 0) (eVW 1)))))))))
noncomputable def gD:WS :=
  (sSeq (Q.sBegin 1 0)
  (sSeq (sFor (iR1 (aCons (eOp addPV (eC (.int 2)) (eCB lenPV (aCons (eSl (eV 0) oNone (oSome (eC (.int 9)))) aNil))) aNil)) (gN 2) (sSeq (sSet 3 (eCallO ky 1 (aCons (eC (.int 11)) (aCons (eC (.int 29)) aNil))))
  (sSeq (sSetO 4 (eLst aNil))
  (sSeq (sFor (iR1 (aCons (eCallO aB 1 (aCons (eC (.int 7)) aNil)) aNil)) (gN 5) (sSeq (sSet 6 (eCallO iQ 1 (aCons (eV 3) aNil)))
  (sSeq (sSet 7 (eCall eU (aCons (eV 3) (aCons (eV 6) aNil))))
  (sSeq (sIf (tOr (tBool (eOp isnPV (eCall cS (aCons (eV 6) aNil)) (eC (.bl true)))) (tOr (tNot (tTru (eCall dR (aCons (eCall ca (aCons (eV 3) (aCons (eV 6) aNil))) (aCons (eV 7) aNil))))) (tBool (eOp isnPV (eCall fO (aCons (eV 7) aNil)) (eC (.bl true)))))) (sRet (eC (.bl false))) sNil)
  (sSeq (sDrop (eLM cq 4 (aCons (eTup (aCons (eV 3) (aCons (eV 6) (aCons (eV 7) aNil)))) aNil)))
  (sSet 3 (eV 7)))))))
  (sSeq (sFor (iS (eV 4)) (gT (gsCons (gN 8) (gsCons (gN 6) (gsCons (gN 7) gsNil)))) (sIf (tNot (tTru (eCall dR (aCons (eCall ca (aCons (eV 8) (aCons (eV 6) aNil))) (aCons (eV 7) aNil))))) (sRet (eC (.bl false))) sNil))
  (sIf (tBool (eOp neT (eOp ixPV (eV 3) (eC (.int 1))) (eTup aNil))) (sSeq (sSet 9 (eCallO db 1 (aCons (eOp ixPV (eV 3) (eC (.int 1))) aNil)))
  (sIf (tNot (tTru (eCall dR (aCons (eCall ca (aCons (eV 3) (aCons (eTup (aCons (eC (.str "cost")) (aCons (eOp ixPV (eV 9) (eC (.int 0))) (aCons (eOp ixPV (eV 9) (eC (.int 3))) aNil)))) aNil))) (aCons (eV 3) aNil))))) (sRet (eC (.bl false))) sNil)) sNil))))))
  (sRet (eC (.bl true)))))
end Pre
namespace Pre
open PySem L2 Q
theorem bz (i j:Int):eqqPV (.int i) (.int j)=some (.bl (decide (i=j))):=by
 show some (PV.bl (i==j))=_
 rfl
theorem dE {i j:Int} (h:0<j):modPV (.int i) (.int j)=some (.int (i % j)):=if_pos (decide_eq_true h)
theorem qK {i j:Int} (h:0<j) (h2:j<1073741824):divPV (.int i) (.int j)=some (.int (i / j)):=if_pos (by simp [h,h2])
theorem mn {i j:Int} (h : -(2 ^ 64)<j) (h2:j<2 ^ 64):mulPV (.int i) (.int j)=some (.int (i*j)):=if_pos (by unfold cMul; simp only [Bool.or_eq_true,Bool.and_eq_true,decide_eq_true_eq]; exact .inr ⟨h,h2⟩)
theorem pM {i j:Int} (h:(decide (0<=j) && decide (j<=1000000) && decide (i.natAbs<2 ^ 64))=true):powPV (.int i) (.int j)=some (.int (i ^ j.toNat)):=if_pos h
theorem cA {i j:Int}:subPV (.int i) (.int j)=some (.int (i - j)):=rfl
theorem bg {i j:Int}:addPV (.int i) (.int j)=some (.int (i+j)):=rfl
theorem mU {i:Int} {k:Nat} (h:i=k) (hk:k<26):ixPV (.str abc) (.int i)=some (.str (ch k)):=by
 subst h
 show (if abc.length<=100000 then (atI abc.cps.toList (k:Int)).map (fun c=>PV.str ⟨#[c]⟩) else none)=_
 rw [if_pos (by decide +kernel),ai (wC k hk)]; rfl
theorem jH (b m:Nat):(repS (ch b) m).length=m:=by
 have:=congrArg List.length (i6 b m)
 rw [List.length_replicate] at this
 show (repS (ch b) m).cps.size=m
 rw [<- Array.length_toList]; exact this
theorem uh (x y:Str):(x++y).length=x.length+y.length:=by show (x.cps++y.cps).size=_; exact Array.size_append
theorem add_str {x y:Str} (h:x.length+y.length<=100000):addPV (.str x) (.str y)=some (.str (x++y)):=if_pos h
theorem mo {b m:Nat} {i:Int} (h:i=m) (hm:m<=1000):mulPV (.str (ch b)) (.int i)=some (.str (repS (ch b) m)):=by
 subst h
 refine (if_pos ⟨by omega,by omega,?_⟩).trans ?_
 ·rw [show ((m:Int)).toNat=m by omega]
 ·show 1<=1000; decide
theorem pG {n j:Nat} {x:PV} (h:(rngP 0 n)[j]?=some x):j<n/\x=.int j:=by
 unfold rngP at h
 rw [List.getElem?_map] at h
 rcases Nat.lt_or_ge j n with z | z
 ·rw [List.getElem?_range z] at h
  refine ⟨z,?_⟩
  have:x=.int (0+(j:Int)):=by simpa using h.symm
  rw [this]; congr 1; omega
 ·rw [List.getElem?_eq_none (by simpa using z)] at h; cases h
theorem jG (n:Nat):(rngP 0 n).length=n:=by unfold rngP; rw [List.length_map,List.length_range]
theorem draw {m:Int} {P:PV->PV->Prop} (h0:0<m) (h1:m<1073741824) (k:∀ r:Nat,(r:Int)<m->P (.int r) .non):aB .non [.int m] P :=
 ⟨rfl,m,rfl,h0,h1,fun r r0 r1=>by
  obtain ⟨i,rfl⟩:∃ i:Nat,r=(i:Int):=⟨r.toNat,by omega⟩
  exact k i r1⟩
theorem pQ (c:PV) (xs:List PV) (P:PV->PV->Prop) (h:cw c xs P):Q.runO 10 dW c xs P:=by
 obtain ⟨rfl,n,rfl,hn,h⟩:=h
 unfold dW
 refine ah fun N hN=>?_
 try lia
 subst hN
 refine ah fun N hN=>?_
 lia
 refine draw (by decide) (by decide) fun b hb=>?_
 refine aa (mU rfl (by omega)) ?_
 try lia
 subst hN
 refine ah fun N hN=>?_
 lia
 refine draw (by decide) (by decide) fun s hs=>?_
 try lia
 subst hN
 refine ah fun N hN=>?_
 lia
 refine aa bg ?_
 refine draw (by omega) (by omega) fun t ht=>?_
 try lia
 subst hN
 refine ah fun N hN=>?_
 lia
 refine draw (by decide) (by decide) fun f hf=>?_
 try lia
 subst hN
 refine ah fun N hN=>?_
 try lia
 subst hN
 refine ah fun N hN=>fe fun G B hG hB=>?_
 lia
 refine ⟨by omega,by omega,?_⟩
 subst hG
 refine cu (fun i e=>∃ v8 v9,e=[some ⟨2,.non⟩,some ⟨0,.int n⟩,some ⟨0,.str abc⟩,some ⟨0,.str (ch b)⟩,some ⟨0,.int s⟩,some ⟨0,.int t⟩,some ⟨0,.int f⟩,some ⟨1,.lst ((wds b s t f n i).map .str)⟩,v8,v9]) (i:=0) ⟨none,none,rfl⟩ ?_ ?_
 case refine_2 =>
  rintro e ⟨v8,v9,rfl⟩
  show N _
  subst hN
  rw [jG,show ((n:Int)).toNat=n by omega,Nat.zero_add]
  lia
  exact h _ (by unfold wds; rw [List.length_map,List.length_range]) (o7 hn) (qZ (by omega) (by omega) (by omega))
 rintro j x e M hj ⟨v8,v9,rfl⟩ k
 obtain ⟨hjn,rfl⟩:=pG hj
 rw [Nat.zero_add] at k ⊢
 subst hB
 have hjn':j<n:=by omega
 refine ah fun N' hN'=>?_
 lia
 refine aa (mn (by omega) (by omega)) ?_
 refine aa bg ?_
 refine aa (dE (by decide)) ?_
 refine aa (mU (k:=(f+5*j) % 26) (by omega) (by omega)) ?_
 refine aa (qK (by decide) (by decide)) ?_
 refine aa bg ?_
 refine aa (dE (by decide)) ?_
 refine aa (mU (k:=(f+j / 26) % 26) (by omega) (by omega)) ?_
 refine aa (add_str (by show 1+1<=100000; decide)) ?_
 subst hN'
 have push:∀ y:Str,y=wd b s t f n j->M [some ⟨2,.non⟩,some ⟨0,.int n⟩,some ⟨0,.str abc⟩,some ⟨0,.str (ch b)⟩,some ⟨0,.int s⟩,some ⟨0,.int t⟩,some ⟨0,.int f⟩,some ⟨1,.lst ((wds b s t f n j).map .str++[.str y])⟩,some ⟨0,.int j⟩,some ⟨0,.str (ch ((f+5*j) % 26)++ch ((f+j / 26) % 26))⟩]:=fun y hy=>by
  refine k _ ⟨some ⟨0,.int j⟩,some ⟨0,.str (ch ((f+5*j) % 26)++ch ((f+j / 26) % 26))⟩,?_⟩
  rw [hy,rd,List.map_append]; rfl
 have len:((wds b s t f n j).map PV.str).length<=100000:=by rw [List.length_map]; unfold wds; rw [List.length_map,List.length_range]; omega
 have two:(ch ((f+5*j) % 26)++ch ((f+j / 26) % 26)).cps.toList=[97+(f+5*j) % 26,97+(f+j / 26) % 26]:=by rw [fM]; rfl
 lia
 by_cases c:n<8/\s=6
 ·have c1:((n:Int)<8):=by omega
  have c2:((s:Int)=6):=by omega
  rw [decide_eq_true c1]
  lia
  refine aa (bz _ _) ?_
  rw [decide_eq_true c2]
  lia
  refine aa bg ?_
  refine aa (mo (m:=j+1) (by omega) (by omega)) ?_
  refine aa (mApp len) ?_
  refine push _ (jv ?_)
  rw [i6]
  unfold wd wl
  rw [if_pos c]
 ·have word:repS (ch b) t++(ch ((f+5*j) % 26)++ch ((f+j / 26) % 26))++repS (ch b) (s - t)=wd b s t f n j:=by
   refine jv ?_
   rw [fM,fM,two,i6,i6]
   unfold wd wl
   rw [if_neg c]
  have l2:(ch ((f+5*j) % 26)++ch ((f+j / 26) % 26)).length=2:=rfl
  have els:opt (mulPV (.str (ch b)) (.int t)) fun z=>opt (addPV z (.str (ch ((f+5*j) % 26)++ch ((f+j / 26) % 26)))) fun z=>opt (subPV (.int s) (.int t)) fun z1=>opt (mulPV (.str (ch b)) z1) fun z1=>opt (addPV z z1) fun z=>opt (cq ((wds b s t f n j).map .str) [z]) fun r=>M [some ⟨2,.non⟩,some ⟨0,.int n⟩,some ⟨0,.str abc⟩,some ⟨0,.str (ch b)⟩,some ⟨0,.int s⟩,some ⟨0,.int t⟩,some ⟨0,.int f⟩,some ⟨1,.lst r.2⟩,some ⟨0,.int j⟩,some ⟨0,.str (ch ((f+5*j) % 26)++ch ((f+j / 26) % 26))⟩]:=by
   refine aa (mo rfl (by omega)) (aa (add_str (by rw [jH,l2]; omega)) (aa cA (aa (mo (m:=s - t) (by omega) (by omega)) (aa (add_str ?_) (aa (mApp len) (push _ word))))))
   rw [uh,jH,jH,l2]; omega
  by_cases c1:(n:Int)<8
  ·have c2:¬ ((s:Int)=6):=by omega
   rw [decide_eq_true c1]
   lia
   refine aa (bz _ _) ?_
   rw [decide_eq_false c2]
   lia
   exact els
  ·rw [decide_eq_false c1]
   lia
   exact els
theorem rS (c:PV) (xs:List PV) (P:PV->PV->Prop) (h:dS c xs P):Q.runO 2 fz c xs P:=by
 obtain ⟨rfl,q,rfl,h⟩:=h
 have b30:(1000000000:Int)<10 ^ 30:=by decide
 unfold fz
 refine ah fun N hN=>?_
 lia
 refine aa (bz _ _) ?_
 lia
 split
 ·exact h _ (by omega) (by omega)
 subst hN
 refine ah fun N hN=>?_
 lia
 refine aa (bz _ _) ?_
 lia
 split
 ·refine draw (by decide) (by decide) fun r hr=>?_
  exact aa cA (h _ (by omega) (by omega))
 subst hN
 refine ah fun N hN=>?_
 lia
 refine aa (bz _ _) ?_
 lia
 split
 ·refine draw (by decide) (by decide) fun r hr=>?_
  exact aa cA (h _ (by omega) (by omega))
 subst hN
 lia
 have c30:(10:Int) ^ (30:Int).toNat=10 ^ 30:=by decide
 have c9:(10:Int) ^ (9:Int).toNat=1000000000:=by decide
 have pw:powPV (.int 10) (.int 30)=some (.int (10 ^ 30)):=(pM (by decide)).trans (by rw [c30])
 have p9:powPV (.int 10) (.int 9)=some (.int 1000000000):=(pM (by decide)).trans (by rw [c9])
 refine aa pw (aa cA (aa pw (aa cA (aa p9 ?_))))
 refine draw (by decide) (by decide) fun r hr=>?_
 try lia
 refine draw (by decide) (by decide) fun x hx=>?_
 match x,hx with
 | 0,_=>exact aa (ai (j:=0) rfl) (h _ (by omega) (by omega))
 | 1,_=>exact aa (ai (j:=1) rfl) (h _ (by omega) (by omega))
 | 2,_=>exact aa (ai (j:=2) rfl) (h _ (by omega) (by omega))
 | 3,_=>exact aa (ai (j:=3) rfl) (h _ (by omega) (by omega))
 | n+4,h=>omega
theorem turn (x d t:Int) (h0:0<t) (h1:0<=x) (h2:x<t) (h3:0<=d) (h4:d<t - 1):0<=(x+1+d) % t/\(x+1+d) % t<t/\x≠(x+1+d) % t:=by
 refine ⟨Int.emod_nonneg _ (by omega),Int.emod_lt_of_pos _ h0,fun e=>?_⟩
 have q:=Int.emod_add_mul_ediv (x+1+d) t
 rw [<- e] at q
 have:t*((x+1+d) / t)=1+d:=by omega
 generalize (x+1+d) / t=y at this
 rcases (show y<=0\/1<=y by omega) with z | z
 ·have:t*y<=0:=Int.mul_nonpos_of_nonneg_of_nonpos (by omega) (by omega)
  omega
 ·have:t*1<=t*y:=Int.mul_le_mul_of_nonneg_left z (by omega)
  omega
theorem drawI {m:Int} {P:PV->PV->Prop} (h0:0<m) (h1:m<1073741824) (k:∀ r:Int,0<=r->r<m->P (.int r) .non):aB .non [.int m] P:=⟨rfl,m,rfl,h0,h1,k⟩
theorem rQ (c:PV) (xs:List PV) (P:PV->PV->Prop) (h:iP c xs P):Q.runO 7 fx c xs P:=by
 obtain ⟨rfl,f,m,kk,rfl,m2,m9,h⟩:=h
 have m0:(0:Int)<m:=by omega
 unfold fx
 refine ah fun N hN=>?_
 lia
 refine aa (bz _ _) ?_
 lia
 split
 ·refine aa (dE m0) (aa bg (aa (dE m0) ?_))
  refine h _ _ (Int.emod_nonneg _ (by omega)) (Int.emod_lt_of_pos _ m0) (Int.emod_nonneg _ (by omega)) (Int.emod_lt_of_pos _ m0) fun e=>?_
  refine (turn (kk % m) 0 m m0 (Int.emod_nonneg _ (by omega)) (Int.emod_lt_of_pos _ m0) (by omega) (by omega)).2.2 (e.trans ?_)
  rw [Int.add_zero,Int.emod_add_emod]
 subst hN
 refine ah fun N hN=>?_
 lia
 refine aa (bz _ _) ?_
 lia
 split
 ·refine aa cA ?_
  refine drawI (by omega) (by omega) fun r p0 q0=>?_
  exact aa bg (h _ _ (by omega) m0 (by omega) (by omega) (by omega))
 subst hN
 refine ah fun N hN=>aC fun A B hA hB=>?_
 have last:B { endO P with nx:=N } [some ⟨2,.non⟩,some ⟨0,.int f⟩,some ⟨0,.int m⟩,some ⟨0,.int kk⟩,none,none,none]:=by
  subst hB
  show N _
  subst hN
  refine ah fun N hN=>?_
  lia
  refine drawI (by omega) (by omega) fun r p0 q0=>?_
  try lia
  subst hN
  lia
  refine aa bg (aa cA ?_)
  refine drawI (by omega) (by omega) fun d p1 q1=>?_
  try lia
  refine aa bg (aa (dE m0) ?_)
  have t:=turn r d m m0 p0 q0 p1 q1
  exact h _ _ p0 q0 t.1 t.2.1 t.2.2
 lia
 refine aa (bz _ _) ?_
 lia
 by_cases c1:f=4
 case neg =>
  rw [decide_eq_false c1]
  exact last
 rw [decide_eq_true c1]
 lia
 by_cases c2:3<m
 case neg =>
  rw [decide_eq_false c2]
  exact last
 rw [decide_eq_true c2]
 lia
 subst hA
 refine ah fun N hN=>?_
 lia
 refine aa (qK (by decide) (by decide)) ?_
 subst hN
 refine ah fun N hN=>?_
 lia
 refine drawI (by omega) (by omega) fun r p0 q0=>?_
 try lia
 subst hN
 refine ah fun N hN=>?_
 lia
 refine drawI (by omega) (by omega) fun r2 p2 q2=>?_
 try lia
 subst hN
 have bd:∀ y:Int,0<=y->y<m / 2->0<=r*(m / 2)+y/\r*(m / 2)+y<m:=fun y y0 y1=>by
  have:r=0\/r=1:=by omega
  rcases this with rfl | rfl <;> omega
 lia
 refine aa (mn (by omega) (by omega)) (aa bg (aa (mn (by omega) (by omega)) (aa bg (aa cA ?_))))
 refine drawI (by omega) (by omega) fun r3 p3 q3=>?_
 try lia
 refine aa bg (aa (dE (by omega)) (aa bg ?_))
 have t:=turn r2 r3 (m / 2) (by omega) p2 q2 p3 q3
 exact h _ _ (bd _ p2 q2).1 (bd _ p2 q2).2 (bd _ t.1 t.2.1).1 (bd _ t.1 t.2.1).2 fun e=>t.2.2 (by omega)
end Pre
namespace Pre
open PySem L2 Q
theorem vI {i j:Int} {k:Nat} (h:(if j > i then j else i)=k):maxPV [.int i,.int j]=some (.int k):=by rw [<- h]; rfl
theorem lI {l:List Str} {i:Nat} (h:i<l.length):ixPV (.lst (l.map .str)) (.int i)=some (.str l[i]):=ai (by rw [List.getElem?_map,List.getElem?_eq_getElem h]; rfl)
theorem iW:∀ ss:List Str,(ss.map PV.str).mapM strPV=some ss
 | []=>rfl
 | s::ss=>by rw [List.map_cons,List.mapM_cons,iW ss]; rfl
theorem lH:∀ ts:List Tie,(ts.map tiePV).mapM fstS=some (ts.map Tie.nm)
 | []=>rfl
 | t::ts=>by rw [List.map_cons,List.mapM_cons,lH ts]; rfl
theorem lU {α β:Type} {f:α->β} {l:List α} {a:α} {b:β} {ix:List Nat} (h:∀ i∈ix,i<l.length):(ix.map fun i=>(l.map f).getD i b)=(ix.map fun i=>l.getD i a).map f:=by
 rw [List.map_map]
 refine List.map_congr_left fun i hi=>?_
 show _=f (l.getD i a)
 rw [List.getD_eq_getElem?_getD,List.getD_eq_getElem?_getD,List.getElem?_map,List.getElem?_eq_getElem (h i hi)]; rfl
theorem tV (c:PV) (xs:List PV) (P:PV->PV->Prop) (h:ky c xs P):Q.runO 15 gC c xs P:=by
 obtain ⟨rfl,M,T,rfl,M0,M1,T0,T1,h⟩:=h
 unfold gC
 refine ah fun N hN=>?_
 lia
 refine aa bg ?_
 refine draw (by omega) (by omega) fun mm hmm=>?_
 subst hN
 refine ah fun N hN=>?_
 lia
 refine aa bg ?_
 refine ⟨rfl,mm+2,rfl,by omega,fun ws wl wn ww=>?_⟩
 subst hN
 refine ah fun N hN=>?_
 lia
 refine draw (by decide) (by decide) fun r hr=>?_
 refine aa bg ?_
 obtain ⟨pn,hpn,hp2,hpm⟩:∃ pn:Nat,(if (mm:Int)+r > 2 then (mm:Int)+r else 2)=(pn:Int)/\2<=pn/\pn<=mm+2:=by
  refine ⟨(if (mm:Int)+r > 2 then (mm:Int)+r else 2).toNat,?_,?_,?_⟩ <;> split <;> omega
 refine aa (vI hpn) ?_
 try lia
 rw [cL,<- List.map_take]
 subst hN
 have pl:(ws.take pn).length=pn:=by rw [List.length_take,wl]; omega
 have pnd:(ws.take pn).Nodup:=wn.sublist (List.take_sublist _ _)
 have pw:∀ x∈ws.take pn,IsWord x:=fun x hx=>ww x (List.mem_of_mem_take hx)
 generalize ws.take pn=pool at pl pnd pw ⊢
 refine ah fun N hN=>?_
 lia
 refine aa bg ?_
 refine draw (by omega) (by omega) fun cc hcc=>?_
 subst hN
 refine ah fun N hN=>?_
 lia
 refine ⟨rfl,cc,rfl,by omega,fun ns nl nn nw=>?_⟩
 subst hN
 refine ah fun N hN=>?_
 simp only [sPar]
 lia
 refine drawI (by decide) (by decide) fun fam p0 q0=>?_
 refine drawI (by decide) (by decide) fun srt p1 q1=>?_
 subst hN
 refine ah fun N hN=>?_
 lia
 subst hN
 refine ah fun N hN=>fe fun G B hG hB=>?_
 lia
 refine ⟨by omega,by omega,?_⟩
 subst hG
 refine cu (fun i e=>∃ ts v11 v12 v13 v14,e=[some ⟨2,.non⟩,some ⟨0,.int M⟩,some ⟨0,.int T⟩,some ⟨0,.int mm⟩,some ⟨0,.lst (ws.map .str)⟩,some ⟨0,.lst (pool.map .str)⟩,some ⟨0,.int cc⟩,some ⟨0,.lst (ns.map .str)⟩,some ⟨0,.int fam⟩,some ⟨0,.int srt⟩,some ⟨1,.lst (ts.map tiePV)⟩,v11,v12,v13,v14]/\ts.map Tie.nm=ns.take i/\ts.length=i/\∀ t∈ts,TieOk t) (i:=0) ⟨[],none,none,none,none,rfl,rfl,rfl,by simp⟩ ?_ ?_
 case refine_2 =>
  rintro e ⟨ts,v11,v12,v13,v14,rfl,g1,g2,g3⟩
  rw [jG,show ((cc:Int)).toNat=cc by omega,Nat.zero_add] at g1 g2
  show N _
  subst hN
  have hnm:ts.map Tie.nm=ns:=by rw [g1,<- nl,List.take_length]
  simp only [sRet,eTup,eCB,aCons,eSortS,eSortR]
  lia
  rw [cL,<- List.map_take]
  refine ⟨_,iW _,by rw [List.length_take]; omega,fun ss up=>aa rfl ?_⟩
  try lia
  refine ⟨_,lH ts,by rw [hnm]; exact nn,by rw [List.length_map]; omega,fun ix il ilt iw=>aa rfl ?_⟩
  rw [List.length_map] at ilt il
  rw [lU (a:=t0) ilt]
  refine h ss _ ⟨gG up.2 (up.1.nodup_iff.mpr (wn.sublist (List.take_sublist _ _))),fun x hx=>ww x (List.mem_of_mem_take (up.1.mem_iff.mp hx)),?_,fun t ht=>?_⟩ ?_ ?_
  ·rw [lU (a:=t0) ilt] at iw; exact iw
  ·obtain ⟨j,hj,rfl⟩:=List.mem_map.mp ht
   have:=ilt j hj
   rw [List.getD_eq_getElem?_getD,List.getElem?_eq_getElem this]
   exact g3 _ (List.getElem_mem _)
  ·rw [up.1.length_eq,List.length_take]; omega
  ·rw [List.length_map,il,g2]; omega
 rintro j x e M' hj ⟨ts,v11,v12,v13,v14,rfl,g1,g2,g3⟩ k
 obtain ⟨hjn,rfl⟩:=pG hj
 rw [Nat.zero_add] at g1 g2 k
 subst hB
 have hjn':j<ns.length:=by omega
 refine ah fun N hN=>?_
 lia
 refine ⟨rfl,fam,pool.length,j,by rw [List.length_map],by omega,by omega,fun x y x0 x1 y0 y1 xy=>?_⟩
 obtain ⟨x,rfl⟩:∃ z:Nat,x=(z:Int):=⟨x.toNat,by omega⟩
 obtain ⟨y,rfl⟩:∃ z:Nat,y=(z:Int):=⟨y.toNat,by omega⟩
 have hx:x<pool.length:=by omega
 have hy:y<pool.length:=by omega
 lia
 subst hN
 refine ah fun N hN=>?_
 simp only [sSet,eSortS]
 lia
 refine aa (lI hx) (aa (lI hy) ?_)
 refine ⟨[pool[x],pool[y]],rfl,(by show 2<64; decide),fun ss up=>?_⟩
 have hxy:pool[x]≠pool[y]:=fun e=>xy (by
  have:=(List.getElem_inj pnd).mp e
  omega)
 obtain ⟨u,v,rfl,uv,hu,hv⟩:=uY up.1 up.2 hxy
 have wu:IsWord u:=pw u (by rcases hu with e | e <;> rw [e] <;> exact List.getElem_mem _)
 have wv:IsWord v:=pw v (by rcases hv with e | e <;> rw [e] <;> exact List.getElem_mem _)
 subst hN
 lia
 refine aa (lI hjn') (aa (z:=.str u) (ai (j:=0) rfl) (aa (z:=.str v) (ai (j:=1) rfl) ?_))
 refine ⟨rfl,srt,rfl,fun c c0 c1=>?_⟩
 lia
 refine aa (mApp (by rw [List.length_map]; omega)) ?_
 refine k _ ⟨ts++[⟨ns[j],u,v,c⟩],some ⟨0,.int j⟩,some ⟨0,.int x⟩,some ⟨0,.int y⟩,some ⟨0,.lst [.str u,.str v]⟩,by rw [List.map_append]; rfl,?_,by rw [List.length_append,g2]; rfl,fun t ht=>?_⟩
 ·rw [List.map_append,g1]
  show ns.take j++[ns[j]]=ns.take (j+1)
  rw [List.take_succ,List.getElem?_eq_getElem hjn']; rfl
 ·rcases List.mem_append.mp ht with z | z
  ·exact g3 t z
  ·have:t=⟨ns[j],u,v,c⟩:=by simpa using z
   subst this
   exact ⟨nw _ (List.getElem_mem _),wu,wv,uv,c0,c1⟩
end Pre
namespace Pre
open PySem L2 Q
theorem vJ (a b:Nat):ltS (⟨#[a]⟩:Str) (⟨#[b]⟩:Str)↔a<b:=by
 show [a]<[b]↔a<b
 constructor
 ·intro h
  cases h with
  | rel h=>exact h
  | cons h=>cases h
 ·intro h; exact .rel h
theorem tH (c:Nat):((!decide (ltS ⟨#[c]⟩ (Str.ofString "a"))) && (!decide (ltS (Str.ofString "z") ⟨#[c]⟩)))=okc c:=by
 have e1:(Str.ofString "a")=⟨#[97]⟩:=by decide +kernel
 have e2:(Str.ofString "z")=⟨#[122]⟩:=by decide +kernel
 unfold okc
 rw [e1,e2]
 simp only [vJ]
 rw [Bool.eq_iff_iff]
 simp
theorem m5 (xs:List PV) (P:PV->Prop) (h:aY xs P):Q.run 1 cM xs P:=by
 obtain ⟨x,rfl,hx,h⟩:=h
 unfold cM
 cases x with
 | str s =>
  have hs:s.length<=1000:=hx
  have hs':s.length<=100000:=by omega
  have hc:s.cps.toList.length=s.length:=by simp [Str.length]
  lia
  rw [if_pos hs']
  lia
  have hw:wordP (.str s)=(decide (1<=s.length) && decide (s.length<=8) && s.cps.toList.all okc):=rfl
  rw [hw] at h
  by_cases h1:1<=s.length
  ·by_cases h2:s.length<=8
   ·have h1':(1:Int)<=(s.length:Int):=by omega
    have h2':(s.length:Int)<=8:=by omega
    simp only [h1',h2',decide_true,if_true,Bool.not_true,Bool.false_eq_true,if_false,bJ]
    refine bb (fun x=>match x with | .str s=>.bl ((!decide (ltS s (Str.ofString "a"))) && (!decide (ltS (Str.ofString "z") s))) | _=>.non) (fun x hx R hR=>?_) (by simp [signsP,hc]; omega) ?_
    ·unfold signsP at hx
     obtain ⟨c,hc,rfl⟩:=List.mem_map.mp hx
     simp only [capE,List.map_cons,List.map_nil,List.set_cons_zero]
     lia
     replace hR:R (.bl ((!decide (ltS ⟨#[c]⟩ (Str.ofString "a"))) && (!decide (ltS (Str.ofString "z") ⟨#[c]⟩)))) [some ⟨0,.str s⟩]:=hR
     cases q:decide (ltS ⟨#[c]⟩ (Str.ofString "a")) with
     | true=>rw [q] at hR; exact hR
     | false=>rw [q] at hR; exact hR
    ·have e:(signsP s).map (fun x=>match x with | .str s=>PV.bl ((!decide (ltS s (Str.ofString "a"))) && (!decide (ltS (Str.ofString "z") s))) | _=>.non)=(s.cps.toList.map okc).map PV.bl:=by
      unfold signsP
      rw [List.map_map,List.map_map]
      exact List.map_congr_left fun c _=>congrArg PV.bl (tH c)
     rw [List.nil_append,e]
     refine aa (da _) ?_
     simpa [h1,h2,List.all_map] using h
   ·have h2':¬ (s.length:Int)<=8:=by omega
    have h1':(1:Int)<=(s.length:Int):=by omega
    simp only [h1',h2',decide_true,decide_false,if_true,Bool.not_false,bJ]
    simpa [h1,h2] using h
  ·have h1':¬ (1:Int)<=(s.length:Int):=by omega
   simp only [h1',decide_false,Bool.false_eq_true,if_false,Bool.not_false,if_true,bJ]
   simpa [h1] using h
 | set _=>exact hx.elim
 | scr _=>exact hx.elim
 | _=>lia; exact h
theorem lZ (xs:List PV) (P:PV->Prop) (h:bX xs P):Q.run 1 cy xs P:=by
 obtain ⟨x,rfl,hx,h⟩:=h
 unfold cy
 cases x with
 | set _=>exact hx.elim
 | scr _=>exact hx.elim
 | _=>lia; exact h
theorem kf (ws:List Str):(zipP (ws.map PV.str) ((ws.drop 1).map PV.str))=(ws.zip (ws.drop 1)).map fun p=>PV.tup [.str p.1,.str p.2]:=by
 unfold zipP
 rw [List.zip_map,List.map_map]
 rfl
theorem lp (xs:List PV) (P:PV->Prop) (h:ck xs P):Q.run 1 cf xs P:=by
 obtain ⟨ws,hw,hl,h⟩:=h
 unfold cf
 have cut:cutP (ws.map PV.str) (some 1) none=(ws.drop 1).map PV.str:=by
  rw [show (1:Int)=((1:Nat):Int) from rfl,eF,List.map_drop]
 have main:∀ (x:PV),lcGo (tgW (.tp [0,1])) tYs (eOp ltPV (eV 0) (eVW 1)) [none,none] (fun x e1=>opt (allPV [x]) fun z=>P z) (zipP (ws.map PV.str) ((ws.drop 1).map PV.str)) [some ⟨0,x⟩] []:=fun x=>by
  rw [kf]
  refine bb (fun x=>match x with | .tup [.str a,.str b]=>.bl (decide (ltS a b)) | _=>.non) (fun x hx R hR=>?_) (by simp; omega) ?_
  ·obtain ⟨p,hp,rfl⟩:=List.mem_map.mp hx
   exact ⟨rfl,_,rfl,hR⟩
  ·rw [List.nil_append,List.map_map]
   refine aa (z:=.bl (risB ws)) ?_ h
   have:=da (risL ws)
   unfold risL at this
   rw [List.map_map] at this
   exact this
 rcases hw with rfl | rfl
 ·lia
  rw [cut]
  exact main _
 ·lia
  rw [cut]
  exact main _
theorem nA:∀ {ys:List PV},(∀ y∈ys,wordP y=true)->ys=(ys.filterMap strPV).map PV.str
 | [],_=>rfl
 | y::ys,e=>by
  have h:=e y (by simp)
  cases y with
  | str s=>exact congrArg (PV.str s::·) (nA fun x hx=>e x (by simp [hx]))
  | _=>cases h
theorem lr (xs:List PV) (P:PV->Prop) (h:de xs P):Q.run 1 cg xs P:=by
 obtain ⟨x,rfl,hx,h⟩:=h
 unfold cg
 cases x with
 | tup ys =>
  obtain ⟨hl,hy⟩:=hx
  lia
  refine bb (fun x=>.bl (wordP x)) (fun x hx R hR=>⟨x,rfl,hy x hx,hR⟩) (by simp; omega) ?_
  have e:ys.map (fun x=>PV.bl (wordP x))=(ys.map wordP).map PV.bl:=by rw [List.map_map]; rfl
  rw [List.nil_append,e,da,bJ]
  lia
  rw [List.all_map]
  have hw:wordsP (.tup ys)=(ys.all wordP && risB (ys.filterMap strPV)):=rfl
  rw [hw] at h
  cases e:ys.all wordP with
  | false =>
   rw [e] at h
   simp only [Function.id_comp,e]
   exact h
  | true =>
   rw [e] at h
   simp only [Function.id_comp,e]
   rw [List.all_eq_true] at e
   have es:ys=(ys.filterMap strPV).map PV.str:=nA fun y hy=>e y hy
   refine ⟨ys.filterMap strPV,.inl (by rw [<- es]),?_,h⟩
   have:=congrArg List.length es
   rw [List.length_map] at this
   omega
 | set _=>exact hx.elim
 | scr _=>exact hx.elim
 | _=>lia; exact h
theorem oC (xs:List PV) (P:PV->Prop) (h:fN xs P):Q.run 5 df xs P:=by
 obtain ⟨x,rfl,hx,h⟩:=h
 unfold df
 cases x with
 | tup ys =>
  obtain ⟨hl,hy⟩:=hx
  lia
  by_cases h4:ys.length=4
  ·obtain ⟨a,b,c,d,rfl⟩:∃ a b c d,ys=[a,b,c,d]:=by
    match ys,h4 with
    | [a,b,c,d],_=>exact ⟨a,b,c,d,rfl⟩
   have pa:=hy a (by simp)
   have pb:=hy b (by simp)
   have pc:=hy c (by simp)
   have pd:=hy d (by simp)
   rw [ne_int,bJ]
   lia
   refine ⟨a,rfl,pa,?_⟩
   have ht:tieP (.tup [a,b,c,d])=(wordP a && (wordP b && (wordP c && (ltP b c && wholeP d)))):=rfl
   rw [ht] at h
   show opt (some (wordP a)) _
   cases wa:wordP a with
   | false=>rw [wa] at h; exact opt_some.mpr h
   | true =>
   rw [wa,Bool.true_and] at h
   refine opt_some.mpr ⟨b,rfl,pb,?_⟩
   show opt (some (wordP b)) _
   cases wb:wordP b with
   | false=>rw [wb] at h; exact opt_some.mpr h
   | true =>
   rw [wb,Bool.true_and] at h
   refine opt_some.mpr ⟨c,rfl,pc,?_⟩
   show opt (some (wordP c)) _
   cases wc:wordP c with
   | false=>rw [wc] at h; exact opt_some.mpr h
   | true =>
   rw [wc,Bool.true_and] at h
   obtain ⟨x,rfl⟩:∃ x,b=.str x:=by cases b <;> first | exact ⟨_,rfl⟩ | cases wb
   obtain ⟨y,rfl⟩:∃ x,c=.str x:=by cases c <;> first | exact ⟨_,rfl⟩ | cases wc
   replace h:P (.bl (decide (ltS x y) && wholeP d)):=h
   refine opt_some.mpr ?_
   show opt (some _) _
   refine opt_some.mpr ?_
   show opt (some _) _
   refine opt_some.mpr ?_
   cases e:decide (ltS x y) with
   | false=>rw [e] at h; exact h
   | true=>rw [e,Bool.true_and] at h; exact ⟨d,rfl,pd,h⟩
  ·have e4:¬ ((ys.length:Int)=4):=by omega
   rw [ne_int,bJ]
   simp only [e4,decide_false]
   lia
   have ht:tieP (.tup ys)=false:=by
    unfold tieP
    split
    ·rename_i q; cases q; exact absurd rfl h4
    ·rfl
   rw [ht] at h
   exact h
 | set _=>exact hx.elim
 | scr _=>exact hx.elim
 | _=>lia; exact h
theorem ml:∀ {ys:List PV},(∀ y∈ys,∃ s r,y=.tup (.str s::r))->ys.map (fun y=>match y with | .tup (.str s::_)=>PV.str s | _=>.non)=(ys.filterMap nameP).map PV.str
 | [],_=>rfl
 | y::ys,nm=>by
  obtain ⟨s,r,rfl⟩:=nm y (by simp)
  exact congrArg (PV.str s::·) (ml fun y hy=>nm y (by simp [hy]))
theorem l0 (xs:List PV) (P:PV->Prop) (h:dQ xs P):Q.run 1 cz xs P:=by
 obtain ⟨x,rfl,hx,h⟩:=h
 unfold cz
 cases x with
 | tup ys =>
  obtain ⟨hl,hy⟩:=hx
  lia
  refine bb (fun x=>.bl (tieP x)) (fun x hx R hR=>⟨x,rfl,hy x hx,hR⟩) (by simp; omega) ?_
  have e:ys.map (fun x=>PV.bl (tieP x))=(ys.map tieP).map PV.bl:=by rw [List.map_map]; rfl
  rw [List.nil_append,e,da,bJ]
  lia
  rw [List.all_map]
  have hw:tiesP (.tup ys)=(ys.all tieP && risB (ys.filterMap nameP)):=rfl
  rw [hw] at h
  cases e:ys.all tieP with
  | false =>
   rw [e] at h
   simp only [Function.id_comp,e]
   exact h
  | true =>
   rw [e] at h
   simp only [Function.id_comp,e]
   rw [List.all_eq_true] at e
   have nm:∀ y∈ys,∃ s r,y=.tup (.str s::r):=fun y hy=>by
    have:=e y hy
    unfold tieP at this
    split at this
    ·rename_i a b c d
     cases wa:wordP a with
     | false=>rw [wa] at this; cases this
     | true=>cases a <;> first | exact ⟨_,_,rfl⟩ | cases wa
    ·cases this
   have es:ys.map (fun y=>match y with | .tup (.str s::_)=>PV.str s | _=>.non)=(ys.filterMap nameP).map PV.str:=by
    exact ml nm
   simp only [Bool.not_true,Bool.false_eq_true,if_false]
   refine bb (fun y=>match y with | .tup (.str s::_)=>PV.str s | _=>.non) (fun x hx R hR=>?_) (by simp; omega) ?_
   ·obtain ⟨s,r,rfl⟩:=nm x hx
    exact aa (z:=.str s) (ai (j:=0) rfl) hR
   ·rw [List.nil_append,es]
    refine ⟨_,.inr rfl,?_,h⟩
    have:=congrArg List.length es
    rw [List.length_map,List.length_map] at this
    omega
 | set _=>exact hx.elim
 | scr _=>exact hx.elim
 | _=>lia; exact h
theorem oD (xs:List PV) (P:PV->Prop) (h:fO xs P):Q.run 1 dg xs P:=by
 obtain ⟨x,rfl,hx,h⟩:=h
 unfold dg
 cases x with
 | tup ys =>
  lia
  by_cases h4:ys.length=2
  ·obtain ⟨a,b,rfl⟩:∃ a b,ys=[a,b]:=by
    match ys,h4 with
    | [a,b],_=>exact ⟨a,b,rfl⟩
   obtain ⟨pa,pb⟩:=hx
   rw [ne_int,bJ]
   lia
   have ht:netP (.tup [a,b])=(wordsP a && tiesP b):=rfl
   rw [ht] at h
   refine aa (z:=a) (ai (j:=0) rfl) ⟨a,rfl,pa,?_⟩
   show opt (some (wordsP a)) _
   refine opt_some.mpr ?_
   cases wa:wordsP a with
   | false=>rw [wa] at h; exact h
   | true =>
    rw [wa,Bool.true_and] at h
    exact aa (z:=b) (ai (j:=1) rfl) ⟨b,rfl,pb,h⟩
  ·have e4:¬ ((ys.length:Int)=2):=by omega
   rw [ne_int,bJ]
   simp only [e4,decide_false]
   lia
   have ht:netP (.tup ys)=false:=by
    unfold netP
    split
    ·rename_i q; cases q; exact absurd rfl h4
    ·rfl
   rw [ht] at h
   exact h
 | set _=>exact hx.elim
 | scr _=>exact hx.elim
 | _=>lia; exact h
theorem cD {x:Str} (h:IsWord x):Plain (.str x):=by
 have:=h.hi
 have e:x.length=x.cps.toList.length:=by simp [Str.length]
 show x.length<=1000
 omega
theorem pj {t:Tie} (h1:IsWord t.nm) (h2:IsWord t.one) (h3:IsWord t.oth):PlainT (tiePV t):=⟨(by show 4<=1000; decide),fun y hy=>by
 simp at hy
 rcases hy with rfl | rfl | rfl | rfl
 ·exact cD h1
 ·exact cD h2
 ·exact cD h3
 ·trivial⟩
theorem qi (us:List Tie):(us.map tiePV).filterMap nameP=us.map Tie.nm:=by
 induction us with
 | nil=>rfl
 | cons u us ih=>exact congrArg (u.nm::·) ih
theorem rl (us:List Str):(us.map PV.str).filterMap strPV=us:=by
 induction us with
 | nil=>rfl
 | cons u us ih=>exact congrArg (u::·) ih
theorem rj {t:Tie} (h:TieOk t):tieP (tiePV t)=true:=by
 have a:=wordB_iff.mpr h.nm
 have b:=wordB_iff.mpr h.one
 have c:=wordB_iff.mpr h.oth
 have d:=h.lt
 simp [tieP,tiePV,wordP,ltP,wholeP,a,b,c,d]
theorem lM {ws:List Str} (h:ws.Pairwise ltS):risB ws=true:=by
 unfold risB
 rw [List.all_eq_true]
 intro b hb
 obtain ⟨j,hj⟩:=List.getElem?_of_mem hb
 unfold risL at hj
 rw [List.getElem?_map] at hj
 cases e:(ws.zip (ws.drop 1))[j]? with
 | none=>rw [e] at hj; cases hj
 | some p =>
  rw [e] at hj
  rw [List.getElem?_zip_eq_some] at e
  obtain ⟨e1,e2⟩:=e
  rw [List.getElem?_drop,Nat.add_comm] at e2
  obtain ⟨l1,g1⟩:=List.getElem?_eq_some_iff.mp e1
  obtain ⟨l2,g2⟩:=List.getElem?_eq_some_iff.mp e2
  have:=List.pairwise_iff_getElem.mp h j (j+1) l1 l2 (by omega)
  rw [g1,g2] at this
  simp [this] at hj
  simp [<- hj]
theorem rZ {ps:List Str} {ts:List Tie} (h:NetOk ps ts):netP (netPV ps ts)=true:=by
 show (wordsP (.tup (ps.map .str)) && tiesP (.tup (ts.map tiePV)))=true
 have e1:wordsP (.tup (ps.map .str))=true:=by
  show ((ps.map PV.str).all wordP && risB ((ps.map PV.str).filterMap strPV))=true
  rw [rl,lM h.rise,Bool.and_true,List.all_eq_true]
  intro x hx
  obtain ⟨t,ht,rfl⟩:=List.mem_map.mp hx
  exact wordB_iff.mpr (h.word t ht)
 have e2:tiesP (.tup (ts.map tiePV))=true:=by
  show ((ts.map tiePV).all tieP && risB ((ts.map tiePV).filterMap nameP))=true
  rw [qi,lM h.names,Bool.and_true,List.all_eq_true]
  intro x hx
  obtain ⟨t,ht,rfl⟩:=List.mem_map.mp hx
  exact rj (h.tie t ht)
 rw [e1,e2]; rfl
end Pre
namespace Pre
open PySem L2 Q
theorem sO (n:Nat):allPV [.lst ((List.replicate n true).map .bl)]=some (.bl true):=by
 rw [da]
 congr 2
 induction n with
 | zero=>rfl
 | succ n ih=>rw [List.replicate_succ,List.all_cons,ih]; rfl
theorem sh (l:List PV):l.map (fun _=>PV.bl true)=(List.replicate l.length true).map .bl:=by
 rw [List.map_replicate]
 induction l with
 | nil=>rfl
 | cons a l ih=>rw [List.map_cons,List.length_cons,List.replicate_succ,ih]
theorem jS (a b:Str):nePV (.str a) (.str b)=some (.bl (!decide (a=b))):=by
 show some (PV.bl (!decide (V.str a=V.str b)))=_
 congr 3
 simp
theorem eq_str (i j:Str):eqqPV (.str i) (.str j)=some (.bl (i==j)):=rfl
theorem dZ {D:Fd} {d:Nat} (hD:∀ a,Tr d a->∀ Q:PV->Prop,Q (.bl true)->D [a,a] Q) (a:PV) (ha:Tr (d+1) a) (P:PV->Prop) (h:P (.bl true)):Q.run 2 (bV D) [a,a] P:=by
 unfold bV
 rcases ha with ⟨s,rfl⟩ | ⟨n,rfl⟩ | ⟨l,rfl,hl,hy⟩
 ·refine ah fun N hN=>aC fun A1 B1 hA1 hB1=>?_
  lia
  subst hB1
  show N _
  subst hN
  refine ah fun N hN=>aC fun A1 B1 hA1 hB1=>?_
  lia
  refine aa (z:=.bl false) rfl (aa (z:=false) rfl ?_)
  rw [if_neg (by simp)]
  subst hB1
  show N _
  subst hN
  refine ah fun N hN=>aC fun A1 B1 hA1 hB1=>?_
  lia
  subst hB1
  show N _
  subst hN
  refine ah fun N hN=>aC fun A1 B1 hA1 hB1=>?_
  lia
  subst hA1
  lia
  exact aa (z:=.bl true) (by rw [eq_str]; simp) h
 ·refine ah fun N hN=>aC fun A1 B1 hA1 hB1=>?_
  lia
  subst hB1
  show N _
  subst hN
  refine ah fun N hN=>aC fun A1 B1 hA1 hB1=>?_
  lia
  refine aa (z:=.bl false) rfl (aa (z:=false) rfl ?_)
  rw [if_neg (by simp)]
  subst hB1
  show N _
  subst hN
  refine ah fun N hN=>aC fun A1 B1 hA1 hB1=>?_
  lia
  subst hB1
  show N _
  subst hN
  refine ah fun N hN=>aC fun A1 B1 hA1 hB1=>?_
  lia
  subst hB1
  show N _
  subst hN
  lia
  exact aa (z:=.bl true) (by show some (PV.bl (n==n))=_; simp) h
 ·refine ah fun N hN=>aC fun A1 B1 hA1 hB1=>?_
  lia
  subst hA1
  refine ah fun N2 hN2=>aC fun A2 B2 hA2 hB2=>?_
  lia
  refine aa (z:=.bl false) (by rw [ne_int]; simp) (aa (z:=false) rfl ?_)
  rw [if_neg (by simp)]
  subst hB2
  show N2 _
  subst hN2
  lia
  have ez:zipP l l=l.map fun y=>.tup [y,y]:=by
   unfold zipP
   clear hy hl h
   induction l with
   | nil=>rfl
   | cons a l ih=>rw [List.zip_cons_cons,List.map_cons,List.map_cons,ih]
  rw [ez]
  refine bb (fun _=>.bl true) (fun z hz R hR=>?_) (by rw [List.length_map,List.length_nil]; omega) ?_
  ·obtain ⟨y,hy2,rfl⟩:=List.mem_map.mp hz
   exact ⟨rfl,hD y (hy y hy2) _ hR⟩
  rw [List.nil_append,sh]
  exact aa (sO _) h
theorem pT (xs:List PV) (P:PV->Prop) (h:gB xs P):Q.run 2 (bV fun _ _=>False) xs P:=by
 obtain ⟨a,rfl,ha,h⟩:=h
 exact dZ (d:=0) (fun a h=>h.elim) a ha P h
theorem pS (xs:List PV) (P:PV->Prop) (h:gA xs P):Q.run 2 (bV gB) xs P:=by
 obtain ⟨a,rfl,ha,h⟩:=h
 exact dZ (d:=1) (fun a h Q q=>⟨a,rfl,h,q⟩) a ha P h
theorem pR (xs:List PV) (P:PV->Prop) (h:gz xs P):Q.run 2 (bV gA) xs P:=by
 obtain ⟨a,rfl,ha,h⟩:=h
 exact dZ (d:=2) (fun a h Q q=>⟨a,rfl,h,q⟩) a ha P h
theorem rP (xs:List PV) (P:PV->Prop) (h:dR xs P):Q.run 2 (bV gz) xs P:=by
 obtain ⟨a,rfl,ha,h⟩:=h
 exact dZ (d:=3) (fun a h Q q=>⟨a,rfl,h,q⟩) a ha P h
theorem net1 (ps:List Str) (ts:List Tie):ixPV (netPV ps ts) (.int 1)=some (.tup (ts.map tiePV)):=ai (j:=1) rfl
theorem net0 (ps:List Str) (ts:List Tie):ixPV (netPV ps ts) (.int 0)=some (.tup (ps.map .str)):=ai (j:=0) rfl
end Pre
namespace Pre
open PySem L2 Q
theorem mK {α:Type} {g:WG} {fk ff:WE} {js:List (Option Nat)} {P:PV->En->Prop} {env:En} (f:α->Str) (v:α->PV) (X:α->PV):∀ {l done:List α},((done++l).map f).Nodup ->
  (∀ a∈l,∀ R:PV->PV->En->Prop,R (.str (f a)) (v a) env->g (X a) (capE js env) fun b1=>fk b1 fun kk b3=>ff b3 fun y b4=>R kk y (backE js env b4))->done.length+l.length<=100000 ->
  P (.dic ((done++l).map fun x=>((Sum.inr (f x):Key),v x))) env->dcGo g tYs fk ff js P (l.map X) env (done.map fun x=>((Sum.inr (f x):Key),v x))
 | [],done,_,_,_,k=>by rw [List.append_nil] at k; exact k
 | a::l,done,nd,h,hl,k=>by
  have hl':done.length+l.length+1<=100000:=by simpa [Nat.add_assoc] using hl
  rw [List.map_cons]
  simp only [dcGo,tYs,if_true]
  refine h a (by simp) (fun kk y e=>(done.map fun x=>((Sum.inr (f x):Key),v x)).length<=100000/\opt (keyP kk) fun key=>dcGo g tYs fk ff js P (l.map X) e (putP (done.map fun x=>((Sum.inr (f x):Key),v x)) key y)) ⟨by rw [List.length_map]; omega,aa (z:=Sum.inr (f a)) rfl ?_⟩
  have hn:f a∉done.map f:=fun z=>by
   rw [List.map_append,List.nodup_append] at nd
   exact nd.2.2 _ z _ (by simp) rfl
  rw [fF hn]
  have e:(done.map fun x=>((Sum.inr (f x):Key),v x))++[(Sum.inr (f a),v a)]=(done++[a]).map fun x=>((Sum.inr (f x):Key),v x):=by rw [List.map_append]; rfl
  rw [e]
  refine mK f v X (by rwa [List.append_assoc]) (fun b hb=>h b (List.mem_cons_of_mem _ hb)) (by simp; omega) ?_
  rw [List.append_assoc]; exact k
end Pre
namespace Pre
open PySem L2 Q
theorem ip (xs:List PV) (P:PV->Prop) (h:bv xs P):Q.run 1 bK xs P:=by
 obtain ⟨ps,ts,rfl,hl,nd,h⟩:=h
 unfold bK
 lia
 simp only [eDC]
 lia
 refine aa (net1 ps ts) ?_
 lia
 refine mK (done:=[]) Tie.nm tiePV tiePV nd (fun t ht R hR=>?_) (by simp; omega) h
 show opt (ixPV (tiePV t) (.int 0)) _
 refine aa (z:=.str t.nm) (ai (j:=0) rfl) ?_
 exact hR
theorem iR {w:Str} {P:PV->Prop} (h:IsWord w) (k:P (.bl true)):aY [.str w] P:=⟨_,rfl,cD h,by rw [show wordP (.str w)=true from wordB_iff.mpr h]; exact k⟩
theorem e7 (xs:List PV) (P:PV->Prop) (h:bo xs P):Q.run 1 bm xs P:=by
 obtain ⟨a,b,c,rfl,ha,hb,ne,h⟩:=h
 unfold bm
 refine ah fun N hN=>aC fun A1 B1 hA1 hB1=>?_
 lia
 refine aa (z:=.bl false) rfl ?_
 lia
 refine aa (z:=.str a) (ai (j:=0) rfl) (iR ha (aa (z:=true) rfl ?_))
 rw [if_neg (by simp)]
 refine aa (z:=.str b) (ai (j:=1) rfl) (iR hb (aa (z:=true) rfl ?_))
 rw [if_neg (by simp)]
 subst hB1
 show N _
 subst hN
 lia
 refine aa (z:=.str a) (ai (j:=0) rfl) (aa (z:=.str b) (ai (j:=1) rfl) (aa (jS a b) ?_))
 rw [decide_eq_false ne]
 refine aa (z:=true) rfl ?_
 rw [if_pos rfl]
 exact aa (z:=.int c) (ai (j:=2) rfl) ⟨.int c,rfl,trivial,h⟩
theorem b0 {x y:Str} (h:(x==y)=false):eqqPV (.str x) (.str y)=some (.bl false):=by rw [eq_str,h]
theorem fo (x:Str):eqqPV (.str x) (.str x)=some (.bl true):=by rw [eq_str]; simp
theorem cZ {k w:Str} {rest:List PV} {P:PV->Prop} (hk:IsWord k) (hw:IsWord w) (hl:rest.length<=10)
  (h:(k = "tie" /\ bo [.tup rest] P)\/(k = "cost" /\ ∃ c:Int,rest=[.int c]/\P (.bl true))\/(((k == "tie")=false/\(k == "cost")=false/\k∈[Str.ofString "place", "leave", "untie"])/\rest=[]/\P (.bl true))) :
  Q.run 2 b6 [.tup (.str k::.str w::rest)] P:=by
 unfold b6
 refine ah fun N hN=>aC fun A1 B1 hA1 hB1=>?_
 lia
 refine aa (z:=.str k) (ai (j:=0) rfl) (iR hk (aa (z:=true) rfl ?_))
 rw [if_neg (by simp)]
 refine aa (z:=.str w) (ai (j:=1) rfl) (iR hw (aa (z:=true) rfl ?_))
 rw [if_neg (by simp)]
 subst hB1
 show N _
 subst hN
 refine ah fun N hN=>?_
 lia
 have ec:cutP (.str k::.str w::rest) (some (2:Int)) none=rest:=by rw [show (2:Int)=((2:Nat):Int) from rfl,eF]; rfl
 rw [ec]
 show N [some ⟨0,.tup (.str k::.str w::rest)⟩,some ⟨0,.tup rest⟩]
 subst hN
 refine ah fun N hN=>aC fun A1 B1 hA1 hB1=>?_
 lia
 refine aa (z:=.str k) (ai (j:=0) rfl) ?_
 rcases h with ⟨rfl,h⟩ | ⟨rfl,c,rfl,h⟩ | ⟨⟨n1,n2,hm⟩,rfl,h⟩
 ·refine aa (fo _) ?_
  lia
  subst hA1
  lia
  exact h
 ·refine aa (b0 (by decide +kernel)) ?_
  lia
  subst hB1
  show N _
  subst hN
  refine ah fun N hN=>aC fun A1 B1 hA1 hB1=>?_
  lia
  refine aa (z:=.str "cost") (ai (j:=0) rfl) (aa (fo _) ?_)
  lia
  subst hA1
  lia
  refine aa (z:=.bl true) rfl ?_
  lia
  exact aa (z:=.int c) (ai (j:=0) rfl) ⟨.int c,rfl,trivial,h⟩
 ·refine aa (b0 n1) ?_
  lia
  subst hB1
  show N _
  subst hN
  refine ah fun N hN=>aC fun A1 B1 hA1 hB1=>?_
  lia
  refine aa (z:=.str k) (ai (j:=0) rfl) (aa (b0 n2) ?_)
  lia
  subst hB1
  show N _
  subst hN
  lia
  refine aa (z:=.str k) (ai (j:=0) rfl) (aa (kM (ys:=["place", "leave", "untie"])) ?_)
  rw [decide_eq_true (by simpa using hm)]
  lia
  exact aa (z:=.bl true) rfl h
theorem tj:IsWord "place" := wordB_iff.mp (by decide +kernel)
theorem tm:IsWord "leave" := wordB_iff.mp (by decide +kernel)
theorem wD:IsWord "tie" := wordB_iff.mp (by decide +kernel)
theorem tf:IsWord "untie" := wordB_iff.mp (by decide +kernel)
theorem uU:IsWord "cost" := wordB_iff.mp (by decide +kernel)
theorem m6 (xs:List PV) (P:PV->Prop) (h:cS xs P):Q.run 2 b6 xs P:=by
 obtain ⟨d,rfl,hd,h⟩:=h
 cases d with
 | pla p=>exact cZ tj hd (by simp) (.inr (.inr ⟨⟨by decide +kernel,by decide +kernel,by simp⟩,rfl,h⟩))
 | lea p=>exact cZ tm hd (by simp) (.inr (.inr ⟨⟨by decide +kernel,by decide +kernel,by simp⟩,rfl,h⟩))
 | tie n a b c=>exact cZ wD hd.1 (by simp) (.inl ⟨rfl,a,b,c,rfl,hd.2.1,hd.2.2.1,hd.2.2.2,h⟩)
 | unt n=>exact cZ tf hd (by simp) (.inr (.inr ⟨⟨by decide +kernel,by decide +kernel,by simp⟩,rfl,h⟩))
 | cos n c=>exact cZ uU hd (by simp) (.inr (.inl ⟨rfl,c,rfl,h⟩))
end Pre
namespace Pre
open PySem L2 Q
theorem rm {a b:List Str} (h:a.length+b.length<=100000):addPV (.tup (a.map .str)) (.tup (b.map .str))=some (.tup ((a++b).map .str)):=by
 show (if (a.map PV.str).length+(b.map PV.str).length<=100000 then some (PV.tup (a.map .str++b.map .str)) else none)=_
 rw [List.length_map,List.length_map,if_pos h,List.map_append]
noncomputable def offS (p:Str):PV->Option PV
 | .str q=>if q=p then none else some (.str q)
 | _=>none
noncomputable def offT (n:Str):PV->Option PV
 | .tup (.str q::r)=>if q=n then none else some (.tup (.str q::r))
 | _=>none
noncomputable def cosT (n:Str) (c:Int):PV->PV
 | .tup [.str q,a,b,d]=>if q=n then .tup [.str q,a,b,.int c] else .tup [.str q,a,b,d]
 | x=>x
theorem iy (p:Str):∀ ps:List Str,(ps.map PV.str).filterMap (offS p)=(ps.filter fun q=>!decide (q=p)).map .str
 | []=>rfl
 | q::qs=>by
  rw [List.map_cons,List.filterMap_cons,List.filter_cons]
  by_cases e:q=p
  ·simp only [offS,e,if_true,decide_true,Bool.not_true,Bool.false_eq_true,if_false]; exact iy p qs
  ·simp only [offS,e,if_false,decide_false,Bool.not_false,if_true,List.map_cons]; rw [iy p qs]
theorem iu (n:Str):∀ ts:List Tie,(ts.map tiePV).filterMap (offT n)=(ts.filter fun t=>!decide (t.nm=n)).map tiePV
 | []=>rfl
 | t::us=>by
  rw [List.map_cons,List.filterMap_cons,List.filter_cons]
  by_cases e:t.nm=n
  ·simp only [offT,tiePV,e,if_true,decide_true,Bool.not_true,Bool.false_eq_true,if_false]; exact iu n us
  ·simp only [offT,tiePV,e,if_false,decide_false,Bool.not_false,if_true,List.map_cons]; exact congrArg _ (iu n us)
theorem jb (xs:List PV) (P:PV->Prop) (h:bU xs P):Q.run 3 bT xs P:=by
 obtain ⟨ps,ts,p,rfl,S,⟨hw,hp⟩,h⟩:=h
 unfold bT
 refine ah fun N hN=>?_
 lia
 refine aa (z:=.str p) (ai (j:=1) rfl) ?_
 show N [some ⟨0,netPV ps ts⟩,some ⟨0,deedPV (.pla p)⟩,some ⟨0,.str p⟩]
 subst hN
 refine ah fun N hN=>aC fun A1 B1 hA1 hB1=>?_
 lia
 refine aa (net0 ps ts) (aa kM ?_)
 rw [decide_eq_false hp]
 lia
 subst hB1
 show N _
 subst hN
 simp only [sRet,eTup,eCB,aCons,eSortT]
 lia
 refine aa (net0 ps ts) (aa (rm (b:=[p]) (by have:=S.pl; simp; omega)) ?_)
 refine ⟨_,iW _,by rw [List.length_append]; have:=S.pl; simp; omega,fun gs up=>aa rfl (aa (net1 ps ts) ?_)⟩
 have nd:(ps++[p]).Nodup:=by
  rw [List.nodup_append]
  exact ⟨dl S.ok.rise,by simp,fun a ha b hb e=>hp (by rw [<- List.mem_singleton.mp hb,<- e]; exact ha)⟩
 have e:gs=insS p ps:=gH (up.1.trans (et p ps).symm) (gG up.2 (up.1.nodup_iff.mpr nd)) (kL S.ok.rise hp)
 subst e
 exact h
theorem iq (xs:List PV) (P:PV->Prop) (h:bQ xs P):Q.run 3 bL xs P:=by
 obtain ⟨ps,ts,p,rfl,S,hp,h⟩:=h
 have hp:p∈ps:=hp
 have hl:=S.pl
 unfold bL
 refine ah fun N hN=>?_
 lia
 refine aa (z:=.str p) (ai (j:=1) rfl) ?_
 show N [some ⟨0,netPV ps ts⟩,some ⟨0,deedPV (.lea p)⟩,some ⟨0,.str p⟩]
 subst hN
 refine ah fun N hN=>aC fun A1 B1 hA1 hB1=>?_
 lia
 refine aa (net0 ps ts) (aa (z:=.bl false) ?_ ?_)
 ·show (inB (.str p) (.tup (ps.map .str))).map (fun b=>PV.bl (!b))=_
  rw [gL,decide_eq_true hp]; rfl
 lia
 subst hB1
 show N _
 subst hN
 simp only [sRet,eTup,eCB,aCons,eLC]
 lia
 refine aa (net0 ps ts) ?_
 lia
 refine cr (offS p) (fun x hx R hR=>?_) (by simp; omega) ?_
 ·obtain ⟨q,hq,rfl⟩:=List.mem_map.mp hx
  show opt (nePV (.str q) (.str p)) _
  refine aa (jS q p) ?_
  have hR:R (if q=p then none else some (.str q)) _:=hR
  by_cases e:q=p
  ·rw [decide_eq_true e]
   rw [if_pos e] at hR
   exact aa (z:=false) rfl hR
  ·rw [decide_eq_false e]
   rw [if_neg e] at hR
   exact aa (z:=true) rfl hR
 rw [List.nil_append]
 rw [iy]
 exact aa rfl (aa (net1 ps ts) h)
theorem qL {ts:List Tie} {n:Str}:(valP (ts.map fun t=>((Sum.inr t.nm:Key),tiePV t)) (Sum.inr n)).isSome=decide (n∈ts.map Tie.nm):=by
 induction ts with
 | nil=>rfl
 | cons t ts ih =>
  rw [List.map_cons]
  by_cases e:t.nm=n
  ·rw [show valP ((Sum.inr t.nm,tiePV t)::ts.map fun t=>((Sum.inr t.nm:Key),tiePV t)) (Sum.inr n)=some (tiePV t) from by simp [valP,List.find?_cons,e]]
   simp [e]
  ·have e2:valP ((Sum.inr t.nm,tiePV t)::ts.map fun t=>((Sum.inr t.nm:Key),tiePV t)) (Sum.inr n)=valP (ts.map fun t=>((Sum.inr t.nm:Key),tiePV t)) (Sum.inr n):=by simp [valP,List.find?_cons,e]
   rw [e2,ih]
   simp [Ne.symm e]
theorem wM {ts:List Tie} {n:Str}:inPV (.str n) (.dic (ts.map fun t=>((Sum.inr t.nm:Key),tiePV t)))=some (.bl (decide (n∈ts.map Tie.nm))):=by
 show some (PV.bl (valP (ts.map fun t=>((Sum.inr t.nm:Key),tiePV t)) (Sum.inr n)).isSome)=_
 rw [qL]
theorem qg {ts:List Tie} {n:Str}:ninPV (.str n) (.dic (ts.map fun t=>((Sum.inr t.nm:Key),tiePV t)))=some (.bl (!decide (n∈ts.map Tie.nm))):=by
 show some (PV.bl (!(valP (ts.map fun t=>((Sum.inr t.nm:Key),tiePV t)) (Sum.inr n)).isSome))=_
 rw [qL]
theorem lY (xs:List PV) (P:PV->Prop) (h:cH xs P):Q.run 3 cx xs P:=by
 obtain ⟨ps,ts,n,rfl,S,hn,h⟩:=h
 have hn:n∈ts.map Tie.nm:=hn
 have hl:=S.tl
 unfold cx
 refine ah fun N hN=>?_
 lia
 refine aa (z:=.str n) (ai (j:=1) rfl) ?_
 show N [some ⟨0,netPV ps ts⟩,some ⟨0,deedPV (.unt n)⟩,some ⟨0,.str n⟩]
 subst hN
 refine ah fun N hN=>aC fun A1 B1 hA1 hB1=>?_
 lia
 refine ⟨ps,ts,rfl,by omega,cm S.ok,aa qg ?_⟩
 rw [decide_eq_true hn]
 lia
 subst hB1
 show N _
 subst hN
 simp only [sRet,eTup,eCB,aCons,eLC]
 lia
 refine aa (net0 ps ts) (aa (net1 ps ts) ?_)
 lia
 refine cr (offT n) (fun x hx R hR=>?_) (by simp; omega) ?_
 ·obtain ⟨t,ht,rfl⟩:=List.mem_map.mp hx
  show opt (ixPV (tiePV t) (.int 0)) _
  refine aa (z:=.str t.nm) (ai (j:=0) rfl) ?_
  refine aa (jS t.nm n) ?_
  have hR:R (if t.nm=n then none else some (tiePV t)) _:=hR
  by_cases e:t.nm=n
  ·rw [decide_eq_true e]
   rw [if_pos e] at hR
   exact aa (z:=false) rfl hR
  ·rw [decide_eq_false e]
   rw [if_neg e] at hR
   exact aa (z:=true) rfl hR
 rw [List.nil_append]
 rw [iu]
 exact aa rfl h
theorem ll (xs:List PV) (P:PV->Prop) (h:ci xs P):Q.run 4 cb xs P:=by
 obtain ⟨ps,ts,n,c,rfl,S,⟨hn,hc⟩,h⟩:=h
 have hl:=S.tl
 unfold cb
 refine ah fun N hN=>?_
 lia
 have ec:cutP [PV.str "cost",.str n,.int c] (some (1:Int)) none=[.str n,.int c]:=by rw [show (1:Int)=((1:Nat):Int) from rfl,eF]; rfl
 refine aa (z:=.tup [.str n,.int c]) (by show some (PV.tup (cutP [PV.str "cost",.str n,.int c] (some (1:Int)) none))=_; rw [ec]) ?_
 lia
 show N [some ⟨0,netPV ps ts⟩,some ⟨0,deedPV (.cos n c)⟩,some ⟨0,.str n⟩,some ⟨0,.int c⟩]
 subst hN
 refine ah fun N hN=>aC fun A1 B1 hA1 hB1=>?_
 lia
 refine ⟨ps,ts,rfl,by omega,cm S.ok,aa qg ?_⟩
 rw [decide_eq_true hn]
 lia
 subst hB1
 show N _
 subst hN
 simp only [sRet,eTup,eCB,aCons,eLC,eIf]
 lia
 refine aa (net0 ps ts) (aa (net1 ps ts) ?_)
 lia
 refine bb (cosT n c) (fun x hx R hR=>?_) (by simp; omega) ?_
 ·obtain ⟨t,ht,rfl⟩:=List.mem_map.mp hx
  show opt (ixPV (tiePV t) (.int 0)) _
  refine aa (z:=.str t.nm) (ai (j:=0) rfl) ?_
  refine aa (eq_str t.nm n) ?_
  have hR:R (if t.nm=n then .tup [.str t.nm,.str t.one,.str t.oth,.int c] else tiePV t) _:=hR
  by_cases e:t.nm=n
  ·rw [if_pos e] at hR
   rw [show (t.nm==n)=true from by simpa using e]
   lia
   refine aa (z:=.tup [.str t.nm,.str t.one,.str t.oth]) ?_ (aa rfl hR)
   show some (PV.tup (cutP [PV.str t.nm,.str t.one,.str t.oth,.int t.cost] none (some (3:Int))))=_
   rw [show (3:Int)=((3:Nat):Int) from rfl,cL]; rfl
  ·rw [if_neg e] at hR
   rw [show (t.nm==n)=false from by simpa using e]
   lia
   exact hR
 rw [List.nil_append]
 have e:(ts.map tiePV).map (cosT n c)=(chgT ts (.cos n c)).map tiePV:=by
  show _=(ts.map fun t=>if t.nm=n then { t with cost:=c } else t).map tiePV
  rw [List.map_map,List.map_map]
  refine List.map_congr_left fun t _=>?_
  show (if t.nm=n then PV.tup [.str t.nm,.str t.one,.str t.oth,.int c] else tiePV t)=tiePV (if t.nm=n then { t with cost:=c } else t)
  split <;> rfl
 rw [e]
 exact aa rfl h
end Pre
namespace Pre
open PySem L2 Q
theorem rh (ts:List Tie):(ts.map tiePV).mapM fstS=some (ts.map Tie.nm):=by
 induction ts with
 | nil=>rfl
 | cons t ts ih=>rw [List.map_cons,List.mapM_cons,ih]; rfl
theorem pi {ts:List Tie} {ix:List Nat} (h:∀ i∈ix,i<ts.length):(ix.map fun i=>(ts.map tiePV).getD i .non)=(ix.map fun i=>ts.getD i t0).map tiePV:=by
 rw [List.map_map]
 refine List.map_congr_left fun i hi=>?_
 show (ts.map tiePV).getD i .non=tiePV (ts.getD i t0)
 rw [List.getD_eq_getElem?_getD,List.getD_eq_getElem?_getD,List.getElem?_map,List.getElem?_eq_getElem (h i hi)]; rfl
theorem ub {ts:List Tie} {ix:List Nat} (h:∀ i∈ix,i<ts.length):(ix.map fun i=>(ts.map Tie.nm).getD i ⟨#[]⟩)=(ix.map fun i=>ts.getD i t0).map Tie.nm:=by
 rw [List.map_map]
 refine List.map_congr_left fun i hi=>?_
 show (ts.map Tie.nm).getD i ⟨#[]⟩=(ts.getD i t0).nm
 rw [List.getD_eq_getElem?_getD,List.getD_eq_getElem?_getD,List.getElem?_map,List.getElem?_eq_getElem (h i hi)]; rfl
theorem gW {us vs:List Tie} {ix:List Nat} (hp:us.Perm vs) (hv:(vs.map Tie.nm).Pairwise ltS) (hl:ix.length=us.length) (lt:∀ i∈ix,i<us.length) (up:(ix.map fun i=>(us.map Tie.nm).getD i ⟨#[]⟩).Pairwise ltS) :
  (ix.map fun i=>(us.map tiePV).getD i .non)=vs.map tiePV:=by
 rw [pi lt]
 rw [ub lt] at up
 have nd:ix.Nodup:=by
  have h1:=dl up
  rw [List.map_map] at h1
  exact List.nodup_iff_pairwise_ne.mpr ((List.pairwise_map.mp (List.nodup_iff_pairwise_ne.mp h1)).imp fun h e=>h (congrArg _ e))
 rw [lL ((ul hl nd lt).trans hp) up hv]
theorem vZ {ts:List Tie} {t:Tie} (h:ts.length<=60):addPV (.tup (ts.map tiePV)) (.tup [tiePV t])=some (.tup ((ts++[t]).map tiePV)):=by
 show (if (ts.map tiePV).length+1<=100000 then some (PV.tup (ts.map tiePV++[tiePV t])) else none)=_
 rw [List.length_map,if_pos (by omega),List.map_append]; rfl
theorem lm (xs:List PV) (P:PV->Prop) (h:cj xs P):Q.run 7 ce xs P:=by
 obtain ⟨ps,ts,n,a,b,c,rfl,S,⟨hn,ha,hb,hab,hnt,hc⟩,h⟩:=h
 have hl:=S.tl
 unfold ce
 refine ah fun N hN=>?_
 lia
 have ec:cutP [PV.str "tie",.str n,.str a,.str b,.int c] (some (1:Int)) none=[.str n,.str a,.str b,.int c]:=by rw [show (1:Int)=((1:Nat):Int) from rfl,eF]; rfl
 refine aa (z:=.tup [.str n,.str a,.str b,.int c]) (by show some (PV.tup (cutP [PV.str "tie",.str n,.str a,.str b,.int c] (some (1:Int)) none))=_; rw [ec]) ?_
 lia
 show N [some ⟨0,netPV ps ts⟩,some ⟨0,deedPV (.tie n a b c)⟩,some ⟨0,.str n⟩,some ⟨0,.str a⟩,some ⟨0,.str b⟩,some ⟨0,.int c⟩,none]
 subst hN
 refine ah fun N hN=>aC fun A1 B1 hA1 hB1=>?_
 lia
 refine ⟨ps,ts,rfl,by omega,cm S.ok,aa wM ?_⟩
 rw [decide_eq_false hnt]
 lia
 subst hB1
 show N _
 subst hN
 refine ah fun N hN=>?_
 lia
 refine aa (z:=.str (minS a b)) rfl (aa (z:=.str (maxS a b)) rfl ?_)
 show N [some ⟨0,netPV ps ts⟩,some ⟨0,deedPV (.tie n a b c)⟩,some ⟨0,.str n⟩,some ⟨0,.str a⟩,some ⟨0,.str b⟩,some ⟨0,.int c⟩,some ⟨0,tiePV (mkT n a b c)⟩]
 subst hN
 simp only [sRet,eTup,eCB,aCons,kl]
 lia
 refine aa (net0 ps ts) (aa (net1 ps ts) (aa (vZ hl) ?_))
 have nd:((ts++[mkT n a b c]).map Tie.nm).Nodup:=by
  rw [List.map_append,List.nodup_append]
  exact ⟨cm S.ok,by simp,fun x hx y hy e=>hnt (by rw [show y=n from List.mem_singleton.mp hy] at e; rw [<- e]; exact hx)⟩
 refine ⟨_,rh _,nd,by rw [List.length_map,List.length_append]; simp; omega,fun ix i1 i2 i3=>aa rfl ?_⟩
 rw [gW (er (mkT n a b c) ts).symm (kK S.ok.names hnt) (by simpa using i1) (by simpa using i2) i3]
 exact h
theorem sZ {ps:List Str} {ts:List Tie} (S:NetOk ps ts) {d:Deed} (h:DOk ps ts d):DW d:=by
 have nm:∀ n,n∈ts.map Tie.nm->IsWord n:=fun n hn=>by
  obtain ⟨t,ht,rfl⟩:=List.mem_map.mp hn
  exact (S.tie t ht).nm
 cases d with
 | pla p=>exact h.1
 | lea p=>exact S.word p h
 | tie n a b c=>exact ⟨h.1,h.2.1,h.2.2.1,h.2.2.2.1⟩
 | unt n=>exact nm n h
 | cos n c=>exact nm n h.1
theorem m7 (xs:List PV) (P:PV->Prop) (h:ca xs P):Q.run 3 cN xs P:=by
 obtain ⟨ps,ts,d,rfl,S,hd,h⟩:=h
 unfold cN
 refine ah fun N hN=>aC fun A1 B1 hA1 hB1=>?_
 lia
 refine ⟨d,rfl,sZ S.ok hd,?_⟩
 refine aa (z:=true) rfl ?_
 rw [if_neg (by simp)]
 subst hB1
 show N _
 subst hN
 simp only [sDisp]
 lia
 cases d with
 | pla p =>
  refine aa (z:=.str "place") (ai (j:=0) rfl) ?_
  exact ⟨_,rfl,ps,ts,p,rfl,S,hd,h⟩
 | lea p =>
  refine aa (z:=.str "leave") (ai (j:=0) rfl) ?_
  exact ⟨_,rfl,ps,ts,p,rfl,S,hd,h⟩
 | tie n a b c =>
  refine aa (z:=.str "tie") (ai (j:=0) rfl) ?_
  exact ⟨_,rfl,ps,ts,n,a,b,c,rfl,S,hd,h⟩
 | unt n =>
  refine aa (z:=.str "untie") (ai (j:=0) rfl) ?_
  exact ⟨_,rfl,ps,ts,n,rfl,S,hd,h⟩
 | cos n c =>
  refine aa (z:=.str "cost") (ai (j:=0) rfl) ?_
  exact ⟨_,rfl,ps,ts,n,c,rfl,S,hd,h⟩
end Pre
namespace Pre
open PySem L2 Q
theorem vz (c:PV) (xs:List PV) (P:PV->PV->Prop) (h:db c xs P):Q.runO 2 iT c xs P:=by
 obtain ⟨rfl,ys,hx,hne,hl,h⟩:=h
 have hp:0<ys.length:=List.length_pos_iff.mpr hne
 unfold iT
 rcases hx with rfl | rfl
 ·lia
  refine draw (by omega) (by omega) fun r hr=>?_
  refine aa (z:=ys[r]'(by omega)) (ai (List.getElem?_eq_getElem (by omega))) ?_
  exact h _ (List.getElem_mem _)
 ·lia
  refine draw (by omega) (by omega) fun r hr=>?_
  refine aa (z:=ys[r]'(by omega)) (ai (List.getElem?_eq_getElem (by omega))) ?_
  exact h _ (List.getElem_mem _)
theorem ui {ws tk:List Str} (nd:ws.Nodup) (h:tk.length<ws.length):ws.filter (fun w=>!decide (w∈tk))≠[]:=fun e=>by
 have:∀ w∈ws,w∈tk:=fun w hw=>Classical.byContradiction fun hn=>by
  have:w∈ws.filter (fun w=>!decide (w∈tk)):=List.mem_filter.mpr ⟨hw,by simp [hn]⟩
  rw [e] at this; cases this
 have:=cW nd this
 omega
noncomputable def notIn (tk:List Str):PV->Option PV
 | .str w=>if w∈tk then none else some (.str w)
 | _=>none
theorem cp (tk:List Str):∀ ws:List Str,(ws.map PV.str).filterMap (notIn tk)=(ws.filter fun w=>!decide (w∈tk)).map .str
 | []=>rfl
 | w::ws=>by
  rw [List.map_cons,List.filterMap_cons,List.filter_cons]
  by_cases e:w∈tk
  ·simp only [notIn,e,if_true,decide_true,Bool.not_true,Bool.false_eq_true,if_false]; exact cp tk ws
  ·simp only [notIn,e,if_false,decide_false,Bool.not_false,if_true,List.map_cons]; rw [cp tk ws]
theorem sW {tk:List Str} {w:Str}:ninPV (.str w) (.tup (tk.map .str))=some (.bl (!decide (w∈tk))):=by
 show (inB (.str w) (.tup (tk.map .str))).map (fun b=>PV.bl (!b))=_
 rw [gL]; rfl
theorem sX {tk:List Str} {w:Str}:ninPV (.str w) (.lst (tk.map .str))=some (.bl (!decide (w∈tk))):=by
 show (inB (.str w) (.lst (tk.map .str))).map (fun b=>PV.bl (!b))=_
 rw [sj]; rfl
theorem fH {tk:List Str} {x:PV} {w:Str} {R:Option PV->En->Prop} {e:En} {E1 E2:En} (hx:ninPV (.str w) x=some (.bl (!decide (w∈tk)))) (hR:R (notIn tk (.str w)) e) (h1:E1=e) (h2:E2=e) :
  opt (ninPV (.str w) x) fun z=>opt (match z with | .bl b=>some b | _=>none) fun ok=>if ok=true then R (some (.str w)) E1 else R none E2:=by
 subst h1 h2
 refine aa hx ?_
 have hR:R (if w∈tk then none else some (.str w)) _:=hR
 by_cases z:w∈tk
 ·rw [decide_eq_true z]; rw [if_pos z] at hR; exact aa (z:=false) rfl hR
 ·rw [decide_eq_false z]; rw [if_neg z] at hR; exact aa (z:=true) rfl hR
theorem pU (c:PV) (xs:List PV) (P:PV->PV->Prop) (h:eG c xs P):Q.runO 2 dX c xs P:=by
 obtain ⟨rfl,tk,hx,hl,h⟩:=h
 unfold dX
 have fin:∀ ws:List Str,ws.length=31->ws.Nodup->(∀ x∈ws,IsWord x)->∃ w,ixPV (.lst ((ws.filter fun w=>!decide (w∈tk)).map .str)) (.int 0)=some (.str w)/\IsWord w/\w∉tk:=fun ws hw nd ww=>by
  cases e:ws.filter (fun w=>!decide (w∈tk)) with
  | nil=>exact absurd e (ui nd (by omega))
  | cons w r =>
   have hm:w∈ws.filter (fun w=>!decide (w∈tk)):=by rw [e]; exact List.mem_cons_self
   obtain ⟨m1,m2⟩:=List.mem_filter.mp hm
   exact ⟨w,ai (j:=0) rfl,ww w m1,by simpa using m2⟩
 rcases hx with rfl | rfl
 ·lia
  try simp only [eLC]
  try lia
  refine ⟨rfl,31,rfl,by decide,fun ws hw nd ww=>?_⟩
  try lia
  refine cr (notIn tk) (fun x hx R hR=>?_) (by simp; omega) ?_
  ·obtain ⟨w,hw,rfl⟩:=List.mem_map.mp hx
   exact fH sX hR rfl rfl
  rw [List.nil_append,cp]
  obtain ⟨w,w1,w2,w3⟩:=fin ws hw nd ww
  exact aa w1 (h w w2 w3)
 ·lia
  try simp only [eLC]
  try lia
  refine ⟨rfl,31,rfl,by decide,fun ws hw nd ww=>?_⟩
  try lia
  refine cr (notIn tk) (fun x hx R hR=>?_) (by simp; omega) ?_
  ·obtain ⟨w,hw,rfl⟩:=List.mem_map.mp hx
   exact fH sW hR rfl rfl
  rw [List.nil_append,cp]
  obtain ⟨w,w1,w2,w3⟩:=fin ws hw nd ww
  exact aa w1 (h w w2 w3)
end Pre
namespace Pre
open PySem L2 Q
theorem j0 {a b:List Str} (h:a.length+b.length<=100000):addPV (.lst (a.map .str)) (.lst (b.map .str))=some (.lst ((a++b).map .str)):=by
 show (if (a.map PV.str).length+(b.map PV.str).length<=100000 then some (PV.lst (a.map .str++b.map .str)) else none)=_
 rw [List.length_map,List.length_map,if_pos h,List.map_append]
theorem n9 {ws:List Str} {i:Int} (h0:0<=i) (h1:i<ws.length):∃ w,ws[i.toNat]?=some w/\w∈ws/\ixPV (.lst (ws.map .str)) (.int i)=some (.str w):=by
 have hl:i.toNat<ws.length:=by omega
 obtain ⟨w,hw⟩:∃ w,ws[i.toNat]?=some w:=⟨_,List.getElem?_eq_getElem hl⟩
 refine ⟨w,hw,List.mem_of_getElem? hw,?_⟩
 have e:i=((i.toNat:Nat):Int):=by omega
 rw [e]
 exact ai (by rw [List.getElem?_map,hw]; rfl)
theorem m8 (c:PV) (xs:List PV) (P:PV->PV->Prop) (h:eT c xs P):Q.runO 7 cO c xs P:=by
 obtain ⟨rfl,ps,ts,far,rfl,ok,hp,ht,hf,fn,fw,h⟩:=h
 unfold cO
 refine ah fun N hN=>?_
 lia
 refine aa (net0 ps ts) (aa rfl (aa (j0 (by omega)) ?_))
 show N [some ⟨2,.non⟩,some ⟨0,netPV ps ts⟩,some ⟨0,.lst (far.map .str)⟩,some ⟨0,.lst ((ps++far).map .str)⟩,none,none,none]
 subst hN
 have pn:(ps++far).Nodup:=by
  rw [List.nodup_append]
  exact ⟨dl ok.rise,fn,fun a ha b hb e=>(fw b hb).2 (e ▸ ha)⟩
 have pw:∀ x∈ps++far,IsWord x:=fun x hx=>by
  rcases List.mem_append.mp hx with z | z
  ·exact ok.word x z
  ·exact (fw x z).1
 have pl:(ps++far).length<=72:=by rw [List.length_append]; omega
 generalize ps++far=pool at pn pw pl ⊢
 refine ah fun N hN=>aC fun A1 B1 hA1 hB1=>?_
 have tail:∀ pool:List Str,pool.Nodup->(∀ x∈pool,IsWord x)->pool.length<=100->2<=pool.length->N [some ⟨2,.non⟩,some ⟨0,netPV ps ts⟩,some ⟨0,.lst (far.map .str)⟩,some ⟨0,.lst (pool.map .str)⟩,none,none,none]:=by
  intro pool pn pw pl p2
  subst hN
  refine ah fun N hN=>?_
  lia
  rw [List.length_map]
  refine drawI (by omega) (by omega) fun a a0 a1=>?_
  try lia
  show N [some ⟨2,.non⟩,some ⟨0,netPV ps ts⟩,some ⟨0,.lst (far.map .str)⟩,some ⟨0,.lst (pool.map .str)⟩,some ⟨0,.int a⟩,none,none]
  subst hN
  refine ah fun N hN=>?_
  lia
  rw [List.length_map]
  refine aa bg (aa cA ?_)
  refine drawI (by omega) (by omega) fun d d0 d1=>?_
  refine aa bg (aa (dE (by omega)) ?_)
  have t:=turn a d pool.length (by omega) a0 a1 d0 d1
  obtain ⟨y,y1,y2,y3⟩:=n9 t.1 t.2.1
  refine aa y3 ?_
  show N [some ⟨2,.non⟩,some ⟨0,netPV ps ts⟩,some ⟨0,.lst (far.map .str)⟩,some ⟨0,.lst (pool.map .str)⟩,some ⟨0,.int a⟩,some ⟨0,.str y⟩,none]
  subst hN
  obtain ⟨x,x1,x2,x3⟩:=n9 a0 a1
  have hxy:x≠y:=fun e=>by
   subst e
   have l1:a.toNat<pool.length:=by omega
   have l2:((a+1+d) % (pool.length:Int)).toNat<pool.length:=by have:=t.1; have:=t.2.1; omega
   rw [List.getElem?_eq_getElem l1] at x1
   rw [List.getElem?_eq_getElem l2] at y1
   have:=(List.getElem_inj pn).mp ((Option.some.inj x1).trans (Option.some.inj y1).symm)
   have:=t.1
   exact t.2.2 (by omega)
  refine ah fun N hN=>?_
  simp only [sSet,eCallO,aCons,eLC]
  lia
  refine aa (net1 ps ts) ?_
  lia
  refine bb (fun z=>match z with | .tup (.str q::_)=>.str q | _=>.non) (fun z hz R hR=>?_) (by simp; omega) ?_
  ·obtain ⟨t,ht,rfl⟩:=List.mem_map.mp hz
   exact aa (z:=.str t.nm) (ai (j:=0) rfl) hR
  rw [List.nil_append]
  have en:(ts.map tiePV).map (fun z=>match z with | .tup (.str q::_)=>PV.str q | _=>.non)=(ts.map Tie.nm).map .str:=by
   rw [List.map_map,List.map_map]; rfl
  rw [en]
  refine ⟨rfl,ts.map Tie.nm,.inl rfl,by rw [List.length_map]; omega,fun n n1 n2=>?_⟩
  show N [some ⟨2,.non⟩,some ⟨0,netPV ps ts⟩,some ⟨0,.lst (far.map .str)⟩,some ⟨0,.lst (pool.map .str)⟩,some ⟨0,.int a⟩,some ⟨0,.str y⟩,some ⟨0,.str n⟩]
  subst hN
  lia
  refine aa x3 ?_
  try lia
  refine drawI (by omega) (by omega) fun q q0 q1=>?_
  refine ⟨rfl,q,rfl,fun co c0 c1=>?_⟩
  exact h n x y co ⟨n1,pw x x2,pw y y2,hxy,n2,c0,c1⟩
 have grow:∀ w0:En,w0=[some ⟨2,.non⟩,some ⟨0,netPV ps ts⟩,some ⟨0,.lst (far.map .str)⟩,some ⟨0,.lst (pool.map .str)⟩,none,none,none]->A1 { endO P with nx:=N } w0:=by
  rintro _ rfl
  subst hA1
  simp only [sSet,eSl,eLC]
  lia
  refine ⟨rfl,14,rfl,by decide,fun ws hw wn ww=>?_⟩
  try lia
  refine cr (notIn pool) (fun x hx R hR=>?_) (by simp; omega) ?_
  ·obtain ⟨w,hw,rfl⟩:=List.mem_map.mp hx
   exact fH sX hR rfl rfl
  rw [List.nil_append,cp]
  refine aa (z:=.lst (((ws.filter fun w=>!decide (w∈pool)).take 2).map .str)) ?_ (aa (j0 (by rw [List.length_take]; omega)) ?_)
  ·show some (PV.lst (cutP ((ws.filter fun w=>!decide (w∈pool)).map PV.str) none (some (2:Int))))=_
   rw [show (2:Int)=((2:Nat):Int) from rfl,cL,List.map_take]
  have m0:∀ x∈(ws.filter fun w=>!decide (w∈pool)).take 2,x∈ws/\x∉pool:=fun x hx=>by
   obtain ⟨m1,m2⟩:=List.mem_filter.mp (List.mem_of_mem_take hx)
   exact ⟨m1,by simpa using m2⟩
  refine tail _ ?_ (fun x hx=>?_) (by rw [List.length_append,List.length_take]; omega) ?_
  ·rw [List.nodup_append]
   exact ⟨pn,(wn.sublist List.filter_sublist).sublist (List.take_sublist _ _),fun a ha b hb e=>(m0 b hb).2 (e ▸ ha)⟩
  ·rcases List.mem_append.mp hx with z | z
   ·exact pw x z
   ·exact ww x (m0 x z).1
  ·rw [List.length_append,List.length_take]
   rcases Nat.lt_or_ge pool.length 2 with z | z
   ·have:14<=(ws.filter fun w=>!decide (w∈pool)).length+pool.length:=by
     have p1:=(List.filter_append_perm (fun w=>decide (w∈pool)) ws).length_eq
     rw [List.length_append,hw] at p1
     have p2:(ws.filter fun w=>decide (w∈pool)).length<=pool.length:=cW (wn.sublist List.filter_sublist) fun x hx=>by simpa using (List.mem_filter.mp hx).2
     omega
    omega
   ·omega
 lia
 rw [List.length_map]
 by_cases z:pool.length<2
 ·have e:decide (((pool.length:Nat):Int)<2)=true:=decide_eq_true (by omega)
  rw [e,if_pos rfl]
  exact grow _ rfl
 ·have e:decide (((pool.length:Nat):Int)<2)=false:=decide_eq_false (by omega)
  rw [e,if_neg (by simp)]
  refine drawI (by omega) (by omega) fun r r0 r1=>aa (bz _ _) ?_
  lia
  split
  ·exact grow _ rfl
  ·subst hB1
   exact tail pool pn pw (by omega) (by omega)
end Pre
namespace Pre
open PySem L2 Q
noncomputable def fstP:PV->PV
 | .tup (.str q::_)=>.str q
 | _=>.non
noncomputable def sndP:PV->PV
 | .tup (_::x::_)=>x
 | _=>.non
noncomputable def thdP:PV->PV
 | .tup (_::_::x::_)=>x
 | _=>.non
theorem ux (ts:List Tie):(ts.map tiePV).map fstP=(ts.map Tie.nm).map .str:=by rw [List.map_map,List.map_map]; rfl
theorem tF (ts:List Tie):(ts.map tiePV).map sndP=(ts.map Tie.one).map .str:=by rw [List.map_map,List.map_map]; rfl
theorem tw (ts:List Tie):(ts.map tiePV).map thdP=(ts.map Tie.oth).map .str:=by rw [List.map_map,List.map_map]; rfl
theorem mi (l:List Str):nePV (.lst (l.map .str)) (.lst [])=some (.bl (!(l.map PV.str).isEmpty)):=rfl
theorem ud (l:List Str):neT (.tup (l.map .str)) (.tup [])=some (.bl (!decide (l=[]))):=uc l []
theorem in34 (r:Int):∃ b,inPV (.int r) (.tup [.int 3,.int 4])=some (.bl b):=⟨_,rfl⟩
theorem rR (c:PV) (xs:List PV) (P:PV->PV->Prop) (h:iQ c xs P):Q.runO 6 fy c xs P:=by
 obtain ⟨rfl,ps,ts,rfl,ok,hp,ht,h⟩:=h
 unfold fy
 refine ah fun N hN=>?_
 simp only [sSet,eLC]
 lia
 refine aa (net1 ps ts) ?_
 lia
 refine bb fstP (fun z hz R hR=>?_) (by simp; omega) ?_
 ·obtain ⟨t,ht,rfl⟩:=List.mem_map.mp hz
  exact aa (z:=.str t.nm) (ai (j:=0) rfl) hR
 rw [List.nil_append,ux]
 show N [some ⟨2,.non⟩,some ⟨0,netPV ps ts⟩,some ⟨0,.lst ((ts.map Tie.nm).map .str)⟩,none,none,none]
 subst hN
 refine ah fun N hN=>?_
 simp only [sSet,iO,aCons,eLC]
 lia
 refine aa (net1 ps ts) ?_
 lia
 refine bb sndP (fun z hz R hR=>?_) (by simp; omega) ?_
 ·obtain ⟨t,ht,rfl⟩:=List.mem_map.mp hz
  exact aa (z:=.str t.one) (ai (j:=1) rfl) hR
 rw [List.nil_append,tF]
 try lia
 refine aa (net1 ps ts) ?_
 try lia
 refine bb thdP (fun z hz R hR=>?_) (by simp; omega) ?_
 ·obtain ⟨t,ht,rfl⟩:=List.mem_map.mp hz
  exact aa (z:=.str t.oth) (ai (j:=2) rfl) hR
 rw [List.nil_append,tw]
 refine aa (j0 (by simp; omega)) ?_
 have le:(ts.map Tie.one++ts.map Tie.oth).length<=60:=by rw [List.length_append,List.length_map,List.length_map]; omega
 have we:∀ x∈ts.map Tie.one++ts.map Tie.oth,IsWord x:=fun x hx=>by
  rcases List.mem_append.mp hx with z | z
  ·obtain ⟨t,ht,rfl⟩:=List.mem_map.mp z; exact (ok.tie t ht).one
  ·obtain ⟨t,ht,rfl⟩:=List.mem_map.mp z; exact (ok.tie t ht).oth
 generalize ts.map Tie.one++ts.map Tie.oth=en at le we ⊢
 have ld:=nW en
 refine ⟨en,iW en,by omega,by omega,fun gs up=>?_⟩
 show N [some ⟨2,.non⟩,some ⟨0,netPV ps ts⟩,some ⟨0,.lst ((ts.map Tie.nm).map .str)⟩,some ⟨0,.lst (gs.map .str)⟩,none,none]
 subst hN
 have gl:gs.length<=60:=by rw [up.1.length_eq]; omega
 have gn:gs.Nodup:=up.1.nodup_iff.mpr (qM en)
 have gw:∀ x∈gs,IsWord x:=fun x hx=>we x ((uG x en).mp (up.1.mem_iff.mp hx))
 refine ah fun N hN=>?_
 simp only [sSet,eLC]
 lia
 refine cr (notIn ps) (fun x hx R hR=>?_) (by simp; omega) ?_
 ·obtain ⟨w,hw,rfl⟩:=List.mem_map.mp hx
  refine aa (net0 ps ts) ?_
  exact fH sW hR rfl rfl
 rw [List.nil_append,cp]
 have fl:(gs.filter fun w=>!decide (w∈ps)).length<=60:=Nat.le_trans (List.length_filter_le _ _) gl
 have fn:(gs.filter fun w=>!decide (w∈ps)).Nodup:=gn.sublist List.filter_sublist
 have fw:∀ x∈gs.filter (fun w=>!decide (w∈ps)),IsWord x/\x∉ps:=fun x hx=>⟨gw x (List.mem_filter.mp hx).1,by simpa using (List.mem_filter.mp hx).2⟩
 generalize gs.filter (fun w=>!decide (w∈ps))=far at fl fn fw ⊢
 show N [some ⟨2,.non⟩,some ⟨0,netPV ps ts⟩,some ⟨0,.lst ((ts.map Tie.nm).map .str)⟩,some ⟨0,.lst (gs.map .str)⟩,some ⟨0,.lst (far.map .str)⟩,none]
 subst hN
 refine ah fun N hN=>?_
 lia
 refine drawI (by omega) (by omega) fun r r0 r1=>?_
 try lia
 show N [some ⟨2,.non⟩,some ⟨0,netPV ps ts⟩,some ⟨0,.lst ((ts.map Tie.nm).map .str)⟩,some ⟨0,.lst (gs.map .str)⟩,some ⟨0,.lst (far.map .str)⟩,some ⟨0,.int r⟩]
 generalize hE:[some (⟨2,.non⟩:Sl),some ⟨0,netPV ps ts⟩,some ⟨0,.lst ((ts.map Tie.nm).map .str)⟩,some ⟨0,.lst (gs.map .str)⟩,some ⟨0,.lst (far.map .str)⟩,some ⟨0,.int r⟩]=E0
 subst hN
 have hof:∀ n,n∈ts.map Tie.nm->(chgT ts (.unt n)).length<=30:=fun n _=>Nat.le_trans (List.length_filter_le _ _) ht
 refine ah fun N hN=>aC fun A1 B1 hA1 hB1=>?_
 have rest:N E0:=by
  subst hN
  refine ah fun N hN=>aC fun A1 B1 hA1 hB1=>?_
  have rest:N E0:=by
   subst hN
   refine ah fun N hN=>aC fun A1 B1 hA1 hB1=>?_
   have rest:N E0:=by
    subst hN
    refine ah fun N hN=>aC fun A1 B1 hA1 hB1=>?_
    have rest:N E0:=by
     subst hN
     refine ah fun N hN=>aC fun A1 B1 hA1 hB1=>?_
     subst hE
     lia
     rw [List.length_map,List.length_map]
     by_cases z:ts.length<30
     ·rw [decide_eq_true (show ((ts.length:Nat):Int)<30 by omega),if_pos rfl]
      subst hA1
      lia
      refine ⟨rfl,ps,ts,far,rfl,ok,hp,z,fl,fn,fw,fun n a b co hd=>?_⟩
      exact h _ hd hp (by have:=(gQ (ps:=ps) (ts:=ts) (.tie n a b co)).2; omega)
     ·rw [decide_eq_false (show ¬ ((ts.length:Nat):Int)<30 by omega),if_neg (by simp)]
      subst hB1
      show N _
      subst hN
      lia
      refine ⟨rfl,_,.inl rfl,?_,by simp; omega,fun y hy=>?_⟩
      ·intro e
       have e2:=congrArg List.length e
       rw [List.length_map,List.length_map] at e2
       exact absurd e2 (show ts.length≠0 by omega)
      ·obtain ⟨n,hn,rfl⟩:=List.mem_map.mp hy
       exact h (.unt n) hn hp (hof n hn)
    subst hE
    lia
    obtain ⟨b,hb⟩:=in34 r
    refine aa hb ?_
    lia
    split
    ·refine aa (mi _) (aa rfl ?_)
     split
     ·rename_i hne
      subst hA1
      lia
      refine ⟨rfl,_,.inl rfl,(fun e=>by rw [e] at hne; cases hne),by simp; omega,fun y hy=>?_⟩
      obtain ⟨n,hn,rfl⟩:=List.mem_map.mp hy
      try lia
      refine drawI (by omega) (by omega) fun q q0 q1=>?_
      refine ⟨rfl,q,rfl,fun co c0 c1=>?_⟩
      exact h (.cos n co) ⟨hn,c0,c1⟩ hp (by show (ts.map _).length<=30; rw [List.length_map]; exact ht)
     ·subst hB1; exact rest
    ·subst hB1; exact rest
   subst hE
   lia
   refine aa (bz _ _) ?_
   lia
   split
   ·refine aa (mi _) (aa rfl ?_)
    split
    ·rename_i hne
     subst hA1
     lia
     refine ⟨rfl,_,.inl rfl,(fun e=>by rw [e] at hne; cases hne),by simp; omega,fun y hy=>?_⟩
     obtain ⟨n,hn,rfl⟩:=List.mem_map.mp hy
     exact h (.unt n) hn hp (hof n hn)
    ·subst hB1; exact rest
   ·subst hB1; exact rest
  subst hE
  lia
  refine aa (bz _ _) ?_
  lia
  split
  ·refine aa (net0 ps ts) (aa (ud ps) (aa rfl ?_))
   split
   ·rename_i hne
    subst hA1
    lia
    refine aa (net0 ps ts) ?_
    try lia
    refine ⟨rfl,_,.inr rfl,fun e=>?_,by simp; omega,fun y hy=>?_⟩
    ·have:ps=[]:=List.map_eq_nil_iff.mp e
     rw [this] at hne; simp at hne
    ·obtain ⟨n,hn,rfl⟩:=List.mem_map.mp hy
     exact h (.lea n) hn (Nat.le_trans (List.length_filter_le _ _) hp) ht
   ·subst hB1; exact rest
  ·subst hB1; exact rest
 subst hE
 lia
 refine aa (bz _ _) ?_
 lia
 split
 ·refine aa (net0 ps ts) ?_
  lia
  rw [List.length_map]
  by_cases z:ps.length<12
  ·rw [decide_eq_true (show ((ps.length:Nat):Int)<12 by omega),if_pos rfl]
   have hpl:∀ w,IsWord w->w∉ps->P (deedPV (.pla w)) .non:=fun w w1 w2=>h (.pla w) ⟨w1,w2⟩ (by have:=(gQ (ps:=ps) (ts:=ts) (.pla w)).1; omega) ht
   subst hA1
   refine ah fun N2 hN2=>aC fun A2 B2 hA2 hB2=>?_
   have rest2:∀ e2:En,e2=[some ⟨2,.non⟩,some ⟨0,netPV ps ts⟩,some ⟨0,.lst ((ts.map Tie.nm).map .str)⟩,some ⟨0,.lst (gs.map .str)⟩,some ⟨0,.lst (far.map .str)⟩,some ⟨0,.int r⟩]->N2 e2:=by
    rintro _ rfl
    subst hN2
    lia
    refine aa (net0 ps ts) ?_
    try lia
    exact ⟨rfl,ps,.inr rfl,by omega,fun w w1 w2=>hpl w w1 w2⟩
   lia
   refine aa (mi _) (aa rfl ?_)
   split
   ·rename_i hne
    refine drawI (by omega) (by omega) fun q q0 q1=>?_
    try lia
    split
    ·subst hA2
     lia
     refine ⟨rfl,_,.inl rfl,(fun e=>by rw [e] at hne; cases hne),by simp; omega,fun y hy=>?_⟩
     obtain ⟨n,hn,rfl⟩:=List.mem_map.mp hy
     exact hpl n (fw n hn).1 (fw n hn).2
    ·subst hB2; exact rest2 _ rfl
   ·subst hB2; exact rest2 _ rfl
  ·rw [decide_eq_false (show ¬ ((ps.length:Nat):Int)<12 by omega),if_neg (by simp)]
   subst hB1; exact rest
 ·subst hB1; exact rest
end Pre
namespace Pre
open PySem L2 Q
theorem nK {α:Type} (f:α->Str) (g:α->PV):∀ l:List α,(l.map fun x=>PV.tup [.str (f x),g x]).mapM pairK=some (l.map fun x=>((Sum.inr (f x):Key),g x))
 | []=>rfl
 | x::l=>by rw [List.map_cons,List.mapM_cons,nK f g l]; rfl
theorem mI {α:Type} (f:α->Str) (g:α->PV):∀ (l done:List α),((done++l).map f).Nodup->(l.map fun x=>((Sum.inr (f x):Key),g x)).foldl (fun acc kv=>putP acc kv.1 kv.2) (done.map fun x=>((Sum.inr (f x):Key),g x))=(done++l).map fun x=>((Sum.inr (f x):Key),g x)
 | [],done,_=>by rw [List.append_nil]; rfl
 | x::l,done,nd=>by
  rw [List.map_cons,List.foldl_cons]
  have hn:f x∉done.map f:=fun z=>by
   rw [List.map_append,List.nodup_append] at nd
   exact nd.2.2 _ z _ (by simp) rfl
  show List.foldl _ (putP _ (Sum.inr (f x)) (g x)) _=_
  rw [fF hn]
  have e:(done.map fun x=>((Sum.inr (f x):Key),g x))++[(Sum.inr (f x),g x)]=(done++[x]).map fun x=>((Sum.inr (f x):Key),g x):=by rw [List.map_append]; rfl
  rw [e,mI f g l (done++[x]) (by rwa [List.append_assoc]),List.append_assoc]; rfl
theorem nU {α:Type} (f:α->Str) (g:α->PV) (l:List α) (nd:(l.map f).Nodup) (hl:l.length<=1000):dictPV [.lst (l.map fun x=>PV.tup [.str (f x),g x])]=some (.dic (l.map fun x=>((Sum.inr (f x):Key),g x))):=by
 show (if (l.map fun x=>PV.tup [.str (f x),g x]).length<=1000 then ((l.map fun x=>PV.tup [.str (f x),g x]).mapM pairK).map (fun kvs=>PV.dic (dispP kvs)) else none)=_
 rw [if_pos (by simpa using hl),nK]
 show some (PV.dic (dispP _))=_
 have:=mI f g l [] (by simpa using nd)
 rw [List.nil_append] at this
 unfold dispP
 rw [show ([]:List (Key×PV))=([]:List α).map fun x=>((Sum.inr (f x):Key),g x) from rfl,this]
end Pre
namespace Pre
open PySem L2 Q
noncomputable def plD (ks:List Str):PV:=.dic (ks.map fun p=>((Sum.inr p:Key),PV.bl true))
noncomputable def tiD (us:List Tie):PV:=.dic (us.map fun t=>((Sum.inr t.nm:Key),tiePV t))
theorem vN (ks:List Str):((ks.map fun p=>((Sum.inr p:Key),PV.bl true)).map (·.1)).mapM keyStr=some ks:=by
 induction ks with
 | nil=>rfl
 | cons k ks ih=>rw [List.map_cons,List.map_cons,List.mapM_cons,ih]; rfl
theorem uV (us:List Tie):(us.map fun t=>((Sum.inr t.nm:Key),tiePV t)).map (·.2)=us.map tiePV:=by rw [List.map_map]; rfl
theorem vb {ps:List Str} {p:Str} (h:p∉ps) (hl:ps.length<=60):setPV (plD ps) (.str p) (.bl true)=some (plD (ps++[p])):=by
 show (if (ps.map fun p=>((Sum.inr p:Key),PV.bl true)).length<=100000 then some (PV.dic (putP (ps.map fun p=>((Sum.inr p:Key),PV.bl true)) (Sum.inr p) (.bl true))) else none)=_
 rw [List.length_map,if_pos (by omega)]
 have:=fF (f:=fun p:Str=>p) (g:=fun _=>PV.bl true) (l:=ps) (y:=p) (v:=.bl true) (by simpa using h)
 rw [this]
 unfold plD
 rw [List.map_append]; rfl
theorem u9 {ts:List Tie} {t:Tie} (h:t.nm∉ts.map Tie.nm) (hl:ts.length<=60):setPV (tiD ts) (.str t.nm) (tiePV t)=some (tiD (ts++[t])):=by
 show (if (ts.map fun t=>((Sum.inr t.nm:Key),tiePV t)).length<=100000 then some (PV.dic (putP (ts.map fun t=>((Sum.inr t.nm:Key),tiePV t)) (Sum.inr t.nm) (tiePV t))) else none)=_
 rw [List.length_map,if_pos (by omega)]
 have:=fF (f:=Tie.nm) (g:=tiePV) (l:=ts) (y:=t.nm) (v:=tiePV t) h
 rw [this]
 unfold tiD
 rw [List.map_append]; rfl
theorem uF (ps:List Str) (p:Str):dropP (ps.map fun p=>((Sum.inr p:Key),PV.bl true)) (Sum.inr p)=(ps.filter fun q=>!decide (q=p)).map fun p=>((Sum.inr p:Key),PV.bl true):=by
 unfold dropP
 rw [List.filter_map]
 refine congrArg _ (List.filter_congr fun q _=>?_)
 show decide ((Sum.inr q:Key)≠Sum.inr p)=_
 by_cases e:q=p <;> simp [e]
theorem uE (ts:List Tie) (n:Str):dropP (ts.map fun t=>((Sum.inr t.nm:Key),tiePV t)) (Sum.inr n)=(ts.filter fun t=>!decide (t.nm=n)).map fun t=>((Sum.inr t.nm:Key),tiePV t):=by
 unfold dropP
 rw [List.filter_map]
 refine congrArg _ (List.filter_congr fun q _=>?_)
 show decide ((Sum.inr q.nm:Key)≠Sum.inr n)=_
 by_cases e:q.nm=n <;> simp [e]
theorem uW {ps:List Str} {p:Str} (nd:ps.Nodup) (h:p∈ps):valP (ps.map fun p=>((Sum.inr p:Key),PV.bl true)) (Sum.inr p)=some (.bl true) :=
 hU (f:=fun p:Str=>p) (g:=fun _=>PV.bl true) (l:=ps) (a:=p) (by simpa using nd) h
theorem o9 {ts:List Tie} {t:Tie} (nd:(ts.map Tie.nm).Nodup) (h:t∈ts):valP (ts.map fun t=>((Sum.inr t.nm:Key),tiePV t)) (Sum.inr t.nm)=some (tiePV t) :=
 hU (f:=Tie.nm) (g:=tiePV) nd h
theorem qf {ts:List Tie} (nd:(ts.map Tie.nm).Nodup):∀ {t u:Tie},t∈ts->u∈ts->t.nm=u.nm->t=u:=by
 induction ts with
 | nil=>intro t u h; cases h
 | cons a ts ih =>
  rw [List.map_cons,List.nodup_cons] at nd
  intro t u ht hu e
  rcases List.mem_cons.mp ht with z1 | z1 <;> rcases List.mem_cons.mp hu with z2 | z2
  ·rw [z1,z2]
  ·exact absurd (List.mem_map.mpr ⟨u,z2,(z1 ▸ e).symm⟩) nd.1
  ·exact absurd (List.mem_map.mpr ⟨t,z1,z2 ▸ e⟩) nd.1
  ·exact ih nd.2 z1 z2 e
theorem tQ {ts:List Tie} {t:Tie} {c:Int} (nd:(ts.map Tie.nm).Nodup) (h:t∈ts) (hl:ts.length<=60):setPV (tiD ts) (.str t.nm) (tiePV { t with cost:=c })=some (tiD (chgT ts (.cos t.nm c))):=by
 show (if (ts.map fun t=>((Sum.inr t.nm:Key),tiePV t)).length<=100000 then some (PV.dic (putP (ts.map fun t=>((Sum.inr t.nm:Key),tiePV t)) (Sum.inr t.nm) (tiePV { t with cost:=c }))) else none)=_
 rw [List.length_map,if_pos (by omega)]
 unfold putP
 rw [if_pos (by rw [List.any_eq_true]; exact ⟨_,List.mem_map_of_mem h,by simp⟩)]
 refine congrArg (fun l=>some (PV.dic l)) ?_
 show _=(ts.map fun u=>if u.nm=t.nm then { u with cost:=c } else u).map fun t=>((Sum.inr t.nm:Key),tiePV t)
 rw [List.map_map,List.map_map]
 refine List.map_congr_left fun u hu=>?_
 show (if (Sum.inr u.nm:Key)=Sum.inr t.nm then ((Sum.inr u.nm:Key),tiePV { t with cost:=c }) else (Sum.inr u.nm,tiePV u))=((Sum.inr (if u.nm=t.nm then { u with cost:=c } else u).nm:Key),tiePV (if u.nm=t.nm then { u with cost:=c } else u))
 by_cases e:u.nm=t.nm
 ·obtain rfl:=qf nd hu h e
  simp
 ·rw [if_neg (by simpa using e),if_neg e]
theorem na (xs:List PV) (P:PV->Prop) (h:eU xs P):Q.run 5 cP xs P:=by
 obtain ⟨ps,ts,d,rfl,S,hd,h⟩:=h
 have pl:=S.pl
 have tl:=S.tl
 have pn:=dl S.ok.rise
 have tn:=cm S.ok
 have ok':=qS S.ok hd
 unfold cP
 refine ah fun N hN=>?_
 simp only [sSetO,eCB,aCons,eLC]
 lia
 refine aa (net0 ps ts) ?_
 lia
 refine bb (fun x=>.tup [x,.bl true]) (fun x hx R hR=>?_) (by simp; omega) ?_
 ·obtain ⟨p,hp,rfl⟩:=List.mem_map.mp hx
  exact hR
 rw [List.nil_append,List.map_map]
 refine aa (nU (fun p:Str=>p) (fun _=>PV.bl true) ps (by simpa using pn) (by omega)) ?_
 show N [some ⟨0,netPV ps ts⟩,some ⟨0,deedPV d⟩,some ⟨1,plD ps⟩,none,none]
 subst hN
 refine ah fun N hN=>?_
 simp only [sSetO,eCB,aCons,eLC]
 lia
 refine aa (net1 ps ts) ?_
 lia
 refine bb (fun x=>.tup [fstP x,x]) (fun x hx R hR=>?_) (by simp; omega) ?_
 ·obtain ⟨t,ht,rfl⟩:=List.mem_map.mp hx
  refine aa (z:=.str t.nm) (ai (j:=0) rfl) ?_
  exact hR
 rw [List.nil_append,List.map_map]
 refine aa (nU Tie.nm tiePV ts tn (by omega)) ?_
 show N [some ⟨0,netPV ps ts⟩,some ⟨0,deedPV d⟩,some ⟨1,plD ps⟩,some ⟨1,tiD ts⟩,none]
 subst hN
 refine ah fun N hN=>?_
 have tail:∀ (ks:List Str) (us:List Tie) (v4:Option Sl),ks.Perm (chgP ps d)->us.Perm (chgT ts d)->N [some ⟨0,netPV ps ts⟩,some ⟨0,deedPV d⟩,some ⟨1,plD ks⟩,some ⟨1,tiD us⟩,v4]:=by
  intro ks us v4 p1 p2
  have cl:=gQ (ps:=ps) (ts:=ts) d
  subst hN
  simp only [sRet,eTup,eCB,aCons,eSortS,eSortV]
  lia
  refine ⟨ks,vN ks,by rw [p1.length_eq]; omega,fun gs up=>aa rfl ?_⟩
  have e:gs=chgP ps d:=gH (up.1.trans p1) (gG up.2 ((up.1.trans p1).nodup_iff.mpr (dl ok'.rise))) ok'.rise
  subst e
  simp only [tiD]
  rw [uV]
  refine ⟨us.map Tie.nm,lH us,?_,(by rw [List.length_map,p2.length_eq]; omega),fun ix i1 i2 i3=>aa rfl ?_⟩
  ·exact (p2.map Tie.nm).nodup_iff.mpr (cm ok')
  ·rw [List.length_map] at i1 i2
   rw [gW p2 ok'.names i1 i2 i3]
   exact h
 refine aC fun A1 B1 hA1 hB1=>?_
 lia
 cases d with
 | pla p =>
  refine aa (z:=.str "place") (ai (j:=0) rfl) (aa (fo _) ?_)
  lia
  subst hA1
  simp only [sPut]
  lia
  refine aa (z:=.str p) (ai (j:=1) rfl) ?_
  try lia
  refine aa (vb hd.2 pl) ?_
  exact tail _ _ _ (et p ps).symm (.refl _)
 | lea p =>
  refine aa (z:=.str "leave") (ai (j:=0) rfl) (aa (b0 (by decide +kernel)) ?_)
  lia
  subst hB1
  refine aC fun A1 B1 hA1 hB1=>?_
  lia
  refine aa (z:=.str "leave") (ai (j:=0) rfl) (aa (fo _) ?_)
  lia
  subst hA1
  simp only [sDrop,eDPop]
  lia
  refine ⟨⟨_,rfl⟩,aa (z:=.str p) (ai (j:=1) rfl) ?_⟩
  show ∃ z,valP (ps.map fun p=>((Sum.inr p:Key),PV.bl true)) (Sum.inr p)=some z/\_
  refine ⟨_,uW pn hd,?_⟩
  rw [uF]
  exact tail _ _ _ (.refl _) (.refl _)
 | unt n =>
  refine aa (z:=.str "untie") (ai (j:=0) rfl) (aa (b0 (by decide +kernel)) ?_)
  lia
  subst hB1
  refine aC fun A1 B1 hA1 hB1=>?_
  lia
  refine aa (z:=.str "untie") (ai (j:=0) rfl) (aa (b0 (by decide +kernel)) ?_)
  lia
  subst hB1
  refine aC fun A1 B1 hA1 hB1=>?_
  lia
  refine aa (z:=.str "untie") (ai (j:=0) rfl) (aa (fo _) ?_)
  lia
  subst hA1
  obtain ⟨t,ht,rfl⟩:=List.mem_map.mp (show n∈ts.map Tie.nm from hd)
  simp only [sDrop,eDPop]
  lia
  refine ⟨⟨_,rfl⟩,aa (z:=.str t.nm) (ai (j:=1) rfl) ?_⟩
  show ∃ z,valP (ts.map fun t=>((Sum.inr t.nm:Key),tiePV t)) (Sum.inr t.nm)=some z/\_
  refine ⟨_,o9 tn ht,?_⟩
  rw [uE]
  exact tail _ _ _ (.refl _) (.refl _)
 | cos n c =>
  refine aa (z:=.str "cost") (ai (j:=0) rfl) (aa (b0 (by decide +kernel)) ?_)
  lia
  subst hB1
  refine aC fun A1 B1 hA1 hB1=>?_
  lia
  refine aa (z:=.str "cost") (ai (j:=0) rfl) (aa (b0 (by decide +kernel)) ?_)
  lia
  subst hB1
  refine aC fun A1 B1 hA1 hB1=>?_
  lia
  refine aa (z:=.str "cost") (ai (j:=0) rfl) (aa (b0 (by decide +kernel)) ?_)
  lia
  subst hB1
  refine aC fun A1 B1 hA1 hB1=>?_
  lia
  refine aa (z:=.str "cost") (ai (j:=0) rfl) (aa (fo _) ?_)
  lia
  subst hA1
  obtain ⟨t,ht,rfl⟩:=List.mem_map.mp (show n∈ts.map Tie.nm from hd.1)
  simp only [sPut,eOpS]
  lia
  refine ⟨rfl,aa (z:=.str t.nm) (ai (j:=1) rfl) ?_⟩
  try lia
  refine aa (z:=tiePV t) (show ixPV (tiD ts) (.str t.nm)=_ from o9 tn ht) ?_
  try lia
  refine aa (z:=.tup [.str t.nm,.str t.one,.str t.oth]) ?_ ?_
  ·show some (PV.tup (cutP [PV.str t.nm,.str t.one,.str t.oth,.int t.cost] none (some (3:Int))))=_
   rw [show (3:Int)=((3:Nat):Int) from rfl,cL]; rfl
  try lia
  refine aa (z:=.int c) (ai (j:=2) rfl) (aa (z:=tiePV { t with cost:=c }) rfl ?_)
  try lia
  refine aa (z:=.str t.nm) (ai (j:=1) rfl) ?_
  try lia
  refine aa (tQ tn ht tl) ?_
  exact tail _ _ _ (.refl _) (.refl _)
 | tie n a b c =>
  refine aa (z:=.str "tie") (ai (j:=0) rfl) (aa (b0 (by decide +kernel)) ?_)
  lia
  subst hB1
  refine aC fun A1 B1 hA1 hB1=>?_
  lia
  refine aa (z:=.str "tie") (ai (j:=0) rfl) (aa (b0 (by decide +kernel)) ?_)
  lia
  subst hB1
  refine aC fun A1 B1 hA1 hB1=>?_
  lia
  refine aa (z:=.str "tie") (ai (j:=0) rfl) (aa (b0 (by decide +kernel)) ?_)
  lia
  subst hB1
  refine aC fun A1 B1 hA1 hB1=>?_
  lia
  refine aa (z:=.str "tie") (ai (j:=0) rfl) (aa (b0 (by decide +kernel)) ?_)
  lia
  subst hB1
  obtain ⟨h1,h2,h3,h4,h5,h6⟩:=hd
  refine ah fun N2 hN2=>?_
  simp only [sSet,eSortT,aCons]
  lia
  refine aa (z:=.tup [.str a,.str b]) rfl ?_
  refine ⟨[a,b],rfl,(by show 2<64; decide),fun gs up=>?_⟩
  have eg:gs=[minS a b,maxS a b]:=by
   have lt:=jj h4
   have pp:[a,b].Perm [minS a b,maxS a b]:=by
    unfold minS maxS
    rcases jY a b with z | z | z
    ·rw [if_neg (jk z),if_pos z]
    ·exact absurd z h4
    ·rw [if_pos z,if_neg (jk z)]; exact List.Perm.swap ..
   have r2:[minS a b,maxS a b].Pairwise ltS:=by simp [lt]
   exact gH (up.1.trans pp) (gG up.2 ((up.1.trans pp).nodup_iff.mpr (dl r2))) r2
  subst eg
  show N2 [some ⟨0,netPV ps ts⟩,some ⟨0,deedPV (.tie n a b c)⟩,some ⟨1,plD ps⟩,some ⟨1,tiD ts⟩,some ⟨0,.lst [.str (minS a b),.str (maxS a b)]⟩]
  subst hN2
  simp only [sPut]
  lia
  refine aa (z:=.str n) (ai (j:=1) rfl) (aa (z:=.str (minS a b)) (ai (j:=0) rfl) (aa (z:=.str (maxS a b)) (ai (j:=1) rfl) (aa (z:=.int c) (ai (j:=4) rfl) ?_)))
  try lia
  refine aa (z:=.str n) (ai (j:=1) rfl) ?_
  try lia
  refine aa (u9 (t:=mkT n a b c) h5 tl) ?_
  exact tail _ _ _ (.refl _) (er (mkT n a b c) ts).symm
end Pre
namespace Pre
open PySem L2 Q
theorem iV (d:Nat) (s:Str):Tr (d+1) (.str s):=.inl ⟨s,rfl⟩
theorem u4 (d:Nat) (t:Tie):Tr (d+2) (tiePV t):=.inr (.inr ⟨_,rfl,by simp,fun y hy=>by
 simp only [List.mem_cons,List.not_mem_nil,or_false] at hy
 rcases hy with rfl | rfl | rfl | rfl
 ·exact iV d _
 ·exact iV d _
 ·exact iV d _
 ·exact .inr (.inl ⟨_,rfl⟩)⟩)
theorem lG {ps:List Str} {ts:List Tie} (S:NetS ps ts):Tr 4 (netPV ps ts):=.inr (.inr ⟨_,rfl,by simp,fun y hy=>by
 simp only [List.mem_cons,List.not_mem_nil,or_false] at hy
 rcases hy with rfl | rfl
 ·refine .inr (.inr ⟨_,rfl,by rw [List.length_map]; have:=S.pl; omega,fun z hz=>?_⟩)
  obtain ⟨s,_,rfl⟩:=List.mem_map.mp hz
  exact iV 1 s
 ·refine .inr (.inr ⟨_,rfl,by rw [List.length_map]; have:=S.tl; omega,fun z hz=>?_⟩)
  obtain ⟨s,_,rfl⟩:=List.mem_map.mp hz
  exact u4 0 s⟩)
theorem tI {x:PV} {ns:List Int} (m:Nat) (hx:x=.scr ns\/x=.lst (ns.map .int)):∃ zs,slPV x none (some (m:Int))=some (.lst zs)/\zs.length<=m:=by
 rcases hx with rfl | rfl
 ·exact ⟨_,rfl,by rw [cL]; simp; omega⟩
 ·exact ⟨_,rfl,by rw [cL]; simp; omega⟩
end Pre
namespace Pre
open PySem L2 Q
theorem qh {ps:List Str} {ts:List Tie} (S:NetS ps ts):PlainN (netPV ps ts):=by
 have:=S.pl
 have:=S.tl
 refine ⟨⟨by rw [List.length_map]; omega,fun y hy=>?_⟩,⟨by rw [List.length_map]; omega,fun y hy=>?_⟩⟩
 ·obtain ⟨p,hp,rfl⟩:=List.mem_map.mp hy
  exact cD (S.ok.word p hp)
 ·obtain ⟨t,ht,rfl⟩:=List.mem_map.mp hy
  have q:=S.ok.tie t ht
  exact pj q.nm q.one q.oth
theorem r8 (ts:List Tie):∃ b,neT (.tup (ts.map tiePV)) (.tup [])=some (.bl b)/\(b=true->ts≠[]):=by
 refine ⟨!((ts.map tiePV).length==0),?_,fun h e=>by rw [e] at h; cases h⟩
 show ((((ts.map tiePV).zip []).mapM fun p=>eqPV 59 p.1 p.2).map fun bs=>bs.all id && (ts.map tiePV).length==0).map (fun b=>PV.bl (!b))=_
 rw [List.zip_nil_right]; rfl
noncomputable def triPV (q:List Str×List Tie×Deed):PV:=.tup [netPV q.1 q.2.1,deedPV q.2.2,netPV (chgP q.1 q.2.2) (chgT q.2.1 q.2.2)]
structure PstOk (q:List Str×List Tie×Deed):Prop where
 S:NetS q.1 q.2.1
 d:DOk q.1 q.2.1 q.2.2
 s2:NetS (chgP q.1 q.2.2) (chgT q.2.1 q.2.2)
theorem wS {ps:List Str} {ts:List Tie} {d:Deed} (h:NetOk ps ts) (hd:DOk ps ts d) (hp:ps.length<=12) (ht:ts.length<=30):NetS (chgP ps d) (chgT ts d):=by
 have:=gQ (ps:=ps) (ts:=ts) d
 exact ⟨qS h hd,by omega,by omega⟩
theorem sK {ps:List Str} {ts:List Tie} {t:Tie} (ok:NetOk ps ts) (h:t∈ts):chgT ts (.cos t.nm t.cost)=ts:=by
 show (ts.map fun u=>if u.nm=t.nm then { u with cost:=t.cost } else u)=ts
 rw [show ts.map (fun u=>if u.nm=t.nm then { u with cost:=t.cost } else u)=ts.map id from List.map_congr_left fun u hu=>?_,List.map_id]
 by_cases e:u.nm=t.nm
 ·obtain rfl:=qf (cm ok) hu h e
  rw [if_pos rfl]; rfl
 ·rw [if_neg e]; rfl
theorem tW (ns:List Int) (x:PV) (hn:ns.length<=63) (hx:x=.scr ns\/x=.lst (ns.map .int)):Q.run 10 gD [x] fun r=>r=.bl true:=by
 unfold gD
 refine ah fun N hN=>?_
 show Q.sBegin 1 0 _ [some ⟨0,x⟩,none,none,none,none,none,none,none,none,none]
 refine ⟨⟨ns,hx,hn⟩,?_⟩
 show N [some ⟨0,x⟩,some ⟨4,.non⟩,none,none,none,none,none,none,none,none]
 subst hN
 obtain ⟨zs,ez,lz⟩:=tI 9 hx
 refine ah fun N hN=>fe fun G B hG hB=>?_
 simp only [iR1,aCons,aNil,eOp,eC,eCB,eSl,eV,oNone,oSome,intPV,bJ,List.getElem?_cons_zero]
 refine aa ez ?_
 lia
 refine aa (z:=.int (2+(zs.length:Int))) rfl ?_
 refine ⟨by omega,by omega,?_⟩
 generalize rngP 0 _=rs
 subst hG hB
 refine cu (fun j e=>∃ v2 v3 v4 v5 v6 v7 v8 v9:Option Sl,e=[some ⟨0,x⟩,some ⟨4,.non⟩,v2,v3,v4,v5,v6,v7,v8,v9]) (i:=0) ⟨none,none,none,none,none,none,none,none,rfl⟩ ?_ ?_
 case refine_2 =>
  rintro e ⟨v2,v3,v4,v5,v6,v7,v8,v9,rfl⟩
  show N _
  subst hN
  lia
  try rfl
 rintro j y e M hy ⟨v2,v3,v4,v5,v6,v7,v8,v9,rfl⟩ k
 show sSeq _ _ _ [some ⟨0,x⟩,some ⟨4,.non⟩,some ⟨0,y⟩,v3,v4,v5,v6,v7,v8,v9]
 refine ah fun N hN=>?_
 lia
 refine ⟨rfl,11,29,rfl,by decide,by decide,by decide,by decide,fun ps ts ok hp ht=>?_⟩
 lia
 show N [some ⟨0,x⟩,some ⟨4,.non⟩,some ⟨0,y⟩,some ⟨0,netPV ps ts⟩,v4,v5,v6,v7,v8,v9]
 subst hN
 refine ah fun N hN=>?_
 lia
 show N [some ⟨0,x⟩,some ⟨4,.non⟩,some ⟨0,y⟩,some ⟨0,netPV ps ts⟩,some ⟨1,.lst []⟩,v5,v6,v7,v8,v9]
 subst hN
 refine ah fun N hN=>fe fun G B hG hB=>?_
 lia
 refine drawI (by omega) (by omega) fun r r0 r1=>?_
 try lia
 refine ⟨by omega,by omega,?_⟩
 have hl:(rngP 0 r.toNat).length<=999:=by rw [jG]; omega
 generalize rngP 0 r.toNat=rs2 at hl ⊢
 subst hG hB
 refine cu (fun j e=>∃ (ps:List Str) (ts:List Tie) (past:List (List Str×List Tie×Deed)) (v5 v6 v7 v8 v9:Option Sl),e=[some ⟨0,x⟩,some ⟨4,.non⟩,some ⟨0,y⟩,some ⟨0,netPV ps ts⟩,some ⟨1,.lst (past.map triPV)⟩,v5,v6,v7,v8,v9] /\
  NetOk ps ts/\ps.length<=12/\ts.length<=30/\(∀ q∈past,PstOk q)/\past.length=j) (i:=0) ⟨ps,ts,[],v5,v6,v7,v8,v9,rfl,ok,by omega,by omega,by simp,rfl⟩ ?_ ?_
 case refine_1 =>
  rintro j z e M2 hz ⟨ps,ts,past,v5,v6,v7,v8,v9,rfl,ok,hp,ht,hq,hj⟩ k2
  have hj9:j<1000:=by
   have:=(List.getElem?_eq_some_iff.mp hz).1
   omega
  show sSeq _ _ _ [some ⟨0,x⟩,some ⟨4,.non⟩,some ⟨0,y⟩,some ⟨0,netPV ps ts⟩,some ⟨1,.lst (past.map triPV)⟩,some ⟨0,z⟩,v6,v7,v8,v9]
  refine ah fun N hN=>?_
  lia
  refine ⟨rfl,ps,ts,rfl,ok,hp,ht,fun d hd c1 c2=>?_⟩
  lia
  show N [some ⟨0,x⟩,some ⟨4,.non⟩,some ⟨0,y⟩,some ⟨0,netPV ps ts⟩,some ⟨1,.lst (past.map triPV)⟩,some ⟨0,z⟩,some ⟨0,deedPV d⟩,v7,v8,v9]
  subst hN
  have S:NetS ps ts:=⟨ok,by omega,by omega⟩
  have S2:=wS ok hd hp ht
  refine ah fun N hN=>?_
  lia
  refine ⟨ps,ts,d,rfl,S,hd,?_⟩
  show N [some ⟨0,x⟩,some ⟨4,.non⟩,some ⟨0,y⟩,some ⟨0,netPV ps ts⟩,some ⟨1,.lst (past.map triPV)⟩,some ⟨0,z⟩,some ⟨0,deedPV d⟩,some ⟨0,netPV (chgP ps d) (chgT ts d)⟩,v8,v9]
  subst hN
  refine ah fun N hN=>aC fun A1 B1 hA1 hB1=>?_
  lia
  refine ⟨d,rfl,sZ ok hd,?_⟩
  refine aa (z:=.bl false) rfl (aa (z:=false) rfl ?_)
  rw [if_neg (by simp)]
  refine ⟨ps,ts,d,rfl,S,hd,?_⟩
  refine ⟨netPV (chgP ps d) (chgT ts d),rfl,lG S2,?_⟩
  refine aa (z:=true) rfl ?_
  rw [if_neg (by simp)]
  refine ⟨_,rfl,qh S2,?_⟩
  rw [rZ S2.ok]
  refine aa (z:=.bl false) rfl (aa (z:=false) rfl ?_)
  rw [if_neg (by simp)]
  subst hB1
  show N _
  subst hN
  refine ah fun N hN=>?_
  lia
  refine aa (mApp (by rw [List.length_map]; omega)) ?_
  have ea:past.map triPV++[PV.tup [netPV ps ts,deedPV d,netPV (chgP ps d) (chgT ts d)]]=(past++[(ps,ts,d)]).map triPV:=by rw [List.map_append]; rfl
  rw [ea]
  show N [some ⟨0,x⟩,some ⟨4,.non⟩,some ⟨0,y⟩,some ⟨0,netPV ps ts⟩,some ⟨1,.lst ((past++[(ps,ts,d)]).map triPV)⟩,some ⟨0,z⟩,some ⟨0,deedPV d⟩,some ⟨0,netPV (chgP ps d) (chgT ts d)⟩,v8,v9]
  subst hN
  lia
  refine k2 _ ⟨chgP ps d,chgT ts d,past++[(ps,ts,d)],_,_,_,_,_,rfl,S2.ok,c1,c2,fun q hq2=>?_,by rw [List.length_append]; simp; omega⟩
  rcases List.mem_append.mp hq2 with w | w
  ·exact hq q w
  ·rw [List.mem_singleton.mp w]; exact ⟨S,hd,S2⟩
 rintro e ⟨ps,ts,past,v5,v6,v7,v8,v9,rfl,ok,hp,ht,hq,hj⟩
 show N _
 subst hN
 have S:NetS ps ts:=⟨ok,by omega,by omega⟩
 refine ah fun N hN=>fe fun G B hG hB=>?_
 lia
 subst hG hB
 refine cu (fun j e=>∃ v6 v7 v8:Option Sl,e=[some ⟨0,x⟩,some ⟨4,.non⟩,some ⟨0,y⟩,some ⟨0,netPV ps ts⟩,some ⟨0,.lst (past.map triPV)⟩,v5,v6,v7,v8,v9]) (i:=0) ⟨_,_,_,rfl⟩ ?_ ?_
 case refine_1 =>
  rintro j z e M2 hz ⟨v6,v7,v8,rfl⟩ k2
  rw [List.getElem?_map,Option.map_eq_some_iff] at hz
  obtain ⟨q,hq1,rfl⟩:=hz
  have qo:=hq q (List.mem_of_getElem? hq1)
  obtain ⟨ps',ts',d⟩:=q
  have S2:NetS (chgP ps' d) (chgT ts' d):=qo.s2
  simp only [triPV]
  lia
  refine ⟨ps',ts',d,rfl,qo.S,qo.d,?_⟩
  refine ⟨netPV (chgP ps' d) (chgT ts' d),rfl,lG S2,?_⟩
  refine aa (z:=true) rfl ?_
  rw [if_neg (by simp)]
  exact k2 _ ⟨_,_,_,rfl⟩
 rintro e ⟨v6,v7,v8,rfl⟩
 show N _
 subst hN
 refine aC fun A1 B1 hA1 hB1=>?_
 lia
 obtain ⟨b,hb,hb2⟩:=r8 ts
 refine aa (net1 ps ts) (aa hb (aa rfl ?_))
 split
 ·rename_i hbt
  subst hA1
  refine ah fun N hN=>?_
  lia
  refine aa (net1 ps ts) ?_
  try lia
  refine ⟨rfl,_,.inr rfl,fun e=>hb2 hbt (List.map_eq_nil_iff.mp e),by rw [List.length_map]; omega,fun w hw=>?_⟩
  obtain ⟨t,ht2,rfl⟩:=List.mem_map.mp hw
  try lia
  show N [some ⟨0,x⟩,some ⟨4,.non⟩,some ⟨0,y⟩,some ⟨0,netPV ps ts⟩,some ⟨0,.lst (past.map triPV)⟩,v5,v6,v7,v8,some ⟨0,tiePV t⟩]
  subst hN
  refine aC fun A1 B1 hA1 hB1=>?_
  try lia
  refine aa (z:=.str t.nm) (ai (j:=0) rfl) (aa (z:=.int t.cost) (ai (j:=3) rfl) ?_)
  refine ⟨ps,ts,.cos t.nm t.cost,rfl,S,⟨List.mem_map_of_mem ht2,(ok.tie t ht2).lo,(ok.tie t ht2).hi⟩,?_⟩
  rw [sK ok ht2]
  refine ⟨netPV ps ts,rfl,lG S,?_⟩
  refine aa (z:=true) rfl ?_
  rw [if_neg (by simp)]
  subst hB1
  exact k _ ⟨_,_,_,_,_,_,_,_,rfl⟩
 ·subst hB1
  exact k _ ⟨_,_,_,_,_,_,_,_,rfl⟩
end Pre
namespace Pre
open PySem L2 Q
section
variable {P:Program} {w:World} {K:PySem.W.Frag} {mg:Str->Option Value} {base:Heap}
theorem jT:(["sign"]:List Str).Nodup:=by decide +kernel
theorem lK:aD ["thing"] ["thing"] (av jE):=⟨rfl,rfl,rfl,by decide +kernel,rfl,by decide +kernel,by decide +kernel⟩
theorem mX (Y:Ev K mg):FnOk P w K mg base CX0 1 Y.fIsWord.f Y.fIsWord.fd ["thing"] (spQ ⟨P,w,K,obG K⟩ 1 (run 1 cM)) :=
 bq Y.fIsWord.F lK (by decide) (fun cdv A outer s H E hr=>by
  unfold cM
  exact (af (aH (bS (bG (aX (aR (EvS.w (bp "str" (by decide) Y.b_isinstance Y.b_str PyProof.Rows.boot_str (ao 0 (pv 0)))))) (bW (aX (sC lA jc lA jc ad (aV be bf (by rfl) Y.b_len PySem.boot_len (bx (ao 0 (pv 0)))) (uC (Y.c_LONGEST_WORD))))))) (ak (ay bB)) aA)
  (ak (ay (aV (dN rfl) gu (by rfl) Y.b_all PyProof.Rows.boot_all (EvA.w (ab (EvF.s (bF (N:=["sign"]) (T:=(.nm 0)) (js:=[none]) (wq (ac 0 (pv 0))) (fun _ _ _ _ _=>aN (i:=0) jT rfl (Or.inl rfl)) (fun _ _ _ _ _=>bC) (fun _ _ _ _ _=>(sB lA jc lA jc ba (ac 0 (pv 0)) ba)))) ae)))))))
theorem bt (Y:Ev K mg):FnOk P w K mg base CX0 1 Y.fIsWord.f Y.fIsWord.fd ["thing"] (spQ ⟨P,w,K,obG K⟩ 1 aY):=aW (mX Y) m5
theorem lb:aD ["thing"] ["thing"] (av ie):=⟨rfl,rfl,rfl,by decide +kernel,rfl,by decide +kernel,by decide +kernel⟩
theorem lR (Y:Ev K mg):FnOk P w K mg base CX0 1 Y.fIsWhole.f Y.fIsWhole.fd ["thing"] (spQ ⟨P,w,K,obG K⟩ 1 (run 1 cy)) :=
 bq Y.fIsWhole.F lb (by decide) (fun cdv A outer s H E hr=>by
  unfold cy
  exact (ak (ay (b9 (bp "int" (by decide) Y.b_isinstance Y.b_int PyProof.Rows.boot_int (ao 0 (pv 0))) (cG (qH (bp "bool" (by decide) Y.b_isinstance Y.b_bool PyProof.Rows.boot_bool (ao 0 (pv 0)))))))))
theorem dH (Y:Ev K mg):FnOk P w K mg base CX0 1 Y.fIsWhole.f Y.fIsWhole.fd ["thing"] (spQ ⟨P,w,K,obG K⟩ 1 bX):=aW (lR Y) lZ
theorem dD:(["low", "high"]:List Str).Nodup:=by decide +kernel
theorem jB:aD ["words"] ["words"] (av fY):=⟨rfl,rfl,rfl,by decide +kernel,rfl,by decide +kernel,by decide +kernel⟩
theorem li (Y:Ev K mg):FnOk P w K mg base CX0 1 Y.fIsRising.f Y.fIsRising.fd ["words"] (spQ ⟨P,w,K,obG K⟩ 1 (run 1 cf)) :=
 bq Y.fIsRising.F jB (by decide) (fun cdv A outer s H E hr=>by
  unfold cf
  exact (ak (ay (aV (dN rfl) gu (by rfl) Y.b_all PyProof.Rows.boot_all (EvA.w (ab (EvF.s (bF (N:=["low", "high"]) (T:=(.tp [0,1])) (js:=[none,none]) (nT (by rfl) Y.b_zip (ab (ac 0 (pv 0)) (ab (cF (ac 0 (pv 0)) (bA (EvS.w ad)) bR) ae))) (fun _ _ _ _ _=>lV (n:=2) rfl (dz (aN (i:=0) dD rfl (Or.inl rfl)) (dz (aN (i:=1) dD rfl (Or.inl rfl)) jM))) (fun _ _ _ _ _=>bC) (fun _ _ _ _ _=>(b8 fG dA (ac 0 (pv 0)) (ao 1 (pv 1)) (by first | exact nomark _ | rfl))))) ae))))))
theorem fQ (Y:Ev K mg):FnOk P w K mg base CX0 1 Y.fIsRising.f Y.fIsRising.fd ["words"] (spQ ⟨P,w,K,obG K⟩ 1 ck):=aW (li Y) lp
theorem iC:(["part"]:List Str).Nodup:=by decide +kernel
theorem jC:aD ["thing"] ["thing"] (av f7):=⟨rfl,rfl,rfl,by decide +kernel,rfl,by decide +kernel,by decide +kernel⟩
theorem lj (Y:Ev K mg):FnOk P w K mg base CX0 2 Y.fAreWords.f Y.fAreWords.fd ["thing"] (spQ ⟨P,w,K,obG K⟩ 1 (run 1 cg)) :=
 bq Y.fAreWords.F jC (by decide) (fun cdv A outer s H E hr=>by
  unfold cg
  exact (af (aH (bS (bG (aX (aR (EvS.w (bp "tuple" (by decide) Y.b_isinstance Y.b_tuple PyProof.Rows.boot_tuple (ao 0 (pv 0)))))) (bW (aX (aR (EvS.w (aV (dN rfl) gu (by rfl) Y.b_all PyProof.Rows.boot_all (EvA.w (ab (EvF.s (bF (N:=["part"]) (T:=(.nm 0)) (js:=[none]) (bj (ac 0 (pv 0))) (fun _ _ _ _ _=>aN (i:=0) iC rfl (Or.inl rfl)) (fun _ _ _ _ _=>bC) (fun _ _ _ _ _=>(aG (bt Y) (hr.mono (by decide)) Y.fIsWord.n.mg Y.fIsWord.n.kp Y.fIsWord.b (ab (ac 0 (pv 0)) ae))))) ae))))))))) (ak (ay bB)) aA)
  (ak (ay (aG (fQ Y) (hr.mono (by decide)) Y.fIsRising.n.mg Y.fIsRising.n.kp Y.fIsRising.b (ab (ac 0 (pv 0)) ae))))))
theorem lv (Y:Ev K mg):FnOk P w K mg base CX0 2 Y.fAreWords.f Y.fAreWords.fd ["thing"] (spQ ⟨P,w,K,obG K⟩ 1 de):=aW (lj Y) lr
theorem sc_p_is_tie:aD ["thing", "name", "one", "other", "cost"] ["thing"] (av sIsTie):=⟨rfl,rfl,rfl,by decide +kernel,rfl,by decide +kernel,by decide +kernel⟩
theorem oy (Y:Ev K mg):FnOk P w K mg base CX0 2 Y.fIsTie.f Y.fIsTie.fd ["thing"] (spQ ⟨P,w,K,obG K⟩ 1 (run 5 df)) :=
 bq Y.fIsTie.F sc_p_is_tie (by decide) (fun cdv A outer s H E hr=>by
  unfold df
  exact (af (aH (bS (bG (aX (aR (EvS.w (bp "tuple" (by decide) Y.b_isinstance Y.b_tuple PyProof.Rows.boot_tuple (ao 0 (pv 0)))))) (bW (aw (cR (hu0 hr)) b7 (aV be bf (by rfl) Y.b_len PySem.boot_len (bx (ao 0 (pv 0)))) (EvS.w ad) (by first | exact nomark _ | rfl))))) (ak (ay bB)) aA)
  (af (jq (ac 0 (pv 0)) (gm (n:=4) rfl (aZ (aU 1 sc_p_is_tie.nd rfl (Or.inl rfl)) (aZ (aU 2 sc_p_is_tie.nd rfl (Or.inl rfl)) (aZ (aU 3 sc_p_is_tie.nd rfl (Or.inl rfl)) (aZ (aU 4 sc_p_is_tie.nd rfl (Or.inl rfl)) fq)))) (bh (bh (bh (bh gi))))))
  (af (aH (bS (bG (aX (aR (EvS.w (aG (bt Y) (hr.mono (by decide)) Y.fIsWord.n.mg Y.fIsWord.n.kp Y.fIsWord.b (ab (ac 1 (pv 1)) ae))))) (bG (aX (aR (EvS.w (aG (bt Y) (hr.mono (by decide)) Y.fIsWord.n.mg Y.fIsWord.n.kp Y.fIsWord.b (ab (ac 2 (pv 2)) ae))))) (bW (aX (aR (EvS.w (aG (bt Y) (hr.mono (by decide)) Y.fIsWord.n.mg Y.fIsWord.n.kp Y.fIsWord.b (ab (ac 3 (pv 3)) ae))))))))) (ak (ay bB)) aA)
  (ak (ay (b9 (b8 fG dA (ac 2 (pv 2)) (ao 3 (pv 3)) (by first | exact nomark _ | rfl)) (cG (aG (dH Y) (hr.mono (by decide)) Y.fIsWhole.n.mg Y.fIsWhole.n.kp Y.fIsWhole.b (ab (ac 4 (pv 4)) ae))))))))))
theorem oJ (Y:Ev K mg):FnOk P w K mg base CX0 2 Y.fIsTie.f Y.fIsTie.fd ["thing"] (spQ ⟨P,w,K,obG K⟩ 1 fN):=aW (oy Y) oC
theorem ji:(["tie"]:List Str).Nodup:=by decide +kernel
theorem jh:(["tie"]:List Str).Nodup:=by decide +kernel
theorem lf:aD ["thing"] ["thing"] (av ii):=⟨rfl,rfl,rfl,by decide +kernel,rfl,by decide +kernel,by decide +kernel⟩
theorem lS (Y:Ev K mg):FnOk P w K mg base CX0 3 Y.fAreTies.f Y.fAreTies.fd ["thing"] (spQ ⟨P,w,K,obG K⟩ 1 (run 1 cz)) :=
 bq Y.fAreTies.F lf (by decide) (fun cdv A outer s H E hr=>by
  unfold cz
  exact (af (aH (bS (bG (aX (aR (EvS.w (bp "tuple" (by decide) Y.b_isinstance Y.b_tuple PyProof.Rows.boot_tuple (ao 0 (pv 0)))))) (bW (aX (aR (EvS.w (aV (dN rfl) gu (by rfl) Y.b_all PyProof.Rows.boot_all (EvA.w (ab (EvF.s (bF (N:=["tie"]) (T:=(.nm 0)) (js:=[none]) (bj (ac 0 (pv 0))) (fun _ _ _ _ _=>aN (i:=0) ji rfl (Or.inl rfl)) (fun _ _ _ _ _=>bC) (fun _ _ _ _ _=>(aG (oJ Y) (hr.mono (by decide)) Y.fIsTie.n.mg Y.fIsTie.n.kp Y.fIsTie.b (ab (ac 0 (pv 0)) ae))))) ae))))))))) (ak (ay bB)) aA)
  (ak (ay (aG (fQ Y) (hr.mono (by decide)) Y.fIsRising.n.mg Y.fIsRising.n.kp Y.fIsRising.b (ab (EvF.s (bF (N:=["tie"]) (T:=(.nm 0)) (js:=[none]) (bj (ac 0 (pv 0))) (fun _ _ _ _ _=>aN (i:=0) jh rfl (Or.inl rfl)) (fun _ _ _ _ _=>bC) (fun _ _ _ _ _=>(ap (hu1 hr) (ac 0 (pv 0)) (EvS.w ad))))) ae))))))
theorem mC (Y:Ev K mg):FnOk P w K mg base CX0 3 Y.fAreTies.f Y.fAreTies.fd ["thing"] (spQ ⟨P,w,K,obG K⟩ 1 dQ):=aW (lS Y) l0
theorem mW:aD ["thing"] ["thing"] (av sIsNet):=⟨rfl,rfl,rfl,by decide +kernel,rfl,by decide +kernel,by decide +kernel⟩
theorem oA (Y:Ev K mg):FnOk P w K mg base CX0 4 Y.fIsNet.f Y.fIsNet.fd ["thing"] (spQ ⟨P,w,K,obG K⟩ 1 (run 1 dg)) :=
 bq Y.fIsNet.F mW (by decide) (fun cdv A outer s H E hr=>by
  unfold dg
  exact (af (aH (bS (bG (aX (aR (EvS.w (bp "tuple" (by decide) Y.b_isinstance Y.b_tuple PyProof.Rows.boot_tuple (ao 0 (pv 0)))))) (bW (aw (cR (hu0 hr)) b7 (aV be bf (by rfl) Y.b_len PySem.boot_len (bx (ao 0 (pv 0)))) (EvS.w ad) (by first | exact nomark _ | rfl))))) (ak (ay bB)) aA)
  (ak (ay (b9 (aG (lv Y) (hr.mono (by decide)) Y.fAreWords.n.mg Y.fAreWords.n.kp Y.fAreWords.b (ab (ap (hu1 hr) (ac 0 (pv 0)) (EvS.w ad)) ae)) (cG (aG (mC Y) (hr.mono (by decide)) Y.fAreTies.n.mg Y.fAreTies.n.kp Y.fAreTies.b (ab (ap (hu1 hr) (ac 0 (pv 0)) (EvS.w ad)) ae))))))))
theorem oK (Y:Ev K mg):FnOk P w K mg base CX0 4 Y.fIsNet.f Y.fIsNet.fd ["thing"] (spQ ⟨P,w,K,obG K⟩ 1 fO):=aW (oA Y) oD
theorem fT:(["tie"]:List Str).Nodup:=by decide +kernel
theorem gS:aD ["net"] ["net"] (av eM):=⟨rfl,rfl,rfl,by decide +kernel,rfl,by decide +kernel,by decide +kernel⟩
theorem ij (Y:Ev K mg):FnOk P w K mg base CX0 1 Y.fTiesByName.f Y.fTiesByName.fd ["net"] (spQ ⟨P,w,K,obG K⟩ 1 (run 1 bK)) :=
 bq Y.fTiesByName.F gS (by decide) (fun cdv A outer s H E hr=>by
  unfold bK
  exact (ak (ay (EvF.s (wO (N:=["tie"]) (T:=(.nm 0)) (js:=[none]) (bj (ap (hu1 hr) (ac 0 (pv 0)) (EvS.w ad))) (fun _ _ _ _ _=>aN (i:=0) fT rfl (Or.inl rfl)) (fun _ _ _ _ _=>bC) (fun _ _ _ _ _=>(ap (hu1 hr) (ac 0 (pv 0)) (EvS.w ad))) (fun _ _ _ _ _=>(ac 0 (pv 0))))))))
theorem cn (Y:Ev K mg):FnOk P w K mg base CX0 1 Y.fTiesByName.f Y.fTiesByName.fd ["net"] (spQ ⟨P,w,K,obG K⟩ 1 bv):=aW (ij Y) ip
theorem eJ:aD ["parts"] ["parts"] (av cC):=⟨rfl,rfl,rfl,by decide +kernel,rfl,by decide +kernel,by decide +kernel⟩
theorem eY (Y:Ev K mg):FnOk P w K mg base CX0 2 Y.fAreEndsAndCost.f Y.fAreEndsAndCost.fd ["parts"] (spQ ⟨P,w,K,obG K⟩ 1 (run 1 bm)) :=
 bq Y.fAreEndsAndCost.F eJ (by decide) (fun cdv A outer s H E hr=>by
  unfold bm
  exact (af (aH (bS (bG (aw (cR (hu0 hr)) b7 (aV be bf (by rfl) Y.b_len PySem.boot_len (bx (ao 0 (pv 0)))) (EvS.w ad) (by first | exact nomark _ | rfl)) (bG (aX (aR (EvS.w (aG (bt Y) (hr.mono (by decide)) Y.fIsWord.n.mg Y.fIsWord.n.kp Y.fIsWord.b (ab (ap (hu1 hr) (ac 0 (pv 0)) (EvS.w ad)) ae))))) (bW (aX (aR (EvS.w (aG (bt Y) (hr.mono (by decide)) Y.fIsWord.n.mg Y.fIsWord.n.kp Y.fIsWord.b (ab (ap (hu1 hr) (ac 0 (pv 0)) (EvS.w ad)) ae))))))))) (ak (ay bB)) aA)
  (ak (ay (b9 (b8 (cR (hu0 hr)) b7 (ap (hu1 hr) (ac 0 (pv 0)) (EvS.w ad)) (EvS.w (ap (hu1 hr) (ac 0 (pv 0)) (EvS.w ad))) (by first | exact nomark _ | rfl)) (cG (aG (dH Y) (hr.mono (by decide)) Y.fIsWhole.n.mg Y.fIsWhole.n.kp Y.fIsWhole.b (ab (ap (hu1 hr) (ac 0 (pv 0)) (EvS.w ad)) ae))))))))
theorem e8 (Y:Ev K mg):FnOk P w K mg base CX0 2 Y.fAreEndsAndCost.f Y.fAreEndsAndCost.fd ["parts"] (spQ ⟨P,w,K,obG K⟩ 1 bo):=aW (eY Y) e7
theorem sc_p_is_deed:aD ["thing", "rest"] ["thing"] (av jF):=⟨rfl,rfl,rfl,by decide +kernel,rfl,by decide +kernel,by decide +kernel⟩
theorem mY (Y:Ev K mg):FnOk P w K mg base CX0 3 Y.fIsDeed.f Y.fIsDeed.fd ["thing"] (spQ ⟨P,w,K,obG K⟩ 1 (run 2 b6)) :=
 bq Y.fIsDeed.F sc_p_is_deed (by decide) (fun cdv A outer s H E hr=>by
  unfold b6
  exact (af (aH (bS (bG (aX (aR (EvS.w (bp "tuple" (by decide) Y.b_isinstance Y.b_tuple PyProof.Rows.boot_tuple (ao 0 (pv 0)))))) (bG (aw fG dA (aV be bf (by rfl) Y.b_len PySem.boot_len (bx (ao 0 (pv 0)))) (EvS.w ad) (by first | exact nomark _ | rfl)) (bG (aX (aR (EvS.w (aG (bt Y) (hr.mono (by decide)) Y.fIsWord.n.mg Y.fIsWord.n.kp Y.fIsWord.b (ab (ap (hu1 hr) (ac 0 (pv 0)) (EvS.w ad)) ae))))) (bW (aX (aR (EvS.w (aG (bt Y) (hr.mono (by decide)) Y.fIsWord.n.mg Y.fIsWord.n.kp Y.fIsWord.b (ab (ap (hu1 hr) (ac 0 (pv 0)) (EvS.w ad)) ae)))))))))) (ak (ay bB)) aA)
  (af (aJ 1 sc_p_is_deed.nd rfl (Or.inl rfl) (cF (ac 0 (pv 0)) (bA (EvS.w ad)) bR))
  (af (aH (aw (aQ (hu60 hr)) aP (ap (hu1 hr) (ac 0 (pv 0)) (EvS.w ad)) (EvS.w ba) (by first | exact nomark _ | rfl)) (ak (ay (aG (e8 Y) (hr.mono (by decide)) Y.fAreEndsAndCost.n.mg Y.fAreEndsAndCost.n.kp Y.fAreEndsAndCost.b (ab (ac 1 (pv 1)) ae)))) aA)
  (af (aH (aw (aQ (hu60 hr)) aP (ap (hu1 hr) (ac 0 (pv 0)) (EvS.w ad)) (EvS.w ba) (by first | exact nomark _ | rfl)) (ak (ay (b9 (b8 (aQ (hu60 hr)) aP (aV be bf (by rfl) Y.b_len PySem.boot_len (bx (ao 1 (pv 1)))) (EvS.w ad) (by first | exact nomark _ | rfl)) (cG (aG (dH Y) (hr.mono (by decide)) Y.fIsWhole.n.mg Y.fIsWhole.n.kp Y.fIsWhole.b (ab (ap (hu1 hr) (ac 1 (pv 1)) (EvS.w ad)) ae)))))) aA)
  (ak (ay (b9 (b8 (jf (hu62 hr)) jd (ap (hu1 hr) (ac 0 (pv 0)) (EvS.w ad)) (EvS.w (aL (ab ba (ab ba (ab ba ae))))) (by first | exact nomark _ | rfl)) (cG (b8 (aQ (hu60 hr)) aP (aV be bf (by rfl) Y.b_len PySem.boot_len (bx (ao 1 (pv 1)))) (EvS.w ad) (by first | exact nomark _ | rfl)))))))))))
theorem g8 (Y:Ev K mg):FnOk P w K mg base CX0 3 Y.fIsDeed.f Y.fIsDeed.fd ["thing"] (spQ ⟨P,w,K,obG K⟩ 1 cS):=aW (mY Y) m6
theorem sc_p_place_comes:aD ["net", "deed", "place"] ["net", "deed"] (av eN):=⟨rfl,rfl,rfl,by decide +kernel,rfl,by decide +kernel,by decide +kernel⟩
theorem i8 (Y:Ev K mg):FnOk P w K mg base CX0 1 Y.fPlaceComes.f Y.fPlaceComes.fd ["net", "deed"] (spQ ⟨P,w,K,obG K⟩ 2 (run 3 bT)) :=
 bq Y.fPlaceComes.F sc_p_place_comes (by decide) (fun cdv A outer s H E hr=>by
  unfold bT
  exact (af (aJ 2 sc_p_place_comes.nd rfl (Or.inl rfl) (ap (hu1 hr) (ac 1 (pv 1)) (EvS.w ad)))
  (af (aH (aw (jf (hu62 hr)) jd (ac 2 (pv 2)) (EvS.w (ap (hu1 hr) (ac 0 (pv 0)) (EvS.w ad))) (by first | exact nomark _ | rfl)) (ak fh) aA)
  (ak (ay (aL (ab (dk bO bP (by rfl) Y.b_tuple PyProof.Rows.boot_tuple (EvA.w (ab (EvF.s (mE rfl (by rfl) Y.b_sorted (EvA.w (ab (aM (ap (hu1 hr) (ac 0 (pv 0)) (EvS.w ad)) (EvS.w (aL (ab (ac 2 (pv 2)) ae)))) ae)))) ae))) (ab (ap (hu1 hr) (ac 0 (pv 0)) (EvS.w ad)) ae))))))))
theorem jp (Y:Ev K mg):FnOk P w K mg base CX0 1 Y.fPlaceComes.f Y.fPlaceComes.fd ["net", "deed"] (spQ ⟨P,w,K,obG K⟩ 2 bU):=aW (i8 Y) jb
theorem fU:(["each", "place"]:List Str).Nodup:=by decide +kernel
theorem sc_p_place_leaves:aD ["net", "deed", "place"] ["net", "deed"] (av du):=⟨rfl,rfl,rfl,by decide +kernel,rfl,by decide +kernel,by decide +kernel⟩
theorem ik (Y:Ev K mg):FnOk P w K mg base CX0 1 Y.fPlaceLeaves.f Y.fPlaceLeaves.fd ["net", "deed"] (spQ ⟨P,w,K,obG K⟩ 2 (run 3 bL)) :=
 bq Y.fPlaceLeaves.F sc_p_place_leaves (by decide) (fun cdv A outer s H E hr=>by
  unfold bL
  exact (af (aJ 2 sc_p_place_leaves.nd rfl (Or.inr rfl) (ap (hu1 hr) (ac 1 (pv 1)) (EvS.w ad)))
  (af (aH (aw (dn (hu62 hr)) dm (ac 2 (pv 2)) (EvS.w (ap (hu1 hr) (ac 0 (pv 0)) (EvS.w ad))) (by first | exact nomark _ | rfl)) (ak fh) aA)
  (ak (ay (aL (ab (dk bO bP (by rfl) Y.b_tuple PyProof.Rows.boot_tuple (EvA.w (ab (EvF.s (bF (N:=["each", "place"]) (T:=(.nm 0)) (js:=[none,some 2]) (bj (ap (hu1 hr) (ac 0 (pv 0)) (EvS.w ad))) (fun _ _ _ _ _=>aN (i:=0) fU rfl (Or.inl rfl)) (fun _ _ _ _ _=>gp (aw (cR (hu0 hr)) b7 (ac 0 (pv 0)) (ao 1 (pv 1)) (by first | exact nomark _ | rfl))) (fun _ _ _ _ _=>(ac 0 (pv 0))))) ae))) (ab (ap (hu1 hr) (ac 0 (pv 0)) (EvS.w ad)) ae))))))))
theorem iJ (Y:Ev K mg):FnOk P w K mg base CX0 1 Y.fPlaceLeaves.f Y.fPlaceLeaves.fd ["net", "deed"] (spQ ⟨P,w,K,obG K⟩ 2 bQ):=aW (ik Y) iq
theorem sc_p_tie_comes:aD ["net", "deed", "name", "one", "other", "cost", "tie"] ["net", "deed"] (av fX):=⟨rfl,rfl,rfl,by decide +kernel,rfl,by decide +kernel,by decide +kernel⟩
theorem lh (Y:Ev K mg):FnOk P w K mg base CX0 2 Y.fTieComes.f Y.fTieComes.fd ["net", "deed"] (spQ ⟨P,w,K,obG K⟩ 2 (run 7 ce)) :=
 bq Y.fTieComes.F sc_p_tie_comes (by decide) (fun cdv A outer s H E hr=>by
  unfold ce
  exact (af (jq (cF (ac 1 (pv 1)) (bA (EvS.w ad)) bR) (gm (n:=4) rfl (aZ (aU 2 sc_p_tie_comes.nd rfl (Or.inl rfl)) (aZ (aU 3 sc_p_tie_comes.nd rfl (Or.inl rfl)) (aZ (aU 4 sc_p_tie_comes.nd rfl (Or.inl rfl)) (aZ (aU 5 sc_p_tie_comes.nd rfl (Or.inl rfl)) fq)))) (bh (bh (bh (bh gi))))))
  (af (aH (aw (jf (hu62 hr)) jd (ac 2 (pv 2)) (EvS.w (aG (cn Y) (hr.mono (by decide)) Y.fTiesByName.n.mg Y.fTiesByName.n.kp Y.fTiesByName.b (ab (ac 0 (pv 0)) ae))) (by first | exact nomark _ | rfl)) (ak fh) aA)
  (af (aJ 6 sc_p_tie_comes.nd rfl (Or.inl rfl) (aL (ab (ac 2 (pv 2)) (ab (aV (wt rfl) wy (by rfl) Y.b_min PyProof.Rows.boot_min (EvA.w (ab (ac 3 (pv 3)) (ab (ac 4 (pv 4)) ae)))) (ab (aV (qQ rfl) qR (by rfl) Y.b_max PyProof.Rows.boot_max (EvA.w (ab (ac 3 (pv 3)) (ab (ac 4 (pv 4)) ae)))) (ab (ac 5 (pv 5)) ae))))))
  (ak (ay (aL (ab (ap (hu1 hr) (ac 0 (pv 0)) (EvS.w ad)) (ab (dk bO bP (by rfl) Y.b_tuple PyProof.Rows.boot_tuple (EvA.w (ab (EvF.s (qG (by rfl) Y.b_sorted (EvA.w (ab (aM (ap (hu1 hr) (ac 0 (pv 0)) (EvS.w ad)) (EvS.w (aL (ab (ac 6 (pv 6)) ae)))) ae)))) ae))) ae)))))))))
theorem lu (Y:Ev K mg):FnOk P w K mg base CX0 2 Y.fTieComes.f Y.fTieComes.fd ["net", "deed"] (spQ ⟨P,w,K,obG K⟩ 2 cj):=aW (lh Y) lm
theorem jg:(["tie", "name"]:List Str).Nodup:=by decide +kernel
theorem sc_p_tie_goes:aD ["net", "deed", "name"] ["net", "deed"] (av ic):=⟨rfl,rfl,rfl,by decide +kernel,rfl,by decide +kernel,by decide +kernel⟩
theorem lQ (Y:Ev K mg):FnOk P w K mg base CX0 2 Y.fTieGoes.f Y.fTieGoes.fd ["net", "deed"] (spQ ⟨P,w,K,obG K⟩ 2 (run 3 cx)) :=
 bq Y.fTieGoes.F sc_p_tie_goes (by decide) (fun cdv A outer s H E hr=>by
  unfold cx
  exact (af (aJ 2 sc_p_tie_goes.nd rfl (Or.inr rfl) (ap (hu1 hr) (ac 1 (pv 1)) (EvS.w ad)))
  (af (aH (aw (dn (hu62 hr)) dm (ac 2 (pv 2)) (EvS.w (aG (cn Y) (hr.mono (by decide)) Y.fTiesByName.n.mg Y.fTiesByName.n.kp Y.fTiesByName.b (ab (ac 0 (pv 0)) ae))) (by first | exact nomark _ | rfl)) (ak fh) aA)
  (ak (ay (aL (ab (ap (hu1 hr) (ac 0 (pv 0)) (EvS.w ad)) (ab (dk bO bP (by rfl) Y.b_tuple PyProof.Rows.boot_tuple (EvA.w (ab (EvF.s (bF (N:=["tie", "name"]) (T:=(.nm 0)) (js:=[none,some 2]) (bj (ap (hu1 hr) (ac 0 (pv 0)) (EvS.w ad))) (fun _ _ _ _ _=>aN (i:=0) jg rfl (Or.inl rfl)) (fun _ _ _ _ _=>gp (aw (cR (hu0 hr)) b7 (ap (hu1 hr) (ac 0 (pv 0)) (EvS.w ad)) (ao 1 (pv 1)) (by first | exact nomark _ | rfl))) (fun _ _ _ _ _=>(ac 0 (pv 0))))) ae))) ae))))))))
theorem mB (Y:Ev K mg):FnOk P w K mg base CX0 2 Y.fTieGoes.f Y.fTieGoes.fd ["net", "deed"] (spQ ⟨P,w,K,obG K⟩ 2 cH):=aW (lQ Y) lY
theorem iB:(["tie", "name", "cost"]:List Str).Nodup:=by decide +kernel
theorem sc_p_tie_costs:aD ["net", "deed", "name", "cost"] ["net", "deed"] (av fW):=⟨rfl,rfl,rfl,by decide +kernel,rfl,by decide +kernel,by decide +kernel⟩
theorem lg (Y:Ev K mg):FnOk P w K mg base CX0 2 Y.fTieCosts.f Y.fTieCosts.fd ["net", "deed"] (spQ ⟨P,w,K,obG K⟩ 2 (run 4 cb)) :=
 bq Y.fTieCosts.F sc_p_tie_costs (by decide) (fun cdv A outer s H E hr=>by
  unfold cb
  exact (af (jq (cF (ac 1 (pv 1)) (bA (EvS.w ad)) bR) (gm (n:=2) rfl (aZ (aU 2 sc_p_tie_costs.nd rfl (Or.inr rfl)) (aZ (aU 3 sc_p_tie_costs.nd rfl (Or.inr rfl)) fq)) (bh (bh gi))))
  (af (aH (aw (dn (hu62 hr)) dm (ac 2 (pv 2)) (EvS.w (aG (cn Y) (hr.mono (by decide)) Y.fTiesByName.n.mg Y.fTiesByName.n.kp Y.fTiesByName.b (ab (ac 0 (pv 0)) ae))) (by first | exact nomark _ | rfl)) (ak fh) aA)
  (ak (ay (aL (ab (ap (hu1 hr) (ac 0 (pv 0)) (EvS.w ad)) (ab (dk bO bP (by rfl) Y.b_tuple PyProof.Rows.boot_tuple (EvA.w (ab (EvF.s (bF (N:=["tie", "name", "cost"]) (T:=(.nm 0)) (js:=[none,some 2,some 3]) (bj (ap (hu1 hr) (ac 0 (pv 0)) (EvS.w ad))) (fun _ _ _ _ _=>aN (i:=0) iB rfl (Or.inl rfl)) (fun _ _ _ _ _=>bC) (fun _ _ _ _ _=>(wm (aw (aQ (hu60 hr)) aP (ap (hu1 hr) (ac 0 (pv 0)) (EvS.w ad)) (ao 1 (pv 1)) (by first | exact nomark _ | rfl)) (aM (cF (ac 0 (pv 0)) bR (bA (EvS.w ad))) (EvS.w (aL (ab (ac 2 (pv 2)) ae)))) (ac 0 (pv 0)))))) ae))) ae))))))))
theorem ls (Y:Ev K mg):FnOk P w K mg base CX0 2 Y.fTieCosts.f Y.fTieCosts.fd ["net", "deed"] (spQ ⟨P,w,K,obG K⟩ 2 ci):=aW (lg Y) ll
theorem sc_p_changed:aD ["net", "deed", "done"] ["net", "deed"] (av ig):=⟨rfl,rfl,rfl,by decide +kernel,rfl,by decide +kernel,by decide +kernel⟩
theorem mZ (Y:Ev K mg):FnOk P w K mg base CX0 4 Y.fChanged.f Y.fChanged.fd ["net", "deed"] (spQ ⟨P,w,K,obG K⟩ 2 (run 3 cN)) :=
 bq Y.fChanged.F sc_p_changed (by decide) (fun cdv A outer s H E hr=>by
  unfold cN
  exact (af (aH (aX (aR (EvS.w (aG (g8 Y) (hr.mono (by decide)) Y.fIsDeed.n.mg Y.fIsDeed.n.kp Y.fIsDeed.b (ab (ac 1 (pv 1)) ae))))) (ak fh) aA)
  (sw 2 (k:=2) (T:=[("place",Y.fPlaceComes.f,bU),("leave",Y.fPlaceLeaves.f,bQ),("tie",Y.fTieComes.f,cj),("untie",Y.fTieGoes.f,cH),("cost",Y.fTieCosts.f,ci)]) sc_p_changed.nd rfl (Or.inl rfl) (by rfl) Y.t_DEEDS.mg Y.t_DEEDS.tab (List.forall_mem_cons.mpr ⟨⟨_,_,FnOk.mono (jp Y) (by decide),Y.fPlaceComes.n.kp,Y.fPlaceComes.b⟩,(List.forall_mem_cons.mpr ⟨⟨_,_,FnOk.mono (iJ Y) (by decide),Y.fPlaceLeaves.n.kp,Y.fPlaceLeaves.b⟩,(List.forall_mem_cons.mpr ⟨⟨_,_,FnOk.mono (lu Y) (by decide),Y.fTieComes.n.kp,Y.fTieComes.b⟩,(List.forall_mem_cons.mpr ⟨⟨_,_,FnOk.mono (mB Y) (by decide),Y.fTieGoes.n.kp,Y.fTieGoes.b⟩,(List.forall_mem_cons.mpr ⟨⟨_,_,FnOk.mono (ls Y) (by decide),Y.fTieCosts.n.kp,Y.fTieCosts.b⟩,(fun _ hq=>(nomatch hq))⟩)⟩)⟩)⟩)⟩) (hr.mono (by decide)) (ap (hu1 hr) (ac 1 (pv 1)) (EvS.w ad)) (fun _ _=>rfl) (pv 2) (ab (ac 0 (pv 0)) (ab (ac 1 (pv 1)) ae)))))
theorem eS (Y:Ev K mg):FnOk P w K mg base CX0 4 Y.fChanged.f Y.fChanged.fd ["net", "deed"] (spQ ⟨P,w,K,obG K⟩ 2 ca):=aW (mZ Y) m7
theorem sc_l_words:aD ["_law_state", "_law_many", "_law_letters", "_law_base", "_law_size", "_law_at", "_law_first", "_law_found", "_law_k", "_law_two"] ["_law_state", "_law_many"] (av sWords):=⟨rfl,rfl,rfl,by decide +kernel,rfl,by decide +kernel,by decide +kernel⟩
theorem pJ (Y:Ev K mg):FnOk P w K mg base CX0 2 Y.fWords.f Y.fWords.fd ["_law_state", "_law_many"] (spO ⟨P,w,K,obG K⟩ 2 (runO 10 dW)) :=
 cX Y.fWords.F sc_l_words (by decide) (fun cdv A outer s H E hr=>by
  unfold dW
  exact (af (aJ 2 sc_l_words.nd rfl (Or.inl rfl) ba)
  (af (aJ 3 sc_l_words.nd rfl (Or.inl rfl) (ap (hu1 hr) (ac 2 (pv 2)) (EvS.w (ar 0 (aE Y) (hr.mono (by decide)) Y.fNext.n.mg Y.fNext.n.kp Y.fNext.b (pv 0) (ab ad ae)))))
  (af (aJ 4 sc_l_words.nd rfl (Or.inl rfl) (ar 0 (aE Y) (hr.mono (by decide)) Y.fNext.n.mg Y.fNext.n.kp Y.fNext.b (pv 0) (ab ad ae)))
  (af (aJ 5 sc_l_words.nd rfl (Or.inl rfl) (ar 0 (aE Y) (hr.mono (by decide)) Y.fNext.n.mg Y.fNext.n.kp Y.fNext.b (pv 0) (ab (aM (ac 4 (pv 4)) (EvS.w ad)) ae)))
  (af (aJ 6 sc_l_words.nd rfl (Or.inl rfl) (ar 0 (aE Y) (hr.mono (by decide)) Y.fNext.n.mg Y.fNext.n.kp Y.fNext.b (pv 0) (ab ad ae)))
  (af (fg 7 sc_l_words.nd rfl (Or.inl rfl) (cY ae))
  (af (gk PassesOwn.never rfl (eB (by rfl) Y.b_range (ab (ac 1 (pv 1)) ae)) (aU 8 sc_l_words.nd rfl (Or.inl rfl)) (af (aJ 9 sc_l_words.nd rfl (Or.inl rfl) (aM (ap (hu1 hr) (ac 2 (pv 2)) (EvS.w (dI (aM (ac 6 (pv 6)) (EvS.w (fj ad (ao 8 (pv 8))))) (EvS.w ad)))) (EvS.w (ap (hu1 hr) (ac 2 (pv 2)) (EvS.w (dI (aM (ac 6 (pv 6)) (EvS.w (qJ (ac 8 (pv 8)) (EvS.w ad)))) (EvS.w ad)))))))
  (ak (aH (bS (dL (aw fG dA (ac 1 (pv 1)) (EvS.w ad) (by first | exact nomark _ | rfl)) (cK (aw (aQ (hu60 hr)) aP (ac 4 (pv 4)) (EvS.w ad) (by first | exact nomark _ | rfl))))) (ak (dq (EvS.w (lD 7 PySem.F.slot_list_append PySem.F.type_list_append cV eh (pv 7) (ab (fj (ac 3 (pv 3)) (EvS.w (aM (ac 8 (pv 8)) (EvS.w ad)))) ae))))) (ak (dq (EvS.w (lD 7 PySem.F.slot_list_append PySem.F.type_list_append cV eh (pv 7) (ab (aM (aM (fj (ac 3 (pv 3)) (ao 5 (pv 5))) (ao 9 (pv 9))) (EvS.w (fj (ac 3 (pv 3)) (EvS.w (cE (ac 4 (pv 4)) (ao 5 (pv 5))))))) ae)))))))))
  (ak (ay (ac 7 (pv 7))))))))))))
theorem eu (Y:Ev K mg):FnOk P w K mg base CX0 2 Y.fWords.f Y.fWords.fd ["_law_state", "_law_many"] (spO ⟨P,w,K,obG K⟩ 2 cw):=cv (pJ Y) pQ
theorem pD:aD ["_law_state", "_law_which"] ["_law_state", "_law_which"] (av sCost):=⟨rfl,rfl,rfl,by decide +kernel,rfl,by decide +kernel,by decide +kernel⟩
theorem rC (Y:Ev K mg):FnOk P w K mg base CX0 2 Y.fCost.f Y.fCost.fd ["_law_state", "_law_which"] (spO ⟨P,w,K,obG K⟩ 2 (runO 2 fz)) :=
 cX Y.fCost.F pD (by decide) (fun cdv A outer s H E hr=>by
  unfold fz
  exact (af (aH (aw (aQ (hu60 hr)) aP (ac 1 (pv 1)) (EvS.w ad) (by first | exact nomark _ | rfl)) (ak (ay ad)) aA)
  (af (aH (aw (aQ (hu60 hr)) aP (ac 1 (pv 1)) (EvS.w ad) (by first | exact nomark _ | rfl)) (ak (ay (cE (ar 0 (aE Y) (hr.mono (by decide)) Y.fNext.n.mg Y.fNext.n.kp Y.fNext.b (pv 0) (ab ad ae)) (EvS.w ad)))) aA)
  (af (aH (aw (aQ (hu60 hr)) aP (ac 1 (pv 1)) (EvS.w ad) (by first | exact nomark _ | rfl)) (ak (ay (cE (ar 0 (aE Y) (hr.mono (by decide)) Y.fNext.n.mg Y.fNext.n.kp Y.fNext.b (pv 0) (ab ad ae)) (EvS.w ad)))) aA)
  (ak (ay (ap (hu1 hr) (EvF.s (cY (ab (cE (mF ad (EvS.w ad)) (EvS.w ad)) (ab (cE ad (EvS.w (mF ad (EvS.w ad)))) (ab ad (ab (ar 0 (aE Y) (hr.mono (by decide)) Y.fNext.n.mg Y.fNext.n.kp Y.fNext.b (pv 0) (ab (mF ad (EvS.w ad)) ae)) ae)))))) (EvS.w (ar 0 (aE Y) (hr.mono (by decide)) Y.fNext.n.mg Y.fNext.n.kp Y.fNext.b (pv 0) (ab ad ae))))))))))
theorem iL (Y:Ev K mg):FnOk P w K mg base CX0 2 Y.fCost.f Y.fCost.fd ["_law_state", "_law_which"] (spO ⟨P,w,K,obG K⟩ 2 dS):=cv (rC Y) rS
theorem sc_l_ends:aD ["_law_state", "_law_family", "_law_many", "_law_k", "_law_half", "_law_side", "_law_one"] ["_law_state", "_law_family", "_law_many", "_law_k"] (av sEnds):=⟨rfl,rfl,rfl,by decide +kernel,rfl,by decide +kernel,by decide +kernel⟩
theorem rA (Y:Ev K mg):FnOk P w K mg base CX0 2 Y.fEnds.f Y.fEnds.fd ["_law_state", "_law_family", "_law_many", "_law_k"] (spO ⟨P,w,K,obG K⟩ 4 (runO 7 fx)) :=
 cX Y.fEnds.F sc_l_ends (by decide) (fun cdv A outer s H E hr=>by
  unfold fx
  exact (af (aH (aw (aQ (hu60 hr)) aP (ac 1 (pv 1)) (EvS.w ad) (by first | exact nomark _ | rfl)) (ak (ay (aL (ab (dI (ac 3 (pv 3)) (ao 2 (pv 2))) (ab (dI (aM (ac 3 (pv 3)) (EvS.w ad)) (ao 2 (pv 2))) ae))))) aA)
  (af (aH (aw (aQ (hu60 hr)) aP (ac 1 (pv 1)) (EvS.w ad) (by first | exact nomark _ | rfl)) (ak (ay (aL (ab ad (ab (aM ad (EvS.w (ar 0 (aE Y) (hr.mono (by decide)) Y.fNext.n.mg Y.fNext.n.kp Y.fNext.b (pv 0) (ab (cE (ac 2 (pv 2)) (EvS.w ad)) ae)))) ae))))) aA)
  (af (aH (bS (dL (aw (aQ (hu60 hr)) aP (ac 1 (pv 1)) (EvS.w ad) (by first | exact nomark _ | rfl)) (cK (aw sV pX (ac 2 (pv 2)) (EvS.w ad) (by first | exact nomark _ | rfl))))) (af (aJ 4 sc_l_ends.nd rfl (Or.inl rfl) (qJ (ac 2 (pv 2)) (EvS.w ad)))
  (af (aJ 5 sc_l_ends.nd rfl (Or.inl rfl) (ar 0 (aE Y) (hr.mono (by decide)) Y.fNext.n.mg Y.fNext.n.kp Y.fNext.b (pv 0) (ab ad ae)))
  (af (aJ 6 sc_l_ends.nd rfl (Or.inl rfl) (ar 0 (aE Y) (hr.mono (by decide)) Y.fNext.n.mg Y.fNext.n.kp Y.fNext.b (pv 0) (ab (ac 4 (pv 4)) ae)))
  (ak (ay (aL (ab (aM (fj (ac 5 (pv 5)) (ao 4 (pv 4))) (ao 6 (pv 6))) (ab (aM (fj (ac 5 (pv 5)) (ao 4 (pv 4))) (EvS.w (dI (aM (aM (ac 6 (pv 6)) (EvS.w ad)) (EvS.w (ar 0 (aE Y) (hr.mono (by decide)) Y.fNext.n.mg Y.fNext.n.kp Y.fNext.b (pv 0) (ab (cE (ac 4 (pv 4)) (EvS.w ad)) ae)))) (ao 4 (pv 4))))) ae)))))))) aA)
  (af (aJ 6 sc_l_ends.nd rfl (Or.inl rfl) (ar 0 (aE Y) (hr.mono (by decide)) Y.fNext.n.mg Y.fNext.n.kp Y.fNext.b (pv 0) (ab (ac 2 (pv 2)) ae)))
  (ak (ay (aL (ab (ac 6 (pv 6)) (ab (dI (aM (aM (ac 6 (pv 6)) (EvS.w ad)) (EvS.w (ar 0 (aE Y) (hr.mono (by decide)) Y.fNext.n.mg Y.fNext.n.kp Y.fNext.b (pv 0) (ab (cE (ac 2 (pv 2)) (EvS.w ad)) ae)))) (ao 2 (pv 2))) ae))))))))))
theorem so (Y:Ev K mg):FnOk P w K mg base CX0 2 Y.fEnds.f Y.fEnds.fd ["_law_state", "_law_family", "_law_many", "_law_k"] (spO ⟨P,w,K,obG K⟩ 4 iP):=cv (rA Y) rQ
theorem sc_l_net:aD ["_law_state", "_law_most", "_law_ties_most", "_law_many", "_law_words_here", "_law_pool", "_law_count", "_law_names", "_law_family", "_law_which", "_law_ties", "_law_k", "_law_one", "_law_other", "_law_two"] ["_law_state", "_law_most", "_law_ties_most"] (av sNet):=⟨rfl,rfl,rfl,by decide +kernel,rfl,by decide +kernel,by decide +kernel⟩
theorem tM (Y:Ev K mg):FnOk P w K mg base CX0 3 Y.fNet.f Y.fNet.fd ["_law_state", "_law_most", "_law_ties_most"] (spO ⟨P,w,K,obG K⟩ 3 (runO 15 gC)) :=
 cX Y.fNet.F sc_l_net (by decide) (fun cdv A outer s H E hr=>by
  unfold gC
  exact (af (aJ 3 sc_l_net.nd rfl (Or.inl rfl) (ar 0 (aE Y) (hr.mono (by decide)) Y.fNext.n.mg Y.fNext.n.kp Y.fNext.b (pv 0) (ab (aM (ac 1 (pv 1)) (EvS.w ad)) ae)))
  (af (aJ 4 sc_l_net.nd rfl (Or.inl rfl) (ar 0 (eu Y) (hr.mono (by decide)) Y.fWords.n.mg Y.fWords.n.kp Y.fWords.b (pv 0) (ab (aM (ac 3 (pv 3)) (EvS.w ad)) ae)))
  (af (aJ 5 sc_l_net.nd rfl (Or.inl rfl) (cF (ac 4 (pv 4)) bR (bA (EvS.w (aV (qQ rfl) qR (by rfl) Y.b_max PyProof.Rows.boot_max (EvA.w (ab ad (ab (aM (ac 3 (pv 3)) (EvS.w (ar 0 (aE Y) (hr.mono (by decide)) Y.fNext.n.mg Y.fNext.n.kp Y.fNext.b (pv 0) (ab ad ae)))) ae))))))))
  (af (aJ 6 sc_l_net.nd rfl (Or.inl rfl) (ar 0 (aE Y) (hr.mono (by decide)) Y.fNext.n.mg Y.fNext.n.kp Y.fNext.b (pv 0) (ab (aM (ac 2 (pv 2)) (EvS.w ad)) ae)))
  (af (aJ 7 sc_l_net.nd rfl (Or.inl rfl) (ar 0 (eu Y) (hr.mono (by decide)) Y.fWords.n.mg Y.fWords.n.kp Y.fWords.b (pv 0) (ab (ac 6 (pv 6)) ae)))
  (af (wj 8 9 rfl sc_l_net.nd rfl rfl (by decide) rfl rfl (ab (ar 0 (aE Y) (hr.mono (by decide)) Y.fNext.n.mg Y.fNext.n.kp Y.fNext.b (pv 0) (ab ad ae)) (ab (ar 0 (aE Y) (hr.mono (by decide)) Y.fNext.n.mg Y.fNext.n.kp Y.fNext.b (pv 0) (ab ad ae)) ae)) rfl)
  (af (fg 10 sc_l_net.nd rfl (Or.inl rfl) (cY ae))
  (af (gk PassesOwn.never rfl (eB (by rfl) Y.b_range (ab (ac 6 (pv 6)) ae)) (aU 11 sc_l_net.nd rfl (Or.inl rfl)) (af (jq (ar 0 (so Y) (hr.mono (by decide)) Y.fEnds.n.mg Y.fEnds.n.kp Y.fEnds.b (pv 0) (ab (ac 8 (pv 8)) (ab (aV be bf (by rfl) Y.b_len PySem.boot_len (bx (ao 5 (pv 5)))) (ab (ac 11 (pv 11)) ae)))) (gm (n:=2) rfl (aZ (aU 12 sc_l_net.nd rfl (Or.inl rfl)) (aZ (aU 13 sc_l_net.nd rfl (Or.inl rfl)) fq)) (bh (bh gi))))
  (af (aJ 14 sc_l_net.nd rfl (Or.inl rfl) (EvF.s (iM rfl (by rfl) Y.b_sorted (EvA.w (ab (EvF.s (cY (ab (ap (hu1 hr) (ac 5 (pv 5)) (ao 12 (pv 12))) (ab (ap (hu1 hr) (ac 5 (pv 5)) (ao 13 (pv 13))) ae)))) ae)))))
  (ak (dq (EvS.w (lD 10 PySem.F.slot_list_append PySem.F.type_list_append cV eh (pv 10) (ab (aL (ab (ap (hu1 hr) (ac 7 (pv 7)) (ao 11 (pv 11))) (ab (ap (hu1 hr) (ac 14 (pv 14)) (EvS.w ad)) (ab (ap (hu1 hr) (ac 14 (pv 14)) (EvS.w ad)) (ab (ar 0 (iL Y) (hr.mono (by decide)) Y.fCost.n.mg Y.fCost.n.kp Y.fCost.b (pv 0) (ab (ac 9 (pv 9)) ae)) ae))))) ae))))))))
  (ak (ay (aL (ab (dk bO bP (by rfl) Y.b_tuple PyProof.Rows.boot_tuple (EvA.w (ab (EvF.s (iM rfl (by rfl) Y.b_sorted (EvA.w (ab (cF (ac 4 (pv 4)) bR (bA (ao 3 (pv 3)))) ae)))) ae))) (ab (dk bO bP (by rfl) Y.b_tuple PyProof.Rows.boot_tuple (EvA.w (ab (EvF.s (sA (by rfl) Y.b_sorted (bx (ao 10 (pv 10))))) ae))) ae))))))))))))))
theorem uw (Y:Ev K mg):FnOk P w K mg base CX0 3 Y.fNet.f Y.fNet.fd ["_law_state", "_law_most", "_law_ties_most"] (spO ⟨P,w,K,obG K⟩ 3 ky):=cv (tM Y) tV
theorem tJ:aD ["_law_state", "_law_some"] ["_law_state", "_law_some"] (av sOf):=⟨rfl,rfl,rfl,by decide +kernel,rfl,by decide +kernel,by decide +kernel⟩
theorem u8 (Y:Ev K mg):FnOk P w K mg base CX0 2 Y.fOf.f Y.fOf.fd ["_law_state", "_law_some"] (spO ⟨P,w,K,obG K⟩ 2 (runO 2 iT)) :=
 cX Y.fOf.F tJ (by decide) (fun cdv A outer s H E hr=>by
  unfold iT
  exact (ak (ay (ap (hu1 hr) (ac 1 (pv 1)) (EvS.w (ar 0 (aE Y) (hr.mono (by decide)) Y.fNext.n.mg Y.fNext.n.kp Y.fNext.b (pv 0) (ab (aV be bf (by rfl) Y.b_len PySem.boot_len (bx (ao 1 (pv 1)))) ae)))))))
theorem e9 (Y:Ev K mg):FnOk P w K mg base CX0 2 Y.fOf.f Y.fOf.fd ["_law_state", "_law_some"] (spO ⟨P,w,K,obG K⟩ 2 db):=cv (u8 Y) vz
theorem mj:(["_law_word", "_law_taken"]:List Str).Nodup:=by decide +kernel
theorem ou:aD ["_law_state", "_law_taken"] ["_law_state", "_law_taken"] (av sFresh):=⟨rfl,rfl,rfl,by decide +kernel,rfl,by decide +kernel,by decide +kernel⟩
theorem pK (Y:Ev K mg):FnOk P w K mg base CX0 3 Y.fFresh.f Y.fFresh.fd ["_law_state", "_law_taken"] (spO ⟨P,w,K,obG K⟩ 2 (runO 2 dX)) :=
 cX Y.fFresh.F ou (by decide) (fun cdv A outer s H E hr=>by
  unfold dX
  exact (ak (ay (ap (hu1 hr) (EvF.s (bF (N:=["_law_word", "_law_taken"]) (T:=(.nm 0)) (js:=[none,some 1]) (bj (ar 0 (eu Y) (hr.mono (by decide)) Y.fWords.n.mg Y.fWords.n.kp Y.fWords.b (pv 0) (ab ad ae))) (fun _ _ _ _ _=>aN (i:=0) mj rfl (Or.inl rfl)) (fun _ _ _ _ _=>gp (aw (dn (hu62 hr)) dm (ac 0 (pv 0)) (ao 1 (pv 1)) (by first | exact nomark _ | rfl))) (fun _ _ _ _ _=>(ac 0 (pv 0))))) (EvS.w ad)))))
theorem kN (Y:Ev K mg):FnOk P w K mg base CX0 3 Y.fFresh.f Y.fFresh.fd ["_law_state", "_law_taken"] (spO ⟨P,w,K,obG K⟩ 2 eG):=cv (pK Y) pU
theorem jV:(["_law_word", "_law_pool"]:List Str).Nodup:=by decide +kernel
theorem jU:(["_law_tie"]:List Str).Nodup:=by decide +kernel
theorem sc_l_new_tie:aD ["_law_state", "_law_net_here", "_law_far", "_law_pool", "_law_at", "_law_other", "_law_name"] ["_law_state", "_law_net_here", "_law_far"] (av jD):=⟨rfl,rfl,rfl,by decide +kernel,rfl,by decide +kernel,by decide +kernel⟩
theorem m3 (Y:Ev K mg):FnOk P w K mg base CX0 4 Y.fNewTie.f Y.fNewTie.fd ["_law_state", "_law_net_here", "_law_far"] (spO ⟨P,w,K,obG K⟩ 3 (runO 7 cO)) :=
 cX Y.fNewTie.F sc_l_new_tie (by decide) (fun cdv A outer s H E hr=>by
  unfold cO
  exact (af (aJ 3 sc_l_new_tie.nd rfl (Or.inr rfl) (aM (EvF.s (mG uL uM (by rfl) Y.b_list PyProof.Rows.boot_list (EvA.w (ab (ap (hu1 hr) (ac 1 (pv 1)) (EvS.w ad)) ae)))) (ao 2 (pv 2))))
  (af (aH (bS (bG (aw fG dA (aV be bf (by rfl) Y.b_len PySem.boot_len (bx (ao 3 (pv 3)))) (EvS.w ad) (by first | exact nomark _ | rfl)) (bW (aw (aQ (hu60 hr)) aP (ar 0 (aE Y) (hr.mono (by decide)) Y.fNext.n.mg Y.fNext.n.kp Y.fNext.b (pv 0) (ab ad ae)) (EvS.w ad) (by first | exact nomark _ | rfl))))) (ak (aJ 3 sc_l_new_tie.nd rfl (Or.inr rfl) (aM (ac 3 (pv 3)) (EvS.w (cF (EvF.s (bF (N:=["_law_word", "_law_pool"]) (T:=(.nm 0)) (js:=[none,some 3]) (bj (ar 0 (eu Y) (hr.mono (by decide)) Y.fWords.n.mg Y.fWords.n.kp Y.fWords.b (pv 0) (ab ad ae))) (fun _ _ _ _ _=>aN (i:=0) jV rfl (Or.inl rfl)) (fun _ _ _ _ _=>gp (aw (dn (hu62 hr)) dm (ac 0 (pv 0)) (ao 1 (pv 1)) (by first | exact nomark _ | rfl))) (fun _ _ _ _ _=>(ac 0 (pv 0))))) bR (bA (EvS.w ad))))))) aA)
  (af (aJ 4 sc_l_new_tie.nd rfl (Or.inl rfl) (ar 0 (aE Y) (hr.mono (by decide)) Y.fNext.n.mg Y.fNext.n.kp Y.fNext.b (pv 0) (ab (aV be bf (by rfl) Y.b_len PySem.boot_len (bx (ao 3 (pv 3)))) ae)))
  (af (aJ 5 sc_l_new_tie.nd rfl (Or.inl rfl) (ap (hu1 hr) (ac 3 (pv 3)) (EvS.w (dI (aM (aM (ac 4 (pv 4)) (EvS.w ad)) (EvS.w (ar 0 (aE Y) (hr.mono (by decide)) Y.fNext.n.mg Y.fNext.n.kp Y.fNext.b (pv 0) (ab (cE (aV be bf (by rfl) Y.b_len PySem.boot_len (bx (ao 3 (pv 3)))) (EvS.w ad)) ae)))) (EvS.w (aV be bf (by rfl) Y.b_len PySem.boot_len (bx (ao 3 (pv 3)))))))))
  (af (aJ 6 sc_l_new_tie.nd rfl (Or.inl rfl) (ar 0 (kN Y) (hr.mono (by decide)) Y.fFresh.n.mg Y.fFresh.n.kp Y.fFresh.b (pv 0) (ab (EvF.s (bF (N:=["_law_tie"]) (T:=(.nm 0)) (js:=[none]) (bj (ap (hu1 hr) (ac 1 (pv 1)) (EvS.w ad))) (fun _ _ _ _ _=>aN (i:=0) jU rfl (Or.inl rfl)) (fun _ _ _ _ _=>bC) (fun _ _ _ _ _=>(ap (hu1 hr) (ac 0 (pv 0)) (EvS.w ad))))) ae)))
  (ak (ay (aL (ab ba (ab (ac 6 (pv 6)) (ab (ap (hu1 hr) (ac 3 (pv 3)) (ao 4 (pv 4))) (ab (ac 5 (pv 5)) (ab (ar 0 (iL Y) (hr.mono (by decide)) Y.fCost.n.mg Y.fCost.n.kp Y.fCost.b (pv 0) (ab (ar 0 (aE Y) (hr.mono (by decide)) Y.fNext.n.mg Y.fNext.n.kp Y.fNext.b (pv 0) (ab ad ae)) ae)) ae))))))))))))))
theorem nq (Y:Ev K mg):FnOk P w K mg base CX0 4 Y.fNewTie.f Y.fNewTie.fd ["_law_state", "_law_net_here", "_law_far"] (spO ⟨P,w,K,obG K⟩ 3 eT):=cv (m3 Y) m8
theorem nk:(["_law_tie"]:List Str).Nodup:=by decide +kernel
theorem nj:(["_law_tie"]:List Str).Nodup:=by decide +kernel
theorem ni:(["_law_tie"]:List Str).Nodup:=by decide +kernel
theorem nh:(["_law_place", "_law_net_here"]:List Str).Nodup:=by decide +kernel
theorem sc_l_deed:aD ["_law_state", "_law_net_here", "_law_names", "_law_ends_here", "_law_far", "_law_which"] ["_law_state", "_law_net_here"] (av sDeed):=⟨rfl,rfl,rfl,by decide +kernel,rfl,by decide +kernel,by decide +kernel⟩
theorem rB (Y:Ev K mg):FnOk P w K mg base CX0 5 Y.fDeed.f Y.fDeed.fd ["_law_state", "_law_net_here"] (spO ⟨P,w,K,obG K⟩ 2 (runO 6 fy)) :=
 cX Y.fDeed.F sc_l_deed (by decide) (fun cdv A outer s H E hr=>by
  unfold fy
  exact (af (qE 2 (N:=["_law_tie"]) (T:=(.nm 0)) (js:=[none]) sc_l_deed.nd rfl rfl (bj (ap (hu1 hr) (ac 1 (pv 1)) (EvS.w ad))) (fun _ _ _ _ _=>aN (i:=0) nk rfl (Or.inl rfl)) (fun _ _ _ _ _=>bC) (fun _ _ _ _ _=>(ap (hu1 hr) (ac 0 (pv 0)) (EvS.w ad))))
  (af (aJ 3 sc_l_deed.nd rfl (Or.inl rfl) (EvF.s (oM rfl (by rfl) Y.b_sorted (by rfl) Y.b_set (EvA.w (ab (aM (EvF.s (bF (N:=["_law_tie"]) (T:=(.nm 0)) (js:=[none]) (bj (ap (hu1 hr) (ac 1 (pv 1)) (EvS.w ad))) (fun _ _ _ _ _=>aN (i:=0) nj rfl (Or.inl rfl)) (fun _ _ _ _ _=>bC) (fun _ _ _ _ _=>(ap (hu1 hr) (ac 0 (pv 0)) (EvS.w ad))))) (EvS.w (EvF.s (bF (N:=["_law_tie"]) (T:=(.nm 0)) (js:=[none]) (bj (ap (hu1 hr) (ac 1 (pv 1)) (EvS.w ad))) (fun _ _ _ _ _=>aN (i:=0) ni rfl (Or.inl rfl)) (fun _ _ _ _ _=>bC) (fun _ _ _ _ _=>(ap (hu1 hr) (ac 0 (pv 0)) (EvS.w ad))))))) ae)))))
  (af (qE 4 (N:=["_law_place", "_law_net_here"]) (T:=(.nm 0)) (js:=[none,some 1]) sc_l_deed.nd rfl rfl (bj (ac 3 (pv 3))) (fun _ _ _ _ _=>aN (i:=0) nh rfl (Or.inl rfl)) (fun _ _ _ _ _=>gp (aw (dn (hu62 hr)) dm (ac 0 (pv 0)) (EvS.w (ap (hu1 hr) (ac 1 (pv 1)) (EvS.w ad))) (by first | exact nomark _ | rfl))) (fun _ _ _ _ _=>(ac 0 (pv 0))))
  (af (aJ 5 sc_l_deed.nd rfl (Or.inl rfl) (ar 0 (aE Y) (hr.mono (by decide)) Y.fNext.n.mg Y.fNext.n.kp Y.fNext.b (pv 0) (ab ad ae)))
  (af (aH (bS (dL (aw (aQ (hu60 hr)) aP (ac 5 (pv 5)) (EvS.w ad) (by first | exact nomark _ | rfl)) (cK (aw fG dA (aV be bf (by rfl) Y.b_len PySem.boot_len (EvA.w (ab (ap (hu1 hr) (ac 1 (pv 1)) (EvS.w ad)) ae))) (EvS.w ad) (by first | exact nomark _ | rfl))))) (af (aH (bS (dL (aw (cR (hu0 hr)) b7 (ac 4 (pv 4)) (EvS.w (EvF.s (cY ae))) (by first | exact nomark _ | rfl)) (cK (aw sV pX (ar 0 (aE Y) (hr.mono (by decide)) Y.fNext.n.mg Y.fNext.n.kp Y.fNext.b (pv 0) (ab ad ae)) (EvS.w ad) (by first | exact nomark _ | rfl))))) (ak (ay (aL (ab ba (ab (ar 0 (e9 Y) (hr.mono (by decide)) Y.fOf.n.mg Y.fOf.n.kp Y.fOf.b (pv 0) (ab (ac 4 (pv 4)) ae)) ae))))) aA)
  (ak (ay (aL (ab ba (ab (ar 0 (kN Y) (hr.mono (by decide)) Y.fFresh.n.mg Y.fFresh.n.kp Y.fFresh.b (pv 0) (ab (ap (hu1 hr) (ac 1 (pv 1)) (EvS.w ad)) ae)) ae)))))) aA)
  (af (aH (bS (dL (aw (aQ (hu60 hr)) aP (ac 5 (pv 5)) (EvS.w ad) (by first | exact nomark _ | rfl)) (cK (aw (pZ (hu60 hr)) nL (ap (hu1 hr) (ac 1 (pv 1)) (EvS.w ad)) (EvS.w (aL ae)) (by first | exact nomark _ | rfl))))) (ak (ay (aL (ab ba (ab (ar 0 (e9 Y) (hr.mono (by decide)) Y.fOf.n.mg Y.fOf.n.kp Y.fOf.b (pv 0) (ab (ap (hu1 hr) (ac 1 (pv 1)) (EvS.w ad)) ae)) ae))))) aA)
  (af (aH (bS (dL (aw (aQ (hu60 hr)) aP (ac 5 (pv 5)) (EvS.w ad) (by first | exact nomark _ | rfl)) (cK (aw (cR (hu0 hr)) b7 (ac 2 (pv 2)) (EvS.w (EvF.s (cY ae))) (by first | exact nomark _ | rfl))))) (ak (ay (aL (ab ba (ab (ar 0 (e9 Y) (hr.mono (by decide)) Y.fOf.n.mg Y.fOf.n.kp Y.fOf.b (pv 0) (ab (ac 2 (pv 2)) ae)) ae))))) aA)
  (af (aH (bS (dL (aw (jf (hu62 hr)) jd (ac 5 (pv 5)) (EvS.w (aL (ab ad (ab ad ae)))) (by first | exact nomark _ | rfl)) (cK (aw (cR (hu0 hr)) b7 (ac 2 (pv 2)) (EvS.w (EvF.s (cY ae))) (by first | exact nomark _ | rfl))))) (ak (ay (aL (ab ba (ab (ar 0 (e9 Y) (hr.mono (by decide)) Y.fOf.n.mg Y.fOf.n.kp Y.fOf.b (pv 0) (ab (ac 2 (pv 2)) ae)) (ab (ar 0 (iL Y) (hr.mono (by decide)) Y.fCost.n.mg Y.fCost.n.kp Y.fCost.b (pv 0) (ab (ar 0 (aE Y) (hr.mono (by decide)) Y.fNext.n.mg Y.fNext.n.kp Y.fNext.b (pv 0) (ab ad ae)) ae)) ae)))))) aA)
  (af (aH (aw fG dA (aV be bf (by rfl) Y.b_len PySem.boot_len (bx (ao 2 (pv 2)))) (EvS.w ad) (by first | exact nomark _ | rfl)) (ak (ay (ar 0 (nq Y) (hr.mono (by decide)) Y.fNewTie.n.mg Y.fNewTie.n.kp Y.fNewTie.b (pv 0) (ab (ac 1 (pv 1)) (ab (ac 4 (pv 4)) ae))))) aA)
  (ak (ay (aL (ab ba (ab (ar 0 (e9 Y) (hr.mono (by decide)) Y.fOf.n.mg Y.fOf.n.kp Y.fOf.b (pv 0) (ab (ac 2 (pv 2)) ae)) ae)))))))))))))))
theorem sr (Y:Ev K mg):FnOk P w K mg base CX0 5 Y.fDeed.f Y.fDeed.fd ["_law_state", "_law_net_here"] (spO ⟨P,w,K,obG K⟩ 2 iQ):=cv (rB Y) rR
theorem jX:(["_law_place"]:List Str).Nodup:=by decide +kernel
theorem jW:(["_law_tie"]:List Str).Nodup:=by decide +kernel
theorem sc_l_changed:aD ["_law_net_here", "_law_deed_here", "_law_places", "_law_ties", "_law_two"] ["_law_net_here", "_law_deed_here"] (av fZ):=⟨rfl,rfl,rfl,by decide +kernel,rfl,by decide +kernel,by decide +kernel⟩
theorem m4 (Y:Ev K mg):FnOk P w K mg base CX0 1 Y.fChangedL.f Y.fChangedL.fd ["_law_net_here", "_law_deed_here"] (spQ ⟨P,w,K,obG K⟩ 2 (run 5 cP)) :=
 bq Y.fChangedL.F sc_l_changed (by decide) (fun cdv A outer s H E hr=>by
  unfold cP
  exact (af (fg 2 sc_l_changed.nd rfl (Or.inl rfl) (mG (n4 rfl) n5 (by rfl) Y.b_dict PyProof.Rows.boot_dict (EvA.w (ab (EvF.s (bF (N:=["_law_place"]) (T:=(.nm 0)) (js:=[none]) (bj (ap (hu1 hr) (ac 0 (pv 0)) (EvS.w ad))) (fun _ _ _ _ _=>aN (i:=0) jX rfl (Or.inl rfl)) (fun _ _ _ _ _=>bC) (fun _ _ _ _ _=>(aL (ab (ac 0 (pv 0)) (ab bB ae)))))) ae))))
  (af (fg 3 sc_l_changed.nd rfl (Or.inl rfl) (mG (n4 rfl) n5 (by rfl) Y.b_dict PyProof.Rows.boot_dict (EvA.w (ab (EvF.s (bF (N:=["_law_tie"]) (T:=(.nm 0)) (js:=[none]) (bj (ap (hu1 hr) (ac 0 (pv 0)) (EvS.w ad))) (fun _ _ _ _ _=>aN (i:=0) jW rfl (Or.inl rfl)) (fun _ _ _ _ _=>bC) (fun _ _ _ _ _=>(aL (ab (ap (hu1 hr) (ac 0 (pv 0)) (EvS.w ad)) (ab (ac 0 (pv 0)) ae)))))) ae))))
  (af (aH (aw (aQ (hu60 hr)) aP (ap (hu1 hr) (ac 1 (pv 1)) (EvS.w ad)) (EvS.w ba) (by first | exact nomark _ | rfl)) (ak (mD 2 (hu1 hr) bB (pv 2) (ap (hu1 hr) (ac 1 (pv 1)) (EvS.w ad)))) (ak (aH (aw (aQ (hu60 hr)) aP (ap (hu1 hr) (ac 1 (pv 1)) (EvS.w ad)) (EvS.w ba) (by first | exact nomark _ | rfl)) (ak (dq (EvS.w (nS 2 (pv 2) (ap (hu1 hr) (ac 1 (pv 1)) (EvS.w ad)))))) (ak (aH (aw (aQ (hu60 hr)) aP (ap (hu1 hr) (ac 1 (pv 1)) (EvS.w ad)) (EvS.w ba) (by first | exact nomark _ | rfl)) (ak (dq (EvS.w (nS 3 (pv 3) (ap (hu1 hr) (ac 1 (pv 1)) (EvS.w ad)))))) (ak (aH (aw (aQ (hu60 hr)) aP (ap (hu1 hr) (ac 1 (pv 1)) (EvS.w ad)) (EvS.w ba) (by first | exact nomark _ | rfl)) (ak (mD 3 (hu1 hr) (aM (cF (wk 3 (hu1 hr) (pv 3) (EvS.w (ap (hu1 hr) (ac 1 (pv 1)) (EvS.w ad)))) bR (bA (EvS.w ad))) (EvS.w (aL (ab (ap (hu1 hr) (ac 1 (pv 1)) (EvS.w ad)) ae)))) (pv 3) (ap (hu1 hr) (ac 1 (pv 1)) (EvS.w ad)))) (af (aJ 4 sc_l_changed.nd rfl (Or.inl rfl) (EvF.s (mE rfl (by rfl) Y.b_sorted (EvA.w (ab (cF (ac 1 (pv 1)) (bA (EvS.w ad)) (bA (EvS.w ad))) ae)))))
  (ak (mD 3 (hu1 hr) (aL (ab (ap (hu1 hr) (ac 1 (pv 1)) (EvS.w ad)) (ab (ap (hu1 hr) (ac 4 (pv 4)) (EvS.w ad)) (ab (ap (hu1 hr) (ac 4 (pv 4)) (EvS.w ad)) (ab (ap (hu1 hr) (ac 1 (pv 1)) (EvS.w ad)) ae))))) (pv 3) (ap (hu1 hr) (ac 1 (pv 1)) (EvS.w ad))))))))))))
  (ak (ay (aL (ab (dk bO bP (by rfl) Y.b_tuple PyProof.Rows.boot_tuple (EvA.w (ab (EvF.s (iM rfl (by rfl) Y.b_sorted (bx (ao 2 (pv 2))))) ae))) (ab (dk bO bP (by rfl) Y.b_tuple PyProof.Rows.boot_tuple (EvA.w (ab (EvF.s (sy 3 rfl (by rfl) Y.b_sorted (pv 3))) ae))) ae)))))))))
theorem nr (Y:Ev K mg):FnOk P w K mg base CX0 1 Y.fChangedL.f Y.fChangedL.fd ["_law_net_here", "_law_deed_here"] (spQ ⟨P,w,K,obG K⟩ 2 eU):=aW (m4 Y) na
theorem gZ:(["_law_one", "_law_other"]:List Str).Nodup:=by decide +kernel
theorem pC:aD ["_law_found", "_law_due"] ["_law_found", "_law_due"] (av sSame):=⟨rfl,rfl,rfl,by decide +kernel,rfl,by decide +kernel,by decide +kernel⟩
theorem fE (Y:Ev K mg) {k:Nat} {D:Fd} (G:FnOk P w K mg base CX0 k Y.fSame.f Y.fSame.fd ["_law_found", "_law_due"] (spQ ⟨P,w,K,obG K⟩ 2 D)):FnOk P w K mg base CX0 (k+1) Y.fSame.f Y.fSame.fd ["_law_found", "_law_due"] (spQ ⟨P,w,K,obG K⟩ 2 (run 2 (bV D))) :=
 bq Y.fSame.F pC (by decide) (fun cdv A outer s H E hr=>by
  unfold bV
  exact (af (aH (aR (EvS.w (bp "tuple" (by decide) Y.b_isinstance Y.b_tuple PyProof.Rows.boot_tuple (ao 1 (pv 1))))) (af (aH (bS (bG (aX (aR (EvS.w (bp "tuple" (by decide) Y.b_isinstance Y.b_tuple PyProof.Rows.boot_tuple (ao 0 (pv 0)))))) (bW (aw (cR (hu0 hr)) b7 (aV be bf (by rfl) Y.b_len PySem.boot_len (bx (ao 0 (pv 0)))) (EvS.w (aV be bf (by rfl) Y.b_len PySem.boot_len (bx (ao 1 (pv 1))))) (by first | exact nomark _ | rfl))))) (ak (ay bB)) aA)
  (ak (ay (aV (dN rfl) gu (by rfl) Y.b_all PyProof.Rows.boot_all (EvA.w (ab (EvF.s (bF (N:=["_law_one", "_law_other"]) (T:=(.tp [0,1])) (js:=[none,none]) (nT (by rfl) Y.b_zip (ab (ac 0 (pv 0)) (ab (ac 1 (pv 1)) ae))) (fun _ _ _ _ _=>lV (n:=2) rfl (dz (aN (i:=0) gZ rfl (Or.inl rfl)) (dz (aN (i:=1) gZ rfl (Or.inl rfl)) jM))) (fun _ _ _ _ _=>bC) (fun _ _ _ _ _=>(aG G hr Y.fSame.n.mg Y.fSame.n.kp Y.fSame.b (ab (ac 0 (pv 0)) (ab (ac 1 (pv 1)) ae)))))) ae)))))) aA)
  (af (aH (aw sU pW (ac 1 (pv 1)) (EvS.w qI) (by first | exact nomark _ | rfl)) (ak (ay (b8 sU pW (ac 0 (pv 0)) (EvS.w qI) (by first | exact nomark _ | rfl)))) aA)
  (af (aH (aR (EvS.w (bp "bool" (by decide) Y.b_isinstance Y.b_bool PyProof.Rows.boot_bool (ao 1 (pv 1))))) (ak (ay (b9 (bp "bool" (by decide) Y.b_isinstance Y.b_bool PyProof.Rows.boot_bool (ao 0 (pv 0))) (cG (b8 (aQ (hu60 hr)) aP (ac 0 (pv 0)) (ao 1 (pv 1)) (by first | exact nomark _ | rfl)))))) aA)
  (af (aH (aR (EvS.w (bp "str" (by decide) Y.b_isinstance Y.b_str PyProof.Rows.boot_str (ao 1 (pv 1))))) (ak (ay (b9 (bp "str" (by decide) Y.b_isinstance Y.b_str PyProof.Rows.boot_str (ao 0 (pv 0))) (cG (b8 (aQ (hu60 hr)) aP (ac 0 (pv 0)) (ao 1 (pv 1)) (by first | exact nomark _ | rfl)))))) aA)
  (ak (ay (b9 (bp "int" (by decide) Y.b_isinstance Y.b_int PyProof.Rows.boot_int (ao 0 (pv 0))) (b9 (qH (bp "bool" (by decide) Y.b_isinstance Y.b_bool PyProof.Rows.boot_bool (ao 0 (pv 0)))) (cG (b8 (aQ (hu60 hr)) aP (ac 0 (pv 0)) (ao 1 (pv 1)) (by first | exact nomark _ | rfl))))))))))))
theorem qB (Y:Ev K mg):FnOk P w K mg base CX0 1 Y.fSame.f Y.fSame.fd ["_law_found", "_law_due"] (spQ ⟨P,w,K,obG K⟩ 2 gB):=aW (fE Y (uy (n:=2))) pT
theorem qA (Y:Ev K mg):FnOk P w K mg base CX0 2 Y.fSame.f Y.fSame.fd ["_law_found", "_law_due"] (spQ ⟨P,w,K,obG K⟩ 2 gA):=aW (fE Y (qB Y)) pS
theorem qz (Y:Ev K mg):FnOk P w K mg base CX0 3 Y.fSame.f Y.fSame.fd ["_law_found", "_law_due"] (spQ ⟨P,w,K,obG K⟩ 2 gz):=aW (fE Y (qA Y)) pR
theorem iK (Y:Ev K mg):FnOk P w K mg base CX0 4 Y.fSame.f Y.fSame.fd ["_law_found", "_law_due"] (spQ ⟨P,w,K,obG K⟩ 2 dR):=aW (fE Y (qz Y)) rP
theorem sc_l_law:aD ["_law_script", "_law_state", "_law_turn", "_law_net_here", "_law_past", "_law_step", "_law_deed_here", "_law_due", "_law_former", "_law_tie"] ["_law_script"] (av sLaw):=⟨rfl,rfl,rfl,by decide +kernel,rfl,by decide +kernel,by decide +kernel⟩
theorem tN (Y:Ev K mg):FnOk P w K mg base CX0 6 Y.fLaw.f Y.fLaw.fd ["_law_script"] (spQ ⟨P,w,K,obG K⟩ 1 (run 10 gD)) :=
 bq Y.fLaw.F sc_l_law (by decide) (fun cdv A outer s H E hr=>by
  unfold gD
  exact (af (qF 1 0 sc_l_law.nd rfl (Or.inl rfl) (qC Y) (hr.mono (by decide)) Y.fBegin.n.mg Y.fBegin.n.kp Y.fBegin.b (pv 0))
  (af (gk PassesOwn.never rfl (eB (by rfl) Y.b_range (ab (aM ad (EvS.w (aV be bf (by rfl) Y.b_len PySem.boot_len (EvA.w (ab (cF (ac 0 (pv 0)) bR (bA (EvS.w ad))) ae))))) ae)) (aU 2 sc_l_law.nd rfl (Or.inl rfl)) (af (aJ 3 sc_l_law.nd rfl (Or.inl rfl) (ar 1 (uw Y) (hr.mono (by decide)) Y.fNet.n.mg Y.fNet.n.kp Y.fNet.b (pv 1) (ab ad (ab ad ae))))
  (af (fg 4 sc_l_law.nd rfl (Or.inl rfl) (cY ae))
  (af (gk PassesOwn.never rfl (eB (by rfl) Y.b_range (ab (ar 1 (aE Y) (hr.mono (by decide)) Y.fNext.n.mg Y.fNext.n.kp Y.fNext.b (pv 1) (ab ad ae)) ae)) (aU 5 sc_l_law.nd rfl (Or.inl rfl)) (af (aJ 6 sc_l_law.nd rfl (Or.inl rfl) (ar 1 (sr Y) (hr.mono (by decide)) Y.fDeed.n.mg Y.fDeed.n.kp Y.fDeed.b (pv 1) (ab (ac 3 (pv 3)) ae)))
  (af (aJ 7 sc_l_law.nd rfl (Or.inl rfl) (aG (nr Y) (hr.mono (by decide)) Y.fChangedL.n.mg Y.fChangedL.n.kp Y.fChangedL.b (ab (ac 3 (pv 3)) (ab (ac 6 (pv 6)) ae))))
  (af (aH (bS (bG (aw pV nM (aG (g8 Y) (hr.mono (by decide)) Y.fIsDeed.n.mg Y.fIsDeed.n.kp Y.fIsDeed.b (ab (ac 6 (pv 6)) ae)) (EvS.w bB) (by first | exact nomark _ | rfl)) (bG (aX (aR (EvS.w (aG (iK Y) (hr.mono (by decide)) Y.fSame.n.mg Y.fSame.n.kp Y.fSame.b (ab (aG (eS Y) (hr.mono (by decide)) Y.fChanged.n.mg Y.fChanged.n.kp Y.fChanged.b (ab (ac 3 (pv 3)) (ab (ac 6 (pv 6)) ae))) (ab (ac 7 (pv 7)) ae)))))) (bW (aw pV nM (aG (oK Y) (hr.mono (by decide)) Y.fIsNet.n.mg Y.fIsNet.n.kp Y.fIsNet.b (ab (ac 7 (pv 7)) ae)) (EvS.w bB) (by first | exact nomark _ | rfl)))))) (ak (ay bB)) aA)
  (af (dq (EvS.w (lD 4 PySem.F.slot_list_append PySem.F.type_list_append cV eh (pv 4) (ab (aL (ab (ac 3 (pv 3)) (ab (ac 6 (pv 6)) (ab (ac 7 (pv 7)) ae)))) ae))))
  (ak (aJ 3 sc_l_law.nd rfl (Or.inl rfl) (ac 7 (pv 7)))))))))
  (af (gk PassesOwn.never rfl (bj (ac 4 (pv 4))) (gm (n:=3) rfl (aZ (aU 8 sc_l_law.nd rfl (Or.inl rfl)) (aZ (aU 6 sc_l_law.nd rfl (Or.inl rfl)) (aZ (aU 7 sc_l_law.nd rfl (Or.inl rfl)) fq))) (bh (bh (bh gi)))) (ak (aH (aX (aR (EvS.w (aG (iK Y) (hr.mono (by decide)) Y.fSame.n.mg Y.fSame.n.kp Y.fSame.b (ab (aG (eS Y) (hr.mono (by decide)) Y.fChanged.n.mg Y.fChanged.n.kp Y.fChanged.b (ab (ac 8 (pv 8)) (ab (ac 6 (pv 6)) ae))) (ab (ac 7 (pv 7)) ae)))))) (ak (ay bB)) aA)))
  (ak (aH (aw (pZ (hu60 hr)) nL (ap (hu1 hr) (ac 3 (pv 3)) (EvS.w ad)) (EvS.w (aL ae)) (by first | exact nomark _ | rfl)) (af (aJ 9 sc_l_law.nd rfl (Or.inl rfl) (ar 1 (e9 Y) (hr.mono (by decide)) Y.fOf.n.mg Y.fOf.n.kp Y.fOf.b (pv 1) (ab (ap (hu1 hr) (ac 3 (pv 3)) (EvS.w ad)) ae)))
  (ak (aH (aX (aR (EvS.w (aG (iK Y) (hr.mono (by decide)) Y.fSame.n.mg Y.fSame.n.kp Y.fSame.b (ab (aG (eS Y) (hr.mono (by decide)) Y.fChanged.n.mg Y.fChanged.n.kp Y.fChanged.b (ab (ac 3 (pv 3)) (ab (aL (ab ba (ab (ap (hu1 hr) (ac 9 (pv 9)) (EvS.w ad)) (ab (ap (hu1 hr) (ac 9 (pv 9)) (EvS.w ad)) ae)))) ae))) (ab (ac 3 (pv 3)) ae)))))) (ak (ay bB)) aA))) aA)))))))
  (ak (ay bB)))))
theorem vG (Y:Ev K mg):FnOk P w K mg base CX0 6 Y.fLaw.f Y.fLaw.fd ["_law_script"] (spLaw K):=vL (tN Y) tW
end
end Pre
namespace Pre
open PySem L2
structure DfIn (K:PySem.W.Frag) (x:Str) (st:Stmt) where
 {f:Addr}
 {od an:Option Addr}
 {sl:Array (Option Value)}
 {oc kV dc pm cd ct:Value}
 a:PySem.W.nsIn K mainGlobals x=some (some (.ref f))
 l:K.lookup f=some ⟨oc,od,.func (PySem.W.fnOf x x (dr st) (b5 st) (av st) .none kV dc pm an cd ct),sl⟩
 c:PySem.W.codeIn K cd x=true
 k:PySem.W.keepIn K (.ref f)=true
noncomputable def mkDf {K:PySem.W.Frag} {h:Heap} {mg:Str->Option Value} (X:K.In h) (G:h.Ns mainGlobals mg) {x:Str} {st:Stmt} {ps:List Str} (d:DfIn K x st)
  (hb:∀ (kV doc pm:Value) (an:Option Addr) (cdv ct:Value) (us:List Value),us.length=ps.length->bindArgs (PySem.W.fnOf x x (dr st) (b5 st) (av st) .none kV doc pm an cdv ct) ⟨us,[]⟩=pure (ps.zip us)):Df K mg x st ps :=
 ⟨d.f,_,qD d.l d.c d.k,(qD d.l d.c d.k).binds hb,PySem.W.mg_of X G d.a,d.k⟩
structure TbIn (K:PySem.W.Frag) (x:Str) (D:List (Str×Addr)) where
 {a:Addr}
 {es:Array DictEntry}
 {ep:Nat}
 n:PySem.W.nsIn K mainGlobals x=some (some (.ref a))
 l:K.lookup a=some ⟨.type "dict",none,.dict es ep,#[]⟩
 ne:(a==sysModules)=false
 r:PyProof.Rows.KTD.Rows (fun (f:Addr) v=>v=Value.ref f) es.toList D
noncomputable def mkTb {K:PySem.W.Frag} {h:Heap} {mg:Str->Option Value} (X:K.In h) (G:h.Ns mainGlobals mg) {x:Str} {D:List (Str×Addr)} (d:TbIn K x D):TabAt K mg x D :=
 ⟨d.a,PySem.W.mg_of X G d.n,fun _ X'=>⟨d.ne,_,d.es,d.ep,X' _ _ d.l,⟨rfl,rfl,rfl⟩,rfl,d.r⟩⟩
theorem ba1 {fd:FuncData} {ps:List Str} (us:List Value) (h:us.length=1) (k:∀ a0,bindArgs fd ⟨[a0],[]⟩=pure (ps.zip [a0])):bindArgs fd ⟨us,[]⟩=pure (ps.zip us):=by obtain ⟨a0,u0,rfl⟩:=List.exists_cons_of_length_eq_add_one (h); obtain rfl:=List.length_eq_zero_iff.mp (Nat.succ.inj (h)); exact k a0
theorem ba2 {fd:FuncData} {ps:List Str} (us:List Value) (h:us.length=2) (k:∀ a0 a1,bindArgs fd ⟨[a0,a1],[]⟩=pure (ps.zip [a0,a1])):bindArgs fd ⟨us,[]⟩=pure (ps.zip us):=by obtain ⟨a0,u0,rfl⟩:=List.exists_cons_of_length_eq_add_one (h); obtain ⟨a1,u1,rfl⟩:=List.exists_cons_of_length_eq_add_one (Nat.succ.inj (h)); obtain rfl:=List.length_eq_zero_iff.mp (Nat.succ.inj (Nat.succ.inj (h))); exact k a0 a1
theorem ba3 {fd:FuncData} {ps:List Str} (us:List Value) (h:us.length=3) (k:∀ a0 a1 a2,bindArgs fd ⟨[a0,a1,a2],[]⟩=pure (ps.zip [a0,a1,a2])):bindArgs fd ⟨us,[]⟩=pure (ps.zip us):=by obtain ⟨a0,u0,rfl⟩:=List.exists_cons_of_length_eq_add_one (h); obtain ⟨a1,u1,rfl⟩:=List.exists_cons_of_length_eq_add_one (Nat.succ.inj (h)); obtain ⟨a2,u2,rfl⟩:=List.exists_cons_of_length_eq_add_one (Nat.succ.inj (Nat.succ.inj (h))); obtain rfl:=List.length_eq_zero_iff.mp (Nat.succ.inj (Nat.succ.inj (Nat.succ.inj (h)))); exact k a0 a1 a2
theorem ba4 {fd:FuncData} {ps:List Str} (us:List Value) (h:us.length=4) (k:∀ a0 a1 a2 a3,bindArgs fd ⟨[a0,a1,a2,a3],[]⟩=pure (ps.zip [a0,a1,a2,a3])):bindArgs fd ⟨us,[]⟩=pure (ps.zip us):=by obtain ⟨a0,u0,rfl⟩:=List.exists_cons_of_length_eq_add_one (h); obtain ⟨a1,u1,rfl⟩:=List.exists_cons_of_length_eq_add_one (Nat.succ.inj (h)); obtain ⟨a2,u2,rfl⟩:=List.exists_cons_of_length_eq_add_one (Nat.succ.inj (Nat.succ.inj (h))); obtain ⟨a3,u3,rfl⟩:=List.exists_cons_of_length_eq_add_one (Nat.succ.inj (Nat.succ.inj (Nat.succ.inj (h)))); obtain rfl:=List.length_eq_zero_iff.mp (Nat.succ.inj (Nat.succ.inj (Nat.succ.inj (Nat.succ.inj (h))))); exact k a0 a1 a2 a3
theorem wB {l:PySem.W.OpenLaw} {w:World} {K:PySem.W.Frag} {h:Heap} {mg:Str->Option Value} {fa:Addr} {tq1:Tok} (X:K.In h) (G:h.Ns mainGlobals mg) (hfa:mg "law" = some (.ref fa))
  (d1:DfIn K "is_word" jE) (d2:DfIn K "is_whole" ie) (d3:DfIn K "is_rising" fY) (d4:DfIn K "are_words" f7) (d5:DfIn K "is_tie" sIsTie) (d6:DfIn K "are_ties" ii) (d7:DfIn K "is_net" sIsNet) (d8:DfIn K "ties_by_name" eM) (d9:DfIn K "are_ends_and_cost" cC) (d10:DfIn K "is_deed" jF) (d11:DfIn K "place_comes" eN) (d12:DfIn K "place_leaves" du) (d13:DfIn K "tie_comes" fX) (d14:DfIn K "tie_goes" ic) (d15:DfIn K "tie_costs" fW) (d16:DfIn K "changed" ig) (d17:DfIn K "_law_begin" sBegin) (d18:DfIn K "_law_next" sNext) (d19:DfIn K "_law_words" sWords) (d20:DfIn K "_law_cost" sCost) (d21:DfIn K "_law_ends" sEnds) (d22:DfIn K "_law_net" sNet) (d23:DfIn K "_law_of" sOf) (d24:DfIn K "_law_fresh" sFresh) (d25:DfIn K "_law_new_tie" jD) (d26:DfIn K "_law_deed" sDeed) (d27:DfIn K "_law_changed" fZ) (d28:DfIn K "_law_same" sSame) (d29:DfIn K "law" sLaw) (t1:TbIn K "DEEDS" [("place",d11.f),("leave",d12.f),("tie",d13.f),("untie",d14.f),("cost",d15.f)])
  (z1:PySem.W.nsIn K mainGlobals "ValueError" = some none) (z2:PySem.W.nsIn K mainGlobals "abs" = some none) (z3:PySem.W.nsIn K mainGlobals "all" = some none) (z4:PySem.W.nsIn K mainGlobals "bool" = some none) (z5:PySem.W.nsIn K mainGlobals "dict" = some none) (z6:PySem.W.nsIn K mainGlobals "int" = some none) (z7:PySem.W.nsIn K mainGlobals "isinstance" = some none) (z8:PySem.W.nsIn K mainGlobals "len" = some none) (z9:PySem.W.nsIn K mainGlobals "list" = some none) (z10:PySem.W.nsIn K mainGlobals "max" = some none) (z11:PySem.W.nsIn K mainGlobals "min" = some none) (z12:PySem.W.nsIn K mainGlobals "range" = some none) (z13:PySem.W.nsIn K mainGlobals "set" = some none) (z14:PySem.W.nsIn K mainGlobals "sorted" = some none) (z15:PySem.W.nsIn K mainGlobals "str" = some none) (z16:PySem.W.nsIn K mainGlobals "tuple" = some none) (z17:PySem.W.nsIn K mainGlobals "zip" = some none) (q1:PySem.W.nsIn K mainGlobals "LONGEST_WORD" = some (some (.int 8 tq1))) :
  ∃ fd:FuncData,(∀ (s:Shared) (v:Value),BindsTo s fd ⟨[v],[]⟩ [("_law_script",v)])/\∀ base:Heap,K.In base->base.Ns mainGlobals mg->FnOk l.prog w K mg base CX0 6 fa fd ["_law_script"] (spLaw K):=by
 obtain ⟨V,_,v⟩:∃ V:Ev K mg,∃ hb,V.fLaw=mkDf X G d29 hb:=⟨{ fIsWord:=mkDf X G d1 (fun _ _ _ _ _ _ us hl=>ba1 us hl fun _=>rfl),fIsWhole:=mkDf X G d2 (fun _ _ _ _ _ _ us hl=>ba1 us hl fun _=>rfl),fIsRising:=mkDf X G d3 (fun _ _ _ _ _ _ us hl=>ba1 us hl fun _=>rfl),fAreWords:=mkDf X G d4 (fun _ _ _ _ _ _ us hl=>ba1 us hl fun _=>rfl),fIsTie:=mkDf X G d5 (fun _ _ _ _ _ _ us hl=>ba1 us hl fun _=>rfl),fAreTies:=mkDf X G d6 (fun _ _ _ _ _ _ us hl=>ba1 us hl fun _=>rfl),fIsNet:=mkDf X G d7 (fun _ _ _ _ _ _ us hl=>ba1 us hl fun _=>rfl),fTiesByName:=mkDf X G d8 (fun _ _ _ _ _ _ us hl=>ba1 us hl fun _=>rfl),fAreEndsAndCost:=mkDf X G d9 (fun _ _ _ _ _ _ us hl=>ba1 us hl fun _=>rfl),fIsDeed:=mkDf X G d10 (fun _ _ _ _ _ _ us hl=>ba1 us hl fun _=>rfl),fPlaceComes:=mkDf X G d11 (fun _ _ _ _ _ _ us hl=>ba2 us hl fun _ _=>rfl),fPlaceLeaves:=mkDf X G d12 (fun _ _ _ _ _ _ us hl=>ba2 us hl fun _ _=>rfl),fTieComes:=mkDf X G d13 (fun _ _ _ _ _ _ us hl=>ba2 us hl fun _ _=>rfl),fTieGoes:=mkDf X G d14 (fun _ _ _ _ _ _ us hl=>ba2 us hl fun _ _=>rfl),fTieCosts:=mkDf X G d15 (fun _ _ _ _ _ _ us hl=>ba2 us hl fun _ _=>rfl),fChanged:=mkDf X G d16 (fun _ _ _ _ _ _ us hl=>ba2 us hl fun _ _=>rfl),fBegin:=mkDf X G d17 (fun _ _ _ _ _ _ us hl=>ba1 us hl fun _=>rfl),fNext:=mkDf X G d18 (fun _ _ _ _ _ _ us hl=>ba2 us hl fun _ _=>rfl),fWords:=mkDf X G d19 (fun _ _ _ _ _ _ us hl=>ba2 us hl fun _ _=>rfl),fCost:=mkDf X G d20 (fun _ _ _ _ _ _ us hl=>ba2 us hl fun _ _=>rfl),fEnds:=mkDf X G d21 (fun _ _ _ _ _ _ us hl=>ba4 us hl fun _ _ _ _=>rfl),fNet:=mkDf X G d22 (fun _ _ _ _ _ _ us hl=>ba3 us hl fun _ _ _=>rfl),fOf:=mkDf X G d23 (fun _ _ _ _ _ _ us hl=>ba2 us hl fun _ _=>rfl),fFresh:=mkDf X G d24 (fun _ _ _ _ _ _ us hl=>ba2 us hl fun _ _=>rfl),fNewTie:=mkDf X G d25 (fun _ _ _ _ _ _ us hl=>ba3 us hl fun _ _ _=>rfl),fDeed:=mkDf X G d26 (fun _ _ _ _ _ _ us hl=>ba2 us hl fun _ _=>rfl),fChangedL:=mkDf X G d27 (fun _ _ _ _ _ _ us hl=>ba2 us hl fun _ _=>rfl),fSame:=mkDf X G d28 (fun _ _ _ _ _ _ us hl=>ba2 us hl fun _ _=>rfl),fLaw:=mkDf X G d29 (fun _ _ _ _ _ _ us hl=>ba1 us hl fun _=>rfl),b_ValueError:=PySem.W.mg_none_of X G z1,b_abs:=PySem.W.mg_none_of X G z2,b_all:=PySem.W.mg_none_of X G z3,b_bool:=PySem.W.mg_none_of X G z4,b_dict:=PySem.W.mg_none_of X G z5,b_int:=PySem.W.mg_none_of X G z6,b_isinstance:=PySem.W.mg_none_of X G z7,b_len:=PySem.W.mg_none_of X G z8,b_list:=PySem.W.mg_none_of X G z9,b_max:=PySem.W.mg_none_of X G z10,b_min:=PySem.W.mg_none_of X G z11,b_range:=PySem.W.mg_none_of X G z12,b_set:=PySem.W.mg_none_of X G z13,b_sorted:=PySem.W.mg_none_of X G z14,b_str:=PySem.W.mg_none_of X G z15,b_tuple:=PySem.W.mg_none_of X G z16,b_zip:=PySem.W.mg_none_of X G z17,c_LONGEST_WORD:=⟨_,PySem.W.mg_of X G q1⟩,t_DEEDS:=mkTb X G t1 },fun _ _ _ _ _ _ us hl=>ba1 us hl fun _=>rfl,rfl⟩
 have g:=fun base=>vG (P:=l.prog) (w:=w) (base:=base) V
 rw [v] at g
 have e:=hfa.symm.trans (PySem.W.mg_of X G d29.a)
 obtain rfl:fa=d29.f:=by injection e with e; injection e
 exact ⟨_,fun s v=>.of_eq rfl,fun base _ _=>g base⟩
theorem walk {l:PySem.W.OpenLaw} {q:Program} {loose:List Str} {XP:(Str->Option Value)->Heap->Prop} {YP:World->Heap->Prop} {d:DefRec} {K:Params->PySem.W.Frag} (hn:l.most=some 63) (hdf:d.params.defaults=[])
  (hY:∀ (w:World) (h:Heap),YP w h->(K w.params).In h)
  (F:∀ (w:World) (mg:Str->Option Value) (fa:Addr) (h:Heap),(K w.params).In h->h.Ns mainGlobals mg->mg d.name=some (.ref fa) ->
   ∃ fd:FuncData,(∀ (s:Shared) (u:Value),BindsTo s fd ⟨[u],[]⟩ [("_law_script",u)])/\∀ base:Heap,(K w.params).In base->base.Ns mainGlobals mg->FnOk l.prog w (K w.params) mg base CX0 6 fa fd ["_law_script"] (spLaw (K w.params))) :
  PySem.W.WalkO q loose XP YP l.row.toRowW d [] (fun f vs=>PySem.call f vs) :=
 L2.nz (n:=63) (k:=6) (x := "_law_script") (CX:=fun _=>CX0) (sp:=fun w=>spLaw (K w.params)) hn (by decide) hdf ⟨rfl,by decide,by decide,rfl⟩ hY F (fun _ _ a ns hl _ hS=>⟨a,ns,rfl,hS,hl,fun _=>rfl⟩) fun _ _ _ _ _ z=>z
end Pre
open PySem PySem.W PyProof.Rows
set_option maxRecDepth 100000 in
set_option maxHeartbeats 0 in
theorem PySem.Challenge.cw_cheaptree_k32_nets_changed_holds : PySem.Challenge.rw_cheaptree_k32_nets_changed.Holds := by
 w_on; o_law; k_head; (case hw=>w_witness2)
 k_fill
 refine Pre.walk (l:=PySem.Challenge.rw_cheaptree_k32_nets_changed) rfl rfl (fun w h Y=>PySem.W.kIn_of Y) ?F
 case F =>
  intro w mg fa h KX G hmg
  refine' Pre.wB KX G hmg ⟨?a1,?l1,?c1,?k1⟩ ⟨?a2,?l2,?c2,?k2⟩ ⟨?a3,?l3,?c3,?k3⟩ ⟨?a4,?l4,?c4,?k4⟩ ⟨?a5,?l5,?c5,?k5⟩ ⟨?a6,?l6,?c6,?k6⟩ ⟨?a7,?l7,?c7,?k7⟩ ⟨?a8,?l8,?c8,?k8⟩ ⟨?a9,?l9,?c9,?k9⟩ ⟨?a10,?l10,?c10,?k10⟩ ⟨?a11,?l11,?c11,?k11⟩ ⟨?a12,?l12,?c12,?k12⟩ ⟨?a13,?l13,?c13,?k13⟩ ⟨?a14,?l14,?c14,?k14⟩ ⟨?a15,?l15,?c15,?k15⟩ ⟨?a16,?l16,?c16,?k16⟩ ⟨?a17,?l17,?c17,?k17⟩ ⟨?a18,?l18,?c18,?k18⟩ ⟨?a19,?l19,?c19,?k19⟩ ⟨?a20,?l20,?c20,?k20⟩ ⟨?a21,?l21,?c21,?k21⟩ ⟨?a22,?l22,?c22,?k22⟩ ⟨?a23,?l23,?c23,?k23⟩ ⟨?a24,?l24,?c24,?k24⟩ ⟨?a25,?l25,?c25,?k25⟩ ⟨?a26,?l26,?c26,?k26⟩ ⟨?a27,?l27,?c27,?k27⟩ ⟨?a28,?l28,?c28,?k28⟩ ⟨?a29,?l29,?c29,?k29⟩ ⟨?tn1,?tl1,?te1,?tr1⟩ ?z1 ?z2 ?z3 ?z4 ?z5 ?z6 ?z7 ?z8 ?z9 ?z10 ?z11 ?z12 ?z13 ?z14 ?z15 ?z16 ?z17 ?q1
  (case a1=>k_is); (case l1=>k_is); (case c1=>k_is); (case k1=>k_is); (case a2=>k_is); (case l2=>k_is); (case c2=>k_is); (case k2=>k_is); (case a3=>k_is); (case l3=>k_is); (case c3=>k_is); (case k3=>k_is); (case a4=>k_is); (case l4=>k_is); (case c4=>k_is); (case k4=>k_is)
  (case a5=>k_is); (case l5=>k_is); (case c5=>k_is); (case k5=>k_is); (case a6=>k_is); (case l6=>k_is); (case c6=>k_is); (case k6=>k_is); (case a7=>k_is); (case l7=>k_is); (case c7=>k_is); (case k7=>k_is); (case a8=>k_is); (case l8=>k_is); (case c8=>k_is); (case k8=>k_is)
  (case a9=>k_is); (case l9=>k_is); (case c9=>k_is); (case k9=>k_is); (case a10=>k_is); (case l10=>k_is); (case c10=>k_is); (case k10=>k_is); (case a11=>k_is); (case l11=>k_is); (case c11=>k_is); (case k11=>k_is); (case a12=>k_is); (case l12=>k_is); (case c12=>k_is); (case k12=>k_is)
  (case a13=>k_is); (case l13=>k_is); (case c13=>k_is); (case k13=>k_is); (case a14=>k_is); (case l14=>k_is); (case c14=>k_is); (case k14=>k_is); (case a15=>k_is); (case l15=>k_is); (case c15=>k_is); (case k15=>k_is); (case a16=>k_is); (case l16=>k_is); (case c16=>k_is); (case k16=>k_is)
  (case a17=>k_is); (case l17=>k_is); (case c17=>k_is); (case k17=>k_is); (case a18=>k_is); (case l18=>k_is); (case c18=>k_is); (case k18=>k_is); (case a19=>k_is); (case l19=>k_is); (case c19=>k_is); (case k19=>k_is); (case a20=>k_is); (case l20=>k_is); (case c20=>k_is); (case k20=>k_is)
  (case a21=>k_is); (case l21=>k_is); (case c21=>k_is); (case k21=>k_is); (case a22=>k_is); (case l22=>k_is); (case c22=>k_is); (case k22=>k_is); (case a23=>k_is); (case l23=>k_is); (case c23=>k_is); (case k23=>k_is); (case a24=>k_is); (case l24=>k_is); (case c24=>k_is); (case k24=>k_is)
  (case a25=>k_is); (case l25=>k_is); (case c25=>k_is); (case k25=>k_is); (case a26=>k_is); (case l26=>k_is); (case c26=>k_is); (case k26=>k_is); (case a27=>k_is); (case l27=>k_is); (case c27=>k_is); (case k27=>k_is); (case a28=>k_is); (case l28=>k_is); (case c28=>k_is); (case k28=>k_is)
  (case a29=>k_is); (case l29=>k_is); (case c29=>k_is); (case k29=>k_is); (case z1=>k_is); (case z2=>k_is); (case z3=>k_is); (case z4=>k_is); (case z5=>k_is); (case z6=>k_is); (case z7=>k_is); (case z8=>k_is); (case z9=>k_is); (case z10=>k_is); (case z11=>k_is); (case z12=>k_is)
  (case z13=>k_is); (case z14=>k_is); (case z15=>k_is); (case z16=>k_is); (case z17=>k_is); (case q1=>k_is)
  (case tn1=>k_is); (case tl1=>k_is); (case te1=>rfl); (case tr1=>repeat (first | exact .nil | refine .cons rfl rfl ?_))
