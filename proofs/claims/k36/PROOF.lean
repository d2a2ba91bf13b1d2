import PyProof.Rows.All
import Wide.All
import OpenK.AllK
import Wide.FinOn
import Lean
import PyProof.EqAt
import PyProof.EqKinds
import PyProof.TupleCall
import KE.KDictOf
import KE.KDictSum
import KE.KIntText
import KE.KLam
import KE.KNestM
import KE.KPairComp
import KE.KSortKey
import KE.KSortTup
import KE.KTab
import KE.LcSums
import PyProof.AttrMissHeap
import PyProof.Conv_int_bool
import PyProof.DictValues
import PyProof.Draws
import PyProof.EnumFor
import PyProof.EnumMake
import PyProof.EnumStmt
import PyProof.FactsAll.list_1
import PyProof.ListStr
import PyProof.MeetsStr2
import PyProof.NeKinds
import PyProof.ReprLen
import PyProof.ReprRoads
import PyProof.Rows.EnumRows
import PyProof.Rows.SetFrom
import PyProof.Rows.SortRev
import PyProof.Rows.StrBin
import PyProof.Rows.TupAdd
import PyProof.SetRoads
import PyProof.StrBlockG
import PyProof.StrBlockI
import PyProof.StrLawsChain
import PyProof.StrLawsIn
import PyProof.StrLawsRepr
import PyProof.StrLawsTight
import PyProof.StrWalks
import PyProof.WalksMore
import PyProof.ZipIter
import PySem.Challenge.RW_cheaptree_k36_whole_exchanges_are_small
set_option compiler.extract_closed false
set_option Elab.async false
set_option linter.all false
set_option maxRecDepth 100000
open PySem renaming wpAny_bind→aaa,wpAny_pure→aaf,starEach→aam,sizeLine_eq→aaC,Program→aaJ,mainGlobals→aaK,boot_len→aaM,wpAny_mono→aaT,compareOp→aaX,wpAny_call_entry→aa7,wpAny_holding→aa9,wpAny_newObj_type→aba,foldedSetIterable→abb,wpAny_callSpecial?_slot→abz,wpAny_truthy_bool→abM,wpAny_field→abN,swapsWith→abV,FuncData→abW,wpAny_seqItems→abX,mem_of_lookup→ab1,bootBuiltins→ab6,attributeBase→ab7,binaryOp→acj,codeAmong→acm,wpAny_setField→aco,sysModules→acp,assignEach→acq,wpAny_setField_rec→acu,wpAny_Call_Name_kw→acv,wpAny_passesOwn→acw,wpAny_standAt→acB,wpAny_setState_of→acC,behindInMarks→acD,Builtin→acI,wpAny_askSetting→acM,bindArgs→acN,wpAny_setEntries_of→acO,wpAny_pyIter_tuple→acS,wpAny_newList→acT,codeAny_builtin→acU,strKind→acV,wpAny_rule→ac3,wpAny_pyIter_list→ac4,keywordEach→ac5,Keyword→ada,sliceBounds→ade,tupleKind_room_in1→adq,codeAny_mono→adr,NameKind→ads,getItem→adv,wpAny_pyIter_slot→adA,swapsWithSole→adK,swappedStores→adL,strIterType→adM,plainId_quiet→adN,comprehension→adO,SetTable→adQ,wpAny_typeOf→ad0,wpAny_ite_split→ad1,wpAny_execs_nil→ad2,pickOrder→ad3,letOwnedTupleGo→ad4,holding→ad5,codeAny→ad6,typeIs_str→aeg,strKind_is→aeh,relayAll→aei,backToKw→aej,wpAny_updateSeq_pair→aek,wpAny_newFunctionEnv→ael,wpAny_fieldsOf→aen,firstArgMember→aeo,wpAny_onRaise→aeB,wpAny_attempt→aeC,wpAny_sequenceKey→aeN,wpAny_collect_seq→aeO,wpAny_assign_Name→aeP,wpAny_Name→aeQ,valueAt→aeR,fits_of_scanBound→aeS,call_meets→aeT,builtinsNs→aeU,wpAny_isInstance→afd,wpAny_eqBool_str→afe,noFill_tuple_add→aff,compPost→afl,wpAny_letGo→afn,tupleKind→afp,subscripted→afq,callerA→aft,wpAny_newTuple→afI,isSubtype_type→afJ
open List renaming getElem?_eq_getElem→aab,length_map→aac,size_toArray→aae,getD_eq_getElem?_getD→aag,getElem?_map→aaj,map_cons→aan,getElem?_eq_none→aao,exists_cons_of_length_eq_add_one→aaq,mem_cons_of_mem→aar,mem_cons_self→aat,length_append→aau,map_map→aaw,getElem?_append_left→aay,getElem?_set_ne→aaF,length_filter_le→aaH,replicate→aaI,nil_append→aaN,mem_append_right→aaO,not_mem_nil→aaS,mem_map_of_mem→aaV,map_congr_left→aaW,getElem?_zip_eq_some→aaY,map_append→aaZ,filter_sublist→aa0,mem_cons→aa2,range→aa6,length_take→aa8,replicate_succ→abf,filterMap_cons→abg,mem_of_getElem?→abk,getElem_mem→abl,lookup_cons→abo,length_cons→abp,filter_cons→abq,set_eq_of_length_le→abu,mapM_cons→aby,find?_cons→abD,append_nil→abE,take_length→abF,nodup_append→abJ,mem_of_mem_take→abL,getElem?_set→abP,getElem_inj→abU,take_succ→abY,flatten_cons→abZ,getElem?_range→ab2,getElem?_set_self→ab4,all_eq_true→ab5,length_replicate→ab9,mem_append_left→acb,mem_filter→ace,length_range→acf,ext_getElem?→acg,getElem?_cons_zero→acl,mem_append→acy,length_nil→acz,length→acA,nodup_iff_pairwise_ne→acF,getElem?_append_right→acG,pairwise_iff_getElem→acK,getElem?_cons_succ→acY,take_of_length_le→ac0,getElem_map→ac9,of_mem_zip→adk,lookup→adm,perm_ext_iff_of_nodup→adp,mem_singleton→adt,drop_eq_getElem_cons→adx,take_sublist→adF,eq_of_mem_replicate→adG,append_assoc→adH,filter_append_perm→adS,nodup_range→adW,length_pos_of_mem→adY,drop_eq_nil_of_le→adZ,map_nil→ad9,length_zip→aea,length_singleton→aeb,length_set→aec,lt_irrefl→aes,getElem_of_mem→aey,zip_cons_cons→aeI,pairwise_cons→aeJ,map_take→aeK,getD→aeL,filter_append→aeM,pairwise_map→ae1,getElem_take→ae2,eraseIdxIfInBounds_toArray→ae3,any_eq_false→ae4,toArray→afb,take_append_of_le_length→afh,map_snd_zip→afi,any_eq_true→afj,range_succ→afy,nodup_cons→afz,forIn_cons→afA,length_eraseIdx_of_lt→afE,mem_of_find?_eq_some→afM,findIdx?_eq_none_iff→afN
open PySem.Heap renaming get?_push_of_some→aad,get?_push_size→aai,lt_size→aak,size_push→aa4,get?_update_self→abw,SameBut→aci,get?_update_other→ac1,get?_update_ne→aez
open PySem.W renaming Frag→aah,mg_none_of→aaQ,nsIn→abi,kia_one→abB,keepIn→abQ,codeHdIn→abT,fnOf→acP,tabObj→adw,kitOne→aeq,codeIn→aer,kas_rev→aew,kas_item→aeD,mg_of→aeF,methodObj→aeW,instObj→afw,OpenLaw→afx,lookIn→afK
open Nat renaming le_refl→aal,ne_of_lt→aas,lt_of_lt_of_le→aaG,lt_or_ge→aaU,le_trans→aa3,lt_irrefl→abj,lt_succ_of_lt→abr,zero_le→abv,lt_succ_self→abx,zero_add→abI,ne_of_gt→ab8,le_succ→aca,add_assoc→adc,zero_lt_one→adi,lt_trichotomy→adE,le_add_right→adV,add_comm→ad8,le_succ_of_le→ae0,le_of_lt→ae9,le_of_eq→afa
open Option.some renaming inj→aap,injEq→aeX
open Sum renaming inr→aav,inl→afu
open Bool renaming false_ne_true→aax,and_eq_true→aaE,false_eq_true→aaR,eq_iff_iff→abe,not_true→abK,not_false→act,not_eq_true'→adJ,or_eq_true→aef,false_and→aeu,and_false→aev
open Array renaming length_toList→aaz,getElem?_toList→abn,getElem?_eq_getElem→abR,mem_of_getElem?→ac8,getD_eq_getD_getElem?→ado,toArray_toList→aem,toList_push→ae6
open Option renaming map_eq_some_iff→aaA,getD_some→adU,map_some→ad7,isSome_some→aeH,map→aeY,isSome_map→aeZ
open PyProof.Rows renaming boot_tuple→aaB,slot_tuple_getitem→acd,StrsAre→ack,boot_all→ac7,listUpdate_at→adb,get?_update_seq→adf,entry_list_sort→adg,callWith_type1→adh,slot_list_sort→adu,boot_sorted→adP,args_list_sort→aep,AllBare→aeA,assignInOrder_cons→aeE,plain_sorted→ae7,entry_sorted→ae8,tuples'→afo,seqEpoch_at→afr,kind_sorted→afs
open Nat.succ renaming inj→aaD
open PySem.Value renaming ref→aaL,none→abd,str→acn,type→acE,isStrOf_shape→aex
open PySem.Str renaming ofString→aaP,length→aeV
open PySem.Heap.SameBut renaming update→aa1
open Classical renaming byContradiction→aa5
open PySem.Builtin.SmallTypes renaming nextOf→abh,ownedTupleIsFree→ab3,ownedTupleHandOut→aet
open PySem.Obj renaming data_mapFields→abm,mapSeq→abA,isFreed_of_fields→acx,cls_mapFields→adD
open PySem.NameKind renaming free→abt,cell→acX
open PySem.PassesOwn renaming never→abC
open PySem.F renaming type_list_append→abG,slot_list_append→abH,slot_tuple_iterator_next→acH,plainAttrs_list→acW,args_tuple_add_2→adC,entry_tuple_add→adR,slot_tuple_add→adX,slot_zip_next→aee,slot_str_ascii_iterator_iter→afc,args_tuple_iterator_next_1→afm,entry_tuple_iterator_next→afB,plain_extend_loop→afL
open Ne renaming symm→abO
open Int renaming emod_lt_of_pos→abS,toNat_natCast→ab0,emod_nonneg→ach,mul_le_mul_of_nonneg_left→afk
open True renaming intro→acr
open PySem.SetTable renaming grown→acs,below→ac6,standIn→afg
open PySem.Around renaming under_plainId→acJ
open PySem.Builtin.Slice renaming slicePlaces→acL,sliceAdjust→adz,sliceApplied→afH
open False renaming elim→acQ
open PySem.Builtin.Tuple renaming tupleExact→acR,tupleItemsOf→afG
open PySem.Builtin.Str renaming occurrences→acZ
open PySem.Calls renaming callWith_builtin→ac2,call_function_entry→ady,Name_function_global→afF
open PySem.Builtin.List renaming listExtendWith→adn,listTooLong→adI,listLengthHint→afD
open PySem.SetTable.below renaming go→adB
open PyProof.Rows.F renaming plain_set_update_loop→adT
open ForInStep renaming yield→aed
open PySem.Paired renaming length→aeG
open List.Pairwise renaming nil→ae5
open PySem.SeqAt.EqAt renaming same→afv
open PySem.Data renaming cell→afC
namespace PySem.W.Fast
def tw15948718621433290347:=()
def tw4704198519182110527:=()
def tw13149678182388709647:=()
def tw10843713149005448346:=()
def tw7026445337135388584:=()
def tw8726176289870547350:=()
def tw2942638427022198726:=()
def tw8066207860632610815:=()
def tw13172543728890395497:=()
def tw9805598128829856167:=()
def tw16422347259631572143:=()
def tw16798515228912412251:=()
def tw9121225698873699552:=()
def tw12650640154230573249:=()
def tw11269546341353188606:=()
def tw1770438109571674152:=()
def tw5192268033011162737:=()
def tw2015980189327381952:=()
def tw14054998705616008435:=()
def tw5169327924950758983:=()
def tw12603932760139721740:=()
def tw5857551165705067437:=()
def tw8390957093195867552:=()
def tw18070939867470287267:=()
def tw2879913067207456190:=()
def tw603067549042653780:=()
def tw12547822203405966497:=()
def tw10033613511334580203:=()
def tw8513438550084270203:=()
def tw9115825706015973156:=()
def tw5286106474476177167:=()
def tw8927195017318715096:=()
def tw2851614864953526189:=()
def tw10826088130711736247:=()
def tw4109150183663343170:=()
def tw14315491775239532240:=()
def tw1671204239210085047:=()
def tw66859935087626115:=()
def tw11638179383158827826:=()
def tw2334942464380486449:=()
def tw5522179116051996003:=()
def tw10435899435819180901:=()
def tw13008467203675086535:=()
def tw9084832112974978394:=()
def tw17447184650363773220:=()
def tw13516815832243670229:=()
def tw16015486731466043571:=()
def tw2775880593634073915:=()
def tw4105897019573924367:=()
def tw294489005167797257:=()
end PySem.W.Fast
theorem Z0:True:=trivial
namespace L2
open PySem PySem.Spec PyProof.Rows
abbrev Key:=Sum Int Str
def FO:Key->Value->Bool
 |.inl k,v=>Value.isInt k v
 |.inr x,v=>Value.isStrOf x v
def RP(w:World):Key->Int
 |.inl k=>hashInt k
 |.inr x=>hashStr w x
theorem bb:∀{k:Key} {v:Value},FO k v=true->(∃i t,k=afu i/\v=Value.int i t)\/(∃x t,k=aav x/\v=acn x t)
 |.inl i,v,h=>by
  obtain⟨t,e⟩:=Value.isInt_shape (k:=i) (v:=v) h
  exact .inl ⟨i,t,rfl,e⟩
 |.inr x,v,h=>by
  obtain⟨t,e⟩:=aex (x:=x) (v:=v) h
  exact .inr ⟨x,t,rfl,e⟩
theorem t6(i:Int)(t:Tok):FO (.inl i) (.int i t)=true:=by simp[FO,Value.isInt]
theorem t5(x:Str)(t:Tok):FO (.inr x) (.str x t)=true:=by simp[FO,Value.isStrOf]
theorem zy(a b:Int):decide ((afu a:Key)=afu b)=(a==b):=by
 by_cases e:a=b
 .subst e;simp
 .have h:¬ (afu a:Key)=afu b:=λq=>e (Sum.inl.inj q)
  rw[decide_eq_false h]
  exact(beq_eq_false_iff_ne.mpr e).symm
theorem zv(a b:Str):decide ((aav a:Key)=aav b)=decide (a=b):=by
 by_cases e:a=b
 .subst e;simp
 .have h:¬ (aav a:Key)=aav b:=λq=>e (Sum.inr.inj q)
  rw[decide_eq_false h,decide_eq_false e]
theorem zx(a:Int)(b:Str):decide ((afu a:Key)=aav b)=false:=decide_eq_false (λq=>nomatch q)
theorem zw(a:Str)(b:Int):decide ((aav a:Key)=afu b)=false:=decide_eq_false (λq=>nomatch q)
def aN(prog:aaJ)(w:World):PySem.KeyKind prog w Key where
 is:=FO
 hash:=RP w
 inj:=λv a b ha hb=>by
  rcases bb ha with ⟨i,t,rfl,rfl⟩|⟨x,t,rfl,rfl⟩
  .rcases bb hb with ⟨j,u,rfl,e⟩|⟨y,u,rfl,e⟩
   .injection e with e1 _;rw[e1]
   .exact nomatch e
  .rcases bb hb with ⟨j,u,rfl,e⟩|⟨y,u,rfl,e⟩
   .exact nomatch e
   .injection e with e1 _;rw[e1]
 byValue:=λk v h=>by
  rcases bb h with ⟨i,t,rfl,rfl⟩|⟨x,t,rfl,rfl⟩<;>rfl
 pyHash:=λhv h=>by
  rcases bb hv with ⟨i,t,rfl,rfl⟩|⟨x,t,rfl,rfl⟩
  .exact wpAny_pyHash_int h
  .exact wpAny_pyHash_str h
 eqBool:=λhu hv h=>by
  rcases bb hu with ⟨i,t,rfl,rfl⟩|⟨x,t,rfl,rfl⟩
  .rcases bb hv with ⟨j,u,rfl,rfl⟩|⟨y,u,rfl,rfl⟩
   .rw[zy]at h;exact wpAny_eqBool_int h
   .rw[zx]at h;exact SeqAt.EqAt.int_str i t y u _ _ _ _ h
  .rcases bb hv with ⟨j,u,rfl,rfl⟩|⟨y,u,rfl,rfl⟩
   .rw[zw]at h;exact SeqAt.EqAt.str_int x t j u _ _ _ _ h
   .rw[zv]at h;exact afe h
 «strs»:=λk x t v h=>by
  rcases bb h with ⟨i,u,rfl,e⟩|⟨y,u,rfl,e⟩
  .exact nomatch e
  .injection e with e1 _
   subst e1
   cases v<;>rfl
theorem qu(prog:aaJ)(w:World)(i:Int)(t:Tok):(aN prog w).is (.inl i) (.int i t)=true:=t6 i t
theorem qt(prog:aaJ)(w:World)(x:Str)(t:Tok):(aN prog w).is (.inr x) (.str x t)=true:=t5 x t
inductive V where
 |AF|bl (b:Bool)|int (i:Int)|str (x:Str)|II (b:Array UInt8)|NM (b:UInt64)|ref (a:Addr)|ty (n:String)
 deriving DecidableEq
def RelV:V->Value->Prop
 |.AF,u=>u=abd
 |.bl b,u=>u=Value.bool b
 |.int i,u=>∃t,u=Value.int i t
 |.str x,u=>∃t,u=acn x t
 |.II b,u=>∃t,u=Value.bytes b t
 |.NM b,u=>∃t,u=Value.float b t
 |.ref a,u=>u=aaL a
 |.ty n,u=>u=acE n
abbrev AM:List V->List Value->Prop:=Paired RelV
variable{xs:List V}{us:List Value}
theorem AM.length(r:AM xs us):xs.length=us.length:=aeG r
theorem AM.get:∀{xs:List V} {us:List Value} {i:Nat} {x:V},AM xs us->xs[i]?=some x->∃u,us[i]?=some u/\RelV x u
 |_,_,_,_,.nil,e=>by simp at e
 |_,_,0,_,.cons r _,e=>by simp at e;subst e;exact⟨_,rfl,r⟩
 |_,_,i+1,x,.cons _ t,e=>by
  obtain⟨u,h1,h2⟩:=AM.get (i:=i) (x:=x) t (by simpa using e)
  exact⟨u,by simpa using h1,h2⟩
variable{x:V}{u:Value}
theorem AM.set(r:RelV x u):∀{xs:List V} {us:List Value} (i:Nat),AM xs us->AM (xs.set i x) (us.set i u)
 |_,_,_,.nil=>.nil
 |_,_,0,.cons _ t=>.cons r t
 |_,_,i+1,.cons q t=>.cons q (AM.set r i t)
theorem AM.append:∀{xs ys:List V} {us ws:List Value},AM xs us->AM ys ws->AM (xs++ys) (us++ws)
 |_,_,_,_,.nil,s=>s
 |_,_,_,_,.cons r t,s=>.cons r (AM.append t s)
theorem AM.take:∀{xs:List V} {us:List Value} (n:Nat),AM xs us->AM (xs.take n) (us.take n)
 |_,_,0,_=>.nil
 |_,_,_+1,.nil=>.nil
 |_,_,n+1,.cons r t=>.cons r (AM.take n t)
theorem AM.drop:∀{xs:List V} {us:List Value} (n:Nat),AM xs us->AM (xs.drop n) (us.drop n)
 |_,_,0,r=>r
 |_,_,_+1,.nil=>.nil
 |_,_,n+1,.cons _ t=>AM.drop n t
def EJ:Option V->Option Value->Prop
 |some v,some u=>RelV v u
 |none,none=>True
 |_,_=>False
def KV{κ:Type}:List (κ×V)->List (κ×Value)->Prop:=Paired λ(p:κ×V) (q:κ×Value)=>p.1=q.1/\RelV p.2 q.2
def kV:Key->V
 |.inl i=>.int i
 |.inr x=>.str x
inductive HO where
 |lst (xs:List V)
 |tup (xs:List V)
 |dK (kvs:List (Key×V))|dT (kvs:List (List Key×V))
 |set (S:Int->Bool) (n:Nat)
 |ins (C dx:Addr) (fs:List (Str×V))
 |own (x:Addr)
 |xd (fs:List (Str×V))
 |met (f x:Addr)
 |Qj (lo hi:Int)
 |Dy (o:Obj) (u:HO)
 |Le (ps:Array Value)
 |ext (φ:Heap->Prop)
abbrev Hp:=Addr->Option HO
def upd(H:Hp)(a:Addr)(o:HO):Hp:=λb=>if b=a then some o else H b
variable{H:Hp}{a:Addr}{o:HO}
theorem am:upd H a o a=some o:=by unfold upd;rw[if_pos rfl]
variable{b:Addr}
theorem aj(h:b≠a):upd H a o b=H b:=by unfold upd;rw[if_neg h]
theorem wZ{u:HO}:upd (upd H a o) a u=upd H a u:=by
 funext b;unfold upd;split<;>rfl
theorem r9{u:HO}(h:H a=some o)(h':H b=some u)(d:o≠u):a≠b:=by
 intro e;subst e;rw[h]at h';exact d (aap h')
theorem av(h:H a=some o)(h':H b=none):a≠b:=by
 intro e;subst e;rw[h]at h';cases h'
variable(P:aaJ)(w:World)
def A7(H:Hp)(h:Heap)(a:Addr):HO->Prop
 |.lst xs=>xs.length<=sizeLine/\∃(iN:List Value) (n:Nat),AM xs iN/\h.get? a=some {cls:=.type "list",data:=.seq iN.toArray n}
 |.tup xs=>xs.length<=sizeLine/\∃iN:List Value,AM xs iN/\IsTup h a iN.toArray
 |.dK kvs=>kvs.length<=sizeLine/\(a==acp)=false/\∃vs,KV kvs vs/\h.DictOf (aN P w) a vs
 |.dT kvs=>kvs.length<=sizeLine/\(a==acp)=false/\∃xs:List (List Key×Addr×Value),
   Paired (λ(p:List Key×V) (q:List Key×Addr×Value)=>p.1=q.1/\H q.2.1=some (.tup (p.1.map kV))/\RelV p.2 q.2.2) kvs xs /\
   ∃o es ep,h.get? a=some o/\o.ExactDict/\o.data=.dict es ep/\es.toList=xs.map (entryOfKey (afp (aN P w)))/\(xs.map (·.1)).Nodup
 |.set S n=>h.SetOf (intKind P w) a S n
 |.ins C dx fs=>H dx=some (.own a)/\fs.length<=1000/\dx≠a/\h.get? a=some (afw C dx) /\
   ∃mA,h.Ns1 dx mA/\(∀f,EJ (fs.lookup f) (mA f))/\PySem.Within mA (fs.map (·.1))
 |.own _=>∃o,h.get? a=some o
 |.xd fs=>∃mA,h.Ns1 a mA/\∀f,EJ (fs.lookup f) (mA f)
 |.Qj lo hi=>∃t u v,h.get? a=some {cls:=.type "range",data:=.fields #[.int lo t,.int hi u,.int 1 v]}
 |.Dy o u=>h.get? a=some o/\A7 H h a u
 |.Le ps=>h.get? a=some {cls:=.none,data:=.fields ps}
 |.met f x=>h.get? a=some (aeW (.ref f) (.ref x))
 |.ext φ=>φ h/\(∃o,h.get? a=some o)/\∀h1 h2:Heap,φ h1->(∀o,h1.get? a=some o->h2.get? a=some o)->φ h2
def DA(H:Hp)(h:Heap):Prop:=∀a o,H a=some o->A7 P w H h a o
variable{P:aaJ}{w:World}{H':Hp}{h h':Heap}
theorem A7.lt(x:A7 P w H h a o):a<h.objs.size:=by
 cases o with
 |lst xs=>obtain⟨_,_,_,_,e⟩:=x;exact aak e
 |tup xs=>obtain⟨_,_,_,p⟩:=x;exact p.lt
 |dK kvs=>obtain⟨_,_,_,_,o,_,_,e,_⟩:=x;exact aak e
 |dT kvs=>obtain⟨_,_,_,_,o,_,_,e,_⟩:=x;exact aak e
 |set S n=>obtain⟨o,_,_,_,e,_⟩:=x;exact aak e
 |ins C dx fs=>obtain⟨_,_,_,e,_⟩:=x;exact aak e
 |own y=>obtain⟨_,e⟩:=x;exact aak e
 |xd fs=>obtain⟨_,⟨_,_,_,e,_⟩,_⟩:=x;exact aak e
 |Qj lo hi=>obtain⟨_,_,_,e⟩:=x;exact aak e
 |Dy ob u=>obtain⟨e,_⟩:=x;exact aak e
 |Le ps=>exact aak (show h.get? a=some _ from x)
 |met f y=>exact aak (show h.get? a=some _ from x)
 |ext φ=>obtain⟨_,⟨_,e⟩,_⟩:=x;exact aak e
variable{α:Type}
theorem Paired.MB{β:Type}{F G:α->β->Prop}:∀{l₁:List α} {l₂:List β},Paired F l₁ l₂->(∀a b,F a b->G a b)->Paired G l₁ l₂
 |_,_,.nil,_=>.nil
 |_,_,.cons r t,f=>.cons (f _ _ r) (Paired.MB t f)
theorem A7.F8(x:A7 P w H h a o)(k:∀b u,(b=a\/H b=some (.own a))->h.get? b=some u->h'.get? b=some u)
  (ho:∀b,H b=some (.own a)->H' b=some (.own a)) (ht:∀b xs,H b=some (.tup xs)->H' b=some (.tup xs)):A7 P w H' h' a o:=by
 induction o with
 |lst xs=>obtain⟨z,iN,n,r,e⟩:=x;exact⟨z,iN,n,r,k _ _ (.inl rfl) e⟩
 |tup xs=>obtain⟨z,iN,r,ob,e,c⟩:=x;exact⟨z,iN,r,ob,k _ _ (.inl rfl) e,c⟩
 |dK kvs=>obtain⟨z,y,vs,r,ob,es,ep,e,c⟩:=x;exact⟨z,y,vs,r,ob,es,ep,k _ _ (.inl rfl) e,c⟩
 |dT kvs=>
  obtain⟨z,y,xs,r,ob,es,ep,e,c⟩:=x
  exact⟨z,y,xs,Paired.MB r λp q z=>⟨z.1,ht _ _ z.2.1,z.2.2⟩,ob,es,ep,k _ _ (.inl rfl) e,c⟩
 |set S n=>obtain⟨ob,es,ep,t,e,c⟩:=x;exact⟨ob,es,ep,t,k _ _ (.inl rfl) e,c⟩
 |ins C dx fs=>
  obtain⟨d,z,ne,e,mA,⟨od,es,ep,e2,c⟩,r⟩:=x
  exact⟨ho _ d,z,ne,k _ _ (.inl rfl) e,mA,⟨od,es,ep,k _ _ (.inr d) e2,c⟩,r⟩
 |own y=>obtain⟨ob,e⟩:=x;exact⟨ob,k _ _ (.inl rfl) e⟩
 |xd fs=>obtain⟨mA,⟨od,es,ep,e,c⟩,r⟩:=x;exact⟨mA,⟨od,es,ep,k _ _ (.inl rfl) e,c⟩,r⟩
 |Qj lo hi=>obtain⟨t,u,v,e⟩:=x;exact⟨t,u,v,k _ _ (.inl rfl) e⟩
 |Dy ob u ih=>obtain⟨e,q⟩:=x;exact⟨k _ _ (.inl rfl) e,ih q⟩
 |Le ps=>
  have e:h.get? a=some {cls:=.none,data:=.fields ps}:=x
  show h'.get? a=some {cls:=.none,data:=.fields ps}
  exact k a _ (.inl rfl) e
 |met f y=>
  have e:h.get? a=some (aeW (.ref f) (.ref y)):=x
  show h'.get? a=some (aeW (.ref f) (.ref y))
  exact k a _ (.inl rfl) e
 |ext φ=>obtain⟨p,⟨o,e⟩,st⟩:=x;exact⟨st _ _ p λo q=>k _ _ (.inl rfl) q,⟨o,k _ _ (.inl rfl) e⟩,st⟩
theorem DA.lt(x:DA P w H h)(e:H a=some o):a<h.objs.size:=(x a o e).lt
theorem DA.fresh(x:DA P w H h)(e:h.objs.size<=a):H a=none:=by
 cases q:H a with
 |none=>rfl
 |some u=>exact absurd (aaG (x.lt q) e) (abj _)
theorem DA.kept(x:DA P w H h)(k:∀b u,h.get? b=some u->h'.get? b=some u):DA P w H h':=λa o e=>
 (x a o e).F8 (λb u _ q=>k b u q) (λ_ q=>q) λ_ _ q=>q
theorem DA.laid(x:DA P w H h)(k:∀b u,h.get? b=some u->h'.get? b=some u)(hp:h.objs.size<=a)(new:A7 P w (upd H a o) h' a o):DA P w (upd H a o) h':=λb u e=>by
 have hn:=x.fresh hp
 by_cases hb:b=a
 .subst hb;rw[am]at e;cases e;exact new
 .rw[aj hb]at e
  exact(x b u e).F8 (λc v _ q=>k c v q) (λc q=>by rw[aj (av q hn)];exact q) λc xs q=>by rw[aj (av q hn)];exact q
def Rd(H:Hp)(a:Addr)(u:HO):Prop:=H a=some u\/∃o,H a=some (.Dy o u)
theorem Rd.ok{u:HO}(r:Rd H a u)(x:DA P w H h):A7 P w H h a u:=by
 rcases r with r|⟨o,r⟩
 .exact x a u r
 .obtain⟨_,q⟩:=x a _ r
  exact q
def PX:Option HO->Prop
 |some (.lst _)=>True
 |some (.dK _)=>True
 |some (.dT _)=>True
 |some (.set _ _)=>True
 |some (.ins _ _ _)=>True
 |some (.ext _)=>True
 |_=>False
variable{x e:Addr}{o':HO}
theorem DA.write(ok:DA P w H h)(mu:PX (H x))(he:e=x\/H e=some (.own x))(k:∀b u,b≠e->h.get? b=some u->h'.get? b=some u)(NH:∃u,h'.get? e=some u)
  (new:A7 P w (upd H x o') h' x o'):DA P w (upd H x o') h':=λb u q=>by
 have OD:∀c y,H c=some (.own y)->c≠x:=λc y r z=>by subst z;rw[r]at mu;exact mu
 have RF:∀c xs,H c=some (.tup xs)->c≠x:=λc xs r z=>by subst z;rw[r]at mu;exact mu
 by_cases hb:b=x
 .subst hb;rw[am]at q;cases q;exact new
 .rw[aj hb]at q
  by_cases ID:b=e
  .have q':H b=some (.own x):=by
    rcases he with z|z
    .exact absurd (ID.trans z) hb
    .rw[ID];exact z
   rw[q]at q';cases q'
   obtain⟨v,hv⟩:=NH
   exact⟨v,by rw[ID];exact hv⟩
  .refine(ok b u q).F8 (λc v hc r=>k c v ?_ r) (λc r=>by rw[aj (OD c b r)];exact r) λc xs r=>by rw[aj (RF c xs r)];exact r
   rcases hc with rfl|hc
   .exact ID
   .rintro rfl
    rcases he with z|z
    .exact OD c b hc z
    .rw[hc]at z;cases z;exact hb rfl
structure Un(fs ex:List Addr)(H H':Hp)(h h':Heap):Prop where
 keep:∀b o,h.get? b=some o->H b=none->b∉fs->b∉ex->h'.get? b=some o
 slot:∀b o,h.get? b=some o->H b=none->b∈fs->b∉ex->∃sl,h'.get? b=some {o with slots:=sl}
 free:∀b o,h.get? b=some o->H b=none->b∉ex->H' b=none
 there:∀b o,h.get? b=some o->b∉ex->∃o',h'.get? b=some o'
 Fv:∀b xs,H b=some (.tup xs)->H' b=some (.tup xs)
 Ge:∀b o u,H b=some (.Dy o u)->H' b=some (.Dy o u)
 Gy:∀b ps,H b=some (.Le ps)->∃more,H' b=some (.Le (ps++more))
section
variable{fs Wx ex XH:List Addr}{H1 H2:Hp}{h1 h2:Heap}
theorem Un.any(u:Un fs ex H H1 h h1){ob:Obj}(q:h.get? b=some ob)(n:H b=none)(hx:b∉ex):∃sl,h1.get? b=some {ob with slots:=sl}:=by
 by_cases hb:b∈fs
 .exact u.slot b ob q n hb hx
 .exact⟨ob.slots,u.keep b ob q n hb hx⟩
theorem Un.kept(k:∀b u,h.get? b=some u->h'.get? b=some u):Un fs ex H H h h' :=
 ⟨λb ob q _ _ _=>k b ob q,λb ob q _ _ _=>⟨ob.slots,k b ob q⟩,λ_ _ _ n _=>n,λb ob q _=>⟨ob,k b ob q⟩,λ_ _ q=>q,λ_ _ _ q=>q,λ_ ps q=>⟨#[],by rw[q];simp⟩⟩
theorem Un.refl:Un fs ex H H h h:=Un.kept λ_ _ q=>q
theorem Un.laid(k:∀b u,h.get? b=some u->h'.get? b=some u)(hp:h.objs.size<=a)(hn:H a=none):Un fs ex H (upd H a o) h h' where
 keep:=λb u q _ _ _=>k b u q
 slot:=λb u q _ _ _=>⟨u.slots,k b u q⟩
 free:=λb u q n _=>by rw[aj (aas (aaG (aak q) hp))];exact n
 there:=λb u q _=>⟨u,k b u q⟩
 Fv:=λb xs q=>by rw[aj (av q hn)];exact q
 Ge:=λb u xs q=>by rw[aj (av q hn)];exact q
 Gy:=λb ps q=>⟨#[],by rw[aj (av q hn),q];simp⟩
theorem Un.write(mu:PX (H x))(he:e=x\/H e=some (.own x))(k:∀b u,b≠e->h.get? b=some u->h'.get? b=some u)(NH:∃u,h'.get? e=some u):Un fs ex H (upd H x o) h h':=by
 have hx:∀b,H b=none->b≠x:=λb n z=>by subst z;rw[n]at mu;exact mu
 have hb:∀b,H b=none->b≠e:=λb n z=>by
  subst z
  rcases he with r|r
  .exact hx b n r
  .rw[n]at r;cases r
 have hm:∀b u,H b=some u->¬ PX (some u)->b≠x:=λb u q nm z=>by subst z;rw[q]at mu;exact nm mu
 refine⟨λb u q n _ _=>k b u (hb b n) q,λb u q n _ _=>⟨u.slots,k b u (hb b n) q⟩,λb u q n _=>by rw[aj (hx b n)];exact n,λb u q _=>?_,
  λb xs q=>by rw[aj (hm b _ q λz=>z)];exact q,λb u xs q=>by rw[aj (hm b _ q λz=>z)];exact q,λb ps q=>⟨#[],by rw[aj (hm b _ q λz=>z),q];simp⟩⟩
 by_cases ID:b=e
 .subst ID;exact NH
 .exact⟨u,k b u ID q⟩
end
def Qb(h:Heap)(H:Hp):List Addr:=(aa6 h.objs.size).filter λa=>(H a).isSome
def FE(h:Heap)(H:Hp):Heap:=PySem.W.hideAll h (Qb h H)
theorem ub(h:Heap)(H:Hp):(FE h H).objs.size=h.objs.size:=PySem.W.hideAll_size _ _
theorem vZ{o:Obj}(e:h.get? b=some o)(n:H b=none):(FE h H).get? b=some o :=
 PySem.W.hideAll_get _ e λhm=>by
  have q:(H b).isSome=true:=(List.mem_filter.mp hm).2
  rw[n]at q;simp at q
theorem xP{o:Obj}(e:(FE h H).get? b=some o):h.get? b=some o/\H b=none:=by
 have e':h.get? b=some o:=PySem.W.of_hideAll (Qb h H) e
 refine⟨e',?_⟩
 cases q:H b with
 |none=>rfl
 |some x=>
  have hm:b∈Qb h H:=List.mem_filter.mpr ⟨List.mem_range.mpr (aak e'),by simp[q]⟩
  have z:(FE h H).get? b=none:=PySem.W.hideAll_none (Qb h H) hm
  rw[z]at e;cases e
def jQ(g h:Heap)(L:Addr):List (Addr×Obj):=(aa6 h.objs.size).filterMap λa=>if a=L\/(g.get? a).isSome=true then none else (h.get? a).map λo=>(a,o)
variable{g:Heap}{L:Addr}
theorem gy{o:Obj}(h1:a≠L)(h2:g.get? a=none)(h3:h.get? a=some o):(a,o)∈jQ g h L :=
 List.mem_filterMap.mpr ⟨a,List.mem_range.mpr (aak h3),by simp[h1,h2,h3]⟩
theorem mG{p:Addr×Obj}(hp:p∈jQ g h L):p.1≠L/\g.get? p.1=none/\h.get? p.1=some p.2:=by
 obtain⟨b,_,e⟩:=List.mem_filterMap.mp hp
 split at e
 .cases e
 .rename_i hn
  cases q:h.get? b with
  |none=>rw[q]at e;simp at e
  |some u=>
   rw[q]at e
   simp only[ad7,aeX]at e
   subst e
   refine⟨λz=>hn (.inl z),?_,q⟩
   show g.get? b=none
   cases r:g.get? b with
   |none=>rfl
   |some v=>exact(hn (.inr (by simp[r]))).elim
theorem kM:News g L h (jQ g h L):=λp hp=>let ⟨a,b,c⟩:=mG hp;⟨c,a,b⟩
structure Mod(K:aah)(mg:Str->Option Value)(base:Heap):Prop where
 kin:K.In base
 glob:base.Ns aaK mg
 blt:∃mb,base.Ns aeU mb/\∀x:Str,x ≠ "__name__" -> mb x=ab6 x
 nolimit:base.NoLimit
structure Cx where
 prog:aaJ
 w:World
 K:aah
 mg:Str->Option Value
 base:Heap
 A:Around
 N:List Str
 s₀:Shared
 H₀:Hp
 env:Env
 outer:List Env
 stack:List Env
 ex:List Addr
 fn:Str->Bool
 calm:Bool
 pn:List (Addr×Obj)
 xe:Value->Shared->Prop
def JQ(l:List Env):List Addr:=l.filterMap (·.frame)
abbrev Cx.fs(X:Cx):List Addr:=JQ X.outer
def G5(sc:Scope)(x:Str):Prop:=sc.names.lookup x=some .local\/sc.names.lookup x=some .cell\/sc.names.lookup x=some .free
def Loc(sc:Scope)(x:Str):Prop:=sc.names.lookup x=some .local\/sc.names.lookup x=some .cell
def Look(env:Env)(h:Heap)(m:Str->Option Value)(x:Str)(u:Value):Prop :=
 (env.kindOf x=some .local/\m x=some u)\/((env.kindOf x=some .cell\/env.kindOf x=some .free)/\∃c,env.cells.lookup x=some c/\h.IsCell c (some u))
structure Cx.Ok(X:Cx):Prop where
 mod:Mod X.K X.mg X.base
 kind:X.env.scope.kind=.function
 glob:X.env.globals=aaK
 blt:X.env.builtins=aeU
 above:X.s₀.heap.objs.size<=X.env.locals
 inj:∀x y c,X.env.cells.lookup x=some c->X.env.cells.lookup y=some c->x=y
 has:∀x,(X.env.kindOf x=some .cell\/X.env.kindOf x=some .free)->∃c,X.env.cells.lookup x=some c
 PC:∀x c,X.fn x=true->X.env.cells.lookup x=some c->X.s₀.heap.objs.size<=c
 hd:X.calm=true->X.A.handled=none
 frames:X.A.frames=some X.stack
 Qe:X.stack=X.outer\/(X.stack=X.env::X.outer/\X.env.frame=some X.env.locals)
 Uz:∀b∈X.ex,b≠X.env.locals/\∀x c,X.env.cells.lookup x=some c->c≠b
 bs:∀b o,X.base.get? b=some o->X.s₀.heap.get? b=some o/\X.H₀ b=none
 Lz:X.base.objs.size<=X.s₀.heap.objs.size
 Jy:∀b o,X.base.get? b=some o->b∉X.ex
 KU:∀b∈X.ex,b∉X.fs
 Ff:X.s₀.heap.FunFrames X.base X.outer
 NL:∀b∈X.fs,X.H₀ b=none
structure Inv(X:Cx)(pins:List (Addr×Obj))(σ:List (Option V))(H:Hp)(s:Shared):Prop where
 ok:X.Ok
 os:s.os=X.s₀.os
 bare:aeA s.gens
 base:Un X.fs X.ex X.H₀ H X.s₀.heap s.heap
 loc:∃m,s.heap.Ns X.env.locals m/\∀(i:Nat) (x:Str) (v:V),X.N[i]?=some x->σ[i]?=some (some v)->G5 X.env.scope x->∃u,RelV v u/\Look X.env s.heap m x u
 cell:∀x c,X.env.cells.lookup x=some c->∃v,s.heap.IsCell c v
 free:H X.env.locals=none
 C1:∀x c,X.env.cells.lookup x=some c->H c=none
 pin:∀p∈X.pn++pins,s.heap.get? p.1=some p.2/\H p.1=none/\p.1≠X.env.locals/\p.1∉X.fs/\∀v,p.2.data≠.cell v
 AU:DA X.prog X.w H s.heap
 len:σ.length=X.N.length
variable{X:Cx}{pins:List (Addr×Obj)}{σ:List (Option V)}{s:Shared}
theorem Cx.Ok.RH(ok:X.Ok){o:Obj}(e:X.base.get? b=some o):b∉X.fs:=λhb=>by
 have:=(ok.Ff.mem hb).1
 rw[e]at this;cases this
theorem Inv.bs(I:Inv X pins σ H s):∀b o,X.base.get? b=some o->s.heap.get? b=some o/\H b=none:=λb o e=>
 ⟨I.base.keep b o (I.ok.bs b o e).1 (I.ok.bs b o e).2 (I.ok.RH e) (I.ok.Jy b o e),I.base.free b o (I.ok.bs b o e).1 (I.ok.bs b o e).2 (I.ok.Jy b o e)⟩
theorem Inv.bk(I:Inv X pins σ H s):∀b o,X.base.get? b=some o->s.heap.get? b=some o:=λb o e=>(I.bs b o e).1
theorem Inv.mod(I:Inv X pins σ H s):Mod X.K X.mg X.base:=I.ok.mod
theorem Inv.FC(I:Inv X pins σ H s):X.K.In s.heap:=I.ok.mod.kin.keeps I.bk
theorem Inv.fr(I:Inv X pins σ H s):∃m,Fr X.base X.env.locals s.heap m :=
 let ⟨m,hn,_⟩:=I.loc
 ⟨m,hn,I.bk,aa3 I.ok.Lz I.ok.above⟩
theorem Inv.lt(I:Inv X pins σ H s):X.env.locals<s.heap.objs.size:=let ⟨_,hn,_⟩:=I.loc;hn.lt
theorem Inv.sz(I:Inv X pins σ H s):X.s₀.heap.objs.size<=s.heap.objs.size:=aa3 I.ok.above (ae9 I.lt)
theorem Inv.RG(I:Inv X pins σ H s)(h:s.heap.objs.size<=a):a∉X.fs:=λhb=>by
 obtain⟨_,o,ho,_⟩:=I.ok.Ff.mem hb
 exact absurd (aaG (aak ho) (aa3 I.sz h)) (abj _)
theorem Inv.Nc(I:Inv X pins σ H s):∀x c,X.env.cells.lookup x=some c->c≠X.env.locals:=λx c e z=>by
 obtain⟨v,o,ho,hd⟩:=I.cell x c e
 obtain⟨m,⟨o',es,ep,ES,QB,_⟩,_⟩:=I.loc
 rw[z,ES]at ho;cases ho;rw[QB]at hd;cases hd
theorem Inv.Ff(I:Inv X pins σ H s):s.heap.FunFrames X.base X.outer:=by
 have all:∀(l:List Env),(∀b∈JQ l,b∈X.fs)->X.s₀.heap.FunFrames X.base l->s.heap.FunFrames X.base l:=by
  intro l
  induction l with
  |nil=>intro _ _;trivial
  |cons env r ih=>
   intro hs hl
   obtain⟨hk,⟨L,o,hf,hn,ho,hd⟩,hr⟩:=hl
   have hL:L∈X.fs:=hs L (by unfold JQ;rw[abg,hf];exact aat)
   obtain⟨sl,e⟩:=I.base.slot L o ho (I.ok.NL L hL) hL λz=>I.ok.KU L z hL
   exact⟨hk,⟨L,_,hf,hn,e,hd⟩,ih (λb hb=>hs b (by unfold JQ;rw[abg,hf];exact aar _ hb)) hr⟩
 exact all X.outer (λ_ hb=>hb) I.ok.Ff
theorem Inv.stack(I:Inv X pins σ H s):s.heap.FunFrames X.base X.stack:=by
 rcases I.ok.Qe with e|⟨e,hf⟩
 .rw[e];exact I.Ff
 .rw[e]
  obtain⟨m,hn,_⟩:=I.loc
  refine .cons (by rw[I.ok.kind];decide) hf hn ?_ I.Ff
  exact Heap.get?_none_of_le (aa3 I.ok.Lz I.ok.above)
theorem Inv.D8(I:Inv X pins σ H s):∀b∈JQ X.stack,b∈X.env.locals::X.fs:=λb hb=>by
 rcases I.ok.Qe with e|⟨e,hf⟩
 .rw[e]at hb;exact aar _ hb
 .rw[e]at hb
  unfold JQ at hb
  rw[abg,hf]at hb
  exact hb
theorem Inv.HM(I:Inv X pins σ H s):∀b∈JQ X.stack,H b=none:=λb hb=>by
 rcases List.mem_cons.mp (I.D8 b hb)with e|hb
 .rw[e];exact I.free
 .obtain⟨_,o,ho,_⟩:=I.ok.Ff.mem hb
  exact I.base.free b o ho (I.ok.NL b hb) λz=>I.ok.KU b z hb
variable{t':Nat}
theorem Inv.step{g':Array GenState}{d':Drawn}{ch:List Addr}(I:Inv X pins σ H s)
  (Kf:∀b∈ch,(b∈X.ex\/X.s₀.heap.objs.size<=b)/\b≠X.env.locals/\(∀x c,X.env.cells.lookup x=some c->c≠b)/\∀p∈X.pn++pins,p.1≠b)
  (keep:∀b o,b≠X.env.locals->b∉X.fs->b∉ch->s.heap.get? b=some o->H b=none->h'.get? b=some o)
  (slot:∀b o,b≠X.env.locals->b∈X.fs->b∉ch->s.heap.get? b=some o->H b=none->∃sl,h'.get? b=some {o with slots:=sl}) (free:∀b o,b∉ch->s.heap.get? b=some o->H b=none->H' b=none)
  (there:∀b o,b∉ch->s.heap.get? b=some o->∃o',h'.get? b=some o')
  (Fv:∀b xs,H b=some (.tup xs)->H' b=some (.tup xs)) (Ge:∀b o u,H b=some (.Dy o u)->H' b=some (.Dy o u)) (Gy:∀b ps,H b=some (.Le ps)->∃more,H' b=some (.Le (ps++more)))
  (ns:∀m,s.heap.Ns X.env.locals m->h'.Ns X.env.locals m) (AU:DA X.prog X.w H' h') (hg:aeA g') :
  Inv X pins σ H' {s with heap:=h',gens:=g',drawn:=d',toks:=t'}:=by
 have TY:∀b o,X.s₀.heap.get? b=some o->b≠X.env.locals:=λb o e=>aas (aaG (aak e) I.ok.above)
 have Nx:∀b o,X.s₀.heap.get? b=some o->b∉X.ex->b∉ch:=λb o e hx hb=>by
  rcases(Kf b hb).1 with z|z
  .exact hx z
  .exact absurd (aaG (aak e) z) (abj _)
 have cellK:∀x c,X.env.cells.lookup x=some c->∀v,s.heap.IsCell c v->h'.IsCell c v:=λx c e v ⟨o,ho,hd⟩=>by
  have OI:c∉ch:=λz=>(Kf c z).2.2.1 x c e rfl
  by_cases hc:c∈X.fs
  .obtain⟨sl,q⟩:=slot c o (I.Nc x c e) hc OI ho (I.C1 x c e)
   exact⟨_,q,hd⟩
  .exact⟨o,keep c o (I.Nc x c e) hc OI ho (I.C1 x c e),hd⟩
 refine⟨I.ok,I.os,hg,⟨λb o e n hb hx=>?_,λb o e n hb hx=>?_,λb o e n hx=>?_,λb o e hx=>?_,λb xs e=>Fv b xs (I.base.Fv b xs e),λb o xs e=>Ge b o xs (I.base.Ge b o xs e),λb ps e=>?_⟩,?_,λx c e=>?_,?_,λx c e=>?_,λp hp=>?_,AU,I.len⟩
 .exact keep b o (TY b o e) hb (Nx b o e hx) (I.base.keep b o e n hb hx) (I.base.free b o e n hx)
 .obtain⟨sl,e1⟩:=I.base.slot b o e n hb hx
  obtain⟨Vc,e2⟩:=slot b _ (TY b o e) hb (Nx b o e hx) e1 (I.base.free b o e n hx)
  exact⟨Vc,e2⟩
 .obtain⟨o',e1⟩:=I.base.there b o e hx
  exact free b o' (Nx b o e hx) e1 (I.base.free b o e n hx)
 .obtain⟨o',e1⟩:=I.base.there b o e hx
  exact there b o' (Nx b o e hx) e1
 .obtain⟨m1,e1⟩:=I.base.Gy b ps e
  obtain⟨m2,e2⟩:=Gy b _ e1
  exact⟨m1++m2,by rw[e2,Array.append_assoc]⟩
 .obtain⟨m,hn,hl⟩:=I.loc
  refine⟨m,ns m hn,λi x v e1 e2 e3=>?_⟩
  obtain⟨u,r,l⟩:=hl i x v e1 e2 e3
  refine⟨u,r,?_⟩
  rcases l with l|⟨k,c,e,z⟩
  .exact .inl l
  .exact .inr ⟨k,c,e,cellK x c e _ z⟩
 .obtain⟨v,z⟩:=I.cell x c e
  exact⟨v,cellK x c e v z⟩
 .obtain⟨m,⟨o,_,_,ho,_⟩,_⟩:=I.loc
  exact free _ o (λz=>(Kf _ z).2.1 rfl) ho I.free
 .obtain⟨v,o,ho,hd⟩:=I.cell x c e
  exact free c o (λz=>(Kf c z).2.2.1 x c e rfl) ho (I.C1 x c e)
 .obtain⟨e,n,ne,nf,d⟩:=I.pin p hp
  have OI:p.1∉ch:=λz=>(Kf p.1 z).2.2.2 p hp rfl
  exact⟨keep p.1 p.2 ne nf OI e n,free p.1 p.2 OI e n,ne,nf,d⟩
theorem Inv.un(I:Inv X pins σ H s)(u:Un X.fs [] H H' s.heap h')(AU:DA X.prog X.w H' h'):Inv X pins σ H' {s with heap:=h',toks:=t'}:=by
 obtain⟨m,⟨o,es,ep,ho,r⟩,_⟩:=id I.loc
 obtain⟨sl,hL⟩:=u.any ho I.free (by simp)
 exact I.step (g':=s.gens) (d':=s.drawn) (ch:=[]) (λ_ z=>nomatch z) (λb o _ hb _ e n=>u.keep b o e n hb (by simp)) (λb o _ hb _ e n=>u.slot b o e n hb (by simp)) (λb o _ e n=>u.free b o e n (by simp)) (λb o _ e=>u.there b o e (by simp)) u.Fv u.Ge u.Gy (λm' hm=>by
  obtain⟨o',GP,QF,ES,r'⟩:=hm
  rw[ho]at ES;cases ES
  exact⟨_,GP,QF,hL,r'⟩) AU I.bare
theorem Inv.call{g':Array GenState}{d':Drawn}{ch:List Addr}(I:Inv X pins σ H s)(u:Un (JQ X.stack) ch H H' s.heap h')(AU:DA X.prog X.w H' h')(hg:aeA g')
  (Kf:∀b∈ch,(b∈X.ex\/X.s₀.heap.objs.size<=b)/\b≠X.env.locals/\(∀x c,X.env.cells.lookup x=some c->c≠b)/\∀p∈X.pn++pins,p.1≠b) :
  Inv X pins σ H' {s with heap:=h',gens:=g',drawn:=d',toks:=t'}:=by
 obtain⟨m,⟨o,es,ep,ho,r⟩,_⟩:=id I.loc
 obtain⟨sl,hL⟩:=u.any ho I.free λz=>(Kf _ z).2.1 rfl
 exact I.step (ch:=ch) Kf (λb o hL hb hc e n=>u.keep b o e n (λz=>(List.mem_cons.mp (I.D8 b z)).elim hL hb) hc) (λb o _ _ hc e n=>u.any e n hc) (λb o hc e n=>u.free b o e n hc) (λb o hc e=>u.there b o e hc) u.Fv u.Ge u.Gy (λm' hm=>by
  obtain⟨o',GP,QF,ES,r'⟩:=hm
  rw[ho]at ES;cases ES
  exact⟨_,GP,QF,hL,r'⟩) AU hg
variable{it:Addr}
theorem Inv.turned(I:Inv X pins σ H s)(k:∀b o,b≠it->s.heap.get? b=some o->h'.get? b=some o)(hn:H it=none)(hL:it≠X.env.locals)
  (h1:it∈X.ex\/X.s₀.heap.objs.size<=it) (h2:∀x c,X.env.cells.lookup x=some c->c≠it) (h3:∀p∈X.pn++pins,p.1≠it):Inv X pins σ H {s with heap:=h',toks:=t'}:=by
 have OF:∀b u,H b=some u->b≠it:=λb u e z=>by rw[z,hn]at e;cases e
 refine I.step (g':=s.gens) (d':=s.drawn) (ch:=[it]) (λb hb=>?_) (λb o _ _ hc e _=>k b o (λz=>hc (by simp[z])) e) (λb o _ _ hc e _=>⟨o.slots,k b o (λz=>hc (by simp[z])) e⟩) (λ_ _ _ _ n=>n)
  (λb o hc e=>⟨o,k b o (λz=>hc (by simp[z])) e⟩) (λ_ _ e=>e) (λ_ _ _ e=>e) (λb ps e=>⟨#[],by rw[e];simp⟩) (λm hm=>?_) (λb u e=>?_) I.bare
 .have e:b=it:=by simpa using hb
  subst e
  exact⟨h1,hL,h2,h3⟩
 .obtain⟨o,es,ep,ho,r⟩:=hm
  exact⟨o,es,ep,k _ o (abO hL) ho,r⟩
 .refine(I.AU b u e).F8 (λc v hc q=>k c v ?_ q) (λ_ q=>q) λ_ _ q=>q
  rcases hc with z|z
  .rw[z];exact OF b u e
  .exact OF c _ z
theorem Inv.tok(I:Inv X pins σ H s)(t:Nat):Inv X pins σ H {s with toks:=t}:=I.un (h':=s.heap) (t':=t) Un.refl I.AU
theorem Inv.kept(I:Inv X pins σ H s)(k:∀b u,s.heap.get? b=some u->h'.get? b=some u):Inv X pins σ H {s with heap:=h',toks:=t'}:=I.un (Un.kept k) (I.AU.kept k)
theorem Inv.laid(I:Inv X pins σ H s)(k:∀b u,s.heap.get? b=some u->h'.get? b=some u)(hp:s.heap.objs.size<=a)(new:A7 X.prog X.w (upd H a o) h' a o):
  Inv X pins σ (upd H a o) {s with heap:=h',toks:=t'}:=I.un (Un.laid k hp (I.AU.fresh hp)) (I.AU.laid k hp new)
theorem Inv.write(I:Inv X pins σ H s)(mu:PX (H x))(he:e=x\/H e=some (.own x))(k:∀b u,b≠e->s.heap.get? b=some u->h'.get? b=some u)(NH:∃u,h'.get? e=some u)
  (new:A7 X.prog X.w (upd H x o) h' x o):Inv X pins σ (upd H x o) {s with heap:=h',toks:=t'}:=I.un (Un.write mu he k NH) (I.AU.write mu he k NH new)
theorem Inv.weak{σ':List (Option V)}(I:Inv X pins σ H s)(hl:σ'.length=σ.length)(w:∀(i:Nat) v,σ'[i]?=some (some v)->σ[i]?=some (some v)):Inv X pins σ' H s :=
 ⟨I.ok,I.os,I.bare,I.base,let ⟨m,hn,Iy⟩:=I.loc;⟨m,hn,λi x v e1 e2 e3=>Iy i x v e1 (w i v e2) e3⟩,I.cell,I.free,I.C1,I.pin,I.AU,hl.trans I.len⟩
theorem Inv.HQ{Lp:List (Addr×Obj)}(I:Inv X pins σ H s)(h:∀p∈Lp,s.heap.get? p.1=some p.2/\H p.1=none/\p.1≠X.env.locals/\p.1∉X.fs/\∀v,p.2.data≠.cell v):Inv X Lp σ H s :=
 ⟨I.ok,I.os,I.bare,I.base,I.loc,I.cell,I.free,I.C1,λp hp=>(List.mem_append.mp hp).elim (λz=>I.pin p (acb _ z)) (h p),I.AU,I.len⟩
variable{N:List Str}{i j:Nat}
theorem pi(hN:N.Nodup){x:Str}(a:N[i]?=some x)(b:N[j]?=some x):i=j:=by
 obtain⟨h1,e1⟩:=List.getElem?_eq_some_iff.mp a
 obtain⟨h2,e2⟩:=List.getElem?_eq_some_iff.mp b
 exact(abU hN).mp (e1.trans e2.symm)
variable{M:Model}{A:Around}{E:Value->Shared->Prop}{v:V}{Q:Unit->Shared->Prop}
theorem iL{x:Str}(I:Inv X pins σ H s)(hN:X.N.Nodup)(hi:X.N[i]?=some x)(hx:Loc X.env.scope x)(r:RelV v u)
  (h:∀s',Inv X pins (σ.set i (some v)) H s'->(∃a,aci a s.heap s'.heap/\(a=X.env.locals\/X.env.cells.lookup x=some a))->Q () s') (hf:X.fn x=true\/X.env.scope.names.lookup x=some .local:=by first|exact .inl rfl|exact .inr rfl|assumption):wpAny M A (storeName X.env x u) Q E s:=by
 obtain⟨m,hn,hl⟩:=id I.loc
 have SA:(X.env.scope.kind==.class || (X.env.scope.kind==.module && X.env.locals != X.env.globals))=false:=by rw[I.ok.kind];rfl
 have hiσ:i<σ.length:=by rw[I.len];exact(List.getElem?_eq_some_iff.mp hi).1
 have Nc:=I.Nc
 have tracked:∀{a:Addr} {h':Heap},(∃o,s.heap.get? a=some o/\H a=none)->aci a s.heap h'->DA X.prog X.w H h':=λ{a h'} ha hs b ob e=>by
  obtain⟨_,_,FQ⟩:=ha
  refine(I.AU b ob e).F8 (λc w' hc q=>(hs.2 c ?_).trans q) (λ_ q=>q) λ_ _ q=>q
  rintro rfl
  rcases hc with rfl|hc
  .rw[FQ]at e;cases e
  .rw[FQ]at hc;cases hc
 rcases hx with hk|hk
 .refine wpAny_storeName_local hk hn (λh' KJ hs=>?_) SA
  obtain⟨oL,_,_,Iw,_⟩:=id hn
  refine h _ ⟨I.ok,I.os,I.bare,⟨λb o e n hb hx=>?_,λb o e n hb hx=>?_,I.base.free,λb o e hx=>?_,I.base.Fv,I.base.Ge,I.base.Gy⟩,⟨_,KJ,λj y v' e1 e2 e3=>?_⟩,λy c e=>?_,I.free,I.C1,λp hp=>?_,tracked ⟨oL,Iw,I.free⟩ hs,by simpa using I.len⟩ ⟨_,hs,.inl rfl⟩
  .exact(hs.2 b (aas (aaG (aak e) I.ok.above))).trans (I.base.keep b o e n hb hx)
  .obtain⟨sl,e1⟩:=I.base.slot b o e n hb hx
   exact⟨sl,(hs.2 b (aas (aaG (aak e) I.ok.above))).trans e1⟩
  .obtain⟨o',e1⟩:=I.base.there b o e hx
   exact⟨o',(hs.2 b (aas (aaG (aak e) I.ok.above))).trans e1⟩
  .by_cases hj:j=i
   .subst hj
    rw[hi]at e1;cases e1
    rw[ab4 hiσ]at e2
    cases e2
    exact⟨u,r,.inl ⟨hk,by simp⟩⟩
   .rw[aaF (abO hj)]at e2
    obtain⟨u',r',q⟩:=hl j y v' e1 e2 e3
    refine⟨u',r',?_⟩
    rcases q with ⟨k,e⟩|⟨k,c,e,z⟩
    .refine .inl ⟨k,?_⟩
     have:y≠x:=λe=>hj (pi hN e1 (e ▸ hi))
     simp[this,e]
    .exact .inr ⟨k,c,e,z.sameBut hs (Nc y c e)⟩
  .obtain⟨w',z⟩:=I.cell y c e
   exact⟨w',z.sameBut hs (Nc y c e)⟩
  .obtain⟨e,n,ne,nf,d⟩:=I.pin p hp
   exact⟨(hs.2 p.1 ne).trans e,n,ne,nf,d⟩
 .have Sv:X.fn x=true:=by
   rcases hf with z|z
   .exact z
   .rw[z]at hk;cases hk
  obtain⟨c,hc⟩:=I.ok.has x (.inl hk)
  obtain⟨w',z⟩:=I.cell x c hc
  refine wpAny_storeName_cell I.ok.kind hk hc z (λh' ET hs=>?_)
  obtain⟨oc,ND,Sb⟩:=id z
  refine h {s with heap:=h'} ⟨I.ok,I.os,I.bare,⟨λb o e n hb hx=>?_,λb o e n hb hx=>?_,I.base.free,λb o e hx=>?_,I.base.Fv,I.base.Ge,I.base.Gy⟩,⟨m,hn.sameBut hs (abO (Nc x c hc)),λj y v' e1 e2 e3=>?_⟩,λy c' e=>?_,I.free,I.C1,λp hp=>?_,tracked ⟨oc,ND,I.C1 x c hc⟩ hs,by simpa using I.len⟩ ⟨c,hs,.inr hc⟩
  .exact(hs.2 b (aas (aaG (aak e) (I.ok.PC x c Sv hc)))).trans (I.base.keep b o e n hb hx)
  .obtain⟨sl,e1⟩:=I.base.slot b o e n hb hx
   exact⟨sl,(hs.2 b (aas (aaG (aak e) (I.ok.PC x c Sv hc)))).trans e1⟩
  .obtain⟨o',e1⟩:=I.base.there b o e hx
   exact⟨o',(hs.2 b (aas (aaG (aak e) (I.ok.PC x c Sv hc)))).trans e1⟩
  .by_cases hj:j=i
   .subst hj
    rw[hi]at e1;cases e1
    rw[ab4 hiσ]at e2
    cases e2
    exact⟨u,r,.inr ⟨.inl hk,c,hc,ET⟩⟩
   .rw[aaF (abO hj)]at e2
    obtain⟨u',r',q⟩:=hl j y v' e1 e2 e3
    refine⟨u',r',?_⟩
    rcases q with q|⟨k,c',e,z'⟩
    .exact .inl q
    .refine .inr ⟨k,c',e,z'.sameBut hs ?_⟩
     rintro rfl
     exact hj (pi hN e1 (I.ok.inj _ _ _ e hc ▸ hi))
  .by_cases SD:c'=c
   .subst SD;exact⟨_,ET⟩
   .obtain⟨w2,z2⟩:=I.cell y c' e
    exact⟨w2,z2.sameBut hs SD⟩
  .obtain⟨e,n,ne,nf,d⟩:=I.pin p hp
   refine⟨(hs.2 p.1 ?_).trans e,n,ne,nf,d⟩
   intro q
   rw[q,ND]at e
   have q':oc=p.2:=aap e
   exact d w' (by rw[<- q'];exact Sb)
theorem hV{x:Str}(I:Inv X pins σ H s)(hN:X.N.Nodup)(hi:X.N[i]?=some x)(hx:Loc X.env.scope x)(r:RelV v u)
  (h:∀s',Inv X pins (σ.set i (some v)) H s'->Q () s') (hf:X.fn x=true\/X.env.scope.names.lookup x=some .local:=by first|exact .inl rfl|exact .inr rfl|assumption):wpAny M A (storeName X.env x u) Q E s :=
 iL I hN hi hx r (λs' I' _=>h s' I') hf
variable{s':Shared}
theorem Inv.PB{ch:List Addr}(I:Inv X pins σ H s)(ho:s'.os=s.os)(u:Un (JQ X.stack) ch H H' s.heap s'.heap)(AU:DA X.prog X.w H' s'.heap)(hg:aeA s'.gens)
  (Kf:∀b∈ch,(b∈X.ex\/X.s₀.heap.objs.size<=b)/\b≠X.env.locals/\(∀x c,X.env.cells.lookup x=some c->c≠b)/\∀p∈X.pn++pins,p.1≠b):Inv X pins σ H' s':=by
 obtain⟨h',g',d',t',o'⟩:=s'
 have e:o'=s.os:=ho
 subst e
 exact I.call (g':=g') (t':=t') (d':=d') u AU hg Kf
abbrev XK:=Value->Option Addr->Hp->Prop
abbrev St:=List (Option V)
abbrev VK:=V->Hp->Prop
abbrev TE:=St->Hp->VK->Prop
abbrev TT:=St->Hp->(Bool->Hp->Prop)->Prop
abbrev TA:=St->Hp->(List V->Hp->Prop)->Prop
structure Ends where
 nx:St->Hp->Prop
 rt:VK
 bk:St->Hp->Prop:=λ_ _=>False
 ct:St->Hp->Prop:=λ_ _=>False
abbrev TS:=Ends->St->Hp->Prop
def EP(X:Cx)(pins:List (Addr×Obj))(σ:St)(Q:VK)(u:Value)(s':Shared):Prop:=∃v H',Inv X pins σ H' s'/\RelV v u/\Q v H'
def TP(X:Cx)(pins:List (Addr×Obj))(σ:St)(Q:Bool->Hp->Prop)(b:Bool)(s':Shared):Prop:=∃H',Inv X pins σ H' s'/\Q b H'
def AP(X:Cx)(pins:List (Addr×Obj))(σ:St)(Q:List V->Hp->Prop)(us:List Value)(s':Shared):Prop:=∃vs H',Inv X pins σ H' s'/\AM vs us/\Q vs H'
def SP(X:Cx)(pins:List (Addr×Obj))(D:Ends)(f:Flow)(s':Shared):Prop :=
 match f with
 |.next=>∃σ' H',Inv X pins σ' H' s'/\D.nx σ' H'
 |.brk=>∃σ' H',Inv X pins σ' H' s'/\D.bk σ' H'
 |.cont=>∃σ' H',Inv X pins σ' H' s'/\D.ct σ' H'
 |.ret u=>∃v σ' H',Inv X pins σ' H' s'/\RelV v u/\D.rt v H'
def PE(X:Cx)(e:Expr)(t:TE):Prop :=
 ∀(pins:List (Addr×Obj)) (s:Shared) (σ:St) (H:Hp) (Q:VK),Inv X pins σ H s->t σ H Q->wpAny (model X.prog X.w) X.A (eval e X.env) (EP X pins σ Q) X.xe s
def PT(X:Cx)(e:Expr)(t:TT):Prop :=
 ∀(pins:List (Addr×Obj)) (s:Shared) (σ:St) (H:Hp) (Q:Bool->Hp->Prop),Inv X pins σ H s->t σ H Q->wpAny (model X.prog X.w) X.A (isTrue e X.env (eval e X.env)) (TP X pins σ Q) X.xe s
def PW(X:Cx)(e:Expr)(t:TT):Prop :=
 ∀(whole:Sem Value) (pins:List (Addr×Obj)) (s:Shared) (σ:St) (H:Hp) (Q:Bool->Hp->Prop),Inv X pins σ H s->t σ H Q->wpAny (model X.prog X.w) X.A (isTrue e X.env whole) (TP X pins σ Q) X.xe s
theorem PW.pt{e:Expr}{t:TT}(h:PW X e t):PT X e t:=h _
def PA(X:Cx)(es:List Expr)(t:TA):Prop :=
 ∀(pos:Pos) (pins:List (Addr×Obj)) (s:Shared) (σ:St) (H:Hp) (Q:List V->Hp->Prop),Inv X pins σ H s->t σ H Q->wpAny (model X.prog X.w) X.A (spliced (backTo pos (aam es X.env))) (AP X pins σ Q) X.xe s
def PS(X:Cx)(st:Stmt)(t:TS):Prop :=
 ∀(pins:List (Addr×Obj)) (s:Shared) (σ:St) (H:Hp) (D:Ends),Inv X pins σ H s->t D σ H->wpAny (model X.prog X.w) X.A (exec st X.env) (SP X pins D) X.xe s
def HH(X:Cx)(st:List Stmt)(t:TS):Prop :=
 ∀(pins:List (Addr×Obj)) (s:Shared) (σ:St) (H:Hp) (D:Ends),Inv X pins σ H s->t D σ H->wpAny (model X.prog X.w) X.A (execs st X.env) (SP X pins D) X.xe s
theorem Bu{t:Sem α}{Q Q':α->Shared->Prop}(h:wpAny M A t Q E s)(hQ:∀a s,Q a s->Q' a s):wpAny M A t Q' E s:=aaT h hQ λ_ _ x=>x
def BF(i:Nat):TE:=λσ H Q=>∃v,σ[i]?=some (some v)/\Q v H
def tC(v:V):TE:=λ_ H Q=>Q v H
variable{pos:Pos}
theorem yW{x:Str}(hN:X.N[i]?=some x)(hv:G5 X.env.scope x)(hd:(x==("__debug__" : Str))=false:=by decide)(hcd:(x==("__classdict__" : Str))=false:=by decide):PE X (.Name x pos) (BF i):=by
 intro pins s σ H Q I h
 obtain⟨v,e,h⟩:=h
 obtain⟨m,hn,hl⟩:=I.loc
 obtain⟨u,r,l⟩:=hl i x v hN e hv
 have fin:EP X pins σ Q u s:=⟨v,H,I,r,h⟩
 rcases l with ⟨hk,hm⟩|⟨hk,c,hc,Dt⟩
 .exact aeQ (wpAny_loadName_local I.ok.kind hk hn hm fin) hd
 .rcases hk with hk|hk
  .exact aeQ (wpAny_loadName_cell I.ok.kind hk hc Dt fin) hd
  .exact aeQ (wpAny_loadName_free I.ok.kind hk hc Dt fin hcd) hd
theorem aJ{i j pos}:PE X (.Constant (.int i) j pos) (tC (.int i)):=λ_ _ _ H _ I h=>wpAny_Constant_int ⟨.int i,H,I.tok _,⟨_,rfl⟩,h⟩
theorem Am{b j pos}:PE X (.Constant (.bool b) j pos) (tC (.bl b)):=λ_ _ _ H _ I h=>Constant_bool ⟨.bl b,H,I,rfl,h⟩
theorem y8{j pos}:PE X (.Constant .none j pos) (tC .AF):=λ_ _ _ H _ I h=>Constant_none ⟨.AF,H,I,rfl,h⟩
theorem yY{x j pos}:PE X (.Constant (.str x) j pos) (tC (.str x)):=λ_ _ _ H _ I h=>Calls.Constant_str ⟨.str x,H,I.tok _,⟨_,rfl⟩,h⟩
def Gl(X:Cx)(x:Str):Prop:=X.env.kindOf x=some .globalImplicit
theorem mN{σ:St}{x:Str}{Q:Value->Shared->Prop}(I:Inv X pins σ H s)(hg:Gl X x)(hm:X.mg x=some u)(h:Q u s)
  (hd:(x==("__debug__" : Str))=false:=by decide):wpAny (model X.prog X.w) X.A (eval (.Name x pos) X.env) Q E s :=
 afF I.ok.kind hg (Calls.loadGlobal_global (by rw[I.ok.glob];exact I.mod.glob.keeps I.bk) hm h) hd
theorem fI{σ:St}{x:Str}{Q:Value->Shared->Prop}(I:Inv X pins σ H s)(hg:Gl X x)(hm:X.mg x=none)(hv:ab6 x=some u)(h:Q u s)
  (hn:x ≠ "__name__" :=by decide) (hd:(x==("__debug__" : Str))=false:=by decide):wpAny (model X.prog X.w) X.A (eval (.Name x pos) X.env) Q E s:=by
 obtain⟨mb,h1,h2⟩:=I.mod.blt
 exact afF I.ok.kind hg (Calls.loadGlobal_builtin (by rw[I.ok.glob];exact I.mod.glob.keeps I.bk) hm (by rw[I.ok.blt];exact h1.keeps I.bk) ((h2 x hn).trans hv) h) hd
theorem xq{x:Str}(hg:Gl X x)(hm:X.mg x=some u)(r:RelV v u)(hd:(x==("__debug__" : Str))=false:=by decide):PE X (.Name x pos) (tC v) :=
 λ_ _ _ H _ I h=>mN I hg hm ⟨v,H,I,r,h⟩ hd
theorem xu{x:Str}(hg:Gl X x)(hm:X.mg x=none)(hv:ab6 x=some u)(r:RelV v u)(hn:x ≠ "__name__" :=by decide)(hd:(x==("__debug__" : Str))=false:=by decide):PE X (.Name x pos) (tC v) :=
 λ_ _ _ H _ I h=>fI I hg hm hv ⟨v,H,I,r,h⟩ hn hd
variable{a b:Expr}{ta tb:TE}
variable{tA Qd:TT}{rest:List Expr}
def DB(t u:TT):TT:=λσ H Q=>t σ H λc H1=>if c=true then u σ H1 Q else Q false H1
def Fx(t u:TT):TT:=λσ H Q=>t σ H λc H1=>if c=true then Q true H1 else u σ H1 Q
def CT(t:TT):TT:=λσ H Q=>t σ H λc H1=>Q (!c) H1
theorem pw_and1(ha:PT X a tA):PW X (.BoolOp .And [a] pos) tA:=by
 intro wh pins s σ H Q I h
 refine isTrue_and (Bu (ha pins s σ H Q I h) λc s1 e=>?_)
 cases c with
 |true=>exact isTrue_and_nil e
 |false=>exact e
theorem pw_or1(ha:PT X a tA):PW X (.BoolOp .Or [a] pos) tA:=by
 intro wh pins s σ H Q I h
 refine isTrue_or (Bu (ha pins s σ H Q I h) λc s1 e=>?_)
 cases c with
 |false=>exact isTrue_or_nil e
 |true=>exact e
theorem pw_and(ha:PT X a tA)(hb:PW X (.BoolOp .And (b::rest) pos) Qd):PW X (.BoolOp .And (a::b::rest) pos) (DB tA Qd):=by
 intro wh pins s σ H Q I h
 refine isTrue_and (Bu (ha pins s σ H _ I h) λc s1 ⟨H1,I1,q1⟩=>?_)
 cases c with
 |true=>exact hb wh pins s1 σ H1 Q I1 q1
 |false=>exact⟨H1,I1,q1⟩
theorem pw_or(ha:PT X a tA)(hb:PW X (.BoolOp .Or (b::rest) pos) Qd):PW X (.BoolOp .Or (a::b::rest) pos) (Fx tA Qd):=by
 intro wh pins s σ H Q I h
 refine isTrue_or (Bu (ha pins s σ H _ I h) λc s1 ⟨H1,I1,q1⟩=>?_)
 cases c with
 |true=>exact⟨H1,I1,q1⟩
 |false=>exact hb wh pins s1 σ H1 Q I1 q1
theorem yP(ha:PT X a tA):PT X (.UnaryOp .Not a pos) (CT tA):=by
 intro pins s σ H Q I h
 exact isTrue_not (ha pins s σ H (λc H1=>Q (!c) H1) I h)
def Ob(ta tb:TE):TE:=λσ H Q=>ta σ H λx H1=>∃c,x=.bl c/\if c=true then tb σ H1 Q else Q (.bl false) H1
def N3(ta:TE):TE:=λσ H Q=>ta σ H λx H1=>∃c,x=.bl c/\Q (.bl (!c)) H1
theorem yZ{op}{t:TE}(h:PE X a t):PE X (.BoolOp op [a] pos) t:=λpins s σ H Q I hw=>BoolOp_one (h pins s σ H Q I hw)
theorem zb(ha:PE X a ta)(hb:PE X (.BoolOp .And (b::rest) pos) tb):PE X (.BoolOp .And (a::b::rest) pos) (Ob ta tb):=by
 intro pins s σ H Q I h
 refine BoolOp_and (Bu (ha pins s σ H _ I h) λv s1 ⟨x,H1,I1,r1,q1⟩=>?_)
 obtain⟨c,rfl,q1⟩:=q1
 cases r1
 refine abM ?_
 cases c with
 |true=>exact hb pins s1 σ H1 Q I1 q1
 |false=>exact⟨.bl false,H1,I1,rfl,q1⟩
theorem y6(ha:PE X a ta):PE X (.UnaryOp .Not a pos) (N3 ta):=by
 intro pins s σ H Q I h
 refine UnaryOp_ (Bu (ha pins s σ H _ I h) λv s1 ⟨x,H1,I1,r1,q1⟩=>?_)
 obtain⟨c,rfl,q1⟩:=q1
 cases r1
 exact not_of (abM ⟨.bl (!c),H1,I1,rfl,q1⟩)
def Va(t:TT)(ta tb:TE):TE:=λσ H Q=>t σ H λc H1=>if c=true then ta σ H1 Q else tb σ H1 Q
variable{c:Expr}
theorem vC(hc:PT X c tA)(ha:PE X a ta)(hb:PE X b tb):PE X (.IfExp c a b pos) (Va tA ta tb):=by
 intro pins s σ H Q I h
 refine wpAny_IfExp (Bu (hc pins s σ H _ I h) λd s1 ⟨H1,I1,q1⟩=>?_)
 cases d with
 |true=>exact ha pins s1 σ H1 Q I1 q1
 |false=>exact hb pins s1 σ H1 Q I1 q1
def Cm(K:aah)(H:Hp)(a:Addr)(xs:List V):Prop :=
 Rd H a (.lst xs) \/
  ∃(o:Obj) (iN:Array Value) (n:Nat),K.lookup a=some o/\o.cls=.type "list" /\ o.dict=none/\o.data=.seq iN n/\iN.size<=sizeLine/\AM xs iN.toList
def Cd(K:aah)(H:Hp)(a:Addr)(xs:List V):Prop :=
 Rd H a (.tup xs) \/
  ∃(o:Obj) (iN:Array Value) (n:Nat),K.lookup a=some o/\o.cls=.type "tuple" /\ o.data=.seq iN n/\iN.size<=sizeLine/\AM xs iN.toList
def Tb:Value->Option V
 |.none=>some .AF
 |.bool b=>some (.bl b)
 |.int i _=>some (.int i)
 |.str x _=>some (.str x)
 |.bytes b _=>some (.II b)
 |.float b _=>some (.NM b)
 |.ref a=>some (.ref a)
 |.type n=>some (.ty n)
 |_=>none
theorem RelV.abs{x:V}(r:RelV x u):Tb u=some x:=by
 cases x with
 |AF=>cases r;rfl
 |bl _=>cases r;rfl
 |int _=>obtain⟨t,rfl⟩:=r;rfl
 |str _=>obtain⟨t,rfl⟩:=r;rfl
 |II _=>obtain⟨t,rfl⟩:=r;rfl
 |NM _=>obtain⟨t,rfl⟩:=r;rfl
 |ref _=>cases r;rfl
 |ty _=>cases r;rfl
variable{y:V}
theorem RelV.inj{x:V}(r:RelV x u)(q:RelV y u):x=y:=aap (r.abs.symm.trans q.abs)
theorem AM.inj:∀{xs ys:List V} {us:List Value},AM xs us->AM ys us->xs=ys
 |_,_,_,.nil,.nil=>rfl
 |_,_,_,.cons r t,.cons r' t'=>by rw[r.inj r',AM.inj t t']
variable{σ:St}{a:Addr}{ys:List V}
variable{K:aah}
theorem Cm.of(h:H a=some (.lst xs)):Cm K H a xs:=.inl (.inl h)
theorem Inv.list(I:Inv X pins σ H s)(h:Cm X.K H a xs):∃iN:List Value,AM xs iN/\PlainL s.heap a iN.toArray/\xs.length<=sizeLine:=by
 rcases h with h|⟨o,iN,n,hk,hc,hd,hs,hz,r⟩
 .obtain⟨z,iN,n,r,e⟩:=h.ok I.AU
  exact⟨iN,r,⟨_,n,e,rfl,rfl,rfl⟩,z⟩
 .refine⟨iN.toList,r,⟨o,n,I.FC a o hk,hc,hd,by simpa using hs⟩,?_⟩
  have e:=r.length
  simp only[aaz]at e
  omega
theorem Inv.tuple(I:Inv X pins σ H s)(h:Cd X.K H a xs):∃iN:List Value,AM xs iN/\IsTup s.heap a iN.toArray/\xs.length<=sizeLine:=by
 rcases h with h|⟨o,iN,n,hk,hc,hs,hz,r⟩
 .obtain⟨z,iN,r,p⟩:=h.ok I.AU
  exact⟨iN,r,p,z⟩
 .refine⟨iN.toList,r,⟨o,I.FC a o hk,hc,n,by simpa using hs⟩,?_⟩
  have e:=r.length
  simp only[aaz]at e
  omega
theorem Inv.GG(I:Inv X pins σ H s)(h:Cm X.K H a xs)(h':Cm X.K H a ys):xs=ys:=by
 obtain⟨iN,r,⟨o,n,e,_,_,d⟩,_⟩:=I.list h
 obtain⟨its',r',⟨o',n',e',_,_,d'⟩,_⟩:=I.list h'
 rw[e]at e';cases e'
 rw[d]at d'
 injection d' with d1 _
 have:iN=its':=by simpa using congrArg Array.toList d1
 subst this
 exact r.inj r'
theorem Inv.CS(I:Inv X pins σ H s)(h:Cd X.K H a xs)(h':Cd X.K H a ys):xs=ys:=by
 obtain⟨iN,r,⟨o,e,_,n,d⟩,_⟩:=I.tuple h
 obtain⟨its',r',⟨o',e',_,n',d'⟩,_⟩:=I.tuple h'
 rw[e]at e';cases e'
 rw[d]at d'
 injection d' with d1 _
 have:iN=its':=by simpa using congrArg Array.toList d1
 subst this
 exact r.inj r'
abbrev Cx.Fu(X:Cx)(E:Value->Shared->Prop):Cx:={X with xe:=E}
abbrev Cx.J5(X:Cx):Cx:=X.Fu λ_ _=>False
theorem Cx.Ok.Fu(ok:X.Ok)(E:Value->Shared->Prop):(X.Fu E).Ok :=
 ⟨ok.mod,ok.kind,ok.glob,ok.blt,ok.above,ok.inj,ok.has,ok.PC,ok.hd,ok.frames,ok.Qe,ok.Uz,ok.bs,ok.Lz,ok.Jy,ok.KU,ok.Ff,ok.NL⟩
theorem Cx.Ok.Dl(ok:(X.Fu E).Ok):X.Ok :=
 ⟨ok.mod,ok.kind,ok.glob,ok.blt,ok.above,ok.inj,ok.has,ok.PC,ok.hd,ok.frames,ok.Qe,ok.Uz,ok.bs,ok.Lz,ok.Jy,ok.KU,ok.Ff,ok.NL⟩
theorem Inv.Fu(I:Inv X pins σ H s)(E:Value->Shared->Prop):Inv (X.Fu E) pins σ H s:=⟨I.ok.Fu E,I.os,I.bare,I.base,I.loc,I.cell,I.free,I.C1,I.pin,I.AU,I.len⟩
theorem Inv.Dl(I:Inv (X.Fu E) pins σ H s):Inv X pins σ H s:=⟨I.ok.Dl,I.os,I.bare,I.base,I.loc,I.cell,I.free,I.C1,I.pin,I.AU,I.len⟩
theorem SP.Dl{D:Ends}{f:Flow}(h:SP (X.Fu E) pins D f s'):SP X pins D f s':=by
 cases f with
 |next=>obtain⟨σ',H',I,q⟩:=h;exact⟨σ',H',I.Dl,q⟩
 |brk=>obtain⟨σ',H',I,q⟩:=h;exact⟨σ',H',I.Dl,q⟩
 |cont=>obtain⟨σ',H',I,q⟩:=h;exact⟨σ',H',I.Dl,q⟩
 |ret u=>obtain⟨v,σ',H',I,r,q⟩:=h;exact⟨v,σ',H',I.Dl,r,q⟩
theorem HH.J5{st:List Stmt}{t:TS}(h:HH X.J5 st t):HH X st t:=λpins s σ H D I hw=>
 aaT (h pins s σ H D (I.Fu _) hw) (λ_ _ q=>q.Dl) λ_ _ z=>acQ z
variable{st:Stmt}{rest:List Stmt}{t u:TS}{e:Expr}{te:TE}
def Lf:TS:=λD σ H=>D.nx σ H
def Jo(t u:TS):TS:=λD σ H=>t {D with nx:=u D} σ H
theorem qO:HH X [] Lf:=λ_ _ σ H _ I h=>ad2 ⟨σ,H,I,h⟩
theorem bT(h1:PS X st t)(h2:HH X rest u):HH X (st::rest) (Jo t u):=by
 intro pins s σ H D I h
 refine wpAny_execs_cons (Bu (h1 pins s σ H {D with nx:=u D} I h) λf s1 q=>?_)
 cases f with
 |next=>
  obtain⟨σ',H',I',q⟩:=q
  exact h2 pins s1 σ' H' D I' q
 |ret v=>exact q
 |brk=>exact q
 |cont=>exact q
theorem dA(h1:PS X st t):HH X [st] t:=by
 intro pins s σ H D I h
 refine wpAny_execs_cons (Bu (h1 pins s σ H D I h) λf s1 q=>?_)
 cases f with
 |next=>exact ad2 q
 |ret v=>exact q
 |brk=>exact q
 |cont=>exact q
theorem Inv.quiet(I:Inv X pins σ H s):interactive X.env=false:=by simp[interactive,I.ok.kind]
def N5(te:TE):TS:=λD σ H=>te σ H λ_ H1=>D.nx σ H1
theorem jw(he:PE X e te)(hs:abV e none pos.line X.env=pure false:=by rfl):PS X (.Expr e pos) (N5 te):=by
 intro pins s σ H D I h
 exact wpAny_Expr_any (Bu (he pins s σ H _ I h) λv s1 ⟨x,H1,I1,r1,q1⟩=>⟨σ,H1,I1,q1⟩) I.quiet hs
def L8(te:TE):TS:=λD σ H=>te σ H D.rt
theorem gK(he:PE X e te):PS X (.Return (some e) pos) (L8 te):=by
 intro pins s σ H D I h
 exact wpAny_Return_some (Bu (he pins s σ H _ I h) λv s1 ⟨x,H1,I1,r1,q1⟩=>⟨x,σ,H1,I1,r1,q1⟩)
def N4(c:TT)(t u:TS):TS:=λD σ H=>c σ H λb H1=>if b=true then t D σ H1 else u D σ H1
theorem wL{a b:List Stmt}{tc:TT}(hc:PT X c tc)(ha:HH X a t)(hb:HH X b u):PS X (.If c a b pos) (N4 tc t u):=by
 intro pins s σ H D I h
 refine wpAny_If (Bu (hc pins s σ H _ I h) λd s1 ⟨H1,I1,q1⟩=>?_)
 cases d with
 |true=>exact ha pins s1 σ H1 D I1 q1
 |false=>exact hb pins s1 σ H1 D I1 q1
abbrev TG:=V->St->Hp->(St->Hp->Prop)->Prop
abbrev Jc:=List V->St->Hp->(St->Hp->Prop)->Prop
def PG(X:Cx)(target:Expr)(t:TG):Prop :=
 ∀(pins:List (Addr×Obj)) (s:Shared) (σ:St) (H:Hp) (v:V) (u:Value) (Q:St->Hp->Prop),Inv X pins σ H s->RelV v u->t v σ H Q ->
  wpAny (model X.prog X.w) X.A (assign target X.env u) (λ_ s'=>∃σ' H',Inv X pins σ' H' s'/\Q σ' H') X.xe s
def PR(X:Cx)(ts:List Expr)(t:Jc):Prop :=
 ∀(pins:List (Addr×Obj)) (s:Shared) (σ:St) (H:Hp) (vs:List V) (us:List Value) (Q:St->Hp->Prop),Inv X pins σ H s->AM vs us->t vs σ H Q ->
  wpAny (model X.prog X.w) X.A (assignInOrder ((acq ts X.env).map (·.2)) us) (λ_ s'=>∃σ' H',Inv X pins σ' H' s'/\Q σ' H') X.xe s
abbrev JZ:=V->V->V->Hp->(Hp->Prop)->Prop
def GZ(X:Cx)(t:JZ):Prop :=
 ∀(pins:List (Addr×Obj)) (s:Shared) (σ:St) (H:Hp) (o i v:V) (ov iv u:Value) (Q:Hp->Prop),Inv X pins σ H s->RelV o ov->RelV i iv->RelV v u->t o i v H Q ->
  wpAny (model X.prog X.w) X.A (setItem ov iv u) (λ_ s'=>∃H',Inv X pins σ H' s'/\Q H') X.xe s
def CG(i:Nat):TG:=λv σ H Q=>Q (σ.set i (some v)) H
theorem aF{x:Str}(hN:X.N.Nodup)(hi:X.N[i]?=some x)(hx:Loc X.env.scope x)(hf:X.fn x=true\/X.env.scope.names.lookup x=some .local:=by first|exact .inl rfl|exact .inr rfl|assumption):PG X (.Name x pos) (CG i):=by
 intro pins s σ H v u Q I r h
 exact aeP (hV I hN hi hx r (λs' I'=>⟨_,H,I',h⟩) hf)
def MY:Jc:=λvs σ H Q=>vs=[]/\Q σ H
def GN(t:TG)(u:Jc):Jc:=λvs σ H Q=>∃v r,vs=v::r/\t v σ H λσ' H'=>u r σ' H' Q
theorem mD:PR X [] MY:=by
 intro pins s σ H vs us Q I r h
 obtain⟨e,h⟩:=h
 subst e
 cases r
 exact assignInOrder_nil ⟨σ,H,I,h⟩
variable{es:List Expr}
theorem fA{t:TG}{u:Jc}(h1:PG X e t)(h2:PR X es u)
  (hs:(acq (e::es) X.env).map (·.2)=assign e X.env::(acq es X.env).map (·.2):=by rfl):PR X (e::es) (GN t u):=by
 intro pins s σ H vs us Q I r h
 obtain⟨v,vr,e1,h⟩:=h
 subst e1
 cases r with
 |cons r rr=>
  rw[hs]
  refine aeE (Bu (h1 pins s σ H _ _ _ I r h) λ_ s1 ⟨σ1,H1,I1,q1⟩=>?_)
  exact h2 pins s1 σ1 H1 _ _ Q I1 rr q1
def MW(K:aah)(n:Nat)(t:Jc):TG:=λv σ H Q=>∃a xs,v=.ref a/\Cd K H a xs/\xs.length=n/\t xs σ H Q
variable{k n:Nat}
theorem oZ{t:Jc}(hc:X.calm=true)(h:PR X es t)
  (hn:(acq es X.env).length=n:=by rfl) (FP:(acq es X.env).findIdx? (·.1)=none:=by rfl):PG X (.Tuple es k pos) (MW X.K n t):=by
 intro pins s σ H v u Q I r hw
 obtain⟨a,xs,e1,hq,hl,hw⟩:=hw
 subst e1
 cases r
 obtain⟨iN,rv,ht,hz⟩:=I.tuple hq
 refine assign_Tuple_tuple (I.ok.hd hc) ht (by simp[hn,<- hl,rv.length]) FP λh' hx=>?_
 have I1:Inv X pins σ H {s with heap:=h'}:=I.kept (t':=s.toks) λb o e=>hx b o (aas (aak e)) e
 exact h pins _ σ H xs _ Q I1 (by simpa using rv) hw
def MX(to ti:TE)(t:JZ):TG:=λv σ H Q=>to σ H λo H1=>ti σ H1 λi H2=>t o i v H2 λH3=>Q σ H3
variable{to:TE}
theorem o4{o i:Expr}{ti:TE}{t:JZ}(ho:PE X o to)(hi:PE X i ti)(hs:GZ X t)
  (ha:∀v,assign (.Subscript o i pos) X.env v=(do
   let ov <- ad5 [v] (eval o X.env)
   let iv <- ad5 [v,ov] (eval i X.env)
   standAt pos
   ad5 [v,ov,iv] (setItem ov iv v)
   release [v,ov,iv] []):=by intro _;rfl):PG X (.Subscript o i pos) (MX to ti t):=by
 intro pins s σ H v u Q I r h
 rw[ha]
 refine aaa (aa9 (Bu (ho pins s σ H _ I h) λov s1 ⟨x,H1,I1,r1,q1⟩=>?_))
 refine aaa (aa9 (Bu (hi pins s1 σ H1 _ I1 q1) λiv s2 ⟨y,H2,I2,r2,q2⟩=>?_))
 refine aaa (acB (aaa (aa9 (Bu (hs pins s2 σ H2 x y v ov iv u _ I2 r1 r2 r q2) λ_ s3 ⟨H3,I3,q3⟩=>?_))))
 exact wpAny_release ⟨σ,H3,I3,q3⟩
def He(te:TE)(g:TG):TS:=λD σ H=>te σ H λx H1=>g x σ H1 D.nx
variable{tg:Expr}
theorem lv{g:TG}(he:PE X e te)(hg:PG X tg g)(hs:adK [tg] e pos.line X.env=pure false:=by rfl)(hw:adL [tg] e X.env=pure none:=by rfl)
  (h1:(acq [tg] X.env).map (·.2)=[assign tg X.env]:=by rfl):PS X (.Assign [tg] e pos) (He te g):=by
 intro pins s σ H D I h
 refine wpAny_Assign_stores (Bu (he pins s σ H _ I h) λv s1 ⟨x,H1,I1,r1,q1⟩=>?_) hs hw
 rw[h1]
 exact Bu (hg pins s1 σ H1 x v _ I1 r1 q1) λ_ s2 q=>q
variable{pos':Pos}
theorem dS{x:Str}(hN:X.N.Nodup)(hi:X.N[i]?=some x)(hx:Loc X.env.scope x)(he:PE X e te)(hs:abV e (some (.Name x pos')) pos.line X.env=pure false:=by rfl)(hf:X.fn x=true\/X.env.scope.names.lookup x=some .local:=by first|exact .inl rfl|exact .inr rfl|assumption):
  PS X (.Assign [.Name x pos'] e pos) (He te (CG i)):=by
 intro pins s σ H D I h
 refine wpAny_Assign_Name (Bu (he pins s σ H _ I h) λv s1 ⟨y,H1,I1,r1,q1⟩=>?_) hs
 exact hV I1 hN hi hx r1 (λs2 I2=>⟨_,H1,I2,q1⟩) hf
def Rg(i j:Nat)(ta:TA):TS:=λD σ H=>ta σ H λvs H1=>∃v w,vs=[v,w]/\D.nx ((σ.set i (some v)).set j (some w)) H1
variable{py:Pos}
theorem yQ{x y:Str}{a:Expr}{ta:TA}{px pt:Pos}{kt k2 pt2}(hc:X.calm=true)(hN:X.N.Nodup)(hi:X.N[i]?=some x)(hj:X.N[j]?=some y)(Ey:i≠j)
  (hx:X.env.scope.names.lookup x=some .local) (hy:X.env.scope.names.lookup y=some .local) (ha:PA X [a,b] ta)
  (hw:adL [.Tuple [.Name x px,.Name y py] kt pt] (.Tuple [a,b] k2 pt2) X.env=pure (some [x,y]))
  (hs:adK [.Tuple [.Name x px,.Name y py] kt pt] (.Tuple [a,b] k2 pt2) pos.line X.env=pure false:=by rfl) :
  PS X (.Assign [.Tuple [.Name x px,.Name y py] kt pt] (.Tuple [a,b] k2 pt2) pos) (Rg i j ta):=by
 intro pins s σ H D I h
 rw[exec_Assign_arm]
 refine aaa (acB ?_)
 rw[hs]
 refine aaa (aaf ?_)
 rw[if_neg (by decide)]
 refine aaa (Tuple_ (Bu (ha _ pins s σ H _ I h) λus s1 ⟨vs,H1,I1,r1,q1⟩=>?_))
 obtain⟨v,w,e1,q1⟩:=q1
 subst e1
 obtain⟨u1,u2,rfl,rv,EN⟩:∃u1 u2,us=[u1,u2]/\RelV v u1/\RelV w u2:=by
  cases r1 with
  |cons p q=>
   cases q with
   |cons p' q'=>
    cases q'
    exact⟨_,_,rfl,p,p'⟩
 refine aba ?_ (by show 2<=sizeLine;decide)
 have I2:Inv X pins σ H1 {s1 with heap:=s1.heap.push {cls:=.type "tuple",data:=.seq [u1,u2].toArray}}:=I1.kept (t':=s1.toks) λb o e=>aad _ e
 rw[hw]
 refine aaa (aaf ?_)
 show wpAny (model X.prog X.w) X.A (do rule "assign.swapped-stores"; let items <- unpackItems (.ref s1.heap.objs.size) 2 none;assignInOrder [λv=>bindName X.env y v,λv=>bindName X.env x v] items.reverse;pure Flow.next) _ _ _
 refine aaa (ac3 (aaa (unpackItems_tuple (items:=#[u1,u2]) (I.ok.hd hc) (IsTup.new s1.heap _) λh' RY=>?_)))
 have I3:=I2.kept (h':=h') (t':=s1.toks) λb o e=>RY b o (aas (aak e)) e
 show wpAny _ _ (assignInOrder [λv=>bindName X.env y v,λv=>bindName X.env x v] [u2,u1] >>= λ_=>pure Flow.next) _ _ _
 refine aaa (aeE (wpAny_bindName (hV I3 hN hj (.inl hy) EN (λs2 I4=>?_) (.inr hy))))
 refine aeE (wpAny_bindName (hV I4 hN hi (.inl hx) rv (λs3 I5=>assignInOrder_nil (aaf ?_)) (.inr hx)))
 rw[List.set_comm _ _ (abO Ey)]at I5
 exact⟨_,H1,I5,q1⟩
def LY(c:TT)(tb:TS):TS:=λD σ H=>∃W:Nat->St->Hp->Prop,(∃m,W m σ H)/\∀m σ H,W m σ H ->
 c σ H λb H1=>if b=true then ∃N:St->Hp->Prop,(∀σ' H',N σ' H'->∃m',m'<m/\W m' σ' H')/\tb {D with nx:=N,ct:=N,bk:=D.nx} σ H1 else D.nx σ H1
variable{body:List Stmt}
theorem oV{tc:TT}{tb:TS}(hp:PassesOwn (model X.prog X.w) X.A X.env X.xe)(hc:PT X c tc)(hb:HH X body tb):PS X (.While c body [] pos) (LY tc tb):=by
 intro pins s σ H D I h
 obtain⟨W,⟨m0,w0⟩,turn⟩:=h
 refine wpAny_While (codeAny_whileLoop (λn s'=>∃σ' H',Inv X pins σ' H' s'/\W n σ' H') ?_ m0 ⟨σ,H,I,w0⟩)
 rintro n s1 ⟨σ1,H1,I1,w1⟩
 refine acw hp (Bu (hc pins s1 σ1 H1 _ I1 (turn n σ1 H1 w1)) λb s2 ⟨H2,I2,q2⟩=>?_)
 cases b with
 |true=>
  obtain⟨N,hN,q2⟩:=q2
  rw[if_pos rfl]
  refine acw hp (Bu (hb pins s2 σ1 H2 _ I2 q2) λf s3 q3=>?_)
  cases f with
  |next=>
   obtain⟨σ3,H3,I3,n3⟩:=q3
   obtain⟨m',hm,w3⟩:=hN σ3 H3 n3
   exact⟨m',hm,σ3,H3,I3,w3⟩
  |cont=>
   obtain⟨σ3,H3,I3,n3⟩:=q3
   obtain⟨m',hm,w3⟩:=hN σ3 H3 n3
   exact⟨m',hm,σ3,H3,I3,w3⟩
  |brk=>exact q3
  |ret v=>exact q3
 |false=>
  rw[if_neg aax]
  exact ad2 ⟨σ1,H2,I2,q2⟩
structure It where
 go:Nat->Hp->Prop
 yld:Nat->Hp->V->Hp->Prop
 stop:Nat->Hp->Prop
def DS(X:Cx)(pins:List (Addr×Obj))(H:Hp)(b:Addr):Prop :=
 H b=none/\b≠X.env.locals/\b∉X.fs/\(b∈X.ex\/X.s₀.heap.objs.size<=b)/\(∀x c,X.env.cells.lookup x=some c->c≠b)/\∀p∈X.pn++pins,p.1≠b
theorem Inv.Hv{b:Addr}(I:Inv X pins σ H s)(hb:s.heap.objs.size<=b)(hn:H' b=none):DS X pins H' b:=by
 refine⟨hn,ab8 (aaG I.lt hb),I.RG hb,.inr (aa3 I.sz hb),λx c e z=>?_,λp hp z=>?_⟩
 .obtain⟨v,q⟩:=I.cell x c e
  exact absurd (aaG q.lt (by rw[z];exact hb)) (abj _)
 .exact absurd (aaG (aak (I.pin p hp).1) (by rw[z];exact hb)) (abj _)
structure Turn(P:aaJ)(w:World)(K:aah)(tg:Expr)(J:It)(fp:List Addr)(it:Addr)(tn:Nat->Heap->Prop):Prop where
 mem:it∈fp
 obj:∀i h,tn i h->∀b∈fp,∃o,h.get? b=some o/\∀v,o.data≠.cell v
 keep:∀i h h',tn i h->(∀b∈fp,∀o,h.get? b=some o->h'.get? b=some o)->tn i h'
 item:∀(X:Cx),X.prog=P->X.w=w->X.K=K->X.calm=true->∀(i:Nat) (pins:List (Addr×Obj)) (s:Shared) (σ:St) (H:Hp) (E:Value->Shared->Prop),Inv X pins σ H s->(∀b∈fp,DS X pins H b)->tn i s.heap->J.go i H ->
  wpAny (model P w) X.A (pyNext (.ref it)) (λr s1=>∃u,r=some u /\
   wpAny (model P w) X.A (ad4 tg (.ref it) u) (λ_ s2=>∃x H',Inv X pins σ H' s2/\RelV x u/\J.yld i H x H'/\tn (i+1) s2.heap/\∀b∈fp,H' b=none) E s1) E s
 done:∀(X:Cx),X.prog=P->X.w=w->X.K=K->X.calm=true->∀(i:Nat) (pins:List (Addr×Obj)) (s:Shared) (σ:St) (H:Hp) (E:Value->Shared->Prop),Inv X pins σ H s->(∀b∈fp,DS X pins H b)->tn i s.heap->J.stop i H ->
  wpAny (model P w) X.A (pyNext (.ref it)) (λr s1=>r=none/\Inv X pins σ H s1) E s
 self:∀(A:Around) (i:Nat) (s:Shared) (Q:Value->Shared->Prop) (E:Value->Shared->Prop),tn i s.heap->Q (.ref it) s->wpAny (model P w) A (pyIter (.ref it)) Q E s
abbrev TI:=St->Hp->(It->Hp->Prop)->Prop
def UP(X:Cx)(pins:List (Addr×Obj))(σ:St)(tg:Expr)(R:It->Hp->Prop)(Qp:Value)(s2:Shared):Prop :=
 ∃(it:Addr) (fp:List Addr) (tn:Nat->Heap->Prop) (J:It) (H':Hp),Qp=.ref it/\Inv X pins σ H' s2/\Turn X.prog X.w X.K tg J fp it tn/\tn 0 s2.heap/\(∀b∈fp,DS X pins H' b)/\R J H'
def PI(X:Cx)(tg iter:Expr)(wi:TI):Prop :=
 ∀(pins:List (Addr×Obj)) (s:Shared) (σ:St) (H:Hp) (R:It->Hp->Prop),Inv X pins σ H s->wi σ H R ->
  wpAny (model X.prog X.w) X.A (eval iter X.env) (λv s1=>wpAny (model X.prog X.w) X.A (pyIter v) (UP X pins σ tg R) X.xe s1) X.xe s
theorem oq{u:Value}{o:Obj}{n:String}{vs:Array Value}(ho:s.heap.get? it=some o)(hc:o.cls=.type n)(hd:o.data=.fields vs)
  (hn:["enumerate", "zip", "dict_itemiterator", "dict_reverseitemiterator", "odict_iterator", "itertools.zip_longest", "itertools.pairwise"].contains n=false) (hQ:Q () s):wpAny M A (ad4 tg (.ref it) u) Q E s:=by
 unfold ad4
 cases tg<;>first
  |exact aaf hQ
  |(cases u<;>first
    |exact aaf hQ
    |(
      refine aaa (wpAny_load ho ?_)
      rw[hc,hd]
      show wpAny M A (if (["enumerate", "zip", "dict_itemiterator", "dict_reverseitemiterator", "odict_iterator", "itertools.zip_longest", "itertools.pairwise"].contains n && vs[0]?==some (rawInt _))=true then _ else _) Q E s
      rw[if_neg (by intro h;rw[hn,aeu]at h;cases h)]
      exact aaf hQ))
def Kl(K:aah)(a:Addr):It :=
 ⟨λi H=>∃xs x,Cm K H a xs/\xs[i]?=some x,λi H x H'=>H'=H/\∀xs,Cm K H a xs->xs[i]?=some x,λi H=>∃xs,Cm K H a xs/\xs.length<=i⟩
def Tg(K:aah)(a:Addr):It :=
 ⟨λi H=>∃xs x,Cd K H a xs/\xs[i]?=some x,λi H x H'=>H'=H/\∀xs,Cd K H a xs->xs[i]?=some x,λi H=>∃xs,Cd K H a xs/\xs.length<=i⟩
def QM(lo:Int)(n:Nat):It:=⟨λi _=>i<n,λi H x H'=>H'=H/\x=.int (lo+i),λi _=>n<=i⟩
theorem ni(a it:Addr):Turn P w K tg (Kl K a) [it] it (λi h=>h.IsListIter it a i) where
 mem:=by simp
 obj:=λi h st b hb=>by
  have e:b=it:=by simpa using hb
  subst e
  obtain⟨o,e,c,d⟩:=st
  exact⟨o,e,λv z=>by rw[d]at z;cases z⟩
 keep:=λi h h' st k=>st.at λo e=>k it (by simp) o e
 item:=by
  intro X hP hw hK hc i pins s σ H E I hf st hg
  subst hP hw hK
  obtain⟨xs,x,hq,hx⟩:=hg
  obtain⟨iN,rv,p,hz⟩:=I.list hq
  obtain⟨u,hu,ru⟩:=rv.get hx
  obtain⟨f0,f1,f2,f3,f4,f5⟩:=hf it (by simp)
  refine wpAny_pyNext_list_item st p.isList (x:=u) (by simpa using hu) λh' EW sb=>?_
  have I1:Inv X pins σ H {s with heap:=h'}:=I.turned (t':=s.toks) (λb o hb e=>(sb.2 b hb).trans e) f0 f1 f3 f4 f5
  obtain⟨o,e,c,d⟩:=id EW
  exact⟨u,rfl,oq (s:={s with heap:=h'}) e c d (by decide) ⟨x,H,I1,ru,⟨rfl,λys hy=>by rw[I.GG hy hq];exact hx⟩,EW,λb hb=>(hf b hb).1⟩⟩
 done:=by
  intro X hP hw hK hc i pins s σ H E I hf st hg
  subst hP hw hK
  obtain⟨xs,hq,hx⟩:=hg
  obtain⟨iN,rv,p,hz⟩:=I.list hq
  obtain⟨f0,f1,f2,f3,f4,f5⟩:=hf it (by simp)
  have hl:=rv.length
  exact wpAny_pyNext_list_end (I.ok.hd hc) st p.isList (by simp;omega) λh' eb=>⟨rfl,I.turned (t':=s.toks) (λb o hb e=>eb b o hb e) f0 f1 f3 f4 f5⟩
 self:=λ_ _ _ _ _ st h=>wpAny_pyIter_listiter st h
theorem rN(a it:Addr):Turn P w K tg (Tg K a) [it] it (λi h=>h.IsTupleIter it a i) where
 mem:=by simp
 obj:=λi h st b hb=>by
  have e:b=it:=by simpa using hb
  subst e
  obtain⟨o,e,c,d⟩:=st
  exact⟨o,e,λv z=>by rw[d]at z;cases z⟩
 keep:=λi h h' st k=>st.at λo e=>k it (by simp) o e
 item:=by
  intro X hP hw hK hc i pins s σ H E I hf st hg
  subst hP hw hK
  obtain⟨xs,x,hq,hx⟩:=hg
  obtain⟨iN,rv,p,hz⟩:=I.tuple hq
  obtain⟨u,hu,ru⟩:=rv.get hx
  obtain⟨f0,f1,f2,f3,f4,f5⟩:=hf it (by simp)
  refine wpAny_pyNext_tuple_item st (show s.heap.IsTuple a iN.toArray from p) (x:=u) (by simpa using hu) λh' EW sb=>?_
  have I1:Inv X pins σ H {s with heap:=h'}:=I.turned (t':=s.toks) (λb o hb e=>(sb.2 b hb).trans e) f0 f1 f3 f4 f5
  obtain⟨o,e,c,d⟩:=id EW
  exact⟨u,rfl,oq (s:={s with heap:=h'}) e c d (by decide) ⟨x,H,I1,ru,⟨rfl,λys hy=>by rw[I.CS hy hq];exact hx⟩,EW,λb hb=>(hf b hb).1⟩⟩
 done:=by
  intro X hP hw hK hc i pins s σ H E I hf st hg
  subst hP hw hK
  obtain⟨xs,hq,hx⟩:=hg
  obtain⟨iN,rv,p,hz⟩:=I.tuple hq
  obtain⟨f0,f1,f2,f3,f4,f5⟩:=hf it (by simp)
  have hl:=rv.length
  exact wpAny_pyNext_tuple_end (I.ok.hd hc) st (show s.heap.IsTuple a iN.toArray from p) (by simp;omega) λh' eb=>⟨rfl,I.turned (t':=s.toks) (λb o hb e=>eb b o hb e) f0 f1 f3 f4 f5⟩
 self:=λ_ _ _ _ _ st h=>wpAny_pyIter_tupleiter st h
theorem rO(it:Addr)(lo:Int)(n:Nat):Turn P w K tg (QM lo n) [it] it (λi h=>IsRangeIter h it (lo+(i:Nat)*1) ((n:Int) - (i:Nat)) 1) where
 mem:=by simp
 obj:=λi h st b hb=>by
  have e:b=it:=by simpa using hb
  subst e
  exact⟨_,st,λv z=>by
   have z':Data.fields _=afC v:=z
   cases z'⟩
 keep:=λi h h' st k=>k it (by simp) _ st
 item:=by
  intro X hP hw hK hc i pins s σ H E I hf st hg
  subst hP hw hK
  obtain⟨f0,f1,f2,f3,f4,f5⟩:=hf it (by simp)
  have W:=Walks.range (prog:=X.prog) (w:=X.w) (I.ok.hd hc) it lo 1 n
  refine W.item i s _ _ hg st λv h' tk hv EW kk=>?_
  obtain⟨t,rfl⟩:=hv
  have I1:Inv X pins σ H {s with heap:=h',toks:=tk}:=I.turned (λb o hb e=>kk b o (by simpa using hb) e) f0 f1 f3 f4 f5
  refine⟨_,rfl,oq (s:={s with heap:=h',toks:=tk}) (n := "range_iterator") EW rfl rfl (by decide) ⟨.int (lo+i),H,I1,⟨t,?_⟩,⟨rfl,rfl⟩,EW,λb hb=>(hf b hb).1⟩⟩
  rw[Int.mul_one]
 done:=by
  intro X hP hw hK hc i pins s σ H E I hf st hg
  subst hP hw hK
  obtain⟨f0,f1,f2,f3,f4,f5⟩:=hf it (by simp)
  exact wpAny_pyNext_range_end (I.ok.hd hc) st (by have:n<=i:=hg;omega) λh' eb=>⟨rfl,I.turned (t':=s.toks) (λb o hb e=>eb b o hb e) f0 f1 f3 f4 f5⟩
 self:=λ_ _ _ _ _ st h=>wpAny_pyIter_rangeiter st h
def OY(K:aah)(tl:TE):TI:=λσ H R=>tl σ H λx H1=>∃a,x=.ref a/\(∃xs,Cm K H1 a xs)/\R (Kl K a) H1
theorem qP{l:Expr}{tl:TE}(hl:PE X l tl):PI X tg l (OY X.K tl):=by
 intro pins s σ H R I h
 refine Bu (hl pins s σ H _ I h) λv s1 ⟨x,H1,I1,r1,q1⟩=>?_
 obtain⟨a,e,⟨xs,hq⟩,q⟩:=q1
 subst e
 cases r1
 obtain⟨iN,rv,p,hz⟩:=I1.list hq
 refine ac4 p.isList ?_
 refine⟨s1.heap.objs.size,[s1.heap.objs.size],_,_,H1,rfl,I1.kept (t':=s1.toks) λb o e=>aad _ e,ni a _,⟨_,aai _ rfl,rfl,rfl⟩,λb hb=>?_,q⟩
 have e:b=s1.heap.objs.size:=by simpa using hb
 subst e
 exact I1.Hv (aal _) (I1.AU.fresh (aal _))
theorem vk{R:It->Hp->Prop}{lo hi:Int}{t u v:Tok}{tk:Nat}(I:Inv X pins σ H s)(h1 : -(2 ^ 62)<=lo)(h2:lo<2 ^ 62)(h3 : -(2 ^ 62)<=hi)(h4:hi<2 ^ 62)
  (q:R (QM lo (hi - lo).toNat) H):wpAny (model X.prog X.w) X.A (pyIter (.ref s.heap.objs.size)) (UP X pins σ tg R) E {s with heap:=s.heap.push {cls:=.type "range",data:=.fields #[.int lo t,.int hi u,.int 1 v]},toks:=tk}:=by
 refine wpAny_pyIter_range (IsRange.new ..) (small_one h1 h2 h3 h4) ?_
 have I1:Inv X pins σ H {s with heap:=s.heap.push {cls:=.type "range",data:=.fields #[.int lo t,.int hi u,.int 1 v]},toks:=tk}:=I.kept λb o e=>aad _ e
 refine⟨(s.heap.push {cls:=.type "range",data:=.fields #[.int lo t,.int hi u,.int 1 v]}).objs.size,[(s.heap.push {cls:=.type "range",data:=.fields #[.int lo t,.int hi u,.int 1 v]}).objs.size],_,_,H,rfl,
  I1.kept (t':=tk) λb o e=>aad _ e,rO _ lo (hi - lo).toNat,?_,λb hb=>?_,q⟩
 .have e1:lo+((0:Nat):Int)*1=lo:=by simp
  have e2:(((hi - lo).toNat:Nat):Int) - ((0:Nat):Int)=Builtin.Range.rangeSize lo hi 1:=by rw[rangeSize_one];split<;>omega
  show IsRangeIter _ _ (lo+((0:Nat):Int)*1) ((((hi - lo).toNat:Nat):Int) - ((0:Nat):Int)) 1
  rw[e1,e2]
  exact aai _ rfl
 .have e:b=(s.heap.push {cls:=.type "range",data:=.fields #[.int lo t,.int hi u,.int 1 v]}).objs.size:=by simpa using hb
  subst e
  exact I1.Hv (aal _) (I1.AU.fresh (aal _))
def OX(ta:TA):TI:=λσ H R=>ta σ H λvs H1=>∃j:Int,vs=[.int j] /\ -(2 ^ 62)<=j/\j<2 ^ 62/\R (QM 0 j.toNat) H1
variable{p:Pos}
theorem tj{a:Expr}{ta:TA}(hg:Gl X "range")(hm:X.mg "range" = none)(ha:PA X [a] ta)(hs:aam [a] X.env=[(false,eval a X.env)]:=by rfl):PI X tg (.Call (.Name "range" p) [a] [] pos) (OX ta):=by
 intro pins s σ H R I h
 refine Call_ (fI I hg hm boot_range (adh (Bu (ha pos pins s σ H _ I h) λus s1 ⟨vs,H1,I1,r1,q1⟩=>?_) hs rfl))
 obtain⟨j,e,q1,q2,q⟩:=q1
 subst e
 cases r1 with
 |cons r rr=>
  cases rr
  obtain⟨t,rfl⟩:=r
  exact call_range_1 (vk I1 (by omega) (by omega) q1 q2 (by simpa using q))
def Ri(wi:TI)(g:TG)(tb:TS):TS:=λD σ H=>wi σ H λJ H1=>∃W:Nat->Nat->St->Hp->Prop,(∃m,W 0 m σ H1)/\∀i m σ H,W i m σ H ->
 (J.stop i H/\D.nx σ H)\/(J.go i H/\∃N:St->Hp->Prop,(∀σ' H',N σ' H'->∃m',m'<m/\W (i+1) m' σ' H')/\∀x H',J.yld i H x H'->g x σ H' λσ2 H2=>tb {D with nx:=N,ct:=N,bk:=D.nx} σ2 H2)
def Ea(fp:List Addr)(h:Heap):List (Addr×Obj):=fp.filterMap λb=>(h.get? b).map λo=>(b,o)
variable{fp:List Addr}
theorem cw{b:Addr}{o:Obj}(hb:b∈fp)(e:h.get? b=some o):(b,o)∈Ea fp h:=List.mem_filterMap.mpr ⟨b,hb,by rw[e];rfl⟩
theorem tK{p:Addr×Obj}(hp:p∈Ea fp h):p.1∈fp/\h.get? p.1=some p.2:=by
 obtain⟨b,hb,e⟩:=List.mem_filterMap.mp hp
 cases q:h.get? b with
 |none=>rw[q]at e;cases e
 |some o=>
  rw[q]at e
  have e':(b,o)=p:=aap e
  subst e'
  exact⟨hb,q⟩
theorem Inv.pinned(I:Inv X pins σ H s)(hf:∀b∈fp,DS X pins H b)(ho:∀b∈fp,∃o,s.heap.get? b=some o/\∀v,o.data≠.cell v):Inv X (pins++Ea fp s.heap) σ H s :=
 I.HQ λp hp=>(List.mem_append.mp hp).elim (λz=>I.pin p (aaO _ z)) λz=>by
  obtain⟨hb,e⟩:=tK z
  obtain⟨f0,f1,f2,_⟩:=hf p.1 hb
  obtain⟨o,e',d⟩:=ho p.1 hb
  rw[e]at e';cases e'
  exact⟨e,f0,f1,f2,d⟩
theorem Inv.Dm{pl:List (Addr×Obj)}(I:Inv X (pins++pl) σ H s):Inv X pins σ H s:=I.HQ λp hp=>I.pin p (aaO _ (acb _ hp))
theorem sZ{iter:Expr}{wi:TI}{g:TG}{tb:TS}(hp:PassesOwn (model X.prog X.w) X.A X.env X.xe)(hc:X.calm=true)(hi:PI X tg iter wi)(hg:PG X tg g)(hb:HH X body tb)
  (hs:∀x,abb iter X.env x=pure x:=by intro _;rfl):PS X (.For tg iter body [] pos) (Ri wi g tb):=by
 intro pins s σ H D I h
 refine wpAny_For (Bu (hi pins s σ H _ I h) λv s1 h1=>Bu h1 λQp s2 h2=>?_) hs
 obtain⟨it,fp,tn,J,H2,e,I2,T,Mf,f2,W,⟨m0,w0⟩,turn⟩:=h2
 subst e
 have Mc:∀{H':Hp},(∀b∈fp,H' b=none)->∀b∈fp,DS X pins H' b:=λhn b hb=>⟨hn b hb,(f2 b hb).2⟩
 refine codeAny_forLoop_any (λn s'=>∃i σ' H',Inv X pins σ' H' s'/\tn i s'.heap/\(∀b∈fp,H' b=none)/\W i n σ' H') ?_ m0 ⟨0,σ,H2,I2,Mf,λb hb=>(f2 b hb).1,w0⟩
 rintro n s3 ⟨i,σ3,H3,I3,Tx,Ux,w3⟩
 rcases turn i n σ3 H3 w3 with ⟨stop,qn⟩|⟨go,N,hN,step⟩
 .refine acw hp (Bu (T.done X rfl rfl rfl hc i pins s3 σ3 H3 X.xe I3 (Mc Ux) Tx stop) λr s4 ⟨hr,I4⟩=>?_)
  subst hr
  exact ad2 ⟨σ3,H3,I4,qn⟩
 .refine acw hp (Bu (T.item X rfl rfl rfl hc i pins s3 σ3 H3 X.xe I3 (Mc Ux) Tx go) λr s4 ⟨u,hr,h4⟩=>?_)
  subst hr
  refine acw hp (Bu h4 λ_ s5 ⟨x,H5,I5,r5,y5,Ko,M3⟩=>?_)
  have Xo:=I5.pinned (Mc M3) (T.obj _ _ Ko)
  refine acw hp (Bu (hg _ s5 σ3 H5 x u _ Xo r5 (step x H5 y5)) λ_ s6 ⟨σ6,H6,I6,q6⟩=>?_)
  refine acw hp (Bu (hb _ s6 σ6 H6 _ I6 q6) λf s7 q7=>?_)
  have again:∀{σ7:St} {H7:Hp},Inv X (pins++Ea fp s5.heap) σ7 H7 s7->N σ7 H7->∃m,m<n/\∃i σ' H',Inv X pins σ' H' s7/\tn i s7.heap/\(∀b∈fp,H' b=none)/\W i m σ' H':=λ{σ7 H7} I7 n7=>by
   obtain⟨m',hm,w7⟩:=hN σ7 H7 n7
   refine⟨m',hm,i+1,σ7,H7,I7.Dm,T.keep _ _ _ Ko λb hb o e=>(I7.pin (b,o) (aaO _ (aaO _ (cw hb e)))).1,λb hb=>?_,w7⟩
   obtain⟨o,e,d⟩:=T.obj _ _ Ko b hb
   exact(I7.pin (b,o) (aaO _ (aaO _ (cw hb e)))).2.1
  cases f with
  |next=>obtain⟨σ7,H7,I7,n7⟩:=q7;exact again I7 n7
  |cont=>obtain⟨σ7,H7,I7,n7⟩:=q7;exact again I7 n7
  |brk=>obtain⟨σ7,H7,I7,q7⟩:=q7;exact⟨σ7,H7,I7.Dm,q7⟩
  |ret v=>obtain⟨x7,σ7,H7,I7,r7,q7⟩:=q7;exact⟨x7,σ7,H7,I7.Dm,r7,q7⟩
theorem wg{g:TG}{tb:TS}{D:Ends}(Pv:Nat->St->Hp->Prop)(h0:Pv 0 σ H)(hl:∀i σ H,i<=xs.length->Pv i σ H->Cm K H a xs)
  (hs:∀i x σ H,xs[i]?=some x->Pv i σ H->g x σ H λσ2 H2=>tb {D with nx:=Pv (i+1),ct:=Pv (i+1),bk:=D.nx} σ2 H2) (hd:∀σ H,Pv xs.length σ H->D.nx σ H) :
  ∃W:Nat->Nat->St->Hp->Prop,(∃m,W 0 m σ H)/\∀i m σ H,W i m σ H ->
   ((Kl K a).stop i H/\D.nx σ H)\/((Kl K a).go i H/\∃N:St->Hp->Prop,(∀σ' H',N σ' H'->∃m',m'<m/\W (i+1) m' σ' H')/\∀x H',(Kl K a).yld i H x H'->g x σ H' λσ2 H2=>tb {D with nx:=N,ct:=N,bk:=D.nx} σ2 H2):=by
 refine⟨λi m σ H=>m=xs.length - i/\i<=xs.length/\Pv i σ H,⟨xs.length,by simp,abv _,h0⟩,?_⟩
 rintro i m σ H ⟨rfl,hi,p⟩
 have q:=hl i σ H hi p
 by_cases BW:i<xs.length
 .refine .inr ⟨⟨xs,xs[i],q,by simp[BW]⟩,Pv (i+1),λσ' H' p'=>⟨xs.length - (i+1),by omega,rfl,BW,p'⟩,λx H' y=>?_⟩
  obtain⟨e,y⟩:=y
  subst e
  exact hs i x σ _ (y xs q) p
 .have e:i=xs.length:=by omega
  subst e
  exact .inl ⟨⟨xs,q,aal _⟩,hd σ H p⟩
abbrev R2:=V->V->Hp->VK->Prop
def BL(X:Cx)(f:Value->Value->Sem Value)(r:R2):Prop :=
 ∀(pins:List (Addr×Obj)) (s:Shared) (σ:St) (H:Hp) (x y:V) (v u:Value) (Q:VK),Inv X pins σ H s->RelV x v->RelV y u->r x y H Q ->
  wpAny (model X.prog X.w) X.A (f v u) (EP X pins σ Q) X.xe s
def AR(X:Cx)(f:Value)(r:List V->Hp->VK->Prop):Prop :=
 ∀(pins:List (Addr×Obj)) (s:Shared) (σ:St) (H:Hp) (xs:List V) (us:List Value) (Q:VK),Inv X pins σ H s->AM xs us->r xs H Q ->
  wpAny (model X.prog X.w) X.A (call f us) (EP X pins σ Q) X.xe s
def Tc(X:Cx)(r:V->Hp->(Bool->Hp->Prop)->Prop):Prop :=
 ∀(pins:List (Addr×Obj)) (s:Shared) (σ:St) (H:Hp) (x:V) (v:Value) (Q:Bool->Hp->Prop),Inv X pins σ H s->RelV x v->r x H Q ->
  wpAny (model X.prog X.w) X.A (truthy v) (TP X pins σ Q) X.xe s
def EC(r:R2)(ta tb:TE):TE:=λσ H Q=>ta σ H λx H1=>tb σ H1 λy H2=>r x y H2 Q
def rI(C:Int->Int->Prop)(g:Int->Int->V):R2:=λx y H Q=>∃i j,x=.int i/\y=.int j/\C i j/\Q (g i j) H
def Hm(g:Int->Int->V):R2:=λx y H Q=>∃i j,x=.int i/\y=.int j/\Q (g i j) H
variable{a:Expr}{tc:TE}
theorem Nf(ha:PE X a ta)(hb:PE X b tb){R:V->V->Hp->Prop}(I:Inv X pins σ H s)
  (h:ta σ H λx H1=>tb σ H1 λy H2=>R x y H2) {Q:Value->Shared->Prop} {f:Value->Value->Sem Value}
  (hf:∀v u s2 x y H2,Inv X pins σ H2 s2->RelV x v->RelV y u->R x y H2->wpAny (model X.prog X.w) X.A (f v u) Q X.xe s2) :
  wpAny (model X.prog X.w) X.A (eval a X.env) (λv s₁=>wpAny (model X.prog X.w) X.A (eval b X.env) (λu s₂=>wpAny (model X.prog X.w) X.A (f v u) Q X.xe s₂) X.xe s₁) X.xe s:=by
 refine Bu (ha pins s σ H _ I h) λv s1 ⟨x,H1,I1,r1,q1⟩=>?_
 refine Bu (hb pins s1 σ H1 _ I1 q1) λu s2 ⟨y,H2,I2,r2,q2⟩=>?_
 exact hf v u s2 x y H2 I2 r1 r2 q2
variable{r:R2}
theorem bG{op:Operator}(ho:BL X (acj op) r)(ha:PE X a ta)(hb:PE X b tb):PE X (.BinOp a op b pos) (EC r ta tb):=by
 intro pins s σ H Q I h
 exact wpAny_BinOp (Nf ha hb I h λv u s2 x y H2 I2 rx ry q=>ho pins s2 σ H2 x y v u Q I2 rx ry q)
variable{f:Value->Value->Sem Value}
theorem Qk{C:Int->Int->Prop}{g:Int->Int->Int}
  (rule:∀(i j:Int) (t u:Tok) (s:Shared) (Q:Value->Shared->Prop) (E:Value->Shared->Prop),C i j->Q (.int (g i j) s.toks) {s with toks:=s.toks+1}->wpAny (model X.prog X.w) X.A (f (.int i t) (.int j u)) Q E s) :
  BL X f (rI C λi j=>.int (g i j)):=by
 intro pins s σ H x y v u Q I rx ry h
 obtain⟨i,j,rfl,rfl,hc,q⟩:=h
 obtain⟨t,rfl⟩:=rx
 obtain⟨t',rfl⟩:=ry
 exact rule i j t t' s _ _ hc ⟨.int (g i j),H,I.tok _,⟨_,rfl⟩,q⟩
theorem Oz{g:Int->Int->Int}
  (rule:∀(i j:Int) (t u:Tok) (s:Shared) (Q:Value->Shared->Prop) (E:Value->Shared->Prop),Q (.int (g i j) s.toks) {s with toks:=s.toks+1}->wpAny (model X.prog X.w) X.A (f (.int i t) (.int j u)) Q E s) :
  BL X f (Hm λi j=>.int (g i j)):=by
 intro pins s σ H x y v u Q I rx ry h
 obtain⟨i,j,rfl,rfl,q⟩:=h
 obtain⟨t,rfl⟩:=rx
 obtain⟨t',rfl⟩:=ry
 exact rule i j t t' s _ _ ⟨.int (g i j),H,I.tok _,⟨_,rfl⟩,q⟩
theorem Kx{g:Int->Int->Bool}
  (rule:∀(i j:Int) (t u:Tok) (s:Shared) (Q:Value->Shared->Prop) (E:Value->Shared->Prop),Q (.bool (g i j)) s->wpAny (model X.prog X.w) X.A (f (.int i t) (.int j u)) Q E s) :
  BL X f (Hm λi j=>.bl (g i j)):=by
 intro pins s σ H x y v u Q I rx ry h
 obtain⟨i,j,rfl,rfl,q⟩:=h
 obtain⟨t,rfl⟩:=rx
 obtain⟨t',rfl⟩:=ry
 exact rule i j t t' s _ _ ⟨.bl (g i j),H,I,rfl,q⟩
def Np(i j:Int):Prop:=0<j/\j<1073741824
def Tq(i j:Int):Prop:=0<=j/\j<=1000000/\i.natAbs<2 ^ 64
def IS(i j:Int):Prop:=(-(2 ^ 64)<i/\i<2 ^ 64)\/(-(2 ^ 64)<j/\j<2 ^ 64)
theorem IS.ok{i j:Int}(h:IS i j):IntMulOk i j:=by
 rcases h with ⟨h1,h2⟩|⟨h1,h2⟩
 .exact .of_left (intBits_le_64 h1 h2)
 .exact .of_right (intBits_le_64 h1 h2)
theorem ja:BL X (acj .Add) (Hm λi j=>.int (i+j)):=Oz λ_ _ _ _ _ _ _ q=>add_int q
theorem zf:BL X (acj .Sub) (Hm λi j=>.int (i - j)):=Oz λ_ _ _ _ _ _ _ q=>sub_int q
theorem lC:BL X (acj .Mult) (rI IS λi j=>.int (i*j)):=Qk λ_ _ _ _ _ _ _ hc q=>mul_int q hc.ok
theorem mF:BL X (acj .FloorDiv) (rI Np λi j=>.int (i / j)):=Qk λi j _ _ _ _ _ hc q=>by
 have h1:(0:Int)<j:=hc.1
 have h2:j<1073741824:=hc.2
 exact floordiv_int (by omega) (by rw[Int.fdiv_eq_ediv_of_nonneg i (by omega)];exact q) (.inl (PyProof.noPylong_small (by omega)))
theorem fB:BL X (acj .Mod) (rI (λ_ j=>0<j) λi j=>.int (i % j)):=Qk λi j _ _ _ _ _ hc q=>by
 have h1:(0:Int)<j:=hc
 exact mod_int' (by omega) (by rw[Int.fmod_eq_emod_of_nonneg i (by omega)];exact q)
theorem pd:BL X (acj .Pow) (rI Tq λi j=>.int (i ^ j.toNat)):=Qk λ_ _ _ _ _ _ _ hc q=>pow_int_small hc.1 hc.2.1 hc.2.2 q
def Kt:V->V->Bool
 |.AF,.AF=>true|.AF,.int _=>true|.int _,.AF=>true|.AF,.bl _=>true|.bl _,.AF=>true|.AF,.str _=>true|.str _,.AF=>true
 |.int _,.int _=>true|.bl _,.bl _=>true|.str _,.str _=>true|.II _,.II _=>true
 |.int _,.str _=>true|.str _,.int _=>true|.bl _,.str _=>true|.str _,.bl _=>true
 |_,_=>false
def Ve:R2:=λx y H Q=>Kt x y=true/\Q (.bl (decide (x=y))) H
def Rz:R2:=λx y H Q=>Kt x y=true/\Q (.bl (!decide (x=y))) H
theorem rm{i j:Int}:decide (V.int i=V.int j)=(i==j):=by
 rw[abe]
 simp
theorem uI{i j:Bool}:decide (V.bl i=V.bl j)=(i==j):=by
 rw[abe]
 simp
theorem rl{i j:Str}:decide (V.str i=V.str j)=(i==j):=by
 rw[abe]
 simp
theorem rn{i j:Array UInt8}:decide (V.II i=V.II j)=(i.toList==j.toList):=by
 rw[abe]
 cases i
 cases j
 simp
theorem aK{Q:VK}{k k':Bool}(I:Inv X pins σ H s)(q:Q (.bl k) H)(e:k=k'):EP X pins σ Q (.bool k') s:=by
 subst e
 exact⟨.bl k,H,I,rfl,q⟩
theorem Au:BL X (aaX .Eq) Ve:=by
 intro pins s σ H x y v u Q I rx ry h
 obtain⟨hs,q⟩:=h
 cases x with
 |AF=>
  cases rx
  cases y with
  |AF=>cases ry;exact PySem.EqNone.eq_none_none (aK I q (by simp))
  |bl j=>cases ry;exact PySem.EqNone.eq_none_bool (aK I q (by simp))
  |int j=>obtain⟨t',rfl⟩:=ry;exact PySem.EqNone.eq_none_int (aK I q (by simp))
  |str j=>obtain⟨t',rfl⟩:=ry;exact PySem.EqNone.eq_none_str (aK I q (by simp))
  |_=>exact absurd (show false=true from hs) aax
 |bl i=>
  cases rx
  cases y with
  |AF=>cases ry;exact PySem.EqNone.eq_bool_none (aK I q (by simp))
  |bl j=>cases ry;exact eq_bool (aK I q uI)
  |str j=>obtain⟨t',rfl⟩:=ry;exact PySem.EqMixed.eq_bool_str (aK I q (by simp))
  |_=>exact absurd (show false=true from hs) aax
 |int i=>
  obtain⟨t,rfl⟩:=rx
  cases y with
  |AF=>cases ry;exact PySem.EqNone.eq_int_none (aK I q (by simp))
  |int j=>obtain⟨t',rfl⟩:=ry;exact eq_int (aK I q rm)
  |str j=>obtain⟨t',rfl⟩:=ry;exact PySem.EqMixed.eq_int_str (aK I q (by simp))
  |_=>exact absurd (show false=true from hs) aax
 |str i=>
  obtain⟨t,rfl⟩:=rx
  cases y with
  |AF=>cases ry;exact PySem.EqNone.eq_str_none (aK I q (by simp))
  |bl j=>cases ry;exact PySem.EqMixed.eq_str_bool (aK I q (by simp))
  |int j=>obtain⟨t',rfl⟩:=ry;exact PySem.EqMixed.eq_str_int (aK I q (by simp))
  |str j=>obtain⟨t',rfl⟩:=ry;exact eq_str (aK I q rl)
  |_=>exact absurd (show false=true from hs) aax
 |II i=>
  obtain⟨t,rfl⟩:=rx
  cases y with
  |II j=>obtain⟨t',rfl⟩:=ry;exact PySem.W.eq_bytes (aK I q rn)
  |_=>exact absurd (show false=true from hs) aax
 |_=>cases y<;>exact absurd (show false=true from hs) aax
theorem Ao:BL X (aaX .NotEq) Rz:=by
 intro pins s σ H x y v u Q I rx ry h
 obtain⟨hs,q⟩:=h
 cases x with
 |AF=>
  cases rx
  cases y with
  |AF=>cases ry;exact PySem.EqNone.ne_none_none (aK I q (by simp))
  |bl j=>cases ry;exact PySem.EqNone.ne_none_bool (aK I q (by simp))
  |int j=>obtain⟨t',rfl⟩:=ry;exact PySem.EqNone.ne_none_int (aK I q (by simp))
  |str j=>obtain⟨t',rfl⟩:=ry;exact PySem.EqNone.ne_none_str (aK I q (by simp))
  |_=>exact absurd (show false=true from hs) aax
 |bl i=>
  cases rx
  cases y with
  |AF=>cases ry;exact PySem.EqNone.ne_bool_none (aK I q (by simp))
  |bl j=>cases ry;exact ne_bool (aK I q (congrArg not uI))
  |str j=>obtain⟨t',rfl⟩:=ry;exact PySem.EqMixed.ne_bool_str (aK I q (by simp))
  |_=>exact absurd (show false=true from hs) aax
 |int i=>
  obtain⟨t,rfl⟩:=rx
  cases y with
  |AF=>cases ry;exact PySem.EqNone.ne_int_none (aK I q (by simp))
  |int j=>obtain⟨t',rfl⟩:=ry;exact ne_int (aK I q (congrArg not rm))
  |str j=>obtain⟨t',rfl⟩:=ry;exact PySem.EqMixed.ne_int_str (aK I q (by simp))
  |_=>exact absurd (show false=true from hs) aax
 |str i=>
  obtain⟨t,rfl⟩:=rx
  cases y with
  |AF=>cases ry;exact PySem.EqNone.ne_str_none (aK I q (by simp))
  |bl j=>cases ry;exact PySem.EqMixed.ne_str_bool (aK I q (by simp))
  |int j=>obtain⟨t',rfl⟩:=ry;exact PySem.EqMixed.ne_str_int (aK I q (by simp))
  |str j=>obtain⟨t',rfl⟩:=ry;exact ne_str (aK I q (congrArg not rl))
  |_=>exact absurd (show false=true from hs) aax
 |II i=>
  obtain⟨t,rfl⟩:=rx
  cases y with
  |II j=>obtain⟨t',rfl⟩:=ry;exact PySem.W.ne_bytes (aK I q (congrArg not rn))
  |_=>exact absurd (show false=true from hs) aax
 |_=>cases y<;>exact absurd (show false=true from hs) aax
theorem Ap:BL X (aaX .Lt) (Hm λi j=>.bl (decide (i<j))):=Kx λ_ _ _ _ _ _ _ q=>lt_int q
theorem Aq:BL X (aaX .LtE) (Hm λi j=>.bl (decide (i<=j))):=Kx λ_ _ _ _ _ _ _ q=>le_int q
theorem lD:BL X (aaX .Gt) (Hm λi j=>.bl (decide (j<i))):=Kx λ_ _ _ _ _ _ _ q=>gt_int q
theorem Ar:BL X (aaX .GtE) (Hm λi j=>.bl (decide (j<=i))):=Kx λ_ _ _ _ _ _ _ q=>ge_int q
theorem tH:BL X (aaX .Lt) (λx y H Q=>∃i j,x=.str i/\y=.str j/\Q (.bl (decide (i.cps.toList<j.cps.toList))) H):=by
 intro pins s σ H x y v u Q I rx ry h
 obtain⟨i,j,rfl,rfl,q⟩:=h
 obtain⟨t,rfl⟩:=rx
 obtain⟨t',rfl⟩:=ry
 exact lt_str (aK I q rfl)
theorem tJ:BL X (aaX .In) (λx y H Q=>∃i j,x=.str i/\y=.str j/\Q (.bl (!(acZ j i 0 j.length 1).isEmpty)) H):=by
 intro pins s σ H x y v u Q I rx ry h
 obtain⟨i,j,rfl,rfl,q⟩:=h
 obtain⟨t,rfl⟩:=rx
 obtain⟨t',rfl⟩:=ry
 exact in_str (aK I q rfl)
theorem zh:BL X (aaX .Is) (λx y H Q=>y=.AF/\Q (.bl (decide (x=.AF))) H):=by
 intro pins s σ H x y v u Q I rx ry h
 obtain⟨rfl,q⟩:=h
 cases ry
 refine is_none_gen (aK I q ?_)
 cases x<;>first
  |(cases rx;rfl)
  |(obtain⟨t,rfl⟩:=rx;rfl)
variable{op:CmpOp}
theorem Eb(b:Expr)(h:op≠.In:=by decide)(h2:op≠.NotIn:=by decide):acD op b=false:=by
 have e1:(op==CmpOp.In)=false:=by cases op<;>first|rfl|exact absurd rfl h
 have e2:(op==CmpOp.NotIn)=false:=by cases op<;>first|rfl|exact absurd rfl h2
 cases b<;>simp[acD,e1,e2]
theorem qQ(ho:BL X (aaX op) r)(ha:PE X a ta)(hb:PE X b tb)(hm:acD op b=false):PE X (.Compare a [op] [b] pos) (EC r ta tb):=by
 intro pins s σ H Q I h
 exact wpAny_Compare1 (Nf ha hb I h λv u s2 x y H2 I2 rx ry q=>ho pins s2 σ H2 x y v u Q I2 rx ry q) hm
def HL(t:TE):TT:=λσ H Q=>t σ H λx H'=>∃k,x=.bl k/\Q k H'
theorem gJ(ho:BL X (aaX op) r)(ha:PE X a ta)(hb:PE X b tb)(hm:acD op b=false):PT X (.Compare a [op] [b] pos) (HL (EC r ta tb)):=by
 intro pins s σ H Q I h
 refine wpAny_isTrue_Compare1 (Bu (ha pins s σ H _ I h) λv s1 ⟨x,H1,I1,r1,q1⟩=>Bu (hb pins s1 σ H1 _ I1 q1) λu s2 ⟨y,H2,I2,r2,q2⟩=>
  Bu (ho pins s2 σ H2 x y v u _ I2 r1 r2 q2) λc s3 ⟨z,H3,I3,r3,k,e,q3⟩=>?_) hm
 subst e
 cases r3
 exact abM ⟨H3,I3,q3⟩
def Hd(r r':R2)(ta tb tc:TE):TE:=λσ H Q=>ta σ H λx H1=>tb σ H1 λy H2=>r x y H2 λz H3=>∃k,z=.bl k /\
 (if k=true then tc σ H3 λw' H4=>r' y w' H4 Q else Q (.bl false) H3)
variable{r':R2}
theorem vE{Hn:CmpOp}(ho:BL X (aaX op) r)(ES:BL X (aaX Hn) r')(ha:PE X a ta)(hb:PE X b tb)(hc:PE X c tc)
  (hm:lastMarks [op,Hn] [b,c]=false:=by with_unfolding_all rfl):PE X (.Compare a [op,Hn] [b,c] pos) (Hd r r' ta tb tc):=by
 intro pins s σ H Q I h
 refine Compare_chain (Bu (ha pins s σ H _ I h) λv s1 ⟨x,H1,I1,r1,q1⟩=>chain_link (Bu (hb pins s1 σ H1 _ I1 q1) λu s2 ⟨y,H2,I2,r2,q2⟩=>
  Bu (ho pins s2 σ H2 x y v u _ I2 r1 r2 q2) λd s3 ⟨z,H3,I3,r3,k,e,q3⟩=>?_)) hm
 subst e
 cases r3
 refine abM ?_
 cases k with
 |false=>exact ite_ff ⟨.bl false,H3,I3,rfl,q3⟩
 |true=>exact ite_tt (chain_last (Bu (hc pins s3 σ H3 _ I3 q3) λw' s4 ⟨z',H4,I4,r4,q4⟩=>ES pins s4 σ H4 y z' u w' Q I4 r2 r4 q4))
theorem vp{Hn:CmpOp}(ho:BL X (aaX op) r)(ES:BL X (aaX Hn) r')(ha:PE X a ta)(hb:PE X b tb)(hc:PE X c tc)
  (hm:lastMarks [op,Hn] [b,c]=false:=by with_unfolding_all rfl):PT X (.Compare a [op,Hn] [b,c] pos) (HL (Hd r r' ta tb tc)):=by
 intro pins s σ H Q I h
 refine isTrue_chain (Bu (ha pins s σ H _ I h) λv s1 ⟨x,H1,I1,r1,q1⟩=>test_link (Bu (hb pins s1 σ H1 _ I1 q1) λu s2 ⟨y,H2,I2,r2,q2⟩=>
  Bu (ho pins s2 σ H2 x y v u _ I2 r1 r2 q2) λd s3 ⟨z,H3,I3,r3,k,e,q3⟩=>?_)) hm
 subst e
 cases r3
 refine abM ?_
 cases k with
 |false=>
  obtain⟨k',e',q'⟩:=q3
  cases e'
  exact ite_ff ⟨H3,I3,q'⟩
 |true=>
  refine ite_tt (test_last (Bu (hc pins s3 σ H3 _ I3 q3) λw' s4 ⟨z',H4,I4,r4,q4⟩=>Bu (ES pins s4 σ H4 y z' u w' _ I4 r2 r4 q4) λd' s5 ⟨z2,H5,I5,r5,k2,e2,q5⟩=>?_))
  subst e2
  cases r5
  exact abM ⟨H5,I5,q5⟩
def PL(K:aah)(x:V)(H:Hp)(k:Bool):Prop :=
 match x with
 |.AF=>k=false
 |.bl b=>k=b
 |.int i=>k=(i != 0)
 |.str y=>y.length<=sizeLine/\k=((y.length:Int) != 0)
 |.II y=>y.size<=sizeLine/\k=((y.size:Int) != 0)
 |.ref p=>(∃xs,Cm K H p xs/\k=!xs.isEmpty)\/(∃xs,Cd K H p xs/\k=!xs.isEmpty)\/∃kvs,H p=some (.dK kvs)/\k=!kvs.isEmpty
 |_=>False
theorem si{κ:Type}{kvs:List (κ×V)}{vs:List (κ×Value)}(r:KV kvs vs):(!vs.isEmpty)=!kvs.isEmpty:=by
 cases r<;>rfl
variable{iN:List Value}
theorem lJ(r:AM xs iN):(!iN.toArray.isEmpty)=!xs.isEmpty:=by
 cases r<;>simp
theorem DL:(sizeLine:Nat)<2 ^ 63:=by rw[aaC];decide
theorem yK:Tc X (λx H Q=>∃k,PL X.K x H k/\Q k H):=by
 intro pins s σ H x v Q I rx h
 obtain⟨k,e,q⟩:=h
 have hl:=DL
 have hs:sizeLine=16777216:=aaC
 cases x with
 |AF=>
  cases rx
  have e':k=false:=e
  subst e'
  exact truthy_none ⟨H,I,q⟩
 |bl b=>
  cases rx
  have e':k=b:=e
  subst e'
  exact abM ⟨H,I,q⟩
 |int i=>
  obtain⟨t,rfl⟩:=rx
  have e':k=(i != 0):=e
  subst e'
  exact PySem.P.truthy_int ⟨H,I,q⟩
 |str y=>
  obtain⟨t,rfl⟩:=rx
  obtain⟨hy,e'⟩:y.length<=sizeLine/\k=((y.length:Int) != 0):=e
  subst e'
  exact PySem.P.truthy_str (by omega) ⟨H,I.tok _,q⟩
 |II y=>
  obtain⟨t,rfl⟩:=rx
  obtain⟨hy,e'⟩:y.size<=sizeLine/\k=((y.size:Int) != 0):=e
  subst e'
  exact PySem.W.truthy_bytes (by omega) ⟨H,I.tok _,q⟩
 |ref p=>
  cases rx
  have e':(∃xs,Cm X.K H p xs/\k=!xs.isEmpty)\/(∃xs,Cd X.K H p xs/\k=!xs.isEmpty)\/∃kvs,H p=some (.dK kvs)/\k=!kvs.isEmpty:=e
  rcases e' with ⟨xs,hx,e'⟩|⟨xs,hx,e'⟩|⟨kvs,hx,e'⟩
  .subst e'
   obtain⟨iN,r,pl,hz⟩:=I.list hx
   have hlen:=r.length
   exact wpAny_truthy_list pl.isList (by simp only[aae];omega) ⟨H,I.tok _,by rw[lJ r];exact q⟩
  .subst e'
   obtain⟨iN,r,pl,hz⟩:=I.tuple hx
   have hlen:=r.length
   exact truthy_tuple pl (by simp only[aae];omega) ⟨H,I.tok _,by rw[lJ r];exact q⟩
  .subst e'
   obtain⟨hz,hS,vs,r,m⟩:kvs.length<=sizeLine/\(p==acp)=false/\∃vs,KV kvs vs/\s.heap.DictOf (aN X.prog X.w) p vs:=I.AU p _ hx
   have hlen:kvs.length=vs.length:=aeG r
   exact wpAny_truthy_dict hS m (by omega) ⟨H,I.tok _,by rw[si r];exact q⟩
 |_=>exact(show False from e).elim
theorem vn(ha:PE X a ta)(he:∀whole,isTrue a X.env whole=(do let v <- whole;standAt a.pos;ad5 [v] (truthy v))):
  PT X a (λσ H Q=>ta σ H λx H'=>∃k,PL X.K x H' k/\Q k H'):=by
 intro pins s σ H Q I h
 exact isTrue_plain (Bu (ha pins s σ H _ I h) λv s1 ⟨x,H1,I1,r1,q1⟩=>yK pins s1 σ H1 x v Q I1 r1 q1) (he _)
theorem r8:BL X (acj .Add) (λx y H Q=>∃i j,x=.str i/\y=.str j/\i.length+j.length<=sizeLine/\Q (.str (i++j)) H):=by
 intro pins s σ H x y v u Q I rx ry h
 obtain⟨i,j,rfl,rfl,hz,q⟩:=h
 obtain⟨t,rfl⟩:=rx
 obtain⟨t',rfl⟩:=ry
 exact add_str (λt' tk=>⟨.str (i++j),H,I.tok _,⟨_,rfl⟩,q⟩) hz
theorem vals1{x:V}(r:AM [x] us):∃u,us=[u]/\RelV x u:=by
 cases r with
 |cons r1 r2=>cases r2;exact⟨_,rfl,r1⟩
theorem vals2{x:V}(r:AM [x,y] us):∃u w',us=[u,w']/\RelV x u/\RelV y w':=by
 cases r with
 |cons r1 r2=>
  cases r2 with
  |cons r3 r4=>cases r4;exact⟨_,_,rfl,r1,r3⟩
theorem pX:AR X (.builtin "abs") (λxs H Q=>∃i,xs=[.int i]/\Q (.int (if i<0 then -i else i)) H):=by
 intro pins s σ H xs us Q I r h
 obtain⟨i,rfl,q⟩:=h
 obtain⟨u,rfl,t,rfl⟩:=vals1 r
 exact call_abs_int λu tk=>⟨.int (if i<0 then -i else i),H,I.tok _,⟨_,rfl⟩,q⟩
theorem uO(hc:X.calm=true):AR X (.builtin "max") (λxs H Q=>∃i j,xs=[.int i,.int j]/\Q (.int (if j > i then j else i)) H):=by
 intro pins s σ H xs us Q I r h
 obtain⟨i,j,rfl,q⟩:=h
 obtain⟨u,w',rfl,⟨t,rfl⟩,⟨t',rfl⟩⟩:=vals2 r
 refine max_two_ints (I.ok.hd hc) λh' tk k=>⟨_,H,I.kept k,?_,q⟩
 by_cases hj:j > i
 .rw[if_pos hj,if_pos hj];exact⟨_,rfl⟩
 .rw[if_neg hj,if_neg hj];exact⟨_,rfl⟩
theorem uN(hc:X.calm=true):AR X (.builtin "min") (λxs H Q=>∃i j,xs=[.int i,.int j]/\Q (.int (if j<i then j else i)) H):=by
 intro pins s σ H xs us Q I r h
 obtain⟨i,j,rfl,q⟩:=h
 obtain⟨u,w',rfl,⟨t,rfl⟩,⟨t',rfl⟩⟩:=vals2 r
 refine min_two_ints (I.ok.hd hc) λh' tk k=>⟨_,H,I.kept k,?_,q⟩
 by_cases hj:j<i
 .rw[if_pos hj,if_pos hj];exact⟨_,rfl⟩
 .rw[if_neg hj,if_neg hj];exact⟨_,rfl⟩
structure Nj(h:Heap)(x dx C:Addr)(mA:Str->Option Value):Prop where
 obj:h.get? x=some (afw C dx)
 ns:h.Ns1 dx mA
 ne:dx≠x
theorem tU{dx:Addr}{mA:Str->Option Value}(n:h.Ns1 dx mA):∃od,h.get? dx=some od/\∀name,afK name od=some (mA name):=by
 obtain⟨o,es,ep,ho,hd,hk,_,hm⟩:=n
 refine⟨o,ho,λname=>?_⟩
 have e:=hm name
 unfold nsFind findBy at e
 rw[<- Array.find?_toList]at e
 unfold afK
 rw[hd]
 dsimp only
 split
 .rename_i y q
  rw[q]at e
  exact congrArg some e
 .rename_i q
  rw[q]at e
  have a:es.toList.any (·.refKey)=false:=by
   rw[ae4]
   intro y hy
   obtain⟨z,t,GJ⟩:=hk y (Array.mem_toList_iff.mp hy)
   simp[DictEntry.refKey,GJ]
  have a':¬ es.toList.any (·.refKey)=true:=by rw[a];exact aax
  rw[if_neg a']
  exact congrArg some e
variable{C:Addr}
theorem Nj.look{dx:Addr}{mA:Str->Option Value}(I:Nj h x dx C mA):∃od,PySem.W.InstAt h x (afw C dx) C (some od)/\∀name,afK name od=some (mA name) :=
 let ⟨od,ho,hl⟩:=tU I.ns
 ⟨od,⟨I.obj,rfl,rfl,ho⟩,hl⟩
variable{prog:aaJ}{dx f:Addr}{mA:Str->Option Value}{name:Str}{v:Value}
theorem EJ.some_of{v:V}{o:Option Value}(r:EJ (some v) o):∃u,o=some u/\RelV v u:=by
 cases o with
 |none=>exact(show False from r).elim
 |some u=>exact⟨u,rfl,r⟩
section
variable{a:Addr}{fs Wx:List (Str×V)}
theorem yb(AU:DA P w H h)(e:H a=some (.ins C dx fs)):∃mA,Nj h a dx C mA/\(∀f,EJ (fs.lookup f) (mA f))/\PySem.Within mA (fs.map (·.1))/\fs.length<=1000/\H dx=some (.own a):=by
 obtain⟨d,z,ne,ob,mA,n,r,q⟩:=(show A7 P w H h a (.ins C dx fs)from AU a _ e)
 exact⟨mA,⟨ob,n,ne⟩,r,q,z,d⟩
end
structure Tp(K:aah)(C:Addr):Prop where
 pg:PySem.W.plainGet K C Str.empty=true
 hd:PySem.W.hasDictIn K C=true
 po:PySem.W.plainOver K C=true
 sa:PySem.W.findIn K (.ref C) "__setattr__" = some (some (.builtin "object.__setattr__"))
theorem Tp.get(c:Tp K C)(f:Str):PySem.W.plainGet K C f=true:=c.pg
section
variable{a:Addr}{fs:List (Str×V)}{f:Str}{v:V}
end
variable{o value:Expr}{f:Str}{FX:Pos}{tv:TE}
variable{Q:Value->Shared->Prop}{c:Value}{b:Bool}
inductive Ep (K:aah) (H:Hp):V->Value->Prop where
 |AF:Ep K H .AF (.type "NoneType")
 |bl (x:Bool):Ep K H (.bl x) (.type "bool")
 |int (i:Int):Ep K H (.int i) (.type "int")
 |str (x:Str):Ep K H (.str x) (.type "str")
 |NM (x:UInt64):Ep K H (.NM x) (.type "float")
 |lst {a:Addr} {xs:List V} (e:H a=some (.lst xs)):Ep K H (.ref a) (.type "list")
 |Dy {a:Addr} {o:Obj} {xs:List V} (e:H a=some (.Dy o (.lst xs))):Ep K H (.ref a) (.type "list")
 |tup {a:Addr} {xs:List V} (e:H a=some (.tup xs)):Ep K H (.ref a) (.type "tuple")
 |dK {a:Addr} {kvs:List (Key×V)} (e:H a=some (.dK kvs)):Ep K H (.ref a) (.type "dict")
 |dT {a:Addr} {kvs:List (List Key×V)} (e:H a=some (.dT kvs)):Ep K H (.ref a) (.type "dict")
 |ins {a C dx:Addr} {fs:List (Str×V)} (e:H a=some (.ins C dx fs)) (cl:Tp K C) (ha:PySem.W.findIn K (.ref C) "__class__" = some (some (.builtin "object.__class__")))
   (hn:PySem.W.specialIn K (.builtin "object.__class__") "__get__" = some (some (.builtin "getset_descriptor.__get__"))) (NB:PySem.W.takesIn K (.builtin "object.__class__")=some true)
   (hm:PySem.W.mroIn K C (.type "object")=some true):Ep K H (.ref a) (.ref C)
theorem t8{x:V}{u t:Value}(I:Inv X pins σ H s)(rx:RelV x u)(ty:Ep X.K H x t)(e:aeq X.K t c=some b)(h:∀tk,Q (.bool b) {s with toks:=tk}):
  wpAny (model X.prog X.w) A (call (.builtin "isinstance") [u,c]) Q E s:=by
 cases ty with
 |AF=>cases (show u=abd from rx);exact abB PySem.W.kitx_none I.FC acr e (λz=>nomatch z) h
 |bl y=>cases (show u=Value.bool y from rx);exact abB PySem.W.kitx_bool I.FC acr e (λz=>nomatch z) h
 |int i=>obtain⟨t,q⟩:=(show ∃t,u=Value.int i t from rx);cases q;exact abB PySem.W.kitx_int I.FC acr e (λz=>nomatch z) h
 |str y=>obtain⟨t,q⟩:=(show ∃t,u=acn y t from rx);cases q;exact abB PySem.W.kitx_str I.FC acr e (λz=>nomatch z) h
 |NM y=>obtain⟨t,q⟩:=(show ∃t,u=Value.float y t from rx);cases q;exact abB PySem.W.kitx_float I.FC acr e (λz=>nomatch z) h
 |@lst a xs ea=>
  cases (show u=aaL a from rx)
  obtain⟨_,_,n,_,h1⟩:=(show A7 X.prog X.w H s.heap a (.lst xs)from I.AU a _ ea)
  exact abB PySem.W.kitx_list I.FC ⟨_,h1,rfl⟩ e (λz=>nomatch z) h
 |@Dy a ob xs ea=>
  cases (show u=aaL a from rx)
  obtain⟨_,_,_,n,_,h1⟩:=(show A7 X.prog X.w H s.heap a (.Dy ob (.lst xs))from I.AU a _ ea)
  exact abB PySem.W.kitx_list I.FC ⟨_,h1,rfl⟩ e (λz=>nomatch z) h
 |@tup a xs ea=>
  cases (show u=aaL a from rx)
  obtain⟨_,_,_,p⟩:=(show A7 X.prog X.w H s.heap a (.tup xs)from I.AU a _ ea)
  obtain⟨o,h1,h2,_⟩:=p
  exact abB PySem.W.kitx_tuple I.FC ⟨o,h1,h2⟩ e (λz=>nomatch z) h
 |@dK a kvs ea=>
  cases (show u=aaL a from rx)
  obtain⟨_,_,vs,_,p⟩:=(show A7 X.prog X.w H s.heap a (.dK kvs)from I.AU a _ ea)
  obtain⟨o,es,ep,h1,h2,_⟩:=p
  exact abB PySem.W.kitx_dict I.FC ⟨o,h1,h2.1⟩ e (λz=>nomatch z) h
 |@dT a kvs ea=>
  cases (show u=aaL a from rx)
  obtain⟨_,_,xs,_,o,es,ep,h1,h2,_⟩:=(show A7 X.prog X.w H s.heap a (.dT kvs)from I.AU a _ ea)
  exact abB PySem.W.kitx_dict I.FC ⟨o,h1,h2.1⟩ e (λz=>nomatch z) h
 |@ins a C dx fs ea cl ha hn NB hm=>
  cases (show u=aaL a from rx)
  obtain⟨mA,O,_⟩:=yb I.AU ea
  obtain⟨od,J,_⟩:=O.look
  exact abB (PySem.W.kitx_own (cl.get _) cl.hd ha hn NB hm) I.FC J e (λz=>nomatch z) h
structure Br(k:Nat)(A:Around):Prop where
 hd:A.handled=none
 dp:A.depth+3*k+5<recursionLimit
 un:A.units+16*k+200<cLine
 gd:A.guards=some []
theorem Br.mono(r:Br k A)(h:j<=k):Br j A:=⟨r.hd,by have:=r.dp;omega,by have:=r.un;omega,r.gd⟩
theorem Br.deeper(r:Br (k+1) A)(env:Env):Br k (A.deeper env) :=
 ⟨r.hd,by have:=r.dp;show A.depth+1+3*k+5<_;omega,by have:=r.un;show A.units+3+16*k+200<_;omega,r.gd⟩
theorem Br.depth(r:Br k A):A.depth<recursionLimit:=by have:=r.dp;omega
theorem Br.LV(r:Br k A):A.units<cLine:=by have:=r.un;omega
def Il:TA:=λ_ H Q=>Q [] H
def Lg(ta:TE)(tr:TA):TA:=λσ H Q=>ta σ H λx H1=>tr σ H1 λxs H2=>Q (x::xs) H2
variable{t:TA}
theorem bv:PA X [] Il:=λ_ _ _ _ H Q I h=>Calls.spliced_nil ⟨[],H,I,.nil,h⟩
theorem bh(ha:PE X e te)(hr:PA X es t)(hs:aam (e::es) X.env=(false,eval e X.env)::aam es X.env:=by rfl):PA X (e::es) (Lg te t):=by
 intro pos pins s σ H Q I h
 rw[hs]
 show wpAny _ _ (spliced ((false,eval e X.env)::backTo pos (aam es X.env))) _ _ s
 refine Calls.spliced_cons (Bu (ha pins s σ H _ I h) λu s1 ⟨x,H1,I1,r1,q1⟩=>?_)
 exact Bu (hr pos pins s1 σ H1 _ I1 q1) λus s2 ⟨xs,H2,I2,r2,q2⟩=>⟨x::xs,H2,I2,.cons r1 r2,q2⟩
def Rf(t:TA):TE:=λσ H Q=>t σ H λxs H1=>xs.length<=sizeLine/\∀p,H1 p=none->Q (.ref p) (upd H1 p (.tup xs))
def L9(t:TA):TE:=λσ H Q=>t σ H λxs H1=>xs.length<=sizeLine/\∀p,H1 p=none->Q (.ref p) (upd H1 p (.lst xs))
theorem yX{x1}(h:PA X es t):PE X (.Tuple es x1 pos) (Rf t):=by
 intro pins s σ H Q I hq
 refine wpAny_Tuple_spliced (Bu (h pos pins s σ H _ I hq) λus s1 ⟨xs,H1,I1,r,z,q⟩=>⟨by rw[<- r.length];exact z,?_⟩)
 have hf:H1 s1.heap.objs.size=none:=I1.AU.fresh (aal _)
 refine⟨.ref s1.heap.objs.size,upd H1 s1.heap.objs.size (.tup xs),I1.laid (t':=s1.toks) (λb u e=>aad _ e) (aal _) ?_,rfl,q _ hf⟩
 exact⟨z,us,r,⟨_,aai _ rfl,rfl,_,rfl⟩⟩
theorem i0(h:PA X es t):PE X (.List es pos) (L9 t):=by
 intro pins s σ H Q I hq
 refine wpAny_List_spliced (Bu (h pos pins s σ H _ I hq) λus s1 ⟨xs,H1,I1,r,z,q⟩=>⟨by rw[<- r.length];exact z,?_⟩)
 have hf:H1 s1.heap.objs.size=none:=I1.AU.fresh (aal _)
 refine⟨.ref s1.heap.objs.size,upd H1 s1.heap.objs.size (.lst xs),I1.laid (t':=s1.toks) (λb u e=>aad _ e) (aal _) ?_,rfl,q _ hf⟩
 exact⟨z,us,0,r,aai _ rfl⟩
abbrev Sp:=List V->Hp->VK->XK->Prop
abbrev NR:=List Env->Hp->Shared->XK->Value->Shared->Prop
structure Lc(P:aaJ)(w:World)(K:aah)(mg:Str->Option Value)(base:Heap)(A:Around)(outer:List Env)(s:Shared)(H:Hp):Prop where
 frames:A.frames=some outer
 mod:Mod K mg base
 bs:∀b o,base.get? b=some o->s.heap.get? b=some o/\H b=none
 Lz:base.objs.size<=s.heap.objs.size
 Ff:s.heap.FunFrames base outer
 NL:∀b∈JQ outer,H b=none
 AU:DA P w H s.heap
 bare:aeA s.gens
def CE(outer:List Env)(P:aaJ)(w:World)(H:Hp)(s:Shared)(Q:VK)(u:Value)(s':Shared):Prop :=
 ∃v H',s'.os=s.os/\aeA s'.gens/\Un (JQ outer) [] H H' s.heap s'.heap/\DA P w H' s'.heap/\RelV v u/\Q v H'
def CR(CX:NR)(outer:List Env)(P:aaJ)(w:World)(H:Hp)(s:Shared)(Q:VK)(E:XK)(r:Result)(s':Shared):Prop :=
 match r with
 |.ok (.ret u)=>CE outer P w H s Q u s'
 |.ok _=>False
 |.error e=>CX outer H s E e s'
structure A8(P:aaJ)(w:World)(K:aah)(mg:Str->Option Value)(base:Heap)(CX:NR)(k:Nat)(f:Addr)(fd:abW)(ps:List Str)(sp:Sp):Prop where
 len:∀vs H Q E,sp vs H Q E->vs.length=ps.length
 run:∀(A:Around) (outer:List Env) (s:Shared) (H:Hp) (args:Args) (us:List Value) (vs:List V) (Q:VK) (E:XK),Br k A->Lc P w K mg base A outer s H->BindsTo s fd args (ps.zip us)->AM vs us->sp vs H Q E ->
  ad6 (model P w) A (.call (.ref f) args) (CR CX outer P w H s Q E) s
variable{mg:Str->Option Value}{base:Heap}{CX:NR}{fd:abW}{ps:List Str}{sp:Sp}
theorem A8.mono{f:Addr}(F:A8 P w K mg base CX j f fd ps sp)(h:j<=k):
  A8 P w K mg base CX k f fd ps sp:=⟨F.len,λA outer s H args us vs Q E hr=>F.run A outer s H args us vs Q E (hr.mono h)⟩
theorem A8.imp{f:Addr}{TB:Sp}(F:A8 P w K mg base CX k f fd ps sp)
  (h:∀vs H Q E,TB vs H Q E->sp vs H Q E):A8 P w K mg base CX k f fd ps TB :=
 ⟨λvs H Q E q=>F.len vs H Q E (h _ _ _ _ q),λA outer s H args us vs Q E hr he hb hv hs=>F.run A outer s H args us vs Q E hr he hb hv (h _ _ _ _ hs)⟩
theorem Inv.SX(I:Inv X pins σ H s):Lc X.prog X.w X.K X.mg X.base X.A X.stack s H :=
 ⟨I.ok.frames,I.ok.mod,I.bs,aa3 I.ok.Lz I.sz,I.stack,I.HM,I.AU,I.bare⟩
theorem Inv.after{Q:VK}{u:Value}(I:Inv X pins σ H s)(h:CE X.stack X.prog X.w H s Q u s'):EP X pins σ Q u s':=by
 obtain⟨v,H',os,bare,un,AU,r,q⟩:=h
 obtain⟨hh,g,d,t,EO⟩:=s'
 obtain rfl:EO=s.os:=os
 exact⟨v,H',I.call (h':=hh) (g':=g) (d':=d) (t':=t) (ch:=[]) un AU bare (λb z=>absurd z (by simp)),r,q⟩
def N8(sp:Sp)(Lx:List V)(E:XK)(t:TA):TE:=λσ H Q=>t σ H λvs H1=>sp (vs++Lx) H1 Q E
def Binds(K:aah)(fd:abW)(ps:List Str)(ds:List Value):Prop :=
 ∀(s:Shared) (us:List Value),K.In s.heap->(us++ds).length=ps.length->BindsTo s fd ⟨us,[]⟩ (ps.zip (us++ds))
theorem Binds.all(h:∀us:List Value,us.length=ps.length->acN fd ⟨us,[]⟩=pure (ps.zip us)):Binds K fd ps []:=λs us _ hl=>by
 rw[abE]at hl ⊢
 exact .of_eq (h us hl)
def Gq(CX:NR)(X:Cx)(E:XK):Prop:=∀(pins:List (Addr×Obj)) (σ:St) (H:Hp) (s:Shared) (e:Value) (s':Shared),Inv X pins σ H s->CX X.stack H s E e s'->X.xe e s'
variable{f:Addr}{Lx:List V}{ds:List Value}{E:XK}{x m:Str}{apos:Pos}
variable{vs:List V}
theorem sV{Q:VK}(F:A8 X.prog X.w X.K X.mg X.base CX k f fd ps sp)(hr:Br k X.A)(hb:Binds X.K fd ps ds)(hd:AM Lx ds)(hx:Gq CX X E)
  (I:Inv X pins σ H s) (r:AM vs us) (h:sp (vs++Lx) H Q E):wpAny (model X.prog X.w) X.A (call (.ref f) us) (EP X pins σ Q) X.xe s:=by
 have r2:AM (vs++Lx) (us++ds):=r.append hd
 have hl:(us++ds).length=ps.length:=by rw[<- r2.length];exact F.len _ _ _ _ h
 refine wpAny_call (adr (F.run X.A X.stack s H ⟨us,[]⟩ (us++ds) (vs++Lx) Q E hr I.SX (hb s us I.FC hl) r2 h) λr s' hq=>?_)
 cases r with
 |error e=>exact hx pins σ H s e s' I hq
 |ok fl=>
  cases fl with
  |ret u=>exact I.after hq
  |next=>exact acQ hq
  |brk=>exact acQ hq
  |cont=>exact acQ hq
theorem jz(F:A8 X.prog X.w X.K X.mg X.base CX k f fd ps sp)(hr:Br k X.A)(hg:Gl X x)(hm:X.mg x=some (.ref f))(hk:abQ X.K (.ref f)=true)(hb:Binds X.K fd ps ds)(hd:AM Lx ds)(hx:Gq CX X E)
  (ha:PA X (e::es) t) (DP:(x==("__debug__" : Str))=false:=by decide) (he:aam (e::es) X.env=(false,eval e X.env)::aam es X.env:=by rfl) (B8:(backTo pos (aam es X.env)).any (·.1)=false:=by rfl) :
  PE X (.Call (.Name x p) (e::es) [] pos) (N8 sp Lx E t):=by
 intro pins s σ H Q I h
 refine acv (mN I hg hm ?_ DP)
 refine PySem.W.callWith_K (h₀:=X.base) I.ok.mod.kin hk (Bu (ha pos pins s σ H _ I h) λus s1 ⟨vs,H1,I1,r,q⟩=>⟨I1.FC,?_⟩) he B8
 exact sV F hr hb hd hx I1 r q
def PK(X:Cx)(OM:List ada)(t:TA):Prop :=
 ∀(pos:Pos) (pins:List (Addr×Obj)) (s:Shared) (σ:St) (H:Hp) (Q:List V->Hp->Prop),Inv X pins σ H s->t σ H Q->wpAny (model X.prog X.w) X.A (evalAll ((aej pos (ac5 OM X.env)).map (·.2))) (AP X pins σ Q) X.xe s
section
variable{ks:List Str}{Ir:Pos}{OM:List ada}{tk:TA}{nm:Option Str}
theorem yS:PK X [] Il:=λ_ _ _ _ H Q I h=>wpAny_evalAll_nil ⟨[],H,I,.nil,h⟩
theorem xp(ha:PE X e te)(hr:PK X OM t):PK X (⟨nm,e,Ir⟩::OM) (Lg te t):=by
 intro pos pins s σ H Q I h
 show wpAny _ _ (evalAll ((do let v <- eval e X.env;standAt pos;pure v)::(aej pos (ac5 OM X.env)).map (·.2))) _ _ s
 refine wpAny_evalAll_cons (aaa (Bu (ha pins s σ H _ I h) λu s1 ⟨x,H1,I1,r1,q1⟩=>aaa (acB (aaf ?_))))
 exact Bu (hr pos pins s1 σ H1 _ I1 q1) λus s2 ⟨xs,H2,I2,r2,q2⟩=>⟨x::xs,H2,I2,.cons r1 r2,q2⟩
variable{g:List Value->List Value->List Value}{gV:List V->List V->List V}
end
structure ay(N P:List Str)(sc:Scope):Prop where
 kind:sc.kind=.function
 co:sc.isCoroutine=false
 gen:sc.isGenerator=false
 nd:N.Nodup
 pre:N.take P.length=P
 par:∀x∈P,sc.names.lookup x=some .local\/sc.names.lookup x=some .cell
 Ho:∀y∈sc.names,y.2≠.free
variable{kindOf:Str->Option ads}
theorem nR:∀{binds:List (Str×Value)} {m:Str->Option Value},(∀v,(x,v)∉binds)->bindL kindOf binds m x=m x
 |[],_,_=>rfl
 |(n,v)::r,m,h=>by
  unfold bindL
  rw[nR λw hw=>h w (aar _ hw)]
  split
  .have:x≠n:=by rintro rfl;exact h v aat
   simp[this]
  .rfl
theorem nT:∀{binds:List (Str×Value)} {m:Str->Option Value},(∀v,(x,v)∉binds)->bindC kindOf binds m x=m x
 |[],_,_=>rfl
 |(n,v)::r,m,h=>by
  unfold bindC
  rw[nT λw hw=>h w (aar _ hw)]
  split
  .rfl
  .have:x≠n:=by rintro rfl;exact h v aat
   simp[this]
theorem nS:∀{P:List Str} {vs:List Value} {i:Nat} {m:Str->Option Value},P.Nodup->P[i]?=some x->vs[i]?=some v->kindOf x=some .local ->
  bindL kindOf (P.zip vs) m x=some v
 |[],_,_,_,_,h,_,_=>by simp at h
 |_::_,[],_,_,_,_,h,_=>by simp at h
 |p::P,w::vs,0,m,nd,h1,h2,hk=>by
  simp at h1 h2;subst h1;subst h2
  show bindL kindOf ((p,w)::P.zip vs) m p=_
  unfold bindL
  rw[nR λv hv=>(List.nodup_cons.mp nd).1 (adk hv).1,if_pos hk]
  simp
 |p::P,w::vs,i+1,m,nd,h1,h2,hk=>by
  show bindL kindOf ((p,w)::P.zip vs) m x=_
  unfold bindL
  exact nS (i:=i) (List.nodup_cons.mp nd).2 (by simpa using h1) (by simpa using h2) hk
theorem nU:∀{P:List Str} {vs:List Value} {i:Nat} {m:Str->Option Value},P.Nodup->P[i]?=some x->vs[i]?=some v->kindOf x≠some .local ->
  bindC kindOf (P.zip vs) m x=some v
 |[],_,_,_,_,h,_,_=>by simp at h
 |_::_,[],_,_,_,_,h,_=>by simp at h
 |p::P,w::vs,0,m,nd,h1,h2,hk=>by
  simp at h1 h2;subst h1;subst h2
  show bindC kindOf ((p,w)::P.zip vs) m p=_
  unfold bindC
  rw[nT λv hv=>(List.nodup_cons.mp nd).1 (adk hv).1,if_neg hk]
  simp
 |p::P,w::vs,i+1,m,nd,h1,h2,hk=>by
  show bindC kindOf ((p,w)::P.zip vs) m x=_
  unfold bindC
  exact nU (i:=i) (List.nodup_cons.mp nd).2 (by simpa using h1) (by simpa using h2) hk
def start(N:List Str)(vs:List V):St:=vs.map some++aaI (N.length - vs.length) none
def Fl(CX:NR)(P:aaJ)(w:World)(K:aah)(mg:Str->Option Value)(base:Heap)(N:List Str)(qual:Str)(scope:Scope)(f:Addr)(cd:Value)(A:Around)(outer:List Env)(s:Shared)(H:Hp)(E:XK):Cx where
 prog:=P
 w:=w
 K:=K
 mg:=mg
 base:=base
 A:=A.deeper (envOfC qual scope s.heap.objs.size f cd)
 N:=N
 s₀:=s
 H₀:=H
 env:=envOfC qual scope s.heap.objs.size f cd
 outer:=outer
 stack:=envOfC qual scope s.heap.objs.size f cd::outer
 ex:=[]
 calm:=true
 fn:=λ_=>true
 pn:=[]
 xe:=λe s'=>wpAny (model P w) (A.deeper (envOfC qual scope s.heap.objs.size f cd)) (leaving (envOfC qual scope s.heap.objs.size f cd) e) (λ_ Mp=>CX outer H s E e Mp) (λe' Mp=>CX outer H s E e' Mp) s'
theorem pS{sc:Scope}(h:sc.names.lookup x=some .cell):∃c,(cellsFrom n sc.names []).lookup x=some c:=by
 have q:=PySem.W.cellsFrom_some sc.names n [] (.inl h)
 exact Option.isSome_iff_exists.mp q
variable{qual:Str}{scope:Scope}
theorem t9{cd:Value}{outer:List Env}{s1:Shared}
  (S:ay N ps scope) (hd:A.handled=none) (e0:Lc P w K mg base A outer s H) (hl:vs.length=ps.length) (r:AM vs us)
  (x:InCallC s s.heap.objs.size (bindL (envOfC qual scope s.heap.objs.size f cd).kindOf (ps.zip us) λ_=>none) (cellsFrom (s.heap.objs.size+1) scope.names []) (bindC (envOfC qual scope s.heap.objs.size f cd).kindOf (ps.zip us) λ_=>none) s1) :
  Inv (Fl CX P w K mg base N qual scope f cd A outer s H E) [] (start N vs) H s1:=by
 have B8:ps.length<=N.length:=by have:=congrArg acA S.pre;rw[aa8]at this;omega
 obtain⟨h1,tk,rfl,hk⟩:=x.done
 have OE:∀b:Addr,b∉(Fl CX P w K mg base N qual scope f cd A outer s H E).ex:=λb z=>absurd (show b∈([]:List Addr)from z) (by simp)
 refine⟨⟨e0.mod,S.kind,rfl,rfl,aal _,λy z c h1 h2=>?_,λy hy=>?_,λy c _ h=>?_,λ_=>hd,Around.frames_deeper e0.frames,.inr ⟨rfl,rfl⟩,λb z=>absurd z (OE b),e0.bs,e0.Lz,λb _ _=>OE b,λb z=>absurd z (OE b),e0.Ff,e0.NL⟩,
  rfl,e0.bare,Un.kept hk,⟨_,x.toInCall.ns,λi y v h1 h2 h3=>?_⟩,λy c h=>⟨_,x.cell y c h⟩,e0.AU.fresh (aal _),λy c h=>?_,λp hp=>absurd (show p∈([]:List (Addr×Obj))from hp) (by simp),e0.AU.kept hk,?_⟩
 .exact name_of_addr x.apart (ab1 h1) (ab1 h2)
 .have hy:scope.names.lookup y=some .cell\/scope.names.lookup y=some .free:=hy
  rcases hy with hy|hy
  .exact pS hy
  .exact absurd rfl (S.Ho _ (ab1 hy))
 .exact ae9 (x.above y c (ab1 h))
 .have hi:i<vs.length:=by
   unfold start at h2
   by_cases hi:i<vs.length
   .exact hi
   .rw[acG (by simpa using hi)]at h2
    rw[List.getElem?_replicate]at h2
    split at h2<;>cases h2
  have ha:vs[i]?=some v:=by
   unfold start at h2
   rw[aay (by simpa using hi),aaj]at h2
   cases e:vs[i]? with
   |none=>rw[e]at h2;cases h2
   |some a=>rw[e]at h2;cases h2;rfl
  obtain⟨u,hu,rv⟩:=r.get ha
  have hp:ps[i]?=some y:=by
   rw[<- S.pre,List.getElem?_take_of_lt (by omega)];exact h1
  have T2:ps.Nodup:=by rw[<- S.pre];exact S.nd.sublist (adF _ _)
  refine⟨u,rv,?_⟩
  rcases S.par y (abk hp)with k|k
  .exact .inl ⟨k,nS T2 hp hu k⟩
  .obtain⟨c,e⟩:=pS (n:=s.heap.objs.size+1) k
   refine .inr ⟨.inl k,c,e,?_⟩
   have q:=x.cell y c e
   rw[nU T2 hp hu (by show scope.names.lookup y≠_;rw[k];decide)]at q
   exact q
 .exact e0.AU.fresh (ae9 (x.above y c (ab1 h)))
 .unfold start
  show _=N.length
  rw[aau,aac,ab9]
  omega
variable{pm:Value}
theorem wQ{params:Arguments}{dV kV doc Bi ct oc:Value}{an od:Option Addr}
  {Kw:Array (Option Value)} {N ps:List Str} {sp:Sp} (lk:K.lookup f=some ⟨oc,od,.func (acP name qual params body scope dV kV doc pm an Bi ct),Kw⟩) (hcd:aer K Bi qual=true) (S:ay N ps scope)
  (len:∀vs H Q E,sp vs H Q E->vs.length=ps.length)
  (GL:∀(A:Around) (outer:List Env) (s:Shared) (H:Hp) (vs:List V) (Q:VK) (E:XK),Br k (A.deeper (envOfC qual scope s.heap.objs.size f Bi))->sp vs H Q E ->
   ∃t,HH (Fl CX P w K mg base N qual scope f Bi A outer s H E) body t/\t {nx:=λ_ H'=>Q .AF H',rt:=Q} (start N vs) H) :
  A8 P w K mg base CX (k+1) f (acP name qual params body scope dV kV doc pm an Bi ct) ps sp:=by
 refine⟨len,λA outer s H args us vs Q E hr e0 hb r J9=>?_⟩
 have hl:=len _ _ _ _ J9
 have KX:K.In s.heap:=e0.mod.kin.keeps λb o e=>(e0.bs b o e).1
 have lim:s.heap.NoLimit:=e0.mod.nolimit.keeps λb o e=>(e0.bs b o e).1
 have Bf:∀y∈ps.zip us,scope.names.lookup y.1=some .local\/(scope.names.lookup y.1=some .cell/\((cellsFrom (s.heap.objs.size+1) scope.names []).lookup y.1).isSome=true):=λ⟨n,v⟩ hy=>by
  rcases S.par n (adk hy).1 with q|q
  .exact .inl q
  .exact .inr ⟨q,PySem.W.cellsFrom_some _ _ _ (.inl q)⟩
 refine codeAny_call_function hr.depth (KX _ _ lk) rfl S.co S.gen rfl (PySem.W.codeRec_of KX hcd) (hb _ _ _ _ ?_)
 refine wpAny_newFunctionEnv_cells S.kind Bf λenv he s1 x=>?_
 subst he
 refine⟨lim.keeps x.toInCall.keep,codeAny_func ?_⟩
 obtain⟨t,ht,hq⟩:=GL A outer s H vs Q E (hr.deeper _) J9
 have I:Inv (Fl CX P w K mg base N qual scope f Bi A outer s H E) [] (start N vs) H s1:=t9 S hr.hd e0 hl r x
 refine aaT (ht [] s1 (start N vs) H _ I hq) (λfl s' hs=>?_) λe s' hs=>hs
 have fin:∀{σ':St} {H':Hp} {v:V} {u:Value},Inv (Fl CX P w K mg base N qual scope f Bi A outer s H E) [] σ' H' s'->RelV v u->Q v H'->CE outer P w H s Q u s' :=
  λ{σ' H' v u} J rv q=>⟨v,H',J.os,J.bare,J.base,J.AU,rv,q⟩
 cases fl with
 |ret u=>
  obtain⟨v,σ',H',J,rv,q⟩:=hs
  exact fin J rv q
 |next=>
  obtain⟨σ',H',J,q⟩:=hs
  exact fin (v:=V.AF) (u:=abd) J rfl q
 |brk=>
  obtain⟨_,_,_,q⟩:=hs
  exact acQ q
 |cont=>
  obtain⟨_,_,_,q⟩:=hs
  exact acQ q
variable{id T:String}{r:List V->Hp->VK->Prop}
def N9(r:List V->Hp->VK->Prop)(t:TA):TE:=λσ H Q=>t σ H λvs H1=>r vs H1 Q
theorem bN(hc:AR X (.builtin id) r)(hg:Gl X x)(hm:X.mg x=none)(hv:ab6 x=some (.builtin id))(ha:PA X (e::es) t)(hn:x ≠ "__name__" :=by decide)(DP:(x==("__debug__" : Str))=false:=by decide)
  (he:aam (e::es) X.env=(false,eval e X.env)::aam es X.env:=by rfl) (B8:(backTo pos (aam es X.env)).any (·.1)=false:=by rfl):PE X (.Call (.Name x p) (e::es) [] pos) (N9 r t):=by
 intro pins s σ H Q I h
 refine acv (fI I hg hm hv ?_ hn DP)
 exact PyProof.Rows.callWith_builtin1 (Bu (ha pos pins s σ H _ I h) λus s1 ⟨vs,H1,I1,r1,q1⟩=>hc pins s1 σ H1 vs us Q I1 r1 q1) he B8
theorem i7(hc:AR X (.type T) r)(hg:Gl X x)(hm:X.mg x=none)(hv:ab6 x=some (.type T))(ha:PA X (e::es) t)(hn:x ≠ "__name__" :=by decide)(DP:(x==("__debug__" : Str))=false:=by decide)
  (he:aam (e::es) X.env=(false,eval e X.env)::aam es X.env:=by rfl) (B8:(backTo pos (aam es X.env)).any (·.1)=false:=by rfl):PE X (.Call (.Name x p) (e::es) [] pos) (N9 r t):=by
 intro pins s σ H Q I h
 refine acv (fI I hg hm hv ?_ hn DP)
 exact adh (Bu (ha pos pins s σ H _ I h) λus s1 ⟨vs,H1,I1,r1,q1⟩=>hc pins s1 σ H1 vs us Q I1 r1 q1) he B8
theorem rX(hc:AR X (.type T) r)(hg:Gl X x)(hm:X.mg x=none)(hv:ab6 x=some (.type T))(hn:x ≠ "__name__" :=by decide)(DP:(x==("__debug__" : Str))=false:=by decide):
  PE X (.Call (.Name x p) [] [] pos) (N9 r Il):=by
 intro pins s σ H Q I h
 refine acv (fI I hg hm hv ?_ hn DP)
 exact PyProof.Rows.callWith_type0 (hc pins s σ H [] [] Q I .nil h)
end L2
namespace HT
open PySem PyProof.Rows
section
open PySem.SeqAt
open PySem.AutoSeq1 (wpAny_loadPart')
open PySem.MeetsSeq PySem.MeetsSeq2 PySem.MeetsSeq3
end
variable{prog:aaJ}{w:World}{A:Around}{E:Value->Shared->Prop}{s:Shared}
theorem KY{t b:Addr}{vs ws:List Value}{Q:Value->Shared->Prop}(ht:IsTup s.heap t vs.toArray)(hb:IsTup s.heap b ws.toArray)(hv:vs≠[])
  (h1:ws=[]->Q (.ref t) s) (h2:ws≠[]->Q (.ref s.heap.objs.size) {s with heap:=s.heap.push {cls:=.type "tuple",data:=.seq (vs++ws).toArray}})
  (hsz:vs.length+ws.length<=sizeLine):wpAny (model prog w) A (acj .Add (.ref t) (.ref b)) Q E s:=by
 obtain⟨⟨cls,dd,data,sl⟩,ho,hc,n,hd⟩:=id ht
 obtain⟨⟨Xe,UG,data2,TC⟩,JM,Pg,n2,hd2⟩:=id hb
 simp only at hc hd Pg hd2
 subst hc hd Pg hd2
 have e:vs.toArray++ws.toArray=(vs++ws).toArray:=by simp
 by_cases hw:ws=[]
 .exact concat_meets ⟨_,ho,rfl⟩ ⟨_,JM,rfl⟩ aff seq_tuple_add adX adR (adC _ _)
   (tuple_addW1 t b vs.toArray ws.toArray n n2 dd UG sl TC (by simpa using hv) (by simp[hw])) ⟨ho,JM,h1 hw⟩
 .refine concat_meets ⟨_,ho,rfl⟩ ⟨_,JM,rfl⟩ aff seq_tuple_add adX adR (adC _ _)
   (tuple_addW2 t b vs.toArray ws.toArray n n2 dd UG sl TC (by simpa using hv) (by simpa using hw) (by rw[aae,aae];exact hsz)) ⟨ho,JM,?_⟩
  rw[e]
  exact h2 hw
def BO(n d:Nat):Option Int->Nat
 |none=>d
 |some v=>if v<0 then (v+(n:Int)).toNat else min v.toNat n
theorem E3(n d:Nat):BO n d none=d:=rfl
theorem F9(n d k:Nat):BO n d (some (k:Int))=min k n:=by
 show (if (k:Int)<0 then ((k:Int)+(n:Int)).toNat else min (k:Int).toNat n)=min k n
 rw[if_neg (by omega),ab0]
theorem yN(n d:Nat)(hd:d<=n)(o:Option Int):BO n d o<=n:=by
 cases o with
 |none=>exact hd
 |some v=>
  show (if v<0 then (v+(n:Int)).toNat else min v.toNat n)<=n
  by_cases hv:v<0
  .rw[if_pos hv];omega
  .rw[if_neg hv];exact Nat.min_le_right _ _
theorem rC(v:Int)(n d:Nat):(if v<0 then max (v+(n:Int)) 0 else min v (n:Int))=((BO n d (some v):Nat):Int):=by
 show (if v<0 then max (v+(n:Int)) 0 else min v (n:Int))=(((if v<0 then (v+(n:Int)).toNat else min v.toNat n):Nat):Int)
 by_cases hv:v<0
 .simp only[if_pos hv];omega
 .simp only[if_neg hv];omega
theorem sC(lo hi:Option Int)(n:Nat):adz lo hi 1 (n:Int)=(((BO n 0 lo:Nat):Int),((BO n n hi:Nat):Int)):=by
 have h1:¬ ((1:Int)<0):=by omega
 unfold adz
 simp only[h1,if_false]
 refine Prod.ext ?_ ?_
 .cases lo with
  |none=>rfl
  |some v=>exact rC v n 0
 .cases hi with
  |none=>rfl
  |some v=>exact rC v n n
theorem rV(i j:Nat):acL (i:Int) (j:Int) 1=j - i:=by
 unfold acL
 have h1:(1:Int) > 0:=by omega
 simp only[h1,if_true,Int.ediv_one]
 split<;>omega
theorem lp{v:Value}{o:Option Int}{Q:Option Int->Shared->Prop}(p:IsPart v o)(h:Q o s):wpAny (model prog w) A (Builtin.Slice.slicePartIndex v) Q E s:=by
 cases p with
 |none=>exact slicePart_none h
 |int i t=>exact slicePart_int h
theorem CU{sl:Addr}{vl vu:Value}{lo hi:Option Int}{n:Nat}{Q:Int×Int×Nat->Shared->Prop}(hs:s.heap.IsSliceOf sl vl vu .none)(pl:IsPart vl lo)(pu:IsPart vu hi)
  (h:Q (((BO n 0 lo:Nat):Int),1,BO n n hi - BO n 0 lo) s):wpAny (model prog w) A (afH (.ref sl) (pure (n:Int))) Q E s:=by
 obtain⟨os,HV,Ke,IB⟩:=id hs
 unfold afH Builtin.Slice.sliceFields
 refine aaa (aaa (abN HV IB (x:=vl) rfl (aaa (abN HV IB (x:=vu) rfl (aaa (abN HV IB (x:=.none) rfl (aaf ?_)))))))
 refine aaa (slicePart_none ?_)
 show wpAny _ _ (if ((1:Int)==0)=true then _ else _) _ _ s
 rw[if_neg (by decide)]
 refine aaa (lp pl (aaa (lp pu (aaa (aaf ?_)))))
 show wpAny _ _ (match adz lo hi 1 (n:Int)with|(lo,hi)=>pure (lo,(1:Int),acL lo hi 1)) _ _ s
 rw[sC lo hi n]
 show wpAny _ _ (pure (((BO n 0 lo:Nat):Int),(1:Int),acL ((BO n 0 lo:Nat):Int) ((BO n n hi:Nat):Int) 1)) _ _ s
 rw[rV]
 exact aaf h
theorem vy(xs:Array Value)(i k:Nat):((aa6 k).filterMap λ(m:Nat)=>xs[((i:Int)+(m:Int)*1).toNat]?).toArray=((xs.toList.drop i).take k).toArray:=by
 have e:(λ(m:Nat)=>xs[((i:Int)+(m:Int)*1).toNat]?)=λm=>xs[i+m]?:=by
  funext m
  have:((i:Int)+(m:Int)*1).toNat=i+m:=by omega
  rw[this]
 rw[e]
 have:=pick_run xs i k
 rw[List.filterMap_map]at this
 have e2:((λx=>xs[x]?) ∘ λx=>i+x)=λm=>xs[i+m]?:=rfl
 rw[e2]at this
 rw[this]
theorem D1{t sl:Addr}{items:Array Value}{vl vu:Value}{lo hi:Option Int}{Q:Value->Shared->Prop}(ht:IsTup s.heap t items)(hs:s.heap.IsSliceOf sl vl vu .none)(pl:IsPart vl lo)(pu:IsPart vu hi)
  (hw:¬ (BO items.size 0 lo=0/\BO items.size items.size hi=items.size))
  (h:Q (.ref s.heap.objs.size) {s with heap:=s.heap.push {cls:=.type "tuple",data:=.seq ((items.toList.drop (BO items.size 0 lo)).take (BO items.size items.size hi - BO items.size 0 lo)).toArray}})
  (hsz:items.size<=sizeLine):wpAny (model prog w) A (adv (.ref t) (.ref sl)) Q E s:=by
 have HU:sizeOk (.seq ((items.toList.drop (BO items.size 0 lo)).take (BO items.size items.size hi - BO items.size 0 lo)).toArray):=by
  show ((items.toList.drop (BO items.size 0 lo)).take (BO items.size items.size hi - BO items.size 0 lo)).toArray.size<=sizeLine
  rw[aae,aa8,List.length_drop,aaz]
  omega
 have hj:BO items.size items.size hi<=items.size:=yN _ _ (aal _) hi
 obtain⟨os,HV,Ke,IB⟩:=id hs
 have Wl:s.TypeIs (.ref sl) "slice" := ⟨os,HV,Ke⟩
 unfold adv
 try with_reducible refine aa9 ?_
 first|refine aaa (aaf ?_)|skip
 refine aaa (aeN ht.typeIs (by decide) ?_)
 refine aaa (abz (name:=aaP "__getitem__") ht.typeIs acd
  (aa7 acd ht.typeIs entry_tuple_getitem ?_ (args_tuple_getitem _ _)))
 show wpAny _ _ (afG (.ref t) >>= _) _ _ s
 refine aaa (tupleItemsOf_ ht ?_)
 refine aaa (ad0 Wl ?_)
 rw[if_pos (by decide)]
 refine aaa (CU hs pl pu ?_)
 have VS:¬ ((((BO items.size 0 lo:Nat):Int)==0 && (1:Int)==1 && (BO items.size items.size hi - BO items.size 0 lo)==items.size)=true):=by
  intro q
  rw[aaE,aaE]at q
  have q1:((BO items.size 0 lo:Nat):Int)=0:=eq_of_beq q.1.1
  have q2:BO items.size items.size hi - BO items.size 0 lo=items.size:=eq_of_beq q.2
  exact hw ⟨by omega,by omega⟩
 show wpAny _ _ (if (((BO items.size 0 lo:Nat):Int)==0 && (1:Int)==1 && (BO items.size items.size hi - BO items.size 0 lo)==items.size)=true then _ else _) _ _ s
 rw[if_neg VS,vy]
 first
  |exact aaa (m:=acR _) (aba (aaf ⟨_,rfl,aaf h⟩) HU)
  |exact aaa (m:=acR _) (aba (aaa (aaf (aaf ⟨_,rfl,aaf h⟩))) HU)
  |exact aaa (aaa (m:=acR _) (aba (aaf (aaf ⟨_,rfl,aaf h⟩)) HU))
  |exact aaa (aaa (m:=acR _) (aba (aaf ⟨_,rfl,aaf h⟩) HU))
end HT
namespace L2
open PySem PySem.Spec PyProof.Rows
abbrev TO:=St->Hp->(Option Int->Hp->Prop)->Prop
def PO(X:Cx)(e:Option Expr)(t:TO):Prop :=
 ∀(pins:List (Addr×Obj)) (s:Shared) (σ:St) (H:Hp) (Q:Option Int->Hp->Prop),Inv X pins σ H s->t σ H Q ->
  wpAny (model X.prog X.w) X.A (evalPart e X.env) (λu s'=>∃o H',Inv X pins σ H' s'/\IsPart u o/\Q o H') X.xe s
def xf:TO:=λ_ H Q=>Q none H
def N1(t:TE):TO:=λσ H Q=>t σ H λx H1=>∃i,x=.int i/\Q (some i) H1
variable{X:Cx}{e:Expr}{te:TE}{lo hi:Option Expr}{tl th:TO}{pos p2:Pos}
theorem mB:PO X none xf:=by
 intro pins s σ H Q I h
 rw[evalPart_none]
 exact aaf ⟨none,H,I,.none,h⟩
theorem mz(h:PE X e te):PO X (some e) (N1 te):=by
 intro pins s σ H Q I hw
 rw[evalPart_some]
 refine Bu (h pins s σ H _ I hw) λu s1 ⟨x,H1,I1,r1,q1⟩=>?_
 obtain⟨i,rfl,q⟩:=q1
 obtain⟨t,rfl⟩:=r1
 exact⟨some i,H1,I1,.int i t,q⟩
def KZ(X:Cx)(r:V->Option Int->Option Int->Hp->VK->Prop):Prop :=
 ∀(pins:List (Addr×Obj)) (s:Shared) (σ:St) (H:Hp) (x:V) (v vl vu:Value) (lo hi:Option Int) (sl:Addr) (Q:VK),Inv X pins σ H s->RelV x v->s.heap.IsSliceOf sl vl vu .none->IsPart vl lo->IsPart vu hi->r x lo hi H Q ->
  ∃T id,typeLookup (.type T) "__getitem__" = pure (some (.builtin id))/\s.TypeIs v T/\wpAny (model X.prog X.w) X.A (adv v (.ref sl)) (EP X pins σ Q) X.xe s
theorem KZ.or{r r':V->Option Int->Option Int->Hp->VK->Prop}(h:KZ X r)(h':KZ X r'):KZ X (λx lo hi H Q=>r x lo hi H Q\/r' x lo hi H Q):=by
 intro pins s σ H x v vl vu lo hi sl Q I rx hs pl pu q
 rcases q with q|q
 .exact h pins s σ H x v vl vu lo hi sl Q I rx hs pl pu q
 .exact h' pins s σ H x v vl vu lo hi sl Q I rx hs pl pu q
def U9(r:V->Option Int->Option Int->Hp->VK->Prop)(te:TE)(tl th:TO):TE:=λσ H Q=>te σ H λx H1=>tl σ H1 λl H2=>th σ H2 λu H3=>r x l u H3 Q
theorem kF{r:V->Option Int->Option Int->Hp->VK->Prop}(hr:KZ X r)(he:PE X e te)(hl:PO X lo tl)(hu:PO X hi th):PE X (.Subscript e (.Slice lo hi none p2) pos) (U9 r te tl th):=by
 intro pins s σ H Q I h
 refine Subscript_ (Bu (he pins s σ H _ I h) λv s1 ⟨x,H1,I1,r1,q1⟩=>?_)
 refine wpAny_Slice (Bu (hl pins s1 σ H1 _ I1 q1) λvl s2 ⟨l,H2,I2,pl,q2⟩=>Bu (hu pins s2 σ H2 _ I2 q2) λvu s3 ⟨u,H3,I3,pu,q3⟩=>?_)
 rw[evalPart_none]
 refine aaf ?_
 have I4:Inv X pins σ H3 {s3 with heap:=s3.heap.push {cls:=.type "slice",data:=.fields #[vl,vu,.none]}}:=I3.kept (t':=s3.toks) λb ob q=>aad _ q
 obtain⟨T,id,hT,ht,hg⟩:=hr pins {s3 with heap:=s3.heap.push {cls:=.type "slice",data:=.fields #[vl,vu,.none]}} σ H3 x v vl vu l u s3.heap.objs.size Q I4 r1 (Heap.IsSliceOf.new ..) pl pu q3
 show wpAny (model X.prog X.w) X.A (subscriptTail e (.Slice lo hi none p2) v (.ref s3.heap.objs.size)) (EP X pins σ Q) X.xe {s3 with heap:=s3.heap.push {cls:=.type "slice",data:=.fields #[vl,vu,.none]}}
 exact tail_any (ops:=[.ref s3.heap.objs.size,v]) ht hT hg (by with_unfolding_all rfl)
def Em(xs:List V)(lo hi:Option Int):List V:=(xs.drop (HT.BO xs.length 0 lo)).take (HT.BO xs.length xs.length hi - HT.BO xs.length 0 lo)
theorem j6(xs:List V)(lo hi:Option Int):(Em xs lo hi).length<=xs.length:=by
 unfold Em
 rw[aa8,List.length_drop]
 omega
def Rx(K:aah):V->Option Int->Option Int->Hp->VK->Prop:=λx lo hi H Q=>∃a xs,x=.ref a/\Cd K H a xs /\
 ¬ (HT.BO xs.length 0 lo=0/\HT.BO xs.length xs.length hi=xs.length)/\∀p,H p=none->Q (.ref p) (upd H p (.tup (Em xs lo hi)))
theorem yM:KZ X (Rx X.K):=by
 intro pins s σ H x v vl vu lo hi sl Q I rx hs pl pu h
 obtain⟨a,xs,rfl,hx,hw,q⟩:=h
 cases rx
 obtain⟨iN,r,ht,hz⟩:=I.tuple hx
 have hlen:iN.toArray.size=xs.length:=by rw[aae];exact r.length.symm
 refine⟨"tuple",_,PyProof.Rows.slot_tuple_getitem.lookup,ht.typeIs,?_⟩
 refine HT.D1 ht hs pl pu (by rw[hlen];exact hw) ?_ (by rw[hlen];exact hz)
 rw[hlen]
 refine⟨.ref s.heap.objs.size,_,I.laid (t':=s.toks) (o:=.tup (Em xs lo hi)) (λb ob q=>aad _ q) (aal _) ?_,rfl,q _ (I.AU.fresh (aal _))⟩
 exact⟨aa3 (j6 xs lo hi) hz,_,(r.drop (HT.BO xs.length 0 lo)).take (HT.BO xs.length xs.length hi - HT.BO xs.length 0 lo),IsTup.new _ _⟩
def Ov(K:aah):R2:=λx y H Q=>∃a b xs ys,x=.ref a/\y=.ref b/\Cd K H a xs/\Cd K H b ys/\xs≠[]/\xs.length+ys.length<=sizeLine /\
 (ys=[]->Q (.ref a) H)/\(ys≠[]->∀p,H p=none->Q (.ref p) (upd H p (.tup (xs++ys))))
variable{xs:List V}{us:List Value}
theorem AM.Gb(r:AM xs us):us=[]↔xs=[]:=by
 cases r with
 |nil=>simp
 |cons _ _=>simp
theorem xJ:BL X (acj .Add) (Ov X.K):=by
 intro pins s σ H x y v u Q I rx ry h
 obtain⟨a,b,xs,ys,rfl,rfl,ha,hb,hx,hz,q1,q2⟩:=h
 cases rx
 cases ry
 obtain⟨iN,r1,p1,_⟩:=I.tuple ha
 obtain⟨Cq,r2,p2,_⟩:=I.tuple hb
 refine HT.KY p1 p2 (λz=>hx (r1.Gb.mp z)) (λz=>⟨.ref a,H,I,rfl,q1 (r2.Gb.mp z)⟩) (λz=>?_) (by rw[<- r1.length,<- r2.length];exact hz)
 refine⟨.ref s.heap.objs.size,_,I.laid (t':=s.toks) (o:=.tup (xs++ys)) (λb ob q=>aad _ q) (aal _) ?_,rfl,q2 (λw=>z (r2.Gb.mpr w)) _ (I.AU.fresh (aal _))⟩
 exact⟨by rw[aau];exact hz,_,r1.append r2,IsTup.new _ _⟩
def J6(n:Nat)(i:Int):Option Nat:=if 0<=i then (if i<n then some i.toNat else none)else if -(n:Int)<=i then some (i+n).toNat else none
variable{α:Type}
def HG(xs:List α)(i:Int):Option α:=(J6 xs.length i).bind λj=>xs[j]?
variable{n j:Nat}{i:Int}
theorem rd(h:J6 n i=some j):seqIndex? i n=some j/\j<n /\ -(n:Int)<=i/\i<n:=by
 unfold J6 at h
 by_cases h0:0<=i
 .rw[if_pos h0]at h
  by_cases h1:i<n
  .rw[if_pos h1]at h
   have e:i.toNat=j:=aap h
   exact⟨by rw[seqIndex_of h0 h1,e],by omega,by omega,h1⟩
  .rw[if_neg h1]at h;cases h
 .rw[if_neg h0]at h
  by_cases h1 : -(n:Int)<=i
  .rw[if_pos h1]at h
   have e:(i+n).toNat=j:=aap h
   exact⟨by rw[seqIndex_neg (by omega) h1,e],by omega,h1,by omega⟩
  .rw[if_neg h1]at h;cases h
theorem m5{xs:List α}{v:α}(h:HG xs i=some v):∃j,seqIndex? i xs.length=some j/\xs[j]?=some v/\j<xs.length /\ -(xs.length:Int)<=i/\i<xs.length:=by
 unfold HG at h
 cases e:J6 xs.length i with
 |none=>rw[e]at h;cases h
 |some j=>
  rw[e]at h
  obtain⟨h1,h2,h3,h4⟩:=rd e
  exact⟨j,h1,h,h2,h3,h4⟩
theorem ai{xs:List α}{v:α}(h:xs[j]?=some v):HG xs (j:Int)=some v:=by
 have hj:j<xs.length:=(List.getElem?_eq_some_iff.mp h).1
 have e:J6 xs.length (j:Int)=some j:=by
  unfold J6
  rw[if_pos (by omega),if_pos (by omega)];simp
 unfold HG;rw[e];exact h
def g5(b:Expr):Prop:=∀o i,afq b false o i=operate [o,i] (adv o i)
def J0(X:Cx)(r:R2):Prop :=
 ∀(value slice:Expr) (pins:List (Addr×Obj)) (s:Shared) (σ:St) (H:Hp) (x y:V) (v u:Value) (Q:VK),Inv X pins σ H s->RelV x v->RelV y u->r x y H Q ->
  afq slice false v u=operate [v,u] (adv v u)->wpAny (model X.prog X.w) X.A (subscriptTail value slice v u) (EP X pins σ Q) X.xe s
def QK(X:Cx)(id:String)(r:V->List V->Hp->VK->Prop):Prop :=
 ∀(pins:List (Addr×Obj)) (s:Shared) (σ:St) (H:Hp) (x:V) (xs:List V) (v:Value) (us:List Value) (Q:VK),Inv X pins σ H s->RelV x v->AM xs us->r x xs H Q ->
  wpAny (model X.prog X.w) X.A (call (.builtin id) (v::us)) (EP X pins σ Q) X.xe s
variable{a b:Expr}{ta tb:TE}
variable{r r':R2}
theorem J0.or(h:J0 X r)(h':J0 X r'):J0 X (λx y H Q=>r x y H Q\/r' x y H Q):=by
 intro value slice pins s σ H x y v u Q I rx ry q hs
 rcases q with q|q
 .exact h value slice pins s σ H x y v u Q I rx ry q hs
 .exact h' value slice pins s σ H x y v u Q I rx ry q hs
theorem bU(hr:J0 X r)(ha:PE X a ta)(hb:PE X b tb)(hs:g5 b):PE X (.Subscript a b pos) (EC r ta tb):=by
 intro pins s σ H Q I h
 exact Subscript_ (Nf ha hb I h λv u s2 x y H2 I2 rx ry q=>hr a b pins s2 σ H2 x y v u Q I2 rx ry q (hs _ _))
def E5(K:aah):R2:=λx y H Q=>∃p xs i v,x=.ref p/\y=.int i/\Cm K H p xs/\HG xs i=some v/\Q v H
def Ol(K:aah):R2:=λx y H Q=>∃p xs i v,x=.ref p/\y=.int i/\Cd K H p xs/\HG xs i=some v/\Q v H
def Om:R2:=λx y H Q=>∃z i c,x=.str z/\y=.int i/\z.length<=sizeLine/\HG z.cps.toList i=some c/\Q (.str ⟨#[c]⟩) H
theorem BI:J0 X (E5 X.K):=by
 intro value slice pins s σ H x y v u Q I rx ry h hs
 obtain⟨p,xs,i,z,rfl,rfl,hq,he,q⟩:=h
 cases rx
 obtain⟨t,rfl⟩:=ry
 obtain⟨iN,r,pl,hz⟩:=I.list hq
 obtain⟨j,h1,h2,h3,h4,h5⟩:=m5 he
 obtain⟨w,ew,EN⟩:=r.get h2
 have hl:=r.length
 have hn:=DL
 have fin:EP X pins σ Q w s:=⟨z,H,I,EN,q⟩
 by_cases h0:0<=i
 .have hj:i.toNat=j:=by
   rw[seqIndex_of h0 h5]at h1
   exact aap h1
  exact item_listR pl.isList h0 (by omega) (by rw[hj];simpa using ew) fin hs
 .have hj:(i+(iN.toArray.size:Int)).toNat=j:=by
   rw[seqIndex_neg (by omega) h4]at h1
   rw[aae,<- hl]
   exact aap h1
  exact subscriptTail_builtinR (x:=w) pl.isList.typeIs slot_list_getitem.lookup
   (wpAny_getItem_list_neg (Q:=λr s'=>r=w/\EP X pins σ Q r s') pl.isList (by omega) (by rw[aae]<;>omega) (by omega) (by rw[hj];simpa using ew) ⟨rfl,fin⟩) hs
theorem ME:J0 X (Ol X.K):=by
 intro value slice pins s σ H x y v u Q I rx ry h hs
 obtain⟨p,xs,i,z,rfl,rfl,hq,he,q⟩:=h
 cases rx
 obtain⟨t,rfl⟩:=ry
 obtain⟨iN,r,pl,hz⟩:=I.tuple hq
 obtain⟨j,h1,h2,h3,h4,h5⟩:=m5 he
 obtain⟨w,ew,EN⟩:=r.get h2
 have hl:=r.length
 have hn:=DL
 have fin:EP X pins σ Q w s:=⟨z,H,I,EN,q⟩
 exact subscriptTail_builtinR (x:=w) pl.typeIs slot_tuple_getitem.lookup
  (getItem_tuple (j:=j) (Q:=λr s'=>r=w/\EP X pins σ Q r s') pl (by omega) (by omega) (by rw[aae,<- hl];exact h1) (by simpa using ew) ⟨rfl,fin⟩) hs
theorem zC:J0 X Om:=by
 intro value slice pins s σ H x y v u Q I rx ry h hs
 obtain⟨z,i,c,rfl,rfl,hz,he,q⟩:=h
 obtain⟨t,rfl⟩:=rx
 obtain⟨t',rfl⟩:=ry
 obtain⟨j,h1,h2,h3,h4,h5⟩:=m5 he
 have hl:z.cps.toList.length=z.length:=by simp[aeV]
 rw[hl]at h1 h4 h5
 have hn:=DL
 exact tail_any (aeg s z t) slot_str_getitem.lookup (getItem_str (c:=c) (by
  have e1:decide (i < -(2 ^ 63:Int))=false:=decide_eq_false (by omega)
  have e2:decide (i ≥ 2 ^ 63)=false:=decide_eq_false (by omega)
  rw[e1,e2,Bool.or_false]) (by rw[h1];simpa using h2) ⟨.str ⟨#[c]⟩,H,I.tok _,⟨_,rfl⟩,q⟩) hs
def TL(K:aah):R2:=λx y H Q=>E5 K x y H Q\/Ol K x y H Q\/Om x y H Q
theorem MF:J0 X (TL X.K):=BI.or (ME.or zC)
theorem sf(iN:List Value)(n j:Nat)(u:Value):abA (·.setIfInBounds j u) {cls:=.type "list",data:=.seq iN.toArray n}={cls:=.type "list",data:=.seq (iN.set j u).toArray n}:=by
 simp[abA]
variable{pins:List (Addr×Obj)}{σ:St}{H:Hp}{s:Shared}
theorem Inv.lst{p:Addr}(I:Inv X pins σ H s)(h:H p=some (.lst xs)):
  ∃(iN:List Value) (n:Nat),AM xs iN/\s.heap.get? p=some {cls:=.type "list",data:=.seq iN.toArray n}/\xs.length<=sizeLine:=by
 obtain⟨z,iN,n,r,e⟩:=I.AU p _ h
 exact⟨iN,n,r,e,z⟩
variable{iN:List Value}
theorem Inv.MC{p:Addr}{ys:List V}{its':List Value}{n':Nat}{f:Obj->Obj}(I:Inv X pins σ H s)(h:H p=some (.lst xs))
  (ho:s.heap.get? p=some {cls:=.type "list",data:=.seq iN.toArray n}) (hf:f {cls:=.type "list",data:=.seq iN.toArray n}={cls:=.type "list",data:=.seq its'.toArray n'}) (r:AM ys its') (hz:ys.length<=sizeLine) (t:Nat) :
  Inv X pins σ (upd H p (.lst ys)) {s with heap:=s.heap.update p f,toks:=t}:=by
 have e:(s.heap.update p f).get? p=some {cls:=.type "list",data:=.seq its'.toArray n'}:=by
  rw[abw f ho (by rw[hf]<;>rfl),hf]
 refine I.write (x:=p) (e:=p) (by rw[h];trivial) (.inl rfl) (λb u hb q=>(ac1 _ _ (abO hb)).trans q) ⟨_,e⟩ ?_
 exact⟨hz,its',n',r,e⟩
def HP:V->V->V->Hp->(Hp->Prop)->Prop:=λo i v H Q=>∃p xs k j,o=.ref p/\i=.int k/\H p=some (.lst xs)/\J6 xs.length k=some j/\Q (upd H p (.lst (xs.set j v)))
theorem kn:GZ X HP:=by
 intro pins s σ H o i v ov iv u Q I ro ri rv h
 obtain⟨p,xs,k,j,rfl,rfl,hp,hj,q⟩:=h
 cases ro
 obtain⟨t,rfl⟩:=ri
 obtain⟨iN,n,r,ho,hz⟩:=I.lst hp
 obtain⟨h1,h2,h3,h4⟩:=rd hj
 have hl:=r.length
 have hn:=DL
 have I':Inv X pins σ (upd H p (.lst (xs.set j v))) {s with heap:=s.heap.update p (abA (·.setIfInBounds j u))} :=
  I.MC hp ho (sf iN n j u) (r.set rv j) (by rw[aec];exact hz) s.toks
 by_cases h0:0<=k
 .have hk:k.toNat=j:=by
   rw[seqIndex_of h0 h4]at h1
   exact aap h1
  exact PySem.W.ki_setAt ho h0 (by omega) (by rw[aae,<- hl];exact h4) (by rw[hk];exact⟨_,I',q⟩)
 .have hk:(k+(iN.toArray.size:Int)).toNat=j:=by
   rw[seqIndex_neg (by omega) h3]at h1
   rw[aae,<- hl]
   exact aap h1
  exact PySem.W.ki_setBack ho (by omega) (by rw[aae,<- hl];exact h3) (by omega) (by rw[hk];exact⟨_,I',q⟩)
theorem oI(lo hi:Option Int)(n:Nat):(ade lo hi none n).1=((HT.BO n 0 lo:Nat):Int)/\(ade lo hi none n).2.1=((HT.BO n n hi:Nat):Int)/\(ade lo hi none n).2.2=1:=by
 refine⟨?_,?_,rfl⟩
 .cases lo with
  |none=>simp[ade,HT.BO]
  |some i=>
   simp only[ade,HT.BO,Option.getD_none,show (1:Int) > 0 by decide,if_true]
   by_cases h:i<0
   .simp only[h,if_true]<;>omega
   .simp only[h,if_false]<;>omega
 .cases hi with
  |none=>simp[ade,HT.BO]
  |some i=>
   simp only[ade,HT.BO,Option.getD_none,show (1:Int) > 0 by decide,if_true]
   by_cases h:i<0
   .simp only[h,if_true]<;>omega
   .simp only[h,if_false]<;>omega
theorem nW(iN:List Value)(lo hi:Option Int):slicePick iN.toArray lo hi none=((iN.drop (HT.BO iN.length 0 lo)).take (HT.BO iN.length iN.length hi - HT.BO iN.length 0 lo)).toArray:=by
 obtain⟨h1,h2,h3⟩:=oI lo hi iN.toArray.size
 unfold slicePick
 rw[h1,h2,h3]
 simp only[sliceRange_one,pick_run,aae]<;>rfl
def Ry(K:aah):V->Option Int->Option Int->Hp->VK->Prop:=λx lo hi H Q=>∃a xs,x=.ref a/\Cm K H a xs/\∀p,H p=none->Q (.ref p) (upd H p (.lst (Em xs lo hi)))
theorem mf:KZ X (Ry X.K):=by
 intro pins s σ H x v vl vu lo hi sl Q I rx hs pl pu h
 obtain⟨a,xs,rfl,hx,q⟩:=h
 cases rx
 obtain⟨iN,r,ht,hz⟩:=I.list hx
 have hlen:=r.length
 refine⟨"list",_,slot_list_getitem.lookup,ht.isList.typeIs,?_⟩
 refine wpAny_getItem_list_slice ht.isList hs pl pu .none (by simp) ?_ (by rw[aae]<;>omega)
 rw[nW,<- hlen]
 refine⟨.ref s.heap.objs.size,_,I.laid (t':=s.toks) (o:=.lst (Em xs lo hi)) (λb ob q=>aad _ q) (aal _) ?_,rfl,q _ (I.AU.fresh (aal _))⟩
 exact⟨aa3 (j6 xs lo hi) hz,_,0,(r.drop (HT.BO xs.length 0 lo)).take (HT.BO xs.length xs.length hi - HT.BO xs.length 0 lo),aai _ rfl⟩
theorem pf:BL X (aaX .NotIn) (λx y H Q=>∃i j,x=.str i/\y=.str j/\Q (.bl (!(!(acZ j i 0 j.length 1).isEmpty))) H):=by
 intro pins s σ H x y v u Q I rx ry h
 obtain⟨i,j,rfl,rfl,q⟩:=h
 obtain⟨t,rfl⟩:=rx
 obtain⟨t',rfl⟩:=ry
 exact notIn_str ⟨.bl _,H,I,rfl,q⟩
theorem jm:AR X (.builtin "len") (λxs H Q=>∃p ys,xs=[.ref p]/\(Cm X.K H p ys\/Cd X.K H p ys)/\Q (.int ys.length) H):=by
 intro pins s σ H xs us Q I r h
 obtain⟨p,ys,rfl,hq,q⟩:=h
 obtain⟨u,rfl,rx⟩:=vals1 r
 cases rx
 have hn:=DL
 rcases hq with hq|hq
 .obtain⟨iN,r',pl,hz⟩:=I.list hq
  have hlen:=r'.length
  exact Calls.call_len_list pl.isList (by simp only[aae]<;>omega) ⟨.int ys.length,H,I.tok _,⟨s.toks+1,by rw[aae,hlen]⟩,q⟩
 .obtain⟨iN,r',pl,hz⟩:=I.tuple hq
  have hlen:=r'.length
  exact len_tuple pl (by simp only[aae]<;>omega) ⟨.int ys.length,H,I.tok _,⟨s.toks+1,by rw[aae,hlen]⟩,q⟩
theorem pW:AR X (.builtin "len") (λxs H Q=>∃z,xs=[.str z]/\z.length<=sizeLine/\Q (.int z.length) H):=by
 intro pins s σ H xs us Q I r h
 obtain⟨z,rfl,hz,q⟩:=h
 obtain⟨u,rfl,t,rfl⟩:=vals1 r
 have hn:=DL
 exact len_str (by omega) ⟨.int z.length,H,I.tok _,⟨_,rfl⟩,q⟩
variable{f:Value}
theorem AR.or{r r':List V->Hp->VK->Prop}(h:AR X f r)(h':AR X f r'):AR X f (λxs H Q=>r xs H Q\/r' xs H Q):=by
 intro pins s σ H xs us Q I rs q
 rcases q with q|q
 .exact h pins s σ H xs us Q I rs q
 .exact h' pins s σ H xs us Q I rs q
theorem pV:AR X (.type "list") (λxs H Q=>∃p ys,xs=[.ref p]/\(Cm X.K H p ys\/Cd X.K H p ys)/\∀l,H l=none->Q (.ref l) (upd H l (.lst ys))):=by
 intro pins s σ H xs us Q I r h
 obtain⟨p,ys,rfl,hq,q⟩:=h
 obtain⟨u,rfl,rx⟩:=vals1 r
 cases rx
 have fin:∀(iN:List Value),AM ys iN->ys.length<=sizeLine->∀(h':Heap) (c':Nat),(∀b o',s.heap.get? b=some o'->h'.get? b=some o') ->
   h'.get? s.heap.objs.size=some {cls:=.type "list",dict:=none,data:=.seq iN.toArray c',slots:=#[]}->EP X pins σ Q (.ref s.heap.objs.size) {s with heap:=h'}:=λiN r' hz h' c' kp e=>
  ⟨.ref s.heap.objs.size,_,I.laid (t':=s.toks) kp (aal _) (show A7 X.prog X.w _ h' _ (.lst ys)from ⟨hz,iN,c',r',e⟩),rfl,q _ (I.AU.fresh (aal _))⟩
 rcases hq with hq|hq
 .obtain⟨iN,r',pl,hz⟩:=I.list hq
  have hlen:=r'.length
  obtain⟨o,ho,hc,n,hd⟩:=pl.isList
  exact call_list_seq p (.inl rfl) ho hc hd (λh' c' kp e=>fin iN r' hz h' c' kp e) (by simp only[aae]<;>omega)
 .obtain⟨iN,r',pl,hz⟩:=I.tuple hq
  have hlen:=r'.length
  obtain⟨o,ho,hc,n,hd⟩:=pl
  exact call_list_seq p (.inr rfl) ho hc hd (λh' c' kp e=>fin iN r' hz h' c' kp e) (by simp only[aae]<;>omega)
theorem og:AR X (.type "tuple") (λxs H Q=>∃p ys,xs=[.ref p]/\((Cm X.K H p ys/\∀l,H l=none->Q (.ref l) (upd H l (.tup ys)))\/(Cd X.K H p ys/\Q (.ref p) H))):=by
 intro pins s σ H xs us Q I r h
 obtain⟨p,ys,rfl,h⟩:=h
 obtain⟨u,rfl,rx⟩:=vals1 r
 cases rx
 rcases h with ⟨hq,q⟩|⟨hq,q⟩
 .obtain⟨iN,r',pl,hz⟩:=I.list hq
  have hlen:=r'.length
  refine call_tuple_list pl.isList (λh' kp=>?_) (by simp only[aae]<;>omega)
  have I1:Inv X pins σ H {s with heap:=h'}:=I.kept (t':=s.toks) kp
  have I2:Inv X pins σ (upd H h'.objs.size (.tup ys)) {s with heap:=h'.push {cls:=.type "tuple",data:=.seq iN.toArray}} :=
   I1.laid (t':=s.toks) (λb o e=>aad _ e) (aal _) (show A7 X.prog X.w _ _ _ (.tup ys)from ⟨hz,iN,r',IsTup.new _ _⟩)
  exact⟨.ref h'.objs.size,_,I2,rfl,q _ (I1.AU.fresh (aal _))⟩
 .obtain⟨iN,r',pl,hz⟩:=I.tuple hq
  exact call_tuple_same pl ⟨.ref p,H,I,rfl,q⟩
def Rc(K:aah)(T:String)(x:V)(H:Hp):Prop:=match x with
 |.str _=>T = "str"
 |.int _=>T = "int"
 |.ref p=>(T = "list" /\ ∃xs,Cm K H p xs)\/(T = "tuple" /\ ∃o,K.lookup p=some o/\o.cls=.type "tuple" /\ o.dict=none) \/
   (T = "dict" /\ ((∃kvs,H p=some (.dK kvs))\/∃kvs,H p=some (.dT kvs)))\/(T = "set" /\ ∃S n,H p=some (.set S n))
 |_=>False
variable{x:V}{v:Value}
theorem sK{T:String}(I:Inv X pins σ H s)(r:RelV x v)(ty:Rc X.K T x H):
  s.TypeIs v T/\∀a,v=.ref a->∃ob,s.heap.get? a=some ob/\ob.dict=none:=by
 cases x with
 |str z=>
  obtain⟨t,rfl⟩:=r
  cases (show T = "str" from ty)
  exact⟨aeg s z t,λ_ e=>nomatch e⟩
 |int i=>
  obtain⟨t,rfl⟩:=r
  cases (show T = "int" from ty)
  exact⟨typeIs_int s i t,λ_ e=>nomatch e⟩
 |ref p=>
  cases r
  rcases ty with ⟨rfl,xs,hq⟩|⟨rfl,o,hk,hc,hd⟩|⟨rfl,hk⟩|⟨rfl,S,n,hk⟩
  .obtain⟨iN,_,pl,_⟩:=I.list hq
   refine⟨pl.isList.typeIs,λa e=>?_⟩
   cases e
   obtain⟨o,n,e,c,hd,_⟩:=pl
   exact⟨o,e,hd⟩
  .refine⟨⟨o,I.FC p o hk,hc⟩,λa e=>?_⟩
   cases e
   exact⟨o,I.FC _ o hk,hd⟩
  .have z:∃o,s.heap.get? p=some o/\o.ExactDict:=by
    rcases hk with ⟨kvs,hk⟩|⟨kvs,hk⟩
    .obtain⟨_,_,_,_,o,_,_,e,ex,_⟩:=I.AU p _ hk
     exact⟨o,e,ex⟩
    .obtain⟨_,_,_,_,o,_,_,e,ex,_⟩:=I.AU p _ hk
     exact⟨o,e,ex⟩
   obtain⟨o,e,ex⟩:=z
   refine⟨⟨o,e,ex.1⟩,λa e2=>?_⟩
   cases e2
   exact⟨o,e,ex.2.1⟩
  .obtain⟨o,_,_,_,e,ex,_⟩:=I.AU p _ hk
   refine⟨⟨o,e,ex.1⟩,λa e2=>?_⟩
   cases e2
   exact⟨o,e,ex.2.1⟩
 |_=>exact acQ ty
def Rm(K:aah)(T:String)(r:V->List V->Hp->VK->Prop)(to:TE):TE:=λσ H Q=>to σ H λx H1=>Rc K T x H1/\r x [] H1 Q
def Tw(K:aah)(T:String)(r:V->List V->Hp->VK->Prop)(to:TE)(t:TA):TE:=λσ H Q=>to σ H λx H1=>Rc K T x H1/\t σ H1 λxs H2=>r x xs H2 Q
variable{o:Expr}{es:List Expr}{to:TE}{t:TA}{name:Str}{apos Bg:Pos}{T id:String}{r:V->List V->Hp->VK->Prop}
theorem za(pa:PlainAttrs T)(slot:Slot T name id)(Iv:typeOf (.builtin id)=pure (.type "method_descriptor"))(hm:QK X id r)(ho:PE X o to)
  (B0:ab7 o name X.env (eval o X.env)=eval o X.env:=by rfl) (BZ:(apos.endLine==Bg.line)=true:=by rfl):PE X (.Call (.Attribute o name apos) [] [] Bg) (Rm X.K T r to):=by
 intro pins s σ H Q I h
 refine wpAny_Call_method0_late B0 BZ (Bu (ho pins s σ H _ I h) λv s1 ⟨x,H1,I1,r1,ty,q1⟩=>?_)
 obtain⟨h1,h2⟩:=sK I1 r1 ty
 exact⟨T,id,pa,slot,Iv,h1,h2,ac2 rfl (PySem.evalArgs_none (hm pins s1 σ H1 x [] v [] Q I1 r1 .nil q1))⟩
theorem rY(pa:PlainAttrs T)(slot:Slot T name id)(Iv:typeOf (.builtin id)=pure (.type "method_descriptor"))(hm:QK X id r)(ho:PE X o to)(ha:PA X (e::es) t)
  (B0:ab7 o name X.env (eval o X.env)=eval o X.env:=by rfl)
  (Fe:((backTo Bg (aam (e::es) X.env)).all (λx=>!x.1) && (aej Bg (ac5 [] X.env)).all (λx=>x.1.isSome)
   && decide ((e::es).length+([]:List ada).length+(if ([]:List ada).isEmpty then 0 else 1)<30))=true:=by rfl)
  (BZ:(apos.endLine==Bg.line)=true:=by rfl) (hs:aam (e::es) X.env=(false,eval e X.env)::aam es X.env:=by rfl) (Cr:(backTo Bg (aam es X.env)).any (·.1)=false:=by rfl) :
  PE X (.Call (.Attribute o name apos) (e::es) [] Bg) (Tw X.K T r to t):=by
 intro pins s σ H Q I h
 refine wpAny_Call_method_late B0 Fe BZ rfl (Bu (ho pins s σ H _ I h) λv s1 ⟨x,H1,I1,r1,ty,q1⟩=>?_)
 obtain⟨h1,h2⟩:=sK I1 r1 ty
 refine⟨T,id,pa,slot,Iv,h1,h2,?_⟩
 have hA:=ha Bg pins s1 σ H1 _ I1 q1
 rw[hs]at hA ⊢
 refine ac2 (by show (false || (backTo Bg (aam es X.env)).any (·.1))=false;rw[Cr]<;>rfl) (Calls.evalArgs_plain ?_)
 exact Bu hA λus s2 ⟨vs,H2,I2,r2,q2⟩=>hm pins s2 σ H2 x vs v us Q I2 r1 r2 q2

def Td(X:Cx)(id:String)(r:V->List V->Hp->VK->Prop):Prop :=
 ∀(pins:List (Addr×Obj)) (s:Shared) (σ:St) (H:Hp) (x:V) (xs:List V) (v:Value) (us:List Value) (Q:VK),Inv X pins σ H s->RelV x v->AM xs us->r x xs H Q ->
  wpAny (model X.prog X.w) X.A (call (.builtin id) (v::us)) (EP X pins σ Q) X.xe s
theorem AM.one:∀{x:V} {us:List Value},AM [x] us->∃u,us=[u]/\RelV x u
 |_,_,.cons r .nil=>⟨_,rfl,r⟩
theorem AM.zero:∀{us:List Value},AM [] us->us=[]
 |_,.nil=>rfl
theorem AM.dropLast(h:AM xs us):AM xs.dropLast us.dropLast:=by
 induction h with
 |nil=>exact .nil
 |cons r t ih=>
  cases t with
  |nil=>exact .nil
  |cons q t'=>exact .cons r ih
theorem AM.eraseIdx:∀{xs:List V} {us:List Value} (i:Nat),AM xs us->AM (xs.eraseIdx i) (us.eraseIdx i)
 |_,_,_,.nil=>.nil
 |_,_,0,.cons _ t=>t
 |_,_,i+1,.cons r t=>.cons r (AM.eraseIdx i t)
theorem AM.rep(h:AM xs us):∀k:Nat,AM (aaI k xs).flatten (aaI k us).flatten
 |0=>.nil
 |k+1=>by
  rw[abf,abf,abZ,abZ]
  exact AM.append h (AM.rep h k)
theorem so(l:List α):l.eraseIdx (l.length - 1)=l.dropLast:=by
 induction l with
 |nil=>rfl
 |cons a r ih=>
  cases r with
  |nil=>rfl
  |cons b r=>
   have e:(a::b::r).length - 1=((b::r).length - 1)+1:=by
    have h1:(a::b::r).length=r.length+2:=rfl
    have h2:(b::r).length=r.length+1:=rfl
    omega
   rw[e,List.eraseIdx_cons_succ,ih]
   all_goals rfl
theorem nA:∀(l:List α) (i:Nat),(l.eraseIdx i).length<=l.length
 |[],_=>aal _
 |_::_,0=>aca _
 |_::r,i+1=>Nat.succ_le_succ (nA r i)
theorem nJ(iN:List Value):∀(k:Nat) (acc:List Value),
  List.foldl (λx1 x2=>x1++x2) acc.toArray (aaI k iN.toArray)=(acc++(aaI k iN).flatten).toArray
 |0,acc=>by simp
 |k+1,acc=>by
  have e:acc.toArray++iN.toArray=(acc++iN).toArray:=by simp
  have e2:(acc++iN)++(aaI k iN).flatten=acc++(aaI (k+1) iN).flatten:=by
   rw[abf,abZ,adH]
  rw[<- e2,<- nJ iN k (acc++iN),<- e,abf,List.foldl_cons]
variable{l b:Addr}{ys zs:List V}
variable{t':Nat}
theorem Inv.MD{its':List Value}{f:Array Value->Array Value}(I:Inv X pins σ H s)(hH:H l=some (.lst xs))
  (e:s.heap.get? l=some {cls:=.type "list",data:=.seq iN.toArray n}) (hf:f iN.toArray=its'.toArray) (hv:AM ys its') (hz:ys.length<=sizeLine) :
  Inv X pins σ (upd H l (.lst ys)) {s with heap:=s.heap.update l (abA f),toks:=t'}:=by
 have q:=PySem.IsL.update e f
 rw[hf]at q
 refine I.write (x:=l) (e:=l) (by rw[hH];exact trivial) (.inl rfl) (λb' u hb hu=>(ac1 s.heap (abA f) (abO hb)).trans hu) ⟨_,q⟩ ?_
 exact⟨hz,its',_,hv,q⟩
theorem Inv.OL(I:Inv X pins σ H s)(hv:AM ys iN)(hz:ys.length<=sizeLine):
  Inv X pins σ (upd H s.heap.objs.size (.lst ys)) {s with heap:=s.heap.push {cls:=.type "list",data:=.seq iN.toArray},toks:=t'} :=
 I.laid (λ_ _ q=>aad _ q) (aal _) ⟨hz,iN,0,hv,aai _ rfl⟩
theorem Inv.fresh(I:Inv X pins σ H s):H s.heap.objs.size=none:=I.AU.fresh (aal _)
theorem Inv.Iq(I:Inv X pins σ H s)(hH:H l=some (.lst xs)):xs.length<=sizeLine/\∃(iN:List Value) (n:Nat),AM xs iN/\xs.length=iN.length/\s.heap.get? l=some {cls:=.type "list",data:=.seq iN.toArray n}:=by
 obtain⟨z,iN,n,r,e⟩:=I.AU l _ hH
 exact⟨z,iN,n,r,r.length,e⟩
theorem vN(h:n<=sizeLine):adI n=false:=by
 unfold adI
 exact decide_eq_false (by omega)
def qN:V->List V->Hp->VK->Prop:=λx vs H Q=>∃l xs y,x=.ref l/\vs=[y]/\H l=some (.lst xs)/\xs.length<sizeLine/\Q .AF (upd H l (.lst (xs++[y])))
theorem bR:Td X "list.append" qN:=by
 intro pins s σ H x vs v us Q I rx rv h
 obtain⟨l,xs,y,rfl,rfl,hH,hz,q⟩:=h
 cases rx
 obtain⟨u,rfl,ru⟩:=rv.one
 obtain⟨z,iN,n,r,hl,e⟩:=I.Iq hH
 refine aeT F.slot_list_append ⟨_,e,rfl⟩ F.entry_list_append (F.args_list_append_2 _ _) (PySem.list_append l iN.toArray n u (by rw[aae];omega)) ⟨e,?_⟩
 refine⟨.AF,_,I.MD (its':=iN++[u]) hH e (by simp) (r.append (.cons ru .nil)) ?_,rfl,q⟩
 rw[aau,aeb]
 omega
def Oh:V->List V->Hp->VK->Prop:=λx vs H Q=>∃l xs y,x=.ref l/\vs=[]/\H l=some (.lst xs)/\xs[xs.length - 1]?=some y/\Q y (upd H l (.lst xs.dropLast))
theorem zm:Td X "list.pop" Oh:=by
 intro pins s σ H x vs v us Q I rx rv h
 obtain⟨l,xs,y,rfl,rfl,hH,hy,q⟩:=h
 cases rx
 have VB:=rv.zero
 subst VB
 obtain⟨z,iN,n,r,hl,e⟩:=I.Iq hH
 obtain⟨u,hu,ru⟩:=r.get hy
 have Qs:iN.toArray[iN.toArray.size - 1]?=some u:=by
  show iN.toArray[iN.length - 1]?=some u
  rw[<- abn,<- hl]
  exact hu
 refine aeT F.slot_list_pop ⟨_,e,rfl⟩ F.entry_list_pop (F.args_list_pop_1 _) (MeetsSeq.list_pop_last l iN.toArray n u Qs (by rw[aae];omega)) ⟨e,?_⟩
 refine⟨y,_,I.MD (its':=iN.dropLast) hH e ?_ r.dropLast ?_,ru,q⟩
 .show iN.toArray.eraseIdxIfInBounds (iN.toArray.size - 1)=iN.dropLast.toArray
  rw[aae,ae3,so]
 .rw[List.length_dropLast]
  omega
def My:V->List V->Hp->VK->Prop:=λx vs H Q=>∃l xs i k y,x=.ref l/\vs=[.int i]/\H l=some (.lst xs) /\ -(2 ^ 63)<=i/\i<2 ^ 63/\seqIndex? i xs.length=some k/\xs[k]?=some y/\Q y (upd H l (.lst (xs.eraseIdx k)))
theorem vP:Td X "list.pop" My:=by
 intro pins s σ H x vs v us Q I rx rv h
 obtain⟨l,xs,i,k,y,rfl,rfl,hH,h1,h2,hk,hy,q⟩:=h
 cases rx
 obtain⟨u,rfl,ru⟩:=rv.one
 obtain⟨t,rfl⟩:=ru
 obtain⟨z,iN,n,r,hl,e⟩:=I.Iq hH
 obtain⟨w,hw,EN⟩:=r.get hy
 refine aeT F.slot_list_pop ⟨_,e,rfl⟩ F.entry_list_pop (F.args_list_pop_2 _ _)
  (MeetsSeq.list_pop_at l iN.toArray n i t k w (fitsIndex_both h1 h2) (by rw[aae,<- hl];exact hk) (by rw[<- abn];exact hw) (by rw[aae];omega)) ⟨e,?_⟩
 refine⟨y,_,I.MD (its':=iN.eraseIdx k) hH e ?_ (r.eraseIdx k) ?_,EN,q⟩
 .show iN.toArray.eraseIdxIfInBounds k=(iN.eraseIdx k).toArray
  rw[ae3]
 .have:=nA xs k
  omega
def Ow:R2:=λx y H Q=>∃l b xs zs,x=.ref l/\y=.ref b/\H l=some (.lst xs)/\H b=some (.lst zs)/\xs.length+zs.length<=sizeLine/\∀p,H p=none->Q (.ref p) (upd H p (.lst (xs++zs)))
theorem zj:BL X (acj .Add) Ow:=by
 intro pins s σ H x y v u Q I rx ry h
 obtain⟨l,b,xs,zs,rfl,rfl,hH,hB,hz,q⟩:=h
 cases rx
 cases ry
 obtain⟨z,iN,n,r,hl,e⟩:=I.Iq hH
 obtain⟨z2,Cq,n2,r2,IZ,e2⟩:=I.Iq hB
 refine PySem.P.add_list e e2 ?_ (by rw[aae,aae];omega)
 have ea:iN.toArray++Cq.toArray=(iN++Cq).toArray:=by simp
 rw[ea]
 exact⟨.ref _,_,I.OL (t':=s.toks) (r.append r2) (by rw[aau];omega),rfl,q _ I.fresh⟩
def Og:R2:=λx y H Q=>∃l k xs,x=.ref l/\y=.int k/\H l=some (.lst xs) /\ -(2 ^ 63)<=k/\k<2 ^ 63/\xs.length*k.toNat<=sizeLine /\
 ∀p,H p=none->Q (.ref p) (upd H p (.lst (aaI k.toNat xs).flatten))
theorem xY(xs:List α)(k:Nat):(aaI k xs).flatten.length=k*xs.length:=by
 induction k with
 |zero=>simp
 |succ k ih=>rw[abf,abZ,aau,ih,Nat.succ_mul,ad8]
theorem zg:BL X (acj .Mult) Og:=by
 intro pins s σ H x y v u Q I rx ry h
 obtain⟨l,k,xs,rfl,rfl,hH,h1,h2,hz,q⟩:=h
 cases rx
 obtain⟨t,rfl⟩:=ry
 obtain⟨z,iN,n,r,hl,e⟩:=I.Iq hH
 have hlen:iN.toArray.size*k.toNat<=sizeLine:=by rw[aae,<- hl];exact hz
 have BQ:¬ iN.toArray.size*k.toNat > (2 ^ 63 - 1) / 8:=by
  have:(sizeLine:Nat)<=(2 ^ 63 - 1) / 8:=by decide
  omega
 have Sw:¬ (!Builtin.List.listFitsIndex k)=true:=by
  rw[fitsIndex_both h1 h2]
  exact aax
 have Pb:¬ adI (iN.toArray.size*k.toNat)=true:=by
  rw[vN hlen]
  exact aax
 have Ht:List.foldl (λx1 x2=>x1++x2) #[] (aaI (if iN.toArray.isEmpty=true then 0 else k.toNat) iN.toArray)=(aaI k.toNat iN).flatten.toArray:=by
  have f0:∀m:Nat,List.foldl (λx1 x2=>x1++x2) #[] (aaI m iN.toArray)=(aaI m iN).flatten.toArray:=λm=>by
   have:=nJ iN m []
   rw[aaN]at this
   exact this
  rw[f0]
  cases iN with
  |nil=>simp
  |cons a r'=>rw[if_neg (by simp)]
 refine wpAny_binaryOp_repeat_ref (T := "list") (U := "int") (by decide) ⟨_,e,rfl⟩ (λs'=>typeIs_int s' k t) noFill_list_mul F.fills_int_mul F.slot_int_rmul repeat_list F.slot_int_index.lookup
  (aeT F.slot_int_rmul (typeIs_int s k t) F.entry_int_rmul (F.args_int_rmul_2 _ _) (int___rmul___int_list k t l iN.toArray n)
   ⟨e,rfl,⟨_,e,rfl⟩,aeT F.slot_list_mul ⟨_,e,rfl⟩ F.entry_list_mul (F.args_list_mul_2 _ _) (AutoListH.list___mul___list_int_3 l iN.toArray n k t Sw BQ Pb) ⟨e,?_⟩⟩)
 rw[Ht]
 exact⟨.ref _,_,I.OL (t':=s.toks) (r.rep k.toNat) (by rw[xY,Nat.mul_comm];exact hz),rfl,q _ I.fresh⟩
variable{prog:aaJ}{w:World}{A:Around}{E:Value->Shared->Prop}
end L2
namespace Att
open PySem PySem.W PySem.Calls PyProof.Rows
theorem lK{P:Params}{h:Heap}:∀(ns:List Int) (vs:List Value),WellAll P h vs (ns.map WData.int)->IntsAre vs ns:=by
 intro ns
 induction ns with
 |nil=>
  intro vs w
  rw[ad9]at w
  cases w
  exact .nil
 |cons n ns ih=>
  intro vs w
  rw[aan]at w
  cases w with
  |cons a b=>
   cases a
   exact .cons _ _ (ih _ b)
theorem sT{l:OpenLaw}{n:Nat}(hn:l.most=some n){P:Params}{h:Heap}{args:List WData}{vals:List Value}
  (KH:l.row.toRowW.claim.pre args=true) (RZ:WellAll P h vals args) :
  ∃a vs ns,vals=[aaL a]/\args=[WData.list (ns.map WData.int)]/\h.get? a=some {cls:=.type "list",data:=.seq vs.toArray}/\IntsAre vs ns/\ns.length<=n:=by
 have VG:WShape.hasAll [] args [.list .int]=true:=(pre_splitW KH).1
 have hc:l.pre.holds [] {args:=args}=true:=(pre_splitW KH).2
 obtain⟨d,r,rfl,h1,h2⟩:=hasAllW_cons VG
 obtain rfl:=hasAllW_nil h2
 obtain⟨xs,rfl,h3⟩:=hasW_list h1
 obtain⟨ns,rfl⟩:=items_int h3
 have hlen:ns.length<=n:=by
  unfold OpenLaw.pre at hc
  have h4:(WTm.not (.lt (.lit (.int (n:Int))) (.len (.arg 0)))).holds [] {args:=[.list (ns.map .int)]}=true:=by
   have h4:=(holds_andW hc).1
   rw[hn]at h4
   exact h4
  have h5:=condW_of h4 (w_not (w_lt w_lit (w_len_list (w_arg rfl))))
  rw[aac]at h5
  refine Nat.le_of_not_lt λq=>?_
  have q':(n:Int)<((ns.length:Nat):Int):=by omega
  first
   |(rw[decide_eq_true q']at h5;exact absurd h5 (by decide))
   |(simp at h5;omega)
 cases RZ with
 |cons w1 w2=>
  cases w2
  cases w1 with
  |list ho MU=>exact⟨_,_,ns,rfl,rfl,ho,lK ns _ MU,hlen⟩
theorem tf(l:OpenLaw)(args:List WData):l.row.toRowW.claim.post args (.bool true) args=true :=
 postW_of (r:=l.row.toRowW) (X:=(true==true))
  (show WShape.has [] (.bool true) .bool=true by first|rfl|decide|simp[WShape.has,WShape.arms,WShape.armsAll])
  (show (WTm.eq .res (.lit (.bool true))).value [] {args:=args,res:=some (.bool true),after:=args}=some (.bool (true==true))from w_eq_bool (w_res rfl) w_lit) rfl
theorem GX{l:OpenLaw}{n:Nat}{q:aaJ}{loose:List Str}{XP:(Str->Option Value)->Heap->Prop}{YP:World->Heap->Prop}{d:DefRec}
  (hn:l.most=some n) (Pe:d.params.defaults=[])
  (call:∀(w:World) (s₀ s₁:Shared) (mg mb:Str->Option Value) (fa:Addr) (o:Obj) (pm cd doc:Value) (a:Addr) (vs:List Value) (ns:List Int),
   Ground q loose [] XP w s₀ mg mb s₁.heap->YP w s₁.heap ->
   s₁.heap.get? fa=some o->o.data=.func (docDef d.name d.params d.body d.scope pm cd doc)->s₁.heap.CodeRec cd d.name->mg d.name=some (.ref fa) ->
   s₁.heap.get? a=some {cls:=.type "list",data:=.seq vs.toArray}->IntsAre vs ns->ns.length<=n->s₁.gens=#[] ->
   ad6 (model l.prog w) aft (.call (.ref fa) ⟨[.ref a],[]⟩) (λr s'=>r=.ok (.ret (.bool true))/\OldK s₁.heap s'.heap/\s'.os=s₁.os/\aeA s'.gens) s₁) :
  WalkO q loose XP YP l.row.toRowW d [] (λf vs=>PySem.call f vs):=by
 intro w s₀ s₁ mg mb G Y fa o pm cd doc dV kV ho hd hcd hD hmg hg args vals as KH V0 Xs RZ Xw
 obtain rfl:dV=.none:=Dflts.none hD Pe
 obtain rfl:kV=.none:=Dflts.noKw hD
 obtain⟨a,vs,ns,rfl,rfl,ML,hints,hlen⟩:=sT hn KH RZ
 refine enter_call (adr (call w s₀ s₁ mg mb fa o pm cd doc a vs ns G Y ho (fd_plain hd) hcd hmg ML hints hlen hg) λr s' hq=>?_)
 obtain⟨rfl,h2,h3,h4⟩:=hq
 exact⟨.inl ⟨.bool true,.bool true,[],rfl,λ_=>rfl,.bool true,tf l _,λ_=>⟨ae5,λ_ hm=>(nomatch hm)⟩⟩,h2,h3,h4⟩
variable{prog:aaJ}{w:World}{A:Around}{E:Value->Shared->Prop}{s:Shared}{K:Frag}
end Att
namespace L2
open PySem PySem.Spec PyProof.Rows
theorem ng:∀{vs:List Value} {ns:List Int},IntsAre vs ns->AM (ns.map V.int) vs
 |_,_,.nil=>.nil
 |_,_,.cons n t h=>.cons ⟨t,rfl⟩ (ng h)
end L2

namespace L2
open PySem PySem.Spec PyProof.Rows
def e9(s:Stmt):Arguments:=match s with
 |.FunctionDef _ a _ _ _ _ _ _ _ _=>a
 |_=>{posonlyargs:=[],args:=[],vararg:=none,kwonlyargs:=[],kw_defaults:=[],kwarg:=none,defaults:=[]}
def bI(s:Stmt):List Stmt:=match s with
 |.FunctionDef _ _ b _ _ _ _ _ _ _=>b
 |_=>[]
def aq(s:Stmt):Scope:=match s with
 |.FunctionDef _ _ _ _ _ _ sc _ _ _=>sc
 |_=>{kind:=.function,names:=[],isGenerator:=false,isCoroutine:=false}
abbrev Cz:NR:=λ_ _ _ _ _ _=>False
abbrev E0:XK:=λ_ _ _=>False
variable{X:Cx}
theorem GC:Gq Cz X E0:=λ_ _ _ _ _ _ _ h=>h.elim
structure Ii(K:aah)(x qual:Str)(st:Stmt)(f:Addr)(fd:abW):Prop where
 ex:∃(oc:Value) (od:Option Addr) (kV doc pm:Value) (an:Option Addr) (Bi ct:Value) (Kw:Array (Option Value)),
  fd=acP x qual (e9 st) (bI st) (aq st) .none kV doc pm an Bi ct/\K.lookup f=some ⟨oc,od,.func fd,Kw⟩/\aer K Bi qual=true
 kp:abQ K (.ref f)=true
variable{P:aaJ}{w:World}{K:aah}{mg:Str->Option Value}{base:Heap}
variable{x qual:Str}{st:Stmt}{f:Addr}{fd:abW}{N ps:List Str}{k:Nat}{sp:Sp}
theorem Ii.ok(F:Ii K x qual st f fd)(S:ay N ps (aq st))(len:∀vs H Q E,sp vs H Q E->vs.length=ps.length)
  (GL:∀(Bi:Value) (A:Around) (outer:List Env) (s:Shared) (H:Hp) (vs:List V) (Q:VK) (E:XK),Br k (A.deeper (envOfC qual (aq st) s.heap.objs.size f Bi))->sp vs H Q E ->
   ∃t,HH (Fl Cz P w K mg base N qual (aq st) f Bi A outer s H E).J5 (bI st) t/\t {nx:=λ_ H'=>Q .AF H',rt:=Q} (start N vs) H):A8 P w K mg base Cz (k+1) f fd ps sp:=by
 obtain⟨oc,od,kV,doc,pm,an,Bi,ct,Kw,rfl,lk,hcd⟩:=F.ex
 refine wQ lk hcd S len λA outer s H vs Q E hr J9=>?_
 obtain⟨t,h,q⟩:=GL Bi A outer s H vs Q E hr J9
 exact⟨t,h.J5,q⟩
theorem Ii.binds(F:Ii K x qual st f fd)
  (h:∀(kV doc pm:Value) (an:Option Addr) (Bi ct:Value) (us:List Value),us.length=ps.length->acN (acP x qual (e9 st) (bI st) (aq st) .none kV doc pm an Bi ct) ⟨us,[]⟩=pure (ps.zip us)):Binds K fd ps []:=by
 obtain⟨oc,od,kV,doc,pm,an,Bi,ct,Kw,rfl,lk,hcd⟩:=F.ex
 exact .all (h kV doc pm an Bi ct)
variable{pm:Value}
theorem ug{oc:Value}{od an:Option Addr}{Kw:Array (Option Value)}{kV doc Bi ct:Value}(l:K.lookup f=some ⟨oc,od,.func (acP x qual (e9 st) (bI st) (aq st) .none kV doc pm an Bi ct),Kw⟩)
  (c:aer K Bi qual=true) (k:abQ K (.ref f)=true):Ii K x qual st f (acP x qual (e9 st) (bI st) (aq st) .none kV doc pm an Bi ct):=⟨⟨oc,od,kV,doc,pm,an,Bi,ct,Kw,rfl,l,c⟩,k⟩
variable{pos:Pos}
theorem pv(i:Nat)(hN:X.N[i]?=some x:=by rfl)(hv:G5 X.env.scope x:=by first|exact Or.inl rfl|exact Or.inr (Or.inl rfl)|exact Or.inr (Or.inr rfl))(hd:(x==("__debug__" : Str))=false:=by decide)
  (hcd:(x==("__classdict__" : Str))=false:=by decide):PE X (.Name x pos) (BF i):=yW hN hv hd hcd
variable{A B:Prop}
theorem EH(h:B):if false=true then A else B:=by
 rw[if_neg aax]
 exact h
theorem Fc(h:A):if true=true then A else B:=by
 rw[if_pos rfl]
 exact h
theorem OR{c:Prop}[Decidable c](h1:c->A)(h2:¬ c->B):if c then A else B:=by
 by_cases h:c
 .rw[if_pos h]
  exact h1 h
 .rw[if_neg h]
  exact h2 h
def eQ(H H':Hp):Prop:=∀b o,H b=some o->H' b=some o
theorem eQ.refl(H:Hp):eQ H H:=λ_ _ h=>h
variable{H H':Hp}{l:Addr}
theorem eQ.free(e:eQ H H')(h:H' l=Option.none):H l=Option.none:=by
 cases q:H l with
 |none=>rfl
 |some o=>
  rw[e l o q]at h
  cases h
variable{a:Addr}{xs:List V}
theorem eQ.seq(e:eQ H H')(h:Cm K H a xs):Cm K H' a xs:=by
 rcases h with (h|⟨o,h⟩)|h
 .exact .inl (.inl (e _ _ h))
 .exact .inl (.inr ⟨o,e _ _ h⟩)
 .exact .inr h
section
variable{κ:Type}[DecidableEq κ]
def C3(kvs:List (κ×V))(k:κ):Option V:=(kvs.find? λkv=>decide (kv.1=k)).map (·.2)
def putK(kvs:List (κ×V))(k:κ)(v:V):List (κ×V) :=
 if (kvs.any λkv=>decide (kv.1=k))=true then kvs.map (λkv=>if kv.1=k then (kv.1,v)else kv)else kvs++[(k,v)]
theorem g6{p:κ×V}{r:List (κ×V)}{k:κ}(e:p.1=k):C3 (p::r) k=some p.2:=by simp[C3,abD,e]
theorem g8{p:κ×V}{r:List (κ×V)}{k:κ}(e:¬ p.1=k):C3 (p::r) k=C3 r k:=by simp[C3,abD,e]
theorem oA(k:κ):∀kvs:List (κ×V),(kvs.any λkv=>decide (kv.1=k))=(C3 kvs k).isSome
 |[]=>rfl
 |p::r=>by
  rw[List.any_cons]
  by_cases e:p.1=k
  .simp only[g6 e,decide_eq_true e,Bool.true_or,aeH]
  .rw[g8 e,decide_eq_false e,Bool.false_or];exact oA k r
theorem dL(kvs:List (κ×V))(k:κ)(v:V):(putK kvs k v).length<=kvs.length+1:=by
 unfold putK
 split
 .rw[aac];omega
 .rw[aau,abp,acz];omega
theorem EJ.CZ{o:Option V}{u:Option Value}(r:EJ o u):o.isSome=u.isSome:=by
 cases o with
 |none=>cases u with
  |none=>rfl
  |some _=>exact(show False from r).elim
 |some _=>cases u with
  |none=>exact(show False from r).elim
  |some _=>rfl
theorem KV.val{kvs:List (κ×V)}{vs:List (κ×Value)}(r:KV kvs vs)(k:κ):EJ (C3 kvs k) (aeR vs k):=by
 unfold KV at r
 induction r with
 |nil=>exact acr
 |@cons p q ps qs h t ih=>
  obtain⟨h1,h2⟩:=h
  by_cases e:p.1=k
  .have e':q.1=k:=h1.symm.trans e
   have b:aeR (q::qs) k=some q.2:=by simp[aeR,abD,e']
   rw[g6 e,b];exact h2
  .have e':¬ q.1=k:=λz=>e (h1.trans z)
   have b:aeR (q::qs) k=aeR qs k:=by simp[aeR,abD,e']
   rw[g8 e,b];exact ih
theorem KV.any{kvs:List (κ×V)}{vs:List (κ×Value)}(r:KV kvs vs)(k:κ):(kvs.any λkv=>decide (kv.1=k))=vs.any λkv=>decide (kv.1=k):=by
 unfold KV at r
 induction r with
 |nil=>rfl
 |cons h t ih=>rw[List.any_cons,List.any_cons,ih,h.1]
theorem KV.Mq{kvs:List (κ×V)}{vs:List (κ×Value)}(r:KV kvs vs)(k:κ){y:V}{u:Value}(ry:RelV y u):
  KV (kvs.map λkv=>if kv.1=k then (kv.1,y)else kv) (vs.map λkv=>if kv.1=k then (kv.1,u)else kv):=by
 unfold KV at r ⊢
 induction r with
 |nil=>exact .nil
 |@cons p q ps qs h t ih=>
  rw[aan,aan]
  refine .cons ?_ ih
  obtain⟨h1,h2⟩:=h
  by_cases e:p.1=k
  .rw[if_pos e,if_pos (h1.symm.trans e)];exact⟨h1,ry⟩
  .rw[if_neg e,if_neg (λz=>e (h1.trans z))];exact⟨h1,h2⟩
theorem KV.put{kvs:List (κ×V)}{vs:List (κ×Value)}(r:KV kvs vs)(k:κ){y:V}{u:Value}(ry:RelV y u):KV (putK kvs k y) (stored vs k u):=by
 unfold putK stored
 rw[r.any k]
 by_cases e:(vs.any λkv=>decide (kv.1=k))=true
 .rw[if_pos e,if_pos e];exact r.Mq k ry
 .rw[if_neg e,if_neg e];exact Paired.snoc r ⟨rfl,ry⟩
theorem KV.keys{kvs:List (κ×V)}{vs:List (κ×Value)}(r:KV kvs vs):kvs.map (·.1)=vs.map (·.1):=by
 unfold KV at r
 induction r with
 |nil=>rfl
 |cons h t ih=>rw[aan,aan,ih,h.1]
theorem KV.length{kvs:List (κ×V)}{vs:List (κ×Value)}(r:KV kvs vs):kvs.length=vs.length:=aeG r
end
variable{u:Value}
theorem fX{k:Key}(r:RelV (kV k) u):(aN P w).is k u=true:=by
 cases k with
 |inl i=>obtain⟨t,e⟩:=(show ∃t,u=Value.int i t from r);subst e;exact qu P w i t
 |inr x=>obtain⟨t,e⟩:=(show ∃t,u=acn x t from r);subst e;exact qt P w x t
theorem nC:∀{ks:List Key} {us:List Value},AM (ks.map kV) us->ItemsAre (aN P w) ks us
 |[],_,r=>by rw[ad9]at r;cases r;exact .nil
 |k::ks,_,r=>by
  rw[aan]at r
  cases r with
  |cons h t=>exact .cons (fX h) (nC t)
abbrev KT(H:Hp):List (List Key×V)->List (List Key×Addr×Value)->Prop:=Paired λp q=>p.1=q.1/\H q.2.1=some (.tup (p.1.map kV))/\RelV p.2 q.2.2
variable{kvs:List (List Key×V)}
theorem KT.val{xs:List (List Key×Addr×Value)}(r:KT H kvs xs)(k:List Key):EJ (C3 kvs k) ((atKey xs k).map (·.2)):=by
 induction r with
 |nil=>exact acr
 |@cons p q ps qs h t ih=>
  obtain⟨h1,_,h2⟩:=h
  by_cases e:p.1=k
  .have e':q.1=k:=h1.symm.trans e
   have b:atKey (q::qs) k=some q.2:=by simp[atKey,abD,e']
   rw[g6 e,b];exact h2
  .have e':¬ q.1=k:=λz=>e (h1.trans z)
   have b:atKey (q::qs) k=atKey qs k:=by simp[atKey,abD,e']
   rw[g8 e,b];exact ih
variable{y:V}
theorem KT.Mq{xs:List (List Key×Addr×Value)}(r:KT H kvs xs)(k:List Key)(ry:RelV y u):
  KT H (kvs.map λkv=>if kv.1=k then (kv.1,y)else kv) (xs.map (putAt k u)):=by
 induction r with
 |nil=>exact .nil
 |@cons p q ps qs h t ih=>
  rw[aan,aan]
  refine .cons ?_ ih
  obtain⟨h1,h2,h3⟩:=h
  unfold putAt
  by_cases e:p.1=k
  .rw[if_pos e,if_pos (h1.symm.trans e)];exact⟨h1,h2,ry⟩
  .rw[if_neg e,if_neg (λz=>e (h1.trans z))];exact⟨h1,h2,h3⟩
variable{b:Addr}
theorem KT.put{xs:List (List Key×Addr×Value)}(r:KT H kvs xs)(k:List Key)(hb:H b=some (.tup (k.map kV)))(ry:RelV y u):
  KT H (putK kvs k y) (storedH xs k b u):=by
 have e:(kvs.any λkv=>decide (kv.1=k))=(atKey xs k).isSome:=by
  rw[oA,(r.val k).CZ,aeZ]
 unfold putK storedH
 rw[e]
 by_cases q:(atKey xs k).isSome=true
 .rw[if_pos q,if_pos q];exact r.Mq k ry
 .rw[if_neg q,if_neg q];exact Paired.snoc r ⟨rfl,hb,ry⟩
theorem KT.keeps{xs:List (List Key×Addr×Value)}(r:KT H kvs xs)(ht:∀b ys,H b=some (.tup ys)->H' b=some (.tup ys)):KT H' kvs xs :=
 Paired.MB r λ_ _ z=>⟨z.1,ht _ _ z.2.1,z.2.2⟩
variable{h:Heap}
theorem wK{u:HO}(ok:DA P w H h)(e:Rd H a u):A7 P w H h a u:=e.ok ok
theorem io{kvs:List (Key×V)}(ok:DA P w H h)(e:Rd H a (.dK kvs)):kvs.length<=sizeLine/\(a==acp)=false/\∃vs,KV kvs vs/\h.DictOf (aN P w) a vs :=
 show A7 P w H h a (.dK kvs)from wK ok e
theorem lS{kvs:List (Key×V)}(ok:DA P w H h)(e:H a=some (.dK kvs)):kvs.length<=sizeLine/\(a==acp)=false/\∃vs,KV kvs vs/\h.DictOf (aN P w) a vs:=io ok (.inl e)
theorem jd{ks:List Key}(ok:DA P w H h)(e:H a=some (.tup (ks.map kV))):(afp (aN P w)).is h ks a:=by
 obtain⟨_,iN,r,o,h1,h2,n,h3⟩:=(show A7 P w H h a (.tup (ks.map kV))from ok a _ e)
 exact⟨o,iN.toArray,n,h1,h2,h3,by simpa using nC r⟩
theorem jO(ok:DA P w H h)(e:Rd H a (.dT kvs)):kvs.length<=sizeLine/\(a==acp)=false /\
  ∃xs,KT H kvs xs/\h.DictOfH (afp (aN P w)) a xs:=by
 obtain⟨z,y,xs,r,o,es,ep,h1,h2,h3,h4,h5⟩:=(show A7 P w H h a (.dT kvs)from wK ok e)
 refine⟨z,y,xs,r,o,es,ep,h1,h2,h3,h4,λx hx=>?_,h5⟩
 have all:∀{l:List (List Key×V)} {m:List (List Key×Addr×Value)},KT H l m->∀x∈m,(afp (aN P w)).is h x.1 x.2.1:=by
  intro l m q
  induction q with
  |nil=>intro x hx;exact nomatch hx
  |@cons p q ps qs hq t ih=>
   intro x hx
   rcases List.mem_cons.mp hx with e|hx
   .subst e
    exact jd ok (by rw[<- hq.1];exact hq.2.1)
   .exact ih x hx
 exact all r x hx
theorem Ay(ok:DA P w H h)(e:H a=some (.dT kvs)):kvs.length<=sizeLine/\(a==acp)=false /\
  ∃xs,KT H kvs xs/\h.DictOfH (afp (aN P w)) a xs:=jO ok (.inl e)
def G1(H:Hp)(a:Addr)(y:V)(r:Option V):Prop :=
 (∃kvs k,Rd H a (.dK kvs)/\y=kV k/\r=C3 kvs k)\/∃kvs k b,Rd H a (.dT kvs)/\y=.ref b/\H b=some (.tup (k.map kV))/\r=C3 kvs k
def Nl(H:Hp)(a:Addr)(y v:V)(H':Hp):Prop :=
 (∃kvs k,H a=some (.dK kvs)/\y=kV k/\kvs.length<sizeLine/\H'=upd H a (.dK (putK kvs k v))) \/
 ∃kvs k b,H a=some (.dT kvs)/\y=.ref b/\H b=some (.tup (k.map kV))/\kvs.length<sizeLine/\H'=upd H a (.dT (putK kvs k v))
theorem RQ{kvs:List (Key×V)}{k:Key}(e:H a=some (.dK kvs)):G1 H a (kV k) (C3 kvs k):=.inl ⟨kvs,k,.inl e,rfl,rfl⟩
variable{v:V}
theorem Vq{kvs:List (Key×V)}{k:Key}(e:H a=some (.dK kvs))(hl:kvs.length<sizeLine):Nl H a (kV k) v (upd H a (.dK (putK kvs k v))):=.inl ⟨kvs,k,e,rfl,hl,rfl⟩
variable{pins:List (Addr×Obj)}{σ:St}{s:Shared}{r:Value}{o:Option V}{A:Around}{E:Value->Shared->Prop}
theorem Inv.UN(I:Inv X pins σ H s):acp<s.heap.objs.size:=by
 have h:aaK<s.heap.objs.size:=(I.mod.glob.keeps I.bk).lt
 exact Nat.lt_trans (by decide) h
variable{Q:Value->Shared->Prop}
theorem nN(hu:A.units+1<cLine)(I:Inv X pins σ H s)(g:G1 H a y (some v))(ry:RelV y u)(h:∀w' s',Inv X pins σ H s'->RelV v w'->Q w' s'):
  wpAny (model X.prog X.w) A (adv (.ref a) u) Q E s:=by
 rcases g with ⟨kvs,k,e,ey,l⟩|⟨kvs,k,b,e,ey,eb,l⟩
 .subst ey
  obtain⟨z,hd,vs,rel,dd⟩:=io I.AU e
  obtain⟨w',hw,EN⟩:=EJ.some_of (v:=v) (o:=aeR vs k) (by rw[l];exact rel.val k)
  exact wpAny_getItem_of (fX ry) dd.mapOf hw (h w' _ (I.tok _) EN)
 .subst ey
  cases (show u=aaL b from ry)
  obtain⟨z,hd,xs,rel,dd⟩:=jO I.AU e
  obtain⟨w',hw,EN⟩:=EJ.some_of (v:=v) (o:=(atKey xs k).map (·.2)) (by rw[l];exact rel.val k)
  obtain⟨p,hp,NC⟩:=Option.map_eq_some_iff.mp hw
  refine wpAny_getItem_heap (adq hu) (jd I.AU eb) dd hp ?_
  rw[NC]
  exact h w' _ (I.tok _) EN
theorem AB(hu:A.units+1<cLine)(I:Inv X pins σ H s)(g:G1 H a y o)(ry:RelV y u)(h:∀s',Inv X pins σ H s'->Q (.bool o.isSome) s'):
  wpAny (model X.prog X.w) A (aaX .In u (.ref a)) Q E s:=by
 rcases g with ⟨kvs,k,e,ey,l⟩|⟨kvs,k,b,e,ey,eb,l⟩
 .subst ey
  obtain⟨z,hd,vs,rel,dd⟩:=io I.AU e
  refine wpAny_in_of (fX ry) hd dd.mapOf ?_
  rw[<- (rel.val k).CZ,<- l]
  exact h _ (I.tok _)
 .subst ey
  cases (show u=aaL b from ry)
  obtain⟨z,hd,xs,rel,dd⟩:=jO I.AU e
  refine wpAny_in_heap (adq hu) (jd I.AU eb) hd dd ?_
  have q:=(rel.val k).CZ
  rw[aeZ]at q
  rw[<- q,<- l]
  exact h _ (I.tok _)
theorem yo(hu:A.units+1<cLine)(I:Inv X pins σ H s)(g:G1 H a y o)(ry:RelV y u)(h:∀s',Inv X pins σ H s'->Q (.bool (!o.isSome)) s'):
  wpAny (model X.prog X.w) A (aaX .NotIn u (.ref a)) Q E s:=by
 rcases g with ⟨kvs,k,e,ey,l⟩|⟨kvs,k,b,e,ey,eb,l⟩
 .subst ey
  obtain⟨z,hd,vs,rel,dd⟩:=io I.AU e
  refine wpAny_notIn_of (fX ry) hd dd.mapOf ?_
  rw[<- (rel.val k).CZ,<- l]
  exact h _ (I.tok _)
 .subst ey
  cases (show u=aaL b from ry)
  obtain⟨z,hd,xs,rel,dd⟩:=jO I.AU e
  refine wpAny_notIn_heap (adq hu) (jd I.AU eb) hd dd ?_
  have q:=(rel.val k).CZ
  rw[aeZ]at q
  rw[<- q,<- l]
  exact h _ (I.tok _)
variable{h':Heap}{t':Nat}
theorem jP{ob:HO}(I:Inv X pins σ H s)(mu:PX (H a))(hs:aci a s.heap h')(he:∃q,h'.get? a=some q)(new:A7 X.prog X.w (upd H a ob) h' a ob):
  Inv X pins σ (upd H a ob) {s with heap:=h',toks:=t'} :=
 I.write (x:=a) (e:=a) mu (.inl rfl) (λb q hb z=>(hs.2 b hb).trans z) he new
variable{vs:List (Key×Value)}
theorem pN{kvs:List (Key×V)}(z:kvs.length<=sizeLine)(hd:(a==acp)=false)(rel:KV kvs vs)(dd:h'.DictOf (aN P w) a vs):
  A7 P w H' h' a (.dK kvs):=⟨z,hd,vs,rel,dd⟩
theorem uJ{Q:Unit->Shared->Prop}(hu:A.units+1<cLine)(I:Inv X pins σ H s)(g:Nl H a y v H')(ry:RelV y u)(rv:RelV v r)(h:∀s',Inv X pins σ H' s'->Q () s'):
  wpAny (model X.prog X.w) A (setItem (.ref a) u r) Q E s:=by
 rcases g with ⟨kvs,k,e,ey,l,eH⟩|⟨kvs,k,b,e,ey,eb,l,eH⟩
 .subst ey eH
  obtain⟨z,hd,vs,rel,dd⟩:=lS I.AU e
  have hz:vs.length<=sizeLine:=by rw[<- rel.length];exact z
  have hl:(putK kvs k v).length<=sizeLine:=by have:=dL kvs k v;omega
  refine wpAny_setItem_pairs (hsz:=hz) (fX ry) dd λh' Ki hs=>h _ ?_
  have he:∃q,h'.get? a=some q:=let ⟨q,_,_,hq,_⟩:=Ki;⟨q,hq⟩
  exact jP I (by rw[e];exact acr) hs he (pN hl hd (rel.put k rv) Ki)
 .subst ey eH
  cases (show u=aaL b from ry)
  obtain⟨z,hd,xs,rel,dd⟩:=Ay I.AU e
  have hz:xs.length<=sizeLine:=by rw[<- aeG rel];exact z
  have hl:(putK kvs k v).length<=sizeLine:=by have:=dL kvs k v;omega
  refine wpAny_setItem_heap (hsz:=hz) (adq hu) (jd I.AU eb) dd λh' Ki hs=>h _ ?_
  obtain⟨q,es,ep,hq,h2,h3,h4,_,h5⟩:=Ki
  refine jP I (by rw[e];exact acr) hs ⟨q,hq⟩ ⟨hl,hd,_,(rel.put k eb rv).keeps λc ys ec=>?_,q,es,ep,hq,h2,h3,h4,h5⟩
  rw[aj (r9 ec e (λz=>nomatch z))]
  exact ec
variable{kvs:List (Key×V)}{k:Key}
theorem Az(I:Inv X pins σ H s)(e:Rd H a (.dK kvs))(h:∀t s',Inv X pins σ H s'->Q (.int kvs.length t) s'):wpAny (model X.prog X.w) A (call (.builtin "len") [.ref a]) Q E s:=by
 obtain⟨z,hd,vs,rel,dd⟩:=io I.AU e
 refine call_len_dict hd dd (by rw[<- rel.length];rw[aaC]at z;omega) ?_
 rw[<- rel.length]
 exact h _ _ (I.tok _)
def IP(i:Expr):Prop:=∀ov iv,afq i false ov iv=operate [ov,iv] (adv ov iv)
variable{env:Env}
theorem qE{prog:aaJ}{value slice:Expr}{T id:String}
  (hl:typeLookup (.type T) "__getitem__" = pure (some (.builtin id))) (hs:IP slice)
  (h:wpAny (model prog w) A (eval value env) (λo s₁=>wpAny (model prog w) A (eval slice env) (λi s₂=>s₂.TypeIs o T/\wpAny (model prog w) A (adv o i) Q E s₂) E s₁) E s) :
  wpAny (model prog w) A (eval (.Subscript value slice pos) env) Q E s:=by
 refine Subscript_ (aaT h (λo s₁ h₁=>aaT h₁ (λi s₂ h₂=>?_) λ_ _ x=>x) λ_ _ x=>x)
 obtain⟨hT,h₂⟩:=h₂
 unfold subscriptTail
 refine aaa ?_
 rw[getitemInPython_of_ne hT.not_modules]
 refine aaa (wpAny_specialOf hT hl ?_)
 have fin:wpAny (model prog w) A (afq slice false o i) (λr s₃=>wpAny (model prog w) A (letTemporaryGo value o r >>= λ_=>pure r) Q E s₃) E s₂:=by
  rw[hs o i]
  exact wpAny_operating (aaT h₂ (λr s₃ h₃=>aaa (wpAny_letTemporaryGo (aaf h₃))) λ_ _ x=>x)
 first
  |exact aaf (aaa fin)
  |exact aaa (aaf (aaa fin))
  |exact aaa fin
theorem j5(I:Inv X pins σ H s)(g:G1 H a y o):s.TypeIs (.ref a) "dict" :=by
 rcases g with ⟨kvs,k,e,_,_⟩|⟨kvs,k,b,e,_,_,_⟩
 .obtain⟨_,_,vs,_,dd⟩:=io I.AU e
  exact dd.typeIs
 .obtain⟨_,_,xs,_,dd⟩:=jO I.AU e
  exact dd.typeIs
def N7(td ty:TE):TE:=λσ H Q=>td σ H λx H1=>ty σ H1 λy H2=>∃a v,x=.ref a/\G1 H2 a y (some v)/\Q v H2
variable{o i e value:Expr}{pos' FX:Pos}{td ty tv:TE}
theorem xt(hu:X.A.units+1<cLine)(ho:PE X o td)(hi:PE X i ty)(hs:IP i):PE X (.Subscript o i pos) (N7 td ty):=by
 intro pins s σ H Q I h
 refine qE PySem.F.slot_dict_getitem.lookup hs (Bu (ho pins s σ H _ I h) λu s1 ⟨x,H1,I1,rx,q1⟩=>Bu (hi pins s1 σ H1 _ I1 q1) λiv s2 ⟨y,H2,I2,ry,a,v,ex,g,q2⟩=>?_)
 subst ex
 obtain rfl:u=aaL a:=rx
 exact⟨j5 I2 g,nN hu I2 g ry λw' s3 I3 EN=>⟨v,H2,I3,EN,q2⟩⟩
theorem pO(h:Heap)(hb:acp<h.objs.size):A7 P w H (h.push {cls:=.type "dict",data:=.dict #[]}) h.objs.size (.dK []) :=
 ⟨abv _,beq_eq_false_iff_ne.mpr (abO (aas hb)),[],.nil,Heap.DictOf.new h⟩
def FZ:List (TE×TE)->St->Hp->(List (V×V)->Hp->Prop)->Prop
 |[],_,H,Q=>Q [] H
 |(tk,tv)::r,σ,H,Q=>tk σ H λx H1=>tv σ H1 λy H2=>FZ r σ H2 λps H3=>Q ((x,y)::ps) H3
abbrev VV:List (V×V)->List (Value×Value)->Prop:=Paired λp q=>RelV p.1 q.1/\RelV p.2 q.2
def PQ(X:Cx)(pos:Pos)(keys:List (Option Expr))(values:List Expr)(HK:List (TE×TE)):Prop :=
 ∀(pins:List (Addr×Obj)) (s:Shared) (σ:St) (H:Hp) (Q:List (V×V)->Hp->Prop),Inv X pins σ H s->FZ HK σ H Q ->
  wpAny (model X.prog X.w) X.A (evalPairs (pairTrees keys values X.env pos)) (λvs s'=>∃ps H',Inv X pins σ H' s'/\VV ps vs/\Q ps H') X.xe s
theorem xo:PQ X pos [] [] []:=λpins s σ H Q I h=>pairTrees_nil_walk ⟨[],H,I,.nil,h⟩
theorem vq{k v:Expr}{ks:List (Option Expr)}{vs:List Expr}{tk:TE}{HK:List (TE×TE)}(hk:PE X k tk)(hv:PE X v tv)(hr:PQ X pos ks vs HK):
  PQ X pos (some k::ks) (v::vs) ((tk,tv)::HK):=λpins s σ H Q I h=>
 pairTrees_cons_walk (Bu (hk pins s σ H _ I h) λu s1 ⟨x,H1,I1,rx,q1⟩=>Bu (hv pins s1 σ H1 _ I1 q1) λw2 s2 ⟨y,H2,I2,ry,q2⟩=>
  Bu (hr pins s2 σ H2 _ I2 q2) λws s3 ⟨ps,H3,I3,rel,q3⟩=>⟨(x,y)::ps,H3,I3,.cons ⟨rx,ry⟩ rel,q3⟩)
def Ed(kvs more:List (Key×V)):List (Key×V):=more.foldl (λacc kv=>putK acc kv.1 kv.2) kvs
theorem KV.merge:∀{more:List (Key×V)} {rs:List (Key×Value)} {kvs:List (Key×V)} {vs:List (Key×Value)},KV more rs->KV kvs vs->KV (Ed kvs more) (merged vs rs):=by
 intro more rs kvs vs r
 unfold KV at r
 induction r generalizing kvs vs with
 |nil=>intro q;exact q
 |@cons p q ps qs h t ih=>
  intro r0
  have e:KV (putK kvs p.1 p.2) (stored vs q.1 q.2):=by
   have:=r0.put p.1 h.2
   rw[<- h.1];exact this
  exact ih e
theorem iz:∀(more kvs:List (Key×V)),(Ed kvs more).length<=kvs.length+more.length
 |[],kvs=>by show kvs.length<=kvs.length+0;omega
 |p::r,kvs=>by
  have h1:=iz r (putK kvs p.1 p.2)
  have h2:=dL kvs p.1 p.2
  show (Ed (putK kvs p.1 p.2) r).length<=_
  rw[abp];omega
theorem lX{P:aaJ}{w:World}:∀{kvs:List (Key×V)} {ws:List (Value×Value)},VV (kvs.map λkv=>(kV kv.1,kv.2)) ws->∃rs,Carries (aN P w) ws rs/\KV kvs rs
 |[],_,r=>by rw[ad9]at r;cases r;exact⟨[],acr,.nil⟩
 |p::kvs,_,r=>by
  rw[aan]at r
  cases r with
  |@cons a b as bs h t=>
   obtain⟨rs,c,q⟩:=lX (P:=P) (w:=w) t
   obtain⟨b1,b2⟩:=b
   exact⟨(p.1,b2)::rs,⟨fX h.1,rfl,c⟩,.cons ⟨rfl,h.2⟩ q⟩
def N6(HK:List (TE×TE)):TE:=λσ H Q=>∀p,H p=none->FZ HK σ (upd H p (.dK [])) λps H2=>H2 p=some (.dK [])/\∃kvs:List (Key×V),ps=kvs.map (λkv=>(kV kv.1,kv.2))/\kvs.length<=15/\Q (.ref p) (upd H2 p (.dK (Ed [] kvs)))
theorem xr{keys:List (Option Expr)}{values:List Expr}{HK:List (TE×TE)}(h:PQ X pos keys values HK)(MU:keys.all (·.isSome)=true)(hl:keys.length=values.length)(h0:keys≠[])
  (SM:keys.length<=15):PE X (.Dict keys values pos) (N6 HK):=by
 intro pins s σ H Q I q
 have hn:=I.AU.fresh (aal s.heap.objs.size)
 have I1:=I.laid (a:=s.heap.objs.size) (o:=.dK []) (h':=s.heap.push {cls:=.type "dict",data:=.dict #[]}) (t':=s.toks) (λ_ _ q=>aad _ q) (aal _) (pO s.heap I.UN)
 refine wpAny_Dict_walk (knd:=aN X.prog X.w) MU hl h0 SM (Bu (h pins _ σ _ _ I1 (q _ hn)) λws s2 ⟨ps,H2,I2,rel,e,kvs,ep,lk,q2⟩=>?_)
 subst ep
 obtain⟨rs,c,rk⟩:=lX (P:=X.prog) (w:=X.w) rel
 obtain⟨z,hd,Nr,r0,dd⟩:=lS I2.AU e
 cases r0
 refine⟨rs,c,dd,λh' Ki hs=>⟨.ref s.heap.objs.size,_,?_,rfl,q2⟩⟩
 have hz:(Ed [] kvs).length<=sizeLine:=by
  have h1:=iz kvs []
  rw[acz]at h1
  rw[aaC];omega
 have he:∃q,h'.get? s.heap.objs.size=some q:=let ⟨q,_,_,hq,_⟩:=Ki;⟨q,hq⟩
 exact jP I2 (by rw[e];exact acr) hs he (pN hz hd (rk.merge .nil) Ki)
def Xn(H:Hp)(a:Addr):Prop:=(∃kvs,Rd H a (.dK kvs))\/∃kvs,Rd H a (.dT kvs)
theorem zJ(I:Inv X pins σ H s)(d:Xn H a):
  s.TypeIs (.ref a) "dict" /\ (∀b,aaL a=.ref b->∃ob,s.heap.get? b=some ob/\ob.dict=none)/\(a==acp)=false:=by
 rcases d with ⟨kvs,e⟩|⟨kvs,e⟩
 .obtain⟨_,hd,vs,_,dd⟩:=io I.AU e
  refine⟨dd.typeIs,λb q=>?_,hd⟩
  cases q
  obtain⟨ob,_,_,h1,h2,_⟩:=dd
  exact⟨ob,h1,h2.2.1⟩
 .obtain⟨_,hd,xs,_,dd⟩:=jO I.AU e
  refine⟨dd.typeIs,λb q=>?_,hd⟩
  cases q
  obtain⟨ob,_,_,h1,h2,_⟩:=dd
  exact⟨ob,h1,h2.2.1⟩
variable{d:V}{o:Option V}
variable{o f:Expr}{apos Bg:Pos}{tx:TE}
theorem uP:AR X (.builtin "len") (λxs H Q=>∃a kvs,xs=[V.ref a]/\H a=some (.dK kvs)/\Q (.int kvs.length) H):=by
 intro pins s σ H xs us Q I r h
 obtain⟨a,kvs,rfl,ha,q⟩:=h
 obtain⟨u,rfl,ru⟩:=vals1 r
 cases ru
 exact Az I (.inl ha) λt s' I'=>⟨.int kvs.length,H,I',⟨t,rfl⟩,q⟩
section
variable{κ:Type}[DecidableEq κ]
end
end L2
set_option maxHeartbeats 4000000
namespace L2
open PySem PySem.Spec PyProof.Rows
def Dh(cells:List (Str×Addr)):List (Str×ads)->List (Str×Addr)->List (Str×Addr)
 |[],acc=>acc
 |(n,k)::r,acc=>if k==.free then Dh cells r ((n,(cells.lookup n).getD 0)::acc)else Dh cells r acc
theorem lV{env:Env}:∀(names:List (Str×ads)) (acc:List (Str×Addr)),(∀x∈names,x.2=.free->∃c,env.cells.lookup x.1=some c) ->
  (forIn names acc λ(x:Str×ads) (cs:List (Str×Addr))=>match x with
   |(name,kind)=>if (kind==abt)=true then (do let c <- cellOf env name;pure (aed ((name,c)::cs)))else pure (aed cs):Sem (List (Str×Addr)))=pure (Dh env.cells names acc)
 |[],acc,_=>by simp[Dh]
 |(n,k)::r,acc,h=>by
  have hr:=λacc=>lV (env:=env) r acc λx hx=>h x (aar _ hx)
  rw[afA]
  unfold Dh
  by_cases hk:(k==abt)=true
  .obtain⟨c,hc⟩:=h (n,k) aat (by simpa using hk)
   have ET:env.cells.lookup n=some c:=hc
   have e:cellOf env n=pure c:=by unfold cellOf;rw[ET]
   rw[if_pos hk]
   dsimp only
   rw[if_pos hk,e,pure_bind,pure_bind]
   rw[ET]
   exact hr _
  .rw[if_neg hk]
   dsimp only
   rw[if_neg hk,pure_bind]
   exact hr acc
variable{scope:Scope}{env:Env}
theorem iB(h:∀x∈scope.names,x.2=.free->∃c,env.cells.lookup x.1=some c):closureFor scope env=pure (Dh env.cells scope.names []):=by
 have e:=lV (env:=env) scope.names [] h
 unfold closureFor
 simp only[pure_bind,bind_pure]
 exact e
variable{x:Str}
theorem fQ{cells:List (Str×Addr)}{c:Addr}:∀{names:List (Str×ads)} {acc:List (Str×Addr)},(∀y∈names,y.2=.free->∃c,cells.lookup y.1=some c)->(∀c,acc.lookup x=some c->cells.lookup x=some c) ->
  (Dh cells names acc).lookup x=some c->cells.lookup x=some c
 |[],acc,_,ha,e=>ha c e
 |(n,k)::r,acc,h,ha,e=>by
  have hr:∀y∈r,y.2=.free->∃c,cells.lookup y.1=some c:=λy hy=>h y (aar _ hy)
  unfold Dh at e
  split at e
  .rename_i hk
   refine fQ hr (λc' e'=>?_) e
   rw[abo]at e'
   split at e'
   .rename_i hx
    obtain⟨c0,hc⟩:=h (n,k) aat (by simpa using hk)
    have ET:cells.lookup n=some c0:=hc
    rw[ET]at e'
    have:x=n:=by simpa using hx
    rw[this,ET];exact e'
   .exact ha c' e'
  .exact fQ hr ha e
theorem iq{cells:List (Str×Addr)}:∀{names:List (Str×ads)} {acc:List (Str×Addr)},((x,abt)∈names\/∃c,acc.lookup x=some c)->∃c,(Dh cells names acc).lookup x=some c
 |[],acc,h=>by
  rcases h with h|h
  .simp at h
  .exact h
 |(n,k)::r,acc,h=>by
  unfold Dh
  split
  .refine iq ?_
   rcases h with h|⟨c,h⟩
   .rcases List.mem_cons.mp h with e|e
    .cases e
     exact .inr ⟨_,by rw[abo];simp;rfl⟩
    .exact .inl e
   .refine .inr ?_
    rw[abo]
    split
    .exact⟨_,rfl⟩
    .exact⟨c,h⟩
  .rename_i hk
   refine iq ?_
   rcases h with h|h
   .rcases List.mem_cons.mp h with e|e
    .cases e
     exact absurd rfl hk
    .exact .inl e
   .exact .inr h
def AK(X:Cx)(scope:Scope)(N:List Str)(C:Addr)(s₀:Shared)(H₀:Hp)(ex:List Addr)(pn:List (Addr×Obj)):Cx :=
 {X with N:=N,s₀:=s₀,H₀:=H₀,env:=compEnvC scope (Dh X.env.cells scope.names []) C X.env,outer:=X.stack,stack:=X.stack,ex:=ex,fn:=λ_=>false,pn:=pn,xe:=λ_ _=>False}
def BC(js:List (Option Nat))(σ:St):St:=js.map λo=>o.bind λj=>(σ[j]?).getD none
def CI(M:List Str)(scope:Scope)(N:List Str)(js:List (Option Nat)):Bool :=
 decide (N.length=js.length) && (N.zip js).all λp=>match p.2 with
  |none=>true
  |some j=>decide (M[j]?=some p.1) && (decide (scope.names.lookup p.1=some .free) || decide (scope.names.lookup p.1=none))
def D9(env:Env)(scope:Scope):Bool :=
 scope.names.all λx=>match x.2 with
  |.free=>decide (env.kindOf x.1=some .cell) || decide (env.kindOf x.1=some .free)
  |.cell=>false
  |.local=>decide (scope.names.lookup x.1=some .local)
  |_=>true
theorem lu{scope:Scope}{k:ads}:∀{names:List (Str×ads)},(∀y∈names,y.2≠.cell)->(k=.cell\/k=.free) ->
  (names.map λ(n,k)=>if (k==abt && env.scope.kind==.function && env.kindOf n==some .cell)then (n,acX)else (n,k)).lookup x=some k->(x,abt)∈names:=by
 intro names hn hk h
 have hm:=ab1 h
 obtain⟨⟨n,k0⟩,h0,e⟩:=List.mem_map.mp hm
 dsimp only at e
 split at e
 .rename_i hc
  cases e
  simp only[aaE]at hc
  have:k0=.free:=by simpa using hc.1.1
  subst this
  exact h0
 .cases e
  rcases hk with e|e
  .exact absurd e (hn _ h0)
  .subst e;exact h0
theorem iY{env:Env}{x:Str}:∀{names:List (Str×ads)},names.lookup x=some .free ->
  (names.map λ(n,k)=>if (k==abt && env.scope.kind==.function && env.kindOf n==some .cell)then (n,acX)else (n,k)).lookup x=some .cell \/
  (names.map λ(n,k)=>if (k==abt && env.scope.kind==.function && env.kindOf n==some .cell)then (n,acX)else (n,k)).lookup x=some .free
 |[],h=>by simp at h
 |(n,k)::r,h=>by
  have ih:=@iY env x r
  show adm x ((if (k==abt && env.scope.kind==.function && env.kindOf n==some .cell)=true then (n,acX)else (n,k))::_)=_\/adm x ((if (k==abt && env.scope.kind==.function && env.kindOf n==some .cell)=true then (n,acX)else (n,k))::_)=_
  cases hx:x==n with
  |true=>
   simp only[abo,hx]at h
   cases h
   by_cases hc:(abt==abt && env.scope.kind==.function && env.kindOf n==some .cell)=true
   .rw[if_pos hc];left;simp only[abo,hx]
   .rw[if_neg hc];right;simp only[abo,hx]
  |false=>
   simp only[abo,hx]at h
   by_cases hc:(k==abt && env.scope.kind==.function && env.kindOf n==some .cell)=true
   .rw[if_pos hc];simp only[abo,hx];exact ih h
   .rw[if_neg hc];simp only[abo,hx];exact ih h
variable{X:Cx}{pins:List (Addr×Obj)}{σ:St}{H:Hp}{s:Shared}
structure K0(env:Env)(scope:Scope):Prop where
 fr:∀x∈scope.names,x.2=.free->env.kindOf x.1=some .cell\/env.kindOf x.1=some .free
 nc:∀x∈scope.names,x.2≠.cell
 lc:∀x∈scope.names,x.2=.local->scope.names.lookup x.1=some .local
theorem qJ(h:D9 env scope=true):K0 env scope:=by
 have q:=List.all_eq_true.mp h
 refine⟨λx hx e=>?_,λx hx e=>?_,λx hx e=>?_⟩
 .have:=q x hx
  rw[e]at this
  simp only[aef,decide_eq_true_eq]at this
  exact this
 .have:=q x hx
  rw[e]at this
  cases this
 .have:=q x hx
  rw[e]at this
  simpa using this
theorem K0.cells(h:K0 X.env scope)(ok:X.Ok):∀x∈scope.names,x.2=.free->∃c,X.env.cells.lookup x.1=some c:=λx hx e=>ok.has x.1 (h.fr x hx e)
structure LN(M:List Str)(scope:Scope)(N:List Str)(js:List (Option Nat)):Prop where
 len:N.length=js.length
 at':∀(i:Nat) (x:Str) (j:Nat),N[i]?=some x->js[i]?=some (some j)->M[j]?=some x/\(scope.names.lookup x=some .free\/scope.names.lookup x=none)
variable{N:List Str}{js:List (Option Nat)}
theorem pU{M:List Str}(h:CI M scope N js=true):LN M scope N js:=by
 unfold CI at h
 rw[aaE]at h
 refine⟨of_decide_eq_true h.1,λi x j hx hj=>?_⟩
 have hm:(x,some j)∈N.zip js:=by
  refine abk (i:=i) ?_
  rw[aaY]
  exact⟨hx,hj⟩
 have q:=List.all_eq_true.mp h.2 _ hm
 simp only[aaE,aef,decide_eq_true_eq]at q
 exact q
theorem iX{env:Env}{x:Str}:∀{names:List (Str×ads)},names.lookup x=none ->
  (names.map λ(n,k)=>if (k==abt && env.scope.kind==.function && env.kindOf n==some .cell)then (n,acX)else (n,k)).lookup x=none
 |[],h=>rfl
 |(n,k)::r,h=>by
  have ih:=@iX env x r
  show adm x ((if (k==abt && env.scope.kind==.function && env.kindOf n==some .cell)=true then (n,acX)else (n,k))::_)=_
  cases hx:x==n with
  |true=>simp only[abo,hx]at h;cases h
  |false=>
   simp only[abo,hx]at h
   by_cases hc:(k==abt && env.scope.kind==.function && env.kindOf n==some .cell)=true
   .rw[if_pos hc];simp only[abo,hx];exact ih h
   .rw[if_neg hc];simp only[abo,hx];exact ih h
variable{C:Addr}{fp:List Addr}
theorem pI{h₁:Heap}{tk:Nat}(I:Inv X pins σ H s)(D7:K0 X.env scope)(BQ:LN X.N scope N js)(Bf:scope.kind=.function)
  (hf:∀b∈fp,DS X pins H b) (Wc:∀b∈fp,b<s.heap.objs.size) (hC:C=s.heap.objs.size) (keep:∀b o,s.heap.get? b=some o->h₁.get? b=some o) (IY:h₁.Ns C λ_=>none) :
  Inv (AK X scope N C s H fp (X.pn++pins)) [] (BC js σ) H {s with heap:=h₁,toks:=tk}:=by
 have Ke:=D7.cells I.ok
 have NN:∀x c,(Dh X.env.cells scope.names []).lookup x=some c->X.env.cells.lookup x=some c:=λx c e=>fQ Ke (λc e=>by simp at e) e
 have Nx:∀b o,s.heap.get? b=some o->b≠C:=λb o e=>by rw[hC];exact aas (aak e)
 refine⟨⟨I.ok.mod,Bf,I.ok.glob,I.ok.blt,afa hC.symm,λx y c e1 e2=>?_,λx hx=>?_,λx c e=>?_,I.ok.hd,I.ok.frames,.inl rfl,λb hb=>⟨?_,λx c e=>?_⟩,I.bs,aa3 I.ok.Lz I.sz,λb o e hb=>?_,λb hb z=>?_,I.stack,I.HM⟩,
  rfl,I.bare,Un.kept keep,⟨_,IY,λi x v h1 h2 h3=>?_⟩,λx c e=>?_,I.AU.fresh (afa hC.symm),λx c e=>I.C1 x c (NN x c e),λp hp=>?_,I.AU.kept keep,?_⟩
 .exact I.ok.inj x y c (NN x c e1) (NN y c e2)
 .have hm:(x,abt)∈scope.names:=by
   rcases hx with hx|hx
   .exact lu (scope:=scope) (env:=X.env) (k:=.cell) D7.nc (.inl rfl) hx
   .exact lu (scope:=scope) (env:=X.env) (k:=.free) D7.nc (.inr rfl) hx
  exact iq (.inl hm)
 .exact absurd e (by intro z;cases z)
 .show b≠C
  rw[hC];exact aas (Wc b hb)
 .exact(hf b hb).2.2.2.2.1 x c (NN x c e)
 .obtain⟨_,_,_,q,_⟩:=hf b hb
  rcases q with q|q
  .exact I.ok.Jy b o e q
  .exact absurd (aaG (aak (I.ok.bs b o e).1) q) (abj _)
 .obtain⟨_,q1,q2,_⟩:=hf b hb
  rcases List.mem_cons.mp (I.D8 b z)with e|e
  .exact q1 e
  .exact q2 e
 .have h1:N[i]?=some x:=h1
  unfold BC at h2
  rw[aaj]at h2
  cases ej:js[i]? with
  |none=>rw[ej]at h2;cases h2
  |some o=>
   cases o with
   |none=>rw[ej]at h2;cases h2
   |some j=>
    rw[ej]at h2
    have Kh:(σ[j]?).getD none=some v:=by simpa using h2
    have hσ:σ[j]?=some (some v):=by
     cases eσ:σ[j]? with
     |none=>rw[eσ]at Kh;cases Kh
     |some w'=>rw[eσ]at Kh;exact congrArg some Kh
    obtain⟨hM,Kd⟩:=BQ.at' i x j h1 ej
    rcases Kd with Kd|Kd
    case inr=>
     have hn:=iX (env:=X.env) Kd
     rcases h3 with h3|h3|h3
     .exact absurd (hn.symm.trans h3) (by simp)
     .exact absurd (hn.symm.trans h3) (by simp)
     .exact absurd (hn.symm.trans h3) (by simp)
    have KL:=ab1 Kd
    have Uq:=D7.fr _ KL rfl
    have R1:G5 X.env.scope x:=Uq.elim (λz=>.inr (.inl z)) λz=>.inr (.inr z)
    obtain⟨m,hn,hl⟩:=I.loc
    obtain⟨u,ru,lk⟩:=hl j x v hM hσ R1
    refine⟨u,ru,?_⟩
    rcases lk with ⟨k,_⟩|⟨k,c,ec,z⟩
    .rcases Uq with q|q
     .rw[show X.env.kindOf x=some .cell from q]at k;cases k
     .rw[show X.env.kindOf x=some .free from q]at k;cases k
    .obtain⟨c',ET⟩:=iq (cells:=X.env.cells) (acc:=[]) (.inl KL)
     have e2:=NN x c' ET
     rw[ec]at e2;cases e2
     refine .inr ⟨iY (env:=X.env) Kd,c,ET,?_⟩
     obtain⟨o,ho,hd⟩:=z
     exact⟨o,keep _ _ ho,hd⟩
 .obtain⟨v,o,ho,hd⟩:=I.cell x c (NN x c e)
  exact⟨v,o,keep _ _ ho,hd⟩
 .have Sa:p∈X.pn++pins:=by
   have NC:p∈(X.pn++pins)++[]:=hp
   rwa [abE]at NC
  obtain⟨e,n,ne,nf,d⟩:=I.pin p Sa
  refine⟨keep _ _ e,n,Nx _ _ e,λz=>?_,d⟩
  rcases List.mem_cons.mp (I.D8 p.1 z)with q|q
  .exact ne q
  .exact nf q
 .unfold BC
  rw[aac]
  exact BQ.len.symm
variable{H':Hp}{s':Shared}
theorem pJ{σ':St}(I:Inv X pins σ H s)(J:Inv (AK X scope N C s H fp (X.pn++pins)) [] σ' H' s')(hf:∀b∈fp,DS X pins H b):Inv X pins σ H' s' :=
 I.PB (ch:=fp) J.os J.base J.AU J.bare λb hb=>let ⟨_,q1,_,q3,q4,q5⟩:=hf b hb;⟨q3,q1,q4,q5⟩
def DI(js:List (Option Nat))(g:TG):Prop:=∀x σ H Q,g x σ H Q->g x σ H λσ' H'=>Q σ' H'/\σ'.length=σ.length/\∀(k j:Nat),js[k]?=some (some j)->σ'[k]?=σ[k]?
def P5(js:List (Option Nat))(g:Jc):Prop:=∀x σ H Q,g x σ H Q->g x σ H λσ' H'=>Q σ' H'/\σ'.length=σ.length/\∀(k j:Nat),js[k]?=some (some j)->σ'[k]?=σ[k]?
variable{i:Nat}
theorem jJ(h:js[i]?=some none:=by rfl):DI js (CG i):=by
 intro x σ H Q hq
 refine⟨hq,by simp,λk j hk=>?_⟩
 rw[aaF]
 rintro rfl
 rw[h]at hk;cases hk
theorem zM:P5 js MY:=by
 rintro x σ H Q ⟨e,hq⟩
 exact⟨e,hq,rfl,λ_ _ _=>rfl⟩
variable{t:TG}{u:Jc}
theorem yc(h1:DI js t)(h2:P5 js u)(mono:∀x σ H Q Q',(∀a b,Q a b->Q' a b)->t x σ H Q->t x σ H Q')(OJ:∀x σ H Q Q',(∀a b,Q a b->Q' a b)->u x σ H Q->u x σ H Q'):P5 js (GN t u):=by
 rintro x σ H Q ⟨v,r,e,hq⟩
 refine⟨v,r,e,mono _ _ _ _ _ (λσ1 H1 hh=>?_) (h1 v σ H _ hq)⟩
 obtain⟨a,l1,k1⟩:=hh
 exact OJ _ _ _ _ _ (λσ2 H2 ⟨b,l2,k2⟩=>⟨b,l2.trans l1,λk j hk=>(k2 k j hk).trans (k1 k j hk)⟩) (h2 r σ1 H1 _ a)
variable{K:aah}{n:Nat}
theorem zL{t:Jc}(h:P5 js t):DI js (MW K n t):=by
 rintro x σ H Q ⟨a,xs,e,hs,hl,hq⟩
 exact⟨a,xs,e,hs,hl,h xs σ H Q hq⟩
theorem jK:∀x σ H (Q Q':St->Hp->Prop),(∀a b,Q a b->Q' a b)->CG i x σ H Q->CG i x σ H Q':=λ_ _ _ _ _ h q=>h _ _ q
theorem mQ(m1:∀x σ H (Q Q':St->Hp->Prop),(∀a b,Q a b->Q' a b)->t x σ H Q->t x σ H Q')(m2:∀x σ H (Q Q':St->Hp->Prop),(∀a b,Q a b->Q' a b)->u x σ H Q->u x σ H Q'):
  ∀x σ H (Q Q':St->Hp->Prop),(∀a b,Q a b->Q' a b)->GN t u x σ H Q->GN t u x σ H Q':=λ_ _ _ _ _ h ⟨v,r,e,q⟩=>⟨v,r,e,m1 _ _ _ _ _ (λ_ _=>m2 _ _ _ _ _ h) q⟩
def PF(X:Cx)(ifs:List Expr)(t:TT):Prop :=
 ∀(pins:List (Addr×Obj)) (s:Shared) (σ:St) (H:Hp) (Q:Bool->Hp->Prop),Inv X pins σ H s->t σ H Q ->
  wpAny (model X.prog X.w) X.A (forIn ifs true λc r=>if r=true then do let ok <- isTrue c X.env (eval c X.env);pure (aed ok)else pure (aed r)) (TP X pins σ Q) X.xe s
def LX:TT:=λ_ H Q=>Q true H
theorem tu:PF X [] LX:=λpins s σ H Q I h=>wpAny_tests_nil ⟨H,I,h⟩
variable{c:Expr}
theorem tm{t:TT}(h:PT X c t):PF X [c] t:=λpins s σ H Q I hq=>wpAny_tests_one (h pins s σ H Q I hq)
def Rh(wi:TI)(g:TG)(tc:TT)(te:TE)(js:List (Option Nat)):TE:=λσ H Q=>wi σ H λJ H1=>∀l,H1 l=none ->
 ∃W:Nat->Nat->List V->Hp->Prop,(∃m,W 0 m [] (upd H1 l (.lst [])))/\∀i m ys H2,W i m ys H2 ->
  (J.stop i H2/\Q (.ref l) H2)\/(J.go i H2/\∀x H3,J.yld i H2 x H3->g x (BC js σ) H3 λσ4 H4=>tc σ4 H4 λb H5=>
   if b=true then te σ4 H5 λy H6=>H6 l=some (.lst ys)/\ys.length<sizeLine/\∃m',m'<m/\W (i+1) m' (ys++[y]) (upd H6 l (.lst (ys++[y])))else ∃m',m'<m/\W (i+1) m' ys H5)
variable{tg elt iter:Expr}{ifs:List Expr}{pos:Pos}{wi:TI}{g:TG}{tc:TT}{te:TE}
variable{Q:VK}{E:Value->Shared->Prop}{pos':Pos}
theorem qW{use:Option (Value->Sem Unit)}{QQ:Value->Shared->Prop}(hc:X.calm=true)(hx:X.xe=λ_ _=>False)(hi:PI X tg iter wi)
  (hg:∀C s₀ H₀ ex pn,PG (AK X scope N C s₀ H₀ ex pn) tg g) (ht:∀C s₀ H₀ ex pn,PF (AK X scope N C s₀ H₀ ex pn) ifs tc) (he:∀C s₀ H₀ ex pn,PE (AK X scope N C s₀ H₀ ex pn) elt te) (JN:DI js g)
  (D7:D9 X.env scope=true) (BQ:CI X.N scope N js=true) (Bf:scope.kind=.function) (hs:∀x,abb iter X.env x=pure x)
  (I:Inv X pins σ H s) (h:Rh wi g tc te js σ H Q)
  (fin:∀(l C:Addr) (H':Hp) (s':Shared),Inv X pins σ H' s'->Q (.ref l) H'->H' C=none->C≠X.env.locals->X.s₀.heap.objs.size<=C->(∀x c,X.env.cells.lookup x=some c->c≠C)->(∀p∈X.pn++pins,p.1≠C)->(∃m,s'.heap.Ns C m)->afl (model X.prog X.w) X.A E use QQ (.ref l) C (.ok .next) s') :
  wpAny (model X.prog X.w) X.A (adO (.ListComp elt [⟨tg,iter,ifs,0⟩] scope pos) scope X.env pos' (newList []) false (eval iter X.env) use) QQ E s:=by
 have SC:=qJ D7
 have CP:=pU BQ
 refine wpAny_comprehension_free (cl:=Dh X.env.cells scope.names []) rfl hs (iB (SC.cells I.ok)) Bf SC.lc ?_
 refine aaT (hi pins s σ H _ I h) (λv s1 h1=>aaT h1 (λQp s2 h2=>?_) (λ_ _ z=>by rw[hx]at z;exact z.elim)) (λ_ _ z=>by rw[hx]at z;exact z.elim)
 obtain⟨it,fp,tn,J,H2,rfl,I2,T,Mf,f2,hq⟩:=h2
 have NK:H2 s2.heap.objs.size=none:=I2.AU.fresh (aal _)
 obtain⟨W,⟨m0,w0⟩,turn⟩:=hq s2.heap.objs.size NK
 refine aba (ael (λx hx=>SC.nc x hx) (by intro y hy;simp at hy) (λh₁ hns₁ hsb₁=>?_) Bf)
 dsimp only at hns₁ hsb₁ ⊢
 generalize KS:s2.heap.push {cls:=.type "list",dict:=none,data:=.seq ([]:List Value).toArray}=hp3 at hns₁ hsb₁ ⊢
 have Pt:hp3.objs.size=s2.heap.objs.size+1:=by rw[<- KS,aa4]
 have I3:Inv X pins σ (upd H2 s2.heap.objs.size (.lst [])) {s2 with heap:=hp3}:=by
  rw[<- KS]
  exact I2.laid (t':=s2.toks) (λb u e=>aad _ e) (aal _) ⟨by show 0<=_;exact abv _,[],_,.nil,aai _ rfl⟩
 have keep:∀b o,hp3.get? b=some o->h₁.get? b=some o:=λb o e=>hsb₁.extBut b o (aas (aak e)) (aad _ e)
 have M4:∀b∈fp,b<s2.heap.objs.size:=λb hb=>by
  obtain⟨o,e,_⟩:=T.obj _ _ Mf b hb
  exact aak e
 have f3:∀b∈fp,DS X pins (upd H2 s2.heap.objs.size (.lst [])) b:=λb hb=>⟨by rw[aj (aas (M4 b hb))];exact(f2 b hb).1,(f2 b hb).2⟩
 have J4:=pI (tk:=s2.toks+([]:List (Str×Value)).length) (C:=hp3.objs.size) (fp:=fp) (h₁:=h₁) (scope:=scope) (N:=N) (js:=js) I3 SC CP Bf f3 (λb hb=>by show b<hp3.objs.size;rw[Pt];exact abr (M4 b hb)) rfl keep (by
  have:(λx=>adm x ([]:List (Str×Value)).reverse)=λ_=>none:=by funext x;rfl
  rw[this]at hns₁;exact hns₁)
 have Oc:tn 0 h₁:=T.keep _ _ _ Mf λb hb o e=>keep b o (by rw[<- KS];exact aad _ e)
 have loop:∀s4:Shared,s4={s2 with heap:=h₁,toks:=s2.toks+([]:List (Str×Value)).length} ->
   ad6 (model X.prog X.w) X.A (.compLoop (.ListComp elt [⟨tg,iter,ifs,0⟩] scope pos) 0 (.ref it) (.ref s2.heap.objs.size) (compEnvC scope (Dh X.env.cells scope.names []) hp3.objs.size X.env)) (afl (model X.prog X.w) X.A E use QQ (.ref s2.heap.objs.size) hp3.objs.size) s4:=by
  rintro s4 rfl
  generalize hY:AK X scope N hp3.objs.size {s2 with heap:=hp3} (upd H2 s2.heap.objs.size (.lst [])) fp (X.pn++pins)=Y at J4
  have M5:∀{H':Hp},(∀b∈fp,H' b=none)->∀b∈fp,DS Y [] H' b:=λhn b hb=>by
   subst hY
   refine⟨hn b hb,?_,?_,.inl hb,λx c e=>?_,λp hp=>?_⟩
   .show b≠hp3.objs.size
    rw[Pt];exact aas (abr (M4 b hb))
   .intro z
    rcases List.mem_cons.mp (I3.D8 b z)with q|q
    .exact(f3 b hb).2.1 q
    .exact(f3 b hb).2.2.1 q
   .exact(f3 b hb).2.2.2.2.1 x c (fQ (SC.cells I.ok) (λc e=>by simp at e) e)
   .exact(f3 b hb).2.2.2.2.2 p (by simpa[AK]using hp)
  have Su:PG Y tg g:=by subst hY;exact hg _ _ _ _ _
  have R6:PF Y ifs tc:=by subst hY;exact ht _ _ _ _ _
  have Sx:PE Y elt te:=by subst hY;exact he _ _ _ _ _
  have eA:Y.A=X.A:=by subst hY;rfl
  have eP:Y.prog=X.prog:=by subst hY;rfl
  have eW:Y.w=X.w:=by subst hY;rfl
  have eK:Y.K=X.K:=by subst hY;rfl
  have eC:Y.calm=true:=by subst hY;exact hc
  have eX:Y.xe=λ_ _=>False:=by subst hY;rfl
  have eE:Y.env=compEnvC scope (Dh X.env.cells scope.names []) hp3.objs.size X.env:=by subst hY;rfl
  have T':Turn Y.prog Y.w Y.K tg J fp it tn:=by rw[eP,eW,eK];exact T
  have eL:(BC js σ).length=js.length:=by unfold BC;rw[aac]
  rw[<- eP,<- eW,<- eA,<- eE]
  refine codeAny_loop rfl (λn s'=>∃i ys H',Inv Y [] (BC js σ) H' s'/\tn i s'.heap/\(∀b∈fp,H' b=none)/\W i n ys H') (λn s' hI=>?_) m0 ⟨0,[],_,J4,Oc,λb hb=>(f3 b hb).1,w0⟩
  obtain⟨i,ys,H5,I5,Ko,M3,w5⟩:=hI
  show wpAny _ Y.A ((compTurn (.ListComp elt [⟨tg,iter,ifs,0⟩] scope pos) 0 (.ref it) (.ref s2.heap.objs.size) Y.env).onRaise (λx=>do noteFrame x Y.env;theTreesLotGoes x)) _ _ s'
  refine wpAny_noted ?_
  rw[compTurn_list]
  refine aaa (acB (aaa ?_))
  have Hq:∀(x:Value) (s:Shared) (P:Prop),Y.xe x s->P:=λx s P z=>by rw[eX]at z;exact z.elim
  rcases turn i n ys H5 w5 with ⟨stop,qn⟩|⟨go,step⟩
  .refine aaT (T'.done Y rfl rfl rfl eC i [] s' _ H5 Y.xe I5 (M5 M3) Ko stop) (λr s6 ⟨hr,I6⟩=>?_) λx s z=>Hq x s _ z
   subst hr
   refine aaf ?_
   show afl _ _ _ _ _ _ _ _ _
   rw[eP,eW,eA]
   have back:Inv X pins σ H5 s6:=by subst hY;exact pJ I3 I6 f3
   have KI:∃m,s6.heap.Ns hp3.objs.size m:=by
    obtain⟨m,hm,_⟩:=I6.loc
    have:Y.env.locals=hp3.objs.size:=by rw[eE];rfl
    rw[this]at hm
    exact⟨m,hm⟩
   have SK:H5 hp3.objs.size=none:=by
    have:=I6.free
    have e:Y.env.locals=hp3.objs.size:=by rw[eE];rfl
    rw[e]at this;exact this
   refine fin s2.heap.objs.size hp3.objs.size H5 s6 back qn SK ?_ ?_ ?_ ?_ KI
   .exact ab8 I3.lt
   .exact I3.sz
   .intro x c e z
    obtain⟨v,o,ho,_⟩:=I3.cell x c e
    exact absurd (aak ho) (by rw[z];exact abj _)
   .intro p hp z
    have:=aak (I3.pin p hp).1
    rw[z]at this;exact absurd this (abj _)
  .refine aaT (T'.item Y rfl rfl rfl eC i [] s' _ H5 Y.xe I5 (M5 M3) Ko go) (λr s6 h6=>?_) λx s z=>Hq x s _ z
   obtain⟨u,hr,h6⟩:=h6
   subst hr
   dsimp only
   refine aaa ?_
   refine aaT h6 (λ_ s7 h7=>?_) λx s z=>Hq x s _ z
   obtain⟨x,H7,I7,r7,y7,Me,SQ⟩:=h7
   have Ti:=I7.pinned (M5 SQ) (T.obj _ _ Me)
   have g7:=JN x (BC js σ) H7 _ (step x H7 y7)
   refine aaa ?_
   refine aaT (Su _ s7 (BC js σ) H7 x u _ Ti r7 g7) (λ_ s8 h8=>?_) λx s z=>Hq x s _ z
   obtain⟨σ8,H8,I8,q8,l8,k8⟩:=h8
   refine aaa ?_
   refine aaT (R6 _ s8 σ8 H8 _ I8 q8) (λb s9 h9=>?_) λx s z=>Hq x s _ z
   obtain⟨H9,I9,q9⟩:=h9
   have again:∀{s':Shared} {H':Hp},Inv Y ([]++Ea fp s7.heap) σ8 H' s'->Inv Y [] (BC js σ) H' s'/\tn (i+1) s'.heap/\∀b∈fp,H' b=none:=λ{s' H'} I'=>by
    refine⟨(I'.Dm).weak l8.symm λk v e=>?_,T.keep _ _ _ Me λb hb o e=>(I'.pin (b,o) (aaO _ (aaO _ (cw hb e)))).1,λb hb=>?_⟩
    .cases ej:js[k]? with
     |none=>
      unfold BC at e
      rw[aaj,ej]at e;cases e
     |some o=>
      cases o with
      |none=>
       unfold BC at e
       rw[aaj,ej]at e;cases e
      |some j=>rw[k8 k j ej];exact e
    .obtain⟨o,e,d⟩:=T.obj _ _ Me b hb
     exact(I'.pin (b,o) (aaO _ (aaO _ (cw hb e)))).2.1
   cases b with
   |false=>
    rw[if_neg aax]at q9
    obtain⟨m',hm,w9⟩:=q9
    obtain⟨a1,a2,a3⟩:=again I9
    exact aaf ⟨rfl,m',hm,i+1,ys,H9,a1,a2,a3,w9⟩
   |true=>
    rw[if_pos rfl]at q9
    refine aaa (aaa ?_)
    refine aaT (Sx _ s9 σ8 H9 _ I9 q9) (λy Rv SO=>?_) λx s z=>Hq x s _ z
    obtain⟨yv,QO,Tj,RB,WI,z10,m',hm,UZ⟩:=SO
    refine aaa ?_
    refine aaT (bR (X:=Y) _ Rv σ8 QO (.ref s2.heap.objs.size) [yv] (.ref s2.heap.objs.size) [y] (λ_ H'=>H'=upd QO s2.heap.objs.size (.lst (ys++[yv]))) Tj rfl (.cons RB .nil) ⟨_,ys,yv,rfl,rfl,WI,z10,rfl⟩) (λ_ Qh SN=>?_) λx s z=>Hq x s _ z
    obtain⟨_,UQ,QN,_,QH⟩:=SN
    subst QH
    obtain⟨a1,a2,a3⟩:=again QN
    exact aaf (aaf ⟨rfl,m',hm,i+1,ys++[yv],_,a1,a2,a3,UZ⟩)
 exact codeAny_compStart_list (loop _ rfl) (T.self X.A 0 _ _ _ Oc (loop _ rfl))
theorem wN(hi:PI X tg iter wi)(hg:∀C s₀ H₀ ex pn,PG (AK X scope N C s₀ H₀ ex pn) tg g)(ht:∀C s₀ H₀ ex pn,PF (AK X scope N C s₀ H₀ ex pn) ifs tc)(he:∀C s₀ H₀ ex pn,PE (AK X scope N C s₀ H₀ ex pn) elt te)(JN:DI js g)
  (hc:X.calm=true:=by rfl) (hx:X.xe=(λ_ _=>False):=by rfl) (D7:D9 X.env scope=true:=by rfl) (BQ:CI X.N scope N js=true:=by rfl) (Bf:scope.kind=.function:=by rfl) (hs:∀x,abb iter X.env x=pure x:=by intro _;rfl) :
  PE X (.ListComp elt [⟨tg,iter,ifs,0⟩] scope pos) (Rh wi g tc te js):=by
 intro pins s σ H Q I h
 rw[eval_ListComp]
 refine qW (use:=none) hc hx hi hg ht he JN D7 BQ Bf hs I h λl C H' s' I' q f0 f1 f2 f3 f4 ⟨m,hm⟩=>?_
 refine⟨m,hm,λh' sb=>⟨.ref l,H',?_,rfl,q⟩⟩
 exact I'.turned (t':=s'.toks) (it:=C) (λb o hb e=>sb.extBut b o hb e) f0 f1 (.inr f2) f3 f4
variable{y:Str}{py:Pos}
theorem Ak{BN:Pos}(hN:X.N.Nodup)(hy:X.N[i]?=some y)(hk:X.env.scope.names.lookup y=some .local)(hi:PI X tg iter wi)(hg:∀C s₀ H₀ ex pn,PG (AK X scope N C s₀ H₀ ex pn) tg g)(ht:∀C s₀ H₀ ex pn,PF (AK X scope N C s₀ H₀ ex pn) ifs tc)(he:∀C s₀ H₀ ex pn,PE (AK X scope N C s₀ H₀ ex pn) elt te)(JN:DI js g)
  (JJ:abV (.ListComp elt [⟨tg,iter,ifs,0⟩] scope pos) (some (.Name y py)) BN.line X.env=pure true:=by rfl)
  (hc:X.calm=true:=by rfl) (hx:X.xe=(λ_ _=>False):=by rfl) (D7:D9 X.env scope=true:=by rfl) (BQ:CI X.N scope N js=true:=by rfl) (Bf:scope.kind=.function:=by rfl) (hs:∀x,abb iter X.env x=pure x:=by intro _;rfl) :
  PS X (.Assign [.Name y py] (.ListComp elt [⟨tg,iter,ifs,0⟩] scope pos) BN) (He (Rh wi g tc te js) (CG i)):=by
 intro pins s σ H D I h
 rw[exec_Assign_Name_used _ _ _ _ JJ]
 refine aaa (acB (aaa ?_))
 show wpAny _ X.A (do let _ <- adO (.ListComp elt [⟨tg,iter,ifs,0⟩] scope pos) scope X.env _ (newList []) false (eval iter X.env) (some (assign (.Name y py) X.env))) _ _ s
 refine aaa (aaT (qW (use:=some (assign (.Name y py) X.env)) (E:=X.xe) (QQ:=λ_ s'=>SP X pins D .next s') hc hx hi hg ht he JN D7 BQ Bf hs I h λl C H' s' I' q f0 f1 f2 f3 f4 ⟨m,hm⟩=>?_) (λ_ s' hq=>aaf (aaf hq)) λ_ _ e=>e)
 show wpAny _ X.A (assign (.Name y py) X.env (.ref l)) _ _ _
 refine aeP (iL I' hN hy (.inl hk) (v:=.ref l) rfl (λMp Tn ⟨a,sb,ha⟩=>?_) (.inr hk))
 have SF:C≠a:=by
  rcases ha with rfl|ha
  .exact f1
  .exact λz=>f3 _ _ ha z.symm
 refine⟨m,hm.sameBut sb SF,λh' Rp=>⟨_,H',?_,q⟩⟩
 exact Tn.turned (t':=Mp.toks) (it:=C) (λb o hb e=>Rp.extBut b o hb e) f0 f1 (.inr f2) f3 f4
end L2
namespace Srt
open PySem PySem.W PyProof.Rows
variable{α:Type}
def pw(lt:Nat->Nat->Bool)(n:Nat):KasT α->(α->Prop)->Prop
 |.ret a,Q=>Q a
 |.ask i j k,Q=>i<n/\j<n/\i≠j/\pw lt n (k (lt i j)) Q
theorem pw_bind{β:Type}{lt:Nat->Nat->Bool}{n:Nat}{f:α->KasT β}{Q:β->Prop}:∀(t:KasT α),pw lt n t (λa=>pw lt n (f a) Q)->pw lt n (t.bind f) Q
 |.ret _,h=>h
 |.ask i j k,h=>⟨h.1,h.2.1,h.2.2.1,pw_bind (k (lt i j)) h.2.2.2⟩
structure Ord(lt:Nat->Nat->Bool)(n:Nat):Prop where
 irr:∀i,i<n->lt i i=false
 tr:∀i j k,i<n->j<n->k<n->lt i j=true->lt j k=true->lt i k=true
 tot:∀i j,i<n->j<n->i≠j->lt i j=false->lt j i=true
section
variable{lt:Nat->Nat->Bool}{n:Nat}
def at'(p:Array Nat)(i:Nat):Nat:=p.getD i 0
structure Pm(p:Array Nat)(n:Nat):Prop where
 sz:p.size=n
 lt:∀i,i<n->at' p i<n
 nd:∀i j,i<n->j<n->at' p i=at' p j->i=j
theorem bf(p:Array Nat)(i:Nat):at' p i=(p[i]?).getD 0:=by
 unfold at'
 by_cases h:i<p.size
 .simp[Array.getD,h]
 .simp[Array.getD,h]
def Jf(lt:Nat->Nat->Bool)(p:Array Nat)(k:Nat):Prop:=∀i j,i<j->j<k->lt (at' p i) (at' p j)=true
def To(lt:Nat->Nat->Bool)(p:Array Nat)(k:Nat):Prop:=∀i j,i<j->j<k->lt (at' p j) (at' p i)=true
theorem qb(o:Ord lt n){p:Array Nat}(P:Pm p n):∀(f m:Nat) (Q:Nat->Prop),1<=m->m+f<=n->Jf lt p m->(∀m',m<=m'->m'<=m+f->Jf lt p m'->(m'<m+f->lt (at' p m') (at' p (m' - 1))=true)->Q m')->pw lt n (kas_asc p f m) Q
 |0,m,Q,_,_,ha,h=>h m (aal _) (aal _) ha λz=>absurd z (abj _)
 |f+1,m,Q,h1,hm,ha,h=>by
  refine⟨P.lt _ (by omega),P.lt _ (by omega),λz=>(by have:=P.nd _ _ (by omega) (by omega) z;omega),?_⟩
  cases c:lt (p.getD m 0) (p.getD (m - 1) 0)with
  |true=>
   show Q m
   exact h m (aal _) (by omega) ha λ_=>c
  |false=>
   show pw lt n (kas_asc p f (m+1)) Q
   have e:lt (at' p (m - 1)) (at' p m)=true:=o.tot _ _ (P.lt _ (by omega)) (P.lt _ (by omega)) (λz=>by have:=P.nd _ _ (by omega) (by omega) z;omega) c
   refine qb o P f (m+1) Q (by omega) (by omega) (λi j Ey hj=>?_) λm' a b c d=>h m' (by omega) (by omega) c λz=>d (by omega)
   by_cases ej:j=m
   .subst ej
    by_cases ei:i=j - 1
    .subst ei;exact e
    .exact o.tr _ (at' p (j - 1)) _ (P.lt _ (by omega)) (P.lt _ (by omega)) (P.lt _ (by omega)) (ha i (j - 1) (by omega) (by omega)) e
   .exact ha i j Ey (by omega)
theorem rh(o:Ord lt n){p:Array Nat}(P:Pm p n):∀(f m:Nat) (Q:Array Nat×Nat×Nat->Prop),1<=m->m+f<=n->To lt p m->(∀m',m<=m'->m'<=m+f->To lt p m'->Q (p,m',0))->pw lt n (kas_desc f p m 0) Q
 |0,m,Q,_,_,ha,h=>h m (aal _) (aal _) ha
 |f+1,m,Q,h1,hm,ha,h=>by
  refine⟨P.lt _ (by omega),P.lt _ (by omega),λz=>(by have:=P.nd _ _ (by omega) (by omega) z;omega),?_⟩
  cases c:lt (p.getD m 0) (p.getD (m - 1) 0)with
  |true=>
   show pw lt n (if 0 > 0 then kas_desc f (aew p (m - (0+1)) m) (m+1) 0 else kas_desc f p (m+1) 0) Q
   rw[if_neg (abj 0)]
   refine rh o P f (m+1) Q (by omega) (by omega) (λi j Ey hj=>?_) λm' a b c=>h m' (by omega) (by omega) c
   by_cases ej:j=m
   .subst ej
    by_cases ei:i=j - 1
    .subst ei;exact c
    .exact o.tr _ (at' p (j - 1)) _ (P.lt _ (by omega)) (P.lt _ (by omega)) (P.lt _ (by omega)) c (ha i (j - 1) (by omega) (by omega))
   .exact ha i j Ey (by omega)
  |false=>
   have e:lt (at' p (m - 1)) (at' p m)=true:=o.tot _ _ (P.lt _ (by omega)) (P.lt _ (by omega)) (λz=>by have:=P.nd _ _ (by omega) (by omega) z;omega) c
   show pw lt n (KasT.ask (p.getD (m - 1) 0) (p.getD m 0) _) Q
   refine⟨P.lt _ (by omega),P.lt _ (by omega),λz=>(by have:=P.nd _ _ (by omega) (by omega) z;omega),?_⟩
   rw[show lt (p.getD (m - 1) 0) (p.getD m 0)=true from e]
   exact h m (aal _) (by omega) ha
theorem oO{p:Array Nat}{m i:Nat}(hm:m<=p.size)(hi:i<m):at' (aew p 0 m) i=at' p (m - 1 - i):=by
 rw[bf,bf]
 unfold aew
 rw[getElem?_mirror hm _ (by omega)]
 have e:0+m - 1 - i=m - 1 - i:=by omega
 split
 .rw[e]
 .rename_i h
  have:i=m - 1 - i:=by omega
  rw[<- this]
theorem xl{p:Array Nat}{m i:Nat}(hm:m<=p.size)(hi:m<=i):at' (aew p 0 m) i=at' p i:=by
 rw[bf,bf]
 unfold aew
 rw[getElem?_mirror hm _ (by omega),if_neg (by omega)]
theorem yO{p:Array Nat}{m:Nat}(P:Pm p n)(hm:m<=n):Pm (aew p 0 m) n:=by
 have hs:m<=p.size:=by rw[P.sz];exact hm
 have key:∀i,i<n->∃i',i'<n/\at' (aew p 0 m) i=at' p i'/\((i<m/\i'=m - 1 - i)\/(m<=i/\i'=i)):=λi hi=>by
  by_cases h:i<m
  .exact⟨m - 1 - i,by omega,oO hs h,.inl ⟨h,rfl⟩⟩
  .exact⟨i,hi,xl hs (by omega),.inr ⟨by omega,rfl⟩⟩
 refine⟨by unfold aew;rw[mirror_size];exact P.sz,λi hi=>?_,λi j hi hj e=>?_⟩
 .obtain⟨i',h1,h2,_⟩:=key i hi
  rw[h2];exact P.lt i' h1
 .obtain⟨i',h1,h2,h3⟩:=key i hi
  obtain⟨j',k1,k2,k3⟩:=key j hj
  rw[h2,k2]at e
  have:=P.nd _ _ h1 k1 e
  omega
theorem u7(o:Ord lt n){p:Array Nat}(P:Pm p n){m:Nat}{Q:Nat×Array Nat->Prop}(h1:1<=m)(hm:m<=n)(hd:To lt p m)(h:∀m' q,1<=m'->m'<=n->Pm q n->Jf lt q m'->Q (m',q)):pw lt n (kas_tail3 m n p) Q:=by
 refine pw_bind _ ?_
 have P':=yO P hm
 have hs:m<=p.size:=by rw[P.sz];exact hm
 refine qb o P' _ _ _ h1 (by omega) (λi j Ey hj=>?_) λm' a b c _=>h m' _ (by omega) (by omega) P' c
 rw[oO hs (by omega),oO hs hj]
 exact hd _ _ (by omega) (by omega)
theorem wC(o:Ord lt n){p:Array Nat}(P:Pm p n)(h2:2<=n){Q:Nat×Array Nat->Prop}(h:∀m q,1<=m->m<=n->Pm q n->Jf lt q m->Q (m,q)):pw lt n (kas_count n p) Q:=by
 refine pw_bind _ ?_
 refine qb o P _ _ _ (aal 1) (by omega) (λi j Ey hj=>by omega) λm a b c d=>?_
 by_cases e:(m==n)=true
 .rw[if_pos e]
  exact h m p (by omega) (by omega) P c
 .rw[if_neg e]
  have BV:m≠n:=λz=>e (by simp[z])
  by_cases hm:m > 1
  .rw[if_pos hm]
   refine⟨P.lt _ (by omega),P.lt _ (by omega),λz=>(by have:=P.nd _ _ (by omega) (by omega) z;omega),?_⟩
   rw[show lt (p.getD 0 0) (p.getD (m - 1) 0)=true from c 0 (m - 1) (by omega) (by omega)]
   exact h m p (by omega) (by omega) P c
  .rw[if_neg hm]
   have Sj:m=1:=by omega
   subst Sj
   refine pw_bind _ ?_
   have d1:lt (at' p 1) (at' p (1 - 1))=true:=d (by omega)
   refine rh o P _ _ _ (by omega) (by omega) (λi j Ey hj=>?_) λm' a b hd=>?_
   .have:i=0:=by omega
    have:j=1:=by omega
    subst i j
    exact d1
   .show pw lt n (if 0 > 0 then kas_tail3 m' n (aew p (m' - (0+1)) m')else kas_tail3 m' n p) Q
    rw[if_neg (abj 0)]
    exact u7 o P (by omega) (by omega) hd h
theorem kE(o:Ord lt n){p:Array Nat}(P:Pm p n){k:Nat}(hk:k<n)(ha:Jf lt p k):∀(f l r:Nat) (Q:Nat->Prop),l<=r->r<=k->r<=l+f->(∀i,i<l->lt (at' p i) (at' p k)=true)->(∀i,r<=i->i<k->lt (at' p k) (at' p i)=true) ->
  (∀l',l'<=k->(∀i,i<l'->lt (at' p i) (at' p k)=true)->(∀i,l'<=i->i<k->lt (at' p k) (at' p i)=true)->Q l')->pw lt n (kas_place p k f l r) Q
 |0,l,r,Q,hl,hr,hf,h1,h2,h=>by
  have:l=r:=by omega
  subst this
  exact h l hr h1 h2
 |f+1,l,r,Q,hl,hr,hf,h1,h2,h=>by
  unfold kas_place
  by_cases Uc:l ≥ r
  .rw[if_pos Uc]
   have:l=r:=by omega
   subst this
   exact h l hr h1 h2
  .rw[if_neg Uc]
   have hm:(l+r) / 2<k:=by omega
   refine⟨P.lt _ hk,P.lt _ (by omega),λz=>(by have:=P.nd _ _ hk (by omega) z;omega),?_⟩
   cases c:lt (p.getD k 0) (p.getD ((l+r) / 2) 0)with
   |true=>
    show pw lt n (kas_place p k f l ((l+r) / 2)) Q
    refine kE o P hk ha f l _ Q (by omega) (by omega) (by omega) h1 (λi hi Uj=>?_) h
    by_cases e:i=(l+r) / 2
    .subst e;exact c
    .exact o.tr _ (at' p ((l+r) / 2)) _ (P.lt _ hk) (P.lt _ (by omega)) (P.lt _ (by omega)) c (ha _ _ (by omega) Uj)
   |false=>
    show pw lt n (kas_place p k f ((l+r) / 2+1) r) Q
    have e:lt (at' p ((l+r) / 2)) (at' p k)=true:=o.tot _ _ (P.lt _ hk) (P.lt _ (by omega)) (λz=>by have:=P.nd _ _ hk (by omega) z;omega) c
    refine kE o P hk ha f _ r Q (by omega) hr (by omega) (λi hi=>?_) h2 h
    by_cases e':i=(l+r) / 2
    .subst e';exact e
    .exact o.tr _ (at' p ((l+r) / 2)) _ (P.lt _ (by omega)) (P.lt _ (by omega)) (P.lt _ hk) (ha _ _ (by omega) (by omega)) e
theorem jn{p:Array Nat}{k l i:Nat}(hk:k<p.size)(hl:l<=k):at' (bubble p k (k - l)) i=if i=l then at' p k else if l<i/\i<=k then at' p (i - 1)else at' p i:=by
 rw[bf]
 rw[getElem?_bubble hk (k - l) (by omega)]
 have e:k - (k - l)=l:=by omega
 rw[e]
 split
 .rw[bf]
 .split
  .rw[bf]
  .rw[bf]
theorem uR(o:Ord lt n):∀(f k:Nat) (p:Array Nat) (Q:Array Nat->Prop),Pm p n->Jf lt p k->k+f=n->(∀q,Pm q n->Jf lt q n->Q q)->pw lt n (kas_bin f p k) Q
 |0,k,p,Q,P,ha,hk,h=>by
  have:k=n:=by omega
  subst this
  exact h p P ha
 |f+1,k,p,Q,P,ha,hk,h=>by
  have MO:k<n:=by omega
  have hs:k<p.size:=by rw[P.sz];exact MO
  refine pw_bind _ (kE o P MO ha k 0 k _ (abv _) (aal _) (by omega) (λi hi=>by omega) (λi hi Uj=>by omega) λl hl h1 h2=>?_)
  refine uR o f (k+1) _ Q ⟨by rw[bubble_size];exact P.sz,λi hi=>?_,λi j hi hj e=>?_⟩ (λi j Ey hj=>?_) (by omega) h
  .rw[jn hs hl]
   split
   .exact P.lt _ MO
   .split
    .exact P.lt _ (by omega)
    .exact P.lt _ hi
  .rw[jn hs hl,jn hs hl]at e
   have P1:=P.nd
   split at e
   .split at e
    .omega
    .split at e
     .have:=P1 _ _ MO (by omega) e;omega
     .have:=P1 _ _ MO (by omega) e;omega
   .split at e
    .split at e
     .have:=P1 _ _ (by omega) MO e;omega
     .split at e
      .have:=P1 _ _ (by omega) (by omega) e;omega
      .have:=P1 _ _ (by omega) (by omega) e;omega
    .split at e
     .have:=P1 _ _ (by omega) MO e;omega
     .split at e
      .have:=P1 _ _ (by omega) (by omega) e;omega
      .have:=P1 _ _ (by omega) (by omega) e;omega
  .rw[jn hs hl,jn hs hl]
   split
   .split
    .omega
    .split
     .exact h2 _ (by omega) (by omega)
     .omega
   .split
    .split
     .omega
     .split
      .exact ha _ _ (by omega) (by omega)
      .omega
    .split
     .exact h1 _ (by omega)
     .split
      .exact ha _ _ (by omega) (by omega)
      .exact ha _ _ Ey (by omega)
theorem qI(o:Ord lt n)(h2:2<=n){Q:Array Nat->Prop}(h:∀p,Pm p n->Jf lt p n->Q p):pw lt n (kas_sort n) Q:=by
 have P0:Pm (afb (aa6 n)) n:=by
  have e:∀i,i<n->at' (afb (aa6 n)) i=i:=λi hi=>by rw[bf];simp[hi]
  refine⟨by simp,λi hi=>by rw[e i hi];exact hi,λi j hi hj q=>by rw[e i hi,e j hj]at q;exact q⟩
 refine pw_bind _ (wC o P0 h2 λm q h1 hm P ha=>?_)
 show pw lt n (if m<n then kas_bin (n - max m 1) q (max m 1)else .ret q) Q
 by_cases e:m<n
 .rw[if_pos e]
  have em:max m 1=m:=by omega
  rw[em]
  exact uR o _ _ _ _ P ha (by omega) h
 .rw[if_neg e]
  have:m=n:=by omega
  subst this
  exact h q P ha
end
theorem pw_wp{lt:Nat->Nat->Bool}{n:Nat}{cmp:Nat->Nat->(Bool->Shared->Prop)->Shared->Prop}{Q:α->Prop}{QQ:α->Shared->Prop}{J:Shared->Prop}
  (hc:∀i j C s,i<n->j<n->i≠j->J s->(∀s',J s'->C (lt i j) s')->cmp i j C s) (hq:∀a s,J s->Q a->QQ a s):∀(t:KasT α) (s:Shared),J s->pw lt n t Q->t.kasWp cmp QQ s
 |.ret a,s,hj,h=>hq a s hj h
 |.ask i j k,s,hj,h=>hc i j _ s h.1 h.2.1 h.2.2.1 hj λs' Gu=>pw_wp hc hq (k (lt i j)) s' Gu h.2.2.2
end Srt
namespace L2
open PySem PySem.Spec PyProof.Rows
variable{ss:List Str}
theorem hJ:∀{us:List Value},AM (ss.map V.str) us->ack us ss:=by
 induction ss with
 |nil=>intro us r;cases r;exact .nil
 |cons x r ih=>
  intro us h
  cases h with
  |cons h1 h2=>
   obtain⟨t,rfl⟩:=h1
   exact .cons x t (ih h2)
theorem dP:∀{us:List Value} {ss:List Str},ack us ss->AM (ss.map V.str) us
 |_,_,.nil=>.nil
 |_,_,.cons x t h=>.cons ⟨t,rfl⟩ (dP h)
def AZ(a b:Str):Prop:=a.cps.toList<b.cps.toList
instance (a b:Str):Decidable (AZ a b):=inferInstanceAs (Decidable (a.cps.toList<b.cps.toList))
theorem jX:∀(l:List Str) (p:Str),risingS p l=true->(∀y∈l,¬ AZ y p)/\l.Pairwise (λa b=>¬ AZ b a)
 |[],p,_=>⟨(λ_ h=>nomatch h),ae5⟩
 |x::r,p,h=>by
  have h':(!ltCps x.cps.toList p.cps.toList && risingS x r)=true:=h
  rw[aaE]at h'
  obtain⟨h1,h2⟩:=h'
  have hx:¬ AZ x p:=by
   unfold AZ
   rw[ltCps_eq]at h1
   simpa using h1
  obtain⟨a,b⟩:=jX r x h2
  refine⟨λy hy=>?_,List.pairwise_cons.mpr ⟨a,b⟩⟩
  rcases List.mem_cons.mp hy with rfl|hy
  .exact hx
  .intro z
   have:=a y hy
   unfold AZ at *
   exact hx (List.lt_of_le_of_lt (List.not_lt.mp this) z)
theorem dI{l:List Str}(h:sortedS l=true):l.Pairwise (λa b=>¬ AZ b a):=by
 cases l with
 |nil=>exact ae5
 |cons x r=>
  obtain⟨a,b⟩:=jX r x h
  exact List.pairwise_cons.mpr ⟨a,b⟩
variable{X:Cx}
def Mu(K:aah):List V->Hp->VK->Prop:=λxs H Q=>∃(p:Addr) (ss:List Str),xs=[.ref p]/\Cm K H p (ss.map V.str)/\ss.length<64 /\
 ∀(l:Addr) (Dn:List Str),H l=none->Dn.Perm ss->Dn.Pairwise (λa b=>¬ AZ b a)->Q (.ref l) (upd H l (.lst (Dn.map V.str)))
theorem sv:AR X (.builtin "sorted") (Mu X.K):=by
 intro pins s σ H xs us Q I r h
 obtain⟨p,ss,rfl,hq,D0,k⟩:=h
 obtain⟨u,rfl,ru⟩:=r.one
 cases ru
 obtain⟨iN,rv,pl,hz⟩:=I.list hq
 have hS:=hJ rv
 have hl:=rv.length
 rw[aac]at hl
 refine sorted_strs pl.isList hS (by omega) λout Dn a1 a2 a3=>?_
 obtain⟨e,he⟩:=sortedAll_at s.heap iN out
 have hn:H (s.heap.objs.size+1)=none:=I.AU.fresh (aca _)
 refine⟨.ref (s.heap.objs.size+1),_,I.laid (t':=s.toks) (a:=s.heap.objs.size+1) (o:=.lst (Dn.map V.str)) (λb o q=>sortedAll_old q) (aca _) ?_,rfl,k _ Dn hn a2 (dI a3)⟩
 refine⟨by rw[aac,a2.length_eq,aaC];omega,out.toList,e,dP a1,?_⟩
 rw[aem]
 exact he
variable{prog:aaJ}{w:World}{A:Around}{E:Value->Shared->Prop}{s:Shared}
def fu(vs:List Value):Sem PySem.Fin:=do
 let l <- newList vs
 let _ <- ad5 [l] (call (.builtin "list.sort") [l] [])
 ret l
variable{x:Value}{vs:List Value}{Q:Value->Shared->Prop}
theorem nj(hc:∀R:List Value->Shared->Prop,(∀h1 tk,(∀b o,s.heap.get? b=some o->h1.get? b=some o)->R vs {s with heap:=h1,toks:=tk})->wpAny (model prog w) A.in1 (collect x) R E s)
  (h:∀h1 tk,(∀b o,s.heap.get? b=some o->h1.get? b=some o)->wpAny (model prog w) A.in1 (fu vs) (λfin s'=>∃v,fin=.done (.ret v)/\Q v s') E {s with heap:=h1,toks:=tk}):wpAny (model prog w) A (call (.builtin "sorted") [x]) Q E s:=by
 refine ady afs ae7 ae8 (args_sorted1 _) (?_:wpAny (model prog w) A.in1 (acI.«sorted» ⟨[x],[]⟩) _ _ s)
 unfold acI.«sorted»
 exact aaa (m:=checkCount "sorted" 1 1 _) (aaf (aaa (hc _ λh1 tk kk=>h h1 tk kk)))
theorem rR(h2:vs.length<2)(h:∀h' e,(∀b o,s.heap.get? b=some o->h'.get? b=some o)->h'.get? s.heap.objs.size=some (seqObj "list" vs.toArray e)->Q (.ref s.heap.objs.size) {s with heap:=h'}):
  wpAny (model prog w) A (fu vs) (λfin s'=>∃v,fin=.done (.ret v)/\Q v s') E s:=by
 have hz:vs.length<=sizeLine:=by rw[aaC];omega
 unfold fu
 refine aaa (acT ?_ hz)
 have Iw:(s.heap.push (seqObj "list" vs.toArray 0)).get? s.heap.objs.size=some (seqObj "list" vs.toArray 0):=aai _ rfl
 refine(?_:wpAny _ _ _ _ _ {s with heap:=s.heap.push (seqObj "list" vs.toArray 0)})
 generalize Wv:s.heap.push (seqObj "list" vs.toArray 0)=hB at Iw ⊢
 have kB:∀b o,s.heap.get? b=some o->hB.get? b=some o:=λb o e=>by rw[<- Wv];exact aad _ e
 refine aaa (aa9 (aa7 adu ⟨_,Iw,rfl⟩ adg ?body (aep _)))
 case body=>
  rw[list_sort_plain]
  obtain⟨e1,Ka⟩:∃e1,(hB.update s.heap.objs.size (abA λ_=>#[])).get? s.heap.objs.size=some (seqObj "list" #[] e1):=⟨_,adf Iw λ_=>#[]⟩
  refine aaa (listItems_at Iw rfl (aaa (adb Iw rfl ?_ (by rw[aae];exact hz) (abv _))))
  refine aaa (afr Ka rfl (aaa (afI ?_ (by show vs.length<=_;exact hz))))
  refine aaa (acT (aa9 ?_) (abv _))
  have Se:(((hB.update s.heap.objs.size (abA λ_=>#[])).push (seqObj "tuple" vs.toArray 0)).push (seqObj "list" #[] 0)).get? s.heap.objs.size=some (seqObj "list" #[] e1) :=
   aad _ (aad _ Ka)
  refine(?_:wpAny (model prog w) _ _ _ _ {s with heap:=((hB.update s.heap.objs.size (abA λ_=>#[])).push (seqObj "tuple" vs.toArray 0)).push (seqObj "list" #[] 0)})
  dsimp only
  have BW:vs.toArray.size<2:=by rw[aae];exact h2
  rw[if_pos BW,if_pos BW]
  refine aaa (aaf ?_)
  rw[StateT.run_pure]
  refine aaa (aaf ?_)
  dsimp only
  have eo:(arrOf (SortSt.mk' general' (vs.toArray.zip vs.toArray) #[] 7 none)).map (·.2)=vs.toArray:=by
   show (vs.toArray.zip vs.toArray).map (·.2)=vs.toArray
   apply Array.ext
   .simp
   .intro i h1 h2
    simp
  rw[eo]
  refine aaa (afr Se rfl (aaa (adb Se rfl ?_ (abv _) (by rw[aae];first|exact hz|exact ae0 hz))))
  simp only[bne_self_eq_false,aaR,if_false]
  refine aaf ⟨_,rfl,aaf ⟨_,rfl,h _ _ (λb o e=>?_) (adf Se λ_=>vs.toArray)⟩⟩
  have hb:b≠s.heap.objs.size:=aas (aak e)
  rw[aez _ _ _ _ hb]
  refine aad _ (aad _ ?_)
  rw[aez _ _ _ _ hb]
  exact kB b o e
variable{pins:List (Addr×Obj)}{σ:St}{H:Hp}
variable{h:Heap}{a:Addr}
theorem zl{m m':Str->Option Value}(x:h.Ns a m)(y:h.Ns a m'):m=m':=by
 obtain⟨o,es,ep,ho,hd,_,hm⟩:=x
 obtain⟨o',GP,QF,ES,QB,_,QA⟩:=y
 rw[ho]at ES;cases ES
 rw[hd]at QB;cases QB
 funext n
 rw[<- hm n,<- QA n]
variable{P:aaJ}{o:HO}
theorem A7.there(x:A7 P w H h a o):∃u,h.get? a=some u:=by
 cases o with
 |lst xs=>obtain⟨_,_,_,_,e⟩:=x;exact⟨_,e⟩
 |tup xs=>obtain⟨_,_,_,o,e,_⟩:=x;exact⟨_,e⟩
 |dK kvs=>obtain⟨_,_,_,_,o,_,_,e,_⟩:=x;exact⟨_,e⟩
 |dT kvs=>obtain⟨_,_,_,_,o,_,_,e,_⟩:=x;exact⟨_,e⟩
 |set S n=>obtain⟨o,_,_,_,e,_⟩:=x;exact⟨_,e⟩
 |ins C dx fs=>obtain⟨_,_,_,e,_⟩:=x;exact⟨_,e⟩
 |own y=>exact x
 |xd fs=>obtain⟨_,⟨_,_,_,e,_⟩,_⟩:=x;exact⟨_,e⟩
 |Qj lo hi=>obtain⟨_,_,_,e⟩:=x;exact⟨_,e⟩
 |Dy ob u=>obtain⟨e,_⟩:=x;exact⟨_,e⟩
 |Le ps=>exact⟨_,show h.get? a=some _ from x⟩
 |met f y=>exact⟨_,show h.get? a=some _ from x⟩
 |ext φ=>obtain⟨_,e,_⟩:=x;exact e
theorem DA.dead(x:DA P w H h)(e:h.get? a=none):H a=none:=by
 cases q:H a with
 |none=>rfl
 |some u=>
  obtain⟨o,z⟩:=(x a u q).there
  rw[e]at z;cases z
variable{h':Heap}{xs:List V}
theorem Inv.Lq{D:Addr}{m:Str->Option Value}(I:Inv X pins σ H s)(hm:s.heap.Ns X.env.locals m)(QA:h'.Ns X.env.locals m)(k:∀b o,b≠X.env.locals->s.heap.get? b=some o->h'.get? b=some o)
  (hD:s.heap.get? D=none) (new:A7 X.prog X.w (upd H D (.lst xs)) h' D (.lst xs)):Inv X pins σ (upd H D (.lst xs)) {s with heap:=h'}:=by
 have fr:H D=none:=I.AU.dead hD
 have nD:∀b o,s.heap.get? b=some o->b≠D:=λb o e z=>by rw[z,hD]at e;cases e
 have nt:∀b u,H b=some u->b≠D:=λb u e=>av e fr
 have TX:∀b u,H b=some u->b≠X.env.locals:=λb u e=>av e I.free
 refine I.step (g':=s.gens) (d':=s.drawn) (t':=s.toks) (ch:=[]) (λ_ z=>nomatch z) (λb o hb _ _ e _=>k b o hb e) (λb o hb _ _ e _=>⟨o.slots,k b o hb e⟩) (λb o _ e n=>by rw[aj (nD b o e)];exact n)
  (λb o _ e=>?_) (λb ys e=>by rw[aj (nt b _ e)];exact e) (λb o u e=>by rw[aj (nt b _ e)];exact e) (λb ps e=>⟨#[],by rw[aj (nt b _ e),e];simp⟩) (λm2 h2=>by rw[zl h2 hm];exact QA) (λb u e=>?_) I.bare
 .by_cases hb:b=X.env.locals
  .subst hb
   obtain⟨o',_,_,ES,_⟩:=QA
   exact⟨o',ES⟩
  .exact⟨o,k b o hb e⟩
 .by_cases hb:b=D
  .subst hb
   rw[am]at e
   cases e
   exact new
  .rw[aj hb]at e
   refine(I.AU b u e).F8 (λc v hc q=>k c v ?_ q) (λc q=>by rw[aj (nt c _ q)];exact q) λc ys q=>by rw[aj (nt c _ q)];exact q
   rcases hc with z|z
   .rw[z];exact TX b u e
   .exact TX c _ z
structure Rows(K:aah)(H:Hp)(vs:List V)(nm:List Str):Prop where
 len:vs.length=nm.length
 row:∀(i:Nat) (v:V) (x:Str),vs[i]?=some v->nm[i]?=some x->∃a r,v=.ref a/\Cd K H a (.str x::r)
 nd:nm.Nodup
def Mv(K:aah):List V->Hp->VK->Prop:=λxs H Q=>∃p vs nm,xs=[.ref p]/\Cm K H p vs/\vs.length<64/\Rows K H vs nm /\
 ∀l (ix:List Nat),H l=none->ix.length=vs.length->ix.Nodup->(∀i∈ix,i<vs.length)->(ix.map λi=>nm.getD i ⟨#[]⟩).Pairwise AZ->Q (.ref l) (upd H l (.lst (ix.map λi=>vs.getD i .AF)))
variable{us:List Value}
theorem AM.pick(r:AM xs us):∀(ix:List Nat),(∀i∈ix,i<xs.length)->AM (ix.map λi=>xs.getD i .AF) (ix.map λi=>us.getD i abd)
 |[],_=>.nil
 |i::ix,h=>by
  refine .cons ?_ (AM.pick r ix λj hj=>h j (aar _ hj))
  have hi:=h i aat
  have e:xs[i]?=some (xs[i]):=by simp[hi]
  obtain⟨u,hu,ru⟩:=r.get e
  have e1:xs.getD i .AF=xs[i]:=by simp[hi]
  have e2:us.getD i abd=u:=by rw[aag,hu];rfl
  show RelV (xs.getD i .AF) (us.getD i abd)
  rw[e1,e2]
  exact ru
variable{iN:List Value}
theorem oH{vs:List V}{nm:List Str}{Q:VK}(I:Inv X pins σ H s)(rv:AM vs iN)(hz:iN.length<=sizeLine)(D0:vs.length<64)(R:Rows X.K H vs nm)
  (k:∀l (ix:List Nat),H l=none->ix.length=vs.length->ix.Nodup->(∀i∈ix,i<vs.length)->(ix.map λi=>nm.getD i ⟨#[]⟩).Pairwise AZ->Q (.ref l) (upd H l (.lst (ix.map λi=>vs.getD i .AF)))) :
  wpAny (model X.prog X.w) A (fu iN) (λfin s'=>∃v,fin=.done (.ret v)/\∃x H',Inv X pins σ H' s'/\RelV x v/\Q x H') E s:=by
 have hl:=rv.length
 by_cases h2:iN.length<2
 .refine rR h2 λh' e kk he=>?_
  have hn:H s.heap.objs.size=none:=I.AU.fresh (aal _)
  have ei:(aa6 vs.length).map (λi=>vs.getD i V.AF)=vs:=by
   apply acg
   intro i
   rw[aaj]
   by_cases hi:i<vs.length
   .rw[ab2 hi];simp[hi]
   .rw[aao (by simpa using hi),aao (by omega)];rfl
  have q:=k s.heap.objs.size (aa6 vs.length) hn (by simp) adW (λi hi=>List.mem_range.mp hi) (by
   match hv:vs.length,hl with
   |0,_=>simp
   |1,_=>simp[afy]
   |n+2,hl=>omega)
  rw[ei]at q
  exact⟨.ref s.heap.objs.size,_,I.laid (t':=s.toks) (a:=s.heap.objs.size) (o:=.lst vs) kk (aal _) ⟨by rw[hl];exact hz,iN,e,rv,he⟩,rfl,q⟩
 .obtain⟨m,F⟩:=I.fr
  unfold fu
  refine aaa (acT ?_ hz)
  have Iw:(s.heap.push (seqObj "list" iN.toArray 0)).get? s.heap.objs.size=some (seqObj "list" iN.toArray 0):=aai _ rfl
  have hL:X.env.locals<s.heap.objs.size:=F.ns.lt
  refine aaa (aa9 (aa7 adu ⟨_,Iw,rfl⟩ adg ?body (aep _)))
  refine PySem.W.kat_list_sort (s:={s with heap:=s.heap.push (seqObj "list" iN.toArray 0)}) (F.kept λb o e=>aad _ e) ((kM (g:=X.base) (h:=s.heap) (L:=X.env.locals)).grown λb o e=>aad _ e) Iw (ab8 hL)
   (Heap.get?_none_of_le (aa3 F.above (ae9 hL))) (λp hp=>aas (aak ((kM (g:=X.base) (h:=s.heap) (L:=X.env.locals)) p hp).1)) (by omega) (by omega) λe1 h' F' N'=>?_
  have hD:∀q∈jQ X.base s.heap X.env.locals,q.1<s.heap.objs.size:=λq hq=>aak ((kM (g:=X.base) (h:=s.heap) (L:=X.env.locals)) q hq).1
  generalize XG:s.heap.objs.size=D at hD N' ⊢
  have OP:∀b o,b≠X.env.locals->s.heap.get? b=some o->h'.get? b=some o:=λb o hb e=>by
   cases q:X.base.get? b with
   |some ob=>
    have:=I.bk b ob q
    rw[e]at this;cases this
    exact F'.keep b _ q
   |none=>exact(N' (b,o) (aar _ (gy hb q e))).1
  have Wt:∀b o,b≠X.env.locals->X.base.get? b=none->s.heap.get? b=some o->b<D:=λb o hb hn e=>hD (b,o) (gy hb hn e)
  have rowAt:∀i,i<iN.length->∃a ob vv x t n,iN.getD i abd=.ref a/\h'.get? a=some ob/\ob.cls=.type "tuple" /\ ob.data=.seq vv n/\vv[0]?=some (.str x t)/\nm[i]?=some x/\s.heap.get? a=some ob:=λi hi=>by
   have FF:i<vs.length:=by omega
   have e:vs[i]?=some vs[i]:=by simp[FF]
   obtain⟨u,hu,ru⟩:=rv.get e
   have HW:i<nm.length:=by rw[<- R.len];exact FF
   have en:nm[i]?=some nm[i]:=by simp[HW]
   obtain⟨a,rr,ev,ha⟩:=R.row i _ _ e en
   rw[ev]at ru
   cases ru
   obtain⟨U7,tv,⟨ob,JL,hc,n,hd⟩,z1⟩:=I.tuple ha
   cases tv with
   |cons t1 t2=>
    obtain⟨t,rfl⟩:=t1
    refine⟨a,ob,_,nm[i],t,n,by rw[aag,hu];rfl,OP a ob ?_ JL,hc,hd,by simp,en,JL⟩
    rintro rfl
    obtain⟨m,⟨o2,es,ep,g1,g2,_⟩,_⟩:=I.loc
    rw[JL]at g1;cases g1
    rw[hd]at g2;cases g2
  have Fv:PySem.W.KatTups h' iN ((aa6 iN.length).map λi=>match iN.getD i abd with|.ref a=>(match h'.get? a with|some ob=>(match ob.data with|.seq vv _=>(vv[0]?).getD .none|_=>.none)|none=>.none)|_=>.none):=by
   have go:∀(us:List Value) (f:Nat->Value) (k0:Nat),(∀i,i<us.length->∃a ob vv n,us.getD i abd=.ref a/\h'.get? a=some ob/\ob.cls=.type "tuple" /\ ob.data=.seq vv n/\vv[0]?=some (f (k0+i))) ->
     PySem.W.KatTups h' us ((aa6 us.length).map λi=>f (k0+i)):=by
    intro us
    induction us with
    |nil=>intro f k0 _;exact trivial
    |cons u us ih=>
     intro f k0 hh
     obtain⟨a,ob,vv,n,e1,e2,e3,e4,e5⟩:=hh 0 (by simp)
     have Px:u=.ref a:=by simpa using e1
     subst Px
     rw[abp,List.range_succ_eq_map,aan,aaw]
     refine⟨⟨a,ob,vv,n,rfl,e2,e3,e4,e5⟩,?_⟩
     have:=ih f (k0+1) λi hi=>by
      obtain⟨a,ob,vv,n,e1,e2,e3,e4,e5⟩:=hh (i+1) (by simpa using hi)
      exact⟨a,ob,vv,n,by simpa using e1,e2,e3,e4,by rw[show k0+1+i=k0+(i+1)by omega];exact e5⟩
     have ef:(λi=>f (k0+i)) ∘ Nat.succ=λi=>f (k0+1+i):=by
      funext i
      show f (k0+(i+1))=f (k0+1+i)
      rw[show k0+(i+1)=k0+1+i by omega]
     rw[ef]
     exact this
   have:=go iN (λi=>match iN.getD i abd with|.ref a=>(match h'.get? a with|some ob=>(match ob.data with|.seq vv _=>(vv[0]?).getD .none|_=>.none)|none=>.none)|_=>.none) 0 λi hi=>by
    obtain⟨a,ob,vv,x,t,n,e1,e2,e3,e4,e5,_⟩:=rowAt i hi
    refine⟨a,ob,vv,n,e1,e2,e3,e4,?_⟩
    rw[abI,e1,e5]
    simp only[e2,e4,e5]
    rfl
   simpa using this
  refine PySem.W.kat_kind (T:=.type "str") Fv (by rw[aac,acf];omega) (λv hv=>?_) rfl ?_
  .obtain⟨i,hi,rfl⟩:=List.mem_map.mp hv
   obtain⟨a,ob,vv,x,t,n,e1,e2,e3,e4,e5,_⟩:=rowAt i (List.mem_range.mp hi)
   rw[e1]
   simp only[e2,e4,e5]
   exact PySem.W.Looks.of_pure rfl
  .-- the questions
   have hT:((acE "str") != (acE "tuple"))=true:=by decide
   rw[hT]
   let lt:Nat->Nat->Bool:=λi j=>decide (AZ (nm.getD i ⟨#[]⟩) (nm.getD j ⟨#[]⟩))
   have Pz:∀i j,i<iN.length->j<iN.length->(nm.getD i ⟨#[]⟩).cps.toList=(nm.getD j ⟨#[]⟩).cps.toList->i=j:=λi j hi hj e=>by
    have FF:i<nm.length:=by rw[<- R.len];omega
    have Gu:j<nm.length:=by rw[<- R.len];omega
    have e':nm.getD i ⟨#[]⟩=nm.getD j ⟨#[]⟩:=by
     generalize nm.getD i ⟨#[]⟩=x at e ⊢
     generalize nm.getD j ⟨#[]⟩=y at e ⊢
     obtain⟨x⟩:=x
     obtain⟨y⟩:=y
     exact congrArg Str.mk (Array.toList_inj.mp e)
    rw[aag,aag,aab FF,aab Gu]at e'
    exact(abU R.nd).mp e'
   have o:Srt.Ord lt iN.length:=by
    refine⟨λi _=>?_,λi j k _ _ _ a b=>?_,λi j hi hj ne e=>?_⟩
    .show decide _=false
     simp[AZ,aes]
    .have a':=of_decide_eq_true a
     have b':=of_decide_eq_true b
     exact decide_eq_true (List.lt_trans (show _<_ from a') b')
    .have e':=of_decide_eq_false e
     refine decide_eq_true ?_
     unfold AZ at e' ⊢
     rcases aaU 0 0 with z|_
     .omega
     .have le:=List.not_lt.mp e'
      rcases List.le_iff_lt_or_eq.mp le with z|z
      .exact z
      .exact absurd (Pz j i hj hi z).symm ne
   refine Srt.pw_wp (lt:=lt) (n:=iN.length) (Q:=λp=>Srt.Pm p iN.length/\Srt.Jf lt p iN.length) (J:=λs'=>s'={s with heap:=h'}) ?_ ?_ (PySem.W.kas_sort iN.length) _ rfl (Srt.qI o (by omega) λp a b=>⟨a,b⟩)
   .rintro i j C s' hi hj ne rfl hC
    obtain⟨a,ob,vv,x,t,n,e1,e2,e3,e4,e5,e6,_⟩:=rowAt i hi
    obtain⟨a',RE,LU,x',t',n',f1,f2,f3,f4,f5,f6,_⟩:=rowAt j hj
    show wpAny _ _ (keyLt' (afo true) (iN.getD i abd) (iN.getD j abd)) _ _ _
    rw[e1,f1]
    refine PySem.W.kat_lt e2 e4 f2 f4 ?_
    have g1:vv.toList=.str x t::vv.toList.tail:=by
     cases h:vv.toList with
     |nil=>
          have:vv[0]?=vv.toList[0]?:=by simp
          rw[this,h]at e5;cases e5
     |cons y r=>
            have:vv[0]?=vv.toList[0]?:=by simp
            rw[this,h]at e5
            have:y=.str x t:=by simpa using e5
            rw[this];rfl
    have g2:LU.toList=.str x' t'::LU.toList.tail:=by
     cases h:LU.toList with
     |nil=>
          have:LU[0]?=LU.toList[0]?:=by simp
          rw[this,h]at f5;cases f5
     |cons y r=>
            have:LU[0]?=LU.toList[0]?:=by simp
            rw[this,h]at f5
            have:y=.str x' t':=by simpa using f5
            rw[this];rfl
    rw[g1,g2,aeI]
    have d1:nm.getD i ⟨#[]⟩=x:=by rw[aag,e6];rfl
    have d2:nm.getD j ⟨#[]⟩=x':=by rw[aag,f6];rfl
    have BV:x≠x':=λz=>ne (Pz i j hi hj (by rw[d1,d2,z]))
    refine PySem.W.kat_cons (afe ?_)
    rw[decide_eq_false BV]
    refine PySem.W.kat_no ?_
    show wpAny _ _ (oneLt' true (.str x t) (.str x' t')) _ _ _
    refine oneLt_str ?_
    have:=hC _ rfl
    have el:lt i j=decide (x.cps.toList<x'.cps.toList):=by
     show decide (AZ _ _)=_
     rw[d1,d2];rfl
    rw[el]at this
    exact this
   .rintro pa s' rfl ⟨P,As⟩
    refine PySem.W.KasFin.intro F' N' (.head λq hq=>?_) λKh c F2 N2=>?_
    .exact aas (hD q hq)
    .have OO:∀b o,b≠X.env.locals->s.heap.get? b=some o->Kh.get? b=some o:=λb o hb e=>by
      cases q:X.base.get? b with
      |some ob=>
       have:=I.bk b ob q
       rw[e]at this;cases this
       exact F2.keep b _ q
      |none=>exact(N2 (b,o) (aar _ (gy hb q e))).1
     have SJ:=(N2 _ aat)
     have Pr:s.heap.get? D=none:=by
      cases q:s.heap.get? D with
      |none=>rfl
      |some od=>exact absurd (Wt D od SJ.2.1 SJ.2.2 q) (abj _)
     have O9:∀i∈pa.toList,i<vs.length:=λi hi=>by
      obtain⟨j,hj,rfl⟩:=Array.mem_iff_getElem.mp (Array.mem_toList_iff.mp hi)
      have:=P.lt j (by rw[<- P.sz];exact hj)
      rw[Srt.bf]at this
      simp only[abR hj,adU]at this
      omega
     have q:=k D pa.toList (I.AU.dead Pr) (by rw[aaz,P.sz];omega) ?_ O9 ?_
     .refine⟨_,rfl,aaf ⟨_,rfl,.ref D,_,I.Lq (xs:=pa.toList.map λi=>vs.getD i .AF) F.ns F2.ns OO Pr ⟨?_,pa.toList.map λi=>iN.getD i abd,c,rv.pick _ O9,SJ.1⟩,rfl,q⟩⟩
      rw[aac,aaz,P.sz];exact hz
     .rw[acF,acK]
      intro i j hi hj Ey e
      have FF:i<pa.size:=by simpa using hi
      have Gu:j<pa.size:=by simpa using hj
      have:=P.nd i j (by rw[<- P.sz];exact FF) (by rw[<- P.sz];exact Gu) (by rw[Srt.bf,Srt.bf];simpa[FF,Gu]using e)
      omega
     .rw[ae1,acK]
      intro i j hi hj Ey
      have FF:i<pa.size:=by simpa using hi
      have Gu:j<pa.size:=by simpa using hj
      have:=As i j Ey (by rw[<- P.sz];exact Gu)
      rw[Srt.bf,Srt.bf]at this
      have:=of_decide_eq_true this
      simpa[FF,Gu]using this
theorem sw:AR X (.builtin "sorted") (Mv X.K):=by
 intro pins s σ H xs us Q I r h
 obtain⟨p,vs,nm,rfl,hq,D0,R,k⟩:=h
 obtain⟨u,rfl,ru⟩:=r.one
 cases ru
 obtain⟨iN,rv,pl,hz⟩:=I.list hq
 refine nj (λR' g=>collect_list pl.isList (g _ s.toks λb o e=>?_) (by rw[<- rv.length];exact hz)) λh1 tk kk=>oH (I.kept kk) rv (by rw[<- rv.length];exact hz) D0 R k
 have hb:b<s.heap.objs.size:=aak e
 rw[aez _ _ _ _ (aas hb)]
 exact aad _ e
section
open PySem.SeqAt
open PySem.AutoSeq1 (wpAny_loadPart')
open PySem.MeetsSeq PySem.MeetsSeq2 PySem.MeetsSeq3
end
def Ga(K:aah):R2:=λx y H Q=>∃a b xs,x=.ref a/\y=.ref b/\Cm K H a xs/\Cm K H b []/\Q (.bl (!xs.isEmpty)) H
theorem kI(hu:X.A.units<cLine):BL X (aaX .NotEq) (Ga X.K):=by
 intro pins s σ H x y v u Q I rx ry h
 obtain⟨a,b,xs,rfl,rfl,ha,hb,q⟩:=h
 cases rx
 cases ry
 obtain⟨iN,r1,p1,_⟩:=I.list ha
 obtain⟨Cq,r2,p2,_⟩:=I.list hb
 cases r2
 have fin:∀k,k=(!xs.isEmpty)->EP X pins σ Q (.bool k) s:=λk e=>by subst e;exact⟨.bl _,H,I,rfl,q⟩
 cases r1 with
 |nil=>exact SeqAt.RcNeAt.lists (e:=λ_=>true) p1.isList p2.isList rfl hu (λj h1 h2=>absurd h1 (by simp)) X.prog X.w X.xe _ (fin _ rfl)
 |cons _ _=>exact SeqAt.RcNeAt.lists_lengths p1.isList p2.isList (by simp) hu X.prog X.w X.xe _ (fin _ rfl)
def EE(x:Str)(n:Nat):Str:=⟨(aaI n x.cps.toList).flatten.toArray⟩
def Lk:R2:=λx y H Q=>∃(z:Str) (i:Int),x=.str z/\y=.int i/\0<=i/\i<=1000/\z.length<=1000/\Q (.str (EE z i.toNat)) H
theorem nK(x:Array Nat):∀(n:Nat) (acc:Array Nat),((aaI n x).foldl (·++·) acc)=acc++(aaI n x.toList).flatten.toArray
 |0,acc=>by simp
 |n+1,acc=>by
  rw[abf,List.foldl_cons,nK x n,abf,abZ]
  apply Array.toList_inj.mp
  simp
theorem w4(x:Str)(i:Int)(h:0<=i):Txt.mul x i=EE x i.toNat:=by
 unfold Txt.mul EE
 by_cases h1:i<1
 .have:i=0:=by omega
  subst this
  rfl
 .rw[if_neg h1]
  by_cases h2:(i==1 || x.length==0)=true
  .rw[if_pos h2]
   rw[aef]at h2
   obtain⟨x⟩:=x
   rcases h2 with z|z
   .have:i=1:=by simpa using z
    subst this
    congr 1
    apply Array.toList_inj.mp
    simp
   .have hz:x.size=0:=by simpa[aeV]using z
    have:x=#[]:=Array.eq_empty_of_size_eq_zero hz
    subst this
    congr 1
    apply Array.toList_inj.mp
    simp
  .rw[if_neg h2,nK]
   congr 1
   simp
theorem xH:BL X (acj .Mult) Lk:=by
 intro pins s σ H x y v u Q I rx ry h
 obtain⟨z,i,rfl,rfl,h0,h1,h2,q⟩:=h
 obtain⟨t,rfl⟩:=rx
 obtain⟨t',rfl⟩:=ry
 refine SB.mul ⟨?_,λ_ _ hh=>?_,λ_ _=>?_⟩ λt2 k=>?_
 .rw[decide_eq_false (by omega),decide_eq_false (by omega)];rfl
 .have:((2:Int) ^ 63 - 1) / i ≥ 2 ^ 50:=by
   apply (Int.le_ediv_iff_mul_le (by omega)).mpr
   have:(2:Int) ^ 50*i<=2 ^ 50*1000:=afk h1 (by decide)
   have e:(2:Int) ^ 50*1000<=2 ^ 63 - 1:=by decide
   omega
  have e:(2:Int) ^ 50 > 1000:=by decide
  omega
 .have:z.length*i.toNat<=1000*1000:=Nat.mul_le_mul h2 (by omega)
  refine decide_eq_false ?_
  rw[aaC]
  omega
 .rw[w4 z i h0]
  exact⟨.str (EE z i.toNat),H,I.tok k,⟨_,rfl⟩,q⟩
def Ot(K:aah):List V->Hp->VK->Prop:=λxs H Q=>∃x t c b,xs=[x,.ty c]/\Ep K H x t/\aeq K t (.type c)=some b/\Q (.bl b) H
theorem wF:AR X (.builtin "isinstance") (Ot X.K):=by
 intro pins s σ H xs us Q I r h
 obtain⟨x,t,c,b,rfl,ty,e,q⟩:=h
 cases r with
 |cons r1 r2=>
  cases r2 with
  |cons r2 r3=>
   cases r3
   cases r2
   exact t8 I r1 ty e λtk=>⟨.bl b,H,I.tok tk,rfl,q⟩
def Rj(wi:TI)(g:TG)(tc:TT)(tk te:TE)(js:List (Option Nat)):TE:=λσ H Q=>wi σ H λJ H1=>∀l,H1 l=none ->
 ∃W:Nat->Nat->List (Key×V)->Hp->Prop,(∃m,W 0 m [] (upd H1 l (.dK [])))/\∀i m ys H2,W i m ys H2 ->
  (J.stop i H2/\Q (.ref l) H2)\/(J.go i H2/\∀x H3,J.yld i H2 x H3->g x (BC js σ) H3 λσ4 H4=>tc σ4 H4 λb H5=>
   if b=true then tk σ4 H5 λkk H6=>te σ4 H6 λy H7=>∃key,kk=kV key/\H7 l=some (.dK ys)/\ys.length<sizeLine/\∃m',m'<m/\W (i+1) m' (putK ys key y) (upd H7 l (.dK (putK ys key y)))else ∃m',m'<m/\W (i+1) m' ys H5)
section
variable{tg kx vx iter:Expr}{ifs:List Expr}{scope:Scope}{pos:Pos}{wi:TI}{g:TG}{tc:TT}{tk te:TE}{N:List Str}{js:List (Option Nat)}
theorem rq{use:Option (Value->Sem Unit)}{Q:VK}{QQ:Value->Shared->Prop}{pos':Pos}(hc:X.calm=true)(hx:X.xe=λ_ _=>False)(hi:PI X tg iter wi)
  (hg:∀C s₀ H₀ ex pn,PG (AK X scope N C s₀ H₀ ex pn) tg g) (ht:∀C s₀ H₀ ex pn,PF (AK X scope N C s₀ H₀ ex pn) ifs tc) (hk:∀C s₀ H₀ ex pn,PE (AK X scope N C s₀ H₀ ex pn) kx tk) (he:∀C s₀ H₀ ex pn,PE (AK X scope N C s₀ H₀ ex pn) vx te) (JN:DI js g)
  (D7:D9 X.env scope=true) (BQ:CI X.N scope N js=true) (Bf:scope.kind=.function) (hs:∀x,abb iter X.env x=pure x)
  (I:Inv X pins σ H s) (h:Rj wi g tc tk te js σ H Q)
  (fin:∀(l C:Addr) (H':Hp) (s':Shared),Inv X pins σ H' s'->Q (.ref l) H'->H' C=none->C≠X.env.locals->X.s₀.heap.objs.size<=C->(∀x c,X.env.cells.lookup x=some c->c≠C)->(∀p∈X.pn++pins,p.1≠C)->(∃m,s'.heap.Ns C m)->afl (model X.prog X.w) X.A E use QQ (.ref l) C (.ok .next) s') :
  wpAny (model X.prog X.w) X.A (adO (.DictComp kx vx [⟨tg,iter,ifs,0⟩] scope pos) scope X.env pos' newDict false (eval iter X.env) use) QQ E s:=by
 have SC:=qJ D7
 have CP:=pU BQ
 refine wpAny_comprehension_free (cl:=Dh X.env.cells scope.names []) rfl hs (iB (SC.cells I.ok)) Bf SC.lc ?_
 refine aaT (hi pins s σ H _ I h) (λv s1 h1=>aaT h1 (λQp s2 h2=>?_) (λ_ _ z=>by rw[hx]at z;exact z.elim)) (λ_ _ z=>by rw[hx]at z;exact z.elim)
 obtain⟨it,fp,tn,J,H2,rfl,I2,T,Mf,f2,hq⟩:=h2
 have NK:H2 s2.heap.objs.size=none:=I2.AU.fresh (aal _)
 obtain⟨W,⟨m0,w0⟩,turn⟩:=hq s2.heap.objs.size NK
 refine aaa (wpAny_alloc (aaf (ael (λx hx=>SC.nc x hx) (by intro y hy;simp at hy) (λh₁ hns₁ hsb₁=>?_) Bf)))
 dsimp only at hns₁ hsb₁ ⊢
 generalize KS:s2.heap.push ({cls:=.type "dict",data:=.dict #[]}:Obj)=hp3 at hns₁ hsb₁ ⊢
 have Pt:hp3.objs.size=s2.heap.objs.size+1:=by rw[<- KS,aa4]
 have I3:Inv X pins σ (upd H2 s2.heap.objs.size (.dK [])) {s2 with heap:=hp3}:=by
  rw[<- KS]
  exact I2.laid (t':=s2.toks) (λb u e=>aad _ e) (aal _) (pO s2.heap I2.UN)
 have keep:∀b o,hp3.get? b=some o->h₁.get? b=some o:=λb o e=>hsb₁.extBut b o (aas (aak e)) (aad _ e)
 have M4:∀b∈fp,b<s2.heap.objs.size:=λb hb=>by
  obtain⟨o,e,_⟩:=T.obj _ _ Mf b hb
  exact aak e
 have f3:∀b∈fp,DS X pins (upd H2 s2.heap.objs.size (.dK [])) b:=λb hb=>⟨by rw[aj (aas (M4 b hb))];exact(f2 b hb).1,(f2 b hb).2⟩
 have J4:=pI (tk:=s2.toks+([]:List (Str×Value)).length) (C:=hp3.objs.size) (fp:=fp) (h₁:=h₁) (scope:=scope) (N:=N) (js:=js) I3 SC CP Bf f3 (λb hb=>by show b<hp3.objs.size;rw[Pt];exact abr (M4 b hb)) rfl keep (by
  have:(λx=>adm x ([]:List (Str×Value)).reverse)=λ_=>none:=by funext x;rfl
  rw[this]at hns₁;exact hns₁)
 have Oc:tn 0 h₁:=T.keep _ _ _ Mf λb hb o e=>keep b o (by rw[<- KS];exact aad _ e)
 have loop:∀s4:Shared,s4={s2 with heap:=h₁,toks:=s2.toks+([]:List (Str×Value)).length} ->
   ad6 (model X.prog X.w) X.A (.compLoop (.DictComp kx vx [⟨tg,iter,ifs,0⟩] scope pos) 0 (.ref it) (.ref s2.heap.objs.size) (compEnvC scope (Dh X.env.cells scope.names []) hp3.objs.size X.env)) (afl (model X.prog X.w) X.A E use QQ (.ref s2.heap.objs.size) hp3.objs.size) s4:=by
  rintro s4 rfl
  generalize hY:AK X scope N hp3.objs.size {s2 with heap:=hp3} (upd H2 s2.heap.objs.size (.dK [])) fp (X.pn++pins)=Y at J4
  have M5:∀{H':Hp},(∀b∈fp,H' b=none)->∀b∈fp,DS Y [] H' b:=λhn b hb=>by
   subst hY
   refine⟨hn b hb,?_,?_,.inl hb,λx c e=>?_,λp hp=>?_⟩
   .show b≠hp3.objs.size
    rw[Pt];exact aas (abr (M4 b hb))
   .intro z
    rcases List.mem_cons.mp (I3.D8 b z)with q|q
    .exact(f3 b hb).2.1 q
    .exact(f3 b hb).2.2.1 q
   .exact(f3 b hb).2.2.2.2.1 x c (fQ (SC.cells I.ok) (λc e=>by simp at e) e)
   .exact(f3 b hb).2.2.2.2.2 p (by simpa[AK]using hp)
  have Su:PG Y tg g:=by subst hY;exact hg _ _ _ _ _
  have R6:PF Y ifs tc:=by subst hY;exact ht _ _ _ _ _
  have V2:PE Y kx tk:=by subst hY;exact hk _ _ _ _ _
  have Sx:PE Y vx te:=by subst hY;exact he _ _ _ _ _
  have eA:Y.A=X.A:=by subst hY;rfl
  have eP:Y.prog=X.prog:=by subst hY;rfl
  have eW:Y.w=X.w:=by subst hY;rfl
  have eK:Y.K=X.K:=by subst hY;rfl
  have eC:Y.calm=true:=by subst hY;exact hc
  have eX:Y.xe=λ_ _=>False:=by subst hY;rfl
  have eE:Y.env=compEnvC scope (Dh X.env.cells scope.names []) hp3.objs.size X.env:=by subst hY;rfl
  have T':Turn Y.prog Y.w Y.K tg J fp it tn:=by rw[eP,eW,eK];exact T
  have eL:(BC js σ).length=js.length:=by unfold BC;rw[aac]
  rw[<- eP,<- eW,<- eA,<- eE]
  refine codeAny_loop rfl (λn s'=>∃i ys H',Inv Y [] (BC js σ) H' s'/\tn i s'.heap/\(∀b∈fp,H' b=none)/\W i n ys H') (λn s' hI=>?_) m0 ⟨0,[],_,J4,Oc,λb hb=>(f3 b hb).1,w0⟩
  obtain⟨i,ys,H5,I5,Ko,M3,w5⟩:=hI
  show wpAny _ Y.A ((compTurn (.DictComp kx vx [⟨tg,iter,ifs,0⟩] scope pos) 0 (.ref it) (.ref s2.heap.objs.size) Y.env).onRaise (λx=>do noteFrame x Y.env;theTreesLotGoes x)) _ _ s'
  refine wpAny_noted ?_
  rw[compTurn_dict]
  refine aaa (acB (aaa ?_))
  have Hq:∀(x:Value) (s:Shared) (P:Prop),Y.xe x s->P:=λx s P z=>by rw[eX]at z;exact z.elim
  rcases turn i n ys H5 w5 with ⟨stop,qn⟩|⟨go,step⟩
  .refine aaT (T'.done Y rfl rfl rfl eC i [] s' _ H5 Y.xe I5 (M5 M3) Ko stop) (λr s6 ⟨hr,I6⟩=>?_) λx s z=>Hq x s _ z
   subst hr
   refine aaf ?_
   show afl _ _ _ _ _ _ _ _ _
   rw[eP,eW,eA]
   have back:Inv X pins σ H5 s6:=by subst hY;exact pJ I3 I6 f3
   have KI:∃m,s6.heap.Ns hp3.objs.size m:=by
    obtain⟨m,hm,_⟩:=I6.loc
    have:Y.env.locals=hp3.objs.size:=by rw[eE];rfl
    rw[this]at hm
    exact⟨m,hm⟩
   have SK:H5 hp3.objs.size=none:=by
    have:=I6.free
    have e:Y.env.locals=hp3.objs.size:=by rw[eE];rfl
    rw[e]at this;exact this
   refine fin s2.heap.objs.size hp3.objs.size H5 s6 back qn SK ?_ ?_ ?_ ?_ KI
   .exact ab8 I3.lt
   .exact I3.sz
   .intro x c e z
    obtain⟨v,o,ho,_⟩:=I3.cell x c e
    exact absurd (aak ho) (by rw[z];exact abj _)
   .intro p hp z
    have:=aak (I3.pin p hp).1
    rw[z]at this;exact absurd this (abj _)
  .refine aaT (T'.item Y rfl rfl rfl eC i [] s' _ H5 Y.xe I5 (M5 M3) Ko go) (λr s6 h6=>?_) λx s z=>Hq x s _ z
   obtain⟨u,hr,h6⟩:=h6
   subst hr
   dsimp only
   refine aaa ?_
   refine aaT h6 (λ_ s7 h7=>?_) λx s z=>Hq x s _ z
   obtain⟨x,H7,I7,r7,y7,Me,SQ⟩:=h7
   have Ti:=I7.pinned (M5 SQ) (T.obj _ _ Me)
   have g7:=JN x (BC js σ) H7 _ (step x H7 y7)
   refine aaa ?_
   refine aaT (Su _ s7 (BC js σ) H7 x u _ Ti r7 g7) (λ_ s8 h8=>?_) λx s z=>Hq x s _ z
   obtain⟨σ8,H8,I8,q8,l8,k8⟩:=h8
   refine aaa ?_
   refine aaT (R6 _ s8 σ8 H8 _ I8 q8) (λb s9 h9=>?_) λx s z=>Hq x s _ z
   obtain⟨H9,I9,q9⟩:=h9
   have again:∀{s':Shared} {H':Hp},Inv Y ([]++Ea fp s7.heap) σ8 H' s'->Inv Y [] (BC js σ) H' s'/\tn (i+1) s'.heap/\∀b∈fp,H' b=none:=λ{s' H'} I'=>by
    refine⟨(I'.Dm).weak l8.symm λk v e=>?_,T.keep _ _ _ Me λb hb o e=>(I'.pin (b,o) (aaO _ (aaO _ (cw hb e)))).1,λb hb=>?_⟩
    .cases ej:js[k]? with
     |none=>
      unfold BC at e
      rw[aaj,ej]at e;cases e
     |some o=>
      cases o with
      |none=>
       unfold BC at e
       rw[aaj,ej]at e;cases e
      |some j=>rw[k8 k j ej];exact e
    .obtain⟨o,e,d⟩:=T.obj _ _ Me b hb
     exact(I'.pin (b,o) (aaO _ (aaO _ (cw hb e)))).2.1
   cases b with
   |false=>
    rw[if_neg aax]at q9
    obtain⟨m',hm,w9⟩:=q9
    obtain⟨a1,a2,a3⟩:=again I9
    exact aaf ⟨rfl,m',hm,i+1,ys,H9,a1,a2,a3,w9⟩
   |true=>
    rw[if_pos rfl]at q9
    refine aaa (aaa ?_)
    refine aaT (V2 _ s9 σ8 H9 _ I9 q9) (λkv Rv SO=>?_) λx s z=>Hq x s _ z
    obtain⟨kk,QO,Tj,RB,Vg⟩:=SO
    refine aaa (aa9 ?_)
    refine aaT (Sx _ Rv σ8 QO _ Tj Vg) (λvv Qh SN=>?_) λx s z=>Hq x s _ z
    obtain⟨yv,UQ,QN,Vf,key,ek,QH,z11,m',hm,UY⟩:=SN
    subst ek
    refine aaa (acB (aa9 ?_))
    obtain⟨zz,hd,vs,rel,dd⟩:=lS QN.AU QH
    have hz:vs.length<=sizeLine:=by rw[<- rel.length];exact zz
    have hl:(putK ys key yv).length<=sizeLine:=by have:=dL ys key yv;omega
    refine wpAny_dictSet_pairs (hsz:=hz) (fX RB) dd λh' Ki hs=>?_
    have he:∃q,h'.get? s2.heap.objs.size=some q:=let ⟨q,_,_,hq,_⟩:=Ki;⟨q,hq⟩
    have Xp:Inv Y _ σ8 (upd UQ s2.heap.objs.size (.dK (putK ys key yv))) {Qh with heap:=h',toks:=Qh.toks+1}:=jP (t':=Qh.toks+1) QN (by rw[QH];exact acr) hs he (pN hl hd (rel.put key Vf) Ki)
    obtain⟨a1,a2,a3⟩:=again Xp
    exact aaf ⟨rfl,m',hm,i+1,putK ys key yv,_,a1,a2,a3,UY⟩
 exact codeAny_compStart_dict (loop _ rfl) (T.self X.A 0 _ _ _ Oc (loop _ rfl))
theorem Al(hi:PI X tg iter wi)(hg:∀C s₀ H₀ ex pn,PG (AK X scope N C s₀ H₀ ex pn) tg g)(ht:∀C s₀ H₀ ex pn,PF (AK X scope N C s₀ H₀ ex pn) ifs tc)(hk:∀C s₀ H₀ ex pn,PE (AK X scope N C s₀ H₀ ex pn) kx tk)(he:∀C s₀ H₀ ex pn,PE (AK X scope N C s₀ H₀ ex pn) vx te)(JN:DI js g)
  (hc:X.calm=true:=by rfl) (hx:X.xe=(λ_ _=>False):=by rfl) (D7:D9 X.env scope=true:=by rfl) (BQ:CI X.N scope N js=true:=by rfl) (Bf:scope.kind=.function:=by rfl) (hs:∀x,abb iter X.env x=pure x:=by intro _;rfl) :
  PE X (.DictComp kx vx [⟨tg,iter,ifs,0⟩] scope pos) (Rj wi g tc tk te js):=by
 intro pins s σ H Q I h
 show wpAny _ X.A (adO (.DictComp kx vx [⟨tg,iter,ifs,0⟩] scope pos) scope X.env _ newDict false (eval iter X.env)) _ _ s
 refine rq (use:=none) hc hx hi hg ht hk he JN D7 BQ Bf hs I h λl C H' s' I' q f0 f1 f2 f3 f4 ⟨m,hm⟩=>?_
 refine⟨m,hm,λh' sb=>⟨.ref l,H',?_,rfl,q⟩⟩
 exact I'.turned (t':=s'.toks) (it:=C) (λb o hb e=>sb.extBut b o hb e) f0 f1 (.inr f2) f3 f4
theorem wM{i:Nat}{y:Str}{py BN:Pos}(hN:X.N.Nodup)(hy:X.N[i]?=some y)(hl:X.env.scope.names.lookup y=some .local)(hi:PI X tg iter wi)(hg:∀C s₀ H₀ ex pn,PG (AK X scope N C s₀ H₀ ex pn) tg g)(ht:∀C s₀ H₀ ex pn,PF (AK X scope N C s₀ H₀ ex pn) ifs tc)(hk:∀C s₀ H₀ ex pn,PE (AK X scope N C s₀ H₀ ex pn) kx tk)(he:∀C s₀ H₀ ex pn,PE (AK X scope N C s₀ H₀ ex pn) vx te)(JN:DI js g)
  (JJ:abV (.DictComp kx vx [⟨tg,iter,ifs,0⟩] scope pos) (some (.Name y py)) BN.line X.env=pure true:=by rfl)
  (hc:X.calm=true:=by rfl) (hx:X.xe=(λ_ _=>False):=by rfl) (D7:D9 X.env scope=true:=by rfl) (BQ:CI X.N scope N js=true:=by rfl) (Bf:scope.kind=.function:=by rfl) (hs:∀x,abb iter X.env x=pure x:=by intro _;rfl) :
  PS X (.Assign [.Name y py] (.DictComp kx vx [⟨tg,iter,ifs,0⟩] scope pos) BN) (He (Rj wi g tc tk te js) (CG i)):=by
 intro pins s σ H D I h
 rw[exec_Assign_Name_used _ _ _ _ JJ]
 refine aaa (acB (aaa ?_))
 show wpAny _ X.A (do let _ <- adO (.DictComp kx vx [⟨tg,iter,ifs,0⟩] scope pos) scope X.env _ newDict false (eval iter X.env) (some (assign (.Name y py) X.env))) _ _ s
 refine aaa (aaT (rq (use:=some (assign (.Name y py) X.env)) (E:=X.xe) (QQ:=λ_ s'=>SP X pins D .next s') hc hx hi hg ht hk he JN D7 BQ Bf hs I h λl C H' s' I' q f0 f1 f2 f3 f4 ⟨m,hm⟩=>?_) (λ_ s' hq=>aaf (aaf hq)) λ_ _ e=>e)
 show wpAny _ X.A (assign (.Name y py) X.env (.ref l)) _ _ _
 refine aeP (iL I' hN hy (.inl hl) (v:=.ref l) rfl (λMp Tn ⟨a,sb,ha⟩=>?_) (.inr hl))
 have SF:C≠a:=by
  rcases ha with rfl|ha
  .exact f1
  .exact λz=>f3 _ _ ha z.symm
 refine⟨m,hm.sameBut sb SF,λh' Rp=>⟨_,H',?_,q⟩⟩
 exact Tn.turned (t':=Mp.toks) (it:=C) (λb o hb e=>Rp.extBut b o hb e) f0 f1 (.inr f2) f3 f4
end
theorem gA:∀{bs:List Bool} {us:List Value},AM (bs.map V.bl) us->LSm.BoolsAre us bs
 |[],_,r=>by cases r;exact .nil
 |b::bs,_,r=>by
  cases r with
  |cons r1 r2=>cases r1;exact .cons b (gA r2)
theorem ir(hc:X.calm=true):AR X (.builtin "all") (λxs H Q=>∃(p:Addr) (bs:List Bool),xs=[.ref p]/\Cm X.K H p (bs.map V.bl)/\Q (.bl (bs.all id)) H):=by
 intro pins s σ H xs us Q I r h
 obtain⟨p,bs,rfl,hq,q⟩:=h
 obtain⟨u,rfl,ru⟩:=r.one
 cases ru
 obtain⟨iN,rv,pl,hz⟩:=I.list hq
 have hb:=gA rv
 have hl:=pl.isList
 have BW:p<s.heap.objs.size:=by obtain⟨_,e,_⟩:=hl;exact aak e
 refine call_all_walk (ac4 hl ⟨s.heap.objs.size,[s.heap.objs.size,p],[s.heap.objs.size],iN.toArray.size,_,_,λi=>(bs[i]?).getD true,rfl,
  Walks.list (A:=X.A.in1) (I.ok.hd hc) _ p (aas BW) iN.toArray,⟨⟨_,aai _ rfl,rfl,rfl⟩,hl.push _⟩,λi v s' Q' E' hP hQ=>?_,λh' tk hk=>?_⟩)
 .obtain⟨b,eb,rfl⟩:=hb.get i v (by simpa using hP)
  simp only[eb,adU]at hQ
  exact abM hQ
 .have eb:((aa6 iN.toArray.size).all λi=>(bs[i]?).getD true)=bs.all id:=by
   rw[aae,hb.length,LSm.range_all bs]
  rw[eb]
  exact⟨.bl (bs.all id),H,I.kept (LSm.kept_iter hk),rfl,q⟩
variable{j t:Addr}{n:Nat}
theorem mH{iN:Array Value}(gj:s.heap.IsTupleIter j t n)(gt:s.heap.IsTuple t iN)(gx:iN[n]?=some x)
  (k:∀h',h'.IsTupleIter j t (n+1)->aci j s.heap h'->Q x {s with heap:=h'}):wpAny (model prog w) A (abh (.ref j)) Q E s:=by
 obtain⟨oj,j1,j2,j3⟩:=id gj
 obtain⟨ot,t1,_,m,t3⟩:=gt
 unfold abh
 refine aaa (abz (name:=aaP "__next__") gj.typeIs acH (aa7 acH gj.typeIs afB ?_ (afm _)))
 show wpAny _ _ (field (.ref j) 0 >>= _) _ _ s
 refine aaa (abN j1 j3 (x:=.ref t) rfl ?_)
 show wpAny _ _ (if (aaL t==.none)=true then _ else _) _ _ s
 rw[if_neg (show ¬ ((aaL t==.none)=true)from aax)]
 show wpAny _ _ (field (.ref j) 1 >>= _) _ _ s
 refine aaa (abN j1 j3 (x:=.int n 0) rfl ?_)
 refine aaa (m:=seqItems? (.ref t)) (abX t1 t3 ?_)
 simp only[ab0,gx]
 refine aaa (aco j1 j3 (by simp) (aaf ⟨x,rfl,aaf (k _ ⟨_,abw _ j1 (acx (abm j3 _)),(adD ..).trans j2,?_⟩ (aa1 ..))⟩))
 rw[abm j3]
 simp[rawInt]
theorem JU{iN:Array Value}(hh:A.handled=none)(gj:s.heap.IsTupleIter j t n)(gt:s.heap.IsTuple t iN)(gx:iN[n]?=none)
  (k:∀h' e,Heap.ExtBut j s.heap h'->(∃o,h'.get? e=some o/\o.cls=.type "StopIteration")->E (.ref e) {s with heap:=h'}):wpAny (model prog w) A (abh (.ref j)) Q E s:=by
 obtain⟨oj,j1,j2,j3⟩:=id gj
 obtain⟨ot,t1,_,m,t3⟩:=gt
 unfold abh
 refine aaa (abz (name:=aaP "__next__") gj.typeIs acH (aa7 acH gj.typeIs afB ?_ (afm _)))
 show wpAny _ _ (field (.ref j) 0 >>= _) _ _ s
 refine aaa (abN j1 j3 (x:=.ref t) rfl ?_)
 show wpAny _ _ (if (aaL t==.none)=true then _ else _) _ _ s
 rw[if_neg (show ¬ ((aaL t==.none)=true)from aax)]
 show wpAny _ _ (field (.ref j) 1 >>= _) _ _ s
 refine aaa (abN j1 j3 (x:=.int n 0) rfl ?_)
 refine aaa (m:=seqItems? (.ref t)) (abX t1 t3 ?_)
 simp only[ab0,gx]
 refine aaa (ac3 (aaa (aco j1 j3 (by simp) ?_)))
 refine aaa (m:=newExc (.type "StopIteration") []) ?_
 simp only[newExc,newTuple]
 refine aaa (aba (aaa (m:=aeo _ _) (wpAny_of_eq (a:=abd) (by first|rfl|(simp only[aeo];rfl)) (aba ?_ (by size_fits)))) (by size_fits))
 simp only[raiseNew]
 refine aaa (wpAny_handled ?_)
 first|rw[show A.in1.handled=none from hh]|rw[hh]
 exact aaa (aaf (wpAny_throw (k _ _ (((aa1 ..).extBut.push _).push _) ⟨_,aai _ rfl,rfl⟩)))
structure IK(h:Heap)(z u o i1 i2 t1 t2:Addr)(n:Nat):Prop where
 zz:IsZip h z u o .none
 uu:IsPair h u (.ref i1) (.ref i2)
 oo:∃a b,IsPair h o a b
 a1:h.IsTupleIter i1 t1 n
 a2:h.IsTupleIter i2 t2 n
structure K9(z u o i1 i2:Addr):Prop where
 uz:u≠z
 oz:o≠z
 x1z:i1≠z
 x2z:i2≠z
 uo:u≠o
 u1:u≠i1
 u2:u≠i2
 o1:o≠i1
 o2:o≠i2
 xx:i1≠i2
theorem Gw{iN:Array Value}(x:h.IsTuple a iN)(k:∀o,h.get? a=some o->h'.get? a=some o):h'.IsTuple a iN:=by
 obtain⟨o,e,r⟩:=x
 exact⟨o,k o e,r⟩
theorem CY(x:h.IsTupleIter a t n)(k:∀o,h.get? a=some o->h'.get? a=some o):h'.IsTupleIter a t n:=by
 obtain⟨o,e,r⟩:=x
 exact⟨o,k o e,r⟩
variable{z u:Addr}{v:Value}
theorem eM{o:Addr}{iN:Array Value}(x:h.IsTuple t iN)(y:IsZip h z u o v):t≠z:=by
 rintro rfl
 obtain⟨q,e,c,_⟩:=x
 rw[y]at e;cases e
 simp at c
variable{b:Addr}
theorem li{iN:Array Value}(x:h.IsTuple t iN)(y:h.IsTupleIter j b n):t≠j:=by
 rintro rfl
 obtain⟨q,e,c,_⟩:=x
 obtain⟨q',e',c',_⟩:=y
 rw[e]at e';cases e'
 rw[c]at c'
 simp at c'
variable{i1 i2 t1 t2:Addr}{ys:Array Value}
theorem sE{o:Addr}{xs:Array Value}{y:Value}{Q:Option Value->Shared->Prop}(D:K9 z u o i1 i2)(Z:IK s.heap z u o i1 i2 t1 t2 n)(Ka:t1≠o)(JM:t2≠o)
  (g1:s.heap.IsTuple t1 xs) (g2:s.heap.IsTuple t2 ys) (e1:xs[n]?=some x) (e2:ys[n]?=some y)
  (k:∀h',IsZip h' z u o (rawInt s.heap.objs.size)->IsPair h' u (.ref i1) (.ref i2)->IsPair h' o x y->h'.IsTupleIter i1 t1 (n+1)->h'.IsTupleIter i2 t2 (n+1)->IsPair h' s.heap.objs.size x y->h'.objs.size=s.heap.objs.size+1 ->
   (∀c q,c∉[z,o,i1,i2]->s.heap.get? c=some q->h'.get? c=some q)->Q (some (.ref s.heap.objs.size)) {s with heap:=h'}) :
  wpAny (model prog w) A (pyNext (.ref z)) Q E s:=by
 obtain⟨zz,uu,⟨a,b,oo⟩,a1,a2⟩:=Z
 have z1:=eM g1 zz
 have z2:=eM g2 zz
 have Iv:s.TypeIs (.ref z) "zip" := ⟨_,zz,rfl⟩
 unfold pyNext
 refine aaa (aeC (abz (name:=aaP "__next__") Iv aee (aa7 aee Iv F.entry_zip_next ?_ (F.args_zip_next_1 _))))
 refine aaa (m:=field (.ref z) 2) (abN zz rfl (x:=.bool false) rfl ?_)
 refine aaa (m:=field (.ref z) 3) (abN zz rfl (x:=.ref u) rfl ?_)
 refine aaa (abX uu rfl ?_)
 refine aaa (m:=ab3 (.ref z)) ?_
 unfold ab3
 refine aaa (abN zz rfl (x:=.none) rfl (aaf ?_))
 simp only[if_true]
 refine aaa (ac3 (aaa (abN zz rfl (x:=.ref o) rfl (aaa (acu zz (by simp) λp1 q1 k1=>?_)))))
 replace q1:IsZip p1 z u o .ellipsis:=q1
 refine aaa ?_
 simp only[List.zipIdx_cons,List.zipIdx_nil,afA,List.forIn_nil]
 refine aaa (aaa (aeB ?_))
 refine aaa (m:=abh (.ref i1)) (mH (CY a1 λq e=>k1.extBut _ _ D.x1z e) (Gw g1 λq e=>k1.extBut _ _ z1 e) e1 λp2 q2 k2=>aaf ?_)
 have r2:IsPair p2 o a b:=k2.extBut _ _ D.o1 (k1.extBut _ _ D.oz oo)
 refine aaa (abX r2 rfl (aaa (aek r2 λp3 q3 k3=>?_)))
 replace q3:IsPair p3 o x b:=q3
 refine aaa (afn (aaf (aaa (aaa (aeB ?_)))))
 refine aaa (m:=abh (.ref i2)) (mH (CY a2 λq e=>k3.extBut _ _ D.o2.symm (k2.extBut _ _ D.xx.symm (k1.extBut _ _ D.x2z e)))
  (Gw g2 λq e=>k3.extBut _ _ JM (k2.extBut _ _ (li g2 a1) (k1.extBut _ _ z2 e))) e2 λp4 q4 k4=>aaf ?_)
 have r4:IsPair p4 o x b:=k4.extBut _ _ D.o2 q3
 refine aaa (abX r4 rfl (aaa (aek r4 λp5 q5 k5=>?_)))
 replace q5:IsPair p5 o x y:=q5
 refine aaa (afn (aaf (aaf ?_)))
 refine aaa (abX q5 rfl (aaa (afI ?_)))
 have sz:p5.objs.size=s.heap.objs.size:=by rw[k5.1,k4.1,k3.1,k2.1,k1.1]
 have PJ:∀c q,c≠z->c≠o->c≠i1->c≠i2->s.heap.get? c=some q->p5.get? c=some q:=λc q c1 c2 c3 c4 e=>k5.extBut _ _ c2 (k4.extBut _ _ c4 (k3.extBut _ _ c2 (k2.extBut _ _ c3 (k1.extBut _ _ c1 e))))
 have z5:IsZip p5 z u o .ellipsis:=k5.extBut _ _ D.oz.symm (k4.extBut _ _ D.x2z.symm (k3.extBut _ _ D.oz.symm (k2.extBut _ _ D.x1z.symm q1)))
 have b1:p5.IsTupleIter i1 t1 (n+1):=CY q2 λq e=>k5.extBut _ _ D.o1.symm (k4.extBut _ _ D.xx (k3.extBut _ _ D.o1.symm e))
 have b2:p5.IsTupleIter i2 t2 (n+1):=CY q4 λq e=>k5.extBut _ _ D.o2.symm e
 refine aaa (m:=aet (.ref z) (.ref p5.objs.size)) ?_
 unfold aet
 have z6:IsZip (p5.push {cls:=.type "tuple",data:=.seq #[x,y]}) z u o .ellipsis:=aad _ z5
 refine aaa (acu z6 (by simp) λp7 q7 k7=>?_)
 replace q7:IsZip p7 z u o (rawInt p5.objs.size):=q7
 refine acu q7 (by simp) λp8 q8 k8=>?_
 replace q8:IsZip p8 z u o (rawInt p5.objs.size):=q8
 have up:∀c q,c≠z->p5.get? c=some q->p8.get? c=some q:=λc q c1 e=>k8.extBut _ _ c1 (k7.extBut _ _ c1 (aad _ e))
 have Tv:p5.objs.size≠z:=ab8 (aak z5)
 have OG:IsPair p8 p5.objs.size x y:=k8.extBut _ _ Tv (k7.extBut _ _ Tv (aai _ rfl))
 have s8:p8.objs.size=p5.objs.size+1:=by rw[k8.1,k7.1,aa4]
 rw[sz]at q8 OG s8
 refine aaf ⟨_,rfl,aaf ?_⟩
 show Q (some (.ref p5.objs.size)) _
 rw[sz]
 exact k p8 q8 (up _ _ D.uz (PJ _ _ D.uz D.uo D.u1 D.u2 uu)) (up _ _ D.oz q5) (CY b1 λq e=>up _ _ D.x1z e) (CY b2 λq e=>up _ _ D.x2z e) OG s8 λc q hc e=>by
  simp only[aa2,aaS,or_false,not_or]at hc
  exact up c q hc.1 (PJ c q hc.1 hc.2.1 hc.2.2.1 hc.2.2.2 e)
theorem uU{o:Addr}{xs:Array Value}{Q:Option Value->Shared->Prop}(hh:A.handled=none)(D:K9 z u o i1 i2)(Z:IK s.heap z u o i1 i2 t1 t2 n)(Ka:t1≠o)(JM:t2≠o)
  (g1:s.heap.IsTuple t1 xs) (g2:s.heap.IsTuple t2 ys) (e:xs[n]?=none\/ys[n]?=none)
  (k:∀h',(∀c q,c∉[z,o,i1,i2]->s.heap.get? c=some q->h'.get? c=some q)->Q none {s with heap:=h'}) :
  wpAny (model prog w) A (pyNext (.ref z)) Q E s:=by
 obtain⟨zz,uu,⟨a,b,oo⟩,a1,a2⟩:=Z
 have z1:=eM g1 zz
 have z2:=eM g2 zz
 have Iv:s.TypeIs (.ref z) "zip" := ⟨_,zz,rfl⟩
 unfold pyNext
 have fin:∀(h':Heap) (x:Addr),(∀c q,c∉[z,o,i1,i2]->s.heap.get? c=some q->h'.get? c=some q)->(∃q,h'.get? x=some q/\q.cls=.type "StopIteration") ->
   wpAny (model prog w) A (do if (<- isInstance (.ref x) (.type "StopIteration"))then pure none else throw (.ref x)) Q E {s with heap:=h'}:=λh' x kk ⟨q,hq,hc⟩=>
  aaa (afd (T := "StopIteration") (b:=true) ⟨q,hq,hc⟩ isSubtype_stop (aaf (k _ kk)))
 refine aaa (aeC (abz (name:=aaP "__next__") Iv aee (aa7 aee Iv F.entry_zip_next ?_ (F.args_zip_next_1 _))))
 refine aaa (m:=field (.ref z) 2) (abN zz rfl (x:=.bool false) rfl ?_)
 refine aaa (m:=field (.ref z) 3) (abN zz rfl (x:=.ref u) rfl ?_)
 refine aaa (abX uu rfl ?_)
 refine aaa (m:=ab3 (.ref z)) ?_
 unfold ab3
 refine aaa (abN zz rfl (x:=.none) rfl (aaf ?_))
 simp only[if_true]
 refine aaa (ac3 (aaa (abN zz rfl (x:=.ref o) rfl (aaa (acu zz (by simp) λp1 q1 k1=>?_)))))
 replace q1:IsZip p1 z u o .ellipsis:=q1
 refine aaa ?_
 simp only[List.zipIdx_cons,List.zipIdx_nil,afA,List.forIn_nil]
 refine aaa (aaa (aeB ?_))
 cases e1:xs[n]? with
 |none=>
  refine aaa (m:=abh (.ref i1)) (JU hh (CY a1 λq e=>k1.extBut _ _ D.x1z e) (Gw g1 λq e=>k1.extBut _ _ z1 e) e1 λp2 x k2 ⟨ox,x1,x2⟩=>?_)
  have q2:IsZip p2 z u o .ellipsis:=k2 _ _ D.x1z.symm q1
  have xz:x≠z:=λq=>by subst q;rw[q2]at x1;cases x1;simp at x2
  refine acu q2 (by simp) λp3 _ k3=>fin p3 x (λc q hc e=>?_) ⟨ox,k3.extBut _ _ xz x1,x2⟩
  simp only[aa2,aaS,or_false,not_or]at hc
  exact k3.extBut _ _ hc.1 (k2 _ _ hc.2.2.1 (k1.extBut _ _ hc.1 e))
 |some x0=>
  have e2:ys[n]?=none:=by rcases e with h|h;rw[e1]at h;cases h;exact h
  refine aaa (m:=abh (.ref i1)) (mH (CY a1 λq e=>k1.extBut _ _ D.x1z e) (Gw g1 λq e=>k1.extBut _ _ z1 e) e1 λp2 q2 k2=>aaf ?_)
  have r2:IsPair p2 o a b:=k2.extBut _ _ D.o1 (k1.extBut _ _ D.oz oo)
  refine aaa (abX r2 rfl (aaa (aek r2 λp3 q3 k3=>?_)))
  refine aaa (afn (aaf (aaa (aaa (aeB ?_)))))
  refine aaa (m:=abh (.ref i2)) (JU hh (CY a2 λq e=>k3.extBut _ _ D.o2.symm (k2.extBut _ _ D.xx.symm (k1.extBut _ _ D.x2z e)))
   (Gw g2 λq e=>k3.extBut _ _ JM (k2.extBut _ _ (li g2 a1) (k1.extBut _ _ z2 e))) e2 λp4 x k4 ⟨ox,x1,x2⟩=>?_)
  have q4:IsZip p4 z u o .ellipsis:=k4 _ _ D.x2z.symm (k3.extBut _ _ D.oz.symm (k2.extBut _ _ D.x1z.symm q1))
  have xz:x≠z:=λq=>by subst q;rw[q4]at x1;cases x1;simp at x2
  refine acu q4 (by simp) λp5 _ k5=>fin p5 x (λc q hc e=>?_) ⟨ox,k5.extBut _ _ xz x1,x2⟩
  simp only[aa2,aaS,or_false,not_or]at hc
  exact k5.extBut _ _ hc.1 (k4 _ _ hc.2.2.2 (k3.extBut _ _ hc.2.1 (k2.extBut _ _ hc.2.2.1 (k1.extBut _ _ hc.1 e))))
abbrev Qa(h:Heap)(t1:Addr):Heap:=h.push {cls:=.type "tuple_iterator",data:=.fields #[.ref t1,.int 0 0]}
abbrev P9(h:Heap)(t1 t2:Addr):Heap:=(Qa h t1).push {cls:=.type "tuple_iterator",data:=.fields #[.ref t2,.int 0 0]}
abbrev P8(h:Heap)(t1 t2:Addr):Heap:=(P9 h t1 t2).push {cls:=.type "tuple",data:=.seq #[.ref h.objs.size,.ref (Qa h t1).objs.size]}
abbrev P7(h:Heap)(t1 t2:Addr):Heap:=(P8 h t1 t2).push {cls:=.type "tuple",data:=.seq #[.none,.none]}
abbrev LR(h:Heap)(t1 t2:Addr):Heap:=(P7 h t1 t2).push {cls:=.type "zip",data:=.fields #[.none,.bool false,.bool false,.ref (P9 h t1 t2).objs.size,.ref (P8 h t1 t2).objs.size]}
theorem vS(t1 t2:Addr)(xs ys:Array Value):Meets (acI.«zip.__new__» ⟨[.type "zip",.ref t1,.ref t2],[]⟩)
  (λ_ R s=>s.heap.IsTuple t1 xs/\s.heap.IsTuple t2 ys/\R (.ok (.ret (.ref (P7 s.heap t1 t2).objs.size))) {s with heap:=LR s.heap t1 t2}) :=
 .of_wp λprog w A R s q=>by
  obtain⟨hp,g,d,tk,os⟩:=s
  obtain⟨g1,g2,q⟩:=q
  have hs:=sub_zip
  have m1:Heap.IsTuple (Shared.heap ⟨hp,g,d,tk,os⟩) t1 xs:=g1
  have m2:Heap.IsTuple (Shared.heap ⟨hp.push {cls:=.type "tuple_iterator",data:=.fields #[.ref t1,.int 0 0]},g,d,tk,os⟩) t2 ys:=Heap.IsTuple.push g2 _
  wp_walk using acS m1,acS m2
  exact⟨_,rfl,q⟩
theorem yz{xs:Array Value}(g1:s.heap.IsTuple t1 xs)(g2:s.heap.IsTuple t2 ys)
  (k:∀h',IK h' (s.heap.objs.size+4) (s.heap.objs.size+2) (s.heap.objs.size+3) s.heap.objs.size (s.heap.objs.size+1) t1 t2 0->h'.objs.size=s.heap.objs.size+5->(∀c o,s.heap.get? c=some o->h'.get? c=some o)->Q (.ref (s.heap.objs.size+4)) {s with heap:=h'}) :
  wpAny (model prog w) A (call (.type "zip") [.ref t1,.ref t2]) Q E s:=by
 refine callType_new F.called_zip (by decide) (F.typeCall_zip_2 _ _) (F.newCall_zip_2 _ _) (λobj=>F.args_object_init_3 obj _ _) F.entry_zip_new (vS t1 t2 xs ys) ⟨g1,g2,?_⟩
 have z1:(Qa s.heap t1).objs.size=s.heap.objs.size+1:=aa4 ..
 have z2:(P9 s.heap t1 t2).objs.size=s.heap.objs.size+2:=by rw[aa4,z1]
 have z3:(P8 s.heap t1 t2).objs.size=s.heap.objs.size+3:=by rw[aa4,z2]
 have z4:(P7 s.heap t1 t2).objs.size=s.heap.objs.size+4:=by rw[aa4,z3]
 have z5:(LR s.heap t1 t2).objs.size=s.heap.objs.size+5:=by rw[aa4,z4]
 have up:∀{h:Heap} {o o':Obj} {c:Addr},h.get? c=some o'->(h.push o).get? c=some o':=λe=>aad _ e
 have y5:(LR s.heap t1 t2).get? (P7 s.heap t1 t2).objs.size=some _:=aai _ rfl
 have y4:(LR s.heap t1 t2).get? (P8 s.heap t1 t2).objs.size=some _:=up (aai _ rfl)
 have y3:(LR s.heap t1 t2).get? (P9 s.heap t1 t2).objs.size=some _:=up (up (aai _ rfl))
 have y2:(LR s.heap t1 t2).get? (Qa s.heap t1).objs.size=some _:=up (up (up (aai _ rfl)))
 have y1:(LR s.heap t1 t2).get? s.heap.objs.size=some _:=up (up (up (up (aai _ rfl))))
 show _/\_
 rw[z2,z3,z4]at y5
 rw[z1,z2]at y3
 rw[z3]at y4
 rw[z1]at y2
 rw[z4]
 exact⟨⟨_,y5,rfl⟩,k _ ⟨y5,y3,⟨_,_,y4⟩,⟨_,y1,rfl,rfl⟩,⟨_,y2,rfl,rfl⟩⟩ z5 λc o e=>up (up (up (up (up e))))⟩
variable{t':Nat}{fp:List Addr}
theorem Inv.EL(I:Inv X pins σ H s)(k:∀b o,b∉fp->s.heap.get? b=some o->h'.get? b=some o)(hf:∀b∈fp,DS X pins H b):Inv X pins σ H {s with heap:=h',toks:=t'}:=by
 have OF:∀b u,H b=some u->b∉fp:=λb u e z=>by rw[(hf b z).1]at e;cases e
 refine I.step (g':=s.gens) (d':=s.drawn) (ch:=fp) (λb hb=>?_) (λb o _ _ hc e _=>k b o hc e) (λb o _ _ hc e _=>⟨o.slots,k b o hc e⟩) (λ_ _ _ _ n=>n)
  (λb o hc e=>⟨o,k b o hc e⟩) (λ_ _ e=>e) (λ_ _ _ e=>e) (λb ps e=>⟨#[],by rw[e];simp⟩) (λm hm=>?_) (λb u e=>?_) I.bare
 .obtain⟨f0,f1,f2,f3,f4,f5⟩:=hf b hb
  exact⟨f3,f1,f4,f5⟩
 .obtain⟨o,es,ep,ho,r⟩:=hm
  exact⟨o,es,ep,k _ o (λz=>(hf _ z).2.1 rfl) ho,r⟩
 .refine(I.AU b u e).F8 (λc v hc q=>k c v ?_ q) (λ_ q=>q) λ_ _ q=>q
  rcases hc with z|z
  .rw[z];exact OF b u e
  .exact OF c _ z
def Tf(K:aah)(a b:Addr):It :=
 ⟨λi H=>∃xs ys x y,Cd K H a xs/\Cd K H b ys/\xs[i]?=some x/\ys[i]?=some y,
  λi H v H'=>∃p x y,v=.ref p/\H p=none/\H'=upd H p (.tup [x,y])/\∀xs ys,Cd K H a xs->Cd K H b ys->xs[i]?=some x/\ys[i]?=some y,
  λi H=>∃xs ys,Cd K H a xs/\Cd K H b ys/\(xs.length<=i\/ys.length<=i)⟩
theorem sD{o:Addr}(Z:IK h z u o i1 i2 t1 t2 n)(k:∀b∈[z,u,o,i1,i2],∀q,h.get? b=some q->h'.get? b=some q):IK h' z u o i1 i2 t1 t2 n:=by
 obtain⟨zz,uu,⟨a,b,oo⟩,a1,a2⟩:=Z
 exact⟨k z (by simp) _ zz,k u (by simp) _ uu,⟨a,b,k o (by simp) _ oo⟩,CY a1 λq e=>k i1 (by simp) q e,CY a2 λq e=>k i2 (by simp) q e⟩
variable{K:aah}{elts:List Expr}{pos:Pos}
theorem uY{x1:_}(a b z u o i1 i2:Addr)(D:K9 z u o i1 i2)(Ka:a≠o)(JM:b≠o):
  Turn P w K (.Tuple elts x1 pos) (Tf K a b) [z,u,o,i1,i2] z (λn h=>IK h z u o i1 i2 a b n) where
 mem:=by simp
 obj:=λn h Z c hc=>by
  obtain⟨zz,uu,⟨p,q,oo⟩,⟨o1,e1,c1,d1⟩,⟨o2,e2,c2,d2⟩⟩:=Z
  simp only[aa2,aaS,or_false]at hc
  rcases hc with rfl|rfl|rfl|rfl|rfl
  .exact⟨_,zz,λv e=>(by cases (show Data.fields _=afC v from e))⟩
  .exact⟨_,uu,λv e=>(by cases (show Data.seq _ _=afC v from e))⟩
  .exact⟨_,oo,λv e=>(by cases (show Data.seq _ _=afC v from e))⟩
  .exact⟨_,e1,λv e=>(by rw[d1]at e;cases e)⟩
  .exact⟨_,e2,λv e=>(by rw[d2]at e;cases e)⟩
 keep:=λn h h' Z k=>sD Z k
 item:=by
  intro X hP hw hK hc n pins s σ H E I hf Z hg
  subst hP hw hK
  obtain⟨xs,ys,x,y,hx,hy,ex,ey⟩:=hg
  obtain⟨OT,Qi,p1,NA⟩:=I.tuple hx
  obtain⟨OS,Nv,p2,OZ⟩:=I.tuple hy
  obtain⟨v1,e1,r1⟩:=Qi.get ex
  obtain⟨v2,e2,r2⟩:=Nv.get ey
  have FQ:H s.heap.objs.size=none:=I.AU.fresh (aal _)
  refine sE D Z Ka JM (show s.heap.IsTuple a OT.toArray from p1) (show s.heap.IsTuple b OS.toArray from p2) (x:=v1) (y:=v2) (by simpa using e1) (by simpa using e2) λh' q1 q2 q3 q4 q5 q6 q7 kk=>?_
  refine⟨_,rfl,wpAny_letOwnedTupleGo_zip (s:={s with heap:=h'}) q1 λh2 w1 w2=>?_⟩
  have old:∀c∈[z,u,o,i1,i2],c<s.heap.objs.size:=λc hc=>by
   obtain⟨zz,uu,⟨p,q,oo⟩,⟨o1,e1,c1,d1⟩,⟨o2,e2,c2,d2⟩⟩:=Z
   simp only[aa2,aaS,or_false]at hc
   rcases hc with rfl|rfl|rfl|rfl|rfl
   .exact aak zz
   .exact aak uu
   .exact aak oo
   .exact aak e1
   .exact aak e2
  have Xu:s.heap.objs.size≠z:=ab8 (old z (by simp))
  have I1:Inv X pins σ (upd H s.heap.objs.size (.tup [x,y])) {s with heap:=s.heap.push {cls:=.type "tuple",data:=.seq #[v1,v2]}} :=
   I.laid (t':=s.toks) (λb u e=>aad _ e) (aal _) ⟨by show 2<=sizeLine;decide,[v1,v2],.cons r1 (.cons r2 .nil),⟨_,aai _ rfl,rfl,_,rfl⟩⟩
  have MQ:∀c∈[z,u,o,i1,i2],DS X pins (upd H s.heap.objs.size (.tup [x,y])) c:=λc hc=>⟨by rw[aj (aas (old c hc))];exact(hf c hc).1,(hf c hc).2⟩
  have I2:Inv X pins σ (upd H s.heap.objs.size (.tup [x,y])) {s with heap:=h2}:=by
   refine I1.EL (t':=s.toks) (h':=h2) (λc q hc e=>?_) MQ
   have QC:c≠z:=λe=>hc (by simp[e])
   refine w2.extBut _ _ QC ?_
   by_cases Ke:c=s.heap.objs.size
   .subst Ke
    have:(s.heap.push {cls:=.type "tuple",data:=.seq #[v1,v2]}).get? s.heap.objs.size=some {cls:=.type "tuple",data:=.seq #[v1,v2]}:=aai _ rfl
    have e':some {cls:=.type "tuple",data:=.seq #[v1,v2]}=some q:=this.symm.trans e
    rw[<- e'];exact q6
   .refine kk c q (λz=>hc ?_) ?_
    .simp only[aa2,aaS,or_false]at z ⊢
     rcases z with z|z|z|z
     .exact .inl z
     .exact .inr (.inr (.inl z))
     .exact .inr (.inr (.inr (.inl z)))
     .exact .inr (.inr (.inr (.inr z)))
    .exact(Heap.get?_push_ne _ _ _ Ke).symm.trans e
  refine⟨.ref s.heap.objs.size,_,I2,rfl,⟨_,x,y,rfl,FQ,rfl,λXq ys' g1 g2=>?_⟩,?_,λc hc=>(MQ c hc).1⟩
  .rw[I.CS g1 hx,I.CS g2 hy]
   exact⟨ex,ey⟩
  .exact⟨w1,w2.extBut _ _ D.uz q2,⟨_,_,w2.extBut _ _ D.oz q3⟩,CY q4 λq e=>w2.extBut _ _ D.x1z e,CY q5 λq e=>w2.extBut _ _ D.x2z e⟩
 done:=by
  intro X hP hw hK hc n pins s σ H E I hf Z hg
  subst hP hw hK
  obtain⟨xs,ys,hx,hy,hl⟩:=hg
  obtain⟨OT,Qi,p1,NA⟩:=I.tuple hx
  obtain⟨OS,Nv,p2,OZ⟩:=I.tuple hy
  have l1:=Qi.length
  have l2:=Nv.length
  refine uU (I.ok.hd hc) D Z Ka JM (show s.heap.IsTuple a OT.toArray from p1) (show s.heap.IsTuple b OS.toArray from p2) ?_ λh' kk=>⟨rfl,I.EL (t':=s.toks) (λc q hc e=>kk c q (λz=>hc ?_) e) hf⟩
  .rcases hl with h|h
   .exact .inl (by simp;omega)
   .exact .inr (by simp;omega)
  .simp only[aa2,aaS,or_false]at z ⊢
   rcases z with z|z|z|z
   .exact .inl z
   .exact .inr (.inr (.inl z))
   .exact .inr (.inr (.inr (.inl z)))
   .exact .inr (.inr (.inr (.inr z)))
 self:=λ_ _ _ _ _ Z h=>wpAny_pyIter_zip Z.zz h
theorem SR(n:Nat):K9 (n+4) (n+2) (n+3) n (n+1) :=
 ⟨show ¬ ((n+2:Nat)=n+4)by omega,show ¬ ((n+3:Nat)=n+4)by omega,show ¬ ((n:Nat)=n+4)by omega,show ¬ ((n+1:Nat)=n+4)by omega,show ¬ ((n+2:Nat)=n+3)by omega,show ¬ ((n+2:Nat)=n)by omega,show ¬ ((n+2:Nat)=n+1)by omega,show ¬ ((n+3:Nat)=n)by omega,show ¬ ((n+3:Nat)=n+1)by omega,show ¬ ((n:Nat)=n+1)by omega⟩
def RT(K:aah)(ta:TA):TI:=λσ H R=>ta σ H λvs H1=>∃a b,vs=[.ref a,.ref b]/\(∃xs,Cd K H1 a xs)/\(∃ys,Cd K H1 b ys)/\R (Tf K a b) H1
variable{ta:TA}{p:Pos}
theorem yT{x1:_}{FX:Pos}{a b:Expr}(hg:Gl X "zip")(hm:X.mg "zip" = none)(ha:PA X [a,b] ta)(hs:aam [a,b] X.env=[(false,eval a X.env),(false,eval b X.env)]:=by rfl)(IX:aam [b] X.env=[(false,eval b X.env)]:=by rfl):
  PI X (.Tuple elts x1 FX) (.Call (.Name "zip" p) [a,b] [] pos) (RT X.K ta):=by
 intro pins s σ H R I h
 refine Call_ (fI I hg hm boot_zip (adh (Bu (ha pos pins s σ H _ I h) λus s1 ⟨vs,H1,I1,r1,q1⟩=>?_) (by rw[hs,IX]) (by rw[IX];rfl)))
 obtain⟨c,d,e,⟨xs,hx⟩,⟨ys,hy⟩,q⟩:=q1
 subst e
 cases r1 with
 |cons ra rr=>
  cases rr with
  |cons rb rr=>
   cases rr
   cases ra
   cases rb
   obtain⟨OT,Qi,p1,NA⟩:=I1.tuple hx
   obtain⟨OS,Nv,p2,OZ⟩:=I1.tuple hy
   have g1:s1.heap.IsTuple c OT.toArray:=p1
   have g2:s1.heap.IsTuple d OS.toArray:=p2
   have lc:c<s1.heap.objs.size:=by obtain⟨o,e,_⟩:=g1;exact aak e
   have ld:d<s1.heap.objs.size:=by obtain⟨o,e,_⟩:=g2;exact aak e
   refine yz g1 g2 λh' Z sz kk=>?_
   have I2:Inv X pins σ H1 {s1 with heap:=h'}:=I1.kept (t':=s1.toks) kk
   refine wpAny_pyIter_zip Z.zz ⟨_,_,_,_,H1,rfl,I2,uY c d _ _ _ _ _ (SR s1.heap.objs.size) (aas (aaG lc (adV _ _))) (aas (aaG ld (adV _ _))),Z,λb' hb=>?_,q⟩
   have Ja:s1.heap.objs.size<=b':=by
    simp only[aa2,aaS,or_false]at hb
    rcases hb with rfl|rfl|rfl|rfl|rfl
    all_goals first|exact aal _|exact adV _ _
   exact I1.Hv Ja (I1.AU.fresh Ja)
theorem jT{sl:Addr}{iN:Array Value}{vl vu:Value}{lo hi:Option Int}(g:IsTup s.heap t iN)(hs:s.heap.IsSliceOf sl vl vu .none)(pl:IsPart vl lo)(pu:IsPart vu hi)
  (hw:HT.BO iN.size 0 lo=0/\HT.BO iN.size iN.size hi=iN.size) (k:Q (.ref t) s):wpAny (model prog w) A (adv (.ref t) (.ref sl)) Q E s:=by
 obtain⟨q,q1,q2,q3⟩:=id hs
 have ty:s.TypeIs (.ref sl) "slice" := ⟨q,q1,q2⟩
 unfold adv
 try with_reducible refine aa9 ?_
 first|refine aaa (aaf ?_)|skip
 refine aaa (aeN g.typeIs (by decide) (aaa (abz (name:=aaP "__getitem__") g.typeIs acd (aa7 acd g.typeIs entry_tuple_getitem ?_ (args_tuple_getitem _ _)))))
 refine aaa (m:=afG (.ref t)) (tupleItemsOf_ g (aaa (ad0 ty ?_)))
 rw[if_pos (by decide)]
 refine aaa (HT.CU hs pl pu ?_)
 show wpAny _ _ (if (((HT.BO iN.size 0 lo:Nat):Int)==0 && (1:Int)==1 && (HT.BO iN.size iN.size hi - HT.BO iN.size 0 lo)==iN.size)=true then _ else _) _ _ s
 rw[if_pos (by rw[hw.1,hw.2];simp)]
 refine aaa ?_
 unfold Builtin.Tuple.tupleIsExact
 refine aaa (ad0 g.typeIs (aaf ?_))
 rw[if_pos (by decide)]
 exact aaa (ac3 (aaf ⟨_,rfl,aaf k⟩))
def Rw(K:aah):V->Option Int->Option Int->Hp->VK->Prop:=λx lo hi H Q=>∃a xs,x=.ref a/\Cd K H a xs /\
 (HT.BO xs.length 0 lo=0/\HT.BO xs.length xs.length hi=xs.length->Q (.ref a) H)/\∀p,H p=none->Q (.ref p) (upd H p (.tup (Em xs lo hi)))
theorem xh:KZ X (Rw X.K):=by
 intro pins s σ H x v vl vu lo hi sl Q I rx hs pl pu h
 obtain⟨a,xs,rfl,hx,hq,q⟩:=h
 by_cases hw:HT.BO xs.length 0 lo=0/\HT.BO xs.length xs.length hi=xs.length
 .cases rx
  obtain⟨iN,r,ht,hz⟩:=I.tuple hx
  have hn:iN.toArray.size=xs.length:=by rw[aae];exact r.length.symm
  refine⟨"tuple",_,PyProof.Rows.slot_tuple_getitem.lookup,ht.typeIs,jT ht hs pl pu (by rw[hn];exact hw) ⟨.ref a,H,I,rfl,hq hw⟩⟩
 .exact yM pins s σ H (.ref a) v vl vu lo hi sl Q I rx hs pl pu ⟨a,xs,rfl,hx,hw,q⟩
theorem lm(hc:wpAny (model prog w) A.in1 (collect x) (λvs s1=>∃(ss:List Str) (h1:Heap) (tk:Nat),s1={s with heap:=h1,toks:=tk}/\ack vs ss/\vs.length<64 /\
   (∀(h2:Heap) (out:List Value) (Dn:List Str) (n:Nat),(∀b o,h1.get? b=some o->h2.get? b=some o)->h2.get? h1.objs.size=some (seqObj "list" out.toArray n)->ack out Dn->Dn.Perm ss->sortedS Dn=true->Q (.ref h1.objs.size) {s with heap:=h2,toks:=tk})) E s) :
  wpAny (model prog w) A (call (.builtin "sorted") [x]) Q E s:=by
 refine ady afs ae7 ae8 (args_sorted1 _) ?_
 unfold acI.«sorted»
 refine aaa (m:=checkCount "sorted" 1 1 _) (aaf (aaa (aaT hc (λvs s1 hv=>?_) λ_ _ e=>e)))
 obtain⟨ss,h1,tk,rfl,hS,D0,k⟩:=hv
 refine aaa (acT ?_ (by rw[aaC];omega))
 have Ng:(h1.push (seqObj "list" vs.toArray 0)).get? h1.objs.size=some (seqObj "list" vs.toArray 0):=aai _ rfl
 refine aaa (aa9 (aa7 adu ⟨_,Ng,rfl⟩ adg (list_sort_treeK strKind_oneLt Ng hS.keysOf (λv₁ v₂ rest e=>keyKind_strs (by rw[<- e];exact hS)) D0 λst p q=>⟨_,rfl,?_⟩) (aep _)))
 obtain⟨Dn,b1,b2,b3⟩:=sorted_out_str hS p q
 obtain⟨n,at2⟩:=sortedHeap_at (out:=(arrOf st).map (·.2)) Ng
 refine aaf ⟨_,rfl,k _ ((arrOf st).map (·.2)).toList Dn n (λb o e=>?_) (by rw[aem];exact at2) b1 b2 b3⟩
 have lt:=aak e
 rw[sortedHeap_old (aas lt) (by rw[size_push'];exact abr lt)]
 exact aad _ e
theorem pH:∀{kvs:List (Key×Value)} {ss:List Str} {vs:List Value},kvs.map (·.1)=ss.map aav->vs.length=kvs.length->(∀(j:Nat) (v:Value),vs[j]?=some v->∃k x,kvs[j]?=some (k,x)/\(aN P w).is k v=true)->ack vs ss
 |[],ss,vs,e,hl,_=>by
  have:ss=[]:=by cases ss with|nil=>rfl|cons _ _=>cases e
  subst this
  have:vs=[]:=List.length_eq_zero_iff.mp hl
  subst this
  exact .nil
 |(k,x)::r,ss,vs,e,hl,h=>by
  cases ss with
  |nil=>cases e
  |cons y ys=>
   cases vs with
   |nil=>cases hl
   |cons v us=>
    rw[aan,aan]at e
    injection e with e1 e2
    obtain⟨k',x',e3,e4⟩:=h 0 v rfl
    have WH:(k,x)=(k',x'):=aap e3
    cases WH
    have Px:k=aav y:=e1
    subst Px
    obtain⟨t,rfl⟩:=aex (x:=y) (v:=v) e4
    exact .cons y t (pH e2 (by simpa using hl) λj u hj=>h (j+1) u hj)
def Mw:List V->Hp->VK->Prop:=λxs H Q=>∃(d:Addr) (kvs:List (Key×V)) (ss:List Str),xs=[.ref d]/\H d=some (.dK kvs)/\kvs.map (·.1)=ss.map aav/\ss.length<64 /\
 ∀(l:Addr) (Dn:List Str),H l=none->Dn.Perm ss->Dn.Pairwise (λa b=>¬ AZ b a)->Q (.ref l) (upd H l (.lst (Dn.map V.str)))
theorem sx(hc:X.calm=true):AR X (.builtin "sorted") Mw:=by
 intro pins s σ H xs us Q I r h
 obtain⟨d,kvs,ss,rfl,hd,hk,D0,k⟩:=h
 obtain⟨u,rfl,ru⟩:=r.one
 cases ru
 obtain⟨hz,lo,vs,V1,hD⟩:=I.AU d _ hd
 obtain⟨ep,Wi⟩:=hD.dictAt
 have Lu:vs.map (·.1)=ss.map aav:=by rw[<- hk];exact V1.keys.symm
 have hlen:vs.length=ss.length:=by have:=congrArg acA Lu;simpa using this
 refine lm (PySem.W.kdu_collect (A:=X.A.in1) (PySem.W.kdl_dict (knd:=aN X.prog X.w) (kvs:=vs) (ep:=ep) lo) (I.ok.hd hc) Wi (by rw[hlen,aaC];omega) λh1 tk acc kk hit=>?_)
 have hl:acc.toList.length=vs.length:=by rw[aaz];exact hit.1
 have hS:ack acc.toList ss:=pH Lu hl λj v e=>hit.2 j v (by rw[<- abn];exact e)
 refine⟨ss,h1,tk,rfl,hS,by rw[hl,hlen];exact D0,λh2 out Dn n k2 e2 o1 o2 o3=>?_⟩
 have I1:Inv X pins σ H {s with heap:=h1,toks:=tk}:=I.kept kk
 refine⟨.ref h1.objs.size,_,I1.laid (t':=tk) (a:=h1.objs.size) (o:=.lst (Dn.map V.str)) (λb o q=>k2 b o q) (aal _) ?_,rfl,k _ Dn (I1.AU.fresh (aal _)) o2 (dI o3)⟩
 exact⟨by rw[aac,o2.length_eq,aaC];omega,out,n,dP o1,e2⟩
def EY(P:aaJ)(w:World)(a:Addr)(S:Str->Bool)(n:Nat):HO:=.ext λh=>h.SetOf (acV P w) a S n
theorem vf{S:Str->Bool}(x:h.SetOf (acV P w) a S n)(k:∀o,h.get? a=some o->h'.get? a=some o):h'.SetOf (acV P w) a S n:=by
 obtain⟨o,es,ep,t,e,r⟩:=x
 exact⟨o,es,ep,t,k o e,r⟩
theorem setOk{S:Str->Bool}(x:h.SetOf (acV P w) a S n):A7 P w H h a (EY P w a S n) :=
 ⟨x,(by obtain⟨o,_,_,_,e,_⟩:=x;exact⟨o,e⟩),λh1 h2 y k=>vf y k⟩
theorem uM:AR X (.type "set") (λxs H Q=>xs=[]/\∀p,H p=none->Q (.ref p) (upd H p (EY X.prog X.w p (λ_=>false) 0))):=by
 intro pins s σ H xs us Q I r h
 obtain⟨rfl,q⟩:=h
 cases r
 refine call_set_0 λled=>⟨.ref s.heap.objs.size,_,I.laid (t':=s.toks) (o:=EY X.prog X.w s.heap.objs.size (λ_=>false) 0) (λb o e=>aad _ e) (aal _) (setOk ?_),rfl,q _ (I.AU.fresh (aal _))⟩
 exact⟨_,#[],0,_,aai _ rfl,⟨rfl,rfl,rfl⟩,rfl,λe he=>by simp at he,λk=>by simp,by decide,by rfl,rfl⟩
theorem tG:BL X (aaX .NotIn) (λx y H Q=>∃z a S n,x=.str z/\y=.ref a/\H a=some (EY X.prog X.w a S n)/\Q (.bl (!S z)) H):=by
 intro pins s σ H x y v u Q I rx ry h
 obtain⟨z,a,S,n,rfl,rfl,ha,q⟩:=h
 obtain⟨t,rfl⟩:=rx
 cases ry
 obtain⟨x,_,_⟩:=I.AU a _ ha
 exact wpAny_notInSet_of (knd:=acV X.prog X.w) (aeh _ _ _ _) rfl x ⟨.bl (!S z),H,I.tok _,rfl,q⟩
def xc(P:aaJ)(w:World)(to:TE)(t:TA):TE:=λσ H Q=>to σ H λx H1=>∃a S n,x=.ref a/\H1 a=some (EY P w a S n)/\t σ H1 λys H2=>∃k S2 n2,ys=[.str k]/\H2 a=some (EY P w a S2 n2)/\n2+1<scanBound /\
 Q .AF (upd H2 a (EY P w a (λk'=>S2 k' || decide (k'=k)) (if S2 k then n2 else n2+1)))
variable{e:Expr}{to:TE}
theorem tz{o:Expr}{t:TA}{apos Bg:Pos}(ho:PE X o to)(ha:PA X [e] t)
  (B0:ab7 o "add" X.env (eval o X.env)=eval o X.env:=by rfl)
  (Fe:((backTo Bg (aam [e] X.env)).all (λx=>!x.1) && (aej Bg (ac5 [] X.env)).all (λx=>x.1.isSome)
   && decide ([e].length+([]:List ada).length+(if ([]:List ada).isEmpty then 0 else 1)<30))=true:=by rfl)
  (BZ:(apos.endLine==Bg.line)=true:=by rfl) (hs:aam [e] X.env=(false,eval e X.env)::aam [] X.env:=by rfl) (Cr:(backTo Bg (aam [] X.env)).any (·.1)=false:=by rfl) :
  PE X (.Call (.Attribute o "add" apos) [e] [] Bg) (xc X.prog X.w to t):=by
 intro pins s σ H Q I h
 refine wpAny_Call_method_late B0 Fe BZ rfl (Bu (ho pins s σ H _ I h) λv s1 ⟨x,H1,I1,r1,a,S,n,e1,hS,q1⟩=>?_)
 subst e1
 cases r1
 obtain⟨xs,_,_⟩:=I1.AU a _ hS
 refine⟨"set", "set.add",PySem.F.plainAttrs_set,PySem.F.slot_set_add,PySem.F.type_set_add,xs.typeIs,λc e=>xs.noDict c e,?_⟩
 have hA:=ha Bg pins s1 σ H1 _ I1 q1
 rw[hs]at hA ⊢
 refine ac2 (by show (false || (backTo Bg (aam [] X.env)).any (·.1))=false;rw[Cr]<;>rfl) (Calls.evalArgs_plain (Bu hA λus s2 ⟨vs,H2,I2,r2,k,S2,n2,e2,QE,hn,q2⟩=>?_))
 subst e2
 obtain⟨u,rfl,t,rfl⟩:=r2.one
 obtain⟨ys,_,_⟩:=I2.AU a _ QE
 refine call_set_add (knd:=acV X.prog X.w) (aeh _ _ _ _) rfl ys hn λh' sb Qu=>⟨.AF,_,I2.write (t':=s2.toks+1) (e:=a) (by rw[QE];trivial) (.inl rfl) (λb o hb e=>sb.extBut _ _ hb e) ?_ (setOk Qu),rfl,q2⟩
 obtain⟨o,_,_,_,e,_⟩:=Qu
 exact⟨o,e⟩
def strAt(us:Array Value)(i:Nat):Str:=match us[i]? with|some (.str x _)=>x|_=>⟨#[]⟩
theorem yw{us:Array Value}(hn:∀v∈us,∃x t,v=.str x t):CmpOf prog w A .Lt (λi v=>us[i]?=some v) (λi j=>decide (AZ (strAt us i) (strAt us j))):=λi j vi vj s Q E hi hj q=>by
 obtain⟨x,t,rfl⟩:=hn vi (ac8 hi)
 obtain⟨y,t',rfl⟩:=hn vj (ac8 hj)
 have e1:strAt us i=x:=by unfold strAt;rw[hi]
 have e2:strAt us j=y:=by unfold strAt;rw[hj]
 dsimp only at q
 rw[e1,e2]at q
 exact PySem.richCompare_gives (op:=.Lt) (aeg s x t) (aeg s y t') F.slot_str_lt F.entry_str_lt (F.args_str_lt_2 _ _) (gives_str_lt x y t t') (λe=>nomatch e) q
theorem yx{us:Array Value}(hn:∀v∈us,∃x t,v=.str x t):CmpOf prog w A .Gt (λi v=>us[i]?=some v) (λi j=>decide (AZ (strAt us j) (strAt us i))):=λi j vi vj s Q E hi hj q=>by
 obtain⟨x,t,rfl⟩:=hn vi (ac8 hi)
 obtain⟨y,t',rfl⟩:=hn vj (ac8 hj)
 have e1:strAt us i=x:=by unfold strAt;rw[hi]
 have e2:strAt us j=y:=by unfold strAt;rw[hj]
 dsimp only at q
 rw[e1,e2]at q
 exact PySem.richCompare_gives (op:=.Gt) (aeg s x t) (aeg s y t') F.slot_str_gt F.entry_str_gt (F.args_str_gt_2 _ _) (gives_str_gt x y t t') (λe=>nomatch e) q
variable{y:Str}
theorem NX{x:Str}{t t':Tok}:∀v∈(#[.str x t,.str y t']:Array Value),∃z u,v=.str z u:=λv hv=>by
 simp only[List.mem_toArray,aa2,aaS,or_false]at hv
 rcases hv with rfl|rfl
 .exact⟨x,t,rfl⟩
 .exact⟨y,t',rfl⟩
theorem vR{x:Str}{t t':Tok}(hh:A.handled=none)(k:∀h' tk,(∀c o,s.heap.get? c=some o->h'.get? c=some o)->Q (if AZ y x then .str y t' else .str x t) {s with heap:=h',toks:=tk}):
  wpAny (model prog w) A (call (.builtin "min") [.str x t,.str y t']) Q E s:=by
 have g:(s.heap.push {cls:=.type "tuple",data:=.seq #[.str x t,.str y t']}).IsTuple s.heap.objs.size #[.str x t,.str y t']:=⟨_,aai _ rfl,rfl,0,rfl⟩
 have sz:(s.heap.push {cls:=.type "tuple",data:=.seq #[.str x t,.str y t']}).objs.size=s.heap.objs.size+1:=aa4 ..
 refine call_min_two (acS g ⟨_,[_,s.heap.objs.size],[_],_,_,_,_,rfl,Walks.tuple (A:=A.in1) hh _ s.heap.objs.size (by rw[sz];exact aas (abx _)) #[.str x t,.str y t'],
  ⟨⟨_,aai _ rfl,rfl,rfl⟩,g.push _⟩,λc hc=>?_,by simp,yw NX,λv h' tk hP hk=>?_⟩)
 .show c<((s.heap.push _).push _).objs.size
  rw[aa4,sz]
  simp only[aa2,aaS,or_false]at hc
  rcases hc with rfl|rfl
  .rw[sz];exact abx _
  .exact abr (abx _)
 .have old:∀c o,s.heap.get? c=some o->h'.get? c=some o:=λc o e=>by
   refine hk c o (λz=>?_) (aad _ (aad _ e))
   have lt:=aak e
   rw[List.mem_singleton.mp z,sz]at lt
   exact abj _ (Nat.lt_of_succ_lt lt)
  have q:=k h' tk old
  have ev:v=if AZ y x then acn y t' else acn x t:=by
   by_cases c:AZ y x
   .simp[argBest,strAt,c]at hP
    rw[if_pos c];exact hP.symm
   .simp[argBest,strAt,c]at hP
    rw[if_neg c];exact hP.symm
  rw[ev];exact q
theorem vU{x:Str}{t t':Tok}(hh:A.handled=none)(k:∀h' tk,(∀c o,s.heap.get? c=some o->h'.get? c=some o)->Q (if AZ x y then .str y t' else .str x t) {s with heap:=h',toks:=tk}):
  wpAny (model prog w) A (call (.builtin "max") [.str x t,.str y t']) Q E s:=by
 have g:(s.heap.push {cls:=.type "tuple",data:=.seq #[.str x t,.str y t']}).IsTuple s.heap.objs.size #[.str x t,.str y t']:=⟨_,aai _ rfl,rfl,0,rfl⟩
 have sz:(s.heap.push {cls:=.type "tuple",data:=.seq #[.str x t,.str y t']}).objs.size=s.heap.objs.size+1:=aa4 ..
 refine call_max_two (acS g ⟨_,[_,s.heap.objs.size],[_],_,_,_,_,rfl,Walks.tuple (A:=A.in1) hh _ s.heap.objs.size (by rw[sz];exact aas (abx _)) #[.str x t,.str y t'],
  ⟨⟨_,aai _ rfl,rfl,rfl⟩,g.push _⟩,λc hc=>?_,by simp,yx NX,λv h' tk hP hk=>?_⟩)
 .show c<((s.heap.push _).push _).objs.size
  rw[aa4,sz]
  simp only[aa2,aaS,or_false]at hc
  rcases hc with rfl|rfl
  .rw[sz];exact abx _
  .exact abr (abx _)
 .have old:∀c o,s.heap.get? c=some o->h'.get? c=some o:=λc o e=>by
   refine hk c o (λz=>?_) (aad _ (aad _ e))
   have lt:=aak e
   rw[List.mem_singleton.mp z,sz]at lt
   exact abj _ (Nat.lt_of_succ_lt lt)
  have q:=k h' tk old
  have ev:v=if AZ x y then acn y t' else acn x t:=by
   by_cases c:AZ x y
   .simp[argBest,strAt,c]at hP
    rw[if_pos c];exact hP.symm
   .simp[argBest,strAt,c]at hP
    rw[if_neg c];exact hP.symm
  rw[ev];exact q
def Cp(x y:Str):Str:=if AZ y x then y else x
def EF(x y:Str):Str:=if AZ x y then y else x
theorem sA(hc:X.calm=true):AR X (.builtin "min") (λxs H Q=>∃x y,xs=[.str x,.str y]/\Q (.str (Cp x y)) H):=by
 intro pins s σ H xs us Q I r h
 obtain⟨x,y,rfl,q⟩:=h
 obtain⟨u,v,rfl,⟨t,rfl⟩,⟨t',rfl⟩⟩:=vals2 r
 refine vR (I.ok.hd hc) λh' tk k=>⟨.str (Cp x y),H,I.kept k,?_,q⟩
 unfold Cp
 split<;>exact⟨_,rfl⟩
theorem sB(hc:X.calm=true):AR X (.builtin "max") (λxs H Q=>∃x y,xs=[.str x,.str y]/\Q (.str (EF x y)) H):=by
 intro pins s σ H xs us Q I r h
 obtain⟨x,y,rfl,q⟩:=h
 obtain⟨u,v,rfl,⟨t,rfl⟩,⟨t',rfl⟩⟩:=vals2 r
 refine vU (I.ok.hd hc) λh' tk k=>⟨.str (EF x y),H,I.kept k,?_,q⟩
 unfold EF
 split<;>exact⟨_,rfl⟩
def QL(x:Str):It:=⟨λi _=>i<x.cps.size,λi H v H'=>H'=H/\∃c,x.cps[i]?=some c/\v=.str ⟨#[c]⟩,λi _=>x.cps.size<=i⟩
theorem hU(x:Str):adM x = "str_ascii_iterator" \/ adM x = "str_iterator" :=by
 unfold adM
 split
 .exact .inl rfl
 .exact .inr rfl
variable{tg:Expr}
theorem uZ(x:Str)(t:Tok)(it:Addr):Turn P w K tg (QL x) [it] it (λi h=>h.IsStrIter it (adM x) x t i) where
 mem:=by simp
 obj:=λi h st b hb=>by
  have e:b=it:=by simpa using hb
  subst e
  obtain⟨o,e,c,d⟩:=st
  exact⟨o,e,λv z=>by rw[d]at z;cases z⟩
 keep:=λi h h' st k=>by
  obtain⟨o,e,r⟩:=st
  exact⟨o,k it (by simp) o e,r⟩
 item:=by
  intro X hP hw hK hc i pins s σ H E I hf st hg
  subst hP hw hK
  have Kc:i<x.cps.size:=hg
  have hx:x.cps[i]?=some x.cps[i]:=by simp[Kc]
  obtain⟨f0,f1,f2,f3,f4,f5⟩:=hf it (by simp)
  have fin:∀h',h'.IsStrIter it (adM x) x t (i+1)->aci it s.heap h'->∃u,some (acn ⟨#[x.cps[i]]⟩ s.toks)=some u /\
    wpAny (model X.prog X.w) X.A (ad4 tg (.ref it) u) (λ_ s2=>∃y H',Inv X pins σ H' s2/\RelV y u/\(QL x).yld i H y H'/\s2.heap.IsStrIter it (adM x) x t (i+1)/\∀b∈[it],H' b=none) E {s with heap:=h',toks:=s.toks+1}:=λh' EW sb=>by
   have I1:Inv X pins σ H {s with heap:=h',toks:=s.toks+1}:=I.turned (λb o hb e=>(sb.2 b hb).trans e) f0 f1 f3 f4 f5
   obtain⟨o,e,c,d⟩:=id EW
   refine⟨_,rfl,oq (s:={s with heap:=h',toks:=s.toks+1}) e c d (by rcases hU x with z|z<;>rw[z]<;>decide) ⟨.str ⟨#[x.cps[i]]⟩,H,I1,⟨_,rfl⟩,⟨rfl,_,hx,rfl⟩,EW,λb hb=>(hf b hb).1⟩⟩
  rcases hU x with z|z
  .rw[z]at st fin
   exact wpAny_pyNext_ascii_item st hx λh' EW sb=>by have:=fin h' EW sb;rw[z];exact this
  .rw[z]at st fin
   exact wpAny_pyNext_wide_item st hx λh' EW sb=>by have:=fin h' EW sb;rw[z];exact this
 done:=by
  intro X hP hw hK hc i pins s σ H E I hf st hg
  subst hP hw hK
  have Kc:x.cps.size<=i:=hg
  have hx:x.cps[i]?=none:=by simp[Kc]
  obtain⟨f0,f1,f2,f3,f4,f5⟩:=hf it (by simp)
  rcases hU x with z|z
  .rw[z]at st
   exact wpAny_pyNext_ascii_end (I.ok.hd hc) st hx λh' eb=>⟨rfl,I.turned (t':=s.toks) (λb o hb e=>eb b o hb e) f0 f1 f3 f4 f5⟩
  .rw[z]at st
   exact wpAny_pyNext_wide_end (I.ok.hd hc) st hx λh' eb=>⟨rfl,I.turned (t':=s.toks) (λb o hb e=>eb b o hb e) f0 f1 f3 f4 f5⟩
 self:=λA i s Q E st h=>by
  obtain⟨o,e,c,d⟩:=st
  rcases hU x with z|z
  .rw[z]at c
   exact adA (T := "str_ascii_iterator") ⟨o,e,c⟩ afc (aa7 afc ⟨o,e,c⟩ F.entry_str_ascii_iterator_iter (aaf ⟨_,rfl, "str_ascii_iterator",_,⟨o,e,c⟩,F.slot_str_ascii_iterator_next.lookup,h⟩) (F.args_str_ascii_iterator_iter_1 _))
  .rw[z]at c
   exact adA (T := "str_iterator") ⟨o,e,c⟩ F.slot_str_iterator_iter (aa7 F.slot_str_iterator_iter ⟨o,e,c⟩ F.entry_str_iterator_iter (aaf ⟨_,rfl, "str_iterator",_,⟨o,e,c⟩,F.slot_str_iterator_next.lookup,h⟩) (F.args_str_iterator_iter_1 _))
def RU(tl:TE):TI:=λσ H R=>tl σ H λx H1=>∃z,x=.str z/\R (QL z) H1
theorem yU{l:Expr}{tl:TE}(hl:PE X l tl):PI X tg l (RU tl):=by
 intro pins s σ H R I h
 refine Bu (hl pins s σ H _ I h) λv s1 ⟨x,H1,I1,r1,q1⟩=>?_
 obtain⟨z,rfl,q⟩:=q1
 obtain⟨t,rfl⟩:=r1
 refine wpAny_pyIter_strU ⟨s1.heap.objs.size,[s1.heap.objs.size],_,_,H1,rfl,I1.kept (t':=s1.toks) λb o e=>aad _ e,uZ z t _,⟨_,aai _ rfl,rfl,rfl⟩,λb hb=>?_,q⟩
 have e:b=s1.heap.objs.size:=by simpa using hb
 subst e
 exact I1.Hv (aal _) (I1.AU.fresh (aal _))
theorem tI:BL X (aaX .LtE) (λx y H Q=>∃i j,x=.str i/\y=.str j/\Q (.bl (!decide (j.cps.toList<i.cps.toList))) H):=by
 intro pins s σ H x y v u Q I rx ry h
 obtain⟨i,j,rfl,rfl,q⟩:=h
 obtain⟨t,rfl⟩:=rx
 obtain⟨t',rfl⟩:=ry
 exact PySem.P.le_str ⟨.bl _,H,I,rfl,q⟩
theorem zi:BL X (aaX .Is) (λx y H Q=>∃a b,x=.bl a/\y=.bl b/\Q (.bl (a==b)) H):=by
 intro pins s σ H x y v u Q I rx ry h
 obtain⟨a,b,rfl,rfl,q⟩:=h
 cases rx
 cases ry
 exact is_bool ⟨.bl _,H,I,rfl,q⟩
def Ln(K:aah):R2:=λx y H Q=>∃a b xs ys,x=.ref a/\y=.ref b/\Cd K H a xs/\Cd K H b ys/\xs.length+ys.length<=sizeLine /\
 (xs=[]->Q (.ref b) H)/\(ys=[]->Q (.ref a) H)/\∀p,H p=none->Q (.ref p) (upd H p (.tup (xs++ys)))
theorem xI:BL X (acj .Add) (Ln X.K):=by
 intro pins s σ H x y v u Q I rx ry h
 obtain⟨a,b,xs,ys,rfl,rfl,ha,hb,hz,q0,q1,q2⟩:=h
 by_cases hx:xs=[]
 .cases rx
  cases ry
  obtain⟨iN,r1,p1,_⟩:=I.tuple ha
  obtain⟨Cq,r2,p2,_⟩:=I.tuple hb
  subst hx
  cases r1
  obtain⟨⟨c1,d1,e1,l1⟩,g1,g2,n,g3⟩:=id p1
  obtain⟨⟨c2,d2,e2,l2⟩,k1,k2,n2,k3⟩:=id p2
  simp only at g2 g3 k2 k3
  subst g2 g3 k2 k3
  exact concat_meets ⟨_,g1,rfl⟩ ⟨_,k1,rfl⟩ aff seq_tuple_add adX adR (adC _ _)
   (tuple_addW0 a b _ _ n n2 d1 d2 l1 l2 (by simp)) ⟨g1,k1,⟨.ref b,H,I,rfl,q0 rfl⟩⟩
 .exact xJ pins s σ H (.ref a) (.ref b) v u Q I rx ry ⟨a,b,xs,ys,rfl,rfl,ha,hb,hx,hz,q1,λ_=>q2⟩
theorem wG(hc:X.calm=true):AR X (.builtin "any") (λxs H Q=>∃(p:Addr) (bs:List Bool),xs=[.ref p]/\Cm X.K H p (bs.map V.bl)/\Q (.bl (bs.any id)) H):=by
 intro pins s σ H xs us Q I r h
 obtain⟨p,bs,rfl,hq,q⟩:=h
 obtain⟨u,rfl,ru⟩:=r.one
 cases ru
 obtain⟨iN,rv,pl,hz⟩:=I.list hq
 have hb:=gA rv
 have hl:=pl.isList
 have BW:p<s.heap.objs.size:=by obtain⟨_,e,_⟩:=hl;exact aak e
 refine call_any_walk (ac4 hl ⟨s.heap.objs.size,[s.heap.objs.size,p],[s.heap.objs.size],iN.toArray.size,_,_,λi=>(bs[i]?).getD false,rfl,
  Walks.list (A:=X.A.in1) (I.ok.hd hc) _ p (aas BW) iN.toArray,⟨⟨_,aai _ rfl,rfl,rfl⟩,hl.push _⟩,λi v s' Q' E' hP hQ=>?_,λh' tk hk=>?_⟩)
 .obtain⟨b,eb,rfl⟩:=hb.get i v (by simpa using hP)
  simp only[eb,adU]at hQ
  exact abM hQ
 .have eb:((aa6 iN.toArray.size).any λi=>(bs[i]?).getD false)=bs.any id:=by
   rw[aae,hb.length,LSm.range_any bs]
  rw[eb]
  exact⟨.bl (bs.any id),H,I.kept (LSm.kept_iter hk),rfl,q⟩
variable{st:Expr}{te U2:TE}{p2:Pos}
end L2
namespace PySem
open Sem (wp)
end PySem
namespace PySem
open PySem.Spec PyProof.Rows
section
variable{prog:aaJ}{w:World}{K:Type}[DecidableEq K]{knd:KeyKind prog w K}{A:Around}{R:Result->Shared->Prop}
end
section
variable{prog:aaJ}{w:World}{K:Type}[DecidableEq K]{knd:KeyKind prog w K}{A:Around}{E:Value->Shared->Prop}{s:Shared}
end
end PySem
namespace L2
open PySem PySem.Spec PyProof.Rows
variable{X:Cx}
end L2
namespace Q
open PySem L2
inductive PV where
 |AF|bl (b:Bool)|int (i:Int)|str (x:Str)|tup (xs:List PV)|lst (xs:List PV)|BJ (kvs:List (Key×PV))|set (xs:List Str)|C2 (ns:List Int)
def GY(K:aah)(F:Hp)(a:Addr)(ns:List Int):Prop:=(∃o,F a=some (.Dy o (.lst (ns.map V.int)))) \/
 ∃(o:Obj) (iN:Array Value) (n:Nat),K.lookup a=some o/\o.cls=.type "list" /\ o.dict=none/\o.data=.seq iN n/\iN.size<=sizeLine/\AM (ns.map V.int) iN.toList
mutual
inductive Rep (K:aah) (F:Hp):V->PV->Prop where
 |AF:Rep K F .AF .AF
 |bl (b:Bool):Rep K F (.bl b) (.bl b)
 |int (i:Int):Rep K F (.int i) (.int i)
 |str (x:Str):Rep K F (.str x) (.str x)
 |tup {a:Addr} {vs:List V} {xs:List PV}:Cd K F a vs->AJ K F vs xs->Rep K F (.ref a) (.tup xs)
 |lst {a:Addr} {vs:List V} {xs:List PV}:F a=some (.lst vs)->AJ K F vs xs->Rep K F (.ref a) (.lst xs)
 |BJ {a:Addr} {vs:List (Key×V)} {xs:List (Key×PV)}:F a=some (.dK vs)->AL K F vs xs->Rep K F (.ref a) (.BJ xs)
 |C2 {a:Addr} {ns:List Int}:GY K F a ns->Rep K F (.ref a) (.C2 ns)
inductive AJ (K:aah) (F:Hp):List V->List PV->Prop where
 |nil:AJ K F [] []
 |cons {v:V} {x:PV} {vs:List V} {xs:List PV}:Rep K F v x->AJ K F vs xs->AJ K F (v::vs) (x::xs)
inductive AL (K:aah) (F:Hp):List (Key×V)->List (Key×PV)->Prop where
 |nil:AL K F [] []
 |cons {k:Key} {v:V} {x:PV} {vs:List (Key×V)} {xs:List (Key×PV)}:Rep K F v x->AL K F vs xs->AL K F ((k,v)::vs) ((k,x)::xs)
end
variable{K:aah}{F F' H:Hp}
variable{a:Addr}
theorem eO{xs:List V}(s:eQ F F')(h:Cm K F a xs):Cm K F' a xs:=by
 rcases h with (h|⟨o,h⟩)|h
 .exact .inl (.inl (s _ _ h))
 .exact .inl (.inr ⟨o,s _ _ h⟩)
 .exact .inr h
theorem aw{xs:List V}(s:eQ F F')(h:Cd K F a xs):Cd K F' a xs:=by
 rcases h with (h|⟨o,h⟩)|h
 .exact .inl (.inl (s _ _ h))
 .exact .inl (.inr ⟨o,s _ _ h⟩)
 .exact .inr h
variable{ns:List Int}
theorem ko(s:eQ F F')(h:GY K F a ns):GY K F' a ns:=by
 rcases h with ⟨o,h⟩|h
 .exact .inl ⟨o,s _ _ h⟩
 .exact .inr h
theorem GY.sq(h:GY K F a ns):Cm K F a (ns.map V.int):=by
 rcases h with ⟨o,h⟩|h
 .exact .inl (.inr ⟨o,h⟩)
 .exact .inr h
variable{v:V}{x:PV}
theorem Rep.mono(s:eQ F F')(h:Rep K F v x):Rep K F' v x :=
 Rep.rec (K:=K) (F:=F) (motive_1:=λv x _=>Rep K F' v x) (motive_2:=λvs xs _=>AJ K F' vs xs) (motive_3:=λvs xs _=>AL K F' vs xs)
  .AF .bl .int .str (λa _ b=>.tup (aw s a) b) (λa _ b=>.lst (s _ _ a) b) (λa _ b=>.BJ (s _ _ a) b) (λa=>.C2 (ko s a)) .nil (λ_ _ a b=>.cons a b) .nil (λ_ _ a b=>.cons a b) h
variable{vs:List V}{xs:List PV}
theorem AJ.mono(s:eQ F F')(h:AJ K F vs xs):AJ K F' vs xs :=
 AJ.rec (K:=K) (F:=F) (motive_1:=λv x _=>Rep K F' v x) (motive_2:=λvs xs _=>AJ K F' vs xs) (motive_3:=λvs xs _=>AL K F' vs xs)
  .AF .bl .int .str (λa _ b=>.tup (aw s a) b) (λa _ b=>.lst (s _ _ a) b) (λa _ b=>.BJ (s _ _ a) b) (λa=>.C2 (ko s a)) .nil (λ_ _ a b=>.cons a b) .nil (λ_ _ a b=>.cons a b) h
theorem AL.mono{vs:List (Key×V)}{xs:List (Key×PV)}(s:eQ F F')(h:AL K F vs xs):AL K F' vs xs :=
 AL.rec (K:=K) (F:=F) (motive_1:=λv x _=>Rep K F' v x) (motive_2:=λvs xs _=>AJ K F' vs xs) (motive_3:=λvs xs _=>AL K F' vs xs)
  .AF .bl .int .str (λa _ b=>.tup (aw s a) b) (λa _ b=>.lst (s _ _ a) b) (λa _ b=>.BJ (s _ _ a) b) (λa=>.C2 (ko s a)) .nil (λ_ _ a b=>.cons a b) .nil (λ_ _ a b=>.cons a b) h
theorem AJ.ind{motive:∀vs xs,AJ K F vs xs->Prop}(h:AJ K F vs xs)(nil:motive [] [] .nil)(cons:∀{v x vs xs} (a:Rep K F v x) (r:AJ K F vs xs),motive vs xs r->motive (v::vs) (x::xs) (.cons a r)):motive vs xs h :=
 AJ.rec (K:=K) (F:=F) (motive_1:=λ_ _ _=>True) (motive_2:=motive) (motive_3:=λ_ _ _=>True)
  trivial (λ_=>trivial) (λ_=>trivial) (λ_=>trivial) (λ_ _ _=>trivial) (λ_ _ _=>trivial) (λ_ _ _=>trivial) (λ_=>trivial) nil (λa r _ b=>cons a r b) trivial (λ_ _ _ _=>trivial) h
theorem AL.ind{motive:∀vs xs,AL K F vs xs->Prop}{vs:List (Key×V)}{xs:List (Key×PV)}(h:AL K F vs xs)(nil:motive [] [] .nil)(cons:∀{k v x vs xs} (a:Rep K F v x) (r:AL K F vs xs),motive vs xs r->motive ((k,v)::vs) ((k,x)::xs) (.cons a r)):motive vs xs h :=
 AL.rec (K:=K) (F:=F) (motive_1:=λ_ _ _=>True) (motive_2:=λ_ _ _=>True) (motive_3:=motive)
  trivial (λ_=>trivial) (λ_=>trivial) (λ_=>trivial) (λ_ _ _=>trivial) (λ_ _ _=>trivial) (λ_ _ _=>trivial) (λ_=>trivial) trivial (λ_ _ _ _=>trivial) nil (λa r _ b=>cons a r b) h
theorem AJ.len(h:AJ K F vs xs):vs.length=xs.length:=by
 induction h using AJ.ind with
 |nil=>rfl
 |cons _ _ ih=>exact congrArg (·+1) ih
variable{i:Nat}
theorem AJ.get(h:AJ K F vs xs)(e:xs[i]?=some x):∃v,vs[i]?=some v/\Rep K F v x:=by
 induction h using AJ.ind generalizing i with
 |nil=>cases e
 |cons a _ ih=>cases i with
  |zero=>cases e;exact⟨_,rfl,a⟩
  |succ i=>exact ih e
theorem AJ.IE(h:AJ K F vs xs)(e:vs[i]?=some v):∃x,xs[i]?=some x/\Rep K F v x:=by
 induction h using AJ.ind generalizing i with
 |nil=>cases e
 |cons a _ ih=>cases i with
  |zero=>cases e;exact⟨_,rfl,a⟩
  |succ i=>exact ih e
variable{ws:List V}{ys:List PV}
theorem AJ.app(h:AJ K F vs xs)(k:AJ K F ws ys):AJ K F (vs++ws) (xs++ys):=by
 induction h using AJ.ind with
 |nil=>exact k
 |cons a _ ih=>exact .cons a ih
theorem AJ.take(n:Nat)(h:AJ K F vs xs):AJ K F (vs.take n) (xs.take n):=by
 induction h using AJ.ind generalizing n with
 |nil=>cases n<;>exact .nil
 |cons a _ ih=>cases n with
  |zero=>exact .nil
  |succ n=>exact .cons a (ih n)
theorem AJ.drop(n:Nat)(h:AJ K F vs xs):AJ K F (vs.drop n) (xs.drop n):=by
 induction h using AJ.ind generalizing n with
 |nil=>cases n<;>exact .nil
 |cons a r ih=>cases n with
  |zero=>exact .cons a r
  |succ n=>exact ih n
theorem AJ.Ro(n:Nat)(k:Rep K F v x)(h:AJ K F vs xs):AJ K F (vs.set n v) (xs.set n x):=by
 induction h using AJ.ind generalizing n with
 |nil=>exact .nil
 |cons a r ih=>cases n with
  |zero=>exact .cons k r
  |succ n=>exact .cons a (ih n)
theorem AL.len{vs:List (Key×V)}{xs:List (Key×PV)}(h:AL K F vs xs):vs.length=xs.length:=by
 induction h using AL.ind with
 |nil=>rfl
 |cons _ _ ih=>exact congrArg (·+1) ih
theorem AL.keys{vs:List (Key×V)}{xs:List (Key×PV)}(h:AL K F vs xs):vs.map (·.1)=xs.map (·.1):=by
 induction h using AL.ind with
 |nil=>rfl
 |cons _ _ ih=>exact congrArg (List.cons _) ih
structure Sl where
 k:Nat
 v:PV
abbrev En:=List (Option Sl)
structure Cy where
 P:Hp->Hp->Addr->List Addr->PV->Prop
 mono:∀F F' H H' a l x,P F H a l x->eQ F F'->(∀c∈l,H' c=H c)->P F' H' a l x
structure Md where
 P:aaJ
 w:World
 K:aah
 ob:Cy
structure Zn where
 H₀:Hp
 F₀:Hp
 S:List Addr
 oa:Nat->Option Addr:=λ_=>none
 sS:∀b∈S,H₀ b≠none
def Dd(M:Md)(F H:Hp)(a:Addr):PV->Prop
 |.lst xs=>∃vs,H a=some (.lst vs)/\AJ M.K F vs xs
 |.BJ xs=>∃vs,H a=some (.dK vs)/\AL M.K F vs xs
 |.set xs=>H a=some (EY M.P M.w a (λs=>decide (s∈xs)) xs.length)
 |_=>False
variable{M:Md}
theorem Dd.mono{H':Hp}(s:eQ F F')(e:H' a=H a)(h:Dd M F H a x):Dd M F' H' a x:=by
 cases x<;>try exact h.elim
 .obtain⟨vs,h1,h2⟩:=h
  exact⟨vs,e.trans h1,h2.mono s⟩
 .obtain⟨vs,h1,h2⟩:=h
  exact⟨vs,e.trans h1,h2.mono s⟩
 .exact e.trans h
def Fo(M:Md)(Z:Zn)(F H:Hp)(v:V)(s:Sl)(fp:List Addr):Prop :=
 (s.k=0/\fp=[]/\Rep M.K F v s.v)\/(s.k=1/\∃a,v=.ref a/\fp=[a]/\Z.H₀ a=none/\Dd M F H a s.v) \/
 ((s.k=2\/s.k=4)/\∃a,v=.ref a/\(∀c∈fp,c∈Z.S\/Z.H₀ c=none)/\M.ob.P F H a fp s.v) \/
 (s.k=3/\∃a,v=.ref a/\fp=[a]/\a∈Z.S/\Dd M F H a s.v)
structure Slots(M:Md)(Z:Zn)(F:Hp)(σ:St)(H:Hp)(env:En)(fp:Nat->List Addr):Prop where
 at':∀i s,env[i]?=some (some s)->∃v,σ[i]?=some (some v)/\Fo M Z F H v s (fp i)
 al:∀i a,a∈fp i->H a≠none/\F a=none
 dj:∀i j a,i≠j->a∈fp i->a∉fp j
 oa:∀i a s,Z.oa i=some a->env[i]?=some (some s)->s.k=2->σ[i]?=some (some (.ref a))
structure AI(M:Md)(Z:Zn)(F:Hp)(σ:St)(H:Hp)(env:En):Prop where
 sF:eQ F H
 sG:∀b o,Z.H₀ b=some o->b∉Z.S->H b=some o
 pr:∀b,Z.H₀ b≠none->H b≠none
 gr:eQ Z.F₀ F
 nw:∀a,F a≠none->Z.F₀ a≠none\/Z.H₀ a=none
 len:env.length=σ.length
 sl:∃fp,Slots M Z F σ H env fp
variable{Z:Zn}{H':Hp}{σ:St}{env:En}{s:Sl}{fp:List Addr}
theorem Fo.mono(s1:eQ F F')(e:∀c∈fp,H' c=H c)(h:Fo M Z F H v s fp):Fo M Z F' H' v s fp:=by
 rcases h with ⟨a,b,c⟩|⟨a,p,rfl,rfl,c,d⟩|⟨a,p,rfl,c,d⟩|⟨a,p,rfl,rfl,c,d⟩
 .exact .inl ⟨a,b,c.mono s1⟩
 .exact .inr (.inl ⟨a,p,rfl,rfl,c,d.mono s1 (e p (by simp))⟩)
 .exact .inr (.inr (.inl ⟨a,p,rfl,c,M.ob.mono _ _ _ _ _ _ _ d s1 e⟩))
 .exact .inr (.inr (.inr ⟨a,p,rfl,rfl,c,d.mono s1 (e p (by simp))⟩))
theorem ao:eQ H H:=λ_ _ h=>h
theorem ak{A B C:Hp}(x:eQ A B)(y:eQ B C):eQ A C:=λa o h=>y a o (x a o h)
variable{p:Addr}{o:HO}
theorem az(h:F p=none):eQ F (upd F p o):=λa u e=>by rw[aj (av e h)];exact e
theorem eQ.none_of{A B:Hp}(s:eQ A B)(h:B a=none):A a=none:=by
 cases e:A a with
 |none=>rfl
 |some o=>rw[s a o e]at h;cases h
theorem Slots.move{fp:Nat->List Addr}(L:Slots M Z F σ H env fp)(s1:eQ F F')(s3:∀i c o,c∈fp i->H c=some o->H' c=some o)(nw:∀a,F' a≠none->F a≠none\/H a=none):Slots M Z F' σ H' env fp:=by
 refine⟨λi s h=>?_,λi a h=>?_,L.dj,L.oa⟩
 .obtain⟨v,h1,h2⟩:=L.at' i s h
  refine⟨v,h1,h2.mono s1 λc hc=>?_⟩
  cases e:H c with
  |none=>exact absurd e (L.al i c hc).1
  |some o=>exact s3 i c o hc e
 .obtain⟨h1,h2⟩:=L.al i a h
  constructor
  .cases e:H a with
   |none=>exact absurd e h1
   |some o=>rw[s3 i a o h e];simp
  .cases e:F' a with
   |none=>rfl
   |some o=>
    rcases nw a (by rw[e];simp)with z|z
    .exact absurd h2 z
    .exact absurd z h1
variable{l:List Addr}
theorem Slots.put{fp:Nat->List Addr}(L:Slots M Z F σ H env fp)(hk:s.k≠2)(hi:i<σ.length)(h:Fo M Z F H v s l)(al:∀a∈l,H a≠none/\F a=none)(dj:∀j a,j≠i->a∈l->a∉fp j):
  Slots M Z F (σ.set i (some v)) H (env.set i (some s)) (λj=>if j=i then l else fp j):=by
 refine⟨λj t e=>?_,λj a e=>?_,λj k a I0 e z=>?_,λj a t e1 e2 e3=>?_⟩
 case refine_4=>
  by_cases q:j=i
  .subst q
   rw[abP]at e2
   simp only[if_true]at e2
   split at e2
   .cases e2;exact absurd e3 hk
   .cases e2
  .rw[aaF (abO q)]at e2
   rw[aaF (abO q)]
   exact L.oa j a t e1 e2 e3
 .by_cases q:j=i
  .subst q
   rw[abP]at e
   simp only[if_true]at e
   split at e
   .first|(exfalso;revert e;simp;done)|cases e
    exact⟨v,by simp[hi],by rw[if_pos rfl];exact h⟩
   .first|(exfalso;revert e;simp;done)|cases e
  .rw[aaF (abO q)]at e
   rw[aaF (abO q),if_neg q]
   exact L.at' j t e
 .by_cases q:j=i
  .rw[if_pos q]at e;exact al a e
  .rw[if_neg q]at e;exact L.al j a e
 .by_cases q:j=i
  .rw[if_pos q]at e
   rw[if_neg (λy=>I0 (q.trans y.symm))]at z
   exact dj k a (λy=>I0 (q.trans y.symm)) e z
  .rw[if_neg q]at e
   by_cases q2:k=i
   .rw[if_pos q2]at z
    exact dj j a q z e
   .rw[if_neg q2]at z
    exact L.dj j k a I0 e z
theorem Slots.push{fp:Nat->List Addr}(L:Slots M Z F σ H env fp)(hk:s.k≠2)(hn:env.length=σ.length)(h:Fo M Z F H v s l)(al:∀a∈l,H a≠none/\F a=none)(dj:∀j a,a∈l->a∉fp j):
  Slots M Z F (σ++[some v]) H (env++[some s]) (λj=>if j=env.length then l else fp j):=by
 refine⟨λj t e=>?_,λj a e=>?_,λj k a I0 e z=>?_,λj a t e1 e2 e3=>?_⟩
 case refine_4=>
  by_cases q:j=env.length
  .subst q
   simp at e2
   subst e2
   exact absurd e3 hk
  .have hj:j<env.length:=by
    have:j<(env++[some s]).length:=by
     rcases aaU j (env++[some s]).length with y|y
     .exact y
     .rw[aao y]at e2;cases e2
    simp at this;omega
   rw[aay hj]at e2
   rw[aay (by omega)]
   exact L.oa j a t e1 e2 e3
 .by_cases q:j=env.length
  .subst q
   simp at e
   subst e
   exact⟨v,by rw[hn];simp,by rw[if_pos rfl];exact h⟩
  .rw[if_neg q]
   have hj:j<env.length:=by
    have:j<(env++[some s]).length:=by
     rcases aaU j (env++[some s]).length with y|y
     .exact y
     .rw[aao y]at e;cases e
    simp at this;omega
   rw[aay hj]at e
   rw[aay (by omega)]
   exact L.at' j t e
 .by_cases q:j=env.length
  .rw[if_pos q]at e;exact al a e
  .rw[if_neg q]at e;exact L.al j a e
 .by_cases q:j=env.length
  .rw[if_pos q]at e
   rw[if_neg (λy=>I0 (q.trans y.symm))]at z
   exact dj k a e z
  .rw[if_neg q]at e
   by_cases q2:k=env.length
   .rw[if_pos q2]at z
    exact dj j a z e
   .rw[if_neg q2]at z
    exact L.dj j k a I0 e z
theorem Slots.drop{fp:Nat->List Addr}(L:Slots M Z F (σ++[some v]) H (env++[some s]) fp)(hn:env.length=σ.length):Slots M Z F σ H env fp:=by
 have lt:∀{j:Nat} {t:Sl},env[j]?=some (some t)->j<env.length:=λ{j t} e=>by
  rcases aaU j env.length with y|y
  .exact y
  .rw[aao y]at e;cases e
 refine⟨λj t e=>?_,L.al,L.dj,λj a t e1 e2 e3=>?_⟩
 .have hj:=lt e
  obtain⟨v',h1,h2⟩:=L.at' j t (by rw[aay hj];exact e)
  rw[aay (by omega)]at h1
  exact⟨v',h1,h2⟩
 .have hj:=lt e2
  have:=L.oa j a t e1 (by rw[aay hj];exact e2) e3
  rw[aay (by omega)]at this
  exact this
theorem Slots.last{fp:Nat->List Addr}(L:Slots M Z F (σ++[some v]) H (env++[some s]) fp)(hn:env.length=σ.length):Fo M Z F H v s (fp env.length):=by
 obtain⟨v',h1,h2⟩:=L.at' env.length s (by simp)
 rw[hn]at h1
 simp at h1
 subst h1
 exact h2
theorem AI.h0(K:AI M Z F σ H env)(h:H a=none):Z.H₀ a=none:=by
 cases e:Z.H₀ a with
 |none=>rfl
 |some o=>exact absurd h (K.pr a (by rw[e];simp))
theorem AI.move(K:AI M Z F σ H env)(s1:eQ F F')(s2:eQ F' H')(s3:eQ H H')(nw:∀a,F' a≠none->F a≠none\/H a=none):AI M Z F' σ H' env:=by
 obtain⟨fp,L⟩:=K.sl
 refine⟨s2,λb o h1 h2=>s3 b o (K.sG b o h1 h2),λb h=>?_,ak K.gr s1,λa h=>?_,K.len,fp,L.move s1 (λ_ c o _ e=>s3 c o e) nw⟩
 .cases e:H b with
  |none=>exact absurd e (K.pr b h)
  |some o=>rw[s3 b o e];simp
 .rcases nw a h with h1|h1
  .exact K.nw a h1
  .exact .inr (K.h0 h1)
theorem AI.lay(K:AI M Z F σ H env)(h:H p=none):AI M Z (upd F p o) σ (upd H p o) env:=by
 have hF:F p=none:=eQ.none_of K.sF h
 refine K.move (az hF) (λa u e=>?_) (az h) λa e=>?_
 .by_cases q:a=p
  .subst q;rw[am]at e ⊢;exact e
  .rw[aj q]at e ⊢;exact K.sF a u e
 .by_cases q:a=p
  .subst q;exact .inr h
  .rw[aj q]at e;exact .inl e
theorem AI.slots{σ':St}{dO:En}{fp:Nat->List Addr}(K:AI M Z F σ H env)(hn:dO.length=σ'.length)(L:Slots M Z F σ' H dO fp):AI M Z F σ' H dO:=⟨K.sF,K.sG,K.pr,K.gr,K.nw,hn,fp,L⟩
theorem AI.own(K:AI M Z F σ H env)(h:H p=none)(hx:Dd M F (upd H p o) p x):AI M Z F (σ++[some (.ref p)]) (upd H p o) (env++[some ⟨1,x⟩]):=by
 have hF:F p=none:=eQ.none_of K.sF h
 have K1:AI M Z F σ (upd H p o) env:=K.move ao (λa u e=>by rw[aj (av e hF)];exact K.sF a u e) (az h) λa e=>.inl e
 obtain⟨fp,L⟩:=K.sl
 have L1:Slots M Z F σ (upd H p o) env fp:=L.move ao (λ_ c u _ e=>az h c u e) λa e=>.inl e
 refine K1.slots (by simp[K.len]) (L1.push (l:=[p]) (by simp) K.len (.inr (.inl ⟨rfl,p,rfl,rfl,K.h0 h,hx⟩)) (λa ha=>?_) λj a ha hj=>?_)
 .simp at ha;subst ha
  exact⟨by rw[am];simp,hF⟩
 .simp at ha;subst ha
  exact(L.al j a hj).1 h
theorem AI.drop(K:AI M Z F (σ++[some v]) H (env++[some s])):AI M Z F σ H env:=by
 have hn:env.length=σ.length:=by have:=K.len;simpa using this
 obtain⟨fp,L⟩:=K.sl
 exact K.slots hn (L.drop hn)
theorem Dd.rep(h:Dd M F H a x)(hx:∀xs,x≠.set xs)(hF:F a=none)(ho:H a=some o):Rep M.K (upd F a o) (.ref a) x:=by
 have s1:eQ F (upd F a o):=az hF
 cases x<;>try exact h.elim
 .obtain⟨vs,h1,h2⟩:=h
  rw[ho]at h1;cases h1
  exact .lst am (h2.mono s1)
 .obtain⟨vs,h1,h2⟩:=h
  rw[ho]at h1;cases h1
  exact .BJ am (h2.mono s1)
 .exact absurd rfl (hx _)
theorem AI.Dy{fp:Nat->List Addr}{σ':St}{dO:En}(K:AI M Z F σ H env)(L:Slots M Z F σ H env fp)(hf:fp i=[a])(h0:Z.H₀ a=none)(ho:H a=some o)
  (hn:dO.length=σ'.length) (hs:∀j s,j≠i->dO[j]?=some (some s)->env[j]?=some (some s)/\σ'[j]?=σ[j]?)
  (hi:∀s,dO[i]?=some (some s)->∃v,σ'[i]?=some (some v)/\s.k=0/\Rep M.K (upd F a o) v s.v):AI M Z (upd F a o) σ' H dO:=by
 have ha:=L.al i a (by rw[hf];simp)
 have s1:eQ F (upd F a o):=az ha.2
 refine⟨λb u e=>?_,K.sG,K.pr,ak K.gr s1,λb e=>?_,hn,λj=>if j=i then []else fp j,λj s h=>?_,λj b h=>?_,λj k b I0 h z=>?_,λj b t e1 e2 e3=>?_⟩
 .by_cases q:b=a
  .subst q;rw[am]at e;cases e;exact ho
  .rw[aj q]at e;exact K.sF b u e
 .by_cases q:b=a
  .subst q;exact .inr h0
  .rw[aj q]at e;exact K.nw b e
 .by_cases q:j=i
  .subst q
   obtain⟨v,h1,h2,h3⟩:=hi s h
   exact⟨v,h1,.inl ⟨h2,if_pos rfl,h3⟩⟩
  .obtain⟨e1,e2⟩:=hs j s q h
   obtain⟨v,h1,h2⟩:=L.at' j s e1
   exact⟨v,by rw[e2];exact h1,by rw[if_neg q];exact h2.mono s1 λ_ _=>rfl⟩
 .by_cases q:j=i
  .rw[if_pos q]at h;simp at h
  .rw[if_neg q]at h
   have hb:=L.al j b h
   have:b≠a:=λz=>L.dj j i b q h (by rw[hf,z];simp)
   exact⟨hb.1,by rw[aj this];exact hb.2⟩
 .by_cases q:j=i
  .rw[if_pos q]at h;simp at h
  .rw[if_neg q]at h
   by_cases q2:k=i
   .rw[if_pos q2]at z;simp at z
   .rw[if_neg q2]at z;exact L.dj j k b I0 h z
 .by_cases q:j=i
  .subst q
   obtain⟨_,_,h2,_⟩:=hi t e2
   rw[e3]at h2;cases h2
  .obtain⟨f1,f2⟩:=hs j t q e2
   rw[f2];exact L.oa j b t e1 f1 e3
theorem dh(h:H a≠none):∃o,H a=some o:=by
 cases e:H a with
 |none=>exact absurd e h
 |some o=>exact⟨o,rfl⟩
theorem AI.HX(K:AI M Z F (σ++[some v]) H (env++[some ⟨1,x⟩]))(hx:∀xs,x≠.set xs):∃F',eQ F F'/\AI M Z F' σ H env/\Rep M.K F' v x:=by
 have hn:env.length=σ.length:=by have:=K.len;simpa using this
 obtain⟨fp,L⟩:=K.sl
 rcases L.last hn with ⟨e,_⟩|⟨_,a,rfl,hf,h0,hw⟩|⟨e,_⟩|⟨e,_⟩
 .first|(exfalso;revert e;simp;done)|cases e
 .have ha:=L.al env.length a (by rw[hf];simp)
  obtain⟨o,ho⟩:=dh ha.1
  refine⟨upd F a o,az ha.2,K.Dy L hf h0 ho hn (λj s _ e=>?_) (λs e=>?_),hw.rep hx ha.2 ho⟩
  .have hj:j<env.length:=by
    rcases aaU j env.length with y|y
    .exact y
    .rw[aao y]at e;cases e
   rw[aay hj,aay (by omega)]
   exact⟨e,rfl⟩
  .simp at e
 .first|(exfalso;revert e;simp;done)|cases e
 .first|(exfalso;revert e;simp;done)|cases e
theorem AI.freeze(K:AI M Z F σ H env)(hi:env[i]?=some (some ⟨1,x⟩))(hx:∀xs,x≠.set xs):∃F' v,σ[i]?=some (some v)/\eQ F F'/\AI M Z F' σ H (env.set i (some ⟨0,x⟩))/\Rep M.K F' v x:=by
 obtain⟨fp,L⟩:=K.sl
 obtain⟨v,hv,h⟩:=L.at' i _ hi
 rcases h with ⟨e,_⟩|⟨_,a,rfl,hf,h0,hw⟩|⟨e,_⟩|⟨e,_⟩
 .first|(exfalso;revert e;simp;done)|cases e
 .have ha:=L.al i a (by rw[hf];simp)
  obtain⟨o,ho⟩:=dh ha.1
  refine⟨upd F a o,_,hv,az ha.2,K.Dy L hf h0 ho (by simp[K.len]) (λj s q e=>?_) (λs e=>?_),hw.rep hx ha.2 ho⟩
  .rw[aaF (abO q)]at e
   exact⟨e,rfl⟩
  .rw[abP]at e
   simp only[if_true]at e
   split at e
   .first|(exfalso;revert e;simp;done)|cases e
    exact⟨_,hv,rfl,hw.rep hx ha.2 ho⟩
   .first|(exfalso;revert e;simp;done)|cases e
 .first|(exfalso;revert e;simp;done)|cases e
 .first|(exfalso;revert e;simp;done)|cases e
theorem AI.put(K:AI M Z F σ H env)(h:Rep M.K F v x):AI M Z F (σ.set i (some v)) H (env.set i (some ⟨0,x⟩)):=by
 obtain⟨fp,L⟩:=K.sl
 rcases aaU i env.length with hi|hi
 case inr=>
  rw[abu hi,abu (by have:=K.len;omega)]
  exact K
 exact K.slots (by simp[K.len]) (L.put (l:=[]) (by simp) (by have:=K.len;omega) (.inl ⟨rfl,rfl,h⟩) (λa h=>by simp at h) λj a _ h=>by simp at h)
theorem AI.take(K:AI M Z F (σ++[some v]) H (env++[some s]))(hk:s.k≠2:=by simp):AI M Z F (σ.set i (some v)) H (env.set i (some s)):=by
 have hn:env.length=σ.length:=by have:=K.len;simpa using this
 rcases aaU i env.length with hi|hi
 case inr=>
  rw[abu hi,abu (by omega)]
  exact K.drop
 obtain⟨fp,L⟩:=K.sl
 have hl:=L.last hn
 refine K.slots (by simp[hn]) (Slots.put (l:=fp env.length) (fp:=λj=>if j=env.length then []else fp j) ⟨λj t e=>?_,λj a e=>?_,λj k a I0 e z=>?_,(L.drop hn).oa⟩ hk (by omega) hl (λa=>L.al _ a) λj a _ h z=>?_)
 .have hj:j<env.length:=by
   rcases aaU j env.length with y|y
   .exact y
   .rw[aao y]at e;cases e
  rw[if_neg (by omega)]
  obtain⟨v',h1,h2⟩:=L.at' j t (by rw[aay hj];exact e)
  rw[aay (by omega)]at h1
  exact⟨v',h1,h2⟩
 .split at e
  .simp at e
  .exact L.al j a e
 .split at e
  .simp at e
  .split at z
   .simp at z
   .exact L.dj j k a I0 e z
 .split at z
  .simp at z
  .rename_i q
   exact L.dj env.length j a (abO q) h z
variable{k:Nat}{y:PV}
theorem AI.write(K:AI M Z F σ H env)(hk:k=1\/k=3)(hi:env[i]?=some (some ⟨k,x⟩))(hv:σ[i]?=some (some (.ref a)))(hw:Dd M F (upd H a o) a y):AI M Z F σ (upd H a o) (env.set i (some ⟨k,y⟩)):=by
 obtain⟨fp,L⟩:=K.sl
 obtain⟨v,JG,h⟩:=L.at' i _ hi
 rw[hv]at JG;cases JG
 obtain⟨hf,hd,Ht⟩:fp i=[a]/\(Z.H₀ a=none\/a∈Z.S)/\Fo M Z F (upd H a o) (.ref a) ⟨k,y⟩ [a]:=by
  rcases h with ⟨e,_⟩|⟨e,a',ea,hf,h0,hx⟩|⟨e,_⟩|⟨e,a',ea,hf,h0,hx⟩
  .rcases hk with rfl|rfl<;>exact absurd e (by simp)
  .cases ea
   exact⟨hf,.inl h0,.inr (.inl ⟨e,a,rfl,rfl,h0,hw⟩)⟩
  .rcases hk with rfl|rfl<;>exact absurd e (by simp)
  .cases ea
   exact⟨hf,.inr h0,.inr (.inr (.inr ⟨e,a,rfl,rfl,h0,hw⟩))⟩
 have ha:=L.al i a (by rw[hf];simp)
 refine⟨λb u e=>?_,λb u h1 h2=>?_,λb h=>?_,K.gr,K.nw,by simp[K.len],fp,λj s e=>?_,λj b h=>?_,L.dj,λj b t e1 e2 e3=>?_⟩
 .rw[aj (av e ha.2)];exact K.sF b u e
 .have:b≠a:=by
   rcases hd with h0|h0
   .exact av h1 h0
   .exact λz=>h2 (by rw[z];exact h0)
  rw[aj this];exact K.sG b u h1 h2
 .by_cases q:b=a
  .subst q;rw[am];simp
  .rw[aj q];exact K.pr b h
 .by_cases q:j=i
  .subst q
   rw[abP]at e
   simp only[if_true]at e
   split at e
   .first|(exfalso;revert e;simp;done)|cases e
    exact⟨_,hv,by rw[hf];exact Ht⟩
   .first|(exfalso;revert e;simp;done)|cases e
  .rw[aaF (abO q)]at e
   obtain⟨v,h1,h2⟩:=L.at' j s e
   refine⟨v,h1,h2.mono ao λc hc=>aj λz=>?_⟩
   exact L.dj j i c q hc (by rw[hf,z];simp)
 .have hb:=L.al j b h
  refine⟨?_,hb.2⟩
  by_cases q:b=a
  .subst q;rw[am];simp
  .rw[aj q];exact hb.1
 .by_cases q:j=i
  .subst q
   rw[abP]at e2
   simp only[if_true]at e2
   split at e2
   .cases e2;rcases hk with rfl|rfl<;>cases e3
   .cases e2
  .rw[aaF (abO q)]at e2
   exact L.oa j b t e1 e2 e3
def Vw(M:Md)(F H:Hp)(v:V)(x:PV):Prop:=Rep M.K F v x\/∃a,v=.ref a/\Dd M F H a x
theorem Vw.lst(h:Vw M F H v (.lst xs))(s:eQ F H):∃a vs,v=.ref a/\H a=some (.lst vs)/\AJ M.K F vs xs:=by
 rcases h with h|⟨a,rfl,vs,h1,h2⟩
 .cases h with
  |lst h1 h2=>exact⟨_,_,rfl,s _ _ h1,h2⟩
 .exact⟨a,vs,rfl,h1,h2⟩
theorem Vw.tup(h:Vw M F H v (.tup xs))(s:eQ F H):∃a vs,v=.ref a/\Cd M.K H a vs/\AJ M.K F vs xs:=by
 rcases h with h|⟨a,rfl,h⟩
 .cases h with
  |tup h1 h2=>exact⟨_,_,rfl,aw s h1,h2⟩
 .exact h.elim
theorem Vw.BJ{xs:List (Key×PV)}(h:Vw M F H v (.BJ xs))(s:eQ F H):∃a vs,v=.ref a/\H a=some (.dK vs)/\AL M.K F vs xs:=by
 rcases h with h|⟨a,rfl,vs,h1,h2⟩
 .cases h with
  |BJ h1 h2=>exact⟨_,_,rfl,s _ _ h1,h2⟩
 .exact⟨a,vs,rfl,h1,h2⟩
theorem Vw.int{i:Int}(h:Vw M F H v (.int i)):v=.int i:=by
 rcases h with h|⟨a,rfl,h⟩
 .cases h;rfl
 .exact h.elim
theorem Vw.bl{b:Bool}(h:Vw M F H v (.bl b)):v=.bl b:=by
 rcases h with h|⟨a,rfl,h⟩
 .cases h;rfl
 .exact h.elim
theorem Vw.str{x:Str}(h:Vw M F H v (.str x)):v=.str x:=by
 rcases h with h|⟨a,rfl,h⟩
 .cases h;rfl
 .exact h.elim
theorem Vw.AF(h:Vw M F H v .AF):v=.AF:=by
 rcases h with h|⟨a,rfl,h⟩
 .cases h;rfl
 .exact h.elim
theorem AI.vw(K:AI M Z F σ H env)(hi:env[i]?=some (some s))(hk:s.k≠2/\s.k≠4):∃v,σ[i]?=some (some v)/\Vw M F H v s.v:=by
 obtain⟨fp,L⟩:=K.sl
 obtain⟨v,hv,h⟩:=L.at' i _ hi
 rcases h with ⟨_,_,h⟩|⟨_,a,rfl,_,_,h⟩|⟨e,_⟩|⟨_,a,rfl,_,_,h⟩
 .exact⟨v,hv,.inl h⟩
 .exact⟨_,hv,.inr ⟨a,rfl,h⟩⟩
 .exact(e.elim hk.1 hk.2).elim
 .exact⟨_,hv,.inr ⟨a,rfl,h⟩⟩
theorem AI.val(K:AI M Z F σ H env)(hi:env[i]?=some (some ⟨0,x⟩)):∃v,σ[i]?=some (some v)/\Rep M.K F v x:=by
 obtain⟨fp,L⟩:=K.sl
 obtain⟨v,hv,h⟩:=L.at' i _ hi
 rcases h with ⟨_,_,h⟩|⟨e,_⟩|⟨e,_⟩|⟨e,_⟩
 .exact⟨v,hv,h⟩
 .first|(exfalso;revert e;simp;done)|cases e
 .first|(exfalso;revert e;simp;done)|cases e
 .first|(exfalso;revert e;simp;done)|cases e
theorem AI.ownAt(K:AI M Z F σ H env)(hk:k=1\/k=3)(hi:env[i]?=some (some ⟨k,x⟩)):∃a,σ[i]?=some (some (.ref a))/\Dd M F H a x:=by
 obtain⟨fp,L⟩:=K.sl
 obtain⟨v,hv,h⟩:=L.at' i _ hi
 rcases h with ⟨e,_⟩|⟨_,a,rfl,_,_,h⟩|⟨e,_⟩|⟨_,a,rfl,_,_,h⟩
 .rcases hk with rfl|rfl<;>exact absurd e (by simp)
 .exact⟨a,hv,h⟩
 .rcases hk with rfl|rfl<;>exact absurd e (by simp)
 .exact⟨a,hv,h⟩
abbrev WE:=En->(PV->En->Prop)->Prop
abbrev WT:=En->(Bool->En->Prop)->Prop
abbrev WA:=En->(List PV->En->Prop)->Prop
structure Wd where
 nx:En->Prop
 rt:PV->En->Prop
 bk:En->Prop:=λ_=>False
 ct:En->Prop:=λ_=>False
 rf:PV->En->Prop:=λ_ _=>False
 ro:PV->Nat->En->Prop:=λ_ _ _=>False
abbrev WS:=Wd->En->Prop
abbrev md(ob:Cy)(X:Cx):Md:=⟨X.prog,X.w,X.K,ob⟩
structure Bk(ob:Cy)(X:Cx)(e:Expr)(f:WE):Prop where
 ex:∃t:TE,PE X e t/\∀(Z:Zn) (F:Hp) (σ:St) (H:Hp) (env:En) (P:PV->En->Prop) (Q:VK),AI (md ob X) Z F σ H env->f env P ->
  (∀x dO v F' H',P x dO->eQ F F'->AI (md ob X) Z F' σ H' dO->Rep X.K F' v x->Q v H')->t σ H Q
structure Fp(ob:Cy)(X:Cx)(e:Expr)(f:WE):Prop where
 ex:∃t:TE,PE X e t/\∀(Z:Zn) (F:Hp) (σ:St) (H:Hp) (env:En) (P:PV->En->Prop) (Q:VK),AI (md ob X) Z F σ H env->f env P ->
  (∀x dO v F' H',P x dO->eQ F F'->AI (md ob X) Z F' σ H' dO->Vw (md ob X) F' H' v x->Q v H')->t σ H Q
structure IQ(ob:Cy)(X:Cx)(e:Expr)(f:WE):Prop where
 ex:∃t:TE,PE X e t/\∀(Z:Zn) (F:Hp) (σ:St) (H:Hp) (env:En) (P:PV->En->Prop) (Q:VK),AI (md ob X) Z F σ H env->f env P ->
  (∀x dO v F' H',P x dO->eQ F F'->(∀xs,x≠.set xs)->AI (md ob X) Z F' (σ++[some v]) H' (dO++[some ⟨1,x⟩])->Q v H')->t σ H Q
structure G6(ob:Cy)(X:Cx)(e:Expr)(f:WT):Prop where
 ex:∃t:TT,PT X e t/\∀(Z:Zn) (F:Hp) (σ:St) (H:Hp) (env:En) (P:Bool->En->Prop) (Q:Bool->Hp->Prop),AI (md ob X) Z F σ H env->f env P ->
  (∀b dO F' H',P b dO->eQ F F'->AI (md ob X) Z F' σ H' dO->Q b H')->t σ H Q
structure Nk(ob:Cy)(X:Cx)(e:Expr)(f:WT):Prop where
 ex:∃t:TT,PW X e t/\∀(Z:Zn) (F:Hp) (σ:St) (H:Hp) (env:En) (P:Bool->En->Prop) (Q:Bool->Hp->Prop),AI (md ob X) Z F σ H env->f env P ->
  (∀b dO F' H',P b dO->eQ F F'->AI (md ob X) Z F' σ H' dO->Q b H')->t σ H Q
structure G0(ob:Cy)(X:Cx)(es:List Expr)(f:WA):Prop where
 ex:∃t:TA,PA X es t/\∀(Z:Zn) (F:Hp) (σ:St) (H:Hp) (env:En) (P:List PV->En->Prop) (Q:List V->Hp->Prop),AI (md ob X) Z F σ H env->f env P ->
  (∀xs dO vs F' H',P xs dO->xs.length=es.length->eQ F F'->AI (md ob X) Z F' σ H' dO->AJ X.K F' vs xs->Q vs H')->t σ H Q
def eC(x:PV):WE:=λenv P=>P x env
def eV(i:Nat):WE:=λenv P=>match env[i]? with
 |some (some ⟨0,x⟩)=>P x env
 |some (some ⟨1,.lst xs⟩)=>P (.lst xs) (env.set i (some ⟨0,.lst xs⟩))
 |some (some ⟨1,.BJ xs⟩)=>P (.BJ xs) (env.set i (some ⟨0,.BJ xs⟩))
 |_=>False
def Bq(i:Nat):WE:=λenv P=>match env[i]? with
 |some (some ⟨0,x⟩)=>P x env
 |some (some ⟨1,x⟩)=>P x env
 |some (some ⟨3,x⟩)=>P x env
 |_=>False
variable{α:Type}
def opt(o:Option α)(P:α->Prop):Prop:=∃z,o=some z/\P z
theorem DX{z:α}{P:α->Prop}:opt (some z) P↔P z:=⟨λ⟨_,e,h⟩=>by cases e;exact h,λh=>⟨z,rfl,h⟩⟩
def bY:WA:=λenv P=>P [] env
def aS(a:WE)(r:WA):WA:=λenv P=>a env λx e1=>r e1 λxs e2=>P (x::xs) e2
def AW(a:WA):WE:=λenv P=>a env λxs e=>P (.tup xs) e
def EI(a:WA):WE:=λenv P=>a env λxs e=>P (.lst xs) e
def iF(g:PV->PV->Option PV)(a b:WE):WE:=λenv P=>a env λx e1=>b e1 λy e2=>opt (g x y) λz=>P z e2
def UE(g:PV->Option PV)(a:WE):WE:=λenv P=>a env λx e1=>opt (g x) λz=>P z e1
def IG(g:PV->PV->Option PV)(i:Nat)(b:WE):WE:=λenv P=>(env[i]?).join.isSome=true/\b env λy e2=>Bq i e2 λx _=>opt (g x y) λz=>P z e2
def oF(a:WE):WT:=λenv P=>a env λx e=>opt (match x with|.bl b=>some b|_=>none) λb=>P b e
def DB(a b:WT):WT:=λenv P=>a env λx e=>if x=true then b e P else P false e
def Fx(a b:WT):WT:=λenv P=>a env λx e=>if x=true then P true e else b e P
def CT(a:WT):WT:=λenv P=>a env λx e=>P (!x) e
def QG(c:WT)(a b:WE):WE:=λenv P=>c env λx e=>if x=true then a e P else b e P
variable{ob:Cy}{X:Cx}{e a b c:Expr}{es:List Expr}{pos:Pos}{f g h:WE}
theorem nE(he:Bk ob X e f):Fp ob X e f:=by
 obtain⟨t,ht,h⟩:=he.ex
 exact⟨t,ht,λZ F σ H env P Q K hf k=>h Z F σ H env P Q K hf λx dO v F' H' p s K' r=>k x dO v F' H' p s K' (.inl r)⟩
theorem C7(he:IQ ob X e f):Bk ob X e f:=by
 obtain⟨t,ht,h⟩:=he.ex
 refine⟨t,ht,λZ F σ H env P Q K hf k=>h Z F σ H env P Q K hf λx dO v F' H' p s hx K'=>?_⟩
 obtain⟨F2,s2,K2,r⟩:=K'.HX hx
 exact k x dO v F2 H' p (ak s s2) K2 r
theorem fM(hp:PE X e (tC v))(hr:∀F,Rep X.K F v x):Bk ob X e (eC x) :=
 ⟨_,hp,λZ F σ H env P Q K hf k=>k x env v F H hf ao K (hr F)⟩
theorem af{i j}:Bk ob X (.Constant (.int i) j pos) (eC (.int i)):=fM aJ λ_=>.int i
theorem cz{i j}:Bk ob X (.Constant (.bool i) j pos) (eC (.bl i)):=fM Am λ_=>.bl i
theorem zS{j}:Bk ob X (.Constant .none j pos) (eC .AF):=fM y8 λ_=>.AF
theorem ba{i j}:Bk ob X (.Constant (.str i) j pos) (eC (.str i)):=fM yY λ_=>.str i
theorem zQ(i:Nat){x:Str}(hp:PE X (.Name x pos) (BF i)):Bk ob X (.Name x pos) (eV i):=by
 refine⟨_,hp,λZ F σ H env P Q K hf k=>?_⟩
 unfold eV at hf
 split at hf
 .rename_i y hy
  obtain⟨v,hv,r⟩:=K.val hy
  exact⟨v,hv,k _ _ v F H hf ao K r⟩
 .rename_i y hy
  obtain⟨F',v,hv,s,K',r⟩:=K.freeze hy (λ_=>by simp)
  exact⟨v,hv,k _ _ v F' H hf s K' r⟩
 .rename_i y hy
  obtain⟨F',v,hv,s,K',r⟩:=K.freeze hy (λ_=>by simp)
  exact⟨v,hv,k _ _ v F' H hf s K' r⟩
 .exact hf.elim
theorem yi(i:Nat){x:Str}(hp:PE X (.Name x pos) (BF i)):Fp ob X (.Name x pos) (Bq i):=by
 refine⟨_,hp,λZ F σ H env P Q K hf k=>?_⟩
 unfold Bq at hf
 split at hf
 .rename_i y hy
  obtain⟨v,hv,r⟩:=K.vw hy (by simp)
  exact⟨v,hv,k _ _ v F H hf ao K r⟩
 .rename_i y hy
  obtain⟨v,hv,r⟩:=K.vw hy (by simp)
  exact⟨v,hv,k _ _ v F H hf ao K r⟩
 .rename_i y hy
  obtain⟨v,hv,r⟩:=K.vw hy (by simp)
  exact⟨v,hv,k _ _ v F H hf ao K r⟩
 .exact hf.elim
theorem ae:G0 ob X [] bY:=⟨_,bv,λZ F σ H env P Q K hf k=>k [] env [] F H hf rfl ao K .nil⟩
variable{fa:WA}
theorem ac(he:Bk ob X e f)(hr:G0 ob X es fa)(hs:aam (e::es) X.env=(false,eval e X.env)::aam es X.env:=by rfl):G0 ob X (e::es) (aS f fa):=by
 obtain⟨t,ht,h⟩:=he.ex
 obtain⟨u,hu,g⟩:=hr.ex
 refine⟨_,bh ht hu hs,λZ F σ H env P Q K hf k=>?_⟩
 refine h Z F σ H env _ _ K hf λx e1 v F1 H1 p s1 K1 r1=>?_
 refine g Z F1 σ H1 e1 _ _ K1 p λxs e2 vs F2 H2 p2 hl s2 K2 r2=>?_
 exact k (x::xs) e2 (v::vs) F2 H2 p2 (by simp[hl]) (ak s1 s2) K2 (.cons (r1.mono s2) r2)
theorem aA{x1}(ha:G0 ob X es fa)(hn:es.length<=1000:=by decide):Bk ob X (.Tuple es x1 pos) (AW fa):=by
 obtain⟨t,ht,h⟩:=ha.ex
 refine⟨_,yX ht,λZ F σ H env P Q K hf k=>?_⟩
 refine h Z F σ H env _ _ K hf λxs e1 vs F1 H1 p hl s1 K1 r1=>⟨?_,λq hq=>?_⟩
 .rw[r1.len,hl,aaC];omega
 .have hF:F1 q=none:=eQ.none_of K1.sF hq
  exact k _ e1 _ _ _ p (ak s1 (az hF)) (K1.lay hq) (.tup (.inl (.inl am)) (r1.mono (az hF)))
theorem cI(ha:G0 ob X es fa)(hn:es.length<=1000:=by decide):IQ ob X (.List es pos) (EI fa):=by
 obtain⟨t,ht,h⟩:=ha.ex
 refine⟨_,i0 ht,λZ F σ H env P Q K hf k=>?_⟩
 refine h Z F σ H env _ _ K hf λxs e1 vs F1 H1 p hl s1 K1 r1=>⟨?_,λq hq=>?_⟩
 .rw[r1.len,hl,aaC];omega
 .exact k _ e1 _ _ _ p s1 (λ_=>by simp) (K1.own hq ⟨vs,am,r1⟩)
def Es(ob:Cy)(X:Cx)(r:R2)(g:PV->PV->Option PV):Prop :=
 ∀(Z:Zn) (F:Hp) (σ:St) (H:Hp) (env:En) (v u:V) (x y z:PV) (Q:VK),AI (md ob X) Z F σ H env->Vw (md ob X) F H v x->Vw (md ob X) F H u y->g x y=some z ->
  (∀v' F' H',eQ F F'->AI (md ob X) Z F' σ H' env->Rep X.K F' v' z->Q v' H')->r v u H Q
def PU(ob:Cy)(X:Cx)(r:R2)(g:PV->PV->Option PV):Prop :=
 ∀(Z:Zn) (F:Hp) (σ:St) (H:Hp) (env:En) (v u:V) (x y z:PV) (Q:VK),AI (md ob X) Z F σ H env->Rep X.K F v x->Vw (md ob X) F H u y->g x y=some z ->
  (∀v' F' H',eQ F F'->AI (md ob X) Z F' σ H' env->Rep X.K F' v' z->Q v' H')->r v u H Q
variable{r:R2}
theorem Qg{o:PV->PV->Option PV}(h:Es ob X r o):PU ob X r o:=λZ F σ H env v u x y z Q K rx ry=>h Z F σ H env v u x y z Q K (.inl rx) ry
variable{tb:TE}
theorem jB{o:PV->PV->Option PV}{ta:TE}(hq:PU ob X r o)
  (ha:∀(Z:Zn) (F:Hp) (σ:St) (H:Hp) (env:En) (P:PV->En->Prop) (Q:VK),AI (md ob X) Z F σ H env->f env P->(∀x dO v F' H',P x dO->eQ F F'->AI (md ob X) Z F' σ H' dO->Rep X.K F' v x->Q v H')->ta σ H Q)
  (hb:∀(Z:Zn) (F:Hp) (σ:St) (H:Hp) (env:En) (P:PV->En->Prop) (Q:VK),AI (md ob X) Z F σ H env->g env P->(∀x dO v F' H',P x dO->eQ F F'->AI (md ob X) Z F' σ H' dO->Vw (md ob X) F' H' v x->Q v H')->tb σ H Q) :
  ∀(Z:Zn) (F:Hp) (σ:St) (H:Hp) (env:En) (P:PV->En->Prop) (Q:VK),AI (md ob X) Z F σ H env->iF o f g env P->(∀x dO v F' H',P x dO->eQ F F'->AI (md ob X) Z F' σ H' dO->Rep X.K F' v x->Q v H')->EC r ta tb σ H Q:=by
 intro Z F σ H env P Q K hf k
 refine ha Z F σ H env _ _ K hf λx e1 v F1 H1 p s1 K1 r1=>?_
 refine hb Z F1 σ H1 e1 _ _ K1 p λy e2 u F2 H2 p2 s2 K2 r2=>?_
 obtain⟨z,ez,p3⟩:=p2
 exact hq Z F2 σ H2 e2 v u x y z Q K2 (r1.mono s2) r2 ez λv' F' H' s3 K3 r3=>k z e2 v' F' H' p3 (ak s1 (ak s2 s3)) K3 r3
theorem vK{o:PV->PV->Option PV}(hq:Es ob X r o)
  (hb:∀(Z:Zn) (F:Hp) (σ:St) (H:Hp) (env:En) (P:PV->En->Prop) (Q:VK),AI (md ob X) Z F σ H env->g env P->(∀x dO v F' H',P x dO->eQ F F'->AI (md ob X) Z F' σ H' dO->Vw (md ob X) F' H' v x->Q v H')->tb σ H Q) :
  ∀(Z:Zn) (F:Hp) (σ:St) (H:Hp) (env:En) (P:PV->En->Prop) (Q:VK),AI (md ob X) Z F σ H env->IG o i g env P->(∀x dO v F' H',P x dO->eQ F F'->AI (md ob X) Z F' σ H' dO->Rep X.K F' v x->Q v H')->EC r (BF i) tb σ H Q:=by
 intro Z F σ H env P Q K hf k
 obtain⟨hd,hf⟩:=hf
 obtain⟨v,hv⟩:∃v,σ[i]?=some (some v):=by
  cases e:env[i]? with
  |none=>rw[e]at hd;cases hd
  |some w=>
   cases w with
   |none=>rw[e]at hd;cases hd
   |some s=>
    obtain⟨fp,L⟩:=K.sl
    obtain⟨v,hv,_⟩:=L.at' i s e
    exact⟨v,hv⟩
 refine⟨v,hv,hb Z F σ H env _ _ K hf λy e2 u F2 H2 p2 s2 K2 r2=>?_⟩
 unfold Bq at p2
 have fin:∀(s:Sl),(s.k≠2/\s.k≠4)->e2[i]?=some (some s)->opt (o s.v y) (λz=>P z e2)->r v u H2 Q:=λs hk hs ⟨z,ez,p3⟩=>by
  obtain⟨v',JG,rv⟩:=K2.vw hs hk
  rw[hv]at JG;cases JG
  exact hq Z F2 σ H2 e2 v u s.v y z Q K2 rv r2 ez λv' F' H' s3 K3 r3=>k z e2 v' F' H' p3 (ak s2 s3) K3 r3
 split at p2
 .rename_i hy;exact fin _ (by simp) hy p2
 .rename_i hy;exact fin _ (by simp) hy p2
 .rename_i hy;exact fin _ (by simp) hy p2
 .exact p2.elim
end Q
namespace Q
open PySem L2 PyProof.Rows
def BY(kvs:List (Key×PV))(k:Key):Option PV:=(kvs.find? λkv=>decide (kv.1=k)).map (·.2)
def E6(kvs:List (Key×PV))(k:Key)(v:PV):List (Key×PV) :=
 if (kvs.any λkv=>decide (kv.1=k))=true then kvs.map (λkv=>if kv.1=k then (kv.1,v)else kv)else kvs++[(k,v)]
def DZ:PV->Option Key
 |.int i=>some (.inl i)
 |.str s=>some (.inr s)
 |_=>none
variable{K:aah}{F:Hp}
variable{k:Key}{vs:List (Key×V)}{xs:List (Key×PV)}
theorem AL.val(h:AL K F vs xs):(C3 vs k=none/\BY xs k=none)\/∃v x,C3 vs k=some v/\BY xs k=some x/\Rep K F v x:=by
 induction h using AL.ind with
 |nil=>exact .inl ⟨rfl,rfl⟩
 |@cons k' v x vs xs h _ ih=>
  by_cases e:k'=k
  .exact .inr ⟨v,x,g6 e,by simp[BY,abD,e],h⟩
  .rw[g8 (p:=(k',v)) e]
   have e2:BY ((k',x)::xs) k=BY xs k:=by simp[BY,abD,e]
   rw[e2]
   exact ih
theorem AL.any(h:AL K F vs xs):(vs.any λkv=>decide (kv.1=k))=xs.any λkv=>decide (kv.1=k):=by
 induction h using AL.ind with
 |nil=>rfl
 |cons _ _ ih=>exact congrArg (_ || ·) ih
theorem AL.app{ws:List (Key×V)}{ys:List (Key×PV)}(h:AL K F vs xs)(k:AL K F ws ys):AL K F (vs++ws) (xs++ys):=by
 induction h using AL.ind with
 |nil=>exact k
 |cons a _ ih=>exact .cons a ih
variable{v:V}{x:PV}
theorem AL.MA(hv:Rep K F v x)(h:AL K F vs xs):AL K F (vs.map λkv=>if kv.1=k then (kv.1,v)else kv) (xs.map λkv=>if kv.1=k then (kv.1,x)else kv):=by
 induction h using AL.ind with
 |nil=>exact .nil
 |@cons k' v' x' vs xs a _ ih=>
  rw[aan,aan]
  dsimp only
  by_cases e:k'=k
  .rw[if_pos e,if_pos e];exact .cons hv ih
  .rw[if_neg e,if_neg e];exact .cons a ih
theorem AL.put(h:AL K F vs xs)(hv:Rep K F v x):AL K F (putK vs k v) (E6 xs k x):=by
 unfold putK E6
 rw[h.any]
 split
 .exact h.MA hv
 .exact h.app (.cons hv .nil)
theorem gO(h:DZ x=some k)(r:Rep K F v x):v=kV k:=by
 cases r<;>cases h<;>rfl
def gE:PV->PV->Option PV
 |.tup xs,.int i=>HG xs i
 |.lst xs,.int i=>HG xs i
 |.str s,.int i=>if s.length<=100000 then (HG s.cps.toList i).map λc=>.str ⟨#[c]⟩else none
 |.BJ kvs,y=>(DZ y).bind (BY kvs)
 |_,_=>none
def Oo:R2:=λx y H Q=>∃a v,x=.ref a/\G1 H a y (some v)/\Q v H
variable{ob:Cy}{X:Cx}{a b c e:Expr}{f g h:WE}{pos:Pos}
theorem ya(hu:X.A.units+1<cLine):J0 X Oo:=by
 intro value slice pins s σ H x y v u Q I rx ry h hs
 obtain⟨a,z,rfl,g,q⟩:=h
 cases rx
 exact tail_any (j5 I g) PySem.F.slot_dict_getitem.lookup (nN hu I g ry λw' s3 I3 EN=>⟨z,H,I3,EN,q⟩) hs
def Oq(K:aah):R2:=λx y H Q=>TL K x y H Q\/Oo x y H Q
theorem t7(hu:X.A.units+1<cLine):J0 X (Oq X.K):=MF.or (ya hu)
variable{i:Int}
theorem rK{vs:List V}{xs:List PV}{z:PV}(r:AJ K F vs xs)(h:HG xs i=some z):∃v,HG vs i=some v/\Rep K F v z:=by
 unfold HG at h⊢
 rw[r.len]
 cases e:J6 xs.length i with
 |none=>rw[e]at h;cases h
 |some j=>
  rw[e]at h
  exact r.get h
variable{M:Md}{H:Hp}
theorem Ld(h:Vw M F H v x)(hk:DZ x=some k):v=kV k:=by
 cases x<;>try cases hk
 .exact h.int
 .exact h.str
theorem Jx:Es ob X (Oq X.K) gE:=by
 intro Z F σ H env v u x y z Q K rx ry hz k
 unfold gE at hz
 split at hz
 .obtain⟨p,vs,rfl,h1,h2⟩:=rx.tup K.sF
  rw[ry.int]
  obtain⟨w,e1,e2⟩:=rK h2 hz
  exact .inl (.inr (.inl ⟨p,vs,_,w,rfl,rfl,h1,e1,k w F H ao K e2⟩))
 .obtain⟨p,vs,rfl,h1,h2⟩:=rx.lst K.sF
  rw[ry.int]
  obtain⟨w,e1,e2⟩:=rK h2 hz
  exact .inl (.inl ⟨p,vs,_,w,rfl,rfl,.inl (.inl h1),e1,k w F H ao K e2⟩)
 .rename_i s i
  split at hz
  .rename_i hl
   rw[rx.str,ry.int]
   cases e:HG s.cps.toList i with
   |none=>rw[e]at hz;cases hz
   |some c=>
    rw[e]at hz;cases hz
    exact .inl (.inr (.inr ⟨s,i,c,rfl,rfl,by rw[aaC];omega,e,k _ F H ao K (.str _)⟩))
  .cases hz
 .rename_i kvs
  obtain⟨p,vs,rfl,h1,h2⟩:=rx.BJ K.sF
  cases e:DZ y with
  |none=>rw[e]at hz;cases hz
  |some kk=>
   rw[e]at hz
   have hz:BY kvs kk=some z:=hz
   rw[Ld ry e]
   rcases h2.val (k:=kk)with ⟨_,e2⟩|⟨w,w',e1,e2,e3⟩
   .rw[e2]at hz;cases hz
   .rw[e2]at hz;cases hz
    refine .inr ⟨p,w,rfl,?_,k w F H ao K e3⟩
    rw[<- e1];exact RQ h1
 .cases hz
theorem Aw(hu:X.A.units+1<cLine)(ha:Bk ob X a f)(hb:Fp ob X b g)(hs:g5 b:=by exact λ_ _=>rfl):Bk ob X (.Subscript a b pos) (iF gE f g):=by
 obtain⟨ta,ha,ka⟩:=ha.ex
 obtain⟨tb,hb,kb⟩:=hb.ex
 exact⟨_,bU (t7 hu) ha hb hs,jB (Qg Jx) ka kb⟩
variable{p:Pos}
theorem zU(i:Nat){x:Str}(hu:X.A.units+1<cLine)(ha:PE X (.Name x p) (BF i))(hb:Fp ob X b g)(hs:g5 b:=by exact λ_ _=>rfl):Bk ob X (.Subscript (.Name x p) b pos) (IG gE i g):=by
 obtain⟨tb,hb,kb⟩:=hb.ex
 exact⟨_,bU (t7 hu) ha hb hs,vK Jx kb⟩
variable{r r':R2}
theorem BL.or{fn:Value->Value->Sem Value}(h:BL X fn r)(h':BL X fn r'):BL X fn (λx y H Q=>r x y H Q\/r' x y H Q):=by
 intro pins s σ H x y v u Q I rx ry q
 rcases q with q|q
 .exact h pins s σ H x y v u Q I rx ry q
 .exact h' pins s σ H x y v u Q I rx ry q
def AY:PV->PV->Option PV
 |.int i,.int j=>some (.int (i+j))
 |.str s,.str t=>if s.length+t.length<=100000 then some (.str (s++t))else none
 |.tup xs,.tup ys=>if xs.length+ys.length<=100000 then some (.tup (xs++ys))else none
 |.lst xs,.lst ys=>if xs.length+ys.length<=100000 then some (.lst (xs++ys))else none
 |_,_=>none
theorem Vw.Jm{xs:List PV}(h:Vw M F H v (.tup xs)):Rep M.K F v (.tup xs):=by
 rcases h with h|⟨a,rfl,h⟩
 .exact h
 .exact h.elim
def Lo(K:aah):R2:=λx y H Q=>((Hm λi j=>.int (i+j)) x y H Q\/∃i j,x=.str i/\y=.str j/\i.length+j.length<=sizeLine/\Q (.str (i++j)) H)\/(Ln K x y H Q\/Ow x y H Q)
theorem xK:BL X (acj .Add) (Lo X.K):=BL.or (BL.or ja r8) (BL.or xI zj)
theorem xF:Es ob X (Lo X.K) AY:=by
 intro Z F σ H env v u x y z Q K rx ry hz k
 unfold AY at hz
 split at hz
 .cases hz
  rw[rx.int,ry.int]
  exact .inl (.inl ⟨_,_,rfl,rfl,k _ F H ao K (.int _)⟩)
 .split at hz
  .cases hz
   rw[rx.str,ry.str]
   exact .inl (.inr ⟨_,_,rfl,rfl,by rw[aaC];omega,k _ F H ao K (.str _)⟩)
  .cases hz
 .rename_i xs ys
  split at hz
  .cases hz
   obtain⟨p,vs,rfl,h1,h2⟩:=rx.tup K.sF
   obtain⟨q,ws,rfl,g1,g2⟩:=ry.tup K.sF
   have hl:=h2.len
   have gl:=g2.len
   refine .inr (.inl ⟨p,q,vs,ws,rfl,rfl,h1,g1,by rw[aaC];omega,?_⟩)
   refine⟨λe=>k _ F H ao K ?_,λe=>k _ F H ao K ?_,λr hr=>?_⟩
   .subst e
    have:xs=[]:=List.length_eq_zero_iff.mp hl.symm
    subst this
    exact ry.Jm
   .subst e
    have:ys=[]:=List.length_eq_zero_iff.mp gl.symm
    subst this
    rw[abE]
    exact rx.Jm
   .have hF:F r=none:=eQ.none_of K.sF hr
    exact k _ _ _ (az hF) (K.lay hr) (.tup (.inl (.inl am)) ((h2.app g2).mono (az hF)))
  .cases hz
 .rename_i xs ys
  split at hz
  .cases hz
   obtain⟨p,vs,rfl,h1,h2⟩:=rx.lst K.sF
   obtain⟨q,ws,rfl,g1,g2⟩:=ry.lst K.sF
   have hl:=h2.len
   have gl:=g2.len
   refine .inr (.inr ⟨p,q,vs,ws,rfl,rfl,h1,g1,by rw[aaC];omega,λr hr=>?_⟩)
   have hF:F r=none:=eQ.none_of K.sF hr
   exact k _ _ _ (az hF) (K.lay hr) (.lst am ((h2.app g2).mono (az hF)))
  .cases hz
 .cases hz
variable{o:PV->PV->Option PV}
theorem gY{op:Operator}(hr:BL X (acj op) r)(hq:Es ob X r o)(ha:Bk ob X a f)(hb:Fp ob X b g):Bk ob X (.BinOp a op b pos) (iF o f g):=by
 obtain⟨ta,ha,ka⟩:=ha.ex
 obtain⟨tb,hb,kb⟩:=hb.ex
 exact⟨_,bG hr ha hb,jB (Qg hq) ka kb⟩
theorem aM(ha:Bk ob X a f)(hb:Fp ob X b g):Bk ob X (.BinOp a .Add b pos) (iF AY f g):=gY xK xF ha hb
def iI(C:Int->Int->Bool)(h:Int->Int->Int):PV->PV->Option PV
 |.int i,.int j=>if C i j=true then some (.int (h i j))else none
 |_,_=>none
theorem jD{C:Int->Int->Bool}{D:Int->Int->Prop}{h:Int->Int->Int}(hC:∀i j,C i j=true->D i j):Es ob X (rI D λi j=>.int (h i j)) (iI C h):=by
 intro Z F σ H env v u x y z Q K rx ry hz k
 unfold iI at hz
 split at hz
 .split at hz
  .rename_i hc
   cases hz
   rw[rx.int,ry.int]
   exact⟨_,_,rfl,rfl,hC _ _ hc,k _ F H ao K (.int _)⟩
  .cases hz
 .cases hz
def Co:=iI (λ_ _=>true) λi j=>i - j
def Nd(i j:Int):Bool:=(decide (-(2 ^ 64)<i) && decide (i<2 ^ 64)) || (decide (-(2 ^ 64)<j) && decide (j<2 ^ 64))
def CV:PV->PV->Option PV
 |.int i,.int j=>if Nd i j=true then some (.int (i*j))else none
 |.str s,.int i=>if 0<=i/\i<=1000/\s.length<=1000 then some (.str (EE s i.toNat))else none
 |.lst xs,.int i=>if -1000<=i/\i<=1000/\xs.length<=1000 then some (.lst (aaI i.toNat xs).flatten)else none
 |_,_=>none
def DY:=iI (λ_ j=>decide (0<j)) λi j=>i % j
def H0:=iI (λ_ j=>decide (0<j) && decide (j<1073741824)) λi j=>i / j
def E7:=iI (λi j=>decide (0<=j) && decide (j<=1000000) && decide (i.natAbs<2 ^ 64)) λi j=>i ^ j.toNat
theorem xG:BL X (acj .Sub) (rI (λ_ _=>True) λi j=>.int (i - j)):=by
 intro pins s σ H x y v u Q I rx ry h
 obtain⟨i,j,e1,e2,_,q⟩:=h
 exact zf pins s σ H x y v u Q I rx ry ⟨i,j,e1,e2,q⟩
theorem cb(ha:Bk ob X a f)(hb:Fp ob X b g):Bk ob X (.BinOp a .Sub b pos) (iF Co f g):=gY xG (jD λ_ _ _=>trivial) ha hb
theorem fL(ha:Bk ob X a f)(hb:Fp ob X b g):Bk ob X (.BinOp a .Mod b pos) (iF DY f g):=gY fB (jD λ_ _ h=>of_decide_eq_true h) ha hb
theorem uB(ha:Bk ob X a f)(hb:Fp ob X b g):Bk ob X (.BinOp a .FloorDiv b pos) (iF H0 f g):=gY mF (jD λ_ _ h=>by simp at h;exact h) ha hb
theorem pL(ha:Bk ob X a f)(hb:Fp ob X b g):Bk ob X (.BinOp a .Pow b pos) (iF E7 f g):=gY pd (jD λ_ _ h=>by simp at h;exact⟨h.1.1,h.1.2,h.2⟩) ha hb
theorem AJ.rep{vs:List V}{xs:List PV}(r:AJ K F vs xs):∀n:Nat,AJ K F (aaI n vs).flatten (aaI n xs).flatten
 |0=>.nil
 |n+1=>by
  rw[abf,abf,abZ,abZ]
  exact r.app (r.rep n)
theorem xE:Es ob X (λx y H Q=>(rI IS λi j=>.int (i*j)) x y H Q\/(Lk x y H Q\/Og x y H Q)) CV:=by
 intro Z F σ H env v u x y z Q K rx ry hz k
 unfold CV at hz
 split at hz
 .split at hz
  .rename_i hc
   cases hz
   rw[rx.int,ry.int]
   refine .inl ⟨_,_,rfl,rfl,?_,k _ F H ao K (.int _)⟩
   unfold Nd at hc
   simp at hc
   exact hc
  .cases hz
 .split at hz
  .rename_i hc
   cases hz
   rw[rx.str,ry.int]
   exact .inr (.inl ⟨_,_,rfl,rfl,hc.1,hc.2.1,hc.2.2,k _ F H ao K (.str _)⟩)
  .cases hz
 .rename_i xs i
  split at hz
  .rename_i hc
   cases hz
   obtain⟨p,vs,rfl,h1,h2⟩:=rx.lst K.sF
   rw[ry.int]
   have hl:=h2.len
   refine .inr (.inr ⟨p,i,vs,rfl,rfl,h1,by omega,by omega,?_,λr hr=>?_⟩)
   .rw[aaC]
    have h3:i.toNat<=1000:=by omega
    have h4:vs.length<=1000:=by omega
    calc vs.length*i.toNat<=1000*1000:=Nat.mul_le_mul h4 h3
     _<=16777216:=by decide
   .have hF:F r=none:=eQ.none_of K.sF hr
    exact k _ _ _ (az hF) (K.lay hr) (.lst am ((h2.rep _).mono (az hF)))
  .cases hz
 .cases hz
theorem gW(ha:Bk ob X a f)(hb:Fp ob X b g):Bk ob X (.BinOp a .Mult b pos) (iF CV f g):=gY (BL.or lC (BL.or xH zg)) xE ha hb
def OH:PV->Option PV
 |.int i=>some (.int (-i))
 |_=>none
variable{op:CmpOp}
theorem zV(hr:BL X (aaX op) r)(hq:Es ob X r o)(ha:Bk ob X a f)(hb:Fp ob X b g)(hm:acD op b=false):Bk ob X (.Compare a [op] [b] pos) (iF o f g):=by
 obtain⟨ta,ha,ka⟩:=ha.ex
 obtain⟨tb,hb,kb⟩:=hb.ex
 exact⟨_,qQ hr ha hb hm,jB (Qg hq) ka kb⟩
theorem zW{o:PV->PV->Option PV}(he:∃t,PE X (.Compare a [op] [b] pos) t/\PT X (.Compare a [op] [b] pos) (HL t)/\∀(Z:Zn) (F:Hp) (σ:L2.St) (H:Hp) (env:En) (P:PV->En->Prop) (Q:VK),AI (md ob X) Z F σ H env->f env P->(∀x dO v F' H',P x dO->eQ F F'->AI (md ob X) Z F' σ H' dO->Rep X.K F' v x->Q v H')->t σ H Q):G6 ob X (.Compare a [op] [b] pos) (oF f):=by
 obtain⟨t,_,ht,h⟩:=he
 refine⟨_,ht,λZ F σ H env P Q K hf k=>h Z F σ H env _ _ K hf λx e1 v F1 H1 p s1 K1 r1=>?_⟩
 obtain⟨z,hz,p⟩:=p
 cases x<;>try (cases hz)
 cases r1
 exact⟨_,rfl,k _ e1 F1 H1 p s1 K1⟩
theorem ym(hr:BL X (aaX op) r)(hq:Es ob X r o)(ha:Bk ob X a f)(hb:Fp ob X b g)(hm:acD op b=false):G6 ob X (.Compare a [op] [b] pos) (oF (iF o f g)):=by
 obtain⟨ta,ha,ka⟩:=ha.ex
 obtain⟨tb,hb,kb⟩:=hb.ex
 exact zW (o:=o) ⟨_,qQ hr ha hb hm,gJ hr ha hb hm,jB (Qg hq) ka kb⟩
theorem bV{P:V->V->Hp->V->Prop}(h:∀(F H:Hp) (v u:V) (x y z:PV),eQ F H->Vw (md ob X) F H v x->Vw (md ob X) F H u y->o x y=some z->∃w,(∀F,Rep X.K F w z)/\∀Q:VK,Q w H->r v u H Q):Es ob X r o:=by
 intro Z F σ H env v u x y z Q K rx ry hz k
 obtain⟨w,h1,h2⟩:=h F H v u x y z K.sF rx ry hz
 exact h2 Q (k w F H ao K (h1 F))
def FA:PV->PV->Option PV
 |.int i,.int j=>some (.bl (decide (i<j)))
 |.str s,.str t=>some (.bl (decide (AZ s t)))
 |_,_=>none
def Hr:PV->PV->Option PV
 |.int i,.int j=>some (.bl (decide (i<=j)))
 |.str s,.str t=>some (.bl (!decide (AZ t s)))
 |_,_=>none
def FG:PV->PV->Option PV
 |.int i,.int j=>some (.bl (decide (j<i)))
 |_,_=>none
theorem gM:Es ob X (λx y H Q=>(Hm λi j=>.bl (decide (i<j))) x y H Q\/∃i j,x=.str i/\y=.str j/\Q (.bl (decide (i.cps.toList<j.cps.toList))) H) FA:=by
 refine bV (P:=λ_ _ _ _=>True) λF H v u x y z sF rx ry hz=>?_
 unfold FA at hz
 split at hz
 .cases hz
  rw[rx.int,ry.int]
  exact⟨_,λ_=>.bl _,λQ q=>.inl ⟨_,_,rfl,rfl,q⟩⟩
 .cases hz
  rw[rx.str,ry.str]
  exact⟨_,λ_=>.bl _,λQ q=>.inr ⟨_,_,rfl,rfl,q⟩⟩
 .cases hz
theorem lA:Es ob X (λx y H Q=>(Hm λi j=>.bl (decide (i<=j))) x y H Q\/∃i j,x=.str i/\y=.str j/\Q (.bl (!decide (j.cps.toList<i.cps.toList))) H) Hr:=by
 refine bV (P:=λ_ _ _ _=>True) λF H v u x y z sF rx ry hz=>?_
 unfold Hr at hz
 split at hz
 .cases hz
  rw[rx.int,ry.int]
  exact⟨_,λ_=>.bl _,λQ q=>.inl ⟨_,_,rfl,rfl,q⟩⟩
 .cases hz
  rw[rx.str,ry.str]
  exact⟨_,λ_=>.bl _,λQ q=>.inr ⟨_,_,rfl,rfl,q⟩⟩
 .cases hz
theorem i9:Es ob X (Hm λi j=>.bl (decide (j<i))) FG:=by
 refine bV (P:=λ_ _ _ _=>True) λF H v u x y z sF rx ry hz=>?_
 unfold FG at hz
 split at hz
 .cases hz
  rw[rx.int,ry.int]
  exact⟨_,λ_=>.bl _,λQ q=>⟨_,_,rfl,rfl,q⟩⟩
 .cases hz
theorem jA:BL X (aaX .Lt) (λx y H Q=>(Hm λi j=>.bl (decide (i<j))) x y H Q\/∃i j,x=.str i/\y=.str j/\Q (.bl (decide (i.cps.toList<j.cps.toList))) H):=BL.or Ap tH
theorem ol:BL X (aaX .LtE) (λx y H Q=>(Hm λi j=>.bl (decide (i<=j))) x y H Q\/∃i j,x=.str i/\y=.str j/\Q (.bl (!decide (j.cps.toList<i.cps.toList))) H):=BL.or Aq tI
def Gd:PV->Bool
 |.AF=>true
 |_=>false
def MG:PV->PV->Option PV
 |x,.AF=>some (.bl (Gd x))
 |.bl a,.bl b=>some (.bl (a==b))
 |_,_=>none
theorem yH(h:Vw M F H v x):decide (v=V.AF)=Gd x:=by
 rcases h with h|⟨a,rfl,h⟩
 .cases h<;>simp[Gd]
 .cases x<;>first|exact h.elim|simp[Gd]
theorem ze:Es ob X (λx y H Q=>(y=.AF/\Q (.bl (decide (x=.AF))) H)\/∃a b,x=.bl a/\y=.bl b/\Q (.bl (a==b)) H) MG:=by
 refine bV (P:=λ_ _ _ _=>True) λF H v u x y z sF rx ry hz=>?_
 unfold MG at hz
 split at hz
 .cases hz
  rw[ry.AF]
  refine⟨_,λ_=>.bl _,λQ q=>.inl ⟨rfl,?_⟩⟩
  rw[yH rx];exact q
 .cases hz
  rw[rx.bl,ry.bl]
  exact⟨_,λ_=>.bl _,λQ q=>.inr ⟨_,_,rfl,rfl,q⟩⟩
 .cases hz
theorem An:BL X (aaX .Is) (λx y H Q=>(y=.AF/\Q (.bl (decide (x=.AF))) H)\/∃a b,x=.bl a/\y=.bl b/\Q (.bl (a==b)) H):=BL.or zh zi
def Jn:PV->Option Bool
 |.AF=>some false
 |.bl b=>some b
 |.int i=>some (i != 0)
 |.str s=>if s.length<=100000 then some ((s.length:Int) != 0)else none
 |.tup xs=>some (!xs.isEmpty)
 |.lst xs=>some (!xs.isEmpty)
 |.BJ xs=>some (!xs.isEmpty)
 |_=>none
def CL(a:WE):WT:=λenv P=>a env λx e=>opt (Jn x) λb=>P b e
theorem be(he:Fp ob X e f)(h:∀whole,isTrue e X.env whole=(do let v <- whole;standAt e.pos;ad5 [v] (truthy v)):=by intro _;rfl):G6 ob X e (CL f):=by
 obtain⟨t,ht,k0⟩:=he.ex
 refine⟨_,vn ht h,λZ F σ H env P Q K hf k=>k0 Z F σ H env _ _ K hf λx e1 v F1 H1 p s1 K1 r1=>?_⟩
 obtain⟨z,hz,p⟩:=p
 refine⟨z,?_,k _ e1 F1 H1 p s1 K1⟩
 have S4:∀{α β:Type} {l:List α} {m:List β},l.length=m.length->l.isEmpty=m.isEmpty:=λ{α β l m} h=>by
  cases l<;>cases m<;>simp at h⊢
 cases x<;>simp only[Jn]at hz
 .cases hz;rw[r1.AF];rfl
 .cases hz;rw[r1.bl];rfl
 .cases hz;rw[r1.int];rfl
 .split at hz
  .cases hz;rw[r1.str];exact⟨by rw[aaC];omega,rfl⟩
  .cases hz
 .cases hz
  obtain⟨p,vs,rfl,h1,h2⟩:=r1.tup K1.sF
  exact .inr (.inl ⟨vs,h1,by rw[S4 h2.len]⟩)
 .cases hz
  obtain⟨p,vs,rfl,h1,h2⟩:=r1.lst K1.sF
  exact .inl ⟨vs,.inl (.inl h1),by rw[S4 h2.len]⟩
 .cases hz
  obtain⟨p,vs,rfl,h1,h2⟩:=r1.BJ K1.sF
  exact .inr (.inr ⟨vs,h1,by rw[S4 h2.len]⟩)
 .cases hz
 .cases hz
variable{t u:WT}{rest:List Expr}
theorem b0(h:Nk ob X e t):G6 ob X e t:=by
 obtain⟨w,hw,k⟩:=h.ex
 exact⟨w,hw.pt,k⟩
theorem cj(h:G6 ob X a t):Nk ob X (.BoolOp .And [a] pos) t:=by
 obtain⟨w,hw,k⟩:=h.ex
 exact⟨w,pw_and1 hw,k⟩
theorem dn(h:G6 ob X a t):Nk ob X (.BoolOp .Or [a] pos) t:=by
 obtain⟨w,hw,k⟩:=h.ex
 exact⟨w,pw_or1 hw,k⟩
theorem cJ(h:G6 ob X a t)(h2:Nk ob X (.BoolOp .And (b::rest) pos) u):Nk ob X (.BoolOp .And (a::b::rest) pos) (DB t u):=by
 obtain⟨w,hw,k⟩:=h.ex
 obtain⟨w2,R0,k2⟩:=h2.ex
 refine⟨_,pw_and hw R0,λZ F σ H env P Q K hf kk=>k Z F σ H env _ _ K hf λx e1 F1 H1 p s1 K1=>?_⟩
 cases x with
 |true=>exact Fc (k2 Z F1 σ H1 e1 P Q K1 p λx e2 F2 H2 p2 s2 K2=>kk x e2 F2 H2 p2 (ak s1 s2) K2)
 |false=>exact EH (kk _ e1 F1 H1 p s1 K1)
theorem b7(h:G6 ob X a t)(h2:Nk ob X (.BoolOp .Or (b::rest) pos) u):Nk ob X (.BoolOp .Or (a::b::rest) pos) (Fx t u):=by
 obtain⟨w,hw,k⟩:=h.ex
 obtain⟨w2,R0,k2⟩:=h2.ex
 refine⟨_,pw_or hw R0,λZ F σ H env P Q K hf kk=>k Z F σ H env _ _ K hf λx e1 F1 H1 p s1 K1=>?_⟩
 cases x with
 |true=>exact Fc (kk _ e1 F1 H1 p s1 K1)
 |false=>exact EH (k2 Z F1 σ H1 e1 P Q K1 p λx e2 F2 H2 p2 s2 K2=>kk x e2 F2 H2 p2 (ak s1 s2) K2)
theorem bw(h:G6 ob X a t):G6 ob X (.UnaryOp .Not a pos) (CT t):=by
 obtain⟨w,hw,k⟩:=h.ex
 exact⟨_,yP hw,λZ F σ H env P Q K hf kk=>k Z F σ H env _ _ K hf λx e1 F1 H1 p s1 K1=>kk _ e1 F1 H1 p s1 K1⟩
theorem uA(hc:G6 ob X c t)(ha:Bk ob X a f)(hb:Bk ob X b g):Bk ob X (.IfExp c a b pos) (QG t f g):=by
 obtain⟨w,hw,k⟩:=hc.ex
 obtain⟨ta,ha,ka⟩:=ha.ex
 obtain⟨tb,hb,kb⟩:=hb.ex
 refine⟨_,vC hw ha hb,λZ F σ H env P Q K hf kk=>k Z F σ H env _ _ K hf λx e1 F1 H1 p s1 K1=>?_⟩
 cases x with
 |true=>exact Fc (ka Z F1 σ H1 e1 P Q K1 p λx e2 v F2 H2 p2 s2 K2 r2=>kk x e2 v F2 H2 p2 (ak s1 s2) K2 r2)
 |false=>exact EH (kb Z F1 σ H1 e1 P Q K1 p λx e2 v F2 H2 p2 s2 K2 r2=>kk x e2 v F2 H2 p2 (ak s1 s2) K2 r2)
def Eo:PV->Option Bool
 |.bl b=>some b
 |_=>none
def D2(a b:WE):WE:=λenv P=>a env λx e=>opt (Eo x) λk=>if k=true then b e P else P (.bl false) e
def WD(a b:WE):WE:=λenv P=>a env λx e=>opt (Eo x) λk=>if k=true then P (.bl true) e else b e P
def Nb(a:WE):WE:=λenv P=>a env λx e=>opt (Eo x) λk=>P (.bl (!k)) e
theorem cH{op}(h:Bk ob X a f):Bk ob X (.BoolOp op [a] pos) f:=by
 obtain⟨t,ht,k⟩:=h.ex
 exact⟨t,yZ ht,k⟩
theorem m4{k:Bool}(r:Rep K F v x)(h:Eo x=some k):v=.bl k/\x=.bl k:=by
 cases x<;>cases h
 cases r
 exact⟨rfl,rfl⟩
theorem ce(ha:Bk ob X a f)(hb:Bk ob X (.BoolOp .And (b::rest) pos) g):Bk ob X (.BoolOp .And (a::b::rest) pos) (D2 f g):=by
 obtain⟨ta,ha,ka⟩:=ha.ex
 obtain⟨tb,hb,kb⟩:=hb.ex
 refine⟨_,zb ha hb,λZ F σ H env P Q K hf kk=>ka Z F σ H env _ _ K hf λx e1 v F1 H1 p s1 K1 r1=>?_⟩
 obtain⟨z,hz,p⟩:=p
 obtain⟨rfl,rfl⟩:=m4 r1 hz
 refine⟨z,rfl,?_⟩
 cases z with
 |true=>exact Fc (kb Z F1 σ H1 e1 P Q K1 p λx e2 v F2 H2 p2 s2 K2 r2=>kk x e2 v F2 H2 p2 (ak s1 s2) K2 r2)
 |false=>exact EH (kk _ e1 _ F1 H1 p s1 K1 (.bl _))
theorem zR(ha:Bk ob X a f):Bk ob X (.UnaryOp .Not a pos) (Nb f):=by
 obtain⟨ta,ha,ka⟩:=ha.ex
 refine⟨_,y6 ha,λZ F σ H env P Q K hf kk=>ka Z F σ H env _ _ K hf λx e1 v F1 H1 p s1 K1 r1=>?_⟩
 obtain⟨z,hz,p⟩:=p
 obtain⟨rfl,rfl⟩:=m4 r1 hz
 exact⟨z,rfl,kk _ e1 _ F1 H1 p s1 K1 (.bl _)⟩
def B4:Nat->PV->PV->Option Bool
 |0,_,_=>none
 |d+1,x,y=>match x,y with
  |.AF,.AF=>some true
  |.AF,.bl _=>some false
  |.AF,.int _=>some false
  |.AF,.str _=>some false
  |.bl _,.AF=>some false
  |.bl a,.bl b=>some (a==b)
  |.bl a,.int b=>some ((if a then 1 else 0)==b)
  |.bl _,.str _=>some false
  |.int _,.AF=>some false
  |.int a,.bl b=>some (a==(if b then 1 else 0))
  |.int a,.int b=>some (a==b)
  |.int _,.str _=>some false
  |.str _,.AF=>some false
  |.str _,.bl _=>some false
  |.str _,.int _=>some false
  |.str a,.str b=>some (a==b)
  |.tup xs,.tup ys=>((xs.zip ys).mapM λp=>B4 d p.1 p.2).map λbs=>bs.all id && xs.length==ys.length
  |.lst xs,.lst ys=>if xs.length=ys.length then ((xs.zip ys).mapM λp=>B4 d p.1 p.2).map λbs=>bs.all id else some false
  |.tup _,.lst _=>some false
  |.lst _,.tup _=>some false
  |.tup _,.AF=>some false
  |.tup _,.bl _=>some false
  |.tup _,.int _=>some false
  |.tup _,.str _=>some false
  |.AF,.tup _=>some false
  |.bl _,.tup _=>some false
  |.int _,.tup _=>some false
  |.str _,.tup _=>some false
  |.lst _,.AF=>some false
  |.lst _,.bl _=>some false
  |.lst _,.int _=>some false
  |.lst _,.str _=>some false
  |.AF,.lst _=>some false
  |.bl _,.lst _=>some false
  |.int _,.lst _=>some false
  |.str _,.lst _=>some false
  |_,_=>none
variable{α β:Type}
theorem bA{f:α->Option β}:∀{l:List α} {m:List β},l.mapM f=some m->m.length=l.length/\∀(i:Nat) (a:α),l[i]?=some a->∃b,m[i]?=some b/\f a=some b
 |[],m,h=>by simp at h;subst h;exact⟨rfl,λi a e=>by simp at e⟩
 |a::l,m,h=>by
  rw[aby]at h
  cases ea:f a with
  |none=>rw[ea]at h;cases h
  |some b=>
   rw[ea]at h
   cases el:l.mapM f with
   |none=>rw[el]at h;cases h
   |some m'=>
    rw[el]at h
    have h:some (b::m')=some m:=h
    cases h
    obtain⟨h1,h2⟩:=bA el
    refine⟨by simp[h1],λi c e=>?_⟩
    cases i with
    |zero=>simp at e;subst e;exact⟨b,rfl,ea⟩
    |succ i=>simp at e ⊢;exact h2 i c e
theorem AM.IE:∀{xs:List V} {us:List Value} {i:Nat} {u:Value},AM xs us->us[i]?=some u->∃x,xs[i]?=some x/\RelV x u
 |_,_,_,_,.nil,e=>by simp at e
 |_,_,0,_,.cons r _,e=>by simp at e;subst e;exact⟨_,rfl,r⟩
 |_,_,i+1,x,.cons _ t,e=>by
  obtain⟨u,h1,h2⟩:=AM.IE (i:=i) (u:=x) t (by simpa using e)
  exact⟨u,by simpa using h1,h2⟩
variable{pins:List (Addr×Obj)}{σ:L2.St}{s:Shared}
variable{ws:List V}
theorem dC(I:Inv X pins σ H s){a:Addr}{vs:List V}(h1:Cm X.K H a vs)(h2:Cd X.K H a ws):False:=by
 obtain⟨_,_,⟨o,n,e,c,_⟩,_⟩:=I.list h1
 obtain⟨_,_,⟨o',e',c',_⟩,_⟩:=I.tuple h2
 rw[e]at e';cases e';rw[c]at c';injection c' with c';exact absurd c' (by decide)
theorem fR{e:Nat->Bool}{bs:List Bool}(h:∀j,j<bs.length->bs[j]?=some (e j)):(aa6 bs.length).all e=bs.all id:=by
 rw[abe,ab5,ab5]
 constructor
 .intro q b hb
  obtain⟨j,hj,rfl⟩:=List.mem_iff_getElem.mp hb
  have:=h j hj
  rw[aab hj]at this
  have q2:=q j (List.mem_range.mpr hj)
  rw[<- aap this]at q2
  exact q2
 .intro q j hj
  have hj:=List.mem_range.mp hj
  have:=h j hj
  rw[aab hj]at this
  rw[<- aap this]
  exact q _ (abl hj)
theorem nL(I:Inv X pins σ H s)(sF:eQ F H):∀{d:Nat} {v:V} {x y:PV} {k:Bool},Rep X.K F v x->Rep X.K F v y->B4 d x y=some k->k=true:=by
 intro d
 induction d with
 |zero=>intro v x y k _ _ h;cases h
 |succ d ih=>
  intro v x y k rx ry h
  have lists:∀{vs:List V} {xs ys:List PV} {bs:List Bool},AJ X.K F vs xs->AJ X.K F vs ys->(xs.zip ys).mapM (λp=>B4 d p.1 p.2)=some bs->bs.all id=true:=λ{vs xs ys bs} r1 r2 hm=>by
   obtain⟨h1,h2⟩:=bA hm
   rw[ab5]
   intro b hb
   obtain⟨j,hj,rfl⟩:=List.mem_iff_getElem.mp hb
   have Sq:j<(xs.zip ys).length:=by rw[<- h1];exact hj
   obtain⟨b',e1,e2⟩:=h2 j _ (aab Sq)
   rw[aab hj]at e1
   cases aap e1
   have hx:xs[j]?=some (xs.zip ys)[j].1:=by
    have:=aab Sq
    rw[aaY]at this
    exact this.1
   have hy:ys[j]?=some (xs.zip ys)[j].2:=by
    have:=aab Sq
    rw[aaY]at this
    exact this.2
   obtain⟨v1,q1,q2⟩:=r1.get hx
   obtain⟨v2,q3,q4⟩:=r2.get hy
   rw[q1]at q3;cases q3
   exact ih q2 q4 e2
  cases rx with
  |AF=>cases ry;cases h;rfl
  |bl b=>cases ry;cases h;simp
  |int b=>cases ry;cases h;simp
  |str b=>cases ry;cases h;simp
  |tup h1 r1=>
   cases ry with
   |tup h2 r2=>
    have:=I.CS (aw sF h1) (aw sF h2)
    subst this
    replace h:aeY (λbs:List Bool=>bs.all id && acA _==acA _) (List.mapM (λp:PV×PV=>B4 d p.1 p.2) (List.zip _ _))=some k:=h
    rw[aaA]at h
    obtain⟨bs,hb,e⟩:=h
    rw[<- e,lists r1 r2 hb,<- r1.len,<- r2.len]
    simp
   |lst h2 r2=>exact(dC I (.inl (.inl (sF _ _ h2))) (aw sF h1)).elim
   |BJ h2 r2=>cases h
   |C2 h2=>cases h
  |lst h1 r1=>
   cases ry with
   |tup h2 r2=>exact(dC I (.inl (.inl (sF _ _ h1))) (aw sF h2)).elim
   |lst h2 r2=>
    rw[h1]at h2;cases h2
    replace h:(if acA _=acA _ then aeY (λbs:List Bool=>bs.all id) (List.mapM (λp:PV×PV=>B4 d p.1 p.2) (List.zip _ _))else some false)=some k:=h
    rw[if_pos (by rw[<- r1.len,<- r2.len])]at h
    rw[aaA]at h
    obtain⟨bs,hb,e⟩:=h
    rw[<- e,lists r1 r2 hb]
   |BJ h2 r2=>cases h
   |C2 h2=>cases h
  |BJ h1 r1=>cases y<;>cases h
  |C2 h1=>cases y<;>cases h
theorem M9(I:Inv X pins σ H s)(sF:eQ F H):∀{d:Nat} {A:Around} {v u:V} {x y:PV} {a b:Value} {k:Bool},A.units+d<cLine->Rep X.K F v x->Rep X.K F u y->RelV v a->RelV u b->B4 d x y=some k->SeqAt.RcAt A s a b k/\SeqAt.EqAt A s a b k:=by
 intro d
 induction d with
 |zero=>intro A v u x y a b k _ _ _ _ _ h;cases h
 |succ d ih=>
  intro A v u x y a b k hu rx ry ra rb h
  have Ci:A.units<cLine:=by omega
  cases rx with
  |AF=>
   cases ra
   cases ry with
   |AF=>cases rb;cases h;exact⟨SeqAt.RcAt.none_none,afv _⟩
   |bl b=>cases rb;cases h;exact⟨SeqAt.RcAt.none_bool b,SeqAt.EqAt.none_bool b⟩
   |int b=>obtain⟨t,rfl⟩:=rb;cases h;exact⟨SeqAt.RcAt.none_int b t,SeqAt.EqAt.none_int b t⟩
   |str b=>obtain⟨t,rfl⟩:=rb;cases h;exact⟨SeqAt.RcAt.none_str b t,SeqAt.EqAt.none_str b t⟩
   |tup h1 r1=>
    cases rb;cases h
    obtain⟨iN,_,p,_⟩:=I.tuple (aw sF h1)
    exact⟨SeqAt.RcAt.none_tuple p Ci,SeqAt.EqAt.none_tuple p Ci⟩
   |lst h1 r1=>
    cases rb;cases h
    obtain⟨iN,_,p,_⟩:=I.list (.inl (.inl (sF _ _ h1)))
    exact⟨SeqAt.RcAt.none_list p.isList Ci,SeqAt.EqAt.none_list p.isList Ci⟩
   |BJ=>cases h
   |C2=>cases h
  |bl a=>
   cases ra
   cases ry with
   |AF=>cases rb;cases h;exact⟨SeqAt.RcAt.bool_none a,SeqAt.EqAt.bool_none a⟩
   |bl b=>cases rb;cases h;exact⟨SeqAt.RcAt.bool_bool a b,SeqAt.EqAt.bool_bool a b⟩
   |int b=>obtain⟨t,rfl⟩:=rb;cases h;exact⟨SeqAt.RcAt.bool_int a b t,SeqAt.EqAt.bool_int a b t⟩
   |str b=>obtain⟨t,rfl⟩:=rb;cases h;exact⟨SeqAt.RcAt.bool_str a b t,SeqAt.EqAt.bool_str a b t⟩
   |tup h1 r1=>
    cases rb;cases h
    obtain⟨iN,_,p,_⟩:=I.tuple (aw sF h1)
    exact⟨SeqAt.RcAt.bool_tuple a p Ci,SeqAt.EqAt.bool_tuple a p Ci⟩
   |lst h1 r1=>
    cases rb;cases h
    obtain⟨iN,_,p,_⟩:=I.list (.inl (.inl (sF _ _ h1)))
    exact⟨SeqAt.RcAt.bool_list a p.isList Ci,SeqAt.EqAt.bool_list a p.isList Ci⟩
   |BJ=>cases h
   |C2=>cases h
  |int a=>
   obtain⟨t',rfl⟩:=ra
   cases ry with
   |AF=>cases rb;cases h;exact⟨SeqAt.RcAt.int_none a t',SeqAt.EqAt.int_none a t'⟩
   |bl b=>cases rb;cases h;exact⟨SeqAt.RcAt.int_bool a t' b,SeqAt.EqAt.int_bool a t' b⟩
   |int b=>obtain⟨t,rfl⟩:=rb;cases h;exact⟨SeqAt.RcAt.int_int a t' b t,SeqAt.EqAt.int_int a t' b t⟩
   |str b=>obtain⟨t,rfl⟩:=rb;cases h;exact⟨SeqAt.RcAt.int_str a t' b t,SeqAt.EqAt.int_str a t' b t⟩
   |tup h1 r1=>
    cases rb;cases h
    obtain⟨iN,_,p,_⟩:=I.tuple (aw sF h1)
    exact⟨SeqAt.RcAt.int_tuple a t' p Ci,SeqAt.EqAt.int_tuple a t' p Ci⟩
   |lst h1 r1=>
    cases rb;cases h
    obtain⟨iN,_,p,_⟩:=I.list (.inl (.inl (sF _ _ h1)))
    exact⟨SeqAt.RcAt.int_list a t' p.isList Ci,SeqAt.EqAt.int_list a t' p.isList Ci⟩
   |BJ=>cases h
   |C2=>cases h
  |str a=>
   obtain⟨t',rfl⟩:=ra
   cases ry with
   |AF=>cases rb;cases h;exact⟨SeqAt.RcAt.str_none a t',SeqAt.EqAt.str_none a t'⟩
   |bl b=>cases rb;cases h;exact⟨SeqAt.RcAt.str_bool a t' b,SeqAt.EqAt.str_bool a t' b⟩
   |int b=>obtain⟨t,rfl⟩:=rb;cases h;exact⟨SeqAt.RcAt.str_int a t' b t,SeqAt.EqAt.str_int a t' b t⟩
   |str b=>obtain⟨t,rfl⟩:=rb;cases h;exact⟨SeqAt.RcAt.str_str a t' b t,SeqAt.EqAt.str_str a t' b t⟩
   |tup h1 r1=>
    cases rb;cases h
    obtain⟨iN,_,p,_⟩:=I.tuple (aw sF h1)
    exact⟨SeqAt.RcAt.str_tuple a t' p Ci,SeqAt.EqAt.str_tuple a t' p Ci⟩
   |lst h1 r1=>
    cases rb;cases h
    obtain⟨iN,_,p,_⟩:=I.list (.inl (.inl (sF _ _ h1)))
    exact⟨SeqAt.RcAt.str_list a t' p.isList Ci,SeqAt.EqAt.str_list a t' p.isList Ci⟩
   |BJ=>cases h
   |C2=>cases h
  |@tup pa vs xs h1 r1=>
   cases ra
   obtain⟨iN,rv,p,_⟩:=I.tuple (aw sF h1)
   cases ry with
   |AF=>cases rb;cases h;exact⟨SeqAt.RcAt.tuple_none p Ci,SeqAt.EqAt.tuple_none p Ci⟩
   |bl b=>cases rb;cases h;exact⟨SeqAt.RcAt.tuple_bool b p Ci,SeqAt.EqAt.tuple_bool b p Ci⟩
   |int b=>obtain⟨t,rfl⟩:=rb;cases h;exact⟨SeqAt.RcAt.tuple_int b t p Ci,SeqAt.EqAt.tuple_int b t p Ci⟩
   |str b=>obtain⟨t,rfl⟩:=rb;cases h;exact⟨SeqAt.RcAt.tuple_str b t p Ci,SeqAt.EqAt.tuple_str b t p Ci⟩
   |@tup pb ws ys h2 r2=>
    cases rb
    have h0:=h
    obtain⟨Cq,EN,p2,_⟩:=I.tuple (aw sF h2)
    replace h:aeY (λbs:List Bool=>bs.all id && xs.length==ys.length) (List.mapM (λp:PV×PV=>B4 d p.1 p.2) (xs.zip ys))=some k:=h
    rw[aaA]at h
    obtain⟨bs,hb,e⟩:=h
    obtain⟨IC,ID⟩:=bA hb
    have l1:iN.length=xs.length:=by rw[<- rv.length,r1.len]
    have l2:Cq.length=ys.length:=by rw[<- EN.length,r2.len]
    have rc:SeqAt.RcAt A s (.ref pa) (.ref pb) k:=by
     have:=SeqAt.RcAt.tuples (e:=λj=>bs.getD j false) p p2 Ci (λj j1 j2=>by
      simp only[aae]at j1 j2
      have jx:j<xs.length:=by omega
      have jy:j<ys.length:=by omega
      have hz:(xs.zip ys)[j]?=some (xs[j],ys[j]):=by rw[aaY];exact⟨by simp[jx],by simp[jy]⟩
      obtain⟨b,e1,e2⟩:=ID j _ hz
      obtain⟨v1,q1,q2⟩:=r1.get (aab jx)
      obtain⟨v2,q3,q4⟩:=r2.get (aab jy)
      obtain⟨u1,q5,q6⟩:=rv.get q1
      obtain⟨u2,q7,q8⟩:=EN.get q3
      have g1:iN.toArray[j]=u1:=by simpa[aab j1]using q5
      have g2:Cq.toArray[j]=u2:=by simpa[aab j2]using q7
      rw[g1,g2]
      have Hu:bs.getD j false=b:=by simp[aeL,e1]
      rw[Hu]
      exact(ih (A:=A.in1) (by show A.units+1+d<cLine;omega) q2 q4 q6 q8 e2).2)
     have e3:((aa6 (min iN.toArray.size Cq.toArray.size)).all (λj=>bs.getD j false) && iN.toArray.size==Cq.toArray.size)=k:=by
      have e4:min iN.toArray.size Cq.toArray.size=bs.length:=by
       rw[IC,aea,aae,aae,l1,l2]
      rw[e4,fR (λj hj=>by simp[aeL,aab hj]),aae,aae,l1,l2]
      exact e
     rw[e3]at this
     exact this
    refine⟨rc,?_⟩
    by_cases q:pa=pb
    .subst q
     have:k=true:=nL I sF (.tup h1 r1) (.tup h2 r2) h0
     subst this
     exact afv _
    .exact SeqAt.EqAt.of_refs q rc
   |lst h2 r2=>
    cases rb;cases h
    obtain⟨Cq,_,p2,_⟩:=I.list (.inl (.inl (sF _ _ h2)))
    exact⟨SeqAt.RcAt.tuple_list p p2.isList Ci,SeqAt.EqAt.tuple_list p p2.isList Ci⟩
   |BJ=>cases h
   |C2=>cases h
  |@lst pa vs xs h1 r1=>
   cases ra
   obtain⟨iN,rv,p,_⟩:=I.list (.inl (.inl (sF _ _ h1)))
   cases ry with
   |AF=>cases rb;cases h;exact⟨SeqAt.RcAt.list_none p.isList Ci,SeqAt.EqAt.list_none p.isList Ci⟩
   |bl b=>cases rb;cases h;exact⟨SeqAt.RcAt.list_bool b p.isList Ci,SeqAt.EqAt.list_bool b p.isList Ci⟩
   |int b=>obtain⟨t,rfl⟩:=rb;cases h;exact⟨SeqAt.RcAt.list_int b t p.isList Ci,SeqAt.EqAt.list_int b t p.isList Ci⟩
   |str b=>obtain⟨t,rfl⟩:=rb;cases h;exact⟨SeqAt.RcAt.list_str b t p.isList Ci,SeqAt.EqAt.list_str b t p.isList Ci⟩
   |tup h2 r2=>
    cases rb;cases h
    obtain⟨Cq,_,p2,_⟩:=I.tuple (aw sF h2)
    exact⟨SeqAt.RcAt.list_tuple p.isList p2 Ci,SeqAt.EqAt.list_tuple p.isList p2 Ci⟩
   |@lst pb ws ys h2 r2=>
    cases rb
    have h0:=h
    obtain⟨Cq,EN,p2,_⟩:=I.list (.inl (.inl (sF _ _ h2)))
    have l1:iN.length=xs.length:=by rw[<- rv.length,r1.len]
    have l2:Cq.length=ys.length:=by rw[<- EN.length,r2.len]
    have rc:SeqAt.RcAt A s (.ref pa) (.ref pb) k:=by
     replace h:(if xs.length=ys.length then aeY (λbs:List Bool=>bs.all id) (List.mapM (λp:PV×PV=>B4 d p.1 p.2) (xs.zip ys))else some false)=some k:=h
     split at h
     .rename_i hl
      rw[aaA]at h
      obtain⟨bs,hb,e⟩:=h
      obtain⟨IC,ID⟩:=bA hb
      have:=SeqAt.RcAt.lists (e:=λj=>bs.getD j false) p.isList p2.isList (by rw[aae,aae];omega) Ci (λj j1 j2=>by
       simp only[aae]at j1 j2
       have jx:j<xs.length:=by omega
       have jy:j<ys.length:=by omega
       have hz:(xs.zip ys)[j]?=some (xs[j],ys[j]):=by rw[aaY];exact⟨by simp[jx],by simp[jy]⟩
       obtain⟨b,e1,e2⟩:=ID j _ hz
       obtain⟨v1,q1,q2⟩:=r1.get (aab jx)
       obtain⟨v2,q3,q4⟩:=r2.get (aab jy)
       obtain⟨u1,q5,q6⟩:=rv.get q1
       obtain⟨u2,q7,q8⟩:=EN.get q3
       have g1:iN.toArray[j]=u1:=by simpa[aab j1]using q5
       have g2:Cq.toArray[j]=u2:=by simpa[aab j2]using q7
       rw[g1,g2]
       have Hu:bs.getD j false=b:=by simp[aeL,e1]
       rw[Hu]
       exact(ih (A:=A.in1) (by show A.units+1+d<cLine;omega) q2 q4 q6 q8 e2).2)
      have e3:((aa6 iN.toArray.size).all (λj=>bs.getD j false))=k:=by
       have e4:iN.toArray.size=bs.length:=by
        rw[IC,aea,aae,l1];omega
       rw[e4,fR (λj hj=>by simp[aeL,aab hj])]
       exact e
      rw[e3]at this
      exact this
     .rename_i hl
      cases h
      exact SeqAt.RcAt.lists_lengths p.isList p2.isList (by simp only[aae];simpa[l1,l2]using hl) Ci
    refine⟨rc,?_⟩
    by_cases q:pa=pb
    .subst q
     have:k=true:=nL I sF (.lst h1 r1) (.lst h2 r2) h0
     subst this
     exact afv _
    .exact SeqAt.EqAt.of_refs q rc
   |BJ=>cases h
   |C2=>cases h
  |BJ h1 r1=>cases y<;>cases h
  |C2 h1=>cases y<;>cases h
def AN(x y:PV):Option PV:=(B4 60 x y).map .bl
theorem Vw.Dy(h:Vw M F H v x)(s:eQ F H)(hx:∀xs,x≠.set xs):∃F',eQ F F'/\eQ F' H/\Rep M.K F' v x:=by
 rcases h with h|⟨a,rfl,h⟩
 .exact⟨F,ao,s,h⟩
 .cases x<;>try exact h.elim
  .rename_i xs
   obtain⟨vs,h1,h2⟩:=h
   cases e:F a with
   |none=>
    refine⟨upd F a (.lst vs),az e,λb o q=>?_,.lst am (h2.mono (az e))⟩
    by_cases z:b=a
    .subst z;rw[am]at q;cases q;exact h1
    .rw[aj z]at q;exact s b o q
   |some o=>
    have:=s a o e
    rw[h1]at this;cases this
    exact⟨F,ao,s,.lst e h2⟩
  .rename_i xs
   obtain⟨vs,h1,h2⟩:=h
   cases e:F a with
   |none=>
    refine⟨upd F a (.dK vs),az e,λb o q=>?_,.BJ am (h2.mono (az e))⟩
    by_cases z:b=a
    .subst z;rw[am]at q;cases q;exact h1
    .rw[aj z]at q;exact s b o q
   |some o=>
    have:=s a o e
    rw[h1]at this;cases this
    exact⟨F,ao,s,.BJ e h2⟩
  .exact absurd rfl (hx _)
def Ou(K:aah):R2:=λv u H Q=>∃F x y k,eQ F H/\Rep K F v x/\Rep K F u y/\B4 60 x y=some k/\Q (.bl k) H
theorem aH(hu:X.A.units+60<cLine):BL X (aaX .Eq) (Ou X.K):=by
 intro pins s σ H x y v u Q I rx ry h
 obtain⟨F,p,q,k,sF,r1,r2,e,hq⟩:=h
 exact(M9 I sF (A:=X.A) hu r1 r2 rx ry e).1 X.prog X.w X.xe _ ⟨.bl k,H,I,rfl,hq⟩
theorem aG:Es ob X (Ou X.K) AN:=by
 refine bV (P:=λ_ _ _ _=>True) λF H v u x y z sF rx ry hz=>?_
 unfold AN at hz
 rw[aaA]at hz
 obtain⟨k,hk,rfl⟩:=hz
 have nx:∀xs,x≠.set xs:=λxs e=>by subst e;cases y<;>cases hk
 have ny:∀xs,y≠.set xs:=λxs e=>by subst e;cases x<;>cases hk
 obtain⟨F1,s1,s2,r1⟩:=rx.Dy sF nx
 have Vd:Vw (md ob X) F1 H u y:=by
  rcases ry with r|⟨a,e,r⟩
  .exact .inl (r.mono s1)
  .exact .inr ⟨a,e,r.mono s1 rfl⟩
 obtain⟨F2,s3,s4,r2⟩:=Vd.Dy s2 ny
 exact⟨_,λ_=>.bl _,λQ q=>⟨F2,x,y,k,s4,r1.mono s3,r2,hk,q⟩⟩
def toV:PV->Option V
 |.AF=>some .AF
 |.bl b=>some (.bl b)
 |.int i=>some (.int i)
 |.str s=>some (.str s)
 |_=>none
theorem sM{w:V}(h:Vw M F H v x)(e:toV x=some w):v=w:=by
 cases x<;>cases e
 .exact h.AF
 .exact h.bl
 .exact h.int
 .exact h.str
def DD:PV->PV->Option PV
 |.lst xs,.lst []=>some (.bl (!xs.isEmpty))
 |x,y=>(toV x).bind λv=>(toV y).bind λu=>if Kt v u=true then some (.bl (!decide (v=u)))else none
theorem cF:Es ob X (λx y H Q=>Rz x y H Q\/Ga X.K x y H Q) DD:=by
 refine bV (P:=λ_ _ _ _=>True) λF H v u x y z sF rx ry hz=>?_
 unfold DD at hz
 split at hz
 .cases hz
  rename_i xs
  obtain⟨p,vs,rfl,h1,h2⟩:=rx.lst sF
  obtain⟨q,ws,rfl,g1,g2⟩:=ry.lst sF
  cases g2
  refine⟨_,λ_=>.bl _,λQ hq=>.inr ⟨p,q,vs,rfl,rfl,.inl (.inl h1),.inl (.inl g1),?_⟩⟩
  have:vs.isEmpty=xs.isEmpty:=by have:=h2.len;cases vs<;>cases xs<;>simp at this ⊢
  rw[this];exact hq
 .cases e1:toV x with
  |none=>rw[e1]at hz;cases hz
  |some v'=>
   cases e2:toV y with
   |none=>rw[e1,e2]at hz;cases hz
   |some u'=>
    rw[e1,e2]at hz
    have hz:(if Kt v' u'=true then some (PV.bl (!decide (v'=u')))else none)=some z:=hz
    split at hz
    .rename_i hs
     cases hz
     rw[sM rx e1,sM ry e2]
     exact⟨_,λ_=>.bl _,λQ q=>.inl ⟨hs,q⟩⟩
    .cases hz
theorem dJ(hu:X.A.units<cLine):BL X (aaX .NotEq) (λx y H Q=>Rz x y H Q\/Ga X.K x y H Q):=BL.or Ao (kI hu)
theorem Inv.Qn(I:Inv X pins σ H s){a:Addr}{o:Obj}(h:X.K.lookup a=some o):H a=none:=(I.bs a o (I.mod.kin a o h)).2
theorem pP(I:Inv X pins σ H s){a:Addr}{kvs:List (Key×V)}{vs:List V}(h1:H a=some (.dK kvs))(h2:Cd X.K H a vs):False:=by
 obtain⟨_,_,_,_,o,_,_,e,ex,_⟩:=I.AU a _ h1
 obtain⟨_,_,⟨o',e',c',_⟩,_⟩:=I.tuple h2
 rw[e]at e';cases e';rw[ex.1]at c';injection c' with c';exact absurd c' (by decide)
theorem jZ:∀{ns ms:List Int},ns.map V.int=ms.map V.int->ns=ms
 |[],[],_=>rfl
 |n::ns,m::ms,h=>by
  rw[aan,aan]at h
  injection h with h1 h2
  injection h1 with h1
  rw[h1,jZ h2]
 |[],_::_,h=>by simp at h
 |_::_,[],h=>by simp at h
variable{y:PV}
theorem Rep.inj(I:Inv X pins σ H s)(sF:eQ F H)(h:Rep X.K F v x)(h':Rep X.K F v y):x=y:=by
 refine Rep.rec (K:=X.K) (F:=F) (motive_1:=λv x _=>∀y,Rep X.K F v y->x=y) (motive_2:=λvs xs _=>∀ys,AJ X.K F vs ys->xs=ys) (motive_3:=λvs xs _=>∀ys,AL X.K F vs ys->xs=ys)
  ?_ ?_ ?_ ?_ ?_ ?_ ?_ ?_ ?_ ?_ ?_ ?_ h y h'
 .intro y h;cases h;rfl
 .intro b y h;cases h;rfl
 .intro b y h;cases h;rfl
 .intro b y h;cases h;rfl
 .intro a vs xs h1 _ ih y h
  cases h with
  |tup h2 r2=>
   have:=I.CS (aw sF h1) (aw sF h2)
   subst this
   rw[ih _ r2]
  |lst h2 r2=>exact(dC I (.inl (.inl (sF _ _ h2))) (aw sF h1)).elim
  |BJ h2 r2=>exact(pP I (sF _ _ h2) (aw sF h1)).elim
  |C2 h2=>exact(dC I (eO sF h2.sq) (aw sF h1)).elim
 .intro a vs xs h1 _ ih y h
  cases h with
  |tup h2 r2=>exact(dC I (.inl (.inl (sF _ _ h1))) (aw sF h2)).elim
  |lst h2 r2=>rw[h1]at h2;cases h2;rw[ih _ r2]
  |BJ h2 r2=>rw[h1]at h2;cases h2
  |C2 h2=>
   rcases h2 with ⟨o,h2⟩|⟨o,_,_,h2,_⟩
   .rw[h1]at h2;cases h2
   .have:=sF _ _ h1;rw[Inv.Qn I h2]at this;cases this
 .intro a vs xs h1 _ ih y h
  cases h with
  |tup h2 r2=>exact(pP I (sF _ _ h1) (aw sF h2)).elim
  |lst h2 r2=>rw[h1]at h2;cases h2
  |BJ h2 r2=>rw[h1]at h2;cases h2;rw[ih _ r2]
  |C2 h2=>
   rcases h2 with ⟨o,h2⟩|⟨o,_,_,h2,_⟩
   .rw[h1]at h2;cases h2
   .have:=sF _ _ h1;rw[Inv.Qn I h2]at this;cases this
 .intro a ns h1 y h
  cases h with
  |tup h2 r2=>exact(dC I (eO sF h1.sq) (aw sF h2)).elim
  |lst h2 r2=>
   rcases h1 with ⟨o,h1⟩|⟨o,_,_,h1,_⟩
   .rw[h1]at h2;cases h2
   .have:=sF _ _ h2;rw[Inv.Qn I h1]at this;cases this
  |BJ h2 r2=>
   rcases h1 with ⟨o,h1⟩|⟨o,_,_,h1,_⟩
   .rw[h1]at h2;cases h2
   .have:=sF _ _ h2;rw[Inv.Qn I h1]at this;cases this
  |C2 h2=>rw[jZ (I.GG (eO sF h1.sq) (eO sF h2.sq))]
 .intro ys h;cases h;rfl
 .intro v x vs xs _ _ OW OV ys h
  cases h with
  |cons h r=>rw[OW _ h,OV _ r]
 .intro ys h;cases h;rfl
 .intro k v x vs xs _ _ OW OV ys h
  cases h with
  |cons h r=>rw[OW _ h,OV _ r]
variable{A:Around}
theorem jH(I:Inv X pins σ H s)(sF:eQ F H){d:Nat}{vs:List V}{us:List Value}{xs:List PV}{u:Value}{ks:List Bool}(hu:A.units+d<cLine)(rv:AM vs us)(r:AJ X.K F vs xs)(rx:Rep X.K F v x)(ru:RelV v u)
  (hk:xs.mapM (λy=>B4 d y x)=some ks):∃e:Value->Bool,(∀y,y∈us->SeqAt.EqAt A s y u (e y))/\us.any e=ks.any id/\us.countP e=ks.countP id/\(∀(i:Nat) (w:Value),us[i]?=some w->ks[i]?=some (e w)):=by
 obtain⟨hl,hb⟩:=bA hk
 have l1:=rv.length
 have l2:=r.len
 have key:∀(i:Nat) (w:Value),us[i]?=some w->∃b y z,xs[i]?=some y/\vs[i]?=some z/\RelV z w/\Rep X.K F z y/\B4 d y x=some b/\ks[i]?=some b:=λi w hw=>by
  obtain⟨z,e1,e2⟩:=AM.IE rv hw
  obtain⟨y,e3,e4⟩:=r.IE e1
  obtain⟨b,e5,e6⟩:=hb i y e3
  exact⟨b,y,z,e3,e1,e2,e4,e6,e5⟩
 let e:Value->Bool:=λw=>(us.zip ks).any λp=>p.1==w && p.2
 have four:∀(i:Nat) (w:Value),us[i]?=some w->ks[i]?=some (e w):=by
  intro i w hw
  obtain⟨b,y,z,e1,e2,e3,e4,e5,e6⟩:=key i w hw
  rw[e6]
  congr 1
  rw[abe,afj]
  constructor
  .intro Hu
   refine⟨(w,b),abk (i:=i) (by rw[aaY];exact⟨hw,e6⟩),by simp[Hu]⟩
  .rintro⟨⟨w',b'⟩,hm,hp⟩
   simp only[aaE]at hp
   obtain⟨j,hj,ej⟩:=List.mem_iff_getElem.mp hm
   have hz:=aab hj
   rw[ej,aaY]at hz
   obtain⟨NA,OZ⟩:=hz
   have Vy:w'=w:=eq_of_beq hp.1
   dsimp only at NA OZ
   rw[Vy]at NA
   obtain⟨b2,y2,z2,f1,f2,f3,f4,f5,f6⟩:=key j w NA
   have:z=z2:=e3.inj f3
   subst this
   have:=Rep.inj I sF e4 f4
   subst this
   rw[e5]at f5;cases f5
   rw[OZ]at f6;cases f6
   exact hp.2
 have O8:ks=us.map e:=by
  refine acg λi=>?_
  rw[aaj]
  cases q:us[i]? with
  |none=>
   have:us.length<=i:=List.getElem?_eq_none_iff.mp q
   rw[aao (by omega)];rfl
  |some w=>rw[four i w q];rfl
 refine⟨e,λy hy=>?_,?_,?_,four⟩
 .obtain⟨i,hi,rfl⟩:=List.mem_iff_getElem.mp hy
  have hw:=aab hi
  obtain⟨b,y,z,e1,e2,e3,e4,e5,e6⟩:=key i _ hw
  have:=four i _ hw
  rw[e6]at this
  rw[<- aap this]
  exact(M9 I sF (A:=A) hu e4 rx e3 ru e5).2
 .rw[O8,List.any_map];rfl
 .rw[O8,List.countP_map];rfl
def J8(x:PV):PV->Option Bool
 |.tup ys=>(ys.mapM λy=>B4 60 y x).map λks=>ks.any id
 |.lst ys=>(ys.mapM λy=>B4 60 y x).map λks=>ks.any id
 |.BJ kvs=>(DZ x).map λk=>(BY kvs k).isSome
 |.str s=>match x with
  |.str t=>some (!(acZ s t 0 s.length 1).isEmpty)
  |_=>none
 |.set S=>match x with
  |.str t=>some (decide (t∈S))
  |_=>none
 |_=>none
def Jz:PV->Bool
 |.set _=>false
 |_=>true
theorem pj(h:Jz x=true):∀xs,x≠.set xs:=λxs e=>by subst e;cases h
def C0(x y:PV):Option PV:=if Jz x=true then (J8 x y).map .bl else none
def BH(x y:PV):Option PV:=if Jz x=true then (J8 x y).map λb=>.bl (!b)else none
def Im(P:aaJ)(w:World)(K:aah)(neg:Bool):R2:=λv u H Q=>∃(F:Hp) (x:PV) (b:Bool),eQ F H/\Q (.bl (if neg then !b else b)) H /\
 ((∃p vs ys ks,u=.ref p/\(Cm K H p vs\/Cd K H p vs)/\AJ K F vs ys/\Rep K F v x/\ys.mapM (λy=>B4 60 y x)=some ks/\b=ks.any id) \/
  (∃p o,u=.ref p/\G1 H p v o/\b=o.isSome)\/(∃i j,v=.str i/\u=.str j/\b=!(acZ j i 0 j.length 1).isEmpty) \/
  (∃z a S n,v=.str z/\u=.ref a/\H a=some (EY P w a S n)/\b=S z))
theorem bK(hu:X.A.units+62<cLine):BL X (aaX .In) (Im X.prog X.w X.K false):=by
 intro pins s σ H v u v' u' Q I rv ru h
 obtain⟨F,x,b,sF,q,h⟩:=h
 have q:Q (.bl b) H:=q
 rcases h with ⟨p,vs,ys,ks,rfl,hs,hr,hx,hk,rfl⟩|⟨p,o,rfl,hd,rfl⟩|⟨i,j,rfl,rfl,rfl⟩|⟨z,a,S,n,rfl,rfl,ha,rfl⟩
 .cases ru
  rcases hs with hs|hs
  .obtain⟨iN,r,pl,_⟩:=I.list hs
   obtain⟨e,e1,e2,_⟩:=jH I sF (A:=X.A.in1) (d:=60) (by show X.A.units+1+60<cLine;omega) r hr hx rv hk
   refine SeqAt.in_listAt e pl.isList (λy hy=>e1 y (by simpa using hy)) ⟨.bl _,H,I,rfl,?_⟩
   rw[show iN.toArray.any e=iN.any e by simp,e2];exact q
  .obtain⟨iN,r,pl,_⟩:=I.tuple hs
   obtain⟨e,e1,e2,_⟩:=jH I sF (A:=X.A.in1) (d:=60) (by show X.A.units+1+60<cLine;omega) r hr hx rv hk
   refine SeqAt.in_tupleAt e pl (λy hy=>e1 y (by simpa using hy)) ⟨.bl _,H,I,rfl,?_⟩
   rw[show iN.toArray.any e=iN.any e by simp,e2];exact q
 .cases ru
  exact AB (by omega) I hd rv λs3 I3=>⟨.bl _,H,I3,rfl,q⟩
 .exact tJ pins s σ H _ _ _ _ Q I rv ru ⟨i,j,rfl,rfl,q⟩
 .cases ru
  obtain⟨t,rfl⟩:=rv
  obtain⟨x,_,_⟩:=I.AU a _ ha
  exact wpAny_inSet_of (knd:=acV X.prog X.w) (aeh _ _ _ _) rfl x ⟨.bl (S z),H,I.tok _,rfl,q⟩
theorem bq(hu:X.A.units+62<cLine):BL X (aaX .NotIn) (Im X.prog X.w X.K true):=by
 intro pins s σ H v u v' u' Q I rv ru h
 obtain⟨F,x,b,sF,q,h⟩:=h
 have q:Q (.bl (!b)) H:=q
 rcases h with ⟨p,vs,ys,ks,rfl,hs,hr,hx,hk,rfl⟩|⟨p,o,rfl,hd,rfl⟩|⟨i,j,rfl,rfl,rfl⟩|⟨z,a,S,n,rfl,rfl,ha,rfl⟩
 .cases ru
  rcases hs with hs|hs
  .obtain⟨iN,r,pl,_⟩:=I.list hs
   obtain⟨e,e1,e2,_⟩:=jH I sF (A:=X.A.in1) (d:=60) (by show X.A.units+1+60<cLine;omega) r hr hx rv hk
   refine SeqAt.notIn_listAt e pl.isList (λy hy=>e1 y (by simpa using hy)) ⟨.bl _,H,I,rfl,?_⟩
   rw[show iN.toArray.any e=iN.any e by simp,e2];exact q
  .obtain⟨iN,r,pl,_⟩:=I.tuple hs
   obtain⟨e,e1,e2,_⟩:=jH I sF (A:=X.A.in1) (d:=60) (by show X.A.units+1+60<cLine;omega) r hr hx rv hk
   refine SeqAt.notIn_tupleAt e pl (λy hy=>e1 y (by simpa using hy)) ⟨.bl _,H,I,rfl,?_⟩
   rw[show iN.toArray.any e=iN.any e by simp,e2];exact q
 .cases ru
  exact yo (by omega) I hd rv λs3 I3=>⟨.bl _,H,I3,rfl,q⟩
 .exact pf pins s σ H _ _ _ _ Q I rv ru ⟨i,j,rfl,rfl,q⟩
 .exact tG pins s σ H _ _ _ _ Q I rv ru ⟨z,a,S,n,rfl,rfl,ha,q⟩
theorem ua{u:V}{b neg:Bool}(sF:eQ F H)(nx:∀xs,x≠.set xs)(rx:Vw (md ob X) F H v x)(ry:Vw (md ob X) F H u y)(hz:J8 x y=some b)(Q:VK)(q:Q (.bl (if neg then !b else b)) H):Im X.prog X.w X.K neg v u H Q:=by
 unfold J8 at hz
 have seq:∀{p:Addr} {vs:List V} {ys:List PV},u=.ref p->(Cm X.K H p vs\/Cd X.K H p vs)->AJ X.K F vs ys->((ys.mapM λy=>B4 60 y x).map λks=>ks.any id)=some b->Im X.prog X.w X.K neg v u H Q:=λ{p vs ys} hp hs hr hz=>by
  rw[aaA]at hz
  obtain⟨ks,hk,e⟩:=hz
  obtain⟨F1,s1,s2,r1⟩:=rx.Dy sF nx
  exact⟨F1,x,b,s2,q,.inl ⟨p,vs,ys,ks,hp,hs,hr.mono s1,r1,hk,e.symm⟩⟩
 split at hz
 .obtain⟨p,vs,e,h1,h2⟩:=ry.tup sF
  exact seq e (.inr h1) h2 hz
 .obtain⟨p,vs,e,h1,h2⟩:=ry.lst sF
  exact seq e (.inl (.inl (.inl h1))) h2 hz
 .obtain⟨p,vs,e,h1,h2⟩:=ry.BJ sF
  rw[aaA]at hz
  obtain⟨k,hk,rfl⟩:=hz
  have hv:=Ld rx hk
  subst hv
  refine⟨F,.AF,_,sF,q,.inr (.inl ⟨p,C3 vs k,e,RQ h1,?_⟩)⟩
  rcases h2.val (k:=k)with ⟨e1,e2⟩|⟨w,w',e1,e2,_⟩
  .rw[e1,e2];rfl
  .rw[e1,e2];rfl
 .split at hz
  .cases hz
   exact⟨F,.AF,_,sF,q,.inr (.inr (.inl ⟨_,_,rx.str,ry.str,rfl⟩))⟩
  .cases hz
 .split at hz
  .cases hz
   rcases ry with r|⟨p,rfl,r⟩
   .cases r
   .exact⟨F,.AF,_,sF,q,.inr (.inr (.inr ⟨_,p,_,_,rx.str,rfl,r,rfl⟩))⟩
  .cases hz
 .cases hz
theorem bJ:Es ob X (Im X.prog X.w X.K false) C0:=by
 refine bV (P:=λ_ _ _ _=>True) λF H v u x y z sF rx ry hz=>?_
 unfold C0 at hz
 split at hz
 case isFalse=>cases hz
 rename_i nx
 rw[aaA]at hz
 obtain⟨b,hb,rfl⟩:=hz
 exact⟨_,λ_=>.bl _,λQ q=>ua sF (pj nx) rx ry hb Q q⟩
theorem bp:Es ob X (Im X.prog X.w X.K true) BH:=by
 refine bV (P:=λ_ _ _ _=>True) λF H v u x y z sF rx ry hz=>?_
 unfold BH at hz
 split at hz
 case isFalse=>cases hz
 rename_i nx
 rw[aaA]at hz
 obtain⟨b,hb,rfl⟩:=hz
 exact⟨_,λ_=>.bl _,λQ q=>ua sF (pj nx) rx ry hb Q q⟩
inductive IL (M:Md) (F H:Hp):List V->List PV->Prop where
 |nil:IL M F H [] []
 |cons {v:V} {x:PV} {vs:List V} {xs:List PV}:Vw M F H v x->IL M F H vs xs->IL M F H (v::vs) (x::xs)
theorem AJ.U0{vs:List V}{xs:List PV}(h:AJ M.K F vs xs):IL M F H vs xs:=by
 induction h using AJ.ind with
 |nil=>exact .nil
 |cons a _ ih=>exact .cons (.inl a) ih
theorem IL.one{vs:List V}(h:IL M F H vs [x]):∃v,vs=[v]/\Vw M F H v x:=by
 cases h with
 |cons a r=>cases r;exact⟨_,rfl,a⟩
theorem IL.two{vs:List V}(h:IL M F H vs [x,y]):∃v u,vs=[v,u]/\Vw M F H v x/\Vw M F H u y:=by
 cases h with
 |cons a r=>
  cases r with
  |cons b r=>cases r;exact⟨_,_,rfl,a,b⟩
structure FL(ob:Cy)(X:Cx)(es:List Expr)(f:WA):Prop where
 ex:∃t:TA,PA X es t/\∀(Z:Zn) (F:Hp) (σ:L2.St) (H:Hp) (env:En) (P:List PV->En->Prop) (Q:List V->Hp->Prop),AI (md ob X) Z F σ H env->f env P ->
  (∀xs dO vs F' H',P xs dO->eQ F F'->AI (md ob X) Z F' σ H' dO->IL (md ob X) F' H' vs xs->Q vs H')->t σ H Q
def a1(a:WE):WA:=λenv P=>a env λx e=>P [x] e
def BR(o:List PV->Option PV)(fa:WA):WE:=λenv P=>fa env λxs e=>opt (o xs) λz=>P z e
variable{es:List Expr}{fa:WA}{x:Str}{Lr T:String}{r:List V->Hp->VK->Prop}{o:List PV->Option PV}
theorem Di(h:G0 ob X es fa):FL ob X es fa:=by
 obtain⟨t,ht,k⟩:=h.ex
 exact⟨t,ht,λZ F σ H env P Q K hf kk=>k Z F σ H env P Q K hf λxs e1 vs F1 H1 p _ s1 K1 r1=>kk xs e1 vs F1 H1 p s1 K1 r1.U0⟩
theorem bn(h:Fp ob X e f)(hs:aam [e] X.env=(false,eval e X.env)::aam [] X.env:=by rfl):FL ob X [e] (a1 f):=by
 obtain⟨t,ht,k⟩:=h.ex
 exact⟨_,bh ht bv hs,λZ F σ H env P Q K hf kk=>k Z F σ H env _ _ K hf λx e1 v F1 H1 p s1 K1 r1=>kk [x] e1 [v] F1 H1 p s1 K1 (.cons r1 .nil)⟩
def D6(ob:Cy)(X:Cx)(r:List V->Hp->VK->Prop)(o:List PV->Option PV):Prop :=
 ∀(Z:Zn) (F:Hp) (σ:L2.St) (H:Hp) (env:En) (vs:List V) (xs:List PV) (z:PV) (Q:VK),AI (md ob X) Z F σ H env->IL (md ob X) F H vs xs->o xs=some z ->
  (∀v' F' H',eQ F F'->AI (md ob X) Z F' σ H' env->Rep X.K F' v' z->Q v' H')->r vs H Q
def HI(ob:Cy)(X:Cx)(r:List V->Hp->VK->Prop)(o:List PV->Option PV):Prop :=
 ∀(Z:Zn) (F:Hp) (σ:L2.St) (H:Hp) (env:En) (vs:List V) (xs:List PV) (z:PV) (Q:VK),AI (md ob X) Z F σ H env->IL (md ob X) F H vs xs->o xs=some z ->
  (∀v' H',(∀xs,z≠.set xs)->AI (md ob X) Z F (σ++[some v']) H' (env++[some ⟨1,z⟩])->Q v' H')->r vs H Q
theorem sW{t:TA}(hq:D6 ob X r o)(k:∀(Z:Zn) (F:Hp) (σ:L2.St) (H:Hp) (env:En) (P:List PV->En->Prop) (Q:List V->Hp->Prop),AI (md ob X) Z F σ H env->fa env P->(∀xs dO vs F' H',P xs dO->eQ F F'->AI (md ob X) Z F' σ H' dO->IL (md ob X) F' H' vs xs->Q vs H')->t σ H Q):
  ∀(Z:Zn) (F:Hp) (σ:L2.St) (H:Hp) (env:En) (P:PV->En->Prop) (Q:VK),AI (md ob X) Z F σ H env->BR o fa env P->(∀x dO v F' H',P x dO->eQ F F'->AI (md ob X) Z F' σ H' dO->Rep X.K F' v x->Q v H')->N9 r t σ H Q:=by
 intro Z F σ H env P Q K hf kk
 refine k Z F σ H env _ _ K hf λxs e1 vs F1 H1 p s1 K1 r1=>?_
 obtain⟨z,hz,p⟩:=p
 exact hq Z F1 σ H1 e1 vs xs z Q K1 r1 hz λv' F' H' s2 K2 r2=>kk z e1 v' F' H' p (ak s1 s2) K2 r2
theorem xk{t:TA}(hq:HI ob X r o)(k:∀(Z:Zn) (F:Hp) (σ:L2.St) (H:Hp) (env:En) (P:List PV->En->Prop) (Q:List V->Hp->Prop),AI (md ob X) Z F σ H env->fa env P->(∀xs dO vs F' H',P xs dO->eQ F F'->AI (md ob X) Z F' σ H' dO->IL (md ob X) F' H' vs xs->Q vs H')->t σ H Q):
  ∀(Z:Zn) (F:Hp) (σ:L2.St) (H:Hp) (env:En) (P:PV->En->Prop) (Q:VK),AI (md ob X) Z F σ H env->BR o fa env P->(∀x dO v F' H',P x dO->eQ F F'->(∀xs,x≠.set xs)->AI (md ob X) Z F' (σ++[some v]) H' (dO++[some ⟨1,x⟩])->Q v H')->N9 r t σ H Q:=by
 intro Z F σ H env P Q K hf kk
 refine k Z F σ H env _ _ K hf λxs e1 vs F1 H1 p s1 K1 r1=>?_
 obtain⟨z,hz,p⟩:=p
 exact hq Z F1 σ H1 e1 vs xs z Q K1 r1 hz λv' H' hx K2=>kk z e1 v' F1 H' p s1 hx K2
theorem aQ(hc:AR X (.builtin Lr) r)(hq:D6 ob X r o)(hg:Gl X x)(hm:X.mg x=none)(hv:ab6 x=some (.builtin Lr))(ha:FL ob X (e::es) fa)(hn:x ≠ "__name__" :=by decide)(DP:(x==("__debug__" : Str))=false:=by decide)
  (he:aam (e::es) X.env=(false,eval e X.env)::aam es X.env:=by rfl) (B8:(backTo pos (aam es X.env)).any (·.1)=false:=by rfl):Bk ob X (.Call (.Name x p) (e::es) [] pos) (BR o fa):=by
 obtain⟨t,ht,k⟩:=ha.ex
 exact⟨_,bN hc hg hm hv ht hn DP he B8,sW hq k⟩
theorem bZ(hc:AR X (.type T) r)(hq:D6 ob X r o)(hg:Gl X x)(hm:X.mg x=none)(hv:ab6 x=some (.type T))(ha:FL ob X (e::es) fa)(hn:x ≠ "__name__" :=by decide)(DP:(x==("__debug__" : Str))=false:=by decide)
  (he:aam (e::es) X.env=(false,eval e X.env)::aam es X.env:=by rfl) (B8:(backTo pos (aam es X.env)).any (·.1)=false:=by rfl):Bk ob X (.Call (.Name x p) (e::es) [] pos) (BR o fa):=by
 obtain⟨t,ht,k⟩:=ha.ex
 exact⟨_,i7 hc hg hm hv ht hn DP he B8,sW hq k⟩
theorem uC(hc:AR X (.type T) r)(hq:HI ob X r o)(hg:Gl X x)(hm:X.mg x=none)(hv:ab6 x=some (.type T))(ha:FL ob X (e::es) fa)(hn:x ≠ "__name__" :=by decide)(DP:(x==("__debug__" : Str))=false:=by decide)
  (he:aam (e::es) X.env=(false,eval e X.env)::aam es X.env:=by rfl) (B8:(backTo pos (aam es X.env)).any (·.1)=false:=by rfl):IQ ob X (.Call (.Name x p) (e::es) [] pos) (BR o fa):=by
 obtain⟨t,ht,k⟩:=ha.ex
 exact⟨_,i7 hc hg hm hv ht hn DP he B8,xk hq k⟩
variable{ns:List Int}
theorem Vw.C2(h:Vw M F H v (.C2 ns))(s:eQ F H):∃a,v=.ref a/\Cm M.K H a (ns.map V.int):=by
 rcases h with h|⟨a,rfl,h⟩
 .cases h with
  |C2 h=>exact⟨_,rfl,eO s h.sq⟩
 .exact h.elim
def Bn:List PV->Option PV
 |[.lst xs]=>some (.int xs.length)
 |[.tup xs]=>some (.int xs.length)
 |[.BJ xs]=>some (.int xs.length)
 |[.str s]=>if s.length<=100000 then some (.int s.length)else none
 |[.C2 ns]=>some (.int ns.length)
 |_=>none
def Oj(K:aah):List V->Hp->VK->Prop:=λxs H Q=>(∃p ys,xs=[.ref p]/\(Cm K H p ys\/Cd K H p ys)/\Q (.int ys.length) H)\/((∃z,xs=[.str z]/\z.length<=sizeLine/\Q (.int z.length) H)\/∃a kvs,xs=[V.ref a]/\H a=some (.dK kvs)/\Q (.int kvs.length) H)
theorem aU:AR X (.builtin "len") (Oj X.K):=AR.or jm (AR.or pW uP)
theorem aV:D6 ob X (Oj X.K) Bn:=by
 intro Z F σ H env vs xs z Q K rv hz k
 unfold Bn at hz
 split at hz
 .cases hz
  obtain⟨v,rfl,r⟩:=rv.one
  obtain⟨p,vs,rfl,h1,h2⟩:=r.lst K.sF
  exact .inl ⟨p,vs,rfl,.inl (.inl (.inl h1)),k _ F H ao K (by rw[h2.len];exact .int _)⟩
 .cases hz
  obtain⟨v,rfl,r⟩:=rv.one
  obtain⟨p,vs,rfl,h1,h2⟩:=r.tup K.sF
  exact .inl ⟨p,vs,rfl,.inr h1,k _ F H ao K (by rw[h2.len];exact .int _)⟩
 .cases hz
  obtain⟨v,rfl,r⟩:=rv.one
  obtain⟨p,vs,rfl,h1,h2⟩:=r.BJ K.sF
  exact .inr (.inr ⟨p,vs,rfl,h1,k _ F H ao K (by rw[h2.len];exact .int _)⟩)
 .split at hz
  .cases hz
   obtain⟨v,rfl,r⟩:=rv.one
   rw[r.str]
   exact .inr (.inl ⟨_,rfl,by rw[aaC];omega,k _ F H ao K (.int _)⟩)
  .cases hz
 .cases hz
  obtain⟨v,rfl,r⟩:=rv.one
  obtain⟨p,rfl,h1⟩:=r.C2 K.sF
  exact .inl ⟨p,_,rfl,.inl h1,k _ F H ao K (by rw[aac];exact .int _)⟩
 .cases hz
def aZ:List PV->Option PV
 |[.lst xs]=>some (.tup xs)
 |[.tup xs]=>some (.tup xs)
 |_=>none
def Jw(K:aah):List V->Hp->VK->Prop:=λxs H Q=>∃p ys,xs=[.ref p]/\((Cm K H p ys/\∀l,H l=none->Q (.ref l) (upd H l (.tup ys)))\/(Cd K H p ys/\Q (.ref p) H))
theorem aX:AR X (.type "tuple") (Jw X.K):=og
theorem aY:D6 ob X (Jw X.K) aZ:=by
 intro Z F σ H env vs xs z Q K rv hz k
 unfold aZ at hz
 split at hz
 .cases hz
  obtain⟨v,rfl,r⟩:=rv.one
  obtain⟨p,vs,rfl,h1,h2⟩:=r.lst K.sF
  refine⟨p,vs,rfl,.inl ⟨.inl (.inl h1),λl hl=>?_⟩⟩
  have hF:F l=none:=eQ.none_of K.sF hl
  exact k _ _ _ (az hF) (K.lay hl) (.tup (.inl (.inl am)) (h2.mono (az hF)))
 .cases hz
  obtain⟨v,rfl,r⟩:=rv.one
  have r':=r.Jm
  obtain⟨p,vs,rfl,h1,h2⟩:=r.tup K.sF
  exact⟨p,vs,rfl,.inr ⟨h1,k _ F H ao K r'⟩⟩
 .cases hz
def Gc:List PV->Option PV
 |[.lst xs]=>some (.lst xs)
 |[.tup xs]=>some (.lst xs)
 |[.C2 ns]=>some (.lst (ns.map .int))
 |_=>none
def Ll(K:aah):List V->Hp->VK->Prop:=λxs H Q=>∃p ys,xs=[.ref p]/\(Cm K H p ys\/Cd K H p ys)/\∀l,H l=none->Q (.ref l) (upd H l (.lst ys))
theorem rA:AR X (.type "list") (Ll X.K):=pV
theorem fV:∀(ns:List Int),AJ K F (ns.map V.int) (ns.map PV.int)
 |[]=>.nil
 |n::ns=>.cons (.int n) (fV ns)
theorem rB:HI ob X (Ll X.K) Gc:=by
 intro Z F σ H env vs xs z Q K rv hz k
 unfold Gc at hz
 split at hz
 .cases hz
  obtain⟨v,rfl,r⟩:=rv.one
  obtain⟨p,vs,rfl,h1,h2⟩:=r.lst K.sF
  exact⟨p,vs,rfl,.inl (.inl (.inl h1)),λl hl=>k _ _ (λ_=>by simp) (K.own hl ⟨vs,am,h2⟩)⟩
 .cases hz
  obtain⟨v,rfl,r⟩:=rv.one
  obtain⟨p,vs,rfl,h1,h2⟩:=r.tup K.sF
  exact⟨p,vs,rfl,.inr h1,λl hl=>k _ _ (λ_=>by simp) (K.own hl ⟨vs,am,h2⟩)⟩
 .cases hz
  obtain⟨v,rfl,r⟩:=rv.one
  obtain⟨p,rfl,h1⟩:=r.C2 K.sF
  exact⟨p,_,rfl,.inl h1,λl hl=>k _ _ (λ_=>by simp) (K.own hl ⟨_,am,fV _⟩)⟩
 .cases hz
def JB:List PV->Option PV
 |[.int i,.int j]=>some (.int (if j<i then j else i))
 |[.str s,.str t]=>some (.str (Cp s t))
 |_=>none
def GF:List PV->Option PV
 |[.int i,.int j]=>some (.int (if j > i then j else i))
 |[.str s,.str t]=>some (.str (EF s t))
 |_=>none
theorem Aa(hc:X.calm=true):AR X (.builtin "min") (λxs H Q=>(∃i j,xs=[.int i,.int j]/\Q (.int (if j<i then j else i)) H)\/∃x y,xs=[.str x,.str y]/\Q (.str (Cp x y)) H):=AR.or (uN hc) (sA hc)
theorem uK(hc:X.calm=true):AR X (.builtin "max") (λxs H Q=>(∃i j,xs=[.int i,.int j]/\Q (.int (if j > i then j else i)) H)\/∃x y,xs=[.str x,.str y]/\Q (.str (EF x y)) H):=AR.or (uO hc) (sB hc)
theorem Ac:D6 ob X (λxs H Q=>(∃i j,xs=[.int i,.int j]/\Q (.int (if j<i then j else i)) H)\/∃x y,xs=[.str x,.str y]/\Q (.str (Cp x y)) H) JB:=by
 intro Z F σ H env vs xs z Q K rv hz k
 unfold JB at hz
 split at hz
 .cases hz
  obtain⟨v,u,rfl,r1,r2⟩:=rv.two
  rw[r1.int,r2.int]
  exact .inl ⟨_,_,rfl,k _ F H ao K (.int _)⟩
 .cases hz
  obtain⟨v,u,rfl,r1,r2⟩:=rv.two
  rw[r1.str,r2.str]
  exact .inr ⟨_,_,rfl,k _ F H ao K (.str _)⟩
 .cases hz
theorem uL:D6 ob X (λxs H Q=>(∃i j,xs=[.int i,.int j]/\Q (.int (if j > i then j else i)) H)\/∃x y,xs=[.str x,.str y]/\Q (.str (EF x y)) H) GF:=by
 intro Z F σ H env vs xs z Q K rv hz k
 unfold GF at hz
 split at hz
 .cases hz
  obtain⟨v,u,rfl,r1,r2⟩:=rv.two
  rw[r1.int,r2.int]
  exact .inl ⟨_,_,rfl,k _ F H ao K (.int _)⟩
 .cases hz
  obtain⟨v,u,rfl,r1,r2⟩:=rv.two
  rw[r1.str,r2.str]
  exact .inr ⟨_,_,rfl,k _ F H ao K (.str _)⟩
 .cases hz
def JD:PV->Option Int
 |.int i=>some i
 |_=>none
def CC:PV->Option Str
 |.str i=>some i
 |_=>none
theorem cR{g:PV->Option α}{w:α->V}(hg:∀x a,g x=some a->∀v,Rep K F v x->v=w a):∀{xs:List PV} {as:List α} {vs:List V},xs.mapM g=some as->AJ K F vs xs->vs=as.map w
 |[],as,vs,h,r=>by simp at h;subst h;cases r;rfl
 |x::xs,as,vs,h,r=>by
  rw[aby]at h
  cases ea:g x with
  |none=>rw[ea]at h;cases h
  |some a=>
   rw[ea]at h
   cases el:xs.mapM g with
   |none=>rw[el]at h;cases h
   |some bs=>
    rw[el]at h
    have h:some (a::bs)=some as:=h
    cases h
    cases r with
    |cons r1 r2=>rw[aan,hg x a ea _ r1,cR hg el r2]
def D4:List PV->Option PV
 |[.lst xs]=>(xs.mapM Eo).map λbs=>.bl (bs.all id)
 |_=>none
def Ib:List PV->Option PV
 |[.lst xs]=>(xs.mapM Eo).map λbs=>.bl (bs.any id)
 |_=>none
theorem uQ(x:PV)(a:Bool)(h:Eo x=some a)(v:V)(r:Rep K F v x):v=.bl a:=by cases x<;>cases h;cases r;rfl
theorem jt(x:PV)(a:Str)(h:CC x=some a)(v:V)(r:Rep K F v x):v=.str a:=by cases x<;>cases h;cases r;rfl
theorem lU:D6 ob X (λxs H Q=>∃(p:Addr) (bs:List Bool),xs=[.ref p]/\Cm X.K H p (bs.map V.bl)/\Q (.bl (bs.all id)) H) D4:=by
 intro Z F σ H env vs xs z Q K rv hz k
 unfold D4 at hz
 split at hz
 .rw[aaA]at hz
  obtain⟨ns,hn,rfl⟩:=hz
  obtain⟨v,rfl,r⟩:=rv.one
  obtain⟨p,vs,rfl,h1,h2⟩:=r.lst K.sF
  have:=cR uQ hn h2
  subst this
  exact⟨p,ns,rfl,.inl (.inl h1),k _ F H ao K (.bl _)⟩
 .cases hz
theorem Ad:D6 ob X (λxs H Q=>∃(p:Addr) (bs:List Bool),xs=[.ref p]/\Cm X.K H p (bs.map V.bl)/\Q (.bl (bs.any id)) H) Ib:=by
 intro Z F σ H env vs xs z Q K rv hz k
 unfold Ib at hz
 split at hz
 .rw[aaA]at hz
  obtain⟨ns,hn,rfl⟩:=hz
  obtain⟨v,rfl,r⟩:=rv.one
  obtain⟨p,vs,rfl,h1,h2⟩:=r.lst K.sF
  have:=cR uQ hn h2
  subst this
  exact⟨p,ns,rfl,.inl (.inl h1),k _ F H ao K (.bl _)⟩
 .cases hz
abbrev WO:=En->(Option Int->En->Prop)->Prop
structure QS(ob:Cy)(X:Cx)(e:Option Expr)(f:WO):Prop where
 ex:∃t:TO,PO X e t/\∀(Z:Zn) (F:Hp) (σ:L2.St) (H:Hp) (env:En) (P:Option Int->En->Prop) (Q:Option Int->Hp->Prop),AI (md ob X) Z F σ H env->f env P ->
  (∀i dO F' H',P i dO->eQ F F'->AI (md ob X) Z F' σ H' dO->Q i H')->t σ H Q
def C8:WO:=λenv P=>P none env
def CF(a:WE):WO:=λenv P=>a env λx e=>opt (JD x) λi=>P (some i) e
theorem cA:QS ob X none C8:=⟨_,mB,λZ F σ H env P Q K hf k=>k none env F H hf ao K⟩
theorem bP(h:Fp ob X e f):QS ob X (some e) (CF f):=by
 obtain⟨t,ht,k⟩:=h.ex
 refine⟨_,mz ht,λZ F σ H env P Q K hf kk=>k Z F σ H env _ _ K hf λx e1 v F1 H1 p s1 K1 r1=>?_⟩
 obtain⟨z,hz,p⟩:=p
 cases x<;>cases hz
 rw[r1.int]
 exact⟨_,rfl,kk _ e1 F1 H1 p s1 K1⟩
def CO(xs:List α)(lo hi:Option Int):List α:=(xs.drop (HT.BO xs.length 0 lo)).take (HT.BO xs.length xs.length hi - HT.BO xs.length 0 lo)
def Kq:PV->Option Int->Option Int->Option PV
 |.lst xs,lo,hi=>some (.lst (CO xs lo hi))
 |.tup xs,lo,hi=>some (.tup (CO xs lo hi))
 |.C2 ns,lo,hi=>some (.lst ((CO ns lo hi).map .int))
 |_,_,_=>none
def HZ(a:WE)(lo hi:WO):WE:=λenv P=>a env λx e1=>lo e1 λl e2=>hi e2 λu e3=>opt (Kq x l u) λz=>P z e3
theorem pQ{vs:List V}{xs:List PV}{lo hi:Option Int}(r:AJ K F vs xs):AJ K F (Em vs lo hi) (CO xs lo hi):=by
 unfold Em CO
 rw[r.len]
 exact(r.drop _).take _
theorem yp{lo hi:Option Int}:Em (ns.map V.int) lo hi=(CO ns lo hi).map V.int:=by
 unfold Em CO
 rw[aac,aeK,List.map_drop]
theorem dM{l u:Option Expr}{lo hi:WO}{p2:Pos}(ha:Bk ob X a f)(hl:QS ob X l lo)(hu:QS ob X u hi):Bk ob X (.Subscript a (.Slice l u none p2) pos) (HZ f lo hi):=by
 obtain⟨t,ht,k⟩:=ha.ex
 obtain⟨t1,JI,k1⟩:=hl.ex
 obtain⟨t2,JH,k2⟩:=hu.ex
 refine⟨_,kF (KZ.or mf xh) ht JI JH,λZ F σ H env P Q K hf kk=>k Z F σ H env _ _ K hf λx e1 v F1 H1 p s1 K1 r1=>?_⟩
 refine k1 Z F1 σ H1 e1 _ _ K1 p λi e2 F2 H2 p2 s2 K2=>k2 Z F2 σ H2 e2 _ _ K2 p2 λj e3 F3 H3 p3 s3 K3=>?_
 obtain⟨z,hz,p3⟩:=p3
 have r3:=(r1.mono s2).mono s3
 have s4:=ak s1 (ak s2 s3)
 have RA:Vw (md ob X) F3 H3 v x:=.inl r3
 cases x<;>simp only[Kq]at hz<;>cases hz
 .obtain⟨q,vs,rfl,h1,h2⟩:=RA.tup K3.sF
  refine .inr ⟨q,vs,rfl,h1,λhw=>kk _ e3 _ F3 H3 p3 s4 K3 ?_,λl hl=>?_⟩
  .have:CO (α:=PV) ‹_› i j=‹List PV›:=by
    unfold CO
    rw[<- h2.len,hw.1,hw.2]
    simp[h2.len]
   rw[this];exact r3
  .have hF:F3 l=none:=eQ.none_of K3.sF hl
   exact kk _ e3 _ _ _ p3 (ak s4 (az hF)) (K3.lay hl) (.tup (.inl (.inl am)) ((pQ h2).mono (az hF)))
 .obtain⟨q,vs,rfl,h1,h2⟩:=RA.lst K3.sF
  refine .inl ⟨q,vs,rfl,.inl (.inl h1),λl hl=>?_⟩
  have hF:F3 l=none:=eQ.none_of K3.sF hl
  exact kk _ e3 _ _ _ p3 (ak s4 (az hF)) (K3.lay hl) (.lst am ((pQ h2).mono (az hF)))
 .obtain⟨q,rfl,h1⟩:=RA.C2 K3.sF
  refine .inl ⟨q,_,rfl,h1,λl hl=>?_⟩
  have hF:F3 l=none:=eQ.none_of K3.sF hl
  exact kk _ e3 _ _ _ p3 (ak s4 (az hF)) (K3.lay hl) (.lst (by rw[am,yp]) (fV _))
structure P2(M:Md)(Z:Zn)(F:Hp)(P:Wd)(D:Ends):Prop where
 nx:∀env σ F' H,P.nx env->eQ F F'->AI M Z F' σ H env->D.nx σ H
 rt:∀x env v σ F' H,P.rt x env->eQ F F'->AI M Z F' σ H env->Rep M.K F' v x->D.rt v H
 bk:∀env σ F' H,P.bk env->eQ F F'->AI M Z F' σ H env->D.bk σ H
 ct:∀env σ F' H,P.ct env->eQ F F'->AI M Z F' σ H env->D.ct σ H
 rf:∀x env v σ F' H,P.rf x env->eQ F F'->(∀xs,x≠.set xs)->AI M Z F' (σ++[some v]) H (env++[some ⟨1,x⟩])->D.rt v H
 ro:∀x i env v σ F' H,P.ro x i env->eQ F F'->AI M Z F' σ H env->env[i]?=some (some ⟨4,x⟩)->σ[i]?=some (some v)->D.rt v H
variable{Z:Zn}{P:Wd}
theorem P2.mono{F1:Hp}{D:Ends}(h:P2 M Z F P D)(s:eQ F F1):P2 M Z F1 P D :=
 ⟨λe σ F' H p q=>h.nx e σ F' H p (ak s q),λx e v σ F' H p q=>h.rt x e v σ F' H p (ak s q),λe σ F' H p q=>h.bk e σ F' H p (ak s q),λe σ F' H p q=>h.ct e σ F' H p (ak s q),λx e v σ F' H p q=>h.rf x e v σ F' H p (ak s q),λx i e v σ F' H p q=>h.ro x i e v σ F' H p (ak s q)⟩
structure EU(ob:Cy)(X:Cx)(st:Stmt)(f:WS):Prop where
 ex:∃t:TS,PS X st t/\∀(Z:Zn) (F:Hp) (σ:L2.St) (H:Hp) (env:En) (P:Wd) (D:Ends),AI (md ob X) Z F σ H env->f P env->P2 (md ob X) Z F P D->t D σ H
structure Et(ob:Cy)(X:Cx)(st:List Stmt)(f:WS):Prop where
 ex:∃t:TS,HH X st t/\∀(Z:Zn) (F:Hp) (σ:L2.St) (H:Hp) (env:En) (P:Wd) (D:Ends),AI (md ob X) Z F σ H env->f P env->P2 (md ob X) Z F P D->t D σ H
abbrev WG:=PV->En->(En->Prop)->Prop
structure P6(ob:Cy)(X:Cx)(tg:Expr)(f:WG):Prop where
 ex:∃t:TG,PG X tg t/\∀(Z:Zn) (F:Hp) (σ:L2.St) (H:Hp) (env:En) (v:V) (x:PV) (P:En->Prop) (Q:L2.St->Hp->Prop),AI (md ob X) Z F σ H env->Rep X.K F v x->f x env P ->
  (∀dO σ' F' H',P dO->eQ F F'->AI (md ob X) Z F' σ' H' dO->Q σ' H')->t v σ H Q
abbrev LH:=List PV->En->(En->Prop)->Prop
structure La(ob:Cy)(X:Cx)(U8:List Expr)(f:LH):Prop where
 ex:∃t:Jc,PR X U8 t/\∀(Z:Zn) (F:Hp) (σ:L2.St) (H:Hp) (env:En) (vs:List V) (xs:List PV) (P:En->Prop) (Q:L2.St->Hp->Prop),AI (md ob X) Z F σ H env->AJ X.K F vs xs->f xs env P ->
  (∀dO σ' F' H',P dO->eQ F F'->AI (md ob X) Z F' σ' H' dO->Q σ' H')->t vs σ H Q
def oR(a b:WS):WS:=λP env=>a {P with nx:=b P} env
def Bj:WS:=λP env=>P.nx env
def AO(a:WE):WS:=λP env=>a env P.rt
def Ew(a:WE):WS:=λP env=>a env λ_ e=>P.nx e
def Cc(c:WT)(a b:WS):WS:=λP env=>c env λk e=>if k=true then a P e else b P e
def A5(i:Nat)(a:WE):WS:=λP env=>a env λx e=>P.nx (e.set i (some ⟨0,x⟩))
def Dq(i:Nat)(a:WE):WS:=λP env=>a env λx e=>P.nx (e.set i (some ⟨1,x⟩))
def gN(i:Nat):WG:=λx env P=>P (env.set i (some ⟨0,x⟩))
def DF:LH:=λxs env P=>xs=[]/\P env
def Bx(g:WG)(r:LH):LH:=λxs env P=>match xs with
 |[]=>False
 |x::xs=>g x env λe=>r xs e P
def gT(r:LH):WG:=λx env P=>match x with
 |.tup xs=>r xs env P
 |_=>False
def GA(a:WE)(g:WG):WS:=λP env=>a env λx e=>g x e P.nx
def Ml(i j:Nat)(a:WA):WS:=λP env=>a env λxs e=>match xs with
 |[x,y]=>P.nx ((e.set i (some ⟨0,x⟩)).set j (some ⟨0,y⟩))
 |_=>False
variable{tg:Expr}{st:Stmt}{Nu:List Stmt}{u v:WS}
theorem aB:Et ob X [] Bj:=⟨_,qO,λZ F σ H env P D K hf L=>L.nx env σ F H hf ao K⟩
theorem ag(h1:EU ob X st u)(h2:Et ob X Nu v):Et ob X (st::Nu) (oR u v):=by
 obtain⟨t1,JI,k1⟩:=h1.ex
 obtain⟨t2,JH,k2⟩:=h2.ex
 refine⟨_,bT JI JH,λZ F σ H env P D K hf L=>k1 Z F σ H env _ _ K hf ⟨λe σ' F' H' p s K'=>?_,L.rt,L.bk,L.ct,L.rf,L.ro⟩⟩
 exact k2 Z F' σ' H' e P D K' p (L.mono s)
theorem ap(h1:EU ob X st u):Et ob X [st] u:=by
 obtain⟨t1,JI,k1⟩:=h1.ex
 exact⟨t1,dA JI,k1⟩
theorem au(h:Bk ob X e f):EU ob X (.Return (some e) pos) (AO f):=by
 obtain⟨t,ht,k⟩:=h.ex
 exact⟨_,gK ht,λZ F σ H env P D K hf L=>k Z F σ H env _ _ K hf λx e1 v F1 H1 p s1 K1 r1=>L.rt x e1 v σ F1 H1 p s1 K1 r1⟩
theorem eZ(h:Fp ob X e f)(hs:abV e none pos.line X.env=pure false:=by rfl):EU ob X (.Expr e pos) (Ew f):=by
 obtain⟨t,ht,k⟩:=h.ex
 exact⟨_,jw ht hs,λZ F σ H env P D K hf L=>k Z F σ H env _ _ K hf λx e1 v F1 H1 p s1 K1 r1=>L.nx e1 σ F1 H1 p s1 K1⟩
theorem aI{s1 s2:List Stmt}(hc:G6 ob X c t)(ha:Et ob X s1 u)(hb:Et ob X s2 v):EU ob X (.If c s1 s2 pos) (Cc t u v):=by
 obtain⟨w,hw,k⟩:=hc.ex
 obtain⟨ta,ha,ka⟩:=ha.ex
 obtain⟨tb,hb,kb⟩:=hb.ex
 refine⟨_,wL hw ha hb,λZ F σ H env P D K hf L=>k Z F σ H env _ _ K hf λx e1 F1 H1 p s1 K1=>?_⟩
 cases x with
 |true=>exact Fc (ka Z F1 σ H1 e1 P D K1 p (L.mono s1))
 |false=>exact EH (kb Z F1 σ H1 e1 P D K1 p (L.mono s1))
theorem aC(i:Nat){pos':Pos}(hN:X.N.Nodup)(hi:X.N[i]?=some x)(hx:Loc X.env.scope x)(he:Bk ob X e f)(hs:abV e (some (.Name x pos')) pos.line X.env=pure false:=by rfl)(hf:X.fn x=true\/X.env.scope.names.lookup x=some .local:=by first|exact .inl rfl|exact .inr rfl|assumption):
  EU ob X (.Assign [.Name x pos'] e pos) (A5 i f):=by
 obtain⟨t,ht,k⟩:=he.ex
 exact⟨_,dS hN hi hx ht hs hf,λZ F σ H env P D K hf L=>k Z F σ H env _ _ K hf λx e1 v F1 H1 p s1 K1 r1=>L.nx _ _ F1 H1 p s1 (K1.put r1)⟩
theorem eY(i:Nat){pos':Pos}(hN:X.N.Nodup)(hi:X.N[i]?=some x)(hx:Loc X.env.scope x)(he:IQ ob X e f)(hs:abV e (some (.Name x pos')) pos.line X.env=pure false:=by rfl)(hf:X.fn x=true\/X.env.scope.names.lookup x=some .local:=by first|exact .inl rfl|exact .inr rfl|assumption):
  EU ob X (.Assign [.Name x pos'] e pos) (Dq i f):=by
 obtain⟨t,ht,k⟩:=he.ex
 exact⟨_,dS hN hi hx ht hs hf,λZ F σ H env P D K hf L=>k Z F σ H env _ _ K hf λx e1 v F1 H1 p s1 _ K1=>L.nx _ _ F1 H1 p s1 K1.take⟩
theorem aO(i:Nat)(hN:X.N.Nodup)(hi:X.N[i]?=some x)(hx:Loc X.env.scope x)(hf:X.fn x=true\/X.env.scope.names.lookup x=some .local:=by first|exact .inl rfl|exact .inr rfl|assumption):P6 ob X (.Name x pos) (gN i) :=
 ⟨_,aF hN hi hx hf,λZ F σ H env v x P Q K r hf k=>k _ _ F H hf ao (K.put r)⟩
theorem dF:La ob X [] DF:=⟨_,mD,λZ F σ H env vs xs P Q K r hf k=>by obtain⟨rfl,hf⟩:=hf;cases r;exact⟨rfl,k env σ F H hf ao K⟩⟩
theorem aW{g:WG}{r:LH}(h1:P6 ob X e g)(h2:La ob X es r)(hs:(acq (e::es) X.env).map (·.2)=assign e X.env::(acq es X.env).map (·.2):=by rfl):La ob X (e::es) (Bx g r):=by
 obtain⟨t1,JI,k1⟩:=h1.ex
 obtain⟨t2,JH,k2⟩:=h2.ex
 refine⟨_,fA JI JH hs,λZ F σ H env vs xs P Q K r hf k=>?_⟩
 cases r with
 |nil=>exact hf.elim
 |cons r1 r2=>
  refine⟨_,_,rfl,k1 Z F σ H env _ _ _ _ K r1 hf λe1 σ1 F1 H1 p s1 K1=>?_⟩
  exact k2 Z F1 σ1 H1 e1 _ _ P Q K1 (r2.mono s1) p λe2 σ2 F2 H2 p2 s2 K2=>k e2 σ2 F2 H2 p2 (ak s1 s2) K2
variable{n:Nat}
theorem fN{r:LH}{k:Nat}(hc:X.calm=true)(h:La ob X es r)(hl:∀xs env P,r xs env P->xs.length=n)(hn:(acq es X.env).length=n:=by rfl)(FP:(acq es X.env).findIdx? (·.1)=none:=by rfl):P6 ob X (.Tuple es k pos) (gT r):=by
 obtain⟨t,ht,kk⟩:=h.ex
 refine⟨_,oZ hc ht hn FP,λZ F σ H env v x P Q K r hf k=>?_⟩
 unfold gT at hf
 split at hf
 .have hl:=hl _ _ _ hf
  cases r with
  |tup h1 h2=>exact⟨_,_,rfl,aw K.sF h1,by rw[h2.len];exact hl,kk Z F σ H env _ _ P Q K h2 hf k⟩
 .exact hf.elim
theorem fJ:∀xs env P,DF xs env P->xs.length=0:=λxs env P h=>by obtain⟨rfl,_⟩:=h;rfl
theorem bi{i:Nat}{r:LH}(h:∀xs env P,r xs env P->xs.length=n):∀xs env P,Bx (gN i) r xs env P->xs.length=n+1:=λxs env P q=>by
 cases xs with
 |nil=>exact q.elim
 |cons x xs=>exact congrArg (·+1) (h _ _ _ q)
theorem gU{g:WG}(he:Bk ob X e f)(hg:P6 ob X tg g)(hs:adK [tg] e pos.line X.env=pure false:=by rfl)(hw:adL [tg] e X.env=pure none:=by rfl)
  (h1:(acq [tg] X.env).map (·.2)=[assign tg X.env]:=by rfl):EU ob X (.Assign [tg] e pos) (GA f g):=by
 obtain⟨t,ht,k⟩:=he.ex
 obtain⟨t1,JI,k1⟩:=hg.ex
 refine⟨_,lv ht JI hs hw h1,λZ F σ H env P D K hf L=>k Z F σ H env _ _ K hf λx e1 v F1 H1 p s1 K1 r1=>?_⟩
 exact k1 Z F1 σ H1 e1 v x _ _ K1 r1 p λe2 σ2 F2 H2 p2 s2 K2=>L.nx e2 σ2 F2 H2 p2 (ak s1 s2) K2
variable{px py:Pos}
theorem zP(i j:Nat){y:Str}{pt:Pos}{kt k2 pt2}(hc:X.calm=true)(hN:X.N.Nodup)(hi:X.N[i]?=some x)(hj:X.N[j]?=some y)(Ey:i≠j)
  (hx:X.env.scope.names.lookup x=some .local) (hy:X.env.scope.names.lookup y=some .local) (ha:G0 ob X [a,b] fa)
  (hw:adL [.Tuple [.Name x px,.Name y py] kt pt] (.Tuple [a,b] k2 pt2) X.env=pure (some [x,y]))
  (hs:adK [.Tuple [.Name x px,.Name y py] kt pt] (.Tuple [a,b] k2 pt2) pos.line X.env=pure false:=by rfl) :
  EU ob X (.Assign [.Tuple [.Name x px,.Name y py] kt pt] (.Tuple [a,b] k2 pt2) pos) (Ml i j fa):=by
 obtain⟨t,ht,k⟩:=ha.ex
 refine⟨_,yQ hc hN hi hj Ey hx hy ht hw hs,λZ F σ H env P D K hf L=>k Z F σ H env _ _ K hf λxs e1 vs F1 H1 p hl s1 K1 r1=>?_⟩
 cases r1 with
 |nil=>cases hl
 |cons r1 r2=>cases r2 with
  |nil=>cases hl
  |cons r2 r3=>cases r3 with
   |nil=>exact⟨_,_,rfl,L.nx _ _ F1 H1 p s1 ((K1.put r1).put r2)⟩
   |cons=>simp at hl
def Hc(c:WT)(b:WS)(P:Wd):Nat->En->Prop
 |0,_=>False
 |n+1,env=>c env λk e=>if k=true then b {P with nx:=Hc c b P n,ct:=Hc c b P n,bk:=P.nx} e else P.nx e
def EZ(c:WT)(b:WS):WS:=λP env=>∃n,Hc c b P n env
theorem wk(hp:PassesOwn (model X.prog X.w) X.A X.env X.xe)(hc:G6 ob X c t)(hb:Et ob X Nu u):EU ob X (.While c Nu [] pos) (EZ t u):=by
 obtain⟨w,hw,k⟩:=hc.ex
 obtain⟨tb,hb,kb⟩:=hb.ex
 refine⟨_,oV hp hw hb,λZ F σ H env P D K hf L=>?_⟩
 obtain⟨n,hf⟩:=hf
 refine⟨λm σ' H'=>∃F' dO,eQ F F'/\AI (md ob X) Z F' σ' H' dO/\Hc t u P m dO,⟨n,F,env,ao,K,hf⟩,?_⟩
 rintro m σ' H' ⟨F',dO,s,K',hg⟩
 cases m with
 |zero=>exact hg.elim
 |succ m=>
  refine k Z F' σ' H' dO _ _ K' hg λx e1 F1 H1 p s1 K1=>?_
  cases x with
  |true=>
   refine Fc ⟨λσ2 H2=>∃F2 e2,eQ F F2/\AI (md ob X) Z F2 σ2 H2 e2/\Hc t u P m e2,λσ2 H2 q=>⟨m,abx m,q⟩,?_⟩
   have sF:=ak s s1
   exact kb Z F1 σ' H1 e1 _ _ K1 p ⟨λe2 σ2 F2 H2 q s2 K2=>⟨F2,e2,ak sF s2,K2,q⟩,(L.mono sF).rt,(L.mono sF).nx,λe2 σ2 F2 H2 q s2 K2=>⟨F2,e2,ak sF s2,K2,q⟩,(L.mono sF).rf,(L.mono sF).ro⟩
  |false=>exact EH (L.nx e1 σ' F1 H1 p (ak s s1) K1)
structure Gr(M:Md)(J:It)(F:Hp)(xs:List PV):Prop where
 go:∀(Z:Zn) (i:Nat) (σ:L2.St) (env:En) (F' H:Hp) (x:PV),eQ F F'->AI M Z F' σ H env->xs[i]?=some x->J.go i H/\∀v H',J.yld i H v H'->∃QR,eQ F' QR/\AI M Z QR σ H' env/\Rep M.K QR v x/\eQ H H'/\∀a,QR a≠none->F' a≠none\/H a=none
 stop:∀(Z:Zn) (i:Nat) (σ:L2.St) (env:En) (F' H:Hp),eQ F F'->AI M Z F' σ H env->xs.length<=i->J.stop i H
structure Jd(ob:Cy)(X:Cx)(tg it:Expr)(f:WA):Prop where
 ex:∃wi:TI,PI X tg it wi/\∀(Z:Zn) (F:Hp) (σ:L2.St) (H:Hp) (env:En) (P:List PV->En->Prop) (R:It->Hp->Prop),AI (md ob X) Z F σ H env->f env P ->
  (∀xs dO J F' H',P xs dO->eQ F F'->AI (md ob X) Z F' σ H' dO->Gr (md ob X) J F' xs->R J H')->wi σ H R
theorem zH{a:Addr}{vs:List V}{xs:List PV}(h:F a=some (.lst vs))(r:AJ M.K F vs xs):Gr M (Kl M.K a) F xs:=by
 refine⟨λZ i σ env F' H x s K e=>?_,λZ i σ env F' H s K hl=>⟨vs,.inl (.inl (K.sF _ _ (s _ _ h))),by rw[r.len];exact hl⟩⟩
 obtain⟨v,hv,rv⟩:=r.get e
 have hH:Cm M.K H a vs:=.inl (.inl (K.sF _ _ (s _ _ h)))
 refine⟨⟨vs,v,hH,hv⟩,λv' H' y=>?_⟩
 obtain⟨rfl,y⟩:=y
 have:=y vs hH
 rw[hv]at this;cases this
 exact⟨F',ao,K,rv.mono s,ao,λ_ h=>.inl h⟩
theorem zE{a:Addr}{vs:List V}{xs:List PV}(h:Cd M.K F a vs)(r:AJ M.K F vs xs):Gr M (Tg M.K a) F xs:=by
 refine⟨λZ i σ env F' H x s K e=>?_,λZ i σ env F' H s K hl=>⟨vs,aw K.sF (aw s h),by rw[r.len];exact hl⟩⟩
 obtain⟨v,hv,rv⟩:=r.get e
 have hH:Cd M.K H a vs:=aw K.sF (aw s h)
 refine⟨⟨vs,v,hH,hv⟩,λv' H' y=>?_⟩
 obtain⟨rfl,y⟩:=y
 have:=y vs hH
 rw[hv]at this;cases this
 exact⟨F',ao,K,rv.mono s,ao,λ_ h=>.inl h⟩
def RV(K:aah)(tl:TE):TI:=λσ H R=>tl σ H λx H1=>∃a,x=.ref a/\(((∃xs,Cm K H1 a xs)/\R (Kl K a) H1)\/((∃xs,Cd K H1 a xs)/\R (Tg K a) H1))
theorem yV{l:Expr}{tl:TE}(hl:PE X l tl):PI X tg l (RV X.K tl):=by
 intro pins s σ H R I h
 refine Bu (hl pins s σ H _ I h) λv s1 ⟨x,H1,I1,r1,q1⟩=>?_
 obtain⟨a,e,q⟩:=q1
 subst e
 cases r1
 rcases q with ⟨⟨xs,hq⟩,q⟩|⟨⟨xs,hq⟩,q⟩
 .obtain⟨iN,rv,p,hz⟩:=I1.list hq
  refine ac4 p.isList ?_
  refine⟨s1.heap.objs.size,[s1.heap.objs.size],_,_,H1,rfl,I1.kept (t':=s1.toks) λb o e=>aad _ e,ni a _,⟨_,aai _ rfl,rfl,rfl⟩,λb hb=>?_,q⟩
  have e:b=s1.heap.objs.size:=by simpa using hb
  subst e
  exact I1.Hv (aal _) (I1.AU.fresh (aal _))
 .obtain⟨iN,rv,p,hz⟩:=I1.tuple hq
  refine acS (show s1.heap.IsTuple a iN.toArray from p) ?_
  refine⟨s1.heap.objs.size,[s1.heap.objs.size],_,_,H1,rfl,I1.kept (t':=s1.toks) λb o e=>aad _ e,rN a _,⟨_,aai _ rfl,rfl,rfl⟩,λb hb=>?_,q⟩
  have e:b=s1.heap.objs.size:=by simpa using hb
  subst e
  exact I1.Hv (aal _) (I1.AU.fresh (aal _))
def iS(a:WE):WA:=λenv P=>a env λx e=>match x with
 |.lst xs=>P xs e
 |.tup xs=>P xs e
 |_=>False
theorem aP(h:Bk ob X e f):Jd ob X tg e (iS f):=by
 obtain⟨t,ht,k⟩:=h.ex
 refine⟨_,yV ht,λZ F σ H env P R K hf kk=>k Z F σ H env _ _ K hf λx e1 v F1 H1 p s1 K1 r1=>?_⟩
 cases r1 with
 |tup h1 h2=>exact⟨_,rfl,.inr ⟨⟨_,aw K1.sF h1⟩,kk _ e1 _ F1 H1 p s1 K1 (zE h1 h2)⟩⟩
 |lst h1 h2=>exact⟨_,rfl,.inl ⟨⟨_,.inl (.inl (K1.sF _ _ h1))⟩,kk _ e1 _ F1 H1 p s1 K1 (zH h1 h2)⟩⟩
 |_=>exact p.elim
def ED(lo:Int)(n:Nat):List PV:=(aa6 n).map λ(k:Nat)=>.int (lo+(k:Int))
theorem zG{lo:Int}:Gr M (QM lo n) F (ED lo n):=by
 refine⟨λZ i σ env F' H x s K e=>?_,λZ i σ env F' H s K hl=>show n<=i by simpa[ED]using hl⟩
 have hi:i<n:=by
  rcases aaU i n with h|h
  .exact h
  .rw[aao (by simpa[ED]using h)]at e;cases e
 have ex:x=.int (lo+i):=by
  unfold ED at e
  rw[aaj,ab2 hi]at e
  exact(aap e).symm
 subst ex
 refine⟨hi,λv' H' y=>?_⟩
 obtain⟨rfl,rfl⟩:=y
 exact⟨F',ao,K,.int _,ao,λ_ h=>.inl h⟩
def MH(a:WA):WA:=λenv P=>a env λxs e=>match xs with
 |[.int j]=> -1000000<=j/\j<=1000000/\P (ED 0 j.toNat) e
 |_=>False
def Vu(a:WA):WA:=λenv P=>a env λxs e=>match xs with
 |[.int i,.int j]=>(-1000000<=i/\i<=1000000 /\ -1000000<=j/\j<=1000000)/\P (ED i (j - i).toNat) e
 |_=>False
theorem fZ(hg:Gl X "range")(hm:X.mg "range" = none)(ha:G0 ob X [a] fa)(hs:aam [a] X.env=[(false,eval a X.env)]:=by rfl):Jd ob X tg (.Call (.Name "range" p) [a] [] pos) (MH fa):=by
 obtain⟨t,ht,k⟩:=ha.ex
 refine⟨_,tj hg hm ht hs,λZ F σ H env P R K hf kk=>k Z F σ H env _ _ K hf λxs e1 vs F1 H1 p _ s1 K1 r1=>?_⟩
 split at p
 .cases r1 with
  |cons r1 r2=>
   cases r1
   cases r2
   exact⟨_,rfl,by omega,by omega,kk _ e1 _ F1 H1 p.2.2 s1 K1 zG⟩
 .exact p.elim
def FW(xs ys:List PV):List PV:=(xs.zip ys).map λp=>.tup [p.1,p.2]
variable{ys:List PV}
theorem zD{a b:Addr}{vs:List V}{xs:List PV}(h1:Cd M.K F a vs)(r1:AJ M.K F vs xs)(h2:Cd M.K F b ws)(r2:AJ M.K F ws ys):Gr M (Tf M.K a b) F (FW xs ys):=by
 refine⟨λZ i σ env F' H x s K e=>?_,λZ i σ env F' H s K hl=>⟨vs,ws,aw K.sF (aw s h1),aw K.sF (aw s h2),?_⟩⟩
 .unfold FW at e
  rw[aaj]at e
  cases ez:(xs.zip ys)[i]? with
  |none=>rw[ez]at e;cases e
  |some q=>
   rw[ez]at e
   obtain⟨x1,x2⟩:=q
   rw[aaY]at ez
   have e:x=.tup [x1,x2]:=(aap e).symm
   subst e
   obtain⟨v1,q1,q2⟩:=r1.get ez.1
   obtain⟨v2,q3,q4⟩:=r2.get ez.2
   have g1:=aw K.sF (aw s h1)
   have g2:=aw K.sF (aw s h2)
   refine⟨⟨vs,ws,v1,v2,g1,g2,q1,q3⟩,λv' H' y=>?_⟩
   obtain⟨p,w1,w2,rfl,hp,rfl,y⟩:=y
   obtain⟨y1,y2⟩:=y vs ws g1 g2
   rw[q1]at y1;cases y1
   rw[q3]at y2;cases y2
   have hF:F' p=none:=eQ.none_of K.sF hp
   refine⟨upd F' p (.tup [v1,v2]),az hF,K.lay hp,.tup (.inl (.inl am)) (.cons ((q2.mono s).mono (az hF)) (.cons ((q4.mono s).mono (az hF)) .nil)),az hp,λc hc=>?_⟩
   by_cases z:c=p
   .subst z;exact .inr hp
   .rw[aj z]at hc;exact .inl hc
 .have:=r1.len
  have:=r2.len
  simp only[FW,aac,aea]at hl
  omega
def iZ(a:WA):WA:=λenv P=>a env λxs e=>match xs with
 |[.tup xs,.tup ys]=>P (FW xs ys) e
 |_=>False
theorem zX{elts:List Expr}{x1:_}{FX:Pos}(hg:Gl X "zip")(hm:X.mg "zip" = none)(ha:G0 ob X [a,b] fa)(hs:aam [a,b] X.env=[(false,eval a X.env),(false,eval b X.env)]:=by rfl)(IX:aam [b] X.env=[(false,eval b X.env)]:=by rfl):
  Jd ob X (.Tuple elts x1 FX) (.Call (.Name "zip" p) [a,b] [] pos) (iZ fa):=by
 obtain⟨t,ht,k⟩:=ha.ex
 refine⟨_,yT hg hm ht hs IX,λZ F σ H env P R K hf kk=>k Z F σ H env _ _ K hf λxs e1 vs F1 H1 p _ s1 K1 r1=>?_⟩
 split at p
 .cases r1 with
  |cons r1 r2=>
   cases r2 with
   |cons r2 r3=>
    cases r3
    cases r1 with
    |tup g1 g2=>
     cases r2 with
     |tup g3 g4=>exact⟨_,_,rfl,⟨_,aw K1.sF g1⟩,⟨_,aw K1.sF g3⟩,kk _ e1 _ F1 H1 p s1 K1 (zD g1 g2 g3 g4)⟩
 .exact p.elim
def Dp(s:Str):List PV:=s.cps.toList.map λc=>.str ⟨#[c]⟩
theorem zF{s:Str}:Gr M (QL s) F (Dp s):=by
 refine⟨λZ i σ env F' H x sm K e=>?_,λZ i σ env F' H sm K hl=>show s.cps.size<=i by simpa[Dp]using hl⟩
 unfold Dp at e
 rw[aaj]at e
 cases ez:s.cps.toList[i]? with
 |none=>rw[ez]at e;cases e
 |some c=>
  rw[ez]at e
  have e:x=.str ⟨#[c]⟩:=(aap e).symm
  subst e
  have hi:i<s.cps.size:=by
   rcases aaU i s.cps.size with h|h
   .exact h
   .rw[aao (by simpa using h)]at ez;cases ez
  refine⟨hi,λv' H' y=>?_⟩
  obtain⟨rfl,c',ET,rfl⟩:=y
  rw[<- abn,ez]at ET
  cases ET
  exact⟨F',ao,K,.str _,ao,λ_ h=>.inl h⟩
def JE(a:WE):WA:=λenv P=>a env λx e=>match x with
 |.str s=>P (Dp s) e
 |_=>False
theorem zY(h:Bk ob X e f):Jd ob X tg e (JE f):=by
 obtain⟨t,ht,k⟩:=h.ex
 refine⟨_,yU ht,λZ F σ H env P R K hf kk=>k Z F σ H env _ _ K hf λx e1 v F1 H1 p s1 K1 r1=>?_⟩
 cases r1 with
 |str s=>exact⟨s,rfl,kk _ e1 _ F1 H1 p s1 K1 zF⟩
 |_=>exact p.elim
def Du(g:WG)(b:WS)(P:Wd):List PV->En->Prop
 |[],env=>P.nx env
 |x::xs,env=>g x env λe=>b {P with nx:=Du g b P xs,ct:=Du g b P xs,bk:=P.nx} e
def E4(it:WA)(g:WG)(b:WS):WS:=λP env=>it env λxs e=>Du g b P xs e
theorem dm{it:Expr}{g:WG}(hp:PassesOwn (model X.prog X.w) X.A X.env X.xe)(hc:X.calm=true)(hi:Jd ob X tg it fa)(hg:P6 ob X tg g)(hb:Et ob X Nu u)
  (hs:∀x,abb it X.env x=pure x:=by intro _;rfl):EU ob X (.For tg it Nu [] pos) (E4 fa g u):=by
 obtain⟨wi,JF,k⟩:=hi.ex
 obtain⟨Qc,VC,kg⟩:=hg.ex
 obtain⟨tb,O2,kb⟩:=hb.ex
 refine⟨_,sZ hp hc JF VC O2 hs,λZ F σ H env P D K hf L=>k Z F σ H env _ _ K hf λxs e1 J F1 H1 p s1 K1 I1=>?_⟩
 have L1:=L.mono s1
 refine⟨λi m σ' H'=>m=xs.length - i/\∃F' dO,eQ F1 F'/\AI (md ob X) Z F' σ' H' dO/\Du g u P (xs.drop i) dO,⟨_,rfl,F1,e1,ao,K1,p⟩,?_⟩
 rintro i m σ' H' ⟨rfl,F',dO,s,K',Kc⟩
 by_cases BW:i<xs.length
 .rw[adx BW]at Kc
  obtain⟨h1,h2⟩:=I1.go Z i σ' dO F' H' xs[i] s K' (by simp[BW])
  refine .inr ⟨h1,λσ2 H2=>∃F2 e2,eQ F1 F2/\AI (md ob X) Z F2 σ2 H2 e2/\Du g u P (xs.drop (i+1)) e2,λσ2 H2 q=>⟨xs.length - (i+1),by omega,rfl,q⟩,λv H2 y=>?_⟩
  obtain⟨F2,s2,K2,r2,_,_⟩:=h2 v H2 y
  refine kg Z F2 σ' H2 dO v xs[i] _ _ K2 r2 Kc λe3 σ3 F3 H3 p3 s3 K3=>?_
  have sF:=ak s (ak s2 s3)
  exact kb Z F3 σ3 H3 e3 _ _ K3 p3 ⟨λe4 σ4 F4 H4 q s4 K4=>⟨F4,e4,ak sF s4,K4,q⟩,(L1.mono sF).rt,(L1.mono sF).nx,λe4 σ4 F4 H4 q s4 K4=>⟨F4,e4,ak sF s4,K4,q⟩,(L1.mono sF).rf,(L1.mono sF).ro⟩
 .rw[adZ (by omega)]at Kc
  exact .inl ⟨I1.stop Z i σ' dO F' H' s K' (by omega),L1.nx dO σ' F' H' Kc s K'⟩
def lend(s:Sl):Sl:=if s.k=1 then ⟨3,s.v⟩else s
def FH(js:List (Option Nat))(env:En):En:=js.map λo=>o.bind λj=>((env[j]?).getD none).map lend
def DH(s s':Sl):Option Sl:=if s'.k=3 then (if s.k=1\/s.k=3 then some ⟨s.k,s'.v⟩else none)else if s'.k=2 then (if s.k=2 then some s' else none)else some s'
def BS(js:List (Option Nat))(env benv:En):En:=env.mapIdx λj o=>match js.findIdx? (λq=>q==some j)with
 |none=>o
 |some i=>match o,benv[i]? with
  |some s,some (some s')=>DH s s'
  |_,_=>none
def GI(js:List (Option Nat)):Bool:=decide (js.filterMap id).Nodup
theorem kT:∀{js:List (Option Nat)},(js.filterMap id).Nodup->∀(i i':Nat) (j:Nat),js[i]?=some (some j)->js[i']?=some (some j)->i=i'
 |[],_,i,i',j,h,_=>by simp at h
 |none::js,hn,i,i',j,h,h'=>by
  cases i with
  |zero=>simp at h
  |succ i=>
   cases i' with
   |zero=>simp at h'
   |succ i'=>
    simp at h h' hn
    exact congrArg (·+1) (kT (js:=js) (by simpa using hn) i i' j h h')
 |some k::js,hn,i,i',j,h,h'=>by
  simp only[abg,id]at hn
  obtain⟨hk,hn⟩:=List.nodup_cons.mp hn
  have mem:∀m,js[m]?=some (some k)->False:=λm hm=>hk (List.mem_filterMap.mpr ⟨some k,abk hm,rfl⟩)
  cases i with
  |zero=>
   simp at h;subst h
   cases i' with
   |zero=>rfl
   |succ i'=>exact(mem i' (by simpa using h')).elim
  |succ i=>
   cases i' with
   |zero=>simp at h';subst h';exact(mem i (by simpa using h)).elim
   |succ i'=>exact congrArg (·+1) (kT hn i i' j (by simpa using h) (by simpa using h'))
variable{F' H':Hp}{env:En}
theorem Fo.wr{v:V}{s:Sl}{fp:List Addr}(h:Fo M Z F H v s fp):∀c∈fp,c∈Z.S\/Z.H₀ c=none:=by
 rcases h with ⟨_,rfl,_⟩|⟨_,a,_,rfl,h0,_⟩|⟨_,a,_,h,_⟩|⟨_,a,_,rfl,h0,_⟩
 .intro c hc;simp at hc
 .intro c hc;simp at hc;subst hc;exact .inr h0
 .exact h
 .intro c hc;simp at hc;subst hc;exact .inl h0
def D3(js:List (Option Nat))(env:En)(fp:Nat->List Addr)(i:Nat):List Addr:=match js[i]? with
 |some (some j)=>match env[j]? with
  |some (some _)=>fp j
  |_=>[]
 |_=>[]
def GV(js:List (Option Nat))(env:En)(fp:Nat->List Addr)(H:Hp):List Addr:=((aa6 js.length).flatMap (D3 js env fp)).filter λb=>(H b).isSome
variable{js:List (Option Nat)}{fp:Nat->List Addr}
theorem tT{i:Nat}{a:Addr}(h:a∈D3 js env fp i)(hH:H a≠none):a∈GV js env fp H:=by
 refine List.mem_filter.mpr ⟨List.mem_flatMap.mpr ⟨i,List.mem_range.mpr ?_,h⟩,by obtain⟨o,ho⟩:=dh hH;rw[ho];rfl⟩
 rcases aaU i js.length with q|q
 .exact q
 .unfold D3 at h;rw[aao q]at h;simp at h
theorem fD{a:Addr}(h:a∈GV js env fp H):∃(i j:Nat) (s:Sl),js[i]?=some (some j)/\env[j]?=some (some s)/\a∈fp j:=by
 obtain⟨i,_,h⟩:=List.mem_flatMap.mp (List.mem_filter.mp h).1
 unfold D3 at h
 split at h
 .rename_i j ej
  split at h
  .rename_i s es
   exact⟨i,j,s,ej,es,h⟩
  .simp at h
 .simp at h
theorem wE{i:Nat}{s':Sl}(h:(FH js env)[i]?=some (some s')):∃j s,js[i]?=some (some j)/\env[j]?=some (some s)/\s'=lend s:=by
 unfold FH at h
 rw[aaj]at h
 cases ej:js[i]? with
 |none=>rw[ej]at h;cases h
 |some o=>
  cases o with
  |none=>rw[ej]at h;cases h
  |some j=>
   rw[ej]at h
   have h:((env[j]?).getD none).map lend=some s':=aap h
   cases es:env[j]? with
   |none=>rw[es]at h;cases h
   |some o=>
    cases o with
    |none=>rw[es]at h;cases h
    |some s=>rw[es]at h;exact⟨j,s,rfl,es,(aap h).symm⟩
theorem pT{i j:Nat}{v:V}(h:js[i]?=some (some j))(hv:σ[j]?=some (some v)):(BC js σ)[i]?=some (some v):=by
 unfold BC
 rw[aaj,h]
 show some ((σ[j]?).getD none)=_
 rw[hv];rfl
def Zb(js:List (Option Nat))(env:En)(fp:Nat->List Addr)(F H:Hp):Zn:={H₀:=H,F₀:=F,S:=GV js env fp H,sS:=λb hb e=>by have:=(List.mem_filter.mp hb).2;rw[e]at this;cases this}
theorem pY(hj:GI js=true)(K:AI M Z F σ H env)(L:Slots M Z F σ H env fp):AI M (Zb js env fp F H) F (BC js σ) H (FH js env):=by
 have hn:(js.filterMap id).Nodup:=of_decide_eq_true hj
 refine⟨K.sF,λb o h _=>h,λb h=>h,ao,λa h=>.inl h,by simp[FH,BC],D3 js env fp,λi s' h=>?_,λi a h=>?_,λi i' a V6 h h'=>?_,λi a s e=>by cases e⟩
 .obtain⟨j,s,ej,es,rfl⟩:=wE h
  obtain⟨v,hv,ok⟩:=L.at' j s es
  have ef:D3 js env fp i=fp j:=by unfold D3;rw[ej];dsimp only;rw[es]
  refine⟨v,pT ej hv,?_⟩
  have J7:∀c∈fp j,c∈(Zb js env fp F H).S:=λc hc=>tT (i:=i) (by rw[ef];exact hc) (L.al j c hc).1
  rw[ef]
  rcases ok with ⟨k,e,r⟩|⟨k,a,e,e2,h0,r⟩|⟨k,a,e,h0,r⟩|⟨k,a,e,e2,h0,r⟩
  .have:lend s=s:=by unfold lend;rw[if_neg (by rw[k];decide)]
   rw[this];exact .inl ⟨k,e,r⟩
  .have:lend s=⟨3,s.v⟩:=by unfold lend;rw[if_pos k]
   rw[this];exact .inr (.inr (.inr ⟨rfl,a,e,e2,J7 a (by rw[e2];simp),r⟩))
  .have:lend s=s:=by unfold lend;rw[if_neg (by rcases k with k|k<;>(rw[k];decide))]
   rw[this];exact .inr (.inr (.inl ⟨k,a,e,λc hc=>.inl (J7 c hc),r⟩))
  .have:lend s=s:=by unfold lend;rw[if_neg (by rw[k];decide)]
   rw[this];exact .inr (.inr (.inr ⟨k,a,e,e2,J7 a (by rw[e2];simp),r⟩))
 .unfold D3 at h
  split at h
  .split at h
   .exact L.al _ a h
   .simp at h
  .simp at h
 .unfold D3 at h h'
  split at h
  .rename_i j ej
   split at h'
   .rename_i j' WC
    split at h
    .split at h'
     .have:j≠j':=λe=>by subst e;exact V6 (kT hn i i' j ej WC)
      exact L.dj j j' a this h h'
     .simp at h'
    .simp at h
   .simp at h'
  .simp at h
theorem nQ{σb:L2.St}{benv:En}(hj:GI js=true)(K:AI M Z F σ H env)(L:Slots M Z F σ H env fp)(Kb:AI M (Zb js env fp F H) F' σb H' benv)
  (hσ:∀(k j:Nat),js[k]?=some (some j)->σb[k]?=(BC js σ)[k]?) :
  ∃Jb,Slots M Z F' σ H' (BS js env benv) Jb/\AI M Z F' σ H' (BS js env benv)/\∀i a,a∈Jb i->(∃i',a∈fp i')\/H a=none:=by
 have hn:(js.filterMap id).Nodup:=of_decide_eq_true hj
 obtain⟨fb,Lb⟩:=Kb.sl
 have J7:∀c∈GV js env fp H,(c∈Z.S\/Z.H₀ c=none)/\∃i',c∈fp i':=λc hc=>by
  obtain⟨i,j,s,e1,e2,e3⟩:=fD hc
  obtain⟨v,_,ok⟩:=L.at' j s e2
  exact⟨ok.wr c e3,j,e3⟩
 have M6:∀j i,js.findIdx? (λq=>q==some j)=some i->js[i]?=some (some j):=λj i h=>by
  rw[List.findIdx?_eq_some_iff_getElem]at h
  obtain⟨hi,he,_⟩:=h
  rw[aab hi,eq_of_beq he]
 have PD:∀j,(BS js env benv)[j]?=(env[j]?).map λo=>(match js.findIdx? (λq=>q==some j)with
   |none=>o
   |some i=>match o,benv[i]? with
    |some s,some (some s')=>DH s s'
    |_,_=>none):=λj=>by
  unfold BS
  rw[List.getElem?_mapIdx]
 have UM:∀i s',benv[i]?=some (some s')->∀c∈fb i,(c∈Z.S\/Z.H₀ c=none)/\((∃i',c∈fp i')\/H c=none):=λi s' e c hc=>by
  obtain⟨v,_,ok⟩:=Lb.at' i s' e
  rcases ok.wr c hc with h|h
  .exact⟨(J7 c h).1,.inl (J7 c h).2⟩
  .exact⟨.inr (K.h0 h),.inr h⟩
 let Jb:Nat->List Addr:=λj=>match js.findIdx? (λq=>q==some j)with
  |none=>fp j
  |some i=>match env[j]?,benv[i]? with
   |some (some s),some (some s')=>if (DH s s').isSome=true then fb i else []
   |_,_=>[]
 have keep:∀c o,H c=some o->c∉GV js env fp H->H' c=some o:=λc o h1 h2=>Kb.sG c o h1 h2
 have S:Slots M Z F' σ H' (BS js env benv) Jb:=by
  refine⟨λj t e=>?_,λj a h=>?_,λj j2 a NG h h2=>?_,λj a t e1 e e3=>?_⟩
  case refine_4=>
   rw[PD]at e
   cases ej:env[j]? with
   |none=>rw[ej]at e;cases e
   |some o=>
    rw[ej]at e
    have e:=aap e
    cases ei:js.findIdx? (λq=>q==some j)with
    |none=>
     rw[ei]at e
     dsimp only at e
     subst e
     exact L.oa j a t e1 ej e3
    |some i=>
     rw[ei]at e
     dsimp only at e
     cases o with
     |none=>cases e
     |some s=>
      cases eb:benv[i]? with
      |none=>rw[eb]at e;cases e
      |some w=>
       cases w with
       |none=>rw[eb]at e;cases e
       |some s'=>
        rw[eb]at e
        dsimp only at e
        unfold DH at e
        split at e
        .split at e
         .rename_i h1 h2
          cases e
          rcases h2 with q|q
          .rw[q]at e3;cases e3
          .rw[q]at e3;cases e3
         .cases e
        .split at e
         .split at e
          .rename_i h1
           exact L.oa j a s e1 ej h1
          .cases e
         .rename_i h1
          cases e
          exact absurd e3 h1
  .rw[PD]at e
   cases ej:env[j]? with
   |none=>rw[ej]at e;cases e
   |some o=>
    rw[ej]at e
    have e:=aap e
    show ∃v,σ[j]?=some (some v)/\Fo M Z F' H' v t (match js.findIdx? (λq=>q==some j)with
     |none=>fp j
     |some i=>match env[j]?,benv[i]? with
      |some (some s),some (some s')=>if (DH s s').isSome=true then fb i else []
      |_,_=>[])
    cases ei:js.findIdx? (λq=>q==some j)with
    |none=>
     rw[ei]at e
     dsimp only at e
     subst e
     obtain⟨v,hv,ok⟩:=L.at' j t ej
     refine⟨v,hv,ok.mono Kb.gr λc hc=>?_⟩
     have Kg:=L.al j c hc
     obtain⟨o,ho⟩:=dh Kg.1
     rw[ho]
     refine keep c o ho λhS=>?_
     obtain⟨i,j',s,e1,e2,e3⟩:=fD hS
     have:j≠j':=λz=>by
      subst z
      rw[afN]at ei
      have:=ei (some j) (abk e1)
      simp at this
     exact L.dj j j' c this hc e3
    |some i=>
     rw[ei]at e
     dsimp only at e ⊢
     have UD:=M6 j i ei
     cases o with
     |none=>cases e
     |some s=>
      rw[ej]
      cases eb:benv[i]? with
      |none=>rw[eb]at e;cases e
      |some w=>
       cases w with
       |none=>rw[eb]at e;cases e
       |some s'=>
        rw[eb]at e
        dsimp only at e ⊢
        rw[e,if_pos (aeH)]
        obtain⟨v0,Gs,RD⟩:=L.at' j s ej
        obtain⟨v,hv,ok⟩:=Lb.at' i s' eb
        rw[hσ i j UD,pT UD Gs]at hv
        cases hv
        refine⟨v0,Gs,?_⟩
        unfold DH at e
        rcases ok with ⟨k,e1,r⟩|⟨k,a,e1,e2,h0,r⟩|⟨k,a,e1,h0,r⟩|⟨k,a,e1,e2,h0,r⟩
        .rw[if_neg (by rw[k];decide),if_neg (by rw[k];decide)]at e
         cases e
         exact .inl ⟨k,e1,r⟩
        .rw[if_neg (by rw[k];decide),if_neg (by rw[k];decide)]at e
         cases e
         exact .inr (.inl ⟨k,a,e1,e2,K.h0 h0,r⟩)
        .rw[if_neg (by rcases k with k|k<;>(rw[k];decide))]at e
         have e:s'=t:=by
          split at e
          .split at e
           .exact aap e
           .cases e
          .exact aap e
         subst e
         refine .inr (.inr (.inl ⟨k,a,e1,λc hc=>(UM i _ eb c hc).1,r⟩))
        .rw[if_pos k]at e
         split at e
         .rename_i hk
          cases e
          rcases RD with ⟨k0,_⟩|⟨k0,a0,f1,f2,f3,_⟩|⟨k0,_⟩|⟨k0,a0,f1,f2,f3,_⟩
          .rw[k0]at hk;rcases hk with z|z<;>cases z
          .rw[e1]at f1;cases f1
           exact .inr (.inl ⟨k0,a,e1,e2,f3,r⟩)
          .rcases k0 with k0|k0<;>(rw[k0]at hk;rcases hk with z|z<;>cases z)
          .rw[e1]at f1;cases f1
           exact .inr (.inr (.inr ⟨k0,a,e1,e2,f3,r⟩))
         .cases e
  .have h:a∈(match js.findIdx? (λq=>q==some j)with
     |none=>fp j
     |some i=>match env[j]?,benv[i]? with
      |some (some s),some (some s')=>if (DH s s').isSome=true then fb i else []
      |_,_=>[]):=h
   split at h
   .rename_i ei
    have h0:=L.al j a h
    obtain⟨o,ho⟩:=dh h0.1
    constructor
    .intro z
     have:=Kb.pr a (by show H a≠none;exact h0.1)
     exact this z
    .cases ef:F' a with
     |none=>rfl
     |some o=>
      rcases Kb.nw a (by rw[ef];simp)with q|q
      .exact absurd h0.2 q
      .exact absurd q h0.1
   .split at h
    .split at h
     .exact Lb.al _ a h
     .simp at h
    .simp at h
  .have h:a∈(match js.findIdx? (λq=>q==some j)with
     |none=>fp j
     |some i=>match env[j]?,benv[i]? with
      |some (some s),some (some s')=>if (DH s s').isSome=true then fb i else []
      |_,_=>[]):=h
   have h2:a∈(match js.findIdx? (λq=>q==some j2)with
     |none=>fp j2
     |some i=>match env[j2]?,benv[i]? with
      |some (some s),some (some s')=>if (DH s s').isSome=true then fb i else []
      |_,_=>[]):=h2
   have OK:∀{j1 i:Nat} {s':Sl},js.findIdx? (λq=>q==some j1)=none->benv[i]?=some (some s')->a∈fp j1->a∈fb i->False:=λ{j1 i s'} e1 e2 m1 m2=>by
    obtain⟨v,_,ok⟩:=Lb.at' i s' e2
    rcases ok.wr a m2 with q|q
    .obtain⟨i',j',s,q1,q2,q3⟩:=fD q
     have:j1≠j':=λz=>by
      subst z
      rw[afN]at e1
      have:=e1 (some j1) (abk q1)
      simp at this
     exact L.dj j1 j' a this m1 q3
    .exact(L.al j1 a m1).1 q
   split at h
   .rename_i ei
    split at h2
    .exact L.dj j j2 a NG h h2
    .split at h2
     .rename_i eb
      split at h2
      .exact OK ei eb h h2
      .simp at h2
     .simp at h2
   .rename_i i ei
    split at h
    .rename_i eb
     split at h
     .split at h2
      .rename_i S5
       exact OK S5 eb h2 h
      .rename_i i2 S5
       split at h2
       .split at h2
        .have:i≠i2:=λz=>by
          subst z
          have q1:=M6 j i ei
          have q2:=M6 j2 i S5
          rw[q1]at q2
          cases q2
          exact NG rfl
         exact Lb.dj i i2 a this h h2
        .simp at h2
       .simp at h2
     .simp at h
    .simp at h
 refine⟨Jb,S,⟨Kb.sF,λb o h1 h2=>keep b o (K.sG b o h1 h2) λhS=>?_,λb h=>Kb.pr b (K.pr b h),ak K.gr Kb.gr,λa h=>?_,by unfold BS;rw[List.length_mapIdx];exact K.len,Jb,S⟩,λj a h=>?_⟩
 .rcases(J7 b hS).1 with q|q
  .exact h2 q
  .rw[q]at h1;cases h1
 .rcases Kb.nw a h with q|q
  .exact K.nw a q
  .exact .inr (K.h0 q)
 .have h:a∈(match js.findIdx? (λq=>q==some j)with
    |none=>fp j
    |some i=>match env[j]?,benv[i]? with
     |some (some s),some (some s')=>if (DH s s').isSome=true then fb i else []
     |_,_=>[]):=h
  split at h
  .exact .inl ⟨j,h⟩
  .split at h
   .rename_i eb
    split at h
    .exact(UM _ _ eb a h).2
    .simp at h
   .simp at h
def J3(M:Md)(f:WE):TE:=λσ H Q=>∃(Z:Zn) (F:Hp) (env:En) (P:PV->En->Prop),AI M Z F σ H env/\f env P/\∀x dO v F' H',P x dO->eQ F F'->AI M Z F' σ H' dO->Rep M.K F' v x->Q v H'
def Mr(M:Md)(f:WT):TT:=λσ H Q=>∃(Z:Zn) (F:Hp) (env:En) (P:Bool->En->Prop),AI M Z F σ H env/\f env P/\∀b dO F' H',P b dO->eQ F F'->AI M Z F' σ H' dO->Q b H'
theorem Bk.pe(h:Bk ob X e f):PE X e (J3 (md ob X) f):=by
 obtain⟨t,ht,k⟩:=h.ex
 rintro pins s σ H Q I ⟨Z,F,env,P,K,hf,kk⟩
 exact ht pins s σ H Q I (k Z F σ H env P Q K hf kk)
structure NQ(ob:Cy)(X:Cx)(ifs:List Expr)(f:WT):Prop where
 ex:PF X ifs (Mr (md ob X) f)
def Fq:WT:=λenv P=>P true env
theorem bM:NQ ob X [] Fq:=⟨by
 rintro pins s σ H Q I ⟨Z,F,env,P,K,hf,kk⟩
 exact tu pins s σ H Q I (kk true env F H hf ao K)⟩
theorem cr(h:G6 ob X c t):NQ ob X [c] t:=⟨by
 obtain⟨w,hw,k⟩:=h.ex
 rintro pins s σ H Q I ⟨Z,F,env,P,K,hf,kk⟩
 exact tm hw pins s σ H Q I (k Z F σ H env P Q K hf kk)⟩
inductive LJ where
 |nm (i:Nat)|tp (l:List Nat)
def Fw:List Nat->Jc
 |[]=>MY
 |i::l=>GN (CG i) (Fw l)
def G3(K:aah):LJ->TG
 |.nm i=>CG i
 |.tp l=>MW K l.length (Fw l)
def Hf:List Nat->List PV->En->En
 |i::l,x::xs,env=>Hf l xs (env.set i (some ⟨0,x⟩))
 |_,_,env=>env
def Gx:LJ->WG
 |.nm i=>λx env P=>P (env.set i (some ⟨0,x⟩))
 |.tp l=>λx env P=>match x with
  |.tup xs=>xs.length=l.length/\P (Hf l xs env)
  |_=>False
def DJ(js:List (Option Nat)):LJ->Bool
 |.nm i=>decide (js[i]?=some none)
 |.tp l=>l.all λi=>decide (js[i]?=some none)
theorem uc:∀{l:List Nat},(l.all λi=>decide (js[i]?=some none))=true->P5 js (Fw l)
 |[],_=>zM
 |i::l,h=>by
  rw[List.all_cons,aaE]at h
  refine yc (jJ (of_decide_eq_true h.1)) (uc h.2) jK ?_
  have mono:∀(l:List Nat),∀x σ H (Q Q':L2.St->Hp->Prop),(∀a b,Q a b->Q' a b)->Fw l x σ H Q->Fw l x σ H Q':=by
   intro l
   induction l with
   |nil=>exact λx σ H Q Q' h q=>⟨q.1,h _ _ q.2⟩
   |cons i l ih=>exact mQ jK ih
  exact mono l
theorem dE{T:LJ}(h:DJ js T=true):DI js (G3 K T):=by
 cases T with
 |nm i=>exact jJ (of_decide_eq_true h)
 |tp l=>exact zL (uc h)
theorem xa{l:List Nat}:∀{σ:L2.St} {env:En} {vs:List V} {xs:List PV} {Q:L2.St->Hp->Prop},AI M Z F σ H env->AJ M.K F vs xs->xs.length=l.length->(∀σ',AI M Z F σ' H (Hf l xs env)->Q σ' H)->Fw l vs σ H Q:=by
 induction l with
 |nil=>
  intro σ env vs xs Q K r hl k
  cases r with
  |nil=>exact⟨rfl,k σ K⟩
  |cons _ _=>simp at hl
 |cons i l ih=>
  intro σ env vs xs Q K r hl k
  cases r with
  |nil=>simp at hl
  |cons r1 r2=>exact⟨_,_,rfl,ih (K.put r1) r2 (by simpa using hl) k⟩
theorem sP{T:LJ}{v:V}{x:PV}{P:En->Prop}{Q:L2.St->Hp->Prop}(K:AI M Z F σ H env)(r:Rep M.K F v x)(hf:Gx T x env P)(k:∀dO σ',P dO->AI M Z F σ' H dO->Q σ' H):G3 M.K T v σ H Q:=by
 cases T with
 |nm i=>exact k _ _ hf (K.put r)
 |tp l=>
  cases r with
  |tup h1 h2=>
   have hf:_/\_:=hf
   exact⟨_,_,rfl,aw K.sF h1,by rw[h2.len];exact hf.1,xa K h2 hf.1 λσ' K'=>k _ σ' hf.2 K'⟩
  |_=>exact(show False from hf).elim
def De(g:WG)(c:WT)(f:WE)(js:List (Option Nat))(P:PV->En->Prop):List PV->En->List PV->Prop
 |[],env,acc=>P (.lst acc) env
 |x::xs,env,acc=>g x (FH js env) λb1=>c b1 λok b2=>if ok=true then f b2 λy b3=>acc.length<=100000/\De g c f js P xs (BS js env b3) (acc++[y])else De g c f js P xs (BS js env b2) acc
def Dj(fi:WA)(T:LJ)(c:WT)(f:WE)(js:List (Option Nat)):WE:=λenv P=>fi env λxs e=>De (Gx T) c f js P xs e []
variable{elt iter kx vx:Expr}{ifs:List Expr}{scope:Scope}{fi:WA}{T:LJ}{c:WT}{fk:WE}{N:List Str}
theorem AI.DU{l:Addr}{o:HO}(K:AI M Z F σ H env)(L:Slots M Z F σ H env fp)(hF:F l=none)(h0:Z.H₀ l=none)(hl:∀i,l∉fp i):AI M Z F σ (upd H l o) env/\Slots M Z F σ (upd H l o) env fp:=by
 have S:Slots M Z F σ (upd H l o) env fp:=by
  refine⟨λi s e=>?_,λi a h=>?_,L.dj,L.oa⟩
  .obtain⟨v,h1,h2⟩:=L.at' i s e
   exact⟨v,h1,h2.mono ao λc hc=>aj λz:c=l=>hl i (by rw[<- z];exact hc)⟩
  .have:=L.al i a h
   refine⟨?_,this.2⟩
   rw[aj (λz:a=l=>hl i (by rw[<- z];exact h))];exact this.1
 refine⟨⟨λa u e=>?_,λb u h1 h2=>?_,λb h=>?_,K.gr,K.nw,K.len,fp,S⟩,S⟩
 .rw[aj (av e hF)];exact K.sF a u e
 .rw[aj (av h1 h0)];exact K.sG b u h1 h2
 .by_cases q:b=l
  .subst q;rw[am];simp
  .rw[aj q];exact K.pr b h
theorem qV{P:PV->En->Prop}{Q:VK}{xs:List PV}{J:It}(hj:GI js=true)(hT:DJ js T=true)(K:AI (md ob X) Z F σ H env)(I1:Gr (md ob X) J F xs)(hf:De (Gx T) c f js P xs env [])
  (kk:∀x dO v F' H',P x dO->eQ F F'->(∀xs,x≠.set xs)->AI (md ob X) Z F' (σ++[some v]) H' (dO++[some ⟨1,x⟩])->Q v H') (l:Addr) (hl:H l=none) :
  ∃W:Nat->Nat->List V->Hp->Prop,(∃m,W 0 m [] (upd H l (.lst [])))/\∀i m ys H2,W i m ys H2 ->
  (J.stop i H2/\Q (.ref l) H2)\/(J.go i H2/\∀x H3,J.yld i H2 x H3->G3 X.K T x (BC js σ) H3 λσ4 H4=>Mr (md ob X) c σ4 H4 λb H5=>
   if b=true then J3 (md ob X) f σ4 H5 λy H6=>H6 l=some (.lst ys)/\ys.length<sizeLine/\∃m',m'<m/\W (i+1) m' (ys++[y]) (upd H6 l (.lst (ys++[y])))else ∃m',m'<m/\W (i+1) m' ys H5):=by
 refine⟨λi m ys H'=>m=xs.length - i/\H' l=some (.lst ys)/\∃F' dO EV fp,eQ F F'/\AI (md ob X) Z F' σ H' dO/\Slots (md ob X) Z F' σ H' dO fp/\F' l=none/\(∀i,l∉fp i)/\AJ X.K F' ys EV/\De (Gx T) c f js P (xs.drop i) dO EV,?_,?_⟩
 .obtain⟨fp,L⟩:=K.sl
  have hF:F l=none:=eQ.none_of K.sF hl
  have hn:∀i,l∉fp i:=λi h=>(L.al i l h).1 hl
  obtain⟨K1,L1⟩:=K.DU (o:=.lst []) L hF (K.h0 hl) hn
  exact⟨_,rfl,am,F,env,[],fp,ao,K1,L1,hF,hn,.nil,hf⟩
 rintro i m ys H2 ⟨rfl,IZ,F',dO,EV,fp,s,K',L',Pq,hn,ry,hg⟩
 have h0:Z.H₀ l=none:=K.h0 hl
 by_cases BW:i<xs.length
 .rw[adx BW]at hg
  obtain⟨h1,h2⟩:=I1.go Z i σ dO F' H2 xs[i] s K' (by simp[BW])
  refine .inr ⟨h1,λv H3 y=>?_⟩
  obtain⟨F2,s2,K2,r2,sH,nw⟩:=h2 v H3 y
  have P4:Slots (md ob X) Z F2 σ H3 dO fp:=L'.move s2 (λ_ c o _ e=>sH c o e) nw
  have SI:F2 l=none:=by
   cases e:F2 l with
   |none=>rfl
   |some o=>
    rcases nw l (by rw[e];simp)with q|q
    .exact absurd Pq q
    .rw[IZ]at q;cases q
  have KN:H3 l=some (.lst ys):=sH _ _ IZ
  have Kb:=pY hj K2 P4
  have hσ4:∀{σ4:L2.St},(∀(k j:Nat),js[k]?=some (some j)->σ4[k]?=(BC js σ)[k]?)->True:=λ_=>trivial
  have Qc:=dE (K:=X.K) hT v (BC js σ) H3 _ (sP (M:=md ob X) (Q:=λσ4 H4=>H4=H3/\∃b1,AI (md ob X) (Zb js dO fp F2 H3) F2 σ4 H3 b1/\c b1 λok b2=>if ok=true then f b2 λy b3=>EV.length<=100000/\De (Gx T) c f js P (xs.drop (i+1)) (BS js dO b3) (EV++[y])else De (Gx T) c f js P (xs.drop (i+1)) (BS js dO b2) EV) Kb r2 hg λe4 σ4 p4 K4=>⟨rfl,e4,K4,p4⟩)
  have mono:∀(Q1 Q2:L2.St->Hp->Prop),(∀a b,Q1 a b->Q2 a b)->G3 X.K T v (BC js σ) H3 Q1->G3 X.K T v (BC js σ) H3 Q2:=by
   have JA:∀(l:List Nat),∀x σ H (Q Q':L2.St->Hp->Prop),(∀a b,Q a b->Q' a b)->Fw l x σ H Q->Fw l x σ H Q':=by
    intro l
    induction l with
    |nil=>exact λx σ H Q Q' h q=>⟨q.1,h _ _ q.2⟩
    |cons i l ih=>exact mQ jK ih
   intro Q1 Q2 hq q
   cases T with
   |nm i=>exact hq _ _ q
   |tp l=>
    obtain⟨a,xs,e1,e2,e3,e4⟩:=q
    exact⟨a,xs,e1,e2,e3,JA l _ _ _ _ _ hq e4⟩
  refine mono _ _ ?_ Qc
  rintro σ4 H4 ⟨⟨rfl,b1,K4,p4⟩,hlen,BQ⟩
  refine⟨_,F2,b1,_,K4,p4,λb b2 F5 H5 p5 s5 K5=>?_⟩
  have again:∀{F6 H6:Hp} {b3:En} {ys':List V} {Ha:List PV},eQ F2 F6->AI (md ob X) (Zb js dO fp F2 H4) F6 σ4 H6 b3->De (Gx T) c f js P (xs.drop (i+1)) (BS js dO b3) Ha->AJ X.K F6 ys' Ha ->
    H6 l=some (.lst ys)/\(∃m',m'<xs.length - i/\m'=xs.length - (i+1)/\(upd H6 l (.lst ys')) l=some (.lst ys')/\∃F' dO EV fp,eQ F F'/\AI (md ob X) Z F' σ (upd H6 l (.lst ys')) dO/\Slots (md ob X) Z F' σ (upd H6 l (.lst ys')) dO fp/\F' l=none/\(∀i,l∉fp i)/\AJ X.K F' ys' EV/\De (Gx T) c f js P (xs.drop (i+1)) dO EV):=λ{F6 H6 b3 ys' Ha} s6 K6 p6 r6=>by
   obtain⟨Jb,L6,Te,Ht⟩:=nQ hj K2 P4 K6 BQ
   have MN:H6 l=some (.lst ys):=K6.sG l _ KN λz=>by
    obtain⟨_,j,_,_,_,hm⟩:=fD z
    exact hn j hm
   have Pl:F6 l=none:=by
    cases e:F6 l with
    |none=>rfl
    |some o=>
     rcases K6.nw l (by rw[e];simp)with q|q
     .exact absurd SI q
     .exact absurd q (by show H4 l≠none;rw[KN];simp)
   have KI:∀i,l∉Jb i:=λi h=>by
    rcases Ht i l h with ⟨i',q⟩|q
    .exact hn i' q
    .rw[KN]at q;cases q
   obtain⟨K7,L7⟩:=Te.DU (o:=.lst ys') L6 Pl h0 KI
   exact⟨MN,_,by omega,rfl,am,F6,_,_,Jb,ak s (ak s2 s6),K7,L7,Pl,KI,r6,p6⟩
  cases b with
  |false=>
   refine EH ?_
   obtain⟨Sn,m',h1,h2,h3,F',dO,EV,fp,q1,q2,q3,q4⟩:=again (ys':=ys) s5 K5 p5 ((ry.mono s2).mono s5)
   have e:upd H5 l (.lst ys)=H5:=by
    funext a
    by_cases z:a=l
    .subst z;rw[am,Sn]
    .rw[aj z]
   rw[e]at h3 q2 q3
   exact⟨m',h1,h2,h3,F',dO,EV,fp,q1,q2,q3,q4⟩
  |true=>
   refine Fc ⟨_,F5,b2,_,K5,p5,λy b3 v6 F6 H6 p6 s6 K6 r6=>?_⟩
   obtain⟨MN,q⟩:=again (ys':=ys++[v6]) (ak s5 s6) K6 p6.2 ((((ry.mono s2).mono s5).mono s6).app (.cons r6 .nil))
   refine⟨MN,?_,q⟩
   have:=p6.1
   rw[ry.len,aaC];omega
 .rw[adZ (by omega)]at hg
  refine .inl ⟨I1.stop Z i σ dO F' H2 s K' (by omega),kk _ dO _ F' H2 hg s (λ_=>by simp) ?_⟩
  refine K'.slots (by simp[K'.len]) (L'.push (l:=[l]) (by simp) K'.len (.inr (.inl ⟨rfl,l,rfl,rfl,h0,ys,IZ,ry⟩)) (λa ha=>?_) λj a ha=>?_)
  .simp at ha;subst ha
   exact⟨by rw[IZ];simp,Pq⟩
  .simp at ha;subst ha
   exact hn j
theorem bx(hi:Jd ob X tg iter fi)(hg:∀C s₀ H₀ ex pn,PG (AK X scope N C s₀ H₀ ex pn) tg (G3 X.K T))(ht:∀C s₀ H₀ ex pn,NQ ob (AK X scope N C s₀ H₀ ex pn) ifs c)(he:∀C s₀ H₀ ex pn,Bk ob (AK X scope N C s₀ H₀ ex pn) elt f)
  (hj:GI js=true:=by rfl) (hT:DJ js T=true:=by rfl)
  (hc:X.calm=true:=by rfl) (hx:X.xe=(λ_ _=>False):=by rfl) (D7:D9 X.env scope=true:=by rfl) (BQ:CI X.N scope N js=true:=by rfl) (Bf:scope.kind=.function:=by rfl) (hs:∀x,abb iter X.env x=pure x:=by intro _;rfl) :
  IQ ob X (.ListComp elt [⟨tg,iter,ifs,0⟩] scope pos) (Dj fi T c f js):=by
 obtain⟨wi,JF,k⟩:=hi.ex
 refine⟨_,wN (wi:=wi) (g:=G3 X.K T) (tc:=Mr (md ob X) c) (te:=J3 (md ob X) f) (js:=js) JF hg (λC s₀ H₀ ex pn=>(ht C s₀ H₀ ex pn).ex) (λC s₀ H₀ ex pn=>(he C s₀ H₀ ex pn).pe) (dE hT) hc hx D7 BQ Bf hs,λZ F σ H env P Q K hf kk=>?_⟩
 refine k Z F σ H env _ _ K hf λxs e1 J F1 H1 p s1 K1 I1 l hl=>?_
 exact qV hj hT K1 I1 p (λx e2 v F2 H2 p2 s2 IW K2=>kk x e2 v F2 H2 p2 (ak s1 s2) IW K2) l hl
def El(g:WG)(c:WT)(fk f:WE)(js:List (Option Nat))(P:PV->En->Prop):List PV->En->List (Key×PV)->Prop
 |[],env,acc=>P (.BJ acc) env
 |x::xs,env,acc=>g x (FH js env) λb1=>c b1 λok b2=>if ok=true then fk b2 λkk b3=>f b3 λy b4=>acc.length<=100000/\opt (DZ kk) λkey=>El g c fk f js P xs (BS js env b4) (E6 acc key y)else El g c fk f js P xs (BS js env b2) acc
def KW(fi:WA)(T:LJ)(c:WT)(fk f:WE)(js:List (Option Nat)):WE:=λenv P=>fi env λxs e=>El (Gx T) c fk f js P xs e []
theorem rp{P:PV->En->Prop}{Q:VK}{xs:List PV}{J:It}(hj:GI js=true)(hT:DJ js T=true)(K:AI (md ob X) Z F σ H env)(I1:Gr (md ob X) J F xs)(hf:El (Gx T) c fk f js P xs env [])
  (kk:∀x dO v F' H',P x dO->eQ F F'->(∀xs,x≠.set xs)->AI (md ob X) Z F' (σ++[some v]) H' (dO++[some ⟨1,x⟩])->Q v H') (l:Addr) (hl:H l=none) :
  ∃W:Nat->Nat->List (Key×V)->Hp->Prop,(∃m,W 0 m [] (upd H l (.dK [])))/\∀i m ys H2,W i m ys H2 ->
  (J.stop i H2/\Q (.ref l) H2)\/(J.go i H2/\∀x H3,J.yld i H2 x H3->G3 X.K T x (BC js σ) H3 λσ4 H4=>Mr (md ob X) c σ4 H4 λb H5=>
   if b=true then J3 (md ob X) fk σ4 H5 λkk H6=>J3 (md ob X) f σ4 H6 λy H7=>∃key,kk=kV key/\H7 l=some (.dK ys)/\ys.length<sizeLine/\∃m',m'<m/\W (i+1) m' (putK ys key y) (upd H7 l (.dK (putK ys key y)))else ∃m',m'<m/\W (i+1) m' ys H5):=by
 refine⟨λi m ys H'=>m=xs.length - i/\H' l=some (.dK ys)/\∃F' dO EV fp,eQ F F'/\AI (md ob X) Z F' σ H' dO/\Slots (md ob X) Z F' σ H' dO fp/\F' l=none/\(∀i,l∉fp i)/\AL X.K F' ys EV/\El (Gx T) c fk f js P (xs.drop i) dO EV,?_,?_⟩
 .obtain⟨fp,L⟩:=K.sl
  have hF:F l=none:=eQ.none_of K.sF hl
  have hn:∀i,l∉fp i:=λi h=>(L.al i l h).1 hl
  obtain⟨K1,L1⟩:=K.DU (o:=.dK []) L hF (K.h0 hl) hn
  exact⟨_,rfl,am,F,env,[],fp,ao,K1,L1,hF,hn,.nil,hf⟩
 rintro i m ys H2 ⟨rfl,IZ,F',dO,EV,fp,s,K',L',Pq,hn,ry,hg⟩
 have h0:Z.H₀ l=none:=K.h0 hl
 by_cases BW:i<xs.length
 .rw[adx BW]at hg
  obtain⟨h1,h2⟩:=I1.go Z i σ dO F' H2 xs[i] s K' (by simp[BW])
  refine .inr ⟨h1,λv H3 y=>?_⟩
  obtain⟨F2,s2,K2,r2,sH,nw⟩:=h2 v H3 y
  have P4:Slots (md ob X) Z F2 σ H3 dO fp:=L'.move s2 (λ_ c o _ e=>sH c o e) nw
  have SI:F2 l=none:=by
   cases e:F2 l with
   |none=>rfl
   |some o=>
    rcases nw l (by rw[e];simp)with q|q
    .exact absurd Pq q
    .rw[IZ]at q;cases q
  have KN:H3 l=some (.dK ys):=sH _ _ IZ
  have Kb:=pY hj K2 P4
  have hσ4:∀{σ4:L2.St},(∀(k j:Nat),js[k]?=some (some j)->σ4[k]?=(BC js σ)[k]?)->True:=λ_=>trivial
  have Qc:=dE (K:=X.K) hT v (BC js σ) H3 _ (sP (M:=md ob X) (Q:=λσ4 H4=>H4=H3/\∃b1,AI (md ob X) (Zb js dO fp F2 H3) F2 σ4 H3 b1/\c b1 λok b2=>if ok=true then fk b2 λkk b3=>f b3 λy b4=>EV.length<=100000/\opt (DZ kk) λkey=>El (Gx T) c fk f js P (xs.drop (i+1)) (BS js dO b4) (E6 EV key y)else El (Gx T) c fk f js P (xs.drop (i+1)) (BS js dO b2) EV) Kb r2 hg λe4 σ4 p4 K4=>⟨rfl,e4,K4,p4⟩)
  have mono:∀(Q1 Q2:L2.St->Hp->Prop),(∀a b,Q1 a b->Q2 a b)->G3 X.K T v (BC js σ) H3 Q1->G3 X.K T v (BC js σ) H3 Q2:=by
   have JA:∀(l:List Nat),∀x σ H (Q Q':L2.St->Hp->Prop),(∀a b,Q a b->Q' a b)->Fw l x σ H Q->Fw l x σ H Q':=by
    intro l
    induction l with
    |nil=>exact λx σ H Q Q' h q=>⟨q.1,h _ _ q.2⟩
    |cons i l ih=>exact mQ jK ih
   intro Q1 Q2 hq q
   cases T with
   |nm i=>exact hq _ _ q
   |tp l=>
    obtain⟨a,xs,e1,e2,e3,e4⟩:=q
    exact⟨a,xs,e1,e2,e3,JA l _ _ _ _ _ hq e4⟩
  refine mono _ _ ?_ Qc
  rintro σ4 H4 ⟨⟨rfl,b1,K4,p4⟩,hlen,BQ⟩
  refine⟨_,F2,b1,_,K4,p4,λb b2 F5 H5 p5 s5 K5=>?_⟩
  have again:∀{F6 H6:Hp} {b3:En} {ys':List (Key×V)} {Ha:List (Key×PV)},eQ F2 F6->AI (md ob X) (Zb js dO fp F2 H4) F6 σ4 H6 b3->El (Gx T) c fk f js P (xs.drop (i+1)) (BS js dO b3) Ha->AL X.K F6 ys' Ha ->
    H6 l=some (.dK ys)/\(∃m',m'<xs.length - i/\m'=xs.length - (i+1)/\(upd H6 l (.dK ys')) l=some (.dK ys')/\∃F' dO EV fp,eQ F F'/\AI (md ob X) Z F' σ (upd H6 l (.dK ys')) dO/\Slots (md ob X) Z F' σ (upd H6 l (.dK ys')) dO fp/\F' l=none/\(∀i,l∉fp i)/\AL X.K F' ys' EV/\El (Gx T) c fk f js P (xs.drop (i+1)) dO EV):=λ{F6 H6 b3 ys' Ha} s6 K6 p6 r6=>by
   obtain⟨Jb,L6,Te,Ht⟩:=nQ hj K2 P4 K6 BQ
   have MN:H6 l=some (.dK ys):=K6.sG l _ KN λz=>by
    obtain⟨_,j,_,_,_,hm⟩:=fD z
    exact hn j hm
   have Pl:F6 l=none:=by
    cases e:F6 l with
    |none=>rfl
    |some o=>
     rcases K6.nw l (by rw[e];simp)with q|q
     .exact absurd SI q
     .exact absurd q (by show H4 l≠none;rw[KN];simp)
   have KI:∀i,l∉Jb i:=λi h=>by
    rcases Ht i l h with ⟨i',q⟩|q
    .exact hn i' q
    .rw[KN]at q;cases q
   obtain⟨K7,L7⟩:=Te.DU (o:=.dK ys') L6 Pl h0 KI
   exact⟨MN,_,by omega,rfl,am,F6,_,_,Jb,ak s (ak s2 s6),K7,L7,Pl,KI,r6,p6⟩
  cases b with
  |false=>
   refine EH ?_
   obtain⟨Sn,m',h1,h2,h3,F',dO,EV,fp,q1,q2,q3,q4⟩:=again (ys':=ys) s5 K5 p5 ((ry.mono s2).mono s5)
   have e:upd H5 l (.dK ys)=H5:=by
    funext a
    by_cases z:a=l
    .subst z;rw[am,Sn]
    .rw[aj z]
   rw[e]at h3 q2 q3
   exact⟨m',h1,h2,h3,F',dO,EV,fp,q1,q2,q3,q4⟩
  |true=>
   refine Fc ⟨_,F5,b2,_,K5,p5,λkx b3 v6 F6 H6 p6 s6 K6 r6=>⟨_,F6,b3,_,K6,p6,λy b4 v7 F7 H7 p7 s7 K7 r7=>?_⟩⟩
   obtain⟨p7,key,GJ,p8⟩:=p7
   have TJ:=ak s5 (ak s6 s7)
   obtain⟨MN,q⟩:=again (ys':=putK ys key v7) TJ K7 p8 (((ry.mono s2).mono TJ).put r7)
   refine⟨key,gO GJ r6,MN,?_,q⟩
   rw[ry.len,aaC];omega
 .rw[adZ (by omega)]at hg
  refine .inl ⟨I1.stop Z i σ dO F' H2 s K' (by omega),kk _ dO _ F' H2 hg s (λ_=>by simp) ?_⟩
  refine K'.slots (by simp[K'.len]) (L'.push (l:=[l]) (by simp) K'.len (.inr (.inl ⟨rfl,l,rfl,rfl,h0,ys,IZ,ry⟩)) (λa ha=>?_) λj a ha=>?_)
  .simp at ha;subst ha
   exact⟨by rw[IZ];simp,Pq⟩
  .simp at ha;subst ha
   exact hn j
theorem wU(hi:Jd ob X tg iter fi)(hg:∀C s₀ H₀ ex pn,PG (AK X scope N C s₀ H₀ ex pn) tg (G3 X.K T))(ht:∀C s₀ H₀ ex pn,NQ ob (AK X scope N C s₀ H₀ ex pn) ifs c)(hk:∀C s₀ H₀ ex pn,Bk ob (AK X scope N C s₀ H₀ ex pn) kx fk)(he:∀C s₀ H₀ ex pn,Bk ob (AK X scope N C s₀ H₀ ex pn) vx f)
  (hj:GI js=true:=by rfl) (hT:DJ js T=true:=by rfl)
  (hc:X.calm=true:=by rfl) (hx:X.xe=(λ_ _=>False):=by rfl) (D7:D9 X.env scope=true:=by rfl) (BQ:CI X.N scope N js=true:=by rfl) (Bf:scope.kind=.function:=by rfl) (hs:∀x,abb iter X.env x=pure x:=by intro _;rfl) :
  IQ ob X (.DictComp kx vx [⟨tg,iter,ifs,0⟩] scope pos) (KW fi T c fk f js):=by
 obtain⟨wi,JF,k⟩:=hi.ex
 refine⟨_,Al (wi:=wi) (g:=G3 X.K T) (tc:=Mr (md ob X) c) (tk:=J3 (md ob X) fk) (te:=J3 (md ob X) f) (js:=js) JF hg (λC s₀ H₀ ex pn=>(ht C s₀ H₀ ex pn).ex) (λC s₀ H₀ ex pn=>(hk C s₀ H₀ ex pn).pe) (λC s₀ H₀ ex pn=>(he C s₀ H₀ ex pn).pe) (dE hT) hc hx D7 BQ Bf hs,λZ F σ H env P Q K hf kk=>?_⟩
 refine k Z F σ H env _ _ K hf λxs e1 J F1 H1 p s1 K1 I1 l hl=>?_
 exact rp hj hT K1 I1 p (λx e2 v F2 H2 p2 s2 IW K2=>kk x e2 v F2 H2 p2 (ak s1 s2) IW K2) l hl
variable{BN:Pos}
theorem wT(i:Nat){y:Str}(hN:X.N.Nodup)(hy:X.N[i]?=some y)(hl:X.env.scope.names.lookup y=some .local)(hi:Jd ob X tg iter fi)(hg:∀C s₀ H₀ ex pn,PG (AK X scope N C s₀ H₀ ex pn) tg (G3 X.K T))(ht:∀C s₀ H₀ ex pn,NQ ob (AK X scope N C s₀ H₀ ex pn) ifs c)(hk:∀C s₀ H₀ ex pn,Bk ob (AK X scope N C s₀ H₀ ex pn) kx fk)(he:∀C s₀ H₀ ex pn,Bk ob (AK X scope N C s₀ H₀ ex pn) vx f)
  (hj:GI js=true:=by rfl) (hT:DJ js T=true:=by rfl)
  (JJ:abV (.DictComp kx vx [⟨tg,iter,ifs,0⟩] scope pos) (some (.Name y py)) BN.line X.env=pure true:=by rfl)
  (hc:X.calm=true:=by rfl) (hx:X.xe=(λ_ _=>False):=by rfl) (D7:D9 X.env scope=true:=by rfl) (BQ:CI X.N scope N js=true:=by rfl) (Bf:scope.kind=.function:=by rfl) (hs:∀x,abb iter X.env x=pure x:=by intro _;rfl) :
  EU ob X (.Assign [.Name y py] (.DictComp kx vx [⟨tg,iter,ifs,0⟩] scope pos) BN) (Dq i (KW fi T c fk f js)):=by
 obtain⟨wi,JF,k⟩:=hi.ex
 refine⟨_,wM (i:=i) (wi:=wi) (g:=G3 X.K T) (tc:=Mr (md ob X) c) (tk:=J3 (md ob X) fk) (te:=J3 (md ob X) f) (js:=js) hN hy hl JF hg (λC s₀ H₀ ex pn=>(ht C s₀ H₀ ex pn).ex) (λC s₀ H₀ ex pn=>(hk C s₀ H₀ ex pn).pe) (λC s₀ H₀ ex pn=>(he C s₀ H₀ ex pn).pe) (dE hT) JJ hc hx D7 BQ Bf hs,λZ F σ H env P D K hf L=>?_⟩
 refine k Z F σ H env _ _ K hf λxs e1 J F1 H1 p s1 K1 I1 l hl=>?_
 exact rp (P:=λx e=>P.nx (e.set i (some ⟨1,x⟩))) (Q:=λv H'=>D.nx (σ.set i (some v)) H') hj hT K1 I1 p (λx e2 v F2 H2 p2 s2 IW K2=>L.nx _ _ F2 H2 p2 (ak s1 s2) K2.take) l hl
abbrev LM:=List PV->List PV->Option (PV×List PV)
def JW(m:LM)(i:Nat)(fa:WA):WE:=λenv P=>(match env[i]? with|some (some ⟨1,.lst _⟩)=>True|some (some ⟨3,.lst _⟩)=>True|_=>False)/\fa env λxs e=>match e[i]? with
 |some (some ⟨1,.lst ys⟩)=>opt (m ys xs) λr=>P r.1 (e.set i (some ⟨1,.lst r.2⟩))
 |some (some ⟨3,.lst ys⟩)=>opt (m ys xs) λr=>P r.1 (e.set i (some ⟨3,.lst r.2⟩))
 |_=>False
def PY(K:aah)(r:V->List V->Hp->VK->Prop)(m:LM):Prop :=
 ∀(F H:Hp) (l:Addr) (ys vs:List V) (ps xs:List PV) (z:PV) (Io:List PV) (Q:VK),eQ F H->H l=some (.lst ys)->AJ K F ys ps->AJ K F vs xs->m ps xs=some (z,Io) ->
  (∀v ys',Rep K F v z->AJ K F ys' Io->Q v (upd H l (.lst ys')))->r (.ref l) vs H Q
variable{c:Expr}{apos Bg:Pos}{name:Str}{r:V->List V->Hp->VK->Prop}{m:LM}
theorem tV{t:TA}{i:Nat}(hq:PY X.K r m)(k:∀(Z:Zn) (F:Hp) (σ:L2.St) (H:Hp) (env:En) (P:List PV->En->Prop) (Q:List V->Hp->Prop),AI (md ob X) Z F σ H env->fa env P->(∀xs dO vs F' H',P xs dO->xs.length=es.length->eQ F F'->AI (md ob X) Z F' σ H' dO->AJ X.K F' vs xs->Q vs H')->t σ H Q):
  ∀(Z:Zn) (F:Hp) (σ:L2.St) (H:Hp) (env:En) (P:PV->En->Prop) (Q:VK),AI (md ob X) Z F σ H env->JW m i fa env P->(∀x dO v F' H',P x dO->eQ F F'->AI (md ob X) Z F' σ H' dO->Rep X.K F' v x->Q v H')->Tw X.K "list" r (BF i) t σ H Q:=by
 intro Z F σ H env P Q K hf kk
 obtain⟨h0,hf⟩:=hf
 obtain⟨a,hσ,Nr,ha⟩:∃a,σ[i]?=some (some (.ref a))/\∃vs,H a=some (.lst vs):=by
  split at h0
  .rename_i e
   obtain⟨a,h1,vs,h2,_⟩:=K.ownAt (.inl rfl) e
   exact⟨a,h1,vs,h2⟩
  .rename_i e
   obtain⟨a,h1,vs,h2,_⟩:=K.ownAt (.inr rfl) e
   exact⟨a,h1,vs,h2⟩
  .exact h0.elim
 refine⟨_,hσ,.inl ⟨rfl,Nr,.inl (.inl ha)⟩,?_⟩
 refine k Z F σ H env _ _ K hf λxs e1 vs F1 H1 p _ s1 K1 r1=>?_
 have fin:∀(kd:Nat) (ys:List PV),kd=1\/kd=3->e1[i]?=some (some ⟨kd,.lst ys⟩)->opt (m ys xs) (λr=>P r.1 (e1.set i (some ⟨kd,.lst r.2⟩)))->r (.ref a) vs H1 Q:=λkd ys hk ei ⟨⟨z,ys'⟩,hm,p⟩=>by
  obtain⟨a',h1,ws,h2,h3⟩:=K1.ownAt hk ei
  rw[hσ]at h1;cases h1
  refine hq F1 H1 a ws vs ys xs z ys' Q K1.sF h2 h3 r1 hm λv us rv ru=>?_
  exact kk z _ v F1 _ p s1 (K1.write (o:=.lst us) hk ei hσ ⟨us,am,ru⟩) rv
 split at p
 .rename_i ei;exact fin _ _ (.inl rfl) ei p
 .rename_i ei;exact fin _ _ (.inr rfl) ei p
 .exact p.elim
theorem jM(i:Nat)(slot:Slot "list" name Lr)(Iv:typeOf (.builtin Lr)=pure (.type "method_descriptor"))(hm:QK X Lr r)(hq:PY X.K r m)(ho:PE X (.Name x p) (BF i))(ha:G0 ob X (e::es) fa)
  (B0:ab7 (.Name x p) name X.env (eval (.Name x p) X.env)=eval (.Name x p) X.env:=by rfl)
  (Fe:((backTo Bg (aam (e::es) X.env)).all (λx=>!x.1) && (aej Bg (ac5 [] X.env)).all (λx=>x.1.isSome)
   && decide ((e::es).length+([]:List ada).length+(if ([]:List ada).isEmpty then 0 else 1)<30))=true:=by rfl)
  (BZ:(apos.endLine==Bg.line)=true:=by rfl) (hs:aam (e::es) X.env=(false,eval e X.env)::aam es X.env:=by rfl) (Cr:(backTo Bg (aam es X.env)).any (·.1)=false:=by rfl) :
  Bk ob X (.Call (.Attribute (.Name x p) name apos) (e::es) [] Bg) (JW m i fa):=by
 obtain⟨t,ht,k⟩:=ha.ex
 exact⟨_,rY acW slot Iv hm ho ht B0 Fe BZ hs Cr,tV hq k⟩
theorem zT(i:Nat)(slot:Slot "list" name Lr)(Iv:typeOf (.builtin Lr)=pure (.type "method_descriptor"))(hm:QK X Lr r)(hq:PY X.K r m)(ho:PE X (.Name x p) (BF i))
  (B0:ab7 (.Name x p) name X.env (eval (.Name x p) X.env)=eval (.Name x p) X.env:=by rfl) (BZ:(apos.endLine==Bg.line)=true:=by rfl):Bk ob X (.Call (.Attribute (.Name x p) name apos) [] [] Bg) (JW m i bY):=by
 refine⟨_,za acW slot Iv hm ho B0 BZ,λZ F σ H env P Q K hf kk=>?_⟩
 obtain⟨v,h1,h2,h3⟩:=tV (es:=[]) (i:=i) (t:=Il) hq (λZ F σ H env P Q K hf k=>k [] env [] F H hf rfl ao K .nil) Z F σ H env P Q K hf kk
 exact⟨v,h1,h2,h3⟩
def ci:LM:=λys xs=>match xs with
 |[x]=>if ys.length<=100000 then some (.AF,ys++[x])else none
 |_=>none
theorem cT:PY X.K qN ci:=by
 intro F H l ys vs ps xs z Io Q sF hl ry rx hm k
 unfold ci at hm
 split at hm
 .split at hm
  .cases hm
   cases rx with
   |cons r1 r2=>
    cases r2
    refine⟨l,ys,_,rfl,rfl,hl,?_,k _ _ .AF (ry.app (.cons r1 .nil))⟩
    rw[ry.len,aaC];omega
  .cases hm
 .cases hm
def KC:LM:=λys xs=>match xs with
 |[]=>(ys[ys.length - 1]?).map λy=>(y,ys.dropLast)
 |_=>none
theorem AJ.dl{vs:List V}{xs:List PV}(h:AJ K F vs xs):AJ K F vs.dropLast xs.dropLast:=by
 rw[List.dropLast_eq_take,List.dropLast_eq_take,h.len]
 exact h.take _
theorem zn:PY X.K Oh KC:=by
 intro F H l ys vs ps xs z Io Q sF hl ry rx hm k
 unfold KC at hm
 split at hm
 .rw[aaA]at hm
  obtain⟨y,hy,e⟩:=hm
  cases e
  cases rx
  obtain⟨v,hv,rv⟩:=ry.get hy
  exact⟨l,ys,v,rfl,rfl,hl,by rw[ry.len];exact hv,k _ _ rv ry.dl⟩
 .cases hm
def FN:PV->PV->PV->Option PV
 |.lst xs,.int i,v=>(J6 xs.length i).map λj=>.lst (xs.set j v)
 |.BJ kvs,y,v=>if kvs.length<=100000 then (DZ y).map λk=>.BJ (E6 kvs k v)else none
 |_,_,_=>none
def Mk(i:Nat)(fv fk:WE):WS:=λP env=>fv env λv e1=>(e1[i]?).join.isSome=true/\fk e1 λy e2=>match e2[i]? with
 |some (some ⟨1,x⟩)=>opt (FN x y v) λz=>P.nx (e2.set i (some ⟨1,z⟩))
 |some (some ⟨3,x⟩)=>opt (FN x y v) λz=>P.nx (e2.set i (some ⟨3,z⟩))
 |_=>False
variable{ke:Expr}
def Lj:JZ:=λo i v H Q=>∃a H',o=.ref a/\Nl H a i v H'/\Q H'
theorem ve(hu:X.A.units+1<cLine):GZ X Lj:=by
 intro pins s σ H o i v ov iv u Q I ro ri rv h
 obtain⟨a,H',rfl,g,q⟩:=h
 cases ro
 exact uJ hu I g ri rv λs4 I4=>⟨H',I4,q⟩
theorem GZ.or{t u:JZ}(h:GZ X t)(h':GZ X u):GZ X (λo i v H Q=>t o i v H Q\/u o i v H Q):=by
 intro pins s σ H o i v ov iv w Q I ro ri rv q
 rcases q with q|q
 .exact h pins s σ H o i v ov iv w Q I ro ri rv q
 .exact h' pins s σ H o i v ov iv w Q I ro ri rv q
theorem zO(i:Nat)(hu:X.A.units+1<cLine)(hv:Bk ob X e f)(ho:PE X (.Name x p) (BF i))(hk:Bk ob X ke fk)
  (hs:adK [.Subscript (.Name x p) ke pos] e BN.line X.env=pure false:=by rfl) (hw:adL [.Subscript (.Name x p) ke pos] e X.env=pure none:=by rfl)
  (h1:(acq [.Subscript (.Name x p) ke pos] X.env).map (·.2)=[assign (.Subscript (.Name x p) ke pos) X.env]:=by rfl)
  (ha:∀v,assign (.Subscript (.Name x p) ke pos) X.env v=(do
   let ov <- ad5 [v] (eval (.Name x p) X.env)
   let iv <- ad5 [v,ov] (eval ke X.env)
   standAt pos
   ad5 [v,ov,iv] (setItem ov iv v)
   release [v,ov,iv] []):=by intro _;rfl):EU ob X (.Assign [.Subscript (.Name x p) ke pos] e BN) (Mk i f fk):=by
 obtain⟨t,ht,k⟩:=hv.ex
 obtain⟨t2,JH,k2⟩:=hk.ex
 refine⟨_,lv ht (o4 ho JH (GZ.or kn (ve hu)) ha) hs hw h1,λZ F σ H env P D K hf L=>k Z F σ H env _ _ K hf λv e1 v' F1 H1 p s1 K1 r1=>?_⟩
 obtain⟨h0,p⟩:=p
 obtain⟨w,hw⟩:∃v,σ[i]?=some (some v):=by
  cases e:e1[i]? with
  |none=>rw[e]at h0;cases h0
  |some w=>
   cases w with
   |none=>rw[e]at h0;cases h0
   |some s=>
    obtain⟨fp,L⟩:=K1.sl
    obtain⟨v,hv,_⟩:=L.at' i s e
    exact⟨v,hv⟩
 refine⟨w,hw,k2 Z F1 σ H1 e1 _ _ K1 p λy e2 y' F2 H2 p2 s2 K2 r2=>?_⟩
 have fin:∀(kd:Nat) (x:PV),kd=1\/kd=3->e2[i]?=some (some ⟨kd,x⟩)->opt (FN x y v) (λz=>P.nx (e2.set i (some ⟨kd,z⟩)))->(HP w y' v' H2 λH3=>D.nx σ H3)\/Lj w y' v' H2 λH3=>D.nx σ H3:=λkd x hk ei ⟨z,hz,p⟩=>by
  obtain⟨a,h1,hx⟩:=K2.ownAt hk ei
  rw[hw]at h1;cases h1
  have TM:=r1.mono s2
  unfold FN at hz
  split at hz
  .rw[aaA]at hz
   obtain⟨j,hj,rfl⟩:=hz
   obtain⟨vs,h2,h3⟩:=hx
   cases r2
   exact .inl ⟨a,vs,_,j,rfl,rfl,h2,by rw[h3.len];exact hj,L.nx _ _ F2 _ p (ak s1 s2) (K2.write (o:=.lst (vs.set j v')) hk ei hw ⟨_,am,h3.Ro j TM⟩)⟩
  .split at hz
   .rw[aaA]at hz
    obtain⟨j,hj,rfl⟩:=hz
    obtain⟨vs,h2,h3⟩:=hx
    have hy:=gO hj r2
    subst hy
    exact .inr ⟨a,_,rfl,Vq h2 (by rw[h3.len,aaC];omega),L.nx _ _ F2 _ p (ak s1 s2) (K2.write (o:=.dK (putK vs j v')) hk ei hw ⟨_,am,h3.put TM⟩)⟩
   .cases hz
  .cases hz
 split at p2
 .rename_i ei;exact fin _ _ (.inl rfl) ei p2
 .rename_i ei;exact fin _ _ (.inr rfl) ei p2
 .exact p2.elim
abbrev Fd:=List PV->(PV->Prop)->Prop
def Kp(M:Md)(n:Nat)(D:Fd):Sp:=λvs H Q _=>∃(F:Hp) (xs:List PV) (P:PV->Prop),eQ F H/\AJ M.K F vs xs/\xs.length=n/\D xs P /\
 ∀r v F' H',P r->eQ H H'->eQ F F'->eQ F' H'->(∀a,F' a≠none->F a≠none\/H a=none)->Rep M.K F' v r->Q v H'
def BM(n:Nat)(xs:List PV):En:=xs.map (λx=>some ⟨0,x⟩)++aaI (n - xs.length) none
def Na(P:PV->Prop):Wd:={nx:=λ_=>P .AF,rt:=λx _=>P x}
def run(n:Nat)(u:WS):Fd:=λxs P=>u (Na P) (BM n xs)
abbrev D5:=PV->List PV->(PV->PV->Prop)->Prop
def J2(M:Md)(n:Nat)(D:D5):Sp:=λvs H Q _=>∃(F:Hp) (a:Addr) (l:List Addr) (c:PV) (ws:List V) (xs:List PV) (P:PV->PV->Prop),vs=.ref a::ws/\eQ F H/\AJ M.K F ws xs/\xs.length+1=n /\
 M.ob.P F H a l c/\(∀b∈l,H b≠none/\F b=none)/\D c xs P /\
 ∀r c' v F' H' l',P r c'->(∀b o,H b=some o->b∉l->H' b=some o)->(∀b,H b≠none->H' b≠none)->eQ F F'->eQ F' H'->(∀a,F' a≠none->F a≠none\/H a=none)->M.ob.P F' H' a l' c'->(∀b∈l',H' b≠none/\F' b=none)->(∀b∈l',b∈l\/H b=none)->Rep M.K F' v r->Q v H'
def OB(P:PV->Prop)(e:En):Prop:=match e[(0:Nat)]? with
 |some (some ⟨2,c⟩)=>P c
 |_=>False
def JV(P:PV->PV->Prop):Wd:={nx:=λe=>OB (P .AF) e,rt:=λx e=>OB (P x) e}
def Fy(n:Nat)(u:WS):D5:=λc xs P=>u (JV P) (some ⟨2,c⟩::BM (n - 1) xs)
theorem iM{vs:List V}(h:vs.length<=N.length):(start N vs).length=N.length:=by
 unfold L2.start
 rw[aau,aac,ab9];omega
theorem hW{xs:List PV}(h:xs.length<=n):(BM n xs).length=n:=by
 unfold BM
 rw[aau,aac,ab9];omega
theorem hZ{xs:List PV}{i:Nat}{s:Sl}(h:(BM n xs)[i]?=some (some s)):∃x,xs[i]?=some x/\s=⟨0,x⟩:=by
 unfold BM at h
 rcases aaU i xs.length with q|q
 .rw[aay (by simpa using q),aaj,aab q]at h
  exact⟨xs[i],by simp[q],(aap (aap h)).symm⟩
 .rw[acG (by simpa using q),List.getElem?_replicate]at h
  split at h<;>cases h
theorem dQ{vs:List V}{i:Nat}{v:V}(h:vs[i]?=some v):(start N vs)[i]?=some (some v):=by
 unfold L2.start
 have q:i<vs.length:=by
  rcases aaU i vs.length with q|q
  .exact q
  .rw[aao q]at h;cases h
 rw[aay (by simpa using q),aaj,h];rfl
theorem nk{vs:List V}{xs:List PV}(sF:eQ F H)(r:AJ M.K F vs xs)(hl:xs.length<=N.length):AI M ⟨H,F,[],λ_=>none,λ_ h=>by simp at h⟩ F (start N vs) H (BM N.length xs):=by
 have Iy:vs.length<=N.length:=by rw[r.len];exact hl
 refine⟨sF,λb o h _=>h,λb h=>h,ao,λa h=>.inl h,by rw[hW hl,iM Iy],λ_=>[],λi s h=>?_,λi a h=>by simp at h,λi j a _ h=>by simp at h,λi a s h=>by cases h⟩
 obtain⟨x,hx,rfl⟩:=hZ h
 obtain⟨v,hv,rv⟩:=r.get hx
 exact⟨v,dQ hv,.inl ⟨rfl,rfl,rv⟩⟩
variable{l:List Addr}
theorem rT{xs:List PV}{a:Addr}{c:PV}(sF:eQ F H)(r:AJ M.K F ws xs)(hl:xs.length+1<=N.length)(ho:M.ob.P F H a l c)(hb:∀b∈l,H b≠none/\F b=none):
  AI M ⟨H,F,l,λi=>if i=0 then some a else none,λb h=>(hb b h).1⟩ F (start N (.ref a::ws)) H (some ⟨2,c⟩::BM (N.length - 1) xs):=by
 have Iy:ws.length+1<=N.length:=by rw[r.len];exact hl
 refine⟨sF,λb o h _=>h,λb h=>h,ao,λa h=>.inl h,?_,λi=>if i=0 then l else [],λi s h=>?_,λi b h=>?_,λi j b Ey h z=>?_,λi b s h _ _=>?_⟩
 .rw[abp,hW (by omega),iM (by simpa using Iy)];omega
 .cases i with
  |zero=>
   have h:s=⟨2,c⟩:=by simpa using h.symm
   subst h
   exact⟨.ref a,dQ rfl,.inr (.inr (.inl ⟨.inl rfl,a,rfl,λc hc=>.inl hc,ho⟩))⟩
  |succ i=>
   have h:(BM (N.length - 1) xs)[i]?=some (some s):=by simpa using h
   obtain⟨x,hx,rfl⟩:=hZ h
   obtain⟨v,hv,rv⟩:=r.get hx
   exact⟨v,dQ (by simpa using hv),.inl ⟨rfl,rfl,rv⟩⟩
 .split at h
  .exact hb b h
  .simp at h
 .split at h
  .split at z
   .rename_i h1 h2;exact Ey (h1.trans h2.symm)
   .simp at z
  .simp at h
 .dsimp only at h
  split at h
  .rename_i e;subst e;cases h;exact dQ rfl
  .cases h
variable{P:aaJ}{w:World}{mg:Str->Option Value}{base:Heap}
variable{qual:Str}{fd:abW}{ps:List Str}
theorem bc{f:Addr}{k:Nat}(F:Ii K x qual st f fd)(S:ay N ps (aq st))(hn:ps.length<=N.length)
  (hb:∀(Bi:Value) (A:Around) (outer:List Env) (s:Shared) (H:Hp) (E:XK),Br k (A.deeper (envOfC qual (aq st) s.heap.objs.size f Bi))->Et ob (Fl Cz P w K mg base N qual (aq st) f Bi A outer s H E).J5 (bI st) u) :
  A8 P w K mg base Cz (k+1) f fd ps (Kp ⟨P,w,K,ob⟩ ps.length (run N.length u)):=by
 refine F.ok S (λvs H Q E h=>?_) (λBi A outer s H vs Q E hr h=>?_)
 .obtain⟨F,xs,P,_,r,hl,_⟩:=h
  rw[r.len];exact hl
 .obtain⟨F,xs,P',sF,r,hl,hD,kk⟩:=h
  obtain⟨t,ht,kt⟩:=(hb Bi A outer s H E hr).ex
  refine⟨t,ht,kt ⟨H,F,[],λ_=>none,λ_ h=>by simp at h⟩ F (start N vs) H (BM N.length xs) (Na P') _ (nk (M:=⟨P,w,K,ob⟩) sF r (by omega)) hD ⟨λenv σ F' H' p s1 K1=>?_,λx env v σ F' H' p s1 K1 rv=>?_,λ_ _ _ _ p=>p.elim,λ_ _ _ _ p=>p.elim,λ_ _ _ _ _ _ p=>p.elim,λ_ _ _ _ _ _ _ p=>p.elim⟩⟩
  .exact kk .AF .AF F' H' p (λb o h=>K1.sG b o h (by simp)) s1 K1.sF K1.nw .AF
  .exact kk x v F' H' p (λb o h=>K1.sG b o h (by simp)) s1 K1.sF K1.nw rv
theorem dZ{f:Addr}{k:Nat}(F:Ii K x qual st f fd)(S:ay N ps (aq st))(hn:ps.length<=N.length)
  (hb:∀(Bi:Value) (A:Around) (outer:List Env) (s:Shared) (H:Hp) (E:XK),Br k (A.deeper (envOfC qual (aq st) s.heap.objs.size f Bi))->Et ob (Fl Cz P w K mg base N qual (aq st) f Bi A outer s H E).J5 (bI st) u) :
  A8 P w K mg base Cz (k+1) f fd ps (J2 ⟨P,w,K,ob⟩ ps.length (Fy N.length u)):=by
 refine F.ok S (λvs H Q E h=>?_) (λBi A outer s H vs Q E hr h=>?_)
 .obtain⟨F,a,l,c,ws,xs,P,rfl,_,r,hl,_⟩:=h
  rw[abp,r.len];exact hl
 .obtain⟨F,a,l,c,ws,xs,P',rfl,sF,r,hl,ho,IC,hD,kk⟩:=h
  obtain⟨t,ht,kt⟩:=(hb Bi A outer s H E hr).ex
  have fin:∀(x:PV) (env:En) (v:V) (σ:L2.St) (F' H':Hp),OB (P' x) env->eQ F F'->AI ⟨P,w,K,ob⟩ ⟨H,F,l,λi=>if i=0 then some a else none,λb h=>(IC b h).1⟩ F' σ H' env->Rep K F' v x->Q v H':=λx env v σ F' H' p s1 K1 rv=>by
   unfold OB at p
   split at p
   .rename_i c' e
    obtain⟨fp,L⟩:=K1.sl
    obtain⟨v0,Gs,ok⟩:=L.at' 0 _ e
    have hσ:=L.oa 0 a _ rfl e rfl
    rw[hσ]at Gs;cases Gs
    rcases ok with ⟨k0,_⟩|⟨k0,_⟩|⟨_,a',e',h1,h2⟩|⟨k0,_⟩
    .cases k0
    .cases k0
    .cases e'
     exact kk x _ v F' H' (fp 0) p (λb o h1 h2=>K1.sG b o h1 h2) (λb h=>K1.pr b h) s1 K1.sF K1.nw h2 (λb hb=>L.al 0 b hb) (λb hb=>h1 b hb) rv
    .cases k0
   .exact p.elim
  refine⟨t,ht,kt ⟨H,F,l,λi=>if i=0 then some a else none,λb h=>(IC b h).1⟩ F (start N (.ref a::ws)) H (some ⟨2,c⟩::BM (N.length - 1) xs) (JV P') _ (rT (M:=⟨P,w,K,ob⟩) sF r (by omega) ho IC) hD ⟨λenv σ F' H' p s1 K1=>?_,λx env v σ F' H' p s1 K1 rv=>?_,λ_ _ _ _ p=>p.elim,λ_ _ _ _ p=>p.elim,λ_ _ _ _ _ _ p=>p.elim,λ_ _ _ _ _ _ _ p=>p.elim⟩⟩
  .exact fin .AF env .AF σ F' H' p s1 K1 .AF
  .exact fin x env v σ F' H' p s1 K1 rv
def AV(D:Fd)(fa:WA):WE:=λenv P=>fa env λxs e=>D xs λr=>P r e
def AD(D:D5)(i:Nat)(fa:WA):WE:=λenv P=>(env[i]?).join.isSome=true/\fa env λxs e=>match e[i]? with
 |some (some ⟨2,c⟩)=>D c xs λr c'=>P r (e.set i (some ⟨2,c'⟩))
 |some (some ⟨4,c⟩)=>D c xs λr c'=>P r (e.set i (some ⟨4,c'⟩))
 |_=>False
variable{k:Nat}{DG:Addr}{D:Fd}{DO:D5}{p1:Pos}
theorem yl(F:A8 X.prog X.w X.K X.mg X.base Cz k DG fd ps (Kp (md ob X) n D))(hr:Br k X.A)(hm:X.mg x=some (.ref DG))(hk:abQ X.K (.ref DG)=true)(hb:Binds X.K fd ps [])(ha:G0 ob X (e::es) fa)(hn:es.length+1=n:=by rfl)(hg:Gl X x:=by rfl)
  (DP:(x==("__debug__" : Str))=false:=by decide) (he:aam (e::es) X.env=(false,eval e X.env)::aam es X.env:=by rfl) (B8:(backTo pos (aam es X.env)).any (·.1)=false:=by rfl) :
  Bk ob X (.Call (.Name x p) (e::es) [] pos) (AV D fa):=by
 obtain⟨t,ht,kt⟩:=ha.ex
 refine⟨_,jz (E:=E0) F hr hg hm hk hb .nil GC ht DP he B8,λZ F σ H env P Q K hf kk=>kt Z F σ H env _ _ K hf λxs e1 vs F1 H1 p hl s1 K1 r1=>?_⟩
 rw[abE]
 refine⟨F1,xs,λr=>P r e1,K1.sF,r1,by rw[hl];exact hn,p,λr v F' H' pr sH sF Ku nw rv=>?_⟩
 exact kk r e1 v F' H' pr (ak s1 sF) (K1.move sF Ku sH nw) rv
theorem AI.KA{i kd:Nat}{a:Addr}{c c':PV}{l':List Addr}(hk:kd=2\/kd=4)(K:AI M Z F σ H env)(L:Slots M Z F σ H env fp)(hi:env[i]?=some (some ⟨kd,c⟩))(hv:σ[i]?=some (some (.ref a)))
  (kp:∀b o,H b=some o->b∉fp i->H' b=some o) (pr:∀b,H b≠none->H' b≠none) (sF:eQ F F') (Ku:eQ F' H') (nw:∀a,F' a≠none->F a≠none\/H a=none) (ho:M.ob.P F' H' a l' c') (hl:∀b∈l',H' b≠none/\F' b=none) (hn:∀b∈l',b∈fp i\/H b=none) :
  AI M Z F' σ H' (env.set i (some ⟨kd,c'⟩))/\Slots M Z F' σ H' (env.set i (some ⟨kd,c'⟩)) (λj=>if j=i then l' else fp j):=by
 obtain⟨v0,Gs,RD⟩:=L.at' i _ hi
 have wr:=RD.wr
 have UX:∀b∈l',b∈Z.S\/Z.H₀ b=none:=λb hb=>by
  rcases hn b hb with q|q
  .exact wr b q
  .exact .inr (K.h0 q)
 have BW:i<env.length:=by
  rcases aaU i env.length with q|q
  .exact q
  .rw[aao q]at hi;cases hi
 suffices S:Slots M Z F' σ H' (env.set i (some ⟨kd,c'⟩)) (λj=>if j=i then l' else fp j)from ⟨⟨Ku,λb o h1 h2=>kp b o (K.sG b o h1 h2) λz=>(wr b z).elim h2 λq=>(by rw[q]at h1;cases h1),λb h=>pr b (K.pr b h),ak K.gr sF,λa h=>(nw a h).elim (K.nw a) λq=>.inr (K.h0 q),by simp[K.len],_,S⟩,S⟩
 refine⟨λj s e=>?_,λj b h=>?_,λj j2 b NG h z=>?_,λj b s e1 e2 e3=>?_⟩
 .by_cases q:j=i
  .subst q
   rw[abP]at e
   simp only[if_true,BW]at e
   cases e
   exact⟨_,hv,by rw[if_pos rfl];exact .inr (.inr (.inl ⟨hk,a,rfl,UX,ho⟩))⟩
  .rw[aaF (abO q)]at e
   obtain⟨v,h1,h2⟩:=L.at' j s e
   have h3:=h2.mono (H':=H') sF λc hc=>by
    obtain⟨o,ho⟩:=dh (L.al j c hc).1
    rw[ho]
    exact kp c o ho (L.dj j i c q hc)
   exact⟨v,h1,by rw[if_neg q];exact h3⟩
 .by_cases q:j=i
  .rw[if_pos q]at h;exact hl b h
  .rw[if_neg q]at h
   have:=L.al j b h
   refine⟨pr b this.1,?_⟩
   cases e:F' b with
   |none=>rfl
   |some o=>
    rcases nw b (by rw[e];simp)with y|y
    .exact absurd this.2 y
    .exact absurd y this.1
 .have OK:∀j,j≠i->b∈l'->b∈fp j->False:=λj hj m1 m2=>by
   rcases hn b m1 with y|y
   .exact L.dj j i b hj m2 y
   .exact(L.al j b m2).1 y
  by_cases q:j=i
  .rw[if_pos q]at h
   rw[if_neg (λy=>NG (q.trans y.symm))]at z
   exact OK j2 (λy=>NG (q.trans y.symm)) h z
  .rw[if_neg q]at h
   by_cases q2:j2=i
   .rw[if_pos q2]at z;exact OK j q z h
   .rw[if_neg q2]at z;exact L.dj j j2 b NG h z
 .by_cases q:j=i
  .subst q
   rw[abP]at e2
   simp only[if_true,BW]at e2
   cases e2
   exact L.oa j b _ e1 hi e3
  .rw[aaF (abO q)]at e2
   exact L.oa j b s e1 e2 e3
theorem wz(i:Nat){y:Str}(F:A8 X.prog X.w X.K X.mg X.base Cz k DG fd ps (J2 (md ob X) n DO))(hr:Br k X.A)(hm:X.mg x=some (.ref DG))(hk:abQ X.K (.ref DG)=true)(hb:Binds X.K fd ps [])(ho:PE X (.Name y p1) (BF i))(ha:G0 ob X es fa)(hn:es.length+1=n:=by rfl)(hg:Gl X x:=by rfl)
  (DP:(x==("__debug__" : Str))=false:=by decide) (he:aam (.Name y p1::es) X.env=(false,eval (.Name y p1) X.env)::aam es X.env:=by rfl) (B8:(backTo pos (aam es X.env)).any (·.1)=false:=by rfl) :
  Bk ob X (.Call (.Name x p) (.Name y p1::es) [] pos) (AD DO i fa):=by
 obtain⟨t,ht,kt⟩:=ha.ex
 refine⟨_,jz (E:=E0) F hr hg hm hk hb .nil GC (bh ho ht he) DP he B8,λZ F σ H env P Q K hf kk=>?_⟩
 obtain⟨h0,hf⟩:=hf
 obtain⟨w,hw⟩:∃v,σ[i]?=some (some v):=by
  cases e:env[i]? with
  |none=>rw[e]at h0;cases h0
  |some w=>
   cases w with
   |none=>rw[e]at h0;cases h0
   |some s=>
    obtain⟨fp,L⟩:=K.sl
    obtain⟨v,hv,_⟩:=L.at' i s e
    exact⟨v,hv⟩
 refine⟨w,hw,kt Z F σ H env _ _ K hf λxs e1 vs F1 H1 p hl s1 K1 r1=>?_⟩
 show J2 (md ob X) n DO ((w::vs)++[]) H1 Q E0
 rw[abE]
 have fin:∀(kd:Nat) (c:PV),kd=2\/kd=4->e1[i]?=some (some ⟨kd,c⟩)->DO c xs (λr c'=>P r (e1.set i (some ⟨kd,c'⟩)))->J2 (md ob X) n DO (w::vs) H1 Q E0:=λkd c KO ei p=>by
  obtain⟨fp,L⟩:=K1.sl
  obtain⟨v0,Gs,ok⟩:=L.at' i _ ei
  rw[hw]at Gs;cases Gs
  rcases ok with ⟨k0,_⟩|⟨k0,_⟩|⟨_,a,rfl,_,ho⟩|⟨k0,_⟩
  .rcases KO with rfl|rfl<;>cases k0
  .rcases KO with rfl|rfl<;>cases k0
  .refine⟨F1,a,fp i,c,vs,xs,_,rfl,K1.sF,r1,by rw[hl];exact hn,ho,λb hb=>L.al i b hb,p,λr c' v F' H' l' pr kp pre sF Ku nw ES Iy KJ rv=>?_⟩
   exact kk r _ v F' H' pr (ak s1 sF) (K1.KA KO L ei hw kp pre sF Ku nw ES Iy KJ).1 rv
  .rcases KO with rfl|rfl<;>cases k0
 split at p
 .rename_i ei;exact fin _ _ (.inl rfl) ei p
 .rename_i ei;exact fin _ _ (.inr rfl) ei p
 .exact p.elim
theorem aR{D':Fd}(F:A8 P w K mg base Cz k DG fd ps (Kp ⟨P,w,K,ob⟩ n D))(h:∀xs P,D' xs P->D xs P):A8 P w K mg base Cz k DG fd ps (Kp ⟨P,w,K,ob⟩ n D') :=
 F.imp λvs H Q E ⟨F,xs,P,a,b,c,d,e⟩=>⟨F,xs,P,a,b,c,h _ _ d,e⟩
theorem cV{D D':D5}(F:A8 P w K mg base Cz k DG fd ps (J2 ⟨P,w,K,ob⟩ n D))(h:∀c xs P,D' c xs P->D c xs P):A8 P w K mg base Cz k DG fd ps (J2 ⟨P,w,K,ob⟩ n D') :=
 F.imp λvs H Q E q=>by
  obtain⟨F,a,l,c,ws,xs,P,a1,a2,a3,a4,a5,a6,a7,a8⟩:=q
  exact⟨F,a,l,c,ws,xs,P,a1,a2,a3,a4,a5,a6,h _ _ _ a7,a8⟩
theorem O1(r:Br k A):A.units+1<cLine:=by have:=r.un;omega
theorem Ci(r:Br k A):A.units<cLine:=by have:=r.un;omega
theorem Bw(r:Br k A):A.units+60<cLine:=by have:=r.un;omega
theorem B5(r:Br k A):A.units+62<cLine:=by have:=r.un;omega
def LW:PV->Option String
 |.AF=>some "NoneType"
 |.bl _=>some "bool"
 |.int _=>some "int"
 |.str _=>some "str"
 |.tup _=>some "tuple"
 |.lst _=>some "list"
 |.BJ _=>some "dict"
 |_=>none
def Iu(T c:String):Bool:=T==c || (T == "bool" && c == "int")
def JC(c:String)(x:PV):Option PV:=(LW x).map λT=>.bl (Iu T c)
def GS(c:String)(a:WE):WE:=UE (JC c) a
theorem zu{x:PV}{T:String}(h:LW x=some T)(c:String)(hc:c = "str" \/ c = "tuple" \/ c = "int" \/ c = "bool" \/ c = "list" \/ c = "dict"):aeq K (.type T) (.type c)=some (Iu T c):=by
 cases x<;>cases h<;>rcases hc with rfl|rfl|rfl|rfl|rfl|rfl<;>rfl
def Lm(K:aah)(cl:String):List V->Hp->VK->Prop:=λxs H Q=>Ot K xs H Q\/∃p vs,xs=[.ref p,.ty cl]/\Cd K H p vs/\aeq K (.type "tuple") (.type cl)=some (Iu "tuple" cl)/\Q (.bl (Iu "tuple" cl)) H
theorem Ab{cl:String}:AR X (.builtin "isinstance") (Lm X.K cl):=by
 refine AR.or wF ?_
 intro pins s σ H xs us Q I r h
 obtain⟨p,vs,rfl,hp,hk,q⟩:=h
 cases r with
 |cons r1 r2=>
  cases r2 with
  |cons r2 r3=>
   cases r3
   cases r2
   cases r1
   obtain⟨iN,_,⟨o,h1,h2,_⟩,_⟩:=I.tuple hp
   exact abB PySem.W.kitx_tuple I.FC ⟨o,h1,h2⟩ hk (λz=>nomatch z) λtk=>⟨.bl _,H,I.tok tk,rfl,q⟩
theorem gX(cl:String){T:Str}(hc:cl = "str" \/ cl = "tuple" \/ cl = "int" \/ cl = "bool" \/ cl = "list" \/ cl = "dict")(hm:X.mg "isinstance" = none)(hT:X.mg T=none)(hb:ab6 T=some (.type cl))(ha:Fp ob X a f)(hg:Gl X "isinstance" :=by rfl)(V8:Gl X T:=by rfl)(hn:T ≠ "__name__" :=by decide)(DP:(T==("__debug__" : Str))=false:=by decide)
  (he:aam [a,.Name T p1] X.env=(false,eval a X.env)::aam [.Name T p1] X.env:=by rfl) (Sy:aam [.Name T p1] X.env=(false,eval (.Name T p1) X.env)::aam [] X.env:=by rfl) (B8:(backTo pos (aam [.Name T p1] X.env)).any (·.1)=false:=by rfl) :
  Bk ob X (.Call (.Name "isinstance" p) [a,.Name T p1] [] pos) (GS cl f):=by
 obtain⟨t,ht,k⟩:=ha.ex
 refine⟨_,bN (Ab (cl:=cl)) hg hm boot_isinstance (bh ht (bh (xu (v:=.ty cl) V8 hT hb rfl hn DP) bv Sy) he) (by decide) (by decide) he B8,λZ F σ H env P Q K hf kk=>k Z F σ H env _ _ K hf λx e1 v F1 H1 p s1 K1 r1=>?_⟩
 obtain⟨z,hz,p⟩:=p
 unfold JC at hz
 rw[aaA]at hz
 obtain⟨T',QD,rfl⟩:=hz
 have fin:∀w,Rep X.K F1 w (.bl (Iu T' cl))->Q w H1:=λw r=>kk _ e1 _ F1 H1 p s1 K1 r
 have q:=fin _ (.bl _)
 have kt:=zu (K:=X.K) QD cl hc
 show Lm X.K cl [v,.ty cl] H1 Q
 cases x<;>cases QD
 .rw[r1.AF];exact .inl ⟨_,_,_,_,rfl,.AF,kt,q⟩
 .rw[r1.bl];exact .inl ⟨_,_,_,_,rfl,.bl _,kt,q⟩
 .rw[r1.int];exact .inl ⟨_,_,_,_,rfl,.int _,kt,q⟩
 .rw[r1.str];exact .inl ⟨_,_,_,_,rfl,.str _,kt,q⟩
 .obtain⟨q',vs,rfl,h1,h2⟩:=r1.tup K1.sF
  exact .inr ⟨q',vs,rfl,h1,kt,q⟩
 .obtain⟨q',vs,rfl,h1,h2⟩:=r1.lst K1.sF
  exact .inl ⟨_,_,_,_,rfl,.lst h1,kt,q⟩
 .obtain⟨q',vs,rfl,h1,h2⟩:=r1.BJ K1.sF
  exact .inl ⟨_,_,_,_,rfl,.dK h1,kt,q⟩
def Ek(o o':PV->PV->Option PV)(fa fb fc:WE):WE:=λenv P=>fa env λx e1=>fb e1 λy e2=>opt (o x y) λz=>opt (Eo z) λk=>if k=true then fc e2 λw e3=>opt (o' y w) λz'=>P z' e3 else P (.bl false) e2
theorem yj(hm:∃t,X.mg x=some (.int i t))(hg:Gl X x:=by rfl)(hd:(x==("__debug__" : Str))=false:=by decide):Bk ob X (.Name x pos) (eC (.int i)):=by
 obtain⟨t,hm⟩:=hm
 exact fM (xq (v:=.int i) hg hm ⟨t,rfl⟩ hd) λ_=>.int i
variable{o':PV->PV->Option PV}{tb:TE}
theorem nO{o:PV->PV->Option PV}{r:R2}{ta tc:TE}(hq:Es ob X r o)(MK:Es ob X r' o')
  (ka:∀(Z:Zn) (F:Hp) (σ:L2.St) (H:Hp) (env:En) (P:PV->En->Prop) (Q:VK),AI (md ob X) Z F σ H env->f env P->(∀x dO v F' H',P x dO->eQ F F'->AI (md ob X) Z F' σ H' dO->Rep X.K F' v x->Q v H')->ta σ H Q)
  (kb:∀(Z:Zn) (F:Hp) (σ:L2.St) (H:Hp) (env:En) (P:PV->En->Prop) (Q:VK),AI (md ob X) Z F σ H env->g env P->(∀x dO v F' H',P x dO->eQ F F'->AI (md ob X) Z F' σ H' dO->Rep X.K F' v x->Q v H')->tb σ H Q)
  (kc:∀(Z:Zn) (F:Hp) (σ:L2.St) (H:Hp) (env:En) (P:PV->En->Prop) (Q:VK),AI (md ob X) Z F σ H env->h env P->(∀x dO v F' H',P x dO->eQ F F'->AI (md ob X) Z F' σ H' dO->Rep X.K F' v x->Q v H')->tc σ H Q) :
  ∀(Z:Zn) (F:Hp) (σ:L2.St) (H:Hp) (env:En) (P:PV->En->Prop) (Q:VK),AI (md ob X) Z F σ H env->Ek o o' f g h env P->(∀x dO v F' H',P x dO->eQ F F'->AI (md ob X) Z F' σ H' dO->Rep X.K F' v x->Q v H')->Hd r r' ta tb tc σ H Q:=by
 intro Z F σ H env P Q K hf kk
 refine ka Z F σ H env _ _ K hf λx e1 v F1 H1 p s1 K1 r1=>kb Z F1 σ H1 e1 _ _ K1 p λy e2 u F2 H2 p2 s2 K2 r2=>?_
 obtain⟨z,hz,k,hk,p2⟩:=p2
 refine hq Z F2 σ H2 e2 v u x y z _ K2 (.inl (r1.mono s2)) (.inl r2) hz λv' F3 H3 s3 K3 r3=>?_
 obtain⟨rfl,rfl⟩:=m4 r3 hk
 refine⟨k,rfl,?_⟩
 cases k with
 |true=>
  refine Fc (kc Z F3 σ H3 e2 _ _ K3 p2 λw e4 w' F4 H4 p4 s4 K4 r4=>?_)
  obtain⟨z',Vx,p4⟩:=p4
  exact MK Z F4 σ H4 e4 u w' y w z' Q K4 (.inl ((r2.mono s3).mono s4)) (.inl r4) Vx λv5 F5 H5 s5 K5 r5=>kk z' e4 v5 F5 H5 p4 (ak s1 (ak s2 (ak s3 (ak s4 s5)))) K5 r5
 |false=>exact EH (kk _ e2 _ F3 H3 p2 (ak s1 (ak s2 s3)) K3 (.bl _))
theorem wx{Hn:CmpOp}{o:PV->PV->Option PV}{r:R2}(ho:BL X (aaX op) r)(hq:Es ob X r o)(ES:BL X (aaX Hn) r')(MK:Es ob X r' o')(ha:Bk ob X a f)(hb:Bk ob X b g)(hc:Bk ob X c h)
  (hm:lastMarks [op,Hn] [b,c]=false:=by with_unfolding_all rfl):Bk ob X (.Compare a [op,Hn] [b,c] pos) (Ek o o' f g h):=by
 obtain⟨ta,ha,ka⟩:=ha.ex
 obtain⟨tb,hb,kb⟩:=hb.ex
 obtain⟨tc,hc,kc⟩:=hc.ex
 exact⟨_,vE ho ES ha hb hc hm,nO hq MK ka kb kc⟩
theorem wA{Hn:CmpOp}{o:PV->PV->Option PV}{r:R2}(ho:BL X (aaX op) r)(hq:Es ob X r o)(ES:BL X (aaX Hn) r')(MK:Es ob X r' o')(ha:Bk ob X a f)(hb:Bk ob X b g)(hc:Bk ob X c h)
  (hm:lastMarks [op,Hn] [b,c]=false:=by with_unfolding_all rfl):G6 ob X (.Compare a [op,Hn] [b,c] pos) (oF (Ek o o' f g h)):=by
 obtain⟨ta,ha,ka⟩:=ha.ex
 obtain⟨tb,hb,kb⟩:=hb.ex
 obtain⟨tc,hc,kc⟩:=hc.ex
 refine⟨_,vp ho ES ha hb hc hm,λZ F σ H env P Q K hf k=>nO hq MK ka kb kc Z F σ H env _ _ K hf λx e1 v F1 H1 p s1 K1 r1=>?_⟩
 obtain⟨z,hz,p⟩:=p
 cases x<;>try (cases hz)
 cases r1
 exact⟨_,rfl,k _ e1 F1 H1 p s1 K1⟩
variable{c:WT}
theorem AI.N0{v:V}{x:PV}{i:Nat}(K:AI M Z F (σ++[some v]) H (env++[some ⟨1,x⟩]))(hx:∀xs,x≠.set xs):∃F',eQ F F'/\AI M Z F' (σ.set i (some v)) H (env.set i (some ⟨0,x⟩)):=by
 obtain⟨F',s,K',r⟩:=K.HX hx
 exact⟨F',s,K'.put r⟩
theorem uq(i:Nat){y:Str}(hN:X.N.Nodup)(hy:X.N[i]?=some y)(hk:X.env.scope.names.lookup y=some .local)(hi:Jd ob X tg iter fi)(hg:∀C s₀ H₀ ex pn,PG (AK X scope N C s₀ H₀ ex pn) tg (G3 X.K T))(ht:∀C s₀ H₀ ex pn,NQ ob (AK X scope N C s₀ H₀ ex pn) ifs c)(he:∀C s₀ H₀ ex pn,Bk ob (AK X scope N C s₀ H₀ ex pn) elt f)
  (hj:GI js=true:=by rfl) (hT:DJ js T=true:=by rfl)
  (JJ:abV (.ListComp elt [⟨tg,iter,ifs,0⟩] scope pos) (some (.Name y py)) BN.line X.env=pure true:=by rfl)
  (hc:X.calm=true:=by rfl) (hx:X.xe=(λ_ _=>False):=by rfl) (D7:D9 X.env scope=true:=by rfl) (BQ:CI X.N scope N js=true:=by rfl) (Bf:scope.kind=.function:=by rfl) (hs:∀x,abb iter X.env x=pure x:=by intro _;rfl) :
  EU ob X (.Assign [.Name y py] (.ListComp elt [⟨tg,iter,ifs,0⟩] scope pos) BN) (A5 i (Dj fi T c f js)):=by
 obtain⟨wi,JF,k⟩:=hi.ex
 refine⟨_,Ak (i:=i) (wi:=wi) (g:=G3 X.K T) (tc:=Mr (md ob X) c) (te:=J3 (md ob X) f) (js:=js) hN hy hk JF hg (λC s₀ H₀ ex pn=>(ht C s₀ H₀ ex pn).ex) (λC s₀ H₀ ex pn=>(he C s₀ H₀ ex pn).pe) (dE hT) JJ hc hx D7 BQ Bf hs,λZ F σ H env P D K hf L=>?_⟩
 refine k Z F σ H env _ _ K hf λxs e1 J F1 H1 p s1 K1 I1 l hl=>?_
 refine qV (P:=λx e=>P.nx (e.set i (some ⟨0,x⟩))) (Q:=λv H'=>D.nx (σ.set i (some v)) H') hj hT K1 I1 p (λx e2 v F2 H2 p2 s2 IW K2=>?_) l hl
 obtain⟨F3,s3,K3⟩:=K2.N0 (i:=i) IW
 exact L.nx _ _ F3 H2 p2 (ak s1 (ak s2 s3)) K3
variable{c:Expr}
end Q
namespace L2
open PySem PySem.Spec PyProof.Rows PySem.W
def CA(P:Addr)(ps:Array Value):HO:=.ext λh=>h.get? P=some (tabObj ps)
def CH(c:Addr)(lq:Str):HO:=.ext λh=>h.CodeRec (.ref c) lq
variable{P:aaJ}{w:World}{H:Hp}{h:Heap}{a:Addr}
theorem oE{ps:Array Value}(e:h.get? a=some (tabObj ps)):A7 P w H h a (CA a ps):=⟨e,⟨_,e⟩,λh1 h2 x k=>k _ x⟩
end L2
namespace Pre
open PySem L2
structure Gp(H:Hp)(a b:Addr):Prop where
 st:∃(ns:List Int) (z:Int),H a=some (.lst [.ref b,.int z])/\H b=some (.lst (ns.map V.int))/\(∀n∈ns,0<=n)/\0<=z/\z<2305843009213693951
def G2(a b:Addr)(H H':Hp):Prop:=∀c o,H c=some o->c≠a->c≠b->H' c=some o
theorem G2.refl(a b:Addr)(H:Hp):G2 a b H H:=λ_ _ h _ _=>h
variable{H:Hp}{a b:Addr}
theorem Gp.ne(s:Gp H a b):a≠b:=by
 obtain⟨ns,z,h1,h2,_⟩:=s.st
 refine r9 h1 h2 λe=>?_
 injection e with e
 cases ns with
 |nil=>cases e
 |cons n r=>injection e with e _;cases e
variable{o:HO}
theorem Gp.grow{p:Addr}(s:Gp H a b)(hp:H p=none):Gp (upd H p o) a b:=by
 obtain⟨ns,z,h1,h2,h3⟩:=s.st
 exact⟨ns,z,by rw[aj (av h1 hp)];exact h1,by rw[aj (av h2 hp)];exact h2,h3⟩
variable{H':Hp}
theorem G2.grow{p:Addr}(x:G2 a b H H')(hp:H' p=none):G2 a b H (upd H' p o):=λc u h h1 h2=>by
 have q:=x c u h h1 h2
 rw[aj (av q hp)];exact q
theorem G2.Mi(x:G2 a b H H'):G2 a b H (upd H' a o):=λc u h h1 h2=>by rw[aj h1];exact x c u h h1 h2
theorem G2.Ks(x:G2 a b H H'):G2 a b H (upd H' b o):=λc u h h1 h2=>by rw[aj h2];exact x c u h h1 h2
theorem Gp.Ks{ns:List Int}(s:Gp H a b)(hn:∀n∈ns,0<=n):Gp (upd H b (.lst (ns.map V.int))) a b:=by
 have BV:=s.ne
 obtain⟨_,z,h1,h2,_,h3⟩:=s.st
 exact⟨ns,z,by rw[aj BV];exact h1,am,hn,h3⟩
theorem Gp.Mi{z:Int}(s:Gp H a b)(h0:0<=z)(h1:z<2305843009213693951):Gp (upd H a (.lst [.ref b,.int z])) a b:=by
 have BV:=s.ne
 obtain⟨ns,_,_,h2,h3,_⟩:=s.st
 exact⟨ns,z,am,by rw[aj BV.symm];exact h2,h3,h0,h1⟩
def stK(b:Addr)(left seed many:Int):List (Key×V):=[(.inr (aaP "cells"),.ref b),(.inr (aaP "left"),.int left),(.inr (aaP "seed"),.int seed),(.inr (aaP "many"),.int many)]
structure Xm(H:Hp)(a b:Addr)(f:Nat):Prop where
 st:∃(ns:List Int) (left seed many:Int),H a=some (.dK (stK b left seed many))/\H b=some (.lst (ns.map V.int))/\0<=left/\0<=seed/\seed<2305843009213693951/\0<=many/\many+f<=1152921504606846976
def ju(K:aah):Sp:=λvs H Q _=>∃(s:Addr) (ns:List Int),vs=[.ref s]/\Cm K H s (ns.map V.int)/\ns.length<=63/\∀(a b:Addr) (H':Hp),H a=none->H b=none->Gp H' a b->eQ H H'->Q (.ref a) H'
def Jp:Sp:=λvs H Q _=>∃(a b:Addr) (m:Int),vs=[.ref a,.int m]/\Gp H a b/\0<m/\m<1073741824/\∀(r:Int) (H':Hp),0<=r->r<m->Gp H' a b->G2 a b H H'->Q (.int r) H'
end Pre
namespace Q
open PySem L2 PyProof.Rows
def LL(K:aah)(F H:Hp)(a:Addr)(l:List Addr)(x:PV):Prop:=∃ks:List (Key×Addr×List PV),x=.BJ (ks.map λt=>(t.1,.lst t.2.2))/\l=a::ks.map (·.2.1)/\H a=some (.dK (ks.map λt=>(t.1,.ref t.2.1))) /\
 (ks.map (·.2.1)).Nodup/\∀t∈ks,∃vs,H t.2.1=some (.lst vs)/\AJ K F vs t.2.2
def DE(lq:Str)(ln co:Nat)(P:Addr):PV:=.tup [.str lq,.int ln,.int co,.int (P:Nat)]
def TabAt(H:Hp)(a:Addr)(l:List Addr)(x:PV):Prop:=∃(lq:Str) (ln co:Nat) (ps:Array Value),x=DE lq ln co a/\H a=some (CA a ps)/\PySem.TriplesOk ps.toList /\
 ((l=[a]/\acm ⟨ln,co,0,0⟩ ps.toList=none)\/∃c',c'≠a/\l=[a,c']/\acm ⟨ln,co,0,0⟩ ps.toList=some (.ref c')/\H c'=some (CH c' lq))
def PN(H:Hp)(a:Addr)(l:List Addr)(x:PV):Prop:=(x=.AF/\∃b,l=[a,b]/\Pre.Gp H a b)\/∃(f:Nat) (b:Addr),x=.int f/\l=[a,b]/\Pre.Xm H a b f
def Ex(K:aah):Cy where
 P:=λF H a l x=>PN H a l x\/LL K F H a l x\/TabAt H a l x
 mono:=λF F' H H' a l x h s e=>by
  rcases h with (⟨h0,b,rfl,ns,z,h1,h2,h3⟩|⟨f,b,h0,rfl,ns,q1,q2,q3,h1,h2,h3⟩)|⟨ks,rfl,rfl,h1,h2,h3⟩|⟨lq,ln,co,ps,rfl,h1,h2,h3⟩
  .exact .inl (.inl ⟨h0,b,rfl,ns,z,(e a (by simp)).trans h1,(e b (by simp)).trans h2,h3⟩)
  .exact .inl (.inr ⟨f,b,h0,rfl,ns,q1,q2,q3,(e a (by simp)).trans h1,(e b (by simp)).trans h2,h3⟩)
  .refine .inr (.inl ⟨ks,rfl,rfl,(e a (by simp)).trans h1,h2,λt ht=>?_⟩)
   obtain⟨vs,q1,q2⟩:=h3 t ht
   exact⟨vs,(e _ (aar _ (aaV (f:=λt=>t.2.1) ht))).trans q1,q2.mono s⟩
  .refine .inr (.inr ⟨lq,ln,co,ps,rfl,?_,h2,?_⟩)
   .rcases h3 with ⟨rfl,_⟩|⟨c',_,rfl,_⟩
    .exact(e a (by simp)).trans h1
    .exact(e a (by simp)).trans h1
   .rcases h3 with ⟨rfl,h4⟩|⟨c',h4,rfl,h5,h6⟩
    .exact .inl ⟨rfl,h4⟩
    .exact .inr ⟨c',h4,rfl,h5,(e c' (by simp)).trans h6⟩
def aD:D5:=λc xs P=>c=.AF/\∃m:Int,xs=[.int m]/\0<m/\m<1073741824/\∀r:Int,0<=r->r<m->P (.int r) .AF
variable{H:Hp}{a b:Addr}
theorem qG(s:Pre.Gp H a b):H a≠none/\H b≠none:=by
 obtain⟨ns,z,h1,h2,_⟩:=s.st
 exact⟨by rw[h1];simp,by rw[h2];simp⟩
variable{P:aaJ}{w:World}{K:aah}{mg:Str->Option Value}{base:Heap}{k:Nat}{DG:Addr}{fd:abW}{ps:List Str}
theorem vO(F:A8 P w K mg base Cz k DG fd ps Pre.Jp):A8 P w K mg base Cz k DG fd ps (J2 ⟨P,w,K,Ex K⟩ 2 aD):=by
 refine F.imp λvs H Q E h=>?_
 obtain⟨F,a,l,c,ws,xs,P',rfl,sF,r,hl,ho,hb,⟨rfl,m,rfl,m0,m1,hP⟩,kk⟩:=h
 obtain⟨b,rfl,S⟩:∃b,l=[a,b]/\Pre.Gp H a b:=by
  rcases ho with (⟨_,h⟩|⟨_,_,h,_⟩)|⟨ks,h,_⟩|⟨_,_,_,_,h,_⟩
  .exact h
  .cases h
  .cases h
  .cases h
 cases r with
 |cons r1 r2=>
  cases r2
  cases r1
  refine⟨a,b,m,rfl,S,m0,m1,λr H' r0 r1 S' hB=>?_⟩
  have two:=qG S'
  have keep:∀c o,H c=some o->c∉[a,b]->H' c=some o:=λc o h hn=>by
   simp at hn
   exact hB c o h hn.1 hn.2
  refine kk (.int r) .AF (.int r) F H' [a,b] (hP r r0 r1) keep (λc h=>?_) ao (λc o h=>?_) (λc h=>.inl h) (.inl (.inl ⟨rfl,b,rfl,S'⟩)) (λc hc=>?_) (λc hc=>.inl hc) (.int r)
  .by_cases q:c∈[a,b]
   .simp at q
    rcases q with rfl|rfl
    .exact two.1
    .exact two.2
   .obtain⟨o,ho⟩:=dh h
    rw[keep c o ho q];simp
  .refine keep c o (sF c o h) λq=>?_
   have:=(hb c q).2
   rw[h]at this;cases this
  .refine⟨?_,(hb c hc).2⟩
   simp at hc
   rcases hc with rfl|rfl
   .exact two.1
   .exact two.2
def CM(i j:Nat):WS:=λP env=>match env[j]? with
 |some (some ⟨0,x⟩)=>(∃ns:List Int,(x=.C2 ns\/x=.lst (ns.map .int))/\ns.length<=63)/\P.nx (env.set i (some ⟨4,.AF⟩))
 |_=>False
variable{F:Hp}{ns:List Int}{vs:List V}
theorem oP(h:AJ K F vs (ns.map PV.int)):vs=ns.map V.int:=by
 induction ns generalizing vs with
 |nil=>cases h;rfl
 |cons n ns ih=>cases h with
  |cons a r=>cases a;exact congrArg (List.cons _) (ih r)
variable{X:Cx}{x y:Str}{p p1 pos pos':Pos}
theorem wm(i j:Nat)(hN:X.N.Nodup)(hi:X.N[i]?=some y)(hx:Loc X.env.scope y)(F:A8 X.prog X.w X.K X.mg X.base Cz k DG fd ps (Pre.ju X.K))(hr:Br k X.A)(hm:X.mg "_law_begin" = some (.ref DG))(hk:abQ X.K (.ref DG)=true)(hb:Binds X.K fd ps [])(ho:PE X (.Name x p1) (BF j))
  (hg:Gl X "_law_begin" :=by rfl) (he:aam [.Name x p1] X.env=(false,eval (.Name x p1) X.env)::aam [] X.env:=by rfl) (B8:(backTo pos (aam [] X.env)).any (·.1)=false:=by rfl)
  {BN:Pos} (hs:abV (.Call (.Name "_law_begin" p) [.Name x p1] [] pos) (some (.Name y pos')) BN.line X.env=pure false:=by rfl) (hf:X.fn y=true\/X.env.scope.names.lookup y=some .local:=by first|exact .inl rfl|exact .inr rfl|assumption) :
  EU (Ex X.K) X (.Assign [.Name y pos'] (.Call (.Name "_law_begin" p) [.Name x p1] [] pos) BN) (CM i j):=by
 refine⟨_,dS hN hi hx (jz (E:=E0) F hr hg hm hk hb .nil GC (bh ho bv he) (by decide) he B8) hs hf,λZ F σ H env P D K hf L=>?_⟩
 unfold CM at hf
 split at hf
 .rename_i v ej
  obtain⟨⟨ns,hv,hn⟩,hp⟩:=hf
  obtain⟨w,hw,r⟩:=K.val ej
  obtain⟨s,rfl,hs⟩:∃s,w=.ref s/\Cm X.K H s (ns.map V.int):=by
   rcases hv with rfl|rfl
   .cases r with
    |C2 h=>exact⟨_,rfl,eO K.sF h.sq⟩
   .cases r with
    |lst h1 h2=>
     have:=oP h2
     subst this
     exact⟨_,rfl,.inl (.inl (K.sF _ _ h1))⟩
  refine⟨_,hw,s,ns,rfl,hs,hn,λa b H' ha hb S sH=>?_⟩
  have Ws:F a=none:=eQ.none_of K.sF ha
  have Wr:F b=none:=eQ.none_of K.sF hb
  have K1:AI (md (Ex X.K) X) Z F σ H' env:=K.move ao (ak K.sF sH) sH λ_ h=>.inl h
  obtain⟨fp,L0⟩:=K.sl
  have L1:Slots (md (Ex X.K) X) Z F σ H' env fp:=L0.move ao (λ_ c o _ e=>sH c o e) λ_ h=>.inl h
  have two:=qG S
  refine L.nx _ _ F H' hp ao ?_
  rcases aaU i env.length with BW|Ja
  case inr=>
   rw[abu Ja,abu (by have:=K.len;omega)]
   exact K1
  refine K1.slots (by simp[K.len]) (L1.put (l:=[a,b]) (by simp) (by have:=K.len;omega) (.inr (.inr (.inl ⟨.inr rfl,a,rfl,λc hc=>.inr ?_,   .inl (.inl ⟨rfl,b,rfl,S⟩)⟩))) (λc hc=>?_) λj c _ hc hj=>?_)
  .simp at hc
   rcases hc with rfl|rfl
   .exact K.h0 ha
   .exact K.h0 hb
  .simp at hc
   rcases hc with rfl|rfl
   .exact⟨two.1,Ws⟩
   .exact⟨two.2,Wr⟩
  .have:=(L0.al j c hj).1
   simp at hc
   rcases hc with rfl|rfl
   .exact this ha
   .exact this hb
 .exact hf.elim
variable{M:Md}{Z:Zn}{σ:L2.St}{env:En}{p:Addr}{o:HO}
theorem yD:∀b∈Z.S,upd Z.H₀ p o b≠none:=λb hb=>by
 by_cases e:b=p
 .subst e;rw[am];simp
 .rw[aj e];exact Z.sS b hb
def Zn.add(Z:Zn)(p:Addr)(o:HO):Zn:={Z with H₀:=upd Z.H₀ p o,sS:=yD}
theorem AI.guard(K:AI M Z F σ H env)(hp:H p=none):AI M (Z.add p o) F σ (upd H p o) env:=by
 have hF:F p=none:=eQ.none_of K.sF hp
 have h0:Z.H₀ p=none:=K.h0 hp
 have hS:p∉Z.S:=λh=>Z.sS p h h0
 obtain⟨fp,L⟩:=K.sl
 have hn:∀i,p∉fp i:=λi h=>(L.al i p h).1 hp
 obtain⟨K1,L1⟩:=K.DU (o:=o) L hF h0 hn
 have ne:∀{c:Addr},Z.H₀ c=none->c≠p->(Z.add p o).H₀ c=none:=λ{c} h q=>by show upd Z.H₀ p o c=none;rw[aj q];exact h
 refine⟨K1.sF,λb u h1 h2=>?_,λb h=>?_,K1.gr,λa h=>?_,K1.len,fp,λi s e=>?_,L1.al,L1.dj,L1.oa⟩
 .by_cases q:b=p
  .subst q
   have h1:upd Z.H₀ b o b=some u:=h1
   rw[am]at h1 ⊢;exact h1
  .have h1:upd Z.H₀ p o b=some u:=h1
   rw[aj q]at h1
   exact K1.sG b u h1 h2
 .by_cases q:b=p
  .subst q;rw[am];simp
  .have h:upd Z.H₀ p o b≠none:=h
   rw[aj q]at h
   exact K1.pr b h
 .rcases K1.nw a h with q|q
  .exact .inl q
  .refine .inr (ne q λz=>?_)
   subst z;exact h hF
 .obtain⟨v,hv,ok⟩:=L1.at' i s e
  refine⟨v,hv,?_⟩
  rcases ok with k|⟨k,a,e1,e2,h1,h2⟩|⟨k,a,e1,h1,h2⟩|k
  .exact .inl k
  .exact .inr (.inl ⟨k,a,e1,e2,ne h1 λz=>hn i (by rw[e2,z];simp),h2⟩)
  .exact .inr (.inr (.inl ⟨k,a,e1,λc hc=>(h1 c hc).elim .inl λq=>.inr (ne q λz=>hn i (by rw[<- z];exact hc)),h2⟩))
  .exact .inr (.inr (.inr k))
theorem AI.HJ(K:AI M (Z.add p o) F σ H env)(h0:Z.H₀ p=none)(NJ:Z.F₀ p=none):AI M Z F σ H env/\H p=some o/\F p=none/\∃fp,Slots M Z F σ H env fp/\∀i s,env[i]?=some (some s)->p∉fp i:=by
 have hS:p∉Z.S:=λh=>Z.sS p h h0
 have VR:(Z.add p o).H₀ p=some o:=am
 have back:∀{c:Addr},(Z.add p o).H₀ c=none->Z.H₀ c=none/\c≠p:=λ{c} h=>by
  have h:upd Z.H₀ p o c=none:=h
  by_cases q:c=p
  .subst q;rw[am]at h;cases h
  .rw[aj q]at h;exact⟨h,q⟩
 have hF:F p=none:=by
  cases e:F p with
  |none=>rfl
  |some u=>
   rcases K.nw p (by rw[e];simp)with q|q
   .exact absurd NJ q
   .exact absurd rfl (back q).2
 obtain⟨fp,L⟩:=K.sl
 have S:Slots M Z F σ H env fp:=by
  refine⟨λi s e=>?_,L.al,L.dj,L.oa⟩
  obtain⟨v,hv,ok⟩:=L.at' i s e
  refine⟨v,hv,?_⟩
  rcases ok with k|⟨k,a,e1,e2,h1,h2⟩|⟨k,a,e1,h1,h2⟩|k
  .exact .inl k
  .exact .inr (.inl ⟨k,a,e1,e2,(back h1).1,h2⟩)
  .exact .inr (.inr (.inl ⟨k,a,e1,λc hc=>(h1 c hc).elim .inl λq=>.inr (back q).1,h2⟩))
  .exact .inr (.inr (.inr k))
 have up:∀{b:Addr} {u:HO},Z.H₀ b=some u->(Z.add p o).H₀ b=some u:=λ{b u} h=>by
  show upd Z.H₀ p o b=some u
  rw[aj (av h h0)];exact h
 refine⟨⟨K.sF,λb u h1 h2=>K.sG b u (up h1) h2,λb h=>?_,K.gr,λa h=>?_,K.len,fp,S⟩,K.sG p o VR hS,hF,fp,S,λi s e hi=>?_⟩
 .obtain⟨u,hu⟩:=dh h
  exact K.pr b (by rw[up hu];simp)
 .rcases K.nw a h with q|q
  .exact .inl q
  .exact .inr (back q).1
 .obtain⟨v,hv,ok⟩:=L.at' i s e
  rcases ok.wr p hi with q|q
  .exact hS q
  .exact(back q).2 rfl
def tidy(env:En)(fp:Nat->List Addr)(i:Nat):List Addr:=match env[i]? with
 |some (some _)=>fp i
 |_=>[]
variable{fp:Nat->List Addr}
theorem Slots.tidy(L:Slots M Z F σ H env fp):Slots M Z F σ H env (Q.tidy env fp):=by
 have sub:∀i a,a∈Q.tidy env fp i->a∈fp i:=λi a h=>by
  unfold Q.tidy at h
  split at h
  .exact h
  .simp at h
 refine⟨λi s e=>?_,λi a h=>L.al i a (sub i a h),λi j a Ey h z=>L.dj i j a Ey (sub i a h) (sub j a z),L.oa⟩
 obtain⟨v,hv,ok⟩:=L.at' i s e
 exact⟨v,hv,by unfold Q.tidy;rw[e];exact ok⟩
theorem AI.Jl{o':HO}{x:PV}(K:AI M (Z.add p o) F σ H env)(h0:Z.H₀ p=none)(NJ:Z.F₀ p=none)(hx:Dd M F (upd H p o') p x):AI M Z F (σ++[some (.ref p)]) (upd H p o') (env++[some ⟨1,x⟩]):=by
 obtain⟨K1,hp,hF,fp,L,hn⟩:=K.HJ h0 NJ
 have L1:=L.tidy
 have Qz:∀i,p∉Q.tidy env fp i:=λi h=>by
  unfold Q.tidy at h
  split at h
  .rename_i s e;exact hn i s e h
  .simp at h
 obtain⟨K2,L2⟩:=K1.DU (o:=o') L1 hF h0 Qz
 refine K2.slots (by simp[K2.len]) (L2.push (l:=[p]) (by simp) K2.len (.inr (.inl ⟨rfl,p,rfl,rfl,h0,hx⟩)) (λa ha=>?_) λj a ha=>?_)
 .simp at ha;subst ha
  exact⟨by rw[am];simp,hF⟩
 .simp at ha;subst ha
  exact Qz j
def Ly:List (Key×PV)->List (Key×PV):=λkvs=>kvs.foldl (λacc kv=>E6 acc kv.1 kv.2) []
def S7:List (WE×WE)->List (Key×PV)->WE
 |[],acc=>λenv P=>P (.BJ (Ly acc)) env
 |(fk,fv)::r,acc=>λenv P=>fk env λy e1=>fv e1 λv e2=>opt (DZ y) λk=>S7 r (acc++[(k,v)]) e2 P
def Lw(l:List (WE×WE)):WE:=S7 l []
inductive FK (ob:Cy) (X:Cx):List (Option Expr)->List Expr->List (WE×WE)->Prop where
 |nil:FK ob X [] [] []
 |cons {k v:Expr} {ks:List (Option Expr)} {vs:List Expr} {fk fv:WE} {l:List (WE×WE)}:Bk ob X k fk->Bk ob X v fv->FK ob X ks vs l->FK ob X (some k::ks) (v::vs) ((fk,fv)::l)
theorem tS{more:List (Key×V)}{mx:List (Key×PV)}{acc:List (Key×V)}{ax:List (Key×PV)}(h:AL K F more mx)(h2:AL K F acc ax):AL K F (Ed acc more) (mx.foldl (λacc kv=>E6 acc kv.1 kv.2) ax):=by
 induction h using AL.ind generalizing acc ax with
 |nil=>exact h2
 |cons a _ ih=>exact ih (h2.put a)
variable{ob:Cy}
variable{values:List Expr}{l:List (WE×WE)}
theorem FK.facts{keys:List (Option Expr)}(h:FK ob X keys values l):keys.all (·.isSome)=true/\keys.length=values.length:=by
 induction h with
 |nil=>exact⟨rfl,rfl⟩
 |cons _ _ _ ih=>exact⟨by simp[ih.1],by simp[ih.2]⟩
theorem FK.run{keys:List (Option Expr)}(h:FK ob X keys values l):∃HK,PQ X pos keys values HK/\∀(Z:Zn) (F:Hp) (σ:L2.St) (H:Hp) (env:En) (P:PV->En->Prop) (acc:List (Key×PV)) (va:List (Key×V)) (Q:List (V×V)->Hp->Prop),AI (md ob X) Z F σ H env->AL X.K F va acc->S7 l acc env P ->
  (∀kvs vs dO F' H',P (.BJ (Ly kvs)) dO->eQ F F'->AI (md ob X) Z F' σ H' dO->AL X.K F' (va++vs) kvs->vs.length=keys.length->Q (vs.map λkv=>(kV kv.1,kv.2)) H')->FZ HK σ H Q:=by
 induction h with
 |nil=>exact⟨[],xo,λZ F σ H env P acc va Q K ra hf kk=>kk acc [] env F H hf ao K (by rw[abE];exact ra) rfl⟩
 |cons hk hv _ ih=>
  obtain⟨tk,NB,kk⟩:=hk.ex
  obtain⟨tv,R4,kv⟩:=hv.ex
  obtain⟨HK,R5,kr⟩:=ih
  refine⟨_,vq NB R4 R5,λZ F σ H env P acc va Q K ra hf fin=>?_⟩
  refine kk Z F σ H env _ _ K hf λy e1 y' F1 H1 p1 s1 K1 r1=>kv Z F1 σ H1 e1 _ _ K1 p1 λv e2 v' F2 H2 p2 s2 K2 r2=>?_
  obtain⟨k,hk,p2⟩:=p2
  have hy:=gO hk (r1.mono s2)
  subst hy
  refine kr Z F2 σ H2 e2 P _ (va++[(k,v')]) _ K2 ((ra.mono (ak s1 s2)).app (.cons r2 .nil)) p2 λkvs vs e3 F3 H3 p3 s3 K3 r3 hl=>?_
  exact fin kvs ((k,v')::vs) e3 F3 H3 p3 (ak s1 (ak s2 s3)) K3 (by simpa using r3) (by simp[hl])
theorem yk{keys:List (Option Expr)}(h:FK ob X keys values l)(h0:keys≠[]:=by simp)(SM:keys.length<=15:=by decide):IQ ob X (.Dict keys values pos) (Lw l):=by
 obtain⟨HK,R5,kr⟩:=h.run (pos:=pos)
 obtain⟨ha,hl⟩:=h.facts
 refine⟨_,xr R5 ha hl h0 SM,λZ F σ H env P Q K hf kk p hp=>?_⟩
 refine kr (Z.add p (.dK [])) F σ _ env P [] [] _ (K.guard hp) .nil hf λkvs vs e1 F1 H1 p1 s1 K1 r1 Xy=>?_
 have h0:Z.H₀ p=none:=K.h0 hp
 have NJ:Z.F₀ p=none:=eQ.none_of K.gr (eQ.none_of K.sF hp)
 have hS:=(K1.HJ h0 NJ).2.1
 refine⟨hS,vs,rfl,by omega,kk _ e1 _ F1 _ p1 s1 (λ_=>by simp) (K1.Jl h0 NJ ⟨_,am,tS (by simpa using r1) .nil⟩)⟩
def qK(i:Nat):WS:=λP env=>P.nx (env.set i (some ⟨1,.set []⟩))
def DR(S:List Str)(k:Str):List Str:=if k∈S then S else S++[k]
def qL(i:Nat)(a:WE):WS:=λP env=>(match env[i]? with|some (some ⟨1,.set _⟩)=>True|_=>False)/\a env λx e=>match e[i]?,x with
 |some (some ⟨1,.set S⟩),.str k=>S.length<=4000/\P.nx (e.set i (some ⟨1,.set (DR S k)⟩))
 |_,_=>False
variable{e:Expr}{f:WE}{p apos Bg BN:Pos}
theorem uj(i:Nat)(hN:X.N.Nodup)(hi:X.N[i]?=some x)(hx:Loc X.env.scope x)(hm:X.mg "set" = none)(hg:Gl X "set" :=by rfl)(hs:abV (.Call (.Name "set" p) [] [] pos) (some (.Name x pos')) BN.line X.env=pure false:=by rfl)(hf:X.fn x=true\/X.env.scope.names.lookup x=some .local:=by first|exact .inl rfl|exact .inr rfl|assumption):
  EU ob X (.Assign [.Name x pos'] (.Call (.Name "set" p) [] [] pos) BN) (qK i):=by
 refine⟨_,dS hN hi hx (rX uM hg hm boot_set) hs hf,λZ F σ H env P D K hf L=>⟨rfl,λq hq=>L.nx _ _ F _ hf ao ?_⟩⟩
 exact(K.own (x:=.set []) hq (by show upd H q _ q=_;rw[am];simp)).take
theorem ul(i:Nat)(ho:PE X (.Name x p) (BF i))(ha:Bk ob X e f)
  (B0:ab7 (.Name x p) "add" X.env (eval (.Name x p) X.env)=eval (.Name x p) X.env:=by rfl)
  (Fe:((backTo Bg (aam [e] X.env)).all (λx=>!x.1) && (aej Bg (ac5 [] X.env)).all (λx=>x.1.isSome)
   && decide ([e].length+([]:List ada).length+(if ([]:List ada).isEmpty then 0 else 1)<30))=true:=by rfl)
  (BZ:(apos.endLine==Bg.line)=true:=by rfl) (FP:aam [e] X.env=(false,eval e X.env)::aam [] X.env:=by rfl) (Cr:(backTo Bg (aam [] X.env)).any (·.1)=false:=by rfl)
  (hs:abV (.Call (.Attribute (.Name x p) "add" apos) [e] [] Bg) none BN.line X.env=pure false:=by rfl) :
  EU ob X (.Expr (.Call (.Attribute (.Name x p) "add" apos) [e] [] Bg) BN) (qL i f):=by
 obtain⟨t,ht,k⟩:=ha.ex
 refine⟨_,jw (tz ho (bh ht bv FP) B0 Fe BZ FP Cr) hs,λZ F σ H env P D K hf L=>?_⟩
 obtain⟨h0,hf⟩:=hf
 obtain⟨a,S0,hσ,ha⟩:∃(a:Addr) (S0:List Str),σ[i]?=some (some (.ref a))/\H a=some (EY X.prog X.w a (λs=>decide (s∈S0)) S0.length):=by
  split at h0
  .rename_i S e
   obtain⟨a,h1,h2⟩:=K.ownAt (.inl rfl) e
   exact⟨a,S,h1,h2⟩
  .exact h0.elim
 refine⟨_,hσ,a,_,_,rfl,ha,k Z F σ H env _ _ K hf λy e1 y' F1 H1 p1 s1 K1 r1=>?_⟩
 split at p1
 .rename_i S kk es
  obtain⟨a',h1,h2⟩:=K1.ownAt (.inl rfl) es
  rw[hσ]at h1;cases h1
  cases r1
  have h2:H1 a=some (EY X.prog X.w a (λs=>decide (s∈S)) S.length):=h2
  refine⟨kk,_,_,rfl,h2,by have:=p1.1;unfold scanBound;omega,L.nx _ _ F1 _ p1.2 s1 (K1.write (.inl rfl) es hσ ?_)⟩
  show upd H1 a _ a=some _
  rw[am]
  unfold DR
  by_cases hm:kk∈S
  .rw[if_pos hm]
   have:(λk'=>decide (k'∈S) || decide (k'=kk))=λs=>decide (s∈S):=by
    funext k'
    by_cases q:k'=kk
    .subst q;simp[hm]
    .simp[q]
   simp only[this,hm,decide_true,if_true]
  .rw[if_neg hm]
   have:(λk'=>decide (k'∈S) || decide (k'=kk))=λs=>decide (s∈S++[kk]):=by
    funext k'
    simp[Bool.decide_or]
   simp only[this,hm,decide_false,aaR,if_false,aau,aeb]
 .exact p1.elim
def E9(env:En):En:=env.map λo=>match o with
 |some ⟨0,x⟩=>some ⟨0,x⟩
 |_=>none
def Gv(F H:Hp):Zn:=⟨H,F,[],λ_=>none,λ_ h=>by simp at h⟩
variable{F' H':Hp}{dO:En}
theorem AI.pure(K:AI M Z F σ H env):AI M (Gv F H) F σ H (E9 env):=by
 refine⟨K.sF,λb o h _=>h,λb h=>h,ao,λa h=>.inl h,by simp[E9,K.len],λ_=>[],λi s e=>?_,λi a h=>by simp at h,λi j a _ h=>by simp at h,λi a s h=>by cases h⟩
 unfold E9 at e
 rw[aaj]at e
 cases ei:env[i]? with
 |none=>rw[ei]at e;cases e
 |some o=>
  rw[ei]at e
  have e:=aap e
  dsimp only at e
  split at e
  .cases e
   obtain⟨v,hv,r⟩:=K.val ei
   exact⟨v,hv,.inl ⟨rfl,rfl,r⟩⟩
  .cases e
theorem AI.Jk(K:AI M Z F σ H env)(K':AI M (Gv F H) F' σ H' dO):AI M Z F' σ H' env/\eQ H H'/\∀fp,Slots M Z F σ H env fp->Slots M Z F' σ H' env fp:=by
 have sH:eQ H H':=λb o h=>K'.sG b o h (by simp[Gv])
 have nw:∀a,F' a≠none->F a≠none\/H a=none:=K'.nw
 exact⟨K.move K'.gr K'.sF sH nw,sH,λfp L=>L.move K'.gr (λ_ c o _ e=>sH c o e) nw⟩
def mr(i:Nat)(it:WA):WS:=λP env=>it env λxs e=>∃ks,xs.mapM DZ=some ks/\ks.Nodup/\ks.length<=1000/\P.nx (e.set i (some ⟨4,.BJ (ks.map λk=>(k,.lst []))⟩))
def HS(kvs:List (Key×PV))(k:Key):Option (List PV):=match BY kvs k with
 |some (.lst xs)=>some xs
 |_=>none
def FT(kvs:List (Key×PV))(k:Key)(xs:List PV):List (Key×PV):=kvs.map λkv=>if kv.1=k then (k,.lst xs)else kv
def gH(i:Nat)(fk fv:WE):WS:=λP env=>match env[i]? with
 |some (some ⟨4,.BJ kvs⟩)=>(kvs.map (·.1)).Nodup/\fk (E9 env) λy _=>opt (DZ y) λk=>opt (HS kvs k) λxs=>fv (E9 env) λv _=>xs.length<=100000/\P.nx (env.set i (some ⟨4,.BJ (FT kvs k (xs++[v]))⟩))
 |_=>False
def mq(i:Nat):WS:=λP env=>match env[i]? with
 |some (some ⟨4,x⟩)=>P.ro x i env
 |_=>False
variable{α β:Type}
theorem kR{f:α->Option β}{l:List α}{m:List β}(h:l.mapM f=some m)(i:Nat)(b:β)(hb:m[i]?=some b):∃a,l[i]?=some a/\f a=some b:=by
 obtain⟨hl,h2⟩:=bA h
 have hi:i<l.length:=by
  rw[<- hl]
  rcases aaU i m.length with q|q
  .exact q
  .rw[aao q]at hb;cases hb
 obtain⟨b',e1,e2⟩:=h2 i l[i] (by simp[hi])
 rw[hb]at e1;cases e1
 exact⟨l[i],by simp[hi],e2⟩
variable{v:V}
theorem vm{kvs:List (Key×V)}{k:Key}(h:k∉kvs.map (·.1)):putK kvs k v=kvs++[(k,v)]:=by
 unfold putK
 rw[if_neg]
 intro z
 obtain⟨p,hp,e⟩:=List.any_eq_true.mp z
 exact h (List.mem_map.mpr ⟨p,hp,of_decide_eq_true e⟩)
variable{iter:Expr}{scope:Scope}{p2 p3:Pos}{fi:WA}{t:Str}
variable{py:Pos}
theorem ut(i:Nat)(hN:X.N.Nodup)(hy:X.N[i]?=some y)(hl:X.env.scope.names.lookup y=some .local)(hi:Jd (Ex X.K) X (.Name t p1) iter fi)(hg:∀C s₀ H₀ ex pn,PG (AK X scope [t] C s₀ H₀ ex pn) (.Name t p1) (CG 0))(hk:∀C s₀ H₀ ex pn,PE (AK X scope [t] C s₀ H₀ ex pn) (.Name t p2) (BF 0))
  (JJ:abV (.DictComp (.Name t p2) (.List [] p3) [⟨.Name t p1,iter,[],0⟩] scope pos) (some (.Name y py)) BN.line X.env=pure true:=by rfl)
  (hc:X.calm=true:=by rfl) (hx:X.xe=(λ_ _=>False):=by rfl) (D7:D9 X.env scope=true:=by rfl) (BQ:CI X.N scope [t] [none]=true:=by rfl) (Bf:scope.kind=.function:=by rfl) (hs:∀x,abb iter X.env x=pure x:=by intro _;rfl) :
  EU (Ex X.K) X (.Assign [.Name y py] (.DictComp (.Name t p2) (.List [] p3) [⟨.Name t p1,iter,[],0⟩] scope pos) BN) (mr i fi):=by
 obtain⟨wi,JF,k⟩:=hi.ex
 refine⟨_,wM (i:=i) (wi:=wi) (g:=CG 0) (tc:=LX) (tk:=BF 0) (te:=L9 Il) (N:=[t]) (js:=[none]) hN hy hl JF hg (λC s₀ H₀ ex pn=>tu) hk (λC s₀ H₀ ex pn=>i0 bv) jJ JJ hc hx D7 BQ Bf hs,λZ F σ H env P D K hf L=>?_⟩
 refine k Z F σ H env _ _ K hf λxs e1 J F1 H1 pp s1 K1 I1 l hl=>?_
 obtain⟨ks,G4,Qy,hlen,pp⟩:=pp
 obtain⟨XA,_⟩:=bA G4
 obtain⟨fp,L1⟩:=K1.sl
 have So:Z.H₀ l=none:=K1.h0 hl
 refine⟨λj m ys H'=>m=xs.length - j/\j<=xs.length/\∃(as:List Addr) (F':Hp),eQ F1 F'/\as.length=j/\ys=((ks.take j).zip as).map (λt=>(t.1,V.ref t.2))/\H' l=some (.dK ys)/\as.Nodup/\(∀a∈as,H' a=some (.lst [])/\(Z.H₀ a=none/\∀i,a∉fp i)/\F' a=none/\a≠l) /\
   AI (md (Ex X.K) X) Z F' σ H' e1/\Slots (md (Ex X.K) X) Z F' σ H' e1 fp/\F' l=none,?_,?_⟩
 .have hF:F1 l=none:=eQ.none_of K1.sF hl
  have hn:∀i,l∉fp i:=λi h=>(L1.al i l h).1 hl
  obtain⟨K2,L2⟩:=K1.DU (o:=.dK []) L1 hF So hn
  exact⟨_,rfl,abv _,[],F1,ao,rfl,by simp,am,by simp,λa h=>by simp at h,K2,L2,hF⟩
 rintro j m ys H' ⟨rfl,hj,as,F',sF,Pj,rfl,NF,hand,has,K',L',Uu⟩
 by_cases BW:j<xs.length
 .have Ug:j<ks.length:=by omega
  obtain⟨h1,h2⟩:=I1.go Z j σ e1 F' H' xs[j] sF K' (by simp[BW])
  refine .inr ⟨h1,λv H3 yv=>?_⟩
  obtain⟨F3,s3,K3,r3,sH,nw⟩:=h2 v H3 yv
  obtain⟨a0,ea,ek⟩:=kR G4 j ks[j] (by simp[Ug])
  rw[aab BW]at ea
  cases ea
  have hv:=gO ek r3
  subst hv
  have L3:Slots (md (Ex X.K) X) Z F3 σ H3 e1 fp:=L'.move s3 (λ_ c o _ e=>sH c o e) nw
  unfold CG LX
  dsimp only
  rw[if_pos rfl]
  refine⟨_,rfl,abv _,λq hq=>⟨ks[j],rfl,?_⟩⟩
  have Pa:l≠q:=av (sH _ _ NF) hq
  have KN:(upd H3 q (.lst [])) l=some (.dK (((ks.take j).zip as).map λt=>(t.1,V.ref t.2))):=by rw[aj Pa];exact sH _ _ NF
  have RW:(((ks.take j).zip as).map λt=>((t.1:Key),V.ref t.2)).length=j:=by simp[Pj];omega
  have nF:∀{b:Addr},F' b=none->H' b≠none->F3 b=none:=λ{b} q1 q2=>by
   cases e:F3 b with
   |none=>rfl
   |some o=>
    rcases nw b (by rw[e];simp)with z|z
    .exact absurd q1 z
    .exact absurd z q2
  have Po:F3 l=none:=nF Uu (by rw[NF];simp)
  have Pn:F3 q=none:=eQ.none_of K3.sF hq
  have Ua:∀i,q∉fp i:=λi h=>(L3.al i q h).1 hq
  obtain⟨K4,L4⟩:=K3.DU (o:=.lst []) L3 Pn (K3.h0 hq) Ua
  have Sh:∀i,l∉fp i:=λi h=>(L1.al i l h).1 hl
  have SY:putK (((ks.take j).zip as).map λt=>((t.1:Key),V.ref t.2)) ks[j] (.ref q)=((ks.take (j+1)).zip (as++[q])).map λt=>(t.1,V.ref t.2):=by
   rw[vm,abY,aab Ug]
   .rw[List.zip_append (by simp[Pj];omega)]
    simp
   .intro z
    rw[aaw]at z
    obtain⟨⟨kk,aa⟩,hm,e⟩:=List.mem_map.mp z
    have Sj:=(adk hm).1
    have e:kk=ks[j]:=e
    subst e
    obtain⟨n,hn,en⟩:=List.mem_take_iff_getElem.mp Sj
    have:=(abU Qy).mp en
    omega
  obtain⟨K5,L5⟩:=K4.DU (o:=.dK (putK (((ks.take j).zip as).map λt=>((t.1:Key),V.ref t.2)) ks[j] (.ref q))) L4 Po So Sh
  refine⟨KN,by rw[RW,aaC];omega,xs.length - (j+1),by omega,rfl,BW,as++[q],F3,ak sF s3,by simp[Pj],SY,am,?_,λa ha=>?_,K5,L5,Po⟩
  .rw[abJ]
   refine⟨hand,by simp,λa ha b hb z=>?_⟩
   simp at hb;subst hb;subst z
   have:=sH _ _ (has a ha).1
   rw[hq]at this;cases this
  .rcases List.mem_append.mp ha with ha|ha
   .obtain⟨q1,q2,q3,q4⟩:=has a ha
    have:a≠q:=av (sH _ _ q1) hq
    exact⟨by rw[aj q4,aj this];exact sH _ _ q1,q2,nF q3 (by rw[q1];simp),q4⟩
   .simp at ha;subst ha
    exact⟨by rw[aj Pa.symm];exact am,⟨K3.h0 hq,Ua⟩,Pn,Pa.symm⟩
 .have e:j=xs.length:=by omega
  subst e
  refine .inl ⟨I1.stop Z _ σ e1 F' H' sF K' (aal _),L.nx _ _ F' H' pp (ak s1 sF) ?_⟩
  have Sh:∀i,l∉fp i:=λi h=>(L1.al i l h).1 hl
  rcases aaU i e1.length with VZ|Ja
  case inr=>
   rw[abu Ja,abu (by have:=K'.len;omega)]
   exact K'
  have ht:ks.take xs.length=ks:=ac0 (by omega)
  rw[ht]at NF
  refine K'.slots (by simp[K'.len]) (L'.put (l:=l::as) (by simp) (by have:=K'.len;omega) (.inr (.inr (.inl ⟨.inr rfl,l,rfl,λc hc=>.inr ?_,.inr (.inl ⟨(ks.zip as).map λt=>(t.1,t.2,[]),?_,?_,?_,?_,?_⟩)⟩))) (λc hc=>?_) λj c _ hc=>?_)
  .rcases List.mem_cons.mp hc with rfl|hc
   .exact So
   .exact(has c hc).2.1.1
  .rw[aaw]
   have:(ks.map λk=>((k:Key),PV.lst []))=(ks.zip as).map ((λt:Key×Addr×List PV=>(t.1,PV.lst t.2.2)) ∘ λt=>(t.1,t.2,[])):=by
    have e1:(λt:Key×Addr×List PV=>(t.1,PV.lst t.2.2)) ∘ (λt:Key×Addr=>(t.1,t.2,[]))=(λk=>((k:Key),PV.lst [])) ∘ Prod.fst:=rfl
    rw[e1,<- aaw,List.map_fst_zip (by omega)]
   rw[this]
  .rw[aaw]
   have e1:(λt:Key×Addr×List PV=>t.2.1) ∘ (λt:Key×Addr=>(t.1,t.2,[]))=Prod.snd:=rfl
   rw[e1,afi (by omega)]
  .rw[aaw];exact NF
  .rw[aaw]
   have e1:(λt:Key×Addr×List PV=>t.2.1) ∘ (λt:Key×Addr=>(t.1,t.2,[]))=Prod.snd:=rfl
   rw[e1,afi (by omega)];exact hand
  .intro t ht
   obtain⟨⟨kk,aa⟩,hm,rfl⟩:=List.mem_map.mp ht
   exact⟨[],(has aa (adk hm).2).1,.nil⟩
  .rcases List.mem_cons.mp hc with rfl|hc
   .exact⟨by rw[NF];simp,Uu⟩
   .exact⟨by rw[(has c hc).1];simp,(has c hc).2.2.1⟩
  .rcases List.mem_cons.mp hc with rfl|hc
   .exact Sh j
   .exact(has c hc).2.1.2 j
variable{px:Pos}
theorem uw(i:Nat){ke:Expr}{fk fv:WE}{ps:Pos}(hu:X.A.units+1<cLine)(ho:PE X (.Name x px) (BF i))(hk:Bk (Ex X.K) X ke fk)(hv:Bk (Ex X.K) X e fv)(IY:IP ke:=by exact λ_ _=>rfl)
  (B0:ab7 (.Subscript (.Name x px) ke ps) "append" X.env (eval (.Subscript (.Name x px) ke ps) X.env)=eval (.Subscript (.Name x px) ke ps) X.env:=by rfl)
  (Fe:((backTo Bg (aam [e] X.env)).all (λx=>!x.1) && (aej Bg (ac5 [] X.env)).all (λx=>x.1.isSome)
   && decide ([e].length+([]:List ada).length+(if ([]:List ada).isEmpty then 0 else 1)<30))=true:=by rfl)
  (BZ:(apos.endLine==Bg.line)=true:=by rfl) (FP:aam [e] X.env=(false,eval e X.env)::aam [] X.env:=by rfl) (Cr:(backTo Bg (aam [] X.env)).any (·.1)=false:=by rfl)
  (hs:abV (.Call (.Attribute (.Subscript (.Name x px) ke ps) "append" apos) [e] [] Bg) none BN.line X.env=pure false:=by rfl) :
  EU (Ex X.K) X (.Expr (.Call (.Attribute (.Subscript (.Name x px) ke ps) "append" apos) [e] [] Bg) BN) (gH i fk fv):=by
 obtain⟨tk,NB,kk⟩:=hk.ex
 obtain⟨tv,R4,kv⟩:=hv.ex
 refine⟨_,jw (rY acW abH abG bR (xt hu ho NB IY) (bh R4 bv FP) B0 Fe BZ FP Cr) hs,λZ F σ H env P D K hf L=>?_⟩
 unfold gH at hf
 split at hf
 case h_2=>exact hf.elim
 rename_i kvs ei
 obtain⟨Qy,hf⟩:=hf
 obtain⟨fp,L0⟩:=K.sl
 obtain⟨w,hw,ok⟩:=L0.at' i _ ei
 obtain⟨a,rfl,hd⟩:∃a,w=.ref a/\LL X.K F H a (fp i) (.BJ kvs):=by
  rcases ok with ⟨k0,_⟩|⟨k0,_⟩|⟨_,a,e,_,h⟩|⟨k0,_⟩
  .cases k0
  .cases k0
  .rcases h with (⟨h,_⟩|⟨_,_,h,_⟩)|h|⟨_,_,_,_,h,_⟩
   .cases h
   .cases h
   .exact⟨a,e,h⟩
   .cases h
  .cases k0
 refine⟨_,hw,kk (Gv F H) F σ H (E9 env) _ _ K.pure hf λy e1 y' F1 H1 p1 s1 K1 r1=>?_⟩
 obtain⟨K2,Oe,Wq⟩:=K.Jk K1
 obtain⟨k,GJ,xs,Qt,p1⟩:=p1
 have hy:=gO GJ r1
 subst hy
 obtain⟨ks,Px,e2,e3,e4,e5⟩:=hd
 cases Px
 have KL:∃t∈ks,t.1=k/\t.2.2=xs:=by
  unfold HS at Qt
  split at Qt
  .rename_i zs hz
   cases Qt
   unfold BY at hz
   rw[aaA]at hz
   obtain⟨kv,hf,hv⟩:=hz
   have hm:=afM hf
   have hp:=List.find?_some hf
   obtain⟨t,ht,rfl⟩:=List.mem_map.mp hm
   exact⟨t,ht,of_decide_eq_true hp,by injection hv⟩
  .cases Qt
 obtain⟨t,ht,rfl,rfl⟩:=KL
 have G4:(ks.map (·.1)).Nodup:=by rw[aaw]at Qy;exact Qy
 have inj:∀t'∈ks,t'.1=t.1->t'=t:=λt' h' e=>by
  obtain⟨n,hn,rfl⟩:=List.mem_iff_getElem.mp ht
  obtain⟨n',KJ,rfl⟩:=List.mem_iff_getElem.mp h'
  have:n'=n:=(abU (h₀:=by simpa using KJ) (h₁:=by simpa using hn) G4).mp (by simpa using e)
  subst this;rfl
 have MJ:C3 (ks.map λt=>(t.1,V.ref t.2.1)) t.1=some (.ref t.2.1):=by
  unfold C3
  rw[aaA]
  cases hf:(ks.map λt=>(t.1,V.ref t.2.1)).find? λkv=>decide (kv.1=t.1)with
  |none=>
   have:=List.find?_eq_none.mp hf (t.1,V.ref t.2.1) (List.mem_map.mpr ⟨t,ht,rfl⟩)
   simp at this
  |some q=>
   have hm:=afM hf
   have hp:=List.find?_some hf
   obtain⟨t',VE,rfl⟩:=List.mem_map.mp hm
   have:=inj t' VE (of_decide_eq_true hp)
   subst this
   exact⟨_,rfl,rfl⟩
 obtain⟨Nr,Gs,TK⟩:=e5 t ht
 refine⟨a,.ref t.2.1,rfl,by rw[<- MJ];exact RQ (Oe _ _ e3),.inl ⟨rfl,Nr,.inl (.inl (Oe _ _ Gs))⟩,?_⟩
 refine kv (Gv F1 H1) F1 σ H1 (E9 env) _ _ K2.pure p1 λv XI v' F2 H2 p2 s2 K3 r2=>?_
 obtain⟨K4,Rr,Wp⟩:=K2.Jk K3
 have L4:=Wp fp (Wq fp L0)
 have VA:=Rr _ _ (Oe _ _ Gs)
 have Ru:=ak s1 s2
 refine⟨t.2.1,Nr,v',rfl,rfl,VA,by rw[TK.len,aaC];have:=p2.1;omega,L.nx _ _ F2 _ p2.2 Ru ?_⟩
 have HW:t.2.1∈fp i:=by rw[e2];exact aar _ (aaV (f:=λt=>t.2.1) ht)
 have RI:t.2.1≠a:=r9 Gs e3 (by intro z;cases z)
 refine(K4.KA (.inr rfl) L4 ei hw (l':=fp i) (F':=F2) (H':=upd H2 t.2.1 (.lst (Nr++[v']))) (λb o h1 h2=>?_) (λb h=>?_) ao (λb o h=>?_) (λb h=>.inl h) (.inr (.inl ⟨ks.map λt'=>if t'.1=t.1 then (t.1,t.2.1,t.2.2++[v])else t',?_,?_,?_,?_,?_⟩)) (λb hb=>?_) (λb hb=>.inl hb)).1
 .rw[aj λz:b=t.2.1=>h2 (by rw[z];exact HW)];exact h1
 .by_cases q:b=t.2.1
  .subst q;rw[am];simp
  .rw[aj q];exact h
 .have:b≠t.2.1:=av h (L4.al i _ HW).2
  rw[aj this];exact K4.sF b o h
 .unfold FT
  rw[aaw,aaw]
  congr 1
  apply aaW
  intro t' _
  show (if t'.1=t.1 then (t.1,PV.lst (t.2.2++[v]))else (t'.1,PV.lst t'.2.2))=((if t'.1=t.1 then (t.1,t.2.1,t.2.2++[v])else t').1,PV.lst (if t'.1=t.1 then (t.1,t.2.1,t.2.2++[v])else t').2.2)
  split<;>rfl
 .rw[e2,aaw]
  congr 1
  apply aaW
  intro t' h'
  show t'.2.1=(if t'.1=t.1 then (t.1,t.2.1,t.2.2++[v])else t').2.1
  split
  .rename_i q;rw[inj t' h' q]
  .rfl
 .rw[aj RI.symm,Rr _ _ (Oe _ _ e3),aaw]
  congr 2
  apply aaW
  intro t' h'
  show (t'.1,V.ref t'.2.1)=((if t'.1=t.1 then (t.1,t.2.1,t.2.2++[v])else t').1,V.ref (if t'.1=t.1 then (t.1,t.2.1,t.2.2++[v])else t').2.1)
  split
  .rename_i q;rw[inj t' h' q]
  .rfl
 .rw[aaw]
  have:(ks.map ((λt=>t.2.1) ∘ λt'=>if t'.1=t.1 then (t.1,t.2.1,t.2.2++[v])else t'))=ks.map λt=>t.2.1:=by
   apply aaW
   intro t' h'
   show (if t'.1=t.1 then (t.1,t.2.1,t.2.2++[v])else t').2.1=t'.2.1
   split
   .rename_i q;rw[inj t' h' q]
   .rfl
  rw[this];exact e4
 .intro q hq
  obtain⟨t',h',rfl⟩:=List.mem_map.mp hq
  by_cases e:t'.1=t.1
  .rw[if_pos e]
   exact⟨_,am,(TK.mono Ru).app (.cons r2 .nil)⟩
  .rw[if_neg e]
   obtain⟨Jj,q1,q2⟩:=e5 t' h'
   have BV:t'.2.1≠t.2.1:=λz=>by
    obtain⟨n,hn,rfl⟩:=List.mem_iff_getElem.mp ht
    obtain⟨n',KJ,rfl⟩:=List.mem_iff_getElem.mp h'
    have:n'=n:=(abU (h₀:=by simpa using KJ) (h₁:=by simpa using hn) e4).mp (by simpa using z)
    subst this;exact e rfl
   exact⟨Jj,by rw[aj BV];exact Rr _ _ (Oe _ _ q1),q2.mono Ru⟩
 .have:=L4.al i b hb
  refine⟨?_,this.2⟩
  by_cases q:b=t.2.1
  .subst q;rw[am];simp
  .rw[aj q];exact this.1
theorem ur(i:Nat)(ho:PE X (.Name x px) (BF i)):EU ob X (.Return (some (.Name x px)) BN) (mq i):=by
 refine⟨_,gK ho,λZ F σ H env P D K hf L=>?_⟩
 unfold mq at hf
 split at hf
 case h_2=>exact hf.elim
 rename_i y ei
 obtain⟨fp,L0⟩:=K.sl
 obtain⟨w,hw,ok⟩:=L0.at' i _ ei
 exact⟨_,hw,L.ro _ i env w σ F H hf ao K ei hw⟩
def Lv(P:PV->Prop):Wd:={nx:=λ_=>P .AF,rt:=λx _=>P x,ro:=λx _ _=>(∃kvs,x=.BJ kvs)/\P x}
def Lh(n:Nat)(u:WS):Fd:=λxs P=>u (Lv P) (BM n xs)
variable{qual:Str}{st:Stmt}{N:List Str}{u:WS}
theorem zN{f:Addr}(F:Ii K x qual st f fd)(S:ay N ps (aq st))(hn:ps.length<=N.length)
  (hb:∀(Bi:Value) (A:Around) (outer:List Env) (s:Shared) (H:Hp) (E:XK),Br k (A.deeper (envOfC qual (aq st) s.heap.objs.size f Bi))->Et (Ex K) (Fl Cz P w K mg base N qual (aq st) f Bi A outer s H E).J5 (bI st) u) :
  A8 P w K mg base Cz (k+1) f fd ps (Kp ⟨P,w,K,Ex K⟩ ps.length (Lh N.length u)):=by
 refine F.ok S (λvs H Q E h=>?_) (λBi A outer s H vs Q E hr h=>?_)
 .obtain⟨F,xs,P,_,r,hl,_⟩:=h
  rw[r.len];exact hl
 .obtain⟨F,xs,P',sF,r,hl,hD,kk⟩:=h
  obtain⟨t,ht,kt⟩:=(hb Bi A outer s H E hr).ex
  refine⟨t,ht,kt ⟨H,F,[],λ_=>none,λ_ h=>by simp at h⟩ F (start N vs) H (BM N.length xs) (Lv P') _ (nk (M:=⟨P,w,K,Ex K⟩) sF r (by omega)) hD ⟨λenv σ F' H' p s1 K1=>?_,λx env v σ F' H' p s1 K1 rv=>?_,λ_ _ _ _ p=>p.elim,λ_ _ _ _ p=>p.elim,λ_ _ _ _ _ _ p=>p.elim,λx i env v σ F' H' p s1 K1 ei hv=>?_⟩⟩
  .exact kk .AF .AF F' H' p (λb o h=>K1.sG b o h (by simp)) s1 K1.sF K1.nw .AF
  .exact kk x v F' H' p (λb o h=>K1.sG b o h (by simp)) s1 K1.sF K1.nw rv
  .obtain⟨O0,p⟩:=p
   obtain⟨fp,L⟩:=K1.sl
   obtain⟨v',JG,ok⟩:=L.at' i _ ei
   rw[hv]at JG;cases JG
   rcases ok with ⟨k0,_⟩|⟨k0,_⟩|⟨_,a,rfl,Vz,h⟩|⟨k0,_⟩
   .cases k0
   .cases k0
   .obtain⟨Xr,O0⟩:=O0
    rcases h with (⟨h,_⟩|⟨_,_,h,_⟩)|⟨ks,rfl,e2,e3,e4,e5⟩|⟨_,_,_,_,h,_⟩
    .rw[O0]at h;cases h
    .rw[O0]at h;cases h
    rotate_left
    .rw[O0]at h;cases h
    .let F2:Hp:=λb=>if b∈fp i then H' b else F' b
     have TH:eQ F' F2:=λb o hb=>by
      show (if b∈fp i then H' b else F' b)=some o
      split
      .exact K1.sF b o hb
      .exact hb
     have at2:∀b,b∈fp i->F2 b=H' b:=λb hb=>if_pos hb
     refine kk _ _ F2 H' p (λb o h=>K1.sG b o h (by simp)) (ak s1 TH) (λb o hb=>?_) (λb hb=>?_) ?_
     .have hb:(if b∈fp i then H' b else F' b)=some o:=hb
      split at hb
      .exact hb
      .exact K1.sF b o hb
     .have hb:(if b∈fp i then H' b else F' b)≠none:=hb
      split at hb
      .rename_i q
       rcases Vz b q with z|z
       .simp at z
       .exact .inr z
      .exact K1.nw b hb
     .have ha:F2 a=some (.dK (ks.map λt=>(t.1,V.ref t.2.1))):=by rw[at2 a (by rw[e2];simp)];exact e3
      refine .BJ ha ?_
      have go:∀(l:List (Key×Addr×List PV)),(∀t∈l,t∈ks)->AL K F2 (l.map λt=>(t.1,V.ref t.2.1)) (l.map λt=>(t.1,PV.lst t.2.2)):=by
       intro l
       induction l with
       |nil=>intro _;exact .nil
       |cons t l ih=>
        intro hs
        obtain⟨Jj,q1,q2⟩:=e5 t (hs t (by simp))
        refine .cons (.lst ?_ (q2.mono TH)) (ih λt' h'=>hs t' (aar _ h'))
        rw[at2 _ (by rw[e2];exact aar _ (aaV (f:=λt=>t.2.1) (hs t (by simp))))]
        exact q1
      exact go ks λ_ h=>h
   .cases k0
def Er(ss ts:List Str):Prop:=ts.Perm ss/\ts.Pairwise λa b=>¬ AZ b a
def Fb:Key->Option Str
 |.inr s=>some s
 |.inl _=>none
def Cv(fa:WA):WE:=λenv P=>fa env λxs e=>match xs with
 |[.lst ys]=>∃ss,ys.mapM CC=some ss/\ss.length<64/\∀ts,Er ss ts->P (.lst (ts.map .str)) e
 |[.BJ kvs]=>∃ss,(kvs.map (·.1)).mapM Fb=some ss/\ss.length<64/\∀ts,Er ss ts->P (.lst (ts.map .str)) e
 |_=>False
theorem dR:∀(ss:List Str),AJ K F (ss.map V.str) (ss.map PV.str)
 |[]=>.nil
 |s::ss=>.cons (.str s) (dR ss)
theorem lI:∀{ks:List Key} {ss:List Str},ks.mapM Fb=some ss->ks=ss.map aav
 |[],ss,h=>by simp at h;subst h;rfl
 |k::ks,ss,h=>by
  rw[aby]at h
  cases ea:Fb k with
  |none=>rw[ea]at h;cases h
  |some a=>
   rw[ea]at h
   cases el:ks.mapM Fb with
   |none=>rw[el]at h;cases h
   |some bs=>
    rw[el]at h
    have h:some (a::bs)=some ss:=h
    cases h
    rw[lI el,aan]
    cases k<;>cases ea
    rfl
variable{a b c:Expr}{es:List Expr}{g h:WE}{fa:WA}
theorem fK(hc:X.calm=true)(hg:Gl X "sorted")(hm:X.mg "sorted" = none)(ha:FL ob X (e::es) fa)
  (he:aam (e::es) X.env=(false,eval e X.env)::aam es X.env:=by rfl) (B8:(backTo pos (aam es X.env)).any (·.1)=false:=by rfl):IQ ob X (.Call (.Name "sorted" p) (e::es) [] pos) (Cv fa):=by
 obtain⟨t,ht,k⟩:=ha.ex
 refine⟨_,bN (AR.or sv (sx hc)) hg hm adP ht (by decide) (by decide) he B8,λZ F σ H env P Q K hf kk=>k Z F σ H env _ _ K hf λxs e1 vs F1 H1 p s1 K1 r1=>?_⟩
 split at p
 .obtain⟨ss,hs,hl,p⟩:=p
  obtain⟨v,rfl,r⟩:=r1.one
  obtain⟨q,vs,rfl,h1,h2⟩:=r.lst K1.sF
  have:=cR jt hs h2
  subst this
  exact .inl ⟨q,ss,rfl,.inl (.inl h1),hl,λl ts hn hp hw=>kk _ e1 _ F1 _ (p ts ⟨hp,hw⟩) s1 (λ_=>by simp) (K1.own hn ⟨_,am,dR ts⟩)⟩
 .obtain⟨ss,hs,hl,p⟩:=p
  obtain⟨v,rfl,r⟩:=r1.one
  obtain⟨q,vs,rfl,h1,h2⟩:=r.BJ K1.sF
  refine .inr ⟨q,vs,ss,rfl,h1,by rw[h2.keys];exact lI hs,hl,λl ts hn hp hw=>kk _ e1 _ F1 _ (p ts ⟨hp,hw⟩) s1 (λ_=>by simp) (K1.own hn ⟨_,am,dR ts⟩)⟩
 .exact p.elim
end Q
namespace L2
open PySem PySem.Spec PyProof.Rows
variable{prog:aaJ}{w:World}{A:Around}{E:Value->Shared->Prop}{s:Shared}
structure Xl(h:Heap)(z u o i1 i2 t1 t2:Addr)(n:Nat):Prop where
 zz:IsZip h z u o .none
 uu:IsPair h u (.ref i1) (.ref i2)
 oo:∃a b,IsPair h o a b
 a1:h.IsListIter i1 t1 n
 a2:h.IsListIter i2 t2 n
variable{X:Cx}
end L2
namespace Q
open PySem L2
variable{ob:Cy}{X:Cx}{a b:Expr}{fa:WA}{pos p:Pos}
def Vt(a:WA):WA:=λenv P=>a env λxs e=>match xs with
 |[.tup xs,.tup ys]=>P (FW xs ys) e
 |[.lst xs,.lst ys]=>P (FW xs ys) e
 |_=>False
variable{α:Type}
theorem dB{z:α}{P:α->Prop}:opt (some z) P=P z:=propext DX
theorem vJ{P:α->Prop}:opt none P=False:=propext ⟨λ⟨_,e,_⟩=>(nomatch e),λh=>h.elim⟩
theorem ab{o:Option α}{z:α}{P:α->Prop}(h:o=some z)(k:P z):opt o P:=⟨z,h,k⟩
theorem fg(xs:List α)(n:Nat):CO xs none (some (n:Int))=xs.take n:=by
 unfold CO
 rw[HT.E3,HT.F9,List.drop_zero,Nat.sub_zero]
 by_cases h:n<=xs.length
 .rw[Nat.min_eq_left h]
 .rw[Nat.min_eq_right (by omega),abF,ac0 (by omega)]
theorem f7(xs:List α)(n:Nat):CO xs (some (n:Int)) none=xs.drop n:=by
 unfold CO
 rw[HT.E3,HT.F9]
 by_cases h:n<=xs.length
 .rw[Nat.min_eq_left h,ac0 (by simp)]
 .rw[Nat.min_eq_right (by omega),List.drop_length,List.drop_of_length_le (by omega)]
  simp
variable{g:WG}{c:WT}{f:WE}{js:List (Option Nat)}{P:PV->En->Prop}{env:En}
theorem br(G:PV->Option PV):∀{xs acc:List PV},(∀x∈xs,∀R:Option PV->En->Prop,R (G x) env ->
   g x (FH js env) λb1=>c b1 λok b2=>if ok=true then f b2 λy b3=>R (some y) (BS js env b3)else R none (BS js env b2))->acc.length+xs.length<=100000->P (.lst (acc++xs.filterMap G)) env->De g c f js P xs env acc
 |[],acc,_,_,k=>by simpa[De]using k
 |x::xs,acc,h,hl,k=>by
  have Iy:acc.length+xs.length+1<=100000:=by simpa[adc]using hl
  have hm:∀{a b:Prop},(a->b)->a->b:=λh=>h
  have:=h x (by simp) (λo e=>(match o with|some y=>acc.length<=100000/\De g c f js P xs e (acc++[y])|none=>De g c f js P xs e acc)) (by
   cases e:G x with
   |none=>
    refine br G (λy hy=>h y (by simp[hy])) (by omega) ?_
    simpa[abg,e]using k
   |some y=>
    refine⟨by omega,br G (λy hy=>h y (by simp[hy])) (by simp;omega) ?_⟩
    simpa[abg,e]using k)
  exact this
theorem bF(G:PV->PV):∀{xs acc:List PV},(∀x∈xs,∀R:PV->En->Prop,R (G x) env->g x (FH js env) λb1=>f b1 λy b3=>R y (BS js env b3))->acc.length+xs.length<=100000->P (.lst (acc++xs.map G)) env->De g Fq f js P xs env acc
 |[],acc,_,_,k=>by simpa[De]using k
 |x::xs,acc,h,hl,k=>by
  have Iy:acc.length+xs.length+1<=100000:=by simpa[adc]using hl
  simp only[De,Fq,if_true]
  exact h x (by simp) (λy e=>acc.length<=100000/\De g Fq f js P xs e (acc++[y])) ⟨by omega,bF G (λy hy=>h y (by simp[hy])) (by simp;omega) (by simpa using k)⟩
theorem bC{b:WS}{P:Wd}(I:Nat->En->Prop):∀{xs:List PV} {i:Nat} {env:En},I i env->(∀(j:Nat) (x:PV) (e:En) (N:En->Prop),xs[j]?=some x->I (i+j) e->(∀e',I (i+j+1) e'->N e')->g x e λe1=>b {P with nx:=N,ct:=N,bk:=P.nx} e1)->(∀e,I (i+xs.length) e->P.nx e)->Du g b P xs env
 |[],i,env,h0,_,hd=>hd env (by simpa using h0)
 |x::xs,i,env,h0,hs,hd=>hs 0 x env (Du g b P xs) rfl h0 λe' h'=>bC I (i:=i+1) h' (λj y e N hj hI k=>hs (j+1) y e N (by simpa using hj) (by rwa [adc,ad8 1 j]at hI) λe' h=>k e' (by rwa [adc i 1 j,ad8 1 j])) λe h=>hd e (by rwa [abp,ad8 xs.length 1,<- adc])
theorem rL:∀(bs:List Bool),(bs.map PV.bl).mapM Eo=some bs
 |[]=>rfl
 |b::bs=>by
  rw[aan,aby,rL bs];rfl
theorem f8(bs:List Bool):D4 [.lst (bs.map .bl)]=some (.bl (bs.all id)):=by
 show ((bs.map PV.bl).mapM Eo).map _=_
 rw[rL];rfl
theorem ne_int(i j:Int):DD (.int i) (.int j)=some (.bl (!decide (i=j))):=by
 show some (PV.bl (!decide (V.int i=V.int j)))=_
 congr 3
 simp
theorem ah{a b:WS}{P:Wd}(h:∀N:En->Prop,N=b P->a {P with nx:=N} env):oR a b P env:=h _ rfl
theorem cy{it:WA}{b:WS}{P:Wd}(h:∀(G:WG) (B:WS),G=g->B=b->it env λxs e=>Du G B P xs e):E4 it g b P env:=h _ _ rfl rfl
variable{s:Sl}
theorem zB:(some (some s):Option (Option Sl)).join.isSome=true:=rfl
variable{x:PV}
theorem Ip{zs:List PV}(h:zs.length<=100000):ci zs [x]=some (.AF,zs++[x]):=if_pos h
variable{k:Nat}{DG:Addr}{fd:abW}{ps:List Str}{x y:Str}{p1 pos':Pos}
theorem ux(i j:Nat)(hN:X.N.Nodup)(hi:X.N[i]?=some y)(hx:Loc X.env.scope y)(F:A8 X.prog X.w X.K X.mg X.base Cz k DG fd ps (Pre.ju X.K))(hr:Br k X.A)(hm:X.mg "_law_begin" = some (.ref DG))(hk:abQ X.K (.ref DG)=true)(hb:Binds X.K fd ps [])(ho:PE X (.Name x p1) (BF j))
  (JL:ob=Ex X.K:=by rfl) (hg:Gl X "_law_begin" :=by rfl) (he:aam [.Name x p1] X.env=(false,eval (.Name x p1) X.env)::aam [] X.env:=by rfl) (B8:(backTo pos (aam [] X.env)).any (·.1)=false:=by rfl)
  {BN:Pos} (hs:abV (.Call (.Name "_law_begin" p) [.Name x p1] [] pos) (some (.Name y pos')) BN.line X.env=pure false:=by rfl) (hf:X.fn y=true\/X.env.scope.names.lookup y=some .local:=by first|exact .inl rfl|exact .inr rfl|assumption) :
  EU ob X (.Assign [.Name y pos'] (.Call (.Name "_law_begin" p) [.Name x p1] [] pos) BN) (CM i j):=by
 subst JL
 exact wm i j hN hi hx F hr hm hk hb ho hg he B8 hs hf
end Q
set_option hygiene false in
local macro_rules|`(tactic| lia)=>`(tactic| simp only[Q.run,Q.Fy,Q.BM,Q.Na,Q.JV,Q.OB,Q.oR,Q.Cc,Q.AO,Q.Bj,Q.A5,Q.Dq,Q.Ew,Q.GA,Q.Fx,Q.DB,Q.CT,Q.CL,Q.oF,Q.GS,Q.UE,Q.iF,Q.BR,Q.eC,Q.eV,Q.Bq,Q.a1,Q.bY,Q.aS,Q.Ek,Q.D2,Q.WD,Q.Nb,Q.AW,Q.EI,Q.Dj,Q.JE,Q.iS,Q.Vt,Q.HZ,Q.C8,Q.CF,Q.AV,Q.JC,Q.LW,Q.Iu,Q.Bn,Q.Hr,Q.FA,Q.FG,Q.Jn,Q.Eo,Q.dB,Q.vJ,aan,ad9,aaI,List.cons_append,aaN,abp,acz,acl,acY,List.set_cons_zero,List.set_cons_succ,ad7,if_true,abK,act,aaR,if_false,decide_true,decide_false,ite_true,ite_false,Q.Gx,Q.gT,Q.gN,Q.Bx,Q.DF,Q.JD,Q.Kq,String.reduceBEq,aeu,Bool.or_false,Bool.false_or,Bool.true_or,Bool.and_true,Bool.true_and,Nat.reduceAdd,Nat.reduceSub,Q.AD,Q.zB,true_and,Q.JW,Q.OH,Q.MH,Q.Vu])
namespace Q
open PySem L2 PyProof.Rows
variable{ob:Cy}{X:Cx}{iter:Expr}{scope:Scope}{pos p1 p2 p3:Pos}{fi:WA}{x t:Str}
variable{y:Str}{py BN:Pos}
theorem sj(i:Nat)(hN:X.N.Nodup)(hy:X.N[i]?=some y)(hl:X.env.scope.names.lookup y=some .local)(hi:Jd ob X (.Name t p1) iter fi)(hg:∀C s₀ H₀ ex pn,PG (AK X scope [t] C s₀ H₀ ex pn) (.Name t p1) (CG 0))(hk:∀C s₀ H₀ ex pn,PE (AK X scope [t] C s₀ H₀ ex pn) (.Name t p2) (BF 0))
  (JL:ob=Ex X.K:=by rfl)
  (JJ:abV (.DictComp (.Name t p2) (.List [] p3) [⟨.Name t p1,iter,[],0⟩] scope pos) (some (.Name y py)) BN.line X.env=pure true:=by rfl)
  (hc:X.calm=true:=by rfl) (hx:X.xe=(λ_ _=>False):=by rfl) (D7:D9 X.env scope=true:=by rfl) (BQ:CI X.N scope [t] [none]=true:=by rfl) (Bf:scope.kind=.function:=by rfl) (hs:∀x,abb iter X.env x=pure x:=by intro _;rfl) :
  EU ob X (.Assign [.Name y py] (.DictComp (.Name t p2) (.List [] p3) [⟨.Name t p1,iter,[],0⟩] scope pos) BN) (mr i fi):=by
 subst JL
 exact ut i hN hy hl hi hg hk JJ hc hx D7 BQ Bf hs
variable{e:Expr}{px apos:Pos}
theorem lO(i:Nat){ke:Expr}{fk fv:WE}{ps Bg:Pos}(hu:X.A.units+1<cLine)(ho:PE X (.Name x px) (BF i))(hk:Bk ob X ke fk)(hv:Bk ob X e fv)(JL:ob=Ex X.K:=by rfl)(IY:IP ke:=by exact λ_ _=>rfl)
  (B0:ab7 (.Subscript (.Name x px) ke ps) "append" X.env (eval (.Subscript (.Name x px) ke ps) X.env)=eval (.Subscript (.Name x px) ke ps) X.env:=by rfl)
  (Fe:((backTo Bg (aam [e] X.env)).all (λx=>!x.1) && (aej Bg (ac5 [] X.env)).all (λx=>x.1.isSome)
   && decide ([e].length+([]:List ada).length+(if ([]:List ada).isEmpty then 0 else 1)<30))=true:=by rfl)
  (BZ:(apos.endLine==Bg.line)=true:=by rfl) (FP:aam [e] X.env=(false,eval e X.env)::aam [] X.env:=by rfl) (Cr:(backTo Bg (aam [] X.env)).any (·.1)=false:=by rfl)
  (hs:abV (.Call (.Attribute (.Subscript (.Name x px) ke ps) "append" apos) [e] [] Bg) none BN.line X.env=pure false:=by rfl) :
  EU ob X (.Expr (.Call (.Attribute (.Subscript (.Name x px) ke ps) "append" apos) [e] [] Bg) BN) (gH i fk fv):=by
 subst JL
 exact uw i hu ho hk hv IY B0 Fe BZ FP Cr hs
variable{P:aaJ}{w:World}{K:aah}{mg:Str->Option Value}{base:Heap}{k:Nat}{DG:Addr}{fd:abW}{ps:List Str}
end Q
namespace Q
open PySem L2
variable{c:WT}{b:WS}{P:Wd}{k:Nat}{env:En}
theorem sU(I:Nat->En->Prop)(step:∀(k:Nat) (e:En) (N:En->Prop),I k e->(∀k' e',k'<k->I k' e'->N e')->c e λv e1=>if v=true then b {P with nx:=N,ct:=N,bk:=P.nx} e1 else P.nx e1)(h:I k env):EZ c b P env:=by
 refine⟨k+1,?_⟩
 have aux:∀n k env,k<n->I k env->Hc c b P n env:=by
  intro n
  induction n with
  |zero=>intro k env h _;omega
  |succ n ih=>intro k env hk hI;exact step k env (Hc c b P n) hI λk' e' h1 h2=>ih k' e' (by omega) h2
 exact aux _ k env (by omega) h
theorem aL{a:WS}(h:∀(A B:WS),A=a->B=b->c env λk e=>if k=true then A P e else B P e):Cc c a b P env:=h _ _ rfl rfl
theorem sI(h:∀(C:WT) (B:WS),C=c->B=b->EZ C B P env):EZ c b P env:=h _ _ rfl rfl
variable{α:Type}
theorem cO{f:α->Str}{g:α->PV}:∀{l:List α} {a:α},(l.map f).Nodup->a∈l->BY (l.map λx=>((aav (f x):Key),g x)) (aav (f a))=some (g a)
 |b::l,a,nd,h=>by
  unfold BY
  rw[aan,abD]
  rw[aan,afz]at nd
  rcases List.mem_cons.mp h with rfl|h
  .simp
  .have BV:f b≠f a:=λe=>nd.1 (by rw[e];exact aaV h)
   have:decide ((aav (f b):Key)=aav (f a))=false:=by simp[BV]
   simp only[this]
   exact cO nd.2 h
theorem nh{f:α->Str}{g:α->PV}:∀{l:List α} {y:Str},y∉l.map f->BY (l.map λx=>((aav (f x):Key),g x)) (aav y)=none
 |[],_,_=>rfl
 |b::l,y,h=>by
  rw[aan,aa2,not_or]at h
  unfold BY
  rw[aan,abD]
  have:decide ((aav (f b):Key)=aav y)=false:=by simp;exact λe=>h.1 e.symm
  simp only[this]
  exact nh h.2
variable{y:Str}
theorem oS{f:α->Str}{g:α->PV}{l:List α}{v:PV}(h:y∉l.map f):E6 (l.map λx=>((aav (f x):Key),g x)) (aav y) v=(l.map λx=>((aav (f x):Key),g x))++[(aav y,v)]:=by
 unfold E6
 rw[if_neg]
 rw[List.any_map]
 intro z
 rw[afj]at z
 obtain⟨x,hx,e⟩:=z
 simp at e
 exact h (by rw[<- e];exact aaV hx)
variable{ys:List Str}{x:Str}
theorem xV:(ys.map PV.str).mapM (λy=>B4 60 y (.str x))=some (ys.map λy=>y==x):=by
 induction ys with
 |nil=>rfl
 |cons y ys ih=>
  rw[aan,aby,ih]
  rfl
theorem jI:J8 (.str x) (.tup (ys.map .str))=some (decide (x∈ys)):=by
 show ((ys.map PV.str).mapM (λy=>B4 60 y (.str x))).map (λks=>ks.any id)=_
 rw[xV]
 show some ((ys.map λy=>y==x).any id)=_
 congr 1
 rw[List.any_map,abe,afj]
 simp
theorem vX:J8 (.str x) (.lst (ys.map .str))=some (decide (x∈ys)):=jI
theorem bS:C0 (.str x) (.tup (ys.map .str))=some (.bl (decide (x∈ys))):=by
 show (J8 _ _).map _=_
 rw[jI];rfl
end Q
namespace L2
open PySem PySem.Spec PyProof.Rows
variable{X:Cx}
def Mt(K:aah):List V->Hp->VK->Prop:=λxs H Q=>∃(p:Addr) (ss:List Str),xs=[.ref p]/\Cd K H p (ss.map V.str)/\ss.length<64 /\
 ∀(l:Addr) (Dn:List Str),H l=none->Dn.Perm ss->Dn.Pairwise (λa b=>¬ AZ b a)->Q (.ref l) (upd H l (.lst (Dn.map V.str)))
theorem su:AR X (.builtin "sorted") (Mt X.K):=by
 intro pins s σ H xs us Q I r h
 obtain⟨p,ss,rfl,hq,D0,k⟩:=h
 obtain⟨u,rfl,ru⟩:=r.one
 cases ru
 obtain⟨iN,rv,⟨o,g1,g2,n0,g3⟩,hz⟩:=I.tuple hq
 have hS:=hJ rv
 have hl:=rv.length
 rw[aac]at hl
 refine lm (aeO p (.inr rfl) g1 g2 g3 (λh1 kk=>?_) (by rw[aae,aaC];omega))
 refine⟨ss,h1,s.toks,rfl,by simpa using hS,by simp;omega,λh2 out Dn n k2 e2 o1 o2 o3=>?_⟩
 have I1:Inv X pins σ H {s with heap:=h1,toks:=s.toks}:=I.kept kk
 refine⟨.ref h1.objs.size,_,I1.laid (t':=s.toks) (a:=h1.objs.size) (o:=.lst (Dn.map V.str)) (λb o q=>k2 b o q) (aal _) ?_,rfl,k _ Dn (I1.AU.fresh (aal _)) o2 (dI o3)⟩
 exact⟨by rw[aac,o2.length_eq,aaC];omega,out,n,dP o1,e2⟩
end L2
namespace Q
open PySem L2 PyProof.Rows
def HB(fa:WA):WE:=λenv P=>fa env λxs e=>match xs with
 |[.tup ys]=>∃ss,ys.mapM CC=some ss/\ss.length<64/\∀ts,Er ss ts->P (.lst (ts.map .str)) e
 |_=>False
variable{ob:Cy}{X:Cx}{a b c e:Expr}{es:List Expr}{f g h:WE}{fa:WA}{pos p p1:Pos}{x:Str}
theorem wo(hc:X.calm=true)(hg:Gl X "sorted")(hm:X.mg "sorted" = none)(ha:FL ob X (e::es) fa)
  (he:aam (e::es) X.env=(false,eval e X.env)::aam es X.env:=by rfl) (B8:(backTo pos (aam es X.env)).any (·.1)=false:=by rfl):IQ ob X (.Call (.Name "sorted" p) (e::es) [] pos) (HB fa):=by
 obtain⟨t,ht,k⟩:=ha.ex
 refine⟨_,bN su hg hm adP ht (by decide) (by decide) he B8,λZ F σ H env P Q K hf kk=>k Z F σ H env _ _ K hf λxs e1 vs F1 H1 p s1 K1 r1=>?_⟩
 split at p
 .obtain⟨ss,hs,hl,p⟩:=p
  obtain⟨v,rfl,r⟩:=r1.one
  obtain⟨q,vs,rfl,h1,h2⟩:=r.tup K1.sF
  have:=cR jt hs h2
  subst this
  exact⟨q,ss,rfl,h1,hl,λl ts hn hp hw=>kk _ e1 _ F1 _ (p ts ⟨hp,hw⟩) s1 (λ_=>by simp) (K1.own hn ⟨_,am,dR ts⟩)⟩
 .exact p.elim
theorem jN{d:Nat}:∀(a b:List Str),B4 (d+2) (.tup (a.map .str)) (.tup (b.map .str))=some (decide (a=b)):=by
 intro a b
 have e:((a.map PV.str).zip (b.map PV.str)).mapM (λp=>B4 (d+1) p.1 p.2)=some ((a.zip b).map λp=>p.1==p.2):=by
  rw[List.zip_map]
  generalize a.zip b=l
  induction l with
  |nil=>rfl
  |cons p l ih=>rw[aan,aby,ih];rfl
 show (((a.map PV.str).zip (b.map PV.str)).mapM (λp=>B4 (d+1) p.1 p.2)).map (λbs=>bs.all id && (a.map PV.str).length==(b.map PV.str).length)=_
 rw[e,aac,aac]
 show some (((a.zip b).map λp=>p.1==p.2).all id && a.length==b.length)=_
 congr 1
 rw[List.all_map,abe,aaE,decide_eq_true_eq,beq_iff_eq]
 clear e
 constructor
 .rintro⟨h1,h2⟩
  induction a generalizing b with
  |nil=>cases b with|nil=>rfl|cons _ _=>cases h2
  |cons x a ih=>
   cases b with
   |nil=>cases h2
   |cons y b=>
    rw[aeI,List.all_cons,aaE]at h1
    have Wy:x=y:=by simpa using h1.1
    rw[Wy,ih b h1.2 (by simpa using h2)]
 .rintro rfl
  refine⟨?_,rfl⟩
  rw[ab5]
  rintro⟨x,y⟩ hm
  have:x=y:=by
   obtain⟨i,hi⟩:=List.getElem?_of_mem hm
   rw[aaY]at hi
   have:=hi.1.symm.trans hi.2
   simpa using this
  simp[this]
def IF:PV->Option Str
 |.tup (.str s::_)=>some s
 |_=>none
def HC(fa:WA):WE:=λenv P=>fa env λxs e=>match xs with
 |[.lst ys]=>∃nm:List Str,ys.mapM IF=some nm/\nm.Nodup/\ys.length<64/\∀ix:List Nat,ix.length=ys.length->(∀i∈ix,i<ys.length)->(ix.map λi=>nm.getD i ⟨#[]⟩).Pairwise AZ->P (.lst (ix.map λi=>ys.getD i .AF)) e
 |_=>False
variable{K:aah}{F H:Hp}{v:V}{y:PV}
theorem re(sF:eQ F H)(r:Rep K F v y)(h:IF y=some x):∃a t,v=.ref a/\Cd K H a (.str x::t):=by
 unfold IF at h
 split at h
 .cases h
  cases r with
  |tup h1 h2=>cases h2 with
   |cons r1 r2=>cases r1;exact⟨_,_,rfl,aw sF h1⟩
 .cases h
variable{vs:List V}{ys:List PV}
theorem iW(r:AJ K F vs ys):∀ix:List Nat,(∀i∈ix,i<ys.length)->AJ K F (ix.map λi=>vs.getD i .AF) (ix.map λi=>ys.getD i .AF)
 |[],_=>.nil
 |i::ix,h=>by
  refine .cons ?_ (iW r ix λj hj=>h j (aar _ hj))
  have hi:=h i aat
  obtain⟨v,hv,rv⟩:=r.get (aab hi)
  show Rep K F (vs.getD i .AF) (ys.getD i .AF)
  rw[aag,aag,hv,aab hi]
  exact rv
theorem wq(hg:Gl X "sorted")(hm:X.mg "sorted" = none)(ha:FL ob X (e::es) fa)
  (he:aam (e::es) X.env=(false,eval e X.env)::aam es X.env:=by rfl) (B8:(backTo pos (aam es X.env)).any (·.1)=false:=by rfl):IQ ob X (.Call (.Name "sorted" p) (e::es) [] pos) (HC fa):=by
 obtain⟨t,ht,k⟩:=ha.ex
 refine⟨_,bN sw hg hm adP ht (by decide) (by decide) he B8,λZ F σ H env P Q K hf kk=>k Z F σ H env _ _ K hf λxs e1 vs F1 H1 p s1 K1 r1=>?_⟩
 split at p
 .obtain⟨nm,hs,nd,hl,p⟩:=p
  obtain⟨v,rfl,r⟩:=r1.one
  obtain⟨q,vs,rfl,h1,h2⟩:=r.lst K1.sF
  have g1:=(bA hs).1
  have hlen:=h2.len
  refine⟨q,vs,nm,rfl,.inl (.inl h1),by omega,⟨by omega,λi v x hv hx=>?_,nd⟩,λl ix hn i1 i2 i3 i4=>?_⟩
  .obtain⟨y,hy,ry⟩:=h2.IE hv
   obtain⟨y',e1,e2⟩:=kR hs i x hx
   rw[hy]at e1;cases e1
   exact re K1.sF ry e2
  .exact kk _ e1 _ F1 _ (p ix (by omega) (λi hi=>by have:=i3 i hi;omega) i4) s1 (λ_=>by simp) (K1.own hn ⟨_,am,iW h2 ix λi hi=>by have:=i3 i hi;omega⟩)
 .exact p.elim
end Q
namespace L2
open PySem PySem.Spec PyProof.Rows
variable{prog:aaJ}{w:World}{A:Around}{E:Value->Shared->Prop}{s:Shared}
variable{X:Cx}
end L2
namespace Q
open PySem L2 PyProof.Rows
def neT:PV->PV->Option PV
 |.tup xs,.tup ys=>(B4 60 (.tup xs) (.tup ys)).map λb=>.bl (!b)
 |_,_=>none
def Oi(K:aah):R2:=λv u H Q=>∃F xs ys k,eQ F H/\Rep K F v (.tup xs)/\Rep K F u (.tup ys)/\B4 60 (.tup xs) (.tup ys)=some k/\Q (.bl (!k)) H
variable{ob:Cy}{X:Cx}{a b c e:Expr}{es:List Expr}{f g h:WE}{fa:WA}{pos GB p p1 p2:Pos}{x:Str}
theorem lB(hu:X.A.units+60<cLine):BL X (aaX .NotEq) (Oi X.K):=by
 intro pins s σ H x y v u Q I rx ry h
 obtain⟨F,xs,ys,k,sF,r1,r2,e,hq⟩:=h
 cases r1 with
 |tup h1 r1=>
 cases r2 with
 |tup h2 r2=>
 cases rx
 cases ry
 obtain⟨iN,rv,p,_⟩:=I.tuple (aw sF h1)
 obtain⟨Cq,EN,p2,_⟩:=I.tuple (aw sF h2)
 have l1:iN.length=xs.length:=by rw[<- rv.length,r1.len]
 have l2:Cq.length=ys.length:=by rw[<- EN.length,r2.len]
 have e':((xs.zip ys).mapM λp=>B4 59 p.1 p.2).map (λbs=>bs.all id && xs.length==ys.length)=some k:=e
 rw[aaA]at e'
 obtain⟨bs,hb,ek⟩:=e'
 obtain⟨IC,ID⟩:=bA hb
 have t:=SeqAt.RcNeAt.tuples (A:=X.A) (e:=λj=>bs.getD j false) p p2 (by omega) (λj j1 j2=>by
  simp only[aae]at j1 j2
  have jx:j<xs.length:=by omega
  have jy:j<ys.length:=by omega
  have hz:(xs.zip ys)[j]?=some (xs[j],ys[j]):=by rw[aaY];exact⟨by simp[jx],by simp[jy]⟩
  obtain⟨b,e1,e2⟩:=ID j _ hz
  obtain⟨v1,q1,q2⟩:=r1.get (aab jx)
  obtain⟨v2,q3,q4⟩:=r2.get (aab jy)
  obtain⟨u1,q5,q6⟩:=rv.get q1
  obtain⟨u2,q7,q8⟩:=EN.get q3
  have g1:iN.toArray[j]=u1:=by simpa[aab j1]using q5
  have g2:Cq.toArray[j]=u2:=by simpa[aab j2]using q7
  rw[g1,g2,show bs.getD j false=b by simp[aeL,e1]]
  exact(M9 I sF (A:=X.A.in1) (d:=59) (by show X.A.units+1+59<cLine;omega) q2 q4 q6 q8 e2).2)
 have e3:((aa6 (min iN.toArray.size Cq.toArray.size)).all (λj=>bs.getD j false) && iN.toArray.size==Cq.toArray.size)=k:=by
  have e4:min iN.toArray.size Cq.toArray.size=bs.length:=by rw[IC,aea,aae,aae,l1,l2]
  rw[e4,fR (λj hj=>by simp[aeL,aab hj]),aae,aae,l1,l2]
  exact ek
 rw[e3]at t
 exact t X.prog X.w X.xe _ ⟨.bl (!k),H,I,rfl,hq⟩
theorem jC:Es ob X (Oi X.K) neT:=by
 refine bV (P:=λ_ _ _ _=>True) λF H v u x y z sF rx ry hz=>?_
 unfold neT at hz
 split at hz
 .rw[aaA]at hz
  obtain⟨k,hk,rfl⟩:=hz
  exact⟨_,λ_=>.bl _,λQ q=>⟨F,_,_,k,sF,rx.Jm,ry.Jm,hk,q⟩⟩
 .cases hz
theorem mI(a b:List Str):neT (.tup (a.map .str)) (.tup (b.map .str))=some (.bl (!decide (a=b))):=by
 show (B4 60 (.tup (a.map .str)) (.tup (b.map .str))).map (λb=>PV.bl (!b))=_
 rw[jN (d:=58)];rfl
end Q
namespace L2
open PySem PySem.Spec PyProof.Rows PySem.W
def Cw(h:Heap)(a:Addr)(k:Int×Str):Prop:=∃o n t u,h.get? a=some o/\o.cls=.type "tuple" /\ o.data=.seq #[.int k.1 t,.str k.2 u] n
variable{h h':Heap}{a:Addr}
theorem Cw.mono{k:Int×Str}(x:Cw h a k)(g:∀o,h.get? a=some o->h'.get? a=some o):Cw h' a k:=by
 obtain⟨o,n,t,u,e,r⟩:=x
 exact⟨o,n,t,u,g o e,r⟩
def HR(ks:List (Int×Str))(i j:Nat):Bool:=decide ((ks.getD i (0,⟨#[]⟩)).1<(ks.getD j (0,⟨#[]⟩)).1\/((ks.getD i (0,⟨#[]⟩)).1=(ks.getD j (0,⟨#[]⟩)).1/\AZ (ks.getD i (0,⟨#[]⟩)).2 (ks.getD j (0,⟨#[]⟩)).2))
variable{ks:List (Int×Str)}
theorem xW(nd:(ks.map (·.2)).Nodup):Srt.Ord (HR ks) ks.length:=by
 have inj:∀i j,i<ks.length->j<ks.length->(ks.getD i (0,⟨#[]⟩)).2=(ks.getD j (0,⟨#[]⟩)).2->i=j:=λi j hi hj e=>by
  have a:(ks.map (·.2))[i]'(by simpa using hi)=(ks.map (·.2))[j]'(by simpa using hj):=by
   rw[ac9,ac9]
   rw[aag,aag,aab hi,aab hj]at e
   exact e
  exact(abU nd).mp a
 refine⟨λi _=>?_,λi j k _ _ _ a b=>?_,λi j hi hj ne e=>?_⟩
 .unfold HR
  rw[decide_eq_false_iff_not]
  rintro(h|⟨_,h⟩)
  .omega
  .exact aes _ h
 .have a:=of_decide_eq_true a
  have b:=of_decide_eq_true b
  refine decide_eq_true ?_
  rcases a with a|⟨a1,a2⟩<;>rcases b with b|⟨b1,b2⟩
  .exact .inl (by omega)
  .exact .inl (by omega)
  .exact .inl (by omega)
  .exact .inr ⟨by omega,List.lt_trans a2 b2⟩
 .have e:=of_decide_eq_false e
  rw[not_or]at e
  refine decide_eq_true ?_
  rcases Int.lt_trichotomy (ks.getD i (0,⟨#[]⟩)).1 (ks.getD j (0,⟨#[]⟩)).1 with z|z|z
  .exact absurd z e.1
  .refine .inr ⟨z.symm,?_⟩
   have e2:¬ AZ (ks.getD i (0,⟨#[]⟩)).2 (ks.getD j (0,⟨#[]⟩)).2:=λh=>e.2 ⟨z,h⟩
   unfold AZ at e2 ⊢
   rcases List.le_iff_lt_or_eq.mp (List.not_lt.mp e2)with q|q
   .exact q
   .exfalso
    refine ne (inj i j hi hj ?_)
    generalize (ks.getD i (0,⟨#[]⟩)).2=x at q ⊢
    generalize (ks.getD j (0,⟨#[]⟩)).2=y at q ⊢
    obtain⟨x⟩:=x
    obtain⟨y⟩:=y
    exact congrArg Str.mk (Array.toList_inj.mp q.symm)
  .exact .inl z
variable{prog:aaJ}{w:World}{A:Around}{E:Value->Shared->Prop}{s:Shared}
variable{x:Addr}{Q:Bool->Shared->Prop}
theorem xw{y:Addr}{k l:Int×Str}(hx:Cw s.heap x k)(hy:Cw s.heap y l)(BV:k.2≠l.2)(h:Q (decide (k.1<l.1\/(k.1=l.1/\AZ k.2 l.2))) s):wpAny (model prog w) A (keyLt' (afo true) (.ref x) (.ref y)) Q E s:=by
 obtain⟨ox,n,t,u,e1,_,e2⟩:=hx
 obtain⟨oy,n',t',u',f1,_,f2⟩:=hy
 refine kat_lt e1 e2 f1 f2 ?_
 refine kat_cons (wpAny_eqBool_int ?_)
 by_cases e:k.1=l.1
 .rw[show (k.1==l.1)=true by simp[e]]
  refine kat_yes (kat_cons (afe ?_))
  rw[decide_eq_false BV]
  refine kat_no ?_
  show wpAny _ _ (oneLt' false _ _) _ _ _
  refine kat_one _ _ (lt_str ?_)
  have:decide (k.1<l.1\/(k.1=l.1/\AZ k.2 l.2))=decide (k.2.cps.toList<l.2.cps.toList):=by
   rw[abe,decide_eq_true_eq,decide_eq_true_eq]
   constructor
   .rintro(z|⟨_,z⟩)
    .omega
    .exact z
   .intro z;exact .inr ⟨e,z⟩
  rw[this]at h
  exact h
 .rw[show (k.1==l.1)=false by simp[e]]
  refine kat_no ?_
  show wpAny _ _ (oneLt' true _ _) _ _ _
  refine oneLt_int ?_
  have:decide (k.1<l.1\/(k.1=l.1/\AZ k.2 l.2))=decide (k.1<l.1):=by
   rw[abe,decide_eq_true_eq,decide_eq_true_eq]
   exact⟨λz=>z.elim id λq=>absurd q.1 e,.inl⟩
  rw[this]at h
  exact h
variable{kS:Addr}{e1:Nat}{P:PySem.Fin->Shared->Prop}
theorem qY{e n:Nat}{keys:Array Value}{st:SortSt}{out:List Value}(hk:s.heap.get? kS=some (seqObj "list" keys e))(ha:s.heap.get? a=some (seqObj "list" #[] e1))(BV:kS≠a)(Xz:keys.size<=100)
  (ho:(arrOf st).map (·.2)=out.toArray) (hf:failedOf st=none) (hz:out.length<=100)
  (h:∀(h':Heap) (c:Nat),h'.get? a=some (seqObj "list" out.toArray c)->(∀b o,b≠a->b≠kS->s.heap.get? b=some o->h'.get? b=some o)->P (.done (.ret .none)) {s with heap:=h'}) :
  wpAny (model prog w) A (ksk_tail a false e1 (.ref kS) st) P E s:=by
 have s1:=aa1 s.heap kS (abA λ_=>(#[]:Array Value))
 have NI:(s.heap.update kS (abA λ_=>(#[]:Array Value))).get? a=some (seqObj "list" #[] e1):=(s1.2 a BV.symm).trans ha
 unfold ksk_tail
 dsimp only
 rw[ho]
 refine aaa (adb hk rfl ?_ (by rw[aaC];omega) (abv _))
 refine aaa (afn ?_)
 refine aaa (afr NI rfl ?_)
 refine aaa (adb NI rfl ?_ (abv _) (by simp only[aaR,if_false,aae];rw[aaC];omega))
 rw[hf]
 simp only[bne_self_eq_false,aaR,if_false]
 have s2:=aa1 (s.heap.update kS (abA λ_=>(#[]:Array Value))) a (abA λ_=>out.toArray)
 exact aaf (h _ _ (adf NI λ_=>out.toArray) λb o h1 h2 g=>(s2.2 b h1).trans ((s1.2 b h2).trans g))
theorem nB:∀ad:List Addr,(∀a∈ad,∃k,Cw h a k)->∃fs:List Value,KatTups h (ad.map aaL) fs/\fs.length=ad.length/\∀v∈fs,∃c t,v=.int c t
 |[],_=>⟨[],trivial,rfl,λ_ z=>by simp at z⟩
 |a::ad,hp=>by
  obtain⟨fs,h1,h2,h3⟩:=nB ad λb hb=>hp b (aar _ hb)
  obtain⟨k,o,n,t,u,e1,e2,e3⟩:=hp a aat
  refine⟨.int k.1 t::fs,⟨⟨a,o,_,n,rfl,e1,e2,e3,rfl⟩,h1⟩,by simp[h2],λv hv=>?_⟩
  rcases List.mem_cons.mp hv with rfl|hv
  .exact⟨_,_,rfl⟩
  .exact h3 v hv
variable{ad:List Addr}{vs:List Value}{i:Nat}
theorem mO(hl:ad.length=vs.length)(hi:i<vs.length):aeD ((ad.map aaL).toArray.zip vs.toArray) i=(.ref (ad.getD i 0),vs.getD i abd):=by
 unfold aeD
 have FF:i<ad.length:=by omega
 have hz:i<((ad.map aaL).toArray.zip vs.toArray).size:=by rw[Array.size_zip,aae,aae,aac];omega
 rw[Array.getD,dif_pos hz]
 show ((ad.map aaL).toArray.zip vs.toArray)[i]=_
 rw[Array.getElem_zip,List.getElem_toArray,List.getElem_toArray,ac9,aag,aag,aab FF,aab hi]
 rfl
theorem zt{e:Nat}(hk:s.heap.get? kS=some (seqObj "list" (ad.map aaL).toArray e))(ha:s.heap.get? a=some (seqObj "list" #[] e1))(BV:kS≠a)
  (l1:ad.length=vs.length) (l2:ks.length=vs.length) (D0:vs.length<64) (nd:(ks.map (·.2)).Nodup) (hp:∀i,i<vs.length->Cw s.heap (ad.getD i 0) (ks.getD i (0,⟨#[]⟩)))
  (h:∀(h':Heap) (c:Nat) (ix:List Nat),ix.length=vs.length->ix.Nodup->(∀i∈ix,i<vs.length)->ix.Pairwise (λi j=>HR ks i j=true)->h'.get? a=some (seqObj "list" (ix.map λi=>vs.getD i abd).toArray c)->(∀b o,b≠a->b≠kS->s.heap.get? b=some o->h'.get? b=some o)->P (.done (.ret .none)) {s with heap:=h'}) :
  wpAny (model prog w) A (ksk_end a false vs.toArray e1 (.ref kS) (ad.map aaL).toArray) P E s:=by
 have kz:(ad.map aaL).toArray.size<=100:=by rw[aae,aac];omega
 unfold ksk_end
 dsimp only
 simp only[aaR,if_false]
 by_cases h2:vs.toArray.size<2
 .rw[if_pos h2,if_pos h2]
  rw[aae]at h2
  refine aaa (aaf ?_)
  rw[StateT.run_pure]
  refine aaa (aaf ?_)
  dsimp only
  have ei:(aa6 vs.length).map (λi=>vs.getD i abd)=vs:=by
   apply acg
   intro i
   rw[aaj]
   by_cases hi:i<vs.length
   .rw[ab2 hi];simp[hi]
   .rw[aao (by simpa using hi),aao (by omega)];rfl
  refine qY (st:=SortSt.mk' general' ((ad.map aaL).toArray.zip vs.toArray) #[] 7 none) (out:=vs) (n:=0) hk ha BV kz ?_ rfl (by omega) λh' c g1 g2=>?_
  .apply Array.toList_inj.mp
   show (((ad.map aaL).toArray.zip vs.toArray).map (·.2)).toList=vs
   rw[Array.toList_map,Array.toList_zip]
   show ((ad.map aaL).zip vs).map (·.2)=vs
   exact afi (by rw[aac];omega)
  .refine h h' c (aa6 vs.length) (by simp) adW (λi hi=>List.mem_range.mp hi) ?_ (by rw[ei];exact g1) g2
   match hv:vs.length,h2 with
   |0,_=>simp
   |1,_=>simp[afy]
 .rw[if_neg h2,if_neg h2]
  rw[aae]at h2
  obtain⟨fs,f1,f2,f3⟩:=nB ad λb hb=>by
   obtain⟨i,hi,rfl⟩:=List.mem_iff_getElem.mp hb
   have:=hp i (by omega)
   rw[aag,aab hi]at this
   exact⟨_,this⟩
  refine aaa (kat_kind (T:=.type "int") f1 (by omega) (λv hv=>?_) rfl ?_)
  .obtain⟨c,t,rfl⟩:=f3 v hv
   exact Looks.of_pure rfl
  have hT:((acE "int") != (acE "tuple"))=true:=by decide
  rw[hT]
  have Vs:((ad.map aaL).toArray.zip vs.toArray).size=vs.length:=by rw[Array.size_zip,aae,aae,aac];omega
  have Wz:SortSt.mk' (afo true) ((ad.map aaL).toArray.zip vs.toArray) #[] 7 none=kas_st (afo true) ((ad.map aaL).toArray.zip vs.toArray) (afb (aa6 vs.length)):=by
   have q:=kas_range ((ad.map aaL).toArray.zip vs.toArray)
   rw[Vs]at q
   show _=SortSt.mk' (afo true) ((afb (aa6 vs.length)).map (aeD _)) #[] 7 none
   rw[q]
  have o:Srt.Ord (HR ks) vs.length:=l2 ▸ xW nd
  have Mg:∀i j,i<vs.length->j<vs.length->i≠j->(ks.getD i (0,⟨#[]⟩)).2≠(ks.getD j (0,⟨#[]⟩)).2:=λi j hi hj ne q=>by
   have a:(ks.map (·.2))[i]'(by rw[aac];omega)=(ks.map (·.2))[j]'(by rw[aac];omega):=by
    rw[ac9,ac9]
    rw[aag,aag,aab (by omega),aab (by omega)]at q
    exact q
   exact ne ((abU nd).mp a)
  have ask:(kas_sort vs.length).kasWp (kas_cmp prog w A (afo true) ((ad.map aaL).toArray.zip vs.toArray)) (λp z=>z=s/\Srt.Pm p vs.length/\Srt.Jf (HR ks) p vs.length) s:=by
   refine Srt.pw_wp (lt:=HR ks) (n:=vs.length) (Q:=λp=>Srt.Pm p vs.length/\Srt.Jf (HR ks) p vs.length) (J:=λz=>z=s) ?_ (λp z hz q=>⟨hz,q⟩) (kas_sort vs.length) _ rfl (Srt.qI o (by omega) λp a b=>⟨a,b⟩)
   rintro i j C z hi hj ne rfl hC
   show wpAny _ _ (keyLt' (afo true) (aeD _ i).1 (aeD _ j).1) _ _ _
   rw[mO l1 hi,mO l1 hj]
   exact xw (hp i hi) (hp j hj) (Mg i j hi hj ne) (hC _ rfl)
  have run:=kas_runs (E:=E) (Q:=λ_ EW z=>∃p:Array Nat,p.size=vs.length/\arrOf EW=p.map (aeD ((ad.map aaL).toArray.zip vs.toArray))/\failedOf EW=none/\z=s/\Srt.Pm p vs.length/\Srt.Jf (HR ks) p vs.length)
   (by omega) D0 (λp' EW z a1 a2 a3 a4=>⟨p',a1,a2,a3,a4⟩) ask
  rw[<- Wz]at run
  refine aaa (aaT run ?_ λ_ _ q=>q)
  rintro⟨⟨⟩,EW⟩ z ⟨p,TN,Wj,hf,rfl,Pm,As⟩
  dsimp only
  have BW:∀i∈p.toList,i<vs.length:=λi hi=>by
   obtain⟨j,hj,rfl⟩:=Array.mem_iff_getElem.mp (Array.mem_toList_iff.mp hi)
   have:=Pm.lt j (by rw[<- Pm.sz];exact hj)
   rw[Srt.bf]at this
   simpa only[abR hj,adU]using this
  refine qY (st:=EW) (out:=p.toList.map λi=>vs.getD i abd) (n:=0) hk ha BV kz ?_ hf (by rw[aac,aaz,TN];omega) λh' c g1 g2=>h h' c p.toList (by rw[aaz,TN]) ?_ BW ?_ g1 g2
  .apply Array.toList_inj.mp
   rw[Wj,Array.map_map,Array.toList_map]
   exact aaW λi hi=>by show (aeD _ i).2=_;rw[mO l1 (BW i hi)]
  .rw[acF,acK]
   intro i j hi hj Ey q
   have FF:i<p.size:=by simpa using hi
   have Gu:j<p.size:=by simpa using hj
   have:=Pm.nd i j (by rw[<- Pm.sz];exact FF) (by rw[<- Pm.sz];exact Gu) (by rw[Srt.bf,Srt.bf];simpa[FF,Gu]using q)
   omega
  .rw[acK]
   intro i j hi hj Ey
   have FF:i<p.size:=by simpa using hi
   have Gu:j<p.size:=by simpa using hj
   have:=As i j Ey (by rw[<- Pm.sz];exact Gu)
   rw[Srt.bf,Srt.bf]at this
   simpa[FF,Gu]using this
def m6(prog:aaJ)(w:World)(A:Around)(s:Shared)(f:Value)(keep:Addr->Prop)(v:Value)(a:Addr):Prop :=
 ∀(h:Heap) (tk:Nat),(∀b o,keep b->s.heap.get? b=some o->h.get? b=some o)->wpAny (model prog w) A (call f [v]) (λr z=>r=.ref a/\∃h' NY,z={s with heap:=h',toks:=NY}/\∀b o,h.get? b=some o->h'.get? b=some o) (λ_ _=>False) {s with heap:=h,toks:=tk}
variable{f:Value}
theorem x9(hk:s.heap.get? kS=some (seqObj "list" #[] 0))(ha:s.heap.get? a=some (seqObj "list" #[] e1))(BV:kS≠a)
  (l1:ad.length=vs.length) (l2:ks.length=vs.length) (D0:vs.length<64) (nd:(ks.map (·.2)).Nodup) (hp:∀i,i<vs.length->Cw s.heap (ad.getD i 0) (ks.getD i (0,⟨#[]⟩))) (VO:∀i,i<vs.length->ad.getD i 0≠kS)
  (turn:∀i,i<vs.length->m6 prog w A s f (λb=>b≠kS) (vs.getD i .none) (ad.getD i 0))
  (h:∀(h':Heap) (tk c:Nat) (ix:List Nat),ix.length=vs.length->ix.Nodup->(∀i∈ix,i<vs.length)->ix.Pairwise (λi j=>HR ks i j=true)->h'.get? a=some (seqObj "list" (ix.map λi=>vs.getD i abd).toArray c)->(∀b o,b≠a->b≠kS->s.heap.get? b=some o->h'.get? b=some o)->P (.done (.ret .none)) {s with heap:=h',toks:=tk}) :
  wpAny (model prog w) A (ksk_rest a f false vs.toArray e1 (.ref kS)) P E s:=by
 unfold ksk_rest
 refine aaa (ac3 ?_)
 rw[List.forIn_toArray]
 refine aaa (ksk_fold (λi z=>∃h' tk e,z={s with heap:=h',toks:=tk}/\(∀b o,b≠kS->s.heap.get? b=some o->h'.get? b=some o)/\h'.get? kS=some (seqObj "list" ((ad.take i).map aaL).toArray e)) vs 0 s
  ⟨s.heap,s.toks,0,rfl,λb o _ g=>g,hk⟩ ?_ ?_)
 .rintro j x z hx ⟨h',tk,e,rfl,g1,g2⟩
  rw[abI]at g2 ⊢
  have hj:j<vs.length:=(List.getElem?_eq_some_iff.mp hx).1
  have ev:vs.getD j .none=x:=by rw[aag,hx];rfl
  have t:=turn j hj h' tk λb o hb g=>g1 b o hb g
  rw[ev]at t
  refine aaa (aeC (aaT t (λv z hz=>?_) λ_ _ q=>q.elim))
  obtain⟨rfl,h2,U6,rfl,g3⟩:=hz
  dsimp only
  have gk:=g3 _ _ g2
  have s1:=aa1 h2 kS (abA (·.push (.ref (ad.getD j 0))))
  refine aaa (adb gk rfl ?_ (by rw[aae,aac,aa8,aaC];omega) (aa3 (afa (Array.size_push ..)) (by rw[aae,aac,aa8,aaC];omega)))
  have ej:(((ad.take j).map aaL).toArray.push (.ref (ad.getD j 0)))=((ad.take (j+1)).map aaL).toArray:=by
   have Ui:j<ad.length:=by omega
   apply Array.toList_inj.mp
   rw[ae6]
   show (ad.take j).map aaL++[.ref (ad.getD j 0)]=(ad.take (j+1)).map aaL
   rw[abY,aab Ui,aag,aab Ui,aaZ]
   rfl
  obtain⟨c2,Pg⟩:∃c2,(h2.update kS (abA (·.push (.ref (ad.getD j 0))))).get? kS=some (seqObj "list" (((ad.take j).map aaL).toArray.push (.ref (ad.getD j 0))) c2):=⟨_,adf gk (·.push (.ref (ad.getD j 0)))⟩
  rw[ej]at Pg
  exact aaf ⟨rfl,_,U6,c2,rfl,λb o hb g=>(s1.2 b hb).trans (g3 b o (g1 b o hb g)),Pg⟩
 .rintro z ⟨h',tk,e,rfl,g1,g2⟩
  rw[abI,ac0 (by omega)]at g2
  refine aaa (listItems_at g2 rfl ?_)
  refine zt (s:={s with heap:=h',toks:=tk}) g2 (g1 a _ BV.symm ha) BV l1 l2 D0 nd (λi hi=>(hp i hi).mono λo q=>g1 _ o (VO i hi) q) λh2 c ix i1 i2 i3 i4 i5 i6=>h h2 tk c ix i1 i2 i3 i4 i5 λb o b1 b2 g=>i6 b o b1 b2 (g1 b o b2 g)
variable{n:Nat}
theorem x8(ha:s.heap.get? a=some (seqObj "list" vs.toArray n))
  (l1:ad.length=vs.length) (l2:ks.length=vs.length) (D0:vs.length<64) (nd:(ks.map (·.2)).Nodup) (hp:∀i,i<vs.length->Cw s.heap (ad.getD i 0) (ks.getD i (0,⟨#[]⟩))) (VQ:∀i,i<vs.length->ad.getD i 0≠a)
  (turn:∀i,i<vs.length->m6 prog w A s f (λb=>b≠a) (vs.getD i .none) (ad.getD i 0))
  (h:∀(h':Heap) (tk c:Nat) (ix:List Nat),ix.length=vs.length->ix.Nodup->(∀i∈ix,i<vs.length)->ix.Pairwise (λi j=>HR ks i j=true)->h'.get? a=some (seqObj "list" (ix.map λi=>vs.getD i abd).toArray c)->(∀b o,b≠a->s.heap.get? b=some o->h'.get? b=some o)->P (.done (.ret .none)) {s with heap:=h',toks:=tk}) :
  wpAny (model prog w) A (ksk_tree a f false) P E s:=by
 have XF:a<s.heap.objs.size:=aak ha
 have s1:=aa1 s.heap a (abA λ_=>(#[]:Array Value))
 have NI:=adf ha λ_=>(#[]:Array Value)
 unfold ksk_tree
 refine aaa (listItems_at ha rfl ?_)
 refine aaa (adb ha rfl ?_ (by rw[aae,aaC];omega) (abv _))
 refine aaa (afr NI rfl ?_)
 refine aaa (afI ?_ (by show vs.length<=_;rw[aaC];omega))
 refine aaa (acT ?_ (abv _))
 refine aa9 ?_
 generalize hH:((s.heap.update a (abA λ_=>(#[]:Array Value))).push (seqObj "tuple" vs.toArray 0))=H1
 have kz:H1.objs.size=s.heap.objs.size+1:=by rw[<- hH,size_push',Heap.size_update]
 have old:∀b o,b≠a->s.heap.get? b=some o->(H1.push (seqObj "list" #[] 0)).get? b=some o:=λb o hb g=>by
  rw[<- hH]
  exact aad _ (aad _ ((s1.2 b hb).trans g))
 have lt:∀b o,s.heap.get? b=some o->b≠H1.objs.size:=λb o g=>by
  have:=aak g
  rw[kz];exact aas (abr this)
 refine x9 (s:={s with heap:=H1.push (seqObj "list" #[] 0)}) (kS:=H1.objs.size) (a:=a) (aai _ rfl) ?_ ?_ l1 l2 D0 nd (λi hi=>?_) (λi hi=>?_) (λi hi=>?_) λh' tk c ix i1 i2 i3 i4 i5 i6=>h h' tk c ix i1 i2 i3 i4 i5 λb o hb g=>i6 b o hb (lt b o g) (old b o hb g)
 .rw[<- hH]
  exact aad _ (aad _ NI)
 .exact(lt a _ ha).symm
 .exact(hp i hi).mono λo q=>old _ o (VQ i hi) q
 .obtain⟨o,_,_,_,g,_⟩:=hp i hi
  exact lt _ o g
 .intro h2 tk g
  exact turn i hi h2 tk λb o hb q=>g b o (lt b o q) (old b o hb q)
variable{l:Addr}{ob:Obj}
theorem tY{q:Addr}{n0:Nat}{Q:Value->Shared->Prop}(ho:s.heap.get? l=some ob)(hc:ob.cls=.type "tuple")(hd:ob.data=.seq vs.toArray n0)
  (l1:ad.length=vs.length) (l2:ks.length=vs.length) (D0:vs.length<64) (nd:(ks.map (·.2)).Nodup) (hp:∀i,i<vs.length->Cw s.heap (ad.getD i 0) (ks.getD i (0,⟨#[]⟩)))
  (turn:∀i,i<vs.length->m6 prog w A.in1.in1 s (.ref q) (λ_=>True) (vs.getD i .none) (ad.getD i 0))
  (h:∀(D:Addr) (h1 h':Heap) (tk c:Nat) (ix:List Nat),(∀b o,s.heap.get? b=some o->h1.get? b=some o)->h1.objs.size<=D->ix.length=vs.length->ix.Nodup->(∀i∈ix,i<vs.length)->ix.Pairwise (λi j=>HR ks i j=true)->h'.get? D=some (seqObj "list" (ix.map λi=>vs.getD i abd).toArray c)->(∀b o,s.heap.get? b=some o->h'.get? b=some o)->Q (.ref D) {s with heap:=h',toks:=tk}) :
  wpAny (model prog w) A (call (.builtin "sorted") [.ref l] [(aaP "key",.ref q)]) Q E s:=by
 refine call_function_entry_kw afs ae7 ae8 (ksk_s1 _ _) ?_
 unfold acI.«sorted»
 refine aaa (m:=checkCount "sorted" 1 1 _) (aaf ?_)
 refine aaa (aeO l (.inr rfl) ho hc hd (λh1 kk=>?_) (by rw[aae,aaC];omega))
 refine aaa (acT ?_ (by show vs.length<=_;rw[aaC];omega))
 have Iw:(h1.push (seqObj "list" vs.toArray 0)).get? h1.objs.size=some (seqObj "list" vs.toArray 0):=aai _ rfl
 have old:∀b o,s.heap.get? b=some o->(h1.push (seqObj "list" vs.toArray 0)).get? b=some o:=λb o g=>aad _ (kk b o g)
 have ne:∀b o,s.heap.get? b=some o->b≠h1.objs.size:=λb o g=>aas (aak (kk b o g))
 refine aaa (aa9 (wpAny_call_entry_kw adu ⟨_,Iw,rfl⟩ adg ?_ (ksk_l1 _ _)))
 show wpAny (model prog w) A.in1.in1 (acI.«list.sort» ⟨[.ref h1.objs.size],[(aaP "key",.ref q)]⟩) _ _ _
 rw[ksk_t1]
 refine x8 (s:={s with heap:=h1.push (seqObj "list" vs.toArray 0)}) Iw l1 l2 D0 nd (λi hi=>(hp i hi).mono λo g=>old _ o g) (λi hi=>?_) (λi hi h2 tk g=>turn i hi h2 tk λb o _ z=>g b o (ne b o z) (old b o z)) λh' tk c ix i1 i2 i3 i4 i5 i6=>⟨_,rfl,?_⟩
 .obtain⟨o,_,_,_,g,_⟩:=hp i hi
  exact ne _ o g
 .exact aaf ⟨_,rfl,h h1.objs.size h1 h' tk c ix kk (aal _) i1 i2 i3 i4 i5 λb o g=>i6 b o (ne b o g) (old b o g)⟩
structure Ie(x d:Str)(params:Arguments)(scope:Scope):Prop where
 kind:scope.kind=.function
 co:scope.isCoroutine=false
 gen:scope.isGenerator=false
 nc:∀y∈scope.names,y.2≠.cell
 lx:scope.names.lookup x=some .local
 ld:scope.names.lookup d=some .free
 ne:(x==d)=false
 dx:(x==("__debug__" : Str))=false
 dd:(d==("__debug__" : Str))=false
 dc:(d==("__classdict__" : Str))=false
 bd:∀(qual:Str) (body:Expr) (cl:List (Str×Addr)) (pm Bi ct v:Value),acN (kla_fn "<lambda>" qual params body scope cl pm Bi ct) ⟨[v],[]⟩=pure [(x,v)]
variable{X:Cx}{pins:List (Addr×Obj)}{σ:St}{H:Hp}{z:Shared}{B:Around}
variable{scope:Scope}{qual:Str}{pm:Value}{t:Tok}{kvs:List (Key×V)}
theorem vW{q c' cell dd:Addr}{x d nm:Str}{params:Arguments}{p1 p2 p3:Pos}{Kj:Value}(S:Ie x d params scope)(I:Inv X pins σ H z)(JK:B.depth<recursionLimit)
  (ho:z.heap.get? q=some (kla_obj "<lambda>" qual params (.Subscript (.Name d p1) (.Name x p2) p3) scope [(d,cell)] pm c' Kj)) (hcd:z.heap.CodeRec (.ref c') qual) (MM:z.heap.NoLimit) (Dt:z.heap.IsCell cell (some (.ref dd)))
  (hD:H dd=some (.dK kvs)) (hv:C3 kvs (aav nm)=some (.ref a)) :
  wpAny (model X.prog X.w) B (call (.ref q) [.str nm t]) (λv z'=>v=.ref a/\∃h' NY,z'={z with heap:=h',toks:=NY}/\∀b o,z.heap.get? b=some o->h'.get? b=some o) (λ_ _=>False) z:=by
 refine wpAny_call (kla_callFunE JK ho rfl S.co S.gen rfl hcd ?_)
 rw[S.bd]
 refine aaf (ael S.nc (λy hy=>by rw[adt]at hy;subst hy;exact S.lx) (λh1 IY VH=>?_) S.kind)
 have kk:∀b o,z.heap.get? b=some o->h1.get? b=some o:=λb o g=>(VH.2 b (aas (aak g))).trans (aad _ g)
 refine⟨MM.keeps kk,kla_codeExpr ?_⟩
 have I1:Inv X pins σ H {z with heap:=h1,toks:=z.toks+1}:=I.kept kk
 obtain⟨z1,z2,vs,rel,dD⟩:=lS I1.AU hD
 obtain⟨u,hu,ru⟩:=EJ.some_of (v:=V.ref a) (o:=aeR vs (aav nm)) (by rw[<- hv];exact rel.val _)
 cases ru
 have MT:h1.IsCell cell (some (.ref dd)):=by
  obtain⟨o,e,r⟩:=Dt
  exact⟨o,kk _ _ e,r⟩
 refine Subscript_ ?_
 refine aeQ (wpAny_loadName_free S.kind S.ld (c:=cell) (show adm d [(d,cell)]=some cell by simp) MT ?_ S.dc) S.dd
 refine aeQ (wpAny_loadName_local S.kind S.lx IY (show adm x [(x,acn nm t)]=some (acn nm t)by simp) ?_) S.dx
 refine tail_any dD.typeIs PySem.F.slot_dict_getitem.lookup (wpAny_getItem_of (fX (k:=aav nm) (show RelV (.str nm) (.str nm t)from ⟨t,rfl⟩)) dD.mapOf hu ?_) rfl
 exact⟨rfl,h1,_,rfl,kk⟩
def EG(f:Addr)(ob:Obj):HO:=.ext λh=>h.get? f=some ob
theorem tX{P:aaJ}(e:h.get? a=some ob):A7 P w H h a (EG a ob):=⟨e,⟨_,e⟩,λh1 h2 x k=>k _ x⟩
theorem yt{P:aaJ}{lq:Str}(e:h.CodeRec (.ref a) lq):A7 P w H h a (CH a lq):=by
 refine⟨e,?_,λh1 h2 x k=>?_⟩
 .obtain⟨c,oc,vs,tq,hc,ND,r⟩:=e
  cases hc
  exact⟨_,ND⟩
 .obtain⟨c,oc,vs,tq,hc,ND,r⟩:=x
  cases hc
  exact⟨_,oc,vs,tq,rfl,k _ ND,r⟩
structure Ig(X:Cx)(lq d:Str)(params:Arguments)(body:Expr)(scope:Scope)(c':Addr)(ob:Obj):Prop where
 ex:∃cell Kj,X.env.cells.lookup d=some cell/\ob=kla_obj "<lambda>" lq params body scope [(d,cell)] ((X.mg "__name__").getD .none) c' Kj
def Ma(X:Cx)(lq d:Str)(Be:Pos)(P:Addr)(params:Arguments)(body:Expr)(scope:Scope):TE:=λ_ H Q=>∃ps:Array Value,H P=some (CA P ps)/\TriplesOk ps.toList /\
 ((acm Be ps.toList=none/\∀c' f ob,H c'=none->H f=none->c'≠f->c'≠P->f≠P->Ig X lq d params body scope c' ob->Q (.ref f) (upd (upd (upd H P (CA P (ps++#[rawInt Be.line,rawInt Be.col,.ref c']))) c' (CH c' lq)) f (EG f ob))) \/
  (∃c',acm Be ps.toList=some (.ref c')/\H c'=some (CH c' lq)/\∀f ob,H f=none->Ig X lq d params body scope c' ob->Q (.ref f) (upd H f (EG f ob))))
structure BMain(mg:Str->Option Value)(h:Heap):Prop where
 ex:∃bm o,mg "__builtins__" = some (.ref bm)/\bm≠aeU/\h.get? bm=some o/\o.cls=.type "module" /\ o.dict=some aeU/\o.data=.plain
structure Ih(d:Str)(params:Arguments)(scope:Scope):Prop where
 df:∀env,defaultsOf params env=([],[])
 cl:∀(env:Env) (cell:Addr),env.cells.lookup d=some cell->closureFor scope env=pure [(d,cell)]
variable{lq d:Str}{Be:Pos}{P c:Addr}{params:Arguments}{body:Expr}
theorem y9(S:Ih d params scope)(hq:X.env.qual ++ "<lambda>" = lq)(FR:X.env.code=.ref c)(hC:abT X.K c P=true)(hB:BMain X.mg X.base)(hd:X.env.kindOf d=some .cell):PE X (.Lambda params body scope Be) (Ma X lq d Be P params body scope):=by
 intro pins s σ H Q I h
 obtain⟨ps,eP,ht,h⟩:=h
 obtain⟨cell,Dt⟩:=I.ok.has d (.inl hd)
 have hP:s.heap.get? P=some (tabObj ps):=(I.AU P _ eP).1
 have hg:s.heap.Ns aaK X.mg:=I.mod.glob.keeps I.bk
 have C:CodeHd s.heap c P:=PySem.W.codeHd_of_K I.FC hC
 have V9:aaK≠P:=λe=>by
  obtain⟨o,es,ep,g1,g2,_⟩:=hg
  rw[e,hP]at g1;cases g1;cases g2
 have hb:s.heap.BuiltinsAt X.mg P:=by
  obtain⟨bm,o,b1,b2,b3,b4,b5,b6⟩:=hB.ex
  refine⟨bm,o,b1,b2,λe=>?_,λe=>?_,I.bk _ _ b3,b4,b5,b6⟩
  .obtain⟨o',es,ep,g1,g2,_⟩:=hg
   rw[<- e,I.bk _ _ b3]at g1;cases g1
   rw[b6]at g2;cases g2
  .have:=I.bk _ _ b3
   rw[e,hP]at this;cases this;cases b4
 refine kla_eval (S.df _) ?_
 rw[hq]
 rcases h with ⟨VU,h⟩|⟨c',hf,ET,h⟩
 .refine kla_makeFunction (mg:=X.mg) (S.cl _ _ Dt) I.ok.glob hg FR C hP ht VU V9 hb λc' Kj h' tk hx Ja BW R7 O2=>?_
  have Kg:H c'=none:=I.AU.fresh Ja
  have nP:∀b,H b=none->b≠P:=λb n z=>by rw[z,eP]at n;cases n
  have nc:∀b o,s.heap.get? b=some o->b≠c':=λb o g=>aas (aaG (aak g) Ja)
  have Vm:c'≠P:=λz=>by rw[z,eP]at Kg;cases Kg
  have un:Un X.fs [] H (upd (upd H P (CA P (ps++#[rawInt Be.line,rawInt Be.col,.ref c']))) c' (CH c' lq)) s.heap h':=by
   refine⟨λb o q n _ _=>hx b o (nP b n) q,λb o q n _ _=>⟨o.slots,hx b o (nP b n) q⟩,λb o q n _=>?_,λb o q _=>?_,λb xs q=>?_,λb o u q=>?_,λb qs q=>?_⟩
   .rw[aj (nc b o q),aj (nP b n)];exact n
   .by_cases z:b=P
    .subst z;exact⟨_,O2⟩
    .exact⟨o,hx b o z q⟩
   .rw[aj (av q Kg),aj (λz=>by rw[z,eP]at q;cases q)];exact q
   .rw[aj (av q Kg),aj (λz=>by rw[z,eP]at q;cases q)];exact q
   .refine⟨#[],?_⟩
    rw[aj (av q Kg),aj (λz=>by rw[z,eP]at q;cases q),q];simp
  have AU:DA X.prog X.w (upd (upd H P (CA P (ps++#[rawInt Be.line,rawInt Be.col,.ref c']))) c' (CH c' lq)) h':=λb u q=>by
   by_cases z:b=c'
   .subst z
    rw[am]at q;cases q
    exact yt R7
   .rw[aj z]at q
    by_cases z2:b=P
    .subst z2
     rw[am]at q;cases q
     exact oE O2
    .rw[aj z2]at q
     refine(I.AU b u q).F8 (λe o he g=>hx e o (λy=>?_) g) (λe he=>?_) λe xs he=>?_
     .subst y
      rcases he with y|y
      .exact z2 y.symm
      .rw[eP]at y;cases y
     .rw[aj (av he Kg),aj (λy=>by rw[y,eP]at he;cases he)];exact he
     .rw[aj (av he Kg),aj (λy=>by rw[y,eP]at he;cases he)];exact he
  have I1:Inv X pins σ _ {s with heap:=h',toks:=tk}:=I.un un AU
  have Um:=I1.AU.fresh (a:=h'.objs.size) (aal _)
  have fc:h'.objs.size≠c':=ab8 BW
  have fP:h'.objs.size≠P:=ab8 (aak O2)
  have MQ:H h'.objs.size=none:=by rw[aj fc,aj fP]at Um;exact Um
  refine⟨.ref h'.objs.size,_,I1.laid (t':=tk) (a:=h'.objs.size) (o:=EG h'.objs.size (kla_obj "<lambda>" lq params body scope [(d,cell)] ((X.mg "__name__").getD .none) c' Kj)) (λb u g=>aad _ g) (aal _) (tX (aai _ rfl)),rfl,h c' _ _ Kg MQ (abO fc) Vm fP ⟨cell,Kj,Dt,rfl⟩⟩
 .refine kla_makeFunctionHit (mg:=X.mg) (S.cl _ _ Dt) I.ok.glob hg FR C hP ht hf hb λKj h' tk kk hsz=>?_
  exact⟨.ref h'.objs.size,_,I.laid (t':=tk) (a:=h'.objs.size) (o:=EG h'.objs.size (kla_obj "<lambda>" lq params body scope [(d,cell)] ((X.mg "__name__").getD .none) c' Kj)) (λb u g=>aad _ (kk b u g)) hsz (tX (aai _ rfl)),rfl,h _ _ (I.AU.fresh hsz) ⟨cell,Kj,Dt,rfl⟩⟩
structure K8(ks:List (Int×Str))(n:Nat)(ix:List Nat):Prop where
 len:ix.length=n
 nd:ix.Nodup
 lt:∀i∈ix,i<n
 up:ix.Pairwise λi j=>HR ks i j=true
abbrev k0:Int×Str:=(0,⟨#[]⟩)
def Jq(X:Cx)(lq d:Str)(Be:Pos)(P:Addr)(params:Arguments)(body:Expr)(scope:Scope)(i:Nat)(σ:St)(Q:VK):VK:=λv H1=>∃(l:Addr) (ss:List Str) (dd:Addr) (kvs:List (Key×V)) (ad:List Addr) (ks:List (Int×Str)),
 v=.ref l/\Cd X.K H1 l (ss.map V.str)/\ss.length<64/\σ[i]?=some (some (.ref dd))/\H1 dd=some (.dK kvs)/\ad.length=ss.length/\ks.length=ss.length/\(ks.map (·.2)).Nodup /\
 (∀j,j<ss.length->C3 kvs (aav (ss.getD j ⟨#[]⟩))=some (.ref (ad.getD j 0))/\Cd X.K H1 (ad.getD j 0) [.int (ks.getD j k0).1,.str (ks.getD j k0).2]) /\
 Ma X lq d Be P params body scope σ H1 λ_ H2=>∀D ix,H2 D=none->K8 ks ss.length ix->Q (.ref D) (upd H2 D (.lst (ix.map λj=>V.str (ss.getD j ⟨#[]⟩))))
def LZ(X:Cx)(lq d:Str)(Be:Pos)(P:Addr)(params:Arguments)(body:Expr)(scope:Scope)(i:Nat)(te:TE):TE:=λσ H Q=>te σ H (Jq X lq d Be P params body scope i σ Q)
variable{K:aah}{xs:List V}
theorem qH{H2:Hp}{ps:Array Value}(eP:H P=some (CA P ps))(k:∀b o,H b=some o->b≠P->H2 b=some o)(h:Cd K H a xs):Cd K H2 a xs:=by
 rcases h with (h|⟨o,h⟩)|h
 .exact .inl (.inl (k a _ h λz=>by rw[z,eP]at h;cases h))
 .exact .inl (.inr ⟨o,k a _ h λz=>by rw[z,eP]at h;cases h⟩)
 .exact .inr h
variable{x:Str}{p p1 p2 p3 Ir pos:Pos}{e:Expr}{te:TE}{k:Nat}
variable{iN:List Value}
theorem xA{m:Int}{s:Str}(rv:AM [.int m,.str s] iN)(t:IsTup h a iN.toArray):Cw h a (m,s):=by
 obtain⟨o,g1,g2,n,g3⟩:=t
 cases rv with
 |cons r1 r2=>
  cases r2 with
  |cons r2 r3=>
   cases r3
   obtain⟨t,rfl⟩:=r1
   obtain⟨u,rfl⟩:=r2
   exact⟨o,n,t,u,g1,g2,g3⟩
theorem vA(S:Ie x d params scope)(S2:Ih d params scope)(hr:Br k X.A)(hg:Gl X "sorted")(hm:X.mg "sorted" = none)(hq:X.env.qual ++ "<lambda>" = lq)(FR:X.env.code=.ref c)(hC:abT X.K c P=true)(hB:BMain X.mg X.base)
  (hi:X.N[i]?=some d) (hd:X.env.kindOf d=some .cell) (hv:G5 X.env.scope d) (he:PE X e te)
  (hs:aam [e] X.env=(false,eval e X.env)::aam [] X.env:=by rfl)
  (h1:backTo pos (aam [e] X.env)=(false,eval e X.env)::backTo pos (aam [] X.env):=by rfl) (h2:(backTo pos (aam [e] X.env)).any (·.1)=false:=by rfl) :
  PE X (.Call (.Name "sorted" p) [e] [⟨some "key",.Lambda params (.Subscript (.Name d p1) (.Name x p2) p3) scope Be,Ir⟩] pos) (LZ X lq d Be P params (.Subscript (.Name d p1) (.Name x p2) p3) scope i te):=by
 intro pins s σ H Q I h
 refine acv (fI I hg hm adP ?_)
 refine callWith_kw (Bu ((bh he bv hs) pos pins s σ H (λvs H1=>match vs with|[v]=>Jq X lq d Be P params (.Subscript (.Name d p1) (.Name x p2) p3) scope i σ Q v H1|_=>False) I h) λus s1 ⟨vs,H1,I1,r1,q1⟩=>?_) h1 h2
 dsimp only at q1
 split at q1
 case h_2=>exact q1.elim
 obtain⟨l,ss,dd,kvs,ad,ks,rfl,hl,D0,hσ,Pf,l1,l2,nd,hk,hL⟩:=q1
 obtain⟨u,rfl,ru⟩:=r1.one
 cases ru
 obtain⟨ps,eP,hL⟩:=hL
 have WK:dd≠P:=λz=>by rw[z,eP]at Pf;cases Pf
 have lam:Ma X lq d Be P params (.Subscript (.Name d p1) (.Name x p2) p3) scope σ H1 λfv H2=>∃f c' ob,fv=.ref f/\H2 f=some (EG f ob)/\Ig X lq d params (.Subscript (.Name d p1) (.Name x p2) p3) scope c' ob/\H2 c'=some (CH c' lq)/\(∀b o,H1 b=some o->b≠P->H2 b=some o) /\
   ∀D ix,H2 D=none->K8 ks ss.length ix->Q (.ref D) (upd H2 D (.lst (ix.map λj=>V.str (ss.getD j ⟨#[]⟩)))):=by
  refine⟨ps,eP,hL.1,?_⟩
  rcases hL.2 with ⟨g1,g2⟩|⟨c',g1,g2,g3⟩
  .refine .inl ⟨g1,λc' f ob a1 a2 a3 a4 a5 a6=>⟨f,c',ob,rfl,am,a6,?_,λb o hb hP=>?_,g2 c' f ob a1 a2 a3 a4 a5 a6⟩⟩
   .rw[aj a3,am]
   .rw[aj (av hb a2),aj (av hb a1),aj hP];exact hb
  .refine .inr ⟨c',g1,g2,λf ob a1 a2=>⟨f,c',ob,rfl,am,a2,?_,λb o hb _=>?_,g3 f ob a1 a2⟩⟩
   .rw[aj (av g2 a1)];exact g2
   .rw[aj (av hb a1)];exact hb
 refine Bu ((xp (y9 S2 hq FR hC hB hd) yS) pos pins s1 σ H1 (λvs H2=>match vs with|[fv]=>∃f c' ob,fv=.ref f/\H2 f=some (EG f ob)/\Ig X lq d params (.Subscript (.Name d p1) (.Name x p2) p3) scope c' ob/\H2 c'=some (CH c' lq)/\(∀b o,H1 b=some o->b≠P->H2 b=some o) /\
   (∀D ix,H2 D=none->K8 ks ss.length ix->Q (.ref D) (upd H2 D (.lst (ix.map λj=>V.str (ss.getD j ⟨#[]⟩)))))|_=>False) I1 lam) λws s2 ⟨zs,H2,I2,rz,q2⟩=>?_
 dsimp only at q2
 split at q2
 case h_2=>exact q2.elim
 obtain⟨f,c',ob,rfl,ef,⟨cell,Kj,Dt,rfl⟩,ec,keep,hQ⟩:=q2
 obtain⟨u,rfl,ru⟩:=rz.one
 cases ru
 show wpAny _ _ (call (.builtin "sorted") [.ref l] [(aaP "key",.ref f)]) _ _ _
 obtain⟨iN,rv,⟨o,g1,g2,n0,g3⟩,hz⟩:=I2.tuple (qH eP keep hl)
 have hlen:iN.length=ss.length:=by have:=rv.length;rw[aac]at this;exact this.symm
 have Vr:∀j,j<ss.length->∃t,iN.getD j abd=.str (ss.getD j ⟨#[]⟩) t:=λj hj=>by
  obtain⟨u,hu,ru⟩:=rv.get (i:=j) (show (ss.map V.str)[j]?=some (.str (ss.getD j ⟨#[]⟩))by rw[aaj,aab hj,aag,aab hj];rfl)
  obtain⟨t,rfl⟩:=ru
  exact⟨t,by rw[aag,hu];rfl⟩
 have cellAt:s2.heap.IsCell cell (some (.ref dd)):=by
  obtain⟨m,_,Sm⟩:=I2.loc
  obtain⟨u,ru,lk⟩:=Sm i d _ hi hσ hv
  cases ru
  rcases lk with ⟨y,_⟩|⟨_,c2,y1,y2⟩
  .rw[hd]at y;cases y
  .rw[Dt]at y1;cases y1;exact y2
 have lim:s2.heap.NoLimit:=I2.mod.nolimit.keeps I2.bk
 refine tY (vs:=iN) (ad:=ad) (ks:=ks) g1 g2 g3 (by omega) (by omega) (by omega) nd (λj hj=>?_) (λj hj h tk kk=>?_) λD XB h' tk cc ix k1 k2 i1 i2 i3 i4 i5 i6=>?_
 .obtain⟨Cq,Nv,U4,_⟩:=I2.tuple (qH eP keep (hk j (by omega)).2)
  exact xA Nv U4
 .obtain⟨t,et⟩:=Vr j (by omega)
  rw[et]
  have ON:∀b o,s2.heap.get? b=some o->h.get? b=some o:=λb o g=>kk b o trivial g
  have I3:Inv X pins σ H2 {s2 with heap:=h,toks:=tk}:=I2.kept ON
  refine vW (z:={s2 with heap:=h,toks:=tk}) S I3 ?_ (ON _ _ (I2.AU f _ ef).1) ?_ (lim.keeps ON) ?_ (keep _ _ Pf WK) (hk j (by omega)).1
  .have:=hr.dp
   show X.A.depth<recursionLimit
   omega
  .exact(I2.AU c' _ ec).2.2 _ _ (I2.AU c' _ ec).1 λo g=>ON _ _ g
  .obtain⟨o,y,r⟩:=cellAt
   exact⟨o,ON _ _ y,r⟩
 .have NK:s2.heap.get? D=none:=by
   cases y:s2.heap.get? D with
   |none=>rfl
   |some o=>exact absurd (aaG (aak (k1 D o y)) k2) (abj _)
  have J:Inv X pins σ H2 {s2 with heap:=s2.heap,toks:=tk}:=I2.kept λ_ _ g=>g
  obtain⟨m,hm,_⟩:=I2.loc
  have BW:∀y∈ix,y<ss.length:=λy hy=>by have:=i3 y hy;omega
  have pick:=rv.pick ix λy hy=>by rw[aac];exact BW y hy
  have ep:(ix.map λy=>(ss.map V.str).getD y V.AF)=ix.map λj=>V.str (ss.getD j ⟨#[]⟩):=aaW λy hy=>by
   have Qs:=BW y hy
   rw[aag,aaj,aab Qs,aag,aab Qs];rfl
  rw[ep]at pick
  refine⟨.ref D,_,J.Lq (xs:=ix.map λj=>V.str (ss.getD j ⟨#[]⟩)) hm (hm.keeps i6) (λb o _ g=>i6 b o g) NK ⟨?_,ix.map λy=>iN.getD y abd,cc,pick,i5⟩,rfl,hQ D ix (I2.AU.dead NK) ⟨by omega,i2,BW,i4⟩⟩
  rw[aac,i1,aaC];omega
end L2
namespace L2
open PySem PySem.Spec PyProof.Rows
variable{P:aaJ}{w:World}{K:aah}{mg:Str->Option Value}{base:Heap}
variable{x qual:Str}{st:Stmt}{f:Addr}{fd:abW}{N ps:List Str}{k:Nat}{sp:Sp}
theorem Ii.Vk(F:Ii K x qual st f fd)(S:ay N ps (aq st))(len:∀vs H Q E,sp vs H Q E->vs.length=ps.length)
  (GL:∀(Bi:Value),fd.code=Bi->∀(A:Around) (outer:List Env) (s:Shared) (H:Hp) (vs:List V) (Q:VK) (E:XK),Br k (A.deeper (envOfC qual (aq st) s.heap.objs.size f Bi))->sp vs H Q E ->
   ∃t,HH (Fl Cz P w K mg base N qual (aq st) f Bi A outer s H E).J5 (bI st) t/\t {nx:=λ_ H'=>Q .AF H',rt:=Q} (start N vs) H):A8 P w K mg base Cz (k+1) f fd ps sp:=by
 obtain⟨oc,od,kV,doc,pm,an,Bi,ct,Kw,rfl,lk,hcd⟩:=F.ex
 refine wQ lk hcd S len λA outer s H vs Q E hr J9=>?_
 obtain⟨t,h,q⟩:=GL Bi rfl A outer s H vs Q E hr J9
 exact⟨t,h.J5,q⟩
variable{X:Cx}{pins:List (Addr×Obj)}{σ:St}{H:Hp}{s:Shared}{n:Nat}{v:V}
theorem Inv.hide(I:Inv X pins σ H s){nm:Str}(hN:X.N[n]?=some nm)(hv:¬ G5 X.env.scope nm):Inv X pins (σ.set n (some v)) H s:=by
 refine⟨I.ok,I.os,I.bare,I.base,?_,I.cell,I.free,I.C1,I.pin,I.AU,by rw[aec];exact I.len⟩
 obtain⟨m,hn,hl⟩:=I.loc
 refine⟨m,hn,λi x u e1 e2 e3=>?_⟩
 by_cases z:n=i
 .subst z
  rw[hN]at e1;cases e1
  exact absurd e3 hv
 .rw[aaF z]at e2
  exact hl i x u e1 e2 e3
end L2
namespace Q
open PySem L2 PyProof.Rows
def IA(n:Nat)(c:PV)(xs:List PV):En:=BM n xs++[some ⟨2,c⟩]
def Ql(n:Nat)(P:PV->Prop)(e:En):Prop:=match e[n]? with
 |some (some ⟨2,c⟩)=>P c
 |_=>False
def GR(n:Nat)(P:PV->PV->Prop):Wd:={nx:=λe=>Ql n (P .AF) e,rt:=λx e=>Ql n (P x) e}
def DV(n:Nat)(u:WS):D5:=λc xs P=>u (GR n P) (IA n c xs)
def spT(M:Md)(n:Nat)(D:D5):Sp:=λvs H Q _=>∃(F:Hp) (a:Addr) (l:List Addr) (c:PV) (xs:List PV) (P:PV->PV->Prop),eQ F H/\AJ M.K F vs xs/\xs.length=n /\
 M.ob.P F H a l c/\(∀b∈l,H b≠none/\F b=none)/\D c xs P /\
 ∀r c' v F' H' l',P r c'->(∀b o,H b=some o->b∉l->H' b=some o)->(∀b,H b≠none->H' b≠none)->eQ F F'->eQ F' H'->(∀a,F' a≠none->F a≠none\/H a=none)->M.ob.P F' H' a l' c'->(∀b∈l',H' b≠none/\F' b=none)->(∀b∈l',b∈l\/H b=none)->Rep M.K F' v r->Q v H'
variable{M:Md}{F H:Hp}{N:List Str}{ws:List V}{xs:List PV}{a:Addr}{l:List Addr}{c:PV}{n:Nat}
theorem rS(sF:eQ F H)(r:AJ M.K F ws xs)(hN:N.length=n+1)(hl:xs.length<=n)(ho:M.ob.P F H a l c)(hb:∀b∈l,H b≠none/\F b=none):
  AI M ⟨H,F,l,λi=>if i=n then some a else none,λb h=>(hb b h).1⟩ F ((start N ws).set n (some (.ref a))) H (IA n c xs):=by
 have Iy:ws.length<=n:=by rw[r.len];exact hl
 have hs:(start N ws).length=n+1:=by rw[iM (by omega),hN]
 have he:(BM n xs).length=n:=hW hl
 refine⟨sF,λb o h _=>h,λb h=>h,ao,λa h=>.inl h,?_,λi=>if i=n then l else [],λi s h=>?_,λi b h=>?_,λi j b Ey h z=>?_,λi b s h _ _=>?_⟩
 .unfold IA
  rw[aau,he,aec,hs];rfl
 .rcases adE i n with z|z|z
  .unfold IA at h
   rw[aay (by omega)]at h
   obtain⟨x,hx,rfl⟩:=hZ h
   obtain⟨v,hv,rv⟩:=r.get hx
   refine⟨v,?_,.inl ⟨rfl,if_neg (by omega),rv⟩⟩
   rw[aaF (by omega)]
   exact dQ hv
  .subst z
   unfold IA at h
   rw[acG (by omega),he,Nat.sub_self]at h
   have h:s=⟨2,c⟩:=by simpa using h.symm
   subst h
   refine⟨.ref a,?_,.inr (.inr (.inl ⟨.inl rfl,a,rfl,λc hc=>.inl (by rwa [if_pos rfl]at hc),by rw[if_pos rfl];exact ho⟩))⟩
   rw[ab4 (by omega)]
  .unfold IA at h
   rw[aao (by rw[aau,he];simp;omega)]at h;cases h
 .split at h
  .exact hb b h
  .simp at h
 .split at h
  .split at z
   .rename_i h1 h2;exact Ey (h1.trans h2.symm)
   .simp at z
  .simp at h
 .dsimp only at h
  split at h
  .rename_i e;subst e;cases h
   rw[ab4 (by omega)]
  .cases h
variable{P:aaJ}{w:World}{K:aah}{mg:Str->Option Value}{base:Heap}{ob:Cy}
variable{x qual:Str}{st:Stmt}{f:Addr}{fd:abW}{ps:List Str}{k:Nat}{u:WS}
theorem gQ{nm:Str}(F:Ii K x qual st f fd)(S:ay N ps (aq st))(hN:N.length=n+1)(hn:ps.length<=n)(Sg:N[n]?=some nm)(hv:¬ G5 (aq st) nm)
  (hb:∀(Bi:Value),fd.code=Bi->∀(A:Around) (outer:List Env) (s:Shared) (H:Hp) (E:XK),Br k (A.deeper (envOfC qual (aq st) s.heap.objs.size f Bi))->Et ob (Fl Cz P w K mg base N qual (aq st) f Bi A outer s H E).J5 (bI st) u) :
  A8 P w K mg base Cz (k+1) f fd ps (spT ⟨P,w,K,ob⟩ ps.length (DV n u)):=by
 refine F.Vk S (λvs H Q E h=>?_) (λBi GK A outer s H vs Q E hr h=>?_)
 .obtain⟨F,a,l,c,xs,P,_,r,hl,_⟩:=h
  rw[r.len];exact hl
 .obtain⟨F,a,l,c,xs,P',sF,r,hl,ho,IC,hD,kk⟩:=h
  obtain⟨t,ht,kt⟩:=(hb Bi GK A outer s H E hr).ex
  have fin:∀(x:PV) (env:En) (v:V) (σ:L2.St) (F' H':Hp),Ql n (P' x) env->eQ F F'->AI ⟨P,w,K,ob⟩ ⟨H,F,l,λi=>if i=n then some a else none,λb h=>(IC b h).1⟩ F' σ H' env->Rep K F' v x->Q v H':=λx env v σ F' H' p s1 K1 rv=>by
   unfold Ql at p
   split at p
   .rename_i c' e
    obtain⟨fp,L⟩:=K1.sl
    obtain⟨v0,Gs,ok⟩:=L.at' n _ e
    have hσ:=L.oa n a _ (if_pos rfl) e rfl
    rw[hσ]at Gs;cases Gs
    rcases ok with ⟨k0,_⟩|⟨k0,_⟩|⟨_,a',e',h1,h2⟩|⟨k0,_⟩
    .cases k0
    .cases k0
    .cases e'
     exact kk x _ v F' H' (fp n) p (λb o h1 h2=>K1.sG b o h1 h2) (λb h=>K1.pr b h) s1 K1.sF K1.nw h2 (λb hb=>L.al n b hb) (λb hb=>h1 b hb) rv
    .cases k0
   .exact p.elim
  refine⟨λD σ H=>t D (σ.set n (some (.ref a))) H,λpins s' σ H' D I q=>ht pins s' _ H' D (I.hide Sg hv) q,kt ⟨H,F,l,λi=>if i=n then some a else none,λb h=>(IC b h).1⟩ F ((start N vs).set n (some (.ref a))) H (IA n c xs) (GR n P') _ (rS (M:=⟨P,w,K,ob⟩) sF r hN (by omega) ho IC) hD ⟨λenv σ F' H' p s1 K1=>?_,λx env v σ F' H' p s1 K1 rv=>?_,λ_ _ _ _ p=>p.elim,λ_ _ _ _ p=>p.elim,λ_ _ _ _ _ _ p=>p.elim,λ_ _ _ _ _ _ _ p=>p.elim⟩⟩
  .exact fin .AF env .AF σ F' H' p s1 K1 .AF
  .exact fin x env v σ F' H' p s1 K1 rv
variable{DG:Addr}{D:D5}
theorem gR{D':D5}(F:A8 P w K mg base Cz k DG fd ps (spT ⟨P,w,K,ob⟩ n D))(h:∀c xs P,D' c xs P->D c xs P):A8 P w K mg base Cz k DG fd ps (spT ⟨P,w,K,ob⟩ n D') :=
 F.imp λvs H Q E q=>by
  obtain⟨F,a,l,c,xs,P,a1,a2,a3,a4,a5,a6,a7⟩:=q
  exact⟨F,a,l,c,xs,P,a1,a2,a3,a4,a5,h _ _ _ a6,a7⟩
def Bz(D:D5)(j:Nat)(fa:WA):WE:=λenv P=>fa env λxs e=>match e[j]? with
 |some (some ⟨2,c⟩)=>D c xs λr c'=>P r (e.set j (some ⟨2,c'⟩))
 |some (some ⟨4,c⟩)=>D c xs λr c'=>P r (e.set j (some ⟨4,c'⟩))
 |_=>False
variable{X:Cx}{DO:D5}{p pos:Pos}{e:Expr}{es:List Expr}{fa:WA}
theorem wy(j:Nat)(F:A8 X.prog X.w X.K X.mg X.base Cz k DG fd ps (spT (md ob X) n DO))(hr:Br k X.A)(hm:X.mg x=some (.ref DG))(hk:abQ X.K (.ref DG)=true)(hb:Binds X.K fd ps [])(ha:G0 ob X (e::es) fa)(hn:es.length+1=n:=by rfl)(hg:Gl X x:=by rfl)
  (DP:(x==("__debug__" : Str))=false:=by decide) (he:aam (e::es) X.env=(false,eval e X.env)::aam es X.env:=by rfl) (B8:(backTo pos (aam es X.env)).any (·.1)=false:=by rfl) :
  Bk ob X (.Call (.Name x p) (e::es) [] pos) (Bz DO j fa):=by
 obtain⟨t,ht,kt⟩:=ha.ex
 refine⟨_,jz (E:=E0) F hr hg hm hk hb .nil GC ht DP he B8,λZ F σ H env P Q K hf kk=>?_⟩
 refine kt Z F σ H env _ _ K hf λxs e1 vs F1 H1 p hl s1 K1 r1=>?_
 show spT (md ob X) n DO (vs++[]) H1 Q E0
 rw[abE]
 have fin:∀(kd:Nat) (c:PV),kd=2\/kd=4->e1[j]?=some (some ⟨kd,c⟩)->DO c xs (λr c'=>P r (e1.set j (some ⟨kd,c'⟩)))->spT (md ob X) n DO vs H1 Q E0:=λkd c KO ei p=>by
  obtain⟨fp,L⟩:=K1.sl
  obtain⟨v0,Gs,ok⟩:=L.at' j _ ei
  rcases ok with ⟨k0,_⟩|⟨k0,_⟩|⟨_,a,rfl,_,ho⟩|⟨k0,_⟩
  .rcases KO with rfl|rfl<;>cases k0
  .rcases KO with rfl|rfl<;>cases k0
  .refine⟨F1,a,fp j,c,xs,_,K1.sF,r1,by rw[hl];exact hn,ho,λb hb=>L.al j b hb,p,λr c' v F' H' l' pr kp pre sF Ku nw ES Iy KJ rv=>?_⟩
   exact kk r _ v F' H' pr (ak s1 sF) (K1.KA KO L ei Gs kp pre sF Ku nw ES Iy KJ).1 rv
  .rcases KO with rfl|rfl<;>cases k0
 split at p
 .rename_i ei;exact fin _ _ (.inl rfl) ei p
 .rename_i ei;exact fin _ _ (.inr rfl) ei p
 .exact p.elim
end Q
namespace Q
open PySem L2 PyProof.Rows PySem.W
def HD(j i:Nat)(lq:Str)(ln co:Nat)(T:Addr)(f:WE):WE:=λenv P=>f env λx e=>match x,e[i]?,e[j]? with
 |.tup ys,some (some ⟨0,.BJ kvs⟩),some (some ⟨2,c⟩)=>∃(ss:List Str) (ks:List (Int×Str)),c=DE lq ln co T/\ys.mapM CC=some ss/\ss.length<64/\ks.length=ss.length/\(ks.map (·.2)).Nodup /\
  (∀m,m<ss.length->BY kvs (aav (ss.getD m ⟨#[]⟩))=some (.tup [.int (ks.getD m k0).1,.str (ks.getD m k0).2]))/\∀ix,K8 ks ss.length ix->P (.lst (ix.map λm=>.str (ss.getD m ⟨#[]⟩))) e
 |_,_,_=>False
variable{p:Pos}
theorem j7{q:Pos}(h1:p.line=q.line)(h2:p.col=q.col)(l:List Value):acm p l=acm q l:=by
 fun_induction acm p l with
 |case1 line t col u c rest h=>rw[acm,<- h1,<- h2,if_pos h]
 |case2 line t col u c rest h ih=>rw[acm,<- h1,<- h2,if_neg h];exact ih
 |case3 l h=> 
  unfold acm
  split
  .rename_i a b c d e f
   exact absurd rfl (h _ _ _ _ _ _)
  .rfl
variable{α:Type}
theorem vd{l:List α}{j:Nat}{y:α}(h:l[j]?=some y):l.set j y=l:=by
 apply acg
 intro i
 by_cases z:j=i
 .subst z
  rw[ab4 (List.getElem?_eq_some_iff.mp h).1,h]
 .rw[aaF z]
variable{a b:Addr}
theorem xb{lq Qo:Str}{ln RK co S8:Nat}(h:DE lq ln co a=DE Qo RK S8 b):lq=Qo/\ln=RK/\co=S8/\a=b:=by
 unfold DE at h
 injection h with h
 injection h with h1 h
 injection h with h2 h
 injection h with h3 h
 injection h with h4 _
 injection h1 with h1
 injection h2 with h2
 injection h3 with h3
 injection h4 with h4
 exact⟨h1,by omega,by omega,by exact Int.ofNat.inj h4⟩
variable{X:Cx}{lq d x:Str}{Be p1 p2 p3 Ir pos:Pos}{T c:Addr}{params:Arguments}{scope:Scope}{e:Expr}{f:WE}{i j k:Nat}{ob:Cy}
theorem wt(j i:Nat)(S:Ie x d params scope)(S2:Ih d params scope)(hr:Br k X.A)(hg:Gl X "sorted")(hm:X.mg "sorted" = none)(hq:X.env.qual ++ "<lambda>" = lq)(FR:X.env.code=.ref c)(hC:abT X.K c T=true)(hB:BMain X.mg X.base)
  (hi:X.N[i]?=some d) (hd:X.env.kindOf d=some .cell) (hv:G5 X.env.scope d) (ha:Bk ob X e f) (JL:ob=Ex X.K:=by rfl)
  (hs:aam [e] X.env=(false,eval e X.env)::aam [] X.env:=by rfl)
  (h1:backTo pos (aam [e] X.env)=(false,eval e X.env)::backTo pos (aam [] X.env):=by rfl) (h2:(backTo pos (aam [e] X.env)).any (·.1)=false:=by rfl) :
  IQ ob X (.Call (.Name "sorted" p) [e] [⟨some "key",.Lambda params (.Subscript (.Name d p1) (.Name x p2) p3) scope Be,Ir⟩] pos) (HD j i lq Be.line Be.col T f):=by
 subst JL
 obtain⟨te,VD,Vp⟩:=ha.ex
 refine⟨_,vA (i:=i) S S2 hr hg hm hq FR hC hB hi hd hv VD hs h1 h2,λZ F σ H env Pp Q K hf kk=>?_⟩
 refine Vp Z F σ H env _ _ K hf λy e1 v F1 H1 p s1 K1 r1=>?_
 split at p
 case h_2=>exact p.elim
 rename_i ys kvs cc ei ej
 obtain⟨ss,ks,rfl,VF,D0,l2,nd,MJ,p⟩:=p
 cases r1 with
 |tup hl VJ=>
 have:=cR jt VF VJ
 subst this
 obtain⟨fp,L⟩:=K1.sl
 obtain⟨vr,hσ,Vj⟩:=L.at' i _ ei
 obtain⟨dd,Jj,rfl,Pf,rk⟩:∃dd Jj,vr=.ref dd/\F1 dd=some (.dK Jj)/\AL X.K F1 Jj kvs:=by
  rcases Vj with ⟨_,_,r⟩|⟨q,_⟩|⟨q,_⟩|⟨q,_⟩
  .cases r with
   |BJ a b=>exact⟨_,_,rfl,a,b⟩
  .cases q
  .rcases q with q|q<;>cases q
  .cases q
 obtain⟨vt,hσt,Vi⟩:=L.at' j _ ej
 obtain⟨rfl,ps,JI,JH,T5⟩:vt=.ref T/\∃ps:Array Value,H1 T=some (CA T ps)/\TriplesOk ps.toList/\((fp j=[T]/\acm Be ps.toList=none)\/∃c',c'≠T/\fp j=[T,c']/\acm Be ps.toList=some (.ref c')/\H1 c'=some (CH c' lq)):=by
  rcases Vi with ⟨q,_⟩|⟨q,_⟩|⟨_,a,rfl,_,ho⟩|⟨q,_⟩
  .cases q
  .cases q
  .rcases ho with (⟨q,_⟩|⟨_,_,q,_⟩)|⟨_,q,_⟩|⟨Qo,ln,co,ps,q,t1,t2,t3⟩
   .cases q
   .cases q
   .cases q
   .obtain⟨rfl,e2,e3,rfl⟩:=xb q
    refine⟨rfl,ps,t1,t2,?_⟩
    have ec:∀l,acm ⟨ln,co,0,0⟩ l=acm Be l:=j7 e2.symm e3.symm
    rcases t3 with ⟨g1,g2⟩|⟨c',g1,g2,g3,g4⟩
    .exact .inl ⟨g1,(ec _).symm.trans g2⟩
    .exact .inr ⟨c',g1,g2,(ec _).symm.trans g3,g4⟩
  .cases q
 have SG:T∈fp j:=by
  rcases T5 with ⟨q,_⟩|⟨_,_,q,_⟩<;>rw[q]<;>simp
 have Uv:F1 T=none:=(L.al j T SG).2
 have ex:∀m:Nat,∃a:Addr,m<ss.length->C3 Jj (aav (ss.getD m ⟨#[]⟩))=some (.ref a)/\Cd X.K F1 a [.int (ks.getD m k0).1,.str (ks.getD m k0).2]:=λm=>by
  by_cases hm:m<ss.length
  .have hv:=MJ m hm
   rcases rk.val (k:=aav (ss.getD m ⟨#[]⟩))with ⟨_,q⟩|⟨v,x,q1,q2,q3⟩
   .rw[q]at hv;cases hv
   .rw[hv]at q2;cases q2
    cases q3 with
    |tup g1 g2=>
     cases g2 with
     |cons g2 g3=>cases g3 with
      |cons g3 g4=>cases g4;cases g2;cases g3;exact⟨_,λ_=>⟨q1,g1⟩⟩
  .exact⟨0,λh=>absurd h hm⟩
 obtain⟨g,Ul⟩:=Classical.axiomOfChoice ex
 have Xk:∀m,m<ss.length->((aa6 ss.length).map g).getD m 0=g m:=λm hm=>by
  rw[aag,aaj,ab2 hm];rfl
 refine⟨_,ss,dd,Jj,(aa6 ss.length).map g,ks,rfl,aw K1.sF hl,D0,hσ,K1.sF _ _ Pf,by simp,l2,nd,λm hm=>?_,ps,JI,JH,?_⟩
 .rw[Xk m hm]
  exact⟨(Ul m hm).1,aw K1.sF (Ul m hm).2⟩
 have Of:∀ix:List Nat,AJ X.K F1 (ix.map λm=>V.str (ss.getD m ⟨#[]⟩)) (ix.map λm=>PV.str (ss.getD m ⟨#[]⟩)):=λix=>by
  induction ix with
  |nil=>exact .nil
  |cons a r ih=>exact .cons (.str _) ih
 rcases T5 with ⟨Wb,Ls⟩|⟨c',BV,Wb,O3,MS⟩
 .refine .inl ⟨Ls,λc' f' ob a1 a2 a3 a4 a5 _ D ix hD ok=>?_⟩
  have old:∀b o,H1 b=some o->b≠T->(upd (upd (upd H1 T (CA T (ps++#[rawInt Be.line,rawInt Be.col,.ref c']))) c' (CH c' lq)) f' (EG f' ob)) b=some o:=λb o hb SE=>by
   rw[aj (av hb a2),aj (av hb a1),aj SE];exact hb
  have eT:(upd (upd (upd H1 T (CA T (ps++#[rawInt Be.line,rawInt Be.col,.ref c']))) c' (CH c' lq)) f' (EG f' ob)) T=some (CA T (ps++#[rawInt Be.line,rawInt Be.col,.ref c'])):=by
   rw[aj (abO a5),aj (abO a4),am]
  have eC:(upd (upd (upd H1 T (CA T (ps++#[rawInt Be.line,rawInt Be.col,.ref c']))) c' (CH c' lq)) f' (EG f' ob)) c'=some (CH c' lq):=by
   rw[aj a3,am]
  generalize (upd (upd (upd H1 T (CA T (ps++#[rawInt Be.line,rawInt Be.col,.ref c']))) c' (CH c' lq)) f' (EG f' ob))=H2 at hD old eT eC ⊢
  have tl:(ps++#[rawInt Be.line,rawInt Be.col,aaL c']).toList=ps.toList++[rawInt Be.line,rawInt Be.col,aaL c']:=by simp
  have K2:=(K1.KA (.inl rfl) L ej hσt (l':=[T,c']) (F':=F1) (H':=H2) (c':=DE lq Be.line Be.col T) (λb o hb hn=>old b o hb λz=>hn (z ▸ SG)) (λb hb=>?_) ao (λb o hb=>old b o (K1.sF b o hb) λz=>by rw[z,Uv]at hb;cases hb) (λb hb=>.inl hb)
   (.inr (.inr ⟨lq,Be.line,Be.col,_,rfl,eT,by rw[tl];exact TriplesOk_snoc _ _ _ _ JH,.inr ⟨c',a4,rfl,by rw[tl];exact(j7 (p:=⟨Be.line,Be.col,0,0⟩) (q:=Be) rfl rfl _).trans (codeAmong_snoc _ JH Ls),eC⟩⟩)) (λb hb=>?_) (λb hb=>?_)).1
  .rw[vd ej]at K2
   exact kk _ e1 _ F1 _ (p ix ok) s1 (λ_=>by simp) (K2.own hD ⟨_,am,Of ix⟩)
  .by_cases z:b=T
   .rw[z,eT];simp
   .obtain⟨o,ho⟩:=dh hb
    rw[old b o ho z];simp
  .rcases List.mem_cons.mp hb with rfl|hb
   .exact⟨by rw[eT];simp,Uv⟩
   .rw[List.mem_singleton.mp hb]
    exact⟨by rw[eC];simp,eQ.none_of K1.sF a1⟩
  .rcases List.mem_cons.mp hb with rfl|hb
   .exact .inl SG
   .rw[List.mem_singleton.mp hb];exact .inr a1
 .refine .inr ⟨c',O3,MS,λf' ob a1 _ D ix hD ok=>?_⟩
  have sH:eQ H1 (upd H1 f' (EG f' ob)):=az a1
  have K2:=K1.move ao (ak K1.sF sH) sH λ_ h=>.inl h
  exact kk _ e1 _ F1 _ (p ix ok) s1 (λ_=>by simp) (K2.own hD ⟨_,am,Of ix⟩)
end Q
namespace L2
open PySem PySem.Spec PyProof.Rows
variable{P:aaJ}{w:World}{K:aah}{mg:Str->Option Value}{k:Nat}{a T:Addr}{fd:abW}{x:Str}{sp:Sp}{vs:List Value}
theorem tW{mb:Str->Option Value}{fa c:Addr}{s₁:Shared}{ns:List Int}
  (KX:K.In s₁.heap) (IY:s₁.heap.Ns aaK mg) (hb:s₁.heap.Ns aeU mb) (Wh:∀x:Str,x ≠ "__name__" -> mb x=ab6 x) (MM:s₁.heap.NoLimit) (hg:s₁.gens=#[])
  (ha:s₁.heap.get? a=some {cls:=.type "list",data:=.seq vs.toArray}) (hi:IntsAre vs ns) (hl:ns.length<=sizeLine) (hr:Br k aft) (hC:abT K c T=true) (hT:s₁.heap.get? T=some (adw #[])) (hKT:K.lookup T=none) (hB:BMain mg s₁.heap)
  (F:∀base:Heap,K.In base->base.Ns aaK mg->BMain mg base->A8 P w K mg base Cz k fa fd [x] sp) (Ph:∀(s:Shared) (u:Value),BindsTo s fd ⟨[u],[]⟩ [(x,u)])
  (J9:∀H:Hp,Cm K H a (ns.map V.int)->H T=some (CA T #[])->sp [.ref a] H (λv H'=>v=.bl true/\∃ps,H' T=some (CA T ps)) λ_ _ _=>False) :
  ad6 (model P w) aft (.call (.ref fa) ⟨[.ref a],[]⟩) (λr s'=>r=.ok (.ret (.bool true))/\OldK s₁.heap s'.heap/\s'.os=s₁.os/\aeA s'.gens) s₁:=by
 have rv:=ng hi
 have RL:=hi.length
 have Up:a≠T:=λz=>by rw[z,hT]at ha;cases ha
 have core:∀H:Hp,(∀b,H b=none\/(∃o xs,H b=some (.Dy o (.lst xs)))\/b=T)->Cm K H a (ns.map V.int)->H T=some (CA T #[])->DA P w H s₁.heap->(∀b,H b≠none->b=a\/b=T)->(H a≠none->K.lookup a=none) ->
   ad6 (model P w) aft (.call (.ref fa) ⟨[.ref a],[]⟩) (λr s'=>r=.ok (.ret (.bool true))/\OldK s₁.heap s'.heap/\s'.os=s₁.os/\aeA s'.gens) s₁:=by
  intro H hO hS SH AU hA hK
  have Gm:∀{b:Addr} {o:Obj},s₁.heap.get? b=some o->H b=none->(FE s₁.heap H).get? b=some o:=λe n=>vZ e n
  have plain:∀{b:Addr} {o:Obj},s₁.heap.get? b=some o->o≠{cls:=.type "list",data:=.seq vs.toArray}->o≠adw #[]->H b=none:=λ{b o} e n1 n2=>by
   cases q:H b with
   |none=>rfl
   |some u=>
    rcases hA b (by rw[q];simp)with z|z
    .rw[z,ha]at e;cases e;exact absurd rfl n1
    .rw[z,hT]at e;cases e;exact absurd rfl n2
  have OE:∀{b:Addr} {o:Obj} {es:Array DictEntry} {ep:Nat},s₁.heap.get? b=some o->o.data=.dict es ep->H b=none:=λ{b o es ep} e d=>plain e (λz=>by rw[z]at d;cases d) (λz=>by rw[z]at d;cases d)
  have Qm:∀{b:Addr} {m:Str->Option Value},s₁.heap.Ns b m->(FE s₁.heap H).Ns b m:=λ{b m} ⟨o,es,ep,e,d,r⟩=>⟨o,es,ep,Gm e (OE e d),d,r⟩
  have Ut:K.In (FE s₁.heap H):=λb o e=>Gm (KX b o e) (by
   cases q:H b with
   |none=>rfl
   |some u=>
    rcases hA b (by rw[q];simp)with z|z
    .subst z
     rw[hK (by rw[q];simp)]at e;cases e
    .rw[z,hKT]at e;cases e)
  have Wu:BMain mg (FE s₁.heap H):=by
   obtain⟨bm,o,b1,b2,b3,b4,b5,b6⟩:=hB.ex
   exact⟨bm,o,b1,b2,Gm b3 (plain b3 (λz=>by rw[z]at b6;cases b6) (λz=>by rw[z]at b6;cases b6)),b4,b5,b6⟩
  have hM:Mod K mg (FE s₁.heap H):=⟨Ut,Qm IY,⟨mb,Qm hb,Wh⟩,let ⟨mc,h1,h2⟩:=MM;⟨mc,Qm h1,h2⟩⟩
  have e0:Lc P w K mg (FE s₁.heap H) aft [] s₁ H:=⟨rfl,hM,λb o e=>xP e,afa (ub _ _),trivial,λb hb=>absurd (show b∈([]:List Addr)from hb) (by simp),AU,.of_eq hg⟩
  refine adr ((F _ Ut (Qm IY) Wu).run aft [] s₁ H ⟨[.ref a],[]⟩ [.ref a] [.ref a] _ _ hr e0 (Ph s₁ (.ref a)) (.cons rfl .nil) (J9 H hS SH)) λr s' h=>?_
  cases r with
  |error e=>exact(show False from h).elim
  |ok fl=>
   cases fl with
   |next=>exact acQ h
   |brk=>exact acQ h
   |cont=>exact acQ h
   |ret u=>
    obtain⟨v,H',os,bare,un,O7,r',q,ps,QD⟩:=h
    subst q
    obtain rfl:u=Value.bool true:=r'
    have gT:s'.heap.get? T=some (adw ps):=(O7 T _ QD).1
    have keep:∀b o,s₁.heap.get? b=some o->b≠T->s'.heap.get? b=some o:=λb o e SE=>by
     cases q:H b with
     |none=>exact un.keep b o e q (by intro z;exact absurd (show b∈([]:List Addr)from z) (by simp)) (by simp)
     |some u=>
      rcases hO b with z|⟨ob,xs,z⟩|z
      .rw[q]at z;cases z
      .have z2:=un.Ge b ob _ z
       obtain⟨e1,_⟩:=AU b _ z
       obtain⟨e2,_⟩:=O7 b _ z2
       rw[e]at e1;cases e1
       exact e2
      .exact absurd z SE
    have C:=PySem.W.codeHd_of_K KX hC
    refine⟨rfl,⟨λb o e=>?_,λb o e=>?_⟩,os,bare⟩
    .by_cases z:b=T
     .subst z
      rw[hT]at e;cases e
      exact .inr (.inl ⟨(C.tab hT).isCodeTable,rfl,#[],ps,rfl,by rw[Array.empty_append];exact gT⟩)
     .exact .inl (keep b o e z)
    .by_cases z:b=T
     .subst z;exact⟨_,gT⟩
     .exact⟨o,keep b o e z⟩
 cases hk:K.lookup a with
 |some o=>
  have e:=KX a o hk
  rw[ha]at e
  cases e
  refine core (λb=>if b=T then some (CA T #[])else none) (λb=>?_) (.inr ⟨_,vs.toArray,_,hk,rfl,rfl,rfl,by rw[aae,RL];exact hl,by simpa using rv⟩) (if_pos rfl) (λb u z=>?_) (λb z=>?_) λz=>absurd (if_neg Up) z
  .by_cases hb:b=T
   .exact .inr (.inr hb)
   .exact .inl (if_neg hb)
  .by_cases hb:b=T
   .have z':=(if_pos hb).symm.trans z
    cases z'
    subst hb
    exact oE hT
   .have z':=(if_neg hb).symm.trans z
    cases z'
  .by_cases hb:b=T
   .exact .inr hb
   .exact absurd (if_neg hb) z
 |none=>
  refine core (λb=>if b=T then some (CA T #[])else if b=a then some (.Dy {cls:=.type "list",data:=.seq vs.toArray} (.lst (ns.map V.int)))else none) (λb=>?_) (.inl (.inr ⟨{cls:=.type "list",data:=.seq vs.toArray},(if_neg Up).trans (if_pos rfl)⟩)) (if_pos rfl) (λb u z=>?_) (λb z=>?_) λ_=>hk
  .by_cases hb:b=T
   .exact .inr (.inr hb)
   .by_cases JP:b=a
    .exact .inr (.inl ⟨_,_,(if_neg hb).trans (if_pos JP)⟩)
    .exact .inl ((if_neg hb).trans (if_neg JP))
  .by_cases hb:b=T
   .have z':=(if_pos hb).symm.trans z
    cases z'
    subst hb
    exact oE hT
   .have z:=(if_neg hb).symm.trans z
    by_cases JP:b=a
    .have z:=(if_pos JP).symm.trans z
     cases z
     subst JP
     exact⟨ha,by rw[aac];exact hl,vs,_,rv,ha⟩
    .have z:=(if_neg JP).symm.trans z
     cases z
  .by_cases hb:b=T
   .exact .inr hb
   .by_cases JP:b=a
    .exact .inl JP
    .exact absurd ((if_neg hb).trans (if_neg JP)) z
variable{n:Nat}
theorem uX{l:afx}{q:aaJ}{loose:List Str}{XP:(Str->Option Value)->Heap->Prop}{YP:World->Heap->Prop}{d:DefRec}{K:Params->aah}{sp:World->Sp}
  (hn:l.most=some n) (Si:n<=sizeLine) (Pe:d.params.defaults=[]) (hr:Br k aft)
  (hY:∀(w:World) (h:Heap),YP w h->(K w.params).In h/\h.get? T=some (adw #[])) (hKT:∀w:World,(K w.params).lookup T=none)
  (F:∀(w:World) (mg:Str->Option Value) (fa:Addr) (h:Heap),(K w.params).In h->h.Ns aaK mg->mg d.name=some (.ref fa) ->
   ∃fd:abW,(∀(s:Shared) (u:Value),BindsTo s fd ⟨[u],[]⟩ [(x,u)])/\(∃c,abT (K w.params) c T=true) /\
    ∀base:Heap,(K w.params).In base->base.Ns aaK mg->BMain mg base->A8 l.prog w (K w.params) mg base Cz k fa fd [x] (sp w))
  (J9:∀(w:World) (H:Hp) (a:Addr) (ns:List Int),ns.length<=n->Cm (K w.params) H a (ns.map V.int)->H T=some (CA T #[])->sp w [.ref a] H (λv H'=>v=.bl true/\∃ps,H' T=some (CA T ps)) λ_ _ _=>False) :
  PySem.W.WalkO q loose XP YP l.row.toRowW d [] (λf vs=>PySem.call f vs):=by
 refine Att.GX hn Pe λw s₀ s₁ mg mb fa o pm cd doc a vs ns G Y ho hd hcd hmg ML hints hlen hg=>?_
 obtain⟨KX,hT⟩:=hY w _ Y
 obtain⟨fd,hb,⟨c,hC⟩,hF⟩:=F w mg fa _ KX G.T.g hmg
 have hB:BMain mg s₁.heap:=by
  obtain⟨bm,ob,b1,b2,b3,b4,b5,b6⟩:=G.T.bmain
  exact⟨bm,ob,b1,b2,b3,b4,b5,b6⟩
 exact tW KX G.T.g G.T.b G.T.builtins G.T.nolimit hg ML hints (aa3 hlen Si) hr hC hT (hKT w) hB hF hb (λH hS SH=>J9 w H a ns hlen hS SH)
end L2
namespace Q
open PySem L2 PyProof.Rows
def EX(K:aah)(T:Addr):Sp:=λvs H Q _=>∃(a:Addr) (ns:List Int),vs=[.ref a]/\Cm K H a (ns.map V.int)/\ns.length<=63/\H T=some (CA T #[])/\∀(H':Hp) (ps:Array Value),H' T=some (CA T ps)->Q (.bl true) H'
variable{P:aaJ}{w:World}{K:aah}{mg:Str->Option Value}{base:Heap}{D:D5}{k:Nat}{DG:Addr}{fd:abW}{ps:List Str}
theorem x6{T:Addr}{lq:Str}{ln co:Nat}(F:A8 P w K mg base Cz k DG fd ps (spT ⟨P,w,K,Ex K⟩ 1 D))
  (h:∀(ns:List Int) (x:PV),ns.length<=63->(x=.C2 ns\/x=.lst (ns.map .int))->D (DE lq ln co T) [x] λr c=>r=.bl true/\c=DE lq ln co T):A8 P w K mg base Cz k DG fd ps (EX K T):=by
 refine F.imp λvs H Q E q=>?_
 obtain⟨a,ns,rfl,hs,hn,hT,kq⟩:=q
 let F0:Hp:=λb=>if b=T then none else H b
 have sF:eQ F0 H:=λb o e=>by
  by_cases z:b=T
  .have:=(if_pos z).symm.trans e;cases this
  .exact(if_neg z).symm.trans e
 have f0:∀b o,H b=some o->b≠T->F0 b=some o:=λb o e z=>(if_neg z).trans e
 have fin:∀x,(x=.C2 ns\/x=.lst (ns.map .int))->Rep K F0 (.ref a) x->spT ⟨P,w,K,Ex K⟩ 1 D [.ref a] H Q E:=λx hx r=>
  ⟨F0,T,[T],DE lq ln co T,[x],_,sF,.cons r .nil,rfl,.inr (.inr ⟨lq,ln,co,#[],rfl,hT,trivial,.inl ⟨rfl,rfl⟩⟩),λb hb=>by rw[List.mem_singleton.mp hb];exact⟨by rw[hT];simp,if_pos rfl⟩,h ns x hn hx,λr c' v F' H' l' e _ _ _ _ _ ho _ _ rv=>by
   obtain⟨rfl,rfl⟩:=e
   cases rv
   rcases ho with (⟨q,_⟩|⟨_,_,q,_⟩)|⟨_,q,_⟩|⟨Qo,RK,S8,Io,q,t1,_⟩
   .cases q
   .cases q
   .cases q
   .exact kq H' Io t1⟩
 rcases hs with (hs|⟨o,hs⟩)|hs
 .exact fin _ (.inr rfl) (.lst (f0 _ _ hs λz=>by rw[z,hT]at hs;cases hs) (fV ns))
 .exact fin _ (.inl rfl) (.C2 (.inl ⟨o,f0 _ _ hs λz=>by rw[z,hT]at hs;cases hs⟩))
 .exact fin _ (.inl rfl) (.C2 (.inr hs))
end Q
namespace L2
open PySem PySem.Spec PyProof.Rows
variable{X:Cx}{pins:List (Addr×Obj)}{σ:St}{H:Hp}{s:Shared}{d:Addr}{kvs:List (Key×V)}{o:Obj}
theorem Inv.Mh(I:Inv X pins σ H s)(e:H d=some (.dK kvs))(ho:s.heap.get? d=some o):Inv X pins σ (upd H d (.Dy o (.dK kvs))) s:=by
 have un:Un X.fs [] H (upd H d (.Dy o (.dK kvs))) s.heap s.heap:=by
  refine⟨λb u q n _ _=>q,λb u q n _ _=>⟨u.slots,q⟩,λb u q n _=>?_,λb u q _=>⟨u,q⟩,λb xs q=>?_,λb u v q=>?_,λb qs q=>⟨#[],?_⟩⟩
  .rw[aj (λz=>by rw[z,e]at n;cases n)];exact n
  .rw[aj (λz=>by rw[z,e]at q;cases q)];exact q
  .rw[aj (λz=>by rw[z,e]at q;cases q)];exact q
  .rw[aj (λz=>by rw[z,e]at q;cases q),q];simp
 have AU:DA X.prog X.w (upd H d (.Dy o (.dK kvs))) s.heap:=λb u q=>by
  have st:∀c v,H c=some v->A7 X.prog X.w (upd H d (.Dy o (.dK kvs))) s.heap c v:=λc v hc=>
   (I.AU c v hc).F8 (λ_ _ _ g=>g) (λx hx=>by rw[aj (λz=>by rw[z,e]at hx;cases hx)];exact hx) λx xs hx=>by rw[aj (λz=>by rw[z,e]at hx;cases hx)];exact hx
  by_cases z:b=d
  .subst z
   rw[am]at q;cases q
   exact⟨ho,st b _ e⟩
  .rw[aj z]at q
   exact st b u q
 have:=I.un (t':=s.toks) un AU
 exact this
def Th(d:Addr)(o:Obj)(kvs:List (Key×V)):It :=
 ⟨λi H=>H d=some (.Dy o (.dK kvs))/\i<kvs.length,
  λi H v H'=>∃p k x,v=.ref p/\H p=none/\H'=upd H p (.tup [kV k,x])/\kvs[i]?=some (k,x),
  λi H=>H d=some (.Dy o (.dK kvs))/\kvs.length<=i⟩
variable{vs:List (Key×Value)}
theorem zr(r:KV kvs vs):∀{i:Nat} {k:Key} {x:V},kvs[i]?=some (k,x)->∃u,vs[i]?=some (k,u)/\RelV x u:=by
 induction r with
 |nil=>intro i k x e;simp at e
 |@cons p q ps qs h t ih=>
  intro i k x e
  cases i with
  |zero=>
   simp only[acl,aeX]at e
   subst e
   obtain⟨k',u⟩:=q
   obtain⟨h1,h2⟩:=h
   dsimp only at h1 h2
   subst h1
   exact⟨u,rfl,h2⟩
  |succ i=>
   simp only[acY]at e ⊢
   exact ih e
variable{P:aaJ}{w:World}{K:aah}{elts:List Expr}{pos:Pos}{it:Addr}{ep:Nat}
theorem rP{x1:_}{es:Array DictEntry}(r:KV kvs vs)(hx:o.ExactDict)(JO:o.data=.dict es ep)(hk:KeysOf (aN P w) es)(hp:Pairs (aN P w) es.toList vs)(hn:(vs.map (·.1)).Nodup):
  Turn P w K (.Tuple elts x1 pos) (Th d o kvs) [it] it (λn h=>∃a b,IsItemIter h it d n vs.length ep a b) where
 mem:=by simp
 obj:=λn h ⟨a,b,Z⟩ c hc=>by
  rw[List.mem_singleton.mp hc]
  exact⟨_,Z,λv e=>by cases (show Data.fields _=afC v from e)⟩
 keep:=λn h h' ⟨a,b,Z⟩ k=>⟨a,b,k it (by simp) _ Z⟩
 item:=by
  intro X hP hw hK hc n pins s σ H E I hf Z hg
  subst hP hw hK
  obtain⟨ka,kb,Z⟩:=Z
  obtain⟨hd,BW⟩:=hg
  have ho:s.heap.get? d=some o:=(I.AU d _ hd).1
  have D:s.heap.DictAt (aN X.prog X.w) d vs ep:=⟨o,es,ho,hx,JO,hk,hp,hn⟩
  obtain⟨⟨k,x⟩,Ue⟩:∃q,kvs[n]?=some q:=⟨_,aab BW⟩
  obtain⟨u,hu,ru⟩:=zr r Ue
  have FQ:H s.heap.objs.size=none:=I.AU.fresh (aal _)
  have Sr:it<s.heap.objs.size:=aak Z
  have VT:s.heap.objs.size≠it:=ab8 Sr
  refine wpAny_pyNext_items_item Z D hu λkey h' q1 q2 q3 q4 kk=>?_
  have rk:RelV (kV k) key:=by
   rcases bb q1 with ⟨i,t,rfl,rfl⟩|⟨y,t,rfl,rfl⟩
   .exact⟨t,rfl⟩
   .exact⟨t,rfl⟩
  refine⟨_,rfl,wpAny_letOwnedTupleGo_items (s:={s with heap:=h'}) q2 λh2 w1 w2=>?_⟩
  have I1:Inv X pins σ (upd H s.heap.objs.size (.tup [kV k,x])) {s with heap:=s.heap.push {cls:=.type "tuple",data:=.seq #[key,u]}} :=
   I.laid (t':=s.toks) (λb u e=>aad _ e) (aal _) ⟨by show 2<=sizeLine;decide,[key,u],.cons rk (.cons ru .nil),⟨_,aai _ rfl,rfl,_,rfl⟩⟩
  have MQ:∀c∈[it],DS X pins (upd H s.heap.objs.size (.tup [kV k,x])) c:=λc hc=>by
   rw[List.mem_singleton.mp hc]
   have:=hf it (by simp)
   exact⟨by rw[aj (abO VT)];exact this.1,this.2⟩
  have I2:Inv X pins σ (upd H s.heap.objs.size (.tup [kV k,x])) {s with heap:=h2}:=by
   refine I1.EL (t':=s.toks) (h':=h2) (λc q hc e=>?_) MQ
   have QC:c≠it:=λe=>hc (by simp[e])
   refine w2.extBut _ _ QC ?_
   by_cases Ke:c=s.heap.objs.size
   .subst Ke
    have:(s.heap.push {cls:=.type "tuple",data:=.seq #[key,u]}).get? s.heap.objs.size=some {cls:=.type "tuple",data:=.seq #[key,u]}:=aai _ rfl
    have e':some {cls:=.type "tuple",data:=.seq #[key,u]}=some q:=this.symm.trans e
    rw[<- e'];exact q3
   .exact kk c q QC ((Heap.get?_push_ne _ _ _ Ke).symm.trans e)
  exact⟨.ref s.heap.objs.size,_,I2,rfl,⟨_,k,x,rfl,FQ,rfl,Ue⟩,⟨_,_,w1⟩,λc hc=>(MQ c hc).1⟩
 done:=by
  intro X hP hw hK hc n pins s σ H E I hf Z hg
  subst hP hw hK
  obtain⟨ka,kb,Z⟩:=Z
  obtain⟨hd,hle⟩:=hg
  have ho:s.heap.get? d=some o:=(I.AU d _ hd).1
  have D:s.heap.DictAt (aN X.prog X.w) d vs ep:=⟨o,es,ho,hx,JO,hk,hp,hn⟩
  have hl:=r.length
  refine wpAny_pyNext_items_end (I.ok.hd hc) Z D (aao (by omega)) λh' kk=>⟨rfl,I.EL (t':=s.toks) (λc q hc e=>kk c q (λz=>hc (by simp[z])) e) hf⟩
 self:=λ_ _ _ _ _ ⟨_,_,Z⟩ h=>PySem.W.kcp_self Z h
def MI(to:TE):TI:=λσ H R=>to σ H λv H1=>∃d kvs,v=.ref d/\H1 d=some (.dK kvs)/\∀o,R (Th d o kvs) (upd H1 d (.Dy o (.dK kvs)))
variable{to:TE}
theorem vz{x1:_}{FX:Pos}{o:Expr}{apos:Pos}(ho:PE X o to)
  (B0:ab7 o "items" X.env (eval o X.env)=eval o X.env:=by rfl) (BZ:(apos.endLine==pos.line)=true:=by rfl) :
  PI X (.Tuple elts x1 FX) (.Call (.Attribute o "items" apos) [] [] pos) (MI to):=by
 intro pins s σ H R I h
 refine wpAny_Call_method0_late B0 BZ (Bu (ho pins s σ H _ I h) λv s1 ⟨x,H1,I1,r1,q1⟩=>?_)
 obtain⟨d,kvs,ex,hd,q1⟩:=q1
 subst ex
 cases r1
 obtain⟨t1,t2,t3⟩:=zJ I1 (.inl ⟨kvs,.inl hd⟩)
 refine⟨"dict", "dict.items",PySem.F.plainAttrs_dict,PySem.F.slot_dict_items,PySem.F.type_dict_items,t1,t2,ac2 rfl (PySem.evalArgs_none ?_)⟩
 obtain⟨hz,_,vs,rel,dd⟩:=lS I1.AU hd
 refine call_meetsIn PySem.F.slot_dict_items dd.typeIs PySem.F.entry_dict_items (PySem.F.args_dict_items_1 _) (meets_dict_items (aN X.prog X.w) d t3) ⟨⟨vs,dd⟩,?_⟩
 obtain⟨o,es,ep,ho,hx,JO,hk,hp,hn⟩:=dd
 have D:s1.heap.DictAt (aN X.prog X.w) d vs ep:=⟨o,es,ho,hx,JO,hk,hp,hn⟩
 refine wpAny_pyIter_items (s:={s1 with heap:=s1.heap.push {cls:=.type "dict_items",data:=.fields #[.ref d]}}) (v:=s1.heap.objs.size) (d:=d) ⟨_,aai _ rfl,rfl,rfl⟩ (D.push _) ?_
 have I2:Inv X pins σ H1 {s1 with heap:=(s1.heap.push {cls:=.type "dict_items",data:=.fields #[.ref d]}).push {cls:=.type "dict_itemiterator",data:=.fields #[.none,.bool false,.ref d,.int 0 0,.int vs.length 0,.int ep 0,.none,.none]}} :=
  I1.kept (t':=s1.toks) λb u e=>aad _ (aad _ e)
 have I3:=I2.Mh hd (o:=o) (aad _ (aad _ ho))
 have hsz:(s1.heap.push {cls:=.type "dict_items",data:=.fields #[.ref d]}).objs.size=s1.heap.objs.size+1:=aa4 ..
 have Ja:s1.heap.objs.size<=(s1.heap.push {cls:=.type "dict_items",data:=.fields #[.ref d]}).objs.size:=by omega
 have Kd:H1 (s1.heap.push {cls:=.type "dict_items",data:=.fields #[.ref d]}).objs.size=none:=I1.AU.fresh Ja
 refine⟨_,[_],_,_,_,rfl,I3,rP (it:=(s1.heap.push {cls:=.type "dict_items",data:=.fields #[.ref d]}).objs.size) rel hx JO hk hp hn,⟨_,_,aai _ rfl⟩,λb hb=>?_,q1 o⟩
 rw[List.mem_singleton.mp hb]
 exact I1.Hv Ja (by rw[aj (λz=>by rw[z,hd]at Kd;cases Kd)];exact Kd)
end L2
namespace Q
open PySem L2 PyProof.Rows
def kP:Key->PV
 |.inl i=>.int i
 |.inr x=>.str x
def GD(q:Key×PV):PV:=.tup [kP q.1,q.2]
variable{K:aah}{F:Hp}
theorem zA:∀k:Key,Rep K F (kV k) (kP k)
 |.inl i=>.int i
 |.inr x=>.str x
variable{vs:List (Key×V)}{xs:List (Key×PV)}
theorem AL.get(h:AL K F vs xs):∀{i:Nat} {k:Key} {x:PV},xs[i]?=some (k,x)->∃v,vs[i]?=some (k,v)/\Rep K F v x:=by
 induction h using AL.ind with
 |nil=>intro i k x e;simp at e
 |cons a r ih=>
  intro i k x e
  cases i with
  |zero=>
   simp only[acl,aeX,Prod.mk.injEq]at e ⊢
   obtain⟨rfl,rfl⟩:=e
   exact⟨_,⟨rfl,rfl⟩,a⟩
  |succ i=>
   simp only[acY]at e ⊢
   exact ih e
variable{M:Md}
theorem zI{d:Addr}{o:Obj}(h:F d=some (.Dy o (.dK vs)))(r:AL M.K F vs xs):Gr M (Th d o vs) F (xs.map GD):=by
 refine⟨λZ i σ env F' H x s K e=>?_,λZ i σ env F' H s K hl=>⟨K.sF _ _ (s _ _ h),by rw[r.len];simpa using hl⟩⟩
 rw[aaj]at e
 cases ez:xs[i]? with
 |none=>rw[ez]at e;cases e
 |some q=>
  rw[ez]at e
  obtain⟨k,y⟩:=q
  have e:x=GD (k,y):=(aap e).symm
  subst e
  obtain⟨v,hv,rv⟩:=r.get ez
  refine⟨⟨K.sF _ _ (s _ _ h),(List.getElem?_eq_some_iff.mp hv).1⟩,λv' H' y'=>?_⟩
  obtain⟨p,k',x',rfl,hp,rfl,q⟩:=y'
  rw[hv]at q;cases q
  have hF:F' p=none:=eQ.none_of K.sF hp
  refine⟨upd F' p (.tup [kV k,v]),az hF,K.lay hp,.tup (.inl (.inl am)) (.cons (zA k) (.cons ((rv.mono s).mono (az hF)) .nil)),az hp,λc hc=>?_⟩
  by_cases z:c=p
  .subst z;exact .inr hp
  .rw[aj z]at hc;exact .inl hc
def mP(i:Nat):WA:=λenv P=>match env[i]? with
 |some (some ⟨1,.BJ kvs⟩)=>P (kvs.map GD) (env.set i none)
 |_=>False
variable{Z:Zn}{H:Hp}{σ:L2.St}{env:En}{i:Nat}
theorem AI.Mh{kvs:List (Key×PV)}(K:AI M Z F σ H env)(hi:env[i]?=some (some ⟨1,.BJ kvs⟩)):
  ∃d vs,σ[i]?=some (some (.ref d))/\H d=some (.dK vs)/\F d=none/\AL M.K F vs kvs/\∀o,AI M Z (upd F d (.Dy o (.dK vs))) σ (upd H d (.Dy o (.dK vs))) (env.set i none):=by
 obtain⟨fp,L⟩:=K.sl
 obtain⟨v,hv,ok⟩:=L.at' i _ hi
 rcases ok with ⟨e,_⟩|⟨_,d,rfl,hf,h0,vs,hd,rk⟩|⟨e,_⟩|⟨e,_⟩
 .cases e
 .have ha:=L.al i d (by rw[hf];simp)
  refine⟨d,vs,hv,hd,ha.2,rk,λo=>?_⟩
  have s1:eQ F (upd F d (.Dy o (.dK vs))):=az ha.2
  have ot:∀j b,j≠i->b∈fp j->b≠d:=λj b hj hb z=>L.dj j i b hj hb (by rw[hf,z];simp)
  refine⟨λb u e=>?_,λb u e hb=>?_,λb e=>?_,ak K.gr s1,λb e=>?_,by simp[K.len],λj=>if j=i then []else fp j,λj s h=>?_,λj b h=>?_,λj k b I0 h z=>?_,λj b t e1 e2 e3=>?_⟩
  .by_cases z:b=d
   .subst z;rw[am]at e ⊢;exact e
   .rw[aj z]at e ⊢;exact K.sF b u e
  .rw[aj (λz=>by rw[z,h0]at e;cases e)]
   exact K.sG b u e hb
  .by_cases z:b=d
   .subst z;rw[am];simp
   .rw[aj z];exact K.pr b e
  .by_cases z:b=d
   .subst z;exact .inr h0
   .rw[aj z]at e;exact K.nw b e
  .by_cases z:j=i
   .subst z
    rw[abP]at h
    simp only[if_true]at h
    split at h<;>cases h
   .rw[aaF (abO z)]at h
    rw[if_neg z]
    obtain⟨v,g1,g2⟩:=L.at' j s h
    exact⟨v,g1,g2.mono s1 λc hc=>aj (ot j c z hc)⟩
  .split at h
   .simp at h
   .rename_i z
    have:=L.al j b h
    rw[aj (ot j b z h),aj (ot j b z h)];exact this
  .split at h
   .simp at h
   .split at z
    .simp at z
    .exact L.dj j k b I0 h z
  .by_cases z:j=i
   .subst z
    rw[abP]at e2
    simp only[if_true]at e2
    split at e2<;>cases e2
   .rw[aaF (abO z)]at e2
    exact L.oa j b t e1 e2 e3
 .rcases e with e|e<;>cases e
 .cases e
variable{ob:Cy}{X:Cx}{x:Str}{p apos:Pos}
theorem uE(i:Nat){pos FX:Pos}{elts:List Expr}{x1:_}(ho:PE X (.Name x p) (BF i))
  (B0:ab7 (.Name x p) "items" X.env (eval (.Name x p) X.env)=eval (.Name x p) X.env:=by rfl) (BZ:(apos.endLine==pos.line)=true:=by rfl) :
  Jd ob X (.Tuple elts x1 FX) (.Call (.Attribute (.Name x p) "items" apos) [] [] pos) (mP i):=by
 refine⟨_,vz ho B0 BZ,λZ F σ H env P R K hf kk=>?_⟩
 unfold mP at hf
 split at hf
 .rename_i kvs ei
  obtain⟨d,vs,hv,hd,hF,rk,kz⟩:=K.Mh ei
  exact⟨_,hv,d,vs,rfl,hd,λo=>kk _ _ _ _ _ hf (az hF) (kz o) (zI am (rk.mono (az hF)))⟩
 .exact hf.elim
end Q
namespace L2
open PySem PySem.Spec PyProof.Rows PySem.W
variable{prog:aaJ}{w:World}{A:Around}{E:Value->Shared->Prop}{s:Shared}
end L2
namespace Q
open PySem L2 PyProof.Rows
variable{ob:Cy}{X:Cx}{e:Expr}{f:WE}{p pos Ir p1:Pos}{kd:_}
end Q
namespace L2
open PySem PySem.Spec PyProof.Rows
section
open PySem.SeqAt
open PySem.AutoSeq1 (wpAny_loadPart')
open PySem.MeetsSeq PySem.MeetsSeq2 PySem.MeetsSeq3
end
end L2
namespace Q
open PySem L2 PyProof.Rows
variable{X:Cx}{pins:List (Addr×Obj)}{σ:L2.St}{H F:Hp}{s:Shared}
variable{ob:Cy}
end Q
namespace L2
open PySem PySem.Spec PyProof.Rows
variable{prog:aaJ}{w:World}{A:Around}{E:Value->Shared->Prop}{s:Shared}{a₀:Array Keyed}{κ:KeyKind}
variable{X:Cx}
end L2
namespace Q
open PySem L2 PyProof.Rows
variable{ob:Cy}{X:Cx}{a b c e:Expr}{es:List Expr}{f g h:WE}{fa:WA}{pos p p1:Pos}{x:Str}
end Q
namespace L2
open PySem PySem.Spec PyProof.Rows
variable{X:Cx}{o e:Expr}{to te:TE}{apos pos:Pos}
section
open Builtin Builtin.Str
variable{prog:aaJ}{w:World}{A:Around}{E:Value->Shared->Prop}{s:Shared}
end
def Oa:TS:=λ_ _ _=>False
variable{st:Stmt}
theorem yR:PS X st Oa:=λ_ _ _ _ _ _ h=>h.elim
end L2
namespace Q
open PySem L2 PyProof.Rows
variable{ob:Cy}{X:Cx}{a b e:Expr}{f g:WE}{apos pos:Pos}
def Hk:WS:=λ_ _=>False
variable{st:Stmt}
theorem gS:EU ob X st Hk:=⟨Oa,yR,λ_ _ _ _ _ _ _ _ h _=>h.elim⟩
end Q
namespace L2
open PySem PySem.Spec PyProof.Rows
variable{prog:aaJ}{w:World}{A:Around}{E:Value->Shared->Prop}{s:Shared}{l b:Addr}{items RR:Array Value}{n n2:Nat}
variable{X:Cx}
end L2
namespace Q
open PySem L2 PyProof.Rows
variable{ob:Cy}{X:Cx}{e:Expr}{g:WE}{pos pos':Pos}
end Q
set_option maxHeartbeats 400000
namespace L2
open PySem PySem.Spec PyProof.Rows
variable{X:Cx}
end L2
namespace Q
open PySem L2 PyProof.Rows
variable{ob:Cy}{X:Cx}{a:Expr}{fa:WA}{p pos:Pos}
variable{p2:Pos}{x:Str}
end Q
namespace Pre
open PySem L2
end Pre
namespace Q
open PySem L2 PyProof.Rows
variable{X:Cx}{k:Nat}{DG:Addr}{fd:abW}{ps:List Str}{x y:Str}{p p1 pos pos':Pos}
variable{ob:Cy}
variable{pins:List (Addr×Obj)}{s:Shared}{σ:L2.St}{H:Hp}
end Q
namespace L2
open PySem PySem.Spec PyProof.Rows PySem.W
variable{prog:aaJ}{w:World}{A:Around}{E:Value->Shared->Prop}{s:Shared}
end L2
namespace Q
open PySem L2 PyProof.Rows
variable{ob:Cy}{X:Cx}{e:Expr}{es:List Expr}{fa:WA}{pos p:Pos}
end Q
set_option maxHeartbeats 1000000
namespace L2
open PySem PySem.Spec PyProof.Rows
open AutoSeq1 (wpAny_loadPart')
variable{prog:aaJ}{w:World}{A:Around}{E:Value->Shared->Prop}{s:Shared}
variable{X:Cx}
end L2
namespace Q
open PySem L2 PyProof.Rows
variable{ob:Cy}{X:Cx}{a:Expr}{fa:WA}{p pos:Pos}
end Q
namespace L2
open PySem PySem.Spec PyProof.Rows
theorem qq(t:adQ)(n:Nat):(t.orStandIn n).led=t.led:=by
 unfold SetTable.orStandIn afg
 split<;>rfl
theorem sh(t:adQ)(es:Array (Int×Value))(h:Int)(x:Value):(layNew t es h x).2.1.led=t.led:=by
 unfold layNew
 split
 .exact qq _ _
 .rfl
variable{t:adQ}{n:Nat}
theorem jY{t':adQ}{hs:Array Int}{o:Array Nat}(e:t.relaid hs n=some (t',o)):t'.led=t.led/\t'.plain=t.plain:=by
 unfold SetTable.relaid SetTable.laid at e
 cases q:SetTable.layClean (SetTable.sizeAbove n - 1) hs with
 |none=>rw[q]at e;cases e
 |some ow=>
  rw[q]at e
  have e':=aap e
  cases e'
  exact⟨rfl,rfl⟩
theorem oQ(t:adQ)(es:Array (Int×Value))(n:Nat):(aei t es n).2.1.led=t.led:=by
 unfold aei afg
 split
 .rename_i e
  dsimp only
  split
  .exact(jY e).1
  .rfl
 .rfl
theorem my(t:adQ)(es:Array (Int×Value))(n:Nat)(h:t.plain=false):(aei t es n).2.1.plain=false:=by
 unfold aei afg
 split
 .rename_i e
  dsimp only
  split
  .exact(jY e).2.trans h
  .rfl
 .rfl
def Cg(P:aaJ)(w:World)(h:Heap)(a:Addr)(ss:List Str):Prop :=
 ∃o es ep t ks,h.get? a=some o/\o.ExactSet/\o.data=.set es ep t/\ElemsOf (strKind P w) es.toList/\ack (es.toList.map (·.2)) ks/\ks.Perm ss/\es.size<scanBound/\t.fits es.size=true /\
  (w.params.followText "set-order" = false->t.led=true)/\(es.size≠0->t.plain=false)
variable{P:aaJ}{w:World}{h h':Heap}{a:Addr}{ss:List Str}
theorem Cg.keep(x:Cg P w h a ss)(k:∀o,h.get? a=some o->h'.get? a=some o):Cg P w h' a ss:=by
 obtain⟨o,es,ep,t,ks,a1,r⟩:=x
 exact⟨o,es,ep,t,ks,k o a1,r⟩
variable{vs:List Value}
theorem cY{ks:List Str}{Jj:List Value}(p:Jj.Perm vs):ack vs ks->∃T3,ack Jj T3/\T3.Perm ks:=by
 induction p generalizing ks with
 |nil=>exact λh=>⟨ks,h,.refl _⟩
 |cons x p ih=>
  intro h
  cases h with
  |cons s t r=>obtain⟨k1,h1,p1⟩:=ih r;exact⟨_,.cons s t h1,p1.cons _⟩
 |swap x y l=>
  intro h
  cases h with
  |cons s t r=>cases r with|cons s' t' r'=>exact⟨_,.cons s' t' (.cons s t r'),.swap ..⟩
 |trans p1 p2 OW OV=>
  intro h
  obtain⟨k2,h2,q2⟩:=OV h
  obtain⟨k1,h1,q1⟩:=OW h2
  exact⟨k1,h1,q1.trans q2⟩
theorem gm{P:aaJ}{w:World}{k:Str}:∀{es:List (Int×Value)} {ks:List Str},ack (es.map (·.2)) ks->(k∈ks↔∃e∈es,(strKind P w).is k e.2=true)
 |[],ks,h=>by cases h;simp
 |e::es,ks,h=>by
  obtain⟨hh,v⟩:=e
  cases h with
  |cons s t r=>
   rw[aa2,gm (P:=P) (w:=w) (k:=k) r]
   constructor
   .rintro(rfl|⟨e,he,q⟩)
    .exact⟨_,aat,aeh _ _ _ _⟩
    .exact⟨e,aar _ he,q⟩
   .rintro⟨e,he,q⟩
    rcases List.mem_cons.mp he with rfl|he
    .obtain⟨t',e'⟩:=aex (x:=k) (v:=acn s t) q
     cases e'
     exact .inl rfl
    .exact .inr ⟨e,he,q⟩
variable{prog:aaJ}{A:Around}{E:Value->Shared->Prop}{s:Shared}
variable{o:Obj}{es:Array (Int×Value)}{ep:Nat}
theorem Cg.stored{ks:List Str}(ho:h.get? a=some o)(hex:o.ExactSet)(hd:o.data=.set es ep t)
  {GP:Array (Int×Value)} {t':adQ} (MR:ElemsOf (strKind prog w) GP.toList) (G4:ack (GP.toList.map (·.2)) ks) (p:ks.Perm ss) (hb:GP.size<scanBound) (hf:t'.fits GP.size=true)
  (FD:w.params.followText "set-order" = false->t'.led=true) (B8:GP.size≠0->t'.plain=false) :
  (h.update a (Obj.putSet GP t')).get? a=some {o with data:=.set GP (ep+1) t'}/\Cg prog w (h.update a (Obj.putSet GP t')) a ss:=by
 have hg:=abw (Obj.putSet GP t') ho (by rw[putSet_of GP t' hd];rfl)
 rw[putSet_of GP t' hd]at hg
 exact⟨hg,_,GP,ep+1,t',ks,hg,hex,rfl,MR,G4,p,hb,hf,FD,B8⟩
variable{k:Str}{Q:Bool->Shared->Prop}
theorem Ta{tk:Tok}(hS:Cg prog w s.heap a ss)(JK:ss.length+1<scanBound)
  (h:∀b h',aci a s.heap h'->Cg prog w h' a (if k∈ss then ss else ss++[k])->Q b {s with heap:=h'}) :
  wpAny (model prog w) A (setAddHashed a (.str k tk) ((strKind prog w).hash k)) Q E s:=by
 obtain⟨o,es,ep,t,ks,ho,hex,hd,MR,G4,p,hb,hf,FD,B8⟩:=hS
 have GJ:(strKind prog w).is k (.str k tk)=true:=aeh _ _ _ _
 have hlen:es.size=ss.length:=by
  have:=G4.length
  rw[aac,aaz]at this
  rw[this,p.length_eq]
 unfold setAddHashed setAddHashedIn
 refine aa9 (aaa (acC ho hd hf ?_))
 dsimp only
 rw[byScan_of (knd:=strKind prog w) rfl hb MR]
 simp only[↓reduceIte]
 unfold setAddByScan
 refine aaa (aaa (ac3 (aaa (wpAny_setScan_of GJ ho hd hf MR ?_))))
 cases hr:List.findIdx? (λe=>(strKind prog w).is k e.2) es.toList with
 |some j=>
  obtain⟨hj,VP,_⟩:=List.findIdx?_eq_some_iff_getElem.mp hr
  have hm:k∈ss:=p.mem_iff.mp ((gm G4).mpr ⟨_,abl hj,VP⟩)
  have q:=h false s.heap (Heap.SameBut.refl a s.heap)
  rw[if_pos hm]at q
  exact aaf (aaf (q ⟨o,es,ep,t,ks,ho,hex,hd,MR,G4,p,hb,hf,FD,B8⟩))
 |none=>
  have hm:k∉ss:=λhk=>by
   obtain⟨e,he,q⟩:=(gm (P:=prog) (w:=w) G4).mp (p.mem_iff.mpr hk)
   have:=List.findIdx?_eq_none_iff.mp hr e he
   rw[q]at this;cases this
  rw[if_neg hm]at h
  dsimp only
  have a1:=layNew_perm t es ((strKind prog w).hash k) (.str k tk)
  have a2:=layNew_fits t es ((strKind prog w).hash k) (.str k tk)
  have a3:=sh t es ((strKind prog w).hash k) (.str k tk)
  generalize layNew t es ((strKind prog w).hash k) (.str k tk)=L at a1 a2 a3 ⊢
  obtain⟨Fk,t1,wd,gave⟩:=L
  dsimp only at a1 a2 a3 ⊢
  rw[ae6]at a1
  have Pd:ElemsOf (strKind prog w) Fk.toList:=(MR.push GJ rfl).perm a1
  obtain⟨k1,Uh,p1⟩:=cY (ks:=ks++[k]) (a1.map (·.2)) (by
   rw[aaZ]
   have:∀{vs:List Value} {ks:List Str},ack vs ks->ack (vs++[acn k tk]) (ks++[k]):=λ{vs ks} z=>by
    induction z with
    |nil=>exact .cons _ _ .nil
    |cons s t r ih=>exact .cons s t ih
   exact this G4)
  have p2:k1.Perm (ss++[k]):=p1.trans (p.append_right [k])
  have z1:Fk.size=ss.length+1:=by rw[<- aaz,a1.length_eq,aau,aaz,hlen];rfl
  have b1:Fk.size<scanBound:=by rw[z1];exact JK
  have gw:∀(b:Bool) {s₁:Shared} {Q':Unit->Shared->Prop},Q' () s₁->wpAny (model prog w) A (match b with|true=>rule "set.scan.the-table-gave-way" |false=>pure ()) Q' E s₁ :=
   λb _ _ z=>by cases b<;>first|exact aaf z|exact ac3 z
  have tail:∀t2:adQ,t2.fits Fk.size=true->t2.led=t.led->t2.plain=false->wpAny (model prog w) A (do
    storeSet a Fk t2
    if (!wd && t2.tooFull)=true then do
      (match (aei t2 Fk (acs Fk.size)).2.2 with|true=>rule "set.scan.the-table-gave-way" |false=>pure ())
      storeSet a (aei t2 Fk (acs Fk.size)).1 (aei t2 Fk (acs Fk.size)).2.1
      pure (some true)
     else pure (some true)) (λr s'=>∃h',r=some true/\s'={s with heap:=h'}/\aci a s.heap h'/\Cg prog w h' a (ss++[k])) E s:=by
   intro t2 f2 l2 q2
   refine aaa (wpAny_storeSet_of ho hd ?_ (aeS b1))
   obtain⟨Ka,Wm⟩:=Cg.stored (prog:=prog) (w:=w) ho hex hd Pd Uh p2 b1 f2 (λe=>l2.trans (FD e)) (λ_=>q2)
   have TF:=aa1 s.heap a (Obj.putSet Fk t2)
   split
   .have c1:=relayAll_perm t2 Fk (acs Fk.size)
    have c2:=relayAll_fits t2 Fk (acs Fk.size)
    have c3:=oQ t2 Fk (acs Fk.size)
    have c4:=my t2 Fk (acs Fk.size) q2
    generalize aei t2 Fk (acs Fk.size)=Rl at c1 c2 c3 c4 ⊢
    obtain⟨UB,t3,g2⟩:=Rl
    dsimp only at c1 c2 c3 c4 ⊢
    obtain⟨k2,V3,p3⟩:=cY (c1.map (·.2)) Uh
    have z2:UB.size=Fk.size:=by rw[<- aaz,c1.length_eq,aaz]
    have b2:UB.size<scanBound:=by rw[z2];exact b1
    refine aaa (gw _ ?_)
    refine aaa (wpAny_storeSet_of Ka rfl ?_ (aeS b2))
    obtain⟨_,QE⟩:=Cg.stored (prog:=prog) (w:=w) Ka hex rfl (Pd.perm c1) V3 (p3.trans p2) b2 c2 (λe=>c3.trans (l2.trans (FD e))) (λ_=>c4)
    exact aaf ⟨_,rfl,rfl,TF.trans (aa1 _ a _),QE⟩
   .exact aaf ⟨_,rfl,rfl,TF,Wm⟩
  have done:∀r s',(∃h',r=some true/\s'={s with heap:=h'}/\aci a s.heap h'/\Cg prog w h' a (ss++[k]))->wpAny (model prog w) A (match r with|some added=>pure added|none=>setAddHashedIn a (.str k tk) ((strKind prog w).hash k) 99999) Q E s':=by
   rintro _ _ ⟨h',rfl,rfl,sb,x⟩
   exact aaf (h true h' sb x)
  refine aaa (gw _ ?_)
  split
  .refine aaa ?_
   rw[hashByValue_scannable 8 (x:=.str k tk) rfl]
   refine aaf ?_
   exact aaT (tail _ (SetTable.fits_plain_off a2) a3 rfl) done λ_ _ e=>e
  .rename_i hp
   refine aaa (aaf ?_)
   simp only[↓reduceIte]
   exact aaT (tail _ a2 a3 (by simpa using hp)) done λ_ _ e=>e
def Ft(ss:List Str):List Str:=ss.foldl (λacc k=>if k∈acc then acc else acc++[k]) []
theorem ip(ss:List Str)(k:Str):Ft (ss++[k])=if k∈Ft ss then Ft ss else Ft ss++[k]:=by unfold Ft;rw[List.foldl_append];rfl
variable{j:Nat}
theorem wB(hj:j<ss.length):Ft (ss.take (j+1))=if ss[j]∈Ft (ss.take j)then Ft (ss.take j)else Ft (ss.take j)++[ss[j]]:=by
 rw[abY,aab hj,Option.toList_some,ip]
variable{α:Type}
theorem me{p:List α->Prop}(h0:p [])(h1:∀xs k,p xs->p (xs++[k]))(l:List α):p l:=by
 rw[<- List.reverse_reverse l]
 induction l.reverse with
 |nil=>exact h0
 |cons a r ih=>rw[List.reverse_cons];exact h1 _ _ ih
theorem yn(x:Str)(ss:List Str):x∈Ft ss↔x∈ss:=by
 induction ss using me with
 |h0=>rfl
 |h1 xs k ih=>
  rw[ip]
  split
  .rename_i h
   rw[acy,adt,<- ih]
   exact⟨.inl,λq=>q.elim id λe=>e ▸ h⟩
  .rw[acy,acy,ih]
theorem uH(ss:List Str):(Ft ss).Nodup:=by
 induction ss using me with
 |h0=>exact .nil
 |h1 xs k ih=>
  rw[ip]
  split
  .exact ih
  .rename_i h
   rw[abJ]
   exact⟨ih,List.nodup_cons.mpr ⟨aaS,.nil⟩,λa ha b hb e=>h (by rw[<- List.mem_singleton.mp hb,<- e];exact ha)⟩
theorem rj(ss:List Str):(Ft ss).length<=ss.length:=by
 induction ss using me with
 |h0=>exact aal _
 |h1 xs k ih=>
  rw[ip,aau]
  split
  .exact aa3 ih (adV ..)
  .rw[aau];exact Nat.add_le_add_right ih _
variable{d:Addr}{fp:List Addr}
theorem sR{R:Result->Shared->Prop}{I:Addr}{wr:List Addr}{G:Array GenState->Array GenState->Prop}{P:Nat->Value->Prop}{St:Nat->Shared->Prop}(hb:ss.length+1<scanBound)
  (W:WalksS prog w A.in1 I fp wr G ss.length P St) (hd:d∉fp) (hP:∀i v (hi:i<ss.length),P i v->∃t,v=.str ss[i] t) :
  ∀(m j:Nat) (z:Shared),ss.length - j=m->j<=ss.length->St j z->Cg prog w z.heap d (Ft (ss.take j)) ->
   (∀z',Moved (d::wr) G z z'->Cg prog w z'.heap d (Ft (ss.take ss.length))->R (.ok (.ret .none)) z') ->
   ad6 (model prog w) A (.builtin "set.update.loop" ⟨[.ref d,.ref I],[]⟩) R z:=by
 have dw:d∉wr:=λh=>hd (W.sub _ h)
 have inc:∀b∈wr,b∈d::wr:=λb hb=>aar _ hb
 intro m
 induction m with
 |zero=>
  intro j z hm hj st hs hR
  obtain rfl:j=ss.length:=by omega
  refine acU F.entry_set_update_loop ?_
  rw[acJ adT _]
  show wpAny _ A.in1 (pyNext (.ref I) >>= _) _ _ z
  exact aaa (W.done z _ _ st λz' mv=>aaf (hR z' (mv.mono inc) (hs.keep λo g=>mv.heap d _ dw g)))
 |succ m ih=>
  intro j z hm hj st hs hR
  have hl:j<ss.length:=by omega
  refine acU F.entry_set_update_loop ?_
  rw[acJ adT _]
  show wpAny _ A.in1 (pyNext (.ref I) >>= _) _ _ z
  refine aaa (W.item j z _ _ hl st λv z' hv EW mv=>?_)
  obtain⟨t,rfl⟩:=hP j v hl hv
  show wpAny _ A.in1 (ad5 [acn ss[j] t] (setAdd d (.str ss[j] t)) >>= _) _ _ z'
  refine aaa (aa9 ?_)
  unfold setAdd
  refine aa9 (aaa ((strKind prog w).pyHash (k:=ss[j]) (aeh _ _ _ _) ?_))
  have lz:(Ft (ss.take j)).length+1<scanBound:=by
   have q1:=rj (ss.take j)
   have q2:(ss.take j).length<=ss.length:=by rw[aa8];omega
   omega
  refine Ta (s:={z' with toks:=z'.toks+1}) (show Cg prog w z'.heap d _ from hs.keep λo g=>mv.heap d _ dw g) lz λb h' sb IX=>?_
  rw[<- wB hl]at IX
  refine aaf ⟨adN adT _,ih (j+1) _ (by omega) hl (W.frame _ z' _ _ EW (aca _) λb hb o e=>?_) IX λUW Vn VI=>?_⟩
  .rw[sb.2 b λq:b=d=>hd (q ▸ hb)];exact e
  .refine hR UW (Moved.trans W.gtrans ((mv.mono inc).then_heap (aca _) λb o hb e=>?_) Vn) VI
   rw[sb.2 b λq:b=d=>hb (q ▸ aat)];exact e
theorem qf(a:Value){Q:Value->Shared->Prop}(h:Q (.ref s.heap.objs.size) {s with heap:=s.heap.push {cls:=.type "set",dict:=none,data:=.set #[] 0 (.fresh 0 0 (!w.params.followText "set-order"))}}):
  ad6 (model prog w) A (.call (.builtin "set.__new__") ⟨[.type "set",a],[]⟩) (wants Q E) s:=by
 refine codeAny_of_tree (?_:wpAny _ A.in1 (checkBuiltinCall "set.__new__" ⟨[.type "set",a],[]⟩ >>= λ_=>again (.builtin "set.__new__" ⟨[.type "set",a],[]⟩)) _ _ s)
 refine aaa (wpAny_of_eq (F.newCall_set_1 a) (aaf ⟨adN F.plain_set_new _,acU F.entry_set_new ?_⟩))
 rw[acJ F.plain_set_new _]
 unfold acI.«set.__new__» Builtin.Frozenset.newClass
 have q0:=sub_set_self
 obtain⟨h0,g0,d0,t0,o0⟩:=s
 dsimp only at h⊢
 wp_walk
 refine acM (aaf ?_)
 simp only[newObj]
 exact aaa (wpAny_alloc (aaf (aaf h)))
variable{l:Addr}
theorem m3{items:Array Value}{Q:Value->Shared->Prop}(hh:A.handled=none)(hl:s.heap.IsList l items)(hi:ack items.toList ss)(hb:ss.length+1<scanBound)
  (h:∀(h':Heap) (tk:Nat),Cg prog w h' s.heap.objs.size (Ft ss)->(∀b o,b<s.heap.objs.size->s.heap.get? b=some o->h'.get? b=some o)->s.heap.objs.size<h'.objs.size->Q (.ref s.heap.objs.size) {s with heap:=h',toks:=tk}) :
  wpAny (model prog w) A (call (.type "set") [.ref l]) Q E s:=by
 obtain⟨c,tl,VW⟩:=F.called_set.mro
 have Ub:=F.called_set.made
 have KD:=F.called_set.sub
 have hsz:items.size=ss.length:=by rw[<- aaz];exact hi.length
 refine wpAny_call (codeAny_of_tree (?_:wpAny _ _ (callAny (.type "set") _) _ _ _))
 refine aaf ⟨Code.quiet_builtin _ (by decide +kernel),acU F.entry_type_call ?_⟩
 rw[Around.under_plain (weight_type_call_type "set" [.ref l] []) rfl]
 have h1:=F.called_set.notType
 have h2:=F.called_set.canCreate
 have XC:=F.typeCall_set_1 (.ref l)
 repeat (any_goals (first|assumption|wp_step))
 generalize FD:(!w.params.followText "set-order")=led
 refine adr (qf (.ref l) (E:=E) (Q:=λobj z=>obj=.ref s.heap.objs.size/\z={s with heap:=s.heap.push {cls:=.type "set",dict:=none,data:=.set #[] 0 (.fresh 0 0 led)}}) (by rw[FD];exact⟨rfl,rfl⟩)) λr z hr=>?_
 cases r with
 |error e=>exact hr
 |ok fl=>
 cases fl with
 |ret obj=>
  obtain⟨rfl,rfl⟩:=hr
  have g0:(s.heap.push {cls:=.type "set",dict:=none,data:=.set #[] 0 (.fresh 0 0 led)}).get? s.heap.objs.size=some {cls:=.type "set",dict:=none,data:=.set #[] 0 (.fresh 0 0 led)}:=aai _ rfl
  have hT:Shared.TypeIs {s with heap:=s.heap.push {cls:=.type "set",dict:=none,data:=.set #[] 0 (.fresh 0 0 led)}} (.ref s.heap.objs.size) "set" := ⟨_,g0,rfl⟩
  have Xx:=F.called_set.init.lookup
  have XE:=F.called_set.init.bind (.ref s.heap.objs.size)
  repeat (any_goals (first|assumption|wp_step))
  refine adr (codeAny_call_builtin (R:=wants (λr z=>r=.none/\∃h' tk,z={s with heap:=h',toks:=tk}/\Cg prog w h' s.heap.objs.size (Ft ss)/\(∀b o,b<s.heap.objs.size->s.heap.get? b=some o->h'.get? b=some o)/\s.heap.objs.size<h'.objs.size) E)
   F.called_set.init.plain F.entry_set_init (check_set_init_1 hT ?_)) λr z hr=>?_
  .have tt:(s.heap.push {cls:=.type "set",dict:=none,data:=.set #[] 0 (.fresh 0 0 led)}).IsList l items:=by
    obtain⟨o,e,r⟩:=hl
    exact⟨o,aad _ e,r⟩
   obtain⟨⟨Vl,TU,TV,RC⟩,ho,hc,n0,hd⟩:=id tt
   simp only at hc hd
   subst hc hd
   have a1:=F.sub_list_set
   have a2:=F.sub_list_frozenset
   have a3:(acE "list" == acE "dict")=false:=by decide
   unfold acI.«set.__init__» noKeywords Builtin.Frozenset.updateFrom
   generalize Wn:pyIter=PI
   wp_walk
   subst Wn
   refine ac4 (s:={s with heap:=s.heap.push {cls:=.type "set",dict:=none,data:=.set #[] 0 (.fresh 0 0 led)}}) tt ?_
   refine aaa (wpAny_runValue ?_)
   have BW:l<s.heap.objs.size:=by obtain⟨o,e,_⟩:=hl;exact aak e
   have Qz:l≠(s.heap.push {cls:=.type "set",dict:=none,data:=.set #[] 0 (.fresh 0 0 led)}).objs.size:=by rw[aa4];exact aas (abr BW)
   have Si:s.heap.objs.size∉[(s.heap.push {cls:=.type "set",dict:=none,data:=.set #[] 0 (.fresh 0 0 led)}).objs.size,l]:=by
    rw[aa4]
    intro q
    rcases List.mem_cons.mp q with e|q
    .exact absurd e (aas (abx _))
    .exact absurd (List.mem_singleton.mp q) (ab8 BW)
   have W:=(Walks.list (prog:=prog) (w:=w) (A:=A.in1.in1.in1) (by simp[hh]) (s.heap.push {cls:=.type "set",dict:=none,data:=.set #[] 0 (.fresh 0 0 led)}).objs.size l Qz items).toS
   rw[hsz]at W
   refine sR hb W Si (λi v FF hv=>?_) (ss.length - 0) 0 _ (by omega) (abv _) ⟨⟨_,aai _ rfl,rfl,rfl⟩,⟨_,aad _ ho,rfl,n0,rfl⟩⟩ ?_ ?_
   .obtain⟨t,e⟩:=hi.get i _ (aab FF)
    rw[abn]at e
    exact⟨t,aap (hv.symm.trans e)⟩
   .exact⟨_,#[],0,_,[],aad _ g0,⟨rfl,rfl,rfl⟩,rfl,λe he=>by simp at he,.nil,.nil,by decide,rfl,λe=>by rw[<- FD,e];rfl,λe=>(e rfl).elim⟩
   .intro z mv q
    rw[abF]at q
    obtain⟨h',g',d',NY,EO⟩:=z
    obtain rfl:g'=s.gens:=mv.gens
    obtain rfl:d'=s.drawn:=mv.drawn
    obtain rfl:EO=s.os:=mv.os
    refine aaf (aaf ⟨rfl,h',NY,rfl,q,λb o hb e=>?_,?_⟩)
    .refine mv.heap b o ?_ (aad _ (aad _ e))
     rw[aa4]
     intro q
     rcases List.mem_cons.mp q with e|q
     .exact absurd e (aas hb)
     .exact absurd (List.mem_singleton.mp q) (aas (abr hb))
    .obtain⟨o,_,_,_,_,e,_⟩:=q;exact aak e
  .cases r with
   |error e=>exact hr
   |ok fl=>
   cases fl with
   |ret r=>
    obtain⟨rfl,h',tk,rfl,q1,q2,q3⟩:=hr
    repeat (any_goals (first|assumption|wp_step))
    exact h _ _ q1 q2 q3
   |_=>exact hr.elim
 |_=>exact hr.elim
theorem BP:Slot "set_iterator" "__next__" "set_iterator.__next__" :=
 .of (owner := "set_iterator") (n := "__next__") (by rw[typeLookup_type,builtinLookup_eq_fast];kernel_rfl) (by decide +kernel) (by decide +kernel) (by decide +kernel)
  (by first|exact .inl (by decide +kernel)|exact .inr (by decide +kernel)) (by rw[afJ];kernel_rfl)
theorem mU:entryFor table "set_iterator.__next__" = some acI.«set_iterator.__next__»:=entryFor_of_tree (by kernel_rfl)
theorem nu:Manifest.owners.lookup (String.ofList ("set_iterator".toList.reverse).reverse)=some Manifest.sig_set_iterator:=by kernel_rfl
theorem oh(a:Value):argsOk "set_iterator.__next__" ⟨[a],[]⟩:=by
 unfold argsOk;rw[signature?_of (id := "set_iterator.__next__") (n := "__next__".toList.reverse) (o := "set_iterator".toList.reverse) (by kernel_rfl) nu];kernel_rfl
theorem mW:entryFor table "set.__iter__" = some acI.«frozenset.__iter__»:=entryFor_alias (id' := "frozenset.__iter__") (by kernel_rfl) rfl (by decide +kernel) (by kernel_rfl)
theorem nV{src:Source}{Q:Nat->Shared->Prop}(hn:n≠0)(h:∀i,i<n->∀d,Q i {s with drawn:=d}):wpAny (model prog w) A (choose src n) Q E s :=
 λΓ p hΓ=>⟨hn,h _ (Nat.mod_lt _ (Nat.pos_of_ne_zero hn)) _⟩
theorem kU:∀(l:List α) (i:Nat) (h:i<l.length),(l[i]::l.eraseIdx i).Perm l
 |x::r,0,_=>.refl _
 |x::r,i+1,h=>(List.Perm.swap ..).trans ((kU r i (Nat.lt_of_succ_lt_succ h)).cons x)
theorem fU:∀(n:Nat) (xs:List α) (s:Shared) (Q:List α->Shared->Prop),xs.length=n->(∀ys d,ys.Perm xs->Q ys {s with drawn:=d})->wpAny (model prog w) A (drawOrder n xs) Q E s
 |0,xs,s,Q,hn,h=>by
  have:xs=[]:=List.length_eq_zero_iff.mp hn
  subst this
  exact aaf (h [] s.drawn .nil)
 |n+1,[],s,Q,hn,h=>by cases hn
 |n+1,x::r,s,Q,hn,h=>by
  unfold drawOrder
  have BV:(x::r).length≠0:=by simp
  refine aaa (nV BV λi hi d=>?_)
  rw[aab hi]
  have hl:((x::r).eraseIdx i).length=n:=by rw[afE hi,hn];rfl
  refine aaa (fU n _ _ _ hl λys d' p=>aaf (h _ d' ?_))
  exact(p.cons _).trans (kU _ _ hi)
theorem nq(f:Nat->Nat):∀(n k:Nat) (l:List α) (out:Array α),l.length=n->(pickOrder.go f n k l out).toList.Perm (out.toList++l)
 |0,k,l,out,hn=>by
  have:l=[]:=List.length_eq_zero_iff.mp hn
  subst this
  unfold pickOrder.go
  rw[abE]
 |n+1,k,l,out,hn=>by
  unfold pickOrder.go
  have hi:f k % l.length<l.length:=Nat.mod_lt _ (by omega)
  rw[aab hi]
  dsimp only
  refine(nq f n (k+1) _ _ (by rw[afE hi,hn];rfl)).trans ?_
  rw[ae6,adH]
  exact(kU _ _ hi).append_left _
theorem mC(f:Nat->Nat)(xs:Array α):(ad3 f xs).toList.Perm xs.toList:=by
 have:=nq f xs.size 0 xs.toList #[] (aaz ..)
 simpa[ad3]using this
def Ce(h:Heap)(it:Addr)(f:Value)(i:Nat)(a:Addr)(n ep:Nat):Prop :=
 ∃o,h.get? it=some o/\o.cls=.type "set_iterator" /\ o.data=.fields #[f,.int i 0,.ref a,.int n 0,.int ep 0]
variable{it:Addr}{f:Value}{i:Nat}
theorem Ce.typeIs(x:Ce s.heap it f i a n ep):s.TypeIs (.ref it) "set_iterator" := let ⟨o,ho,hc,_⟩:=x;⟨o,ho,hc⟩
def CJ(h:Heap)(a:Addr)(es:Array (Int×Value))(ep:Nat)(t:adQ):Prop:=∃o,h.get? a=some o/\o.data=.set es ep t/\t.fits es.size=true
theorem ia{Q:Option Value->Shared->Prop}(x:Ce s.heap it f i a n ep)
  (h:wpAny (model prog w) A.in1 (acI.«set_iterator.__next__» ⟨[.ref it],[]⟩) (λfin s'=>∃v,fin=.done (.ret v)/\Q (some v) s') (λe s'=>s'.TypeIs e "StopIteration" /\ Q none s') s) :
  wpAny (model prog w) A (pyNext (.ref it)) Q E s:=by
 unfold pyNext
 refine aaa (aeC (abz (name:=aaP "__next__") x.typeIs BP (aa7 BP x.typeIs mU (aaT h ?_ ?_) (oh _))))
 .rintro fin s' ⟨v,rfl,q⟩
  exact⟨v,rfl,aaf q⟩
 .rintro e s' ⟨hT,q⟩
  exact aaa (afd (T := "StopIteration") (b:=true) hT isSubtype_stop (aaf q))
variable{slot:Nat}{v:Value}
theorem np{nx:Nat}{Q:Option Value->Shared->Prop}(x:Ce s.heap it (.int slot 0) i a n ep)(hS:CJ s.heap a es ep t)(hn:es.size=n)
  (hx:∀(Q:Option (Value×Nat)->Shared->Prop) (E:Value->Shared->Prop),Q (some (v,nx)) s->wpAny (model prog w) A.in1 (setNext a slot i ep) Q E s)
  (k:∀h',Ce h' it (.int nx 0) (i+1) a n ep->aci it s.heap h'->Q (some v) {s with heap:=h'}):wpAny (model prog w) A (pyNext (.ref it)) Q E s:=by
 refine ia x ?_
 obtain⟨o,ho,hc,hd⟩:=x
 obtain⟨os,HV,IB,hf⟩:=hS
 unfold acI.«set_iterator.__next__»
 refine aaa (m:=slotArgs "__next__" 0 _) (aaf ?_)
 refine aaa (aen ho hd ?_)
 dsimp only
 refine aaa (acO HV IB hf ?_)
 rw[if_neg (by rw[hn];simp)]
 simp only[ab0]
 refine aaa (hx _ _ ?_)
 dsimp only
 refine aaa (aco ho hd (by simp) ?_)
 have h1:=abw (Obj.mapFields (·.setIfInBounds 0 (rawInt nx))) ho (acx (abm hd _))
 refine aaa (aco h1 (abm hd _) (by simp) (aaf ⟨v,rfl,k _ ?_ ?_⟩))
 .refine⟨_,abw _ h1 (acx (abm (abm hd _) _)),(adD ..).trans ((adD ..).trans hc),?_⟩
  rw[abm (abm hd _)];simp[rawInt]
 .exact(aa1 ..).trans (aa1 ..)
theorem ll{h₁:Heap}{R:PySem.Fin->Shared->Prop}{Q:Option Value->Shared->Prop}(hh:A.handled=none)(k:∀h',(∀b o,h₁.get? b=some o->h'.get? b=some o)->Q none {s with heap:=h'}):
  wpAny (model prog w) A.in1 (newExc (.type "StopIteration") [] >>= λe=>raiseNew e) R (λe s'=>s'.TypeIs e "StopIteration" /\ Q none s') {s with heap:=h₁}:=by
 refine aaa ?_
 simp only[newExc,newTuple]
 refine aaa (aba ?_ (by size_fits))
 refine aaa (m:=aeo _ _) (wpAny_of_eq (a:=abd) (by first|rfl|(simp only[aeo];rfl)) ?_)
 refine aba ?_ (by size_fits)
 simp only[raiseNew]
 refine aaa (wpAny_handled ?_)
 rw[show A.in1.handled=none from hh]
 exact aaa (aaf (wpAny_throw ⟨⟨_,aai _ rfl,rfl⟩,k _ λb o e=>aad _ (aad _ e)⟩))
theorem kj{Q:Option Value->Shared->Prop}(hh:A.handled=none)(x:Ce s.heap it (.int slot 0) i a n ep)(hS:CJ s.heap a es ep t)(hn:es.size=n)
  (hx:∀(Q:Option (Value×Nat)->Shared->Prop) (E:Value->Shared->Prop),Q none s->wpAny (model prog w) A.in1 (setNext a slot i ep) Q E s)
  (k:∀h',Heap.ExtBut it s.heap h'->Q none {s with heap:=h'}):wpAny (model prog w) A (pyNext (.ref it)) Q E s:=by
 refine ia x ?_
 obtain⟨o,ho,hc,hd⟩:=x
 obtain⟨os,HV,IB,hf⟩:=hS
 unfold acI.«set_iterator.__next__»
 refine aaa (m:=slotArgs "__next__" 0 _) (aaf ?_)
 refine aaa (aen ho hd ?_)
 dsimp only
 refine aaa (acO HV IB hf ?_)
 rw[if_neg (by rw[hn];simp)]
 simp only[ab0]
 refine aaa (hx _ _ ?_)
 dsimp only
 refine aaa (aco ho hd (by simp) ?_)
 exact ll hh λh' e=>k h' λb o hb g=>e b o ((aa1 ..).extBut b o hb g)
def IM(h:Heap)(T:Addr)(pl:List Nat):Prop:=∃o m,h.get? T=some o/\o.data=.seq (pl.map λ(i:Nat)=>rawInt i).toArray m
variable{T:Addr}{pl:List Nat}
theorem sQ{p:Nat}{hv:Int}{Q:Option Value->Shared->Prop}(x:Ce s.heap it (.ref T) i a n ep)(hS:CJ s.heap a es ep t)(hn:es.size=n)(hT:IM s.heap T pl)
  (hp:pl[i]?=some p) (he:es[p]?=some (hv,v))
  (k:∀h',Ce h' it (.ref T) (i+1) a n ep->aci it s.heap h'->Q (some v) {s with heap:=h'}):wpAny (model prog w) A (pyNext (.ref it)) Q E s:=by
 refine ia x ?_
 obtain⟨o,ho,hc,hd⟩:=x
 obtain⟨os,HV,IB,hf⟩:=hS
 obtain⟨oT,m,Sd,Sz⟩:=hT
 unfold acI.«set_iterator.__next__»
 refine aaa (m:=slotArgs "__next__" 0 _) (aaf ?_)
 refine aaa (aen ho hd ?_)
 dsimp only
 refine aaa (acO HV IB hf ?_)
 rw[if_neg (by rw[hn];simp)]
 refine aaa (abX Sd Sz ?_)
 have e1:((pl.map λ(i:Nat)=>rawInt i).toArray)[(i:Int).toNat]?=some (.int p 0):=by
  rw[ab0,List.getElem?_toArray,aaj,hp];rfl
 dsimp only
 rw[e1]
 dsimp only
 unfold setNextDrawn
 refine aaa (aaa (acC HV IB hf ?_))
 dsimp only
 simp only[ab0,bne_self_eq_false,aaR,↓reduceIte,he]
 refine aaf ?_
 refine aaa (aco ho hd (by simp) (aaf ⟨v,rfl,k _ ⟨_,abw _ ho (acx (abm hd _)),(adD ..).trans hc,?_⟩ (aa1 ..)⟩))
 rw[abm hd];simp[rawInt]
theorem vc{Q:Option Value->Shared->Prop}(hh:A.handled=none)(x:Ce s.heap it (.ref T) i a n ep)(hS:CJ s.heap a es ep t)(hn:es.size=n)(hT:IM s.heap T pl)
  (hp:pl[i]?=none)
  (k:∀h',Heap.ExtBut it s.heap h'->Q none {s with heap:=h'}):wpAny (model prog w) A (pyNext (.ref it)) Q E s:=by
 refine ia x ?_
 obtain⟨o,ho,hc,hd⟩:=x
 obtain⟨os,HV,IB,hf⟩:=hS
 obtain⟨oT,m,Sd,Sz⟩:=hT
 unfold acI.«set_iterator.__next__»
 refine aaa (m:=slotArgs "__next__" 0 _) (aaf ?_)
 refine aaa (aen ho hd ?_)
 dsimp only
 refine aaa (acO HV IB hf ?_)
 rw[if_neg (by rw[hn];simp)]
 refine aaa (abX Sd Sz ?_)
 have e1:((pl.map λ(i:Nat)=>rawInt i).toArray)[(i:Int).toNat]?=none:=by
  rw[ab0,List.getElem?_toArray,aaj,hp];rfl
 dsimp only
 rw[e1]
 dsimp only
 refine aaa (aco ho hd (by simp) ?_)
 have h1:=abw (Obj.mapFields (·.setIfInBounds 0 (rawInt 0))) ho (acx (abm hd _))
 refine aaa (aco h1 (abm hd _) (by simp) ?_)
 exact ll hh λh' e=>k h' λb o hb g=>e b o (((aa1 ..).trans (aa1 ..)).extBut b o hb g)
theorem nv{Q:Option (Value×Nat)->Shared->Prop}(ht:w.params.followText "set-order" = true)(hS:CJ s.heap a es ep t)
  (h:Q (((ad3 (w.params.setOrder a ep) es)[i]?).map λe=>(e.2,slot)) s):wpAny (model prog w) A (setNext a slot i ep) Q E s:=by
 obtain⟨o,ho,hd,hf⟩:=hS
 unfold setNext
 refine aaa (acC ho hd hf ?_)
 dsimp only
 unfold setsByText
 refine aaa (aaa (acM (aaf ?_)))
 rw[if_pos (show (model prog w).w.params.followText "set-order" = true from ht),if_neg (by simp)]
 unfold setWalk
 refine aaa (aaa (acC ho hd hf ?_))
 dsimp only
 unfold setsByText
 refine aaa (aaa (acM (aaf ?_)))
 rw[if_pos (show (model prog w).w.params.followText "set-order" = true from ht)]
 exact aaa (acM (aaf (aaf h)))
theorem kL{Q:Option (Value×Nat)->Shared->Prop}(ht:w.params.followText "set-order" = false)(hS:CJ s.heap a es ep t)(hl:t.led=true)(hz:es.size<=1)
  (h:Q (match es[ac6 t.place slot]?,t.place[ac6 t.place slot]? with|some (_,x),some j=>some (x,j+1)|_,_=>none) s):wpAny (model prog w) A (setNext a slot i ep) Q E s:=by
 obtain⟨o,ho,hd,hf⟩:=hS
 unfold setNext
 refine aaa (acC ho hd hf ?_)
 dsimp only
 unfold setsByText
 refine aaa (aaa (acM (aaf ?_)))
 rw[if_neg (show ¬ ((model prog w).w.params.followText "set-order" = true)from by show ¬ (w.params.followText "set-order" = true);rw[ht];exact aax)]
 refine ad1 (λ(Uo:(!t.plain && decide (es.size > 1))=true)=>absurd Uo (by rw[decide_eq_false (by omega),aev];exact aax)) (λ_=>?_)
 refine aaa (?_:wpAny _ _ (if (!t.led && !es.isEmpty)=true then unsupported _ else pure ()) _ _ _)
 rw[if_neg (by rw[hl];simp)]
 refine aaf (aaf ?_)
 exact h
theorem iy:Slot "set_iterator" "__iter__" "set_iterator.__iter__" :=
 .of (owner := "set_iterator") (n := "__iter__") (by rw[typeLookup_type,builtinLookup_eq_fast];kernel_rfl) (by decide +kernel) (by decide +kernel) (by decide +kernel)
  (by first|exact .inl (by decide +kernel)|exact .inr (by decide +kernel)) (by rw[afJ];kernel_rfl)
theorem mV:entryFor table "set_iterator.__iter__" = some acI.«dict_keyiterator.__iter__»:=entryFor_alias (id' := "dict_keyiterator.__iter__") (by kernel_rfl) rfl (by decide +kernel) (by kernel_rfl)
theorem oi(a:Value):argsOk "set_iterator.__iter__" ⟨[a],[]⟩:=by
 unfold argsOk;rw[signature?_of (id := "set_iterator.__iter__") (n := "__iter__".toList.reverse) (o := "set_iterator".toList.reverse) (by kernel_rfl) nu];kernel_rfl
theorem ki{Q:Value->Shared->Prop}(x:Ce s.heap it f i a n ep)(h:Q (.ref it) s):wpAny (model prog w) A (pyIter (.ref it)) Q E s:=by
 refine adA x.typeIs iy (aa7 iy x.typeIs mV (?_:wpAny _ _ (ret (.ref it)) _ _ s) (oi _))
 exact aaf ⟨_,rfl, "set_iterator",_,x.typeIs,BP.lookup,h⟩
theorem Ce.keep(x:Ce h it f i a n ep)(k:∀o,h.get? it=some o->h'.get? it=some o):Ce h' it f i a n ep:=let ⟨o,e,r⟩:=x;⟨o,k o e,r⟩
theorem CJ.keep(x:CJ h a es ep t)(k:∀o,h.get? a=some o->h'.get? a=some o):CJ h' a es ep t:=let ⟨o,e,r⟩:=x;⟨o,k o e,r⟩
theorem IM.keep(x:IM h T pl)(k:∀o,h.get? T=some o->h'.get? T=some o):IM h' T pl:=let ⟨o,m,e,r⟩:=x;⟨o,m,k o e,r⟩
theorem NV(hh:A.handled=none)(ht:w.params.followText "set-order" = true)(BV:a≠it):
  Walks prog w A it [it,a,it] [it] ((ad3 (w.params.setOrder a ep) es).toList.map (·.2)).length (λi v=>((ad3 (w.params.setOrder a ep) es).toList.map (·.2))[i]?=some v)
   (λi h=>Ce h it (.int ((0:Nat):Int) 0) i a es.size ep/\CJ h a es ep t) where
 sub:=λb hb=>by simp at hb;simp[hb]
 frame:=λ_ _ _ st k=>⟨st.1.keep λo e=>k it (by simp) o e,st.2.keep λo e=>k a (by simp) o e⟩
 item:=λi s Q E hi st k=>by
  have FF:i<(ad3 (w.params.setOrder a ep) es).toList.length:=by rw[aac]at hi;exact hi
  refine np (nx:=0) (v:=((ad3 (w.params.setOrder a ep) es).toList[i]).2) st.1 st.2 rfl (λQ E q=>nv ht st.2 ?_) λh' x sb=>k _ h' s.toks ?_ ⟨x,st.2.keep λo e=>sb.extBut a o BV e⟩ λb o hb e=>sb.extBut b o (λz=>hb (by simp[z])) e
  .rw[<- abn,aab FF];exact q
  .rw[aaj,aab FF];rfl
 done:=λs Q E st k=>by
  refine kj hh st.1 st.2 rfl (λQ E q=>nv ht st.2 ?_) λh' x=>k h' s.toks λb o hb e=>x b o (λz=>hb (by simp[z])) e
  rw[aac,<- abn,aao (aal _)]
  exact q
 self:=λi s Q E st h=>ki st.1 h
theorem rF(xs:Array Nat)(hz:xs.size<=1):ac6 xs 0=0:=by
 unfold ac6
 rcases aaU xs.size 1 with h|h
 .have:xs.size=0:=by omega
  rw[this];rfl
 .have:xs.size=1:=by omega
  rw[this]
  unfold adB
  simp only[adi,↓reduceIte,Nat.not_lt_zero]
  unfold adB
  rfl
theorem yA(xs:Array Nat)(p:Nat)(hz:xs.size=1)(hp:xs[0]?=some p):ac6 xs (p+1)=1:=by
 unfold ac6
 rw[hz]
 unfold adB
 have e:xs.getD 0 (p+1)=p:=by rw[ado,hp];rfl
 simp only[adi,↓reduceIte]
 rw[show (0+1) / 2=0 from rfl,e,if_pos (abx p)]
 unfold adB
 rfl
theorem walk1(hh:A.handled=none)(ht:w.params.followText "set-order" = false)(BV:a≠it)(hl:t.led=true)(hz:es.size<=1)(hf:t.fits es.size=true):
  Walks prog w A it [it,a,it] [it] (es.toList.map (·.2)).length (λi v=>(es.toList.map (·.2))[i]?=some v)
   (λi h=>Ce h it (.int ((if i=0 then 0 else t.place.getD 0 0+1:Nat):Int) 0) i a es.size ep/\CJ h a es ep t):=by
 have O5:t.place.size=es.size:=by
  unfold SetTable.fits at hf
  rw[aaE]at hf
  exact eq_of_beq hf.1
 refine⟨λb hb=>by simp at hb;simp[hb],λ_ _ _ st k=>⟨st.1.keep λo e=>k it (by simp) o e,st.2.keep λo e=>k a (by simp) o e⟩,λi s Q E hi st k=>?_,λs Q E st k=>?_,λi s Q E st h=>ki st.1 h⟩
 .have h1:es.toList.length=1:=by rw[aac]at hi;rw[aaz]at hi ⊢;omega
  have KG:es.size=1:=by rw[<- aaz];exact h1
  have V7:i=0:=by rw[aac,h1]at hi;omega
  subst V7
  have BW:0<es.toList.length:=by rw[h1];exact adi
  obtain⟨p,hp⟩:∃p,t.place[0]?=some p:=⟨_,abR (by rw[O5,KG];exact adi)⟩
  have hg:t.place.getD 0 0=p:=by rw[ado,hp];rfl
  rw[if_pos rfl]at st
  refine np (nx:=p+1) (v:=(es.toList[0]).2) st.1 st.2 rfl (λQ E q=>kL ht st.2 hl hz ?_) λh' x sb=>k _ h' s.toks ?_ ⟨?_,st.2.keep λo e=>sb.extBut a o BV e⟩ λb o hb e=>sb.extBut b o (λz=>hb (by simp[z])) e
  .rw[rF _ (by rw[O5];exact hz),hp,<- abn,aab BW];exact q
  .rw[aaj,aab BW];rfl
  .rw[if_neg (by omega),hg];exact x
 .rcases aaU es.size 1 with h|h
  .have h0:es.size=0:=by omega
   rw[aac,aaz,h0,if_pos rfl]at st
   refine kj hh st.1 st.2 h0 (λQ E q=>kL ht st.2 hl hz ?_) λh' x=>k h' s.toks λb o hb e=>x b o (λz=>hb (by simp[z])) e
   rw[rF _ (by rw[O5];exact hz),Array.getElem?_eq_none (by omega)];exact q
  .have KG:es.size=1:=by omega
   rw[aac,aaz,KG,if_neg (by decide)]at st
   obtain⟨p,hp⟩:∃p,t.place[0]?=some p:=⟨_,abR (by rw[O5,KG];exact adi)⟩
   have hg:t.place.getD 0 0=p:=by rw[ado,hp];rfl
   rw[hg]at st
   refine kj hh st.1 st.2 KG (λQ E q=>kL ht st.2 hl hz ?_) λh' x=>k h' s.toks λb o hb e=>x b o (λz=>hb (by simp[z])) e
   rw[yA _ p (by rw[O5];exact KG) hp,Array.getElem?_eq_none (by omega)];exact q
theorem NW(hh:A.handled=none)(BV:a≠it)(hT:T≠it)(hv:vs.length=pl.length)(hp:∀i p:Nat,pl[i]?=some p->∃h v,es[p]?=some (h,v)/\vs[i]?=some v):
  Walks prog w A it [it,a,T] [it] vs.length (λi v=>vs[i]?=some v) (λi h=>Ce h it (.ref T) i a es.size ep/\CJ h a es ep t/\IM h T pl) where
 sub:=λb hb=>by simp at hb;simp[hb]
 frame:=λ_ _ _ st k=>⟨st.1.keep λo e=>k it (by simp) o e,st.2.1.keep λo e=>k a (by simp) o e,st.2.2.keep λo e=>k T (by simp) o e⟩
 item:=λi s Q E hi st k=>by
  obtain⟨h,v,e1,e2⟩:=hp i _ (aab (by rw[<- hv];exact hi))
  exact sQ st.1 st.2.1 rfl st.2.2 (aab (by rw[<- hv];exact hi)) e1 λh' x sb=>k _ h' s.toks e2 ⟨x,st.2.1.keep λo e=>sb.extBut a o BV e,st.2.2.keep λo e=>sb.extBut T o hT e⟩ λb o hb e=>sb.extBut b o (λz=>hb (by simp[z])) e
 done:=λs Q E st k=>vc hh st.1 st.2.1 rfl st.2.2 (aao (by omega)) λh' x=>k h' s.toks λb o hb e=>x b o (λz=>hb (by simp[z])) e
 self:=λi s Q E st h=>ki st.1 h
theorem sY(d:α):∀l:List α,(aa6 l.length).map (λp=>l.getD p d)=l:=λl=>by
 refine acg λi=>?_
 rw[aaj]
 rcases aaU i l.length with h|h
 .rw[ab2 h,aab h,ad7,aag,aab h];rfl
 .rw[aao (by rw[acf];exact h),aao h];rfl
theorem Cg.typeIs(x:Cg prog w s.heap a ss):s.TypeIs (.ref a) "set" := let ⟨o,_,_,_,_,ho,hc,_⟩:=x;⟨o,ho,hc.1⟩
theorem OQ{Q:Value->Shared->Prop}(hh:A.handled=none)(hS:Cg prog w s.heap a ss)
  (h:∀(h':Heap) (d:Drawn) (it T:Addr) (vs:List Value) (ks:List Str) (St:Nat->Heap->Prop),s.heap.objs.size<=it->s.heap.objs.size<=T->ack vs ks->ks.Perm ss->(∀b o,s.heap.get? b=some o->h'.get? b=some o) ->
   Walks prog w A it [it,a,T] [it] vs.length (λi v=>vs[i]?=some v) St->St 0 h'->Q (.ref it) {s with heap:=h',drawn:=d}):wpAny (model prog w) A (pyIter (.ref a)) Q E s:=by
 have hT:=hS.typeIs
 obtain⟨o,es,ep,t,ks,ho,hex,hd,MR,G4,p,hb,hf,FD,B8⟩:=hS
 have BW:=aak ho
 refine adA hT PySem.F.slot_set_iter (aa7 PySem.F.slot_set_iter hT mW ?_ (PySem.F.args_set_iter_1 _))
 unfold acI.«frozenset.__iter__» Builtin.Frozenset.slot0 slotArgs
 simp only[List.isEmpty_nil,abK,aaR,↓reduceIte,bind_assoc,acz,bne_self_eq_false]
 unfold Builtin.Frozenset.addrOf Builtin.Frozenset.sizeOf
 refine aaa (aaf ?_)
 try dsimp only
 refine aaa (aaf ?_)
 refine aaa (aaa (acO ho hd hf (aaf ?_)))
 have hS:CJ s.heap a es ep t:=⟨o,ho,hd,hf⟩
 have Wg:∀(Q:Bool->Shared->Prop) (E:Value->Shared->Prop),Q (!w.params.followText "set-order" && (!t.plain && decide (es.size > 1))) s->wpAny (model prog w) A.in1 (setDrawn a) Q E s:=λQ E q=>by
  unfold setDrawn
  refine aaa (acC ho hd hf ?_)
  dsimp only
  unfold setsByText
  exact aaa (aaa (acM (aaf (aaf q))))
 refine aaa (Wg _ _ ?_)
 have plain:∀(vs:List Value) (ks:List Str) (St:Nat->Heap->Prop),ack vs ks->ks.Perm ss->Walks prog w A s.heap.objs.size [s.heap.objs.size,a,s.heap.objs.size] [s.heap.objs.size] vs.length (λi v=>vs[i]?=some v) St ->
   (∀h':Heap,Ce h' s.heap.objs.size (.int ((0:Nat):Int) 0) 0 a es.size ep->CJ h' a es ep t->St 0 h')->wpAny (model prog w) A.in1 (do
     let first <- pure (rawInt 0)
     let e <- setEpoch a
     let it <- newFields "set_iterator" [first,rawInt 0,aaL a,rawInt es.size,rawInt e]
     ret it) (λfin s'=>∃v,fin=.done (.ret v)/\∃T' r,s'.TypeIs v T'/\typeLookup (.type T') (aaP "__next__")=pure (some r)/\Q v s') E s:=by
  intro vs ks St h1 h2 W FP
  refine aaa (aaf ?_)
  refine aaa (wpAny_setEpoch_of ho hd hf ?_)
  refine aaa (aba (aaf ⟨_,rfl, "set_iterator",_,⟨_,aai _ rfl,rfl⟩,BP.lookup,?_⟩))
  exact h _ s.drawn _ _ vs ks St (aal _) (aal _) h1 h2 (λb o e=>aad _ e) W (FP _ ⟨_,aai _ rfl,rfl,rfl⟩ (hS.keep λo e=>aad _ e))
 cases ht:w.params.followText "set-order" with
 |true=>
  rw[abK,aeu,if_neg aax]
  obtain⟨k1,a1,a2⟩:=cY ((mC (w.params.setOrder a ep) es).map (·.2)) G4
  exact plain _ k1 _ a1 (a2.trans p) (NV hh ht (aas BW)) λh' x y=>⟨x,y⟩
 |false=>
  rcases aaU 1 es.size with hz|hz
  .rw[B8 (by omega),decide_eq_true hz]
   refine(?_:wpAny _ _ (if true=true then _ else _) _ _ _)
   rw[if_pos rfl]
   refine aaa (fU _ _ _ _ acf λpl d pp=>?_)
   refine aaa ?_
   unfold newTuple
   have hlen:pl.length=es.size:=by rw[pp.length_eq,acf]
   refine aba ?_ (by
    show ((pl.map λ(i:Nat)=>rawInt i).toArray).size<=sizeLine
    rw[aae,aac,hlen];exact aeS hb)
   refine aaa (wpAny_setEpoch_of (aad _ ho) hd hf ?_)
   refine aaa (aba (aaf ⟨_,rfl, "set_iterator",_,⟨_,aai _ rfl,rfl⟩,BP.lookup,?_⟩))
   have e0:(pl.map (λp=>(es.toList.getD p (0,.none)).2)).Perm (es.toList.map (·.2)):=by
    have q:=pp.map (λp=>(es.toList.getD p (0,.none)).2)
    rw[<- aaz]at q
    have e:=congrArg (List.map (·.2)) (sY ((0:Int),abd) es.toList)
    rw[aaw]at e
    exact q.trans (by rw[<- e];exact .refl _)
   obtain⟨k1,a1,a2⟩:=cY e0 G4
   refine h _ d _ s.heap.objs.size _ k1 _ ?_ (aal _) a1 (a2.trans p) (λb o e=>aad _ (aad _ e))
    (NW (t:=t) (ep:=ep) (es:=es) (pl:=pl) hh ?_ ?_ (aac ..) λi q hq=>?_) ⟨⟨_,aai _ rfl,rfl,rfl⟩,hS.keep λo e=>aad _ (aad _ e),⟨_,_,aad _ (aai _ rfl),rfl⟩⟩
   .rw[aa4];exact aca _
   .rw[aa4];exact aas (abr BW)
   .rw[aa4];exact aas (abx _)
   .have hm:q∈aa6 es.size:=pp.mem_iff.mp (abk hq)
    have T6:q<es.toList.length:=by rw[aaz];exact List.mem_range.mp hm
    refine⟨_,_,(by rw[<- abn];exact aab T6),?_⟩
    rw[aaj,hq,ad7,aag,aab T6];rfl
  .rw[decide_eq_false (by omega),aev,aev,if_neg aax]
   exact plain _ ks _ G4 p (walk1 hh ht (aas BW) (FD ht) hz hf) λh' x y=>⟨x,y⟩
end L2
namespace L2
open PySem PySem.Spec PyProof.Rows PySem.Calls PyProof.V
variable{prog:aaJ}{w:World}{A:Around}{E:Value->Shared->Prop}{s:Shared}
variable{r:Addr}{Q:Bool->Shared->Prop}
theorem vY(hT:s.TypeIs (.ref r) "set")(h:Q false s):wpAny (model prog w) A (afD (.ref r)) Q E s:=by
 unfold afD
 refine aaa (wpAny_specialOf hT PySem.F.slot_set_len.lookup ?_)
 generalize hn:("set.__len__" : String)=nm
 wp_delta
 rw[show splitId nm=some ("set", "__len__")from by subst hn;decide +kernel]
 subst hn
 refine aaa (afd (T := "set") (b:=true) hT (by rw[afJ];kernel_rfl) ?_)
 refine ad1 (λq=>absurd q (by decide)) λ_=>ad1 (λ_=>?_) λq=>absurd (by decide +kernel) q
 exact aaa (ad0 hT (aaf h))
variable{ss:List Str}
theorem yh{R:Result->Shared->Prop}{S:Addr}(hh:A.handled=none)(hX:Cg prog w s.heap r ss)(Ur:S≠r)(res:Value)(c₀:Nat)(hS:s.heap.get? S=some {cls:=.type "list",data:=.seq #[] c₀})(hn:ss.length<=sizeLine)
  (hR:∀h' tk d acc c' ks,(∀b o,b≠S->s.heap.get? b=some o->h'.get? b=some o)->h'.get? S=some {cls:=.type "list",dict:=none,data:=.seq acc c',slots:=#[]}->ack acc.toList ks->ks.Perm ss->R (.ok (.ret res)) {s with heap:=h',toks:=tk,drawn:=d}) :
  wpAny (model prog w) A.in1 (adn (.ref S) (.ref r) res)
   (λfin s'=>match fin with|.done f=>R (.ok f) s'|.again c'=>c'.quiet=true/\ad6 (model prog w) A c' R s') (λe s'=>R (.error e) s') s:=by
 have Ud:=aak hS
 unfold adn
 refine aaa (ad0 (T := "set") hX.typeIs ?_)
 have h1:Builtin.List.listSameRef (.ref S) (.ref r)=false:=by simp[Builtin.List.listSameRef,Ur]
 have h2:(acE "set" == acE "list")=false:=by decide
 have h3:(acE "set" == acE "tuple")=false:=by decide
 simp only[h1,h2,h3,Bool.or_false,aaR,if_false]
 refine aaa (OQ hh hX λhp d it T vs ks St l1 l2 a1 a2 kp W st=>?_)
 have hz:vs.length<=sizeLine:=by rw[a1.length,a2.length_eq];exact hn
 have Us:S∉[it,r,T]:=by
  simp only[aa2,aaS,or_false,not_or]
  exact⟨aas (aaG Ud l1),Ur,aas (aaG Ud l2)⟩
 have key:∀(h:Heap) (c₁ tk:Nat),St 0 h->(∀b o,b≠S->s.heap.get? b=some o->h.get? b=some o)->h.get? S=some {cls:=.type "list",data:=.seq #[] c₁} ->
   ad6 (model prog w) A (.builtin "list.extend.loop" ⟨[.ref S,.ref it,res],[]⟩) R {s with heap:=h,toks:=tk,drawn:=d}:=by
  intro h c₁ tk FP hk hS₁
  refine codeAny_extend_loopS W.toS hz S Us res vs.length 0 _ #[] c₁ rfl (abv _) FP hS₁ (ItemsOf.nil _) λs' acc c' hm KQ MV=>?_
  rw[Moved.eq_with hm]
  have Wf:acc.toList=vs:=by
   refine acg λi=>?_
   rcases aaU i vs.length with q|q
   .have hi:i<acc.size:=by rw[MV.1];exact q
    rw[abn,abR hi]
    exact(MV.2 i _ (abR hi)).symm
   .rw[aao q,aao (by rw[aaz,MV.1];exact q)]
  refine hR s'.heap s'.toks d acc c' ks (λb o hb e=>hm.heap b o (λq=>?_) (hk b o hb e)) KQ (by rw[Wf];exact a1) a2
  rcases List.mem_cons.mp q with z|q
  .exact hb z
  .exact absurd (aak e) (by rw[List.mem_singleton.mp q];exact Nat.not_lt.mpr l1)
 have hS₁:=kp _ _ hS
 have Wk:Cg prog w hp r ss:=hX.keep λo e=>kp _ _ e
 refine aaa (aa9 (vY Wk.typeIs ?_))
 refine ad1 (λ_=>?_) (λ_=>aaf ⟨adN afL _,key _ c₀ _ st (λb o _ e=>kp _ _ e) hS₁⟩)
 refine aaa (ac3 (aaa ?_))
 refine(?_:wpAny _ _ (updateSeq S (·.push .none) >>= λ_=>updateSeq S (·.pop)) _ _ _)
 refine aaa (wpAny_updateSeq hS₁ rfl ?_)
 have hS₂:=abw (abA (·.push abd)) hS₁ rfl
 refine wpAny_updateSeq (hz:=by seq_fits) hS₂ rfl ?_
 have hS₃:=abw (abA (·.pop)) hS₂ rfl
 have A3:∀b,b≠S->∀o,hp.get? b=some o->((hp.update S (abA (·.push abd))).update S (abA (·.pop))).get? b=some o:=λb hb o e=>
  (ac1 _ _ (abO hb)).trans ((ac1 _ _ (abO hb)).trans e)
 exact aaf ⟨adN afL _,key _ _ _ (W.frame 0 _ _ st λb hb o e=>A3 b (λz=>Us (z ▸ hb)) o e) (λb o hb e=>A3 b hb o (kp _ _ e)) hS₃⟩
theorem wD{R:List Value->Shared->Prop}(hh:A.handled=none)(hX:Cg prog w s.heap r ss)(hn:ss.length<=sizeLine)
  (h:∀(h':Heap) (tk:Nat) (d:Drawn) (vs:List Value) (ks:List Str),(∀b o,s.heap.get? b=some o->h'.get? b=some o)->ack vs ks->ks.Perm ss->R vs {s with heap:=h',toks:=tk,drawn:=d}) :
  wpAny (model prog w) A (collect (.ref r)) R E s:=by
 have BW:r<s.heap.objs.size:=by obtain⟨o,_,_,_,_,e,_⟩:=hX;exact aak e
 unfold collect
 refine aaa (wpAny_runValue (acU entry_proto_collect' ?_))
 rw[acJ PySem.F.plain_proto_collect _]
 refine(?_:wpAny _ A.in1 (newList [] >>= λl=>again (.builtin "list.__iadd__" ⟨[l,.ref r],[]⟩)) _ _ s)
 refine aaa (aba (aaf ⟨adN PySem.F.plain_list_iadd _,acU entry_list_iadd' ?_⟩))
 rw[acJ PySem.F.plain_list_iadd _]
 have e1:(s.heap.push {cls:=.type "list",data:=.seq ([]:List Value).toArray}).get? s.heap.objs.size=some {cls:=.type "list",data:=.seq #[]}:=aai _ rfl
 refine(?_:wpAny _ A.in1 (adn (.ref s.heap.objs.size) (.ref r) (.ref s.heap.objs.size)) _ _ _)
 have key:=yh (A:=A) (s:={s with heap:=s.heap.push {cls:=.type "list",data:=.seq ([]:List Value).toArray}})
  (R:=λq s'=>∃h' tk d acc c' ks,q=.ok (.ret (.ref s.heap.objs.size))/\s'={s with heap:=h',toks:=tk,drawn:=d}/\(∀b o,s.heap.get? b=some o->h'.get? b=some o) /\
   h'.get? s.heap.objs.size=some {cls:=.type "list",dict:=none,data:=.seq acc c',slots:=#[]}/\ack acc.toList ks/\ks.Perm ss)
  hh (hX.keep λo e=>aad _ e) (ab8 BW) (.ref s.heap.objs.size) 0 e1 hn
  λh' tk d acc c' ks k1 k2 k3 k4=>⟨h',tk,d,acc,c',ks,rfl,rfl,λb o e=>k1 b o (aas (aak e)) (aad _ e),k2,k3,k4⟩
 refine aaT key (λfin s' x=>?_) λe s' x=>?_
 .cases fin with
  |done f=>
   obtain⟨h',tk,d,acc,c',ks,e,rfl,k1,k2,k3,k4⟩:=x
   cases e
   exact aaa (wpAny_load k2 (aaf (h h' tk d _ ks k1 k3 k4)))
  |again c₁=>
   refine⟨x.1,adr x.2 λq s₂ y=>?_⟩
   obtain⟨h',tk,d,acc,c',ks,rfl,rfl,k1,k2,k3,k4⟩:=y
   exact aaa (wpAny_load k2 (aaf (h h' tk d _ ks k1 k3 k4)))
 .obtain⟨_,_,_,_,_,_,e',_⟩:=x
  cases e'
end L2
namespace L2
open PySem PySem.Spec PyProof.Rows
variable{prog:aaJ}{w:World}{A:Around}{E:Value->Shared->Prop}{s:Shared}
variable{x:Value}{Q:Value->Shared->Prop}
theorem rQ(hc:wpAny (model prog w) A.in1 (collect x) (λvs s1=>∃ss:List Str,ack vs ss/\vs.length<64 /\
   (∀(h2:Heap) (out:List Value) (Dn:List Str) (n:Nat),(∀b o,s1.heap.get? b=some o->h2.get? b=some o)->h2.get? s1.heap.objs.size=some (seqObj "list" out.toArray n)->ack out Dn->Dn.Perm ss->sortedS Dn=true->Q (.ref s1.heap.objs.size) {s1 with heap:=h2})) E s) :
  wpAny (model prog w) A (call (.builtin "sorted") [x]) Q E s:=by
 refine ady afs ae7 ae8 (args_sorted1 _) ?_
 unfold acI.«sorted»
 refine aaa (m:=checkCount "sorted" 1 1 _) (aaf (aaa (aaT hc (λvs s1 hv=>?_) λ_ _ e=>e)))
 obtain⟨ss,hS,D0,k⟩:=hv
 refine aaa (acT ?_ (by rw[aaC];omega))
 have Ng:(s1.heap.push (seqObj "list" vs.toArray 0)).get? s1.heap.objs.size=some (seqObj "list" vs.toArray 0):=aai _ rfl
 refine aaa (aa9 (aa7 adu ⟨_,Ng,rfl⟩ adg (list_sort_treeK strKind_oneLt Ng hS.keysOf (λv₁ v₂ rest e=>keyKind_strs (by rw[<- e];exact hS)) D0 λst p q=>⟨_,rfl,?_⟩) (aep _)))
 obtain⟨Dn,b1,b2,b3⟩:=sorted_out_str hS p q
 obtain⟨n,at2⟩:=sortedHeap_at (out:=(arrOf st).map (·.2)) Ng
 refine aaf ⟨_,rfl,k _ ((arrOf st).map (·.2)).toList Dn n (λb o e=>?_) (by rw[aem];exact at2) b1 b2 b3⟩
 have lt:=aak e
 rw[sortedHeap_old (aas lt) (by rw[size_push'];exact abr lt)]
 exact aad _ e
variable{X:Cx}{pins:List (Addr×Obj)}{H:Hp}
theorem Inv.WJ{σ:List (Option V)}(I:Inv X pins σ H s)(d:Drawn):Inv X pins σ H {s with drawn:=d} :=
 ⟨I.ok,I.os,I.bare,I.base,I.loc,I.cell,I.free,I.C1,I.pin,I.AU,I.len⟩
def Gz(P:aaJ)(w:World)(a:Addr)(ss:List Str):HO:=.ext λh=>Cg P w h a ss
variable{P:aaJ}{h:Heap}{a:Addr}{ss:List Str}
theorem Mj(x:Cg P w h a ss):A7 P w H h a (Gz P w a ss) :=
 ⟨x,(by obtain⟨o,_,_,_,_,e,_⟩:=x;exact⟨o,e⟩),λh1 h2 y k=>Cg.keep y k⟩
def Mx(P:aaJ)(w:World):List V->Hp->VK->Prop:=λxs H Q=>∃(p:Addr) (ss:List Str),xs=[.ref p]/\H p=some (.lst (ss.map V.str))/\ss.length<=1000/\∀l,H l=none->Q (.ref l) (upd H l (Gz P w l (Ft ss)))
theorem sy(hc:X.calm=true):AR X (.type "set") (Mx X.prog X.w):=by
 intro pins s σ H xs us Q I r h
 obtain⟨p,ss,rfl,hq,hl,k⟩:=h
 obtain⟨u,rfl,ru⟩:=r.one
 cases ru
 obtain⟨_,iN,n,rv,g⟩:=I.AU p _ hq
 refine m3 (I.ok.hd hc) ⟨_,g,rfl,n,rfl⟩ (by simpa using hJ rv) (by unfold scanBound;omega) λh' tk q1 q2 q3=>?_
 exact⟨.ref s.heap.objs.size,_,I.laid (t':=tk) (o:=Gz X.prog X.w s.heap.objs.size (Ft ss)) (λb o e=>q2 b o (aak e) e) (aal _) (Mj q1),rfl,k _ (I.AU.fresh (aal _))⟩
def Ms(P:aaJ)(w:World):List V->Hp->VK->Prop:=λxs H Q=>∃(a:Addr) (ss:List Str),xs=[.ref a]/\H a=some (Gz P w a ss)/\ss.length<64 /\
 ∀(l:Addr) (ts:List Str),H l=none->ts.Perm ss->ts.Pairwise (λa b=>¬ AZ b a)->Q (.ref l) (upd H l (.lst (ts.map V.str)))
theorem sr(hc:X.calm=true):AR X (.builtin "sorted") (Ms X.prog X.w):=by
 intro pins s σ H xs us Q I r h
 obtain⟨a,ss,rfl,ha,D0,k⟩:=h
 obtain⟨u,rfl,ru⟩:=r.one
 cases ru
 obtain⟨x,_,_⟩:=I.AU a _ ha
 refine rQ (wD (A:=X.A.in1) (I.ok.hd hc) x (by rw[aaC];omega) λh1 tk d vs ks kk a1 a2=>?_)
 refine⟨ks,a1,by rw[a1.length,a2.length_eq];exact D0,λh2 out Dn n k2 e2 o1 o2 o3=>?_⟩
 have I1:Inv X pins σ H {s with heap:=h1,toks:=tk}:=I.kept kk
 have I2:=I1.laid (t':=tk) (a:=h1.objs.size) (o:=.lst (Dn.map V.str)) (λb o q=>k2 b o q) (aal _) ⟨by rw[aac,o2.length_eq,a2.length_eq,aaC];omega,out,n,dP o1,e2⟩
 exact⟨.ref h1.objs.size,_,I2.WJ d,rfl,k _ Dn (I1.AU.fresh (aal _)) (o2.trans a2) (dI o3)⟩
end L2
namespace Q
open PySem L2 PyProof.Rows
def kZ(fa:WA):WE:=λenv P=>fa env λxs e=>match xs with
 |[.lst ys]=>∃ss,ys.mapM CC=some ss/\ss.length<=1000/\(Ft ss).length<64/\∀ts,Er (Ft ss) ts->P (.lst (ts.map .str)) e
 |_=>False
variable{ob:Cy}{X:Cx}{a b c e:Expr}{es:List Expr}{f g h:WE}{fa:WA}{pos GB p p1 p2:Pos}{x:Str}
theorem sn(hc:X.calm=true)(hg:Gl X "sorted")(hm:X.mg "sorted" = none)(Wa:Gl X "set")(VY:X.mg "set" = none)(ha:FL ob X [e] fa)(Sy:aam [e] X.env=(false,eval e X.env)::aam [] X.env:=by rfl)
  (he:aam [.Call (.Name "set" p2) [e] [] GB] X.env=(false,eval (.Call (.Name "set" p2) [e] [] GB) X.env)::aam [] X.env:=by rfl) (R9:(backTo GB (aam [] X.env)).any (·.1)=false:=by rfl) (B8:(backTo pos (aam [] X.env)).any (·.1)=false:=by rfl) :
  IQ ob X (.Call (.Name "sorted" p) [.Call (.Name "set" p2) [e] [] GB] [] pos) (kZ fa):=by
 obtain⟨t,ht,k⟩:=ha.ex
 refine⟨_,bN (sr hc) hg hm adP (bh (i7 (sy hc) Wa VY PyProof.Rows.boot_set ht (by decide) (by decide) Sy R9) bv he) (by decide) (by decide) he B8,λZ F σ H env P Q K hf kk=>k Z F σ H env _ _ K hf λxs e1 vs F1 H1 p s1 K1 r1=>?_⟩
 split at p
 .obtain⟨ss,hs,hl,D0,p⟩:=p
  obtain⟨v,rfl,r⟩:=r1.one
  obtain⟨q,vs,rfl,h1,h2⟩:=r.lst K1.sF
  have:=cR jt hs h2
  subst this
  refine⟨q,ss,rfl,h1,hl,λl hn=>⟨l,_,rfl,am,D0,λm ts hm hp hw=>?_⟩⟩
  have sH:eQ H1 (upd H1 l (Gz X.prog X.w l (Ft ss))):=az hn
  have K2:=K1.move ao (ak K1.sF sH) sH λ_ h=>.inl h
  exact kk _ e1 _ F1 _ (p ts ⟨hp,hw⟩) s1 (λ_=>by simp) (K2.own hm ⟨_,am,dR ts⟩)
 .exact p.elim
end Q
namespace L2
open PySem PySem.Spec PyProof.Rows PyProof.Rows.KTD
def FU(h:Heap)(a:Addr)(D:List (Str×Addr)):Prop:=TabOf (λ(f:Addr) v=>v=aaL f) h a D
variable{prog:aaJ}{w:World}{A:Around}{E:Value->Shared->Prop}{s:Shared}
variable{a:Addr}{D:List (Str×Addr)}
theorem FU.typeIs(T:FU s.heap a D):s.TypeIs (.ref a) "dict" := let ⟨_,o,_,_,ho,hc,_⟩:=T;⟨o,ho,hc.1⟩
variable{f:Addr}{k:Str}{Q:Value->Shared->Prop}
theorem yg{tk:Tok}(T:FU s.heap a D)(hf:datumAt k D=some f)(h:Q (.ref f) {s with toks:=s.toks+1}):
  wpAny (model prog w) A (adv (.ref a) (.str k tk)) Q E s:=by
 have hT:=T.typeIs
 obtain⟨_,o,es,ep,ho,hc,hd,hr⟩:=T
 unfold adv
 try with_reducible refine aa9 ?_
 refine aaa (aeN hT (by decide) (aaa (abz (name:=aaP "__getitem__") hT slot_dict_getitem (aa7 slot_dict_getitem hT entry_dict_getitem (?_:wpAny _ _ (dictGet a (.str k tk) >>= _) _ _ s) (args_dict_getitem _ _)))))
 unfold dictGet
 refine aaa (aa9 (aaa (wpAny_pyHash_str (aaa (kt_dictFind_strs (s:={s with toks:=s.toks+1}) ho hd (by obtain⟨l⟩:=es;simpa using hr.exact) ?_)))))
 obtain⟨v,hv,rfl⟩:=hr.find_some hf
 have hq:findBy (λk v=>v.isStr k) es k=some (.ref f):=by
  rw[<- hv]
  obtain⟨l⟩:=es
  simp[findBy]
 rw[findBy_of_findIdx?]at hq
 cases hi:es.findIdx? λe=>e.key.isStr k with
 |none=>rw[hi]at hq;cases hq
 |some i=>
  rw[hi]at hq
  have MK:(es[i]?).map (·.val)=some (.ref f):=hq
  refine aaa (wpAny_dictEntries (s:={s with toks:=s.toks+1}) ho hd (aaf ?_))
  rw[MK]
  exact aaf ⟨_,rfl,aaf h⟩
variable{X:Cx}
def Vb(D:List (Str×Addr))(tk:TE):TE:=λσ H Q=>tk σ H λy H1=>∃k f,y=.str k/\datumAt k D=some f/\Q (.ref f) H1
variable{pos:Pos}
theorem vD{tb:Str}{dd:Addr}{ke:Expr}{tk:TE}{p1:Pos}(hg:Gl X tb)(hm:X.mg tb=some (.ref dd))(hT:∀h,X.K.In h->FU h dd D)(hk:PE X ke tk)(hs:IP ke)(DP:(tb==("__debug__" : Str))=false:=by decide):
  PE X (.Subscript (.Name tb p1) ke pos) (Vb D tk):=by
 intro pins s σ H Q I h
 refine qE PySem.F.slot_dict_getitem.lookup hs (mN I hg hm (Bu (hk pins s σ H _ I h) λiv s2 ⟨y,H2,I2,ry,k,f,ey,hf,q⟩=>?_) DP)
 subst ey
 obtain⟨t,rfl⟩:=ry
 have T:=hT _ I2.FC
 exact⟨T.typeIs,yg T hf ⟨.ref f,H2,I2.tok _,rfl,q⟩⟩
structure Nm(P:aaJ)(w:World)(K:aah)(mg:Str->Option Value)(base:Heap)(k:Nat)(f:Addr)(sp:Sp):Prop where
 ex:∃fd ps,A8 P w K mg base Cz k f fd ps sp/\abQ K (.ref f)=true/\Binds K fd ps []
def Mb(i:Nat)(E:XK)(Qf:List (Addr×Sp))(t:TA):TE:=λσ H Q=>∃f sp,(f,sp)∈Qf/\σ[i]?=some (some (.ref f))/\t σ H λvs H1=>sp vs H1 Q E
variable{i:Nat}{x:Str}{e:Expr}{es:List Expr}{p:Pos}
theorem vF{E:XK}{k:Nat}{t:TA}{Qf:List (Addr×Sp)}(hS:∀q∈Qf,Nm X.prog X.w X.K X.mg X.base k q.1 q.2)(hr:Br k X.A)(hx:Gq Cz X E)(ho:PE X (.Name x p) (BF i))(ha:PA X (e::es) t)
  (he:aam (e::es) X.env=(false,eval e X.env)::aam es X.env:=by rfl) (B8:(backTo pos (aam es X.env)).any (·.1)=false:=by rfl):PE X (.Call (.Name x p) (e::es) [] pos) (Mb i E Qf t):=by
 intro pins s σ H Q I h
 obtain⟨f,sp,hm,hσ,q⟩:=h
 obtain⟨fd,ps,F,hk,hb⟩:=(hS _ hm).ex
 refine acv (Bu (ho pins s σ H (λv H1=>v=.ref f/\t σ H1 λvs H2=>sp vs H2 Q E) I ⟨.ref f,hσ,rfl,q⟩) λv s1 ⟨y,H1,I1,ry,ey,q1⟩=>?_)
 subst ey
 obtain rfl:v=aaL f:=ry
 refine PySem.W.callWith_K (h₀:=X.base) I1.ok.mod.kin hk (Bu (ha pos pins s1 σ H1 _ I1 q1) λus s2 ⟨vs,H2,I2,r,q2⟩=>⟨I2.FC,?_⟩) he B8
 exact sV F hr hb .nil hx I2 r (by rw[abE];exact q2)
end L2
namespace Q
open PySem L2 PyProof.Rows PyProof.Rows.KTD
variable{M:Md}{Z:Zn}{F H:Hp}{σ:L2.St}{env:En}{i:Nat}
theorem AI.Rn{v:Option V}(K:AI M Z F σ H env)(h:env[i]?=some none):AI M Z F (σ.set i v) H env:=by
 obtain⟨fp,L⟩:=K.sl
 have ne:∀j s,env[j]?=some (some s)->j≠i:=λj s e z=>by rw[z,h]at e;cases e
 refine⟨K.sF,K.sG,K.pr,K.gr,K.nw,by rw[aec];exact K.len,fp,λj s e=>?_,L.al,L.dj,λj a s e1 e2 e3=>?_⟩
 .obtain⟨v',h1,h2⟩:=L.at' j s e
  exact⟨v',by rw[aaF (abO (ne j s e))];exact h1,h2⟩
 .rw[aaF (abO (ne j s e2))];exact L.oa j a s e1 e2 e3
def Jt(i:Nat)(T:List (Str×Fd))(fk:WE)(fa:WA):WS:=λP env=>fk env λx e=>match x with
 |.str k=>∃D,datumAt k T=some D/\e[i]?=some none/\fa e λxs e2=>D xs λr=>P.rt r e2
 |_=>False
variable{α β:Type}
theorem jl(g:α->β)(k:Str):∀(T:List (Str×α)),datumAt k (T.map λq=>(q.1,g q.2))=(datumAt k T).map g
 |[]=>rfl
 |(x,d)::T=>by
  show (if decide (k=x)=true then some (g d)else datumAt k (T.map λq=>(q.1,g q.2)))=aeY g (if decide (k=x)=true then some d else datumAt k T)
  split
  .rfl
  .exact jl g k T
theorem nM{k:Str}{d:α}:∀{T:List (Str×α)},datumAt k T=some d->∃x,(x,d)∈T
 |(x,d')::T,h=>by
  have h':(if decide (k=x)=true then some d' else datumAt k T)=some d:=h
  split at h'
  .cases h';exact⟨x,aat⟩
  .obtain⟨y,hy⟩:=nM h';exact⟨y,aar _ hy⟩
variable{ob:Cy}{X:Cx}{e ke:Expr}{es:List Expr}{fk:WE}{fa:WA}{x y tb:Str}{p p1 p2 p3 py pos Oy GB Ox:Pos}
variable{k n:Nat}
theorem wj(i:Nat){dd:Addr}{T:List (Str×Addr×Fd)}(hN:X.N.Nodup)(hy:X.N[i]?=some y)(hl:Loc X.env.scope y)(hg:Gl X tb)(hm:X.mg tb=some (.ref dd))(hT:∀h,X.K.In h->FU h dd (T.map λq=>(q.1,q.2.1)))
  (hS:∀q∈T,Nm X.prog X.w X.K X.mg X.base k q.2.1 (Kp (md ob X) n q.2.2)) (hr:Br k X.A) (hk:Bk ob X ke fk) (IY:IP ke) (ho:PE X (.Name y p2) (BF i)) (ha:G0 ob X (e::es) fa) (hn:es.length+1=n:=by rfl)
  (he:aam (e::es) X.env=(false,eval e X.env)::aam es X.env:=by rfl) (B8:(backTo Ox (aam es X.env)).any (·.1)=false:=by rfl) (DP:(tb==("__debug__" : Str))=false:=by decide)
  (hs:abV (.Subscript (.Name tb p1) ke pos) (some (.Name y py)) Oy.line X.env=pure false:=by rfl) (hf:X.fn y=true\/X.env.scope.names.lookup y=some .local:=by first|exact .inl rfl|exact .inr rfl|assumption) :
  Et ob X [.Assign [.Name y py] (.Subscript (.Name tb p1) ke pos) Oy,.Return (some (.Call (.Name y p2) (e::es) [] Ox)) GB] (Jt i (T.map λq=>(q.1,q.2.2)) fk fa):=by
 obtain⟨t1,h1,k1⟩:=hk.ex
 obtain⟨t2,h2,k2⟩:=ha.ex
 have KQ:∀q∈T.map (λq=>(q.2.1,Kp (md ob X) n q.2.2)),Nm X.prog X.w X.K X.mg X.base k q.1 q.2:=λq hq=>by
  obtain⟨z,hz,rfl⟩:=List.mem_map.mp hq
  exact hS z hz
 refine⟨_,bT (dS hN hy hl (vD hg hm hT h1 IY DP) hs hf) (dA (gK (vF (E:=E0) KQ hr GC ho h2 he B8))),λZ F σ H env P D K hf L=>?_⟩
 refine k1 Z F σ H env _ _ K hf λv e1 u F1 H1 pv s1 K1 r1=>?_
 split at pv
 .rename_i kk
  obtain⟨Df,hd,hi,pv⟩:=pv
  rw[jl]at hd
  cases hz:datumAt kk T with
  |none=>rw[hz]at hd;cases hd
  |some z=>
   rw[hz]at hd
   have ez:z.2=Df:=aap hd
   subst ez
   cases r1
   obtain⟨x',RY⟩:=nM hz
   refine⟨kk,z.1,rfl,by rw[jl,hz];rfl,?_⟩
   have K2:AI (md ob X) Z F1 (σ.set i (some (.ref z.1))) H1 e1:=K1.Rn hi
   have BW:i<σ.length:=by
    have:=K1.len
    rcases aaU i e1.length with q|q
    .omega
    .rw[aao q]at hi;cases hi
   refine⟨z.1,_,List.mem_map.mpr ⟨(x',z),RY,rfl⟩,by rw[ab4 BW],k2 Z F1 _ H1 e1 _ _ K2 pv λxs e2 vs F2 H2 p2 IZ s2 K3 r2=>?_⟩
   refine⟨F2,xs,λr=>P.rt r e2,K3.sF,r2,by rw[IZ];exact hn,p2,λr v F' H' pr sH sF Ku nw rv=>?_⟩
   exact L.rt r e2 v _ F' H' pr (ak s1 (ak s2 sF)) (K3.move sF Ku sH nw) rv
 .exact pv.elim
end Q
namespace L2
open PySem PySem.Spec PyProof.Rows
variable{X:Cx}
def xn(K:aah):List V->Hp->VK->Prop:=λxs H Q=>∃p vs nm,xs=[.ref p]/\Cd K H p vs/\vs.length<64/\Rows K H vs nm /\
 ∀l (ix:List Nat),H l=none->ix.length=vs.length->ix.Nodup->(∀i∈ix,i<vs.length)->(ix.map λi=>nm.getD i ⟨#[]⟩).Pairwise AZ->Q (.ref l) (upd H l (.lst (ix.map λi=>vs.getD i .AF)))
theorem qB:AR X (.builtin "sorted") (xn X.K):=by
 intro pins s σ H xs us Q I r h
 obtain⟨p,vs,nm,rfl,hq,D0,R,k⟩:=h
 obtain⟨u,rfl,ru⟩:=r.one
 cases ru
 obtain⟨iN,rv,⟨o,g1,g2,n0,g3⟩,hz⟩:=I.tuple hq
 have hl:=rv.length
 exact nj (vs:=iN) (λR' g=>aeO p (.inr rfl) g1 g2 g3 (λh1 kk=>g h1 s.toks kk) (by rw[aae,aaC];omega)) λh1 tk kk=>oH (I.kept kk) rv (by rw[aaC];omega) D0 R k
end L2
namespace Q
open PySem L2 PyProof.Rows
def mY(fa:WA):WE:=λenv P=>fa env λxs e=>match xs with
 |[.tup ys]=>∃nm:List Str,ys.mapM IF=some nm/\nm.Nodup/\ys.length<64/\∀ix:List Nat,ix.length=ys.length->(∀i∈ix,i<ys.length)->(ix.map λi=>nm.getD i ⟨#[]⟩).Pairwise AZ->P (.lst (ix.map λi=>ys.getD i .AF)) e
 |_=>False
variable{ob:Cy}{X:Cx}{e ke:Expr}{es:List Expr}{fa:WA}{fk:WE}{x:Str}{pos p p1 apos Bg GB:Pos}
theorem uy(hg:Gl X "sorted")(hm:X.mg "sorted" = none)(ha:FL ob X (e::es) fa)
  (he:aam (e::es) X.env=(false,eval e X.env)::aam es X.env:=by rfl) (B8:(backTo pos (aam es X.env)).any (·.1)=false:=by rfl):IQ ob X (.Call (.Name "sorted" p) (e::es) [] pos) (mY fa):=by
 obtain⟨t,ht,k⟩:=ha.ex
 refine⟨_,bN qB hg hm adP ht (by decide) (by decide) he B8,λZ F σ H env P Q K hf kk=>k Z F σ H env _ _ K hf λxs e1 vs F1 H1 p s1 K1 r1=>?_⟩
 split at p
 .obtain⟨nm,hs,nd,hl,p⟩:=p
  obtain⟨v,rfl,r⟩:=r1.one
  obtain⟨q,vs,rfl,h1,h2⟩:=r.tup K1.sF
  have g1:=(bA hs).1
  have hlen:=h2.len
  refine⟨q,vs,nm,rfl,h1,by omega,⟨by omega,λi v x hv hx=>?_,nd⟩,λl ix hn i1 i2 i3 i4=>?_⟩
  .obtain⟨y,hy,ry⟩:=h2.IE hv
   obtain⟨y',e1,e2⟩:=kR hs i x hx
   rw[hy]at e1;cases e1
   exact re K1.sF ry e2
  .exact kk _ e1 _ F1 _ (p ix (by omega) (λi hi=>by have:=i3 i hi;omega) i4) s1 (λ_=>by simp) (K1.own hn ⟨_,am,iW h2 ix λi hi=>by have:=i3 i hi;omega⟩)
 .exact p.elim
variable{P:aaJ}{w:World}{K:aah}{mg:Str->Option Value}{base:Heap}
variable{k:Nat}{DG:Addr}{fd:abW}{ps:List Str}{DO:FdOT}
end Q
namespace L2
open PySem PySem.Spec PyProof.Rows
variable{X:Cx}{e st:Expr}{te U2:TE}{pos p2:Pos}
end L2
namespace Q
open PySem L2 PyProof.Rows
variable{ob:Cy}{X:Cx}{e:Expr}{f:WE}{pos:Pos}
end Q
namespace L2
open PySem PySem.Spec PyProof.Rows
variable{X:Cx}{o e:Expr}{to te:TE}{apos pos:Pos}
end L2
namespace Q
open PySem L2 PyProof.Rows
variable{ob:Cy}{X:Cx}{a b:Expr}{f g:WE}{apos pos:Pos}
end Q
namespace Pre
open PySem L2
def top(i:Nat):Stmt:=PySem.Challenge.pw_cheaptree_k36_whole_exchanges_are_small.main.body.getD i (.Pass ⟨0,0,0,0⟩)
abbrev mj:Stmt:=top 2
abbrev ky:Stmt:=top 3
abbrev iR:Stmt:=top 4
abbrev iV:Stmt:=top 5
abbrev ml:Stmt:=top 6
abbrev gp:Stmt:=top 7
abbrev iQ:Stmt:=top 8
abbrev Hi:Stmt:=top 9
abbrev eG:Stmt:=top 11
abbrev eF:Stmt:=top 12
abbrev iU:Stmt:=top 13
abbrev cZ:Stmt:=top 21
abbrev mo:Stmt:=top 22
abbrev gq:Stmt:=top 23
abbrev fx:Stmt:=top 24
abbrev iP:Stmt:=top 25
abbrev ku:Stmt:=top 26
abbrev iO:Stmt:=top 27
abbrev kA:Stmt:=top 29
abbrev kC:Stmt:=top 31
abbrev iT:Stmt:=top 32
abbrev dz:Stmt:=top 33
abbrev gu:Stmt:=top 35
abbrev mt:Stmt:=top 36
abbrev kw:Stmt:=top 37
abbrev mh:Stmt:=top 38
abbrev CM:Stmt:=top 40
abbrev HN:Stmt:=top 41
abbrev Hg:Stmt:=top 42
abbrev Jv:Stmt:=top 43
abbrev Js:Stmt:=top 44
abbrev Mn:Stmt:=top 45
abbrev Rq:Stmt:=top 46
abbrev Hj:Stmt:=top 47
abbrev mi:Stmt:=top 48
abbrev Ju:Stmt:=top 49
abbrev Rt:Stmt:=top 50
abbrev Mm:Stmt:=top 51
abbrev Hh:Stmt:=top 52
abbrev Mo:Stmt:=top 53
structure Named(K:aah)(mg:Str->Option Value)(x:Str)(f:Addr):Prop where
 mg:mg x=some (.ref f)
 kp:abQ K (.ref f)=true
structure Df(K:aah)(mg:Str->Option Value)(name:Str)(st:Stmt)(ps:List Str) where
 f:Addr
 fd:abW
 F:Ii K name name st f fd
 b:Binds K fd ps []
 n:Named K mg name f
structure TabAt(K:aah)(mg:Str->Option Value)(x:Str)(D:List (Str×Addr)) where
 a:Addr
 mg:mg x=some (.ref a)
 tab:∀h:Heap,K.In h->FU h a D
abbrev RN:Nat:=26
abbrev RO:Nat:=29
section
set_option genInjectivity false
set_option genSizeOf false
structure Ev(K:aah)(mg:Str->Option Value) where
 Gh:Df K mg "is_word" mj ["thing"]
 Fh:Df K mg "is_whole" ky ["thing"]
 Eg:Df K mg "is_rising" iR ["words"]
 Ej:Df K mg "are_words" iV ["thing"]
 Gi:Df K mg "is_open" ml ["net", "tie"]
 Dv:Df K mg "ties_by_name" gp ["net"]
 Ef:Df K mg "open_ties" iQ ["net"]
 Hy:Df K mg "ranks" Hi ["net"]
 Cb:Df K mg "cheaper_first" eG ["net", "names"]
 CN:Df K mg "without_round" eF ["net", "names"]
 Ei:Df K mg "cheapest" iU ["net"]
 Cf:Df K mg "are_ends_and_cost" cZ ["parts"]
 Gj:Df K mg "is_deed" mo ["thing"]
 BK:Df K mg "place_comes" gq ["net", "deed"]
 By:Df K mg "place_leaves" fx ["net", "deed"]
 Ca:Df K mg "tie_comes" iP ["net", "deed"]
 Ct:Df K mg "tie_goes" ku ["net", "deed"]
 B9:Df K mg "tie_costs" iO ["net", "deed"]
 Fi:Df K mg "changed" kA ["net", "deed"]
 Fj:Df K mg "between" kC ["ahead", "behind"]
 Eh:Df K mg "exchange" iT ["net", "deed"]
 Cu:Df K mg "shows_exchange" dz ["net", "deed", "told"]
 Dw:Df K mg "neighbours" gu ["net"]
 Gk:Df K mg "came_by" mt ["beside", "start"]
 Fg:Df K mg "reached" kw ["beside", "start"]
 Gf:Df K mg "pieces" mh ["net"]
 DQ:Df K mg "_law_begin" CM ["_law_script"]
 HY:Df K mg "_law_next" HN ["_law_state", "_law_many"]
 Hw:Df K mg "_law_words" Hg ["_law_state", "_law_many"]
 JT:Df K mg "_law_cost" Jv ["_law_state", "_law_which"]
 JR:Df K mg "_law_ends" Js ["_law_state", "_law_family", "_law_many", "_law_k"]
 M8:Df K mg "_law_net" Mn ["_law_state", "_law_most", "_law_ties_most"]
 SS:Df K mg "_law_of" Rq ["_law_state", "_law_some"]
 HA:Df K mg "_law_fresh" Hj ["_law_state", "_law_taken"]
 Gg:Df K mg "_law_new_tie" mi ["_law_state", "_law_net_here", "_law_far"]
 JS:Df K mg "_law_deed" Ju ["_law_state", "_law_net_here"]
 SU:Df K mg "_law_at" Rt ["_law_net_here", "_law_names", "_law_place"]
 M7:Df K mg "_law_own" Mm ["_law_net_here", "_law_later", "_law_deed_here", "_law_gone", "_law_come"]
 Hx:Df K mg "_law_right" Hh ["_law_net_here", "_law_deed_here"]
 Hz:Df K mg "law" Mo ["_law_script"]
 AQ:Addr
 Dc:∃c,Cb.fd.code=.ref c/\abT K c AQ=true
 FY:TabAt K mg "DEEDS" [("place",BK.f),("leave",By.f),("tie",Ca.f),("untie",Ct.f),("cost",B9.f)]
 Gn:mg "ValueError" = none
 LG:mg "abs" = none
 GW:mg "all" = none
 LF:mg "any" = none
 JY:mg "bool" = none
 LD:mg "int" = none
 BA:mg "isinstance" = none
 BE:mg "len" = none
 HF:mg "list" = none
 Ia:mg "max" = none
 LC:mg "min" = none
 Dz:mg "range" = none
 JX:mg "set" = none
 BD:mg "sorted" = none
 LB:mg "str" = none
 A9:mg "tuple" = none
 LA:mg "zip" = none
 Dx:∃t,mg "LONGEST_WORD" = some (.int 8 t)
end
variable{K:aah}{a:Addr}{H:Hp}
theorem x5{l:Addr}{xs:List V}{js:List (Option Nat)}{σ:St}{QQ:Hp->Prop}{g:TG}{tc:TT}{te:TE}(Pv:Nat->List V->Hp->Prop)(h0:Pv 0 [] H)(hl:∀i ys H,i<=xs.length->Pv i ys H->Cm K H a xs)
  (hs:∀i x ys H (N:List V->Hp->Prop),xs[i]?=some x->Pv i ys H->(∀ys' H',Pv (i+1) ys' H'->N ys' H')->g x (BC js σ) H λσ4 H4=>tc σ4 H4 λb H5=>if b=true then te σ4 H5 λy H6=>H6 l=some (.lst ys)/\ys.length<sizeLine/\N (ys++[y]) (upd H6 l (.lst (ys++[y])))else N ys H5)
  (hd:∀ys H,Pv xs.length ys H->QQ H) :
  ∃W:Nat->Nat->List V->Hp->Prop,(∃m,W 0 m [] H)/\∀i m ys H2,W i m ys H2 ->
  ((Kl K a).stop i H2/\QQ H2)\/((Kl K a).go i H2/\∀x H3,(Kl K a).yld i H2 x H3->g x (BC js σ) H3 λσ4 H4=>tc σ4 H4 λb H5=>
   if b=true then te σ4 H5 λy H6=>H6 l=some (.lst ys)/\ys.length<sizeLine/\∃m',m'<m/\W (i+1) m' (ys++[y]) (upd H6 l (.lst (ys++[y])))else ∃m',m'<m/\W (i+1) m' ys H5):=by
 refine⟨λi m ys H=>m=xs.length - i/\i<=xs.length/\Pv i ys H,⟨xs.length,by simp,abv _,h0⟩,?_⟩
 rintro i m ys H2 ⟨rfl,hi,p⟩
 have q:=hl i ys H2 hi p
 by_cases BW:i<xs.length
 .refine .inr ⟨⟨xs,xs[i],q,by simp[BW]⟩,λx H3 y=>?_⟩
  obtain⟨e,y⟩:=y
  subst e
  exact hs i x ys _ (λys' H'=>∃m',m'<xs.length - i/\m'=xs.length - (i+1)/\i+1<=xs.length/\Pv (i+1) ys' H') (y xs q) p λys' H' h=>⟨_,by omega,rfl,BW,h⟩
 .have e:i=xs.length:=by omega
  subst e
  exact .inl ⟨⟨xs,q,aal _⟩,hd ys _ p⟩
theorem xT:(["_law_cell"]:List Str).Nodup:=by decide +kernel
variable{P:aaJ}{w:World}{mg:Str->Option Value}{base:Heap}
theorem sq{xs:List V}(h:H a=some (.lst xs)):Cm K H a xs:=.inl (.inl h)
theorem Jr:ay ["_law_state", "_law_many", "_law_digit"] ["_law_state", "_law_many"] (aq HN):=⟨rfl,rfl,rfl,by decide +kernel,rfl,by decide +kernel,by decide +kernel⟩
variable{fd:abW}
theorem xM{f:Addr}(F:Ii K "_law_next" "_law_next" HN f fd):A8 P w K mg base Cz 1 f fd ["_law_state", "_law_many"] Jp:=by
 refine F.ok Jr (λvs H Q E h=>?_) (λBi A outer s H vs Q E hr h=>?_)
 .obtain⟨a,b,m,rfl,_⟩:=h
  rfl
 .obtain⟨a,b,m,rfl,S,m0,m1,k⟩:=h
  have hu:=hr.LV
  refine⟨_,bT (oV abC (PW.pt (pw_and (gJ (kI hu) (bU BI (pv 0) aJ (λ_ _=>rfl)) (i0 bv) (Eb _)) (pw_and1 (gJ Au (bU BI (bU BI (pv 0) aJ (λ_ _=>rfl)) aJ (λ_ _=>rfl)) aJ (Eb _)))))
    (dA (jw (rY acW PySem.F.slot_list_pop PySem.F.type_list_pop vP (bU BI (pv 0) aJ (λ_ _=>rfl)) (bh aJ bv)))))
   (bT (wL (gJ (kI hu) (bU BI (pv 0) aJ (λ_ _=>rfl)) (i0 bv) (Eb _))
    (bT (dS (i:=2) Jr.nd rfl (Or.inl rfl) (bG fB (bU BI (bU BI (pv 0) aJ (λ_ _=>rfl)) aJ (λ_ _=>rfl)) (pv 1)))
    (bT (lv (bG mF (bU BI (bU BI (pv 0) aJ (λ_ _=>rfl)) aJ (λ_ _=>rfl)) (pv 1)) (o4 (bU BI (pv 0) aJ (λ_ _=>rfl)) aJ kn))
    (dA (gK (pv 2)))))
    qO)
   (bT (lv (bG fB (bG ja (bG lC (bU BI (pv 0) aJ (λ_ _=>rfl)) aJ) aJ) aJ) (o4 (pv 0) aJ kn))
   (dA (gK (bG fB (bG mF (bG fB (bG lC (bU BI (pv 0) aJ (λ_ _=>rfl)) (bU BI (pv 0) aJ (λ_ _=>rfl))) aJ) aJ) (pv 1)))))),?_⟩
  refine⟨λn σ' H'=>σ'=[some (.ref a),some (.int m),none]/\G2 a b H H'/\∃(ns:List Int) (z:Int),H' a=some (.lst [.ref b,.int z])/\H' b=some (.lst (ns.map V.int))/\(∀n∈ns,0<=n)/\0<=z/\z<2305843009213693951/\ns.length=n,?_,?_⟩
  .obtain⟨ns,z,h1,h2,h3,h4,h5⟩:=S.st
   exact⟨_,rfl,G2.refl a b H,ns,z,h1,h2,h3,h4,h5,rfl⟩
  rintro n σ' H' ⟨rfl,hB,ns,z,ha,hb,hn,z0,z1,hl⟩
  have S':Gp H' a b:=⟨ns,z,ha,hb,hn,z0,z1⟩
  have behind:∀(H1:Hp),G2 a b H H1->Gp H1 a b->Jo (N4 (HL (EC (Ga K) (EC (E5 K) (BF 0) (tC (.int 0))) (L9 Il))) (Jo (He (EC (rI (λ_ j=>0<j) λi j=>.int (i % j)) (EC (E5 K) (EC (E5 K) (BF 0) (tC (.int 0))) (tC (.int 0))) (BF 1)) (CG 2))
    (Jo (He (EC (rI Np λi j=>.int (i / j)) (EC (E5 K) (EC (E5 K) (BF 0) (tC (.int 0))) (tC (.int 0))) (BF 1)) (MX (EC (E5 K) (BF 0) (tC (.int 0))) (tC (.int 0)) HP)) (L8 (BF 2)))) Lf)
    (Jo (He (EC (rI (λ_ j=>0<j) λi j=>.int (i % j)) (EC (Hm λi j=>.int (i+j)) (EC (rI IS λi j=>.int (i*j)) (EC (E5 K) (BF 0) (tC (.int 1))) (tC (.int 6364136223846793))) (tC (.int 1442695040888963))) (tC (.int 2305843009213693951))) (MX (BF 0) (tC (.int 1)) HP))
     (L8 (EC (rI (λ_ j=>0<j) λi j=>.int (i % j)) (EC (rI Np λi j=>.int (i / j)) (EC (rI (λ_ j=>0<j) λi j=>.int (i % j)) (EC (rI IS λi j=>.int (i*j)) (EC (E5 K) (BF 0) (tC (.int 1))) (EC (E5 K) (BF 0) (tC (.int 1)))) (tC (.int 2305843009213693921))) (tC (.int 65537))) (BF 1))))
    {nx:=λ_ H'=>Q .AF H',rt:=Q} [some (.ref a),some (.int m),none] H1:=by
   intro H1 BU S1
   have BV:=S1.ne
   obtain⟨ns,z,ha,hb,hn,z0,z1⟩:=S1.st
   refine⟨_,rfl,a,_,_,_,rfl,rfl,sq ha,ai (j:=0) rfl,abv _,λp hp=>?_⟩
   have KP:∀o,(upd H1 p o) a=some (.lst [.ref b,.int z]):=λo=>by rw[aj (av ha hp)];exact ha
   have Hu:∀o,(upd H1 p o) b=some (.lst (ns.map V.int)):=λo=>by rw[aj (av hb hp)];exact hb
   have S2:=S1.grow (o:=.lst []) hp
   have B2:=BU.grow (o:=.lst []) hp
   refine⟨b,p,_,rfl,rfl,sq (Hu _),sq am,_,rfl,?_⟩
   cases ns with
   |nil=>
    refine EH ?_
    refine⟨_,rfl,a,_,_,_,rfl,rfl,sq (KP _),ai (j:=1) rfl,_,_,rfl,rfl,.inr ⟨by decide,by decide⟩,_,_,rfl,rfl,_,_,rfl,rfl,(by show (0:Int)<_;decide),_,rfl,a,_,_,1,rfl,rfl,KP _,rfl,?_⟩
    have z2:0<=(z*6364136223846793+1442695040888963) % 2305843009213693951:=ach _ (by decide)
    have z3:(z*6364136223846793+1442695040888963) % 2305843009213693951<2305843009213693951:=abS _ (by decide)
    have S3:=S2.Mi z2 z3
    have B3:G2 a b H (upd (upd H1 p (.lst [])) a (.lst [.ref b,.int ((z*6364136223846793+1442695040888963) % 2305843009213693951)])):=B2.Mi
    refine⟨_,rfl,a,_,_,_,rfl,rfl,sq am,ai (j:=1) rfl,_,rfl,a,_,_,_,rfl,rfl,sq am,ai (j:=1) rfl,_,_,rfl,rfl,.inl ⟨by omega,by omega⟩,_,_,rfl,rfl,(by show (0:Int)<_;decide),_,_,rfl,rfl,⟨by decide,by decide⟩,_,rfl,_,_,rfl,rfl,m0,?_⟩
    exact k _ _ (ach _ (by omega)) (abS _ m0) S3 B3
   |cons x r=>
    refine Fc ?_
    have x0:0<=x:=hn x aat
    refine⟨_,rfl,a,_,_,_,rfl,rfl,sq (KP _),ai (j:=0) rfl,b,_,_,_,rfl,rfl,sq (Hu _),ai (j:=0) rfl,_,rfl,_,_,rfl,rfl,m0,?_⟩
    refine⟨_,rfl,a,_,_,_,rfl,rfl,sq (KP _),ai (j:=0) rfl,b,_,_,_,rfl,rfl,sq (Hu _),ai (j:=0) rfl,_,rfl,_,_,rfl,rfl,⟨m0,m1⟩,_,rfl,a,_,_,_,rfl,rfl,sq (KP _),ai (j:=0) rfl,b,_,_,0,rfl,rfl,Hu _,(by simp[J6]),_,rfl,?_⟩
    refine k _ _ (ach _ (by omega)) (abS _ m0) (S2.Ks (ns:=x / m::r) λn hm=>?_) B2.Ks
    rcases List.mem_cons.mp hm with rfl|hm
    .exact Int.ediv_nonneg x0 (by omega)
    .exact hn n (aar _ hm)
  refine⟨_,rfl,a,_,_,_,rfl,rfl,sq ha,ai (j:=0) rfl,abv _,λp hp=>?_⟩
  have KP:∀o,(upd H' p o) a=some (.lst [.ref b,.int z]):=λo=>by rw[aj (av ha hp)];exact ha
  have Hu:∀o,(upd H' p o) b=some (.lst (ns.map V.int)):=λo=>by rw[aj (av hb hp)];exact hb
  have S2:=S'.grow (o:=.lst []) hp
  have B2:=hB.grow (o:=.lst []) hp
  refine⟨b,p,_,rfl,rfl,sq (Hu _),sq am,_,rfl,?_⟩
  cases ns with
  |nil=>
   refine EH (EH ?_)
   exact behind _ B2 S2
  |cons x r=>
   refine Fc ?_
   refine⟨_,rfl,a,_,_,_,rfl,rfl,sq (KP _),ai (j:=0) rfl,b,_,_,_,rfl,rfl,sq (Hu _),ai (j:=0) rfl,rfl,_,rfl,?_⟩
   refine OR (λ_=>?_) (λ_=>behind _ B2 S2)
   refine⟨λσ' QP=>σ'=[some (.ref a),some (.int m),none]/\G2 a b H QP/\QP a=some (.lst [.ref b,.int z])/\QP b=some (.lst (r.map V.int)),λσ' QP h=>⟨r.length,by rw[<- hl,abp];exact abx _,h.1,h.2.1,r,z,h.2.2.1,h.2.2.2,λn hm=>hn n (aar _ hm),z0,z1,rfl⟩,?_⟩
   refine⟨_,rfl,a,_,_,_,rfl,rfl,sq (KP _),ai (j:=0) rfl,.inl ⟨rfl,_,Cm.of (Hu _)⟩,b,_,0,0,_,rfl,rfl,Hu _,by decide,by decide,?_,rfl,rfl,B2.Ks,by rw[aj S'.ne];exact KP _,am⟩
   simp[seqIndex?]
structure Bt(mg:Str->Option Value):Prop where
 len:mg "len" = none
 abs:mg "abs" = none
 range:mg "range" = none
 max:mg "max" = none
 sorted:mg "sorted" = none
 tuple:mg "tuple" = none
theorem EM:ay ["_law_script", "_law_seed", "_law_cell"] ["_law_script"] (aq CM):=⟨rfl,rfl,rfl,by decide +kernel,rfl,by decide +kernel,by decide +kernel⟩
theorem vM{f:Addr}(F:Ii K "_law_begin" "_law_begin" CM f fd)(B:Bt mg):A8 P w K mg base Cz 1 f fd ["_law_script"] (ju K):=by
 refine F.ok EM (λvs H Q E h=>?_) (λBi A outer s H vs Q E hr h=>?_)
 .obtain⟨a,ns,rfl,_⟩:=h
  rfl
 .obtain⟨a,ns,rfl,hS,hlen,k⟩:=h
  refine⟨_,bT (dS (i:=1) EM.nd rfl (Or.inl rfl) (bG ja (bN jm (by rfl) B.len aaM (bh (pv 0) bv)) aJ))
   (bT (sZ abC rfl (qP (kF mf (pv 0) mB (mz aJ))) (aF (i:=2) EM.nd rfl (Or.inl rfl))
    (dA (dS (i:=1) EM.nd rfl (Or.inl rfl) (bG fB (bG ja (bG ja (bG lC (pv 1) aJ) (bG fB (pv 2) (bG pd aJ aJ))) aJ) aJ))))
   (dA (gK (i0 (bh (wN (N:=["_law_cell"]) (js:=[none]) (qP (kF mf (pv 0) mB (mz aJ))) (λ_ _ _ _ _=>aF (i:=0) xT rfl (Or.inl rfl))
    (λ_ _ _ _ _=>tm (gJ Ar (bN pX (by rfl) B.abs PyProof.Rows.boot_abs (bh (pv 0) bv)) (bG pd aJ aJ) (Eb _)))
    (λ_ _ _ _ _=>bN pX (by rfl) B.abs PyProof.Rows.boot_abs (bh (pv 0) bv)) jJ) (bh (pv 1) bv)))))),?_⟩
  refine⟨_,rfl,a,_,rfl,.inl hS,_,_,rfl,rfl,?_⟩
  have cut:∀(H':Hp),eQ H H'->Em (ns.map V.int) none (some 63)=ns.map V.int:=λ_ _=>by
   unfold Em
   rw[HT.E3]
   have e:HT.BO (ns.map V.int).length (ns.map V.int).length (some 63)=(ns.map V.int).length:=by
    have:=HT.F9 (ns.map V.int).length (ns.map V.int).length 63
    refine this.trans ?_
    rw[aac];omega
   rw[e,Nat.sub_zero,List.drop_zero,abF]
  have grow:∀{H':Hp} {p:Addr} {o:HO},eQ H H'->H' p=none->eQ H (upd H' p o):=λ{H' p o} hs hp c u h=>by
   have q:=hs c u h
   rw[aj (av q hp)];exact q
  refine⟨_,rfl,63,rfl,a,_,rfl,hS,λp hp=>?_⟩
  rw[cut H (eQ.refl H)]
  have T8:Cm K (upd H p (.lst (ns.map V.int))) p (ns.map V.int):=sq am
  refine⟨p,rfl,⟨_,T8⟩,wg (K:=K) (a:=p) (xs:=ns.map V.int) (λi σ H2=>∃(z:Int) (v:Option V),σ=[some (.ref a),some (.int z),v]/\H2=upd H p (.lst (ns.map V.int))/\0<=z/\z<2305843009213693951)
   ⟨_,none,rfl,rfl,by show (0:Int)<=((ns.map V.int).length:Nat)+3;omega,by show ((ns.map V.int).length:Nat)+(3:Int)<_;rw[aac];omega⟩ (λi σ H2 _ ⟨_,_,_,e,_⟩=>by rw[e];exact T8) ?_ ?_⟩
  .rintro i y σ H2 hi ⟨z,v,rfl,rfl,z0,z1⟩
   obtain⟨c,rfl⟩:∃c,y=V.int c:=by
    rw[aaj]at hi
    cases e:ns[i]? with
    |none=>rw[e]at hi;cases hi
    |some c=>rw[e]at hi;exact⟨c,(aap hi).symm⟩
   refine⟨_,rfl,_,_,rfl,rfl,.inr ⟨by decide,by decide⟩,_,rfl,_,_,rfl,rfl,⟨by decide,by decide,by decide⟩,_,_,rfl,rfl,(by show (0:Int)<10 ^ 30;decide),_,_,rfl,rfl,_,_,rfl,rfl,_,_,rfl,rfl,(by show (0:Int)<_;decide),?_⟩
   exact⟨_,_,rfl,rfl,ach _ (by decide),abS _ (by decide)⟩
  .rintro σ H2 ⟨z,v,rfl,rfl,z0,z1⟩
   have KG:eQ H (upd H p (.lst (ns.map V.int))):=grow (eQ.refl H) hp
   refine⟨_,rfl,63,rfl,a,_,rfl,KG.seq hS,λp2 NC=>?_⟩
   rw[cut H (eQ.refl H)]
   have IX:eQ H (upd (upd H p (.lst (ns.map V.int))) p2 (.lst (ns.map V.int))):=grow KG NC
   refine⟨p2,rfl,⟨_,sq am⟩,λl hl=>?_⟩
   generalize KS:upd (upd H p (.lst (ns.map V.int))) p2 (.lst (ns.map V.int))=H3 at IX hl ⊢
   have O6:H3 p2=some (.lst (ns.map V.int)):=by rw[<- KS];exact am
   refine x5 (K:=K) (a:=p2) (l:=l) (xs:=ns.map V.int) (λi ys H4=>∃ms:List Int,ys=ms.map V.int/\(∀n∈ms,0<=n)/\ms.length<=i/\H4=upd H3 l (.lst ys))
    ⟨[],rfl,(λ_ h=>nomatch h),aal _,rfl⟩ (λi ys H4 _ ⟨_,_,_,_,e⟩=>by rw[e];exact sq (by rw[aj (av O6 hl)];exact O6)) ?_ ?_
   .rintro i x ys H4 N hi ⟨ms,rfl,hm,VX,rfl⟩ hN
    obtain⟨c,rfl⟩:∃c,x=V.int c:=by
     rw[aaj]at hi
     cases e:ns[i]? with
     |none=>rw[e]at hi;cases hi
     |some c=>rw[e]at hi;exact⟨c,(aap hi).symm⟩
    have Sr:i<(ns.map V.int).length:=(List.getElem?_eq_some_iff.mp hi).1
    rw[aac]at Sr
    refine⟨_,rfl,_,rfl,_,_,rfl,rfl,⟨by decide,by decide,by decide⟩,_,_,rfl,rfl,_,rfl,?_⟩
    refine OR (λ_=>?_) (λ_=>hN _ _ ⟨ms,rfl,hm,by omega,rfl⟩)
    refine⟨_,rfl,c,rfl,am,by rw[aac,aaC];omega,hN _ _ ⟨ms++[if c<0 then -c else c],by simp,λn hn=>?_,by rw[aau,aeb];omega,by rw[wZ]⟩⟩
    rcases List.mem_append.mp hn with q|q
    .exact hm n q
    .have:n=if c<0 then -c else c:=by simpa using q
     rw[this];split<;>omega
   .rintro ys H4 ⟨ms,rfl,hm,VX,rfl⟩
    refine⟨_,rfl,(by show 2<=sizeLine;decide),λq hq=>?_⟩
    have Pa:l≠q:=λe=>by rw[e,am]at hq;cases hq
    refine k q l _ ((grow IX hl).free hq) (IX.free hl) ⟨ms,z,am,by rw[aj Pa,am],hm,z0,z1⟩ (grow (grow IX hl) hq)
end Pre
namespace Pre
open PySem L2 Q
structure tO(x:Str):Prop where
 lo:1<=x.cps.toList.length
 hi:x.cps.toList.length<=8
 ok:∀c∈x.cps.toList,97<=c/\c<=122
def ch(i:Nat):Str:=⟨#[97+i]⟩
def wl(b s t f n k:Nat):List Nat:=if n<8/\s=6 then aaI (k+1) (97+b)else (aaI t (97+b)++[97+(f+5*k) % 26,97+(f+k / 26) % 26])++aaI (s - t) (97+b)
def wd(b s t f n k:Nat):Str:=⟨(wl b s t f n k).toArray⟩
variable{b s t f n k:Nat}
theorem wV(hb:b<26)(hs:s<7)(ht:t<=s)(hk:k<n):tO (wd b s t f n k):=by
 have e:(wd b s t f n k).cps.toList=wl b s t f n k:=by simp[wd]
 refine⟨?_,?_,?_⟩
 .rw[e];unfold wl;split
  .simp
  .simp;omega
 .rw[e];unfold wl;split
  .simp;omega
  .simp;omega
 .rw[e];unfold wl
  intro c hc
  split at hc
  .have:=adG hc
   omega
  .rcases List.mem_append.mp hc with h|h
   .rcases List.mem_append.mp h with h|h
    .have:=adG h;omega
    .simp only[aa2,aaS,or_false]at h
     have:=Nat.mod_lt (f+5*k) (show 0<26 by decide)
     have:=Nat.mod_lt (f+k / 26) (show 0<26 by decide)
     omega
   .have:=adG h;omega
theorem qT(f a b:Nat)(h:(f+a) % 26=(f+b) % 26):a % 26=b % 26:=by omega
theorem yF:∀k:Nat,k<60->∀k':Nat,k'<60->(5*k) % 26=(5*k') % 26->(k / 26) % 26=(k' / 26) % 26->k=k':=by decide +kernel
theorem yE{k':Nat}(hk:k<60)(V4:k'<60)(h:wd b s t f n k=wd b s t f n k'):k=k':=by
 have e:wl b s t f n k=wl b s t f n k':=by
  have:=congrArg (λx:Str=>x.cps.toList) h
  simpa[wd]using this
 unfold wl at e
 split at e
 .have:=congrArg acA e
  rw[ab9,ab9]at this
  exact aaD this
 .have e1:=List.append_cancel_right e
  have e2:=List.append_cancel_left e1
  simp only[List.cons.injEq,and_true]at e2
  exact yF k hk k' V4 (qT f _ _ (Nat.add_left_cancel e2.1)) (qT f _ _ (Nat.add_left_cancel e2.2))
def IT(b s t f n:Nat)(m:Nat):List Str:=(aa6 m).map (wd b s t f n)
theorem sJ{m:Nat}(hm:m<=60):(IT b s t f n m).Nodup:=by
 unfold IT
 rw[acF,ae1]
 have:=(List.nodup_iff_pairwise_ne.mp (adW (n:=m)))
 refine List.Pairwise.imp_of_mem (λ{x y} hx hy BV e=>?_) this
 exact BV (yE (by have:=List.mem_range.mp hx;omega) (by have:=List.mem_range.mp hy;omega) e)
theorem uV(hb:b<26)(hs:s<7)(ht:t<=s):∀x∈IT b s t f n n,tO x:=λx hx=>by
 obtain⟨k,hk,rfl⟩:=List.mem_map.mp hx
 exact wV hb hs ht (List.mem_range.mp hk)
theorem uW(b s t f n m:Nat):IT b s t f n (m+1)=IT b s t f n m++[wd b s t f n m]:=by
 unfold IT
 rw[afy,aaZ];rfl
variable{x y:Str}
theorem ma(h:x.cps.toList=y.cps.toList):x=y:=by
 obtain⟨x⟩:=x
 obtain⟨y⟩:=y
 exact congrArg Str.mk (Array.toList_inj.mp h)
theorem ls(b m:Nat):(EE (ch b) m).cps.toList=aaI m (97+b):=by
 unfold EE ch
 induction m with
 |zero=>rfl
 |succ m ih=>
  simp only[abf,abZ]at ih ⊢
  simpa using ih
theorem iu(x y:Str):(x++y).cps.toList=x.cps.toList++y.cps.toList:=by
 show (x.cps++y.cps).toList=_
 simp
def Nh:Str := "abcdefghijklmnopqrstuvwxyz"
theorem Ai:∀i:Nat,i<26->Nh.cps.toList[i]?=some (97+i):=by decide +kernel
structure AE where
 nm:Str
 one:Str
 A3:Str
 cost:Int
def t0:AE:=⟨⟨#[]⟩,⟨#[]⟩,⟨#[]⟩,0⟩
structure LI(t:AE):Prop where
 nm:tO t.nm
 one:tO t.one
 A3:tO t.A3
 lt:AZ t.one t.A3
 lo : -(10 ^ 30)<t.cost
 hi:t.cost<10 ^ 30
structure Bs(ps:List Str)(ts:List AE):Prop where
 rise:ps.Pairwise AZ
 word:∀x∈ps,tO x
 names:(ts.map AE.nm).Pairwise AZ
 tie:∀t∈ts,LI t
theorem pF(h1:¬ AZ y x)(h2:x≠y):AZ x y:=by
 unfold AZ at *
 rcases List.le_iff_lt_or_eq.mp (List.not_lt.mp h1)with z|z
 .exact z
 .exact absurd (ma z) h2
variable{l:List Str}
theorem yI(hp:l.Perm [x,y])(hs:l.Pairwise λa b=>¬ AZ b a)(hn:x≠y):∃u v,l=[u,v]/\AZ u v/\(u=x\/u=y)/\(v=x\/v=y):=by
 have hl:=hp.length_eq
 match l,hl with
 |[u,v],_=>
  have hu:u=x\/u=y:=by simpa using hp.mem_iff.mp (show u∈[u,v]by simp)
  have hv:v=x\/v=y:=by simpa using hp.mem_iff.mp (show v∈[u,v]by simp)
  have nd:[u,v].Nodup:=hp.nodup_iff.mpr (by simp[hn])
  have BV:u≠v:=by simpa using nd
  refine⟨u,v,rfl,pF ?_ BV,hu,hv⟩
  have:=List.rel_of_pairwise_cons hs (show v∈[v]by simp)
  exact this
theorem gI(hs:l.Pairwise λa b=>¬ AZ b a)(hn:l.Nodup):l.Pairwise AZ:=by
 have:=List.nodup_iff_pairwise_ne.mp hn
 exact(hs.and this).imp λ⟨h1,h2⟩=>pF h1 h2
def lE(t:AE):PV:=.tup [.str t.nm,.str t.one,.str t.A3,.int t.cost]
def lT(ps:List Str)(ts:List AE):PV:=.tup [.tup (ps.map .str),.tup (ts.map lE)]
def cW:D5:=λc xs P=>c=.AF/\∃n:Nat,xs=[.int n]/\n<=60/\∀ws:List Str,ws.length=n->ws.Nodup->(∀x∈ws,tO x)->P (.lst (ws.map .str)) .AF
def fT:D5:=λc xs P=>c=.AF/\∃q:Int,xs=[.int q]/\∀c:Int,-(10 ^ 30)<c->c<10 ^ 30->P (.int c) .AF
def m8:D5:=λc xs P=>c=.AF/\∃M T:Int,xs=[.int M,.int T]/\0<=M/\M<=40/\0<=T/\T<=50/\∀(ps:List Str) (ts:List AE),Bs ps ts->(ps.length:Int)<=M->(ts.length:Int)<=T->P (lT ps ts) .AF
def lf:D5:=λc xs P=>c=.AF/\∃f m k:Int,xs=[.int f,.int m,.int k]/\2<=m/\m<=100/\∀i j:Int,0<=i->i<m->0<=j->j<m->i≠j->P (.tup [.int i,.int j]) .AF
variable{P:aaJ}{w:World}{K:aah}{mg:Str->Option Value}{base:Heap}
theorem vB(Y:Ev K mg):Bt mg:=⟨Y.BE,Y.LG,Y.Dz,Y.Ia,Y.BD,Y.A9⟩
theorem aE(Y:Ev K mg):A8 P w K mg base Cz 1 Y.HY.f Y.HY.fd ["_law_state", "_law_many"] (J2 ⟨P,w,K,Ex K⟩ 2 aD):=vO (xM Y.HY.F)
theorem uf(Y:Ev K mg):A8 P w K mg base Cz 1 Y.DQ.f Y.DQ.fd ["_law_script"] (ju K):=vM Y.DQ.F (vB Y)
end Pre
namespace Pre
open PySem L2
def Bb(ps:List Str)(t:AE):Bool:=decide (t.one∈ps) && decide (t.A3∈ps)
variable{ps:List Str}{t:AE}
theorem Bm:Bb ps t=true↔t.one∈ps/\t.A3∈ps:=by unfold Bb;simp
variable{x y:Str}
theorem pG(h:AZ x y):x≠y:=λe=>by subst e;exact aes _ h
variable{ts:List AE}
theorem bW(h:Bs ps ts):(ts.map AE.nm).Nodup:=List.nodup_iff_pairwise_ne.mpr (h.names.imp λz=>pG z)
variable{α:Type}{i:Nat}
theorem j4{f:α->Bool}{ts:List α}(hi:i<ts.length):(ts.take (i+1)).filter f=(ts.take i).filter f++(if f ts[i]=true then [ts[i]]else []):=by
 rw[abY,aab hi,aeM]
 congr 1
 show List.filter f [ts[i]]=_
 rw[abq]
 rfl
def ends(p:Str)(t:AE):List (Str×Str):=(if t.one=p then [(t.nm,t.A3)]else [])++(if t.A3=p then [(t.nm,t.one)]else [])
def BX(ps:List Str)(ts:List AE)(p:Str):List (Str×Str):=(ts.filter (Bb ps)).flatMap (ends p)
theorem wJ(hi:i<ts.length)(p:Str):BX ps (ts.take (i+1)) p=BX ps (ts.take i) p++(if Bb ps ts[i]=true then ends p ts[i]else []):=by
 unfold BX
 rw[j4 (f:=Bb ps) hi,List.flatMap_append]
 congr 1
 split<;>simp
theorem qv(p:Str)(t:AE):(ends p t).length<=2:=by
 unfold ends
 split<;>split<;>simp
theorem sg(ps:List Str)(ts:List AE)(p:Str):(BX ps ts p).length<=2*ts.length:=by
 unfold BX
 have h1:∀us:List AE,(us.flatMap (ends p)).length<=2*us.length:=λus=>by
  induction us with
  |nil=>simp
  |cons t r ih=>
   rw[List.flatMap_cons,aau,abp]
   have:=qv p t
   omega
 have h2:=h1 (ts.filter (Bb ps))
 have h3:=aaH (Bb ps) ts
 omega
inductive BG (g:Str->List (Str×Str)) (s:Str):Str->Prop where
 |refl:BG g s s
 |step {x y nm:Str}:BG g s x->(nm,y)∈g x->BG g s y
abbrev Cs:=List (Str×Option (Str×Str))
abbrev C6(cs:Cs):List Str:=cs.map (·.1)
structure Eu(g:Str->List (Str×Str))(start:Str)(cs:Cs):Prop where
 nd:(C6 cs).Nodup
 tree:∀(i:Nat) (c:Str×Option (Str×Str)),cs[i]?=some c->(i=0/\c=(start,none))\/(0<i/\∃nm x,c.2=some (nm,x)/\(nm,c.1)∈g x/\x∈C6 (cs.take i))
 ne:cs≠[]
variable{g:Str->List (Str×Str)}{cs:Cs}
theorem Eu.start{start:Str}(x:Eu g start cs):start∈C6 cs:=by
 cases cs with
 |nil=>exact absurd rfl x.ne
 |cons c r=>
  rcases x.tree 0 c rfl with ⟨_,e⟩|⟨e,_⟩
  .subst e;exact aat
  .exact absurd e (abj _)
theorem Eu.sound{start:Str}(x:Eu g start cs):∀(i:Nat),∀y∈C6 (cs.take i),BG g start y
 |0,y,h=>by simp at h
 |i+1,y,h=>by
  rw[abY]at h
  unfold C6 at h
  rw[aaZ]at h
  rcases List.mem_append.mp h with h|h
  .exact Eu.sound x i y h
  .cases e:cs[i]? with
   |none=>rw[e]at h;simp at h
   |some c=>
    rw[e]at h
    have hy:y=c.1:=by simpa using h
    subst hy
    rcases x.tree i c e with ⟨_,e⟩|⟨_,nm,z,e1,e2,e3⟩
    .subst e;exact .refl
    .exact .step (Eu.sound x i z e3) e2
theorem Eu.iff{start:Str}(x:Eu g start cs)(cl:∀y∈C6 cs,∀q∈g y,q.2∈C6 cs):y∈C6 cs↔BG g start y:=by
 constructor
 .intro h
  refine x.sound cs.length y ?_
  rw[abF];exact h
 .intro h
  induction h with
  |refl=>exact x.start
  |step _ h ih=>exact cl _ ih _ h
variable{nm:Str}
theorem Eu.snoc{start:Str}(h:Eu g start cs)(hy:y∉C6 cs)(hx:x∈C6 cs)(hg:(nm,y)∈g x):Eu g start (cs++[(y,some (nm,x))]):=by
 refine⟨?_,λi c hc=>?_,by simp⟩
 .unfold C6
  rw[aaZ,abJ]
  refine⟨h.nd,by simp,λa ha b hb=>?_⟩
  have:b=y:=by simpa using hb
  rw[this]
  intro z
  exact hy (by rw[<- z];exact ha)
 .rcases adE i cs.length with z|z|z
  .rw[aay z]at hc
   rw[afh (by omega)]
   exact h.tree i c hc
  .subst z
   rw[acG (aal _),Nat.sub_self]at hc
   have e:c=(y,some (nm,x)):=by simpa using hc.symm
   subst e
   refine .inr ⟨?_,nm,x,rfl,hg,?_⟩
   .cases cs with
    |nil=>exact absurd rfl h.ne
    |cons _ _=>simp
   .rw[afh (aal _),abF];exact hx
  .rw[aao (by rw[aau];simp;omega)]at hc
   cases hc
theorem bB[DecidableEq α]:∀{xs ys:List α},xs.Nodup->(∀x∈xs,x∈ys)->xs.length<=ys.length
 |[],_,_,_=>abv _
 |x::r,ys,nd,h=>by
  obtain⟨n1,n2⟩:=List.nodup_cons.mp nd
  have hx:=h x aat
  have:=bB (xs:=r) (ys:=ys.erase x) n2 λz hz=>by
   have Vv:z≠x:=λe=>n1 (by rw[<- e];exact hz)
   exact(List.mem_erase_of_ne Vv).mpr (h z (aar _ hz))
  rw[List.length_erase_of_mem hx]at this
  have hp:=adY hx
  rw[abp]
  omega
variable{z:Str}
theorem de(a:AZ x y)(b:AZ y z):AZ x z:=List.lt_trans a b
theorem cx(x:Str):¬ AZ x x:=aes _
theorem dg(a:AZ x y):¬ AZ y x:=λb=>cx x (de a b)
theorem cU(x y:Str):AZ x y\/x=y\/AZ y x:=by
 by_cases h:AZ y x
 .exact .inr (.inr h)
 .by_cases e:x=y
  .exact .inr (.inl e)
  .exact .inl (pF h e)
theorem ic:∀{xs ys:List Str},xs.Pairwise AZ->ys.Pairwise AZ->(∀z,z∈xs↔z∈ys)->xs=ys
 |[],[],_,_,_=>rfl
 |[],y::ys,_,_,h=>absurd ((h y).mpr aat) (by simp)
 |x::xs,[],_,_,h=>absurd ((h x).mp aat) (by simp)
 |x::xs,y::ys,hx,hy,h=>by
  obtain⟨x1,x2⟩:=List.pairwise_cons.mp hx
  obtain⟨y1,y2⟩:=List.pairwise_cons.mp hy
  have e:x=y:=by
   rcases List.mem_cons.mp ((h x).mp aat)with e|e
   .exact e
   .rcases List.mem_cons.mp ((h y).mpr aat)with e'|e'
    .exact e'.symm
    .exact absurd (x1 y e') (dg (y1 x e))
  subst e
  rw[ic x2 y2 λz=>?_]
  constructor
  .intro hz
   rcases List.mem_cons.mp ((h z).mp (aar _ hz))with e|e
   .subst e;exact absurd (x1 z hz) (cx z)
   .exact e
  .intro hz
   rcases List.mem_cons.mp ((h z).mpr (aar _ hz))with e|e
   .subst e;exact absurd (y1 z hz) (cx z)
   .exact e
theorem bo{xs:List Str}(h:xs.Pairwise AZ):xs.Nodup:=List.nodup_iff_pairwise_ne.mpr (h.imp λz=>pG z)
open Classical in
noncomputable def rb(g:Str->List (Str×Str))(s y:Str):Bool:=decide (BG g s y)
variable{s:Str}
theorem DK:rb g s y=true↔BG g s y:=by unfold rb;simp
theorem BG.ER(h:BG g s y)(hs:s∈ps)(HW:∀p∈ps,∀q∈g p,q.2∈ps):y∈ps:=by
 induction h with
 |refl=>exact hs
 |step _ h ih=>exact HW _ ih _ h
noncomputable def root(ps:List Str)(g:Str->List (Str×Str))(s:Str):Bool:=!ps.any λp=>decide (AZ p s) && rb g p s
theorem BB:root ps g s=true↔∀p∈ps,BG g p s->¬ AZ p s:=by
 unfold root
 rw[adJ,ae4]
 constructor
 .intro h p hp hr hl
  exact h p hp (by rw[aaE,DK];exact⟨decide_eq_true hl,hr⟩)
 .intro h p hp z
  rw[aaE,DK]at z
  exact h p hp z.2 (of_decide_eq_true z.1)
noncomputable def E8(ps:List Str)(g:Str->List (Str×Str)):List (List Str):=(ps.filter (root ps g)).map λs=>ps.filter (rb g s)
variable{p:Str}
theorem Ic{q:Str}:(nm,q)∈BX ps ts p↔∃t∈ts,Bb ps t=true/\nm=t.nm/\((t.one=p/\t.A3=q)\/(t.A3=p/\t.one=q)):=by
 unfold BX
 rw[List.mem_flatMap]
 constructor
 .rintro⟨t,ht,h⟩
  obtain⟨h1,h2⟩:=List.mem_filter.mp ht
  unfold ends at h
  rcases List.mem_append.mp h with z|z
  .split at z
   .rename_i e
    have:(nm,q)=(t.nm,t.A3):=by simpa using z
    cases this
    exact⟨t,h1,h2,rfl,.inl ⟨e,rfl⟩⟩
   .simp at z
  .split at z
   .rename_i e
    have:(nm,q)=(t.nm,t.one):=by simpa using z
    cases this
    exact⟨t,h1,h2,rfl,.inr ⟨e,rfl⟩⟩
   .simp at z
 .rintro⟨t,h1,h2,rfl,h3⟩
  refine⟨t,List.mem_filter.mpr ⟨h1,h2⟩,?_⟩
  unfold ends
  rcases h3 with ⟨e1,e2⟩|⟨e1,e2⟩
  .exact acb _ (by rw[if_pos e1,e2];simp)
  .exact aaO _ (by rw[if_pos e1,e2];simp)
theorem yB:∀q∈BX ps ts p,q.2∈ps:=λ⟨nm,q⟩ h=>by
 obtain⟨t,h1,h2,h3,h4⟩:=Ic.mp h
 obtain⟨o1,o2⟩:=Bm.mp h2
 rcases h4 with ⟨a,b⟩|⟨a,b⟩
 .rw[<- b];exact o2
 .rw[<- b];exact o1
def IV(x y:Str):Prop:=¬ AZ y x
theorem fH(x:Str):IV x x:=cx x
theorem dW(a:IV x y)(b:IV y z):IV x z:=λh=>by
 rcases cU x y with c|c|c
 .exact b (de h c)
 .subst c;exact b h
 .exact a c
theorem tR(x y:Str):IV (Cp x y) x:=by
 unfold Cp
 split
 .rename_i h;exact dg h
 .exact fH x
theorem tQ(x y:Str):IV (Cp x y) y:=by
 unfold Cp
 split
 .exact fH y
 .rename_i h;exact h
theorem qU(x y:Str):Cp x y=x\/Cp x y=y:=by
 unfold Cp
 split
 .exact .inr rfl
 .exact .inl rfl
def CD(t:AE)(L:Str->Str):Str->Str:=λx=>if x=t.A3 then Cp (L t.one) (L t.A3)else if x=t.one then Cp (L t.one) (L t.A3)else L x
def round(os:List AE)(L:Str->Str):Str->Str:=os.foldl (λL t=>CD t L) L
def C4(os:List AE):Nat->Str->Str
 |0=>id
 |n+1=>round os (C4 os n)
theorem kD(t:AE)(L:Str->Str)(x:Str):IV (CD t L x) (L x):=by
 unfold CD
 split
 .rename_i h;subst h;exact tQ _ _
 .split
  .rename_i h;subst h;exact tR _ _
  .exact fH _
theorem ib:∀(os:List AE) (L:Str->Str) (x:Str),IV (round os L x) (L x)
 |[],_,_=>fH _
 |t::r,L,x=>dW (ib r (CD t L) x) (kD t L x)
theorem lr:∀(os:List AE) (L:Str->Str),∀t∈os,IV (round os L t.one) (L t.A3)/\IV (round os L t.A3) (L t.one)
 |[],_,t,h=>nomatch h
 |u::r,L,t,h=>by
  rcases List.mem_cons.mp h with rfl|h
  .have a:=ib r (CD t L) t.one
   have b:=ib r (CD t L) t.A3
   have m1:CD t L t.A3=Cp (L t.one) (L t.A3):=by unfold CD;rw[if_pos rfl]
   have m2:CD t L t.one=Cp (L t.one) (L t.A3):=by
    unfold CD
    split
    .rfl
    .rw[if_pos rfl]
   rw[m2]at a
   rw[m1]at b
   exact⟨dW a (tQ _ _),dW b (tR _ _)⟩
  .obtain⟨a,b⟩:=lr r (CD u L) t h
   exact⟨dW a (kD u L _),dW b (kD u L _)⟩
def Rk(g:Str->List (Str×Str)):Nat->Str->Str->Prop
 |0,x,y=>x=y
 |k+1,x,y=>Rk g k x y\/∃nm z,(nm,z)∈g x/\Rk g k z y
structure EA(ps:List Str)(os:List AE)(g:Str->List (Str×Str)):Prop where
 mem:∀p nm q,(nm,q)∈g p↔∃t∈os,nm=t.nm/\((t.one=p/\t.A3=q)\/(t.A3=p/\t.one=q))
 ER:∀t∈os,t.one∈ps/\t.A3∈ps
variable{os:List AE}
theorem EA.sym(G:EA ps os g){q:Str}(h:(nm,q)∈g p):(nm,p)∈g q:=by
 obtain⟨t,a,b,c⟩:=(G.mem _ _ _).mp h
 refine(G.mem _ _ _).mpr ⟨t,a,b,?_⟩
 rcases c with ⟨x,y⟩|⟨x,y⟩
 .exact .inr ⟨y,x⟩
 .exact .inl ⟨y,x⟩
theorem EA.OU(G:EA ps os g):∀q∈g p,q.2∈ps:=λ⟨nm,q⟩ h=>by
 obtain⟨t,a,b,c⟩:=(G.mem _ _ _).mp h
 rcases c with ⟨x,y⟩|⟨x,y⟩
 .rw[<- y];exact(G.ER t a).2
 .rw[<- y];exact(G.ER t a).1
theorem BG.trans(a:BG g x y)(b:BG g y z):BG g x z:=by
 induction b with
 |refl=>exact a
 |step _ h ih=>exact .step ih h
theorem EA.Dr(G:EA ps os g)(h:BG g x y):BG g y x:=by
 induction h with
 |refl=>exact .refl
 |step _ h ih=>exact BG.trans (.step .refl (G.sym h)) ih
theorem yC(ps:List Str)(ts:List AE):EA ps (ts.filter (Bb ps)) (BX ps ts):=by
 refine⟨λp nm q=>?_,λt ht=>Bm.mp (List.mem_filter.mp ht).2⟩
 rw[Ic]
 constructor
 .rintro⟨t,a,b,c⟩;exact⟨t,List.mem_filter.mpr ⟨a,b⟩,c⟩
 .rintro⟨t,a,c⟩
  obtain⟨a,b⟩:=List.mem_filter.mp a
  exact⟨t,a,b,c⟩
theorem gv(G:EA ps os g):∀(k:Nat) (x y:Str),Rk g k x y->IV (C4 os k x) y
 |0,x,y,h=>by cases h;exact fH _
 |k+1,x,y,h=>by
  rcases h with h|⟨nm,z,hz,h⟩
  .exact dW (ib os (C4 os k) x) (gv G k x y h)
  .have ih:=gv G k z y h
   obtain⟨t,ht,_,c⟩:=(G.mem _ _ _).mp hz
   obtain⟨a,b⟩:=lr os (C4 os k) t ht
   rcases c with ⟨e1,e2⟩|⟨e1,e2⟩
   .subst e1 e2;exact dW a ih
   .subst e1 e2;exact dW b ih
theorem qg(G:EA ps os g)(ht:t∈os){L:Str->Str}(h:∀x,BG g x (L x)):∀x,BG g x (CD t L x):=by
 have e1:BG g t.one t.A3:=.step .refl ((G.mem _ _ _).mpr ⟨t,ht,rfl,.inl ⟨rfl,rfl⟩⟩)
 have e2:BG g t.A3 t.one:=.step .refl ((G.mem _ _ _).mpr ⟨t,ht,rfl,.inr ⟨rfl,rfl⟩⟩)
 intro x
 unfold CD
 split
 .rename_i e
  subst e
  rcases qU (L t.one) (L t.A3)with z|z<;>rw[z]
  .exact e2.trans (h _)
  .exact h _
 .split
  .rename_i e
   subst e
   rcases qU (L t.one) (L t.A3)with z|z<;>rw[z]
   .exact h _
   .exact e1.trans (h _)
  .exact h x
theorem jW(G:EA ps os g):∀(us:List AE) (L:Str->Str),(∀t∈us,t∈os)->(∀x,BG g x (L x))->∀x,BG g x (round us L x)
 |[],L,_,h=>h
 |t::r,L,hs,h=>jW G r (CD t L) (λu hu=>hs u (aar _ hu)) (qg G (hs t aat) h)
theorem fy(G:EA ps os g):∀(k:Nat) (x:Str),BG g x (C4 os k x)
 |0,x=>.refl
 |k+1,x=>jW G os _ (λ_ h=>h) (fy G k) x
open Classical in
theorem PH(G:EA ps os g)(nd:ps.Nodup)(hy:y∈ps):∀k:Nat,(∀x,BG g y x->Rk g k x y)\/k<(ps.filter λx=>decide (Rk g k x y)).length
 |0=>by
  right
  have:y∈ps.filter λx=>decide (Rk g 0 x y):=List.mem_filter.mpr ⟨hy,by simp[Rk]⟩
  exact adY this
 |k+1=>by
  rcases PH G nd hy k with h|h
  .exact .inl λx hx=>.inl (h x hx)
  .by_cases c:∃x∈ps,Rk g (k+1) x y/\¬ Rk g k x y
   .right
    obtain⟨x,hx,c1,c2⟩:=c
    have:=bB (xs:=x::(ps.filter λx=>decide (Rk g k x y))) (ys:=ps.filter λx=>decide (Rk g (k+1) x y))
     (List.nodup_cons.mpr ⟨λz=>c2 (by have:=(List.mem_filter.mp z).2;simpa using this),nd.sublist aa0⟩)
     (λz hz=>by
      rcases List.mem_cons.mp hz with rfl|hz
      .exact List.mem_filter.mpr ⟨hx,by simpa using c1⟩
      .obtain⟨z1,z2⟩:=List.mem_filter.mp hz
       exact List.mem_filter.mpr ⟨z1,by simp only[decide_eq_true_eq]at z2 ⊢;exact .inl z2⟩)
    rw[abp]at this
    omega
   .left
    have key:∀x,BG g y x->x∈ps/\Rk g k x y:=λx hx=>by
     induction hx with
     |refl=>
      refine⟨hy,?_⟩
      have:∀j,Rk g j y y:=λj=>by
       induction j with
       |zero=>rfl
       |succ j ih=>exact .inl ih
      exact this k
     |@step u v nm _ hv ih=>
      have JG:v∈ps:=G.OU _ hv
      refine⟨JG,?_⟩
      have:Rk g (k+1) v y:=.inr ⟨nm,u,G.sym hv,ih.2⟩
      exact aa5 λz=>c ⟨v,JG,this,z⟩
    exact λx hx=>.inl (key x hx).2
theorem rU(G:EA ps os g)(nd:ps.Nodup)(hy:y∈ps)(h:BG g y x):Rk g ps.length x y:=by
 rcases PH G nd hy ps.length with a|a
 .exact a x h
 .exact absurd a (Nat.not_lt.mpr (aaH _ _))
structure PZ(ps:List Str)(g:Str->List (Str×Str))(L:Str->Str):Prop where
 ER:∀x∈ps,L x∈ps
 rch:∀x,BG g x (L x)
 least:∀x∈ps,∀y∈ps,BG g x y->IV (L x) y
theorem oJ(G:EA ps os g)(nd:ps.Nodup):PZ ps g (C4 os ps.length) where
 ER:=λx hx=>(fy G ps.length x).ER hx λp _=>G.OU
 rch:=fy G ps.length
 least:=λx hx y hy h=>gv G ps.length x y (rU G nd hy (G.Dr h))
variable{EO:List AE}{g':Str->List (Str×Str)}
theorem jr(G:EA ps os g)(G':EA ps EO g')(h:∀t∈os,t∈EO)(r:BG g x y):BG g' x y:=by
 induction r with
 |refl=>exact .refl
 |step _ e ih=>
  obtain⟨t,a,b,c⟩:=(G.mem _ _ _).mp e
  exact .step ih ((G'.mem _ _ _).mpr ⟨t,h t a,b,c⟩)
theorem vg(G:EA ps os g)(G':EA ps EO g')(h:∀t∈os,t∈EO)(r:root ps g' s=true):root ps g s=true:=by
 rw[BB]at r ⊢
 exact λp hp e=>r p hp (jr G G' h e)
theorem im{p q:α->Bool}:∀{l:List α},(∀x∈l,p x=true->q x=true)->(l.filter p).Sublist (l.filter q)
 |[],_=>List.Sublist.refl _
 |x::l,h=>by
  have ih:=im (l:=l) λy hy=>h y (by simp[hy])
  rw[abq,abq]
  cases e:p x with
  |false=>
   rw[if_neg (by simp)]
   split
   .exact ih.cons _
   .exact ih
  |true=>
   rw[if_pos rfl,if_pos (h x (by simp) e)]
   exact ih.cons_cons _
theorem oK(G:EA ps os g){r:Str}(hr:r∈ps)(hs:s∈ps)(h1:root ps g r=true)(h2:root ps g s=true)(h:BG g r s):r=s:=by
 rw[BB]at h1 h2
 rcases cU r s with z|z|z
 .exact absurd z (h2 r hr h)
 .exact z
 .exact absurd z (h1 s hs (G.Dr h))
theorem ii(G:EA ps os g)(G':EA ps EO g')(h:∀u,u∈EO↔u∈os\/u=t)(r:BG g' x y):BG g x y\/(BG g x t.one/\BG g t.A3 y)\/(BG g x t.A3/\BG g t.one y):=by
 induction r with
 |refl=>exact .inl .refl
 |step _ e ih=>
  obtain⟨u,a,b,c⟩:=(G'.mem _ _ _).mp e
  rcases(h u).mp a with a|rfl
  .have e':=(G.mem _ _ _).mpr ⟨u,a,b,c⟩
   rcases ih with ih|⟨i1,i2⟩|⟨i1,i2⟩
   .exact .inl (.step ih e')
   .exact .inr (.inl ⟨i1,.step i2 e'⟩)
   .exact .inr (.inr ⟨i1,.step i2 e'⟩)
  .rcases c with ⟨c1,c2⟩|⟨c1,c2⟩
   .subst c1 c2
    rcases ih with ih|⟨i1,i2⟩|⟨i1,i2⟩
    .exact .inr (.inl ⟨ih,.refl⟩)
    .exact .inr (.inl ⟨i1,.refl⟩)
    .exact .inl i1
   .subst c1 c2
    rcases ih with ih|⟨i1,i2⟩|⟨i1,i2⟩
    .exact .inr (.inr ⟨ih,.refl⟩)
    .exact .inl i1
    .exact .inr (.inr ⟨i1,.refl⟩)
theorem tP(nd:ps.Nodup)(G:EA ps os g)(G':EA ps EO g')(h:∀u,u∈EO↔u∈os\/u=t)(hc:BG g t.one t.A3)(r:BG g' x y):BG g x y:=by
 rcases ii G G' h r with z|⟨z1,z2⟩|⟨z1,z2⟩
 .exact z
 .exact z1.trans (hc.trans z2)
 .exact z1.trans ((G.Dr hc).trans z2)
theorem vQ(nd:ps.Nodup)(G:EA ps os g)(G':EA ps EO g')(h:∀u,u∈EO↔u∈os\/u=t)(h1:t.one∈ps)(h2:t.A3∈ps)(hc:¬ BG g t.one t.A3):(E8 ps g').length+1=(E8 ps g).length:=by
 have L:=oJ G nd
 have KD:∀u∈os,u∈EO:=λu hu=>(h u).mpr (.inl hu)
 have S6:BG g' t.one t.A3:=.step .refl ((G'.mem _ _ _).mpr ⟨t,(h t).mpr (.inr rfl),rfl,.inl ⟨rfl,rfl⟩⟩)
 generalize Qw:C4 os ps.length t.one=ra
 generalize Qv:C4 os ps.length t.A3=IU
 have a1:ra∈ps:=by rw[<- Qw];exact L.ER _ h1
 have b1:IU∈ps:=by rw[<- Qv];exact L.ER _ h2
 have a2:BG g t.one ra:=by rw[<- Qw];exact L.rch _
 have b2:BG g t.A3 IU:=by rw[<- Qv];exact L.rch _
 have rt:∀x∈ps,root ps g (C4 os ps.length x)=true:=λx hx=>BB.mpr λp hp e lt=>L.least x hx p hp ((L.rch x).trans (G.Dr e)) lt
 have a3:root ps g ra=true:=by rw[<- Qw];exact rt _ h1
 have b3:root ps g IU=true:=by rw[<- Qv];exact rt _ h2
 have BV:ra≠IU:=λe=>hc (a2.trans (e ▸ G.Dr b2))
 have both:BG g' ra IU:=(jr G G' KD (G.Dr a2)).trans (S6.trans (jr G G' KD b2))
 obtain⟨hi,hh,O4,Sk⟩:∃hi,hi∈ps/\root ps g hi=true/\∀s∈ps,(root ps g' s=true↔root ps g s=true/\s≠hi):=by
  have main:∀lo hi,lo∈ps->hi∈ps->AZ lo hi->BG g' lo hi->(∀s∈ps,root ps g s=true->s≠hi->∀p∈ps,BG g' p s->¬ AZ p s)->∀s∈ps,(root ps g' s=true↔root ps g s=true/\s≠hi):=λlo hi hl hh lt hr key s hs=>by
   constructor
   .intro r
    refine⟨vg G G' KD r,λe=>?_⟩
    subst e
    exact BB.mp r lo hl hr lt
   .rintro⟨r,ne⟩
    exact BB.mpr (key s hs r ne)
  have isA:∀s∈ps,root ps g s=true->BG g t.one s->s=ra:=λs hs r e=>(oK G a1 hs a3 r ((G.Dr a2).trans e)).symm
  have T4:∀s∈ps,root ps g s=true->BG g t.A3 s->s=IU:=λs hs r e=>(oK G b1 hs b3 r ((G.Dr b2).trans e)).symm
  have Vo:∀p∈ps,BG g p t.one->¬ AZ p ra:=λp hp e lt=>by
   have:=L.least t.one h1 p hp (G.Dr e)
   rw[Qw]at this
   exact this lt
  have leB:∀p∈ps,BG g p t.A3->¬ AZ p IU:=λp hp e lt=>by
   have:=L.least t.A3 h2 p hp (G.Dr e)
   rw[Qv]at this
   exact this lt
  rcases cU ra IU with z|z|z
  .refine⟨IU,b1,b3,main ra IU a1 b1 z both λs hs r ne p hp e lt=>?_⟩
   rcases ii G G' h e with w|⟨w1,w2⟩|⟨w1,w2⟩
   .exact BB.mp r p hp w lt
   .exact ne (T4 s hs r w2)
   .have:=isA s hs r w2
    subst this
    rcases cU p IU with q|q|q
    .exact leB p hp w1 q
    .subst q;exact dg z lt
    .exact dg z (de q lt)
  .exact absurd z BV
  .refine⟨ra,a1,a3,main IU ra b1 a1 z (G'.Dr both) λs hs r ne p hp e lt=>?_⟩
   rcases ii G G' h e with w|⟨w1,w2⟩|⟨w1,w2⟩
   .exact BB.mp r p hp w lt
   .have:=T4 s hs r w2
    subst this
    rcases cU p ra with q|q|q
    .exact Vo p hp w1 q
    .subst q;exact dg z lt
    .exact dg z (de q lt)
   .exact ne (isA s hs r w2)
 unfold E8
 rw[aac,aac]
 have e1:ps.filter (root ps g')=(ps.filter (root ps g)).filter λs=>decide (s≠hi):=by
  rw[List.filter_filter]
  refine List.filter_congr λs hs=>?_
  rw[abe,Sk s hs,aaE,decide_eq_true_eq,and_comm]
 have Ny:(ps.filter (root ps g)).Nodup:=nd.sublist aa0
 have hm:hi∈ps.filter (root ps g):=List.mem_filter.mpr ⟨hh,O4⟩
 have e2:((ps.filter (root ps g)).filter λs=>decide (s≠hi))=(ps.filter (root ps g)).erase hi:=by
  rw[Ny.erase_eq_filter]
  refine List.filter_congr λs _=>?_
  rw[abe]
  simp
 rw[e1,e2,List.length_erase_of_mem hm]
 have:=adY hm
 omega
end Pre
namespace Pre
open PySem L2 Q
def Nw(c:Nat):Bool:=decide (97<=c) && decide (c<=122)
def Ji(x:Str):Bool:=decide (1<=x.length) && decide (x.length<=8) && x.cps.toList.all Nw
variable{x:Str}
theorem B7:Ji x=true↔tO x:=by
 unfold Ji Nw
 rw[aaE,aaE,decide_eq_true_eq,decide_eq_true_eq,ab5]
 have e:x.length=x.cps.toList.length:=by simp[aeV]
 rw[e]
 constructor
 .rintro⟨⟨a,b⟩,c⟩
  exact⟨a,b,λd hd=>by have:=c d hd;rw[aaE,decide_eq_true_eq,decide_eq_true_eq]at this;exact this⟩
 .rintro⟨a,b,c⟩
  exact⟨⟨a,b⟩,λd hd=>by rw[aaE,decide_eq_true_eq,decide_eq_true_eq];exact c d hd⟩
def Kv(ws:List Str):List Bool:=(ws.zip (ws.drop 1)).map λp=>decide (AZ p.1 p.2)
def Hl(ws:List Str):Bool:=(Kv ws).all id
def Plain:PV->Prop
 |.str s=>s.length<=1000
 |.set _=>False
 |.C2 _=>False
 |_=>True
def Ni:PV->Prop
 |.tup xs=>xs.length<=1000/\∀y∈xs,Plain y
 |x=>Plain x
def Dk:PV->Bool
 |.str x=>Ji x
 |_=>false
def LS:PV->Bool
 |.int _=>true
 |_=>false
def Hb:PV->Bool
 |.tup xs=>xs.all Dk && Hl (xs.filterMap CC)
 |_=>false
def bD:Fd:=λxs P=>∃x,xs=[x]/\Plain x/\P (.bl (Dk x))
def dr:Fd:=λxs P=>∃x,xs=[x]/\Plain x/\P (.bl (LS x))
def eJ:Fd:=λxs P=>∃ws:List Str,xs=[.tup (ws.map .str)]/\ws.length<=1000/\P (.bl (Hl ws))
def cf:Fd:=λxs P=>∃x,xs=[x]/\Ni x/\P (.bl (Hb x))
def Bc(q:Str×Str):PV:=.tup [.str q.1,.str q.2]
def Ck(ps:List Str)(g:Str->List (Str×Str)):PV:=.BJ (ps.map λp=>(aav p,.lst ((g p).map Bc)))
def HE:Option (Str×Str)->PV
 |none=>.AF
 |some q=>Bc q
def CQ(cs:Cs):PV:=.BJ (cs.map λc=>(aav c.1,HE c.2))
structure Nt(ps:List Str)(ts:List AE):Prop where
 rise:ps.Pairwise AZ
 ne:∀t∈ts,t.one≠t.A3
 pl:ps.length<=60
 tl:ts.length<=1000
def jE(ps:List Str)(ts:List AE):List Str:=(ts.filter (Bb ps)).map AE.nm
def dN:Fd:=λxs P=>∃(ps:List Str) (ts:List AE) (t:AE),xs=[lT ps ts,lE t]/\P (.bl (Bb ps t))
def eI:Fd:=λxs P=>∃(ps:List Str) (ts:List AE),xs=[lT ps ts]/\ts.length<=1000/\P (.tup ((jE ps ts).map .str))
def dG:Fd:=λxs P=>∃(ps:List Str) (ts:List AE),xs=[lT ps ts]/\Nt ps ts/\P (Ck ps (BX ps ts))
def gD:Fd:=λxs P=>∃(ps:List Str) (g:Str->List (Str×Str)) (start:Str),xs=[Ck ps g,.str start]/\ps.Nodup/\start∈ps/\(∀p∈ps,∀q∈g p,q.2∈ps)/\ps.length<=1000 /\
 ∀cs,Eu g start cs->(∀y∈C6 cs,y∈ps)->(∀y∈C6 cs,∀q∈g y,q.2∈C6 cs)->P (CQ cs)
def gB:Fd:=λxs P=>∃(ps:List Str) (g:Str->List (Str×Str)) (start:Str),xs=[Ck ps g,.str start]/\ps.Pairwise AZ/\start∈ps/\(∀p∈ps,∀q∈g p,q.2∈ps)/\ps.length<=60/\P (.tup ((ps.filter (rb g start)).map .str))
def eN:Fd:=λxs P=>∃(ps:List Str) (ts:List AE),xs=[lT ps ts]/\Nt ps ts/\P (.tup ((E8 ps (BX ps ts)).map λq=>.tup (q.map .str)))
def GH(ps:List Str)(L:Str->Str):PV:=.BJ (ps.map λp=>(aav p,.str (L p)))
variable{ps:List Str}{ts:List AE}
theorem tL:∀{l:List AE},(l.map AE.nm).Nodup->∀{a b:AE},a∈l->b∈l->a.nm=b.nm->a=b
 |t::l,h,a,b,ha,hb,e=>by
  rw[aan,afz]at h
  rcases List.mem_cons.mp ha with h1|h1
  .rcases List.mem_cons.mp hb with h2|h2
   .exact h1.trans h2.symm
   .exact absurd (h1 ▸ e ▸ aaV (f:=AE.nm) h2) h.1
  .rcases List.mem_cons.mp hb with h2|h2
   .exact absurd (h2 ▸ e ▸ aaV (f:=AE.nm) h1) h.1
   .exact tL h.2 h1 h2 e
variable{g:Str->List (Str×Str)}
theorem nr{g':Str->List (Str×Str)}(h:∀x y,BG g x y↔BG g' x y):E8 ps g=E8 ps g':=by
 have e1:root ps g=root ps g':=by
  funext s
  rw[abe,BB,BB]
  exact⟨λk p hp e=>k p hp ((h _ _).mpr e),λk p hp e=>k p hp ((h _ _).mp e)⟩
 have e2:∀s,rb g s=rb g' s:=λs=>by
  funext y
  rw[abe,DK,DK]
  exact h s y
 unfold E8
 rw[e1]
 refine aaW λs _=>?_
 rw[e2]
def Ez(t u:AE):Prop:=t.cost<u.cost\/(t.cost=u.cost/\AZ t.nm u.nm)
theorem fj(t:AE):¬ Ez t t:=by
 rintro(h|⟨_,h⟩)
 .omega
 .exact cx _ h
variable{t u v:AE}
theorem lW(h:Ez t u)(k:Ez u v):Ez t v:=by
 rcases h with h|⟨h1,h2⟩<;>rcases k with k|⟨k1,k2⟩
 .exact .inl (by omega)
 .exact .inl (by omega)
 .exact .inl (by omega)
 .exact .inr ⟨by omega,de h2 k2⟩
theorem yy(h:t.nm≠u.nm):Ez t u\/Ez u t:=by
 rcases Int.lt_trichotomy t.cost u.cost with z|z|z
 .exact .inl (.inl z)
 .rcases cU t.nm u.nm with w|w|w
  .exact .inl (.inr ⟨z,w⟩)
  .exact absurd w h
  .exact .inr (.inr ⟨z.symm,w⟩)
 .exact .inr (.inl z)
theorem Af(h:Ez t u):¬ Ez u t:=λk=>fj t (lW h k)
instance (t u:AE):Decidable (Ez t u):=inferInstanceAs (Decidable (t.cost<u.cost\/(t.cost=u.cost/\AZ t.nm u.nm)))
def below(os:List AE)(t:AE):List AE:=os.filter λu=>decide (Ez u t)
variable{os:List AE}
theorem Bl:u∈below os t↔u∈os/\Ez u t:=by
 unfold below
 rw[ace,decide_eq_true_eq]
def Min(ps:List Str)(os:List AE)(t:AE):Prop:=¬ BG (BX ps (below os t)) t.one t.A3
theorem Ee(h:∀u∈os,Bb ps u=true):EA ps os (BX ps os):=by
 have:=yC ps os
 rwa [List.filter_eq_self.mpr h]at this
variable{y:Str}
theorem cg{EO:List AE}(h:∀u∈os,Bb ps u=true)(h':∀u∈EO,Bb ps u=true)(k:∀u∈os,u∈EO)(r:BG (BX ps os) x y):BG (BX ps EO) x y:=jr (Ee h) (Ee h') k r
theorem fz(h:∀u∈os,Bb ps u=true)(ht:t∈os):BG (BX ps os) t.one t.A3:=.step .refl (((Ee h).mem _ _ _).mpr ⟨t,ht,rfl,.inl ⟨rfl,rfl⟩⟩)
def Kr(ps:List Str)(X:List AE)(G:Str->Str):Prop:=∀x∈ps,∀y∈ps,G x=G y↔BG (BX ps X) x y
theorem Kr.nil:Kr ps [] id:=λx _ y _=>by
 constructor
 .intro e
  have:x=y:=e
  subst this
  exact .refl
 .intro r
  induction r with
  |refl=>rfl
  |step _ e _=>cases e
variable{X:List AE}
theorem Kr.step{G:Str->Str}(oX:∀u∈X,Bb ps u=true)(ot:Bb ps t=true)(pn:ps.Nodup)(h:Kr ps X G):
  (G t.one=G t.A3->Kr ps (X++[t]) G)/\(G t.one≠G t.A3->Kr ps (X++[t]) λp=>if G p=G t.A3 then G t.one else G p):=by
 have OC:∀u∈X++[t],Bb ps u=true:=λu hu=>by
  rcases List.mem_append.mp hu with z|z
  .exact oX u z
  .rw[List.mem_singleton.mp z];exact ot
 have A:=Ee oX
 have A':=Ee OC
 have hm:∀u,u∈X++[t]↔u∈X\/u=t:=λu=>by rw[acy,adt]
 have up:∀{x y:Str},BG (BX ps X) x y->BG (BX ps (X++[t])) x y:=cg oX OC λu hu=>acb _ hu
 have te:BG (BX ps (X++[t])) t.one t.A3:=fz OC (by simp)
 obtain⟨o1,o2⟩:=Bm.mp ot
 refine⟨λe x hx y hy=>(h x hx y hy).trans ⟨up,tP pn A A' hm ((h _ o1 _ o2).mp e)⟩,λe x hx y hy=>?_⟩
 constructor
 .intro q
  by_cases x1:G x=G t.A3<;>by_cases y1:G y=G t.A3
  .exact up ((h x hx y hy).mp (x1.trans y1.symm))
  .simp only[if_pos x1,if_neg y1]at q
   exact(up ((h x hx _ o2).mp x1)).trans ((A'.Dr te).trans (up ((h _ o1 y hy).mp q)))
  .simp only[if_neg x1,if_pos y1]at q
   exact(up ((h x hx _ o1).mp q)).trans (te.trans (up ((h _ o2 y hy).mp y1.symm)))
  .simp only[if_neg x1,if_neg y1]at q
   exact up ((h x hx y hy).mp q)
 .intro r
  show (if G x=G t.A3 then G t.one else G x)=if G y=G t.A3 then G t.one else G y
  rcases ii A A' hm r with z|⟨z1,z2⟩|⟨z1,z2⟩
  .rw[(h x hx y hy).mpr z]
  .have a:=(h x hx _ o1).mpr z1
   have b:=(h _ o2 y hy).mpr z2
   rw[if_neg (by rw[a];exact e),if_pos b.symm,a]
  .have a:=(h x hx _ o2).mpr z1
   have b:=(h _ o1 y hy).mpr z2
   rw[if_pos a,if_neg (by rw[<- b];exact e),b]
theorem Kr.min{G:Str->Str}(oX:∀u∈X,Bb ps u=true)(oo:∀u∈os,Bb ps u=true)(ot:Bb ps t=true)(h:Kr ps X G)(hm:∀u,u∈X↔u∈below os t):G t.one≠G t.A3↔Min ps os t:=by
 obtain⟨o1,o2⟩:=Bm.mp ot
 have oB:∀u∈below os t,Bb ps u=true:=λu hu=>oo u (Bl.mp hu).1
 unfold Min
 rw[Ne,h _ o1 _ o2]
 exact⟨λk r=>k (cg oB oX (λu hu=>(hm u).mpr hu) r),λk r=>k (cg oX oB (λu hu=>(hm u).mp hu) r)⟩
abbrev RM:Str := "cheaper_first.<locals>.<lambda>"
abbrev CK(T:Addr):PV:=DE RM RN RO T
open Classical in
noncomputable def CB(ps:List Str)(os:List AE)(t:AE):Bool:=decide (Min ps os t)
noncomputable def iD(ps:List Str)(ts:List AE):List Str:=((ts.filter (Bb ps)).filter (CB ps (ts.filter (Bb ps)))).map AE.nm
theorem CW:CB ps os t=true↔Min ps os t:=by unfold CB;simp
theorem jv:∀{a b:List Str},a.Perm b->a.Pairwise AZ->b.Pairwise AZ->a=b
 |[],b,p,_,_=>(List.nil_perm.mp p).symm
 |x::a,[],p,_,_=>by have:=p.length_eq;simp at this
 |x::a,y::b,p,ha,hb=>by
  have e:x=y:=aa5 λne=>by
   rw[aeJ]at ha hb
   have h1:x∈b:=by
    rcases List.mem_cons.mp (p.mem_iff.mp aat)with z|z
    .exact absurd z ne
    .exact z
   have h2:y∈a:=by
    rcases List.mem_cons.mp (p.mem_iff.mpr aat)with z|z
    .exact absurd z.symm ne
    .exact z
   exact cx _ (de (ha.1 y h2) (hb.1 x h1))
  subst e
  rw[jv (List.perm_cons _ |>.mp p) (List.pairwise_cons.mp ha).2 (List.pairwise_cons.mp hb).2]
def bj:Fd:=λxs P=>∃(ps:List Str) (ts:List AE),xs=[lT ps ts]/\ts.length<=1000/\(ts.map AE.nm).Nodup/\P (.BJ (ts.map λt=>(aav t.nm,lE t)))
def jo:Fd:=λxs P=>∃(ps:List Str) (ts:List AE),xs=[lT ps ts]/\ts.length<=1000/\(ts.map AE.nm).Nodup/\P (.BJ (ts.map λt=>(aav t.nm,.tup [.int t.cost,.str t.nm])))
def cE(T:Addr):D5:=λc xs P=>c=CK T/\∃(ps:List Str) (ts us:List AE),xs=[lT ps ts,.tup ((us.map AE.nm).map .str)]/\ts.length<=1000/\(ts.map AE.nm).Nodup/\us.length<64/\(us.map AE.nm).Nodup/\(∀u∈us,u∈ts) /\
 ∀vs:List AE,vs.Perm us->vs.Pairwise Ez->P (.lst ((vs.map AE.nm).map .str)) (CK T)
def cD:Fd:=λxs P=>∃(ps:List Str) (ts vs:List AE),xs=[lT ps ts,.lst ((vs.map AE.nm).map .str)]/\Bs ps ts/\ps.length<=60/\ts.length<=60/\vs.Perm (ts.filter (Bb ps))/\vs.Pairwise Ez/\P (.tup ((iD ps ts).map .str))
def bQ(T:Addr):D5:=λc xs P=>c=CK T/\∃(ps:List Str) (ts:List AE),xs=[lT ps ts]/\Bs ps ts/\ps.length<=60/\ts.length<=60/\P (.tup ((iD ps ts).map .str)) (CK T)
variable{α:Type}{env:En}
theorem fO{g:WG}{fk ff:WE}{js:List (Option Nat)}{P:PV->En->Prop}(f:α->Str)(v:α->PV)(X:α->PV):∀{l done:List α},((done++l).map f).Nodup ->
  (∀a∈l,∀R:PV->PV->En->Prop,R (.str (f a)) (v a) env->g (X a) (FH js env) λb1=>fk b1 λkk b3=>ff b3 λy b4=>R kk y (BS js env b4))->done.length+l.length<=100000 ->
  P (.BJ ((done++l).map λx=>((aav (f x):Key),v x))) env->El g Fq fk ff js P (l.map X) env (done.map λx=>((aav (f x):Key),v x))
 |[],done,_,_,_,k=>by rw[abE]at k;exact k
 |a::l,done,nd,h,hl,k=>by
  have Iy:done.length+l.length+1<=100000:=by simpa[adc]using hl
  rw[aan]
  simp only[El,Fq,if_true]
  refine h a (by simp) (λkk y e=>(done.map λx=>((aav (f x):Key),v x)).length<=100000/\opt (DZ kk) λkey=>El g Fq fk ff js P (l.map X) e (E6 (done.map λx=>((aav (f x):Key),v x)) key y)) ⟨by rw[aac];omega,ab (z:=aav (f a)) rfl ?_⟩
  have hn:f a∉done.map f:=λz=>by
   rw[aaZ,abJ]at nd
   exact nd.2.2 _ z _ (by simp) rfl
  rw[oS hn]
  have e:(done.map λx=>((aav (f x):Key),v x))++[(aav (f a),v a)]=(done++[a]).map λx=>((aav (f x):Key),v x):=by rw[aaZ];rfl
  rw[e]
  refine fO f v X (by rwa [adH]) (λb hb=>h b (aar _ hb)) (by simp;omega) ?_
  rw[adH];exact k
def FJ(ps:List Str)(X:List AE):Prop:=(E8 ps (BX ps X)).length+X.length=ps.length
variable{Y:List AE}
theorem xv(oX:∀u∈X,Bb ps u=true)(h:∀u,u∈X↔u∈Y):E8 ps (BX ps X)=E8 ps (BX ps Y):=by
 have oY:∀u∈Y,Bb ps u=true:=λu hu=>oX u ((h u).mpr hu)
 exact nr λx y=>⟨cg oX oY λu hu=>(h u).mp hu,cg oY oX λu hu=>(h u).mpr hu⟩
theorem jc(p:α->Bool):∀X:List α,(X.filter (λu=>!p u)).length+(X.filter p).length=X.length
 |[]=>rfl
 |x::X=>by
  have:=jc p X
  rw[abq,abq]
  cases p x<;>simp<;>omega
theorem ie(h:∀x y,BG (BX ps X) x y->BG (BX ps Y) x y):(E8 ps (BX ps Y)).length<=(E8 ps (BX ps X)).length:=by
 unfold E8
 rw[aac,aac]
 refine(im λs _ r=>?_).length_le
 rw[BB]at r ⊢
 exact λp hp e=>r p hp (h _ _ e)
theorem cp(oX:∀u∈X,Bb ps u=true)(sym:∀{x y},BG g x y->BG g y x)(h:∀u∈X,BG g u.one u.A3)(r:BG (BX ps X) x y):BG g x y:=by
 induction r with
 |refl=>exact .refl
 |step _ e ih=>
  obtain⟨t,ht,_,z⟩:=((Ee oX).mem _ _ _).mp e
  rcases z with ⟨rfl,rfl⟩|⟨rfl,rfl⟩
  .exact ih.trans (h t ht)
  .exact ih.trans (sym (h t ht))
noncomputable def upTo(ps:List Str)(os:List AE)(u:AE):List AE:=os.filter λv=>CB ps os v && !decide (Ez u v)
theorem Cn:v∈upTo ps os u↔v∈os/\CB ps os v=true/\¬ Ez u v:=by
 unfold upTo
 rw[ace,aaE,adJ,decide_eq_false_iff_not]
theorem wH(hv:v∈below os u):(below os v).length<(below os u).length:=by
 have s:(below os v).Sublist (below os u):=im λx _ h=>decide_eq_true (lW (of_decide_eq_true h) (Bl.mp hv).2)
 rcases aaU (below os v).length (below os u).length with z|z
 .exact z
 .have e:=s.eq_of_length_le z
  rw[<- e]at hv
  exact absurd (Bl.mp hv).2 (fj _)
theorem pE(oo:∀u∈os,Bb ps u=true):∀(n:Nat) (u:AE),u∈os->(below os u).length<n->BG (BX ps (upTo ps os u)) u.one u.A3
 |0,_,_,h=>by omega
 |n+1,u,hu,h=>by
  have oU:∀v∈upTo ps os u,Bb ps v=true:=λv hv=>oo v (Cn.mp hv).1
  by_cases hm:Min ps os u
  .exact fz oU (Cn.mpr ⟨hu,CW.mpr hm,fj u⟩)
  .have r:BG (BX ps (below os u)) u.one u.A3:=aa5 hm
   refine cp (λv hv=>oo v (Bl.mp hv).1) (λr=>(Ee oU).Dr r) (λv hv=>?_) r
   have hb:=Bl.mp hv
   have ih:=pE oo n v hb.1 (by have:=wH hv;omega)
   exact cg (λw hw=>oo w (Cn.mp hw).1) oU (λw hw=>by
    obtain⟨a,b,c⟩:=Cn.mp hw
    exact Cn.mpr ⟨a,b,λz=>c (lW hb.2 z)⟩) ih
theorem rD(t:AE):∀(l:List AE),l.Pairwise Ez->(∀u∈l,u.nm≠t.nm)->∃m:List AE,m.Perm (t::l)/\m.Pairwise Ez
 |[],_,_=>⟨[t],.refl _,by simp⟩
 |a::l,up,hn=>by
  rcases yy (t:=t) (u:=a) (λe=>hn a aat e.symm)with z|z
  .refine⟨t::a::l,.refl _,List.pairwise_cons.mpr ⟨λu hu=>?_,up⟩⟩
   rcases List.mem_cons.mp hu with rfl|hu
   .exact z
   .exact lW z ((List.pairwise_cons.mp up).1 u hu)
  .obtain⟨m,pm,um⟩:=rD t l (List.pairwise_cons.mp up).2 λu hu=>hn u (aar _ hu)
   refine⟨a::m,(pm.cons a).trans (.swap _ _ _),List.pairwise_cons.mpr ⟨λu hu=>?_,um⟩⟩
   rcases List.mem_cons.mp (pm.mem_iff.mp hu)with rfl|hu
   .exact z
   .exact(List.pairwise_cons.mp up).1 u hu
theorem pR:∀(l:List AE),(l.map AE.nm).Nodup->∃m:List AE,m.Perm l/\m.Pairwise Ez
 |[],_=>⟨[],.refl _,.nil⟩
 |t::l,nd=>by
  rw[aan,afz]at nd
  obtain⟨m,pm,um⟩:=pR l nd.2
  obtain⟨k,pk,uk⟩:=rD t m um λu hu e=>nd.1 (by rw[<- e];exact aaV (pm.mem_iff.mp hu))
  exact⟨k,pk.trans (pm.cons t),uk⟩
theorem wc(pn:ps.Nodup):FJ ps []:=by
 have key:∀p y,BG (BX ps []) p y->y=p:=λp y r=>by
  induction r with
  |refl=>rfl
  |step _ e _=>cases e
 unfold FJ E8
 rw[aac,List.filter_eq_self.mpr λs hs=>BB.mpr λp hp r=>by rw[key p s r];exact cx _]
 simp
theorem uh(oX:∀u∈X,Bb ps u=true)(h:X.Perm Y)(f:FJ ps X):FJ ps Y:=by
 unfold FJ at f ⊢
 rw[<- xv oX λu=>h.mem_iff,<- h.length_eq];exact f
theorem wf(pn:ps.Nodup)(oo:∀u∈os,Bb ps u=true)(nd:(os.map AE.nm).Nodup):FJ ps (os.filter (CB ps os)):=by
 obtain⟨vs,pm,up⟩:=pR os nd
 have vo:∀u∈vs,Bb ps u=true:=λu hu=>oo u (pm.mem_iff.mp hu)
 have Qx:=List.pairwise_iff_getElem.mp up
 have main:∀j,j<=vs.length->FJ ps ((vs.take j).filter (CB ps os)).reverse:=by
  intro j
  induction j with
  |zero=>intro _;exact wc pn
  |succ j ih=>
   intro hj
   have f:=ih (by omega)
   have Gu:j<vs.length:=by omega
   have et:vs.take (j+1)=vs.take j++[vs[j]]:=by rw[abY,aab Gu];rfl
   rw[et,aeM,abq,List.filter_nil]
   split
   .rename_i hm
    rw[List.reverse_append]
    show FJ ps (vs[j]::((vs.take j).filter (CB ps os)).reverse)
    generalize hX:((vs.take j).filter (CB ps os)).reverse=X at f ⊢
    have mX:∀u∈X,u∈vs.take j:=λu hu=>by
     rw[<- hX,List.mem_reverse]at hu
     exact(List.mem_filter.mp hu).1
    have oX:∀u∈X,Bb ps u=true:=λu hu=>vo u (abL (mX u hu))
    have ot:=vo vs[j] (abl _)
    have OC:∀u∈vs[j]::X,Bb ps u=true:=λu hu=>by
     rcases List.mem_cons.mp hu with rfl|z
     .exact ot
     .exact oX u z
    have hc:¬ BG (BX ps X) vs[j].one vs[j].A3:=λr=>(CW.mp hm) (cg oX (λu hu=>oo u (Bl.mp hu).1) (λu hu=>by
     obtain⟨i,hi,e⟩:=List.mem_iff_getElem.mp (mX u hu)
     rw[ae2]at e
     rw[aa8]at hi
     refine Bl.mpr ⟨pm.mem_iff.mp (abL (mX u hu)),?_⟩
     rw[<- e]
     exact Qx i j (by omega) Gu (by omega)) r)
    have:=vQ pn (Ee oX) (Ee OC) (t:=vs[j]) (λu=>by rw[aa2];exact Or.comm) (Bm.mp ot).1 (Bm.mp ot).2 hc
    unfold FJ at f ⊢
    rw[abp]
    omega
   .rw[abE];exact f
 have f:=main vs.length (aal _)
 rw[abF]at f
 exact uh (λu hu=>vo u (List.mem_filter.mp (List.mem_reverse.mp hu)).1) ((List.reverse_perm _).trans (pm.filter _)) f
theorem vb(oo:∀u∈os,Bb ps u=true):E8 ps (BX ps (os.filter (CB ps os)))=E8 ps (BX ps os):=by
 have oM:∀u∈os.filter (CB ps os),Bb ps u=true:=λu hu=>oo u (List.mem_filter.mp hu).1
 refine nr λx y=>⟨cg oM oo λu hu=>(List.mem_filter.mp hu).1,λr=>cp oo (λr=>(Ee oM).Dr r) (λu hu=>?_) r⟩
 exact cg (λw hw=>oo w (Cn.mp hw).1) oM (λw hw=>by
  obtain⟨a,b,_⟩:=Cn.mp hw
  exact List.mem_filter.mpr ⟨a,b⟩) (pE oo _ u hu (abx _))
theorem oN:∀{a b:List AE},a.Perm b->(a.map AE.nm).Pairwise AZ->(b.map AE.nm).Pairwise AZ->a=b
 |[],b,p,_,_=>(List.nil_perm.mp p).symm
 |x::a,[],p,_,_=>by have:=p.length_eq;simp at this
 |x::a,y::b,p,ha,hb=>by
  have e:x=y:=aa5 λne=>by
   rw[aan,aeJ]at ha hb
   have h1:x∈b:=by
    rcases List.mem_cons.mp (p.mem_iff.mp aat)with z|z
    .exact absurd z ne
    .exact z
   have h2:y∈a:=by
    rcases List.mem_cons.mp (p.mem_iff.mpr aat)with z|z
    .exact absurd z.symm ne
    .exact z
   exact cx _ (de (ha.1 y.nm (aaV h2)) (hb.1 x.nm (aaV h1)))
  subst e
  rw[aan,aeJ]at ha hb
  rw[oN (List.perm_cons _ |>.mp p) ha.2 hb.2]
inductive DT where
 |Fz (p:Str)
 |DM (p:Str)
 |tie (n a b:Str) (c:Int)
 |EK (n:Str)
 |cos (n:Str) (c:Int)
def AX:DT->PV
 |.Fz p=>.tup [.str "place",.str p]
 |.DM p=>.tup [.str "leave",.str p]
 |.tie n a b c=>.tup [.str "tie",.str n,.str a,.str b,.int c]
 |.EK n=>.tup [.str "untie",.str n]
 |.cos n c=>.tup [.str "cost",.str n,.int c]
structure FI(ps:List Str)(ts:List AE):Prop where
 ok:Bs ps ts
 pl:ps.length<=60
 tl:ts.length<=60
def Bd(n:Int):Prop := -(10 ^ 30)<n/\n<10 ^ 30
def Je(ps:List Str)(ts:List AE):DT->Prop
 |.Fz p=>tO p/\p∉ps
 |.DM p=>p∈ps
 |.tie n a b c=>tO n/\tO a/\tO b/\a≠b/\n∉ts.map AE.nm/\Bd c
 |.EK n=>n∈ts.map AE.nm
 |.cos n c=>n∈ts.map AE.nm/\Bd c
def DN(p:Str)(ps:List Str):List Str:=ps.filter (λq=>decide (AZ q p))++p::ps.filter (λq=>!decide (AZ q p))
def Hs(t:AE)(ts:List AE):List AE:=ts.filter (λq=>decide (AZ q.nm t.nm))++t::ts.filter (λq=>!decide (AZ q.nm t.nm))
def Nz(n a b:Str)(c:Int):AE:=⟨n,Cp a b,EF a b,c⟩
def A0(ps:List Str):DT->List Str
 |.Fz p=>DN p ps
 |.DM p=>ps.filter λq=>!decide (q=p)
 |_=>ps
def Bh(ts:List AE):DT->List AE
 |.tie n a b c=>Hs (Nz n a b c) ts
 |.EK n=>ts.filter λt=>!decide (t.nm=n)
 |.cos n c=>ts.map λt=>if t.nm=n then {t with cost:=c}else t
 |_=>ts
theorem dY(p:Str)(ps:List Str):(DN p ps).Perm (ps++[p]):=by
 unfold DN
 refine List.perm_middle.trans ?_
 refine((adS (λq=>decide (AZ q p)) ps).cons p).trans ?_
 exact(List.perm_append_comm (l₁:=[p]) (l₂:=ps))
theorem dX(t:AE)(ts:List AE):(Hs t ts).Perm (ts++[t]):=by
 unfold Hs
 refine List.perm_middle.trans ?_
 refine((adS (λq:AE=>decide (AZ q.nm t.nm)) ts).cons t).trans ?_
 exact(List.perm_append_comm (l₁:=[t]) (l₂:=ts))
theorem om(h1:¬ AZ x y)(h2:x≠y):AZ y x:=by
 rcases cU x y with h|h|h
 .exact absurd h h1
 .exact absurd h h2
 .exact h
variable{p:Str}
theorem nH(h:ps.Pairwise AZ)(hp:p∉ps):(DN p ps).Pairwise AZ:=by
 unfold DN
 rw[List.pairwise_append]
 refine⟨h.sublist aa0,List.pairwise_cons.mpr ⟨λy hy=>?_,h.sublist aa0⟩,λx hx y hy=>?_⟩
 .obtain⟨h1,h2⟩:=List.mem_filter.mp hy
  exact om (by simpa using h2) (λe=>hp (e ▸ h1))
 .have IW:AZ x p:=by simpa using (List.mem_filter.mp hx).2
  rcases List.mem_cons.mp hy with rfl|hy
  .exact IW
  .obtain⟨h1,h2⟩:=List.mem_filter.mp hy
   exact de IW (om (by simpa using h2) (λe=>hp (e ▸ h1)))
theorem nG(h:(ts.map AE.nm).Pairwise AZ)(hp:t.nm∉ts.map AE.nm):((Hs t ts).map AE.nm).Pairwise AZ:=by
 unfold Hs
 rw[aaZ,aan,List.pairwise_append]
 refine⟨h.sublist (List.filter_sublist.map _),List.pairwise_cons.mpr ⟨λy hy=>?_,h.sublist (List.filter_sublist.map _)⟩,λx hx y hy=>?_⟩
 .obtain⟨u,hu,rfl⟩:=List.mem_map.mp hy
  obtain⟨h1,h2⟩:=List.mem_filter.mp hu
  exact om (by simpa using h2) (λe=>hp (e ▸ aaV h1))
 .obtain⟨v,hv,rfl⟩:=List.mem_map.mp hx
  have IW:AZ v.nm t.nm:=by simpa using (List.mem_filter.mp hv).2
  rcases List.mem_cons.mp hy with rfl|hy
  .exact IW
  .obtain⟨u,hu,rfl⟩:=List.mem_map.mp hy
   obtain⟨h1,h2⟩:=List.mem_filter.mp hu
   exact de IW (om (by simpa using h2) (λe=>hp (e ▸ aaV h1)))
theorem se{a b:Str}(h:a≠b):AZ (Cp a b) (EF a b):=by
 unfold Cp EF
 rcases cU a b with z|z|z
 .rw[if_neg (dg z),if_pos z];exact z
 .exact absurd z h
 .rw[if_pos z,if_neg (dg z)];exact z
theorem pD{a b:Str}(ha:tO a)(hb:tO b):tO (Cp a b)/\tO (EF a b):=by
 unfold Cp EF
 constructor<;>split<;>assumption
theorem Ae(ts:List AE)(n:Str)(c:Int):(ts.map λt=>if t.nm=n then {t with cost:=c}else t).map AE.nm=ts.map AE.nm:=by
 rw[aaw]
 refine aaW λt _=>?_
 show AE.nm (if t.nm=n then {t with cost:=c}else t)=t.nm
 split<;>rfl
variable{d:DT}
theorem Ag(h:Bs ps ts)(hd:Je ps ts d):Bs (A0 ps d) (Bh ts d):=by
 cases d with
 |Fz p=>
  refine⟨nH h.rise hd.2,λx hx=>?_,h.names,h.tie⟩
  rcases List.mem_append.mp ((dY p ps).mem_iff.mp hx)with z|z
  .exact h.word x z
  .rw[List.mem_singleton.mp z];exact hd.1
 |DM p=>exact⟨h.rise.sublist aa0,λx hx=>h.word x (List.mem_filter.mp hx).1,h.names,h.tie⟩
 |tie n a b c=>
  obtain⟨h1,h2,h3,h4,h5,h6⟩:=hd
  refine⟨h.rise,h.word,nG h.names h5,λt ht=>?_⟩
  rcases List.mem_append.mp ((dX (Nz n a b c) ts).mem_iff.mp ht)with z|z
  .exact h.tie t z
  .rw[List.mem_singleton.mp z]
   exact⟨h1,(pD h2 h3).1,(pD h2 h3).2,se h4,h6.1,h6.2⟩
 |EK n=>exact⟨h.rise,h.word,h.names.sublist (List.filter_sublist.map _),λt ht=>h.tie t (List.mem_filter.mp ht).1⟩
 |cos n c=>
  refine⟨h.rise,h.word,(by show (List.map AE.nm (ts.map λt=>if t.nm=n then {t with cost:=c}else t)).Pairwise AZ;rw[Ae];exact h.names),λt ht=>?_⟩
  obtain⟨u,hu,rfl⟩:=List.mem_map.mp ht
  have q:=h.tie u hu
  split
  .exact⟨q.nm,q.one,q.A3,q.lt,hd.2.1,hd.2.2⟩
  .exact q
theorem mZ(d:DT):(A0 ps d).length<=ps.length+1/\(Bh ts d).length<=ts.length+1:=by
 cases d with
 |Fz p=>exact⟨by show (DN p ps).length<=_;rw[(dY p ps).length_eq,aau];exact aal _,aca _⟩
 |DM p=>exact⟨ae0 (aaH _ _),aca _⟩
 |tie n a b c=>exact⟨aca _,by show (Hs _ ts).length<=_;rw[(dX _ ts).length_eq,aau];exact aal _⟩
 |EK n=>exact⟨aca _,ae0 (aaH _ _)⟩
 |cos n c=>exact⟨aca _,by show (ts.map _).length<=_;rw[aac];exact aca _⟩
def Tr:Nat->PV->Prop
 |0,_=>False
 |d+1,x=>(∃s,x=.str s)\/(∃n,x=.int n)\/∃l,x=.tup l/\l.length<=1000/\∀y∈l,Tr d y
def bu:Fd:=λxs P=>∃(a b:Str) (c:Int),xs=[.tup [.str a,.str b,.int c]]/\tO a/\tO b/\a≠b/\P (.bl true)
def DW:DT->Prop
 |.Fz p=>tO p
 |.DM p=>tO p
 |.tie n a b _=>tO n/\tO a/\tO b/\a≠b
 |.EK n=>tO n
 |.cos n _=>tO n
def gC:Fd:=λxs P=>∃d:DT,xs=[AX d]/\DW d/\P (.bl true)
def ck:Fd:=λxs P=>∃(ps:List Str) (ts:List AE) (p:Str),xs=[lT ps ts,AX (.Fz p)]/\FI ps ts/\Je ps ts (.Fz p)/\P (lT (DN p ps) ts)
def b8:Fd:=λxs P=>∃(ps:List Str) (ts:List AE) (p:Str),xs=[lT ps ts,AX (.DM p)]/\FI ps ts/\Je ps ts (.DM p)/\P (lT (A0 ps (.DM p)) ts)
def cM:Fd:=λxs P=>∃(ps:List Str) (ts:List AE) (n a b:Str) (c:Int),xs=[lT ps ts,AX (.tie n a b c)]/\FI ps ts/\Je ps ts (.tie n a b c)/\P (lT ps (Hs (Nz n a b c) ts))
def dq:Fd:=λxs P=>∃(ps:List Str) (ts:List AE) (n:Str),xs=[lT ps ts,AX (.EK n)]/\FI ps ts/\Je ps ts (.EK n)/\P (lT ps (Bh ts (.EK n)))
def cL:Fd:=λxs P=>∃(ps:List Str) (ts:List AE) (n:Str) (c:Int),xs=[lT ps ts,AX (.cos n c)]/\FI ps ts/\Je ps ts (.cos n c)/\P (lT ps (Bh ts (.cos n c)))
def cK:Fd:=λxs P=>∃(ps:List Str) (ts:List AE) (d:DT),xs=[lT ps ts,AX d]/\FI ps ts/\Je ps ts d/\P (lT (A0 ps d) (Bh ts d))
def fS:D5:=λc xs P=>c=.AF/\∃ys:List PV,(xs=[.lst ys]\/xs=[.tup ys])/\ys≠[]/\ys.length<=1000/\∀y∈ys,P y .AF
def f9:D5:=λc xs P=>c=.AF/\∃tk:List Str,(xs=[.lst (tk.map .str)]\/xs=[.tup (tk.map .str)])/\tk.length<=30/\∀x:Str,tO x->x∉tk->P (.str x) .AF
def gG:D5:=λc xs P=>c=.AF/\∃(ps:List Str) (ts:List AE) (Fs:List Str),xs=[lT ps ts,.lst (Fs.map .str)]/\Bs ps ts/\ps.length<=12/\ts.length<30/\Fs.length<=60/\Fs.Nodup/\(∀x∈Fs,tO x/\x∉ps) /\
 ∀(n a b:Str) (c:Int),Je ps ts (.tie n a b c)->P (AX (.tie n a b c)) .AF
def lg:D5:=λc xs P=>c=.AF/\∃(ps:List Str) (ts:List AE),xs=[lT ps ts]/\Bs ps ts/\ps.length<=12/\ts.length<=30/\∀d:DT,Je ps ts d->(A0 ps d).length<=12->(Bh ts d).length<=30->P (AX d) .AF
def off(as bs:List Str):List Str:=as.filter λa=>!decide (a∈bs)
def NO(as bs:List Str):PV:=.tup [.tup ((off as bs).map .str),.tup ((off bs as).map .str)]
def gF:Fd:=λxs P=>∃as bs:List Str,xs=[.tup (as.map .str),.tup (bs.map .str)]/\as.length<=1000/\bs.length<=1000/\P (NO as bs)
structure LK(ps:List Str)(ts:List AE)(d:DT):Prop where
 S:FI ps ts
 ok:Je ps ts d
 s2:FI (A0 ps d) (Bh ts d)
def dt(T:Addr):D5:=λc xs P=>c=CK T/\∃(ps:List Str) (ts:List AE) (d:DT),xs=[lT ps ts,AX d]/\LK ps ts d/\P (NO (iD ps ts) (iD (A0 ps d) (Bh ts d))) (CK T)
def cu(T:Addr):D5:=λc xs P=>c=CK T/\∃(ps:List Str) (ts:List AE) (d:DT),xs=[lT ps ts,AX d,NO (iD ps ts) (iD (A0 ps d) (Bh ts d))]/\LK ps ts d/\P (.bl true) (CK T)
def IJ(ns:List Str)(p:Str)(ts:List AE):List Str:=(ts.filter λt=>decide (t.nm∈ns) && decide (p∈[t.one,t.A3])).map AE.nm
def du:Fd:=λxs P=>∃(ps:List Str) (ts:List AE) (ns:List Str) (p:Str),xs=[lT ps ts,.tup (ns.map .str),.str p]/\ts.length<=1000/\P (.tup ((IJ ns p ts).map .str))
def m7:Fd:=λxs P=>∃(ps:List Str) (ts:List AE) (d:DT),xs=[lT ps ts,lT (A0 ps d) (Bh ts d),AX d,.tup ((off (iD ps ts) (iD (A0 ps d) (Bh ts d))).map .str),.tup ((off (iD (A0 ps d) (Bh ts d)) (iD ps ts)).map .str)]/\LK ps ts d/\P (.bl true)
def jp(T:Addr):D5:=λc xs P=>c=CK T/\∃(ps:List Str) (ts:List AE) (d:DT),xs=[lT ps ts,AX d]/\LK ps ts d/\P (.bl true) (CK T)
def gb:WS :=
  (oR (Cc (Fx (CT (CL (GS "str" (Bq 0)))) (CT (oF (Ek Hr Hr (eC (.int 1)) (BR Bn (a1 (Bq 0))) (eC (.int 8)))))) (AO (eC (.bl false))) Bj)
  (AO (BR D4 (aS (Dj (JE (eV 0)) (.nm 0) Fq (Ek Hr Hr (eC (.str "a")) (eV 0) (eC (.str "z"))) [none]) bY))))
def fo:WS :=
  (AO (D2 (GS "int" (Bq 0)) (Nb (GS "bool" (Bq 0)))))
def eB:WS :=
  (AO (BR D4 (aS (Dj (iZ (aS (eV 0) (aS (HZ (eV 0) (CF (eC (.int 1))) C8) bY))) (.tp [0,1]) Fq (iF FA (eV 0) (Bq 1)) [none,none]) bY)))
def eD:WS :=
  (oR (Cc (Fx (CT (CL (GS "tuple" (Bq 0)))) (CT (CL (BR D4 (aS (Dj (iS (eV 0)) (.nm 0) Fq (AV bD (aS (eV 0) bY)) [none]) bY))))) (AO (eC (.bl false))) Bj)
  (AO (AV eJ (aS (eV 0) bY))))
def gc:WS :=
  (AO (D2 (iF C0 (iF gE (eV 1) (eC (.int 1))) (iF gE (eV 0) (eC (.int 0)))) (iF C0 (iF gE (eV 1) (eC (.int 2))) (iF gE (eV 0) (eC (.int 0))))))
def cP:WS :=
  (AO (KW (iS (iF gE (eV 0) (eC (.int 1)))) (.nm 0) Fq (iF gE (eV 0) (eC (.int 0))) (eV 0) [none]))
def eu:WS :=
  (AO (BR aZ (aS (Dj (iS (iF gE (eV 0) (eC (.int 1)))) (.nm 0) (CL (AV dN (aS (eV 1) (aS (eV 0) bY)))) (iF gE (eV 0) (eC (.int 0))) [none,some 0]) bY)))
def iE:WS :=
  (AO (KW (iS (iF gE (eV 0) (eC (.int 1)))) (.nm 0) Fq (iF gE (eV 0) (eC (.int 0))) (AW (aS (iF gE (eV 0) (eC (.int 3))) (aS (iF gE (eV 0) (eC (.int 0))) bY))) [none]))
def cC(T:Addr):WS :=
  (oR (A5 2 (AV jo (aS (eV 0) bY)))
  (AO (HD 3 2 "cheaper_first.<locals>.<lambda>" 26 29 T (eV 1))))
def cB:WS :=
  (oR (A5 2 (AV bj (aS (eV 0) bY)))
  (oR (Dq 3 (KW (iS (iF gE (eV 0) (eC (.int 0)))) (.nm 0) Fq (eV 0) (eV 0) [none]))
  (oR (Dq 4 (EI bY))
  (oR (E4 (iS (eV 1)) (gN 5) (oR (A5 6 (iF gE (eV 2) (Bq 5)))
  (oR (GA (AW (aS (IG gE 3 (iF gE (eV 6) (eC (.int 1)))) (aS (IG gE 3 (iF gE (eV 6) (eC (.int 2)))) bY))) (gT (Bx (gN 7) (Bx (gN 8) DF))))
  (Cc (oF (iF DD (eV 7) (Bq 8))) (oR (Ew (JW ci 4 (aS (eV 5) bY)))
  (Dq 3 (KW (mP 3) (.tp [0,1]) Fq (eV 0) (QG (oF (iF AN (eV 1) (Bq 3))) (eV 2) (eV 1)) [none,none,some 7,some 8]))) Bj))))
  (AO (BR aZ (aS (Cv (a1 (Bq 4))) bY)))))))
def ft(T:Addr):WS :=
  (AO (AV cD (aS (eV 0) (aS (Bz (cE T) 1 (aS (eV 0) (aS (AV eI (aS (eV 0) bY)) bY))) bY))))
def bO:WS :=
  (oR (Cc (Fx (oF (iF DD (BR Bn (a1 (Bq 0))) (eC (.int 3)))) (Fx (CT (CL (AV bD (aS (iF gE (eV 0) (eC (.int 0))) bY)))) (CT (CL (AV bD (aS (iF gE (eV 0) (eC (.int 1))) bY)))))) (AO (eC (.bl false))) Bj)
  (AO (D2 (iF DD (iF gE (eV 0) (eC (.int 0))) (iF gE (eV 0) (eC (.int 1)))) (AV dr (aS (iF gE (eV 0) (eC (.int 2))) bY)))))
def dH:WS :=
  (oR (Cc (Fx (CT (CL (GS "tuple" (Bq 0)))) (Fx (oF (iF FA (BR Bn (a1 (Bq 0))) (eC (.int 2)))) (Fx (CT (CL (AV bD (aS (iF gE (eV 0) (eC (.int 0))) bY)))) (CT (CL (AV bD (aS (iF gE (eV 0) (eC (.int 1))) bY))))))) (AO (eC (.bl false))) Bj)
  (oR (A5 1 (HZ (eV 0) (CF (eC (.int 2))) C8))
  (oR (Cc (oF (iF AN (iF gE (eV 0) (eC (.int 0))) (eC (.str "tie")))) (AO (AV bu (aS (eV 1) bY))) Bj)
  (oR (Cc (oF (iF AN (iF gE (eV 0) (eC (.int 0))) (eC (.str "cost")))) (AO (D2 (iF AN (BR Bn (a1 (Bq 1))) (eC (.int 1))) (AV dr (aS (iF gE (eV 1) (eC (.int 0))) bY)))) Bj)
  (AO (D2 (iF C0 (iF gE (eV 0) (eC (.int 0))) (AW (aS (eC (.str "place")) (aS (eC (.str "leave")) (aS (eC (.str "untie")) bY))))) (iF AN (BR Bn (a1 (Bq 1))) (eC (.int 0)))))))))
def cX:WS :=
  (oR (A5 2 (iF gE (eV 1) (eC (.int 1))))
  (oR (Cc (oF (iF C0 (eV 2) (iF gE (eV 0) (eC (.int 0))))) Hk Bj)
  (AO (AW (aS (BR aZ (aS (HB (aS (iF AY (iF gE (eV 0) (eC (.int 0))) (AW (aS (eV 2) bY))) bY)) bY)) (aS (iF gE (eV 0) (eC (.int 1))) bY))))))
def cQ:WS :=
  (oR (A5 2 (iF gE (eV 1) (eC (.int 1))))
  (oR (Cc (oF (iF BH (eV 2) (iF gE (eV 0) (eC (.int 0))))) Hk Bj)
  (AO (AW (aS (BR aZ (aS (Dj (iS (iF gE (eV 0) (eC (.int 0)))) (.nm 0) (oF (iF DD (eV 0) (Bq 1))) (eV 0) [none,some 2]) bY)) (aS (iF gE (eV 0) (eC (.int 1))) bY))))))
def eh:WS :=
  (oR (GA (HZ (eV 1) (CF (eC (.int 1))) C8) (gT (Bx (gN 2) (Bx (gN 3) (Bx (gN 4) (Bx (gN 5) DF))))))
  (oR (Cc (oF (iF C0 (eV 2) (AV bj (aS (eV 0) bY)))) Hk Bj)
  (oR (A5 6 (AW (aS (eV 2) (aS (BR JB (aS (eV 3) (aS (eV 4) bY))) (aS (BR GF (aS (eV 3) (aS (eV 4) bY))) (aS (eV 5) bY))))))
  (AO (AW (aS (iF gE (eV 0) (eC (.int 0))) (aS (BR aZ (aS (mY (aS (iF AY (iF gE (eV 0) (eC (.int 1))) (AW (aS (eV 6) bY))) bY)) bY)) bY)))))))
def fm:WS :=
  (oR (A5 2 (iF gE (eV 1) (eC (.int 1))))
  (oR (Cc (oF (iF BH (eV 2) (AV bj (aS (eV 0) bY)))) Hk Bj)
  (AO (AW (aS (iF gE (eV 0) (eC (.int 0))) (aS (BR aZ (aS (Dj (iS (iF gE (eV 0) (eC (.int 1)))) (.nm 0) (oF (iF DD (iF gE (eV 0) (eC (.int 0))) (Bq 1))) (eV 0) [none,some 2]) bY)) bY))))))
def ee:WS :=
  (oR (GA (HZ (eV 1) (CF (eC (.int 1))) C8) (gT (Bx (gN 2) (Bx (gN 3) DF))))
  (oR (Cc (oF (iF BH (eV 2) (AV bj (aS (eV 0) bY)))) Hk Bj)
  (AO (AW (aS (iF gE (eV 0) (eC (.int 0))) (aS (BR aZ (aS (Dj (iS (iF gE (eV 0) (eC (.int 1)))) (.nm 0) Fq (QG (oF (iF AN (iF gE (eV 0) (eC (.int 0))) (Bq 1))) (iF AY (HZ (eV 0) C8 (CF (eC (.int 3)))) (AW (aS (eV 2) bY))) (eV 0)) [none,some 2,some 3]) bY)) bY))))))
def gf:WS :=
  (oR (Cc (CT (CL (AV gC (aS (eV 1) bY)))) Hk Bj)
  (Jt 2 [("place",ck),("leave",b8),("tie",cM),("untie",dq),("cost",cL)] (iF gE (eV 1) (eC (.int 0))) (aS (eV 0) (aS (eV 1) bY))))
def gh:WS :=
  (oR (A5 2 (BR aZ (aS (Dj (iS (eV 0)) (.nm 0) (oF (iF BH (eV 0) (Bq 1))) (eV 0) [none,some 1]) bY)))
  (oR (A5 3 (BR aZ (aS (Dj (iS (eV 1)) (.nm 0) (oF (iF BH (eV 0) (Bq 1))) (eV 0) [none,some 0]) bY)))
  (AO (AW (aS (eV 2) (aS (eV 3) bY))))))
def fq(T:Addr):WS :=
  (AO (AV gF (aS (Bz (bQ T) 2 (aS (eV 0) bY)) (aS (Bz (bQ T) 2 (aS (AV cK (aS (eV 0) (aS (eV 1) bY))) bY)) bY))))
def cm(T:Addr):WS :=
  (oR (Cc (Fx (CT (CL (GS "tuple" (Bq 2)))) (Fx (oF (iF DD (BR Bn (a1 (Bq 2))) (eC (.int 2)))) (Fx (CT (CL (AV cf (aS (iF gE (eV 2) (eC (.int 0))) bY)))) (CT (CL (AV cf (aS (iF gE (eV 2) (eC (.int 1))) bY))))))) (AO (eC (.bl false))) Bj)
  (AO (iF AN (eV 2) (Bz (dt T) 3 (aS (eV 0) (aS (eV 1) bY))))))
def dy:WS :=
  (oR (mr 1 (iS (iF gE (eV 0) (eC (.int 0)))))
  (oR (E4 (iS (iF gE (eV 0) (eC (.int 1)))) (gN 2) (Cc (CL (AV dN (aS (eV 0) (aS (eV 2) bY)))) (oR (gH 1 (iF gE (eV 2) (eC (.int 1))) (AW (aS (iF gE (eV 2) (eC (.int 0))) (aS (iF gE (eV 2) (eC (.int 2))) bY))))
  (gH 1 (iF gE (eV 2) (eC (.int 2))) (AW (aS (iF gE (eV 2) (eC (.int 0))) (aS (iF gE (eV 2) (eC (.int 1))) bY))))) Bj))
  (mq 1)))
def gg:WS :=
  (oR (Dq 2 (Lw (((eV 1),(eC .AF))::[])))
  (oR (Dq 3 (EI (aS (eV 1) bY)))
  (oR (EZ (CL (Bq 3)) (oR (A5 4 (JW KC 3 bY))
  (E4 (iS (iF gE (eV 0) (Bq 4))) (gT (Bx (gN 5) (Bx (gN 6) DF))) (Cc (oF (iF BH (eV 6) (Bq 2))) (oR (Mk 2 (AW (aS (eV 5) (aS (eV 4) bY))) (eV 6))
  (Ew (JW ci 3 (aS (eV 6) bY)))) Bj))))
  (AO (eV 2)))))
def ga:WS :=
  (AO (BR aZ (aS (Cv (aS (AV gD (aS (eV 0) (aS (eV 1) bY))) bY)) bY)))
def g9:WS :=
  (oR (A5 1 (AV dG (aS (eV 0) bY)))
  (oR (qK 2)
  (oR (Dq 3 (EI bY))
  (oR (E4 (iS (iF gE (eV 0) (eC (.int 0)))) (gN 4) (Cc (oF (iF BH (eV 4) (Bq 2))) (oR (A5 5 (AV gB (aS (eV 1) (aS (eV 4) bY))))
  (oR (E4 (iS (eV 5)) (gN 6) (qL 2 (eV 6)))
  (Ew (JW ci 3 (aS (eV 5) bY))))) Bj))
  (AO (BR aZ (a1 (Bq 3))))))))
def iG:WS :=
  (oR (A5 2 (eC (.str "abcdefghijklmnopqrstuvwxyz")))
  (oR (A5 3 (iF gE (eV 2) (AD aD 0 (aS (eC (.int 26)) bY))))
  (oR (A5 4 (AD aD 0 (aS (eC (.int 7)) bY)))
  (oR (A5 5 (AD aD 0 (aS (iF AY (eV 4) (eC (.int 1))) bY)))
  (oR (A5 6 (AD aD 0 (aS (eC (.int 26)) bY)))
  (oR (Dq 7 (EI bY))
  (oR (E4 (MH (aS (eV 1) bY)) (gN 8) (oR (A5 9 (iF AY (iF gE (eV 2) (iF DY (iF AY (eV 6) (iF CV (eC (.int 5)) (Bq 8))) (eC (.int 26)))) (iF gE (eV 2) (iF DY (iF AY (eV 6) (iF H0 (eV 8) (eC (.int 26)))) (eC (.int 26))))))
  (Cc (DB (oF (iF FA (eV 1) (eC (.int 8)))) (oF (iF AN (eV 4) (eC (.int 6))))) (Ew (JW ci 7 (aS (iF CV (eV 3) (iF AY (eV 8) (eC (.int 1)))) bY))) (Ew (JW ci 7 (aS (iF AY (iF AY (iF CV (eV 3) (Bq 5)) (Bq 9)) (iF CV (eV 3) (iF Co (eV 4) (Bq 5)))) bY))))))
  (AO (eV 7)))))))))
def kf:WS :=
  (oR (Cc (oF (iF AN (eV 1) (eC (.int 0)))) (AO (eC (.int 5))) Bj)
  (oR (Cc (oF (iF AN (eV 1) (eC (.int 1)))) (AO (iF Co (AD aD 0 (aS (eC (.int 3)) bY)) (eC (.int 1)))) Bj)
  (oR (Cc (oF (iF AN (eV 1) (eC (.int 2)))) (AO (iF Co (AD aD 0 (aS (eC (.int 200)) bY)) (eC (.int 100)))) Bj)
  (AO (iF gE (EI (aS (iF Co (iF E7 (eC (.int 10)) (eC (.int 30))) (eC (.int 1))) (aS (iF Co (eC (.int 1)) (iF E7 (eC (.int 10)) (eC (.int 30)))) (aS (eC (.int 0)) (aS (AD aD 0 (aS (iF E7 (eC (.int 10)) (eC (.int 9))) bY)) bY))))) (AD aD 0 (aS (eC (.int 4)) bY)))))))
def j8:WS :=
  (oR (Cc (oF (iF AN (eV 1) (eC (.int 2)))) (AO (AW (aS (iF DY (eV 3) (Bq 2)) (aS (iF DY (iF AY (eV 3) (eC (.int 1))) (Bq 2)) bY)))) Bj)
  (oR (Cc (oF (iF AN (eV 1) (eC (.int 3)))) (AO (AW (aS (eC (.int 0)) (aS (iF AY (eC (.int 1)) (AD aD 0 (aS (iF Co (eV 2) (eC (.int 1))) bY))) bY)))) Bj)
  (oR (Cc (DB (oF (iF AN (eV 1) (eC (.int 4)))) (oF (iF FG (eV 2) (eC (.int 3))))) (oR (A5 4 (iF H0 (eV 2) (eC (.int 2))))
  (oR (A5 5 (AD aD 0 (aS (eC (.int 2)) bY)))
  (oR (A5 6 (AD aD 0 (aS (eV 4) bY)))
  (AO (AW (aS (iF AY (iF CV (eV 5) (Bq 4)) (Bq 6)) (aS (iF AY (iF CV (eV 5) (Bq 4)) (iF DY (iF AY (iF AY (eV 6) (eC (.int 1))) (AD aD 0 (aS (iF Co (eV 4) (eC (.int 1))) bY))) (Bq 4))) bY))))))) Bj)
  (oR (A5 6 (AD aD 0 (aS (eV 2) bY)))
  (AO (AW (aS (eV 6) (aS (iF DY (iF AY (iF AY (eV 6) (eC (.int 1))) (AD aD 0 (aS (iF Co (eV 2) (eC (.int 1))) bY))) (Bq 2)) bY))))))))
def lZ:WS :=
  (oR (A5 3 (AD aD 0 (aS (iF AY (eV 1) (eC (.int 1))) bY)))
  (oR (A5 4 (AD cW 0 (aS (iF AY (eV 3) (eC (.int 2))) bY)))
  (oR (A5 5 (HZ (eV 4) C8 (CF (BR GF (aS (eC (.int 2)) (aS (iF AY (eV 3) (AD aD 0 (aS (eC (.int 3)) bY))) bY))))))
  (oR (A5 6 (AD aD 0 (aS (iF AY (eV 2) (eC (.int 1))) bY)))
  (oR (A5 7 (AD cW 0 (aS (eV 6) bY)))
  (oR (Ml 8 9 (aS (AD aD 0 (aS (eC (.int 5)) bY)) (aS (AD aD 0 (aS (eC (.int 4)) bY)) bY)))
  (oR (Dq 10 (EI bY))
  (oR (E4 (MH (aS (eV 6) bY)) (gN 11) (oR (GA (AD lf 0 (aS (eV 8) (aS (BR Bn (a1 (Bq 5))) (aS (eV 11) bY)))) (gT (Bx (gN 12) (Bx (gN 13) DF))))
  (oR (A5 14 (Cv (aS (EI (aS (iF gE (eV 5) (Bq 12)) (aS (iF gE (eV 5) (Bq 13)) bY))) bY)))
  (Ew (JW ci 10 (aS (AW (aS (iF gE (eV 7) (Bq 11)) (aS (iF gE (eV 14) (eC (.int 0))) (aS (iF gE (eV 14) (eC (.int 1))) (aS (AD fT 0 (aS (eV 9) bY)) bY))))) bY))))))
  (AO (AW (aS (BR aZ (aS (Cv (aS (HZ (eV 4) C8 (CF (Bq 3))) bY)) bY)) (aS (BR aZ (aS (HC (a1 (Bq 10))) bY)) bY))))))))))))
def oC:WS :=
  (AO (iF gE (eV 1) (AD aD 0 (aS (BR Bn (a1 (Bq 1))) bY))))
def iJ:WS :=
  (AO (iF gE (Dj (iS (AD cW 0 (aS (eC (.int 31)) bY))) (.nm 0) (oF (iF BH (eV 0) (Bq 1))) (eV 0) [none,some 1]) (eC (.int 0))))
def gi:WS :=
  (oR (A5 3 (iF AY (BR Gc (aS (iF gE (eV 1) (eC (.int 0))) bY)) (Bq 2)))
  (oR (Cc (Fx (oF (iF FA (BR Bn (a1 (Bq 3))) (eC (.int 2)))) (oF (iF AN (AD aD 0 (aS (eC (.int 8)) bY)) (eC (.int 0))))) (A5 3 (iF AY (eV 3) (HZ (Dj (iS (AD cW 0 (aS (eC (.int 14)) bY))) (.nm 0) (oF (iF BH (eV 0) (Bq 1))) (eV 0) [none,some 3]) C8 (CF (eC (.int 2)))))) Bj)
  (oR (A5 4 (AD aD 0 (aS (BR Bn (a1 (Bq 3))) bY)))
  (oR (A5 5 (iF gE (eV 3) (iF DY (iF AY (iF AY (eV 4) (eC (.int 1))) (AD aD 0 (aS (iF Co (BR Bn (a1 (Bq 3))) (eC (.int 1))) bY))) (BR Bn (a1 (Bq 3))))))
  (oR (A5 6 (AD f9 0 (aS (Dj (iS (iF gE (eV 1) (eC (.int 1)))) (.nm 0) Fq (iF gE (eV 0) (eC (.int 0))) [none]) bY)))
  (AO (AW (aS (eC (.str "tie")) (aS (eV 6) (aS (iF gE (eV 3) (Bq 4)) (aS (eV 5) (aS (AD fT 0 (aS (AD aD 0 (aS (eC (.int 4)) bY)) bY)) bY))))))))))))
def j9:WS :=
  (oR (A5 2 (Dj (iS (iF gE (eV 1) (eC (.int 1)))) (.nm 0) Fq (iF gE (eV 0) (eC (.int 0))) [none]))
  (oR (A5 3 (kZ (aS (iF AY (Dj (iS (iF gE (eV 1) (eC (.int 1)))) (.nm 0) Fq (iF gE (eV 0) (eC (.int 1))) [none]) (Dj (iS (iF gE (eV 1) (eC (.int 1)))) (.nm 0) Fq (iF gE (eV 0) (eC (.int 2))) [none])) bY)))
  (oR (A5 4 (Dj (iS (eV 3)) (.nm 0) (oF (iF BH (eV 0) (iF gE (eV 1) (eC (.int 0))))) (eV 0) [none,some 1]))
  (oR (A5 5 (AD aD 0 (aS (eC (.int 7)) bY)))
  (oR (Cc (DB (oF (iF AN (eV 5) (eC (.int 0)))) (oF (iF FA (BR Bn (aS (iF gE (eV 1) (eC (.int 0))) bY)) (eC (.int 12))))) (oR (Cc (DB (oF (iF DD (eV 4) (EI bY))) (oF (iF FG (AD aD 0 (aS (eC (.int 4)) bY)) (eC (.int 0))))) (AO (AW (aS (eC (.str "place")) (aS (AD fS 0 (aS (eV 4) bY)) bY)))) Bj)
  (AO (AW (aS (eC (.str "place")) (aS (AD f9 0 (aS (iF gE (eV 1) (eC (.int 0))) bY)) bY))))) Bj)
  (oR (Cc (DB (oF (iF AN (eV 5) (eC (.int 1)))) (oF (iF neT (iF gE (eV 1) (eC (.int 0))) (AW bY)))) (AO (AW (aS (eC (.str "leave")) (aS (AD fS 0 (aS (iF gE (eV 1) (eC (.int 0))) bY)) bY)))) Bj)
  (oR (Cc (DB (oF (iF AN (eV 5) (eC (.int 2)))) (oF (iF DD (eV 2) (EI bY)))) (AO (AW (aS (eC (.str "untie")) (aS (AD fS 0 (aS (eV 2) bY)) bY)))) Bj)
  (oR (Cc (DB (oF (iF C0 (eV 5) (AW (aS (eC (.int 3)) (aS (eC (.int 4)) bY))))) (oF (iF DD (eV 2) (EI bY)))) (AO (AW (aS (eC (.str "cost")) (aS (AD fS 0 (aS (eV 2) bY)) (aS (AD fT 0 (aS (AD aD 0 (aS (eC (.int 4)) bY)) bY)) bY))))) Bj)
  (oR (Cc (oF (iF FA (BR Bn (a1 (Bq 2))) (eC (.int 30)))) (AO (AD gG 0 (aS (eV 1) (aS (eV 4) bY)))) Bj)
  (AO (AW (aS (eC (.str "untie")) (aS (AD fS 0 (aS (eV 2) bY)) bY)))))))))))))
def oD:WS :=
  (AO (BR aZ (aS (Dj (iS (iF gE (eV 0) (eC (.int 1)))) (.nm 0) (DB (oF (iF C0 (iF gE (eV 0) (eC (.int 0))) (Bq 1))) (oF (iF C0 (eV 2) (HZ (eV 0) (CF (eC (.int 1))) (CF (eC (.int 3))))))) (iF gE (eV 0) (eC (.int 0))) [none,some 1,some 2]) bY)))
def lY:WS :=
  (oR (A5 5 (iF gE (eV 2) (eC (.int 1))))
  (oR (Cc (oF (iF AN (iF gE (eV 2) (eC (.int 0))) (eC (.str "place")))) (AO (D2 (iF AN (eV 4) (AV du (aS (eV 1) (aS (eV 4) (aS (eV 5) bY))))) (iF AN (AV du (aS (eV 0) (aS (eV 3) (aS (eV 5) bY)))) (AW bY)))) Bj)
  (oR (Cc (oF (iF AN (iF gE (eV 2) (eC (.int 0))) (eC (.str "leave")))) (AO (D2 (iF AN (AV du (aS (eV 0) (aS (eV 3) (aS (eV 5) bY)))) (Bq 3)) (iF AN (AV du (aS (eV 1) (aS (eV 4) (aS (eV 5) bY)))) (AW bY)))) Bj)
  (oR (Cc (Fx (oF (iF FG (BR Bn (a1 (Bq 3))) (eC (.int 1)))) (Fx (oF (iF FG (BR Bn (a1 (Bq 4))) (eC (.int 1)))) (DB (oF (iF AN (eV 3) (Bq 4))) (oF (iF neT (eV 3) (AW bY)))))) (AO (eC (.bl false))) Bj)
  (oR (Cc (oF (iF AN (iF gE (eV 2) (eC (.int 0))) (eC (.str "untie")))) (AO (D2 (iF C0 (eV 3) (AW (aS (AW bY) (aS (AW (aS (eV 5) bY)) bY)))) (iF BH (eV 5) (Bq 4)))) Bj)
  (oR (Cc (oF (iF AN (iF gE (eV 2) (eC (.int 0))) (eC (.str "tie")))) (AO (iF C0 (eV 4) (AW (aS (AW bY) (aS (AW (aS (eV 5) bY)) bY))))) Bj)
  (oR (A5 6 (iF gE (Dj (iS (iF gE (eV 0) (eC (.int 1)))) (.nm 0) (oF (iF AN (iF gE (eV 0) (eC (.int 0))) (Bq 1))) (iF gE (eV 0) (eC (.int 3))) [none,some 5]) (eC (.int 0))))
  (oR (Cc (oF (iF FG (iF gE (eV 2) (eC (.int 2))) (Bq 6))) (AO (D2 (iF C0 (eV 3) (AW (aS (AW bY) (aS (AW (aS (eV 5) bY)) bY)))) (D2 (iF BH (eV 5) (Bq 4)) (iF AN (iF AN (eV 3) (AW bY)) (iF AN (eV 4) (AW bY)))))) Bj)
  (AO (D2 (iF C0 (eV 4) (AW (aS (AW bY) (aS (AW (aS (eV 5) bY)) bY)))) (D2 (iF BH (eV 5) (Bq 3)) (iF AN (iF AN (eV 3) (AW bY)) (iF AN (eV 4) (AW bY))))))))))))))
def iH(T:Addr):WS :=
  (oR (A5 2 (AV cK (aS (eV 0) (aS (eV 1) bY))))
  (oR (GA (Bz (dt T) 8 (aS (eV 0) (aS (eV 1) bY))) (gT (Bx (gN 3) (Bx (gN 4) DF))))
  (oR (GA (AW (aS (Bz (bQ T) 8 (aS (eV 0) bY)) (aS (Bz (bQ T) 8 (aS (eV 2) bY)) bY))) (gT (Bx (gN 5) (Bx (gN 6) DF))))
  (oR (Cc (Fx (CT (CL (BR D4 (aS (Dj (iS (eV 3)) (.nm 0) Fq (iF C0 (eV 0) (Bq 1)) [none,some 5]) bY)))) (CL (BR Ib (aS (Dj (iS (eV 4)) (.nm 0) Fq (iF C0 (eV 0) (Bq 1)) [none,some 5]) bY)))) (AO (eC (.bl false))) Bj)
  (oR (Cc (oF (iF neT (BR aZ (aS (Cv (aS (iF AY (Dj (iS (eV 5)) (.nm 0) (oF (iF BH (eV 0) (Bq 1))) (eV 0) [none,some 3]) (BR Gc (a1 (Bq 4)))) bY)) bY)) (Bq 6))) (AO (eC (.bl false))) Bj)
  (oR (Cc (DB (oF (iF AN (iF gE (eV 1) (eC (.int 0))) (eC (.str "leave")))) (oF (iF neT (eV 3) (AV du (aS (eV 0) (aS (eV 5) (aS (iF gE (eV 1) (eC (.int 1))) bY))))))) (AO (eC (.bl false))) Bj)
  (oR (A5 7 (iF Co (iF AY (iF Co (BR Bn (aS (iF gE (eV 2) (eC (.int 0))) bY)) (BR Bn (aS (iF gE (eV 0) (eC (.int 0))) bY))) (BR Bn (aS (AV eN (aS (eV 0) bY)) bY))) (BR Bn (aS (AV eN (aS (eV 2) bY)) bY))))
  (oR (Cc (Fx (oF (iF DD (iF Co (BR Bn (a1 (Bq 4))) (BR Bn (a1 (Bq 3)))) (Bq 7))) (CT (CL (AV m7 (aS (eV 0) (aS (eV 2) (aS (eV 1) (aS (eV 3) (aS (eV 4) bY))))))))) (AO (eC (.bl false))) Bj)
  (AO (iF MG (Bz (cu T) 8 (aS (eV 0) (aS (eV 1) (aS (AW (aS (eV 3) (aS (eV 4) bY))) bY)))) (eC (.bl true))))))))))))
def jq(T:Addr):WS :=
  (oR (Q.CM 1 0)
  (oR (E4 (MH (aS (iF AY (eC (.int 2)) (BR Bn (aS (HZ (eV 0) C8 (CF (eC (.int 9)))) bY))) bY)) (gN 2) (oR (A5 3 (AD m8 1 (aS (eC (.int 11)) (aS (eC (.int 29)) bY))))
  (E4 (MH (aS (AD aD 1 (aS (eC (.int 9)) bY)) bY)) (gN 4) (oR (A5 5 (AD lg 1 (aS (eV 3) bY)))
  (oR (Cc (CT (CL (Bz (jp T) 6 (aS (eV 3) (aS (eV 5) bY))))) (AO (eC (.bl false))) Bj)
  (A5 3 (AV cK (aS (eV 3) (aS (eV 5) bY)))))))))
  (AO (eC (.bl true)))))
theorem bH(i j:Int):AN (.int i) (.int j)=some (.bl (decide (i=j))):=by
 show some (PV.bl (i==j))=_
 rfl
variable{i j:Int}
theorem fF(h:0<j):DY (.int i) (.int j)=some (.int (i % j)):=if_pos (decide_eq_true h)
theorem uF(h:0<j)(h2:j<1073741824):H0 (.int i) (.int j)=some (.int (i / j)):=if_pos (by simp[h,h2])
theorem pB(h : -(2 ^ 64)<j)(h2:j<2 ^ 64):CV (.int i) (.int j)=some (.int (i*j)):=if_pos (by unfold Nd;simp only[aef,aaE,decide_eq_true_eq];exact .inr ⟨h,h2⟩)
theorem s0(h:(decide (0<=j) && decide (j<=1000000) && decide (i.natAbs<2 ^ 64))=true):E7 (.int i) (.int j)=some (.int (i ^ j.toNat)):=if_pos h
theorem b9:Co (.int i) (.int j)=some (.int (i - j)):=rfl
theorem bg:AY (.int i) (.int j)=some (.int (i+j)):=rfl
variable{k:Nat}
theorem qd(h:i=k)(hk:k<26):gE (.str Nh) (.int i)=some (.str (ch k)):=by
 subst h
 show (if Nh.length<=100000 then (HG Nh.cps.toList (k:Int)).map (λc=>PV.str ⟨#[c]⟩)else none)=_
 rw[if_pos (by decide +kernel),ai (Ai k hk)];rfl
theorem mw(b m:Nat):(EE (ch b) m).length=m:=by
 have:=congrArg acA (ls b m)
 rw[ab9]at this
 show (EE (ch b) m).cps.size=m
 rw[<- aaz];exact this
theorem xZ(x y:Str):(x++y).length=x.length+y.length:=by show (x.cps++y.cps).size=_;exact Array.size_append
theorem add_str(h:x.length+y.length<=100000):AY (.str x) (.str y)=some (.str (x++y)):=if_pos h
variable{b:Nat}
theorem pC{m:Nat}(h:i=m)(hm:m<=1000):CV (.str (ch b)) (.int i)=some (.str (EE (ch b) m)):=by
 subst h
 refine(if_pos ⟨by omega,by omega,?_⟩).trans ?_
 .rw[show ((m:Int)).toNat=m by omega]
 .show 1<=1000;decide
variable{n:Nat}
theorem sX{j:Nat}{x:PV}(h:(ED 0 n)[j]?=some x):j<n/\x=.int j:=by
 unfold ED at h
 rw[aaj]at h
 rcases aaU j n with z|z
 .rw[ab2 z]at h
  refine⟨z,?_⟩
  have:x=.int (0+(j:Int)):=by simpa using h.symm
  rw[this];congr 1;omega
 .rw[aao (by simpa using z)]at h;cases h
theorem qM(n:Nat):(ED 0 n).length=n:=by unfold ED;rw[aac,acf]
theorem draw{m:Int}{P:PV->PV->Prop}(h0:0<m)(h1:m<1073741824)(k:∀r:Nat,(r:Int)<m->P (.int r) .AF):aD .AF [.int m] P :=
 ⟨rfl,m,rfl,h0,h1,λr r0 r1=>by
  obtain⟨i,rfl⟩:∃i:Nat,r=(i:Int):=⟨r.toNat,by omega⟩
  exact k i r1⟩
theorem tD(c:PV)(xs:List PV)(P:PV->PV->Prop)(h:cW c xs P):Q.Fy 10 iG c xs P:=by
 obtain⟨rfl,n,rfl,hn,h⟩:=h
 unfold iG
 refine ah λN hN=>?_
 try lia
 subst hN
 refine ah λN hN=>?_
 lia
 refine draw (by decide) (by decide) λb hb=>?_
 refine ab (qd rfl (by omega)) ?_
 try lia
 subst hN
 refine ah λN hN=>?_
 lia
 refine draw (by decide) (by decide) λs hs=>?_
 try lia
 subst hN
 refine ah λN hN=>?_
 lia
 refine ab bg ?_
 refine draw (by omega) (by omega) λt ht=>?_
 try lia
 subst hN
 refine ah λN hN=>?_
 lia
 refine draw (by decide) (by decide) λf hf=>?_
 try lia
 subst hN
 refine ah λN hN=>?_
 try lia
 subst hN
 refine ah λN hN=>cy λG B hG hB=>?_
 lia
 refine⟨by omega,by omega,?_⟩
 subst hG
 refine bC (λi e=>∃v8 v9,e=[some ⟨2,.AF⟩,some ⟨0,.int n⟩,some ⟨0,.str Nh⟩,some ⟨0,.str (ch b)⟩,some ⟨0,.int s⟩,some ⟨0,.int t⟩,some ⟨0,.int f⟩,some ⟨1,.lst ((IT b s t f n i).map .str)⟩,v8,v9]) (i:=0) ⟨none,none,rfl⟩ ?_ ?_
 case refine_2=>
  rintro e ⟨v8,v9,rfl⟩
  show N _
  subst hN
  rw[qM,show ((n:Int)).toNat=n by omega,abI]
  lia
  exact h _ (by unfold IT;rw[aac,acf]) (sJ hn) (uV (by omega) (by omega) (by omega))
 rintro j x e M hj ⟨v8,v9,rfl⟩ k
 obtain⟨V5,rfl⟩:=sX hj
 rw[abI]at k ⊢
 subst hB
 have MP:j<n:=by omega
 refine ah λN' KR=>?_
 lia
 refine ab (pB (by omega) (by omega)) ?_
 refine ab bg ?_
 refine ab (fF (by decide)) ?_
 refine ab (qd (k:=(f+5*j) % 26) (by omega) (by omega)) ?_
 refine ab (uF (by decide) (by decide)) ?_
 refine ab bg ?_
 refine ab (fF (by decide)) ?_
 refine ab (qd (k:=(f+j / 26) % 26) (by omega) (by omega)) ?_
 refine ab (add_str (by show 1+1<=100000;decide)) ?_
 subst KR
 have push:∀y:Str,y=wd b s t f n j->M [some ⟨2,.AF⟩,some ⟨0,.int n⟩,some ⟨0,.str Nh⟩,some ⟨0,.str (ch b)⟩,some ⟨0,.int s⟩,some ⟨0,.int t⟩,some ⟨0,.int f⟩,some ⟨1,.lst ((IT b s t f n j).map .str++[.str y])⟩,some ⟨0,.int j⟩,some ⟨0,.str (ch ((f+5*j) % 26)++ch ((f+j / 26) % 26))⟩]:=λy hy=>by
  refine k _ ⟨some ⟨0,.int j⟩,some ⟨0,.str (ch ((f+5*j) % 26)++ch ((f+j / 26) % 26))⟩,?_⟩
  rw[hy,uW,aaZ];rfl
 have len:((IT b s t f n j).map PV.str).length<=100000:=by rw[aac];unfold IT;rw[aac,acf];omega
 have two:(ch ((f+5*j) % 26)++ch ((f+j / 26) % 26)).cps.toList=[97+(f+5*j) % 26,97+(f+j / 26) % 26]:=by rw[iu];rfl
 lia
 by_cases c:n<8/\s=6
 .have c1:((n:Int)<8):=by omega
  have c2:((s:Int)=6):=by omega
  rw[decide_eq_true c1]
  lia
  refine ab (bH _ _) ?_
  rw[decide_eq_true c2]
  lia
  refine ab bg ?_
  refine ab (pC (m:=j+1) (by omega) (by omega)) ?_
  refine ab (Ip len) ?_
  refine push _ (ma ?_)
  rw[ls]
  unfold wd wl
  rw[if_pos c]
 .have word:EE (ch b) t++(ch ((f+5*j) % 26)++ch ((f+j / 26) % 26))++EE (ch b) (s - t)=wd b s t f n j:=by
   refine ma ?_
   rw[iu,iu,two,ls,ls]
   unfold wd wl
   rw[if_neg c]
  have l2:(ch ((f+5*j) % 26)++ch ((f+j / 26) % 26)).length=2:=rfl
  have UC:opt (CV (.str (ch b)) (.int t)) λz=>opt (AY z (.str (ch ((f+5*j) % 26)++ch ((f+j / 26) % 26)))) λz=>opt (Co (.int s) (.int t)) λz1=>opt (CV (.str (ch b)) z1) λz1=>opt (AY z z1) λz=>opt (ci ((IT b s t f n j).map .str) [z]) λr=>M [some ⟨2,.AF⟩,some ⟨0,.int n⟩,some ⟨0,.str Nh⟩,some ⟨0,.str (ch b)⟩,some ⟨0,.int s⟩,some ⟨0,.int t⟩,some ⟨0,.int f⟩,some ⟨1,.lst r.2⟩,some ⟨0,.int j⟩,some ⟨0,.str (ch ((f+5*j) % 26)++ch ((f+j / 26) % 26))⟩]:=by
   refine ab (pC rfl (by omega)) (ab (add_str (by rw[mw,l2];omega)) (ab b9 (ab (pC (m:=s - t) (by omega) (by omega)) (ab (add_str ?_) (ab (Ip len) (push _ word))))))
   rw[xZ,mw,mw,l2];omega
  by_cases c1:(n:Int)<8
  .have c2:¬ ((s:Int)=6):=by omega
   rw[decide_eq_true c1]
   lia
   refine ab (bH _ _) ?_
   rw[decide_eq_false c2]
   lia
   exact UC
  .rw[decide_eq_false c1]
   lia
   exact UC
theorem vI(c:PV)(xs:List PV)(P:PV->PV->Prop)(h:fT c xs P):Q.Fy 2 kf c xs P:=by
 obtain⟨rfl,q,rfl,h⟩:=h
 have XJ:(1000000000:Int)<10 ^ 30:=by decide
 unfold kf
 refine ah λN hN=>?_
 lia
 refine ab (bH _ _) ?_
 lia
 split
 .exact h _ (by omega) (by omega)
 subst hN
 refine ah λN hN=>?_
 lia
 refine ab (bH _ _) ?_
 lia
 split
 .refine draw (by decide) (by decide) λr hr=>?_
  exact ab b9 (h _ (by omega) (by omega))
 subst hN
 refine ah λN hN=>?_
 lia
 refine ab (bH _ _) ?_
 lia
 split
 .refine draw (by decide) (by decide) λr hr=>?_
  exact ab b9 (h _ (by omega) (by omega))
 subst hN
 lia
 have c30:(10:Int) ^ (30:Int).toNat=10 ^ 30:=by decide
 have c9:(10:Int) ^ (9:Int).toNat=1000000000:=by decide
 have pw:E7 (.int 10) (.int 30)=some (.int (10 ^ 30)):=(s0 (by decide)).trans (by rw[c30])
 have p9:E7 (.int 10) (.int 9)=some (.int 1000000000):=(s0 (by decide)).trans (by rw[c9])
 refine ab pw (ab b9 (ab pw (ab b9 (ab p9 ?_))))
 refine draw (by decide) (by decide) λr hr=>?_
 try lia
 refine draw (by decide) (by decide) λx hx=>?_
 match x,hx with
 |0,_=>exact ab (ai (j:=0) rfl) (h _ (by omega) (by omega))
 |1,_=>exact ab (ai (j:=1) rfl) (h _ (by omega) (by omega))
 |2,_=>exact ab (ai (j:=2) rfl) (h _ (by omega) (by omega))
 |3,_=>exact ab (ai (j:=3) rfl) (h _ (by omega) (by omega))
 |n+4,h=>omega
theorem turn(x d t:Int)(h0:0<t)(h1:0<=x)(h2:x<t)(h3:0<=d)(h4:d<t - 1):0<=(x+1+d) % t/\(x+1+d) % t<t/\x≠(x+1+d) % t:=by
 refine⟨ach _ (by omega),abS _ h0,λe=>?_⟩
 have q:=Int.emod_add_mul_ediv (x+1+d) t
 rw[<- e]at q
 have:t*((x+1+d) / t)=1+d:=by omega
 generalize (x+1+d) / t=y at this
 rcases(show y<=0\/1<=y by omega)with z|z
 .have:t*y<=0:=Int.mul_nonpos_of_nonneg_of_nonpos (by omega) (by omega)
  omega
 .have:t*1<=t*y:=afk z (by omega)
  omega
theorem Cj{m:Int}{P:PV->PV->Prop}(h0:0<m)(h1:m<1073741824)(k:∀r:Int,0<=r->r<m->P (.int r) .AF):aD .AF [.int m] P:=⟨rfl,m,rfl,h0,h1,k⟩
theorem vG(c:PV)(xs:List PV)(P:PV->PV->Prop)(h:lf c xs P):Q.Fy 7 j8 c xs P:=by
 obtain⟨rfl,f,m,kk,rfl,m2,m9,h⟩:=h
 have m0:(0:Int)<m:=by omega
 unfold j8
 refine ah λN hN=>?_
 lia
 refine ab (bH _ _) ?_
 lia
 split
 .refine ab (fF m0) (ab bg (ab (fF m0) ?_))
  refine h _ _ (ach _ (by omega)) (abS _ m0) (ach _ (by omega)) (abS _ m0) λe=>?_
  refine(turn (kk % m) 0 m m0 (ach _ (by omega)) (abS _ m0) (by omega) (by omega)).2.2 (e.trans ?_)
  rw[Int.add_zero,Int.emod_add_emod]
 subst hN
 refine ah λN hN=>?_
 lia
 refine ab (bH _ _) ?_
 lia
 split
 .refine ab b9 ?_
  refine Cj (by omega) (by omega) λr p0 q0=>?_
  exact ab bg (h _ _ (by omega) m0 (by omega) (by omega) (by omega))
 subst hN
 refine ah λN hN=>aL λA B hA hB=>?_
 have last:B {JV P with nx:=N} [some ⟨2,.AF⟩,some ⟨0,.int f⟩,some ⟨0,.int m⟩,some ⟨0,.int kk⟩,none,none,none]:=by
  subst hB
  show N _
  subst hN
  refine ah λN hN=>?_
  lia
  refine Cj (by omega) (by omega) λr p0 q0=>?_
  try lia
  subst hN
  lia
  refine ab bg (ab b9 ?_)
  refine Cj (by omega) (by omega) λd p1 q1=>?_
  try lia
  refine ab bg (ab (fF m0) ?_)
  have t:=turn r d m m0 p0 q0 p1 q1
  exact h _ _ p0 q0 t.1 t.2.1 t.2.2
 lia
 refine ab (bH _ _) ?_
 lia
 by_cases c1:f=4
 case neg=>
  rw[decide_eq_false c1]
  exact last
 rw[decide_eq_true c1]
 lia
 by_cases c2:3<m
 case neg=>
  rw[decide_eq_false c2]
  exact last
 rw[decide_eq_true c2]
 lia
 subst hA
 refine ah λN hN=>?_
 lia
 refine ab (uF (by decide) (by decide)) ?_
 subst hN
 refine ah λN hN=>?_
 lia
 refine Cj (by omega) (by omega) λr p0 q0=>?_
 try lia
 subst hN
 refine ah λN hN=>?_
 lia
 refine Cj (by omega) (by omega) λr2 p2 q2=>?_
 try lia
 subst hN
 have bd:∀y:Int,0<=y->y<m / 2->0<=r*(m / 2)+y/\r*(m / 2)+y<m:=λy y0 y1=>by
  have:r=0\/r=1:=by omega
  rcases this with rfl|rfl<;>omega
 lia
 refine ab (pB (by omega) (by omega)) (ab bg (ab (pB (by omega) (by omega)) (ab bg (ab b9 ?_))))
 refine Cj (by omega) (by omega) λr3 p3 q3=>?_
 try lia
 refine ab bg (ab (fF (by omega)) (ab bg ?_))
 have t:=turn r2 r3 (m / 2) (by omega) p2 q2 p3 q3
 exact h _ _ (bd _ p2 q2).1 (bd _ p2 q2).2 (bd _ t.1 t.2.1).1 (bd _ t.1 t.2.1).2 λe=>t.2.2 (by omega)
theorem zo(h:(if j > i then j else i)=k):GF [.int i,.int j]=some (.int k):=by rw[<- h];rfl
variable{l:List Str}
theorem oG{i:Nat}(h:i<l.length):gE (.lst (l.map .str)) (.int i)=some (.str l[i]):=ai (by rw[aaj,aab h];rfl)
theorem lj:∀ss:List Str,(ss.map PV.str).mapM CC=some ss
 |[]=>rfl
 |s::ss=>by rw[aan,aby,lj ss];rfl
theorem sO:∀ts:List AE,(ts.map lE).mapM IF=some (ts.map AE.nm)
 |[]=>rfl
 |t::ts=>by rw[aan,aby,sO ts];rfl
variable{ix:List Nat}
theorem oW{β:Type}{f:α->β}{l:List α}{a:α}{b:β}(h:∀i∈ix,i<l.length):(ix.map λi=>(l.map f).getD i b)=(ix.map λi=>l.getD i a).map f:=by
 rw[aaw]
 refine aaW λi hi=>?_
 show _=f (l.getD i a)
 rw[aag,aag,aaj,aab (h i hi)];rfl
theorem xC(c:PV)(xs:List PV)(P:PV->PV->Prop)(h:m8 c xs P):Q.Fy 15 lZ c xs P:=by
 obtain⟨rfl,M,T,rfl,M0,M1,T0,T1,h⟩:=h
 unfold lZ
 refine ah λN hN=>?_
 lia
 refine ab bg ?_
 refine draw (by omega) (by omega) λmm Xv=>?_
 subst hN
 refine ah λN hN=>?_
 lia
 refine ab bg ?_
 refine⟨rfl,mm+2,rfl,by omega,λws wl wn ww=>?_⟩
 subst hN
 refine ah λN hN=>?_
 lia
 refine draw (by decide) (by decide) λr hr=>?_
 refine ab bg ?_
 obtain⟨pn,VN,NC,Xt⟩:∃pn:Nat,(if (mm:Int)+r > 2 then (mm:Int)+r else 2)=(pn:Int)/\2<=pn/\pn<=mm+2:=by
  refine⟨(if (mm:Int)+r > 2 then (mm:Int)+r else 2).toNat,?_,?_,?_⟩<;>split<;>omega
 refine ab (zo VN) ?_
 try lia
 rw[fg,<- aeK]
 subst hN
 have pl:(ws.take pn).length=pn:=by rw[aa8,wl];omega
 have TQ:(ws.take pn).Nodup:=wn.sublist (adF _ _)
 have pw:∀x∈ws.take pn,tO x:=λx hx=>ww x (abL hx)
 generalize ws.take pn=Bv at pl TQ pw ⊢
 refine ah λN hN=>?_
 lia
 refine ab bg ?_
 refine draw (by omega) (by omega) λcc SD=>?_
 subst hN
 refine ah λN hN=>?_
 lia
 refine⟨rfl,cc,rfl,by omega,λns nl nn nw=>?_⟩
 subst hN
 refine ah λN hN=>?_
 simp only[Ml]
 lia
 refine Cj (by decide) (by decide) λUy p0 q0=>?_
 refine Cj (by decide) (by decide) λTz p1 q1=>?_
 subst hN
 refine ah λN hN=>?_
 lia
 subst hN
 refine ah λN hN=>cy λG B hG hB=>?_
 lia
 refine⟨by omega,by omega,?_⟩
 subst hG
 refine bC (λi e=>∃ts v11 Rb Ra Q9,e=[some ⟨2,.AF⟩,some ⟨0,.int M⟩,some ⟨0,.int T⟩,some ⟨0,.int mm⟩,some ⟨0,.lst (ws.map .str)⟩,some ⟨0,.lst (Bv.map .str)⟩,some ⟨0,.int cc⟩,some ⟨0,.lst (ns.map .str)⟩,some ⟨0,.int Uy⟩,some ⟨0,.int Tz⟩,some ⟨1,.lst (ts.map lE)⟩,v11,Rb,Ra,Q9]/\ts.map AE.nm=ns.take i/\ts.length=i/\∀t∈ts,LI t) (i:=0) ⟨[],none,none,none,none,rfl,rfl,rfl,by simp⟩ ?_ ?_
 case refine_2=>
  rintro e ⟨ts,v11,Rb,Ra,Q9,rfl,g1,g2,g3⟩
  rw[qM,show ((cc:Int)).toNat=cc by omega,abI]at g1 g2
  show N _
  subst hN
  have Sg:ts.map AE.nm=ns:=by rw[g1,<- nl,abF]
  simp only[AO,AW,BR,aS,Cv,HC]
  lia
  rw[fg,<- aeK]
  refine⟨_,lj _,by rw[aa8];omega,λss up=>ab rfl ?_⟩
  try lia
  refine⟨_,sO ts,by rw[Sg];exact nn,by rw[aac];omega,λix il Qr iw=>ab rfl ?_⟩
  rw[aac]at Qr il
  rw[oW (a:=t0) Qr]
  refine h ss _ ⟨gI up.2 (up.1.nodup_iff.mpr (wn.sublist (adF _ _))),λx hx=>ww x (abL (up.1.mem_iff.mp hx)),?_,λt ht=>?_⟩ ?_ ?_
  .rw[oW (a:=t0) Qr]at iw;exact iw
  .obtain⟨j,hj,rfl⟩:=List.mem_map.mp ht
   have:=Qr j hj
   rw[aag,aab this]
   exact g3 _ (abl _)
  .rw[up.1.length_eq,aa8];omega
  .rw[aac,il,g2];omega
 rintro j x e M' hj ⟨ts,v11,Rb,Ra,Q9,rfl,g1,g2,g3⟩ k
 obtain⟨V5,rfl⟩:=sX hj
 rw[abI]at g1 g2 k
 subst hB
 have MP:j<ns.length:=by omega
 refine ah λN hN=>?_
 lia
 refine⟨rfl,Uy,Bv.length,j,by rw[aac],by omega,by omega,λx y x0 x1 y0 y1 xy=>?_⟩
 obtain⟨x,rfl⟩:∃z:Nat,x=(z:Int):=⟨x.toNat,by omega⟩
 obtain⟨y,rfl⟩:∃z:Nat,y=(z:Int):=⟨y.toNat,by omega⟩
 have hx:x<Bv.length:=by omega
 have hy:y<Bv.length:=by omega
 lia
 subst hN
 refine ah λN hN=>?_
 simp only[A5,Cv]
 lia
 refine ab (oG hx) (ab (oG hy) ?_)
 refine⟨[Bv[x],Bv[y]],rfl,(by show 2<64;decide),λss up=>?_⟩
 have RX:Bv[x]≠Bv[y]:=λe=>xy (by
  have:=(abU TQ).mp e
  omega)
 obtain⟨u,v,rfl,uv,hu,hv⟩:=yI up.1 up.2 RX
 have wu:tO u:=pw u (by rcases hu with e|e<;>rw[e]<;>exact abl _)
 have wv:tO v:=pw v (by rcases hv with e|e<;>rw[e]<;>exact abl _)
 subst hN
 lia
 refine ab (oG MP) (ab (z:=.str u) (ai (j:=0) rfl) (ab (z:=.str v) (ai (j:=1) rfl) ?_))
 refine⟨rfl,Tz,rfl,λc c0 c1=>?_⟩
 lia
 refine ab (Ip (by rw[aac];omega)) ?_
 refine k _ ⟨ts++[⟨ns[j],u,v,c⟩],some ⟨0,.int j⟩,some ⟨0,.int x⟩,some ⟨0,.int y⟩,some ⟨0,.lst [.str u,.str v]⟩,by rw[aaZ];rfl,?_,by rw[aau,g2];rfl,λt ht=>?_⟩
 .rw[aaZ,g1]
  show ns.take j++[ns[j]]=ns.take (j+1)
  rw[abY,aab MP];rfl
 .rcases List.mem_append.mp ht with z|z
  .exact g3 t z
  .have:t=⟨ns[j],u,v,c⟩:=by simpa using z
   subst this
   exact⟨nw _ (abl _),wu,wv,uv,c0,c1⟩
theorem zp(a b:Nat):AZ (⟨#[a]⟩:Str) (⟨#[b]⟩:Str)↔a<b:=by
 show [a]<[b]↔a<b
 constructor
 .intro h
  cases h with
  |rel h=>exact h
  |cons h=>cases h
 .intro h;exact .rel h
theorem xi(c:Nat):((!decide (AZ ⟨#[c]⟩ (aaP "a"))) && (!decide (AZ (aaP "z") ⟨#[c]⟩)))=Nw c:=by
 have e1:(aaP "a")=⟨#[97]⟩:=by decide +kernel
 have e2:(aaP "z")=⟨#[122]⟩:=by decide +kernel
 unfold Nw
 rw[e1,e2]
 simp only[zp]
 rw[abe]
 simp
theorem qi(xs:List PV)(P:PV->Prop)(h:bD xs P):Q.run 1 gb xs P:=by
 obtain⟨x,rfl,hx,h⟩:=h
 unfold gb
 cases x with
 |str s=>
  have hs:s.length<=1000:=hx
  have Qu:s.length<=100000:=by omega
  have hc:s.cps.toList.length=s.length:=by simp[aeV]
  try lia
  rw[if_pos Qu]
  try lia
  have hw:Dk (.str s)=(decide (1<=s.length) && decide (s.length<=8) && s.cps.toList.all Nw):=rfl
  rw[hw]at h
  by_cases h1:1<=s.length
  .by_cases h2:s.length<=8
   .have Pu:(1:Int)<=(s.length:Int):=by omega
    have Kh:(s.length:Int)<=8:=by omega
    simp only[Pu,Kh,decide_true,if_true,abK,aaR,if_false,dB]
    refine bF (λx=>match x with|.str s=>.bl ((!decide (AZ s (aaP "a"))) && (!decide (AZ (aaP "z") s)))|_=>.AF) (λx hx R hR=>?_) (by simp[Dp,hc];omega) ?_
    .unfold Dp at hx
     obtain⟨c,hc,rfl⟩:=List.mem_map.mp hx
     simp only[FH,aan,ad9,List.set_cons_zero]
     try lia
     replace hR:R (.bl ((!decide (AZ ⟨#[c]⟩ (aaP "a"))) && (!decide (AZ (aaP "z") ⟨#[c]⟩)))) [some ⟨0,.str s⟩]:=hR
     cases q:decide (AZ ⟨#[c]⟩ (aaP "a"))with
     |true=>rw[q]at hR;exact hR
     |false=>rw[q]at hR;exact hR
    .have e:(Dp s).map (λx=>match x with|.str s=>PV.bl ((!decide (AZ s (aaP "a"))) && (!decide (AZ (aaP "z") s)))|_=>.AF)=(s.cps.toList.map Nw).map PV.bl:=by
      unfold Dp
      rw[aaw,aaw]
      exact aaW λc _=>congrArg PV.bl (xi c)
     rw[aaN,e]
     refine ab (f8 _) ?_
     simpa[h1,h2,List.all_map]using h
   .have Kh:¬ (s.length:Int)<=8:=by omega
    have Pu:(1:Int)<=(s.length:Int):=by omega
    simp only[Pu,Kh,decide_true,decide_false,if_true,act,dB]
    simpa[h1,h2]using h
  .have Pu:¬ (1:Int)<=(s.length:Int):=by omega
   simp only[Pu,decide_false,aaR,if_false,act,if_true,dB]
   simpa[h1]using h
 |set _=>exact hx.elim
 |C2 _=>exact hx.elim
 |_=>lia;exact h
theorem mS(ws:List Str):(FW (ws.map PV.str) ((ws.drop 1).map PV.str))=(ws.zip (ws.drop 1)).map λp=>PV.tup [.str p.1,.str p.2]:=by
 unfold FW
 rw[List.zip_map,aaw]
 rfl
theorem n4(xs:List PV)(P:PV->Prop)(h:eJ xs P):Q.run 1 eB xs P:=by
 obtain⟨ws,hw,hl,h⟩:=h
 unfold eB
 have cut:CO (ws.map PV.str) (some 1) none=(ws.drop 1).map PV.str:=by
  rw[show (1:Int)=((1:Nat):Int)from rfl,f7,List.map_drop]
 have main:∀(x:PV),De (Gx (.tp [0,1])) Fq (iF FA (eV 0) (Bq 1)) [none,none] (λx e1=>opt (D4 [x]) λz=>P z) (FW (ws.map PV.str) ((ws.drop 1).map PV.str)) [some ⟨0,x⟩] []:=λx=>by
  rw[mS]
  refine bF (λx=>match x with|.tup [.str a,.str b]=>.bl (decide (AZ a b))|_=>.AF) (λx hx R hR=>?_) (by simp;omega) ?_
  .obtain⟨p,hp,rfl⟩:=List.mem_map.mp hx
   exact⟨rfl,_,rfl,hR⟩
  .rw[aaN,aaw]
   refine ab (z:=.bl (Hl ws)) ?_ h
   have:=f8 (Kv ws)
   unfold Kv at this
   rw[aaw]at this
   exact this
 subst hw
 try lia
 simp only[iZ]
 try lia
 rw[cut]
 exact main _
theorem qF:∀{ys:List PV},(∀y∈ys,Dk y=true)->ys=(ys.filterMap CC).map PV.str
 |[],_=>rfl
 |y::ys,e=>by
  have h:=e y (by simp)
  cases y with
  |str s=>exact congrArg (PV.str s::·) (qF λx hx=>e x (by simp[hx]))
  |_=>cases h
theorem n5(xs:List PV)(P:PV->Prop)(h:cf xs P):Q.run 1 eD xs P:=by
 obtain⟨x,rfl,hx,h⟩:=h
 unfold eD
 cases x with
 |tup ys=>
  obtain⟨hl,hy⟩:=hx
  try lia
  refine bF (λx=>.bl (Dk x)) (λx hx R hR=>⟨x,rfl,hy x hx,hR⟩) (by simp;omega) ?_
  have e:ys.map (λx=>PV.bl (Dk x))=(ys.map Dk).map PV.bl:=by rw[aaw];rfl
  rw[aaN,e,f8,dB]
  try lia
  rw[List.all_map]
  have hw:Hb (.tup ys)=(ys.all Dk && Hl (ys.filterMap CC)):=rfl
  rw[hw]at h
  cases e:ys.all Dk with
  |false=>
   rw[e]at h
   simp only[Function.id_comp,e]
   exact h
  |true=>
   rw[e]at h
   simp only[Function.id_comp,e]
   rw[ab5]at e
   have es:ys=(ys.filterMap CC).map PV.str:=qF λy hy=>e y hy
   refine⟨ys.filterMap CC,(by rw[<- es]),?_,h⟩
   have:=congrArg acA es
   rw[aac]at this
   omega
 |set _=>exact hx.elim
 |C2 _=>exact hx.elim
 |_=>lia;exact h
theorem qj(xs:List PV)(P:PV->Prop)(h:dN xs P):Q.run 2 gc xs P:=by
 obtain⟨ps,ts,t,rfl,h⟩:=h
 unfold gc lT lE
 try lia
 refine ab (z:=.str t.one) (ai (j:=1) rfl) (ab (z:=.tup (ps.map .str)) (ai (j:=0) rfl) (ab bS ?_))
 try lia
 unfold Bb at h
 cases e:decide (t.one∈ps)with
 |false=>rw[e]at h;exact h
 |true=>
  rw[e,Bool.true_and]at h
  exact ab (z:=.str t.A3) (ai (j:=2) rfl) (ab (z:=.tup (ps.map .str)) (ai (j:=0) rfl) (ab bS h))
theorem jk{β:Type}(p:α->Bool)(f:α->β):∀(l:List α),l.filterMap (λa=>if p a=true then some (f a)else none)=(l.filter p).map f
 |[]=>rfl
 |a::l=>by
  rw[abg,abq,jk p f l]
  cases p a<;>rfl
theorem nZ(xs:List PV)(P:PV->Prop)(h:eI xs P):Q.run 1 eu xs P:=by
 obtain⟨ps,ts,rfl,hl,h⟩:=h
 unfold eu
 have e1:gE (lT ps ts) (.int 1)=some (.tup (ts.map lE)):=ai (j:=1) rfl
 try lia
 refine ab e1 ?_
 try lia
 refine br (λx=>match x with|.tup [.str a,.str b,.str c,.int d]=>if Bb ps ⟨a,b,c,d⟩=true then some (.str a)else none|_=>none) (λx hx R hR=>?_) (by simp;omega) ?_
 .obtain⟨t,ht,rfl⟩:=List.mem_map.mp hx
  refine⟨ps,ts,t,rfl,?_⟩
  replace hR:R (if Bb ps t=true then some (.str t.nm)else none) [some ⟨0,lT ps ts⟩]:=hR
  show opt (some (Bb ps t)) _
  rw[dB]
  cases e:Bb ps t with
  |false=>rw[e]at hR;exact hR
  |true=>
   rw[e]at hR
   show opt (gE (lE t) (.int 0)) _
   refine ab (z:=.str t.nm) (ai (j:=0) rfl) ?_
   exact hR
 .rw[aaN,List.filterMap_map]
  have e:ts.filterMap ((λx=>match x with|PV.tup [.str a,.str b,.str c,.int d]=>if Bb ps ⟨a,b,c,d⟩=true then some (PV.str a)else none|_=>none) ∘ lE)=(jE ps ts).map .str:=by
   unfold jE
   rw[aaw]
   exact jk (Bb ps) (λt=>PV.str t.nm) ts
  rw[e]
  exact ab rfl h
theorem o6(xs:List PV)(P:PV->Prop)(h:dr xs P):Q.run 1 fo xs P:=by
 obtain⟨x,rfl,hx,h⟩:=h
 unfold fo
 cases x with
 |set _=>exact hx.elim
 |C2 _=>exact hx.elim
 |_=>lia;exact h
theorem lw(h:tO x):Plain (.str x):=by
 have:=h.hi
 have e:x.length=x.cps.toList.length:=by simp[aeV]
 show x.length<=1000
 omega
variable{ws:List Str}
theorem vh(h:ws.Pairwise AZ):Hl ws=true:=by
 unfold Hl
 rw[ab5]
 intro b hb
 obtain⟨j,hj⟩:=List.getElem?_of_mem hb
 unfold Kv at hj
 rw[aaj]at hj
 cases e:(ws.zip (ws.drop 1))[j]? with
 |none=>rw[e]at hj;cases hj
 |some p=>
  rw[e]at hj
  rw[aaY]at e
  obtain⟨e1,e2⟩:=e
  rw[List.getElem?_drop,ad8]at e2
  obtain⟨l1,g1⟩:=List.getElem?_eq_some_iff.mp e1
  obtain⟨l2,g2⟩:=List.getElem?_eq_some_iff.mp e2
  have:=List.pairwise_iff_getElem.mp h j (j+1) l1 l2 (by omega)
  rw[g1,g2]at this
  simp[this]at hj
  simp[<- hj]
theorem eq_str(i j:Str):AN (.str i) (.str j)=some (.bl (i==j)):=rfl
theorem u8(us:List Str):(us.map PV.str).filterMap CC=us:=by
 induction us with
 |nil=>rfl
 |cons u us ih=>exact congrArg (u::·) ih
theorem vL(ok:Bs ps ts):(jE ps ts).Nodup:=(bW ok).sublist (List.filter_sublist.map _)
theorem wO(ok:Bs ps ts)(h1:ps.length<=60)(h2:ts.length<=60):Nt ps ts:=⟨ok.rise,λt ht=>pG (ok.tie t ht).lt,h1,by omega⟩
theorem iK(fs:List Str):(fs.map PV.str).mapM CC=some fs:=by
 induction fs with
 |nil=>rfl
 |cons f fs ih=>rw[aan,aby,ih];rfl
theorem xj{x:PV}{ns:List Int}(m:Nat)(hx:x=.C2 ns\/x=.lst (ns.map .int)):∃zs,Kq x none (some (m:Int))=some (.lst zs)/\zs.length<=m:=by
 rcases hx with rfl|rfl
 .exact⟨_,rfl,by rw[fg];simp;omega⟩
 .exact⟨_,rfl,by rw[fg];simp;omega⟩
theorem tZ(ps:List Str):(ps.map PV.str).mapM DZ=some (ps.map λp=>(aav p:Key)):=by
 induction ps with
 |nil=>rfl
 |cons p ps ih=>rw[aan,aby,ih];rfl
theorem je(h:ps.Nodup):(ps.map λp=>(aav p:Key)).Nodup:=by
 rw[acF,ae1]
 exact(List.nodup_iff_pairwise_ne.mp h).imp λBV e=>BV (Sum.inr.inj e)
theorem pZ(ps:List Str)(g:Str->List (Str×Str)):((ps.map λp=>((aav p:Key),PV.lst ((g p).map Bc))).map (·.1))=ps.map λp=>(aav p:Key):=by rw[aaw];rfl
theorem uS(nd:ps.Nodup)(h:y∈ps):Q.HS (ps.map λp=>((aav p:Key),PV.lst ((g p).map Bc))) (aav y)=some ((g y).map Bc):=by
 unfold Q.HS
 have:=cO (f:=id) (g:=λp=>PV.lst ((g p).map Bc)) (l:=ps) (a:=y) (by simpa using nd) h
 simp only[id]at this
 rw[this]
theorem rE{q:Str×Str}:FT (ps.map λp=>((aav p:Key),PV.lst ((g p).map Bc))) (aav y) ((g y).map Bc++[Bc q])=ps.map λp=>((aav p:Key),PV.lst ((if p=y then g y++[q]else g p).map Bc)):=by
 unfold FT
 rw[aaw]
 refine aaW λp hp=>?_
 show (if (aav p:Key)=aav y then ((aav y:Key),PV.lst ((g y).map Bc++[Bc q]))else (aav p,PV.lst ((g p).map Bc)))=(aav p,PV.lst ((if p=y then g y++[q]else g p).map Bc))
 by_cases e:p=y
 .subst e;simp
 .simp[e]
theorem mE(xs:List PV)(P:PV->Prop)(h:dG xs P):Q.Lh 3 dy xs P:=by
 obtain⟨ps,ts,rfl,ok,h⟩:=h
 have nd:=bo ok.rise
 have e0:gE (lT ps ts) (.int 0)=some (.tup (ps.map .str)):=ai (j:=0) rfl
 have e1:gE (lT ps ts) (.int 1)=some (.tup (ts.map lE)):=ai (j:=1) rfl
 unfold dy
 refine ah λN hN=>?_
 show opt (gE (lT ps ts) (.int 0)) _
 refine ab e0 ⟨_,tZ ps,je nd,by simp;have:=ok.pl;omega,?_⟩
 have e2:(ps.map λp=>(aav p:Key)).map (λk=>(k,PV.lst []))=ps.map λp=>((aav p:Key),PV.lst ((BX ps (ts.take 0) p).map Bc)):=by rw[aaw];rfl
 rw[e2]
 show N [some ⟨0,lT ps ts⟩,some ⟨4,Ck ps (BX ps (ts.take 0))⟩,none]
 subst hN
 refine ah λN hN=>cy λG B hG hB=>?_
 show opt (gE (lT ps ts) (.int 1)) _
 refine ab e1 ?_
 show Du G B _ (ts.map lE) _
 refine bC (λj e=>∃v2,e=[some ⟨0,lT ps ts⟩,some ⟨4,Ck ps (BX ps (ts.take j))⟩,v2]) (i:=0) ⟨none,rfl⟩ ?_ ?_
 case refine_2=>
  rintro e ⟨v2,rfl⟩
  rw[aac,abI,abF]
  show N _
  subst hN
  exact⟨⟨_,rfl⟩,h⟩
 rintro j x e M hx ⟨v2,rfl⟩ k
 rw[abI]at k ⊢
 have hj:j<ts.length:=by have:=(List.getElem?_eq_some_iff.mp hx).1;rwa [aac]at this
 have ex:x=lE ts[j]:=by
  rw[aaj,aab hj]at hx
  exact(aap hx).symm
 subst ex hG hB
 show Cc _ _ _ _ [some ⟨0,lT ps ts⟩,some ⟨4,Ck ps (BX ps (ts.take j))⟩,some ⟨0,lE ts[j]⟩]
 refine aL λA1 B1 hA hB=>?_
 lia
 refine⟨ps,ts,ts[j],rfl,?_⟩
 subst hA hB
 show opt (some (Bb ps ts[j])) _
 refine DX.mpr ?_
 have step:=λp=>wJ (ps:=ps) hj p
 cases eo:Bb ps ts[j]with
 |false=>
  refine k _ ⟨some ⟨0,lE ts[j]⟩,?_⟩
  have e:BX ps (ts.take (j+1))=BX ps (ts.take j):=by
   funext p
   rw[step p,eo]
   simp
  rw[e]
 |true=>
  obtain⟨h1,h2⟩:=Bm.mp eo
  have BV:=ok.ne ts[j] (abl _)
  have hlen:∀p,(BX ps (ts.take j) p).length<=2000:=λp=>by
   have:=sg ps (ts.take j) p
   have h3:(ts.take j).length<=1000:=by simp;have:=ok.tl;omega
   omega
  rw[if_pos rfl]
  refine ah λN' KR=>?_
  refine⟨by rw[pZ];exact je nd,?_⟩
  show opt (gE (lE ts[j]) (.int 1)) _
  refine ab (z:=.str ts[j].one) (ai (j:=1) rfl) (ab (z:=aav ts[j].one) rfl (ab (uS nd h1) ?_))
  show opt (gE (lE ts[j]) (.int 0)) _
  refine ab (z:=.str ts[j].nm) (ai (j:=0) rfl) ?_
  show opt (gE (lE ts[j]) (.int 2)) _
  refine ab (z:=.str ts[j].A3) (ai (j:=2) rfl) ⟨by simp;have:=hlen ts[j].one;omega,?_⟩
  have ea:=rE (ps:=ps) (g:=BX ps (ts.take j)) (y:=ts[j].one) (q:=(ts[j].nm,ts[j].A3))
  show N' [some ⟨0,lT ps ts⟩,some ⟨4,.BJ (FT _ (aav ts[j].one) ((BX ps (ts.take j) ts[j].one).map Bc++[Bc (ts[j].nm,ts[j].A3)]))⟩,some ⟨0,lE ts[j]⟩]
  rw[ea]
  generalize Kc:(λp=>if p=ts[j].one then BX ps (ts.take j) ts[j].one++[(ts[j].nm,ts[j].A3)]else BX ps (ts.take j) p)=g'
  have eg:∀p,(if p=ts[j].one then BX ps (ts.take j) ts[j].one++[(ts[j].nm,ts[j].A3)]else BX ps (ts.take j) p)=g' p:=λp=>by rw[<- Kc]
  simp only[eg]
  subst KR
  refine⟨by rw[pZ];exact je nd,?_⟩
  show opt (gE (lE ts[j]) (.int 2)) _
  refine ab (z:=.str ts[j].A3) (ai (j:=2) rfl) (ab (z:=aav ts[j].A3) rfl (ab (uS nd h2) ?_))
  show opt (gE (lE ts[j]) (.int 0)) _
  refine ab (z:=.str ts[j].nm) (ai (j:=0) rfl) ?_
  show opt (gE (lE ts[j]) (.int 1)) _
  refine ab (z:=.str ts[j].one) (ai (j:=1) rfl) ⟨by simp;rw[<- eg,if_neg BV.symm];have:=hlen ts[j].A3;omega,?_⟩
  have eb:=rE (ps:=ps) (g:=g') (y:=ts[j].A3) (q:=(ts[j].nm,ts[j].one))
  show M [some ⟨0,lT ps ts⟩,some ⟨4,.BJ (FT _ (aav ts[j].A3) ((g' ts[j].A3).map Bc++[Bc (ts[j].nm,ts[j].one)]))⟩,some ⟨0,lE ts[j]⟩]
  rw[eb]
  refine k _ ⟨some ⟨0,lE ts[j]⟩,?_⟩
  have e:BX ps (ts.take (j+1))=λp=>if p=ts[j].A3 then g' ts[j].A3++[(ts[j].nm,ts[j].one)]else g' p:=by
   funext p
   rw[step p,eo,if_pos rfl]
   unfold ends
   by_cases q1:p=ts[j].A3
   .subst q1
    rw[if_pos rfl,<- eg,if_neg BV.symm,if_neg BV,if_pos rfl];rfl
   .rw[if_neg q1,<- eg]
    by_cases q2:p=ts[j].one
    .subst q2
     rw[if_pos rfl,if_pos rfl,if_neg (λz=>q1 z.symm)];rfl
    .rw[if_neg q2,if_neg (λz=>q2 z.symm),if_neg (λz=>q1 z.symm)];simp
  rw[e];rfl
variable{cs:Cs}
theorem zZ(h:y∉C6 cs):BY (cs.map λc=>((aav c.1:Key),HE c.2)) (aav y)=none:=nh (f:=λc:Str×Option (Str×Str)=>c.1) h
theorem yq(nd:(C6 cs).Nodup)(h:y∈C6 cs):∃c∈cs,c.1=y/\BY (cs.map λc=>((aav c.1:Key),HE c.2)) (aav y)=some (HE c.2):=by
 obtain⟨c,hc,rfl⟩:=List.mem_map.mp h
 exact⟨c,hc,rfl,cO (f:=λc:Str×Option (Str×Str)=>c.1) (g:=λc=>HE c.2) nd hc⟩
theorem xS{kvs:List (Key×PV)}:BH (.str y) (.BJ kvs)=some (.bl (!(BY kvs (aav y)).isSome)):=rfl
structure Nn(ps:List Str)(g:Str->List (Str×Str))(start:Str)(cs:Cs)(as:List Str):Prop where
 ok:Eu g start cs
 ER:∀y∈C6 cs,y∈ps
 sub:∀y∈as,y∈C6 cs
 al:as.length<=cs.length
theorem qm(xs:List PV)(P:PV->Prop)(h:gD xs P):Q.run 7 gg xs P:=by
 obtain⟨ps,g,start,rfl,nd,FP,HW,B8,h⟩:=h
 unfold gg
 refine ah λN hN=>?_
 show opt (DZ (.str start)) _
 refine ab (z:=aav start) rfl ?_
 show N [some ⟨0,Ck ps g⟩,some ⟨0,.str start⟩,some ⟨1,CQ [(start,none)]⟩,none,none,none,none]
 subst hN
 refine ah λN hN=>?_
 show N [some ⟨0,Ck ps g⟩,some ⟨0,.str start⟩,some ⟨1,CQ [(start,none)]⟩,some ⟨1,.lst ([start].map .str)⟩,none,none,none]
 subst hN
 refine ah λN hN=>sI λC B hC hB=>?_
 have c0:Nn ps g start [(start,none)] [start]:=⟨⟨by simp[C6],λi c hc=>?_,by simp⟩,λy hy=>?_,λy hy=>?_,by simp⟩
 rotate_left
 .cases i with
  |zero=>exact .inl ⟨rfl,by simpa using hc.symm⟩
  |succ i=>simp at hc
 .simp[C6]at hy;subst hy;exact FP
 .simpa[C6]using hy
 have Xf:∀y∈ps,gE (Ck ps g) (.str y)=some (.lst ((g y).map Bc)):=λy hy=>by
  show BY _ (aav y)=_
  have:=cO (f:=id) (g:=λp=>PV.lst ((g p).map Bc)) (l:=ps) (a:=y) (by simpa using nd) hy
  exact this
 refine sU (λk e=>∃cs as v4 v5 v6,e=[some ⟨0,Ck ps g⟩,some ⟨0,.str start⟩,some ⟨1,CQ cs⟩,some ⟨1,.lst (as.map .str)⟩,v4,v5,v6]/\Nn ps g start cs as/\(∀y∈C6 cs,y∉as->∀q∈g y,q.2∈C6 cs)/\k=2*(ps.length - cs.length)+as.length) (k:=2*(ps.length - 1)+1) ?_ ⟨[(start,none)],[start],none,none,none,rfl,c0,λy hy hn=>absurd (by simpa[C6]using hy) hn,rfl⟩
 rintro k e M ⟨cs,as,v4,v5,v6,rfl,ca,cl,rfl⟩ km
 subst hC
 show opt (some (!(as.map PV.str).isEmpty)) _
 refine DX.mpr ?_
 cases hA:as with
 |nil=>
  show N _
  subst hN
  show P (CQ cs)
  exact h cs ca.ok ca.ER λy hy=>cl y hy (by rw[hA];simp)
 |cons a0 ar=>
 rw[<- hA]
 rw[show (!(List.map PV.str as).isEmpty)=true by rw[hA];rfl,if_pos rfl]
 have VM:0<as.length:=by rw[hA];simp
 obtain⟨here,hh⟩:∃y,as[as.length - 1]?=some y:=⟨_,aab (by omega)⟩
 have Uk:here∈as:=abk hh
 have Ss:here∈ps:=ca.ER _ (ca.sub _ Uk)
 subst hB
 refine ah λM' Wo=>?_
 lia
 have ep:KC (as.map PV.str) []=some (.str here,(as.dropLast).map .str):=by
  show ((as.map PV.str)[(as.map PV.str).length - 1]?).map _=_
  rw[aac,aaj,hh,<- List.map_dropLast];rfl
 refine ab ep ?_
 lia
 subst Wo
 refine cy λG B hG hB=>?_
 lia
 refine ab (Xf here Ss) ?_
 show Du G B _ ((g here).map Bc) _
 subst hG hB
 have Mz:∀y∈as,y=here\/y∈as.dropLast:=λy hy=>by
  obtain⟨i,hi,rfl⟩:=aey hy
  by_cases e:i=as.length - 1
  .left
   subst e
   rw[aab hi]at hh
   exact aap hh
  .right
   rw[List.mem_iff_getElem]
   exact⟨i,by simp;omega,by simp⟩
 refine bC (λj e=>∃Fm Kk v5 v6,e=[some ⟨0,Ck ps g⟩,some ⟨0,.str start⟩,some ⟨1,CQ Fm⟩,some ⟨1,.lst (Kk.map .str)⟩,some ⟨0,.str here⟩,v5,v6]/\Nn ps g start Fm Kk/\here∈C6 Fm/\(∀y∈C6 Fm,y≠here->y∉Kk->∀q∈g y,q.2∈C6 Fm)/\(∀i q,i<j->(g here)[i]?=some q->q.2∈C6 Fm)/\2*(ps.length - Fm.length)+Kk.length<2*(ps.length - cs.length)+as.length) (i:=0)
  ⟨cs,as.dropLast,v5,v6,rfl,⟨ca.ok,ca.ER,λy hy=>ca.sub y (List.dropLast_subset _ hy),by have:=ca.al;simp;omega⟩,ca.sub _ Uk,λy hy BV hn=>cl y hy λz=>(Mz y z).elim BV hn,λi q hi=>absurd hi (by omega),by simp;omega⟩ ?_ ?_
 .rintro j x e M2 hx ⟨Fm,Kk,w5,w6,rfl,IH,ET,QJ,seen,ms⟩ k2
  obtain⟨q,hq,rfl⟩:∃q,(g here)[j]?=some q/\x=Bc q:=by
   rw[aaj]at hx
   cases e:(g here)[j]? with
   |none=>rw[e]at hx;cases hx
   |some q=>rw[e]at hx;exact⟨q,rfl,(aap hx).symm⟩
  have R8:=abk hq
  have hlen:=bB IH.ok.nd IH.ER
  have XD:(C6 Fm).length=Fm.length:=by simp[C6]
  unfold Bc
  lia
  refine ab (show BH (.str q.2) (CQ Fm)=_ from xS) ?_
  lia
  by_cases Iz:q.2∈C6 Fm
  .obtain⟨c,_,_,ev⟩:=yq IH.ok.nd Iz
   rw[ev]
   simp only[aeH,abK,aaR,if_false]
   refine k2 _ ⟨Fm,Kk,_,_,rfl,IH,ET,QJ,λi r hi hr=>?_,ms⟩
   by_cases ei:i<0+j
   .exact seen i r ei hr
   .have:i=j:=by omega
    subst this
    rw[hq]at hr;cases hr;exact Iz
  .rw[zZ Iz]
   simp only[Option.isSome_none,act,if_true]
   have BW:Fm.length<ps.length:=by
    have:=bB (xs:=q.2::C6 Fm) (ys:=ps) (List.nodup_cons.mpr ⟨Iz,IH.ok.nd⟩) λy hy=>by
     rcases List.mem_cons.mp hy with rfl|hy
     .exact HW here Ss q R8
     .exact IH.ER y hy
    simp[C6]at this
    omega
   have Pj:Kk.length<=100000:=by have:=IH.al;omega
   simp only[Mk]
   lia
   have WB:FN (.BJ (Fm.map λc=>((aav c.1:Key),HE c.2))) (.str q.2) (.tup [.str q.1,.str here])=some (CQ (Fm++[(q.2,some (q.1,here))])):=by
    refine(if_pos (by simp;omega)).trans ?_
    show some (PV.BJ (E6 _ (aav q.2) _))=_
    rw[oS (f:=λc:Str×Option (Str×Str)=>c.1) Iz]
    unfold CQ
    rw[aaZ];rfl
   refine ab (show FN (CQ Fm) _ _=_ from WB) ?_
   try lia
   refine ab (Ip (by simpa using Pj)) ?_
   have GU:∀y,y∈C6 (Fm++[(q.2,some (q.1,here))])↔y∈C6 Fm\/y=q.2:=λy=>by simp[C6]
   refine k2 _ ⟨Fm++[(q.2,some (q.1,here))],Kk++[q.2],some ⟨0,.str q.1⟩,some ⟨0,.str q.2⟩,?_,⟨IH.ok.snoc Iz ET R8,λy hy=>?_,λy hy=>?_,by have:=IH.al;simp;omega⟩,(GU _).mpr (.inl ET),λy hy BV hn r hr=>?_,λi r hi hr=>?_,?_⟩
   .rw[aaZ];rfl
   .rcases(GU y).mp hy with z|rfl
    .exact IH.ER y z
    .exact HW here Ss q R8
   .rcases List.mem_append.mp hy with z|z
    .exact(GU y).mpr (.inl (IH.sub y z))
    .simp at z;exact(GU y).mpr (.inr z)
   .rcases(GU y).mp hy with z|rfl
    .exact(GU _).mpr (.inl (QJ y z BV (λw=>hn (by simp[w])) r hr))
    .exact absurd (by simp) hn
   .by_cases ei:i<0+j
    .exact(GU _).mpr (.inl (seen i r ei hr))
    .have:i=j:=by omega
     subst this
     rw[hq]at hr;cases hr;exact(GU _).mpr (.inr rfl)
   .simp;omega
 .rintro e ⟨Fm,Kk,w5,w6,rfl,IH,ET,QJ,seen,ms⟩
  refine km _ _ ms ⟨Fm,Kk,_,_,_,rfl,IH,λy hy hn r hr=>?_,rfl⟩
  by_cases e:y=here
  .subst e
   obtain⟨i,hi,rfl⟩:=aey hr
   exact seen i _ (by simp;exact hi) (aab hi)
  .exact QJ y hy e hn r hr
theorem yr(cs:Cs):((cs.map λc=>((aav c.1:Key),HE c.2)).map (·.1)).mapM Fb=some (C6 cs):=by
 induction cs with
 |nil=>rfl
 |cons c cs ih=>
  rw[aan,aan,aby,ih];rfl
theorem qh(xs:List PV)(P:PV->Prop)(h:gB xs P):Q.run 2 ga xs P:=by
 obtain⟨ps,g,start,rfl,rise,FP,HW,B8,h⟩:=h
 unfold ga
 lia
 simp only[Cv]
 try lia
 refine⟨ps,g,start,rfl,bo rise,FP,HW,by omega,λcs ok ER cl=>?_⟩
 have hlen:=bB ok.nd ER
 show ∃ss,_
 refine⟨C6 cs,yr cs,by omega,λts up=>?_⟩
 have e:ts=ps.filter (rb g start):=ic (gI up.2 (up.1.nodup_iff.mpr ok.nd)) (rise.sublist aa0) λz=>by
  rw[up.1.mem_iff,ok.iff cl,ace,DK]
  exact⟨λh=>⟨h.ER FP HW,h⟩,λh=>h.2⟩
 rw[<- e]at h
 exact ab rfl h
variable{S:List Str}
theorem Fn{k:Str}:y∈DR S k↔y∈S\/y=k:=by
 unfold DR
 split
 .rename_i h
  exact⟨.inl,λz=>z.elim id λe=>e ▸ h⟩
 .simp
theorem qc{k:Str}(h:S.Nodup):(DR S k).Nodup:=by
 unfold DR
 split
 .exact h
 .rename_i hk
  rw[abJ]
  exact⟨h,by simp,λa ha b hb=>by simp at hb;subst hb;exact λe=>hk (e ▸ ha)⟩
theorem xR:BH (.str y) (.set S)=some (.bl (!decide (y∈S))):=rfl
theorem rZ(xs:List PV)(P:PV->Prop)(h:eN xs P):Q.run 7 g9 xs P:=by
 obtain⟨ps,ts,rfl,ok,h⟩:=h
 have rise:=ok.rise
 have e0:gE (lT ps ts) (.int 0)=some (.tup (ps.map .str)):=ai (j:=0) rfl
 have ER:∀p∈ps,∀q∈BX ps ts p,q.2∈ps:=λp _=>yB
 unfold g9
 refine ah λN hN=>?_
 lia
 refine⟨ps,ts,rfl,ok,?_⟩
 revert ER h
 generalize BX ps ts=g
 intro h ER
 subst hN
 refine ah λN hN=>?_
 show N [some ⟨0,lT ps ts⟩,some ⟨0,Ck ps g⟩,some ⟨1,.set []⟩,none,none,none,none]
 subst hN
 refine ah λN hN=>?_
 show N [some ⟨0,lT ps ts⟩,some ⟨0,Ck ps g⟩,some ⟨1,.set []⟩,some ⟨1,.lst []⟩,none,none,none]
 subst hN
 refine ah λN hN=>cy λG B hG hB=>?_
 lia
 refine ab e0 ?_
 show Du G B _ (ps.map .str) _
 refine bC (λi e=>∃(S:List Str) (v4 v5 v6:Option Sl),e=[some ⟨0,lT ps ts⟩,some ⟨0,Ck ps g⟩,some ⟨1,.set S⟩,some ⟨1,.lst ((((ps.take i).filter (root ps g)).map λs=>ps.filter (rb g s)).map λq=>.tup (q.map .str))⟩,v4,v5,v6]/\S.Nodup/\(∀y∈S,y∈ps)/\(∀y,y∈S↔∃p∈ps.take i,BG g p y)) (i:=0)
  ⟨[],none,none,none,rfl,by simp,by simp,λy=>by simp⟩ ?_ ?_
 case refine_2=>
  rintro e ⟨S,v4,v5,v6,rfl,_⟩
  show N _
  rw[aac,abI,abF]
  subst hN
  exact ab rfl h
 rintro i x e M hx ⟨S,v4,v5,v6,rfl,TZ,J7,hS⟩ k
 rw[abI]at k hS ⊢
 have hit:i<ps.length:=by have:=(List.getElem?_eq_some_iff.mp hx).1;rwa [aac]at this
 have ex:x=.str ps[i]:=by
  rw[aaj,aab hit]at hx
  exact(aap hx).symm
 subst ex hG hB
 have fs:=j4 (f:=root ps g) hit
 have before:∀p∈ps,AZ p ps[i]↔p∈ps.take i:=λp hp=>by
  constructor
  .intro BW
   obtain⟨j,hj,rfl⟩:=aey hp
   rcases adE j i with z|z|z
   .exact List.mem_take_iff_getElem.mpr ⟨j,by omega,rfl⟩
   .subst z;exact absurd BW (cx _)
   .exact absurd BW (dg (List.pairwise_iff_getElem.mp rise i j hit hj z))
  .intro hm
   obtain⟨j,hj,rfl⟩:=List.mem_take_iff_getElem.mp hm
   exact List.pairwise_iff_getElem.mp rise j i (by omega) hit (by omega)
 have rt:root ps g ps[i]=!decide (ps[i]∈S):=by
  rw[abe,BB,adJ,decide_eq_false_iff_not]
  constructor
  .intro h e
   obtain⟨p,hp,hr⟩:=(hS _).mp e
   have T7:=abL hp
   exact absurd ((before p T7).mpr hp) (h p T7 hr)
  .intro h p hp hr BW
   exact h ((hS _).mpr ⟨p,(before p hp).mp BW,hr⟩)
 have tk:∀p,p∈ps.take (i+1)↔p∈ps.take i\/p=ps[i]:=λp=>by
  rw[abY,aab hit,acy];simp
 show Cc _ _ _ _ [some ⟨0,lT ps ts⟩,some ⟨0,Ck ps g⟩,some ⟨1,.set S⟩,some ⟨1,.lst _⟩,some ⟨0,.str ps[i]⟩,v5,v6]
 refine aL λA1 B1 Dg BU=>?_
 lia
 refine ab xR ?_
 lia
 by_cases eS:ps[i]∈S
 .have e:(!decide (ps[i]∈S))=false:=by simp[eS]
  rw[e]at rt
  simp only[e,aaR,if_false]
  subst BU
  refine k _ ⟨S,some ⟨0,.str ps[i]⟩,v5,v6,?_,TZ,J7,λy=>?_⟩
  .rw[fs,rt];simp
  .rw[hS y]
   constructor
   .rintro⟨p,hp,hr⟩;exact⟨p,(tk p).mpr (.inl hp),hr⟩
   .rintro⟨p,hp,hr⟩
    rcases(tk p).mp hp with hp|rfl
    .exact⟨p,hp,hr⟩
    .obtain⟨p',Sa,VL⟩:=(hS _).mp eS
     exact⟨p',Sa,BG.trans VL hr⟩
 .have e:(!decide (ps[i]∈S))=true:=by simp[eS]
  rw[e]at rt
  simp only[e,if_true]
  subst Dg
  refine ah λN2 Pk=>?_
  lia
  refine⟨ps,g,ps[i],rfl,rise,abl _,ER,ok.pl,?_⟩
  lia
  subst Pk
  refine ah λN2 Pk=>cy λG B hG hB=>?_
  lia
  subst hG hB
  refine bC (λj e=>∃(S':List Str) (v6:Option Sl),e=[some ⟨0,lT ps ts⟩,some ⟨0,Ck ps g⟩,some ⟨1,.set S'⟩,some ⟨1,.lst ((((ps.take i).filter (root ps g)).map λs=>ps.filter (rb g s)).map λq=>.tup (q.map .str))⟩,some ⟨0,.str ps[i]⟩,some ⟨0,.tup ((ps.filter (rb g ps[i])).map .str)⟩,v6]/\S'.Nodup/\(∀y∈S',y∈ps)/\(∀y,y∈S'↔y∈S\/y∈(ps.filter (rb g ps[i])).take j)) (i:=0)
   ⟨S,v6,rfl,TZ,J7,λy=>by simp⟩ ?_ ?_
  .rintro j x e M2 hx ⟨S',w6,rfl,Ny,Qq,KQ⟩ k2
   rw[abI]at k2 KQ
   have hj:j<(ps.filter (rb g ps[i])).length:=by have:=(List.getElem?_eq_some_iff.mp hx).1;rwa [aac]at this
   have ex:x=.str (ps.filter (rb g ps[i]))[j]:=by
    rw[aaj,aab hj]at hx
    exact(aap hx).symm
   subst ex
   have hlen:=bB Ny Qq
   refine⟨trivial,by have:=ok.pl;omega,k2 _ ⟨DR S' (ps.filter (rb g ps[i]))[j],_,rfl,qc Ny,λy hy=>?_,λy=>?_⟩⟩
   .rcases Fn.mp hy with z|rfl
    .exact Qq y z
    .exact(List.mem_filter.mp (abl hj)).1
   .rw[Fn,KQ y,abY,aab hj,acy]
    simp only[Option.toList_some,adt]
    exact or_assoc
  .rintro e ⟨S',w6,rfl,Ny,Qq,KQ⟩
   rw[abI,aac,abF]at KQ
   show N2 _
   subst Pk
   lia
   refine ab (Ip (by simp;have:=aaH (root ps g) (ps.take i);simp at this;have:=ok.pl;omega)) ?_
   refine k _ ⟨S',some ⟨0,.str ps[i]⟩,some ⟨0,.tup ((ps.filter (rb g ps[i])).map .str)⟩,w6,?_,Ny,Qq,λy=>?_⟩
   .rw[fs,rt];simp
   .rw[KQ y,hS y]
    constructor
    .rintro(⟨p,hp,hr⟩|hy)
     .exact⟨p,(tk p).mpr (.inl hp),hr⟩
     .exact⟨ps[i],(tk _).mpr (.inr rfl),DK.mp (List.mem_filter.mp hy).2⟩
    .rintro⟨p,hp,hr⟩
     rcases(tk p).mp hp with hp|rfl
     .exact .inl ⟨p,hp,hr⟩
     .exact .inr (List.mem_filter.mpr ⟨hr.ER (abl _) ER,DK.mpr hr⟩)
theorem qX{L:Str->Str}(nd:ps.Nodup)(h:p∈ps):gE (GH ps L) (.str p)=some (.str (L p)):=by
 show BY _ (aav p)=_
 exact cO (f:=id) (g:=λp=>PV.str (L p)) (l:=ps) (a:=p) (by simpa using nd) h
theorem Ec(ps:List Str)(ts:List AE):gE (lT ps ts) (.int 1)=some (.tup (ts.map lE)):=ai (j:=1) rfl
theorem DC(ps:List Str)(ts:List AE):gE (lT ps ts) (.int 0)=some (.tup (ps.map .str)):=ai (j:=0) rfl
theorem tB(xs:List PV)(P:PV->Prop)(h:jo xs P):Q.run 1 iE xs P:=by
 obtain⟨ps,ts,rfl,hl,nd,h⟩:=h
 unfold iE
 lia
 simp only[KW]
 lia
 refine ab (Ec ps ts) ?_
 lia
 refine fO (done:=[]) AE.nm (λt=>.tup [.int t.cost,.str t.nm]) lE nd (λt ht R hR=>?_) (by simp;omega) h
 show opt (gE (lE t) (.int 0)) _
 refine ab (z:=.str t.nm) (ai (j:=0) rfl) ?_
 show opt (gE (lE t) (.int 3)) _
 refine ab (z:=.int t.cost) (ai (j:=3) rfl) ?_
 show opt (gE (lE t) (.int 0)) _
 refine ab (z:=.str t.nm) (ai (j:=0) rfl) ?_
 exact hR
variable{us:List AE}
theorem qZ(hl:ix.length=us.length)(nd:ix.Nodup)(lt:∀i∈ix,i<us.length):(ix.map λi=>us.getD i t0).Perm us:=by
 have h1:ix.Perm (aa6 us.length):=by
  refine(adp nd adW).mpr λi=>?_
  rw[List.mem_range]
  refine⟨lt i,λhi=>?_⟩
  have:=bB nd (λx hx=>List.mem_range.mpr (lt x hx))
  exact aa5 λhn=>by
   have h2:(i::ix).Nodup:=List.nodup_cons.mpr ⟨hn,nd⟩
   have h3:=bB (ys:=aa6 us.length) h2 (λx hx=>by
    rcases List.mem_cons.mp hx with rfl|hx
    .exact List.mem_range.mpr hi
    .exact List.mem_range.mpr (lt x hx))
   simp at h3;omega
 have h2:((aa6 us.length).map λi=>us.getD i t0)=us:=by
  apply acg
  intro i
  rw[aaj]
  by_cases hi:i<us.length
  .rw[ab2 hi];simp[hi]
  .rw[aao (by simpa using hi),aao (by omega)];rfl
 have h3:=h1.map λi=>us.getD i t0
 rw[h2]at h3
 exact h3
theorem xX{i j:Nat}(hi:i<us.length)(hj:j<us.length):HR (us.map λu=>(u.cost,u.nm)) i j=true↔Ez (us.getD i t0) (us.getD j t0):=by
 have g:∀i,i<us.length->(us.map λu=>(u.cost,u.nm)).getD i (0,⟨#[]⟩)=((us.getD i t0).cost,(us.getD i t0).nm):=λi hi=>by
  rw[aag,aaj,aab hi,aag,aab hi];rfl
 unfold HR Ez
 rw[g i hi,g j hj,decide_eq_true_eq]
theorem lH{i:Nat}(hi:i<us.length):(us.map AE.nm).getD i ⟨#[]⟩=(us.getD i t0).nm:=by
 rw[aag,aaj,aab hi,aag,aab hi];rfl
theorem jS(T:Addr)(c:PV)(xs:List PV)(P:PV->PV->Prop)(h:cE T c xs P):Q.DV 3 (cC T) c xs P:=by
 obtain⟨rfl,ps,ts,us,rfl,hl,nd,D0,U1,HW,h⟩:=h
 unfold cC
 simp only[DV,GR,IA]
 refine ah λN hN=>?_
 lia
 refine⟨ps,ts,rfl,hl,nd,?_⟩
 lia
 subst hN
 simp only[AO,HD,eV,acl,acY]
 refine⟨us.map AE.nm,us.map λu=>(u.cost,u.nm),(by first|trivial|rfl),iK _,by simpa using D0,by simp,by rw[aaw];exact U1,λm hm=>?_,λix ok=>?_⟩
 .rw[aac]at hm
  have hu:us.getD m t0∈us:=by rw[aag,aab hm];exact abl _
  have e:(us.map λu=>(u.cost,u.nm)).getD m k0=((us.getD m t0).cost,(us.getD m t0).nm):=by
   rw[aag,aaj,aab hm,aag,aab hm];rfl
  rw[e,lH hm]
  exact cO (f:=AE.nm) (g:=λt=>PV.tup [.int t.cost,.str t.nm]) nd (HW _ hu)
 .have lt:∀i∈ix,i<us.length:=λi hi=>by have:=ok.lt i hi;rwa [aac]at this
  have e:(ix.map λm=>PV.str ((us.map AE.nm).getD m ⟨#[]⟩))=((ix.map λi=>us.getD i t0).map AE.nm).map .str:=by
   rw[aaw,aaw]
   exact aaW λi hi=>by show PV.str _=PV.str _;rw[lH (lt i hi)]
  rw[e]
  refine h _ (qZ (by have:=ok.len;rwa [aac]at this) ok.nd lt) ?_
  refine List.pairwise_map.mpr (List.Pairwise.imp_of_mem (λhx hy hq=>?_) ok.up)
  exact(xX (lt _ hx) (lt _ hy)).mp hq
theorem o8(T:Addr)(c:PV)(xs:List PV)(P:PV->PV->Prop)(h:bQ T c xs P):Q.DV 1 (ft T) c xs P:=by
 obtain⟨rfl,ps,ts,rfl,ok,hp,ht,h⟩:=h
 unfold ft
 have hf:=aaH (Bb ps) ts
 simp only[DV,GR,IA]
 lia
 simp only[Bz]
 lia
 refine⟨ps,ts,rfl,by omega,?_⟩
 lia
 refine⟨rfl,ps,ts,ts.filter (Bb ps),rfl,by omega,bW ok,by omega,vL ok,λu hu=>(List.mem_filter.mp hu).1,λvs pm up=>?_⟩
 lia
 refine⟨ps,ts,vs,rfl,ok,hp,ht,pm,up,?_⟩
 exact h
theorem jF(a b:Str):DD (.str a) (.str b)=some (.bl (!decide (a=b))):=by
 show some (PV.bl (!decide (V.str a=V.str b)))=_
 congr 3
 simp
theorem bz(ok:Bs ps ts):(iD ps ts).Pairwise AZ:=ok.names.sublist ((List.filter_sublist.trans aa0).map _)
theorem xU{vs:List AE}{gs:List Str}(ok:Bs ps ts)(pm:vs.Perm (ts.filter (Bb ps)))(e:l=(vs.filter (CB ps (ts.filter (Bb ps)))).map AE.nm)(up:Er l gs):gs=iD ps ts:=by
 have p:gs.Perm (iD ps ts):=by
  refine up.1.trans ?_
  rw[e]
  exact(pm.filter _).map _
 exact jv p (gI up.2 (p.nodup_iff.mpr (bo (bz ok)))) (bz ok)
theorem jR(xs:List PV)(P:PV->Prop)(h:cD xs P):Q.run 9 cB xs P:=by
 obtain⟨ps,ts,vs,rfl,ok,hp,ht,pm,up,h⟩:=h
 have pn:=bo ok.rise
 have tn:=bW ok
 have vl:vs.length<=60:=by rw[pm.length_eq];exact aa3 (aaH _ _) ht
 have oo:∀u∈ts.filter (Bb ps),Bb ps u=true:=λu hu=>(List.mem_filter.mp hu).2
 have vo:∀u∈vs,Bb ps u=true:=λu hu=>oo u (pm.mem_iff.mp hu)
 have vt:∀u∈vs,u∈ts:=λu hu=>(List.mem_filter.mp (pm.mem_iff.mp hu)).1
 unfold cB
 refine ah λN hN=>?_
 lia
 refine⟨ps,ts,rfl,by omega,tn,?_⟩
 lia
 subst hN
 refine ah λN hN=>?_
 lia
 simp only[KW]
 lia
 refine ab (DC ps ts) ?_
 lia
 refine fO (done:=[]) (α:=Str) (λp=>p) PV.str PV.str (by simpa using pn) (λp hp R hR=>hR) (by simp;omega) ?_
 show N [some ⟨0,lT ps ts⟩,some ⟨0,.lst ((vs.map AE.nm).map .str)⟩,some ⟨0,.BJ (ts.map λt=>(aav t.nm,lE t))⟩,some ⟨1,GH ps id⟩,none,none,none,none,none]
 subst hN
 refine ah λN hN=>?_
 lia
 subst hN
 refine ah λN hN=>cy λG B hG hB=>?_
 lia
 refine bC (λj e=>∃(g:Str->Str) (v5 v6 v7 v8:Option Sl),e=[some ⟨0,lT ps ts⟩,some ⟨0,.lst ((vs.map AE.nm).map .str)⟩,some ⟨0,.BJ (ts.map λt=>(aav t.nm,lE t))⟩,some ⟨1,GH ps g⟩,some ⟨1,.lst ((((vs.take j).filter (CB ps (ts.filter (Bb ps)))).map AE.nm).map .str)⟩,v5,v6,v7,v8]/\Kr ps (vs.take j) g) (i:=0)
  ⟨id,none,none,none,none,rfl,Kr.nil⟩ ?_ ?_
 case refine_2=>
  rintro e ⟨g,v5,v6,v7,v8,rfl,hk⟩
  show N _
  rw[aac,aac,abI,abF]
  subst hN
  simp only[AO,BR,aS]
  lia
  simp only[Cv]
  lia
  refine⟨_,iK _,?_,λgs us=>ab rfl ?_⟩
  .rw[aac]
   have:=aaH (CB ps (ts.filter (Bb ps))) vs
   omega
  .rw[xU ok pm rfl us]
   exact h
 rintro j x e M hx ⟨g,v5,v6,v7,v8,rfl,hk⟩ k
 rw[abI]at k hk ⊢
 have hj:j<vs.length:=by have:=(List.getElem?_eq_some_iff.mp hx).1;simpa using this
 obtain⟨t,et⟩:∃t,vs[j]?=some t:=⟨_,aab hj⟩
 have ex:x=.str t.nm:=by
  rw[aaj,aaj,et]at hx
  exact(aap hx).symm
 have tv:t∈vs:=abk et
 have ot:=vo t tv
 obtain⟨o1,o2⟩:=Bm.mp ot
 have UA:vs.take (j+1)=vs.take j++[t]:=by rw[abY,et];rfl
 have oX:∀u∈vs.take j,Bb ps u=true:=λu hu=>vo u (abL hu)
 have hm:∀u,u∈vs.take j↔u∈below (ts.filter (Bb ps)) t:=λu=>by
  rw[Bl,<- pm.mem_iff]
  have Qx:=List.pairwise_iff_getElem.mp up
  have SV:vs[j]=t:=by rw[aab hj]at et;exact aap et
  constructor
  .intro hu
   obtain⟨i,hi,e⟩:=List.mem_iff_getElem.mp hu
   rw[ae2]at e
   have Ey:i<j:=by rw[aa8]at hi;omega
   refine⟨abL hu,?_⟩
   rw[<- e,<- SV]
   exact Qx i j (by omega) hj Ey
  .rintro⟨hu,hc⟩
   obtain⟨i,hi,e⟩:=List.mem_iff_getElem.mp hu
   rcases adE i j with z|z|z
   .rw[List.mem_iff_getElem]
    exact⟨i,by rw[aa8];omega,by rw[ae2];exact e⟩
   .subst z
    rw[SV]at e;subst e
    exact absurd hc (fj _)
   .have:=Qx j i hj hi z
    rw[SV,e]at this
    exact absurd hc (Af this)
 have mn:=Kr.min oX oo ot hk hm
 have st:=Kr.step oX ot pn hk
 rw[<- UA]at st
 subst ex hG hB
 show oR _ _ _ [some ⟨0,lT ps ts⟩,some ⟨0,.lst ((vs.map AE.nm).map .str)⟩,some ⟨0,.BJ (ts.map λt=>(aav t.nm,lE t))⟩,some ⟨1,GH ps g⟩,some ⟨1,.lst ((((vs.take j).filter (CB ps (ts.filter (Bb ps)))).map AE.nm).map .str)⟩,some ⟨0,.str t.nm⟩,v6,v7,v8]
 refine ah λN' KR=>?_
 lia
 refine ab (z:=lE t) (cO (f:=AE.nm) (g:=lE) tn (vt t tv)) ?_
 show N' _
 subst KR
 refine ah λN' KR=>?_
 lia
 simp only[IG]
 lia
 refine ab (z:=PV.str t.one) (ai (j:=1) rfl) ?_
 try lia
 refine ab (qX pn o1) ?_
 try lia
 refine ab (z:=PV.str t.A3) (ai (j:=2) rfl) ?_
 try lia
 refine ab (qX pn o2) ?_
 try lia
 show N' _
 subst KR
 refine aL λA1 B1 Dg BU=>?_
 lia
 refine ab (jF _ _) ?_
 lia
 have fe:(vs.take (j+1)).filter (CB ps (ts.filter (Bb ps)))=(vs.take j).filter (CB ps (ts.filter (Bb ps)))++(if CB ps (ts.filter (Bb ps)) t=true then [t]else []):=by
  rw[UA,aeM]
  congr 1
  rw[abq,List.filter_nil]
 have kl:((vs.take j).filter (CB ps (ts.filter (Bb ps)))).length<=60:=aa3 (aaH _ _) (by rw[aa8];omega)
 by_cases hg:g t.one=g t.A3
 .rw[decide_eq_true hg,abK,if_neg (by simp)]
  subst BU
  refine k _ ⟨g,some ⟨0,.str t.nm⟩,some ⟨0,lE t⟩,some ⟨0,.str (g t.one)⟩,some ⟨0,.str (g t.A3)⟩,?_,st.1 hg⟩
  rw[fe,if_neg (λz=>(mn.mpr (CW.mp z)) hg),abE]
 .rw[decide_eq_false hg,act,if_pos rfl]
  subst Dg
  refine ah λN' KR=>?_
  lia
  refine ab (Ip (by simp;omega)) ?_
  show N' [some ⟨0,lT ps ts⟩,some ⟨0,.lst ((vs.map AE.nm).map .str)⟩,some ⟨0,.BJ (ts.map λt=>(aav t.nm,lE t))⟩,some ⟨1,GH ps g⟩,some ⟨1,.lst ((((vs.take j).filter (CB ps (ts.filter (Bb ps)))).map AE.nm).map .str++[.str t.nm])⟩,some ⟨0,.str t.nm⟩,some ⟨0,lE t⟩,some ⟨0,.str (g t.one)⟩,some ⟨0,.str (g t.A3)⟩]
  subst KR
  show El _ _ _ _ _ _ ((ps.map λp=>((aav p:Key),PV.str (g p))).map GD) _ []
  rw[aaw]
  refine fO (done:=[]) (α:=Str) (λp=>p) (λp=>PV.str (if g p=g t.A3 then g t.one else g p)) (GD ∘ λp=>((aav p:Key),PV.str (g p))) (by simpa using pn) (λp hp R hR=>?_) (by simp;omega) ?_
  .refine⟨rfl,?_⟩
   show opt (AN (.str (g p)) (.str (g t.A3))) _
   refine ab (eq_str _ _) ?_
   show opt (some (g p==g t.A3)) _
   refine DX.mpr ?_
   by_cases z:g p=g t.A3
   .rw[if_pos z]at hR
    rw[beq_iff_eq.mpr z]
    exact hR
   .rw[if_neg z]at hR
    rw[beq_eq_false_iff_ne.mpr z]
    exact hR
  .refine k _ ⟨λp=>if g p=g t.A3 then g t.one else g p,some ⟨0,.str t.nm⟩,some ⟨0,lE t⟩,some ⟨0,.str (g t.one)⟩,some ⟨0,.str (g t.A3)⟩,?_,st.2 hg⟩
   have e:(((vs.take (j+1)).filter (CB ps (ts.filter (Bb ps)))).map AE.nm).map PV.str=(((vs.take j).filter (CB ps (ts.filter (Bb ps)))).map AE.nm).map PV.str++[.str t.nm]:=by
    rw[fe,if_pos (CW.mpr (mn.mp hg)),aaZ,aaZ];rfl
   rw[e]
   rfl
theorem wI(n:Nat):D4 [.lst ((aaI n true).map .bl)]=some (.bl true):=by
 rw[f8]
 congr 2
 induction n with
 |zero=>rfl
 |succ n ih=>rw[abf,List.all_cons,ih];rfl
theorem vV(l:List PV):l.map (λ_=>PV.bl true)=(aaI l.length true).map .bl:=by
 rw[List.map_replicate]
 induction l with
 |nil=>rfl
 |cons a l ih=>rw[aan,abp,abf,ih]
theorem kG(xs:List PV)(P:PV->Prop)(h:bj xs P):Q.run 1 cP xs P:=by
 obtain⟨ps,ts,rfl,hl,nd,h⟩:=h
 unfold cP
 lia
 simp only[KW]
 lia
 refine ab (Ec ps ts) ?_
 lia
 refine fO (done:=[]) AE.nm lE lE nd (λt ht R hR=>?_) (by simp;omega) h
 show opt (gE (lE t) (.int 0)) _
 refine ab (z:=.str t.nm) (ai (j:=0) rfl) ?_
 exact hR
variable{w:Str}{P:PV->Prop}
theorem lh(h:tO w)(k:P (.bl true)):bD [.str w] P:=⟨_,rfl,lw h,by rw[show Dk (.str w)=true from B7.mpr h];exact k⟩
theorem gL(xs:List PV)(P:PV->Prop)(h:bu xs P):Q.run 1 bO xs P:=by
 obtain⟨a,b,c,rfl,ha,hb,ne,h⟩:=h
 unfold bO
 refine ah λN hN=>aL λA1 B1 Dg BU=>?_
 lia
 refine ab (z:=.bl false) rfl ?_
 lia
 refine ab (z:=.str a) (ai (j:=0) rfl) (lh ha (ab (z:=true) rfl ?_))
 rw[if_neg (by simp)]
 refine ab (z:=.str b) (ai (j:=1) rfl) (lh hb (ab (z:=true) rfl ?_))
 rw[if_neg (by simp)]
 subst BU
 show N _
 subst hN
 lia
 refine ab (z:=.str a) (ai (j:=0) rfl) (ab (z:=.str b) (ai (j:=1) rfl) (ab (jF a b) ?_))
 rw[decide_eq_false ne]
 refine ab (z:=true) rfl ?_
 rw[if_pos rfl]
 exact ab (z:=.int c) (ai (j:=2) rfl) ⟨.int c,rfl,trivial,h⟩
theorem lR(h:(x==y)=false):AN (.str x) (.str y)=some (.bl false):=by rw[eq_str,h]
theorem lP(x:Str):AN (.str x) (.str x)=some (.bl true):=by rw[eq_str];simp
theorem ed{k:Str}{rest:List PV}(hk:tO k)(hw:tO w)(hl:rest.length<=10)
  (h:(k = "tie" /\ bu [.tup rest] P)\/(k = "cost" /\ ∃c:Int,rest=[.int c]/\P (.bl true))\/(((k == "tie")=false/\(k == "cost")=false/\k∈[aaP "place", "leave", "untie"])/\rest=[]/\P (.bl true))) :
  Q.run 2 dH [.tup (.str k::.str w::rest)] P:=by
 unfold dH
 refine ah λN hN=>aL λA1 B1 Dg BU=>?_
 lia
 refine ab (z:=.str k) (ai (j:=0) rfl) (lh hk (ab (z:=true) rfl ?_))
 rw[if_neg (by simp)]
 refine ab (z:=.str w) (ai (j:=1) rfl) (lh hw (ab (z:=true) rfl ?_))
 rw[if_neg (by simp)]
 subst BU
 show N _
 subst hN
 refine ah λN hN=>?_
 lia
 have ec:CO (.str k::.str w::rest) (some (2:Int)) none=rest:=by rw[show (2:Int)=((2:Nat):Int)from rfl,f7];rfl
 rw[ec]
 show N [some ⟨0,.tup (.str k::.str w::rest)⟩,some ⟨0,.tup rest⟩]
 subst hN
 refine ah λN hN=>aL λA1 B1 Dg BU=>?_
 lia
 refine ab (z:=.str k) (ai (j:=0) rfl) ?_
 rcases h with ⟨rfl,h⟩|⟨rfl,c,rfl,h⟩|⟨⟨n1,n2,hm⟩,rfl,h⟩
 .refine ab (lP _) ?_
  lia
  subst Dg
  lia
  exact h
 .refine ab (lR (by decide +kernel)) ?_
  lia
  subst BU
  show N _
  subst hN
  refine ah λN hN=>aL λA1 B1 Dg BU=>?_
  lia
  refine ab (z:=.str "cost") (ai (j:=0) rfl) (ab (lP _) ?_)
  lia
  subst Dg
  lia
  refine ab (z:=.bl true) rfl ?_
  lia
  exact ab (z:=.int c) (ai (j:=0) rfl) ⟨.int c,rfl,trivial,h⟩
 .refine ab (lR n1) ?_
  lia
  subst BU
  show N _
  subst hN
  refine ah λN hN=>aL λA1 B1 Dg BU=>?_
  lia
  refine ab (z:=.str k) (ai (j:=0) rfl) (ab (lR n2) ?_)
  lia
  subst BU
  show N _
  subst hN
  lia
  refine ab (z:=.str k) (ai (j:=0) rfl) (ab (bS (ys:=["place", "leave", "untie"])) ?_)
  rw[decide_eq_true (by simpa using hm)]
  lia
  exact ab (z:=.bl true) rfl h
theorem wX:tO "place" := B7.mp (by decide +kernel)
theorem wY:tO "leave" := B7.mp (by decide +kernel)
theorem Aj:tO "tie" := B7.mp (by decide +kernel)
theorem wW:tO "untie" := B7.mp (by decide +kernel)
theorem yG:tO "cost" := B7.mp (by decide +kernel)
theorem qk(xs:List PV)(P:PV->Prop)(h:gC xs P):Q.run 2 dH xs P:=by
 obtain⟨d,rfl,hd,h⟩:=h
 cases d with
 |Fz p=>exact ed wX hd (by simp) (.inr (.inr ⟨⟨by decide +kernel,by decide +kernel,by simp⟩,rfl,h⟩))
 |DM p=>exact ed wY hd (by simp) (.inr (.inr ⟨⟨by decide +kernel,by decide +kernel,by simp⟩,rfl,h⟩))
 |tie n a b c=>exact ed Aj hd.1 (by simp) (.inl ⟨rfl,a,b,c,rfl,hd.2.1,hd.2.2.1,hd.2.2.2,h⟩)
 |EK n=>exact ed wW hd (by simp) (.inr (.inr ⟨⟨by decide +kernel,by decide +kernel,by simp⟩,rfl,h⟩))
 |cos n c=>exact ed yG hd (by simp) (.inr (.inl ⟨rfl,c,rfl,h⟩))
variable{a:List Str}
theorem u9{b:List Str}(h:a.length+b.length<=100000):AY (.tup (a.map .str)) (.tup (b.map .str))=some (.tup ((a++b).map .str)):=by
 show (if (a.map PV.str).length+(b.map PV.str).length<=100000 then some (PV.tup (a.map .str++b.map .str))else none)=_
 rw[aac,aac,if_pos h,aaZ]
def Kz(p:Str):PV->Option PV
 |.str q=>if q=p then none else some (.str q)
 |_=>none
def Ky(n:Str):PV->Option PV
 |.tup (.str q::r)=>if q=n then none else some (.tup (.str q::r))
 |_=>none
def Py(n:Str)(c:Int):PV->PV
 |.tup [.str q,a,b,d]=>if q=n then .tup [.str q,a,b,.int c]else .tup [.str q,a,b,d]
 |x=>x
theorem kK(p:Str):∀ps:List Str,(ps.map PV.str).filterMap (Kz p)=(ps.filter λq=>!decide (q=p)).map .str
 |[]=>rfl
 |q::qs=>by
  rw[aan,abg,abq]
  by_cases e:q=p
  .simp only[Kz,e,if_true,decide_true,abK,aaR,if_false];exact kK p qs
  .simp only[Kz,e,if_false,decide_false,act,if_true,aan];rw[kK p qs]
theorem kJ(n:Str):∀ts:List AE,(ts.map lE).filterMap (Ky n)=(ts.filter λt=>!decide (t.nm=n)).map lE
 |[]=>rfl
 |t::us=>by
  rw[aan,abg,abq]
  by_cases e:t.nm=n
  .simp only[Ky,lE,e,if_true,decide_true,abK,aaR,if_false];exact kJ n us
  .simp only[Ky,lE,e,if_false,decide_false,act,if_true,aan];exact congrArg _ (kJ n us)
theorem ly(xs:List PV)(P:PV->Prop)(h:ck xs P):Q.run 3 cX xs P:=by
 obtain⟨ps,ts,p,rfl,S,⟨hw,hp⟩,h⟩:=h
 unfold cX
 refine ah λN hN=>?_
 lia
 refine ab (z:=.str p) (ai (j:=1) rfl) ?_
 show N [some ⟨0,lT ps ts⟩,some ⟨0,AX (.Fz p)⟩,some ⟨0,.str p⟩]
 subst hN
 refine ah λN hN=>aL λA1 B1 Dg BU=>?_
 lia
 refine ab (DC ps ts) (ab bS ?_)
 rw[decide_eq_false hp]
 lia
 subst BU
 show N _
 subst hN
 simp only[AO,AW,BR,aS,HB]
 lia
 refine ab (DC ps ts) (ab (u9 (b:=[p]) (by have:=S.pl;simp;omega)) ?_)
 refine⟨_,lj _,by rw[aau];have:=S.pl;simp;omega,λgs up=>ab rfl (ab (Ec ps ts) ?_)⟩
 have nd:(ps++[p]).Nodup:=by
  rw[abJ]
  exact⟨bo S.ok.rise,by simp,λa ha b hb e=>hp (by rw[<- List.mem_singleton.mp hb,<- e];exact ha)⟩
 have e:gs=DN p ps:=jv (up.1.trans (dY p ps).symm) (gI up.2 (up.1.nodup_iff.mpr nd)) (nH S.ok.rise hp)
 subst e
 exact h
theorem kH(xs:List PV)(P:PV->Prop)(h:b8 xs P):Q.run 3 cQ xs P:=by
 obtain⟨ps,ts,p,rfl,S,hp,h⟩:=h
 have hp:p∈ps:=hp
 have hl:=S.pl
 unfold cQ
 refine ah λN hN=>?_
 lia
 refine ab (z:=.str p) (ai (j:=1) rfl) ?_
 show N [some ⟨0,lT ps ts⟩,some ⟨0,AX (.DM p)⟩,some ⟨0,.str p⟩]
 subst hN
 refine ah λN hN=>aL λA1 B1 Dg BU=>?_
 lia
 refine ab (DC ps ts) (ab (z:=.bl false) ?_ ?_)
 .show (J8 (.str p) (.tup (ps.map .str))).map (λb=>PV.bl (!b))=_
  rw[jI,decide_eq_true hp];rfl
 lia
 subst BU
 show N _
 subst hN
 simp only[AO,AW,BR,aS,Dj]
 lia
 refine ab (DC ps ts) ?_
 lia
 refine br (Kz p) (λx hx R hR=>?_) (by simp;omega) ?_
 .obtain⟨q,hq,rfl⟩:=List.mem_map.mp hx
  show opt (DD (.str q) (.str p)) _
  refine ab (jF q p) ?_
  have hR:R (if q=p then none else some (.str q)) _:=hR
  by_cases e:q=p
  .rw[decide_eq_true e]
   rw[if_pos e]at hR
   exact ab (z:=false) rfl hR
  .rw[decide_eq_false e]
   rw[if_neg e]at hR
   exact ab (z:=true) rfl hR
 rw[aaN]
 rw[kK]
 exact ab rfl (ab (Ec ps ts) h)
theorem uG{n:Str}:(BY (ts.map λt=>((aav t.nm:Key),lE t)) (aav n)).isSome=decide (n∈ts.map AE.nm):=by
 induction ts with
 |nil=>rfl
 |cons t ts ih=>
  rw[aan]
  by_cases e:t.nm=n
  .rw[show BY ((aav t.nm,lE t)::ts.map λt=>((aav t.nm:Key),lE t)) (aav n)=some (lE t)from by simp[BY,abD,e]]
   simp[e]
  .have e2:BY ((aav t.nm,lE t)::ts.map λt=>((aav t.nm:Key),lE t)) (aav n)=BY (ts.map λt=>((aav t.nm:Key),lE t)) (aav n):=by simp[BY,abD,e]
   rw[e2,ih]
   simp[abO e]
theorem Av{n:Str}:C0 (.str n) (.BJ (ts.map λt=>((aav t.nm:Key),lE t)))=some (.bl (decide (n∈ts.map AE.nm))):=by
 show some (PV.bl (BY (ts.map λt=>((aav t.nm:Key),lE t)) (aav n)).isSome)=_
 rw[uG]
theorem tM{n:Str}:BH (.str n) (.BJ (ts.map λt=>((aav t.nm:Key),lE t)))=some (.bl (!decide (n∈ts.map AE.nm))):=by
 show some (PV.bl (!(BY (ts.map λt=>((aav t.nm:Key),lE t)) (aav n)).isSome))=_
 rw[uG]
theorem o5(xs:List PV)(P:PV->Prop)(h:dq xs P):Q.run 3 fm xs P:=by
 obtain⟨ps,ts,n,rfl,S,hn,h⟩:=h
 have hn:n∈ts.map AE.nm:=hn
 have hl:=S.tl
 unfold fm
 refine ah λN hN=>?_
 lia
 refine ab (z:=.str n) (ai (j:=1) rfl) ?_
 show N [some ⟨0,lT ps ts⟩,some ⟨0,AX (.EK n)⟩,some ⟨0,.str n⟩]
 subst hN
 refine ah λN hN=>aL λA1 B1 Dg BU=>?_
 lia
 refine⟨ps,ts,rfl,by omega,bW S.ok,ab tM ?_⟩
 rw[decide_eq_true hn]
 lia
 subst BU
 show N _
 subst hN
 simp only[AO,AW,BR,aS,Dj]
 lia
 refine ab (DC ps ts) (ab (Ec ps ts) ?_)
 lia
 refine br (Ky n) (λx hx R hR=>?_) (by simp;omega) ?_
 .obtain⟨t,ht,rfl⟩:=List.mem_map.mp hx
  show opt (gE (lE t) (.int 0)) _
  refine ab (z:=.str t.nm) (ai (j:=0) rfl) ?_
  refine ab (jF t.nm n) ?_
  have hR:R (if t.nm=n then none else some (lE t)) _:=hR
  by_cases e:t.nm=n
  .rw[decide_eq_true e]
   rw[if_pos e]at hR
   exact ab (z:=false) rfl hR
  .rw[decide_eq_false e]
   rw[if_neg e]at hR
   exact ab (z:=true) rfl hR
 rw[aaN]
 rw[kJ]
 exact ab rfl h
theorem nX(xs:List PV)(P:PV->Prop)(h:cL xs P):Q.run 4 ee xs P:=by
 obtain⟨ps,ts,n,c,rfl,S,⟨hn,hc⟩,h⟩:=h
 have hl:=S.tl
 unfold ee
 refine ah λN hN=>?_
 lia
 have ec:CO [PV.str "cost",.str n,.int c] (some (1:Int)) none=[.str n,.int c]:=by rw[show (1:Int)=((1:Nat):Int)from rfl,f7];rfl
 refine ab (z:=.tup [.str n,.int c]) (by show some (PV.tup (CO [PV.str "cost",.str n,.int c] (some (1:Int)) none))=_;rw[ec]) ?_
 lia
 show N [some ⟨0,lT ps ts⟩,some ⟨0,AX (.cos n c)⟩,some ⟨0,.str n⟩,some ⟨0,.int c⟩]
 subst hN
 refine ah λN hN=>aL λA1 B1 Dg BU=>?_
 lia
 refine⟨ps,ts,rfl,by omega,bW S.ok,ab tM ?_⟩
 rw[decide_eq_true hn]
 lia
 subst BU
 show N _
 subst hN
 simp only[AO,AW,BR,aS,Dj,QG]
 lia
 refine ab (DC ps ts) (ab (Ec ps ts) ?_)
 lia
 refine bF (Py n c) (λx hx R hR=>?_) (by simp;omega) ?_
 .obtain⟨t,ht,rfl⟩:=List.mem_map.mp hx
  show opt (gE (lE t) (.int 0)) _
  refine ab (z:=.str t.nm) (ai (j:=0) rfl) ?_
  refine ab (eq_str t.nm n) ?_
  have hR:R (if t.nm=n then .tup [.str t.nm,.str t.one,.str t.A3,.int c]else lE t) _:=hR
  by_cases e:t.nm=n
  .rw[if_pos e]at hR
   rw[show (t.nm==n)=true from by simpa using e]
   lia
   refine ab (z:=.tup [.str t.nm,.str t.one,.str t.A3]) ?_ (ab rfl hR)
   show some (PV.tup (CO [PV.str t.nm,.str t.one,.str t.A3,.int t.cost] none (some (3:Int))))=_
   rw[show (3:Int)=((3:Nat):Int)from rfl,fg];rfl
  .rw[if_neg e]at hR
   rw[show (t.nm==n)=false from by simpa using e]
   lia
   exact hR
 rw[aaN]
 have e:(ts.map lE).map (Py n c)=(Bh ts (.cos n c)).map lE:=by
  show _=(ts.map λt=>if t.nm=n then {t with cost:=c}else t).map lE
  rw[aaw,aaw]
  refine aaW λt _=>?_
  show (if t.nm=n then PV.tup [.str t.nm,.str t.one,.str t.A3,.int c]else lE t)=lE (if t.nm=n then {t with cost:=c}else t)
  split<;>rfl
 rw[e]
 exact ab rfl h
theorem u6(ts:List AE):(ts.map lE).mapM IF=some (ts.map AE.nm):=by
 induction ts with
 |nil=>rfl
 |cons t ts ih=>rw[aan,aby,ih];rfl
theorem sN(h:∀i∈ix,i<ts.length):(ix.map λi=>(ts.map lE).getD i .AF)=(ix.map λi=>ts.getD i t0).map lE:=by
 rw[aaw]
 refine aaW λi hi=>?_
 show (ts.map lE).getD i .AF=lE (ts.getD i t0)
 rw[aag,aag,aaj,aab (h i hi)];rfl
theorem xQ(h:∀i∈ix,i<ts.length):(ix.map λi=>(ts.map AE.nm).getD i ⟨#[]⟩)=(ix.map λi=>ts.getD i t0).map AE.nm:=by
 rw[aaw]
 refine aaW λi hi=>?_
 show (ts.map AE.nm).getD i ⟨#[]⟩=(ts.getD i t0).nm
 rw[aag,aag,aaj,aab (h i hi)];rfl
theorem qe{vs:List AE}(hp:us.Perm vs)(hv:(vs.map AE.nm).Pairwise AZ)(hl:ix.length=us.length)(lt:∀i∈ix,i<us.length)(up:(ix.map λi=>(us.map AE.nm).getD i ⟨#[]⟩).Pairwise AZ):
  (ix.map λi=>(us.map lE).getD i .AF)=vs.map lE:=by
 rw[sN lt]
 rw[xQ lt]at up
 have nd:ix.Nodup:=by
  have h1:=bo up
  rw[aaw]at h1
  exact List.nodup_iff_pairwise_ne.mpr ((List.pairwise_map.mp (List.nodup_iff_pairwise_ne.mp h1)).imp λh e=>h (congrArg _ e))
 rw[oN ((qZ hl nd lt).trans hp) up hv]
theorem zK(h:ts.length<=60):AY (.tup (ts.map lE)) (.tup [lE t])=some (.tup ((ts++[t]).map lE)):=by
 show (if (ts.map lE).length+1<=100000 then some (PV.tup (ts.map lE++[lE t]))else none)=_
 rw[aac,if_pos (by omega),aaZ];rfl
theorem nY(xs:List PV)(P:PV->Prop)(h:cM xs P):Q.run 7 eh xs P:=by
 obtain⟨ps,ts,n,a,b,c,rfl,S,⟨hn,ha,hb,Uo,Sf,hc⟩,h⟩:=h
 have hl:=S.tl
 unfold eh
 refine ah λN hN=>?_
 lia
 have ec:CO [PV.str "tie",.str n,.str a,.str b,.int c] (some (1:Int)) none=[.str n,.str a,.str b,.int c]:=by rw[show (1:Int)=((1:Nat):Int)from rfl,f7];rfl
 refine ab (z:=.tup [.str n,.str a,.str b,.int c]) (by show some (PV.tup (CO [PV.str "tie",.str n,.str a,.str b,.int c] (some (1:Int)) none))=_;rw[ec]) ?_
 lia
 show N [some ⟨0,lT ps ts⟩,some ⟨0,AX (.tie n a b c)⟩,some ⟨0,.str n⟩,some ⟨0,.str a⟩,some ⟨0,.str b⟩,some ⟨0,.int c⟩,none]
 subst hN
 refine ah λN hN=>aL λA1 B1 Dg BU=>?_
 lia
 refine⟨ps,ts,rfl,by omega,bW S.ok,ab Av ?_⟩
 rw[decide_eq_false Sf]
 lia
 subst BU
 show N _
 subst hN
 refine ah λN hN=>?_
 lia
 refine ab (z:=.str (Cp a b)) rfl (ab (z:=.str (EF a b)) rfl ?_)
 show N [some ⟨0,lT ps ts⟩,some ⟨0,AX (.tie n a b c)⟩,some ⟨0,.str n⟩,some ⟨0,.str a⟩,some ⟨0,.str b⟩,some ⟨0,.int c⟩,some ⟨0,lE (Nz n a b c)⟩]
 subst hN
 simp only[AO,AW,BR,aS,mY]
 lia
 refine ab (DC ps ts) (ab (Ec ps ts) (ab (zK hl) ?_))
 have nd:((ts++[Nz n a b c]).map AE.nm).Nodup:=by
  rw[aaZ,abJ]
  exact⟨bW S.ok,by simp,λx hx y hy e=>Sf (by rw[show y=n from List.mem_singleton.mp hy]at e;rw[<- e];exact hx)⟩
 refine⟨_,u6 _,nd,by rw[aac,aau];simp;omega,λix i1 i2 i3=>ab rfl ?_⟩
 rw[qe (dX (Nz n a b c) ts).symm (nG S.ok.names Sf) (by simpa using i1) (by simpa using i2) i3]
 exact h
theorem Ax(S:Bs ps ts)(h:Je ps ts d):DW d:=by
 have nm:∀n,n∈ts.map AE.nm->tO n:=λn hn=>by
  obtain⟨t,ht,rfl⟩:=List.mem_map.mp hn
  exact(S.tie t ht).nm
 cases d with
 |Fz p=>exact h.1
 |DM p=>exact S.word p h
 |tie n a b c=>exact⟨h.1,h.2.1,h.2.2.1,h.2.2.2.1⟩
 |EK n=>exact nm n h
 |cos n c=>exact nm n h.1
theorem ql(xs:List PV)(P:PV->Prop)(h:cK xs P):Q.run 3 gf xs P:=by
 obtain⟨ps,ts,d,rfl,S,hd,h⟩:=h
 unfold gf
 refine ah λN hN=>aL λA1 B1 Dg BU=>?_
 lia
 refine⟨d,rfl,Ax S.ok hd,?_⟩
 refine ab (z:=true) rfl ?_
 rw[if_neg (by simp)]
 subst BU
 show N _
 subst hN
 simp only[Jt]
 lia
 cases d with
 |Fz p=>
  refine ab (z:=.str "place") (ai (j:=0) rfl) ?_
  exact⟨_,rfl,ps,ts,p,rfl,S,hd,h⟩
 |DM p=>
  refine ab (z:=.str "leave") (ai (j:=0) rfl) ?_
  exact⟨_,rfl,ps,ts,p,rfl,S,hd,h⟩
 |tie n a b c=>
  refine ab (z:=.str "tie") (ai (j:=0) rfl) ?_
  exact⟨_,rfl,ps,ts,n,a,b,c,rfl,S,hd,h⟩
 |EK n=>
  refine ab (z:=.str "untie") (ai (j:=0) rfl) ?_
  exact⟨_,rfl,ps,ts,n,rfl,S,hd,h⟩
 |cos n c=>
  refine ab (z:=.str "cost") (ai (j:=0) rfl) ?_
  exact⟨_,rfl,ps,ts,n,c,rfl,S,hd,h⟩
theorem zc(c:PV)(xs:List PV)(P:PV->PV->Prop)(h:fS c xs P):Q.Fy 2 oC c xs P:=by
 obtain⟨rfl,ys,hx,BV,hl,h⟩:=h
 have hp:0<ys.length:=List.length_pos_iff.mpr BV
 unfold oC
 rcases hx with rfl|rfl
 .lia
  refine draw (by omega) (by omega) λr hr=>?_
  refine ab (z:=ys[r]'(by omega)) (ai (aab (by omega))) ?_
  exact h _ (abl _)
 .lia
  refine draw (by omega) (by omega) λr hr=>?_
  refine ab (z:=ys[r]'(by omega)) (ai (aab (by omega))) ?_
  exact h _ (abl _)
theorem x4{tk:List Str}(nd:ws.Nodup)(h:tk.length<ws.length):ws.filter (λw=>!decide (w∈tk))≠[]:=λe=>by
 have:∀w∈ws,w∈tk:=λw hw=>aa5 λhn=>by
  have:w∈ws.filter (λw=>!decide (w∈tk)):=List.mem_filter.mpr ⟨hw,by simp[hn]⟩
  rw[e]at this;cases this
 have:=bB nd this
 omega
def Ds(tk:List Str):PV->Option PV
 |.str w=>if w∈tk then none else some (.str w)
 |_=>none
theorem bL(tk:List Str):∀ws:List Str,(ws.map PV.str).filterMap (Ds tk)=(ws.filter λw=>!decide (w∈tk)).map .str
 |[]=>rfl
 |w::ws=>by
  rw[aan,abg,abq]
  by_cases e:w∈tk
  .simp only[Ds,e,if_true,decide_true,abK,aaR,if_false];exact bL tk ws
  .simp only[Ds,e,if_false,decide_false,act,if_true,aan];rw[bL tk ws]
theorem fW{tk:List Str}:BH (.str w) (.tup (tk.map .str))=some (.bl (!decide (w∈tk))):=by
 show (J8 (.str w) (.tup (tk.map .str))).map (λb=>PV.bl (!b))=_
 rw[jI];rfl
theorem wP{tk:List Str}:BH (.str w) (.lst (tk.map .str))=some (.bl (!decide (w∈tk))):=by
 show (J8 (.str w) (.lst (tk.map .str))).map (λb=>PV.bl (!b))=_
 rw[vX];rfl
theorem cS{tk:List Str}{x:PV}{R:Option PV->En->Prop}{e:En}{E1 E2:En}(hx:BH (.str w) x=some (.bl (!decide (w∈tk))))(hR:R (Ds tk (.str w)) e)(h1:E1=e)(h2:E2=e):
  opt (BH (.str w) x) λz=>opt (match z with|.bl b=>some b|_=>none) λok=>if ok=true then R (some (.str w)) E1 else R none E2:=by
 subst h1 h2
 refine ab hx ?_
 have hR:R (if w∈tk then none else some (.str w)) _:=hR
 by_cases z:w∈tk
 .rw[decide_eq_true z];rw[if_pos z]at hR;exact ab (z:=false) rfl hR
 .rw[decide_eq_false z];rw[if_neg z]at hR;exact ab (z:=true) rfl hR
theorem tF(c:PV)(xs:List PV)(P:PV->PV->Prop)(h:f9 c xs P):Q.Fy 2 iJ c xs P:=by
 obtain⟨rfl,tk,hx,hl,h⟩:=h
 unfold iJ
 have fin:∀ws:List Str,ws.length=31->ws.Nodup->(∀x∈ws,tO x)->∃w,gE (.lst ((ws.filter λw=>!decide (w∈tk)).map .str)) (.int 0)=some (.str w)/\tO w/\w∉tk:=λws hw nd ww=>by
  cases e:ws.filter (λw=>!decide (w∈tk))with
  |nil=>exact absurd e (x4 nd (by omega))
  |cons w r=>
   have hm:w∈ws.filter (λw=>!decide (w∈tk)):=by rw[e];exact aat
   obtain⟨m1,m2⟩:=List.mem_filter.mp hm
   exact⟨w,ai (j:=0) rfl,ww w m1,by simpa using m2⟩
 rcases hx with rfl|rfl
 .lia
  try simp only[Dj]
  try lia
  refine⟨rfl,31,rfl,by decide,λws hw nd ww=>?_⟩
  try lia
  refine br (Ds tk) (λx hx R hR=>?_) (by simp;omega) ?_
  .obtain⟨w,hw,rfl⟩:=List.mem_map.mp hx
   exact cS wP hR rfl rfl
  rw[aaN,bL]
  obtain⟨w,w1,w2,w3⟩:=fin ws hw nd ww
  exact ab w1 (h w w2 w3)
 .lia
  try simp only[Dj]
  try lia
  refine⟨rfl,31,rfl,by decide,λws hw nd ww=>?_⟩
  try lia
  refine br (Ds tk) (λx hx R hR=>?_) (by simp;omega) ?_
  .obtain⟨w,hw,rfl⟩:=List.mem_map.mp hx
   exact cS fW hR rfl rfl
  rw[aaN,bL]
  obtain⟨w,w1,w2,w3⟩:=fin ws hw nd ww
  exact ab w1 (h w w2 w3)
theorem jG{b:List Str}(h:a.length+b.length<=100000):AY (.lst (a.map .str)) (.lst (b.map .str))=some (.lst ((a++b).map .str)):=by
 show (if (a.map PV.str).length+(b.map PV.str).length<=100000 then some (PV.lst (a.map .str++b.map .str))else none)=_
 rw[aac,aac,if_pos h,aaZ]
theorem rG(h0:0<=i)(h1:i<ws.length):∃w,ws[i.toNat]?=some w/\w∈ws/\gE (.lst (ws.map .str)) (.int i)=some (.str w):=by
 have hl:i.toNat<ws.length:=by omega
 obtain⟨w,hw⟩:∃w,ws[i.toNat]?=some w:=⟨_,aab hl⟩
 refine⟨w,hw,abk hw,?_⟩
 have e:i=((i.toNat:Nat):Int):=by omega
 rw[e]
 exact ai (by rw[aaj,hw];rfl)
theorem qp(c:PV)(xs:List PV)(P:PV->PV->Prop)(h:gG c xs P):Q.Fy 7 gi c xs P:=by
 obtain⟨rfl,ps,ts,Fs,rfl,ok,hp,ht,hf,fn,fw,h⟩:=h
 unfold gi
 refine ah λN hN=>?_
 lia
 refine ab (DC ps ts) (ab rfl (ab (jG (by omega)) ?_))
 show N [some ⟨2,.AF⟩,some ⟨0,lT ps ts⟩,some ⟨0,.lst (Fs.map .str)⟩,some ⟨0,.lst ((ps++Fs).map .str)⟩,none,none,none]
 subst hN
 have pn:(ps++Fs).Nodup:=by
  rw[abJ]
  exact⟨bo ok.rise,fn,λa ha b hb e=>(fw b hb).2 (e ▸ ha)⟩
 have pw:∀x∈ps++Fs,tO x:=λx hx=>by
  rcases List.mem_append.mp hx with z|z
  .exact ok.word x z
  .exact(fw x z).1
 have pl:(ps++Fs).length<=72:=by rw[aau];omega
 generalize ps++Fs=Bv at pn pw pl ⊢
 refine ah λN hN=>aL λA1 B1 Dg BU=>?_
 have tail:∀Bv:List Str,Bv.Nodup->(∀x∈Bv,tO x)->Bv.length<=100->2<=Bv.length->N [some ⟨2,.AF⟩,some ⟨0,lT ps ts⟩,some ⟨0,.lst (Fs.map .str)⟩,some ⟨0,.lst (Bv.map .str)⟩,none,none,none]:=by
  intro Bv pn pw pl p2
  subst hN
  refine ah λN hN=>?_
  lia
  rw[aac]
  refine Cj (by omega) (by omega) λa a0 a1=>?_
  try lia
  show N [some ⟨2,.AF⟩,some ⟨0,lT ps ts⟩,some ⟨0,.lst (Fs.map .str)⟩,some ⟨0,.lst (Bv.map .str)⟩,some ⟨0,.int a⟩,none,none]
  subst hN
  refine ah λN hN=>?_
  lia
  rw[aac]
  refine ab bg (ab b9 ?_)
  refine Cj (by omega) (by omega) λd d0 d1=>?_
  refine ab bg (ab (fF (by omega)) ?_)
  have t:=turn a d Bv.length (by omega) a0 a1 d0 d1
  obtain⟨y,y1,y2,y3⟩:=rG t.1 t.2.1
  refine ab y3 ?_
  show N [some ⟨2,.AF⟩,some ⟨0,lT ps ts⟩,some ⟨0,.lst (Fs.map .str)⟩,some ⟨0,.lst (Bv.map .str)⟩,some ⟨0,.int a⟩,some ⟨0,.str y⟩,none]
  subst hN
  obtain⟨x,x1,x2,x3⟩:=rG a0 a1
  have RX:x≠y:=λe=>by
   subst e
   have l1:a.toNat<Bv.length:=by omega
   have l2:((a+1+d) % (Bv.length:Int)).toNat<Bv.length:=by have:=t.1;have:=t.2.1;omega
   rw[aab l1]at x1
   rw[aab l2]at y1
   have:=(abU pn).mp ((aap x1).trans (aap y1).symm)
   have:=t.1
   exact t.2.2 (by omega)
  refine ah λN hN=>?_
  simp only[A5,AD,aS,Dj]
  lia
  refine ab (Ec ps ts) ?_
  lia
  refine bF (λz=>match z with|.tup (.str q::_)=>.str q|_=>.AF) (λz hz R hR=>?_) (by simp;omega) ?_
  .obtain⟨t,ht,rfl⟩:=List.mem_map.mp hz
   exact ab (z:=.str t.nm) (ai (j:=0) rfl) hR
  rw[aaN]
  have en:(ts.map lE).map (λz=>match z with|.tup (.str q::_)=>PV.str q|_=>.AF)=(ts.map AE.nm).map .str:=by
   rw[aaw,aaw];rfl
  rw[en]
  refine⟨rfl,ts.map AE.nm,.inl rfl,by rw[aac];omega,λn n1 n2=>?_⟩
  show N [some ⟨2,.AF⟩,some ⟨0,lT ps ts⟩,some ⟨0,.lst (Fs.map .str)⟩,some ⟨0,.lst (Bv.map .str)⟩,some ⟨0,.int a⟩,some ⟨0,.str y⟩,some ⟨0,.str n⟩]
  subst hN
  lia
  refine ab x3 ?_
  try lia
  refine Cj (by omega) (by omega) λq q0 q1=>?_
  refine⟨rfl,q,rfl,λco c0 c1=>?_⟩
  exact h n x y co ⟨n1,pw x x2,pw y y2,RX,n2,c0,c1⟩
 have grow:∀w0:En,w0=[some ⟨2,.AF⟩,some ⟨0,lT ps ts⟩,some ⟨0,.lst (Fs.map .str)⟩,some ⟨0,.lst (Bv.map .str)⟩,none,none,none]->A1 {JV P with nx:=N} w0:=by
  rintro _ rfl
  subst Dg
  simp only[A5,HZ,Dj]
  lia
  refine⟨rfl,14,rfl,by decide,λws hw wn ww=>?_⟩
  try lia
  refine br (Ds Bv) (λx hx R hR=>?_) (by simp;omega) ?_
  .obtain⟨w,hw,rfl⟩:=List.mem_map.mp hx
   exact cS wP hR rfl rfl
  rw[aaN,bL]
  refine ab (z:=.lst (((ws.filter λw=>!decide (w∈Bv)).take 2).map .str)) ?_ (ab (jG (by rw[aa8];omega)) ?_)
  .show some (PV.lst (CO ((ws.filter λw=>!decide (w∈Bv)).map PV.str) none (some (2:Int))))=_
   rw[show (2:Int)=((2:Nat):Int)from rfl,fg,aeK]
  have m0:∀x∈(ws.filter λw=>!decide (w∈Bv)).take 2,x∈ws/\x∉Bv:=λx hx=>by
   obtain⟨m1,m2⟩:=List.mem_filter.mp (abL hx)
   exact⟨m1,by simpa using m2⟩
  refine tail _ ?_ (λx hx=>?_) (by rw[aau,aa8];omega) ?_
  .rw[abJ]
   exact⟨pn,(wn.sublist aa0).sublist (adF _ _),λa ha b hb e=>(m0 b hb).2 (e ▸ ha)⟩
  .rcases List.mem_append.mp hx with z|z
   .exact pw x z
   .exact ww x (m0 x z).1
  .rw[aau,aa8]
   rcases aaU Bv.length 2 with z|z
   .have:14<=(ws.filter λw=>!decide (w∈Bv)).length+Bv.length:=by
     have p1:=(adS (λw=>decide (w∈Bv)) ws).length_eq
     rw[aau,hw]at p1
     have p2:(ws.filter λw=>decide (w∈Bv)).length<=Bv.length:=bB (wn.sublist aa0) λx hx=>by simpa using (List.mem_filter.mp hx).2
     omega
    omega
   .omega
 lia
 rw[aac]
 by_cases z:Bv.length<2
 .have e:decide (((Bv.length:Nat):Int)<2)=true:=decide_eq_true (by omega)
  rw[e,if_pos rfl]
  exact grow _ rfl
 .have e:decide (((Bv.length:Nat):Int)<2)=false:=decide_eq_false (by omega)
  rw[e,if_neg (by simp)]
  refine Cj (by omega) (by omega) λr r0 r1=>ab (bH _ _) ?_
  lia
  split
  .exact grow _ rfl
  .subst BU
   exact tail Bv pn pw (by omega) (by omega)
def Pw:PV->PV
 |.tup (.str q::_)=>.str q
 |_=>.AF
def Od:PV->PV
 |.tup (_::x::_)=>x
 |_=>.AF
def NZ:PV->PV
 |.tup (_::_::x::_)=>x
 |_=>.AF
theorem yf(ts:List AE):(ts.map lE).map Pw=(ts.map AE.nm).map .str:=by rw[aaw,aaw];rfl
theorem xg(ts:List AE):(ts.map lE).map Od=(ts.map AE.one).map .str:=by rw[aaw,aaw];rfl
theorem w8(ts:List AE):(ts.map lE).map NZ=(ts.map AE.A3).map .str:=by rw[aaw,aaw];rfl
theorem pq(l:List Str):DD (.lst (l.map .str)) (.lst [])=some (.bl (!(l.map PV.str).isEmpty)):=rfl
theorem qS(l:List Str):neT (.tup (l.map .str)) (.tup [])=some (.bl (!decide (l=[]))):=mI l []
theorem RS(r:Int):∃b,C0 (.int r) (.tup [.int 3,.int 4])=some (.bl b):=⟨_,rfl⟩
theorem vH(c:PV)(xs:List PV)(P:PV->PV->Prop)(h:lg c xs P):Q.Fy 6 j9 c xs P:=by
 obtain⟨rfl,ps,ts,rfl,ok,hp,ht,h⟩:=h
 unfold j9
 refine ah λN hN=>?_
 simp only[A5,Dj]
 lia
 refine ab (Ec ps ts) ?_
 lia
 refine bF Pw (λz hz R hR=>?_) (by simp;omega) ?_
 .obtain⟨t,ht,rfl⟩:=List.mem_map.mp hz
  exact ab (z:=.str t.nm) (ai (j:=0) rfl) hR
 rw[aaN,yf]
 show N [some ⟨2,.AF⟩,some ⟨0,lT ps ts⟩,some ⟨0,.lst ((ts.map AE.nm).map .str)⟩,none,none,none]
 subst hN
 refine ah λN hN=>?_
 simp only[A5,kZ,aS,Dj]
 lia
 refine ab (Ec ps ts) ?_
 lia
 refine bF Od (λz hz R hR=>?_) (by simp;omega) ?_
 .obtain⟨t,ht,rfl⟩:=List.mem_map.mp hz
  exact ab (z:=.str t.one) (ai (j:=1) rfl) hR
 rw[aaN,xg]
 try lia
 refine ab (Ec ps ts) ?_
 try lia
 refine bF NZ (λz hz R hR=>?_) (by simp;omega) ?_
 .obtain⟨t,ht,rfl⟩:=List.mem_map.mp hz
  exact ab (z:=.str t.A3) (ai (j:=2) rfl) hR
 rw[aaN,w8]
 refine ab (jG (by simp;omega)) ?_
 have le:(ts.map AE.one++ts.map AE.A3).length<=60:=by rw[aau,aac,aac];omega
 have we:∀x∈ts.map AE.one++ts.map AE.A3,tO x:=λx hx=>by
  rcases List.mem_append.mp hx with z|z
  .obtain⟨t,ht,rfl⟩:=List.mem_map.mp z;exact(ok.tie t ht).one
  .obtain⟨t,ht,rfl⟩:=List.mem_map.mp z;exact(ok.tie t ht).A3
 generalize ts.map AE.one++ts.map AE.A3=en at le we ⊢
 have ld:=rj en
 refine⟨en,lj en,by omega,by omega,λgs up=>?_⟩
 show N [some ⟨2,.AF⟩,some ⟨0,lT ps ts⟩,some ⟨0,.lst ((ts.map AE.nm).map .str)⟩,some ⟨0,.lst (gs.map .str)⟩,none,none]
 subst hN
 have gl:gs.length<=60:=by rw[up.1.length_eq];omega
 have gn:gs.Nodup:=up.1.nodup_iff.mpr (uH en)
 have gw:∀x∈gs,tO x:=λx hx=>we x ((yn x en).mp (up.1.mem_iff.mp hx))
 refine ah λN hN=>?_
 simp only[A5,Dj]
 lia
 refine br (Ds ps) (λx hx R hR=>?_) (by simp;omega) ?_
 .obtain⟨w,hw,rfl⟩:=List.mem_map.mp hx
  refine ab (DC ps ts) ?_
  exact cS fW hR rfl rfl
 rw[aaN,bL]
 have fl:(gs.filter λw=>!decide (w∈ps)).length<=60:=aa3 (aaH _ _) gl
 have fn:(gs.filter λw=>!decide (w∈ps)).Nodup:=gn.sublist aa0
 have fw:∀x∈gs.filter (λw=>!decide (w∈ps)),tO x/\x∉ps:=λx hx=>⟨gw x (List.mem_filter.mp hx).1,by simpa using (List.mem_filter.mp hx).2⟩
 generalize gs.filter (λw=>!decide (w∈ps))=Fs at fl fn fw ⊢
 show N [some ⟨2,.AF⟩,some ⟨0,lT ps ts⟩,some ⟨0,.lst ((ts.map AE.nm).map .str)⟩,some ⟨0,.lst (gs.map .str)⟩,some ⟨0,.lst (Fs.map .str)⟩,none]
 subst hN
 refine ah λN hN=>?_
 lia
 refine Cj (by omega) (by omega) λr r0 r1=>?_
 try lia
 show N [some ⟨2,.AF⟩,some ⟨0,lT ps ts⟩,some ⟨0,.lst ((ts.map AE.nm).map .str)⟩,some ⟨0,.lst (gs.map .str)⟩,some ⟨0,.lst (Fs.map .str)⟩,some ⟨0,.int r⟩]
 generalize hE:[some (⟨2,.AF⟩:Sl),some ⟨0,lT ps ts⟩,some ⟨0,.lst ((ts.map AE.nm).map .str)⟩,some ⟨0,.lst (gs.map .str)⟩,some ⟨0,.lst (Fs.map .str)⟩,some ⟨0,.int r⟩]=E0
 subst hN
 have T9:∀n,n∈ts.map AE.nm->(Bh ts (.EK n)).length<=30:=λn _=>aa3 (aaH _ _) ht
 refine ah λN hN=>aL λA1 B1 Dg BU=>?_
 have rest:N E0:=by
  subst hN
  refine ah λN hN=>aL λA1 B1 Dg BU=>?_
  have rest:N E0:=by
   subst hN
   refine ah λN hN=>aL λA1 B1 Dg BU=>?_
   have rest:N E0:=by
    subst hN
    refine ah λN hN=>aL λA1 B1 Dg BU=>?_
    have rest:N E0:=by
     subst hN
     refine ah λN hN=>aL λA1 B1 Dg BU=>?_
     subst hE
     lia
     rw[aac,aac]
     by_cases z:ts.length<30
     .rw[decide_eq_true (show ((ts.length:Nat):Int)<30 by omega),if_pos rfl]
      subst Dg
      lia
      refine⟨rfl,ps,ts,Fs,rfl,ok,hp,z,fl,fn,fw,λn a b co hd=>?_⟩
      exact h _ hd hp (by have:=(mZ (ps:=ps) (ts:=ts) (.tie n a b co)).2;omega)
     .rw[decide_eq_false (show ¬ ((ts.length:Nat):Int)<30 by omega),if_neg (by simp)]
      subst BU
      show N _
      subst hN
      lia
      refine⟨rfl,_,.inl rfl,?_,by simp;omega,λy hy=>?_⟩
      .intro e
       have e2:=congrArg acA e
       rw[aac,aac]at e2
       exact absurd e2 (show ts.length≠0 by omega)
      .obtain⟨n,hn,rfl⟩:=List.mem_map.mp hy
       exact h (.EK n) hn hp (T9 n hn)
    subst hE
    lia
    obtain⟨b,hb⟩:=RS r
    refine ab hb ?_
    lia
    split
    .refine ab (pq _) (ab rfl ?_)
     split
     .rename_i BV
      subst Dg
      lia
      refine⟨rfl,_,.inl rfl,(λe=>by rw[e]at BV;cases BV),by simp;omega,λy hy=>?_⟩
      obtain⟨n,hn,rfl⟩:=List.mem_map.mp hy
      try lia
      refine Cj (by omega) (by omega) λq q0 q1=>?_
      refine⟨rfl,q,rfl,λco c0 c1=>?_⟩
      exact h (.cos n co) ⟨hn,c0,c1⟩ hp (by show (ts.map _).length<=30;rw[aac];exact ht)
     .subst BU;exact rest
    .subst BU;exact rest
   subst hE
   lia
   refine ab (bH _ _) ?_
   lia
   split
   .refine ab (pq _) (ab rfl ?_)
    split
    .rename_i BV
     subst Dg
     lia
     refine⟨rfl,_,.inl rfl,(λe=>by rw[e]at BV;cases BV),by simp;omega,λy hy=>?_⟩
     obtain⟨n,hn,rfl⟩:=List.mem_map.mp hy
     exact h (.EK n) hn hp (T9 n hn)
    .subst BU;exact rest
   .subst BU;exact rest
  subst hE
  lia
  refine ab (bH _ _) ?_
  lia
  split
  .refine ab (DC ps ts) (ab (qS ps) (ab rfl ?_))
   split
   .rename_i BV
    subst Dg
    lia
    refine ab (DC ps ts) ?_
    try lia
    refine⟨rfl,_,.inr rfl,λe=>?_,by simp;omega,λy hy=>?_⟩
    .have:ps=[]:=List.map_eq_nil_iff.mp e
     rw[this]at BV;simp at BV
    .obtain⟨n,hn,rfl⟩:=List.mem_map.mp hy
     exact h (.DM n) hn (aa3 (aaH _ _) hp) ht
   .subst BU;exact rest
  .subst BU;exact rest
 subst hE
 lia
 refine ab (bH _ _) ?_
 lia
 split
 .refine ab (DC ps ts) ?_
  lia
  rw[aac]
  by_cases z:ps.length<12
  .rw[decide_eq_true (show ((ps.length:Nat):Int)<12 by omega),if_pos rfl]
   have B8:∀w,tO w->w∉ps->P (AX (.Fz w)) .AF:=λw w1 w2=>h (.Fz w) ⟨w1,w2⟩ (by have:=(mZ (ps:=ps) (ts:=ts) (.Fz w)).1;omega) ht
   subst Dg
   refine ah λN2 Pk=>aL λA2 B2 Ww Uw=>?_
   have Li:∀e2:En,e2=[some ⟨2,.AF⟩,some ⟨0,lT ps ts⟩,some ⟨0,.lst ((ts.map AE.nm).map .str)⟩,some ⟨0,.lst (gs.map .str)⟩,some ⟨0,.lst (Fs.map .str)⟩,some ⟨0,.int r⟩]->N2 e2:=by
    rintro _ rfl
    subst Pk
    lia
    refine ab (DC ps ts) ?_
    try lia
    exact⟨rfl,ps,.inr rfl,by omega,λw w1 w2=>B8 w w1 w2⟩
   lia
   refine ab (pq _) (ab rfl ?_)
   split
   .rename_i BV
    refine Cj (by omega) (by omega) λq q0 q1=>?_
    try lia
    split
    .subst Ww
     lia
     refine⟨rfl,_,.inl rfl,(λe=>by rw[e]at BV;cases BV),by simp;omega,λy hy=>?_⟩
     obtain⟨n,hn,rfl⟩:=List.mem_map.mp hy
     exact B8 n (fw n hn).1 (fw n hn).2
    .subst Uw;exact Li _ rfl
   .subst Uw;exact Li _ rfl
  .rw[decide_eq_false (show ¬ ((ps.length:Nat):Int)<12 by omega),if_neg (by simp)]
   subst BU;exact rest
 .subst BU;exact rest
theorem A4{n:Str}:n∈iD ps ts↔∃t∈ts,Bb ps t=true/\Min ps (ts.filter (Bb ps)) t/\t.nm=n:=by
 unfold iD
 constructor
 .intro h
  obtain⟨t,ht,e⟩:=List.mem_map.mp h
  obtain⟨h1,h2⟩:=List.mem_filter.mp ht
  obtain⟨h3,h4⟩:=List.mem_filter.mp h1
  exact⟨t,h3,h4,CW.mp h2,e⟩
 .rintro⟨t,h1,h2,h3,e⟩
  exact List.mem_map.mpr ⟨t,List.mem_filter.mpr ⟨List.mem_filter.mpr ⟨h1,h2⟩,CW.mpr h3⟩,e⟩
theorem bt(ps:List Str)(ts:List AE):∀u∈ts.filter (Bb ps),Bb ps u=true:=λu hu=>(List.mem_filter.mp hu).2
theorem fG{Io:List Str}{EO:List AE}{t':AE}(oo:∀u∈os,Bb ps u=true)(Vh:∀u∈EO,Bb Io u=true)(e1:t'.one=t.one)(e2:t'.A3=t.A3)
  (h:∀u∈os,Ez u t->∃u'∈EO,Ez u' t'/\u'.one=u.one/\u'.A3=u.A3) (m:Min Io EO t'):Min ps os t:=by
 intro r
 have ob:∀u∈below os t,Bb ps u=true:=λu hu=>oo u (Bl.mp hu).1
 have RE:∀u∈below EO t',Bb Io u=true:=λu hu=>Vh u (Bl.mp hu).1
 refine m ?_
 rw[e1,e2]
 refine cp ob (λq=>(Ee RE).Dr q) (λu hu=>?_) r
 obtain⟨b1,b2⟩:=Bl.mp hu
 obtain⟨u',c1,c2,c3,c4⟩:=h u b1 b2
 have:=fz RE (Bl.mpr ⟨c1,c2⟩)
 rwa [c3,c4]at this
theorem gZ(ps:List Str)(ts:List AE):BX ps (ts.filter (Bb ps))=BX ps ts:=by
 funext p
 unfold BX
 rw[List.filter_filter]
 simp only[Bool.and_self]
theorem fh(ok:Bs ps ts):(iD ps ts).length+(E8 ps (BX ps ts)).length=ps.length:=by
 have f:=wf (bo ok.rise) (bt ps ts) ((bW ok).sublist (List.filter_sublist.map _))
 have s:=vb (bt ps ts)
 rw[gZ]at s
 unfold FJ at f
 rw[s]at f
 unfold iD
 rw[aac]
 omega
theorem bE(ok:Bs ps ts):(iD ps ts).Nodup:=bo (bz ok)
theorem AS{b:List Str}{n:Str}:n∈off a b↔n∈a/\n∉b:=by unfold off;rw[ace];simp
theorem kh{b:List Str}(na:a.Nodup)(nb:b.Nodup):a.length+(off b a).length=b.length+(off a b).length:=by
 have h:(a.filter λx=>decide (x∈b)).Perm (b.filter λx=>decide (x∈a)):=(adp (na.sublist aa0) (nb.sublist aa0)).mpr λx=>by
  rw[ace,ace];simp[And.comm]
 have e1:=jc (λx=>decide (x∈b)) a
 have e2:=jc (λx=>decide (x∈a)) b
 have:=h.length_eq
 unfold off
 omega
theorem yu(s:LK ps ts d):
  ((off (iD (A0 ps d) (Bh ts d)) (iD ps ts)).length:Int) - ((off (iD ps ts) (iD (A0 ps d) (Bh ts d))).length:Int)=((A0 ps d).length:Int) - (ps.length:Int)+((E8 ps (BX ps ts)).length:Int) - ((E8 (A0 ps d) (BX (A0 ps d) (Bh ts d))).length:Int):=by
 have a:=fh s.S.ok
 have b:=fh s.s2.ok
 have c:=kh (bE s.S.ok) (bE s.s2.ok)
 omega
theorem fC{n:Str}(nd:l.Nodup)(h:∀x∈l,x=n):l=[]\/l=[n]:=by
 match l,nd,h with
 |[],_,_=>exact .inl rfl
 |[x],_,h=>exact .inr (by rw[h x (by simp)])
 |x::y::r,nd,h=>
  have e1:=h x (by simp)
  have e2:=h y (by simp)
  rw[e1,e2]at nd
  exact absurd nd (by simp)
theorem ig(ok:Bs ps ts)(ht:t∈ts)(hu:u∈ts)(e:t.nm=u.nm):t=u:=tL (bW ok) ht hu e
theorem pc{Io:List Str}(h:∀x∈ps,x∈Io)(o:Bb ps t=true):Bb Io t=true:=Bm.mpr ⟨h _ (Bm.mp o).1,h _ (Bm.mp o).2⟩
theorem xN(s:LK ps ts (.Fz p)):(∀n∈off (iD (DN p ps) ts) (iD ps ts),∀t∈ts,t.nm=n->p∈[t.one,t.A3])/\∀n∈iD ps ts,∀t∈ts,t.nm=n->p∉[t.one,t.A3]:=by
 have sub:∀x∈ps,x∈DN p ps:=λx hx=>(dY p ps).mem_iff.mpr (acb _ hx)
 constructor
 .intro n hn t ht e
  obtain⟨h1,h2⟩:=AS.mp hn
  obtain⟨u,u1,u2,u3,u4⟩:=A4.mp h1
  obtain rfl:=ig s.S.ok ht u1 (e.trans u4.symm)
  refine aa5 λhp=>h2 (A4.mpr ⟨t,ht,?_,?_,e⟩)
  .simp only[aa2,aaS,or_false,not_or]at hp
   obtain⟨o1,o2⟩:=Bm.mp u2
   have key:∀x,x∈DN p ps->p≠x->x∈ps:=λx hx ne=>by
    rcases List.mem_append.mp ((dY p ps).mem_iff.mp hx)with z|z
    .exact z
    .exact absurd (List.mem_singleton.mp z).symm ne
   exact Bm.mpr ⟨key _ o1 hp.1,key _ o2 hp.2⟩
  .exact fG (bt ps ts) (bt _ ts) rfl rfl (λu hu hc=>⟨u,List.mem_filter.mpr ⟨(List.mem_filter.mp hu).1,pc sub (List.mem_filter.mp hu).2⟩,hc,rfl,rfl⟩) u3
 .intro n hn t ht e hp
  obtain⟨u,u1,u2,u3,u4⟩:=A4.mp hn
  obtain rfl:=ig s.S.ok ht u1 (e.trans u4.symm)
  obtain⟨o1,o2⟩:=Bm.mp u2
  simp only[aa2,aaS,or_false]at hp
  rcases hp with rfl|rfl
  .exact s.ok.2 o1
  .exact s.ok.2 o2
theorem qR(s:LK ps ts (.DM p)):(∀n∈iD ps ts,∀t∈ts,t.nm=n->(n∈off (iD ps ts) (iD (A0 ps (.DM p)) ts)↔p∈[t.one,t.A3]))/\∀n∈iD (A0 ps (.DM p)) ts,∀t∈ts,t.nm=n->p∉[t.one,t.A3]:=by
 have mem:∀x,x∈A0 ps (.DM p)↔x∈ps/\x≠p:=λx=>by show x∈ps.filter _↔_;rw[ace];simp
 have no:∀t,Bb (A0 ps (.DM p)) t=true->p∉[t.one,t.A3]:=λt o hp=>by
  obtain⟨o1,o2⟩:=Bm.mp o
  simp only[aa2,aaS,or_false]at hp
  rcases hp with rfl|rfl
  .exact((mem _).mp o1).2 rfl
  .exact((mem _).mp o2).2 rfl
 constructor
 .intro n hn t ht e
  obtain⟨u,u1,u2,u3,u4⟩:=A4.mp hn
  obtain rfl:=ig s.S.ok ht u1 (e.trans u4.symm)
  constructor
  .intro h
   refine aa5 λhp=>(AS.mp h).2 (A4.mpr ⟨t,ht,?_,?_,e⟩)
   .simp only[aa2,aaS,or_false,not_or]at hp
    obtain⟨o1,o2⟩:=Bm.mp u2
    exact Bm.mpr ⟨(mem _).mpr ⟨o1,λz=>hp.1 z.symm⟩,(mem _).mpr ⟨o2,λz=>hp.2 z.symm⟩⟩
   .exact fG (bt _ ts) (bt ps ts) rfl rfl (λu hu hc=>⟨u,List.mem_filter.mpr ⟨(List.mem_filter.mp hu).1,pc (λx hx=>((mem x).mp hx).1) (List.mem_filter.mp hu).2⟩,hc,rfl,rfl⟩) u3
  .intro hp
   refine AS.mpr ⟨hn,λh=>?_⟩
   obtain⟨v,v1,v2,_,v4⟩:=A4.mp h
   obtain rfl:=ig s.S.ok ht v1 (e.trans v4.symm)
   exact no t v2 hp
 .intro n hn t ht e
  obtain⟨v,v1,v2,_,v4⟩:=A4.mp hn
  obtain rfl:=ig s.S.ok ht v1 (e.trans v4.symm)
  exact no t v2
theorem ph{J1:List AE}{n:Str}(ok:Bs ps ts)(OA:Bs ps J1)(h:∀u,u∈ts->u∈J1)(k:∀u∈J1,u∈ts\/u.nm=n):
  (∀x∈off (iD ps J1) (iD ps ts),x=n)/\(off (iD ps ts) (iD ps J1)).length<=(off (iD ps J1) (iD ps ts)).length:=by
 have sub:∀u∈ts.filter (Bb ps),u∈J1.filter (Bb ps):=λu hu=>List.mem_filter.mpr ⟨h u (List.mem_filter.mp hu).1,(List.mem_filter.mp hu).2⟩
 constructor
 .intro x hx
  obtain⟨h1,h2⟩:=AS.mp hx
  obtain⟨t,t1,t2,t3,t4⟩:=A4.mp h1
  rcases k t t1 with z|z
  .exact absurd (A4.mpr ⟨t,z,t2,fG (bt ps ts) (bt ps J1) rfl rfl (λu hu hc=>⟨u,sub u hu,hc,rfl,rfl⟩) t3,t4⟩) h2
  .rw[<- t4];exact z
 .have a:=fh ok
  have b:=fh OA
  have c:=kh (bE ok) (bE OA)
  have e:=ie (ps:=ps) (X:=ts.filter (Bb ps)) (Y:=J1.filter (Bb ps)) λx y r=>cg (bt ps ts) (bt ps J1) sub r
  rw[gZ,gZ]at e
  omega
variable{n:Str}{c:Int}
def fc(n:Str)(c:Int)(u:AE):AE:=if u.nm=n then {u with cost:=c}else u
theorem dk(n:Str)(c:Int)(u:AE):(fc n c u).nm=u.nm/\(fc n c u).one=u.one/\(fc n c u).A3=u.A3:=by
 unfold fc;split<;>exact⟨rfl,rfl,rfl⟩
theorem mT(u:AE):Bb ps (fc n c u)=Bb ps u:=by
 obtain⟨_,h1,h2⟩:=dk n c u
 unfold Bb
 rw[h1,h2]
theorem jL(h:u.nm≠n):fc n c u=u:=by unfold fc;rw[if_neg h]
theorem ou(h:u.nm=n):(fc n c u).cost=c:=by unfold fc;rw[if_pos h]
theorem wR(h:∀u∈ts,Bb ps u=true->Ez (fc n c u) (fc n c t)->Ez u t)(m:Min ps (ts.filter (Bb ps)) t):Min ps ((ts.map (fc n c)).filter (Bb ps)) (fc n c t):=by
 obtain⟨_,e1,e2⟩:=dk n c t
 refine fG (bt ps _) (bt ps ts) e1.symm e2.symm (λu' R3 hc=>?_) m
 obtain⟨h1,h2⟩:=List.mem_filter.mp R3
 obtain⟨u,hu,rfl⟩:=List.mem_map.mp h1
 obtain⟨_,f1,f2⟩:=dk n c u
 rw[mT]at h2
 exact⟨u,List.mem_filter.mpr ⟨hu,h2⟩,h u hu h2 hc,f1.symm,f2.symm⟩
theorem wS(h:∀u∈ts,Bb ps u=true->Ez u t->Ez (fc n c u) (fc n c t))(m:Min ps ((ts.map (fc n c)).filter (Bb ps)) (fc n c t)):Min ps (ts.filter (Bb ps)) t:=by
 obtain⟨_,e1,e2⟩:=dk n c t
 refine fG (bt ps ts) (bt ps _) e1 e2 (λu hu hc=>?_) m
 obtain⟨h1,h2⟩:=List.mem_filter.mp hu
 obtain⟨_,f1,f2⟩:=dk n c u
 exact⟨fc n c u,List.mem_filter.mpr ⟨aaV h1,by rw[mT];exact h2⟩,h u h1 h2 hc,f1,f2⟩
theorem ui(h:∀t∈ts,Bb ps t=true->t.nm=x->Min ps (ts.filter (Bb ps)) t->Min ps ((ts.map (fc n c)).filter (Bb ps)) (fc n c t))(m:x∈iD ps ts):x∈iD ps (ts.map (fc n c)):=by
 obtain⟨t,t1,t2,t3,t4⟩:=A4.mp m
 exact A4.mpr ⟨fc n c t,aaV t1,by rw[mT];exact t2,h t t1 t2 t4 t3,(dk n c t).1.trans t4⟩
theorem rg(h:∀t∈ts,Bb ps t=true->t.nm=x->Min ps ((ts.map (fc n c)).filter (Bb ps)) (fc n c t)->Min ps (ts.filter (Bb ps)) t)(m:x∈iD ps (ts.map (fc n c))):x∈iD ps ts:=by
 obtain⟨t',t1,t2,t3,t4⟩:=A4.mp m
 obtain⟨t,ht,rfl⟩:=List.mem_map.mp t1
 rw[mT]at t2
 rw[(dk n c t).1]at t4
 exact A4.mpr ⟨t,ht,t2,h t ht t2 t4 t3,t4⟩
theorem xO{t0:AE}(ok:Bs ps ts)(OA:Bs ps (ts.map (fc n c)))(h0:t0∈ts)(e0:t0.nm=n):
  (off (iD ps ts) (iD ps (ts.map (fc n c)))).length=(off (iD ps (ts.map (fc n c))) (iD ps ts)).length /\
  (t0.cost<c->(∀x∈off (iD ps ts) (iD ps (ts.map (fc n c))),x=n)/\n∉iD ps (ts.map (fc n c))\/t0.cost<c/\n∈iD ps ts/\(∀x∈off (iD ps ts) (iD ps (ts.map (fc n c))),x=n)) /\
  (c<=t0.cost->(∀x∈off (iD ps (ts.map (fc n c))) (iD ps ts),x=n)/\(n∈iD ps ts->n∈iD ps (ts.map (fc n c)))):=by
 have uniq:∀u∈ts,u.nm=n->u=t0:=λu hu e=>ig ok hu h0 (e.trans e0.symm)
 refine⟨?_,λhc=>?_,λhc=>?_⟩
 .have a:=fh ok
  have b:=fh OA
  have s:=kh (bE ok) (bE OA)
  have p1:=ie (ps:=ps) (X:=ts.filter (Bb ps)) (Y:=(ts.map (fc n c)).filter (Bb ps)) λx y r=>cp (bt ps ts) (λq=>(Ee (bt ps (ts.map (fc n c)))).Dr q) (λu hu=>by
   obtain⟨_,f1,f2⟩:=dk n c u
   obtain⟨h1,h2⟩:=List.mem_filter.mp hu
   have:=fz (bt ps (ts.map (fc n c))) (t:=fc n c u) (List.mem_filter.mpr ⟨aaV h1,by rw[mT];exact h2⟩)
   rwa [f1,f2]at this) r
  have p2:=ie (ps:=ps) (X:=(ts.map (fc n c)).filter (Bb ps)) (Y:=ts.filter (Bb ps)) λx y r=>cp (bt ps _) (λq=>(Ee (bt ps ts)).Dr q) (λu' R3=>by
   obtain⟨h1,h2⟩:=List.mem_filter.mp R3
   obtain⟨u,hu,rfl⟩:=List.mem_map.mp h1
   obtain⟨_,f1,f2⟩:=dk n c u
   rw[mT]at h2
   have:=fz (bt ps ts) (t:=u) (List.mem_filter.mpr ⟨hu,h2⟩)
   rwa [<- f1,<- f2]at this) r
  rw[gZ,gZ]at p1 p2
  omega
 .have g1:∀x∈off (iD ps ts) (iD ps (ts.map (fc n c))),x=n:=λx hx=>aa5 λne=>by
   obtain⟨h1,h2⟩:=AS.mp hx
   refine h2 (ui (λt ht _ e m=>wR (λu hu _ k=>?_) m) h1)
   have tn:t.nm≠n:=by rw[e];exact ne
   rw[jL tn]at k
   by_cases un:u.nm=n
   .obtain rfl:=uniq u hu un
    have ET:=ou (c:=c) un
    rcases k with k|⟨k,_⟩
    .exact .inl (by omega)
    .exact .inl (by omega)
   .rwa [jL un]at k
  by_cases hm:n∈iD ps (ts.map (fc n c))
  .refine .inr ⟨hc,rg (λt ht _ e m=>wS (λu hu _ k=>?_) m) hm,g1⟩
   obtain rfl:=uniq t ht e
   have un:u.nm≠n:=λz=>by
    obtain rfl:=uniq u hu z
    exact fj _ k
   rw[jL un]
   have ET:=ou (c:=c) e
   rcases k with k|⟨k,_⟩
   .exact .inl (by omega)
   .exact .inl (by omega)
  .exact .inl ⟨g1,hm⟩
 .constructor
  .intro x hx
   refine aa5 λne=>?_
   obtain⟨h1,h2⟩:=AS.mp hx
   refine h2 (rg (λt ht _ e m=>wS (λu hu _ k=>?_) m) h1)
   have tn:t.nm≠n:=by rw[e];exact ne
   rw[jL tn]
   by_cases un:u.nm=n
   .obtain rfl:=uniq u hu un
    have ET:=ou (c:=c) un
    have hn:=(dk n c u).1
    rcases k with k|⟨k,kl⟩
    .exact .inl (by omega)
    .rcases Int.lt_or_eq_of_le hc with z|z
     .exact .inl (by omega)
     .exact .inr ⟨by omega,by rw[hn];exact kl⟩
   .rwa [jL un]
  .refine ui λt ht _ e m=>wR (λu hu _ k=>?_) m
   obtain rfl:=uniq t ht e
   have ET:=ou (c:=c) e
   have un:u.nm≠n:=λz=>by
    obtain rfl:=uniq u hu z
    exact fj _ k
   rw[jL un]at k
   have hn:=(dk n c t).1
   rcases k with k|⟨k,kl⟩
   .exact .inl (by omega)
   .rcases Int.lt_or_eq_of_le hc with z|z
    .exact .inl (by omega)
    .exact .inr ⟨by omega,by rw[hn]at kl;exact kl⟩
theorem lQ:∀(d:Nat) (x:PV),Tr d x->B4 d x x=some true
 |0,x,h=>h.elim
 |d+1,x,h=>by
  rcases h with ⟨s,rfl⟩|⟨n,rfl⟩|⟨l,rfl,_,hl⟩
  .show some (s==s)=_;rw[beq_self_eq_true]
  .show some (n==n)=_;rw[beq_self_eq_true]
  .show (((l.zip l).mapM λp=>B4 d p.1 p.2).map λbs=>bs.all id && l.length==l.length)=_
   have:∀l:List PV,(∀y∈l,Tr d y)->((l.zip l).mapM λp=>B4 d p.1 p.2)=some (l.map λ_=>true):=λl=>by
    induction l with
    |nil=>intro _;rfl
    |cons a l ih=>
     intro h
     rw[aeI,aby,lQ d a (h a aat),ih λy hy=>h y (aar _ hy)]
     rfl
   rw[this l hl]
   simp
theorem SW{d:Nat}{x:PV}(hd:d<=60)(h:Tr d x):Tr 60 x:=by
 have up:∀(d:Nat) (x:PV),Tr d x->Tr (d+1) x:=λd=>by
  induction d with
  |zero=>intro x h;exact h.elim
  |succ d ih=>
   intro x h
   rcases h with h|h|⟨l,e,hl,hy⟩
   .exact .inl h
   .exact .inr (.inl h)
   .exact .inr (.inr ⟨l,e,hl,λy z=>ih y (hy y z)⟩)
 have:∀k,Tr (d+k) x:=λk=>by
  induction k with
  |zero=>exact h
  |succ k ih=>exact up _ _ ih
 have:=this (60 - d)
 rwa [show d+(60 - d)=60 by omega]at this
theorem pM{d:Nat}{x:PV}(hd:d<=60)(h:Tr d x):AN x x=some (.bl true):=by
 unfold AN
 rw[lQ 60 x (SW hd h)];rfl
theorem yL(d:Nat)(s:Str):Tr (d+1) (.str s):=.inl ⟨s,rfl⟩
theorem qo(xs:List PV)(P:PV->Prop)(h:gF xs P):Q.run 4 gh xs P:=by
 obtain⟨as,bs,rfl,la,lb,h⟩:=h
 unfold gh
 refine ah λN hN=>?_
 lia
 refine br (Ds bs) (λx hx R hR=>?_) (by rw[aac];simp;omega) ?_
 .obtain⟨w,hw,rfl⟩:=List.mem_map.mp hx
  exact cS fW hR rfl rfl
 rw[bL]
 refine ab rfl ?_
 show N [some ⟨0,.tup (as.map .str)⟩,some ⟨0,.tup (bs.map .str)⟩,some ⟨0,.tup ((as.filter λa=>!decide (a∈bs)).map .str)⟩,none]
 subst hN
 refine ah λN hN=>?_
 lia
 refine br (Ds as) (λx hx R hR=>?_) (by rw[aac];simp;omega) ?_
 .obtain⟨w,hw,rfl⟩:=List.mem_map.mp hx
  exact cS fW hR rfl rfl
 rw[bL]
 refine ab rfl ?_
 show N [some ⟨0,.tup (as.map .str)⟩,some ⟨0,.tup (bs.map .str)⟩,some ⟨0,.tup ((as.filter λa=>!decide (a∈bs)).map .str)⟩,some ⟨0,.tup ((bs.filter λa=>!decide (a∈as)).map .str)⟩]
 subst hN
 lia
 exact h
theorem AA(h:Bs ps ts)(hd:Je ps ts d)(hp:ps.length<=12)(ht:ts.length<=30):FI (A0 ps d) (Bh ts d):=by
 have:=mZ (ps:=ps) (ts:=ts) d
 exact⟨Ag h hd,by omega,by omega⟩
theorem cq(ps:List Str)(ts:List AE):(iD ps ts).length<=ts.length:=by
 unfold iD
 rw[aac]
 exact aa3 (aaH _ _) (aaH _ _)
theorem eU(a b:List Str):(off a b).length<=a.length:=aaH _ _
theorem eR(a b:List Str):(off a b).Sublist a:=aa0
theorem nz(ok:Bs ps ts):∀x∈iD ps ts,tO x:=λx hx=>by
 obtain⟨t,t1,_,_,rfl⟩:=A4.mp hx
 exact(ok.tie t t1).nm
theorem o7(T:Addr)(c:PV)(xs:List PV)(P:PV->PV->Prop)(h:dt T c xs P):Q.DV 2 (fq T) c xs P:=by
 obtain⟨rfl,ps,ts,d,rfl,s,h⟩:=h
 unfold fq
 have l1:=cq ps ts
 have l2:=cq (A0 ps d) (Bh ts d)
 have:=s.S.tl
 have:=s.s2.tl
 simp only[DV,GR,IA]
 lia
 simp only[Bz]
 lia
 refine⟨rfl,ps,ts,rfl,s.S.ok,s.S.pl,s.S.tl,?_⟩
 lia
 refine⟨ps,ts,d,rfl,s.S,s.ok,?_⟩
 lia
 refine⟨rfl,_,_,rfl,s.s2.ok,s.s2.pl,s.s2.tl,?_⟩
 lia
 refine⟨_,_,rfl,by omega,by omega,?_⟩
 exact h
theorem rM(h:ws.Pairwise AZ)(hw:∀x∈ws,tO x):Hb (.tup (ws.map .str))=true:=by
 show ((ws.map PV.str).all Dk && Hl ((ws.map PV.str).filterMap CC))=true
 rw[u8,vh h,Bool.and_true,ab5]
 intro y hy
 obtain⟨x,hx,rfl⟩:=List.mem_map.mp hy
 exact B7.mpr (hw x hx)
theorem l0{ss:List Str}(h:ss.length<=1000):Tr 2 (.tup (ss.map .str)):=.inr (.inr ⟨_,rfl,by rw[aac];exact h,λz hz=>by
 obtain⟨s,_,rfl⟩:=List.mem_map.mp hz
 exact yL 0 s⟩)
theorem qC(h:ws.Pairwise AZ)(hw:∀x∈ws,tO x)(hl:ws.length<=1000)(k:P (.bl true)):cf [.tup (ws.map .str)] P :=
 ⟨_,rfl,⟨by rw[aac];exact hl,λy hy=>by
  obtain⟨x,hx,rfl⟩:=List.mem_map.mp hy
  exact lw (hw x hx)⟩,by rw[rM h hw];exact k⟩
theorem i8(T:Addr)(c:PV)(xs:List PV)(P:PV->PV->Prop)(h:cu T c xs P):Q.DV 3 (cm T) c xs P:=by
 obtain⟨rfl,ps,ts,d,rfl,s,h⟩:=h
 have l1:=cq ps ts
 have l2:=cq (A0 ps d) (Bh ts d)
 have:=s.S.tl
 have:=s.s2.tl
 have r1:=bz s.S.ok
 have r2:=bz s.s2.ok
 have w1:=nz s.S.ok
 have w2:=nz s.s2.ok
 unfold cm
 simp only[DV,GR,IA]
 have o1:=eU (iD ps ts) (iD (A0 ps d) (Bh ts d))
 have o2:=eU (iD (A0 ps d) (Bh ts d)) (iD ps ts)
 have tb:Tr 3 (NO (iD ps ts) (iD (A0 ps d) (Bh ts d))):=.inr (.inr ⟨_,rfl,by simp,λy hy=>by
  simp only[aa2,aaS,or_false]at hy
  rcases hy with rfl|rfl
  .exact l0 (by omega)
  .exact l0 (by omega)⟩)
 refine ah λN hN=>aL λA1 B1 Dg BU=>?_
 unfold NO at tb ⊢
 lia
 refine ab (z:=.bl false) (by rw[ne_int];rfl) (ab rfl ?_)
 rw[if_neg (by simp)]
 refine ab (z:=.tup ((off (iD ps ts) (iD (A0 ps d) (Bh ts d))).map .str)) (ai (j:=0) rfl) ?_
 try lia
 refine qC (r1.sublist (eR _ _)) (λx hx=>w1 x (AS.mp hx).1) (by omega) ?_
 refine ab (z:=true) rfl ?_
 rw[if_neg (by simp)]
 refine ab (z:=.tup ((off (iD (A0 ps d) (Bh ts d)) (iD ps ts)).map .str)) (ai (j:=1) rfl) ?_
 try lia
 refine qC (r2.sublist (eR _ _)) (λx hx=>w2 x (AS.mp hx).1) (by omega) ?_
 refine ab (z:=true) rfl ?_
 rw[if_neg (by simp)]
 subst BU
 show N _
 subst hN
 lia
 simp only[Bz]
 lia
 refine⟨rfl,ps,ts,d,rfl,s,?_⟩
 try lia
 exact ab (pM (d:=3) (by omega) tb) h
def S9(ns:List Str)(p:Str):PV->Option PV
 |.tup [.str a,.str b,.str c,.int _]=>if (decide (a∈ns) && decide (p∈[b,c]))=true then some (.str a)else none
 |_=>none
theorem rJ(ns:List Str)(p:Str):∀ts:List AE,(ts.map lE).filterMap (S9 ns p)=(IJ ns p ts).map .str
 |[]=>rfl
 |t::ts=>by
  have ih:=rJ ns p ts
  unfold IJ at ih ⊢
  rw[aan,abg,abq]
  have e0:S9 ns p (lE t)=if (decide (t.nm∈ns) && decide (p∈[t.one,t.A3]))=true then some (.str t.nm)else none:=rfl
  rw[e0]
  by_cases e:(decide (t.nm∈ns) && decide (p∈[t.one,t.A3]))=true
  .rw[if_pos e,if_pos e,aan,aan,ih]
  .rw[if_neg e,if_neg e,ih]
theorem zd(xs:List PV)(P:PV->Prop)(h:du xs P):Q.run 3 oD xs P:=by
 obtain⟨ps,ts,ns,p,rfl,hl,h⟩:=h
 unfold oD
 lia
 refine ab (Ec ps ts) ?_
 lia
 refine br (S9 ns p) (λx hx R hR=>?_) (by simp;omega) ?_
 .obtain⟨t,ht,rfl⟩:=List.mem_map.mp hx
  have hR:R (if (decide (t.nm∈ns) && decide (p∈[t.one,t.A3]))=true then some (.str t.nm)else none) [some ⟨0,lT ps ts⟩,some ⟨0,.tup (ns.map .str)⟩,some ⟨0,.str p⟩]:=hR
  have e1:gE (lE t) (.int 0)=some (.str t.nm):=ai (j:=0) rfl
  refine ab e1 (ab bS (ab rfl ?_))
  by_cases m1:t.nm∈ns
  .rw[decide_eq_true m1]at hR ⊢
   rw[if_pos rfl]
   refine ab rfl (ab rfl (ab (z:=.tup [.str t.one,.str t.A3]) rfl (ab (bS (ys:=[t.one,t.A3])) (ab rfl ?_))))
   by_cases m2:p∈[t.one,t.A3]
   .rw[decide_eq_true m2,Bool.and_true,if_pos rfl]at hR
    rw[decide_eq_true m2,if_pos rfl]
    exact ab e1 hR
   .rw[decide_eq_false m2,aev,if_neg (by simp)]at hR
    rw[decide_eq_false m2,if_neg (by simp)]
    exact hR
  .rw[decide_eq_false m1,aeu,if_neg (by simp)]at hR
   rw[decide_eq_false m1]
   exact hR
 rw[aaN,rJ]
 exact ab rfl h
theorem jN(h:a.length<=1000):AN (.tup (a.map .str)) (.tup (a.map .str))=some (.bl true):=pM (d:=2) (by omega) (l0 h)
theorem rH{ns:List Str}(hn:ns.Pairwise AZ)(ht:(ts.map AE.nm).Pairwise AZ)(h1:∀n∈ns,∃t∈ts,t.nm=n)(h2:∀n∈ns,∀t∈ts,t.nm=n->p∈[t.one,t.A3]):IJ ns p ts=ns:=by
 refine ic (ht.sublist (List.filter_sublist.map _)) hn λz=>?_
 unfold IJ
 constructor
 .intro h
  obtain⟨t,ht,rfl⟩:=List.mem_map.mp h
  have:=(List.mem_filter.mp ht).2
  rw[aaE,decide_eq_true_eq]at this
  exact this.1
 .intro h
  obtain⟨t,ht,e⟩:=h1 z h
  refine List.mem_map.mpr ⟨t,List.mem_filter.mpr ⟨ht,?_⟩,e⟩
  rw[aaE,decide_eq_true_eq,decide_eq_true_eq,e]
  exact⟨h,h2 z h t ht e⟩
theorem qa{ns:List Str}(h:∀n∈ns,∀t∈ts,t.nm=n->p∉[t.one,t.A3]):IJ ns p ts=[]:=by
 unfold IJ
 rw[List.map_eq_nil_iff,List.filter_eq_nil_iff]
 intro t ht z
 rw[aaE,decide_eq_true_eq,decide_eq_true_eq]at z
 exact h _ z.1 t ht rfl z.2
structure NP(g c:List Str):Prop where
 gl:g.length<=1
 cl:c.length<=1
 ne:∀x∈g,x∉c
theorem yJ{g c:List Str}(h:NP g c):∃b,AN (.tup (g.map .str)) (.tup (c.map .str))=some (.bl b)/\(b=true->g=[]):=by
 match g,c,h.gl,h.cl,h.ne with
 |[],[],_,_,_=>exact⟨true,rfl,λ_=>rfl⟩
 |[],[y],_,_,_=>exact⟨false,rfl,λe=>by cases e⟩
 |[x],[],_,_,_=>exact⟨false,rfl,λe=>by cases e⟩
 |[x],[y],_,_,ne=>
  refine⟨(x==y) && true && true,rfl,λe=>?_⟩
  simp at e
  exact absurd (by simp[e]) (ne x (by simp))
theorem lF(g:List Str):AN (.tup (g.map .str)) (.tup [])=some (.bl g.isEmpty):=by
 cases g<;>rfl
theorem lL{g:List Str}(h:g=[]\/g=[n]):C0 (.tup (g.map .str)) (.tup [.tup [],.tup [.str n]])=some (.bl true):=by
 rcases h with rfl|rfl
 .rfl
 .show some (PV.bl ((false || ((n==n) && true && true)) || false))=_
  simp
variable{A:WS}{D:Wd}
theorem o9{e0 e1 e2 e5 e6:Option Sl}{g c:List Str}(h:NP g c)(k:D.nx [e0,e1,e2,some ⟨0,.tup (g.map .str)⟩,some ⟨0,.tup (c.map .str)⟩,e5,e6]):
  Cc (Q.Fx (oF (iF FG (BR Bn (a1 (Bq 3))) (eC (.int 1)))) (Q.Fx (oF (iF FG (BR Bn (a1 (Bq 4))) (eC (.int 1)))) (Q.DB (oF (iF AN (eV 3) (Bq 4))) (oF (iF neT (eV 3) (AW bY)))))) A Bj D [e0,e1,e2,some ⟨0,.tup (g.map .str)⟩,some ⟨0,.tup (c.map .str)⟩,e5,e6]:=by
 have gl:=h.gl
 have cl:=h.cl
 refine aL λA1 B1 Dg BU=>?_
 lia
 rw[aac,aac,decide_eq_false (by omega),if_neg (by simp),decide_eq_false (by omega),if_neg (by simp)]
 obtain⟨b,hb,JP⟩:=yJ h
 refine ab hb (ab rfl ?_)
 cases b with
 |false=>
  rw[if_neg (by simp)]
  subst BU
  exact k
 |true=>
  rw[if_pos rfl]
  refine ab (qS g) (ab rfl ?_)
  rw[decide_eq_true (JP rfl),abK,if_neg (by simp)]
  subst BU
  exact k
theorem sk(hx:gE (AX d) (.int 0)=some (.str x))(he:env[2]?=some (some ⟨0,AX d⟩))(h:(x==y)=false)(k:D.nx env):Cc (oF (iF AN (iF gE (eV 2) (eC (.int 0))) (eC (.str y)))) A Bj D env:=by
 simp only[Cc,oF,iF,eV,he,eC]
 refine ab hx (ab (lR h) (ab rfl ?_))
 rw[if_neg (by simp)]
 exact k
theorem tk{B:WS}(hx:gE (AX d) (.int 0)=some (.str x))(he:env[2]?=some (some ⟨0,AX d⟩))(k:A D env):Cc (oF (iF AN (iF gE (eV 2) (eC (.int 0))) (eC (.str x)))) A B D env:=by
 simp only[Cc,oF,iF,eV,he,eC]
 refine ab hx (ab (lP x) (ab rfl ?_))
 rw[if_pos rfl]
 exact k
theorem Kn{b:List Str}(h:off a b=[]\/off a b=[n])(hl:(off b a).length<=(off a b).length):NP (off a b) (off b a):=by
 have l1:(off a b).length<=1:=by rcases h with h|h<;>rw[h]<;>simp
 exact⟨l1,by omega,λx hx hy=>(AS.mp hy).2 (AS.mp hx).1⟩
theorem sL{b:List Str}(h:NP a b):NP b a:=⟨h.cl,h.gl,λx hx hy=>h.ne x hy hx⟩
theorem dU{b:List Str}(h:a.Nodup):(off a b).Nodup:=h.sublist (eR a b)
theorem uD{b:List Str}(h:a.length=b.length):AN (.bl a.isEmpty) (.bl b.isEmpty)=some (.bl true):=by
 cases a<;>cases b<;>first|rfl|cases h
def MZ(n:Str):PV->Option PV
 |.tup [.str a,.str _,.str _,.int d]=>if a=n then some (.int d)else none
 |_=>none
theorem kY(n:Str):∀ts:List AE,(ts.map lE).filterMap (MZ n)=(ts.filter λt=>decide (t.nm=n)).map λt=>.int t.cost
 |[]=>rfl
 |t::ts=>by
  rw[aan,abg,abq]
  have e:MZ n (lE t)=if t.nm=n then some (.int t.cost)else none:=rfl
  rw[e]
  by_cases z:t.nm=n
  .simp only[z,if_true,decide_true,aan];rw[kY n ts]
  .simp only[z,if_false,decide_false,aaR];exact kY n ts
theorem xL(ok:Bs ps ts)(h:t∈ts):∃r,ts.filter (λu=>decide (u.nm=t.nm))=t::r:=by
 have hm:t∈ts.filter (λu=>decide (u.nm=t.nm)):=List.mem_filter.mpr ⟨h,by simp⟩
 cases e:ts.filter (λu=>decide (u.nm=t.nm))with
 |nil=>rw[e]at hm;cases hm
 |cons u r=>
  have hu:u∈ts.filter (λu=>decide (u.nm=t.nm)):=by rw[e];exact aat
  obtain⟨h1,h2⟩:=List.mem_filter.mp hu
  have:=ig ok h1 h (by simpa using h2)
  exact⟨r,by rw[this]⟩
theorem xB(xs:List PV)(P:PV->Prop)(h:m7 xs P):Q.run 7 lY xs P:=by
 obtain⟨ps,ts,d,rfl,s,h⟩:=h
 have tl:=s.S.tl
 have U5:=s.s2.tl
 have l1:=aa3 (eU (iD ps ts) (iD (A0 ps d) (Bh ts d))) (cq ps ts)
 have l2:=aa3 (eU (iD (A0 ps d) (Bh ts d)) (iD ps ts)) (cq (A0 ps d) (Bh ts d))
 have r1:=(bz s.S.ok).sublist (eR (iD ps ts) (iD (A0 ps d) (Bh ts d)))
 have r2:=(bz s.s2.ok).sublist (eR (iD (A0 ps d) (Bh ts d)) (iD ps ts))
 unfold lY
 cases d with
 |Fz p=>
  obtain⟨c1,c2⟩:=xN s
  have e1:IJ (off (iD (DN p ps) ts) (iD ps ts)) p ts=off (iD (DN p ps) ts) (iD ps ts):=rH r2 s.S.ok.names (λn hn=>by
   obtain⟨t,t1,_,_,t4⟩:=A4.mp (AS.mp hn).1
   exact⟨t,t1,t4⟩) c1
  have e2:IJ (off (iD ps ts) (iD (DN p ps) ts)) p ts=[]:=qa λn hn=>c2 n (AS.mp hn).1
  refine ah λN hN=>?_
  lia
  refine ab (z:=.str p) (ai (j:=1) rfl) ?_
  subst hN
  refine ah λN hN=>tk (d:=.Fz p) (x := "place") (ai (j:=0) rfl) rfl ?_
  lia
  refine⟨_,ts,_,p,rfl,by omega,?_⟩
  rw[show (A0 ps (.Fz p))=DN p ps from rfl,show Bh ts (.Fz p)=ts from rfl,e1]
  refine ab (jN (aa3 l2 (by omega))) ?_
  try lia
  refine⟨ps,ts,_,p,rfl,by omega,?_⟩
  rw[e2]
  exact ab (z:=.bl true) rfl h
 |DM p=>
  obtain⟨c1,c2⟩:=qR s
  have e1:IJ (off (iD ps ts) (iD (A0 ps (.DM p)) ts)) p ts=off (iD ps ts) (iD (A0 ps (.DM p)) ts):=rH r1 s.S.ok.names (λn hn=>by
   obtain⟨t,t1,_,_,t4⟩:=A4.mp (AS.mp hn).1
   exact⟨t,t1,t4⟩) λn hn t ht e=>(c1 n (AS.mp hn).1 t ht e).mp hn
  have e2:IJ (off (iD (A0 ps (.DM p)) ts) (iD ps ts)) p ts=[]:=qa λn hn=>c2 n (AS.mp hn).1
  refine ah λN hN=>?_
  lia
  refine ab (z:=.str p) (ai (j:=1) rfl) ?_
  subst hN
  refine ah λN hN=>sk (d:=.DM p) (x := "leave") (ai (j:=0) rfl) rfl (by decide +kernel) ?_
  show N _
  subst hN
  refine ah λN hN=>tk (d:=.DM p) (x := "leave") (ai (j:=0) rfl) rfl ?_
  lia
  refine⟨ps,ts,_,p,rfl,by omega,?_⟩
  rw[show Bh ts (.DM p)=ts from rfl,e1]
  refine ab (jN (aa3 l1 (by omega))) ?_
  try lia
  refine⟨_,ts,_,p,rfl,by omega,?_⟩
  rw[e2]
  exact ab (z:=.bl true) rfl h
 |EK n=>
  have sub:∀u,u∈Bh ts (.EK n)->u∈ts:=λu hu=>(List.mem_filter.mp hu).1
  obtain⟨c1,c2⟩:=ph (n:=n) s.s2.ok s.S.ok sub (λu hu=>by
   by_cases e:u.nm=n
   .exact .inr e
   .exact .inl (List.mem_filter.mpr ⟨hu,by simp[e]⟩))
  have g:=fC (dU (bE s.S.ok)) c1
  have tw:=Kn g c2
  have nc:n∉off (iD (A0 ps (.EK n)) (Bh ts (.EK n))) (iD ps ts):=λz=>by
   obtain⟨t,t1,_,_,t4⟩:=A4.mp (AS.mp z).1
   have:=(List.mem_filter.mp t1).2
   simp[t4]at this
  refine ah λN hN=>?_
  lia
  refine ab (z:=.str n) (ai (j:=1) rfl) ?_
  subst hN
  refine ah λN hN=>sk (d:=.EK n) (x := "untie") (ai (j:=0) rfl) rfl (by decide +kernel) ?_
  show N _
  subst hN
  refine ah λN hN=>sk (d:=.EK n) (x := "untie") (ai (j:=0) rfl) rfl (by decide +kernel) ?_
  show N _
  subst hN
  refine ah λN hN=>o9 tw ?_
  show N _
  subst hN
  refine ah λN hN=>tk (d:=.EK n) (x := "untie") (ai (j:=0) rfl) rfl ?_
  lia
  refine ab (lL g) ?_
  try lia
  refine ab fW ?_
  rw[decide_eq_false nc]
  exact h
 |tie n a b c=>
  obtain⟨c1,c2⟩:=ph (n:=n) s.S.ok s.s2.ok (λu hu=>(dX _ ts).mem_iff.mpr (acb _ hu)) (λu hu=>by
   rcases List.mem_append.mp ((dX _ ts).mem_iff.mp hu)with z|z
   .exact .inl z
   .rw[List.mem_singleton.mp z];exact .inr rfl)
  have g:=fC (dU (bE s.s2.ok)) c1
  have tw:=sL (Kn g c2)
  refine ah λN hN=>?_
  lia
  refine ab (z:=.str n) (ai (j:=1) rfl) ?_
  subst hN
  refine ah λN hN=>sk (d:=.tie n a b c) (x := "tie") (ai (j:=0) rfl) rfl (by decide +kernel) ?_
  show N _
  subst hN
  refine ah λN hN=>sk (d:=.tie n a b c) (x := "tie") (ai (j:=0) rfl) rfl (by decide +kernel) ?_
  show N _
  subst hN
  refine ah λN hN=>o9 tw ?_
  show N _
  subst hN
  refine ah λN hN=>sk (d:=.tie n a b c) (x := "tie") (ai (j:=0) rfl) rfl (by decide +kernel) ?_
  show N _
  subst hN
  refine ah λN hN=>tk (d:=.tie n a b c) (x := "tie") (ai (j:=0) rfl) rfl ?_
  lia
  exact ab (lL g) h
 |cos n c=>
  obtain⟨t,ht,rfl⟩:=List.mem_map.mp (show n∈ts.map AE.nm from s.ok.1)
  obtain⟨c0,c1,c2⟩:=xO (c:=c) s.S.ok s.s2.ok ht rfl
  have et:Bh ts (.cos t.nm c)=ts.map (fc t.nm c):=rfl
  have ep:A0 ps (.cos t.nm c)=ps:=rfl
  rw[et,ep]at l1 l2 r1 r2 ⊢
  have TR:Bs ps (ts.map (fc t.nm c)):=s.s2.ok
  have tw:NP (off (iD ps ts) (iD ps (ts.map (fc t.nm c)))) (off (iD ps (ts.map (fc t.nm c))) (iD ps ts)):=by
   rcases Int.lt_or_le t.cost c with z|z
   .refine Kn (n:=t.nm) (fC (dU (bE s.S.ok)) ?_) (by omega)
    rcases c1 z with q|q
    .exact q.1
    .exact q.2.2
   .exact sL (Kn (n:=t.nm) (fC (dU (bE TR)) (c2 z).1) (by omega))
  have nn:=λ(x:Str)=>And.intro (AS (a:=iD ps ts) (b:=iD ps (ts.map (fc t.nm c))) (n:=x)) (AS (a:=iD ps (ts.map (fc t.nm c))) (b:=iD ps ts) (n:=x))
  have gN:t.cost<c->(off (iD ps ts) (iD ps (ts.map (fc t.nm c)))=[]\/off (iD ps ts) (iD ps (ts.map (fc t.nm c)))=[t.nm])/\t.nm∉off (iD ps (ts.map (fc t.nm c))) (iD ps ts):=λz=>by
   rcases c1 z with q|q
   .exact⟨fC (dU (bE s.S.ok)) q.1,λm=>q.2 ((nn _).2.mp m).1⟩
   .exact⟨fC (dU (bE s.S.ok)) q.2.2,λm=>((nn _).2.mp m).2 q.2.1⟩
  have cN:c<=t.cost->(off (iD ps (ts.map (fc t.nm c))) (iD ps ts)=[]\/off (iD ps (ts.map (fc t.nm c))) (iD ps ts)=[t.nm])/\t.nm∉off (iD ps ts) (iD ps (ts.map (fc t.nm c))):=λz=>
   ⟨fC (dU (bE TR)) (c2 z).1,λm=>((nn _).1.mp m).2 ((c2 z).2 ((nn _).1.mp m).1)⟩
  generalize off (iD ps ts) (iD ps (ts.map (fc t.nm c)))=G at c0 tw gN cN l1 r1 ⊢
  generalize off (iD ps (ts.map (fc t.nm c))) (iD ps ts)=C at c0 tw gN cN l2 r2 ⊢
  obtain⟨r,er⟩:=xL s.S.ok ht
  refine ah λN hN=>?_
  lia
  refine ab (z:=.str t.nm) (ai (j:=1) rfl) ?_
  subst hN
  refine ah λN hN=>sk (d:=.cos t.nm c) (x := "cost") (ai (j:=0) rfl) rfl (by decide +kernel) ?_
  show N _
  subst hN
  refine ah λN hN=>sk (d:=.cos t.nm c) (x := "cost") (ai (j:=0) rfl) rfl (by decide +kernel) ?_
  show N _
  subst hN
  refine ah λN hN=>o9 tw ?_
  show N _
  subst hN
  refine ah λN hN=>sk (d:=.cos t.nm c) (x := "cost") (ai (j:=0) rfl) rfl (by decide +kernel) ?_
  show N _
  subst hN
  refine ah λN hN=>sk (d:=.cos t.nm c) (x := "cost") (ai (j:=0) rfl) rfl (by decide +kernel) ?_
  show N _
  subst hN
  refine ah λN hN=>?_
  simp only[A5,iF,Dj]
  lia
  refine ab (Ec ps ts) ?_
  lia
  refine br (MZ t.nm) (λx hx R hR=>?_) (by simp;omega) ?_
  .obtain⟨u,hu,rfl⟩:=List.mem_map.mp hx
   have hR:R (if u.nm=t.nm then some (.int u.cost)else none) _:=hR
   refine ab (z:=.str u.nm) (ai (j:=0) rfl) (ab (eq_str _ _) (ab rfl ?_))
   by_cases e:u.nm=t.nm
   .rw[if_pos e]at hR
    rw[beq_iff_eq.mpr e,if_pos rfl]
    exact ab (z:=.int u.cost) (ai (j:=3) rfl) hR
   .rw[if_neg e]at hR
    rw[beq_eq_false_iff_ne.mpr e,if_neg (by simp)]
    exact hR
  rw[aaN,kY,er,aan]
  try lia
  refine ab (z:=.int t.cost) (ai (j:=0) rfl) ?_
  subst hN
  refine ah λN hN=>aL λA1 B1 Dg BU=>?_
  lia
  refine ab (z:=.int c) (ai (j:=2) rfl) (ab (z:=.bl (decide (t.cost<c))) rfl (ab rfl ?_))
  by_cases z:t.cost<c
  .rw[decide_eq_true z,if_pos rfl]
   obtain⟨g1,g2⟩:=gN z
   subst Dg
   lia
   refine ab (lL g1) ?_
   try lia
   refine ab fW ?_
   rw[decide_eq_false g2]
   try lia
   refine ab (lF G) (ab (lF C) (ab (uD c0) ?_))
   exact h
  .rw[decide_eq_false z,if_neg (by simp)]
   obtain⟨g1,g2⟩:=cN (by omega)
   subst BU
   show N _
   subst hN
   lia
   refine ab (lL g1) ?_
   try lia
   refine ab fW ?_
   rw[decide_eq_false g2]
   try lia
   refine ab (lF G) (ab (lF C) (ab (uD c0) ?_))
   exact h
theorem uT{l:List PV}:Ib [.lst (l.map λ_=>PV.bl false)]=some (.bl false):=by
 have e:(l.map λ_=>PV.bl false).mapM Eo=some (l.map λ_=>false):=by
  induction l with
  |nil=>rfl
  |cons a l ih=>rw[aan,aby,ih];rfl
 show ((l.map λ_=>PV.bl false).mapM Eo).map (λbs=>PV.bl (bs.any id))=_
 rw[e]
 show some (PV.bl ((l.map λ_=>false).any id))=_
 congr 2
 rw[ae4]
 intro x hx
 obtain⟨_,_,rfl⟩:=List.mem_map.mp hx
 simp
theorem qD{b:List Str}(na:a.Nodup)(nb:b.Nodup):(a.filter (λw=>!decide (w∈off a b))++off b a).Perm b:=by
 refine(adp ?_ nb).mpr λx=>?_
 .rw[abJ]
  exact⟨na.sublist aa0,dU nb,λx hx y hy e=>(AS.mp hy).2 (e ▸ (List.mem_filter.mp hx).1)⟩
 .rw[acy,ace]
  simp only[adJ,decide_eq_false_iff_not,AS,not_and,Classical.not_not]
  constructor
  .rintro(⟨h1,h2⟩|h)
   .exact h2 h1
   .exact h.1
  .intro h
   by_cases z:x∈a
   .exact .inl ⟨z,λ_=>h⟩
   .exact .inr ⟨h,z⟩
theorem u5{b gs:List Str}(ha:a.Pairwise AZ)(hb:b.Pairwise AZ)(up:Er (a.filter (λw=>!decide (w∈off a b))++off b a) gs):gs=b:=by
 have pm:=qD (bo ha) (bo hb)
 exact jv (up.1.trans pm) (gI up.2 ((up.1.trans pm).nodup_iff.mpr (bo hb))) hb
theorem zq{e2 e4 e6 e7 e8:Option Sl}(s:LK ps ts d)
  (k:D.nx [some ⟨0,lT ps ts⟩,some ⟨0,AX d⟩,e2,some ⟨0,.tup ((off (iD ps ts) (iD (A0 ps d) (Bh ts d))).map .str)⟩,e4,some ⟨0,.tup ((iD ps ts).map .str)⟩,e6,e7,e8]) :
  Cc (Q.DB (oF (iF AN (iF gE (eV 1) (eC (.int 0))) (eC (.str "leave")))) (oF (iF neT (eV 3) (AV du (aS (eV 0) (aS (eV 5) (aS (iF gE (eV 1) (eC (.int 1))) bY)))))))
   A Bj D [some ⟨0,lT ps ts⟩,some ⟨0,AX d⟩,e2,some ⟨0,.tup ((off (iD ps ts) (iD (A0 ps d) (Bh ts d))).map .str)⟩,e4,some ⟨0,.tup ((iD ps ts).map .str)⟩,e6,e7,e8]:=by
 have tl:=s.S.tl
 refine aL λA1 B1 Dg BU=>?_
 have no:∀x:Str,gE (AX d) (.int 0)=some (.str x)->(x == "leave")=false->(oF (iF AN (iF gE (eV 1) (eC (.int 0))) (eC (.str "leave")))) [some ⟨0,lT ps ts⟩,some ⟨0,AX d⟩,e2,some ⟨0,.tup ((off (iD ps ts) (iD (A0 ps d) (Bh ts d))).map .str)⟩,e4,some ⟨0,.tup ((iD ps ts).map .str)⟩,e6,e7,e8] (λb e=>if b=true then (oF (iF neT (eV 3) (AV du (aS (eV 0) (aS (eV 5) (aS (iF gE (eV 1) (eC (.int 1))) bY)))))) e (λb e=>if b=true then A1 D e else B1 D e)else B1 D e):=λx hx hn=>by
  lia
  refine ab hx (ab (lR hn) (ab rfl ?_))
  rw[if_neg (by simp)]
  subst BU
  exact k
 cases d with
 |DM p=>
  clear no
  obtain⟨c1,c2⟩:=qR s
  have e1:IJ (iD ps ts) p ts=off (iD ps ts) (iD (A0 ps (.DM p)) ts):=by
   refine ic (s.S.ok.names.sublist (List.filter_sublist.map _)) ((bz s.S.ok).sublist (eR _ _)) λz=>?_
   unfold IJ
   constructor
   .intro hz
    obtain⟨t,ht,rfl⟩:=List.mem_map.mp hz
    obtain⟨h1,h2⟩:=List.mem_filter.mp ht
    rw[aaE,decide_eq_true_eq,decide_eq_true_eq]at h2
    exact(c1 _ h2.1 t h1 rfl).mpr h2.2
   .intro hz
    obtain⟨t,t1,_,_,rfl⟩:=A4.mp (AS.mp hz).1
    refine List.mem_map.mpr ⟨t,List.mem_filter.mpr ⟨t1,?_⟩,rfl⟩
    rw[aaE,decide_eq_true_eq,decide_eq_true_eq]
    exact⟨(AS.mp hz).1,(c1 _ (AS.mp hz).1 t t1 rfl).mp hz⟩
  lia
  refine ab (z:=.str "leave") (ai (j:=0) rfl) (ab (lP _) ?_)
  lia
  refine ab (z:=.str p) (ai (j:=1) rfl) ?_
  try lia
  refine⟨ps,ts,_,p,rfl,by omega,?_⟩
  rw[e1]
  refine ab (mI _ _) (ab rfl ?_)
  have e2:off (iD ps ts) (iD (A0 ps (.DM p)) (Bh ts (.DM p)))=off (iD ps ts) (iD (A0 ps (.DM p)) ts):=rfl
  rw[decide_eq_true e2,abK,if_neg (by simp)]
  subst BU
  exact k
 |Fz p=>exact no "place" (ai (j:=0) rfl) (by decide +kernel)
 |tie n a b c=>exact no "tie" (ai (j:=0) rfl) (by decide +kernel)
 |EK n=>exact no "untie" (ai (j:=0) rfl) (by decide +kernel)
 |cos n c=>exact no "cost" (ai (j:=0) rfl) (by decide +kernel)
theorem tE(T:Addr)(c:PV)(xs:List PV)(P:PV->PV->Prop)(h:jp T c xs P):Q.DV 8 (iH T) c xs P:=by
 obtain⟨rfl,ps,ts,d,rfl,s,h⟩:=h
 have tl:=s.S.tl
 have U5:=s.s2.tl
 have m1:=cq ps ts
 have m2:=cq (A0 ps d) (Bh ts d)
 have l1:=eU (iD ps ts) (iD (A0 ps d) (Bh ts d))
 have l2:=eU (iD (A0 ps d) (Bh ts d)) (iD ps ts)
 have r1:=bz s.S.ok
 have r2:=bz s.s2.ok
 have cn:=yu s
 unfold iH
 simp only[DV,GR,IA]
 refine ah λN hN=>?_
 lia
 refine⟨ps,ts,d,rfl,s.S,s.ok,?_⟩
 subst hN
 refine ah λN hN=>?_
 lia
 simp only[Bz]
 lia
 refine⟨rfl,ps,ts,d,rfl,s,?_⟩
 simp only[NO]
 lia
 subst hN
 refine ah λN hN=>?_
 lia
 simp only[Bz]
 lia
 refine⟨rfl,ps,ts,rfl,s.S.ok,s.S.pl,s.S.tl,?_⟩
 try lia
 try simp only[Bz]
 try lia
 refine⟨rfl,_,_,rfl,s.s2.ok,s.s2.pl,s.s2.tl,?_⟩
 try lia
 subst hN
 refine ah λN hN=>aL λA1 B1 Dg BU=>?_
 lia
 refine bF (λ_=>.bl true) (λx hx R hR=>?_) (by rw[aac,acz];omega) ?_
 .obtain⟨w,hw,rfl⟩:=List.mem_map.mp hx
  refine ab bS ?_
  rw[decide_eq_true (AS.mp hw).1]
  exact hR
 rw[aaN,vV]
 refine ab (wI _) (ab rfl ?_)
 rw[if_neg (by simp)]
 refine bF (λ_=>.bl false) (λx hx R hR=>?_) (by rw[aac,acz];omega) ?_
 .obtain⟨w,hw,rfl⟩:=List.mem_map.mp hx
  refine ab bS ?_
  rw[decide_eq_false (AS.mp hw).2]
  exact hR
 rw[aaN]
 refine ab uT (ab rfl ?_)
 rw[if_neg (by simp)]
 subst BU
 show N _
 subst hN
 refine ah λN hN=>aL λA1 B1 Dg BU=>?_
 simp only[oF,iF,BR,aS,Cv,Dj]
 lia
 refine br (Ds (off (iD ps ts) (iD (A0 ps d) (Bh ts d)))) (λx hx R hR=>?_) (by rw[aac,acz];omega) ?_
 .obtain⟨w,hw,rfl⟩:=List.mem_map.mp hx
  exact cS fW hR rfl rfl
 rw[aaN,bL]
 try lia
 refine ab rfl (ab (jG (by have:=aaH (λw=>!decide (w∈off (iD ps ts) (iD (A0 ps d) (Bh ts d)))) (iD ps ts);omega)) ?_)
 have fl:=aaH (λw=>!decide (w∈off (iD ps ts) (iD (A0 ps d) (Bh ts d)))) (iD ps ts)
 refine⟨_,iK _,?_,λgs up=>?_⟩
 .rw[(qD (bo r1) (bo r2)).length_eq];omega
 have eg:=u5 r1 r2 up
 subst eg
 refine ab rfl ?_
 try lia
 refine ab (mI _ _) (ab rfl ?_)
 rw[decide_eq_true rfl,abK,if_neg (by simp)]
 subst BU
 show N _
 subst hN
 refine ah λN hN=>zq s ?_
 show N _
 subst hN
 refine ah λN hN=>?_
 lia
 refine ab (DC _ _) (ab (z:=.int ((A0 ps d).length:Int)) (by show some (PV.int (((A0 ps d).map PV.str).length:Int))=_;rw[aac]) (ab (DC ps ts) (ab (z:=.int (ps.length:Int)) (by show some (PV.int ((ps.map PV.str).length:Int))=_;rw[aac]) (ab b9 ?_))))
 refine⟨ps,ts,rfl,wO s.S.ok s.S.pl s.S.tl,?_⟩
 refine ab (z:=.int ((E8 ps (BX ps ts)).length:Int)) (by show some (PV.int (((E8 ps (BX ps ts)).map _).length:Int))=_;rw[aac]) (ab bg ?_)
 refine⟨_,_,rfl,wO s.s2.ok s.s2.pl s.s2.tl,?_⟩
 refine ab (z:=.int ((E8 (A0 ps d) (BX (A0 ps d) (Bh ts d))).length:Int)) (by show some (PV.int (((E8 (A0 ps d) (BX (A0 ps d) (Bh ts d))).map _).length:Int))=_;rw[aac]) (ab b9 ?_)
 rw[<- cn]
 subst hN
 refine ah λN hN=>aL λA1 B1 Dg BU=>?_
 lia
 rw[aac,aac]
 refine ab b9 (ab (ne_int _ _) (ab rfl ?_))
 rw[decide_eq_true rfl,abK,if_neg (by simp)]
 refine⟨ps,ts,d,rfl,s,?_⟩
 refine ab (z:=true) rfl ?_
 rw[if_neg (by simp)]
 subst BU
 show N _
 subst hN
 lia
 simp only[Bz]
 lia
 refine⟨rfl,ps,ts,d,rfl,s,?_⟩
 try lia
 refine ab (z:=.bl true) rfl ?_
 exact h
theorem xD(T:Addr)(ns:List Int)(x:PV)(hn:ns.length<=63)(hx:x=.C2 ns\/x=.lst (ns.map .int)):Q.DV 6 (jq T) (CK T) [x] λr c=>r=.bl true/\c=CK T:=by
 unfold jq
 simp only[DV,GR,IA]
 refine ah λN hN=>?_
 show Q.CM 1 0 _ [some ⟨0,x⟩,none,none,none,none,none,some ⟨2,CK T⟩]
 refine⟨⟨ns,hx,hn⟩,?_⟩
 show N [some ⟨0,x⟩,some ⟨4,.AF⟩,none,none,none,none,some ⟨2,CK T⟩]
 subst hN
 obtain⟨zs,ez,lz⟩:=xj 9 hx
 refine ah λN hN=>cy λG B hG hB=>?_
 simp only[MH,aS,bY,iF,eC,BR,HZ,eV,C8,CF,JD,dB,acl]
 refine ab ez ?_
 lia
 refine ab (z:=.int (2+(zs.length:Int))) rfl ?_
 refine⟨by omega,by omega,?_⟩
 generalize ED 0 _=rs
 subst hG hB
 refine bC (λj e=>∃v2 v3 v4 v5:Option Sl,e=[some ⟨0,x⟩,some ⟨4,.AF⟩,v2,v3,v4,v5,some ⟨2,CK T⟩]) (i:=0) ⟨none,none,none,none,rfl⟩ ?_ ?_
 case refine_2=>
  rintro e ⟨v2,v3,v4,v5,rfl⟩
  show N _
  subst hN
  exact⟨rfl,rfl⟩
 rintro j y e M hy ⟨v2,v3,v4,v5,rfl⟩ k
 show oR _ _ _ [some ⟨0,x⟩,some ⟨4,.AF⟩,some ⟨0,y⟩,v3,v4,v5,some ⟨2,CK T⟩]
 refine ah λN hN=>?_
 lia
 refine⟨rfl,11,29,rfl,by decide,by decide,by decide,by decide,λps ts ok hp ht=>?_⟩
 lia
 show N [some ⟨0,x⟩,some ⟨4,.AF⟩,some ⟨0,y⟩,some ⟨0,lT ps ts⟩,v4,v5,some ⟨2,CK T⟩]
 subst hN
 refine cy λG B hG hB=>?_
 lia
 refine Cj (by omega) (by omega) λr r0 r1=>?_
 try lia
 refine⟨by omega,by omega,?_⟩
 generalize ED 0 r.toNat=rs2
 subst hG hB
 refine bC (λj e=>∃(ps:List Str) (ts:List AE) (v4 v5:Option Sl),e=[some ⟨0,x⟩,some ⟨4,.AF⟩,some ⟨0,y⟩,some ⟨0,lT ps ts⟩,v4,v5,some ⟨2,CK T⟩]/\Bs ps ts/\ps.length<=12/\ts.length<=30) (i:=0) ⟨ps,ts,v4,v5,rfl,ok,by omega,by omega⟩ ?_ ?_
 case refine_2=>
  rintro e ⟨ps,ts,v4,v5,rfl,_,_,_⟩
  exact k _ ⟨_,_,_,_,rfl⟩
 rintro j z e M2 hz ⟨ps,ts,v4,v5,rfl,ok,hp,ht⟩ k2
 show oR _ _ _ [some ⟨0,x⟩,some ⟨4,.AF⟩,some ⟨0,y⟩,some ⟨0,lT ps ts⟩,some ⟨0,z⟩,v5,some ⟨2,CK T⟩]
 refine ah λN hN=>?_
 lia
 refine⟨rfl,ps,ts,rfl,ok,hp,ht,λd hd c1 c2=>?_⟩
 lia
 show N [some ⟨0,x⟩,some ⟨4,.AF⟩,some ⟨0,y⟩,some ⟨0,lT ps ts⟩,some ⟨0,z⟩,some ⟨0,AX d⟩,some ⟨2,CK T⟩]
 subst hN
 have S:FI ps ts:=⟨ok,by omega,by omega⟩
 have S2:=AA ok hd hp ht
 refine ah λN hN=>aL λA1 B1 Dg BU=>?_
 lia
 simp only[Bz]
 lia
 refine⟨rfl,ps,ts,d,rfl,⟨S,hd,S2⟩,?_⟩
 try lia
 try rw[if_neg (by simp)]
 subst BU
 show N [some ⟨0,x⟩,some ⟨4,.AF⟩,some ⟨0,y⟩,some ⟨0,lT ps ts⟩,some ⟨0,z⟩,some ⟨0,AX d⟩,some ⟨2,CK T⟩]
 subst hN
 lia
 refine⟨ps,ts,d,rfl,S,hd,?_⟩
 exact k2 _ ⟨_,_,_,_,rfl,S2.ok,c1,c2⟩
variable{K:aah}{mg:Str->Option Value}{st:Stmt}
abbrev GQ(P:aaJ)(w:World)(base:Heap)(d:Df K mg x st ps)(k:Nat)(D:Fd):Prop:=A8 P w K mg base Cz k d.f d.fd ps (Kp ⟨P,w,K,Ex K⟩ ps.length D)
abbrev GO(P:aaJ)(w:World)(base:Heap)(d:Df K mg x st ps)(k:Nat)(D:D5):Prop:=A8 P w K mg base Cz k d.f d.fd ps (J2 ⟨P,w,K,Ex K⟩ ps.length D)
abbrev GT(P:aaJ)(w:World)(base:Heap)(d:Df K mg x st ps)(k:Nat)(D:D5):Prop:=A8 P w K mg base Cz k d.f d.fd ps (spT ⟨P,w,K,Ex K⟩ ps.length D)
theorem C9{N P:List Str}{sc:Scope}(kind:sc.kind=.function:=by rfl)(co:sc.isCoroutine=false:=by rfl)(gen:sc.isGenerator=false:=by rfl)(nd:N.Nodup:=by decide +kernel)(pre:N.take P.length=P:=by rfl)
  (par:∀x∈P,sc.names.lookup x=some .local\/sc.names.lookup x=some .cell:=by decide +kernel) (Ho:∀y∈sc.names,y.2≠.free:=by decide +kernel):ay N P sc:=⟨kind,co,gen,nd,pre,par,Ho⟩
variable{ob:Cy}{X:Cx}{k' n:Nat}{D:Fd}{DO:D5}{p p1 pos:Pos}{e a b:Expr}{es:List Expr}{fa:WA}{f g:WE}
theorem aT(i:Nat)(hN:X.N[i]?=some x:=by rfl)(hv:G5 X.env.scope x:=by first|exact Or.inl rfl|exact Or.inr (Or.inl rfl)|exact Or.inr (Or.inr rfl))(hd:(x==("__debug__" : Str))=false:=by decide)(hcd:(x==("__classdict__" : Str))=false:=by decide):
  Bk ob X (.Name x pos) (eV i):=zQ i (pv i hN hv hd hcd)
theorem rW(i:Nat)(hN:X.N[i]?=some x:=by rfl)(hv:G5 X.env.scope x:=by first|exact Or.inl rfl|exact Or.inr (Or.inl rfl)|exact Or.inr (Or.inr rfl))(hd:(x==("__debug__" : Str))=false:=by decide)(hcd:(x==("__classdict__" : Str))=false:=by decide):
  Fp ob X (.Name x pos) (Bq i):=yi i (pv i hN hv hd hcd)
theorem A6{d:Df X.K X.mg x st ps}(F:A8 X.prog X.w X.K X.mg X.base Cz k d.f d.fd ps (Kp (md ob X) n D))(hr:Br k' X.A)(ha:G0 ob X (e::es) fa)(hk:k<=k':=by decide)(hn:es.length+1=n:=by rfl)(hg:Gl X x:=by rfl)
  (DP:(x==("__debug__" : Str))=false:=by decide) (he:aam (e::es) X.env=(false,eval e X.env)::aam es X.env:=by rfl) (B8:(backTo pos (aam es X.env)).any (·.1)=false:=by rfl) :
  Bk ob X (.Call (.Name x p) (e::es) [] pos) (AV D fa):=yl F (hr.mono hk) d.n.mg d.n.kp d.b ha hn hg DP he B8
theorem AG(i:Nat){d:Df X.K X.mg x st ps}(F:A8 X.prog X.w X.K X.mg X.base Cz k d.f d.fd ps (J2 (md ob X) n DO))(hr:Br k' X.A)(ha:G0 ob X es fa)(ho:PE X (.Name y p1) (BF i):=by exact pv _)(hk:k<=k':=by decide)(hn:es.length+1=n:=by rfl)(hg:Gl X x:=by rfl)
  (DP:(x==("__debug__" : Str))=false:=by decide) (he:aam (.Name y p1::es) X.env=(false,eval (.Name y p1) X.env)::aam es X.env:=by rfl) (B8:(backTo pos (aam es X.env)).any (·.1)=false:=by rfl) :
  Bk ob X (.Call (.Name x p) (.Name y p1::es) [] pos) (AD DO i fa):=wz i F (hr.mono hk) d.n.mg d.n.kp d.b ho ha hn hg DP he B8
theorem C5(j:Nat){d:Df X.K X.mg x st ps}(F:A8 X.prog X.w X.K X.mg X.base Cz k d.f d.fd ps (spT (md ob X) n DO))(hr:Br k' X.A)(ha:G0 ob X (e::es) fa)(hk:k<=k':=by decide)(hn:es.length+1=n:=by rfl)(hg:Gl X x:=by rfl)
  (DP:(x==("__debug__" : Str))=false:=by decide) (he:aam (e::es) X.env=(false,eval e X.env)::aam es X.env:=by rfl) (B8:(backTo pos (aam es X.env)).any (·.1)=false:=by rfl) :
  Bk ob X (.Call (.Name x p) (e::es) [] pos) (Bz DO j fa):=wy j F (hr.mono hk) d.n.mg d.n.kp d.b ha hn hg DP he B8
theorem Ba(hr:Br k X.A)(ha:Bk ob X a f)(hb:Fp ob X b g)(hs:g5 b:=by exact λ_ _=>rfl):Bk ob X (.Subscript a b pos) (iF gE f g):=Aw (O1 hr) ha hb hs
theorem Pc(i:Nat)(hr:Br k X.A)(hb:Fp ob X b g)(ha:PE X (.Name x p) (BF i):=by exact pv _)(hs:g5 b:=by exact λ_ _=>rfl):Bk ob X (.Subscript (.Name x p) b pos) (IG gE i g):=zU i (O1 hr) ha hb hs
theorem B6{op:CmpOp}{r:R2}{o:PV->PV->Option PV}(hr:BL X (aaX op) r)(hq:Es ob X r o)(ha:Bk ob X a f)(hb:Fp ob X b g)(hm:acD op b=false:=by first|exact Eb _|rfl):Bk ob X (.Compare a [op] [b] pos) (iF o f g):=zV hr hq ha hb hm
theorem AH{op:CmpOp}{r:R2}{o:PV->PV->Option PV}(hr:BL X (aaX op) r)(hq:Es ob X r o)(ha:Bk ob X a f)(hb:Fp ob X b g)(hm:acD op b=false:=by first|exact Eb _|rfl):G6 ob X (.Compare a [op] [b] pos) (oF (iF o f g)):=ym hr hq ha hb hm
variable{P:aaJ}{w:World}{base:Heap}
theorem mJ:(["sign"]:List Str).Nodup:=by decide +kernel
theorem Q0:ay ["thing"] ["thing"] (aq mj):=C9
theorem cG(Y:Ev K mg):GQ P w base Y.Gh 1 bD :=
 aR (bc Y.Gh.F Q0 (by decide) (λBi A outer s H E hr=>by
  unfold gb
  exact(ag (aI (b0 (b7 (bw (be (nE (gX "str" (by decide) Y.BA Y.LB PyProof.Rows.boot_str (rW 0))))) (dn (bw (wA ol lA ol lA af (aQ aU aV (by rfl) Y.BE aaM (bn (rW 0))) (yj (Y.Dx))))))) (ap (au cz)) aB)
  (ap (au (aQ (ir rfl) lU (by rfl) Y.GW ac7 (Di (ac (C7 (bx (N:=["sign"]) (zY (aT 0)) (λ_ _ _ _ _=>aF (i:=0) mJ rfl (Or.inl rfl)) (λ_ _ _ _ _=>bM) (λ_ _ _ _ _=>(wx ol lA ol lA ba (aT 0) ba)))) ae)))))))) qi
theorem Q4:ay ["thing"] ["thing"] (aq ky):=C9
theorem jg(Y:Ev K mg):GQ P w base Y.Fh 1 dr :=
 aR (bc Y.Fh.F Q4 (by decide) (λBi A outer s H E hr=>by
  unfold fo
  exact(ap (au (ce (gX "int" (by decide) Y.BA Y.LD PyProof.Rows.boot_int (rW 0)) (cH (zR (gX "bool" (by decide) Y.BA Y.JY PyProof.Rows.boot_bool (rW 0))))))))) o6
theorem fE:(["low", "high"]:List Str).Nodup:=by decide +kernel
theorem Q7:ay ["words"] ["words"] (aq iR):=C9
theorem oe(Y:Ev K mg):GQ P w base Y.Eg 1 eJ :=
 aR (bc Y.Eg.F Q7 (by decide) (λBi A outer s H E hr=>by
  unfold eB
  exact(ap (au (aQ (ir rfl) lU (by rfl) Y.GW ac7 (Di (ac (C7 (bx (N:=["low", "high"]) (zX (by rfl) Y.LA (ac (aT 0) (ac (dM (aT 0) (bP (nE af)) cA) ae))) (λ_ _ _ _ _=>oZ (n:=2) rfl (fA (aF (i:=0) fE rfl (Or.inl rfl)) (fA (aF (i:=1) fE rfl (Or.inl rfl)) mD))) (λ_ _ _ _ _=>bM) (λ_ _ _ _ _=>(B6 jA gM (aT 0) (rW 1))))) ae))))))) n4
theorem kQ:(["part"]:List Str).Nodup:=by decide +kernel
theorem Q8:ay ["thing"] ["thing"] (aq iV):=C9
theorem iA(Y:Ev K mg):GQ P w base Y.Ej 2 cf :=
 aR (bc Y.Ej.F Q8 (by decide) (λBi A outer s H E hr=>by
  unfold eD
  exact(ag (aI (b0 (b7 (bw (be (nE (gX "tuple" (by decide) Y.BA Y.A9 aaB (rW 0))))) (dn (bw (be (nE (aQ (ir rfl) lU (by rfl) Y.GW ac7 (Di (ac (C7 (bx (N:=["part"]) (aP (aT 0)) (λ_ _ _ _ _=>aF (i:=0) kQ rfl (Or.inl rfl)) (λ_ _ _ _ _=>bM) (λ_ _ _ _ _=>(A6 (cG Y) hr (ac (aT 0) ae))))) ae))))))))) (ap (au cz)) aB)
  (ap (au (A6 (oe Y) hr (ac (aT 0) ae))))))) n5
theorem Q3:ay ["net", "tie"] ["net", "tie"] (aq ml):=C9
theorem j0(Y:Ev K mg):GQ P w base Y.Gi 1 dN :=
 aR (bc Y.Gi.F Q3 (by decide) (λBi A outer s H E hr=>by
  unfold gc
  exact(ap (au (ce (B6 (bK (B5 hr)) bJ (Ba hr (aT 1) (nE af)) (nE (Ba hr (aT 0) (nE af)))) (cH (B6 (bK (B5 hr)) bJ (Ba hr (aT 1) (nE af)) (nE (Ba hr (aT 0) (nE af)))))))))) qj
theorem dv:(["tie"]:List Str).Nodup:=by decide +kernel
theorem US:ay ["net"] ["net"] (aq gp):=C9
theorem bX(Y:Ev K mg):GQ P w base Y.Dv 1 bj :=
 aR (bc Y.Dv.F US (by decide) (λBi A outer s H E hr=>by
  unfold cP
  exact(ap (au (C7 (wU (N:=["tie"]) (aP (Ba hr (aT 0) (nE af))) (λ_ _ _ _ _=>aF (i:=0) dv rfl (Or.inl rfl)) (λ_ _ _ _ _=>bM) (λ_ _ _ _ _=>(Ba hr (aT 0) (nE af))) (λ_ _ _ _ _=>(aT 0)))))))) kG
theorem kO:(["tie", "net"]:List Str).Nodup:=by decide +kernel
theorem UR:ay ["net"] ["net"] (aq iQ):=C9
theorem n9(Y:Ev K mg):GQ P w base Y.Ef 2 eI :=
 aR (bc Y.Ef.F UR (by decide) (λBi A outer s H E hr=>by
  unfold eu
  exact(ap (au (bZ aX aY (by rfl) Y.A9 aaB (Di (ac (C7 (bx (N:=["tie", "net"]) (aP (Ba hr (aT 0) (nE af))) (λ_ _ _ _ _=>aF (i:=0) kO rfl (Or.inl rfl)) (λ_ _ _ _ _=>cr (be (nE (A6 (j0 Y) hr (ac (aT 1) (ac (aT 0) ae)))))) (λ_ _ _ _ _=>(Ba hr (aT 0) (nE af))))) ae))))))) nZ
theorem QX:ay ["net"] ["net"] (aq Hi):=C9
theorem ud(Y:Ev K mg):GQ P w base Y.Hy 1 jo :=
 aR (bc Y.Hy.F QX (by decide) (λBi A outer s H E hr=>by
  unfold iE
  exact(ap (au (C7 (wU (N:=["tie"]) (aP (Ba hr (aT 0) (nE af))) (λ_ _ _ _ _=>aF (i:=0) dv rfl (Or.inl rfl)) (λ_ _ _ _ _=>bM) (λ_ _ _ _ _=>(Ba hr (aT 0) (nE af))) (λ_ _ _ _ _=>(aA (ac (Ba hr (aT 0) (nE af)) (ac (Ba hr (aT 0) (nE af)) ae)))))))))) tB
theorem Tu:ay ["net", "names", "rank", "#t"] ["net", "names"] (aq eG):=C9
theorem ij:Ie "name" "rank" {posonlyargs:=[],args:=[{arg := "name",annotation:=none,pos:=p}],vararg:=none,kwonlyargs:=[],kw_defaults:=[],kwarg:=none,defaults:=[]} {kind:=.function,names:=[("name",.local),("rank",.free)],isGenerator:=false,isCoroutine:=false,more:=[]} :=
 ⟨rfl,rfl,rfl,by decide,rfl,rfl,rfl,rfl,rfl,rfl,λ_ _ _ _ _ _ _=>rfl⟩
theorem ik:Ih "rank" {posonlyargs:=[],args:=[{arg := "name",annotation:=none,pos:=p}],vararg:=none,kwonlyargs:=[],kw_defaults:=[],kwarg:=none,defaults:=[]} {kind:=.function,names:=[("name",.local),("rank",.free)],isGenerator:=false,isCoroutine:=false,more:=[]} :=
 ⟨λ_=>rfl,λenv cell h=>by simp[closureFor,cellOf,h]⟩
theorem jV(Y:Ev K mg)(hB:BMain mg base):GT P w base Y.Cb 2 (cE Y.AQ) :=
 gR (gQ (nm := "#t") Y.Cb.F Tu rfl (by decide) rfl (by unfold G5;decide +kernel) (λBi GK A outer s H E hr=>by
  unfold cC
  obtain⟨c,hc,hC⟩:=Y.Dc
  have hcd:=GK.symm.trans hc
  exact(ag (aC 2 Tu.nd rfl (Or.inr rfl) (A6 (ud Y) hr (ac (aT 0) ae)))
  (ap (au (C7 (wt 3 2 ij ik hr (by rfl) Y.BD (by rfl) hcd hC hB (by rfl) (by rfl) (Or.inr (Or.inl rfl)) (aT 1)))))))) (jS _)
theorem db:(["place"]:List Str).Nodup:=by decide +kernel
theorem da:(["place", "word", "stays", "goes"]:List Str).Nodup:=by decide +kernel
theorem Km:ay ["net", "names", "named", "group", "kept", "name", "tie", "stays", "goes"] ["net", "names"] (aq eF):=C9
theorem jU(Y:Ev K mg):GQ P w base Y.CN 2 cD :=
 aR (bc Y.CN.F Km (by decide) (λBi A outer s H E hr=>by
  unfold cB
  exact(ag (aC 2 Km.nd rfl (Or.inl rfl) (A6 (bX Y) hr (ac (aT 0) ae)))
  (ag (wT 3 (N:=["place"]) Km.nd rfl rfl (aP (Ba hr (aT 0) (nE af))) (λ_ _ _ _ _=>aF (i:=0) db rfl (Or.inl rfl)) (λ_ _ _ _ _=>bM) (λ_ _ _ _ _=>(aT 0)) (λ_ _ _ _ _=>(aT 0)))
  (ag (eY 4 Km.nd rfl (Or.inl rfl) (cI ae))
  (ag (dm abC rfl (aP (aT 1)) (aO 5 Km.nd rfl (Or.inl rfl)) (ag (aC 6 Km.nd rfl (Or.inl rfl) (Ba hr (aT 2) (rW 5)))
  (ag (gU (aA (ac (Pc 3 hr (nE (Ba hr (aT 6) (nE af)))) (ac (Pc 3 hr (nE (Ba hr (aT 6) (nE af)))) ae))) (fN (n:=2) rfl (aW (aO 7 Km.nd rfl (Or.inr rfl)) (aW (aO 8 Km.nd rfl (Or.inr rfl)) dF)) (bi (bi fJ))))
  (ap (aI (AH (dJ (Ci hr)) cF (aT 7) (rW 8)) (ag (eZ (nE (jM 4 abH abG bR cT (pv 4) (ac (aT 5) ae))))
  (ap (wT 3 (N:=["place", "word", "stays", "goes"]) Km.nd rfl rfl (uE 3 (pv 3)) (λ_ _ _ _ _=>oZ (n:=2) rfl (fA (aF (i:=0) da rfl (Or.inl rfl)) (fA (aF (i:=1) da rfl (Or.inl rfl)) mD))) (λ_ _ _ _ _=>bM) (λ_ _ _ _ _=>(aT 0)) (λ_ _ _ _ _=>(uA (AH (aH (Bw hr)) aG (aT 1) (rW 3)) (aT 2) (aT 1)))))) aB)))))
  (ap (au (bZ aX aY (by rfl) Y.A9 aaB (Di (ac (C7 (fK rfl (by rfl) Y.BD (bn (rW 4)))) ae))))))))))) jR
theorem Q5:ay ["net", "#t"] ["net"] (aq iU):=C9
theorem di(Y:Ev K mg)(hB:BMain mg base):GT P w base Y.Ei 3 (bQ Y.AQ) :=
 gR (gQ (nm := "#t") Y.Ei.F Q5 rfl (by decide) rfl (by unfold G5;decide +kernel) (λBi GK A outer s H E hr=>by
  unfold ft
  exact(ap (au (A6 (jU Y) hr (ac (aT 0) (ac (C5 1 (jV Y hB) hr (ac (aT 0) (ac (A6 (n9 Y) hr (ac (aT 0) ae)) ae))) ae))))))) (o8 _)
theorem UU:ay ["parts"] ["parts"] (aq cZ):=C9
theorem gP(Y:Ev K mg):GQ P w base Y.Cf 2 bu :=
 aR (bc Y.Cf.F UU (by decide) (λBi A outer s H E hr=>by
  unfold bO
  exact(ag (aI (b0 (b7 (AH (dJ (Ci hr)) cF (aQ aU aV (by rfl) Y.BE aaM (bn (rW 0))) (nE af)) (b7 (bw (be (nE (A6 (cG Y) hr (ac (Ba hr (aT 0) (nE af)) ae))))) (dn (bw (be (nE (A6 (cG Y) hr (ac (Ba hr (aT 0) (nE af)) ae))))))))) (ap (au cz)) aB)
  (ap (au (ce (B6 (dJ (Ci hr)) cF (Ba hr (aT 0) (nE af)) (nE (Ba hr (aT 0) (nE af)))) (cH (A6 (jg Y) hr (ac (Ba hr (aT 0) (nE af)) ae))))))))) gL
theorem NT:ay ["thing", "rest"] ["thing"] (aq mo):=C9
theorem qx(Y:Ev K mg):GQ P w base Y.Gj 3 gC :=
 aR (bc Y.Gj.F NT (by decide) (λBi A outer s H E hr=>by
  unfold dH
  exact(ag (aI (b0 (b7 (bw (be (nE (gX "tuple" (by decide) Y.BA Y.A9 aaB (rW 0))))) (b7 (AH jA gM (aQ aU aV (by rfl) Y.BE aaM (bn (rW 0))) (nE af)) (b7 (bw (be (nE (A6 (cG Y) hr (ac (Ba hr (aT 0) (nE af)) ae))))) (dn (bw (be (nE (A6 (cG Y) hr (ac (Ba hr (aT 0) (nE af)) ae)))))))))) (ap (au cz)) aB)
  (ag (aC 1 NT.nd rfl (Or.inl rfl) (dM (aT 0) (bP (nE af)) cA))
  (ag (aI (AH (aH (Bw hr)) aG (Ba hr (aT 0) (nE af)) (nE ba)) (ap (au (A6 (gP Y) hr (ac (aT 1) ae)))) aB)
  (ag (aI (AH (aH (Bw hr)) aG (Ba hr (aT 0) (nE af)) (nE ba)) (ap (au (ce (B6 (aH (Bw hr)) aG (aQ aU aV (by rfl) Y.BE aaM (bn (rW 1))) (nE af)) (cH (A6 (jg Y) hr (ac (Ba hr (aT 1) (nE af)) ae)))))) aB)
  (ap (au (ce (B6 (bK (B5 hr)) bJ (Ba hr (aT 0) (nE af)) (nE (aA (ac ba (ac ba (ac ba ae)))))) (cH (B6 (aH (Bw hr)) aG (aQ aU aV (by rfl) Y.BE aaM (bn (rW 1))) (nE af)))))))))))) qk
theorem Ts:ay ["net", "deed", "place"] ["net", "deed"] (aq gq):=C9
theorem lM(Y:Ev K mg):GQ P w base Y.BK 1 ck :=
 aR (bc Y.BK.F Ts (by decide) (λBi A outer s H E hr=>by
  unfold cX
  exact(ag (aC 2 Ts.nd rfl (Or.inl rfl) (Ba hr (aT 1) (nE af)))
  (ag (aI (AH (bK (B5 hr)) bJ (aT 2) (nE (Ba hr (aT 0) (nE af)))) (ap gS) aB)
  (ap (au (aA (ac (bZ aX aY (by rfl) Y.A9 aaB (Di (ac (C7 (wo rfl (by rfl) Y.BD (Di (ac (aM (Ba hr (aT 0) (nE af)) (nE (aA (ac (aT 2) ae)))) ae)))) ae))) (ac (Ba hr (aT 0) (nE af)) ae))))))))) ly
theorem iC:(["each", "place"]:List Str).Nodup:=by decide +kernel
theorem Tt:ay ["net", "deed", "place"] ["net", "deed"] (aq fx):=C9
theorem kW(Y:Ev K mg):GQ P w base Y.By 1 b8 :=
 aR (bc Y.By.F Tt (by decide) (λBi A outer s H E hr=>by
  unfold cQ
  exact(ag (aC 2 Tt.nd rfl (Or.inr rfl) (Ba hr (aT 1) (nE af)))
  (ag (aI (AH (bq (B5 hr)) bp (aT 2) (nE (Ba hr (aT 0) (nE af)))) (ap gS) aB)
  (ap (au (aA (ac (bZ aX aY (by rfl) Y.A9 aaB (Di (ac (C7 (bx (N:=["each", "place"]) (aP (Ba hr (aT 0) (nE af))) (λ_ _ _ _ _=>aF (i:=0) iC rfl (Or.inl rfl)) (λ_ _ _ _ _=>cr (AH (dJ (Ci hr)) cF (aT 0) (rW 1))) (λ_ _ _ _ _=>(aT 0)))) ae))) (ac (Ba hr (aT 0) (nE af)) ae))))))))) kH
theorem Nq:ay ["net", "deed", "name", "one", "other", "cost", "tie"] ["net", "deed"] (aq iP):=C9
theorem n8(Y:Ev K mg):GQ P w base Y.Ca 2 cM :=
 aR (bc Y.Ca.F Nq (by decide) (λBi A outer s H E hr=>by
  unfold eh
  exact(ag (gU (dM (aT 1) (bP (nE af)) cA) (fN (n:=4) rfl (aW (aO 2 Nq.nd rfl (Or.inl rfl)) (aW (aO 3 Nq.nd rfl (Or.inl rfl)) (aW (aO 4 Nq.nd rfl (Or.inl rfl)) (aW (aO 5 Nq.nd rfl (Or.inl rfl)) dF)))) (bi (bi (bi (bi fJ))))))
  (ag (aI (AH (bK (B5 hr)) bJ (aT 2) (nE (A6 (bX Y) hr (ac (aT 0) ae)))) (ap gS) aB)
  (ag (aC 6 Nq.nd rfl (Or.inl rfl) (aA (ac (aT 2) (ac (aQ (Aa rfl) Ac (by rfl) Y.LC PyProof.Rows.boot_min (Di (ac (aT 3) (ac (aT 4) ae)))) (ac (aQ (uK rfl) uL (by rfl) Y.Ia PyProof.Rows.boot_max (Di (ac (aT 3) (ac (aT 4) ae)))) (ac (aT 5) ae))))))
  (ap (au (aA (ac (Ba hr (aT 0) (nE af)) (ac (bZ aX aY (by rfl) Y.A9 aaB (Di (ac (C7 (uy (by rfl) Y.BD (Di (ac (aM (Ba hr (aT 0) (nE af)) (nE (aA (ac (aT 6) ae)))) ae)))) ae))) ae)))))))))) nY
theorem lG:(["tie", "name"]:List Str).Nodup:=by decide +kernel
theorem NU:ay ["net", "deed", "name"] ["net", "deed"] (aq ku):=C9
theorem pK(Y:Ev K mg):GQ P w base Y.Ct 2 dq :=
 aR (bc Y.Ct.F NU (by decide) (λBi A outer s H E hr=>by
  unfold fm
  exact(ag (aC 2 NU.nd rfl (Or.inr rfl) (Ba hr (aT 1) (nE af)))
  (ag (aI (AH (bq (B5 hr)) bp (aT 2) (nE (A6 (bX Y) hr (ac (aT 0) ae)))) (ap gS) aB)
  (ap (au (aA (ac (Ba hr (aT 0) (nE af)) (ac (bZ aX aY (by rfl) Y.A9 aaB (Di (ac (C7 (bx (N:=["tie", "name"]) (aP (Ba hr (aT 0) (nE af))) (λ_ _ _ _ _=>aF (i:=0) lG rfl (Or.inl rfl)) (λ_ _ _ _ _=>cr (AH (dJ (Ci hr)) cF (Ba hr (aT 0) (nE af)) (rW 1))) (λ_ _ _ _ _=>(aT 0)))) ae))) ae))))))))) o5
theorem kN:(["tie", "name", "cost"]:List Str).Nodup:=by decide +kernel
theorem LQ:ay ["net", "deed", "name", "cost"] ["net", "deed"] (aq iO):=C9
theorem n6(Y:Ev K mg):GQ P w base Y.B9 2 cL :=
 aR (bc Y.B9.F LQ (by decide) (λBi A outer s H E hr=>by
  unfold ee
  exact(ag (gU (dM (aT 1) (bP (nE af)) cA) (fN (n:=2) rfl (aW (aO 2 LQ.nd rfl (Or.inr rfl)) (aW (aO 3 LQ.nd rfl (Or.inr rfl)) dF)) (bi (bi fJ))))
  (ag (aI (AH (bq (B5 hr)) bp (aT 2) (nE (A6 (bX Y) hr (ac (aT 0) ae)))) (ap gS) aB)
  (ap (au (aA (ac (Ba hr (aT 0) (nE af)) (ac (bZ aX aY (by rfl) Y.A9 aaB (Di (ac (C7 (bx (N:=["tie", "name", "cost"]) (aP (Ba hr (aT 0) (nE af))) (λ_ _ _ _ _=>aF (i:=0) kN rfl (Or.inl rfl)) (λ_ _ _ _ _=>bM) (λ_ _ _ _ _=>(uA (AH (aH (Bw hr)) aG (Ba hr (aT 0) (nE af)) (rW 1)) (aM (dM (aT 0) cA (bP (nE af))) (nE (aA (ac (aT 2) ae)))) (aT 0))))) ae))) ae))))))))) nX
theorem NS:ay ["net", "deed", "done"] ["net", "deed"] (aq kA):=C9
theorem gz(Y:Ev K mg):GQ P w base Y.Fi 4 cK :=
 aR (bc Y.Fi.F NS (by decide) (λBi A outer s H E hr=>by
  unfold gf
  exact(ag (aI (bw (be (nE (A6 (qx Y) hr (ac (aT 1) ae))))) (ap gS) aB)
  (wj 2 (k:=2) (T:=[("place",Y.BK.f,ck),("leave",Y.By.f,b8),("tie",Y.Ca.f,cM),("untie",Y.Ct.f,dq),("cost",Y.B9.f,cL)]) NS.nd rfl (Or.inl rfl) (by rfl) Y.FY.mg Y.FY.tab (List.forall_mem_cons.mpr ⟨⟨_,_,A8.mono (lM Y) (by decide),Y.BK.n.kp,Y.BK.b⟩,(List.forall_mem_cons.mpr ⟨⟨_,_,A8.mono (kW Y) (by decide),Y.By.n.kp,Y.By.b⟩,(List.forall_mem_cons.mpr ⟨⟨_,_,A8.mono (n8 Y) (by decide),Y.Ca.n.kp,Y.Ca.b⟩,(List.forall_mem_cons.mpr ⟨⟨_,_,A8.mono (pK Y) (by decide),Y.Ct.n.kp,Y.Ct.b⟩,(List.forall_mem_cons.mpr ⟨⟨_,_,A8.mono (n6 Y) (by decide),Y.B9.n.kp,Y.B9.b⟩,(λ_ hq=>(nomatch hq))⟩)⟩)⟩)⟩)⟩) (hr.mono (by decide)) (Ba hr (aT 1) (nE af)) (λ_ _=>rfl) (pv 2) (ac (aT 0) (ac (aT 1) ae)))))) ql
theorem mL:(["name", "behind"]:List Str).Nodup:=by decide +kernel
theorem mK:(["name", "ahead"]:List Str).Nodup:=by decide +kernel
theorem LP:ay ["ahead", "behind", "gone", "come"] ["ahead", "behind"] (aq kC):=C9
theorem qz(Y:Ev K mg):GQ P w base Y.Fj 1 gF :=
 aR (bc Y.Fj.F LP (by decide) (λBi A outer s H E hr=>by
  unfold gh
  exact(ag (aC 2 LP.nd rfl (Or.inl rfl) (bZ aX aY (by rfl) Y.A9 aaB (Di (ac (C7 (bx (N:=["name", "behind"]) (aP (aT 0)) (λ_ _ _ _ _=>aF (i:=0) mL rfl (Or.inl rfl)) (λ_ _ _ _ _=>cr (AH (bq (B5 hr)) bp (aT 0) (rW 1))) (λ_ _ _ _ _=>(aT 0)))) ae))))
  (ag (aC 3 LP.nd rfl (Or.inl rfl) (bZ aX aY (by rfl) Y.A9 aaB (Di (ac (C7 (bx (N:=["name", "ahead"]) (aP (aT 1)) (λ_ _ _ _ _=>aF (i:=0) mK rfl (Or.inl rfl)) (λ_ _ _ _ _=>cr (AH (bq (B5 hr)) bp (aT 0) (rW 1))) (λ_ _ _ _ _=>(aT 0)))) ae))))
  (ap (au (aA (ac (aT 2) (ac (aT 3) ae))))))))) qo
theorem Q6:ay ["net", "deed", "#t"] ["net", "deed"] (aq iT):=C9
theorem jh(Y:Ev K mg)(hB:BMain mg base):GT P w base Y.Eh 5 (dt Y.AQ) :=
 gR (gQ (nm := "#t") Y.Eh.F Q6 rfl (by decide) rfl (by unfold G5;decide +kernel) (λBi GK A outer s H E hr=>by
  unfold fq
  exact(ap (au (A6 (qz Y) hr (ac (C5 2 (di Y hB) hr (ac (aT 0) ae)) (ac (C5 2 (di Y hB) hr (ac (A6 (gz Y) hr (ac (aT 0) (ac (aT 1) ae))) ae)) ae))))))) (o7 _)
theorem UT:ay ["net", "deed", "told", "#t"] ["net", "deed", "told"] (aq dz):=C9
theorem jf(Y:Ev K mg)(hB:BMain mg base):GT P w base Y.Cu 6 (cu Y.AQ) :=
 gR (gQ (nm := "#t") Y.Cu.F UT rfl (by decide) rfl (by unfold G5;decide +kernel) (λBi GK A outer s H E hr=>by
  unfold cm
  exact(ag (aI (b0 (b7 (bw (be (nE (gX "tuple" (by decide) Y.BA Y.A9 aaB (rW 2))))) (b7 (AH (dJ (Ci hr)) cF (aQ aU aV (by rfl) Y.BE aaM (bn (rW 2))) (nE af)) (b7 (bw (be (nE (A6 (iA Y) hr (ac (Ba hr (aT 2) (nE af)) ae))))) (dn (bw (be (nE (A6 (iA Y) hr (ac (Ba hr (aT 2) (nE af)) ae)))))))))) (ap (au cz)) aB)
  (ap (au (B6 (aH (Bw hr)) aG (aT 2) (nE (C5 3 (jh Y hB) hr (ac (aT 0) (ac (aT 1) ae)))))))))) (i8 _)
theorem QT:ay ["net", "beside", "tie"] ["net"] (aq gu):=C9
theorem mR(Y:Ev K mg):GQ P w base Y.Dw 2 dG :=
 aR (zN Y.Dw.F QT (by decide) (λBi A outer s H E hr=>by
  unfold dy
  exact(ag (sj 1 QT.nd rfl rfl (aP (Ba hr (aT 0) (nE af))) (λ_ _ _ _ _=>aF (i:=0) db rfl (Or.inl rfl)) (λ_ _ _ _ _=>pv 0))
  (ag (dm abC rfl (aP (Ba hr (aT 0) (nE af))) (aO 2 QT.nd rfl (Or.inl rfl)) (ap (aI (be (nE (A6 (j0 Y) hr (ac (aT 0) (ac (aT 2) ae))))) (ag (lO 1 (O1 hr) (pv 1) (Ba hr (aT 2) (nE af)) (aA (ac (Ba hr (aT 2) (nE af)) (ac (Ba hr (aT 2) (nE af)) ae))))
  (ap (lO 1 (O1 hr) (pv 1) (Ba hr (aT 2) (nE af)) (aA (ac (Ba hr (aT 2) (nE af)) (ac (Ba hr (aT 2) (nE af)) ae)))))) aB)))
  (ap (ur 1 (pv 1))))))) mE
theorem Ij:ay ["beside", "start", "come", "ahead", "here", "name", "place"] ["beside", "start"] (aq mt):=C9
theorem qy(Y:Ev K mg):GQ P w base Y.Gk 1 gD :=
 aR (bc Y.Gk.F Ij (by decide) (λBi A outer s H E hr=>by
  unfold gg
  exact(ag (eY 2 Ij.nd rfl (Or.inl rfl) (yk (FK.cons (aT 1) zS FK.nil)))
  (ag (eY 3 Ij.nd rfl (Or.inl rfl) (cI (ac (aT 1) ae)))
  (ag (wk abC (be (rW 3)) (ag (aC 4 Ij.nd rfl (Or.inl rfl) (zT 3 PySem.F.slot_list_pop PySem.F.type_list_pop zm zn (pv 3)))
  (ap (dm abC rfl (aP (Ba hr (aT 0) (rW 4))) (fN (n:=2) rfl (aW (aO 5 Ij.nd rfl (Or.inl rfl)) (aW (aO 6 Ij.nd rfl (Or.inl rfl)) dF)) (bi (bi fJ))) (ap (aI (AH (bq (B5 hr)) bp (aT 6) (rW 2)) (ag (zO 2 (O1 hr) (aA (ac (aT 5) (ac (aT 4) ae))) (pv 2) (aT 6))
  (ap (eZ (nE (jM 3 abH abG bR cT (pv 3) (ac (aT 6) ae)))))) aB))))))
  (ap (au (aT 2)))))))) qm
theorem QZ:ay ["beside", "start"] ["beside", "start"] (aq kw):=C9
theorem qw(Y:Ev K mg):GQ P w base Y.Fg 2 gB :=
 aR (bc Y.Fg.F QZ (by decide) (λBi A outer s H E hr=>by
  unfold ga
  exact(ap (au (bZ aX aY (by rfl) Y.A9 aaB (Di (ac (C7 (fK rfl (by rfl) Y.BD (Di (ac (A6 (qy Y) hr (ac (aT 0) (ac (aT 1) ae))) ae)))) ae))))))) qh
theorem G9:ay ["net", "beside", "seen", "told", "start", "piece", "place"] ["net"] (aq mh):=C9
theorem lN(Y:Ev K mg):GQ P w base Y.Gf 3 eN :=
 aR (bc Y.Gf.F G9 (by decide) (λBi A outer s H E hr=>by
  unfold g9
  exact(ag (aC 1 G9.nd rfl (Or.inl rfl) (A6 (mR Y) hr (ac (aT 0) ae)))
  (ag (uj 2 G9.nd rfl (Or.inl rfl) Y.JX)
  (ag (eY 3 G9.nd rfl (Or.inl rfl) (cI ae))
  (ag (dm abC rfl (aP (Ba hr (aT 0) (nE af))) (aO 4 G9.nd rfl (Or.inl rfl)) (ap (aI (AH (bq (B5 hr)) bp (aT 4) (rW 2)) (ag (aC 5 G9.nd rfl (Or.inl rfl) (A6 (qw Y) hr (ac (aT 1) (ac (aT 4) ae))))
  (ag (dm abC rfl (aP (aT 5)) (aO 6 G9.nd rfl (Or.inl rfl)) (ap (ul 2 (pv 2) (aT 6))))
  (ap (eZ (nE (jM 3 abH abG bR cT (pv 3) (ac (aT 5) ae))))))) aB)))
  (ap (au (bZ aX aY (by rfl) Y.A9 aaB (bn (rW 3))))))))))) rZ
theorem FV:ay ["_law_state", "_law_many", "_law_letters", "_law_base", "_law_size", "_law_at_here", "_law_first", "_law_found", "_law_k", "_law_two"] ["_law_state", "_law_many"] (aq Hg):=C9
theorem fY(Y:Ev K mg):GO P w base Y.Hw 2 cW :=
 cV (dZ Y.Hw.F FV (by decide) (λBi A outer s H E hr=>by
  unfold iG
  exact(ag (aC 2 FV.nd rfl (Or.inl rfl) ba)
  (ag (aC 3 FV.nd rfl (Or.inl rfl) (Ba hr (aT 2) (nE (AG 0 (aE Y) hr (ac af ae)))))
  (ag (aC 4 FV.nd rfl (Or.inl rfl) (AG 0 (aE Y) hr (ac af ae)))
  (ag (aC 5 FV.nd rfl (Or.inl rfl) (AG 0 (aE Y) hr (ac (aM (aT 4) (nE af)) ae)))
  (ag (aC 6 FV.nd rfl (Or.inl rfl) (AG 0 (aE Y) hr (ac af ae)))
  (ag (eY 7 FV.nd rfl (Or.inl rfl) (cI ae))
  (ag (dm abC rfl (fZ (by rfl) Y.Dz (ac (aT 1) ae)) (aO 8 FV.nd rfl (Or.inl rfl)) (ag (aC 9 FV.nd rfl (Or.inl rfl) (aM (Ba hr (aT 2) (nE (fL (aM (aT 6) (nE (gW af (rW 8)))) (nE af)))) (nE (Ba hr (aT 2) (nE (fL (aM (aT 6) (nE (uB (aT 8) (nE af)))) (nE af)))))))
  (ap (aI (b0 (cJ (AH jA gM (aT 1) (nE af)) (cj (AH (aH (Bw hr)) aG (aT 4) (nE af))))) (ap (eZ (nE (jM 7 abH abG bR cT (pv 7) (ac (gW (aT 3) (nE (aM (aT 8) (nE af)))) ae))))) (ap (eZ (nE (jM 7 abH abG bR cT (pv 7) (ac (aM (aM (gW (aT 3) (rW 5)) (rW 9)) (nE (gW (aT 3) (nE (cb (aT 4) (rW 5)))))) ae)))))))))
  (ap (au (aT 7)))))))))))) tD
theorem QW:ay ["_law_state", "_law_which"] ["_law_state", "_law_which"] (aq Jv):=C9
theorem kX(Y:Ev K mg):GO P w base Y.JT 2 fT :=
 cV (dZ Y.JT.F QW (by decide) (λBi A outer s H E hr=>by
  unfold kf
  exact(ag (aI (AH (aH (Bw hr)) aG (aT 1) (nE af)) (ap (au af)) aB)
  (ag (aI (AH (aH (Bw hr)) aG (aT 1) (nE af)) (ap (au (cb (AG 0 (aE Y) hr (ac af ae)) (nE af)))) aB)
  (ag (aI (AH (aH (Bw hr)) aG (aT 1) (nE af)) (ap (au (cb (AG 0 (aE Y) hr (ac af ae)) (nE af)))) aB)
  (ap (au (Ba hr (C7 (cI (ac (cb (pL af (nE af)) (nE af)) (ac (cb af (nE (pL af (nE af)))) (ac af (ac (AG 0 (aE Y) hr (ac (pL af (nE af)) ae)) ae)))))) (nE (AG 0 (aE Y) hr (ac af ae))))))))))) vI
theorem Jh:ay ["_law_state", "_law_family", "_law_many", "_law_k", "_law_half", "_law_side", "_law_one"] ["_law_state", "_law_family", "_law_many", "_law_k"] (aq Js):=C9
theorem wa(Y:Ev K mg):GO P w base Y.JR 2 lf :=
 cV (dZ Y.JR.F Jh (by decide) (λBi A outer s H E hr=>by
  unfold j8
  exact(ag (aI (AH (aH (Bw hr)) aG (aT 1) (nE af)) (ap (au (aA (ac (fL (aT 3) (rW 2)) (ac (fL (aM (aT 3) (nE af)) (rW 2)) ae))))) aB)
  (ag (aI (AH (aH (Bw hr)) aG (aT 1) (nE af)) (ap (au (aA (ac af (ac (aM af (nE (AG 0 (aE Y) hr (ac (cb (aT 2) (nE af)) ae)))) ae))))) aB)
  (ag (aI (b0 (cJ (AH (aH (Bw hr)) aG (aT 1) (nE af)) (cj (AH lD i9 (aT 2) (nE af))))) (ag (aC 4 Jh.nd rfl (Or.inl rfl) (uB (aT 2) (nE af)))
  (ag (aC 5 Jh.nd rfl (Or.inl rfl) (AG 0 (aE Y) hr (ac af ae)))
  (ag (aC 6 Jh.nd rfl (Or.inl rfl) (AG 0 (aE Y) hr (ac (aT 4) ae)))
  (ap (au (aA (ac (aM (gW (aT 5) (rW 4)) (rW 6)) (ac (aM (gW (aT 5) (rW 4)) (nE (fL (aM (aM (aT 6) (nE af)) (nE (AG 0 (aE Y) hr (ac (cb (aT 4) (nE af)) ae)))) (rW 4)))) ae)))))))) aB)
  (ag (aC 6 Jh.nd rfl (Or.inl rfl) (AG 0 (aE Y) hr (ac (aT 2) ae)))
  (ap (au (aA (ac (aT 6) (ac (fL (aM (aM (aT 6) (nE af)) (nE (AG 0 (aE Y) hr (ac (cb (aT 2) (nE af)) ae)))) (rW 2)) ae))))))))))) vG
theorem EB:ay ["_law_state", "_law_most", "_law_ties_most", "_law_many", "_law_words_here", "_law_pool", "_law_count", "_law_names", "_law_family", "_law_which", "_law_ties", "_law_k", "_law_one", "_law_other", "_law_two"] ["_law_state", "_law_most", "_law_ties_most"] (aq Mn):=C9
theorem ye(Y:Ev K mg):GO P w base Y.M8 3 m8 :=
 cV (dZ Y.M8.F EB (by decide) (λBi A outer s H E hr=>by
  unfold lZ
  exact(ag (aC 3 EB.nd rfl (Or.inl rfl) (AG 0 (aE Y) hr (ac (aM (aT 1) (nE af)) ae)))
  (ag (aC 4 EB.nd rfl (Or.inl rfl) (AG 0 (fY Y) hr (ac (aM (aT 3) (nE af)) ae)))
  (ag (aC 5 EB.nd rfl (Or.inl rfl) (dM (aT 4) cA (bP (nE (aQ (uK rfl) uL (by rfl) Y.Ia PyProof.Rows.boot_max (Di (ac af (ac (aM (aT 3) (nE (AG 0 (aE Y) hr (ac af ae)))) ae))))))))
  (ag (aC 6 EB.nd rfl (Or.inl rfl) (AG 0 (aE Y) hr (ac (aM (aT 2) (nE af)) ae)))
  (ag (aC 7 EB.nd rfl (Or.inl rfl) (AG 0 (fY Y) hr (ac (aT 6) ae)))
  (ag (zP 8 9 rfl EB.nd rfl rfl (by decide) rfl rfl (ac (AG 0 (aE Y) hr (ac af ae)) (ac (AG 0 (aE Y) hr (ac af ae)) ae)) rfl)
  (ag (eY 10 EB.nd rfl (Or.inl rfl) (cI ae))
  (ag (dm abC rfl (fZ (by rfl) Y.Dz (ac (aT 6) ae)) (aO 11 EB.nd rfl (Or.inl rfl)) (ag (gU (AG 0 (wa Y) hr (ac (aT 8) (ac (aQ aU aV (by rfl) Y.BE aaM (bn (rW 5))) (ac (aT 11) ae)))) (fN (n:=2) rfl (aW (aO 12 EB.nd rfl (Or.inl rfl)) (aW (aO 13 EB.nd rfl (Or.inl rfl)) dF)) (bi (bi fJ))))
  (ag (aC 14 EB.nd rfl (Or.inl rfl) (C7 (fK rfl (by rfl) Y.BD (Di (ac (C7 (cI (ac (Ba hr (aT 5) (rW 12)) (ac (Ba hr (aT 5) (rW 13)) ae)))) ae)))))
  (ap (eZ (nE (jM 10 abH abG bR cT (pv 10) (ac (aA (ac (Ba hr (aT 7) (rW 11)) (ac (Ba hr (aT 14) (nE af)) (ac (Ba hr (aT 14) (nE af)) (ac (AG 0 (kX Y) hr (ac (aT 9) ae)) ae))))) ae))))))))
  (ap (au (aA (ac (bZ aX aY (by rfl) Y.A9 aaB (Di (ac (C7 (fK rfl (by rfl) Y.BD (Di (ac (dM (aT 4) cA (bP (rW 3))) ae)))) ae))) (ac (bZ aX aY (by rfl) Y.A9 aaB (Di (ac (C7 (wq (by rfl) Y.BD (bn (rW 10)))) ae))) ae))))))))))))))) xC
theorem QV:ay ["_law_state", "_law_some"] ["_law_state", "_law_some"] (aq Rq):=C9
theorem ji(Y:Ev K mg):GO P w base Y.SS 2 fS :=
 cV (dZ Y.SS.F QV (by decide) (λBi A outer s H E hr=>by
  unfold oC
  exact(ap (au (Ba hr (aT 1) (nE (AG 0 (aE Y) hr (ac (aQ aU aV (by rfl) Y.BE aaM (bn (rW 1))) ae)))))))) zc
theorem pA:(["_law_word", "_law_taken"]:List Str).Nodup:=by decide +kernel
theorem QY:ay ["_law_state", "_law_taken"] ["_law_state", "_law_taken"] (aq Hj):=C9
theorem nI(Y:Ev K mg):GO P w base Y.HA 3 f9 :=
 cV (dZ Y.HA.F QY (by decide) (λBi A outer s H E hr=>by
  unfold iJ
  exact(ap (au (Ba hr (C7 (bx (N:=["_law_word", "_law_taken"]) (aP (AG 0 (fY Y) hr (ac af ae))) (λ_ _ _ _ _=>aF (i:=0) pA rfl (Or.inl rfl)) (λ_ _ _ _ _=>cr (AH (bq (B5 hr)) bp (aT 0) (rW 1))) (λ_ _ _ _ _=>(aT 0)))) (nE af)))))) tF
theorem mM:(["_law_word", "_law_pool"]:List Str).Nodup:=by decide +kernel
theorem cv:(["_law_tie"]:List Str).Nodup:=by decide +kernel
theorem Ik:ay ["_law_state", "_law_net_here", "_law_far", "_law_pool", "_law_at_here", "_law_other", "_law_name"] ["_law_state", "_law_net_here", "_law_far"] (aq mi):=C9
theorem qA(Y:Ev K mg):GO P w base Y.Gg 4 gG :=
 cV (dZ Y.Gg.F Ik (by decide) (λBi A outer s H E hr=>by
  unfold gi
  exact(ag (aC 3 Ik.nd rfl (Or.inr rfl) (aM (C7 (uC rA rB (by rfl) Y.HF PyProof.Rows.boot_list (Di (ac (Ba hr (aT 1) (nE af)) ae)))) (rW 2)))
  (ag (aI (b0 (b7 (AH jA gM (aQ aU aV (by rfl) Y.BE aaM (bn (rW 3))) (nE af)) (dn (AH (aH (Bw hr)) aG (AG 0 (aE Y) hr (ac af ae)) (nE af))))) (ap (aC 3 Ik.nd rfl (Or.inr rfl) (aM (aT 3) (nE (dM (C7 (bx (N:=["_law_word", "_law_pool"]) (aP (AG 0 (fY Y) hr (ac af ae))) (λ_ _ _ _ _=>aF (i:=0) mM rfl (Or.inl rfl)) (λ_ _ _ _ _=>cr (AH (bq (B5 hr)) bp (aT 0) (rW 1))) (λ_ _ _ _ _=>(aT 0)))) cA (bP (nE af))))))) aB)
  (ag (aC 4 Ik.nd rfl (Or.inl rfl) (AG 0 (aE Y) hr (ac (aQ aU aV (by rfl) Y.BE aaM (bn (rW 3))) ae)))
  (ag (aC 5 Ik.nd rfl (Or.inl rfl) (Ba hr (aT 3) (nE (fL (aM (aM (aT 4) (nE af)) (nE (AG 0 (aE Y) hr (ac (cb (aQ aU aV (by rfl) Y.BE aaM (bn (rW 3))) (nE af)) ae)))) (nE (aQ aU aV (by rfl) Y.BE aaM (bn (rW 3))))))))
  (ag (aC 6 Ik.nd rfl (Or.inl rfl) (AG 0 (nI Y) hr (ac (C7 (bx (N:=["_law_tie"]) (aP (Ba hr (aT 1) (nE af))) (λ_ _ _ _ _=>aF (i:=0) cv rfl (Or.inl rfl)) (λ_ _ _ _ _=>bM) (λ_ _ _ _ _=>(Ba hr (aT 0) (nE af))))) ae)))
  (ap (au (aA (ac ba (ac (aT 6) (ac (Ba hr (aT 3) (rW 4)) (ac (aT 5) (ac (AG 0 (kX Y) hr (ac (AG 0 (aE Y) hr (ac af ae)) ae)) ae))))))))))))))) qp
theorem qr:(["_law_place", "_law_net_here"]:List Str).Nodup:=by decide +kernel
theorem Jg:ay ["_law_state", "_law_net_here", "_law_names", "_law_ends_here", "_law_far", "_law_which"] ["_law_state", "_law_net_here"] (aq Ju):=C9
theorem wb(Y:Ev K mg):GO P w base Y.JS 5 lg :=
 cV (dZ Y.JS.F Jg (by decide) (λBi A outer s H E hr=>by
  unfold j9
  exact(ag (uq 2 (N:=["_law_tie"]) Jg.nd rfl rfl (aP (Ba hr (aT 1) (nE af))) (λ_ _ _ _ _=>aF (i:=0) cv rfl (Or.inl rfl)) (λ_ _ _ _ _=>bM) (λ_ _ _ _ _=>(Ba hr (aT 0) (nE af))))
  (ag (aC 3 Jg.nd rfl (Or.inl rfl) (C7 (sn rfl (by rfl) Y.BD (by rfl) Y.JX (Di (ac (aM (C7 (bx (N:=["_law_tie"]) (aP (Ba hr (aT 1) (nE af))) (λ_ _ _ _ _=>aF (i:=0) cv rfl (Or.inl rfl)) (λ_ _ _ _ _=>bM) (λ_ _ _ _ _=>(Ba hr (aT 0) (nE af))))) (nE (C7 (bx (N:=["_law_tie"]) (aP (Ba hr (aT 1) (nE af))) (λ_ _ _ _ _=>aF (i:=0) cv rfl (Or.inl rfl)) (λ_ _ _ _ _=>bM) (λ_ _ _ _ _=>(Ba hr (aT 0) (nE af))))))) ae)))))
  (ag (uq 4 (N:=["_law_place", "_law_net_here"]) Jg.nd rfl rfl (aP (aT 3)) (λ_ _ _ _ _=>aF (i:=0) qr rfl (Or.inl rfl)) (λ_ _ _ _ _=>cr (AH (bq (B5 hr)) bp (aT 0) (nE (Ba hr (aT 1) (nE af))))) (λ_ _ _ _ _=>(aT 0)))
  (ag (aC 5 Jg.nd rfl (Or.inl rfl) (AG 0 (aE Y) hr (ac af ae)))
  (ag (aI (b0 (cJ (AH (aH (Bw hr)) aG (aT 5) (nE af)) (cj (AH jA gM (aQ aU aV (by rfl) Y.BE aaM (Di (ac (Ba hr (aT 1) (nE af)) ae))) (nE af))))) (ag (aI (b0 (cJ (AH (dJ (Ci hr)) cF (aT 4) (nE (C7 (cI ae)))) (cj (AH lD i9 (AG 0 (aE Y) hr (ac af ae)) (nE af))))) (ap (au (aA (ac ba (ac (AG 0 (ji Y) hr (ac (aT 4) ae)) ae))))) aB)
  (ap (au (aA (ac ba (ac (AG 0 (nI Y) hr (ac (Ba hr (aT 1) (nE af)) ae)) ae)))))) aB)
  (ag (aI (b0 (cJ (AH (aH (Bw hr)) aG (aT 5) (nE af)) (cj (AH (lB (Bw hr)) jC (Ba hr (aT 1) (nE af)) (nE (aA ae)))))) (ap (au (aA (ac ba (ac (AG 0 (ji Y) hr (ac (Ba hr (aT 1) (nE af)) ae)) ae))))) aB)
  (ag (aI (b0 (cJ (AH (aH (Bw hr)) aG (aT 5) (nE af)) (cj (AH (dJ (Ci hr)) cF (aT 2) (nE (C7 (cI ae))))))) (ap (au (aA (ac ba (ac (AG 0 (ji Y) hr (ac (aT 2) ae)) ae))))) aB)
  (ag (aI (b0 (cJ (AH (bK (B5 hr)) bJ (aT 5) (nE (aA (ac af (ac af ae))))) (cj (AH (dJ (Ci hr)) cF (aT 2) (nE (C7 (cI ae))))))) (ap (au (aA (ac ba (ac (AG 0 (ji Y) hr (ac (aT 2) ae)) (ac (AG 0 (kX Y) hr (ac (AG 0 (aE Y) hr (ac af ae)) ae)) ae)))))) aB)
  (ag (aI (AH jA gM (aQ aU aV (by rfl) Y.BE aaM (bn (rW 2))) (nE af)) (ap (au (AG 0 (qA Y) hr (ac (aT 1) (ac (aT 4) ae))))) aB)
  (ap (au (aA (ac ba (ac (AG 0 (ji Y) hr (ac (aT 2) ae)) ae)))))))))))))))) vH
theorem tN:(["_law_tie", "_law_names", "_law_place"]:List Str).Nodup:=by decide +kernel
theorem QU:ay ["_law_net_here", "_law_names", "_law_place"] ["_law_net_here", "_law_names", "_law_place"] (aq Rt):=C9
theorem jj(Y:Ev K mg):GQ P w base Y.SU 1 du :=
 aR (bc Y.SU.F QU (by decide) (λBi A outer s H E hr=>by
  unfold oD
  exact(ap (au (bZ aX aY (by rfl) Y.A9 aaB (Di (ac (C7 (bx (N:=["_law_tie", "_law_names", "_law_place"]) (aP (Ba hr (aT 0) (nE af))) (λ_ _ _ _ _=>aF (i:=0) tN rfl (Or.inl rfl)) (λ_ _ _ _ _=>cr (b0 (cJ (AH (bK (B5 hr)) bJ (Ba hr (aT 0) (nE af)) (rW 1)) (cj (AH (bK (B5 hr)) bJ (aT 2) (nE (dM (aT 0) (bP (nE af)) (bP (nE af))))))))) (λ_ _ _ _ _=>(Ba hr (aT 0) (nE af))))) ae))))))) zd
theorem sd:(["_law_tie", "_law_name"]:List Str).Nodup:=by decide +kernel
theorem LO:ay ["_law_net_here", "_law_later", "_law_deed_here", "_law_gone", "_law_come", "_law_name", "_law_former"] ["_law_net_here", "_law_later", "_law_deed_here", "_law_gone", "_law_come"] (aq Mm):=C9
theorem yd(Y:Ev K mg):GQ P w base Y.M7 2 m7 :=
 aR (bc Y.M7.F LO (by decide) (λBi A outer s H E hr=>by
  unfold lY
  exact(ag (aC 5 LO.nd rfl (Or.inr rfl) (Ba hr (aT 2) (nE af)))
  (ag (aI (AH (aH (Bw hr)) aG (Ba hr (aT 2) (nE af)) (nE ba)) (ap (au (ce (B6 (aH (Bw hr)) aG (aT 4) (nE (A6 (jj Y) hr (ac (aT 1) (ac (aT 4) (ac (aT 5) ae)))))) (cH (B6 (aH (Bw hr)) aG (A6 (jj Y) hr (ac (aT 0) (ac (aT 3) (ac (aT 5) ae)))) (nE (aA ae))))))) aB)
  (ag (aI (AH (aH (Bw hr)) aG (Ba hr (aT 2) (nE af)) (nE ba)) (ap (au (ce (B6 (aH (Bw hr)) aG (A6 (jj Y) hr (ac (aT 0) (ac (aT 3) (ac (aT 5) ae)))) (rW 3)) (cH (B6 (aH (Bw hr)) aG (A6 (jj Y) hr (ac (aT 1) (ac (aT 4) (ac (aT 5) ae)))) (nE (aA ae))))))) aB)
  (ag (aI (b0 (b7 (AH lD i9 (aQ aU aV (by rfl) Y.BE aaM (bn (rW 3))) (nE af)) (b7 (AH lD i9 (aQ aU aV (by rfl) Y.BE aaM (bn (rW 4))) (nE af)) (dn (b0 (cJ (AH (aH (Bw hr)) aG (aT 3) (rW 4)) (cj (AH (lB (Bw hr)) jC (aT 3) (nE (aA ae)))))))))) (ap (au cz)) aB)
  (ag (aI (AH (aH (Bw hr)) aG (Ba hr (aT 2) (nE af)) (nE ba)) (ap (au (ce (B6 (bK (B5 hr)) bJ (aT 3) (nE (aA (ac (aA ae) (ac (aA (ac (aT 5) ae)) ae))))) (cH (B6 (bq (B5 hr)) bp (aT 5) (rW 4)))))) aB)
  (ag (aI (AH (aH (Bw hr)) aG (Ba hr (aT 2) (nE af)) (nE ba)) (ap (au (B6 (bK (B5 hr)) bJ (aT 4) (nE (aA (ac (aA ae) (ac (aA (ac (aT 5) ae)) ae))))))) aB)
  (ag (aC 6 LO.nd rfl (Or.inl rfl) (Ba hr (C7 (bx (N:=["_law_tie", "_law_name"]) (aP (Ba hr (aT 0) (nE af))) (λ_ _ _ _ _=>aF (i:=0) sd rfl (Or.inl rfl)) (λ_ _ _ _ _=>cr (AH (aH (Bw hr)) aG (Ba hr (aT 0) (nE af)) (rW 1))) (λ_ _ _ _ _=>(Ba hr (aT 0) (nE af))))) (nE af)))
  (ag (aI (AH lD i9 (Ba hr (aT 2) (nE af)) (rW 6)) (ap (au (ce (B6 (bK (B5 hr)) bJ (aT 3) (nE (aA (ac (aA ae) (ac (aA (ac (aT 5) ae)) ae))))) (ce (B6 (bq (B5 hr)) bp (aT 5) (rW 4)) (cH (B6 (aH (Bw hr)) aG (B6 (aH (Bw hr)) aG (aT 3) (nE (aA ae))) (nE (B6 (aH (Bw hr)) aG (aT 4) (nE (aA ae)))))))))) aB)
  (ap (au (ce (B6 (bK (B5 hr)) bJ (aT 4) (nE (aA (ac (aA ae) (ac (aA (ac (aT 5) ae)) ae))))) (ce (B6 (bq (B5 hr)) bp (aT 5) (rW 3)) (cH (B6 (aH (Bw hr)) aG (B6 (aH (Bw hr)) aG (aT 3) (nE (aA ae))) (nE (B6 (aH (Bw hr)) aG (aT 4) (nE (aA ae)))))))))))))))))))) xB
theorem jb:(["_law_name", "_law_former"]:List Str).Nodup:=by decide +kernel
theorem pz:(["_law_name", "_law_gone"]:List Str).Nodup:=by decide +kernel
theorem G8:ay ["_law_net_here", "_law_deed_here", "_law_later", "_law_gone", "_law_come", "_law_former", "_law_tree", "_law_more", "#t"] ["_law_net_here", "_law_deed_here"] (aq Hh):=C9
theorem ue(Y:Ev K mg)(hB:BMain mg base):GT P w base Y.Hx 7 (jp Y.AQ) :=
 gR (gQ (nm := "#t") Y.Hx.F G8 rfl (by decide) rfl (by unfold G5;decide +kernel) (λBi GK A outer s H E hr=>by
  unfold iH
  exact(ag (aC 2 G8.nd rfl (Or.inl rfl) (A6 (gz Y) hr (ac (aT 0) (ac (aT 1) ae))))
  (ag (gU (C5 8 (jh Y hB) hr (ac (aT 0) (ac (aT 1) ae))) (fN (n:=2) rfl (aW (aO 3 G8.nd rfl (Or.inr rfl)) (aW (aO 4 G8.nd rfl (Or.inl rfl)) dF)) (bi (bi fJ))))
  (ag (gU (aA (ac (C5 8 (di Y hB) hr (ac (aT 0) ae)) (ac (C5 8 (di Y hB) hr (ac (aT 2) ae)) ae))) (fN (n:=2) rfl (aW (aO 5 G8.nd rfl (Or.inr rfl)) (aW (aO 6 G8.nd rfl (Or.inl rfl)) dF)) (bi (bi fJ))))
  (ag (aI (b0 (b7 (bw (be (nE (aQ (ir rfl) lU (by rfl) Y.GW ac7 (Di (ac (C7 (bx (N:=["_law_name", "_law_former"]) (aP (aT 3)) (λ_ _ _ _ _=>aF (i:=0) jb rfl (Or.inl rfl)) (λ_ _ _ _ _=>bM) (λ_ _ _ _ _=>(B6 (bK (B5 hr)) bJ (aT 0) (rW 1))))) ae)))))) (dn (be (nE (aQ (wG rfl) Ad (by rfl) Y.LF PyProof.Rows.boot_any (Di (ac (C7 (bx (N:=["_law_name", "_law_former"]) (aP (aT 4)) (λ_ _ _ _ _=>aF (i:=0) jb rfl (Or.inl rfl)) (λ_ _ _ _ _=>bM) (λ_ _ _ _ _=>(B6 (bK (B5 hr)) bJ (aT 0) (rW 1))))) ae)))))))) (ap (au cz)) aB)
  (ag (aI (AH (lB (Bw hr)) jC (bZ aX aY (by rfl) Y.A9 aaB (Di (ac (C7 (fK rfl (by rfl) Y.BD (Di (ac (aM (C7 (bx (N:=["_law_name", "_law_gone"]) (aP (aT 5)) (λ_ _ _ _ _=>aF (i:=0) pz rfl (Or.inl rfl)) (λ_ _ _ _ _=>cr (AH (bq (B5 hr)) bp (aT 0) (rW 1))) (λ_ _ _ _ _=>(aT 0)))) (nE (C7 (uC rA rB (by rfl) Y.HF PyProof.Rows.boot_list (bn (rW 4)))))) ae)))) ae))) (rW 6)) (ap (au cz)) aB)
  (ag (aI (b0 (cJ (AH (aH (Bw hr)) aG (Ba hr (aT 1) (nE af)) (nE ba)) (cj (AH (lB (Bw hr)) jC (aT 3) (nE (A6 (jj Y) hr (ac (aT 0) (ac (aT 5) (ac (Ba hr (aT 1) (nE af)) ae))))))))) (ap (au cz)) aB)
  (ag (aC 7 G8.nd rfl (Or.inl rfl) (cb (aM (cb (aQ aU aV (by rfl) Y.BE aaM (Di (ac (Ba hr (aT 2) (nE af)) ae))) (nE (aQ aU aV (by rfl) Y.BE aaM (Di (ac (Ba hr (aT 0) (nE af)) ae))))) (nE (aQ aU aV (by rfl) Y.BE aaM (Di (ac (A6 (lN Y) hr (ac (aT 0) ae)) ae))))) (nE (aQ aU aV (by rfl) Y.BE aaM (Di (ac (A6 (lN Y) hr (ac (aT 2) ae)) ae))))))
  (ag (aI (b0 (b7 (AH (dJ (Ci hr)) cF (cb (aQ aU aV (by rfl) Y.BE aaM (bn (rW 4))) (nE (aQ aU aV (by rfl) Y.BE aaM (bn (rW 3))))) (rW 7)) (dn (bw (be (nE (A6 (yd Y) hr (ac (aT 0) (ac (aT 2) (ac (aT 1) (ac (aT 3) (ac (aT 4) ae)))))))))))) (ap (au cz)) aB)
  (ap (au (B6 An ze (C5 8 (jf Y hB) hr (ac (aT 0) (ac (aT 1) (ac (aA (ac (aT 3) (ac (aT 4) ae))) ae)))) (nE cz)))))))))))))) (tE _)
theorem G7:ay ["_law_script", "_law_state", "_law_turn", "_law_net_here", "_law_step", "_law_deed_here", "#t"] ["_law_script"] (aq Mo):=C9
theorem xm(Y:Ev K mg)(hB:BMain mg base):A8 P w K mg base Cz 8 Y.Hz.f Y.Hz.fd ["_law_script"] (spT ⟨P,w,K,Ex K⟩ 1 (DV 6 (jq Y.AQ))) :=
 gQ (nm := "#t") Y.Hz.F G7 rfl (by decide) rfl (by unfold G5;decide +kernel) (λBi GK A outer s H E hr=>by
  unfold jq
  exact(ag (ux 1 0 G7.nd rfl (Or.inl rfl) (uf Y) (hr.mono (by decide)) Y.DQ.n.mg Y.DQ.n.kp Y.DQ.b (pv 0))
  (ag (dm abC rfl (fZ (by rfl) Y.Dz (ac (aM af (nE (aQ aU aV (by rfl) Y.BE aaM (Di (ac (dM (aT 0) cA (bP (nE af))) ae))))) ae)) (aO 2 G7.nd rfl (Or.inl rfl)) (ag (aC 3 G7.nd rfl (Or.inl rfl) (AG 1 (ye Y) hr (ac af (ac af ae))))
  (ap (dm abC rfl (fZ (by rfl) Y.Dz (ac (AG 1 (aE Y) hr (ac af ae)) ae)) (aO 4 G7.nd rfl (Or.inl rfl)) (ag (aC 5 G7.nd rfl (Or.inl rfl) (AG 1 (wb Y) hr (ac (aT 3) ae)))
  (ag (aI (bw (be (nE (C5 6 (ue Y hB) hr (ac (aT 3) (ac (aT 5) ae)))))) (ap (au cz)) aB)
  (ap (aC 3 G7.nd rfl (Or.inl rfl) (A6 (gz Y) hr (ac (aT 3) (ac (aT 5) ae)))))))))))
  (ap (au cz)))))
theorem zk(Y:Ev K mg)(hB:BMain mg base):A8 P w K mg base Cz 8 Y.Hz.f Y.Hz.fd ["_law_script"] (EX K Y.AQ):=x6 (xm Y hB) (xD _)
end Pre
namespace Pre
open PySem L2
variable{fd:abW}{ps:List Str}
theorem UO(us:List Value)(h:us.length=1)(k:∀a0,acN fd ⟨[a0],[]⟩=pure (ps.zip [a0])):acN fd ⟨us,[]⟩=pure (ps.zip us):=by obtain⟨a0,u0,rfl⟩:=aaq (h);obtain rfl:=List.length_eq_zero_iff.mp (aaD (h));exact k a0
theorem Xj(us:List Value)(h:us.length=2)(k:∀a0 a1,acN fd ⟨[a0,a1],[]⟩=pure (ps.zip [a0,a1])):acN fd ⟨us,[]⟩=pure (ps.zip us):=by obtain⟨a0,u0,rfl⟩:=aaq (h);obtain⟨a1,u1,rfl⟩:=aaq (aaD (h));obtain rfl:=List.length_eq_zero_iff.mp (aaD (aaD (h)));exact k a0 a1
theorem Xi(us:List Value)(h:us.length=3)(k:∀a0 a1 a2,acN fd ⟨[a0,a1,a2],[]⟩=pure (ps.zip [a0,a1,a2])):acN fd ⟨us,[]⟩=pure (ps.zip us):=by obtain⟨a0,u0,rfl⟩:=aaq (h);obtain⟨a1,u1,rfl⟩:=aaq (aaD (h));obtain⟨a2,u2,rfl⟩:=aaq (aaD (aaD (h)));obtain rfl:=List.length_eq_zero_iff.mp (aaD (aaD (aaD (h))));exact k a0 a1 a2
theorem Xh(us:List Value)(h:us.length=4)(k:∀a0 a1 a2 a3,acN fd ⟨[a0,a1,a2,a3],[]⟩=pure (ps.zip [a0,a1,a2,a3])):acN fd ⟨us,[]⟩=pure (ps.zip us):=by obtain⟨a0,u0,rfl⟩:=aaq (h);obtain⟨a1,u1,rfl⟩:=aaq (aaD (h));obtain⟨a2,u2,rfl⟩:=aaq (aaD (aaD (h)));obtain⟨a3,u3,rfl⟩:=aaq (aaD (aaD (aaD (h))));obtain rfl:=List.length_eq_zero_iff.mp (aaD (aaD (aaD (aaD (h)))));exact k a0 a1 a2 a3
theorem Xg(us:List Value)(h:us.length=5)(k:∀a0 a1 a2 a3 a4,acN fd ⟨[a0,a1,a2,a3,a4],[]⟩=pure (ps.zip [a0,a1,a2,a3,a4])):acN fd ⟨us,[]⟩=pure (ps.zip us):=by obtain⟨a0,u0,rfl⟩:=aaq (h);obtain⟨a1,u1,rfl⟩:=aaq (aaD (h));obtain⟨a2,u2,rfl⟩:=aaq (aaD (aaD (h)));obtain⟨a3,u3,rfl⟩:=aaq (aaD (aaD (aaD (h))));obtain⟨a4,u4,rfl⟩:=aaq (aaD (aaD (aaD (aaD (h)))));obtain rfl:=List.length_eq_zero_iff.mp (aaD (aaD (aaD (aaD (aaD (h))))));exact k a0 a1 a2 a3 a4
structure Bp(K:aah)(x:Str)(st:Stmt) where
 {f:Addr}
 {od an:Option Addr}
 {sl:Array (Option Value)}
 {oc kV dc pm cd ct:Value}
 a:abi K aaK x=some (some (.ref f))
 l:K.lookup f=some ⟨oc,od,.func (acP x x (e9 st) (bI st) (aq st) .none kV dc pm an cd ct),sl⟩
 c:aer K cd x=true
 k:abQ K (.ref f)=true
variable{K:aah}{h:Heap}{mg:Str->Option Value}{x:Str}{st:Stmt}
def Bo(X:K.In h)(G:h.Ns aaK mg)(d:Bp K x st)
  (hb:∀(kV doc pm:Value) (an:Option Addr) (Bi ct:Value) (us:List Value),us.length=ps.length->acN (acP x x (e9 st) (bI st) (aq st) .none kV doc pm an Bi ct) ⟨us,[]⟩=pure (ps.zip us):=by (intro _ _ _ _ _ _ us hl;first|exact UO us hl λ_=>rfl|exact Xj us hl λ_ _=>rfl|exact Xi us hl λ_ _ _=>rfl|exact Xh us hl λ_ _ _ _=>rfl|exact Xg us hl λ_ _ _ _ _=>rfl)):Df K mg x st ps :=
 ⟨d.f,_,ug d.l d.c d.k,(ug d.l d.c d.k).binds hb,aeF X G d.a,d.k⟩
structure PM(K:aah)(x:Str)(D:List (Str×Addr)) where
 {a:Addr}
 {es:Array DictEntry}
 {ep:Nat}
 n:abi K aaK x=some (some (.ref a))
 l:K.lookup a=some ⟨.type "dict",none,.dict es ep,#[]⟩
 ne:(a==acp)=false
 r:PyProof.Rows.KTD.Rows (λ(f:Addr) v=>v=aaL f) es.toList D
def RJ(X:K.In h)(G:h.Ns aaK mg){D:List (Str×Addr)}(d:PM K x D):TabAt K mg x D :=
 ⟨d.a,aeF X G d.n,λ_ X'=>⟨d.ne,_,d.es,d.ep,X' _ _ d.l,⟨rfl,rfl,rfl⟩,rfl,d.r⟩⟩
theorem Ah{l:afx}{w:World}{fa c T:Addr}{U3:Tok}(X:K.In h)(G:h.Ns aaK mg)(We:mg "law" = some (.ref fa))
  (d1:Bp K "is_word" mj) (d2:Bp K "is_whole" ky) (d3:Bp K "is_rising" iR) (d4:Bp K "are_words" iV) (d5:Bp K "is_open" ml) (d6:Bp K "ties_by_name" gp) (d7:Bp K "open_ties" iQ) (d8:Bp K "ranks" Hi) (d9:Bp K "cheaper_first" eG) (Xd:Bp K "without_round" eF) (Xc:Bp K "cheapest" iU) (Xb:Bp K "are_ends_and_cost" cZ) (Xa:Bp K "is_deed" mo) (UL:Bp K "place_comes" gq) (UK:Bp K "place_leaves" fx) (UJ:Bp K "tie_comes" iP) (UI:Bp K "tie_goes" ku) (UH:Bp K "tie_costs" iO) (W9:Bp K "changed" kA) (W8:Bp K "between" kC) (W7:Bp K "exchange" iT) (W6:Bp K "shows_exchange" dz) (W5:Bp K "neighbours" gu) (W4:Bp K "came_by" mt) (W3:Bp K "reached" kw) (W2:Bp K "pieces" mh) (W1:Bp K "_law_begin" CM) (W0:Bp K "_law_next" HN) (WZ:Bp K "_law_words" Hg) (WY:Bp K "_law_cost" Jv) (WX:Bp K "_law_ends" Js) (WW:Bp K "_law_net" Mn) (WV:Bp K "_law_of" Rq) (WU:Bp K "_law_fresh" Hj) (WR:Bp K "_law_new_tie" mi) (WQ:Bp K "_law_deed" Ju) (WN:Bp K "_law_at" Rt) (WM:Bp K "_law_own" Mm) (WL:Bp K "_law_right" Hh) (QI:Bp K "law" Mo) (t1:PM K "DEEDS" [("place",UL.f),("leave",UK.f),("tie",UJ.f),("untie",UI.f),("cost",UH.f)]) (hcd:d9.cd=.ref c) (hC:abT K c T=true)
  (z1:abi K aaK "ValueError" = some none) (z2:abi K aaK "abs" = some none) (z3:abi K aaK "all" = some none) (z4:abi K aaK "any" = some none) (z5:abi K aaK "bool" = some none) (z6:abi K aaK "int" = some none) (z7:abi K aaK "isinstance" = some none) (z8:abi K aaK "len" = some none) (z9:abi K aaK "list" = some none) (z10:abi K aaK "max" = some none) (z11:abi K aaK "min" = some none) (z12:abi K aaK "range" = some none) (z13:abi K aaK "set" = some none) (z14:abi K aaK "sorted" = some none) (z15:abi K aaK "str" = some none) (z16:abi K aaK "tuple" = some none) (z17:abi K aaK "zip" = some none) (q1:abi K aaK "LONGEST_WORD" = some (some (.int 8 U3))) :
  ∃fd:abW,(∀(s:Shared) (v:Value),BindsTo s fd ⟨[v],[]⟩ [("_law_script",v)])/\(∃c,abT K c T=true)/\∀base:Heap,K.In base->base.Ns aaK mg->BMain mg base->A8 l.prog w K mg base Cz 8 fa fd ["_law_script"] (Q.EX K T):=by
 obtain⟨V,_,v,vT⟩:∃V:Ev K mg,∃hb,V.Hz=Bo X G QI hb/\V.AQ=T:=⟨{Gh:=Bo X G d1,Fh:=Bo X G d2,Eg:=Bo X G d3,Ej:=Bo X G d4,Gi:=Bo X G d5,Dv:=Bo X G d6,Ef:=Bo X G d7,Hy:=Bo X G d8,Cb:=Bo X G d9,CN:=Bo X G Xd,Ei:=Bo X G Xc,Cf:=Bo X G Xb,Gj:=Bo X G Xa,BK:=Bo X G UL,By:=Bo X G UK,Ca:=Bo X G UJ,Ct:=Bo X G UI,B9:=Bo X G UH,Fi:=Bo X G W9,Fj:=Bo X G W8,Eh:=Bo X G W7,Cu:=Bo X G W6,Dw:=Bo X G W5,Gk:=Bo X G W4,Fg:=Bo X G W3,Gf:=Bo X G W2,DQ:=Bo X G W1,HY:=Bo X G W0,Hw:=Bo X G WZ,JT:=Bo X G WY,JR:=Bo X G WX,M8:=Bo X G WW,SS:=Bo X G WV,HA:=Bo X G WU,Gg:=Bo X G WR,JS:=Bo X G WQ,SU:=Bo X G WN,M7:=Bo X G WM,Hx:=Bo X G WL,Hz:=Bo X G QI,Gn:=aaQ X G z1,LG:=aaQ X G z2,GW:=aaQ X G z3,LF:=aaQ X G z4,JY:=aaQ X G z5,LD:=aaQ X G z6,BA:=aaQ X G z7,BE:=aaQ X G z8,HF:=aaQ X G z9,Ia:=aaQ X G z10,LC:=aaQ X G z11,Dz:=aaQ X G z12,JX:=aaQ X G z13,BD:=aaQ X G z14,LB:=aaQ X G z15,A9:=aaQ X G z16,LA:=aaQ X G z17,Dx:=⟨_,aeF X G q1⟩,FY:=RJ X G t1,AQ:=T,Dc:=⟨c,hcd,hC⟩},λ_ _ _ _ _ _ us hl=>UO us hl λ_=>rfl,rfl,rfl⟩
 have g:=λbase hB=>zk (P:=l.prog) (w:=w) (base:=base) V hB
 rw[v,vT]at g
 have e:=We.symm.trans (aeF X G QI.a)
 obtain rfl:fa=QI.f:=by injection e with e;injection e
 exact⟨_,λs v=>.of_eq rfl,⟨c,hC⟩,λbase _ _=>g base⟩
theorem walk{l:afx}{q:aaJ}{loose:List Str}{XP:(Str->Option Value)->Heap->Prop}{YP:World->Heap->Prop}{d:DefRec}{K:Params->aah}{T:Addr}(hn:l.most=some 63)(Pe:d.params.defaults=[])
  (hY:∀(w:World) (h:Heap),YP w h->(K w.params).In h/\h.get? T=some (adw #[])) (hKT:∀w:World,(K w.params).lookup T=none)
  (F:∀(w:World) (mg:Str->Option Value) (fa:Addr) (h:Heap),(K w.params).In h->h.Ns aaK mg->mg d.name=some (.ref fa) ->
   ∃fd:abW,(∀(s:Shared) (u:Value),BindsTo s fd ⟨[u],[]⟩ [("_law_script",u)])/\(∃c,abT (K w.params) c T=true)/\∀base:Heap,(K w.params).In base->base.Ns aaK mg->BMain mg base->A8 l.prog w (K w.params) mg base Cz 8 fa fd ["_law_script"] (Q.EX (K w.params) T)) :
  PySem.W.WalkO q loose XP YP l.row.toRowW d [] (λf vs=>PySem.call f vs) :=
 L2.uX (n:=63) (k:=8) (x := "_law_script") (sp:=λw=>Q.EX (K w.params) T) hn (by decide) Pe ⟨rfl,by decide,by decide,rfl⟩ hY hKT F λw H a ns hl hS hT=>⟨a,ns,rfl,hS,hl,hT,λH' ps e=>⟨rfl,ps,e⟩⟩
end Pre
open PySem PySem.W PyProof.Rows
set_option maxRecDepth 100000 in
set_option maxHeartbeats 0 in
theorem PySem.Challenge.cw_cheaptree_k36_whole_exchanges_are_small_holds : PySem.Challenge.rw_cheaptree_k36_whole_exchanges_are_small.Holds := by
 w_on; o_law; km_head; (case hw=>w_witness2)
 k_fill
 refine Pre.walk (l:=PySem.Challenge.rw_cheaptree_k36_whole_exchanges_are_small) rfl rfl (fun w h Y=>⟨PySem.W.km_in_of Y,PySem.W.km_tabs_of Y _ List.mem_cons_self⟩) ?hKT ?F
 case F =>
  intro w mg fa h KX G hmg
  refine' Pre.Ah KX G hmg ⟨?a1,?l1,?c1,?k1⟩ ⟨?a2,?l2,?c2,?k2⟩ ⟨?a3,?l3,?c3,?k3⟩ ⟨?a4,?l4,?c4,?k4⟩ ⟨?a5,?l5,?c5,?k5⟩ ⟨?a6,?l6,?c6,?k6⟩ ⟨?a7,?l7,?c7,?k7⟩ ⟨?a8,?l8,?c8,?k8⟩ ⟨?a9,?l9,?c9,?k9⟩ ⟨?a10,?l10,?c10,?k10⟩ ⟨?a11,?l11,?c11,?k11⟩ ⟨?a12,?l12,?c12,?k12⟩ ⟨?a13,?l13,?c13,?k13⟩ ⟨?a14,?l14,?c14,?k14⟩ ⟨?a15,?l15,?c15,?k15⟩ ⟨?a16,?l16,?c16,?k16⟩ ⟨?a17,?l17,?c17,?k17⟩ ⟨?a18,?l18,?c18,?k18⟩ ⟨?a19,?l19,?c19,?k19⟩ ⟨?a20,?l20,?c20,?k20⟩ ⟨?a21,?l21,?c21,?k21⟩ ⟨?a22,?l22,?c22,?k22⟩ ⟨?a23,?l23,?c23,?k23⟩ ⟨?a24,?l24,?c24,?k24⟩ ⟨?a25,?l25,?c25,?k25⟩ ⟨?a26,?l26,?c26,?k26⟩ ⟨?a27,?l27,?c27,?k27⟩ ⟨?a28,?l28,?c28,?k28⟩ ⟨?a29,?l29,?c29,?k29⟩ ⟨?a30,?l30,?c30,?k30⟩ ⟨?a31,?l31,?c31,?k31⟩ ⟨?a32,?l32,?c32,?k32⟩ ⟨?a33,?l33,?c33,?k33⟩ ⟨?a34,?l34,?c34,?k34⟩ ⟨?a35,?l35,?c35,?k35⟩ ⟨?a36,?l36,?c36,?k36⟩ ⟨?a37,?l37,?c37,?k37⟩ ⟨?a38,?l38,?c38,?k38⟩ ⟨?a39,?l39,?c39,?k39⟩ ⟨?a40,?l40,?c40,?k40⟩ ⟨?tn1,?tl1,?te1,?tr1⟩ ?hcd ?hC2 ?z1 ?z2 ?z3 ?z4 ?z5 ?z6 ?z7 ?z8 ?z9 ?z10 ?z11 ?z12 ?z13 ?z14 ?z15 ?z16 ?z17 ?q1
  case a1 | l1 | c1 | k1 | a2 | l2 | c2 | k2 | a3 | l3 | c3 | k3 | a4 | l4 | c4 | k4 | a5 | l5 | c5 | k5 | a6 | l6 | c6 | k6 | a7 | l7 | c7 | k7 | a8 | l8 | c8 | k8 | a9 | l9 | c9 | k9 | a10 | l10 | c10 | k10 | a11 | l11 | c11 | k11 | a12 | l12 | c12 | k12 | a13 | l13 | c13 | k13 | a14 | l14 | c14 | k14 | a15 | l15 | c15 | k15 | a16 | l16 | c16 | k16 | a17 | l17 | c17 | k17 | a18 | l18 | c18 | k18 | a19 | l19 | c19 | k19 | a20 | l20 | c20 | k20 | a21 | l21 | c21 | k21 | a22 | l22 | c22 | k22 | a23 | l23 | c23 | k23 | a24 | l24 | c24 | k24 | a25 | l25 | c25 | k25 | a26 | l26 | c26 | k26 | a27 | l27 | c27 | k27 | a28 | l28 | c28 | k28 | a29 | l29 | c29 | k29 | a30 | l30 | c30 | k30 | a31 | l31 | c31 | k31 | a32 | l32 | c32 | k32 | a33 | l33 | c33 | k33 | a34 | l34 | c34 | k34 | a35 | l35 | c35 | k35 | a36 | l36 | c36 | k36 | a37 | l37 | c37 | k37 | a38 | l38 | c38 | k38 | a39 | l39 | c39 | k39 | a40 | l40 | c40 | k40 | z1 | z2 | z3 | z4 | z5 | z6 | z7 | z8 | z9 | z10 | z11 | z12 | z13 | z14 | z15 | z16 | z17 | q1=>k_is
  (case tn1=>k_is); (case tl1=>k_is); (case te1=>rfl); (case tr1=>repeat (first | exact .nil | refine .cons rfl rfl ?_))
  (case hcd=>exact rfl); (case hC2=>kernel_rfl)
 case hKT=>(intro w; kernel_rfl)
