import PyProof.Rows.All
import Wide.All
import OpenK.AllK
import Wide.FinOn
import Lean
import PyProof.EqAt
import PyProof.EqKinds
import PyProof.TupleCall
import KE.KDictOf
import KE.KDictSum
import KE.KIntText
import KE.KLam
import KE.KMinBuiltin
import KE.KNestM
import KE.KPairComp
import KE.KSortKey
import KE.KSortTup
import KE.KTab
import KE.LcSums
import PyProof.AttrMissHeap
import PyProof.Conv_int_bool
import PyProof.DictValues
import PyProof.Draws
import PyProof.EnumFor
import PyProof.EnumMake
import PyProof.EnumStmt
import PyProof.FactsAll.list_1
import PyProof.ListStr
import PyProof.MeetsStr2
import PyProof.NeKinds
import PyProof.ReprLen
import PyProof.ReprRoads
import PyProof.Rows.EnumRows
import PyProof.Rows.SetFrom
import PyProof.Rows.SortRev
import PyProof.Rows.StrBin
import PyProof.Rows.TupAdd
import PyProof.SetRoads
import PyProof.StrBlockG
import PyProof.StrBlockI
import PyProof.StrLawsChain
import PyProof.StrLawsIn
import PyProof.StrLawsRepr
import PyProof.StrLawsTight
import PyProof.StrWalks
import PyProof.WalksMore
import PyProof.ZipIter
import PySem.Challenge.RW_cheaptree_k47_whole_no_way_is_better
set_option compiler.extract_closed false
set_option Elab.async false
set_option linter.all false
set_option maxRecDepth 100000
open PySem renaming wpAny_bind→aaa,wpAny_pure→aah,starEach→aam,compareOp→aaE,sizeLine_eq→aaG,Program→aaH,mainGlobals→aaM,wpAny_mono→aaT,wpAny_holding→aaU,wpAny_seqItems→aa3,foldedSetIterable→aa4,wpAny_call_entry→abj,wpAny_tryCatch→abm,wpAny_truthy_bool→abn,wpAny_field→abv,wpAny_callSpecial?_slot→aby,wpAny_letGo→abK,wpAny_newObj_type→abQ,plainId_quiet→abT,wpAny_pyIter_tuple→abY,FuncData→ab0,wpAny_updateSeq→ab7,mem_of_lookup→ab8,wpAny_loadPart'→ack,swapsWith→acl,bootBuiltins→aco,wpAny_newList→acp,binaryOp→acq,assignEach→acv,wpAny_pyNext_list_item→acy,wpAny_setField_rec→acA,wpAny_passesOwn→acC,wpAny_standAt→acH,wpAny_pyIter_list→acI,sysModules→acJ,behindInMarks→acK,attributeBase→acL,codeAmong→acQ,holding→acS,wpAny_Call_Name_kw→acX,codeAny_builtin→acY,richCompare_meets_room→ac2,bindArgs→ac7,updateSeq→adf,sliceBounds→adg,tupleKind_room_in1→adn,NameKind→ado,getItem→adr,codeAny→ads,boot_len→adt,Builtin→adx,wpAny_rule→ady,seqItems?→adz,wpAny_pyNext_tuple_item→adJ,swapsWithSole→adK,swappedStores→adL,strIterType→adM,richCompare→adN,keywordEach→adO,comprehension→adP,wpAny_pyNext_tuple_end→adU,wpAny_pyNext_list_end→adX,wpAny_execs_nil→adY,letOwnedTupleGo→adZ,Keyword→ad7,call_meets→aeb,wpAny_updateSeq_pair→aec,wpAny_newFunctionEnv→aed,wpAny_onRaise→aeo,wpAny_attempt→aep,wpAny_sequenceKey→aeB,wpAny_assign_Name→aeC,wpAny_Name→aeD,valueAt→aeE,closureFor→aeF,builtinsNs→aeG,wpAny_typeOf→aeT,wpAny_eqBool_str→aeX,noFill_tuple_add→aeY,compPost→ae7,backToKw→ae8,tupleKind→afb,subscripted→afc,callerA→afe,wpAny_newTuple→afr
open List renaming getElem?_eq_getElem→aab,getD_eq_getElem?_getD→aad,length_map→aae,size_toArray→aaf,getElem?_map→aaj,mem_cons_of_mem→aan,getElem?_eq_none→aap,mem_cons_self→aaq,map_cons→aar,map_map→aaw,getElem?_append_left→aax,mem_append_right→aay,exists_cons_of_length_eq_add_one→aaD,replicate→aaF,getElem?_set_ne→aaI,length_append→aaJ,length_filter_le→aaK,length_cons→aaL,nil_append→aaO,mem_append_left→aaQ,getElem?_zip_eq_some→aaR,range→aaV,mem_map_of_mem→aaX,mem_cons→aaZ,not_mem_nil→aa1,map_append→aa2,replicate_succ→aa8,map_congr_left→aa9,length_take→abb,lookup_cons→abl,mapM_cons→abo,mem_of_getElem?→abp,set_eq_of_length_le→abu,zip_cons_cons→abB,length_nil→abE,take_length→abG,getElem_mem→abH,getElem?_toArray→abJ,append_nil→abN,getElem_inj→abP,getElem?_set→abR,filterMap_cons→abS,find?_cons→abX,filter_cons→ab3,getElem?_cons_zero→ab4,flatten_cons→ab6,getElem?_append_right→acb,all_eq_true→acd,length_replicate→acf,filterMap_map→acg,drop_eq_getElem_cons→ach,nodup_append→acm,length→acr,getElem?_range→acs,getElem?_cons_succ→act,getElem_map→acu,take_succ→acx,getElem?_set_self→acz,mem_filter→acE,mem_append→acF,reverse_cons→acM,nodup_iff_pairwise_ne→acN,pairwise_iff_getElem→acR,filter_sublist→acT,take_of_length_le→ac4,drop_eq_nil_of_le→ac5,ext_getElem?→ac6,mem_of_mem_take→adb,of_mem_zip→adi,lookup→adk,map_nil→adp,filter_filter→adq,lt_irrefl→adv,zip_nil_left→adD,take_sublist→adE,length_range→adF,filter_congr→adG,eq_of_mem_replicate→adH,append_assoc→adI,nodup_range→adT,range_succ→ad4,length_zip→ad5,foldl_cons→ad6,getElem_of_mem→ael,getD→aew,filter_append→aex,pairwise_map→aeN,eraseIdxIfInBounds_toArray→aeO,toArray→aeV,take_append_of_le_length→ae1,map_snd_zip→ae2,length_drop→ae3,drop_length→ae4,any_eq_true→ae5,nodup_cons→afl,length_set→afm,forIn_cons→afn,mem_of_find?_eq_some→afu,findIdx?_eq_none_iff→afv,drop_zero→afw
open PySem.Heap renaming get?_push_of_some→aac,get?_push_size→aai,lt_size→aak,size_push→abf,SameBut→ad8,get?_update_ne→aem,get?_push_ne→aeR
open PySem.W renaming Frag→aag,mg_none_of→aa0,codeHdIn→abk,nsIn→abA,kia_one→abD,keepIn→abU,fnOf→acU,tabObj→adu,kitOne→aeg,codeIn→aeh,kas_rev→aej,kas_item→aer,methodObj→aeJ,instObj→afh,OpenLaw→afi,lookIn→aft
open Nat renaming le_refl→aal,ne_of_lt→aav,lt_of_lt_of_le→aaA,zero_le→aaN,lt_succ_self→aa5,lt_or_ge→aa7,lt_succ_of_lt→abe,le_trans→abg,lt_irrefl→abi,zero_add→abx,ne_of_gt→ab5,add_assoc→ade,succ_ne_self→adS,le_of_lt→ad2,add_comm→ad3,pow_le_pow_right→aee,lt_trichotomy→aeM,le_of_eq→aeU,min_eq_right→aeZ,le_add_right→ae0,min_eq_left→afj,le_succ→afk
open Option.some renaming inj→aao,injEq→aeK
open Sum renaming inr→aas,inl→aff
open Option renaming map_eq_some_iff→aat,getD_some→adR,isSome_some→aev,isSome_map→aeL
open PySem.Value renaming ref→aau,none→abh,type→abC,int→ace,notImplemented→ada,str→adh,bool→adA
open PySem.Str renaming ofString→aaz,length→aeI
open Bool renaming false_ne_true→aaB,and_eq_true→aaC,eq_iff_iff→aaS,false_eq_true→ab2,or_eq_true→acG,not_false→ac8,true_and→aez,not_true→aeA
open PySem.Heap.SameBut renaming update→aaP
open PySem.F renaming plain_max_loop→aaW,type_list_append→abr,slot_list_append→abt,plain_min_loop→aca,slot_tuple_iterator_next→acO,plainAttrs_list→acZ,entry_max_loop→ac3,args_tuple_add_2→adC,entry_tuple_add→adQ,slot_tuple_add→adV,slot_zip_next→aea,slot_str_ascii_iterator_iter→aeW,args_tuple_iterator_next_1→ae9,entry_tuple_iterator_next→afp
open PyProof.Rows renaming boot_tuple→aaY,slot_tuple_getitem→abz,get?_update_seq→abL,boot_all→abV,callWith_type1→acD,listUpdate_at→adc,entry_list_sort→ad0,boot_max→ad1,slot_list_sort→aef,entry_tuple_getitem→aek,AllBare→aen,subscriptTail→aeq,assignInOrder_cons→aes,args_tuple_getitem→aet,Subscript_→aeH,tuples'→afa,seqEpoch_at→afd,args_list_sort→afs
open Nat.succ renaming inj→aa6
open PySem.Builtin.SmallTypes renaming nextOf→aba,ownedTupleIsFree→ab9,ownedTupleHandOut→aei
open PySem.Obj renaming mapSeq→abd
open PySem.NameKind renaming free→abq,cell→ac0
open PySem.PassesOwn renaming never→abw
open PySem.Builtin.Slice renaming slicePlaces→abF,sliceApplied→acP,sliceAdjust→adw,sliceFields→afy
open Array renaming length_toList→abI,getElem?_toList→ac9,getElem?_eq_getElem→afz
open PySem.SeqAt.EqAt renaming int_int→abM,str_str→acB,same→afg
open PySem.Data renaming fields→abO,cell→aey
open Ne renaming symm→abW
open Int renaming emod_lt_of_pos→abZ,emod_nonneg→acn,toNat_natCast→aeQ,mul_le_mul_of_nonneg_left→ae6
open PySem.Builtin.Tuple renaming tupleExact→ab1,tupleItemsOf→adm,tupleCompareSizes→aeS
open Classical renaming byContradiction→aci
open PySem.Around renaming under_plainId→acj
open True renaming intro→acw
open False renaming elim→acV
open PySem.Builtin.List renaming listTooLong→acW
open PySem.Builtin.Str renaming occurrences→ac1
open PySem.SeqAt renaming EqAt→adB
open PySem.Calls renaming callWith_builtin→adW,Name_function_global→afq,call_function_entry→afx
open ForInStep renaming yield→ad9
open PySem.Paired renaming length→aeu
open List.Pairwise renaming nil→aeP
open PyProof.Rows.IsTup renaming new→afo
namespace PySem.W.Fast
def tw10028565990180953679:=()
def tw14789132128574805784:=()
def tw14484734478566281163:=()
def tw7080165271411907338:=()
def tw5390447030456026397:=()
def tw14766758054086989603:=()
def tw1667241256009289746:=()
def tw3136937539048328986:=()
def tw13350879156798904846:=()
def tw722865213326040817:=()
def tw11632856233349242684:=()
def tw4393192285031671424:=()
def tw4070186436975336517:=()
def tw16802547210575236436:=()
def tw3441538856726411701:=()
def tw870063079783362141:=()
def tw2582362644816529563:=()
def tw12985161241195052638:=()
def tw731893522120185527:=()
def tw13702633208429732296:=()
def tw3420581440399124073:=()
def tw12110083656978695063:=()
def tw12064134380067034507:=()
def tw12132162044099735649:=()
def tw9625321741603962067:=()
def tw6998588284544589009:=()
def tw15649852851859973688:=()
def tw16467325833931753923:=()
def tw8655128438629914152:=()
def tw15956547463061644201:=()
def tw3327671514153535144:=()
def tw14714437460076536498:=()
def tw11402469295513256522:=()
def tw4148095557963641446:=()
def tw10199738411093151604:=()
def tw13201427513803385674:=()
def tw17618646474560147260:=()
def tw1061258523308516653:=()
def tw8896440042988058807:=()
def tw12435679216043241565:=()
def tw10960614564715541539:=()
def tw9524704964271501369:=()
def tw12725578694150111836:=()
def tw13167316533922756518:=()
def tw16005991028824251903:=()
def tw17447470276008970517:=()
def tw14217707160534565845:=()
def tw3902198593819050138:=()
def tw17529247021808310672:=()
def tw6507619175089309311:=()
def tw10638411794378120733:=()
def tw8392442889891847905:=()
def tw9988998620395032043:=()
def tw17890299551513603747:=()
def tw9281172852597677834:=()
def tw3402081812935184292:=()
def tw5593057476254666703:=()
def tw6930681622852093279:=()
def tw13020873767480300007:=()
def tw2425573904714120345:=()
def tw9290245472726594436:=()
def tw531087743468164903:=()
def tw2035151708115571095:=()
def tw8921523312882677643:=()
def tw3828120597026015970:=()
def tw823962125930025056:=()
def tw11864436992329950680:=()
def tw17104358924927995976:=()
def tw589137394622081625:=()
def tw7870793567904449774:=()
def tw15378006092100385306:=()
def tw9120094316417137095:=()
def tw7042608072660905199:=()
def tw1504904237685859940:=()
def tw1058216612376058436:=()
def tw5739447697733561906:=()
def tw16672923964707378110:=()
def tw9582254898204112393:=()
def tw16340563185533366157:=()
def tw2994456299383050324:=()
def tw11599151930143513189:=()
def tw5623978749912411070:=()
def tw137852037971908632:=()
def tw4898065913764770463:=()
def tw8367063650907000187:=()
def tw10307580061192689793:=()
def tw12303326801962444296:=()
def tw726231434689936843:=()
def tw17865178915368079809:=()
def tw4441902787461928551:=()
def tw4276131107145424645:=()
def tw17217843366893223635:=()
def tw10146663144288363322:=()
def tw7558195445308657996:=()
end PySem.W.Fast
theorem Z0:True:=trivial
namespace L2
open PySem PySem.Spec PyProof.Rows
abbrev Key:=Sum Int Str
def DU:Key->Value->Bool
 |.inl k,v=>Value.isInt k v
 |.inr x,v=>Value.isStrOf x v
def Qi(w:World):Key->Int
 |.inl k=>hashInt k
 |.inr x=>hashStr w x
theorem aR:∀{k:Key} {v:Value},DU k v=true->(∃i t,k=aff i/\v=ace i t)\/(∃x t,k=aas x/\v=adh x t)
 |.inl i,v,h=>by
  obtain⟨t,e⟩:=Value.isInt_shape (k:=i) (v:=v) h
  exact .inl ⟨i,t,rfl,e⟩
 |.inr x,v,h=>by
  obtain⟨t,e⟩:=Value.isStrOf_shape (x:=x) (v:=v) h
  exact .inr ⟨x,t,rfl,e⟩
theorem rS(i:Int)(t:Tok):DU (.inl i) (.int i t)=true:=by simp[DU,Value.isInt]
theorem rR(x:Str)(t:Tok):DU (.inr x) (.str x t)=true:=by simp[DU,Value.isStrOf]
theorem xU(a b:Int):decide ((aff a:Key)=aff b)=(a==b):=by
 by_cases e:a=b
 .subst e;simp
 .have h:¬ (aff a:Key)=aff b:=λq=>e (Sum.inl.inj q)
  rw[decide_eq_false h]
  exact(beq_eq_false_iff_ne.mpr e).symm
theorem xR(a b:Str):decide ((aas a:Key)=aas b)=decide (a=b):=by
 by_cases e:a=b
 .subst e;simp
 .have h:¬ (aas a:Key)=aas b:=λq=>e (Sum.inr.inj q)
  rw[decide_eq_false h,decide_eq_false e]
theorem xT(a:Int)(b:Str):decide ((aff a:Key)=aas b)=false:=decide_eq_false (λq=>nomatch q)
theorem xS(a:Str)(b:Int):decide ((aas a:Key)=aff b)=false:=decide_eq_false (λq=>nomatch q)
def aI(prog:aaH)(w:World):PySem.KeyKind prog w Key where
 is:=DU
 hash:=Qi w
 inj:=λv a b ha hb=>by
  rcases aR ha with ⟨i,t,rfl,rfl⟩|⟨x,t,rfl,rfl⟩
  .rcases aR hb with ⟨j,u,rfl,e⟩|⟨y,u,rfl,e⟩
   .injection e with e1 _;rw[e1]
   .exact nomatch e
  .rcases aR hb with ⟨j,u,rfl,e⟩|⟨y,u,rfl,e⟩
   .exact nomatch e
   .injection e with e1 _;rw[e1]
 byValue:=λk v h=>by
  rcases aR h with ⟨i,t,rfl,rfl⟩|⟨x,t,rfl,rfl⟩<;>rfl
 pyHash:=λhv h=>by
  rcases aR hv with ⟨i,t,rfl,rfl⟩|⟨x,t,rfl,rfl⟩
  .exact wpAny_pyHash_int h
  .exact wpAny_pyHash_str h
 eqBool:=λhu hv h=>by
  rcases aR hu with ⟨i,t,rfl,rfl⟩|⟨x,t,rfl,rfl⟩
  .rcases aR hv with ⟨j,u,rfl,rfl⟩|⟨y,u,rfl,rfl⟩
   .rw[xU]at h;exact wpAny_eqBool_int h
   .rw[xT]at h;exact SeqAt.EqAt.int_str i t y u _ _ _ _ h
  .rcases aR hv with ⟨j,u,rfl,rfl⟩|⟨y,u,rfl,rfl⟩
   .rw[xS]at h;exact SeqAt.EqAt.str_int x t j u _ _ _ _ h
   .rw[xR]at h;exact aeX h
 «strs»:=λk x t v h=>by
  rcases aR h with ⟨i,u,rfl,e⟩|⟨y,u,rfl,e⟩
  .exact nomatch e
  .injection e with e1 _
   subst e1
   cases v<;>rfl
theorem ou(prog:aaH)(w:World)(i:Int)(t:Tok):(aI prog w).is (.inl i) (.int i t)=true:=rS i t
theorem oq(prog:aaH)(w:World)(x:Str)(t:Tok):(aI prog w).is (.inr x) (.str x t)=true:=rR x t
inductive V where
 |oR|bl (b:Bool)|int (i:Int)|str (x:Str)|GW (b:Array UInt8)|Mj (b:UInt64)|ref (a:Addr)|ty (n:String)
 deriving DecidableEq
def RelV:V->Value->Prop
 |.oR,u=>u=abh
 |.bl b,u=>u=adA b
 |.int i,u=>∃t,u=ace i t
 |.str x,u=>∃t,u=adh x t
 |.GW b,u=>∃t,u=Value.bytes b t
 |.Mj b,u=>∃t,u=Value.float b t
 |.ref a,u=>u=aau a
 |.ty n,u=>u=abC n
abbrev oF:List V->List Value->Prop:=Paired RelV
variable{xs:List V}
theorem oF.length{us:List Value}(r:oF xs us):xs.length=us.length:=aeu r
theorem oF.get:∀{xs:List V} {us:List Value} {i:Nat} {x:V},oF xs us->xs[i]?=some x->∃u,us[i]?=some u/\RelV x u
 |_,_,_,_,.nil,e=>by simp at e
 |_,_,0,_,.cons r _,e=>by simp at e;subst e;exact⟨_,rfl,r⟩
 |_,_,i+1,x,.cons _ t,e=>by
  obtain⟨u,h1,h2⟩:=oF.get (i:=i) (x:=x) t (by simpa using e)
  exact⟨u,by simpa using h1,h2⟩
variable{x:V}{u:Value}
theorem oF.set(r:RelV x u):∀{xs:List V} {us:List Value} (i:Nat),oF xs us->oF (xs.set i x) (us.set i u)
 |_,_,_,.nil=>.nil
 |_,_,0,.cons _ t=>.cons r t
 |_,_,i+1,.cons q t=>.cons q (oF.set r i t)
theorem oF.append:∀{xs ys:List V} {us ws:List Value},oF xs us->oF ys ws->oF (xs++ys) (us++ws)
 |_,_,_,_,.nil,s=>s
 |_,_,_,_,.cons r t,s=>.cons r (oF.append t s)
theorem oF.take:∀{xs:List V} {us:List Value} (n:Nat),oF xs us->oF (xs.take n) (us.take n)
 |_,_,0,_=>.nil
 |_,_,_+1,.nil=>.nil
 |_,_,n+1,.cons r t=>.cons r (oF.take n t)
theorem oF.drop:∀{xs:List V} {us:List Value} (n:Nat),oF xs us->oF (xs.drop n) (us.drop n)
 |_,_,0,r=>r
 |_,_,_+1,.nil=>.nil
 |_,_,n+1,.cons _ t=>oF.drop n t
def C3:Option V->Option Value->Prop
 |some v,some u=>RelV v u
 |none,none=>True
 |_,_=>False
def KV{κ:Type}:List (κ×V)->List (κ×Value)->Prop:=Paired λ(p:κ×V) (q:κ×Value)=>p.1=q.1/\RelV p.2 q.2
def kV:Key->V
 |.inl i=>.int i
 |.inr x=>.str x
inductive HO where
 |lst (xs:List V)
 |tup (xs:List V)
 |dK (kvs:List (Key×V))|dT (kvs:List (List Key×V))
 |set (S:Int->Bool) (n:Nat)
 |ins (C dx:Addr) (fs:List (Str×V))
 |own (x:Addr)
 |xd (fs:List (Str×V))
 |met (f x:Addr)
 |Oq (lo hi:Int)
 |BB (o:Obj) (u:HO)
 |Js (ps:Array Value)
 |ext (φ:Heap->Prop)
abbrev Hp:=Addr->Option HO
def upd(H:Hp)(a:Addr)(o:HO):Hp:=λb=>if b=a then some o else H b
variable{H:Hp}{a:Addr}{o:HO}
theorem ak:upd H a o a=some o:=by unfold upd;rw[if_pos rfl]
variable{b:Addr}
theorem ag(h:b≠a):upd H a o b=H b:=by unfold upd;rw[if_neg h]
theorem u4{u:HO}:upd (upd H a o) a u=upd H a u:=by
 funext b;unfold upd;split<;>rfl
theorem qf{u:HO}(h:H a=some o)(h':H b=some u)(d:o≠u):a≠b:=by
 intro e;subst e;rw[h]at h';exact d (aao h')
theorem aw(h:H a=some o)(h':H b=none):a≠b:=by
 intro e;subst e;rw[h]at h';cases h'
variable(P:aaH)(w:World)
def zi(H:Hp)(h:Heap)(a:Addr):HO->Prop
 |.lst xs=>xs.length<=sizeLine/\∃(eQ:List Value) (n:Nat),oF xs eQ/\h.get? a=some {cls:=.type "list",data:=.seq eQ.toArray n}
 |.tup xs=>xs.length<=sizeLine/\∃eQ:List Value,oF xs eQ/\IsTup h a eQ.toArray
 |.dK kvs=>kvs.length<=sizeLine/\(a==acJ)=false/\∃vs,KV kvs vs/\h.DictOf (aI P w) a vs
 |.dT kvs=>kvs.length<=sizeLine/\(a==acJ)=false/\∃xs:List (List Key×Addr×Value),
   Paired (λ(p:List Key×V) (q:List Key×Addr×Value)=>p.1=q.1/\H q.2.1=some (.tup (p.1.map kV))/\RelV p.2 q.2.2) kvs xs /\
   ∃o es ep,h.get? a=some o/\o.ExactDict/\o.data=.dict es ep/\es.toList=xs.map (entryOfKey (afb (aI P w)))/\(xs.map (·.1)).Nodup
 |.set S n=>h.SetOf (intKind P w) a S n
 |.ins C dx fs=>H dx=some (.own a)/\fs.length<=1000/\dx≠a/\h.get? a=some (afh C dx) /\
   ∃mA,h.Ns1 dx mA/\(∀f,C3 (fs.lookup f) (mA f))/\PySem.Within mA (fs.map (·.1))
 |.own _=>∃o,h.get? a=some o
 |.xd fs=>∃mA,h.Ns1 a mA/\∀f,C3 (fs.lookup f) (mA f)
 |.Oq lo hi=>∃t u v,h.get? a=some {cls:=.type "range",data:=.fields #[.int lo t,.int hi u,.int 1 v]}
 |.BB o u=>h.get? a=some o/\zi H h a u
 |.Js ps=>h.get? a=some {cls:=.none,data:=.fields ps}
 |.met f x=>h.get? a=some (aeJ (.ref f) (.ref x))
 |.ext φ=>φ h/\(∃o,h.get? a=some o)/\∀h1 h2:Heap,φ h1->(∀o,h1.get? a=some o->h2.get? a=some o)->φ h2
def BD(H:Hp)(h:Heap):Prop:=∀a o,H a=some o->zi P w H h a o
variable{P:aaH}{w:World}{H':Hp}{h h':Heap}
theorem zi.lt(x:zi P w H h a o):a<h.objs.size:=by
 cases o with
 |lst xs=>obtain⟨_,_,_,_,e⟩:=x;exact aak e
 |tup xs=>obtain⟨_,_,_,p⟩:=x;exact p.lt
 |dK kvs=>obtain⟨_,_,_,_,o,_,_,e,_⟩:=x;exact aak e
 |dT kvs=>obtain⟨_,_,_,_,o,_,_,e,_⟩:=x;exact aak e
 |set S n=>obtain⟨o,_,_,_,e,_⟩:=x;exact aak e
 |ins C dx fs=>obtain⟨_,_,_,e,_⟩:=x;exact aak e
 |own y=>obtain⟨_,e⟩:=x;exact aak e
 |xd fs=>obtain⟨_,⟨_,_,_,e,_⟩,_⟩:=x;exact aak e
 |Oq lo hi=>obtain⟨_,_,_,e⟩:=x;exact aak e
 |BB ob u=>obtain⟨e,_⟩:=x;exact aak e
 |Js ps=>exact aak (show h.get? a=some _ from x)
 |met f y=>exact aak (show h.get? a=some _ from x)
 |ext φ=>obtain⟨_,⟨_,e⟩,_⟩:=x;exact aak e
variable{α:Type}
theorem Paired.KL{β:Type}{F G:α->β->Prop}:∀{l₁:List α} {l₂:List β},Paired F l₁ l₂->(∀a b,F a b->G a b)->Paired G l₁ l₂
 |_,_,.nil,_=>.nil
 |_,_,.cons r t,f=>.cons (f _ _ r) (Paired.KL t f)
theorem zi.D4(x:zi P w H h a o)(k:∀b u,(b=a\/H b=some (.own a))->h.get? b=some u->h'.get? b=some u)
  (ho:∀b,H b=some (.own a)->H' b=some (.own a)) (ht:∀b xs,H b=some (.tup xs)->H' b=some (.tup xs)):zi P w H' h' a o:=by
 induction o with
 |lst xs=>obtain⟨z,eQ,n,r,e⟩:=x;exact⟨z,eQ,n,r,k _ _ (.inl rfl) e⟩
 |tup xs=>obtain⟨z,eQ,r,ob,e,c⟩:=x;exact⟨z,eQ,r,ob,k _ _ (.inl rfl) e,c⟩
 |dK kvs=>obtain⟨z,y,vs,r,ob,es,ep,e,c⟩:=x;exact⟨z,y,vs,r,ob,es,ep,k _ _ (.inl rfl) e,c⟩
 |dT kvs=>
  obtain⟨z,y,xs,r,ob,es,ep,e,c⟩:=x
  exact⟨z,y,xs,Paired.KL r λp q z=>⟨z.1,ht _ _ z.2.1,z.2.2⟩,ob,es,ep,k _ _ (.inl rfl) e,c⟩
 |set S n=>obtain⟨ob,es,ep,t,e,c⟩:=x;exact⟨ob,es,ep,t,k _ _ (.inl rfl) e,c⟩
 |ins C dx fs=>
  obtain⟨d,z,ne,e,mA,⟨od,es,ep,e2,c⟩,r⟩:=x
  exact⟨ho _ d,z,ne,k _ _ (.inl rfl) e,mA,⟨od,es,ep,k _ _ (.inr d) e2,c⟩,r⟩
 |own y=>obtain⟨ob,e⟩:=x;exact⟨ob,k _ _ (.inl rfl) e⟩
 |xd fs=>obtain⟨mA,⟨od,es,ep,e,c⟩,r⟩:=x;exact⟨mA,⟨od,es,ep,k _ _ (.inl rfl) e,c⟩,r⟩
 |Oq lo hi=>obtain⟨t,u,v,e⟩:=x;exact⟨t,u,v,k _ _ (.inl rfl) e⟩
 |BB ob u ih=>obtain⟨e,q⟩:=x;exact⟨k _ _ (.inl rfl) e,ih q⟩
 |Js ps=>
  have e:h.get? a=some {cls:=.none,data:=.fields ps}:=x
  show h'.get? a=some {cls:=.none,data:=.fields ps}
  exact k a _ (.inl rfl) e
 |met f y=>
  have e:h.get? a=some (aeJ (.ref f) (.ref y)):=x
  show h'.get? a=some (aeJ (.ref f) (.ref y))
  exact k a _ (.inl rfl) e
 |ext φ=>obtain⟨p,⟨o,e⟩,st⟩:=x;exact⟨st _ _ p λo q=>k _ _ (.inl rfl) q,⟨o,k _ _ (.inl rfl) e⟩,st⟩
theorem BD.lt(x:BD P w H h)(e:H a=some o):a<h.objs.size:=(x a o e).lt
theorem BD.fresh(x:BD P w H h)(e:h.objs.size<=a):H a=none:=by
 cases q:H a with
 |none=>rfl
 |some u=>exact absurd (aaA (x.lt q) e) (abi _)
theorem BD.kept(x:BD P w H h)(k:∀b u,h.get? b=some u->h'.get? b=some u):BD P w H h':=λa o e=>
 (x a o e).D4 (λb u _ q=>k b u q) (λ_ q=>q) λ_ _ q=>q
theorem BD.laid(x:BD P w H h)(k:∀b u,h.get? b=some u->h'.get? b=some u)(hp:h.objs.size<=a)(new:zi P w (upd H a o) h' a o):BD P w (upd H a o) h':=λb u e=>by
 have hn:=x.fresh hp
 by_cases hb:b=a
 .subst hb;rw[ak]at e;cases e;exact new
 .rw[ag hb]at e
  exact(x b u e).D4 (λc v _ q=>k c v q) (λc q=>by rw[ag (aw q hn)];exact q) λc xs q=>by rw[ag (aw q hn)];exact q
def Rd(H:Hp)(a:Addr)(u:HO):Prop:=H a=some u\/∃o,H a=some (.BB o u)
theorem Rd.ok{u:HO}(r:Rd H a u)(x:BD P w H h):zi P w H h a u:=by
 rcases r with r|⟨o,r⟩
 .exact x a u r
 .obtain⟨_,q⟩:=x a _ r
  exact q
def N1:Option HO->Prop
 |some (.lst _)=>True
 |some (.dK _)=>True
 |some (.dT _)=>True
 |some (.set _ _)=>True
 |some (.ins _ _ _)=>True
 |some (.ext _)=>True
 |_=>False
variable{x e:Addr}{o':HO}
theorem BD.write(ok:BD P w H h)(mu:N1 (H x))(he:e=x\/H e=some (.own x))(k:∀b u,b≠e->h.get? b=some u->h'.get? b=some u)(Me:∃u,h'.get? e=some u)
  (new:zi P w (upd H x o') h' x o'):BD P w (upd H x o') h':=λb u q=>by
 have MV:∀c y,H c=some (.own y)->c≠x:=λc y r z=>by subst z;rw[r]at mu;exact mu
 have P6:∀c xs,H c=some (.tup xs)->c≠x:=λc xs r z=>by subst z;rw[r]at mu;exact mu
 by_cases hb:b=x
 .subst hb;rw[ak]at q;cases q;exact new
 .rw[ag hb]at q
  by_cases GR:b=e
  .have q':H b=some (.own x):=by
    rcases he with z|z
    .exact absurd (GR.trans z) hb
    .rw[GR];exact z
   rw[q]at q';cases q'
   obtain⟨v,hv⟩:=Me
   exact⟨v,by rw[GR];exact hv⟩
  .refine(ok b u q).D4 (λc v hc r=>k c v ?_ r) (λc r=>by rw[ag (MV c b r)];exact r) λc xs r=>by rw[ag (P6 c xs r)];exact r
   rcases hc with rfl|hc
   .exact GR
   .rintro rfl
    rcases he with z|z
    .exact MV c b hc z
    .rw[hc]at z;cases z;exact hb rfl
structure Un(fs ex:List Addr)(H H':Hp)(h h':Heap):Prop where
 keep:∀b o,h.get? b=some o->H b=none->b∉fs->b∉ex->h'.get? b=some o
 slot:∀b o,h.get? b=some o->H b=none->b∈fs->b∉ex->∃sl,h'.get? b=some {o with slots:=sl}
 free:∀b o,h.get? b=some o->H b=none->b∉ex->H' b=none
 there:∀b o,h.get? b=some o->b∉ex->∃o',h'.get? b=some o'
 DF:∀b xs,H b=some (.tup xs)->H' b=some (.tup xs)
 Ec:∀b o u,H b=some (.BB o u)->H' b=some (.BB o u)
 Ey:∀b ps,H b=some (.Js ps)->∃more,H' b=some (.Js (ps++more))
section
variable{fs UC ex VE:List Addr}{H1 H2:Hp}{h1 h2:Heap}
theorem Un.any(u:Un fs ex H H1 h h1){ob:Obj}(q:h.get? b=some ob)(n:H b=none)(hx:b∉ex):∃sl,h1.get? b=some {ob with slots:=sl}:=by
 by_cases hb:b∈fs
 .exact u.slot b ob q n hb hx
 .exact⟨ob.slots,u.keep b ob q n hb hx⟩
theorem Un.kept(k:∀b u,h.get? b=some u->h'.get? b=some u):Un fs ex H H h h' :=
 ⟨λb ob q _ _ _=>k b ob q,λb ob q _ _ _=>⟨ob.slots,k b ob q⟩,λ_ _ _ n _=>n,λb ob q _=>⟨ob,k b ob q⟩,λ_ _ q=>q,λ_ _ _ q=>q,λ_ ps q=>⟨#[],by rw[q];simp⟩⟩
theorem Un.refl:Un fs ex H H h h:=Un.kept λ_ _ q=>q
theorem Un.laid(k:∀b u,h.get? b=some u->h'.get? b=some u)(hp:h.objs.size<=a)(hn:H a=none):Un fs ex H (upd H a o) h h' where
 keep:=λb u q _ _ _=>k b u q
 slot:=λb u q _ _ _=>⟨u.slots,k b u q⟩
 free:=λb u q n _=>by rw[ag (aav (aaA (aak q) hp))];exact n
 there:=λb u q _=>⟨u,k b u q⟩
 DF:=λb xs q=>by rw[ag (aw q hn)];exact q
 Ec:=λb u xs q=>by rw[ag (aw q hn)];exact q
 Ey:=λb ps q=>⟨#[],by rw[ag (aw q hn),q];simp⟩
theorem Un.write(mu:N1 (H x))(he:e=x\/H e=some (.own x))(k:∀b u,b≠e->h.get? b=some u->h'.get? b=some u)(Me:∃u,h'.get? e=some u):Un fs ex H (upd H x o) h h':=by
 have hx:∀b,H b=none->b≠x:=λb n z=>by subst z;rw[n]at mu;exact mu
 have hb:∀b,H b=none->b≠e:=λb n z=>by
  subst z
  rcases he with r|r
  .exact hx b n r
  .rw[n]at r;cases r
 have hm:∀b u,H b=some u->¬ N1 (some u)->b≠x:=λb u q nm z=>by subst z;rw[q]at mu;exact nm mu
 refine⟨λb u q n _ _=>k b u (hb b n) q,λb u q n _ _=>⟨u.slots,k b u (hb b n) q⟩,λb u q n _=>by rw[ag (hx b n)];exact n,λb u q _=>?_,
  λb xs q=>by rw[ag (hm b _ q λz=>z)];exact q,λb u xs q=>by rw[ag (hm b _ q λz=>z)];exact q,λb ps q=>⟨#[],by rw[ag (hm b _ q λz=>z),q];simp⟩⟩
 by_cases GR:b=e
 .subst GR;exact Me
 .exact⟨u,k b u GR q⟩
end
def Of(h:Heap)(H:Hp):List Addr:=(aaV h.objs.size).filter λa=>(H a).isSome
def DI(h:Heap)(H:Hp):Heap:=PySem.W.hideAll h (Of h H)
theorem r8(h:Heap)(H:Hp):(DI h H).objs.size=h.objs.size:=PySem.W.hideAll_size _ _
theorem ug{o:Obj}(e:h.get? b=some o)(n:H b=none):(DI h H).get? b=some o :=
 PySem.W.hideAll_get _ e λhm=>by
  have q:(H b).isSome=true:=(List.mem_filter.mp hm).2
  rw[n]at q;simp at q
theorem vP{o:Obj}(e:(DI h H).get? b=some o):h.get? b=some o/\H b=none:=by
 have e':h.get? b=some o:=PySem.W.of_hideAll (Of h H) e
 refine⟨e',?_⟩
 cases q:H b with
 |none=>rfl
 |some x=>
  have hm:b∈Of h H:=List.mem_filter.mpr ⟨List.mem_range.mpr (aak e'),by simp[q]⟩
  have z:(DI h H).get? b=none:=PySem.W.hideAll_none (Of h H) hm
  rw[z]at e;cases e
def ip(g h:Heap)(L:Addr):List (Addr×Obj):=(aaV h.objs.size).filterMap λa=>if a=L\/(g.get? a).isSome=true then none else (h.get? a).map λo=>(a,o)
variable{g:Heap}{L:Addr}
theorem eZ{o:Obj}(h1:a≠L)(h2:g.get? a=none)(h3:h.get? a=some o):(a,o)∈ip g h L :=
 List.mem_filterMap.mpr ⟨a,List.mem_range.mpr (aak h3),by simp[h1,h2,h3]⟩
theorem kH{p:Addr×Obj}(hp:p∈ip g h L):p.1≠L/\g.get? p.1=none/\h.get? p.1=some p.2:=by
 obtain⟨b,_,e⟩:=List.mem_filterMap.mp hp
 split at e
 .cases e
 .rename_i hn
  cases q:h.get? b with
  |none=>rw[q]at e;simp at e
  |some u=>
   rw[q]at e
   simp only[Option.map_some,aeK]at e
   subst e
   refine⟨λz=>hn (.inl z),?_,q⟩
   show g.get? b=none
   cases r:g.get? b with
   |none=>rfl
   |some v=>exact(hn (.inr (by simp[r]))).elim
theorem ji:News g L h (ip g h L):=λp hp=>let ⟨a,b,c⟩:=kH hp;⟨c,a,b⟩
structure Mod(K:aag)(mg:Str->Option Value)(base:Heap):Prop where
 kin:K.In base
 glob:base.Ns aaM mg
 blt:∃mb,base.Ns aeG mb/\∀x:Str,x ≠ "__name__" -> mb x=aco x
 nolimit:base.NoLimit
structure Cx where
 prog:aaH
 w:World
 K:aag
 mg:Str->Option Value
 base:Heap
 A:Around
 N:List Str
 s₀:Shared
 H₀:Hp
 env:Env
 outer:List Env
 stack:List Env
 ex:List Addr
 fn:Str->Bool
 calm:Bool
 pn:List (Addr×Obj)
 xe:Value->Shared->Prop
def HU(l:List Env):List Addr:=l.filterMap (·.frame)
abbrev Cx.fs(X:Cx):List Addr:=HU X.outer
def Ek(sc:Scope)(x:Str):Prop:=sc.names.lookup x=some .local\/sc.names.lookup x=some .cell\/sc.names.lookup x=some .free
def Loc(sc:Scope)(x:Str):Prop:=sc.names.lookup x=some .local\/sc.names.lookup x=some .cell
def Look(env:Env)(h:Heap)(m:Str->Option Value)(x:Str)(u:Value):Prop :=
 (env.kindOf x=some .local/\m x=some u)\/((env.kindOf x=some .cell\/env.kindOf x=some .free)/\∃c,env.cells.lookup x=some c/\h.IsCell c (some u))
structure Cx.Ok(X:Cx):Prop where
 mod:Mod X.K X.mg X.base
 kind:X.env.scope.kind=.function
 glob:X.env.globals=aaM
 blt:X.env.builtins=aeG
 above:X.s₀.heap.objs.size<=X.env.locals
 inj:∀x y c,X.env.cells.lookup x=some c->X.env.cells.lookup y=some c->x=y
 has:∀x,(X.env.kindOf x=some .cell\/X.env.kindOf x=some .free)->∃c,X.env.cells.lookup x=some c
 NT:∀x c,X.fn x=true->X.env.cells.lookup x=some c->X.s₀.heap.objs.size<=c
 hd:X.calm=true->X.A.handled=none
 frames:X.A.frames=some X.stack
 Oj:X.stack=X.outer\/(X.stack=X.env::X.outer/\X.env.frame=some X.env.locals)
 Sz:∀b∈X.ex,b≠X.env.locals/\∀x c,X.env.cells.lookup x=some c->c≠b
 bs:∀b o,X.base.get? b=some o->X.s₀.heap.get? b=some o/\X.H₀ b=none
 JR:X.base.objs.size<=X.s₀.heap.objs.size
 HA:∀b o,X.base.get? b=some o->b∉X.ex
 Je:∀b∈X.ex,b∉X.fs
 Dt:X.s₀.heap.FunFrames X.base X.outer
 Mi:∀b∈X.fs,X.H₀ b=none
structure Inv(X:Cx)(pins:List (Addr×Obj))(σ:List (Option V))(H:Hp)(s:Shared):Prop where
 ok:X.Ok
 os:s.os=X.s₀.os
 bare:aen s.gens
 base:Un X.fs X.ex X.H₀ H X.s₀.heap s.heap
 loc:∃m,s.heap.Ns X.env.locals m/\∀(i:Nat) (x:Str) (v:V),X.N[i]?=some x->σ[i]?=some (some v)->Ek X.env.scope x->∃u,RelV v u/\Look X.env s.heap m x u
 cell:∀x c,X.env.cells.lookup x=some c->∃v,s.heap.IsCell c v
 free:H X.env.locals=none
 Bc:∀x c,X.env.cells.lookup x=some c->H c=none
 pin:∀p∈X.pn++pins,s.heap.get? p.1=some p.2/\H p.1=none/\p.1≠X.env.locals/\p.1∉X.fs/\∀v,p.2.data≠.cell v
 y6:BD X.prog X.w H s.heap
 len:σ.length=X.N.length
variable{X:Cx}{pins:List (Addr×Obj)}{σ:List (Option V)}{s:Shared}
theorem Cx.Ok.P8(ok:X.Ok){o:Obj}(e:X.base.get? b=some o):b∉X.fs:=λhb=>by
 have:=(ok.Dt.mem hb).1
 rw[e]at this;cases this
theorem Inv.bs(I:Inv X pins σ H s):∀b o,X.base.get? b=some o->s.heap.get? b=some o/\H b=none:=λb o e=>
 ⟨I.base.keep b o (I.ok.bs b o e).1 (I.ok.bs b o e).2 (I.ok.P8 e) (I.ok.HA b o e),I.base.free b o (I.ok.bs b o e).1 (I.ok.bs b o e).2 (I.ok.HA b o e)⟩
theorem Inv.bk(I:Inv X pins σ H s):∀b o,X.base.get? b=some o->s.heap.get? b=some o:=λb o e=>(I.bs b o e).1
theorem Inv.mod(I:Inv X pins σ H s):Mod X.K X.mg X.base:=I.ok.mod
theorem Inv.Ea(I:Inv X pins σ H s):X.K.In s.heap:=I.ok.mod.kin.keeps I.bk
theorem Inv.fr(I:Inv X pins σ H s):∃m,Fr X.base X.env.locals s.heap m :=
 let ⟨m,hn,_⟩:=I.loc
 ⟨m,hn,I.bk,abg I.ok.JR I.ok.above⟩
theorem Inv.lt(I:Inv X pins σ H s):X.env.locals<s.heap.objs.size:=let ⟨_,hn,_⟩:=I.loc;hn.lt
theorem Inv.sz(I:Inv X pins σ H s):X.s₀.heap.objs.size<=s.heap.objs.size:=abg I.ok.above (ad2 I.lt)
theorem Inv.P7(I:Inv X pins σ H s)(h:s.heap.objs.size<=a):a∉X.fs:=λhb=>by
 obtain⟨_,o,ho,_⟩:=I.ok.Dt.mem hb
 exact absurd (aaA (aak ho) (abg I.sz h)) (abi _)
theorem Inv.Lx(I:Inv X pins σ H s):∀x c,X.env.cells.lookup x=some c->c≠X.env.locals:=λx c e z=>by
 obtain⟨v,o,ho,hd⟩:=I.cell x c e
 obtain⟨m,⟨o',es,ep,CM,OK,_⟩,_⟩:=I.loc
 rw[z,CM]at ho;cases ho;rw[OK]at hd;cases hd
theorem Inv.Dt(I:Inv X pins σ H s):s.heap.FunFrames X.base X.outer:=by
 have all:∀(l:List Env),(∀b∈HU l,b∈X.fs)->X.s₀.heap.FunFrames X.base l->s.heap.FunFrames X.base l:=by
  intro l
  induction l with
  |nil=>intro _ _;trivial
  |cons env r ih=>
   intro hs hl
   obtain⟨hk,⟨L,o,hf,hn,ho,hd⟩,hr⟩:=hl
   have hL:L∈X.fs:=hs L (by unfold HU;rw[abS,hf];exact aaq)
   obtain⟨sl,e⟩:=I.base.slot L o ho (I.ok.Mi L hL) hL λz=>I.ok.Je L z hL
   exact⟨hk,⟨L,_,hf,hn,e,hd⟩,ih (λb hb=>hs b (by unfold HU;rw[abS,hf];exact aan _ hb)) hr⟩
 exact all X.outer (λ_ hb=>hb) I.ok.Dt
theorem Inv.stack(I:Inv X pins σ H s):s.heap.FunFrames X.base X.stack:=by
 rcases I.ok.Oj with e|⟨e,hf⟩
 .rw[e];exact I.Dt
 .rw[e]
  obtain⟨m,hn,_⟩:=I.loc
  refine .cons (by rw[I.ok.kind];decide) hf hn ?_ I.Dt
  exact Heap.get?_none_of_le (abg I.ok.JR I.ok.above)
theorem Inv.Ck(I:Inv X pins σ H s):∀b∈HU X.stack,b∈X.env.locals::X.fs:=λb hb=>by
 rcases I.ok.Oj with e|⟨e,hf⟩
 .rw[e]at hb;exact aan _ hb
 .rw[e]at hb
  unfold HU at hb
  rw[abS,hf]at hb
  exact hb
theorem Inv.FX(I:Inv X pins σ H s):∀b∈HU X.stack,H b=none:=λb hb=>by
 rcases List.mem_cons.mp (I.Ck b hb)with e|hb
 .rw[e];exact I.free
 .obtain⟨_,o,ho,_⟩:=I.ok.Dt.mem hb
  exact I.base.free b o ho (I.ok.Mi b hb) λz=>I.ok.Je b z hb
variable{t':Nat}
theorem Inv.step{g':Array GenState}{d':Drawn}{ch:List Addr}(I:Inv X pins σ H s)
  (Im:∀b∈ch,(b∈X.ex\/X.s₀.heap.objs.size<=b)/\b≠X.env.locals/\(∀x c,X.env.cells.lookup x=some c->c≠b)/\∀p∈X.pn++pins,p.1≠b)
  (keep:∀b o,b≠X.env.locals->b∉X.fs->b∉ch->s.heap.get? b=some o->H b=none->h'.get? b=some o)
  (slot:∀b o,b≠X.env.locals->b∈X.fs->b∉ch->s.heap.get? b=some o->H b=none->∃sl,h'.get? b=some {o with slots:=sl}) (free:∀b o,b∉ch->s.heap.get? b=some o->H b=none->H' b=none)
  (there:∀b o,b∉ch->s.heap.get? b=some o->∃o',h'.get? b=some o')
  (DF:∀b xs,H b=some (.tup xs)->H' b=some (.tup xs)) (Ec:∀b o u,H b=some (.BB o u)->H' b=some (.BB o u)) (Ey:∀b ps,H b=some (.Js ps)->∃more,H' b=some (.Js (ps++more)))
  (ns:∀m,s.heap.Ns X.env.locals m->h'.Ns X.env.locals m) (y6:BD X.prog X.w H' h') (hg:aen g') :
  Inv X pins σ H' {s with heap:=h',gens:=g',drawn:=d',toks:=t'}:=by
 have RY:∀b o,X.s₀.heap.get? b=some o->b≠X.env.locals:=λb o e=>aav (aaA (aak e) I.ok.above)
 have LQ:∀b o,X.s₀.heap.get? b=some o->b∉X.ex->b∉ch:=λb o e hx hb=>by
  rcases(Im b hb).1 with z|z
  .exact hx z
  .exact absurd (aaA (aak e) z) (abi _)
 have cellK:∀x c,X.env.cells.lookup x=some c->∀v,s.heap.IsCell c v->h'.IsCell c v:=λx c e v ⟨o,ho,hd⟩=>by
  have M5:c∉ch:=λz=>(Im c z).2.2.1 x c e rfl
  by_cases hc:c∈X.fs
  .obtain⟨sl,q⟩:=slot c o (I.Lx x c e) hc M5 ho (I.Bc x c e)
   exact⟨_,q,hd⟩
  .exact⟨o,keep c o (I.Lx x c e) hc M5 ho (I.Bc x c e),hd⟩
 refine⟨I.ok,I.os,hg,⟨λb o e n hb hx=>?_,λb o e n hb hx=>?_,λb o e n hx=>?_,λb o e hx=>?_,λb xs e=>DF b xs (I.base.DF b xs e),λb o xs e=>Ec b o xs (I.base.Ec b o xs e),λb ps e=>?_⟩,?_,λx c e=>?_,?_,λx c e=>?_,λp hp=>?_,y6,I.len⟩
 .exact keep b o (RY b o e) hb (LQ b o e hx) (I.base.keep b o e n hb hx) (I.base.free b o e n hx)
 .obtain⟨sl,e1⟩:=I.base.slot b o e n hb hx
  obtain⟨Tc,e2⟩:=slot b _ (RY b o e) hb (LQ b o e hx) e1 (I.base.free b o e n hx)
  exact⟨Tc,e2⟩
 .obtain⟨o',e1⟩:=I.base.there b o e hx
  exact free b o' (LQ b o e hx) e1 (I.base.free b o e n hx)
 .obtain⟨o',e1⟩:=I.base.there b o e hx
  exact there b o' (LQ b o e hx) e1
 .obtain⟨m1,e1⟩:=I.base.Ey b ps e
  obtain⟨m2,e2⟩:=Ey b _ e1
  exact⟨m1++m2,by rw[e2,Array.append_assoc]⟩
 .obtain⟨m,hn,hl⟩:=I.loc
  refine⟨m,ns m hn,λi x v e1 e2 e3=>?_⟩
  obtain⟨u,r,l⟩:=hl i x v e1 e2 e3
  refine⟨u,r,?_⟩
  rcases l with l|⟨k,c,e,z⟩
  .exact .inl l
  .exact .inr ⟨k,c,e,cellK x c e _ z⟩
 .obtain⟨v,z⟩:=I.cell x c e
  exact⟨v,cellK x c e v z⟩
 .obtain⟨m,⟨o,_,_,ho,_⟩,_⟩:=I.loc
  exact free _ o (λz=>(Im _ z).2.1 rfl) ho I.free
 .obtain⟨v,o,ho,hd⟩:=I.cell x c e
  exact free c o (λz=>(Im c z).2.2.1 x c e rfl) ho (I.Bc x c e)
 .obtain⟨e,n,ne,nf,d⟩:=I.pin p hp
  have M5:p.1∉ch:=λz=>(Im p.1 z).2.2.2 p hp rfl
  exact⟨keep p.1 p.2 ne nf M5 e n,free p.1 p.2 M5 e n,ne,nf,d⟩
theorem Inv.un(I:Inv X pins σ H s)(u:Un X.fs [] H H' s.heap h')(y6:BD X.prog X.w H' h'):Inv X pins σ H' {s with heap:=h',toks:=t'}:=by
 obtain⟨m,⟨o,es,ep,ho,r⟩,_⟩:=id I.loc
 obtain⟨sl,hL⟩:=u.any ho I.free (by simp)
 exact I.step (g':=s.gens) (d':=s.drawn) (ch:=[]) (λ_ z=>nomatch z) (λb o _ hb _ e n=>u.keep b o e n hb (by simp)) (λb o _ hb _ e n=>u.slot b o e n hb (by simp)) (λb o _ e n=>u.free b o e n (by simp)) (λb o _ e=>u.there b o e (by simp)) u.DF u.Ec u.Ey (λm' hm=>by
  obtain⟨o',OP,OQ,CM,r'⟩:=hm
  rw[ho]at CM;cases CM
  exact⟨_,OP,OQ,hL,r'⟩) y6 I.bare
theorem Inv.call{g':Array GenState}{d':Drawn}{ch:List Addr}(I:Inv X pins σ H s)(u:Un (HU X.stack) ch H H' s.heap h')(y6:BD X.prog X.w H' h')(hg:aen g')
  (Im:∀b∈ch,(b∈X.ex\/X.s₀.heap.objs.size<=b)/\b≠X.env.locals/\(∀x c,X.env.cells.lookup x=some c->c≠b)/\∀p∈X.pn++pins,p.1≠b) :
  Inv X pins σ H' {s with heap:=h',gens:=g',drawn:=d',toks:=t'}:=by
 obtain⟨m,⟨o,es,ep,ho,r⟩,_⟩:=id I.loc
 obtain⟨sl,hL⟩:=u.any ho I.free λz=>(Im _ z).2.1 rfl
 exact I.step (ch:=ch) Im (λb o hL hb hc e n=>u.keep b o e n (λz=>(List.mem_cons.mp (I.Ck b z)).elim hL hb) hc) (λb o _ _ hc e n=>u.any e n hc) (λb o hc e n=>u.free b o e n hc) (λb o hc e=>u.there b o e hc) u.DF u.Ec u.Ey (λm' hm=>by
  obtain⟨o',OP,OQ,CM,r'⟩:=hm
  rw[ho]at CM;cases CM
  exact⟨_,OP,OQ,hL,r'⟩) y6 hg
variable{it:Addr}
theorem Inv.turned(I:Inv X pins σ H s)(k:∀b o,b≠it->s.heap.get? b=some o->h'.get? b=some o)(hn:H it=none)(hL:it≠X.env.locals)
  (h1:it∈X.ex\/X.s₀.heap.objs.size<=it) (h2:∀x c,X.env.cells.lookup x=some c->c≠it) (h3:∀p∈X.pn++pins,p.1≠it):Inv X pins σ H {s with heap:=h',toks:=t'}:=by
 have M3:∀b u,H b=some u->b≠it:=λb u e z=>by rw[z,hn]at e;cases e
 refine I.step (g':=s.gens) (d':=s.drawn) (ch:=[it]) (λb hb=>?_) (λb o _ _ hc e _=>k b o (λz=>hc (by simp[z])) e) (λb o _ _ hc e _=>⟨o.slots,k b o (λz=>hc (by simp[z])) e⟩) (λ_ _ _ _ n=>n)
  (λb o hc e=>⟨o,k b o (λz=>hc (by simp[z])) e⟩) (λ_ _ e=>e) (λ_ _ _ e=>e) (λb ps e=>⟨#[],by rw[e];simp⟩) (λm hm=>?_) (λb u e=>?_) I.bare
 .have e:b=it:=by simpa using hb
  subst e
  exact⟨h1,hL,h2,h3⟩
 .obtain⟨o,es,ep,ho,r⟩:=hm
  exact⟨o,es,ep,k _ o (abW hL) ho,r⟩
 .refine(I.y6 b u e).D4 (λc v hc q=>k c v ?_ q) (λ_ q=>q) λ_ _ q=>q
  rcases hc with z|z
  .rw[z];exact M3 b u e
  .exact M3 c _ z
theorem Inv.tok(I:Inv X pins σ H s)(t:Nat):Inv X pins σ H {s with toks:=t}:=I.un (h':=s.heap) (t':=t) Un.refl I.y6
theorem Inv.kept(I:Inv X pins σ H s)(k:∀b u,s.heap.get? b=some u->h'.get? b=some u):Inv X pins σ H {s with heap:=h',toks:=t'}:=I.un (Un.kept k) (I.y6.kept k)
theorem Inv.laid(I:Inv X pins σ H s)(k:∀b u,s.heap.get? b=some u->h'.get? b=some u)(hp:s.heap.objs.size<=a)(new:zi X.prog X.w (upd H a o) h' a o):
  Inv X pins σ (upd H a o) {s with heap:=h',toks:=t'}:=I.un (Un.laid k hp (I.y6.fresh hp)) (I.y6.laid k hp new)
theorem Inv.write(I:Inv X pins σ H s)(mu:N1 (H x))(he:e=x\/H e=some (.own x))(k:∀b u,b≠e->s.heap.get? b=some u->h'.get? b=some u)(Me:∃u,h'.get? e=some u)
  (new:zi X.prog X.w (upd H x o) h' x o):Inv X pins σ (upd H x o) {s with heap:=h',toks:=t'}:=I.un (Un.write mu he k Me) (I.y6.write mu he k Me new)
theorem Inv.weak{σ':List (Option V)}(I:Inv X pins σ H s)(hl:σ'.length=σ.length)(w:∀(i:Nat) v,σ'[i]?=some (some v)->σ[i]?=some (some v)):Inv X pins σ' H s :=
 ⟨I.ok,I.os,I.bare,I.base,let ⟨m,hn,GJ⟩:=I.loc;⟨m,hn,λi x v e1 e2 e3=>GJ i x v e1 (w i v e2) e3⟩,I.cell,I.free,I.Bc,I.pin,I.y6,hl.trans I.len⟩
theorem Inv.F9{JD:List (Addr×Obj)}(I:Inv X pins σ H s)(h:∀p∈JD,s.heap.get? p.1=some p.2/\H p.1=none/\p.1≠X.env.locals/\p.1∉X.fs/\∀v,p.2.data≠.cell v):Inv X JD σ H s :=
 ⟨I.ok,I.os,I.bare,I.base,I.loc,I.cell,I.free,I.Bc,λp hp=>(List.mem_append.mp hp).elim (λz=>I.pin p (aaQ _ z)) (h p),I.y6,I.len⟩
variable{N:List Str}{i j:Nat}
theorem mR(hN:N.Nodup){x:Str}(a:N[i]?=some x)(b:N[j]?=some x):i=j:=by
 obtain⟨h1,e1⟩:=List.getElem?_eq_some_iff.mp a
 obtain⟨h2,e2⟩:=List.getElem?_eq_some_iff.mp b
 exact(abP hN).mp (e1.trans e2.symm)
variable{M:Model}{A:Around}{E:Value->Shared->Prop}{v:V}{Q:Unit->Shared->Prop}
theorem gD{x:Str}(I:Inv X pins σ H s)(hN:X.N.Nodup)(hi:X.N[i]?=some x)(hx:Loc X.env.scope x)(r:RelV v u)
  (h:∀s',Inv X pins (σ.set i (some v)) H s'->(∃a,ad8 a s.heap s'.heap/\(a=X.env.locals\/X.env.cells.lookup x=some a))->Q () s') (hf:X.fn x=true\/X.env.scope.names.lookup x=some .local:=by first|exact .inl rfl|exact .inr rfl|assumption):wpAny M A (storeName X.env x u) Q E s:=by
 obtain⟨m,hn,hl⟩:=id I.loc
 have QU:(X.env.scope.kind==.class || (X.env.scope.kind==.module && X.env.locals != X.env.globals))=false:=by rw[I.ok.kind];rfl
 have hiσ:i<σ.length:=by rw[I.len];exact(List.getElem?_eq_some_iff.mp hi).1
 have Lx:=I.Lx
 have tracked:∀{a:Addr} {h':Heap},(∃o,s.heap.get? a=some o/\H a=none)->ad8 a s.heap h'->BD X.prog X.w H h':=λ{a h'} ha hs b ob e=>by
  obtain⟨_,_,CQ⟩:=ha
  refine(I.y6 b ob e).D4 (λc w' hc q=>(hs.2 c ?_).trans q) (λ_ q=>q) λ_ _ q=>q
  rintro rfl
  rcases hc with rfl|hc
  .rw[CQ]at e;cases e
  .rw[CQ]at hc;cases hc
 rcases hx with hk|hk
 .refine wpAny_storeName_local hk hn (λh' IX hs=>?_) QU
  obtain⟨oL,_,_,GI,_⟩:=id hn
  refine h _ ⟨I.ok,I.os,I.bare,⟨λb o e n hb hx=>?_,λb o e n hb hx=>?_,I.base.free,λb o e hx=>?_,I.base.DF,I.base.Ec,I.base.Ey⟩,⟨_,IX,λj y v' e1 e2 e3=>?_⟩,λy c e=>?_,I.free,I.Bc,λp hp=>?_,tracked ⟨oL,GI,I.free⟩ hs,by simpa using I.len⟩ ⟨_,hs,.inl rfl⟩
  .exact(hs.2 b (aav (aaA (aak e) I.ok.above))).trans (I.base.keep b o e n hb hx)
  .obtain⟨sl,e1⟩:=I.base.slot b o e n hb hx
   exact⟨sl,(hs.2 b (aav (aaA (aak e) I.ok.above))).trans e1⟩
  .obtain⟨o',e1⟩:=I.base.there b o e hx
   exact⟨o',(hs.2 b (aav (aaA (aak e) I.ok.above))).trans e1⟩
  .by_cases hj:j=i
   .subst hj
    rw[hi]at e1;cases e1
    rw[acz hiσ]at e2
    cases e2
    exact⟨u,r,.inl ⟨hk,by simp⟩⟩
   .rw[aaI (abW hj)]at e2
    obtain⟨u',r',q⟩:=hl j y v' e1 e2 e3
    refine⟨u',r',?_⟩
    rcases q with ⟨k,e⟩|⟨k,c,e,z⟩
    .refine .inl ⟨k,?_⟩
     have:y≠x:=λe=>hj (mR hN e1 (e ▸ hi))
     simp[this,e]
    .exact .inr ⟨k,c,e,z.sameBut hs (Lx y c e)⟩
  .obtain⟨w',z⟩:=I.cell y c e
   exact⟨w',z.sameBut hs (Lx y c e)⟩
  .obtain⟨e,n,ne,nf,d⟩:=I.pin p hp
   exact⟨(hs.2 p.1 ne).trans e,n,ne,nf,d⟩
 .have QR:X.fn x=true:=by
   rcases hf with z|z
   .exact z
   .rw[z]at hk;cases hk
  obtain⟨c,hc⟩:=I.ok.has x (.inl hk)
  obtain⟨w',z⟩:=I.cell x c hc
  refine wpAny_storeName_cell I.ok.kind hk hc z (λh' DV hs=>?_)
  obtain⟨oc,L9,QF⟩:=id z
  refine h {s with heap:=h'} ⟨I.ok,I.os,I.bare,⟨λb o e n hb hx=>?_,λb o e n hb hx=>?_,I.base.free,λb o e hx=>?_,I.base.DF,I.base.Ec,I.base.Ey⟩,⟨m,hn.sameBut hs (abW (Lx x c hc)),λj y v' e1 e2 e3=>?_⟩,λy c' e=>?_,I.free,I.Bc,λp hp=>?_,tracked ⟨oc,L9,I.Bc x c hc⟩ hs,by simpa using I.len⟩ ⟨c,hs,.inr hc⟩
  .exact(hs.2 b (aav (aaA (aak e) (I.ok.NT x c QR hc)))).trans (I.base.keep b o e n hb hx)
  .obtain⟨sl,e1⟩:=I.base.slot b o e n hb hx
   exact⟨sl,(hs.2 b (aav (aaA (aak e) (I.ok.NT x c QR hc)))).trans e1⟩
  .obtain⟨o',e1⟩:=I.base.there b o e hx
   exact⟨o',(hs.2 b (aav (aaA (aak e) (I.ok.NT x c QR hc)))).trans e1⟩
  .by_cases hj:j=i
   .subst hj
    rw[hi]at e1;cases e1
    rw[acz hiσ]at e2
    cases e2
    exact⟨u,r,.inr ⟨.inl hk,c,hc,DV⟩⟩
   .rw[aaI (abW hj)]at e2
    obtain⟨u',r',q⟩:=hl j y v' e1 e2 e3
    refine⟨u',r',?_⟩
    rcases q with q|⟨k,c',e,z'⟩
    .exact .inl q
    .refine .inr ⟨k,c',e,z'.sameBut hs ?_⟩
     rintro rfl
     exact hj (mR hN e1 (I.ok.inj _ _ _ e hc ▸ hi))
  .by_cases QV:c'=c
   .subst QV;exact⟨_,DV⟩
   .obtain⟨w2,z2⟩:=I.cell y c' e
    exact⟨w2,z2.sameBut hs QV⟩
  .obtain⟨e,n,ne,nf,d⟩:=I.pin p hp
   refine⟨(hs.2 p.1 ?_).trans e,n,ne,nf,d⟩
   intro q
   rw[q,L9]at e
   have q':oc=p.2:=aao e
   exact d w' (by rw[<- q'];exact QF)
theorem fU{x:Str}(I:Inv X pins σ H s)(hN:X.N.Nodup)(hi:X.N[i]?=some x)(hx:Loc X.env.scope x)(r:RelV v u)
  (h:∀s',Inv X pins (σ.set i (some v)) H s'->Q () s') (hf:X.fn x=true\/X.env.scope.names.lookup x=some .local:=by first|exact .inl rfl|exact .inr rfl|assumption):wpAny M A (storeName X.env x u) Q E s :=
 gD I hN hi hx r (λs' I' _=>h s' I') hf
variable{s':Shared}
theorem Inv.NS{ch:List Addr}(I:Inv X pins σ H s)(ho:s'.os=s.os)(u:Un (HU X.stack) ch H H' s.heap s'.heap)(y6:BD X.prog X.w H' s'.heap)(hg:aen s'.gens)
  (Im:∀b∈ch,(b∈X.ex\/X.s₀.heap.objs.size<=b)/\b≠X.env.locals/\(∀x c,X.env.cells.lookup x=some c->c≠b)/\∀p∈X.pn++pins,p.1≠b):Inv X pins σ H' s':=by
 obtain⟨h',g',d',t',o'⟩:=s'
 have e:o'=s.os:=ho
 subst e
 exact I.call (g':=g') (t':=t') (d':=d') u y6 hg Im
abbrev XK:=Value->Option Addr->Hp->Prop
abbrev St:=List (Option V)
abbrev VK:=V->Hp->Prop
abbrev TE:=St->Hp->VK->Prop
abbrev TT:=St->Hp->(Bool->Hp->Prop)->Prop
abbrev TA:=St->Hp->(List V->Hp->Prop)->Prop
structure Ends where
 nx:St->Hp->Prop
 rt:VK
 bk:St->Hp->Prop:=λ_ _=>False
 ct:St->Hp->Prop:=λ_ _=>False
abbrev TS:=Ends->St->Hp->Prop
def EP(X:Cx)(pins:List (Addr×Obj))(σ:St)(Q:VK)(u:Value)(s':Shared):Prop:=∃v H',Inv X pins σ H' s'/\RelV v u/\Q v H'
def TP(X:Cx)(pins:List (Addr×Obj))(σ:St)(Q:Bool->Hp->Prop)(b:Bool)(s':Shared):Prop:=∃H',Inv X pins σ H' s'/\Q b H'
def AP(X:Cx)(pins:List (Addr×Obj))(σ:St)(Q:List V->Hp->Prop)(us:List Value)(s':Shared):Prop:=∃vs H',Inv X pins σ H' s'/\oF vs us/\Q vs H'
def SP(X:Cx)(pins:List (Addr×Obj))(D:Ends)(f:Flow)(s':Shared):Prop :=
 match f with
 |.next=>∃σ' H',Inv X pins σ' H' s'/\D.nx σ' H'
 |.brk=>∃σ' H',Inv X pins σ' H' s'/\D.bk σ' H'
 |.cont=>∃σ' H',Inv X pins σ' H' s'/\D.ct σ' H'
 |.ret u=>∃v σ' H',Inv X pins σ' H' s'/\RelV v u/\D.rt v H'
def PE(X:Cx)(e:Expr)(t:TE):Prop :=
 ∀(pins:List (Addr×Obj)) (s:Shared) (σ:St) (H:Hp) (Q:VK),Inv X pins σ H s->t σ H Q->wpAny (model X.prog X.w) X.A (eval e X.env) (EP X pins σ Q) X.xe s
def PT(X:Cx)(e:Expr)(t:TT):Prop :=
 ∀(pins:List (Addr×Obj)) (s:Shared) (σ:St) (H:Hp) (Q:Bool->Hp->Prop),Inv X pins σ H s->t σ H Q->wpAny (model X.prog X.w) X.A (isTrue e X.env (eval e X.env)) (TP X pins σ Q) X.xe s
def PW(X:Cx)(e:Expr)(t:TT):Prop :=
 ∀(whole:Sem Value) (pins:List (Addr×Obj)) (s:Shared) (σ:St) (H:Hp) (Q:Bool->Hp->Prop),Inv X pins σ H s->t σ H Q->wpAny (model X.prog X.w) X.A (isTrue e X.env whole) (TP X pins σ Q) X.xe s
theorem PW.pt{e:Expr}{t:TT}(h:PW X e t):PT X e t:=h _
def PA(X:Cx)(es:List Expr)(t:TA):Prop :=
 ∀(pos:Pos) (pins:List (Addr×Obj)) (s:Shared) (σ:St) (H:Hp) (Q:List V->Hp->Prop),Inv X pins σ H s->t σ H Q->wpAny (model X.prog X.w) X.A (spliced (backTo pos (aam es X.env))) (AP X pins σ Q) X.xe s
def PS(X:Cx)(st:Stmt)(t:TS):Prop :=
 ∀(pins:List (Addr×Obj)) (s:Shared) (σ:St) (H:Hp) (D:Ends),Inv X pins σ H s->t D σ H->wpAny (model X.prog X.w) X.A (exec st X.env) (SP X pins D) X.xe s
def FN(X:Cx)(st:List Stmt)(t:TS):Prop :=
 ∀(pins:List (Addr×Obj)) (s:Shared) (σ:St) (H:Hp) (D:Ends),Inv X pins σ H s->t D σ H->wpAny (model X.prog X.w) X.A (execs st X.env) (SP X pins D) X.xe s
theorem zC{t:Sem α}{Q Q':α->Shared->Prop}(h:wpAny M A t Q E s)(hQ:∀a s,Q a s->Q' a s):wpAny M A t Q' E s:=aaT h hQ λ_ _ x=>x
def zK(i:Nat):TE:=λσ H Q=>∃v,σ[i]?=some (some v)/\Q v H
def tC(v:V):TE:=λ_ H Q=>Q v H
variable{pos:Pos}
theorem xl{x:Str}(hN:X.N[i]?=some x)(hv:Ek X.env.scope x)(hd:(x==("__debug__" : Str))=false:=by decide)(Dr:(x==("__classdict__" : Str))=false:=by decide):PE X (.Name x pos) (zK i):=by
 intro pins s σ H Q I h
 obtain⟨v,e,h⟩:=h
 obtain⟨m,hn,hl⟩:=I.loc
 obtain⟨u,r,l⟩:=hl i x v hN e hv
 have fin:EP X pins σ Q u s:=⟨v,H,I,r,h⟩
 rcases l with ⟨hk,hm⟩|⟨hk,c,hc,AZ⟩
 .exact aeD (wpAny_loadName_local I.ok.kind hk hn hm fin) hd
 .rcases hk with hk|hk
  .exact aeD (wpAny_loadName_cell I.ok.kind hk hc AZ fin) hd
  .exact aeD (wpAny_loadName_free I.ok.kind hk hc AZ fin Dr) hd
theorem aE{i j pos}:PE X (.Constant (.int i) j pos) (tC (.int i)):=λ_ _ _ H _ I h=>wpAny_Constant_int ⟨.int i,H,I.tok _,⟨_,rfl⟩,h⟩
theorem yD{b j pos}:PE X (.Constant (.bool b) j pos) (tC (.bl b)):=λ_ _ _ H _ I h=>Constant_bool ⟨.bl b,H,I,rfl,h⟩
theorem qY{j pos}:PE X (.Constant .none j pos) (tC .oR):=λ_ _ _ H _ I h=>Constant_none ⟨.oR,H,I,rfl,h⟩
theorem xn{x j pos}:PE X (.Constant (.str x) j pos) (tC (.str x)):=λ_ _ _ H _ I h=>Calls.Constant_str ⟨.str x,H,I.tok _,⟨_,rfl⟩,h⟩
def Gl(X:Cx)(x:Str):Prop:=X.env.kindOf x=some .globalImplicit
theorem pd{σ:St}{x:Str}{Q:Value->Shared->Prop}(I:Inv X pins σ H s)(hg:Gl X x)(hm:X.mg x=some u)(h:Q u s)
  (hd:(x==("__debug__" : Str))=false:=by decide):wpAny (model X.prog X.w) X.A (eval (.Name x pos) X.env) Q E s :=
 afq I.ok.kind hg (Calls.loadGlobal_global (by rw[I.ok.glob];exact I.mod.glob.keeps I.bk) hm h) hd
theorem cV{σ:St}{x:Str}{Q:Value->Shared->Prop}(I:Inv X pins σ H s)(hg:Gl X x)(hm:X.mg x=none)(hv:aco x=some u)(h:Q u s)
  (hn:x ≠ "__name__" :=by decide) (hd:(x==("__debug__" : Str))=false:=by decide):wpAny (model X.prog X.w) X.A (eval (.Name x pos) X.env) Q E s:=by
 obtain⟨mb,h1,h2⟩:=I.mod.blt
 exact afq I.ok.kind hg (Calls.loadGlobal_builtin (by rw[I.ok.glob];exact I.mod.glob.keeps I.bk) hm (by rw[I.ok.blt];exact h1.keeps I.bk) ((h2 x hn).trans hv) h) hd
theorem vk{x:Str}(hg:Gl X x)(hm:X.mg x=some u)(r:RelV v u)(hd:(x==("__debug__" : Str))=false:=by decide):PE X (.Name x pos) (tC v) :=
 λ_ _ _ H _ I h=>pd I hg hm ⟨v,H,I,r,h⟩ hd
theorem vp{x:Str}(hg:Gl X x)(hm:X.mg x=none)(hv:aco x=some u)(r:RelV v u)(hn:x ≠ "__name__" :=by decide)(hd:(x==("__debug__" : Str))=false:=by decide):PE X (.Name x pos) (tC v) :=
 λ_ _ _ H _ I h=>cV I hg hm hv ⟨v,H,I,r,h⟩ hn hd
variable{a b:Expr}{ta tb:TE}
variable{tA Oi:TT}{rest:List Expr}
def Ez(t u:TT):TT:=λσ H Q=>t σ H λc H1=>if c=true then u σ H1 Q else Q false H1
def Gw(t u:TT):TT:=λσ H Q=>t σ H λc H1=>if c=true then Q true H1 else u σ H1 Q
def Bn(t:TT):TT:=λσ H Q=>t σ H λc H1=>Q (!c) H1
theorem pw_and1(ha:PT X a tA):PW X (.BoolOp .And [a] pos) tA:=by
 intro wh pins s σ H Q I h
 refine isTrue_and (zC (ha pins s σ H Q I h) λc s1 e=>?_)
 cases c with
 |true=>exact isTrue_and_nil e
 |false=>exact e
theorem pw_or1(ha:PT X a tA):PW X (.BoolOp .Or [a] pos) tA:=by
 intro wh pins s σ H Q I h
 refine isTrue_or (zC (ha pins s σ H Q I h) λc s1 e=>?_)
 cases c with
 |false=>exact isTrue_or_nil e
 |true=>exact e
theorem pw_and(ha:PT X a tA)(hb:PW X (.BoolOp .And (b::rest) pos) Oi):PW X (.BoolOp .And (a::b::rest) pos) (Ez tA Oi):=by
 intro wh pins s σ H Q I h
 refine isTrue_and (zC (ha pins s σ H _ I h) λc s1 ⟨H1,I1,q1⟩=>?_)
 cases c with
 |true=>exact hb wh pins s1 σ H1 Q I1 q1
 |false=>exact⟨H1,I1,q1⟩
theorem pw_or(ha:PT X a tA)(hb:PW X (.BoolOp .Or (b::rest) pos) Oi):PW X (.BoolOp .Or (a::b::rest) pos) (Gw tA Oi):=by
 intro wh pins s σ H Q I h
 refine isTrue_or (zC (ha pins s σ H _ I h) λc s1 ⟨H1,I1,q1⟩=>?_)
 cases c with
 |true=>exact⟨H1,I1,q1⟩
 |false=>exact hb wh pins s1 σ H1 Q I1 q1
theorem xg(ha:PT X a tA):PT X (.UnaryOp .Not a pos) (Bn tA):=by
 intro pins s σ H Q I h
 exact isTrue_not (ha pins s σ H (λc H1=>Q (!c) H1) I h)
def MC(ta tb:TE):TE:=λσ H Q=>ta σ H λx H1=>∃c,x=.bl c/\if c=true then tb σ H1 Q else Q (.bl false) H1
def Mv(ta:TE):TE:=λσ H Q=>ta σ H λx H1=>∃c,x=.bl c/\Q (.bl (!c)) H1
theorem xp{op}{t:TE}(h:PE X a t):PE X (.BoolOp op [a] pos) t:=λpins s σ H Q I hw=>BoolOp_one (h pins s σ H Q I hw)
theorem xt(ha:PE X a ta)(hb:PE X (.BoolOp .And (b::rest) pos) tb):PE X (.BoolOp .And (a::b::rest) pos) (MC ta tb):=by
 intro pins s σ H Q I h
 refine BoolOp_and (zC (ha pins s σ H _ I h) λv s1 ⟨x,H1,I1,r1,q1⟩=>?_)
 obtain⟨c,rfl,q1⟩:=q1
 cases r1
 refine abn ?_
 cases c with
 |true=>exact hb pins s1 σ H1 Q I1 q1
 |false=>exact⟨.bl false,H1,I1,rfl,q1⟩
theorem xq(ha:PE X a ta):PE X (.UnaryOp .Not a pos) (Mv ta):=by
 intro pins s σ H Q I h
 refine UnaryOp_ (zC (ha pins s σ H _ I h) λv s1 ⟨x,H1,I1,r1,q1⟩=>?_)
 obtain⟨c,rfl,q1⟩:=q1
 cases r1
 exact not_of (abn ⟨.bl (!c),H1,I1,rfl,q1⟩)
def Tb(t:TT)(ta tb:TE):TE:=λσ H Q=>t σ H λc H1=>if c=true then ta σ H1 Q else tb σ H1 Q
variable{c:Expr}
theorem tL(hc:PT X c tA)(ha:PE X a ta)(hb:PE X b tb):PE X (.IfExp c a b pos) (Tb tA ta tb):=by
 intro pins s σ H Q I h
 refine wpAny_IfExp (zC (hc pins s σ H _ I h) λd s1 ⟨H1,I1,q1⟩=>?_)
 cases d with
 |true=>exact ha pins s1 σ H1 Q I1 q1
 |false=>exact hb pins s1 σ H1 Q I1 q1
def An(K:aag)(H:Hp)(a:Addr)(xs:List V):Prop :=
 Rd H a (.lst xs) \/
  ∃(o:Obj) (eQ:Array Value) (n:Nat),K.lookup a=some o/\o.cls=.type "list" /\ o.dict=none/\o.data=.seq eQ n/\eQ.size<=sizeLine/\oF xs eQ.toList
def zW(K:aag)(H:Hp)(a:Addr)(xs:List V):Prop :=
 Rd H a (.tup xs) \/
  ∃(o:Obj) (eQ:Array Value) (n:Nat),K.lookup a=some o/\o.cls=.type "tuple" /\ o.data=.seq eQ n/\eQ.size<=sizeLine/\oF xs eQ.toList
def Rq:Value->Option V
 |.none=>some .oR
 |.bool b=>some (.bl b)
 |.int i _=>some (.int i)
 |.str x _=>some (.str x)
 |.bytes b _=>some (.GW b)
 |.float b _=>some (.Mj b)
 |.ref a=>some (.ref a)
 |.type n=>some (.ty n)
 |_=>none
theorem RelV.abs{x:V}(r:RelV x u):Rq u=some x:=by
 cases x with
 |oR=>cases r;rfl
 |bl _=>cases r;rfl
 |int _=>obtain⟨t,rfl⟩:=r;rfl
 |str _=>obtain⟨t,rfl⟩:=r;rfl
 |GW _=>obtain⟨t,rfl⟩:=r;rfl
 |Mj _=>obtain⟨t,rfl⟩:=r;rfl
 |ref _=>cases r;rfl
 |ty _=>cases r;rfl
variable{y:V}
theorem RelV.inj{x:V}(r:RelV x u)(q:RelV y u):x=y:=aao (r.abs.symm.trans q.abs)
theorem oF.inj:∀{xs ys:List V} {us:List Value},oF xs us->oF ys us->xs=ys
 |_,_,_,.nil,.nil=>rfl
 |_,_,_,.cons r t,.cons r' t'=>by rw[r.inj r',oF.inj t t']
variable{σ:St}{a:Addr}{ys:List V}
variable{K:aag}
theorem An.of(h:H a=some (.lst xs)):An K H a xs:=.inl (.inl h)
theorem Inv.list(I:Inv X pins σ H s)(h:An X.K H a xs):∃eQ:List Value,oF xs eQ/\PlainL s.heap a eQ.toArray/\xs.length<=sizeLine:=by
 rcases h with h|⟨o,eQ,n,hk,hc,hd,hs,hz,r⟩
 .obtain⟨z,eQ,n,r,e⟩:=h.ok I.y6
  exact⟨eQ,r,⟨_,n,e,rfl,rfl,rfl⟩,z⟩
 .refine⟨eQ.toList,r,⟨o,n,I.Ea a o hk,hc,hd,by simpa using hs⟩,?_⟩
  have e:=r.length
  simp only[abI]at e
  omega
theorem Inv.tuple(I:Inv X pins σ H s)(h:zW X.K H a xs):∃eQ:List Value,oF xs eQ/\IsTup s.heap a eQ.toArray/\xs.length<=sizeLine:=by
 rcases h with h|⟨o,eQ,n,hk,hc,hs,hz,r⟩
 .obtain⟨z,eQ,r,p⟩:=h.ok I.y6
  exact⟨eQ,r,p,z⟩
 .refine⟨eQ.toList,r,⟨o,I.Ea a o hk,hc,n,by simpa using hs⟩,?_⟩
  have e:=r.length
  simp only[abI]at e
  omega
theorem Inv.EJ(I:Inv X pins σ H s)(h:An X.K H a xs)(h':An X.K H a ys):xs=ys:=by
 obtain⟨eQ,r,⟨o,n,e,_,_,d⟩,_⟩:=I.list h
 obtain⟨its',r',⟨o',n',e',_,_,d'⟩,_⟩:=I.list h'
 rw[e]at e';cases e'
 rw[d]at d'
 injection d' with d1 _
 have:eQ=its':=by simpa using congrArg Array.toList d1
 subst this
 exact r.inj r'
theorem Inv.Ar(I:Inv X pins σ H s)(h:zW X.K H a xs)(h':zW X.K H a ys):xs=ys:=by
 obtain⟨eQ,r,⟨o,e,_,n,d⟩,_⟩:=I.tuple h
 obtain⟨its',r',⟨o',e',_,n',d'⟩,_⟩:=I.tuple h'
 rw[e]at e';cases e'
 rw[d]at d'
 injection d' with d1 _
 have:eQ=its':=by simpa using congrArg Array.toList d1
 subst this
 exact r.inj r'
abbrev Cx.DE(X:Cx)(E:Value->Shared->Prop):Cx:={X with xe:=E}
abbrev Cx.Hz(X:Cx):Cx:=X.DE λ_ _=>False
theorem Cx.Ok.DE(ok:X.Ok)(E:Value->Shared->Prop):(X.DE E).Ok :=
 ⟨ok.mod,ok.kind,ok.glob,ok.blt,ok.above,ok.inj,ok.has,ok.NT,ok.hd,ok.frames,ok.Oj,ok.Sz,ok.bs,ok.JR,ok.HA,ok.Je,ok.Dt,ok.Mi⟩
theorem Cx.Ok.Bl(ok:(X.DE E).Ok):X.Ok :=
 ⟨ok.mod,ok.kind,ok.glob,ok.blt,ok.above,ok.inj,ok.has,ok.NT,ok.hd,ok.frames,ok.Oj,ok.Sz,ok.bs,ok.JR,ok.HA,ok.Je,ok.Dt,ok.Mi⟩
theorem Inv.DE(I:Inv X pins σ H s)(E:Value->Shared->Prop):Inv (X.DE E) pins σ H s:=⟨I.ok.DE E,I.os,I.bare,I.base,I.loc,I.cell,I.free,I.Bc,I.pin,I.y6,I.len⟩
theorem Inv.Bl(I:Inv (X.DE E) pins σ H s):Inv X pins σ H s:=⟨I.ok.Bl,I.os,I.bare,I.base,I.loc,I.cell,I.free,I.Bc,I.pin,I.y6,I.len⟩
theorem SP.Bl{D:Ends}{f:Flow}(h:SP (X.DE E) pins D f s'):SP X pins D f s':=by
 cases f with
 |next=>obtain⟨σ',H',I,q⟩:=h;exact⟨σ',H',I.Bl,q⟩
 |brk=>obtain⟨σ',H',I,q⟩:=h;exact⟨σ',H',I.Bl,q⟩
 |cont=>obtain⟨σ',H',I,q⟩:=h;exact⟨σ',H',I.Bl,q⟩
 |ret u=>obtain⟨v,σ',H',I,r,q⟩:=h;exact⟨v,σ',H',I.Bl,r,q⟩
theorem FN.Hz{st:List Stmt}{t:TS}(h:FN X.Hz st t):FN X st t:=λpins s σ H D I hw=>
 aaT (h pins s σ H D (I.DE _) hw) (λ_ _ q=>q.Bl) λ_ _ z=>acV z
variable{st:Stmt}{rest:List Stmt}{t u:TS}{e:Expr}{te:TE}
def Jt:TS:=λD σ H=>D.nx σ H
def Hj(t u:TS):TS:=λD σ H=>t {D with nx:=u D} σ H
theorem oW:FN X [] Jt:=λ_ _ σ H _ I h=>adY ⟨σ,H,I,h⟩
theorem bO(h1:PS X st t)(h2:FN X rest u):FN X (st::rest) (Hj t u):=by
 intro pins s σ H D I h
 refine wpAny_execs_cons (zC (h1 pins s σ H {D with nx:=u D} I h) λf s1 q=>?_)
 cases f with
 |next=>
  obtain⟨σ',H',I',q⟩:=q
  exact h2 pins s1 σ' H' D I' q
 |ret v=>exact q
 |brk=>exact q
 |cont=>exact q
theorem dy(h1:PS X st t):FN X [st] t:=by
 intro pins s σ H D I h
 refine wpAny_execs_cons (zC (h1 pins s σ H D I h) λf s1 q=>?_)
 cases f with
 |next=>exact adY q
 |ret v=>exact q
 |brk=>exact q
 |cont=>exact q
theorem Inv.quiet(I:Inv X pins σ H s):interactive X.env=false:=by simp[interactive,I.ok.kind]
def My(te:TE):TS:=λD σ H=>te σ H λ_ H1=>D.nx σ H1
theorem ko(he:PE X e te)(hs:acl e none pos.line X.env=pure false:=by rfl):PS X (.Expr e pos) (My te):=by
 intro pins s σ H D I h
 exact wpAny_Expr_any (zC (he pins s σ H _ I h) λv s1 ⟨x,H1,I1,r1,q1⟩=>⟨σ,H1,I1,q1⟩) I.quiet hs
def Kg(te:TE):TS:=λD σ H=>te σ H D.rt
theorem fm(he:PE X e te):PS X (.Return (some e) pos) (Kg te):=by
 intro pins s σ H D I h
 exact wpAny_Return_some (zC (he pins s σ H _ I h) λv s1 ⟨x,H1,I1,r1,q1⟩=>⟨x,σ,H1,I1,r1,q1⟩)
def Mx(c:TT)(t u:TS):TS:=λD σ H=>c σ H λb H1=>if b=true then t D σ H1 else u D σ H1
theorem uO{a b:List Stmt}{tc:TT}(hc:PT X c tc)(ha:FN X a t)(hb:FN X b u):PS X (.If c a b pos) (Mx tc t u):=by
 intro pins s σ H D I h
 refine wpAny_If (zC (hc pins s σ H _ I h) λd s1 ⟨H1,I1,q1⟩=>?_)
 cases d with
 |true=>exact ha pins s1 σ H1 D I1 q1
 |false=>exact hb pins s1 σ H1 D I1 q1
abbrev TG:=V->St->Hp->(St->Hp->Prop)->Prop
abbrev G9:=List V->St->Hp->(St->Hp->Prop)->Prop
def PG(X:Cx)(target:Expr)(t:TG):Prop :=
 ∀(pins:List (Addr×Obj)) (s:Shared) (σ:St) (H:Hp) (v:V) (u:Value) (Q:St->Hp->Prop),Inv X pins σ H s->RelV v u->t v σ H Q ->
  wpAny (model X.prog X.w) X.A (assign target X.env u) (λ_ s'=>∃σ' H',Inv X pins σ' H' s'/\Q σ' H') X.xe s
def NZ(X:Cx)(ts:List Expr)(t:G9):Prop :=
 ∀(pins:List (Addr×Obj)) (s:Shared) (σ:St) (H:Hp) (vs:List V) (us:List Value) (Q:St->Hp->Prop),Inv X pins σ H s->oF vs us->t vs σ H Q ->
  wpAny (model X.prog X.w) X.A (assignInOrder ((acv ts X.env).map (·.2)) us) (λ_ s'=>∃σ' H',Inv X pins σ' H' s'/\Q σ' H') X.xe s
abbrev Ia:=V->V->V->Hp->(Hp->Prop)->Prop
def E1(X:Cx)(t:Ia):Prop :=
 ∀(pins:List (Addr×Obj)) (s:Shared) (σ:St) (H:Hp) (o i v:V) (ov iv u:Value) (Q:Hp->Prop),Inv X pins σ H s->RelV o ov->RelV i iv->RelV v u->t o i v H Q ->
  wpAny (model X.prog X.w) X.A (setItem ov iv u) (λ_ s'=>∃H',Inv X pins σ H' s'/\Q H') X.xe s
def AG(i:Nat):TG:=λv σ H Q=>Q (σ.set i (some v)) H
theorem aD{x:Str}(hN:X.N.Nodup)(hi:X.N[i]?=some x)(hx:Loc X.env.scope x)(hf:X.fn x=true\/X.env.scope.names.lookup x=some .local:=by first|exact .inl rfl|exact .inr rfl|assumption):PG X (.Name x pos) (AG i):=by
 intro pins s σ H v u Q I r h
 exact aeC (fU I hN hi hx r (λs' I'=>⟨_,H,I',h⟩) hf)
def Lk:G9:=λvs σ H Q=>vs=[]/\Q σ H
def ET(t:TG)(u:G9):G9:=λvs σ H Q=>∃v r,vs=v::r/\t v σ H λσ' H'=>u r σ' H' Q
theorem kC:NZ X [] Lk:=by
 intro pins s σ H vs us Q I r h
 obtain⟨e,h⟩:=h
 subst e
 cases r
 exact assignInOrder_nil ⟨σ,H,I,h⟩
theorem dL{es:List Expr}{t:TG}{u:G9}(h1:PG X e t)(h2:NZ X es u)
  (hs:(acv (e::es) X.env).map (·.2)=assign e X.env::(acv es X.env).map (·.2):=by rfl):NZ X (e::es) (ET t u):=by
 intro pins s σ H vs us Q I r h
 obtain⟨v,vr,e1,h⟩:=h
 subst e1
 cases r with
 |cons r rr=>
  rw[hs]
  refine aes (zC (h1 pins s σ H _ _ _ I r h) λ_ s1 ⟨σ1,H1,I1,q1⟩=>?_)
  exact h2 pins s1 σ1 H1 _ _ Q I1 rr q1
def Li(K:aag)(n:Nat)(t:G9):TG:=λv σ H Q=>∃a xs,v=.ref a/\zW K H a xs/\xs.length=n/\t xs σ H Q
variable{k n:Nat}
theorem mK{es:List Expr}{t:G9}(hc:X.calm=true)(h:NZ X es t)
  (hn:(acv es X.env).length=n:=by rfl) (EN:(acv es X.env).findIdx? (·.1)=none:=by rfl):PG X (.Tuple es k pos) (Li X.K n t):=by
 intro pins s σ H v u Q I r hw
 obtain⟨a,xs,e1,hq,hl,hw⟩:=hw
 subst e1
 cases r
 obtain⟨eQ,rv,ht,hz⟩:=I.tuple hq
 refine assign_Tuple_tuple (I.ok.hd hc) ht (by simp[hn,<- hl,rv.length]) EN λh' hx=>?_
 have I1:Inv X pins σ H {s with heap:=h'}:=I.kept (t':=s.toks) λb o e=>hx b o (aav (aak e)) e
 exact h pins _ σ H xs _ Q I1 (by simpa using rv) hw
def Lj(to ti:TE)(t:Ia):TG:=λv σ H Q=>to σ H λo H1=>ti σ H1 λi H2=>t o i v H2 λH3=>Q σ H3
theorem mL{o i:Expr}{to ti:TE}{t:Ia}(ho:PE X o to)(hi:PE X i ti)(hs:E1 X t)
  (ha:∀v,assign (.Subscript o i pos) X.env v=(do
   let ov <- acS [v] (eval o X.env)
   let iv <- acS [v,ov] (eval i X.env)
   standAt pos
   acS [v,ov,iv] (setItem ov iv v)
   release [v,ov,iv] []):=by intro _;rfl):PG X (.Subscript o i pos) (Lj to ti t):=by
 intro pins s σ H v u Q I r h
 rw[ha]
 refine aaa (aaU (zC (ho pins s σ H _ I h) λov s1 ⟨x,H1,I1,r1,q1⟩=>?_))
 refine aaa (aaU (zC (hi pins s1 σ H1 _ I1 q1) λiv s2 ⟨y,H2,I2,r2,q2⟩=>?_))
 refine aaa (acH (aaa (aaU (zC (hs pins s2 σ H2 x y v ov iv u _ I2 r1 r2 r q2) λ_ s3 ⟨H3,I3,q3⟩=>?_))))
 exact wpAny_release ⟨σ,H3,I3,q3⟩
def Ff(te:TE)(g:TG):TS:=λD σ H=>te σ H λx H1=>g x σ H1 D.nx
variable{tg:Expr}
theorem jB{g:TG}(he:PE X e te)(hg:PG X tg g)(hs:adK [tg] e pos.line X.env=pure false:=by rfl)(hw:adL [tg] e X.env=pure none:=by rfl)
  (h1:(acv [tg] X.env).map (·.2)=[assign tg X.env]:=by rfl):PS X (.Assign [tg] e pos) (Ff te g):=by
 intro pins s σ H D I h
 refine wpAny_Assign_stores (zC (he pins s σ H _ I h) λv s1 ⟨x,H1,I1,r1,q1⟩=>?_) hs hw
 rw[h1]
 exact zC (hg pins s1 σ H1 x v _ I1 r1 q1) λ_ s2 q=>q
variable{pos':Pos}
theorem fj{x:Str}(hN:X.N.Nodup)(hi:X.N[i]?=some x)(hx:Loc X.env.scope x)(he:PE X e te)(hs:acl e (some (.Name x pos')) pos.line X.env=pure false:=by rfl)(hf:X.fn x=true\/X.env.scope.names.lookup x=some .local:=by first|exact .inl rfl|exact .inr rfl|assumption):
  PS X (.Assign [.Name x pos'] e pos) (Ff te (AG i)):=by
 intro pins s σ H D I h
 refine wpAny_Assign_Name (zC (he pins s σ H _ I h) λv s1 ⟨y,H1,I1,r1,q1⟩=>?_) hs
 exact fU I1 hN hi hx r1 (λs2 I2=>⟨_,H1,I2,q1⟩) hf
def Pu(i j:Nat)(ta:TA):TS:=λD σ H=>ta σ H λvs H1=>∃v w,vs=[v,w]/\D.nx ((σ.set i (some v)).set j (some w)) H1
variable{py:Pos}
theorem xh{x y:Str}{a:Expr}{ta:TA}{px pt:Pos}{kt k2 pt2}(hc:X.calm=true)(hN:X.N.Nodup)(hi:X.N[i]?=some x)(hj:X.N[j]?=some y)(CN:i≠j)
  (hx:X.env.scope.names.lookup x=some .local) (hy:X.env.scope.names.lookup y=some .local) (ha:PA X [a,b] ta)
  (hw:adL [.Tuple [.Name x px,.Name y py] kt pt] (.Tuple [a,b] k2 pt2) X.env=pure (some [x,y]))
  (hs:adK [.Tuple [.Name x px,.Name y py] kt pt] (.Tuple [a,b] k2 pt2) pos.line X.env=pure false:=by rfl) :
  PS X (.Assign [.Tuple [.Name x px,.Name y py] kt pt] (.Tuple [a,b] k2 pt2) pos) (Pu i j ta):=by
 intro pins s σ H D I h
 rw[exec_Assign_arm]
 refine aaa (acH ?_)
 rw[hs]
 refine aaa (aah ?_)
 rw[if_neg (by decide)]
 refine aaa (Tuple_ (zC (ha _ pins s σ H _ I h) λus s1 ⟨vs,H1,I1,r1,q1⟩=>?_))
 obtain⟨v,w,e1,q1⟩:=q1
 subst e1
 obtain⟨u1,u2,rfl,rv,CJ⟩:∃u1 u2,us=[u1,u2]/\RelV v u1/\RelV w u2:=by
  cases r1 with
  |cons p q=>
   cases q with
   |cons p' q'=>
    cases q'
    exact⟨_,_,rfl,p,p'⟩
 refine abQ ?_ (by show 2<=sizeLine;decide)
 have I2:Inv X pins σ H1 {s1 with heap:=s1.heap.push {cls:=.type "tuple",data:=.seq [u1,u2].toArray}}:=I1.kept (t':=s1.toks) λb o e=>aac _ e
 rw[hw]
 refine aaa (aah ?_)
 show wpAny (model X.prog X.w) X.A (do rule "assign.swapped-stores"; let items <- unpackItems (.ref s1.heap.objs.size) 2 none;assignInOrder [λv=>bindName X.env y v,λv=>bindName X.env x v] items.reverse;pure Flow.next) _ _ _
 refine aaa (ady (aaa (unpackItems_tuple (items:=#[u1,u2]) (I.ok.hd hc) (afo s1.heap _) λh' Qr=>?_)))
 have I3:=I2.kept (h':=h') (t':=s1.toks) λb o e=>Qr b o (aav (aak e)) e
 show wpAny _ _ (assignInOrder [λv=>bindName X.env y v,λv=>bindName X.env x v] [u2,u1] >>= λ_=>pure Flow.next) _ _ _
 refine aaa (aes (wpAny_bindName (fU I3 hN hj (.inl hy) CJ (λs2 I4=>?_) (.inr hy))))
 refine aes (wpAny_bindName (fU I4 hN hi (.inl hx) rv (λs3 I5=>assignInOrder_nil (aah ?_)) (.inr hx)))
 rw[List.set_comm _ _ (abW CN)]at I5
 exact⟨_,H1,I5,q1⟩
def Ke(c:TT)(tb:TS):TS:=λD σ H=>∃W:Nat->St->Hp->Prop,(∃m,W m σ H)/\∀m σ H,W m σ H ->
 c σ H λb H1=>if b=true then ∃N:St->Hp->Prop,(∀σ' H',N σ' H'->∃m',m'<m/\W m' σ' H')/\tb {D with nx:=N,ct:=N,bk:=D.nx} σ H1 else D.nx σ H1
variable{body:List Stmt}
theorem mI{tc:TT}{tb:TS}(hp:PassesOwn (model X.prog X.w) X.A X.env X.xe)(hc:PT X c tc)(hb:FN X body tb):PS X (.While c body [] pos) (Ke tc tb):=by
 intro pins s σ H D I h
 obtain⟨W,⟨m0,w0⟩,turn⟩:=h
 refine wpAny_While (codeAny_whileLoop (λn s'=>∃σ' H',Inv X pins σ' H' s'/\W n σ' H') ?_ m0 ⟨σ,H,I,w0⟩)
 rintro n s1 ⟨σ1,H1,I1,w1⟩
 refine acC hp (zC (hc pins s1 σ1 H1 _ I1 (turn n σ1 H1 w1)) λb s2 ⟨H2,I2,q2⟩=>?_)
 cases b with
 |true=>
  obtain⟨N,hN,q2⟩:=q2
  rw[if_pos rfl]
  refine acC hp (zC (hb pins s2 σ1 H2 _ I2 q2) λf s3 q3=>?_)
  cases f with
  |next=>
   obtain⟨σ3,H3,I3,n3⟩:=q3
   obtain⟨m',hm,w3⟩:=hN σ3 H3 n3
   exact⟨m',hm,σ3,H3,I3,w3⟩
  |cont=>
   obtain⟨σ3,H3,I3,n3⟩:=q3
   obtain⟨m',hm,w3⟩:=hN σ3 H3 n3
   exact⟨m',hm,σ3,H3,I3,w3⟩
  |brk=>exact q3
  |ret v=>exact q3
 |false=>
  rw[if_neg aaB]
  exact adY ⟨σ1,H2,I2,q2⟩
structure It where
 go:Nat->Hp->Prop
 yld:Nat->Hp->V->Hp->Prop
 stop:Nat->Hp->Prop
def BG(X:Cx)(pins:List (Addr×Obj))(H:Hp)(b:Addr):Prop :=
 H b=none/\b≠X.env.locals/\b∉X.fs/\(b∈X.ex\/X.s₀.heap.objs.size<=b)/\(∀x c,X.env.cells.lookup x=some c->c≠b)/\∀p∈X.pn++pins,p.1≠b
theorem Inv.EU{b:Addr}(I:Inv X pins σ H s)(hb:s.heap.objs.size<=b)(hn:H' b=none):BG X pins H' b:=by
 refine⟨hn,ab5 (aaA I.lt hb),I.P7 hb,.inr (abg I.sz hb),λx c e z=>?_,λp hp z=>?_⟩
 .obtain⟨v,q⟩:=I.cell x c e
  exact absurd (aaA q.lt (by rw[z];exact hb)) (abi _)
 .exact absurd (aaA (aak (I.pin p hp).1) (by rw[z];exact hb)) (abi _)
structure Turn(P:aaH)(w:World)(K:aag)(tg:Expr)(J:It)(fp:List Addr)(it:Addr)(tn:Nat->Heap->Prop):Prop where
 mem:it∈fp
 obj:∀i h,tn i h->∀b∈fp,∃o,h.get? b=some o/\∀v,o.data≠.cell v
 keep:∀i h h',tn i h->(∀b∈fp,∀o,h.get? b=some o->h'.get? b=some o)->tn i h'
 item:∀(X:Cx),X.prog=P->X.w=w->X.K=K->X.calm=true->∀(i:Nat) (pins:List (Addr×Obj)) (s:Shared) (σ:St) (H:Hp) (E:Value->Shared->Prop),Inv X pins σ H s->(∀b∈fp,BG X pins H b)->tn i s.heap->J.go i H ->
  wpAny (model P w) X.A (pyNext (.ref it)) (λr s1=>∃u,r=some u /\
   wpAny (model P w) X.A (adZ tg (.ref it) u) (λ_ s2=>∃x H',Inv X pins σ H' s2/\RelV x u/\J.yld i H x H'/\tn (i+1) s2.heap/\∀b∈fp,H' b=none) E s1) E s
 done:∀(X:Cx),X.prog=P->X.w=w->X.K=K->X.calm=true->∀(i:Nat) (pins:List (Addr×Obj)) (s:Shared) (σ:St) (H:Hp) (E:Value->Shared->Prop),Inv X pins σ H s->(∀b∈fp,BG X pins H b)->tn i s.heap->J.stop i H ->
  wpAny (model P w) X.A (pyNext (.ref it)) (λr s1=>r=none/\Inv X pins σ H s1) E s
 self:∀(A:Around) (i:Nat) (s:Shared) (Q:Value->Shared->Prop) (E:Value->Shared->Prop),tn i s.heap->Q (.ref it) s->wpAny (model P w) A (pyIter (.ref it)) Q E s
abbrev TI:=St->Hp->(It->Hp->Prop)->Prop
def SM(X:Cx)(pins:List (Addr×Obj))(σ:St)(tg:Expr)(R:It->Hp->Prop)(OB:Value)(s2:Shared):Prop :=
 ∃(it:Addr) (fp:List Addr) (tn:Nat->Heap->Prop) (J:It) (H':Hp),OB=.ref it/\Inv X pins σ H' s2/\Turn X.prog X.w X.K tg J fp it tn/\tn 0 s2.heap/\(∀b∈fp,BG X pins H' b)/\R J H'
def PI(X:Cx)(tg iter:Expr)(wi:TI):Prop :=
 ∀(pins:List (Addr×Obj)) (s:Shared) (σ:St) (H:Hp) (R:It->Hp->Prop),Inv X pins σ H s->wi σ H R ->
  wpAny (model X.prog X.w) X.A (eval iter X.env) (λv s1=>wpAny (model X.prog X.w) X.A (pyIter v) (SM X pins σ tg R) X.xe s1) X.xe s
theorem mq{u:Value}{o:Obj}{n:String}{vs:Array Value}(ho:s.heap.get? it=some o)(hc:o.cls=.type n)(hd:o.data=.fields vs)
  (hn:["enumerate", "zip", "dict_itemiterator", "dict_reverseitemiterator", "odict_iterator", "itertools.zip_longest", "itertools.pairwise"].contains n=false) (hQ:Q () s):wpAny M A (adZ tg (.ref it) u) Q E s:=by
 unfold adZ
 cases tg<;>first
  |exact aah hQ
  |(cases u<;>first
    |exact aah hQ
    |(
      refine aaa (wpAny_load ho ?_)
      rw[hc,hd]
      show wpAny M A (if (["enumerate", "zip", "dict_itemiterator", "dict_reverseitemiterator", "odict_iterator", "itertools.zip_longest", "itertools.pairwise"].contains n && vs[0]?==some (rawInt _))=true then _ else _) Q E s
      rw[if_neg (by intro h;rw[hn,Bool.false_and]at h;cases h)]
      exact aah hQ))
def Iv(K:aag)(a:Addr):It :=
 ⟨λi H=>∃xs x,An K H a xs/\xs[i]?=some x,λi H x H'=>H'=H/\∀xs,An K H a xs->xs[i]?=some x,λi H=>∃xs,An K H a xs/\xs.length<=i⟩
def Rx(K:aag)(a:Addr):It :=
 ⟨λi H=>∃xs x,zW K H a xs/\xs[i]?=some x,λi H x H'=>H'=H/\∀xs,zW K H a xs->xs[i]?=some x,λi H=>∃xs,zW K H a xs/\xs.length<=i⟩
def O0(lo:Int)(n:Nat):It:=⟨λi _=>i<n,λi H x H'=>H'=H/\x=.int (lo+i),λi _=>n<=i⟩
theorem lj(a it:Addr):Turn P w K tg (Iv K a) [it] it (λi h=>h.IsListIter it a i) where
 mem:=by simp
 obj:=λi h st b hb=>by
  have e:b=it:=by simpa using hb
  subst e
  obtain⟨o,e,c,d⟩:=st
  exact⟨o,e,λv z=>by rw[d]at z;cases z⟩
 keep:=λi h h' st k=>st.at λo e=>k it (by simp) o e
 item:=by
  intro X hP hw hK hc i pins s σ H E I hf st hg
  subst hP hw hK
  obtain⟨xs,x,hq,hx⟩:=hg
  obtain⟨eQ,rv,p,hz⟩:=I.list hq
  obtain⟨u,hu,ru⟩:=rv.get hx
  obtain⟨f0,f1,f2,f3,f4,f5⟩:=hf it (by simp)
  refine acy st p.isList (x:=u) (by simpa using hu) λh' DH sb=>?_
  have I1:Inv X pins σ H {s with heap:=h'}:=I.turned (t':=s.toks) (λb o hb e=>(sb.2 b hb).trans e) f0 f1 f3 f4 f5
  obtain⟨o,e,c,d⟩:=id DH
  exact⟨u,rfl,mq (s:={s with heap:=h'}) e c d (by decide) ⟨x,H,I1,ru,⟨rfl,λys hy=>by rw[I.EJ hy hq];exact hx⟩,DH,λb hb=>(hf b hb).1⟩⟩
 done:=by
  intro X hP hw hK hc i pins s σ H E I hf st hg
  subst hP hw hK
  obtain⟨xs,hq,hx⟩:=hg
  obtain⟨eQ,rv,p,hz⟩:=I.list hq
  obtain⟨f0,f1,f2,f3,f4,f5⟩:=hf it (by simp)
  have hl:=rv.length
  exact adX (I.ok.hd hc) st p.isList (by simp;omega) λh' eb=>⟨rfl,I.turned (t':=s.toks) (λb o hb e=>eb b o hb e) f0 f1 f3 f4 f5⟩
 self:=λ_ _ _ _ _ st h=>wpAny_pyIter_listiter st h
theorem pQ(a it:Addr):Turn P w K tg (Rx K a) [it] it (λi h=>h.IsTupleIter it a i) where
 mem:=by simp
 obj:=λi h st b hb=>by
  have e:b=it:=by simpa using hb
  subst e
  obtain⟨o,e,c,d⟩:=st
  exact⟨o,e,λv z=>by rw[d]at z;cases z⟩
 keep:=λi h h' st k=>st.at λo e=>k it (by simp) o e
 item:=by
  intro X hP hw hK hc i pins s σ H E I hf st hg
  subst hP hw hK
  obtain⟨xs,x,hq,hx⟩:=hg
  obtain⟨eQ,rv,p,hz⟩:=I.tuple hq
  obtain⟨u,hu,ru⟩:=rv.get hx
  obtain⟨f0,f1,f2,f3,f4,f5⟩:=hf it (by simp)
  refine adJ st (show s.heap.IsTuple a eQ.toArray from p) (x:=u) (by simpa using hu) λh' DH sb=>?_
  have I1:Inv X pins σ H {s with heap:=h'}:=I.turned (t':=s.toks) (λb o hb e=>(sb.2 b hb).trans e) f0 f1 f3 f4 f5
  obtain⟨o,e,c,d⟩:=id DH
  exact⟨u,rfl,mq (s:={s with heap:=h'}) e c d (by decide) ⟨x,H,I1,ru,⟨rfl,λys hy=>by rw[I.Ar hy hq];exact hx⟩,DH,λb hb=>(hf b hb).1⟩⟩
 done:=by
  intro X hP hw hK hc i pins s σ H E I hf st hg
  subst hP hw hK
  obtain⟨xs,hq,hx⟩:=hg
  obtain⟨eQ,rv,p,hz⟩:=I.tuple hq
  obtain⟨f0,f1,f2,f3,f4,f5⟩:=hf it (by simp)
  have hl:=rv.length
  exact adU (I.ok.hd hc) st (show s.heap.IsTuple a eQ.toArray from p) (by simp;omega) λh' eb=>⟨rfl,I.turned (t':=s.toks) (λb o hb e=>eb b o hb e) f0 f1 f3 f4 f5⟩
 self:=λ_ _ _ _ _ st h=>wpAny_pyIter_tupleiter st h
theorem pR(it:Addr)(lo:Int)(n:Nat):Turn P w K tg (O0 lo n) [it] it (λi h=>IsRangeIter h it (lo+(i:Nat)*1) ((n:Int) - (i:Nat)) 1) where
 mem:=by simp
 obj:=λi h st b hb=>by
  have e:b=it:=by simpa using hb
  subst e
  exact⟨_,st,λv z=>by
   have z':abO _=aey v:=z
   cases z'⟩
 keep:=λi h h' st k=>k it (by simp) _ st
 item:=by
  intro X hP hw hK hc i pins s σ H E I hf st hg
  subst hP hw hK
  obtain⟨f0,f1,f2,f3,f4,f5⟩:=hf it (by simp)
  have W:=Walks.range (prog:=X.prog) (w:=X.w) (I.ok.hd hc) it lo 1 n
  refine W.item i s _ _ hg st λv h' tk hv DH kk=>?_
  obtain⟨t,rfl⟩:=hv
  have I1:Inv X pins σ H {s with heap:=h',toks:=tk}:=I.turned (λb o hb e=>kk b o (by simpa using hb) e) f0 f1 f3 f4 f5
  refine⟨_,rfl,mq (s:={s with heap:=h',toks:=tk}) (n := "range_iterator") DH rfl rfl (by decide) ⟨.int (lo+i),H,I1,⟨t,?_⟩,⟨rfl,rfl⟩,DH,λb hb=>(hf b hb).1⟩⟩
  rw[Int.mul_one]
 done:=by
  intro X hP hw hK hc i pins s σ H E I hf st hg
  subst hP hw hK
  obtain⟨f0,f1,f2,f3,f4,f5⟩:=hf it (by simp)
  exact wpAny_pyNext_range_end (I.ok.hd hc) st (by have:n<=i:=hg;omega) λh' eb=>⟨rfl,I.turned (t':=s.toks) (λb o hb e=>eb b o hb e) f0 f1 f3 f4 f5⟩
 self:=λ_ _ _ _ _ st h=>wpAny_pyIter_rangeiter st h
def Nl(K:aag)(tl:TE):TI:=λσ H R=>tl σ H λx H1=>∃a,x=.ref a/\(∃xs,An K H1 a xs)/\R (Iv K a) H1
theorem oY{l:Expr}{tl:TE}(hl:PE X l tl):PI X tg l (Nl X.K tl):=by
 intro pins s σ H R I h
 refine zC (hl pins s σ H _ I h) λv s1 ⟨x,H1,I1,r1,q1⟩=>?_
 obtain⟨a,e,⟨xs,hq⟩,q⟩:=q1
 subst e
 cases r1
 obtain⟨eQ,rv,p,hz⟩:=I1.list hq
 refine acI p.isList ?_
 refine⟨s1.heap.objs.size,[s1.heap.objs.size],_,_,H1,rfl,I1.kept (t':=s1.toks) λb o e=>aac _ e,lj a _,⟨_,aai _ rfl,rfl,rfl⟩,λb hb=>?_,q⟩
 have e:b=s1.heap.objs.size:=by simpa using hb
 subst e
 exact I1.EU (aal _) (I1.y6.fresh (aal _))
theorem tw{R:It->Hp->Prop}{lo hi:Int}{t u v:Tok}{tk:Nat}(I:Inv X pins σ H s)(h1 : -(2 ^ 62)<=lo)(h2:lo<2 ^ 62)(h3 : -(2 ^ 62)<=hi)(h4:hi<2 ^ 62)
  (q:R (O0 lo (hi - lo).toNat) H):wpAny (model X.prog X.w) X.A (pyIter (.ref s.heap.objs.size)) (SM X pins σ tg R) E {s with heap:=s.heap.push {cls:=.type "range",data:=.fields #[.int lo t,.int hi u,.int 1 v]},toks:=tk}:=by
 refine wpAny_pyIter_range (IsRange.new ..) (small_one h1 h2 h3 h4) ?_
 have I1:Inv X pins σ H {s with heap:=s.heap.push {cls:=.type "range",data:=.fields #[.int lo t,.int hi u,.int 1 v]},toks:=tk}:=I.kept λb o e=>aac _ e
 refine⟨(s.heap.push {cls:=.type "range",data:=.fields #[.int lo t,.int hi u,.int 1 v]}).objs.size,[(s.heap.push {cls:=.type "range",data:=.fields #[.int lo t,.int hi u,.int 1 v]}).objs.size],_,_,H,rfl,
  I1.kept (t':=tk) λb o e=>aac _ e,pR _ lo (hi - lo).toNat,?_,λb hb=>?_,q⟩
 .have e1:lo+((0:Nat):Int)*1=lo:=by simp
  have e2:(((hi - lo).toNat:Nat):Int) - ((0:Nat):Int)=Builtin.Range.rangeSize lo hi 1:=by rw[rangeSize_one];split<;>omega
  show IsRangeIter _ _ (lo+((0:Nat):Int)*1) ((((hi - lo).toNat:Nat):Int) - ((0:Nat):Int)) 1
  rw[e1,e2]
  exact aai _ rfl
 .have e:b=(s.heap.push {cls:=.type "range",data:=.fields #[.int lo t,.int hi u,.int 1 v]}).objs.size:=by simpa using hb
  subst e
  exact I1.EU (aal _) (I1.y6.fresh (aal _))
def Nk(ta:TA):TI:=λσ H R=>ta σ H λvs H1=>∃j:Int,vs=[.int j] /\ -(2 ^ 62)<=j/\j<2 ^ 62/\R (O0 0 j.toNat) H1
variable{p:Pos}
theorem qV{a:Expr}{ta:TA}(hg:Gl X "range")(hm:X.mg "range" = none)(ha:PA X [a] ta)(hs:aam [a] X.env=[(false,eval a X.env)]:=by rfl):PI X tg (.Call (.Name "range" p) [a] [] pos) (Nk ta):=by
 intro pins s σ H R I h
 refine Call_ (cV I hg hm boot_range (acD (zC (ha pos pins s σ H _ I h) λus s1 ⟨vs,H1,I1,r1,q1⟩=>?_) hs rfl))
 obtain⟨j,e,q1,q2,q⟩:=q1
 subst e
 cases r1 with
 |cons r rr=>
  cases rr
  obtain⟨t,rfl⟩:=r
  exact call_range_1 (tw I1 (by omega) (by omega) q1 q2 (by simpa using q))
def Px(wi:TI)(g:TG)(tb:TS):TS:=λD σ H=>wi σ H λJ H1=>∃W:Nat->Nat->St->Hp->Prop,(∃m,W 0 m σ H1)/\∀i m σ H,W i m σ H ->
 (J.stop i H/\D.nx σ H)\/(J.go i H/\∃N:St->Hp->Prop,(∀σ' H',N σ' H'->∃m',m'<m/\W (i+1) m' σ' H')/\∀x H',J.yld i H x H'->g x σ H' λσ2 H2=>tb {D with nx:=N,ct:=N,bk:=D.nx} σ2 H2)
def Co(fp:List Addr)(h:Heap):List (Addr×Obj):=fp.filterMap λb=>(h.get? b).map λo=>(b,o)
variable{fp:List Addr}
theorem bS{b:Addr}{o:Obj}(hb:b∈fp)(e:h.get? b=some o):(b,o)∈Co fp h:=List.mem_filterMap.mpr ⟨b,hb,by rw[e];rfl⟩
theorem rC{p:Addr×Obj}(hp:p∈Co fp h):p.1∈fp/\h.get? p.1=some p.2:=by
 obtain⟨b,hb,e⟩:=List.mem_filterMap.mp hp
 cases q:h.get? b with
 |none=>rw[q]at e;cases e
 |some o=>
  rw[q]at e
  have e':(b,o)=p:=aao e
  subst e'
  exact⟨hb,q⟩
theorem Inv.pinned(I:Inv X pins σ H s)(hf:∀b∈fp,BG X pins H b)(ho:∀b∈fp,∃o,s.heap.get? b=some o/\∀v,o.data≠.cell v):Inv X (pins++Co fp s.heap) σ H s :=
 I.F9 λp hp=>(List.mem_append.mp hp).elim (λz=>I.pin p (aay _ z)) λz=>by
  obtain⟨hb,e⟩:=rC z
  obtain⟨f0,f1,f2,_⟩:=hf p.1 hb
  obtain⟨o,e',d⟩:=ho p.1 hb
  rw[e]at e';cases e'
  exact⟨e,f0,f1,f2,d⟩
theorem Inv.Bm{pl:List (Addr×Obj)}(I:Inv X (pins++pl) σ H s):Inv X pins σ H s:=I.F9 λp hp=>I.pin p (aay _ (aaQ _ hp))
theorem qQ{iter:Expr}{wi:TI}{g:TG}{tb:TS}(hp:PassesOwn (model X.prog X.w) X.A X.env X.xe)(hc:X.calm=true)(hi:PI X tg iter wi)(hg:PG X tg g)(hb:FN X body tb)
  (hs:∀x,aa4 iter X.env x=pure x:=by intro _;rfl):PS X (.For tg iter body [] pos) (Px wi g tb):=by
 intro pins s σ H D I h
 refine wpAny_For (zC (hi pins s σ H _ I h) λv s1 h1=>zC h1 λOB s2 h2=>?_) hs
 obtain⟨it,fp,tn,J,H2,e,I2,T,Kk,f2,W,⟨m0,w0⟩,turn⟩:=h2
 subst e
 have Ki:∀{H':Hp},(∀b∈fp,H' b=none)->∀b∈fp,BG X pins H' b:=λhn b hb=>⟨hn b hb,(f2 b hb).2⟩
 refine codeAny_forLoop_any (λn s'=>∃i σ' H',Inv X pins σ' H' s'/\tn i s'.heap/\(∀b∈fp,H' b=none)/\W i n σ' H') ?_ m0 ⟨0,σ,H2,I2,Kk,λb hb=>(f2 b hb).1,w0⟩
 rintro n s3 ⟨i,σ3,H3,I3,RM,Sx,w3⟩
 rcases turn i n σ3 H3 w3 with ⟨stop,qn⟩|⟨go,N,hN,step⟩
 .refine acC hp (zC (T.done X rfl rfl rfl hc i pins s3 σ3 H3 X.xe I3 (Ki Sx) RM stop) λr s4 ⟨hr,I4⟩=>?_)
  subst hr
  exact adY ⟨σ3,H3,I4,qn⟩
 .refine acC hp (zC (T.item X rfl rfl rfl hc i pins s3 σ3 H3 X.xe I3 (Ki Sx) RM go) λr s4 ⟨u,hr,h4⟩=>?_)
  subst hr
  refine acC hp (zC h4 λ_ s5 ⟨x,H5,I5,r5,y5,Iz,Ll⟩=>?_)
  have Vk:=I5.pinned (Ki Ll) (T.obj _ _ Iz)
  refine acC hp (zC (hg _ s5 σ3 H5 x u _ Vk r5 (step x H5 y5)) λ_ s6 ⟨σ6,H6,I6,q6⟩=>?_)
  refine acC hp (zC (hb _ s6 σ6 H6 _ I6 q6) λf s7 q7=>?_)
  have again:∀{σ7:St} {H7:Hp},Inv X (pins++Co fp s5.heap) σ7 H7 s7->N σ7 H7->∃m,m<n/\∃i σ' H',Inv X pins σ' H' s7/\tn i s7.heap/\(∀b∈fp,H' b=none)/\W i m σ' H':=λ{σ7 H7} I7 n7=>by
   obtain⟨m',hm,w7⟩:=hN σ7 H7 n7
   refine⟨m',hm,i+1,σ7,H7,I7.Bm,T.keep _ _ _ Iz λb hb o e=>(I7.pin (b,o) (aay _ (aay _ (bS hb e)))).1,λb hb=>?_,w7⟩
   obtain⟨o,e,d⟩:=T.obj _ _ Iz b hb
   exact(I7.pin (b,o) (aay _ (aay _ (bS hb e)))).2.1
  cases f with
  |next=>obtain⟨σ7,H7,I7,n7⟩:=q7;exact again I7 n7
  |cont=>obtain⟨σ7,H7,I7,n7⟩:=q7;exact again I7 n7
  |brk=>obtain⟨σ7,H7,I7,q7⟩:=q7;exact⟨σ7,H7,I7.Bm,q7⟩
  |ret v=>obtain⟨x7,σ7,H7,I7,r7,q7⟩:=q7;exact⟨x7,σ7,H7,I7.Bm,r7,q7⟩
theorem uj{g:TG}{tb:TS}{D:Ends}(Pv:Nat->St->Hp->Prop)(h0:Pv 0 σ H)(hl:∀i σ H,i<=xs.length->Pv i σ H->An K H a xs)
  (hs:∀i x σ H,xs[i]?=some x->Pv i σ H->g x σ H λσ2 H2=>tb {D with nx:=Pv (i+1),ct:=Pv (i+1),bk:=D.nx} σ2 H2) (hd:∀σ H,Pv xs.length σ H->D.nx σ H) :
  ∃W:Nat->Nat->St->Hp->Prop,(∃m,W 0 m σ H)/\∀i m σ H,W i m σ H ->
   ((Iv K a).stop i H/\D.nx σ H)\/((Iv K a).go i H/\∃N:St->Hp->Prop,(∀σ' H',N σ' H'->∃m',m'<m/\W (i+1) m' σ' H')/\∀x H',(Iv K a).yld i H x H'->g x σ H' λσ2 H2=>tb {D with nx:=N,ct:=N,bk:=D.nx} σ2 H2):=by
 refine⟨λi m σ H=>m=xs.length - i/\i<=xs.length/\Pv i σ H,⟨xs.length,by simp,aaN _,h0⟩,?_⟩
 rintro i m σ H ⟨rfl,hi,p⟩
 have q:=hl i σ H hi p
 by_cases zT:i<xs.length
 .refine .inr ⟨⟨xs,xs[i],q,by simp[zT]⟩,Pv (i+1),λσ' H' p'=>⟨xs.length - (i+1),by omega,rfl,zT,p'⟩,λx H' y=>?_⟩
  obtain⟨e,y⟩:=y
  subst e
  exact hs i x σ _ (y xs q) p
 .have e:i=xs.length:=by omega
  subst e
  exact .inl ⟨⟨xs,q,aal _⟩,hd σ H p⟩
abbrev R2:=V->V->Hp->VK->Prop
def zH(X:Cx)(f:Value->Value->Sem Value)(r:R2):Prop :=
 ∀(pins:List (Addr×Obj)) (s:Shared) (σ:St) (H:Hp) (x y:V) (v u:Value) (Q:VK),Inv X pins σ H s->RelV x v->RelV y u->r x y H Q ->
  wpAny (model X.prog X.w) X.A (f v u) (EP X pins σ Q) X.xe s
def Rt(X:Cx)(f:Value->Sem Value)(r:V->Hp->VK->Prop):Prop :=
 ∀(pins:List (Addr×Obj)) (s:Shared) (σ:St) (H:Hp) (x:V) (v:Value) (Q:VK),Inv X pins σ H s->RelV x v->r x H Q ->
  wpAny (model X.prog X.w) X.A (f v) (EP X pins σ Q) X.xe s
def zg(X:Cx)(f:Value)(r:List V->Hp->VK->Prop):Prop :=
 ∀(pins:List (Addr×Obj)) (s:Shared) (σ:St) (H:Hp) (xs:List V) (us:List Value) (Q:VK),Inv X pins σ H s->oF xs us->r xs H Q ->
  wpAny (model X.prog X.w) X.A (call f us) (EP X pins σ Q) X.xe s
def Ru(X:Cx)(r:V->Hp->(Bool->Hp->Prop)->Prop):Prop :=
 ∀(pins:List (Addr×Obj)) (s:Shared) (σ:St) (H:Hp) (x:V) (v:Value) (Q:Bool->Hp->Prop),Inv X pins σ H s->RelV x v->r x H Q ->
  wpAny (model X.prog X.w) X.A (truthy v) (TP X pins σ Q) X.xe s
def CZ(r:R2)(ta tb:TE):TE:=λσ H Q=>ta σ H λx H1=>tb σ H1 λy H2=>r x y H2 Q
def Pq(r:V->Hp->VK->Prop)(ta:TE):TE:=λσ H Q=>ta σ H λx H1=>r x H1 Q
def rI(C:Int->Int->Prop)(g:Int->Int->V):R2:=λx y H Q=>∃i j,x=.int i/\y=.int j/\C i j/\Q (g i j) H
def Fn(g:Int->Int->V):R2:=λx y H Q=>∃i j,x=.int i/\y=.int j/\Q (g i j) H
def rU(g:Int->V):V->Hp->VK->Prop:=λx H Q=>∃i,x=.int i/\Q (g i) H
variable{a:Expr}{tc:TE}
theorem Lz(ha:PE X a ta)(hb:PE X b tb){R:V->V->Hp->Prop}(I:Inv X pins σ H s)
  (h:ta σ H λx H1=>tb σ H1 λy H2=>R x y H2) {Q:Value->Shared->Prop} {f:Value->Value->Sem Value}
  (hf:∀v u s2 x y H2,Inv X pins σ H2 s2->RelV x v->RelV y u->R x y H2->wpAny (model X.prog X.w) X.A (f v u) Q X.xe s2) :
  wpAny (model X.prog X.w) X.A (eval a X.env) (λv s₁=>wpAny (model X.prog X.w) X.A (eval b X.env) (λu s₂=>wpAny (model X.prog X.w) X.A (f v u) Q X.xe s₂) X.xe s₁) X.xe s:=by
 refine zC (ha pins s σ H _ I h) λv s1 ⟨x,H1,I1,r1,q1⟩=>?_
 refine zC (hb pins s1 σ H1 _ I1 q1) λu s2 ⟨y,H2,I2,r2,q2⟩=>?_
 exact hf v u s2 x y H2 I2 r1 r2 q2
variable{r:R2}
theorem bq{op:Operator}(ho:zH X (acq op) r)(ha:PE X a ta)(hb:PE X b tb):PE X (.BinOp a op b pos) (CZ r ta tb):=by
 intro pins s σ H Q I h
 exact wpAny_BinOp (Lz ha hb I h λv u s2 x y H2 I2 rx ry q=>ho pins s2 σ H2 x y v u Q I2 rx ry q)
theorem uQ{op:UnaryOp}{r:V->Hp->VK->Prop}(ho:Rt X (unaryOp op) r)(ha:PE X a ta):PE X (.UnaryOp op a pos) (Pq r ta):=by
 intro pins s σ H Q I h
 exact UnaryOp_ (zC (ha pins s σ H _ I h) λv s1 ⟨x,H1,I1,r1,q1⟩=>ho pins s1 σ H1 x v Q I1 r1 q1)
variable{f:Value->Value->Sem Value}
theorem Ot{C:Int->Int->Prop}{g:Int->Int->Int}
  (rule:∀(i j:Int) (t u:Tok) (s:Shared) (Q:Value->Shared->Prop) (E:Value->Shared->Prop),C i j->Q (.int (g i j) s.toks) {s with toks:=s.toks+1}->wpAny (model X.prog X.w) X.A (f (.int i t) (.int j u)) Q E s) :
  zH X f (rI C λi j=>.int (g i j)):=by
 intro pins s σ H x y v u Q I rx ry h
 obtain⟨i,j,rfl,rfl,hc,q⟩:=h
 obtain⟨t,rfl⟩:=rx
 obtain⟨t',rfl⟩:=ry
 exact rule i j t t' s _ _ hc ⟨.int (g i j),H,I.tok _,⟨_,rfl⟩,q⟩
theorem MT{g:Int->Int->Int}
  (rule:∀(i j:Int) (t u:Tok) (s:Shared) (Q:Value->Shared->Prop) (E:Value->Shared->Prop),Q (.int (g i j) s.toks) {s with toks:=s.toks+1}->wpAny (model X.prog X.w) X.A (f (.int i t) (.int j u)) Q E s) :
  zH X f (Fn λi j=>.int (g i j)):=by
 intro pins s σ H x y v u Q I rx ry h
 obtain⟨i,j,rfl,rfl,q⟩:=h
 obtain⟨t,rfl⟩:=rx
 obtain⟨t',rfl⟩:=ry
 exact rule i j t t' s _ _ ⟨.int (g i j),H,I.tok _,⟨_,rfl⟩,q⟩
theorem IH{g:Int->Int->Bool}
  (rule:∀(i j:Int) (t u:Tok) (s:Shared) (Q:Value->Shared->Prop) (E:Value->Shared->Prop),Q (.bool (g i j)) s->wpAny (model X.prog X.w) X.A (f (.int i t) (.int j u)) Q E s) :
  zH X f (Fn λi j=>.bl (g i j)):=by
 intro pins s σ H x y v u Q I rx ry h
 obtain⟨i,j,rfl,rfl,q⟩:=h
 obtain⟨t,rfl⟩:=rx
 obtain⟨t',rfl⟩:=ry
 exact rule i j t t' s _ _ ⟨.bl (g i j),H,I,rfl,q⟩
def LJ(i j:Int):Prop:=0<j/\j<1073741824
def RG(i j:Int):Prop:=0<=j/\j<=1000000/\i.natAbs<2 ^ 64
def G2(i j:Int):Prop:=(-(2 ^ 64)<i/\i<2 ^ 64)\/(-(2 ^ 64)<j/\j<2 ^ 64)
theorem G2.ok{i j:Int}(h:G2 i j):IntMulOk i j:=by
 rcases h with ⟨h1,h2⟩|⟨h1,h2⟩
 .exact .of_left (intBits_le_64 h1 h2)
 .exact .of_right (intBits_le_64 h1 h2)
theorem gQ:zH X (acq .Add) (Fn λi j=>.int (i+j)):=MT λ_ _ _ _ _ _ _ q=>add_int q
theorem xA:zH X (acq .Sub) (Fn λi j=>.int (i - j)):=MT λ_ _ _ _ _ _ _ q=>sub_int q
theorem jG:zH X (acq .Mult) (rI G2 λi j=>.int (i*j)):=Ot λ_ _ _ _ _ _ _ hc q=>mul_int q hc.ok
theorem kG:zH X (acq .FloorDiv) (rI LJ λi j=>.int (i / j)):=Ot λi j _ _ _ _ _ hc q=>by
 have h1:(0:Int)<j:=hc.1
 have h2:j<1073741824:=hc.2
 exact floordiv_int (by omega) (by rw[Int.fdiv_eq_ediv_of_nonneg i (by omega)];exact q) (.inl (PyProof.noPylong_small (by omega)))
theorem dM:zH X (acq .Mod) (rI (λ_ j=>0<j) λi j=>.int (i % j)):=Ot λi j _ _ _ _ _ hc q=>by
 have h1:(0:Int)<j:=hc
 exact mod_int' (by omega) (by rw[Int.fmod_eq_emod_of_nonneg i (by omega)];exact q)
theorem mO:zH X (acq .Pow) (rI RG λi j=>.int (i ^ j.toNat)):=Ot λ_ _ _ _ _ _ _ hc q=>pow_int_small hc.1 hc.2.1 hc.2.2 q
theorem S6{f:Value->Sem Value}{g:Int->Int}
  (rule:∀(i:Int) (t:Tok) (s:Shared) (Q:Value->Shared->Prop) (E:Value->Shared->Prop),Q (.int (g i) s.toks) {s with toks:=s.toks+1}->wpAny (model X.prog X.w) X.A (f (.int i t)) Q E s) :
  Rt X f (rU λi=>.int (g i)):=by
 intro pins s σ H x v Q I rx h
 obtain⟨i,rfl,q⟩:=h
 obtain⟨t,rfl⟩:=rx
 exact rule i t s _ _ ⟨.int (g i),H,I.tok _,⟨_,rfl⟩,q⟩
theorem qE:Rt X (unaryOp .USub) (rU λi=>.int (-i)):=S6 λ_ _ _ _ _ q=>neg_int q
def IC:V->V->Bool
 |.oR,.oR=>true|.oR,.int _=>true|.int _,.oR=>true|.oR,.bl _=>true|.bl _,.oR=>true|.oR,.str _=>true|.str _,.oR=>true
 |.int _,.int _=>true|.bl _,.bl _=>true|.str _,.str _=>true|.GW _,.GW _=>true
 |.int _,.str _=>true|.str _,.int _=>true|.bl _,.str _=>true|.str _,.bl _=>true
 |_,_=>false
def Tg:R2:=λx y H Q=>IC x y=true/\Q (.bl (decide (x=y))) H
def PU:R2:=λx y H Q=>IC x y=true/\Q (.bl (!decide (x=y))) H
theorem pD{i j:Int}:decide (V.int i=V.int j)=(i==j):=by
 rw[aaS]
 simp
theorem sE{i j:Bool}:decide (V.bl i=V.bl j)=(i==j):=by
 rw[aaS]
 simp
theorem pC{i j:Str}:decide (V.str i=V.str j)=(i==j):=by
 rw[aaS]
 simp
theorem pE{i j:Array UInt8}:decide (V.GW i=V.GW j)=(i.toList==j.toList):=by
 rw[aaS]
 cases i
 cases j
 simp
theorem aF{Q:VK}{k k':Bool}(I:Inv X pins σ H s)(q:Q (.bl k) H)(e:k=k'):EP X pins σ Q (.bool k') s:=by
 subst e
 exact⟨.bl k,H,I,rfl,q⟩
theorem yJ:zH X (aaE .Eq) Tg:=by
 intro pins s σ H x y v u Q I rx ry h
 obtain⟨hs,q⟩:=h
 cases x with
 |oR=>
  cases rx
  cases y with
  |oR=>cases ry;exact PySem.EqNone.eq_none_none (aF I q (by simp))
  |bl j=>cases ry;exact PySem.EqNone.eq_none_bool (aF I q (by simp))
  |int j=>obtain⟨t',rfl⟩:=ry;exact PySem.EqNone.eq_none_int (aF I q (by simp))
  |str j=>obtain⟨t',rfl⟩:=ry;exact PySem.EqNone.eq_none_str (aF I q (by simp))
  |_=>exact absurd (show false=true from hs) aaB
 |bl i=>
  cases rx
  cases y with
  |oR=>cases ry;exact PySem.EqNone.eq_bool_none (aF I q (by simp))
  |bl j=>cases ry;exact eq_bool (aF I q sE)
  |str j=>obtain⟨t',rfl⟩:=ry;exact PySem.EqMixed.eq_bool_str (aF I q (by simp))
  |_=>exact absurd (show false=true from hs) aaB
 |int i=>
  obtain⟨t,rfl⟩:=rx
  cases y with
  |oR=>cases ry;exact PySem.EqNone.eq_int_none (aF I q (by simp))
  |int j=>obtain⟨t',rfl⟩:=ry;exact eq_int (aF I q pD)
  |str j=>obtain⟨t',rfl⟩:=ry;exact PySem.EqMixed.eq_int_str (aF I q (by simp))
  |_=>exact absurd (show false=true from hs) aaB
 |str i=>
  obtain⟨t,rfl⟩:=rx
  cases y with
  |oR=>cases ry;exact PySem.EqNone.eq_str_none (aF I q (by simp))
  |bl j=>cases ry;exact PySem.EqMixed.eq_str_bool (aF I q (by simp))
  |int j=>obtain⟨t',rfl⟩:=ry;exact PySem.EqMixed.eq_str_int (aF I q (by simp))
  |str j=>obtain⟨t',rfl⟩:=ry;exact eq_str (aF I q pC)
  |_=>exact absurd (show false=true from hs) aaB
 |GW i=>
  obtain⟨t,rfl⟩:=rx
  cases y with
  |GW j=>obtain⟨t',rfl⟩:=ry;exact PySem.W.eq_bytes (aF I q pE)
  |_=>exact absurd (show false=true from hs) aaB
 |_=>cases y<;>exact absurd (show false=true from hs) aaB
theorem yE:zH X (aaE .NotEq) PU:=by
 intro pins s σ H x y v u Q I rx ry h
 obtain⟨hs,q⟩:=h
 cases x with
 |oR=>
  cases rx
  cases y with
  |oR=>cases ry;exact PySem.EqNone.ne_none_none (aF I q (by simp))
  |bl j=>cases ry;exact PySem.EqNone.ne_none_bool (aF I q (by simp))
  |int j=>obtain⟨t',rfl⟩:=ry;exact PySem.EqNone.ne_none_int (aF I q (by simp))
  |str j=>obtain⟨t',rfl⟩:=ry;exact PySem.EqNone.ne_none_str (aF I q (by simp))
  |_=>exact absurd (show false=true from hs) aaB
 |bl i=>
  cases rx
  cases y with
  |oR=>cases ry;exact PySem.EqNone.ne_bool_none (aF I q (by simp))
  |bl j=>cases ry;exact ne_bool (aF I q (congrArg not sE))
  |str j=>obtain⟨t',rfl⟩:=ry;exact PySem.EqMixed.ne_bool_str (aF I q (by simp))
  |_=>exact absurd (show false=true from hs) aaB
 |int i=>
  obtain⟨t,rfl⟩:=rx
  cases y with
  |oR=>cases ry;exact PySem.EqNone.ne_int_none (aF I q (by simp))
  |int j=>obtain⟨t',rfl⟩:=ry;exact ne_int (aF I q (congrArg not pD))
  |str j=>obtain⟨t',rfl⟩:=ry;exact PySem.EqMixed.ne_int_str (aF I q (by simp))
  |_=>exact absurd (show false=true from hs) aaB
 |str i=>
  obtain⟨t,rfl⟩:=rx
  cases y with
  |oR=>cases ry;exact PySem.EqNone.ne_str_none (aF I q (by simp))
  |bl j=>cases ry;exact PySem.EqMixed.ne_str_bool (aF I q (by simp))
  |int j=>obtain⟨t',rfl⟩:=ry;exact PySem.EqMixed.ne_str_int (aF I q (by simp))
  |str j=>obtain⟨t',rfl⟩:=ry;exact ne_str (aF I q (congrArg not pC))
  |_=>exact absurd (show false=true from hs) aaB
 |GW i=>
  obtain⟨t,rfl⟩:=rx
  cases y with
  |GW j=>obtain⟨t',rfl⟩:=ry;exact PySem.W.ne_bytes (aF I q (congrArg not pE))
  |_=>exact absurd (show false=true from hs) aaB
 |_=>cases y<;>exact absurd (show false=true from hs) aaB
theorem yF:zH X (aaE .Lt) (Fn λi j=>.bl (decide (i<j))):=IH λ_ _ _ _ _ _ _ q=>lt_int q
theorem yG:zH X (aaE .LtE) (Fn λi j=>.bl (decide (i<=j))):=IH λ_ _ _ _ _ _ _ q=>le_int q
theorem yH:zH X (aaE .Gt) (Fn λi j=>.bl (decide (j<i))):=IH λ_ _ _ _ _ _ _ q=>gt_int q
theorem yI:zH X (aaE .GtE) (Fn λi j=>.bl (decide (j<=i))):=IH λ_ _ _ _ _ _ _ q=>ge_int q
theorem rp:zH X (aaE .Lt) (λx y H Q=>∃i j,x=.str i/\y=.str j/\Q (.bl (decide (i.cps.toList<j.cps.toList))) H):=by
 intro pins s σ H x y v u Q I rx ry h
 obtain⟨i,j,rfl,rfl,q⟩:=h
 obtain⟨t,rfl⟩:=rx
 obtain⟨t',rfl⟩:=ry
 exact lt_str (aF I q rfl)
theorem rB:zH X (aaE .In) (λx y H Q=>∃i j,x=.str i/\y=.str j/\Q (.bl (!(ac1 j i 0 j.length 1).isEmpty)) H):=by
 intro pins s σ H x y v u Q I rx ry h
 obtain⟨i,j,rfl,rfl,q⟩:=h
 obtain⟨t,rfl⟩:=rx
 obtain⟨t',rfl⟩:=ry
 exact in_str (aF I q rfl)
theorem xD:zH X (aaE .Is) (λx y H Q=>y=.oR/\Q (.bl (decide (x=.oR))) H):=by
 intro pins s σ H x y v u Q I rx ry h
 obtain⟨rfl,q⟩:=h
 cases ry
 refine is_none_gen (aF I q ?_)
 cases x<;>first
  |(cases rx;rfl)
  |(obtain⟨t,rfl⟩:=rx;rfl)
theorem vJ:zH X (aaE .IsNot) (λx y H Q=>y=.oR/\Q (.bl (!decide (x=.oR))) H):=by
 intro pins s σ H x y v u Q I rx ry h
 obtain⟨rfl,q⟩:=h
 cases ry
 refine isnot_none_gen (aF I q ?_)
 cases x<;>first
  |(cases rx;rfl)
  |(obtain⟨t,rfl⟩:=rx;rfl)
variable{op:CmpOp}
theorem Cp(b:Expr)(h:op≠.In:=by decide)(h2:op≠.NotIn:=by decide):acK op b=false:=by
 have e1:(op==CmpOp.In)=false:=by cases op<;>first|rfl|exact absurd rfl h
 have e2:(op==CmpOp.NotIn)=false:=by cases op<;>first|rfl|exact absurd rfl h2
 cases b<;>simp[acK,e1,e2]
theorem oZ(ho:zH X (aaE op) r)(ha:PE X a ta)(hb:PE X b tb)(hm:acK op b=false):PE X (.Compare a [op] [b] pos) (CZ r ta tb):=by
 intro pins s σ H Q I h
 exact wpAny_Compare1 (Lz ha hb I h λv u s2 x y H2 I2 rx ry q=>ho pins s2 σ H2 x y v u Q I2 rx ry q) hm
def FW(t:TE):TT:=λσ H Q=>t σ H λx H'=>∃k,x=.bl k/\Q k H'
theorem fh(ho:zH X (aaE op) r)(ha:PE X a ta)(hb:PE X b tb)(hm:acK op b=false):PT X (.Compare a [op] [b] pos) (FW (CZ r ta tb)):=by
 intro pins s σ H Q I h
 refine wpAny_isTrue_Compare1 (zC (ha pins s σ H _ I h) λv s1 ⟨x,H1,I1,r1,q1⟩=>zC (hb pins s1 σ H1 _ I1 q1) λu s2 ⟨y,H2,I2,r2,q2⟩=>
  zC (ho pins s2 σ H2 x y v u _ I2 r1 r2 q2) λc s3 ⟨z,H3,I3,r3,k,e,q3⟩=>?_) hm
 subst e
 cases r3
 exact abn ⟨H3,I3,q3⟩
def Fe(r r':R2)(ta tb tc:TE):TE:=λσ H Q=>ta σ H λx H1=>tb σ H1 λy H2=>r x y H2 λz H3=>∃k,z=.bl k /\
 (if k=true then tc σ H3 λw' H4=>r' y w' H4 Q else Q (.bl false) H3)
variable{r':R2}
theorem tM{Fo:CmpOp}(ho:zH X (aaE op) r)(CM:zH X (aaE Fo) r')(ha:PE X a ta)(hb:PE X b tb)(hc:PE X c tc)
  (hm:lastMarks [op,Fo] [b,c]=false:=by with_unfolding_all rfl):PE X (.Compare a [op,Fo] [b,c] pos) (Fe r r' ta tb tc):=by
 intro pins s σ H Q I h
 refine Compare_chain (zC (ha pins s σ H _ I h) λv s1 ⟨x,H1,I1,r1,q1⟩=>chain_link (zC (hb pins s1 σ H1 _ I1 q1) λu s2 ⟨y,H2,I2,r2,q2⟩=>
  zC (ho pins s2 σ H2 x y v u _ I2 r1 r2 q2) λd s3 ⟨z,H3,I3,r3,k,e,q3⟩=>?_)) hm
 subst e
 cases r3
 refine abn ?_
 cases k with
 |false=>exact ite_ff ⟨.bl false,H3,I3,rfl,q3⟩
 |true=>exact ite_tt (chain_last (zC (hc pins s3 σ H3 _ I3 q3) λw' s4 ⟨z',H4,I4,r4,q4⟩=>CM pins s4 σ H4 y z' u w' Q I4 r2 r4 q4))
theorem tF{Fo:CmpOp}(ho:zH X (aaE op) r)(CM:zH X (aaE Fo) r')(ha:PE X a ta)(hb:PE X b tb)(hc:PE X c tc)
  (hm:lastMarks [op,Fo] [b,c]=false:=by with_unfolding_all rfl):PT X (.Compare a [op,Fo] [b,c] pos) (FW (Fe r r' ta tb tc)):=by
 intro pins s σ H Q I h
 refine isTrue_chain (zC (ha pins s σ H _ I h) λv s1 ⟨x,H1,I1,r1,q1⟩=>test_link (zC (hb pins s1 σ H1 _ I1 q1) λu s2 ⟨y,H2,I2,r2,q2⟩=>
  zC (ho pins s2 σ H2 x y v u _ I2 r1 r2 q2) λd s3 ⟨z,H3,I3,r3,k,e,q3⟩=>?_)) hm
 subst e
 cases r3
 refine abn ?_
 cases k with
 |false=>
  obtain⟨k',e',q'⟩:=q3
  cases e'
  exact ite_ff ⟨H3,I3,q'⟩
 |true=>
  refine ite_tt (test_last (zC (hc pins s3 σ H3 _ I3 q3) λw' s4 ⟨z',H4,I4,r4,q4⟩=>zC (CM pins s4 σ H4 y z' u w' _ I4 r2 r4 q4) λd' s5 ⟨z2,H5,I5,r5,k2,e2,q5⟩=>?_))
  subst e2
  cases r5
  exact abn ⟨H5,I5,q5⟩
def NW(K:aag)(x:V)(H:Hp)(k:Bool):Prop :=
 match x with
 |.oR=>k=false
 |.bl b=>k=b
 |.int i=>k=(i != 0)
 |.str y=>y.length<=sizeLine/\k=((y.length:Int) != 0)
 |.GW y=>y.size<=sizeLine/\k=((y.size:Int) != 0)
 |.ref p=>(∃xs,An K H p xs/\k=!xs.isEmpty)\/(∃xs,zW K H p xs/\k=!xs.isEmpty)\/∃kvs,H p=some (.dK kvs)/\k=!kvs.isEmpty
 |_=>False
theorem qk{κ:Type}{kvs:List (κ×V)}{vs:List (κ×Value)}(r:KV kvs vs):(!vs.isEmpty)=!kvs.isEmpty:=by
 cases r<;>rfl
variable{eQ:List Value}
theorem jK(r:oF xs eQ):(!eQ.toArray.isEmpty)=!xs.isEmpty:=by
 cases r<;>simp
theorem BQ:(sizeLine:Nat)<2 ^ 63:=by rw[aaG];decide
theorem w4:Ru X (λx H Q=>∃k,NW X.K x H k/\Q k H):=by
 intro pins s σ H x v Q I rx h
 obtain⟨k,e,q⟩:=h
 have hl:=BQ
 have hs:sizeLine=16777216:=aaG
 cases x with
 |oR=>
  cases rx
  have e':k=false:=e
  subst e'
  exact truthy_none ⟨H,I,q⟩
 |bl b=>
  cases rx
  have e':k=b:=e
  subst e'
  exact abn ⟨H,I,q⟩
 |int i=>
  obtain⟨t,rfl⟩:=rx
  have e':k=(i != 0):=e
  subst e'
  exact PySem.P.truthy_int ⟨H,I,q⟩
 |str y=>
  obtain⟨t,rfl⟩:=rx
  obtain⟨hy,e'⟩:y.length<=sizeLine/\k=((y.length:Int) != 0):=e
  subst e'
  exact PySem.P.truthy_str (by omega) ⟨H,I.tok _,q⟩
 |GW y=>
  obtain⟨t,rfl⟩:=rx
  obtain⟨hy,e'⟩:y.size<=sizeLine/\k=((y.size:Int) != 0):=e
  subst e'
  exact PySem.W.truthy_bytes (by omega) ⟨H,I.tok _,q⟩
 |ref p=>
  cases rx
  have e':(∃xs,An X.K H p xs/\k=!xs.isEmpty)\/(∃xs,zW X.K H p xs/\k=!xs.isEmpty)\/∃kvs,H p=some (.dK kvs)/\k=!kvs.isEmpty:=e
  rcases e' with ⟨xs,hx,e'⟩|⟨xs,hx,e'⟩|⟨kvs,hx,e'⟩
  .subst e'
   obtain⟨eQ,r,pl,hz⟩:=I.list hx
   have hlen:=r.length
   exact wpAny_truthy_list pl.isList (by simp only[aaf];omega) ⟨H,I.tok _,by rw[jK r];exact q⟩
  .subst e'
   obtain⟨eQ,r,pl,hz⟩:=I.tuple hx
   have hlen:=r.length
   exact truthy_tuple pl (by simp only[aaf];omega) ⟨H,I.tok _,by rw[jK r];exact q⟩
  .subst e'
   obtain⟨hz,hS,vs,r,m⟩:kvs.length<=sizeLine/\(p==acJ)=false/\∃vs,KV kvs vs/\s.heap.DictOf (aI X.prog X.w) p vs:=I.y6 p _ hx
   have hlen:kvs.length=vs.length:=aeu r
   exact wpAny_truthy_dict hS m (by omega) ⟨H,I.tok _,by rw[qk r];exact q⟩
 |_=>exact(show False from e).elim
theorem tE(ha:PE X a ta)(he:∀whole,isTrue a X.env whole=(do let v <- whole;standAt a.pos;acS [v] (truthy v))):
  PT X a (λσ H Q=>ta σ H λx H'=>∃k,NW X.K x H' k/\Q k H'):=by
 intro pins s σ H Q I h
 exact isTrue_plain (zC (ha pins s σ H _ I h) λv s1 ⟨x,H1,I1,r1,q1⟩=>w4 pins s1 σ H1 x v Q I1 r1 q1) (he _)
theorem qe:zH X (acq .Add) (λx y H Q=>∃i j,x=.str i/\y=.str j/\i.length+j.length<=sizeLine/\Q (.str (i++j)) H):=by
 intro pins s σ H x y v u Q I rx ry h
 obtain⟨i,j,rfl,rfl,hz,q⟩:=h
 obtain⟨t,rfl⟩:=rx
 obtain⟨t',rfl⟩:=ry
 exact add_str (λt' tk=>⟨.str (i++j),H,I.tok _,⟨_,rfl⟩,q⟩) hz
theorem vals1{x:V}{us:List Value}(r:oF [x] us):∃u,us=[u]/\RelV x u:=by
 cases r with
 |cons r1 r2=>cases r2;exact⟨_,rfl,r1⟩
theorem vals2{x:V}{us:List Value}(r:oF [x,y] us):∃u w',us=[u,w']/\RelV x u/\RelV y w':=by
 cases r with
 |cons r1 r2=>
  cases r2 with
  |cons r3 r4=>cases r4;exact⟨_,_,rfl,r1,r3⟩
theorem nS:zg X (.builtin "abs") (λxs H Q=>∃i,xs=[.int i]/\Q (.int (if i<0 then -i else i)) H):=by
 intro pins s σ H xs us Q I r h
 obtain⟨i,rfl,q⟩:=h
 obtain⟨u,rfl,t,rfl⟩:=vals1 r
 exact call_abs_int λu tk=>⟨.int (if i<0 then -i else i),H,I.tok _,⟨_,rfl⟩,q⟩
theorem sN(hc:X.calm=true):zg X (.builtin "max") (λxs H Q=>∃i j,xs=[.int i,.int j]/\Q (.int (if j > i then j else i)) H):=by
 intro pins s σ H xs us Q I r h
 obtain⟨i,j,rfl,q⟩:=h
 obtain⟨u,w',rfl,⟨t,rfl⟩,⟨t',rfl⟩⟩:=vals2 r
 refine max_two_ints (I.ok.hd hc) λh' tk k=>⟨_,H,I.kept k,?_,q⟩
 by_cases hj:j > i
 .rw[if_pos hj,if_pos hj];exact⟨_,rfl⟩
 .rw[if_neg hj,if_neg hj];exact⟨_,rfl⟩
structure LD(h:Heap)(x dx C:Addr)(mA:Str->Option Value):Prop where
 obj:h.get? x=some (afh C dx)
 ns:h.Ns1 dx mA
 ne:dx≠x
theorem rL{dx:Addr}{mA:Str->Option Value}(n:h.Ns1 dx mA):∃od,h.get? dx=some od/\∀name,aft name od=some (mA name):=by
 obtain⟨o,es,ep,ho,hd,hk,_,hm⟩:=n
 refine⟨o,ho,λname=>?_⟩
 have e:=hm name
 unfold nsFind findBy at e
 rw[<- Array.find?_toList]at e
 unfold aft
 rw[hd]
 dsimp only
 split
 .rename_i y q
  rw[q]at e
  exact congrArg some e
 .rename_i q
  rw[q]at e
  have a:es.toList.any (·.refKey)=false:=by
   rw[List.any_eq_false]
   intro y hy
   obtain⟨z,t,HN⟩:=hk y (Array.mem_toList_iff.mp hy)
   simp[DictEntry.refKey,HN]
  have a':¬ es.toList.any (·.refKey)=true:=by rw[a];exact aaB
  rw[if_neg a']
  exact congrArg some e
variable{C:Addr}
theorem LD.look{dx:Addr}{mA:Str->Option Value}(I:LD h x dx C mA):∃od,PySem.W.InstAt h x (afh C dx) C (some od)/\∀name,aft name od=some (mA name) :=
 let ⟨od,ho,hl⟩:=rL I.ns
 ⟨od,⟨I.obj,rfl,rfl,ho⟩,hl⟩
variable{prog:aaH}{dx f:Addr}{mA:Str->Option Value}{name:Str}{v:Value}
theorem C3.some_of{v:V}{o:Option Value}(r:C3 (some v) o):∃u,o=some u/\RelV v u:=by
 cases o with
 |none=>exact(show False from r).elim
 |some u=>exact⟨u,rfl,r⟩
section
variable{a:Addr}{fs UC:List (Str×V)}
theorem wx(y6:BD P w H h)(e:H a=some (.ins C dx fs)):∃mA,LD h a dx C mA/\(∀f,C3 (fs.lookup f) (mA f))/\PySem.Within mA (fs.map (·.1))/\fs.length<=1000/\H dx=some (.own a):=by
 obtain⟨d,z,ne,ob,mA,n,r,q⟩:=(show zi P w H h a (.ins C dx fs)from y6 a _ e)
 exact⟨mA,⟨ob,n,ne⟩,r,q,z,d⟩
end
structure RF(K:aag)(C:Addr):Prop where
 pg:PySem.W.plainGet K C Str.empty=true
 hd:PySem.W.hasDictIn K C=true
 po:PySem.W.plainOver K C=true
 sa:PySem.W.findIn K (.ref C) "__setattr__" = some (some (.builtin "object.__setattr__"))
theorem RF.get(c:RF K C)(f:Str):PySem.W.plainGet K C f=true:=c.pg
section
variable{a:Addr}{fs:List (Str×V)}{f:Str}{v:V}
end
variable{o value:Expr}{f:Str}{Cj:Pos}{tv:TE}
variable{Q:Value->Shared->Prop}{c:Value}{b:Bool}
inductive CF (K:aag) (H:Hp):V->Value->Prop where
 |oR:CF K H .oR (.type "NoneType")
 |bl (x:Bool):CF K H (.bl x) (.type "bool")
 |int (i:Int):CF K H (.int i) (.type "int")
 |str (x:Str):CF K H (.str x) (.type "str")
 |Mj (x:UInt64):CF K H (.Mj x) (.type "float")
 |lst {a:Addr} {xs:List V} (e:H a=some (.lst xs)):CF K H (.ref a) (.type "list")
 |BB {a:Addr} {o:Obj} {xs:List V} (e:H a=some (.BB o (.lst xs))):CF K H (.ref a) (.type "list")
 |tup {a:Addr} {xs:List V} (e:H a=some (.tup xs)):CF K H (.ref a) (.type "tuple")
 |dK {a:Addr} {kvs:List (Key×V)} (e:H a=some (.dK kvs)):CF K H (.ref a) (.type "dict")
 |dT {a:Addr} {kvs:List (List Key×V)} (e:H a=some (.dT kvs)):CF K H (.ref a) (.type "dict")
 |ins {a C dx:Addr} {fs:List (Str×V)} (e:H a=some (.ins C dx fs)) (cl:RF K C) (ha:PySem.W.findIn K (.ref C) "__class__" = some (some (.builtin "object.__class__")))
   (hn:PySem.W.specialIn K (.builtin "object.__class__") "__get__" = some (some (.builtin "getset_descriptor.__get__"))) (LX:PySem.W.takesIn K (.builtin "object.__class__")=some true)
   (hm:PySem.W.mroIn K C (.type "object")=some true):CF K H (.ref a) (.ref C)
theorem rX{x:V}{u t:Value}(I:Inv X pins σ H s)(rx:RelV x u)(ty:CF X.K H x t)(e:aeg X.K t c=some b)(h:∀tk,Q (.bool b) {s with toks:=tk}):
  wpAny (model X.prog X.w) A (call (.builtin "isinstance") [u,c]) Q E s:=by
 cases ty with
 |oR=>cases (show u=abh from rx);exact abD PySem.W.kitx_none I.Ea acw e (λz=>nomatch z) h
 |bl y=>cases (show u=adA y from rx);exact abD PySem.W.kitx_bool I.Ea acw e (λz=>nomatch z) h
 |int i=>obtain⟨t,q⟩:=(show ∃t,u=ace i t from rx);cases q;exact abD PySem.W.kitx_int I.Ea acw e (λz=>nomatch z) h
 |str y=>obtain⟨t,q⟩:=(show ∃t,u=adh y t from rx);cases q;exact abD PySem.W.kitx_str I.Ea acw e (λz=>nomatch z) h
 |Mj y=>obtain⟨t,q⟩:=(show ∃t,u=Value.float y t from rx);cases q;exact abD PySem.W.kitx_float I.Ea acw e (λz=>nomatch z) h
 |@lst a xs ea=>
  cases (show u=aau a from rx)
  obtain⟨_,_,n,_,h1⟩:=(show zi X.prog X.w H s.heap a (.lst xs)from I.y6 a _ ea)
  exact abD PySem.W.kitx_list I.Ea ⟨_,h1,rfl⟩ e (λz=>nomatch z) h
 |@BB a ob xs ea=>
  cases (show u=aau a from rx)
  obtain⟨_,_,_,n,_,h1⟩:=(show zi X.prog X.w H s.heap a (.BB ob (.lst xs))from I.y6 a _ ea)
  exact abD PySem.W.kitx_list I.Ea ⟨_,h1,rfl⟩ e (λz=>nomatch z) h
 |@tup a xs ea=>
  cases (show u=aau a from rx)
  obtain⟨_,_,_,p⟩:=(show zi X.prog X.w H s.heap a (.tup xs)from I.y6 a _ ea)
  obtain⟨o,h1,h2,_⟩:=p
  exact abD PySem.W.kitx_tuple I.Ea ⟨o,h1,h2⟩ e (λz=>nomatch z) h
 |@dK a kvs ea=>
  cases (show u=aau a from rx)
  obtain⟨_,_,vs,_,p⟩:=(show zi X.prog X.w H s.heap a (.dK kvs)from I.y6 a _ ea)
  obtain⟨o,es,ep,h1,h2,_⟩:=p
  exact abD PySem.W.kitx_dict I.Ea ⟨o,h1,h2.1⟩ e (λz=>nomatch z) h
 |@dT a kvs ea=>
  cases (show u=aau a from rx)
  obtain⟨_,_,xs,_,o,es,ep,h1,h2,_⟩:=(show zi X.prog X.w H s.heap a (.dT kvs)from I.y6 a _ ea)
  exact abD PySem.W.kitx_dict I.Ea ⟨o,h1,h2.1⟩ e (λz=>nomatch z) h
 |@ins a C dx fs ea cl ha hn LX hm=>
  cases (show u=aau a from rx)
  obtain⟨mA,O,_⟩:=wx I.y6 ea
  obtain⟨od,J,_⟩:=O.look
  exact abD (PySem.W.kitx_own (cl.get _) cl.hd ha hn LX hm) I.Ea J e (λz=>nomatch z) h
structure zy(k:Nat)(A:Around):Prop where
 hd:A.handled=none
 dp:A.depth+3*k+5<recursionLimit
 un:A.units+16*k+200<cLine
 gd:A.guards=some []
theorem zy.mono(r:zy k A)(h:j<=k):zy j A:=⟨r.hd,by have:=r.dp;omega,by have:=r.un;omega,r.gd⟩
theorem zy.deeper(r:zy (k+1) A)(env:Env):zy k (A.deeper env) :=
 ⟨r.hd,by have:=r.dp;show A.depth+1+3*k+5<_;omega,by have:=r.un;show A.units+3+16*k+200<_;omega,r.gd⟩
theorem zy.depth(r:zy k A):A.depth<recursionLimit:=by have:=r.dp;omega
theorem zy.J5(r:zy k A):A.units<cLine:=by have:=r.un;omega
def Hk:TA:=λ_ H Q=>Q [] H
def Ju(ta:TE)(tr:TA):TA:=λσ H Q=>ta σ H λx H1=>tr σ H1 λxs H2=>Q (x::xs) H2
variable{es:List Expr}{t:TA}
theorem bn:PA X [] Hk:=λ_ _ _ _ H Q I h=>Calls.spliced_nil ⟨[],H,I,.nil,h⟩
theorem aY(ha:PE X e te)(hr:PA X es t)(hs:aam (e::es) X.env=(false,eval e X.env)::aam es X.env:=by rfl):PA X (e::es) (Ju te t):=by
 intro pos pins s σ H Q I h
 rw[hs]
 show wpAny _ _ (spliced ((false,eval e X.env)::backTo pos (aam es X.env))) _ _ s
 refine Calls.spliced_cons (zC (ha pins s σ H _ I h) λu s1 ⟨x,H1,I1,r1,q1⟩=>?_)
 exact zC (hr pos pins s1 σ H1 _ I1 q1) λus s2 ⟨xs,H2,I2,r2,q2⟩=>⟨x::xs,H2,I2,.cons r1 r2,q2⟩
def Pr(t:TA):TE:=λσ H Q=>t σ H λxs H1=>xs.length<=sizeLine/\∀p,H1 p=none->Q (.ref p) (upd H1 p (.tup xs))
def Kh(t:TA):TE:=λσ H Q=>t σ H λxs H1=>xs.length<=sizeLine/\∀p,H1 p=none->Q (.ref p) (upd H1 p (.lst xs))
theorem xm{x1}(h:PA X es t):PE X (.Tuple es x1 pos) (Pr t):=by
 intro pins s σ H Q I hq
 refine wpAny_Tuple_spliced (zC (h pos pins s σ H _ I hq) λus s1 ⟨xs,H1,I1,r,z,q⟩=>⟨by rw[<- r.length];exact z,?_⟩)
 have hf:H1 s1.heap.objs.size=none:=I1.y6.fresh (aal _)
 refine⟨.ref s1.heap.objs.size,upd H1 s1.heap.objs.size (.tup xs),I1.laid (t':=s1.toks) (λb u e=>aac _ e) (aal _) ?_,rfl,q _ hf⟩
 exact⟨z,us,r,⟨_,aai _ rfl,rfl,_,rfl⟩⟩
theorem gP(h:PA X es t):PE X (.List es pos) (Kh t):=by
 intro pins s σ H Q I hq
 refine wpAny_List_spliced (zC (h pos pins s σ H _ I hq) λus s1 ⟨xs,H1,I1,r,z,q⟩=>⟨by rw[<- r.length];exact z,?_⟩)
 have hf:H1 s1.heap.objs.size=none:=I1.y6.fresh (aal _)
 refine⟨.ref s1.heap.objs.size,upd H1 s1.heap.objs.size (.lst xs),I1.laid (t':=s1.toks) (λb u e=>aac _ e) (aal _) ?_,rfl,q _ hf⟩
 exact⟨z,us,0,r,aai _ rfl⟩
abbrev Sp:=List V->Hp->VK->XK->Prop
abbrev Mo:=List Env->Hp->Shared->XK->Value->Shared->Prop
structure Jq(P:aaH)(w:World)(K:aag)(mg:Str->Option Value)(base:Heap)(A:Around)(outer:List Env)(s:Shared)(H:Hp):Prop where
 frames:A.frames=some outer
 mod:Mod K mg base
 bs:∀b o,base.get? b=some o->s.heap.get? b=some o/\H b=none
 JR:base.objs.size<=s.heap.objs.size
 Dt:s.heap.FunFrames base outer
 Mi:∀b∈HU outer,H b=none
 y6:BD P w H s.heap
 bare:aen s.gens
def CE(outer:List Env)(P:aaH)(w:World)(H:Hp)(s:Shared)(Q:VK)(u:Value)(s':Shared):Prop :=
 ∃v H',s'.os=s.os/\aen s'.gens/\Un (HU outer) [] H H' s.heap s'.heap/\BD P w H' s'.heap/\RelV v u/\Q v H'
def CR(CX:Mo)(outer:List Env)(P:aaH)(w:World)(H:Hp)(s:Shared)(Q:VK)(E:XK)(r:Result)(s':Shared):Prop :=
 match r with
 |.ok (.ret u)=>CE outer P w H s Q u s'
 |.ok _=>False
 |.error e=>CX outer H s E e s'
structure zf(P:aaH)(w:World)(K:aag)(mg:Str->Option Value)(base:Heap)(CX:Mo)(k:Nat)(f:Addr)(fd:ab0)(ps:List Str)(sp:Sp):Prop where
 len:∀vs H Q E,sp vs H Q E->vs.length=ps.length
 run:∀(A:Around) (outer:List Env) (s:Shared) (H:Hp) (args:Args) (us:List Value) (vs:List V) (Q:VK) (E:XK),zy k A->Jq P w K mg base A outer s H->BindsTo s fd args (ps.zip us)->oF vs us->sp vs H Q E ->
  ads (model P w) A (.call (.ref f) args) (CR CX outer P w H s Q E) s
variable{mg:Str->Option Value}{base:Heap}{CX:Mo}{fd:ab0}{ps:List Str}{sp:Sp}
theorem zf.imp{f:Addr}{RO:Sp}(F:zf P w K mg base CX k f fd ps sp)
  (h:∀vs H Q E,RO vs H Q E->sp vs H Q E):zf P w K mg base CX k f fd ps RO :=
 ⟨λvs H Q E q=>F.len vs H Q E (h _ _ _ _ q),λA outer s H args us vs Q E hr he hb hv hs=>F.run A outer s H args us vs Q E hr he hb hv (h _ _ _ _ hs)⟩
theorem Inv.Rh(I:Inv X pins σ H s):Jq X.prog X.w X.K X.mg X.base X.A X.stack s H :=
 ⟨I.ok.frames,I.ok.mod,I.bs,abg I.ok.JR I.sz,I.stack,I.FX,I.y6,I.bare⟩
theorem Inv.after{Q:VK}{u:Value}(I:Inv X pins σ H s)(h:CE X.stack X.prog X.w H s Q u s'):EP X pins σ Q u s':=by
 obtain⟨v,H',os,bare,un,y6,r,q⟩:=h
 obtain⟨hh,g,d,t,os'⟩:=s'
 obtain rfl:os'=s.os:=os
 exact⟨v,H',I.call (h':=hh) (g':=g) (d':=d) (t':=t) (ch:=[]) un y6 bare (λb z=>absurd z (by simp)),r,q⟩
def MB(sp:Sp)(JO:List V)(E:XK)(t:TA):TE:=λσ H Q=>t σ H λvs H1=>sp (vs++JO) H1 Q E
def Binds(K:aag)(fd:ab0)(ps:List Str)(ds:List Value):Prop :=
 ∀(s:Shared) (us:List Value),K.In s.heap->(us++ds).length=ps.length->BindsTo s fd ⟨us,[]⟩ (ps.zip (us++ds))
theorem Binds.all(h:∀us:List Value,us.length=ps.length->ac7 fd ⟨us,[]⟩=pure (ps.zip us)):Binds K fd ps []:=λs us _ hl=>by
 rw[abN]at hl ⊢
 exact .of_eq (h us hl)
def FL(CX:Mo)(X:Cx)(E:XK):Prop:=∀(pins:List (Addr×Obj)) (σ:St) (H:Hp) (s:Shared) (e:Value) (s':Shared),Inv X pins σ H s->CX X.stack H s E e s'->X.xe e s'
variable{f:Addr}{JO:List V}{ds:List Value}{E:XK}{x m:Str}{apos:Pos}
variable{vs:List V}
theorem xc{Q:VK}{us:List Value}(F:zf X.prog X.w X.K X.mg X.base CX k f fd ps sp)(hr:zy k X.A)(hb:Binds X.K fd ps ds)(hd:oF JO ds)(hx:FL CX X E)
  (I:Inv X pins σ H s) (r:oF vs us) (h:sp (vs++JO) H Q E):wpAny (model X.prog X.w) X.A (call (.ref f) us) (EP X pins σ Q) X.xe s:=by
 have r2:oF (vs++JO) (us++ds):=r.append hd
 have hl:(us++ds).length=ps.length:=by rw[<- r2.length];exact F.len _ _ _ _ h
 refine wpAny_call (codeAny_mono (F.run X.A X.stack s H ⟨us,[]⟩ (us++ds) (vs++JO) Q E hr I.Rh (hb s us I.Ea hl) r2 h) λr s' hq=>?_)
 cases r with
 |error e=>exact hx pins σ H s e s' I hq
 |ok fl=>
  cases fl with
  |ret u=>exact I.after hq
  |next=>exact acV hq
  |brk=>exact acV hq
  |cont=>exact acV hq
theorem fo(F:zf X.prog X.w X.K X.mg X.base CX k f fd ps sp)(hr:zy k X.A)(hg:Gl X x)(hm:X.mg x=some (.ref f))(hk:abU X.K (.ref f)=true)(hb:Binds X.K fd ps ds)(hd:oF JO ds)(hx:FL CX X E)
  (ha:PA X (e::es) t) (Cr:(x==("__debug__" : Str))=false:=by decide) (he:aam (e::es) X.env=(false,eval e X.env)::aam es X.env:=by rfl) (Bb:(backTo pos (aam es X.env)).any (·.1)=false:=by rfl) :
  PE X (.Call (.Name x p) (e::es) [] pos) (MB sp JO E t):=by
 intro pins s σ H Q I h
 refine acX (pd I hg hm ?_ Cr)
 refine PySem.W.callWith_K (h₀:=X.base) I.ok.mod.kin hk (zC (ha pos pins s σ H _ I h) λus s1 ⟨vs,H1,I1,r,q⟩=>⟨I1.Ea,?_⟩) he Bb
 exact xc F hr hb hd hx I1 r q
def PK(X:Cx)(Nd:List ad7)(t:TA):Prop :=
 ∀(pos:Pos) (pins:List (Addr×Obj)) (s:Shared) (σ:St) (H:Hp) (Q:List V->Hp->Prop),Inv X pins σ H s->t σ H Q->wpAny (model X.prog X.w) X.A (evalAll ((ae8 pos (adO Nd X.env)).map (·.2))) (AP X pins σ Q) X.xe s
variable{ks:List Str}{Dl:Pos}{Nd:List ad7}{tk:TA}{nm:Option Str}
theorem qT:PK X [] Hk:=λ_ _ _ _ H Q I h=>wpAny_evalAll_nil ⟨[],H,I,.nil,h⟩
theorem kA(ha:PE X e te)(hr:PK X Nd t):PK X (⟨nm,e,Dl⟩::Nd) (Ju te t):=by
 intro pos pins s σ H Q I h
 show wpAny _ _ (evalAll ((do let v <- eval e X.env;standAt pos;pure v)::(ae8 pos (adO Nd X.env)).map (·.2))) _ _ s
 refine wpAny_evalAll_cons (aaa (zC (ha pins s σ H _ I h) λu s1 ⟨x,H1,I1,r1,q1⟩=>aaa (acH (aah ?_))))
 exact zC (hr pos pins s1 σ H1 _ I1 q1) λus s2 ⟨xs,H2,I2,r2,q2⟩=>⟨x::xs,H2,I2,.cons r1 r2,q2⟩
variable{g:List Value->List Value->List Value}{gV:List V->List V->List V}
structure aA(N P:List Str)(sc:Scope):Prop where
 kind:sc.kind=.function
 co:sc.isCoroutine=false
 gen:sc.isGenerator=false
 nd:N.Nodup
 pre:N.take P.length=P
 par:∀x∈P,sc.names.lookup x=some .local\/sc.names.lookup x=some .cell
 Fp:∀y∈sc.names,y.2≠.free
variable{kindOf:Str->Option ado}
theorem lQ:∀{binds:List (Str×Value)} {m:Str->Option Value},(∀v,(x,v)∉binds)->bindL kindOf binds m x=m x
 |[],_,_=>rfl
 |(n,v)::r,m,h=>by
  unfold bindL
  rw[lQ λw hw=>h w (aan _ hw)]
  split
  .have:x≠n:=by rintro rfl;exact h v aaq
   simp[this]
  .rfl
theorem lS:∀{binds:List (Str×Value)} {m:Str->Option Value},(∀v,(x,v)∉binds)->bindC kindOf binds m x=m x
 |[],_,_=>rfl
 |(n,v)::r,m,h=>by
  unfold bindC
  rw[lS λw hw=>h w (aan _ hw)]
  split
  .rfl
  .have:x≠n:=by rintro rfl;exact h v aaq
   simp[this]
theorem lR:∀{P:List Str} {vs:List Value} {i:Nat} {m:Str->Option Value},P.Nodup->P[i]?=some x->vs[i]?=some v->kindOf x=some .local ->
  bindL kindOf (P.zip vs) m x=some v
 |[],_,_,_,_,h,_,_=>by simp at h
 |_::_,[],_,_,_,_,h,_=>by simp at h
 |p::P,w::vs,0,m,nd,h1,h2,hk=>by
  simp at h1 h2;subst h1;subst h2
  show bindL kindOf ((p,w)::P.zip vs) m p=_
  unfold bindL
  rw[lQ λv hv=>(List.nodup_cons.mp nd).1 (adi hv).1,if_pos hk]
  simp
 |p::P,w::vs,i+1,m,nd,h1,h2,hk=>by
  show bindL kindOf ((p,w)::P.zip vs) m x=_
  unfold bindL
  exact lR (i:=i) (List.nodup_cons.mp nd).2 (by simpa using h1) (by simpa using h2) hk
theorem lU:∀{P:List Str} {vs:List Value} {i:Nat} {m:Str->Option Value},P.Nodup->P[i]?=some x->vs[i]?=some v->kindOf x≠some .local ->
  bindC kindOf (P.zip vs) m x=some v
 |[],_,_,_,_,h,_,_=>by simp at h
 |_::_,[],_,_,_,_,h,_=>by simp at h
 |p::P,w::vs,0,m,nd,h1,h2,hk=>by
  simp at h1 h2;subst h1;subst h2
  show bindC kindOf ((p,w)::P.zip vs) m p=_
  unfold bindC
  rw[lS λv hv=>(List.nodup_cons.mp nd).1 (adi hv).1,if_neg hk]
  simp
 |p::P,w::vs,i+1,m,nd,h1,h2,hk=>by
  show bindC kindOf ((p,w)::P.zip vs) m x=_
  unfold bindC
  exact lU (i:=i) (List.nodup_cons.mp nd).2 (by simpa using h1) (by simpa using h2) hk
def start(N:List Str)(vs:List V):St:=vs.map some++aaF (N.length - vs.length) none
def C2(CX:Mo)(P:aaH)(w:World)(K:aag)(mg:Str->Option Value)(base:Heap)(N:List Str)(qual:Str)(scope:Scope)(f:Addr)(cd:Value)(A:Around)(outer:List Env)(s:Shared)(H:Hp)(E:XK):Cx where
 prog:=P
 w:=w
 K:=K
 mg:=mg
 base:=base
 A:=A.deeper (envOfC qual scope s.heap.objs.size f cd)
 N:=N
 s₀:=s
 H₀:=H
 env:=envOfC qual scope s.heap.objs.size f cd
 outer:=outer
 stack:=envOfC qual scope s.heap.objs.size f cd::outer
 ex:=[]
 calm:=true
 fn:=λ_=>true
 pn:=[]
 xe:=λe s'=>wpAny (model P w) (A.deeper (envOfC qual scope s.heap.objs.size f cd)) (leaving (envOfC qual scope s.heap.objs.size f cd) e) (λ_ Kw=>CX outer H s E e Kw) (λe' Kw=>CX outer H s E e' Kw) s'
theorem nM{sc:Scope}(h:sc.names.lookup x=some .cell):∃c,(cellsFrom n sc.names []).lookup x=some c:=by
 have q:=PySem.W.cellsFrom_some sc.names n [] (.inl h)
 exact Option.isSome_iff_exists.mp q
variable{qual:Str}{scope:Scope}
theorem rY{cd:Value}{outer:List Env}{s1:Shared}{us:List Value}
  (S:aA N ps scope) (hd:A.handled=none) (e0:Jq P w K mg base A outer s H) (hl:vs.length=ps.length) (r:oF vs us)
  (x:InCallC s s.heap.objs.size (bindL (envOfC qual scope s.heap.objs.size f cd).kindOf (ps.zip us) λ_=>none) (cellsFrom (s.heap.objs.size+1) scope.names []) (bindC (envOfC qual scope s.heap.objs.size f cd).kindOf (ps.zip us) λ_=>none) s1) :
  Inv (C2 CX P w K mg base N qual scope f cd A outer s H E) [] (start N vs) H s1:=by
 have Bb:ps.length<=N.length:=by have:=congrArg acr S.pre;rw[abb]at this;omega
 obtain⟨h1,tk,rfl,hk⟩:=x.done
 have MW:∀b:Addr,b∉(C2 CX P w K mg base N qual scope f cd A outer s H E).ex:=λb z=>absurd (show b∈([]:List Addr)from z) (by simp)
 refine⟨⟨e0.mod,S.kind,rfl,rfl,aal _,λy z c h1 h2=>?_,λy hy=>?_,λy c _ h=>?_,λ_=>hd,Around.frames_deeper e0.frames,.inr ⟨rfl,rfl⟩,λb z=>absurd z (MW b),e0.bs,e0.JR,λb _ _=>MW b,λb z=>absurd z (MW b),e0.Dt,e0.Mi⟩,
  rfl,e0.bare,Un.kept hk,⟨_,x.toInCall.ns,λi y v h1 h2 h3=>?_⟩,λy c h=>⟨_,x.cell y c h⟩,e0.y6.fresh (aal _),λy c h=>?_,λp hp=>absurd (show p∈([]:List (Addr×Obj))from hp) (by simp),e0.y6.kept hk,?_⟩
 .exact name_of_addr x.apart (ab8 h1) (ab8 h2)
 .have hy:scope.names.lookup y=some .cell\/scope.names.lookup y=some .free:=hy
  rcases hy with hy|hy
  .exact nM hy
  .exact absurd rfl (S.Fp _ (ab8 hy))
 .exact ad2 (x.above y c (ab8 h))
 .have hi:i<vs.length:=by
   unfold start at h2
   by_cases hi:i<vs.length
   .exact hi
   .rw[acb (by simpa using hi)]at h2
    rw[List.getElem?_replicate]at h2
    split at h2<;>cases h2
  have ha:vs[i]?=some v:=by
   unfold start at h2
   rw[aax (by simpa using hi),aaj]at h2
   cases e:vs[i]? with
   |none=>rw[e]at h2;cases h2
   |some a=>rw[e]at h2;cases h2;rfl
  obtain⟨u,hu,rv⟩:=r.get ha
  have hp:ps[i]?=some y:=by
   rw[<- S.pre,List.getElem?_take_of_lt (by omega)];exact h1
  have RZ:ps.Nodup:=by rw[<- S.pre];exact S.nd.sublist (adE _ _)
  refine⟨u,rv,?_⟩
  rcases S.par y (abp hp)with k|k
  .exact .inl ⟨k,lR RZ hp hu k⟩
  .obtain⟨c,e⟩:=nM (n:=s.heap.objs.size+1) k
   refine .inr ⟨.inl k,c,e,?_⟩
   have q:=x.cell y c e
   rw[lU RZ hp hu (by show scope.names.lookup y≠_;rw[k];decide)]at q
   exact q
 .exact e0.y6.fresh (ad2 (x.above y c (ab8 h)))
 .unfold start
  show _=N.length
  rw[aaJ,aae,acf]
  omega
variable{pm:Value}
theorem uT{params:Arguments}{dV kV doc zr ct oc:Value}{an od:Option Addr}
  {IG:Array (Option Value)} {N ps:List Str} {sp:Sp} (lk:K.lookup f=some ⟨oc,od,.func (acU name qual params body scope dV kV doc pm an zr ct),IG⟩) (Dr:aeh K zr qual=true) (S:aA N ps scope)
  (len:∀vs H Q E,sp vs H Q E->vs.length=ps.length)
  (ES:∀(A:Around) (outer:List Env) (s:Shared) (H:Hp) (vs:List V) (Q:VK) (E:XK),zy k (A.deeper (envOfC qual scope s.heap.objs.size f zr))->sp vs H Q E ->
   ∃t,FN (C2 CX P w K mg base N qual scope f zr A outer s H E) body t/\t {nx:=λ_ H'=>Q .oR H',rt:=Q} (start N vs) H) :
  zf P w K mg base CX (k+1) f (acU name qual params body scope dV kV doc pm an zr ct) ps sp:=by
 refine⟨len,λA outer s H args us vs Q E hr e0 hb r Ih=>?_⟩
 have hl:=len _ _ _ _ Ih
 have KX:K.In s.heap:=e0.mod.kin.keeps λb o e=>(e0.bs b o e).1
 have lim:s.heap.NoLimit:=e0.mod.nolimit.keeps λb o e=>(e0.bs b o e).1
 have zo:∀y∈ps.zip us,scope.names.lookup y.1=some .local\/(scope.names.lookup y.1=some .cell/\((cellsFrom (s.heap.objs.size+1) scope.names []).lookup y.1).isSome=true):=λ⟨n,v⟩ hy=>by
  rcases S.par n (adi hy).1 with q|q
  .exact .inl q
  .exact .inr ⟨q,PySem.W.cellsFrom_some _ _ _ (.inl q)⟩
 refine codeAny_call_function hr.depth (KX _ _ lk) rfl S.co S.gen rfl (PySem.W.codeRec_of KX Dr) (hb _ _ _ _ ?_)
 refine wpAny_newFunctionEnv_cells S.kind zo λenv he s1 x=>?_
 subst he
 refine⟨lim.keeps x.toInCall.keep,codeAny_func ?_⟩
 obtain⟨t,ht,hq⟩:=ES A outer s H vs Q E (hr.deeper _) Ih
 have I:Inv (C2 CX P w K mg base N qual scope f zr A outer s H E) [] (start N vs) H s1:=rY S hr.hd e0 hl r x
 refine aaT (ht [] s1 (start N vs) H _ I hq) (λfl s' hs=>?_) λe s' hs=>hs
 have fin:∀{σ':St} {H':Hp} {v:V} {u:Value},Inv (C2 CX P w K mg base N qual scope f zr A outer s H E) [] σ' H' s'->RelV v u->Q v H'->CE outer P w H s Q u s' :=
  λ{σ' H' v u} J rv q=>⟨v,H',J.os,J.bare,J.base,J.y6,rv,q⟩
 cases fl with
 |ret u=>
  obtain⟨v,σ',H',J,rv,q⟩:=hs
  exact fin J rv q
 |next=>
  obtain⟨σ',H',J,q⟩:=hs
  exact fin (v:=V.oR) (u:=abh) J rfl q
 |brk=>
  obtain⟨_,_,_,q⟩:=hs
  exact acV q
 |cont=>
  obtain⟨_,_,_,q⟩:=hs
  exact acV q
variable{id T:String}{r:List V->Hp->VK->Prop}
def Oh(r:List V->Hp->VK->Prop)(t:TA):TE:=λσ H Q=>t σ H λvs H1=>r vs H1 Q
theorem ci(hc:zg X (.builtin id) r)(hg:Gl X x)(hm:X.mg x=none)(hv:aco x=some (.builtin id))(ha:PA X (e::es) t)(hn:x ≠ "__name__" :=by decide)(Cr:(x==("__debug__" : Str))=false:=by decide)
  (he:aam (e::es) X.env=(false,eval e X.env)::aam es X.env:=by rfl) (Bb:(backTo pos (aam es X.env)).any (·.1)=false:=by rfl):PE X (.Call (.Name x p) (e::es) [] pos) (Oh r t):=by
 intro pins s σ H Q I h
 refine acX (cV I hg hm hv ?_ hn Cr)
 exact PyProof.Rows.callWith_builtin1 (zC (ha pos pins s σ H _ I h) λus s1 ⟨vs,H1,I1,r1,q1⟩=>hc pins s1 σ H1 vs us Q I1 r1 q1) he Bb
theorem ly(hc:zg X (.type T) r)(hg:Gl X x)(hm:X.mg x=none)(hv:aco x=some (.type T))(ha:PA X (e::es) t)(hn:x ≠ "__name__" :=by decide)(Cr:(x==("__debug__" : Str))=false:=by decide)
  (he:aam (e::es) X.env=(false,eval e X.env)::aam es X.env:=by rfl) (Bb:(backTo pos (aam es X.env)).any (·.1)=false:=by rfl):PE X (.Call (.Name x p) (e::es) [] pos) (Oh r t):=by
 intro pins s σ H Q I h
 refine acX (cV I hg hm hv ?_ hn Cr)
 exact acD (zC (ha pos pins s σ H _ I h) λus s1 ⟨vs,H1,I1,r1,q1⟩=>hc pins s1 σ H1 vs us Q I1 r1 q1) he Bb
end L2
namespace HT
open PySem PyProof.Rows
theorem EB(A:Around)(s:Shared)(a:Int)(t:Tok)(c:Int)(u:Tok)(prog:aaH)(w:World)(E:Value->Shared->Prop)(Q:Value->Shared->Prop)(h:Q (.bool (decide (a<c))) s):
  wpAny (model prog w) A (adN .Lt (.int a t) (.int c u)) Q E s :=
 (PyProof.Rows.lt_int h:wpAny (model prog w) A (aaE .Lt (.int a t) (.int c u)) Q E s)
section
open PySem.SeqAt
open PySem.AutoSeq1 (wpAny_loadPart')
open PySem.MeetsSeq PySem.MeetsSeq2 PySem.MeetsSeq3
end
variable{prog:aaH}{w:World}{A:Around}{E:Value->Shared->Prop}{s:Shared}
theorem Jj{t b:Addr}{vs ws:List Value}{Q:Value->Shared->Prop}(ht:IsTup s.heap t vs.toArray)(hb:IsTup s.heap b ws.toArray)(hv:vs≠[])
  (h1:ws=[]->Q (.ref t) s) (h2:ws≠[]->Q (.ref s.heap.objs.size) {s with heap:=s.heap.push {cls:=.type "tuple",data:=.seq (vs++ws).toArray}})
  (hsz:vs.length+ws.length<=sizeLine):wpAny (model prog w) A (acq .Add (.ref t) (.ref b)) Q E s:=by
 obtain⟨⟨cls,dd,data,sl⟩,ho,hc,n,hd⟩:=id ht
 obtain⟨⟨Ji,Gk,data2,FY⟩,Dq,ER,n2,hd2⟩:=id hb
 simp only at hc hd ER hd2
 subst hc hd ER hd2
 have e:vs.toArray++ws.toArray=(vs++ws).toArray:=by simp
 by_cases hw:ws=[]
 .exact concat_meets ⟨_,ho,rfl⟩ ⟨_,Dq,rfl⟩ aeY seq_tuple_add adV adQ (adC _ _)
   (tuple_addW1 t b vs.toArray ws.toArray n n2 dd Gk sl FY (by simpa using hv) (by simp[hw])) ⟨ho,Dq,h1 hw⟩
 .refine concat_meets ⟨_,ho,rfl⟩ ⟨_,Dq,rfl⟩ aeY seq_tuple_add adV adQ (adC _ _)
   (tuple_addW2 t b vs.toArray ws.toArray n n2 dd Gk sl FY (by simpa using hv) (by simpa using hw) (by rw[aaf,aaf];exact hsz)) ⟨ho,Dq,?_⟩
  rw[e]
  exact h2 hw
def zQ(n d:Nat):Option Int->Nat
 |none=>d
 |some v=>if v<0 then (v+(n:Int)).toNat else min v.toNat n
theorem Dc(n d:Nat):zQ n d none=d:=rfl
theorem D6(n d k:Nat):zQ n d (some (k:Int))=min k n:=by
 show (if (k:Int)<0 then ((k:Int)+(n:Int)).toNat else min (k:Int).toNat n)=min k n
 rw[if_neg (by omega),aeQ]
theorem xb(n d:Nat)(hd:d<=n)(o:Option Int):zQ n d o<=n:=by
 cases o with
 |none=>exact hd
 |some v=>
  show (if v<0 then (v+(n:Int)).toNat else min v.toNat n)<=n
  by_cases hv:v<0
  .rw[if_pos hv];omega
  .rw[if_neg hv];exact Nat.min_le_right _ _
theorem pI(v:Int)(n d:Nat):(if v<0 then max (v+(n:Int)) 0 else min v (n:Int))=((zQ n d (some v):Nat):Int):=by
 show (if v<0 then max (v+(n:Int)) 0 else min v (n:Int))=(((if v<0 then (v+(n:Int)).toNat else min v.toNat n):Nat):Int)
 by_cases hv:v<0
 .simp only[if_pos hv];omega
 .simp only[if_neg hv];omega
theorem qw(lo hi:Option Int)(n:Nat):adw lo hi 1 (n:Int)=(((zQ n 0 lo:Nat):Int),((zQ n n hi:Nat):Int)):=by
 have h1:¬ ((1:Int)<0):=by omega
 unfold adw
 simp only[h1,if_false]
 refine Prod.ext ?_ ?_
 .cases lo with
  |none=>rfl
  |some v=>exact pI v n 0
 .cases hi with
  |none=>rfl
  |some v=>exact pI v n n
theorem qa(i j:Nat):abF (i:Int) (j:Int) 1=j - i:=by
 unfold abF
 have h1:(1:Int) > 0:=by omega
 simp only[h1,if_true,Int.ediv_one]
 split<;>omega
theorem Aw{v:Value}{o:Option Int}{Q:Option Int->Shared->Prop}(p:IsPart v o)(h:Q o s):wpAny (model prog w) A (Builtin.Slice.slicePartIndex v) Q E s:=by
 cases p with
 |none=>exact slicePart_none h
 |int i t=>exact slicePart_int h
theorem AQ{sl:Addr}{vl vu:Value}{lo hi:Option Int}{n:Nat}{Q:Int×Int×Nat->Shared->Prop}(hs:s.heap.IsSliceOf sl vl vu .none)(pl:IsPart vl lo)(pu:IsPart vu hi)
  (h:Q (((zQ n 0 lo:Nat):Int),1,zQ n n hi - zQ n 0 lo) s):wpAny (model prog w) A (acP (.ref sl) (pure (n:Int))) Q E s:=by
 obtain⟨os,Nv,GN,OJ⟩:=id hs
 unfold acP afy
 refine aaa (aaa (abv Nv OJ (x:=vl) rfl (aaa (abv Nv OJ (x:=vu) rfl (aaa (abv Nv OJ (x:=.none) rfl (aah ?_)))))))
 refine aaa (slicePart_none ?_)
 show wpAny _ _ (if ((1:Int)==0)=true then _ else _) _ _ s
 rw[if_neg (by decide)]
 refine aaa (Aw pl (aaa (Aw pu (aaa (aah ?_)))))
 show wpAny _ _ (match adw lo hi 1 (n:Int)with|(lo,hi)=>pure (lo,(1:Int),abF lo hi 1)) _ _ s
 rw[qw lo hi n]
 show wpAny _ _ (pure (((zQ n 0 lo:Nat):Int),(1:Int),abF ((zQ n 0 lo:Nat):Int) ((zQ n n hi:Nat):Int) 1)) _ _ s
 rw[qa]
 exact aah h
theorem tH(xs:Array Value)(i k:Nat):((aaV k).filterMap λ(m:Nat)=>xs[((i:Int)+(m:Int)*1).toNat]?).toArray=((xs.toList.drop i).take k).toArray:=by
 have e:(λ(m:Nat)=>xs[((i:Int)+(m:Int)*1).toNat]?)=λm=>xs[i+m]?:=by
  funext m
  have:((i:Int)+(m:Int)*1).toNat=i+m:=by omega
  rw[this]
 rw[e]
 have:=pick_run xs i k
 rw[acg]at this
 have e2:((λx=>xs[x]?) ∘ λx=>i+x)=λm=>xs[i+m]?:=rfl
 rw[e2]at this
 rw[this]
theorem B9{t sl:Addr}{items:Array Value}{vl vu:Value}{lo hi:Option Int}{Q:Value->Shared->Prop}(ht:IsTup s.heap t items)(hs:s.heap.IsSliceOf sl vl vu .none)(pl:IsPart vl lo)(pu:IsPart vu hi)
  (hw:¬ (zQ items.size 0 lo=0/\zQ items.size items.size hi=items.size))
  (h:Q (.ref s.heap.objs.size) {s with heap:=s.heap.push {cls:=.type "tuple",data:=.seq ((items.toList.drop (zQ items.size 0 lo)).take (zQ items.size items.size hi - zQ items.size 0 lo)).toArray}})
  (hsz:items.size<=sizeLine):wpAny (model prog w) A (adr (.ref t) (.ref sl)) Q E s:=by
 have Ge:sizeOk (.seq ((items.toList.drop (zQ items.size 0 lo)).take (zQ items.size items.size hi - zQ items.size 0 lo)).toArray):=by
  show ((items.toList.drop (zQ items.size 0 lo)).take (zQ items.size items.size hi - zQ items.size 0 lo)).toArray.size<=sizeLine
  rw[aaf,abb,ae3,abI]
  omega
 have hj:zQ items.size items.size hi<=items.size:=xb _ _ (aal _) hi
 obtain⟨os,Nv,GN,OJ⟩:=id hs
 have Ur:s.TypeIs (.ref sl) "slice" := ⟨os,Nv,GN⟩
 unfold adr
 try with_reducible refine aaU ?_
 first|refine aaa (aah ?_)|skip
 refine aaa (aeB ht.typeIs (by decide) ?_)
 refine aaa (aby (name:=aaz "__getitem__") ht.typeIs abz
  (abj abz ht.typeIs aek ?_ (aet _ _)))
 show wpAny _ _ (adm (.ref t) >>= _) _ _ s
 refine aaa (tupleItemsOf_ ht ?_)
 refine aaa (aeT Ur ?_)
 rw[if_pos (by decide)]
 refine aaa (AQ hs pl pu ?_)
 have T4:¬ ((((zQ items.size 0 lo:Nat):Int)==0 && (1:Int)==1 && (zQ items.size items.size hi - zQ items.size 0 lo)==items.size)=true):=by
  intro q
  rw[aaC,aaC]at q
  have q1:((zQ items.size 0 lo:Nat):Int)=0:=eq_of_beq q.1.1
  have q2:zQ items.size items.size hi - zQ items.size 0 lo=items.size:=eq_of_beq q.2
  exact hw ⟨by omega,by omega⟩
 show wpAny _ _ (if (((zQ items.size 0 lo:Nat):Int)==0 && (1:Int)==1 && (zQ items.size items.size hi - zQ items.size 0 lo)==items.size)=true then _ else _) _ _ s
 rw[if_neg T4,tH]
 first
  |exact aaa (m:=ab1 _) (abQ (aah ⟨_,rfl,aah h⟩) Ge)
  |exact aaa (m:=ab1 _) (abQ (aaa (aah (aah ⟨_,rfl,aah h⟩))) Ge)
  |exact aaa (aaa (m:=ab1 _) (abQ (aah (aah ⟨_,rfl,aah h⟩)) Ge))
  |exact aaa (aaa (m:=ab1 _) (abQ (aah ⟨_,rfl,aah h⟩) Ge))
end HT
namespace L2
open PySem PySem.Spec PyProof.Rows
abbrev TO:=St->Hp->(Option Int->Hp->Prop)->Prop
def PO(X:Cx)(e:Option Expr)(t:TO):Prop :=
 ∀(pins:List (Addr×Obj)) (s:Shared) (σ:St) (H:Hp) (Q:Option Int->Hp->Prop),Inv X pins σ H s->t σ H Q ->
  wpAny (model X.prog X.w) X.A (evalPart e X.env) (λu s'=>∃o H',Inv X pins σ H' s'/\IsPart u o/\Q o H') X.xe s
def u7:TO:=λ_ H Q=>Q none H
def Mu(t:TE):TO:=λσ H Q=>t σ H λx H1=>∃i,x=.int i/\Q (some i) H1
variable{X:Cx}{e:Expr}{te:TE}{lo hi:Option Expr}{tl th:TO}{pos p2:Pos}
theorem ky:PO X none u7:=by
 intro pins s σ H Q I h
 rw[evalPart_none]
 exact aah ⟨none,H,I,.none,h⟩
theorem ku(h:PE X e te):PO X (some e) (Mu te):=by
 intro pins s σ H Q I hw
 rw[evalPart_some]
 refine zC (h pins s σ H _ I hw) λu s1 ⟨x,H1,I1,r1,q1⟩=>?_
 obtain⟨i,rfl,q⟩:=q1
 obtain⟨t,rfl⟩:=r1
 exact⟨some i,H1,I1,.int i t,q⟩
def Jk(X:Cx)(r:V->Option Int->Option Int->Hp->VK->Prop):Prop :=
 ∀(pins:List (Addr×Obj)) (s:Shared) (σ:St) (H:Hp) (x:V) (v vl vu:Value) (lo hi:Option Int) (sl:Addr) (Q:VK),Inv X pins σ H s->RelV x v->s.heap.IsSliceOf sl vl vu .none->IsPart vl lo->IsPart vu hi->r x lo hi H Q ->
  ∃T id,typeLookup (.type T) "__getitem__" = pure (some (.builtin id))/\s.TypeIs v T/\wpAny (model X.prog X.w) X.A (adr v (.ref sl)) (EP X pins σ Q) X.xe s
theorem Jk.or{r r':V->Option Int->Option Int->Hp->VK->Prop}(h:Jk X r)(h':Jk X r'):Jk X (λx lo hi H Q=>r x lo hi H Q\/r' x lo hi H Q):=by
 intro pins s σ H x v vl vu lo hi sl Q I rx hs pl pu q
 rcases q with q|q
 .exact h pins s σ H x v vl vu lo hi sl Q I rx hs pl pu q
 .exact h' pins s σ H x v vl vu lo hi sl Q I rx hs pl pu q
def Ta(r:V->Option Int->Option Int->Hp->VK->Prop)(te:TE)(tl th:TO):TE:=λσ H Q=>te σ H λx H1=>tl σ H1 λl H2=>th σ H2 λu H3=>r x l u H3 Q
theorem jf{r:V->Option Int->Option Int->Hp->VK->Prop}(hr:Jk X r)(he:PE X e te)(hl:PO X lo tl)(hu:PO X hi th):PE X (.Subscript e (.Slice lo hi none p2) pos) (Ta r te tl th):=by
 intro pins s σ H Q I h
 refine aeH (zC (he pins s σ H _ I h) λv s1 ⟨x,H1,I1,r1,q1⟩=>?_)
 refine wpAny_Slice (zC (hl pins s1 σ H1 _ I1 q1) λvl s2 ⟨l,H2,I2,pl,q2⟩=>zC (hu pins s2 σ H2 _ I2 q2) λvu s3 ⟨u,H3,I3,pu,q3⟩=>?_)
 rw[evalPart_none]
 refine aah ?_
 have I4:Inv X pins σ H3 {s3 with heap:=s3.heap.push {cls:=.type "slice",data:=.fields #[vl,vu,.none]}}:=I3.kept (t':=s3.toks) λb ob q=>aac _ q
 obtain⟨T,id,hT,ht,hg⟩:=hr pins {s3 with heap:=s3.heap.push {cls:=.type "slice",data:=.fields #[vl,vu,.none]}} σ H3 x v vl vu l u s3.heap.objs.size Q I4 r1 (Heap.IsSliceOf.new ..) pl pu q3
 show wpAny (model X.prog X.w) X.A (aeq e (.Slice lo hi none p2) v (.ref s3.heap.objs.size)) (EP X pins σ Q) X.xe {s3 with heap:=s3.heap.push {cls:=.type "slice",data:=.fields #[vl,vu,.none]}}
 exact tail_any (ops:=[.ref s3.heap.objs.size,v]) ht hT hg (by with_unfolding_all rfl)
def CB(xs:List V)(lo hi:Option Int):List V:=(xs.drop (HT.zQ xs.length 0 lo)).take (HT.zQ xs.length xs.length hi - HT.zQ xs.length 0 lo)
theorem iU(xs:List V)(lo hi:Option Int):(CB xs lo hi).length<=xs.length:=by
 unfold CB
 rw[abb,ae3]
 omega
def PQ(K:aag):V->Option Int->Option Int->Hp->VK->Prop:=λx lo hi H Q=>∃a xs,x=.ref a/\zW K H a xs /\
 ¬ (HT.zQ xs.length 0 lo=0/\HT.zQ xs.length xs.length hi=xs.length)/\∀p,H p=none->Q (.ref p) (upd H p (.tup (CB xs lo hi)))
theorem xa:Jk X (PQ X.K):=by
 intro pins s σ H x v vl vu lo hi sl Q I rx hs pl pu h
 obtain⟨a,xs,rfl,hx,hw,q⟩:=h
 cases rx
 obtain⟨eQ,r,ht,hz⟩:=I.tuple hx
 have hlen:eQ.toArray.size=xs.length:=by rw[aaf];exact r.length.symm
 refine⟨"tuple",_,PyProof.Rows.slot_tuple_getitem.lookup,ht.typeIs,?_⟩
 refine HT.B9 ht hs pl pu (by rw[hlen];exact hw) ?_ (by rw[hlen];exact hz)
 rw[hlen]
 refine⟨.ref s.heap.objs.size,_,I.laid (t':=s.toks) (o:=.tup (CB xs lo hi)) (λb ob q=>aac _ q) (aal _) ?_,rfl,q _ (I.y6.fresh (aal _))⟩
 exact⟨abg (iU xs lo hi) hz,_,(r.drop (HT.zQ xs.length 0 lo)).take (HT.zQ xs.length xs.length hi - HT.zQ xs.length 0 lo),afo _ _⟩
def MQ(K:aag):R2:=λx y H Q=>∃a b xs ys,x=.ref a/\y=.ref b/\zW K H a xs/\zW K H b ys/\xs≠[]/\xs.length+ys.length<=sizeLine /\
 (ys=[]->Q (.ref a) H)/\(ys≠[]->∀p,H p=none->Q (.ref p) (upd H p (.tup (xs++ys))))
variable{xs:List V}
theorem oF.D9{us:List Value}(r:oF xs us):us=[]↔xs=[]:=by
 cases r with
 |nil=>simp
 |cons _ _=>simp
theorem vM:zH X (acq .Add) (MQ X.K):=by
 intro pins s σ H x y v u Q I rx ry h
 obtain⟨a,b,xs,ys,rfl,rfl,ha,hb,hx,hz,q1,q2⟩:=h
 cases rx
 cases ry
 obtain⟨eQ,r1,p1,_⟩:=I.tuple ha
 obtain⟨zU,r2,p2,_⟩:=I.tuple hb
 refine HT.Jj p1 p2 (λz=>hx (r1.D9.mp z)) (λz=>⟨.ref a,H,I,rfl,q1 (r2.D9.mp z)⟩) (λz=>?_) (by rw[<- r1.length,<- r2.length];exact hz)
 refine⟨.ref s.heap.objs.size,_,I.laid (t':=s.toks) (o:=.tup (xs++ys)) (λb ob q=>aac _ q) (aal _) ?_,rfl,q2 (λw=>z (r2.D9.mpr w)) _ (I.y6.fresh (aal _))⟩
 exact⟨by rw[aaJ];exact hz,_,r1.append r2,afo _ _⟩
def G6(n:Nat)(i:Int):Option Nat:=if 0<=i then (if i<n then some i.toNat else none)else if -(n:Int)<=i then some (i+n).toNat else none
variable{α:Type}
def EY(xs:List α)(i:Int):Option α:=(G6 xs.length i).bind λj=>xs[j]?
variable{n j:Nat}{i:Int}
theorem pq(h:G6 n i=some j):seqIndex? i n=some j/\j<n /\ -(n:Int)<=i/\i<n:=by
 unfold G6 at h
 by_cases h0:0<=i
 .rw[if_pos h0]at h
  by_cases h1:i<n
  .rw[if_pos h1]at h
   have e:i.toNat=j:=aao h
   exact⟨by rw[seqIndex_of h0 h1,e],by omega,by omega,h1⟩
  .rw[if_neg h1]at h;cases h
 .rw[if_neg h0]at h
  by_cases h1 : -(n:Int)<=i
  .rw[if_pos h1]at h
   have e:(i+n).toNat=j:=aao h
   exact⟨by rw[seqIndex_neg (by omega) h1,e],by omega,h1,by omega⟩
  .rw[if_neg h1]at h;cases h
theorem kY{xs:List α}{v:α}(h:EY xs i=some v):∃j,seqIndex? i xs.length=some j/\xs[j]?=some v/\j<xs.length /\ -(xs.length:Int)<=i/\i<xs.length:=by
 unfold EY at h
 cases e:G6 xs.length i with
 |none=>rw[e]at h;cases h
 |some j=>
  rw[e]at h
  obtain⟨h1,h2,h3,h4⟩:=pq e
  exact⟨j,h1,h,h2,h3,h4⟩
theorem au{xs:List α}{v:α}(h:xs[j]?=some v):EY xs (j:Int)=some v:=by
 have hj:j<xs.length:=(List.getElem?_eq_some_iff.mp h).1
 have e:G6 xs.length (j:Int)=some j:=by
  unfold G6
  rw[if_pos (by omega),if_pos (by omega)];simp
 unfold EY;rw[e];exact h
def fJ(b:Expr):Prop:=∀o i,afc b false o i=operate [o,i] (adr o i)
def Ib(X:Cx)(r:R2):Prop :=
 ∀(value slice:Expr) (pins:List (Addr×Obj)) (s:Shared) (σ:St) (H:Hp) (x y:V) (v u:Value) (Q:VK),Inv X pins σ H s->RelV x v->RelV y u->r x y H Q ->
  afc slice false v u=operate [v,u] (adr v u)->wpAny (model X.prog X.w) X.A (aeq value slice v u) (EP X pins σ Q) X.xe s
def OX(X:Cx)(id:String)(r:V->List V->Hp->VK->Prop):Prop :=
 ∀(pins:List (Addr×Obj)) (s:Shared) (σ:St) (H:Hp) (x:V) (xs:List V) (v:Value) (us:List Value) (Q:VK),Inv X pins σ H s->RelV x v->oF xs us->r x xs H Q ->
  wpAny (model X.prog X.w) X.A (call (.builtin id) (v::us)) (EP X pins σ Q) X.xe s
variable{a b:Expr}{ta tb:TE}
variable{r r':R2}
theorem Ib.or(h:Ib X r)(h':Ib X r'):Ib X (λx y H Q=>r x y H Q\/r' x y H Q):=by
 intro value slice pins s σ H x y v u Q I rx ry q hs
 rcases q with q|q
 .exact h value slice pins s σ H x y v u Q I rx ry q hs
 .exact h' value slice pins s σ H x y v u Q I rx ry q hs
theorem bI(hr:Ib X r)(ha:PE X a ta)(hb:PE X b tb)(hs:fJ b):PE X (.Subscript a b pos) (CZ r ta tb):=by
 intro pins s σ H Q I h
 exact aeH (Lz ha hb I h λv u s2 x y H2 I2 rx ry q=>hr a b pins s2 σ H2 x y v u Q I2 rx ry q (hs _ _))
def Dg(K:aag):R2:=λx y H Q=>∃p xs i v,x=.ref p/\y=.int i/\An K H p xs/\EY xs i=some v/\Q v H
def MK(K:aag):R2:=λx y H Q=>∃p xs i v,x=.ref p/\y=.int i/\zW K H p xs/\EY xs i=some v/\Q v H
def ML:R2:=λx y H Q=>∃z i c,x=.str z/\y=.int i/\z.length<=sizeLine/\EY z.cps.toList i=some c/\Q (.str ⟨#[c]⟩) H
theorem zG:Ib X (Dg X.K):=by
 intro value slice pins s σ H x y v u Q I rx ry h hs
 obtain⟨p,xs,i,z,rfl,rfl,hq,he,q⟩:=h
 cases rx
 obtain⟨t,rfl⟩:=ry
 obtain⟨eQ,r,pl,hz⟩:=I.list hq
 obtain⟨j,h1,h2,h3,h4,h5⟩:=kY he
 obtain⟨w,ew,CJ⟩:=r.get h2
 have hl:=r.length
 have hn:=BQ
 have fin:EP X pins σ Q w s:=⟨z,H,I,CJ,q⟩
 by_cases h0:0<=i
 .have hj:i.toNat=j:=by
   rw[seqIndex_of h0 h5]at h1
   exact aao h1
  exact item_listR pl.isList h0 (by omega) (by rw[hj];simpa using ew) fin hs
 .have hj:(i+(eQ.toArray.size:Int)).toNat=j:=by
   rw[seqIndex_neg (by omega) h4]at h1
   rw[aaf,<- hl]
   exact aao h1
  exact subscriptTail_builtinR (x:=w) pl.isList.typeIs slot_list_getitem.lookup
   (wpAny_getItem_list_neg (Q:=λr s'=>r=w/\EP X pins σ Q r s') pl.isList (by omega) (by rw[aaf]<;>omega) (by omega) (by rw[hj];simpa using ew) ⟨rfl,fin⟩) hs
theorem KO:Ib X (MK X.K):=by
 intro value slice pins s σ H x y v u Q I rx ry h hs
 obtain⟨p,xs,i,z,rfl,rfl,hq,he,q⟩:=h
 cases rx
 obtain⟨t,rfl⟩:=ry
 obtain⟨eQ,r,pl,hz⟩:=I.tuple hq
 obtain⟨j,h1,h2,h3,h4,h5⟩:=kY he
 obtain⟨w,ew,CJ⟩:=r.get h2
 have hl:=r.length
 have hn:=BQ
 have fin:EP X pins σ Q w s:=⟨z,H,I,CJ,q⟩
 exact subscriptTail_builtinR (x:=w) pl.typeIs slot_tuple_getitem.lookup
  (getItem_tuple (j:=j) (Q:=λr s'=>r=w/\EP X pins σ Q r s') pl (by omega) (by omega) (by rw[aaf,<- hl];exact h1) (by simpa using ew) ⟨rfl,fin⟩) hs
theorem xX:Ib X ML:=by
 intro value slice pins s σ H x y v u Q I rx ry h hs
 obtain⟨z,i,c,rfl,rfl,hz,he,q⟩:=h
 obtain⟨t,rfl⟩:=rx
 obtain⟨t',rfl⟩:=ry
 obtain⟨j,h1,h2,h3,h4,h5⟩:=kY he
 have hl:z.cps.toList.length=z.length:=by simp[aeI]
 rw[hl]at h1 h4 h5
 have hn:=BQ
 exact tail_any (typeIs_str s z t) slot_str_getitem.lookup (getItem_str (c:=c) (by
  have e1:decide (i < -(2 ^ 63:Int))=false:=decide_eq_false (by omega)
  have e2:decide (i ≥ 2 ^ 63)=false:=decide_eq_false (by omega)
  rw[e1,e2,Bool.or_false]) (by rw[h1];simpa using h2) ⟨.str ⟨#[c]⟩,H,I.tok _,⟨_,rfl⟩,q⟩) hs
def RS(K:aag):R2:=λx y H Q=>Dg K x y H Q\/MK K x y H Q\/ML x y H Q
theorem KP:Ib X (RS X.K):=zG.or (KO.or xX)
theorem qh(eQ:List Value)(n j:Nat)(u:Value):abd (·.setIfInBounds j u) {cls:=.type "list",data:=.seq eQ.toArray n}={cls:=.type "list",data:=.seq (eQ.set j u).toArray n}:=by
 simp[abd]
variable{pins:List (Addr×Obj)}{σ:St}{H:Hp}{s:Shared}
theorem Inv.lst{p:Addr}(I:Inv X pins σ H s)(h:H p=some (.lst xs)):
  ∃(eQ:List Value) (n:Nat),oF xs eQ/\s.heap.get? p=some {cls:=.type "list",data:=.seq eQ.toArray n}/\xs.length<=sizeLine:=by
 obtain⟨z,eQ,n,r,e⟩:=I.y6 p _ h
 exact⟨eQ,n,r,e,z⟩
variable{eQ:List Value}
theorem Inv.KN{p:Addr}{ys:List V}{its':List Value}{n':Nat}{f:Obj->Obj}(I:Inv X pins σ H s)(h:H p=some (.lst xs))
  (ho:s.heap.get? p=some {cls:=.type "list",data:=.seq eQ.toArray n}) (hf:f {cls:=.type "list",data:=.seq eQ.toArray n}={cls:=.type "list",data:=.seq its'.toArray n'}) (r:oF ys its') (hz:ys.length<=sizeLine) (t:Nat) :
  Inv X pins σ (upd H p (.lst ys)) {s with heap:=s.heap.update p f,toks:=t}:=by
 have e:(s.heap.update p f).get? p=some {cls:=.type "list",data:=.seq its'.toArray n'}:=by
  rw[Heap.get?_update_self f ho (by rw[hf]<;>rfl),hf]
 refine I.write (x:=p) (e:=p) (by rw[h];trivial) (.inl rfl) (λb u hb q=>(Heap.get?_update_other _ _ (abW hb)).trans q) ⟨_,e⟩ ?_
 exact⟨hz,its',n',r,e⟩
def F8:V->V->V->Hp->(Hp->Prop)->Prop:=λo i v H Q=>∃p xs k j,o=.ref p/\i=.int k/\H p=some (.lst xs)/\G6 xs.length k=some j/\Q (upd H p (.lst (xs.set j v)))
theorem i8:E1 X F8:=by
 intro pins s σ H o i v ov iv u Q I ro ri rv h
 obtain⟨p,xs,k,j,rfl,rfl,hp,hj,q⟩:=h
 cases ro
 obtain⟨t,rfl⟩:=ri
 obtain⟨eQ,n,r,ho,hz⟩:=I.lst hp
 obtain⟨h1,h2,h3,h4⟩:=pq hj
 have hl:=r.length
 have hn:=BQ
 have I':Inv X pins σ (upd H p (.lst (xs.set j v))) {s with heap:=s.heap.update p (abd (·.setIfInBounds j u))} :=
  I.KN hp ho (qh eQ n j u) (r.set rv j) (by rw[afm];exact hz) s.toks
 by_cases h0:0<=k
 .have hk:k.toNat=j:=by
   rw[seqIndex_of h0 h4]at h1
   exact aao h1
  exact PySem.W.ki_setAt ho h0 (by omega) (by rw[aaf,<- hl];exact h4) (by rw[hk];exact⟨_,I',q⟩)
 .have hk:(k+(eQ.toArray.size:Int)).toNat=j:=by
   rw[seqIndex_neg (by omega) h3]at h1
   rw[aaf,<- hl]
   exact aao h1
  exact PySem.W.ki_setBack ho (by omega) (by rw[aaf,<- hl];exact h3) (by omega) (by rw[hk];exact⟨_,I',q⟩)
theorem mB(lo hi:Option Int)(n:Nat):(adg lo hi none n).1=((HT.zQ n 0 lo:Nat):Int)/\(adg lo hi none n).2.1=((HT.zQ n n hi:Nat):Int)/\(adg lo hi none n).2.2=1:=by
 refine⟨?_,?_,rfl⟩
 .cases lo with
  |none=>simp[adg,HT.zQ]
  |some i=>
   simp only[adg,HT.zQ,Option.getD_none,show (1:Int) > 0 by decide,if_true]
   by_cases h:i<0
   .simp only[h,if_true]<;>omega
   .simp only[h,if_false]<;>omega
 .cases hi with
  |none=>simp[adg,HT.zQ]
  |some i=>
   simp only[adg,HT.zQ,Option.getD_none,show (1:Int) > 0 by decide,if_true]
   by_cases h:i<0
   .simp only[h,if_true]<;>omega
   .simp only[h,if_false]<;>omega
theorem lW(eQ:List Value)(lo hi:Option Int):slicePick eQ.toArray lo hi none=((eQ.drop (HT.zQ eQ.length 0 lo)).take (HT.zQ eQ.length eQ.length hi - HT.zQ eQ.length 0 lo)).toArray:=by
 obtain⟨h1,h2,h3⟩:=mB lo hi eQ.toArray.size
 unfold slicePick
 rw[h1,h2,h3]
 simp only[sliceRange_one,pick_run,aaf]<;>rfl
def PR(K:aag):V->Option Int->Option Int->Hp->VK->Prop:=λx lo hi H Q=>∃a xs,x=.ref a/\An K H a xs/\∀p,H p=none->Q (.ref p) (upd H p (.lst (CB xs lo hi)))
theorem j6:Jk X (PR X.K):=by
 intro pins s σ H x v vl vu lo hi sl Q I rx hs pl pu h
 obtain⟨a,xs,rfl,hx,q⟩:=h
 cases rx
 obtain⟨eQ,r,ht,hz⟩:=I.list hx
 have hlen:=r.length
 refine⟨"list",_,slot_list_getitem.lookup,ht.isList.typeIs,?_⟩
 refine wpAny_getItem_list_slice ht.isList hs pl pu .none (by simp) ?_ (by rw[aaf]<;>omega)
 rw[lW,<- hlen]
 refine⟨.ref s.heap.objs.size,_,I.laid (t':=s.toks) (o:=.lst (CB xs lo hi)) (λb ob q=>aac _ q) (aal _) ?_,rfl,q _ (I.y6.fresh (aal _))⟩
 exact⟨abg (iU xs lo hi) hz,_,0,(r.drop (HT.zQ xs.length 0 lo)).take (HT.zQ xs.length xs.length hi - HT.zQ xs.length 0 lo),aai _ rfl⟩
theorem mP:zH X (aaE .NotIn) (λx y H Q=>∃i j,x=.str i/\y=.str j/\Q (.bl (!(!(ac1 j i 0 j.length 1).isEmpty))) H):=by
 intro pins s σ H x y v u Q I rx ry h
 obtain⟨i,j,rfl,rfl,q⟩:=h
 obtain⟨t,rfl⟩:=rx
 obtain⟨t',rfl⟩:=ry
 exact notIn_str ⟨.bl _,H,I,rfl,q⟩
theorem gZ:zg X (.builtin "len") (λxs H Q=>∃p ys,xs=[.ref p]/\(An X.K H p ys\/zW X.K H p ys)/\Q (.int ys.length) H):=by
 intro pins s σ H xs us Q I r h
 obtain⟨p,ys,rfl,hq,q⟩:=h
 obtain⟨u,rfl,rx⟩:=vals1 r
 cases rx
 have hn:=BQ
 rcases hq with hq|hq
 .obtain⟨eQ,r',pl,hz⟩:=I.list hq
  have hlen:=r'.length
  exact Calls.call_len_list pl.isList (by simp only[aaf]<;>omega) ⟨.int ys.length,H,I.tok _,⟨s.toks+1,by rw[aaf,hlen]⟩,q⟩
 .obtain⟨eQ,r',pl,hz⟩:=I.tuple hq
  have hlen:=r'.length
  exact len_tuple pl (by simp only[aaf]<;>omega) ⟨.int ys.length,H,I.tok _,⟨s.toks+1,by rw[aaf,hlen]⟩,q⟩
theorem nR:zg X (.builtin "len") (λxs H Q=>∃z,xs=[.str z]/\z.length<=sizeLine/\Q (.int z.length) H):=by
 intro pins s σ H xs us Q I r h
 obtain⟨z,rfl,hz,q⟩:=h
 obtain⟨u,rfl,t,rfl⟩:=vals1 r
 have hn:=BQ
 exact len_str (by omega) ⟨.int z.length,H,I.tok _,⟨_,rfl⟩,q⟩
variable{f:Value}
theorem zg.or{r r':List V->Hp->VK->Prop}(h:zg X f r)(h':zg X f r'):zg X f (λxs H Q=>r xs H Q\/r' xs H Q):=by
 intro pins s σ H xs us Q I rs q
 rcases q with q|q
 .exact h pins s σ H xs us Q I rs q
 .exact h' pins s σ H xs us Q I rs q
theorem nQ:zg X (.type "list") (λxs H Q=>∃p ys,xs=[.ref p]/\(An X.K H p ys\/zW X.K H p ys)/\∀l,H l=none->Q (.ref l) (upd H l (.lst ys))):=by
 intro pins s σ H xs us Q I r h
 obtain⟨p,ys,rfl,hq,q⟩:=h
 obtain⟨u,rfl,rx⟩:=vals1 r
 cases rx
 have fin:∀(eQ:List Value),oF ys eQ->ys.length<=sizeLine->∀(h':Heap) (c':Nat),(∀b o',s.heap.get? b=some o'->h'.get? b=some o') ->
   h'.get? s.heap.objs.size=some {cls:=.type "list",dict:=none,data:=.seq eQ.toArray c',slots:=#[]}->EP X pins σ Q (.ref s.heap.objs.size) {s with heap:=h'}:=λeQ r' hz h' c' kp e=>
  ⟨.ref s.heap.objs.size,_,I.laid (t':=s.toks) kp (aal _) (show zi X.prog X.w _ h' _ (.lst ys)from ⟨hz,eQ,c',r',e⟩),rfl,q _ (I.y6.fresh (aal _))⟩
 rcases hq with hq|hq
 .obtain⟨eQ,r',pl,hz⟩:=I.list hq
  have hlen:=r'.length
  obtain⟨o,ho,hc,n,hd⟩:=pl.isList
  exact call_list_seq p (.inl rfl) ho hc hd (λh' c' kp e=>fin eQ r' hz h' c' kp e) (by simp only[aaf]<;>omega)
 .obtain⟨eQ,r',pl,hz⟩:=I.tuple hq
  have hlen:=r'.length
  obtain⟨o,ho,hc,n,hd⟩:=pl
  exact call_list_seq p (.inr rfl) ho hc hd (λh' c' kp e=>fin eQ r' hz h' c' kp e) (by simp only[aaf]<;>omega)
theorem mh:zg X (.type "tuple") (λxs H Q=>∃p ys,xs=[.ref p]/\((An X.K H p ys/\∀l,H l=none->Q (.ref l) (upd H l (.tup ys)))\/(zW X.K H p ys/\Q (.ref p) H))):=by
 intro pins s σ H xs us Q I r h
 obtain⟨p,ys,rfl,h⟩:=h
 obtain⟨u,rfl,rx⟩:=vals1 r
 cases rx
 rcases h with ⟨hq,q⟩|⟨hq,q⟩
 .obtain⟨eQ,r',pl,hz⟩:=I.list hq
  have hlen:=r'.length
  refine call_tuple_list pl.isList (λh' kp=>?_) (by simp only[aaf]<;>omega)
  have I1:Inv X pins σ H {s with heap:=h'}:=I.kept (t':=s.toks) kp
  have I2:Inv X pins σ (upd H h'.objs.size (.tup ys)) {s with heap:=h'.push {cls:=.type "tuple",data:=.seq eQ.toArray}} :=
   I1.laid (t':=s.toks) (λb o e=>aac _ e) (aal _) (show zi X.prog X.w _ _ _ (.tup ys)from ⟨hz,eQ,r',afo _ _⟩)
  exact⟨.ref h'.objs.size,_,I2,rfl,q _ (I1.y6.fresh (aal _))⟩
 .obtain⟨eQ,r',pl,hz⟩:=I.tuple hq
  exact call_tuple_same pl ⟨.ref p,H,I,rfl,q⟩
def Pl(K:aag)(T:String)(x:V)(H:Hp):Prop:=match x with
 |.str _=>T = "str"
 |.int _=>T = "int"
 |.ref p=>(T = "list" /\ ∃xs,An K H p xs)\/(T = "tuple" /\ ∃o,K.lookup p=some o/\o.cls=.type "tuple" /\ o.dict=none) \/
   (T = "dict" /\ ((∃kvs,H p=some (.dK kvs))\/∃kvs,H p=some (.dT kvs)))\/(T = "set" /\ ∃S n,H p=some (.set S n))
 |_=>False
variable{x:V}{v:Value}
theorem qF{T:String}(I:Inv X pins σ H s)(r:RelV x v)(ty:Pl X.K T x H):
  s.TypeIs v T/\∀a,v=.ref a->∃ob,s.heap.get? a=some ob/\ob.dict=none:=by
 cases x with
 |str z=>
  obtain⟨t,rfl⟩:=r
  cases (show T = "str" from ty)
  exact⟨typeIs_str s z t,λ_ e=>nomatch e⟩
 |int i=>
  obtain⟨t,rfl⟩:=r
  cases (show T = "int" from ty)
  exact⟨typeIs_int s i t,λ_ e=>nomatch e⟩
 |ref p=>
  cases r
  rcases ty with ⟨rfl,xs,hq⟩|⟨rfl,o,hk,hc,hd⟩|⟨rfl,hk⟩|⟨rfl,S,n,hk⟩
  .obtain⟨eQ,_,pl,_⟩:=I.list hq
   refine⟨pl.isList.typeIs,λa e=>?_⟩
   cases e
   obtain⟨o,n,e,c,hd,_⟩:=pl
   exact⟨o,e,hd⟩
  .refine⟨⟨o,I.Ea p o hk,hc⟩,λa e=>?_⟩
   cases e
   exact⟨o,I.Ea _ o hk,hd⟩
  .have z:∃o,s.heap.get? p=some o/\o.ExactDict:=by
    rcases hk with ⟨kvs,hk⟩|⟨kvs,hk⟩
    .obtain⟨_,_,_,_,o,_,_,e,ex,_⟩:=I.y6 p _ hk
     exact⟨o,e,ex⟩
    .obtain⟨_,_,_,_,o,_,_,e,ex,_⟩:=I.y6 p _ hk
     exact⟨o,e,ex⟩
   obtain⟨o,e,ex⟩:=z
   refine⟨⟨o,e,ex.1⟩,λa e2=>?_⟩
   cases e2
   exact⟨o,e,ex.2.1⟩
  .obtain⟨o,_,_,_,e,ex,_⟩:=I.y6 p _ hk
   refine⟨⟨o,e,ex.1⟩,λa e2=>?_⟩
   cases e2
   exact⟨o,e,ex.2.1⟩
 |_=>exact acV ty
def Pz(K:aag)(T:String)(r:V->List V->Hp->VK->Prop)(to:TE):TE:=λσ H Q=>to σ H λx H1=>Pl K T x H1/\r x [] H1 Q
def RL(K:aag)(T:String)(r:V->List V->Hp->VK->Prop)(to:TE)(t:TA):TE:=λσ H Q=>to σ H λx H1=>Pl K T x H1/\t σ H1 λxs H2=>r x xs H2 Q
variable{o:Expr}{es:List Expr}{to:TE}{t:TA}{name:Str}{apos zS:Pos}{T id:String}{r:V->List V->Hp->VK->Prop}
theorem xr(pa:PlainAttrs T)(slot:Slot T name id)(GG:typeOf (.builtin id)=pure (.type "method_descriptor"))(hm:OX X id r)(ho:PE X o to)
  (Ay:acL o name X.env (eval o X.env)=eval o X.env:=by rfl) (Ax:(apos.endLine==zS.line)=true:=by rfl):PE X (.Call (.Attribute o name apos) [] [] zS) (Pz X.K T r to):=by
 intro pins s σ H Q I h
 refine wpAny_Call_method0_late Ay Ax (zC (ho pins s σ H _ I h) λv s1 ⟨x,H1,I1,r1,ty,q1⟩=>?_)
 obtain⟨h1,h2⟩:=qF I1 r1 ty
 exact⟨T,id,pa,slot,GG,h1,h2,adW rfl (PySem.evalArgs_none (hm pins s1 σ H1 x [] v [] Q I1 r1 .nil q1))⟩
theorem qb(pa:PlainAttrs T)(slot:Slot T name id)(GG:typeOf (.builtin id)=pure (.type "method_descriptor"))(hm:OX X id r)(ho:PE X o to)(ha:PA X (e::es) t)
  (Ay:acL o name X.env (eval o X.env)=eval o X.env:=by rfl)
  (FA:((backTo zS (aam (e::es) X.env)).all (λx=>!x.1) && (ae8 zS (adO [] X.env)).all (λx=>x.1.isSome)
   && decide ((e::es).length+([]:List ad7).length+(if ([]:List ad7).isEmpty then 0 else 1)<30))=true:=by rfl)
  (Ax:(apos.endLine==zS.line)=true:=by rfl) (hs:aam (e::es) X.env=(false,eval e X.env)::aam es X.env:=by rfl) (BR:(backTo zS (aam es X.env)).any (·.1)=false:=by rfl) :
  PE X (.Call (.Attribute o name apos) (e::es) [] zS) (RL X.K T r to t):=by
 intro pins s σ H Q I h
 refine wpAny_Call_method_late Ay FA Ax rfl (zC (ho pins s σ H _ I h) λv s1 ⟨x,H1,I1,r1,ty,q1⟩=>?_)
 obtain⟨h1,h2⟩:=qF I1 r1 ty
 refine⟨T,id,pa,slot,GG,h1,h2,?_⟩
 have hA:=ha zS pins s1 σ H1 _ I1 q1
 rw[hs]at hA ⊢
 refine adW (by show (false || (backTo zS (aam es X.env)).any (·.1))=false;rw[BR]<;>rfl) (Calls.evalArgs_plain ?_)
 exact zC hA λus s2 ⟨vs,H2,I2,r2,q2⟩=>hm pins s2 σ H2 x vs v us Q I2 r1 r2 q2

def OY(X:Cx)(id:String)(r:V->List V->Hp->VK->Prop):Prop :=
 ∀(pins:List (Addr×Obj)) (s:Shared) (σ:St) (H:Hp) (x:V) (xs:List V) (v:Value) (us:List Value) (Q:VK),Inv X pins σ H s->RelV x v->oF xs us->r x xs H Q ->
  wpAny (model X.prog X.w) X.A (call (.builtin id) (v::us)) (EP X pins σ Q) X.xe s
theorem oF.one:∀{x:V} {us:List Value},oF [x] us->∃u,us=[u]/\RelV x u
 |_,_,.cons r .nil=>⟨_,rfl,r⟩
theorem oF.two:∀{x y:V} {us:List Value},oF [x,y] us->∃u v,us=[u,v]/\RelV x u/\RelV y v
 |_,_,_,.cons r (.cons q .nil)=>⟨_,_,rfl,r,q⟩
theorem oF.zero:∀{us:List Value},oF [] us->us=[]
 |_,.nil=>rfl
theorem oF.dropLast{us:List Value}(h:oF xs us):oF xs.dropLast us.dropLast:=by
 induction h with
 |nil=>exact .nil
 |cons r t ih=>
  cases t with
  |nil=>exact .nil
  |cons q t'=>exact .cons r ih
theorem oF.eraseIdx:∀{xs:List V} {us:List Value} (i:Nat),oF xs us->oF (xs.eraseIdx i) (us.eraseIdx i)
 |_,_,_,.nil=>.nil
 |_,_,0,.cons _ t=>t
 |_,_,i+1,.cons r t=>.cons r (oF.eraseIdx i t)
theorem oF.reverse{us:List Value}(h:oF xs us):oF xs.reverse us.reverse:=by
 induction h with
 |nil=>exact .nil
 |cons r t ih=>rw[acM,acM];exact oF.append ih (.cons r .nil)
theorem oF.rep{us:List Value}(h:oF xs us):∀k:Nat,oF (aaF k xs).flatten (aaF k us).flatten
 |0=>.nil
 |k+1=>by
  rw[aa8,aa8,ab6,ab6]
  exact oF.append h (oF.rep h k)
theorem qq(l:List α):l.eraseIdx (l.length - 1)=l.dropLast:=by
 induction l with
 |nil=>rfl
 |cons a r ih=>
  cases r with
  |nil=>rfl
  |cons b r=>
   have e:(a::b::r).length - 1=((b::r).length - 1)+1:=by
    have h1:(a::b::r).length=r.length+2:=rfl
    have h2:(b::r).length=r.length+1:=rfl
    omega
   rw[e,List.eraseIdx_cons_succ,ih]
   all_goals rfl
theorem lC:∀(l:List α) (i:Nat),(l.eraseIdx i).length<=l.length
 |[],_=>aal _
 |_::_,0=>afk _
 |_::r,i+1=>Nat.succ_le_succ (lC r i)
theorem lI(eQ:List Value):∀(k:Nat) (acc:List Value),
  List.foldl (λx1 x2=>x1++x2) acc.toArray (aaF k eQ.toArray)=(acc++(aaF k eQ).flatten).toArray
 |0,acc=>by simp
 |k+1,acc=>by
  have e:acc.toArray++eQ.toArray=(acc++eQ).toArray:=by simp
  have e2:(acc++eQ)++(aaF k eQ).flatten=acc++(aaF (k+1) eQ).flatten:=by
   rw[aa8,ab6,adI]
  rw[<- e2,<- lI eQ k (acc++eQ),<- e,aa8,ad6]
variable{l b:Addr}{ys zs:List V}
variable{t':Nat}
theorem Inv.IP{its':List Value}{f:Array Value->Array Value}(I:Inv X pins σ H s)(hH:H l=some (.lst xs))
  (e:s.heap.get? l=some {cls:=.type "list",data:=.seq eQ.toArray n}) (hf:f eQ.toArray=its'.toArray) (hv:oF ys its') (hz:ys.length<=sizeLine) :
  Inv X pins σ (upd H l (.lst ys)) {s with heap:=s.heap.update l (abd f),toks:=t'}:=by
 have q:=PySem.IsL.update e f
 rw[hf]at q
 refine I.write (x:=l) (e:=l) (by rw[hH];exact trivial) (.inl rfl) (λb' u hb hu=>(Heap.get?_update_other s.heap (abd f) (abW hb)).trans hu) ⟨_,q⟩ ?_
 exact⟨hz,its',_,hv,q⟩
theorem Inv.M9(I:Inv X pins σ H s)(hv:oF ys eQ)(hz:ys.length<=sizeLine):
  Inv X pins σ (upd H s.heap.objs.size (.lst ys)) {s with heap:=s.heap.push {cls:=.type "list",data:=.seq eQ.toArray},toks:=t'} :=
 I.laid (λ_ _ q=>aac _ q) (aal _) ⟨hz,eQ,0,hv,aai _ rfl⟩
theorem Inv.fresh(I:Inv X pins σ H s):H s.heap.objs.size=none:=I.y6.fresh (aal _)
theorem Inv.EI(I:Inv X pins σ H s)(hH:H l=some (.lst xs)):xs.length<=sizeLine/\∃(eQ:List Value) (n:Nat),oF xs eQ/\xs.length=eQ.length/\s.heap.get? l=some {cls:=.type "list",data:=.seq eQ.toArray n}:=by
 obtain⟨z,eQ,n,r,e⟩:=I.y6 l _ hH
 exact⟨z,eQ,n,r,r.length,e⟩
theorem mQ(h:n<=sizeLine):acW n=false:=by
 unfold acW
 exact decide_eq_false (by omega)
def oV:V->List V->Hp->VK->Prop:=λx vs H Q=>∃l xs y,x=.ref l/\vs=[y]/\H l=some (.lst xs)/\xs.length<sizeLine/\Q .oR (upd H l (.lst (xs++[y])))
theorem bx:OY X "list.append" oV:=by
 intro pins s σ H x vs v us Q I rx rv h
 obtain⟨l,xs,y,rfl,rfl,hH,hz,q⟩:=h
 cases rx
 obtain⟨u,rfl,ru⟩:=rv.one
 obtain⟨z,eQ,n,r,hl,e⟩:=I.EI hH
 refine aeb F.slot_list_append ⟨_,e,rfl⟩ F.entry_list_append (F.args_list_append_2 _ _) (PySem.list_append l eQ.toArray n u (by rw[aaf];omega)) ⟨e,?_⟩
 refine⟨.oR,_,I.IP (its':=eQ++[u]) hH e (by simp) (r.append (.cons ru .nil)) ?_,rfl,q⟩
 rw[aaJ,List.length_singleton]
 omega
def oT:V->List V->Hp->VK->Prop:=λx vs H Q=>∃l b xs zs,x=.ref l/\vs=[.ref b]/\H l=some (.lst xs)/\H b=some (.lst zs)/\xs.length+zs.length<=sizeLine/\Q .oR (upd H l (.lst (xs++zs)))
theorem rF:OY X "list.extend" oT:=by
 intro pins s σ H x vs v us Q I rx rv h
 obtain⟨l,b,xs,zs,rfl,rfl,hH,hB,hz,q⟩:=h
 cases rx
 obtain⟨u,rfl,ru⟩:=rv.one
 cases ru
 obtain⟨z,eQ,n,r,hl,e⟩:=I.EI hH
 obtain⟨z2,zU,n2,r2,G7,e2⟩:=I.EI hB
 have hsz:eQ.toArray.size+zU.toArray.size<=sizeLine:=by rw[aaf,aaf];omega
 have HM:¬ (!eQ.toArray.isEmpty && acW (eQ.toArray.size+zU.toArray.size))=true:=by
  rw[mQ hsz,Bool.and_false]
  exact aaB
 refine aeb F.slot_list_extend ⟨_,e,rfl⟩ F.entry_list_extend (F.args_list_extend_2 _ _)
  (AutoSeq1.list_extend_list_list_0 l eQ.toArray n b zU.toArray n2 HM (by rw[aaf];omega) (by omega)) ⟨e,e2,?_⟩
 refine⟨.oR,_,I.IP (its':=eQ++zU) hH e (by simp) (r.append r2) ?_,rfl,q⟩
 rw[aaJ]
 omega
def MG:V->List V->Hp->VK->Prop:=λx vs H Q=>∃l xs y,x=.ref l/\vs=[]/\H l=some (.lst xs)/\xs[xs.length - 1]?=some y/\Q y (upd H l (.lst xs.dropLast))
theorem xI:OY X "list.pop" MG:=by
 intro pins s σ H x vs v us Q I rx rv h
 obtain⟨l,xs,y,rfl,rfl,hH,hy,q⟩:=h
 cases rx
 have TL:=rv.zero
 subst TL
 obtain⟨z,eQ,n,r,hl,e⟩:=I.EI hH
 obtain⟨u,hu,ru⟩:=r.get hy
 have OE:eQ.toArray[eQ.toArray.size - 1]?=some u:=by
  show eQ.toArray[eQ.length - 1]?=some u
  rw[<- ac9,<- hl]
  exact hu
 refine aeb F.slot_list_pop ⟨_,e,rfl⟩ F.entry_list_pop (F.args_list_pop_1 _) (MeetsSeq.list_pop_last l eQ.toArray n u OE (by rw[aaf];omega)) ⟨e,?_⟩
 refine⟨y,_,I.IP (its':=eQ.dropLast) hH e ?_ r.dropLast ?_,ru,q⟩
 .show eQ.toArray.eraseIdxIfInBounds (eQ.toArray.size - 1)=eQ.dropLast.toArray
  rw[aaf,aeO,qq]
 .rw[List.length_dropLast]
  omega
def KD:V->List V->Hp->VK->Prop:=λx vs H Q=>∃l xs i k y,x=.ref l/\vs=[.int i]/\H l=some (.lst xs) /\ -(2 ^ 63)<=i/\i<2 ^ 63/\seqIndex? i xs.length=some k/\xs[k]?=some y/\Q y (upd H l (.lst (xs.eraseIdx k)))
theorem t7:OY X "list.pop" KD:=by
 intro pins s σ H x vs v us Q I rx rv h
 obtain⟨l,xs,i,k,y,rfl,rfl,hH,h1,h2,hk,hy,q⟩:=h
 cases rx
 obtain⟨u,rfl,ru⟩:=rv.one
 obtain⟨t,rfl⟩:=ru
 obtain⟨z,eQ,n,r,hl,e⟩:=I.EI hH
 obtain⟨w,hw,CJ⟩:=r.get hy
 refine aeb F.slot_list_pop ⟨_,e,rfl⟩ F.entry_list_pop (F.args_list_pop_2 _ _)
  (MeetsSeq.list_pop_at l eQ.toArray n i t k w (fitsIndex_both h1 h2) (by rw[aaf,<- hl];exact hk) (by rw[<- ac9];exact hw) (by rw[aaf];omega)) ⟨e,?_⟩
 refine⟨y,_,I.IP (its':=eQ.eraseIdx k) hH e ?_ (r.eraseIdx k) ?_,CJ,q⟩
 .show eQ.toArray.eraseIdxIfInBounds k=(eQ.eraseIdx k).toArray
  rw[aeO]
 .have:=lC xs k
  omega
def MR:R2:=λx y H Q=>∃l b xs zs,x=.ref l/\y=.ref b/\H l=some (.lst xs)/\H b=some (.lst zs)/\xs.length+zs.length<=sizeLine/\∀p,H p=none->Q (.ref p) (upd H p (.lst (xs++zs)))
theorem xF:zH X (acq .Add) MR:=by
 intro pins s σ H x y v u Q I rx ry h
 obtain⟨l,b,xs,zs,rfl,rfl,hH,hB,hz,q⟩:=h
 cases rx
 cases ry
 obtain⟨z,eQ,n,r,hl,e⟩:=I.EI hH
 obtain⟨z2,zU,n2,r2,G7,e2⟩:=I.EI hB
 refine PySem.P.add_list e e2 ?_ (by rw[aaf,aaf];omega)
 have ea:eQ.toArray++zU.toArray=(eQ++zU).toArray:=by simp
 rw[ea]
 exact⟨.ref _,_,I.M9 (t':=s.toks) (r.append r2) (by rw[aaJ];omega),rfl,q _ I.fresh⟩
def MF:R2:=λx y H Q=>∃l k xs,x=.ref l/\y=.int k/\H l=some (.lst xs) /\ -(2 ^ 63)<=k/\k<2 ^ 63/\xs.length*k.toNat<=sizeLine /\
 ∀p,H p=none->Q (.ref p) (upd H p (.lst (aaF k.toNat xs).flatten))
theorem wc(xs:List α)(k:Nat):(aaF k xs).flatten.length=k*xs.length:=by
 induction k with
 |zero=>simp
 |succ k ih=>rw[aa8,ab6,aaJ,ih,Nat.succ_mul,ad3]
theorem xB:zH X (acq .Mult) MF:=by
 intro pins s σ H x y v u Q I rx ry h
 obtain⟨l,k,xs,rfl,rfl,hH,h1,h2,hz,q⟩:=h
 cases rx
 obtain⟨t,rfl⟩:=ry
 obtain⟨z,eQ,n,r,hl,e⟩:=I.EI hH
 have hlen:eQ.toArray.size*k.toNat<=sizeLine:=by rw[aaf,<- hl];exact hz
 have zV:¬ eQ.toArray.size*k.toNat > (2 ^ 63 - 1) / 8:=by
  have:(sizeLine:Nat)<=(2 ^ 63 - 1) / 8:=by decide
  omega
 have QS:¬ (!Builtin.List.listFitsIndex k)=true:=by
  rw[fitsIndex_both h1 h2]
  exact aaB
 have HM:¬ acW (eQ.toArray.size*k.toNat)=true:=by
  rw[mQ hlen]
  exact aaB
 have Fy:List.foldl (λx1 x2=>x1++x2) #[] (aaF (if eQ.toArray.isEmpty=true then 0 else k.toNat) eQ.toArray)=(aaF k.toNat eQ).flatten.toArray:=by
  have f0:∀m:Nat,List.foldl (λx1 x2=>x1++x2) #[] (aaF m eQ.toArray)=(aaF m eQ).flatten.toArray:=λm=>by
   have:=lI eQ m []
   rw[aaO]at this
   exact this
  rw[f0]
  cases eQ with
  |nil=>simp
  |cons a r'=>rw[if_neg (by simp)]
 refine wpAny_binaryOp_repeat_ref (T := "list") (U := "int") (by decide) ⟨_,e,rfl⟩ (λs'=>typeIs_int s' k t) noFill_list_mul F.fills_int_mul F.slot_int_rmul repeat_list F.slot_int_index.lookup
  (aeb F.slot_int_rmul (typeIs_int s k t) F.entry_int_rmul (F.args_int_rmul_2 _ _) (int___rmul___int_list k t l eQ.toArray n)
   ⟨e,rfl,⟨_,e,rfl⟩,aeb F.slot_list_mul ⟨_,e,rfl⟩ F.entry_list_mul (F.args_list_mul_2 _ _) (AutoListH.list___mul___list_int_3 l eQ.toArray n k t QS zV HM) ⟨e,?_⟩⟩)
 rw[Fy]
 exact⟨.ref _,_,I.M9 (t':=s.toks) (r.rep k.toNat) (by rw[wc,Nat.mul_comm];exact hz),rfl,q _ I.fresh⟩
variable{prog:aaH}{w:World}{A:Around}{E:Value->Shared->Prop}
end L2
namespace Att
open PySem PySem.W PySem.Calls PyProof.Rows
theorem jL{P:Params}{h:Heap}:∀(ns:List Int) (vs:List Value),WellAll P h vs (ns.map WData.int)->IntsAre vs ns:=by
 intro ns
 induction ns with
 |nil=>
  intro vs w
  rw[adp]at w
  cases w
  exact .nil
 |cons n ns ih=>
  intro vs w
  rw[aar]at w
  cases w with
  |cons a b=>
   cases a
   exact .cons _ _ (ih _ b)
theorem qM{l:OpenLaw}{n:Nat}(hn:l.most=some n){P:Params}{h:Heap}{args:List WData}{vals:List Value}
  (IV:l.row.toRowW.claim.pre args=true) (Qs:WellAll P h vals args) :
  ∃a vs ns,vals=[aau a]/\args=[WData.list (ns.map WData.int)]/\h.get? a=some {cls:=.type "list",data:=.seq vs.toArray}/\IntsAre vs ns/\ns.length<=n:=by
 have TQ:WShape.hasAll [] args [.list .int]=true:=(pre_splitW IV).1
 have hc:l.pre.holds [] {args:=args}=true:=(pre_splitW IV).2
 obtain⟨d,r,rfl,h1,h2⟩:=hasAllW_cons TQ
 obtain rfl:=hasAllW_nil h2
 obtain⟨xs,rfl,h3⟩:=hasW_list h1
 obtain⟨ns,rfl⟩:=items_int h3
 have hlen:ns.length<=n:=by
  unfold OpenLaw.pre at hc
  have h4:(WTm.not (.lt (.lit (.int (n:Int))) (.len (.arg 0)))).holds [] {args:=[.list (ns.map .int)]}=true:=by
   have h4:=(holds_andW hc).1
   rw[hn]at h4
   exact h4
  have h5:=condW_of h4 (w_not (w_lt w_lit (w_len_list (w_arg rfl))))
  rw[aae]at h5
  refine Nat.le_of_not_lt λq=>?_
  have q':(n:Int)<((ns.length:Nat):Int):=by omega
  first
   |(rw[decide_eq_true q']at h5;exact absurd h5 (by decide))
   |(simp at h5;omega)
 cases Qs with
 |cons w1 w2=>
  cases w2
  cases w1 with
  |list ho Lf=>exact⟨_,_,ns,rfl,rfl,ho,jL ns _ Lf,hlen⟩
theorem qS(l:OpenLaw)(args:List WData):l.row.toRowW.claim.post args (.bool true) args=true :=
 postW_of (r:=l.row.toRowW) (X:=(true==true))
  (show WShape.has [] (.bool true) .bool=true by first|rfl|decide|simp[WShape.has,WShape.arms,WShape.armsAll])
  (show (WTm.eq .res (.lit (.bool true))).value [] {args:=args,res:=some (.bool true),after:=args}=some (.bool (true==true))from w_eq_bool (w_res rfl) w_lit) rfl
theorem EX{l:OpenLaw}{n:Nat}{q:aaH}{loose:List Str}{XP:(Str->Option Value)->Heap->Prop}{YP:World->Heap->Prop}{d:DefRec}
  (hn:l.most=some n) (ND:d.params.defaults=[])
  (call:∀(w:World) (s₀ s₁:Shared) (mg mb:Str->Option Value) (fa:Addr) (o:Obj) (pm cd doc:Value) (a:Addr) (vs:List Value) (ns:List Int),
   Ground q loose [] XP w s₀ mg mb s₁.heap->YP w s₁.heap ->
   s₁.heap.get? fa=some o->o.data=.func (docDef d.name d.params d.body d.scope pm cd doc)->s₁.heap.CodeRec cd d.name->mg d.name=some (.ref fa) ->
   s₁.heap.get? a=some {cls:=.type "list",data:=.seq vs.toArray}->IntsAre vs ns->ns.length<=n->s₁.gens=#[] ->
   ads (model l.prog w) afe (.call (.ref fa) ⟨[.ref a],[]⟩) (λr s'=>r=.ok (.ret (.bool true))/\OldK s₁.heap s'.heap/\s'.os=s₁.os/\aen s'.gens) s₁) :
  WalkO q loose XP YP l.row.toRowW d [] (λf vs=>PySem.call f vs):=by
 intro w s₀ s₁ mg mb G Y fa o pm cd doc dV kV ho hd Dr hD hmg hg args vals as IV T9 Vs Qs Vx
 obtain rfl:dV=.none:=Dflts.none hD ND
 obtain rfl:kV=.none:=Dflts.noKw hD
 obtain⟨a,vs,ns,rfl,rfl,KW,hints,hlen⟩:=qM hn IV Qs
 refine enter_call (codeAny_mono (call w s₀ s₁ mg mb fa o pm cd doc a vs ns G Y ho (fd_plain hd) Dr hmg KW hints hlen hg) λr s' hq=>?_)
 obtain⟨rfl,h2,h3,h4⟩:=hq
 exact⟨.inl ⟨.bool true,.bool true,[],rfl,λ_=>rfl,.bool true,qS l _,λ_=>⟨aeP,λ_ hm=>(nomatch hm)⟩⟩,h2,h3,h4⟩
variable{prog:aaH}{w:World}{A:Around}{E:Value->Shared->Prop}{s:Shared}{K:Frag}
end Att
namespace L2
open PySem PySem.Spec PyProof.Rows
theorem lg:∀{vs:List Value} {ns:List Int},IntsAre vs ns->oF (ns.map V.int) vs
 |_,_,.nil=>.nil
 |_,_,.cons n t h=>.cons ⟨t,rfl⟩ (lg h)
end L2

namespace L2
open PySem PySem.Spec PyProof.Rows
def dE(s:Stmt):Arguments:=match s with
 |.FunctionDef _ a _ _ _ _ _ _ _ _=>a
 |_=>{posonlyargs:=[],args:=[],vararg:=none,kwonlyargs:=[],kw_defaults:=[],kwarg:=none,defaults:=[]}
def bh(s:Stmt):List Stmt:=match s with
 |.FunctionDef _ _ b _ _ _ _ _ _ _=>b
 |_=>[]
def aq(s:Stmt):Scope:=match s with
 |.FunctionDef _ _ _ _ _ _ sc _ _ _=>sc
 |_=>{kind:=.function,names:=[],isGenerator:=false,isCoroutine:=false}
abbrev Ak:Mo:=λ_ _ _ _ _ _=>False
abbrev E0:XK:=λ_ _ _=>False
variable{X:Cx}
theorem ED:FL Ak X E0:=λ_ _ _ _ _ _ _ h=>h.elim
structure FP(K:aag)(x qual:Str)(st:Stmt)(f:Addr)(fd:ab0):Prop where
 ex:∃(oc:Value) (od:Option Addr) (kV doc pm:Value) (an:Option Addr) (zr ct:Value) (IG:Array (Option Value)),
  fd=acU x qual (dE st) (bh st) (aq st) .none kV doc pm an zr ct/\K.lookup f=some ⟨oc,od,.func fd,IG⟩/\aeh K zr qual=true
 kp:abU K (.ref f)=true
variable{P:aaH}{w:World}{K:aag}{mg:Str->Option Value}{base:Heap}
variable{x qual:Str}{st:Stmt}{f:Addr}{fd:ab0}{N ps:List Str}{k:Nat}{sp:Sp}
theorem FP.ok(F:FP K x qual st f fd)(S:aA N ps (aq st))(len:∀vs H Q E,sp vs H Q E->vs.length=ps.length)
  (ES:∀(zr:Value) (A:Around) (outer:List Env) (s:Shared) (H:Hp) (vs:List V) (Q:VK) (E:XK),zy k (A.deeper (envOfC qual (aq st) s.heap.objs.size f zr))->sp vs H Q E ->
   ∃t,FN (C2 Ak P w K mg base N qual (aq st) f zr A outer s H E).Hz (bh st) t/\t {nx:=λ_ H'=>Q .oR H',rt:=Q} (start N vs) H):zf P w K mg base Ak (k+1) f fd ps sp:=by
 obtain⟨oc,od,kV,doc,pm,an,zr,ct,IG,rfl,lk,Dr⟩:=F.ex
 refine uT lk Dr S len λA outer s H vs Q E hr Ih=>?_
 obtain⟨t,h,q⟩:=ES zr A outer s H vs Q E hr Ih
 exact⟨t,h.Hz,q⟩
theorem FP.binds(F:FP K x qual st f fd)
  (h:∀(kV doc pm:Value) (an:Option Addr) (zr ct:Value) (us:List Value),us.length=ps.length->ac7 (acU x qual (dE st) (bh st) (aq st) .none kV doc pm an zr ct) ⟨us,[]⟩=pure (ps.zip us)):Binds K fd ps []:=by
 obtain⟨oc,od,kV,doc,pm,an,zr,ct,IG,rfl,lk,Dr⟩:=F.ex
 exact .all (h kV doc pm an zr ct)
variable{pm:Value}
theorem sn{oc:Value}{od an:Option Addr}{IG:Array (Option Value)}{kV doc zr ct:Value}(l:K.lookup f=some ⟨oc,od,.func (acU x qual (dE st) (bh st) (aq st) .none kV doc pm an zr ct),IG⟩)
  (c:aeh K zr qual=true) (k:abU K (.ref f)=true):FP K x qual st f (acU x qual (dE st) (bh st) (aq st) .none kV doc pm an zr ct):=⟨⟨oc,od,kV,doc,pm,an,zr,ct,IG,rfl,l,c⟩,k⟩
variable{pos:Pos}
theorem pv(i:Nat)(hN:X.N[i]?=some x:=by rfl)(hv:Ek X.env.scope x:=by first|exact Or.inl rfl|exact Or.inr (Or.inl rfl)|exact Or.inr (Or.inr rfl))(hd:(x==("__debug__" : Str))=false:=by decide)
  (Dr:(x==("__classdict__" : Str))=false:=by decide):PE X (.Name x pos) (zK i):=xl hN hv hd Dr
variable{A B:Prop}
theorem C1(h:B):if false=true then A else B:=by
 rw[if_neg aaB]
 exact h
theorem Dn(h:A):if true=true then A else B:=by
 rw[if_pos rfl]
 exact h
theorem Nh{c:Prop}[Decidable c](h1:c->A)(h2:¬ c->B):if c then A else B:=by
 by_cases h:c
 .rw[if_pos h]
  exact h1 h
 .rw[if_neg h]
  exact h2 h
def bY(H H':Hp):Prop:=∀b o,H b=some o->H' b=some o
theorem bY.refl(H:Hp):bY H H:=λ_ _ h=>h
variable{H H':Hp}{l:Addr}
theorem bY.free(e:bY H H')(h:H' l=Option.none):H l=Option.none:=by
 cases q:H l with
 |none=>rfl
 |some o=>
  rw[e l o q]at h
  cases h
variable{a:Addr}{xs:List V}
theorem bY.seq(e:bY H H')(h:An K H a xs):An K H' a xs:=by
 rcases h with (h|⟨o,h⟩)|h
 .exact .inl (.inl (e _ _ h))
 .exact .inl (.inr ⟨o,e _ _ h⟩)
 .exact .inr h
section
variable{κ:Type}[DecidableEq κ]
def AK(kvs:List (κ×V))(k:κ):Option V:=(kvs.find? λkv=>decide (kv.1=k)).map (·.2)
def putK(kvs:List (κ×V))(k:κ)(v:V):List (κ×V) :=
 if (kvs.any λkv=>decide (kv.1=k))=true then kvs.map (λkv=>if kv.1=k then (kv.1,v)else kv)else kvs++[(k,v)]
theorem fL{p:κ×V}{r:List (κ×V)}{k:κ}(e:p.1=k):AK (p::r) k=some p.2:=by simp[AK,abX,e]
theorem fM{p:κ×V}{r:List (κ×V)}{k:κ}(e:¬ p.1=k):AK (p::r) k=AK r k:=by simp[AK,abX,e]
theorem mw(k:κ):∀kvs:List (κ×V),(kvs.any λkv=>decide (kv.1=k))=(AK kvs k).isSome
 |[]=>rfl
 |p::r=>by
  rw[List.any_cons]
  by_cases e:p.1=k
  .simp only[fL e,decide_eq_true e,Bool.true_or,aev]
  .rw[fM e,decide_eq_false e,Bool.false_or];exact mw k r
theorem cN(kvs:List (κ×V))(k:κ)(v:V):(putK kvs k v).length<=kvs.length+1:=by
 unfold putK
 split
 .rw[aae];omega
 .rw[aaJ,aaL,abE];omega
theorem C3.AX{o:Option V}{u:Option Value}(r:C3 o u):o.isSome=u.isSome:=by
 cases o with
 |none=>cases u with
  |none=>rfl
  |some _=>exact(show False from r).elim
 |some _=>cases u with
  |none=>exact(show False from r).elim
  |some _=>rfl
theorem KV.val{kvs:List (κ×V)}{vs:List (κ×Value)}(r:KV kvs vs)(k:κ):C3 (AK kvs k) (aeE vs k):=by
 unfold KV at r
 induction r with
 |nil=>exact acw
 |@cons p q ps qs h t ih=>
  obtain⟨h1,h2⟩:=h
  by_cases e:p.1=k
  .have e':q.1=k:=h1.symm.trans e
   have b:aeE (q::qs) k=some q.2:=by simp[aeE,abX,e']
   rw[fL e,b];exact h2
  .have e':¬ q.1=k:=λz=>e (h1.trans z)
   have b:aeE (q::qs) k=aeE qs k:=by simp[aeE,abX,e']
   rw[fM e,b];exact ih
theorem KV.any{kvs:List (κ×V)}{vs:List (κ×Value)}(r:KV kvs vs)(k:κ):(kvs.any λkv=>decide (kv.1=k))=vs.any λkv=>decide (kv.1=k):=by
 unfold KV at r
 induction r with
 |nil=>rfl
 |cons h t ih=>rw[List.any_cons,List.any_cons,ih,h.1]
theorem KV.Kx{kvs:List (κ×V)}{vs:List (κ×Value)}(r:KV kvs vs)(k:κ){y:V}{u:Value}(ry:RelV y u):
  KV (kvs.map λkv=>if kv.1=k then (kv.1,y)else kv) (vs.map λkv=>if kv.1=k then (kv.1,u)else kv):=by
 unfold KV at r ⊢
 induction r with
 |nil=>exact .nil
 |@cons p q ps qs h t ih=>
  rw[aar,aar]
  refine .cons ?_ ih
  obtain⟨h1,h2⟩:=h
  by_cases e:p.1=k
  .rw[if_pos e,if_pos (h1.symm.trans e)];exact⟨h1,ry⟩
  .rw[if_neg e,if_neg (λz=>e (h1.trans z))];exact⟨h1,h2⟩
theorem KV.put{kvs:List (κ×V)}{vs:List (κ×Value)}(r:KV kvs vs)(k:κ){y:V}{u:Value}(ry:RelV y u):KV (putK kvs k y) (stored vs k u):=by
 unfold putK stored
 rw[r.any k]
 by_cases e:(vs.any λkv=>decide (kv.1=k))=true
 .rw[if_pos e,if_pos e];exact r.Kx k ry
 .rw[if_neg e,if_neg e];exact Paired.snoc r ⟨rfl,ry⟩
theorem KV.keys{kvs:List (κ×V)}{vs:List (κ×Value)}(r:KV kvs vs):kvs.map (·.1)=vs.map (·.1):=by
 unfold KV at r
 induction r with
 |nil=>rfl
 |cons h t ih=>rw[aar,aar,ih,h.1]
theorem KV.length{kvs:List (κ×V)}{vs:List (κ×Value)}(r:KV kvs vs):kvs.length=vs.length:=aeu r
end
variable{u:Value}
theorem eu{k:Key}(r:RelV (kV k) u):(aI P w).is k u=true:=by
 cases k with
 |inl i=>obtain⟨t,e⟩:=(show ∃t,u=ace i t from r);subst e;exact ou P w i t
 |inr x=>obtain⟨t,e⟩:=(show ∃t,u=adh x t from r);subst e;exact oq P w x t
theorem lF:∀{ks:List Key} {us:List Value},oF (ks.map kV) us->ItemsAre (aI P w) ks us
 |[],_,r=>by rw[adp]at r;cases r;exact .nil
 |k::ks,_,r=>by
  rw[aar]at r
  cases r with
  |cons h t=>exact .cons (eu h) (lF t)
abbrev KT(H:Hp):List (List Key×V)->List (List Key×Addr×Value)->Prop:=Paired λp q=>p.1=q.1/\H q.2.1=some (.tup (p.1.map kV))/\RelV p.2 q.2.2
variable{kvs:List (List Key×V)}
theorem KT.val{xs:List (List Key×Addr×Value)}(r:KT H kvs xs)(k:List Key):C3 (AK kvs k) ((atKey xs k).map (·.2)):=by
 induction r with
 |nil=>exact acw
 |@cons p q ps qs h t ih=>
  obtain⟨h1,_,h2⟩:=h
  by_cases e:p.1=k
  .have e':q.1=k:=h1.symm.trans e
   have b:atKey (q::qs) k=some q.2:=by simp[atKey,abX,e']
   rw[fL e,b];exact h2
  .have e':¬ q.1=k:=λz=>e (h1.trans z)
   have b:atKey (q::qs) k=atKey qs k:=by simp[atKey,abX,e']
   rw[fM e,b];exact ih
variable{y:V}
theorem KT.Kx{xs:List (List Key×Addr×Value)}(r:KT H kvs xs)(k:List Key)(ry:RelV y u):
  KT H (kvs.map λkv=>if kv.1=k then (kv.1,y)else kv) (xs.map (putAt k u)):=by
 induction r with
 |nil=>exact .nil
 |@cons p q ps qs h t ih=>
  rw[aar,aar]
  refine .cons ?_ ih
  obtain⟨h1,h2,h3⟩:=h
  unfold putAt
  by_cases e:p.1=k
  .rw[if_pos e,if_pos (h1.symm.trans e)];exact⟨h1,h2,ry⟩
  .rw[if_neg e,if_neg (λz=>e (h1.trans z))];exact⟨h1,h2,h3⟩
variable{b:Addr}
theorem KT.put{xs:List (List Key×Addr×Value)}(r:KT H kvs xs)(k:List Key)(hb:H b=some (.tup (k.map kV)))(ry:RelV y u):
  KT H (putK kvs k y) (storedH xs k b u):=by
 have e:(kvs.any λkv=>decide (kv.1=k))=(atKey xs k).isSome:=by
  rw[mw,(r.val k).AX,aeL]
 unfold putK storedH
 rw[e]
 by_cases q:(atKey xs k).isSome=true
 .rw[if_pos q,if_pos q];exact r.Kx k ry
 .rw[if_neg q,if_neg q];exact Paired.snoc r ⟨rfl,hb,ry⟩
theorem KT.keeps{xs:List (List Key×Addr×Value)}(r:KT H kvs xs)(ht:∀b ys,H b=some (.tup ys)->H' b=some (.tup ys)):KT H' kvs xs :=
 Paired.KL r λ_ _ z=>⟨z.1,ht _ _ z.2.1,z.2.2⟩
variable{h:Heap}
theorem uN{u:HO}(ok:BD P w H h)(e:Rd H a u):zi P w H h a u:=e.ok ok
theorem gc{kvs:List (Key×V)}(ok:BD P w H h)(e:Rd H a (.dK kvs)):kvs.length<=sizeLine/\(a==acJ)=false/\∃vs,KV kvs vs/\h.DictOf (aI P w) a vs :=
 show zi P w H h a (.dK kvs)from uN ok e
theorem jS{kvs:List (Key×V)}(ok:BD P w H h)(e:H a=some (.dK kvs)):kvs.length<=sizeLine/\(a==acJ)=false/\∃vs,KV kvs vs/\h.DictOf (aI P w) a vs:=gc ok (.inl e)
theorem gU{ks:List Key}(ok:BD P w H h)(e:H a=some (.tup (ks.map kV))):(afb (aI P w)).is h ks a:=by
 obtain⟨_,eQ,r,o,h1,h2,n,h3⟩:=(show zi P w H h a (.tup (ks.map kV))from ok a _ e)
 exact⟨o,eQ.toArray,n,h1,h2,h3,by simpa using lF r⟩
theorem ik(ok:BD P w H h)(e:Rd H a (.dT kvs)):kvs.length<=sizeLine/\(a==acJ)=false /\
  ∃xs,KT H kvs xs/\h.DictOfH (afb (aI P w)) a xs:=by
 obtain⟨z,y,xs,r,o,es,ep,h1,h2,h3,h4,h5⟩:=(show zi P w H h a (.dT kvs)from uN ok e)
 refine⟨z,y,xs,r,o,es,ep,h1,h2,h3,h4,λx hx=>?_,h5⟩
 have all:∀{l:List (List Key×V)} {m:List (List Key×Addr×Value)},KT H l m->∀x∈m,(afb (aI P w)).is h x.1 x.2.1:=by
  intro l m q
  induction q with
  |nil=>intro x hx;exact nomatch hx
  |@cons p q ps qs hq t ih=>
   intro x hx
   rcases List.mem_cons.mp hx with e|hx
   .subst e
    exact gU ok (by rw[<- hq.1];exact hq.2.1)
   .exact ih x hx
 exact all r x hx
theorem yN(ok:BD P w H h)(e:H a=some (.dT kvs)):kvs.length<=sizeLine/\(a==acJ)=false /\
  ∃xs,KT H kvs xs/\h.DictOfH (afb (aI P w)) a xs:=ik ok (.inl e)
def E3(H:Hp)(a:Addr)(y:V)(r:Option V):Prop :=
 (∃kvs k,Rd H a (.dK kvs)/\y=kV k/\r=AK kvs k)\/∃kvs k b,Rd H a (.dT kvs)/\y=.ref b/\H b=some (.tup (k.map kV))/\r=AK kvs k
def LH(H:Hp)(a:Addr)(y v:V)(H':Hp):Prop :=
 (∃kvs k,H a=some (.dK kvs)/\y=kV k/\kvs.length<sizeLine/\H'=upd H a (.dK (putK kvs k v))) \/
 ∃kvs k b,H a=some (.dT kvs)/\y=.ref b/\H b=some (.tup (k.map kV))/\kvs.length<sizeLine/\H'=upd H a (.dT (putK kvs k v))
theorem Qj{kvs:List (Key×V)}{k:Key}(e:H a=some (.dK kvs)):E3 H a (kV k) (AK kvs k):=.inl ⟨kvs,k,.inl e,rfl,rfl⟩
variable{v:V}
theorem Tv{kvs:List (Key×V)}{k:Key}(e:H a=some (.dK kvs))(hl:kvs.length<sizeLine):LH H a (kV k) v (upd H a (.dK (putK kvs k v))):=.inl ⟨kvs,k,e,rfl,hl,rfl⟩
variable{pins:List (Addr×Obj)}{σ:St}{s:Shared}{r:Value}{o:Option V}{A:Around}{E:Value->Shared->Prop}
theorem Inv.OV(I:Inv X pins σ H s):acJ<s.heap.objs.size:=by
 have h:aaM<s.heap.objs.size:=(I.mod.glob.keeps I.bk).lt
 exact Nat.lt_trans (by decide) h
variable{Q:Value->Shared->Prop}
theorem lM(hu:A.units+1<cLine)(I:Inv X pins σ H s)(g:E3 H a y (some v))(ry:RelV y u)(h:∀w' s',Inv X pins σ H s'->RelV v w'->Q w' s'):
  wpAny (model X.prog X.w) A (adr (.ref a) u) Q E s:=by
 rcases g with ⟨kvs,k,e,ey,l⟩|⟨kvs,k,b,e,ey,eb,l⟩
 .subst ey
  obtain⟨z,hd,vs,rel,dd⟩:=gc I.y6 e
  obtain⟨w',hw,CJ⟩:=C3.some_of (v:=v) (o:=aeE vs k) (by rw[l];exact rel.val k)
  exact wpAny_getItem_of (eu ry) dd.mapOf hw (h w' _ (I.tok _) CJ)
 .subst ey
  cases (show u=aau b from ry)
  obtain⟨z,hd,xs,rel,dd⟩:=ik I.y6 e
  obtain⟨w',hw,CJ⟩:=C3.some_of (v:=v) (o:=(atKey xs k).map (·.2)) (by rw[l];exact rel.val k)
  obtain⟨p,hp,L8⟩:=Option.map_eq_some_iff.mp hw
  refine wpAny_getItem_heap (adn hu) (gU I.y6 eb) dd hp ?_
  rw[L8]
  exact h w' _ (I.tok _) CJ
theorem yS(hu:A.units+1<cLine)(I:Inv X pins σ H s)(g:E3 H a y o)(ry:RelV y u)(h:∀s',Inv X pins σ H s'->Q (.bool o.isSome) s'):
  wpAny (model X.prog X.w) A (aaE .In u (.ref a)) Q E s:=by
 rcases g with ⟨kvs,k,e,ey,l⟩|⟨kvs,k,b,e,ey,eb,l⟩
 .subst ey
  obtain⟨z,hd,vs,rel,dd⟩:=gc I.y6 e
  refine wpAny_in_of (eu ry) hd dd.mapOf ?_
  rw[<- (rel.val k).AX,<- l]
  exact h _ (I.tok _)
 .subst ey
  cases (show u=aau b from ry)
  obtain⟨z,hd,xs,rel,dd⟩:=ik I.y6 e
  refine wpAny_in_heap (adn hu) (gU I.y6 eb) hd dd ?_
  have q:=(rel.val k).AX
  rw[aeL]at q
  rw[<- q,<- l]
  exact h _ (I.tok _)
theorem wM(hu:A.units+1<cLine)(I:Inv X pins σ H s)(g:E3 H a y o)(ry:RelV y u)(h:∀s',Inv X pins σ H s'->Q (.bool (!o.isSome)) s'):
  wpAny (model X.prog X.w) A (aaE .NotIn u (.ref a)) Q E s:=by
 rcases g with ⟨kvs,k,e,ey,l⟩|⟨kvs,k,b,e,ey,eb,l⟩
 .subst ey
  obtain⟨z,hd,vs,rel,dd⟩:=gc I.y6 e
  refine wpAny_notIn_of (eu ry) hd dd.mapOf ?_
  rw[<- (rel.val k).AX,<- l]
  exact h _ (I.tok _)
 .subst ey
  cases (show u=aau b from ry)
  obtain⟨z,hd,xs,rel,dd⟩:=ik I.y6 e
  refine wpAny_notIn_heap (adn hu) (gU I.y6 eb) hd dd ?_
  have q:=(rel.val k).AX
  rw[aeL]at q
  rw[<- q,<- l]
  exact h _ (I.tok _)
variable{h':Heap}{t':Nat}
theorem im{ob:HO}(I:Inv X pins σ H s)(mu:N1 (H a))(hs:ad8 a s.heap h')(he:∃q,h'.get? a=some q)(new:zi X.prog X.w (upd H a ob) h' a ob):
  Inv X pins σ (upd H a ob) {s with heap:=h',toks:=t'} :=
 I.write (x:=a) (e:=a) mu (.inl rfl) (λb q hb z=>(hs.2 b hb).trans z) he new
variable{vs:List (Key×Value)}
theorem nI{kvs:List (Key×V)}(z:kvs.length<=sizeLine)(hd:(a==acJ)=false)(rel:KV kvs vs)(dd:h'.DictOf (aI P w) a vs):
  zi P w H' h' a (.dK kvs):=⟨z,hd,vs,rel,dd⟩
theorem sI{Q:Unit->Shared->Prop}(hu:A.units+1<cLine)(I:Inv X pins σ H s)(g:LH H a y v H')(ry:RelV y u)(rv:RelV v r)(h:∀s',Inv X pins σ H' s'->Q () s'):
  wpAny (model X.prog X.w) A (setItem (.ref a) u r) Q E s:=by
 rcases g with ⟨kvs,k,e,ey,l,eH⟩|⟨kvs,k,b,e,ey,eb,l,eH⟩
 .subst ey eH
  obtain⟨z,hd,vs,rel,dd⟩:=jS I.y6 e
  have hz:vs.length<=sizeLine:=by rw[<- rel.length];exact z
  have hl:(putK kvs k v).length<=sizeLine:=by have:=cN kvs k v;omega
  refine wpAny_setItem_pairs (hsz:=hz) (eu ry) dd λh' Ir hs=>h _ ?_
  have he:∃q,h'.get? a=some q:=let ⟨q,_,_,hq,_⟩:=Ir;⟨q,hq⟩
  exact im I (by rw[e];exact acw) hs he (nI hl hd (rel.put k rv) Ir)
 .subst ey eH
  cases (show u=aau b from ry)
  obtain⟨z,hd,xs,rel,dd⟩:=yN I.y6 e
  have hz:xs.length<=sizeLine:=by rw[<- aeu rel];exact z
  have hl:(putK kvs k v).length<=sizeLine:=by have:=cN kvs k v;omega
  refine wpAny_setItem_heap (hsz:=hz) (adn hu) (gU I.y6 eb) dd λh' Ir hs=>h _ ?_
  obtain⟨q,es,ep,hq,h2,h3,h4,_,h5⟩:=Ir
  refine im I (by rw[e];exact acw) hs ⟨q,hq⟩ ⟨hl,hd,_,(rel.put k eb rv).keeps λc ys ec=>?_,q,es,ep,hq,h2,h3,h4,h5⟩
  rw[ag (qf ec e (λz=>nomatch z))]
  exact ec
variable{kvs:List (Key×V)}{k:Key}
theorem yO(I:Inv X pins σ H s)(e:Rd H a (.dK kvs))(h:∀t s',Inv X pins σ H s'->Q (.int kvs.length t) s'):wpAny (model X.prog X.w) A (call (.builtin "len") [.ref a]) Q E s:=by
 obtain⟨z,hd,vs,rel,dd⟩:=gc I.y6 e
 refine call_len_dict hd dd (by rw[<- rel.length];rw[aaG]at z;omega) ?_
 rw[<- rel.length]
 exact h _ _ (I.tok _)
def Jm(i:Expr):Prop:=∀ov iv,afc i false ov iv=operate [ov,iv] (adr ov iv)
variable{env:Env}
theorem u8{prog:aaH}{value slice:Expr}{T id:String}
  (hl:typeLookup (.type T) "__getitem__" = pure (some (.builtin id))) (hs:Jm slice)
  (h:wpAny (model prog w) A (eval value env) (λo s₁=>wpAny (model prog w) A (eval slice env) (λi s₂=>s₂.TypeIs o T/\wpAny (model prog w) A (adr o i) Q E s₂) E s₁) E s) :
  wpAny (model prog w) A (eval (.Subscript value slice pos) env) Q E s:=by
 refine aeH (aaT h (λo s₁ h₁=>aaT h₁ (λi s₂ h₂=>?_) λ_ _ x=>x) λ_ _ x=>x)
 obtain⟨hT,h₂⟩:=h₂
 unfold aeq
 refine aaa ?_
 rw[getitemInPython_of_ne hT.not_modules]
 refine aaa (wpAny_specialOf hT hl ?_)
 have fin:wpAny (model prog w) A (afc slice false o i) (λr s₃=>wpAny (model prog w) A (letTemporaryGo value o r >>= λ_=>pure r) Q E s₃) E s₂:=by
  rw[hs o i]
  exact wpAny_operating (aaT h₂ (λr s₃ h₃=>aaa (wpAny_letTemporaryGo (aah h₃))) λ_ _ x=>x)
 first
  |exact aah (aaa fin)
  |exact aaa (aah (aaa fin))
  |exact aaa fin
theorem iT(I:Inv X pins σ H s)(g:E3 H a y o):s.TypeIs (.ref a) "dict" :=by
 rcases g with ⟨kvs,k,e,_,_⟩|⟨kvs,k,b,e,_,_,_⟩
 .obtain⟨_,_,vs,_,dd⟩:=gc I.y6 e
  exact dd.typeIs
 .obtain⟨_,_,xs,_,dd⟩:=ik I.y6 e
  exact dd.typeIs
def MA(td ty:TE):TE:=λσ H Q=>td σ H λx H1=>ty σ H1 λy H2=>∃a v,x=.ref a/\E3 H2 a y (some v)/\Q v H2
variable{o i e value:Expr}{pos' Cj:Pos}{td ty tv:TE}
theorem vn(hu:X.A.units+1<cLine)(ho:PE X o td)(hi:PE X i ty)(hs:Jm i):PE X (.Subscript o i pos) (MA td ty):=by
 intro pins s σ H Q I h
 refine u8 PySem.F.slot_dict_getitem.lookup hs (zC (ho pins s σ H _ I h) λu s1 ⟨x,H1,I1,rx,q1⟩=>zC (hi pins s1 σ H1 _ I1 q1) λiv s2 ⟨y,H2,I2,ry,a,v,ex,g,q2⟩=>?_)
 subst ex
 obtain rfl:u=aau a:=rx
 exact⟨iT I2 g,lM hu I2 g ry λw' s3 I3 CJ=>⟨v,H2,I3,CJ,q2⟩⟩
theorem nJ(h:Heap)(hb:acJ<h.objs.size):zi P w H (h.push {cls:=.type "dict",data:=.dict #[]}) h.objs.size (.dK []) :=
 ⟨aaN _,beq_eq_false_iff_ne.mpr (abW (aav hb)),[],.nil,Heap.DictOf.new h⟩
def D3:List (TE×TE)->St->Hp->(List (V×V)->Hp->Prop)->Prop
 |[],_,H,Q=>Q [] H
 |(tk,tv)::r,σ,H,Q=>tk σ H λx H1=>tv σ H1 λy H2=>D3 r σ H2 λps H3=>Q ((x,y)::ps) H3
abbrev VV:List (V×V)->List (Value×Value)->Prop:=Paired λp q=>RelV p.1 q.1/\RelV p.2 q.2
def NY(X:Cx)(pos:Pos)(keys:List (Option Expr))(values:List Expr)(FV:List (TE×TE)):Prop :=
 ∀(pins:List (Addr×Obj)) (s:Shared) (σ:St) (H:Hp) (Q:List (V×V)->Hp->Prop),Inv X pins σ H s->D3 FV σ H Q ->
  wpAny (model X.prog X.w) X.A (evalPairs (pairTrees keys values X.env pos)) (λvs s'=>∃ps H',Inv X pins σ H' s'/\VV ps vs/\Q ps H') X.xe s
theorem vg:NY X pos [] [] []:=λpins s σ H Q I h=>pairTrees_nil_walk ⟨[],H,I,.nil,h⟩
theorem tG{k v:Expr}{ks:List (Option Expr)}{vs:List Expr}{tk:TE}{FV:List (TE×TE)}(hk:PE X k tk)(hv:PE X v tv)(hr:NY X pos ks vs FV):
  NY X pos (some k::ks) (v::vs) ((tk,tv)::FV):=λpins s σ H Q I h=>
 pairTrees_cons_walk (zC (hk pins s σ H _ I h) λu s1 ⟨x,H1,I1,rx,q1⟩=>zC (hv pins s1 σ H1 _ I1 q1) λw2 s2 ⟨y,H2,I2,ry,q2⟩=>
  zC (hr pins s2 σ H2 _ I2 q2) λws s3 ⟨ps,H3,I3,rel,q3⟩=>⟨(x,y)::ps,H3,I3,.cons ⟨rx,ry⟩ rel,q3⟩)
def Cq(kvs more:List (Key×V)):List (Key×V):=more.foldl (λacc kv=>putK acc kv.1 kv.2) kvs
theorem KV.merge:∀{more:List (Key×V)} {rs:List (Key×Value)} {kvs:List (Key×V)} {vs:List (Key×Value)},KV more rs->KV kvs vs->KV (Cq kvs more) (merged vs rs):=by
 intro more rs kvs vs r
 unfold KV at r
 induction r generalizing kvs vs with
 |nil=>intro q;exact q
 |@cons p q ps qs h t ih=>
  intro r0
  have e:KV (putK kvs p.1 p.2) (stored vs q.1 q.2):=by
   have:=r0.put p.1 h.2
   rw[<- h.1];exact this
  exact ih e
theorem gq:∀(more kvs:List (Key×V)),(Cq kvs more).length<=kvs.length+more.length
 |[],kvs=>by show kvs.length<=kvs.length+0;omega
 |p::r,kvs=>by
  have h1:=gq r (putK kvs p.1 p.2)
  have h2:=cN kvs p.1 p.2
  show (Cq (putK kvs p.1 p.2) r).length<=_
  rw[aaL];omega
theorem jX{P:aaH}{w:World}:∀{kvs:List (Key×V)} {ws:List (Value×Value)},VV (kvs.map λkv=>(kV kv.1,kv.2)) ws->∃rs,Carries (aI P w) ws rs/\KV kvs rs
 |[],_,r=>by rw[adp]at r;cases r;exact⟨[],acw,.nil⟩
 |p::kvs,_,r=>by
  rw[aar]at r
  cases r with
  |@cons a b as bs h t=>
   obtain⟨rs,c,q⟩:=jX (P:=P) (w:=w) t
   obtain⟨b1,b2⟩:=b
   exact⟨(p.1,b2)::rs,⟨eu h.1,rfl,c⟩,.cons ⟨rfl,h.2⟩ q⟩
def Mz(FV:List (TE×TE)):TE:=λσ H Q=>∀p,H p=none->D3 FV σ (upd H p (.dK [])) λps H2=>H2 p=some (.dK [])/\∃kvs:List (Key×V),ps=kvs.map (λkv=>(kV kv.1,kv.2))/\kvs.length<=15/\Q (.ref p) (upd H2 p (.dK (Cq [] kvs)))
theorem vm{keys:List (Option Expr)}{values:List Expr}{FV:List (TE×TE)}(h:NY X pos keys values FV)(Lf:keys.all (·.isSome)=true)(hl:keys.length=values.length)(h0:keys≠[])
  (Q9:keys.length<=15):PE X (.Dict keys values pos) (Mz FV):=by
 intro pins s σ H Q I q
 have hn:=I.y6.fresh (aal s.heap.objs.size)
 have I1:=I.laid (a:=s.heap.objs.size) (o:=.dK []) (h':=s.heap.push {cls:=.type "dict",data:=.dict #[]}) (t':=s.toks) (λ_ _ q=>aac _ q) (aal _) (nJ s.heap I.OV)
 refine wpAny_Dict_walk (knd:=aI X.prog X.w) Lf hl h0 Q9 (zC (h pins _ σ _ _ I1 (q _ hn)) λws s2 ⟨ps,H2,I2,rel,e,kvs,ep,lk,q2⟩=>?_)
 subst ep
 obtain⟨rs,c,rk⟩:=jX (P:=X.prog) (w:=X.w) rel
 obtain⟨z,hd,LL,r0,dd⟩:=jS I2.y6 e
 cases r0
 refine⟨rs,c,dd,λh' Ir hs=>⟨.ref s.heap.objs.size,_,?_,rfl,q2⟩⟩
 have hz:(Cq [] kvs).length<=sizeLine:=by
  have h1:=gq kvs []
  rw[abE]at h1
  rw[aaG];omega
 have he:∃q,h'.get? s.heap.objs.size=some q:=let ⟨q,_,_,hq,_⟩:=Ir;⟨q,hq⟩
 exact im I2 (by rw[e];exact acw) hs he (nI hz hd (rk.merge .nil) Ir)
def Vj(H:Hp)(a:Addr):Prop:=(∃kvs,Rd H a (.dK kvs))\/∃kvs,Rd H a (.dT kvs)
theorem x8(I:Inv X pins σ H s)(d:Vj H a):
  s.TypeIs (.ref a) "dict" /\ (∀b,aau a=.ref b->∃ob,s.heap.get? b=some ob/\ob.dict=none)/\(a==acJ)=false:=by
 rcases d with ⟨kvs,e⟩|⟨kvs,e⟩
 .obtain⟨_,hd,vs,_,dd⟩:=gc I.y6 e
  refine⟨dd.typeIs,λb q=>?_,hd⟩
  cases q
  obtain⟨ob,_,_,h1,h2,_⟩:=dd
  exact⟨ob,h1,h2.2.1⟩
 .obtain⟨_,hd,xs,_,dd⟩:=ik I.y6 e
  refine⟨dd.typeIs,λb q=>?_,hd⟩
  cases q
  obtain⟨ob,_,_,h1,h2,_⟩:=dd
  exact⟨ob,h1,h2.2.1⟩
variable{d:V}{o:Option V}
variable{o f:Expr}{apos zS:Pos}{tx:TE}
theorem sO:zg X (.builtin "len") (λxs H Q=>∃a kvs,xs=[V.ref a]/\H a=some (.dK kvs)/\Q (.int kvs.length) H):=by
 intro pins s σ H xs us Q I r h
 obtain⟨a,kvs,rfl,ha,q⟩:=h
 obtain⟨u,rfl,ru⟩:=vals1 r
 cases ru
 exact yO I (.inl ha) λt s' I'=>⟨.int kvs.length,H,I',⟨t,rfl⟩,q⟩
section
variable{κ:Type}[DecidableEq κ]
end
end L2
set_option maxHeartbeats 4000000
namespace L2
open PySem PySem.Spec PyProof.Rows
def Bj(cells:List (Str×Addr)):List (Str×ado)->List (Str×Addr)->List (Str×Addr)
 |[],acc=>acc
 |(n,k)::r,acc=>if k==.free then Bj cells r ((n,(cells.lookup n).getD 0)::acc)else Bj cells r acc
theorem jV{env:Env}:∀(names:List (Str×ado)) (acc:List (Str×Addr)),(∀x∈names,x.2=.free->∃c,env.cells.lookup x.1=some c) ->
  (forIn names acc λ(x:Str×ado) (cs:List (Str×Addr))=>match x with
   |(name,kind)=>if (kind==abq)=true then (do let c <- cellOf env name;pure (ad9 ((name,c)::cs)))else pure (ad9 cs):Sem (List (Str×Addr)))=pure (Bj env.cells names acc)
 |[],acc,_=>by simp[Bj]
 |(n,k)::r,acc,h=>by
  have hr:=λacc=>jV (env:=env) r acc λx hx=>h x (aan _ hx)
  rw[afn]
  unfold Bj
  by_cases hk:(k==abq)=true
  .obtain⟨c,hc⟩:=h (n,k) aaq (by simpa using hk)
   have DV:env.cells.lookup n=some c:=hc
   have e:cellOf env n=pure c:=by unfold cellOf;rw[DV]
   rw[if_pos hk]
   dsimp only
   rw[if_pos hk,e,pure_bind,pure_bind]
   rw[DV]
   exact hr _
  .rw[if_neg hk]
   dsimp only
   rw[if_neg hk,pure_bind]
   exact hr acc
variable{scope:Scope}{env:Env}
theorem gv(h:∀x∈scope.names,x.2=.free->∃c,env.cells.lookup x.1=some c):aeF scope env=pure (Bj env.cells scope.names []):=by
 have e:=jV (env:=env) scope.names [] h
 unfold aeF
 simp only[pure_bind,bind_pure]
 exact e
variable{x:Str}
theorem dY{cells:List (Str×Addr)}{c:Addr}:∀{names:List (Str×ado)} {acc:List (Str×Addr)},(∀y∈names,y.2=.free->∃c,cells.lookup y.1=some c)->(∀c,acc.lookup x=some c->cells.lookup x=some c) ->
  (Bj cells names acc).lookup x=some c->cells.lookup x=some c
 |[],acc,_,ha,e=>ha c e
 |(n,k)::r,acc,h,ha,e=>by
  have hr:∀y∈r,y.2=.free->∃c,cells.lookup y.1=some c:=λy hy=>h y (aan _ hy)
  unfold Bj at e
  split at e
  .rename_i hk
   refine dY hr (λc' e'=>?_) e
   rw[abl]at e'
   split at e'
   .rename_i hx
    obtain⟨c0,hc⟩:=h (n,k) aaq (by simpa using hk)
    have DV:cells.lookup n=some c0:=hc
    rw[DV]at e'
    have:x=n:=by simpa using hx
    rw[this,DV];exact e'
   .exact ha c' e'
  .exact dY hr ha e
theorem gf{cells:List (Str×Addr)}:∀{names:List (Str×ado)} {acc:List (Str×Addr)},((x,abq)∈names\/∃c,acc.lookup x=some c)->∃c,(Bj cells names acc).lookup x=some c
 |[],acc,h=>by
  rcases h with h|h
  .simp at h
  .exact h
 |(n,k)::r,acc,h=>by
  unfold Bj
  split
  .refine gf ?_
   rcases h with h|⟨c,h⟩
   .rcases List.mem_cons.mp h with e|e
    .cases e
     exact .inr ⟨_,by rw[abl];simp;rfl⟩
    .exact .inl e
   .refine .inr ?_
    rw[abl]
    split
    .exact⟨_,rfl⟩
    .exact⟨c,h⟩
  .rename_i hk
   refine gf ?_
   rcases h with h|h
   .rcases List.mem_cons.mp h with e|e
    .cases e
     exact absurd rfl hk
    .exact .inl e
   .exact .inr h
def yT(X:Cx)(scope:Scope)(N:List Str)(C:Addr)(s₀:Shared)(H₀:Hp)(ex:List Addr)(pn:List (Addr×Obj)):Cx :=
 {X with N:=N,s₀:=s₀,H₀:=H₀,env:=compEnvC scope (Bj X.env.cells scope.names []) C X.env,outer:=X.stack,stack:=X.stack,ex:=ex,fn:=λ_=>false,pn:=pn,xe:=λ_ _=>False}
def zE(js:List (Option Nat))(σ:St):St:=js.map λo=>o.bind λj=>(σ[j]?).getD none
def AI(M:List Str)(scope:Scope)(N:List Str)(js:List (Option Nat)):Bool :=
 decide (N.length=js.length) && (N.zip js).all λp=>match p.2 with
  |none=>true
  |some j=>decide (M[j]?=some p.1) && (decide (scope.names.lookup p.1=some .free) || decide (scope.names.lookup p.1=none))
def Cm(env:Env)(scope:Scope):Bool :=
 scope.names.all λx=>match x.2 with
  |.free=>decide (env.kindOf x.1=some .cell) || decide (env.kindOf x.1=some .free)
  |.cell=>false
  |.local=>decide (scope.names.lookup x.1=some .local)
  |_=>true
theorem jz{scope:Scope}{k:ado}:∀{names:List (Str×ado)},(∀y∈names,y.2≠.cell)->(k=.cell\/k=.free) ->
  (names.map λ(n,k)=>if (k==abq && env.scope.kind==.function && env.kindOf n==some .cell)then (n,ac0)else (n,k)).lookup x=some k->(x,abq)∈names:=by
 intro names hn hk h
 have hm:=ab8 h
 obtain⟨⟨n,k0⟩,h0,e⟩:=List.mem_map.mp hm
 dsimp only at e
 split at e
 .rename_i hc
  cases e
  simp only[aaC]at hc
  have:k0=.free:=by simpa using hc.1.1
  subst this
  exact h0
 .cases e
  rcases hk with e|e
  .exact absurd e (hn _ h0)
  .subst e;exact h0
theorem gO{env:Env}{x:Str}:∀{names:List (Str×ado)},names.lookup x=some .free ->
  (names.map λ(n,k)=>if (k==abq && env.scope.kind==.function && env.kindOf n==some .cell)then (n,ac0)else (n,k)).lookup x=some .cell \/
  (names.map λ(n,k)=>if (k==abq && env.scope.kind==.function && env.kindOf n==some .cell)then (n,ac0)else (n,k)).lookup x=some .free
 |[],h=>by simp at h
 |(n,k)::r,h=>by
  have ih:=@gO env x r
  show adk x ((if (k==abq && env.scope.kind==.function && env.kindOf n==some .cell)=true then (n,ac0)else (n,k))::_)=_\/adk x ((if (k==abq && env.scope.kind==.function && env.kindOf n==some .cell)=true then (n,ac0)else (n,k))::_)=_
  cases hx:x==n with
  |true=>
   simp only[abl,hx]at h
   cases h
   by_cases hc:(abq==abq && env.scope.kind==.function && env.kindOf n==some .cell)=true
   .rw[if_pos hc];left;simp only[abl,hx]
   .rw[if_neg hc];right;simp only[abl,hx]
  |false=>
   simp only[abl,hx]at h
   by_cases hc:(k==abq && env.scope.kind==.function && env.kindOf n==some .cell)=true
   .rw[if_pos hc];simp only[abl,hx];exact ih h
   .rw[if_neg hc];simp only[abl,hx];exact ih h
variable{X:Cx}{pins:List (Addr×Obj)}{σ:St}{H:Hp}{s:Shared}
structure Jl(env:Env)(scope:Scope):Prop where
 fr:∀x∈scope.names,x.2=.free->env.kindOf x.1=some .cell\/env.kindOf x.1=some .free
 nc:∀x∈scope.names,x.2≠.cell
 lc:∀x∈scope.names,x.2=.local->scope.names.lookup x.1=some .local
theorem oO(h:Cm env scope=true):Jl env scope:=by
 have q:=List.all_eq_true.mp h
 refine⟨λx hx e=>?_,λx hx e=>?_,λx hx e=>?_⟩
 .have:=q x hx
  rw[e]at this
  simp only[acG,decide_eq_true_eq]at this
  exact this
 .have:=q x hx
  rw[e]at this
  cases this
 .have:=q x hx
  rw[e]at this
  simpa using this
theorem Jl.cells(h:Jl X.env scope)(ok:X.Ok):∀x∈scope.names,x.2=.free->∃c,X.env.cells.lookup x.1=some c:=λx hx e=>ok.has x.1 (h.fr x hx e)
structure J1(M:List Str)(scope:Scope)(N:List Str)(js:List (Option Nat)):Prop where
 len:N.length=js.length
 at':∀(i:Nat) (x:Str) (j:Nat),N[i]?=some x->js[i]?=some (some j)->M[j]?=some x/\(scope.names.lookup x=some .free\/scope.names.lookup x=none)
variable{N:List Str}{js:List (Option Nat)}
theorem nO{M:List Str}(h:AI M scope N js=true):J1 M scope N js:=by
 unfold AI at h
 rw[aaC]at h
 refine⟨of_decide_eq_true h.1,λi x j hx hj=>?_⟩
 have hm:(x,some j)∈N.zip js:=by
  refine abp (i:=i) ?_
  rw[aaR]
  exact⟨hx,hj⟩
 have q:=List.all_eq_true.mp h.2 _ hm
 simp only[aaC,acG,decide_eq_true_eq]at q
 exact q
theorem gM{env:Env}{x:Str}:∀{names:List (Str×ado)},names.lookup x=none ->
  (names.map λ(n,k)=>if (k==abq && env.scope.kind==.function && env.kindOf n==some .cell)then (n,ac0)else (n,k)).lookup x=none
 |[],h=>rfl
 |(n,k)::r,h=>by
  have ih:=@gM env x r
  show adk x ((if (k==abq && env.scope.kind==.function && env.kindOf n==some .cell)=true then (n,ac0)else (n,k))::_)=_
  cases hx:x==n with
  |true=>simp only[abl,hx]at h;cases h
  |false=>
   simp only[abl,hx]at h
   by_cases hc:(k==abq && env.scope.kind==.function && env.kindOf n==some .cell)=true
   .rw[if_pos hc];simp only[abl,hx];exact ih h
   .rw[if_neg hc];simp only[abl,hx];exact ih h
variable{C:Addr}{fp:List Addr}
theorem m6{h₁:Heap}{tk:Nat}(I:Inv X pins σ H s)(Cg:Jl X.env scope)(zV:J1 X.N scope N js)(zo:scope.kind=.function)
  (hf:∀b∈fp,BG X pins H b) (Uh:∀b∈fp,b<s.heap.objs.size) (hC:C=s.heap.objs.size) (keep:∀b o,s.heap.get? b=some o->h₁.get? b=some o) (Ii:h₁.Ns C λ_=>none) :
  Inv (yT X scope N C s H fp (X.pn++pins)) [] (zE js σ) H {s with heap:=h₁,toks:=tk}:=by
 have GN:=Cg.cells I.ok
 have Ml:∀x c,(Bj X.env.cells scope.names []).lookup x=some c->X.env.cells.lookup x=some c:=λx c e=>dY GN (λc e=>by simp at e) e
 have LQ:∀b o,s.heap.get? b=some o->b≠C:=λb o e=>by rw[hC];exact aav (aak e)
 refine⟨⟨I.ok.mod,zo,I.ok.glob,I.ok.blt,aeU hC.symm,λx y c e1 e2=>?_,λx hx=>?_,λx c e=>?_,I.ok.hd,I.ok.frames,.inl rfl,λb hb=>⟨?_,λx c e=>?_⟩,I.bs,abg I.ok.JR I.sz,λb o e hb=>?_,λb hb z=>?_,I.stack,I.FX⟩,
  rfl,I.bare,Un.kept keep,⟨_,Ii,λi x v h1 h2 h3=>?_⟩,λx c e=>?_,I.y6.fresh (aeU hC.symm),λx c e=>I.Bc x c (Ml x c e),λp hp=>?_,I.y6.kept keep,?_⟩
 .exact I.ok.inj x y c (Ml x c e1) (Ml y c e2)
 .have hm:(x,abq)∈scope.names:=by
   rcases hx with hx|hx
   .exact jz (scope:=scope) (env:=X.env) (k:=.cell) Cg.nc (.inl rfl) hx
   .exact jz (scope:=scope) (env:=X.env) (k:=.free) Cg.nc (.inr rfl) hx
  exact gf (.inl hm)
 .exact absurd e (by intro z;cases z)
 .show b≠C
  rw[hC];exact aav (Uh b hb)
 .exact(hf b hb).2.2.2.2.1 x c (Ml x c e)
 .obtain⟨_,_,_,q,_⟩:=hf b hb
  rcases q with q|q
  .exact I.ok.HA b o e q
  .exact absurd (aaA (aak (I.ok.bs b o e).1) q) (abi _)
 .obtain⟨_,q1,q2,_⟩:=hf b hb
  rcases List.mem_cons.mp (I.Ck b z)with e|e
  .exact q1 e
  .exact q2 e
 .have h1:N[i]?=some x:=h1
  unfold zE at h2
  rw[aaj]at h2
  cases ej:js[i]? with
  |none=>rw[ej]at h2;cases h2
  |some o=>
   cases o with
   |none=>rw[ej]at h2;cases h2
   |some j=>
    rw[ej]at h2
    have Ip:(σ[j]?).getD none=some v:=by simpa using h2
    have hσ:σ[j]?=some (some v):=by
     cases eσ:σ[j]? with
     |none=>rw[eσ]at Ip;cases Ip
     |some w'=>rw[eσ]at Ip;exact congrArg some Ip
    obtain⟨hM,Ik⟩:=zV.at' i x j h1 ej
    rcases Ik with Ik|Ik
    case inr=>
     have hn:=gM (env:=X.env) Ik
     rcases h3 with h3|h3|h3
     .exact absurd (hn.symm.trans h3) (by simp)
     .exact absurd (hn.symm.trans h3) (by simp)
     .exact absurd (hn.symm.trans h3) (by simp)
    have IY:=ab8 Ik
    have Ss:=Cg.fr _ IY rfl
    have Qu:Ek X.env.scope x:=Ss.elim (λz=>.inr (.inl z)) λz=>.inr (.inr z)
    obtain⟨m,hn,hl⟩:=I.loc
    obtain⟨u,ru,lk⟩:=hl j x v hM hσ Qu
    refine⟨u,ru,?_⟩
    rcases lk with ⟨k,_⟩|⟨k,c,ec,z⟩
    .rcases Ss with q|q
     .rw[show X.env.kindOf x=some .cell from q]at k;cases k
     .rw[show X.env.kindOf x=some .free from q]at k;cases k
    .obtain⟨c',DV⟩:=gf (cells:=X.env.cells) (acc:=[]) (.inl IY)
     have e2:=Ml x c' DV
     rw[ec]at e2;cases e2
     refine .inr ⟨gO (env:=X.env) Ik,c,DV,?_⟩
     obtain⟨o,ho,hd⟩:=z
     exact⟨o,keep _ _ ho,hd⟩
 .obtain⟨v,o,ho,hd⟩:=I.cell x c (Ml x c e)
  exact⟨v,o,keep _ _ ho,hd⟩
 .have T3:p∈X.pn++pins:=by
   have L8:p∈(X.pn++pins)++[]:=hp
   rwa [abN]at L8
  obtain⟨e,n,ne,nf,d⟩:=I.pin p T3
  refine⟨keep _ _ e,n,LQ _ _ e,λz=>?_,d⟩
  rcases List.mem_cons.mp (I.Ck p.1 z)with q|q
  .exact ne q
  .exact nf q
 .unfold zE
  rw[aae]
  exact zV.len.symm
variable{H':Hp}{s':Shared}
theorem m7{σ':St}(I:Inv X pins σ H s)(J:Inv (yT X scope N C s H fp (X.pn++pins)) [] σ' H' s')(hf:∀b∈fp,BG X pins H b):Inv X pins σ H' s' :=
 I.NS (ch:=fp) J.os J.base J.y6 J.bare λb hb=>let ⟨_,q1,_,q3,q4,q5⟩:=hf b hb;⟨q3,q1,q4,q5⟩
def BO(js:List (Option Nat))(g:TG):Prop:=∀x σ H Q,g x σ H Q->g x σ H λσ' H'=>Q σ' H'/\σ'.length=σ.length/\∀(k j:Nat),js[k]?=some (some j)->σ'[k]?=σ[k]?
def N7(js:List (Option Nat))(g:G9):Prop:=∀x σ H Q,g x σ H Q->g x σ H λσ' H'=>Q σ' H'/\σ'.length=σ.length/\∀(k j:Nat),js[k]?=some (some j)->σ'[k]?=σ[k]?
variable{i:Nat}
theorem ic(h:js[i]?=some none:=by rfl):BO js (AG i):=by
 intro x σ H Q hq
 refine⟨hq,by simp,λk j hk=>?_⟩
 rw[aaI]
 rintro rfl
 rw[h]at hk;cases hk
theorem yb:N7 js Lk:=by
 rintro x σ H Q ⟨e,hq⟩
 exact⟨e,hq,rfl,λ_ _ _=>rfl⟩
variable{t:TG}{u:G9}
theorem wy(h1:BO js t)(h2:N7 js u)(mono:∀x σ H Q Q',(∀a b,Q a b->Q' a b)->t x σ H Q->t x σ H Q')(M6:∀x σ H Q Q',(∀a b,Q a b->Q' a b)->u x σ H Q->u x σ H Q'):N7 js (ET t u):=by
 rintro x σ H Q ⟨v,r,e,hq⟩
 refine⟨v,r,e,mono _ _ _ _ _ (λσ1 H1 hh=>?_) (h1 v σ H _ hq)⟩
 obtain⟨a,l1,k1⟩:=hh
 exact M6 _ _ _ _ _ (λσ2 H2 ⟨b,l2,k2⟩=>⟨b,l2.trans l1,λk j hk=>(k2 k j hk).trans (k1 k j hk)⟩) (h2 r σ1 H1 _ a)
variable{K:aag}{n:Nat}
theorem ya{t:G9}(h:N7 js t):BO js (Li K n t):=by
 rintro x σ H Q ⟨a,xs,e,hs,hl,hq⟩
 exact⟨a,xs,e,hs,hl,h xs σ H Q hq⟩
theorem ie:∀x σ H (Q Q':St->Hp->Prop),(∀a b,Q a b->Q' a b)->AG i x σ H Q->AG i x σ H Q':=λ_ _ _ _ _ h q=>h _ _ q
theorem kO(m1:∀x σ H (Q Q':St->Hp->Prop),(∀a b,Q a b->Q' a b)->t x σ H Q->t x σ H Q')(m2:∀x σ H (Q Q':St->Hp->Prop),(∀a b,Q a b->Q' a b)->u x σ H Q->u x σ H Q'):
  ∀x σ H (Q Q':St->Hp->Prop),(∀a b,Q a b->Q' a b)->ET t u x σ H Q->ET t u x σ H Q':=λ_ _ _ _ _ h ⟨v,r,e,q⟩=>⟨v,r,e,m1 _ _ _ _ _ (λ_ _=>m2 _ _ _ _ _ h) q⟩
def PF(X:Cx)(ifs:List Expr)(t:TT):Prop :=
 ∀(pins:List (Addr×Obj)) (s:Shared) (σ:St) (H:Hp) (Q:Bool->Hp->Prop),Inv X pins σ H s->t σ H Q ->
  wpAny (model X.prog X.w) X.A (forIn ifs true λc r=>if r=true then do let ok <- isTrue c X.env (eval c X.env);pure (ad9 ok)else pure (ad9 r)) (TP X pins σ Q) X.xe s
def Kd:TT:=λ_ H Q=>Q true H
theorem qX:PF X [] Kd:=λpins s σ H Q I h=>wpAny_tests_nil ⟨H,I,h⟩
variable{c:Expr}
theorem qW{t:TT}(h:PT X c t):PF X [c] t:=λpins s σ H Q I hq=>wpAny_tests_one (h pins s σ H Q I hq)
def Pw(wi:TI)(g:TG)(tc:TT)(te:TE)(js:List (Option Nat)):TE:=λσ H Q=>wi σ H λJ H1=>∀l,H1 l=none ->
 ∃W:Nat->Nat->List V->Hp->Prop,(∃m,W 0 m [] (upd H1 l (.lst [])))/\∀i m ys H2,W i m ys H2 ->
  (J.stop i H2/\Q (.ref l) H2)\/(J.go i H2/\∀x H3,J.yld i H2 x H3->g x (zE js σ) H3 λσ4 H4=>tc σ4 H4 λb H5=>
   if b=true then te σ4 H5 λy H6=>H6 l=some (.lst ys)/\ys.length<sizeLine/\∃m',m'<m/\W (i+1) m' (ys++[y]) (upd H6 l (.lst (ys++[y])))else ∃m',m'<m/\W (i+1) m' ys H5)
variable{tg elt iter:Expr}{ifs:List Expr}{pos:Pos}{wi:TI}{g:TG}{tc:TT}{te:TE}
variable{Q:VK}{E:Value->Shared->Prop}{pos':Pos}
theorem ph{use:Option (Value->Sem Unit)}{QQ:Value->Shared->Prop}(hc:X.calm=true)(hx:X.xe=λ_ _=>False)(hi:PI X tg iter wi)
  (hg:∀C s₀ H₀ ex pn,PG (yT X scope N C s₀ H₀ ex pn) tg g) (ht:∀C s₀ H₀ ex pn,PF (yT X scope N C s₀ H₀ ex pn) ifs tc) (he:∀C s₀ H₀ ex pn,PE (yT X scope N C s₀ H₀ ex pn) elt te) (HQ:BO js g)
  (Cg:Cm X.env scope=true) (zV:AI X.N scope N js=true) (zo:scope.kind=.function) (hs:∀x,aa4 iter X.env x=pure x)
  (I:Inv X pins σ H s) (h:Pw wi g tc te js σ H Q)
  (fin:∀(l C:Addr) (H':Hp) (s':Shared),Inv X pins σ H' s'->Q (.ref l) H'->H' C=none->C≠X.env.locals->X.s₀.heap.objs.size<=C->(∀x c,X.env.cells.lookup x=some c->c≠C)->(∀p∈X.pn++pins,p.1≠C)->(∃m,s'.heap.Ns C m)->ae7 (model X.prog X.w) X.A E use QQ (.ref l) C (.ok .next) s') :
  wpAny (model X.prog X.w) X.A (adP (.ListComp elt [⟨tg,iter,ifs,0⟩] scope pos) scope X.env pos' (newList []) false (eval iter X.env) use) QQ E s:=by
 have SC:=oO Cg
 have CP:=nO zV
 refine wpAny_comprehension_free (cl:=Bj X.env.cells scope.names []) rfl hs (gv (SC.cells I.ok)) zo SC.lc ?_
 refine aaT (hi pins s σ H _ I h) (λv s1 h1=>aaT h1 (λOB s2 h2=>?_) (λ_ _ z=>by rw[hx]at z;exact z.elim)) (λ_ _ z=>by rw[hx]at z;exact z.elim)
 obtain⟨it,fp,tn,J,H2,rfl,I2,T,Kk,f2,hq⟩:=h2
 have Mh:H2 s2.heap.objs.size=none:=I2.y6.fresh (aal _)
 obtain⟨W,⟨m0,w0⟩,turn⟩:=hq s2.heap.objs.size Mh
 refine abQ (aed (λx hx=>SC.nc x hx) (by intro y hy;simp at hy) (λh₁ hns₁ hsb₁=>?_) zo)
 dsimp only at hns₁ hsb₁ ⊢
 generalize Jb:s2.heap.push {cls:=.type "list",dict:=none,data:=.seq ([]:List Value).toArray}=hp3 at hns₁ hsb₁ ⊢
 have NO:hp3.objs.size=s2.heap.objs.size+1:=by rw[<- Jb,abf]
 have I3:Inv X pins σ (upd H2 s2.heap.objs.size (.lst [])) {s2 with heap:=hp3}:=by
  rw[<- Jb]
  exact I2.laid (t':=s2.toks) (λb u e=>aac _ e) (aal _) ⟨by show 0<=_;exact aaN _,[],_,.nil,aai _ rfl⟩
 have keep:∀b o,hp3.get? b=some o->h₁.get? b=some o:=λb o e=>hsb₁.extBut b o (aav (aak e)) (aac _ e)
 have Lm:∀b∈fp,b<s2.heap.objs.size:=λb hb=>by
  obtain⟨o,e,_⟩:=T.obj _ _ Kk b hb
  exact aak e
 have f3:∀b∈fp,BG X pins (upd H2 s2.heap.objs.size (.lst [])) b:=λb hb=>⟨by rw[ag (aav (Lm b hb))];exact(f2 b hb).1,(f2 b hb).2⟩
 have J4:=m6 (tk:=s2.toks+([]:List (Str×Value)).length) (C:=hp3.objs.size) (fp:=fp) (h₁:=h₁) (scope:=scope) (N:=N) (js:=js) I3 SC CP zo f3 (λb hb=>by show b<hp3.objs.size;rw[NO];exact abe (Lm b hb)) rfl keep (by
  have:(λx=>adk x ([]:List (Str×Value)).reverse)=λ_=>none:=by funext x;rfl
  rw[this]at hns₁;exact hns₁)
 have MD:tn 0 h₁:=T.keep _ _ _ Kk λb hb o e=>keep b o (by rw[<- Jb];exact aac _ e)
 have loop:∀s4:Shared,s4={s2 with heap:=h₁,toks:=s2.toks+([]:List (Str×Value)).length} ->
   ads (model X.prog X.w) X.A (.compLoop (.ListComp elt [⟨tg,iter,ifs,0⟩] scope pos) 0 (.ref it) (.ref s2.heap.objs.size) (compEnvC scope (Bj X.env.cells scope.names []) hp3.objs.size X.env)) (ae7 (model X.prog X.w) X.A E use QQ (.ref s2.heap.objs.size) hp3.objs.size) s4:=by
  rintro s4 rfl
  generalize hY:yT X scope N hp3.objs.size {s2 with heap:=hp3} (upd H2 s2.heap.objs.size (.lst [])) fp (X.pn++pins)=Y at J4
  have Ln:∀{H':Hp},(∀b∈fp,H' b=none)->∀b∈fp,BG Y [] H' b:=λhn b hb=>by
   subst hY
   refine⟨hn b hb,?_,?_,.inl hb,λx c e=>?_,λp hp=>?_⟩
   .show b≠hp3.objs.size
    rw[NO];exact aav (abe (Lm b hb))
   .intro z
    rcases List.mem_cons.mp (I3.Ck b z)with q|q
    .exact(f3 b hb).2.1 q
    .exact(f3 b hb).2.2.1 q
   .exact(f3 b hb).2.2.2.2.1 x c (dY (SC.cells I.ok) (λc e=>by simp at e) e)
   .exact(f3 b hb).2.2.2.2.2 p (by simpa[yT]using hp)
  have QP:PG Y tg g:=by subst hY;exact hg _ _ _ _ _
  have Qy:PF Y ifs tc:=by subst hY;exact ht _ _ _ _ _
  have QT:PE Y elt te:=by subst hY;exact he _ _ _ _ _
  have eA:Y.A=X.A:=by subst hY;rfl
  have eP:Y.prog=X.prog:=by subst hY;rfl
  have eW:Y.w=X.w:=by subst hY;rfl
  have eK:Y.K=X.K:=by subst hY;rfl
  have eC:Y.calm=true:=by subst hY;exact hc
  have eX:Y.xe=λ_ _=>False:=by subst hY;rfl
  have eE:Y.env=compEnvC scope (Bj X.env.cells scope.names []) hp3.objs.size X.env:=by subst hY;rfl
  have T':Turn Y.prog Y.w Y.K tg J fp it tn:=by rw[eP,eW,eK];exact T
  have eL:(zE js σ).length=js.length:=by unfold zE;rw[aae]
  rw[<- eP,<- eW,<- eA,<- eE]
  refine codeAny_loop rfl (λn s'=>∃i ys H',Inv Y [] (zE js σ) H' s'/\tn i s'.heap/\(∀b∈fp,H' b=none)/\W i n ys H') (λn s' hI=>?_) m0 ⟨0,[],_,J4,MD,λb hb=>(f3 b hb).1,w0⟩
  obtain⟨i,ys,H5,I5,Iz,Ll,w5⟩:=hI
  show wpAny _ Y.A ((compTurn (.ListComp elt [⟨tg,iter,ifs,0⟩] scope pos) 0 (.ref it) (.ref s2.heap.objs.size) Y.env).onRaise (λx=>do noteFrame x Y.env;theTreesLotGoes x)) _ _ s'
  refine wpAny_noted ?_
  rw[compTurn_list]
  refine aaa (acH (aaa ?_))
  have Fq:∀(x:Value) (s:Shared) (P:Prop),Y.xe x s->P:=λx s P z=>by rw[eX]at z;exact z.elim
  rcases turn i n ys H5 w5 with ⟨stop,qn⟩|⟨go,step⟩
  .refine aaT (T'.done Y rfl rfl rfl eC i [] s' _ H5 Y.xe I5 (Ln Ll) Iz stop) (λr s6 ⟨hr,I6⟩=>?_) λx s z=>Fq x s _ z
   subst hr
   refine aah ?_
   show ae7 _ _ _ _ _ _ _ _ _
   rw[eP,eW,eA]
   have back:Inv X pins σ H5 s6:=by subst hY;exact m7 I3 I6 f3
   have IW:∃m,s6.heap.Ns hp3.objs.size m:=by
    obtain⟨m,hm,_⟩:=I6.loc
    have:Y.env.locals=hp3.objs.size:=by rw[eE];rfl
    rw[this]at hm
    exact⟨m,hm⟩
   have Q8:H5 hp3.objs.size=none:=by
    have:=I6.free
    have e:Y.env.locals=hp3.objs.size:=by rw[eE];rfl
    rw[e]at this;exact this
   refine fin s2.heap.objs.size hp3.objs.size H5 s6 back qn Q8 ?_ ?_ ?_ ?_ IW
   .exact ab5 I3.lt
   .exact I3.sz
   .intro x c e z
    obtain⟨v,o,ho,_⟩:=I3.cell x c e
    exact absurd (aak ho) (by rw[z];exact abi _)
   .intro p hp z
    have:=aak (I3.pin p hp).1
    rw[z]at this;exact absurd this (abi _)
  .refine aaT (T'.item Y rfl rfl rfl eC i [] s' _ H5 Y.xe I5 (Ln Ll) Iz go) (λr s6 h6=>?_) λx s z=>Fq x s _ z
   obtain⟨u,hr,h6⟩:=h6
   subst hr
   dsimp only
   refine aaa ?_
   refine aaT h6 (λ_ s7 h7=>?_) λx s z=>Fq x s _ z
   obtain⟨x,H7,I7,r7,y7,Kj,Rc⟩:=h7
   have RA:=I7.pinned (Ln Rc) (T.obj _ _ Kj)
   have g7:=HQ x (zE js σ) H7 _ (step x H7 y7)
   refine aaa ?_
   refine aaT (QP _ s7 (zE js σ) H7 x u _ RA r7 g7) (λ_ s8 h8=>?_) λx s z=>Fq x s _ z
   obtain⟨σ8,H8,I8,q8,l8,k8⟩:=h8
   refine aaa ?_
   refine aaT (Qy _ s8 σ8 H8 _ I8 q8) (λb s9 h9=>?_) λx s z=>Fq x s _ z
   obtain⟨H9,I9,q9⟩:=h9
   have again:∀{s':Shared} {H':Hp},Inv Y ([]++Co fp s7.heap) σ8 H' s'->Inv Y [] (zE js σ) H' s'/\tn (i+1) s'.heap/\∀b∈fp,H' b=none:=λ{s' H'} I'=>by
    refine⟨(I'.Bm).weak l8.symm λk v e=>?_,T.keep _ _ _ Kj λb hb o e=>(I'.pin (b,o) (aay _ (aay _ (bS hb e)))).1,λb hb=>?_⟩
    .cases ej:js[k]? with
     |none=>
      unfold zE at e
      rw[aaj,ej]at e;cases e
     |some o=>
      cases o with
      |none=>
       unfold zE at e
       rw[aaj,ej]at e;cases e
      |some j=>rw[k8 k j ej];exact e
    .obtain⟨o,e,d⟩:=T.obj _ _ Kj b hb
     exact(I'.pin (b,o) (aay _ (aay _ (bS hb e)))).2.1
   cases b with
   |false=>
    rw[if_neg aaB]at q9
    obtain⟨m',hm,w9⟩:=q9
    obtain⟨a1,a2,a3⟩:=again I9
    exact aah ⟨rfl,m',hm,i+1,ys,H9,a1,a2,a3,w9⟩
   |true=>
    rw[if_pos rfl]at q9
    refine aaa (aaa ?_)
    refine aaT (QT _ s9 σ8 H9 _ I9 q9) (λy PJ Rb=>?_) λx s z=>Fq x s _ z
    obtain⟨yv,O2,RB,PY,UL,z10,m',hm,SY⟩:=Rb
    refine aaa ?_
    refine aaT (bx (X:=Y) _ PJ σ8 O2 (.ref s2.heap.objs.size) [yv] (.ref s2.heap.objs.size) [y] (λ_ H'=>H'=upd O2 s2.heap.objs.size (.lst (ys++[yv]))) RB rfl (.cons PY .nil) ⟨_,ys,yv,rfl,rfl,UL,z10,rfl⟩) (λ_ Om Ra=>?_) λx s z=>Fq x s _ z
    obtain⟨_,SN,O1,_,OR⟩:=Ra
    subst OR
    obtain⟨a1,a2,a3⟩:=again O1
    exact aah (aah ⟨rfl,m',hm,i+1,ys++[yv],_,a1,a2,a3,SY⟩)
 exact codeAny_compStart_list (loop _ rfl) (T.self X.A 0 _ _ _ MD (loop _ rfl))
theorem uR(hi:PI X tg iter wi)(hg:∀C s₀ H₀ ex pn,PG (yT X scope N C s₀ H₀ ex pn) tg g)(ht:∀C s₀ H₀ ex pn,PF (yT X scope N C s₀ H₀ ex pn) ifs tc)(he:∀C s₀ H₀ ex pn,PE (yT X scope N C s₀ H₀ ex pn) elt te)(HQ:BO js g)
  (hc:X.calm=true:=by rfl) (hx:X.xe=(λ_ _=>False):=by rfl) (Cg:Cm X.env scope=true:=by rfl) (zV:AI X.N scope N js=true:=by rfl) (zo:scope.kind=.function:=by rfl) (hs:∀x,aa4 iter X.env x=pure x:=by intro _;rfl) :
  PE X (.ListComp elt [⟨tg,iter,ifs,0⟩] scope pos) (Pw wi g tc te js):=by
 intro pins s σ H Q I h
 rw[eval_ListComp]
 refine ph (use:=none) hc hx hi hg ht he HQ Cg zV zo hs I h λl C H' s' I' q f0 f1 f2 f3 f4 ⟨m,hm⟩=>?_
 refine⟨m,hm,λh' sb=>⟨.ref l,H',?_,rfl,q⟩⟩
 exact I'.turned (t':=s'.toks) (it:=C) (λb o hb e=>sb.extBut b o hb e) f0 f1 (.inr f2) f3 f4
variable{y:Str}{py:Pos}
theorem yA{Ac:Pos}(hN:X.N.Nodup)(hy:X.N[i]?=some y)(hk:X.env.scope.names.lookup y=some .local)(hi:PI X tg iter wi)(hg:∀C s₀ H₀ ex pn,PG (yT X scope N C s₀ H₀ ex pn) tg g)(ht:∀C s₀ H₀ ex pn,PF (yT X scope N C s₀ H₀ ex pn) ifs tc)(he:∀C s₀ H₀ ex pn,PE (yT X scope N C s₀ H₀ ex pn) elt te)(HQ:BO js g)
  (HK:acl (.ListComp elt [⟨tg,iter,ifs,0⟩] scope pos) (some (.Name y py)) Ac.line X.env=pure true:=by rfl)
  (hc:X.calm=true:=by rfl) (hx:X.xe=(λ_ _=>False):=by rfl) (Cg:Cm X.env scope=true:=by rfl) (zV:AI X.N scope N js=true:=by rfl) (zo:scope.kind=.function:=by rfl) (hs:∀x,aa4 iter X.env x=pure x:=by intro _;rfl) :
  PS X (.Assign [.Name y py] (.ListComp elt [⟨tg,iter,ifs,0⟩] scope pos) Ac) (Ff (Pw wi g tc te js) (AG i)):=by
 intro pins s σ H D I h
 rw[exec_Assign_Name_used _ _ _ _ HK]
 refine aaa (acH (aaa ?_))
 show wpAny _ X.A (do let _ <- adP (.ListComp elt [⟨tg,iter,ifs,0⟩] scope pos) scope X.env _ (newList []) false (eval iter X.env) (some (assign (.Name y py) X.env))) _ _ s
 refine aaa (aaT (ph (use:=some (assign (.Name y py) X.env)) (E:=X.xe) (QQ:=λ_ s'=>SP X pins D .next s') hc hx hi hg ht he HQ Cg zV zo hs I h λl C H' s' I' q f0 f1 f2 f3 f4 ⟨m,hm⟩=>?_) (λ_ s' hq=>aah (aah hq)) λ_ _ e=>e)
 show wpAny _ X.A (assign (.Name y py) X.env (.ref l)) _ _ _
 refine aeC (gD I' hN hy (.inl hk) (v:=.ref l) rfl (λKw RC ⟨a,sb,ha⟩=>?_) (.inr hk))
 have QX:C≠a:=by
  rcases ha with rfl|ha
  .exact f1
  .exact λz=>f3 _ _ ha z.symm
 refine⟨m,hm.sameBut sb QX,λh' PC=>⟨_,H',?_,q⟩⟩
 exact RC.turned (t':=Kw.toks) (it:=C) (λb o hb e=>PC.extBut b o hb e) f0 f1 (.inr f2) f3 f4
end L2
namespace Srt
open PySem PySem.W PyProof.Rows
variable{α:Type}
def pw(lt:Nat->Nat->Bool)(n:Nat):KasT α->(α->Prop)->Prop
 |.ret a,Q=>Q a
 |.ask i j k,Q=>i<n/\j<n/\i≠j/\pw lt n (k (lt i j)) Q
theorem pw_bind{β:Type}{lt:Nat->Nat->Bool}{n:Nat}{f:α->KasT β}{Q:β->Prop}:∀(t:KasT α),pw lt n t (λa=>pw lt n (f a) Q)->pw lt n (t.bind f) Q
 |.ret _,h=>h
 |.ask i j k,h=>⟨h.1,h.2.1,h.2.2.1,pw_bind (k (lt i j)) h.2.2.2⟩
structure Ord(lt:Nat->Nat->Bool)(n:Nat):Prop where
 R4:∀i,i<n->lt i i=false
 tr:∀i j k,i<n->j<n->k<n->lt i j=true->lt j k=true->lt i k=true
 J8:∀i j,i<n->j<n->i≠j->lt i j=false->lt j i=true
section
variable{lt:Nat->Nat->Bool}{n:Nat}
def at'(p:Array Nat)(i:Nat):Nat:=p.getD i 0
structure Pm(p:Array Nat)(n:Nat):Prop where
 sz:p.size=n
 lt:∀i,i<n->at' p i<n
 nd:∀i j,i<n->j<n->at' p i=at' p j->i=j
theorem aV(p:Array Nat)(i:Nat):at' p i=(p[i]?).getD 0:=by
 unfold at'
 by_cases h:i<p.size
 .simp[Array.getD,h]
 .simp[Array.getD,h]
def Hb(lt:Nat->Nat->Bool)(p:Array Nat)(k:Nat):Prop:=∀i j,i<j->j<k->lt (at' p i) (at' p j)=true
def RE(lt:Nat->Nat->Bool)(p:Array Nat)(k:Nat):Prop:=∀i j,i<j->j<k->lt (at' p j) (at' p i)=true
theorem nZ(o:Ord lt n){p:Array Nat}(P:Pm p n):∀(f m:Nat) (Q:Nat->Prop),1<=m->m+f<=n->Hb lt p m->(∀m',m<=m'->m'<=m+f->Hb lt p m'->(m'<m+f->lt (at' p m') (at' p (m' - 1))=true)->Q m')->pw lt n (kas_asc p f m) Q
 |0,m,Q,_,_,ha,h=>h m (aal _) (aal _) ha λz=>absurd z (abi _)
 |f+1,m,Q,h1,hm,ha,h=>by
  refine⟨P.lt _ (by omega),P.lt _ (by omega),λz=>(by have:=P.nd _ _ (by omega) (by omega) z;omega),?_⟩
  cases c:lt (p.getD m 0) (p.getD (m - 1) 0)with
  |true=>
   show Q m
   exact h m (aal _) (by omega) ha λ_=>c
  |false=>
   show pw lt n (kas_asc p f (m+1)) Q
   have e:lt (at' p (m - 1)) (at' p m)=true:=o.J8 _ _ (P.lt _ (by omega)) (P.lt _ (by omega)) (λz=>by have:=P.nd _ _ (by omega) (by omega) z;omega) c
   refine nZ o P f (m+1) Q (by omega) (by omega) (λi j CN hj=>?_) λm' a b c d=>h m' (by omega) (by omega) c λz=>d (by omega)
   by_cases ej:j=m
   .subst ej
    by_cases ei:i=j - 1
    .subst ei;exact e
    .exact o.tr _ (at' p (j - 1)) _ (P.lt _ (by omega)) (P.lt _ (by omega)) (P.lt _ (by omega)) (ha i (j - 1) (by omega) (by omega)) e
   .exact ha i j CN (by omega)
theorem pB(o:Ord lt n){p:Array Nat}(P:Pm p n):∀(f m:Nat) (Q:Array Nat×Nat×Nat->Prop),1<=m->m+f<=n->RE lt p m->(∀m',m<=m'->m'<=m+f->RE lt p m'->Q (p,m',0))->pw lt n (kas_desc f p m 0) Q
 |0,m,Q,_,_,ha,h=>h m (aal _) (aal _) ha
 |f+1,m,Q,h1,hm,ha,h=>by
  refine⟨P.lt _ (by omega),P.lt _ (by omega),λz=>(by have:=P.nd _ _ (by omega) (by omega) z;omega),?_⟩
  cases c:lt (p.getD m 0) (p.getD (m - 1) 0)with
  |true=>
   show pw lt n (if 0 > 0 then kas_desc f (aej p (m - (0+1)) m) (m+1) 0 else kas_desc f p (m+1) 0) Q
   rw[if_neg (abi 0)]
   refine pB o P f (m+1) Q (by omega) (by omega) (λi j CN hj=>?_) λm' a b c=>h m' (by omega) (by omega) c
   by_cases ej:j=m
   .subst ej
    by_cases ei:i=j - 1
    .subst ei;exact c
    .exact o.tr _ (at' p (j - 1)) _ (P.lt _ (by omega)) (P.lt _ (by omega)) (P.lt _ (by omega)) c (ha i (j - 1) (by omega) (by omega))
   .exact ha i j CN (by omega)
  |false=>
   have e:lt (at' p (m - 1)) (at' p m)=true:=o.J8 _ _ (P.lt _ (by omega)) (P.lt _ (by omega)) (λz=>by have:=P.nd _ _ (by omega) (by omega) z;omega) c
   show pw lt n (KasT.ask (p.getD (m - 1) 0) (p.getD m 0) _) Q
   refine⟨P.lt _ (by omega),P.lt _ (by omega),λz=>(by have:=P.nd _ _ (by omega) (by omega) z;omega),?_⟩
   rw[show lt (p.getD (m - 1) 0) (p.getD m 0)=true from e]
   exact h m (aal _) (by omega) ha
theorem mE{p:Array Nat}{m i:Nat}(hm:m<=p.size)(hi:i<m):at' (aej p 0 m) i=at' p (m - 1 - i):=by
 rw[aV,aV]
 unfold aej
 rw[getElem?_mirror hm _ (by omega)]
 have e:0+m - 1 - i=m - 1 - i:=by omega
 split
 .rw[e]
 .rename_i h
  have:i=m - 1 - i:=by omega
  rw[<- this]
theorem ve{p:Array Nat}{m i:Nat}(hm:m<=p.size)(hi:m<=i):at' (aej p 0 m) i=at' p i:=by
 rw[aV,aV]
 unfold aej
 rw[getElem?_mirror hm _ (by omega),if_neg (by omega)]
theorem xf{p:Array Nat}{m:Nat}(P:Pm p n)(hm:m<=n):Pm (aej p 0 m) n:=by
 have hs:m<=p.size:=by rw[P.sz];exact hm
 have key:∀i,i<n->∃i',i'<n/\at' (aej p 0 m) i=at' p i'/\((i<m/\i'=m - 1 - i)\/(m<=i/\i'=i)):=λi hi=>by
  by_cases h:i<m
  .exact⟨m - 1 - i,by omega,mE hs h,.inl ⟨h,rfl⟩⟩
  .exact⟨i,hi,ve hs (by omega),.inr ⟨by omega,rfl⟩⟩
 refine⟨by unfold aej;rw[mirror_size];exact P.sz,λi hi=>?_,λi j hi hj e=>?_⟩
 .obtain⟨i',h1,h2,_⟩:=key i hi
  rw[h2];exact P.lt i' h1
 .obtain⟨i',h1,h2,h3⟩:=key i hi
  obtain⟨j',k1,k2,k3⟩:=key j hj
  rw[h2,k2]at e
  have:=P.nd _ _ h1 k1 e
  omega
theorem sY(o:Ord lt n){p:Array Nat}(P:Pm p n){m:Nat}{Q:Nat×Array Nat->Prop}(h1:1<=m)(hm:m<=n)(hd:RE lt p m)(h:∀m' q,1<=m'->m'<=n->Pm q n->Hb lt q m'->Q (m',q)):pw lt n (kas_tail3 m n p) Q:=by
 refine pw_bind _ ?_
 have P':=xf P hm
 have hs:m<=p.size:=by rw[P.sz];exact hm
 refine nZ o P' _ _ _ h1 (by omega) (λi j CN hj=>?_) λm' a b c _=>h m' _ (by omega) (by omega) P' c
 rw[mE hs (by omega),mE hs hj]
 exact hd _ _ (by omega) (by omega)
theorem uD(o:Ord lt n){p:Array Nat}(P:Pm p n)(h2:2<=n){Q:Nat×Array Nat->Prop}(h:∀m q,1<=m->m<=n->Pm q n->Hb lt q m->Q (m,q)):pw lt n (kas_count n p) Q:=by
 refine pw_bind _ ?_
 refine nZ o P _ _ _ (aal 1) (by omega) (λi j CN hj=>by omega) λm a b c d=>?_
 by_cases e:(m==n)=true
 .rw[if_pos e]
  exact h m p (by omega) (by omega) P c
 .rw[if_neg e]
  have hne:m≠n:=λz=>e (by simp[z])
  by_cases hm:m > 1
  .rw[if_pos hm]
   refine⟨P.lt _ (by omega),P.lt _ (by omega),λz=>(by have:=P.nd _ _ (by omega) (by omega) z;omega),?_⟩
   rw[show lt (p.getD 0 0) (p.getD (m - 1) 0)=true from c 0 (m - 1) (by omega) (by omega)]
   exact h m p (by omega) (by omega) P c
  .rw[if_neg hm]
   have QJ:m=1:=by omega
   subst QJ
   refine pw_bind _ ?_
   have d1:lt (at' p 1) (at' p (1 - 1))=true:=d (by omega)
   refine pB o P _ _ _ (by omega) (by omega) (λi j CN hj=>?_) λm' a b hd=>?_
   .have:i=0:=by omega
    have:j=1:=by omega
    subst i j
    exact d1
   .show pw lt n (if 0 > 0 then kas_tail3 m' n (aej p (m' - (0+1)) m')else kas_tail3 m' n p) Q
    rw[if_neg (abi 0)]
    exact sY o P (by omega) (by omega) hd h
theorem je(o:Ord lt n){p:Array Nat}(P:Pm p n){k:Nat}(hk:k<n)(ha:Hb lt p k):∀(f l r:Nat) (Q:Nat->Prop),l<=r->r<=k->r<=l+f->(∀i,i<l->lt (at' p i) (at' p k)=true)->(∀i,r<=i->i<k->lt (at' p k) (at' p i)=true) ->
  (∀l',l'<=k->(∀i,i<l'->lt (at' p i) (at' p k)=true)->(∀i,l'<=i->i<k->lt (at' p k) (at' p i)=true)->Q l')->pw lt n (kas_place p k f l r) Q
 |0,l,r,Q,hl,hr,hf,h1,h2,h=>by
  have:l=r:=by omega
  subst this
  exact h l hr h1 h2
 |f+1,l,r,Q,hl,hr,hf,h1,h2,h=>by
  unfold kas_place
  by_cases Sf:l ≥ r
  .rw[if_pos Sf]
   have:l=r:=by omega
   subst this
   exact h l hr h1 h2
  .rw[if_neg Sf]
   have hm:(l+r) / 2<k:=by omega
   refine⟨P.lt _ hk,P.lt _ (by omega),λz=>(by have:=P.nd _ _ hk (by omega) z;omega),?_⟩
   cases c:lt (p.getD k 0) (p.getD ((l+r) / 2) 0)with
   |true=>
    show pw lt n (kas_place p k f l ((l+r) / 2)) Q
    refine je o P hk ha f l _ Q (by omega) (by omega) (by omega) h1 (λi hi Sk=>?_) h
    by_cases e:i=(l+r) / 2
    .subst e;exact c
    .exact o.tr _ (at' p ((l+r) / 2)) _ (P.lt _ hk) (P.lt _ (by omega)) (P.lt _ (by omega)) c (ha _ _ (by omega) Sk)
   |false=>
    show pw lt n (kas_place p k f ((l+r) / 2+1) r) Q
    have e:lt (at' p ((l+r) / 2)) (at' p k)=true:=o.J8 _ _ (P.lt _ hk) (P.lt _ (by omega)) (λz=>by have:=P.nd _ _ hk (by omega) z;omega) c
    refine je o P hk ha f _ r Q (by omega) hr (by omega) (λi hi=>?_) h2 h
    by_cases e':i=(l+r) / 2
    .subst e';exact e
    .exact o.tr _ (at' p ((l+r) / 2)) _ (P.lt _ (by omega)) (P.lt _ (by omega)) (P.lt _ hk) (ha _ _ (by omega) (by omega)) e
theorem g0{p:Array Nat}{k l i:Nat}(hk:k<p.size)(hl:l<=k):at' (bubble p k (k - l)) i=if i=l then at' p k else if l<i/\i<=k then at' p (i - 1)else at' p i:=by
 rw[aV]
 rw[getElem?_bubble hk (k - l) (by omega)]
 have e:k - (k - l)=l:=by omega
 rw[e]
 split
 .rw[aV]
 .split
  .rw[aV]
  .rw[aV]
theorem sQ(o:Ord lt n):∀(f k:Nat) (p:Array Nat) (Q:Array Nat->Prop),Pm p n->Hb lt p k->k+f=n->(∀q,Pm q n->Hb lt q n->Q q)->pw lt n (kas_bin f p k) Q
 |0,k,p,Q,P,ha,hk,h=>by
  have:k=n:=by omega
  subst this
  exact h p P ha
 |f+1,k,p,Q,P,ha,hk,h=>by
  have La:k<n:=by omega
  have hs:k<p.size:=by rw[P.sz];exact La
  refine pw_bind _ (je o P La ha k 0 k _ (aaN _) (aal _) (by omega) (λi hi=>by omega) (λi hi Sk=>by omega) λl hl h1 h2=>?_)
  refine sQ o f (k+1) _ Q ⟨by rw[bubble_size];exact P.sz,λi hi=>?_,λi j hi hj e=>?_⟩ (λi j CN hj=>?_) (by omega) h
  .rw[g0 hs hl]
   split
   .exact P.lt _ La
   .split
    .exact P.lt _ (by omega)
    .exact P.lt _ hi
  .rw[g0 hs hl,g0 hs hl]at e
   have P1:=P.nd
   split at e
   .split at e
    .omega
    .split at e
     .have:=P1 _ _ La (by omega) e;omega
     .have:=P1 _ _ La (by omega) e;omega
   .split at e
    .split at e
     .have:=P1 _ _ (by omega) La e;omega
     .split at e
      .have:=P1 _ _ (by omega) (by omega) e;omega
      .have:=P1 _ _ (by omega) (by omega) e;omega
    .split at e
     .have:=P1 _ _ (by omega) La e;omega
     .split at e
      .have:=P1 _ _ (by omega) (by omega) e;omega
      .have:=P1 _ _ (by omega) (by omega) e;omega
  .rw[g0 hs hl,g0 hs hl]
   split
   .split
    .omega
    .split
     .exact h2 _ (by omega) (by omega)
     .omega
   .split
    .split
     .omega
     .split
      .exact ha _ _ (by omega) (by omega)
      .omega
    .split
     .exact h1 _ (by omega)
     .split
      .exact ha _ _ (by omega) (by omega)
      .exact ha _ _ CN (by omega)
theorem oN(o:Ord lt n)(h2:2<=n){Q:Array Nat->Prop}(h:∀p,Pm p n->Hb lt p n->Q p):pw lt n (kas_sort n) Q:=by
 have P0:Pm (aeV (aaV n)) n:=by
  have e:∀i,i<n->at' (aeV (aaV n)) i=i:=λi hi=>by rw[aV];simp[hi]
  refine⟨by simp,λi hi=>by rw[e i hi];exact hi,λi j hi hj q=>by rw[e i hi,e j hj]at q;exact q⟩
 refine pw_bind _ (uD o P0 h2 λm q h1 hm P ha=>?_)
 show pw lt n (if m<n then kas_bin (n - max m 1) q (max m 1)else .ret q) Q
 by_cases e:m<n
 .rw[if_pos e]
  have em:max m 1=m:=by omega
  rw[em]
  exact sQ o _ _ _ _ P ha (by omega) h
 .rw[if_neg e]
  have:m=n:=by omega
  subst this
  exact h q P ha
end
theorem pw_wp{lt:Nat->Nat->Bool}{n:Nat}{cmp:Nat->Nat->(Bool->Shared->Prop)->Shared->Prop}{Q:α->Prop}{QQ:α->Shared->Prop}{J:Shared->Prop}
  (hc:∀i j C s,i<n->j<n->i≠j->J s->(∀s',J s'->C (lt i j) s')->cmp i j C s) (hq:∀a s,J s->Q a->QQ a s):∀(t:KasT α) (s:Shared),J s->pw lt n t Q->t.kasWp cmp QQ s
 |.ret a,s,hj,h=>hq a s hj h
 |.ask i j k,s,hj,h=>hc i j _ s h.1 h.2.1 h.2.2.1 hj λs' Er=>pw_wp hc hq (k (lt i j)) s' Er h.2.2.2
end Srt
namespace L2
open PySem PySem.Spec PyProof.Rows
theorem pU{ss:List Str}:∀{us:List Value},oF (ss.map V.str) us->StrsAre us ss:=by
 induction ss with
 |nil=>intro us r;cases r;exact .nil
 |cons x r ih=>
  intro us h
  cases h with
  |cons h1 h2=>
   obtain⟨t,rfl⟩:=h1
   exact .cons x t (ih h2)
theorem gw:∀{us:List Value} {ss:List Str},StrsAre us ss->oF (ss.map V.str) us
 |_,_,.nil=>.nil
 |_,_,.cons x t h=>.cons ⟨t,rfl⟩ (gw h)
def zD(a b:Str):Prop:=a.cps.toList<b.cps.toList
instance (a b:Str):Decidable (zD a b):=inferInstanceAs (Decidable (a.cps.toList<b.cps.toList))
theorem iL:∀(l:List Str) (p:Str),risingS p l=true->(∀y∈l,¬ zD y p)/\l.Pairwise (λa b=>¬ zD b a)
 |[],p,_=>⟨(λ_ h=>nomatch h),aeP⟩
 |x::r,p,h=>by
  have h':(!ltCps x.cps.toList p.cps.toList && risingS x r)=true:=h
  rw[aaC]at h'
  obtain⟨h1,h2⟩:=h'
  have hx:¬ zD x p:=by
   unfold zD
   rw[ltCps_eq]at h1
   simpa using h1
  obtain⟨a,b⟩:=iL r x h2
  refine⟨λy hy=>?_,List.pairwise_cons.mpr ⟨a,b⟩⟩
  rcases List.mem_cons.mp hy with rfl|hy
  .exact hx
  .intro z
   have:=a y hy
   unfold zD at *
   exact hx (List.lt_of_le_of_lt (List.not_lt.mp this) z)
theorem iK{l:List Str}(h:sortedS l=true):l.Pairwise (λa b=>¬ zD b a):=by
 cases l with
 |nil=>exact aeP
 |cons x r=>
  obtain⟨a,b⟩:=iL r x h
  exact List.pairwise_cons.mpr ⟨a,b⟩
variable{X:Cx}
def Kz(K:aag):List V->Hp->VK->Prop:=λxs H Q=>∃(p:Addr) (ss:List Str),xs=[.ref p]/\An K H p (ss.map V.str)/\ss.length<64 /\
 ∀(l:Addr) (D5:List Str),H l=none->D5.Perm ss->D5.Pairwise (λa b=>¬ zD b a)->Q (.ref l) (upd H l (.lst (D5.map V.str)))
theorem qr:zg X (.builtin "sorted") (Kz X.K):=by
 intro pins s σ H xs us Q I r h
 obtain⟨p,ss,rfl,hq,Ci,k⟩:=h
 obtain⟨u,rfl,ru⟩:=r.one
 cases ru
 obtain⟨eQ,rv,pl,hz⟩:=I.list hq
 have hS:=pU rv
 have hl:=rv.length
 rw[aae]at hl
 refine sorted_strs pl.isList hS (by omega) λout D5 a1 a2 a3=>?_
 obtain⟨e,he⟩:=sortedAll_at s.heap eQ out
 have hn:H (s.heap.objs.size+1)=none:=I.y6.fresh (afk _)
 refine⟨.ref (s.heap.objs.size+1),_,I.laid (t':=s.toks) (a:=s.heap.objs.size+1) (o:=.lst (D5.map V.str)) (λb o q=>sortedAll_old q) (afk _) ?_,rfl,k _ D5 hn a2 (iK a3)⟩
 refine⟨by rw[aae,a2.length_eq,aaG];omega,out.toList,e,gw a1,?_⟩
 rw[Array.toArray_toList]
 exact he
variable{prog:aaH}{w:World}{A:Around}{E:Value->Shared->Prop}{s:Shared}
def dI(vs:List Value):Sem PySem.Fin:=do
 let l <- newList vs
 let _ <- acS [l] (call (.builtin "list.sort") [l] [])
 ret l
variable{x:Value}{vs:List Value}{Q:Value->Shared->Prop}
theorem qK(hc:∀R:List Value->Shared->Prop,(∀h1 tk,(∀b o,s.heap.get? b=some o->h1.get? b=some o)->R vs {s with heap:=h1,toks:=tk})->wpAny (model prog w) A.in1 (collect x) R E s)
  (h:∀h1 tk,(∀b o,s.heap.get? b=some o->h1.get? b=some o)->wpAny (model prog w) A.in1 (dI vs) (λfin s'=>∃v,fin=.done (.ret v)/\Q v s') E {s with heap:=h1,toks:=tk}):wpAny (model prog w) A (call (.builtin "sorted") [x]) Q E s:=by
 refine afx kind_sorted plain_sorted entry_sorted (args_sorted1 _) (?_:wpAny (model prog w) A.in1 (adx.«sorted» ⟨[x],[]⟩) _ _ s)
 unfold adx.«sorted»
 exact aaa (m:=checkCount "sorted" 1 1 _) (aah (aaa (hc _ λh1 tk kk=>h h1 tk kk)))
theorem pW(h2:vs.length<2)(h:∀h' e,(∀b o,s.heap.get? b=some o->h'.get? b=some o)->h'.get? s.heap.objs.size=some (seqObj "list" vs.toArray e)->Q (.ref s.heap.objs.size) {s with heap:=h'}):
  wpAny (model prog w) A (dI vs) (λfin s'=>∃v,fin=.done (.ret v)/\Q v s') E s:=by
 have hz:vs.length<=sizeLine:=by rw[aaG];omega
 unfold dI
 refine aaa (acp ?_ hz)
 have GI:(s.heap.push (seqObj "list" vs.toArray 0)).get? s.heap.objs.size=some (seqObj "list" vs.toArray 0):=aai _ rfl
 refine(?_:wpAny _ _ _ _ _ {s with heap:=s.heap.push (seqObj "list" vs.toArray 0)})
 generalize UB:s.heap.push (seqObj "list" vs.toArray 0)=hB at GI ⊢
 have kB:∀b o,s.heap.get? b=some o->hB.get? b=some o:=λb o e=>by rw[<- UB];exact aac _ e
 refine aaa (aaU (abj aef ⟨_,GI,rfl⟩ ad0 ?body (afs _)))
 case body=>
  rw[list_sort_plain]
  obtain⟨e1,KY⟩:∃e1,(hB.update s.heap.objs.size (abd λ_=>#[])).get? s.heap.objs.size=some (seqObj "list" #[] e1):=⟨_,abL GI λ_=>#[]⟩
  refine aaa (listItems_at GI rfl (aaa (adc GI rfl ?_ (by rw[aaf];exact hz) (aaN _))))
  refine aaa (afd KY rfl (aaa (afr ?_ (by show vs.length<=_;exact hz))))
  refine aaa (acp (aaU ?_) (aaN _))
  have QG:(((hB.update s.heap.objs.size (abd λ_=>#[])).push (seqObj "tuple" vs.toArray 0)).push (seqObj "list" #[] 0)).get? s.heap.objs.size=some (seqObj "list" #[] e1) :=
   aac _ (aac _ KY)
  refine(?_:wpAny (model prog w) _ _ _ _ {s with heap:=((hB.update s.heap.objs.size (abd λ_=>#[])).push (seqObj "tuple" vs.toArray 0)).push (seqObj "list" #[] 0)})
  dsimp only
  have zT:vs.toArray.size<2:=by rw[aaf];exact h2
  rw[if_pos zT,if_pos zT]
  refine aaa (aah ?_)
  rw[StateT.run_pure]
  refine aaa (aah ?_)
  dsimp only
  have eo:(arrOf (SortSt.mk' general' (vs.toArray.zip vs.toArray) #[] 7 none)).map (·.2)=vs.toArray:=by
   show (vs.toArray.zip vs.toArray).map (·.2)=vs.toArray
   apply Array.ext
   .simp
   .intro i h1 h2
    simp
  rw[eo]
  refine aaa (afd QG rfl (aaa (adc QG rfl ?_ (aaN _) (by rw[aaf];first|exact hz|exact Nat.le_succ_of_le hz))))
  simp only[bne_self_eq_false,ab2,if_false]
  refine aah ⟨_,rfl,aah ⟨_,rfl,h _ _ (λb o e=>?_) (abL QG λ_=>vs.toArray)⟩⟩
  have hb:b≠s.heap.objs.size:=aav (aak e)
  rw[aem _ _ _ _ hb]
  refine aac _ (aac _ ?_)
  rw[aem _ _ _ _ hb]
  exact kB b o e
variable{pins:List (Addr×Obj)}{σ:St}{H:Hp}
variable{h:Heap}{a:Addr}
theorem xH{m m':Str->Option Value}(x:h.Ns a m)(y:h.Ns a m'):m=m':=by
 obtain⟨o,es,ep,ho,hd,_,hm⟩:=x
 obtain⟨o',OP,OQ,CM,OK,_,KZ⟩:=y
 rw[ho]at CM;cases CM
 rw[hd]at OK;cases OK
 funext n
 rw[<- hm n,<- KZ n]
variable{P:aaH}{o:HO}
theorem zi.there(x:zi P w H h a o):∃u,h.get? a=some u:=by
 cases o with
 |lst xs=>obtain⟨_,_,_,_,e⟩:=x;exact⟨_,e⟩
 |tup xs=>obtain⟨_,_,_,o,e,_⟩:=x;exact⟨_,e⟩
 |dK kvs=>obtain⟨_,_,_,_,o,_,_,e,_⟩:=x;exact⟨_,e⟩
 |dT kvs=>obtain⟨_,_,_,_,o,_,_,e,_⟩:=x;exact⟨_,e⟩
 |set S n=>obtain⟨o,_,_,_,e,_⟩:=x;exact⟨_,e⟩
 |ins C dx fs=>obtain⟨_,_,_,e,_⟩:=x;exact⟨_,e⟩
 |own y=>exact x
 |xd fs=>obtain⟨_,⟨_,_,_,e,_⟩,_⟩:=x;exact⟨_,e⟩
 |Oq lo hi=>obtain⟨_,_,_,e⟩:=x;exact⟨_,e⟩
 |BB ob u=>obtain⟨e,_⟩:=x;exact⟨_,e⟩
 |Js ps=>exact⟨_,show h.get? a=some _ from x⟩
 |met f y=>exact⟨_,show h.get? a=some _ from x⟩
 |ext φ=>obtain⟨_,e,_⟩:=x;exact e
theorem BD.dead(x:BD P w H h)(e:h.get? a=none):H a=none:=by
 cases q:H a with
 |none=>rfl
 |some u=>
  obtain⟨o,z⟩:=(x a u q).there
  rw[e]at z;cases z
variable{h':Heap}{xs:List V}
theorem Inv.JF{D:Addr}{m:Str->Option Value}(I:Inv X pins σ H s)(hm:s.heap.Ns X.env.locals m)(KZ:h'.Ns X.env.locals m)(k:∀b o,b≠X.env.locals->s.heap.get? b=some o->h'.get? b=some o)
  (hD:s.heap.get? D=none) (new:zi X.prog X.w (upd H D (.lst xs)) h' D (.lst xs)):Inv X pins σ (upd H D (.lst xs)) {s with heap:=h'}:=by
 have fr:H D=none:=I.y6.dead hD
 have nD:∀b o,s.heap.get? b=some o->b≠D:=λb o e z=>by rw[z,hD]at e;cases e
 have nt:∀b u,H b=some u->b≠D:=λb u e=>aw e fr
 have RW:∀b u,H b=some u->b≠X.env.locals:=λb u e=>aw e I.free
 refine I.step (g':=s.gens) (d':=s.drawn) (t':=s.toks) (ch:=[]) (λ_ z=>nomatch z) (λb o hb _ _ e _=>k b o hb e) (λb o hb _ _ e _=>⟨o.slots,k b o hb e⟩) (λb o _ e n=>by rw[ag (nD b o e)];exact n)
  (λb o _ e=>?_) (λb ys e=>by rw[ag (nt b _ e)];exact e) (λb o u e=>by rw[ag (nt b _ e)];exact e) (λb ps e=>⟨#[],by rw[ag (nt b _ e),e];simp⟩) (λm2 h2=>by rw[xH h2 hm];exact KZ) (λb u e=>?_) I.bare
 .by_cases hb:b=X.env.locals
  .subst hb
   obtain⟨o',_,_,CM,_⟩:=KZ
   exact⟨o',CM⟩
  .exact⟨o,k b o hb e⟩
 .by_cases hb:b=D
  .subst hb
   rw[ak]at e
   cases e
   exact new
  .rw[ag hb]at e
   refine(I.y6 b u e).D4 (λc v hc q=>k c v ?_ q) (λc q=>by rw[ag (nt c _ q)];exact q) λc ys q=>by rw[ag (nt c _ q)];exact q
   rcases hc with z|z
   .rw[z];exact RW b u e
   .exact RW c _ z
structure Rows(K:aag)(H:Hp)(vs:List V)(nm:List Str):Prop where
 len:vs.length=nm.length
 row:∀(i:Nat) (v:V) (x:Str),vs[i]?=some v->nm[i]?=some x->∃a r,v=.ref a/\zW K H a (.str x::r)
 nd:nm.Nodup
def KA(K:aag):List V->Hp->VK->Prop:=λxs H Q=>∃p vs nm,xs=[.ref p]/\An K H p vs/\vs.length<64/\Rows K H vs nm /\
 ∀l (ix:List Nat),H l=none->ix.length=vs.length->ix.Nodup->(∀i∈ix,i<vs.length)->(ix.map λi=>nm.getD i ⟨#[]⟩).Pairwise zD->Q (.ref l) (upd H l (.lst (ix.map λi=>vs.getD i .oR)))
theorem oF.pick{us:List Value}(r:oF xs us):∀(ix:List Nat),(∀i∈ix,i<xs.length)->oF (ix.map λi=>xs.getD i .oR) (ix.map λi=>us.getD i abh)
 |[],_=>.nil
 |i::ix,h=>by
  refine .cons ?_ (oF.pick r ix λj hj=>h j (aan _ hj))
  have hi:=h i aaq
  have e:xs[i]?=some (xs[i]):=by simp[hi]
  obtain⟨u,hu,ru⟩:=r.get e
  have e1:xs.getD i .oR=xs[i]:=by simp[hi]
  have e2:us.getD i abh=u:=by rw[aad,hu];rfl
  show RelV (xs.getD i .oR) (us.getD i abh)
  rw[e1,e2]
  exact ru
variable{eQ:List Value}
theorem tf{vs:List V}{nm:List Str}{Q:VK}(I:Inv X pins σ H s)(rv:oF vs eQ)(hz:eQ.length<=sizeLine)(Ci:vs.length<64)(R:Rows X.K H vs nm)
  (k:∀l (ix:List Nat),H l=none->ix.length=vs.length->ix.Nodup->(∀i∈ix,i<vs.length)->(ix.map λi=>nm.getD i ⟨#[]⟩).Pairwise zD->Q (.ref l) (upd H l (.lst (ix.map λi=>vs.getD i .oR)))) :
  wpAny (model X.prog X.w) A (dI eQ) (λfin s'=>∃v,fin=.done (.ret v)/\∃x H',Inv X pins σ H' s'/\RelV x v/\Q x H') E s:=by
 have hl:=rv.length
 by_cases h2:eQ.length<2
 .refine pW h2 λh' e kk he=>?_
  have hn:H s.heap.objs.size=none:=I.y6.fresh (aal _)
  have ei:(aaV vs.length).map (λi=>vs.getD i V.oR)=vs:=by
   apply ac6
   intro i
   rw[aaj]
   by_cases hi:i<vs.length
   .rw[acs hi];simp[hi]
   .rw[aap (by simpa using hi),aap (by omega)];rfl
  have q:=k s.heap.objs.size (aaV vs.length) hn (by simp) adT (λi hi=>List.mem_range.mp hi) (by
   match hv:vs.length,hl with
   |0,_=>simp
   |1,_=>simp[ad4]
   |n+2,hl=>omega)
  rw[ei]at q
  exact⟨.ref s.heap.objs.size,_,I.laid (t':=s.toks) (a:=s.heap.objs.size) (o:=.lst vs) kk (aal _) ⟨by rw[hl];exact hz,eQ,e,rv,he⟩,rfl,q⟩
 .obtain⟨m,F⟩:=I.fr
  unfold dI
  refine aaa (acp ?_ hz)
  have GI:(s.heap.push (seqObj "list" eQ.toArray 0)).get? s.heap.objs.size=some (seqObj "list" eQ.toArray 0):=aai _ rfl
  have hL:X.env.locals<s.heap.objs.size:=F.ns.lt
  refine aaa (aaU (abj aef ⟨_,GI,rfl⟩ ad0 ?body (afs _)))
  refine PySem.W.kat_list_sort (s:={s with heap:=s.heap.push (seqObj "list" eQ.toArray 0)}) (F.kept λb o e=>aac _ e) ((ji (g:=X.base) (h:=s.heap) (L:=X.env.locals)).grown λb o e=>aac _ e) GI (ab5 hL)
   (Heap.get?_none_of_le (abg F.above (ad2 hL))) (λp hp=>aav (aak ((ji (g:=X.base) (h:=s.heap) (L:=X.env.locals)) p hp).1)) (by omega) (by omega) λe1 h' F' N'=>?_
  have hD:∀q∈ip X.base s.heap X.env.locals,q.1<s.heap.objs.size:=λq hq=>aak ((ji (g:=X.base) (h:=s.heap) (L:=X.env.locals)) q hq).1
  generalize VD:s.heap.objs.size=D at hD N' ⊢
  have Ng:∀b o,b≠X.env.locals->s.heap.get? b=some o->h'.get? b=some o:=λb o hb e=>by
   cases q:X.base.get? b with
   |some ob=>
    have:=I.bk b ob q
    rw[e]at this;cases this
    exact F'.keep b _ q
   |none=>exact(N' (b,o) (aan _ (eZ hb q e))).1
  have Uz:∀b o,b≠X.env.locals->X.base.get? b=none->s.heap.get? b=some o->b<D:=λb o hb hn e=>hD (b,o) (eZ hb hn e)
  have rowAt:∀i,i<eQ.length->∃a ob vv x t n,eQ.getD i abh=.ref a/\h'.get? a=some ob/\ob.cls=.type "tuple" /\ ob.data=.seq vv n/\vv[0]?=some (.str x t)/\nm[i]?=some x/\s.heap.get? a=some ob:=λi hi=>by
   have CO:i<vs.length:=by omega
   have e:vs[i]?=some vs[i]:=by simp[CO]
   obtain⟨u,hu,ru⟩:=rv.get e
   have Es:i<nm.length:=by rw[<- R.len];exact CO
   have en:nm[i]?=some nm[i]:=by simp[Es]
   obtain⟨a,rr,ev,ha⟩:=R.row i _ _ e en
   rw[ev]at ru
   cases ru
   obtain⟨S8,tv,⟨ob,GH,hc,n,hd⟩,z1⟩:=I.tuple ha
   cases tv with
   |cons t1 t2=>
    obtain⟨t,rfl⟩:=t1
    refine⟨a,ob,_,nm[i],t,n,by rw[aad,hu];rfl,Ng a ob ?_ GH,hc,hd,by simp,en,GH⟩
    rintro rfl
    obtain⟨m,⟨o2,es,ep,g1,g2,_⟩,_⟩:=I.loc
    rw[GH]at g1;cases g1
    rw[hd]at g2;cases g2
  have DF:PySem.W.KatTups h' eQ ((aaV eQ.length).map λi=>match eQ.getD i abh with|.ref a=>(match h'.get? a with|some ob=>(match ob.data with|.seq vv _=>(vv[0]?).getD .none|_=>.none)|none=>.none)|_=>.none):=by
   have go:∀(us:List Value) (f:Nat->Value) (k0:Nat),(∀i,i<us.length->∃a ob vv n,us.getD i abh=.ref a/\h'.get? a=some ob/\ob.cls=.type "tuple" /\ ob.data=.seq vv n/\vv[0]?=some (f (k0+i))) ->
     PySem.W.KatTups h' us ((aaV us.length).map λi=>f (k0+i)):=by
    intro us
    induction us with
    |nil=>intro f k0 _;exact trivial
    |cons u us ih=>
     intro f k0 hh
     obtain⟨a,ob,vv,n,e1,e2,e3,e4,e5⟩:=hh 0 (by simp)
     have NQ:u=.ref a:=by simpa using e1
     subst NQ
     rw[aaL,List.range_succ_eq_map,aar,aaw]
     refine⟨⟨a,ob,vv,n,rfl,e2,e3,e4,e5⟩,?_⟩
     have:=ih f (k0+1) λi hi=>by
      obtain⟨a,ob,vv,n,e1,e2,e3,e4,e5⟩:=hh (i+1) (by simpa using hi)
      exact⟨a,ob,vv,n,by simpa using e1,e2,e3,e4,by rw[show k0+1+i=k0+(i+1)by omega];exact e5⟩
     have ef:(λi=>f (k0+i)) ∘ Nat.succ=λi=>f (k0+1+i):=by
      funext i
      show f (k0+(i+1))=f (k0+1+i)
      rw[show k0+(i+1)=k0+1+i by omega]
     rw[ef]
     exact this
   have:=go eQ (λi=>match eQ.getD i abh with|.ref a=>(match h'.get? a with|some ob=>(match ob.data with|.seq vv _=>(vv[0]?).getD .none|_=>.none)|none=>.none)|_=>.none) 0 λi hi=>by
    obtain⟨a,ob,vv,x,t,n,e1,e2,e3,e4,e5,_⟩:=rowAt i hi
    refine⟨a,ob,vv,n,e1,e2,e3,e4,?_⟩
    rw[abx,e1,e5]
    simp only[e2,e4,e5]
    rfl
   simpa using this
  refine PySem.W.kat_kind (T:=.type "str") DF (by rw[aae,adF];omega) (λv hv=>?_) rfl ?_
  .obtain⟨i,hi,rfl⟩:=List.mem_map.mp hv
   obtain⟨a,ob,vv,x,t,n,e1,e2,e3,e4,e5,_⟩:=rowAt i (List.mem_range.mp hi)
   rw[e1]
   simp only[e2,e4,e5]
   exact PySem.W.Looks.of_pure rfl
  .-- the questions
   have hT:((abC "str") != (abC "tuple"))=true:=by decide
   rw[hT]
   let lt:Nat->Nat->Bool:=λi j=>decide (zD (nm.getD i ⟨#[]⟩) (nm.getD j ⟨#[]⟩))
   have NR:∀i j,i<eQ.length->j<eQ.length->(nm.getD i ⟨#[]⟩).cps.toList=(nm.getD j ⟨#[]⟩).cps.toList->i=j:=λi j hi hj e=>by
    have CO:i<nm.length:=by rw[<- R.len];omega
    have Er:j<nm.length:=by rw[<- R.len];omega
    have e':nm.getD i ⟨#[]⟩=nm.getD j ⟨#[]⟩:=by
     generalize nm.getD i ⟨#[]⟩=x at e ⊢
     generalize nm.getD j ⟨#[]⟩=y at e ⊢
     obtain⟨x⟩:=x
     obtain⟨y⟩:=y
     exact congrArg Str.mk (Array.toList_inj.mp e)
    rw[aad,aad,aab CO,aab Er]at e'
    exact(abP R.nd).mp e'
   have o:Srt.Ord lt eQ.length:=by
    refine⟨λi _=>?_,λi j k _ _ _ a b=>?_,λi j hi hj ne e=>?_⟩
    .show decide _=false
     simp[zD,adv]
    .have a':=of_decide_eq_true a
     have b':=of_decide_eq_true b
     exact decide_eq_true (List.lt_trans (show _<_ from a') b')
    .have e':=of_decide_eq_false e
     refine decide_eq_true ?_
     unfold zD at e' ⊢
     rcases aa7 0 0 with z|_
     .omega
     .have le:=List.not_lt.mp e'
      rcases List.le_iff_lt_or_eq.mp le with z|z
      .exact z
      .exact absurd (NR j i hj hi z).symm ne
   refine Srt.pw_wp (lt:=lt) (n:=eQ.length) (Q:=λp=>Srt.Pm p eQ.length/\Srt.Hb lt p eQ.length) (J:=λs'=>s'={s with heap:=h'}) ?_ ?_ (PySem.W.kas_sort eQ.length) _ rfl (Srt.oN o (by omega) λp a b=>⟨a,b⟩)
   .rintro i j C s' hi hj ne rfl hC
    obtain⟨a,ob,vv,x,t,n,e1,e2,e3,e4,e5,e6,_⟩:=rowAt i hi
    obtain⟨a',Vn,J3,x',t',n',f1,f2,f3,f4,f5,f6,_⟩:=rowAt j hj
    show wpAny _ _ (keyLt' (afa true) (eQ.getD i abh) (eQ.getD j abh)) _ _ _
    rw[e1,f1]
    refine PySem.W.kat_lt e2 e4 f2 f4 ?_
    have g1:vv.toList=.str x t::vv.toList.tail:=by
     cases h:vv.toList with
     |nil=>
          have:vv[0]?=vv.toList[0]?:=by simp
          rw[this,h]at e5;cases e5
     |cons y r=>
            have:vv[0]?=vv.toList[0]?:=by simp
            rw[this,h]at e5
            have:y=.str x t:=by simpa using e5
            rw[this];rfl
    have g2:J3.toList=.str x' t'::J3.toList.tail:=by
     cases h:J3.toList with
     |nil=>
          have:J3[0]?=J3.toList[0]?:=by simp
          rw[this,h]at f5;cases f5
     |cons y r=>
            have:J3[0]?=J3.toList[0]?:=by simp
            rw[this,h]at f5
            have:y=.str x' t':=by simpa using f5
            rw[this];rfl
    rw[g1,g2,abB]
    have d1:nm.getD i ⟨#[]⟩=x:=by rw[aad,e6];rfl
    have d2:nm.getD j ⟨#[]⟩=x':=by rw[aad,f6];rfl
    have hne:x≠x':=λz=>ne (NR i j hi hj (by rw[d1,d2,z]))
    refine PySem.W.kat_cons (aeX ?_)
    rw[decide_eq_false hne]
    refine PySem.W.kat_no ?_
    show wpAny _ _ (oneLt' true (.str x t) (.str x' t')) _ _ _
    refine oneLt_str ?_
    have:=hC _ rfl
    have el:lt i j=decide (x.cps.toList<x'.cps.toList):=by
     show decide (zD _ _)=_
     rw[d1,d2];rfl
    rw[el]at this
    exact this
   .rintro pa s' rfl ⟨P,As⟩
    refine PySem.W.KasFin.intro F' N' (.head λq hq=>?_) λIp c F2 N2=>?_
    .exact aav (hD q hq)
    .have Nf:∀b o,b≠X.env.locals->s.heap.get? b=some o->Ip.get? b=some o:=λb o hb e=>by
      cases q:X.base.get? b with
      |some ob=>
       have:=I.bk b ob q
       rw[e]at this;cases this
       exact F2.keep b _ q
      |none=>exact(N2 (b,o) (aan _ (eZ hb q e))).1
     have Q6:=(N2 _ aaq)
     have NN:s.heap.get? D=none:=by
      cases q:s.heap.get? D with
      |none=>rfl
      |some od=>exact absurd (Uz D od Q6.2.1 Q6.2.2 q) (abi _)
     have Ny:∀i∈pa.toList,i<vs.length:=λi hi=>by
      obtain⟨j,hj,rfl⟩:=Array.mem_iff_getElem.mp (Array.mem_toList_iff.mp hi)
      have:=P.lt j (by rw[<- P.sz];exact hj)
      rw[Srt.aV]at this
      simp only[afz hj,adR]at this
      omega
     have q:=k D pa.toList (I.y6.dead NN) (by rw[abI,P.sz];omega) ?_ Ny ?_
     .refine⟨_,rfl,aah ⟨_,rfl,.ref D,_,I.JF (xs:=pa.toList.map λi=>vs.getD i .oR) F.ns F2.ns Nf NN ⟨?_,pa.toList.map λi=>eQ.getD i abh,c,rv.pick _ Ny,Q6.1⟩,rfl,q⟩⟩
      rw[aae,abI,P.sz];exact hz
     .rw[acN,acR]
      intro i j hi hj CN e
      have CO:i<pa.size:=by simpa using hi
      have Er:j<pa.size:=by simpa using hj
      have:=P.nd i j (by rw[<- P.sz];exact CO) (by rw[<- P.sz];exact Er) (by rw[Srt.aV,Srt.aV];simpa[CO,Er]using e)
      omega
     .rw[aeN,acR]
      intro i j hi hj CN
      have CO:i<pa.size:=by simpa using hi
      have Er:j<pa.size:=by simpa using hj
      have:=As i j CN (by rw[<- P.sz];exact Er)
      rw[Srt.aV,Srt.aV]at this
      have:=of_decide_eq_true this
      simpa[CO,Er]using this
theorem qt:zg X (.builtin "sorted") (KA X.K):=by
 intro pins s σ H xs us Q I r h
 obtain⟨p,vs,nm,rfl,hq,Ci,R,k⟩:=h
 obtain⟨u,rfl,ru⟩:=r.one
 cases ru
 obtain⟨eQ,rv,pl,hz⟩:=I.list hq
 refine qK (λR' g=>collect_list pl.isList (g _ s.toks λb o e=>?_) (by rw[<- rv.length];exact hz)) λh1 tk kk=>tf (I.kept kk) rv (by rw[<- rv.length];exact hz) Ci R k
 have hb:b<s.heap.objs.size:=aak e
 rw[aem _ _ _ _ (aav hb)]
 exact aac _ e
section
open PySem.SeqAt
open PySem.AutoSeq1 (wpAny_loadPart')
open PySem.MeetsSeq PySem.MeetsSeq2 PySem.MeetsSeq3
end
def D7(K:aag):R2:=λx y H Q=>∃a b xs,x=.ref a/\y=.ref b/\An K H a xs/\An K H b []/\Q (.bl (!xs.isEmpty)) H
theorem jh(hu:X.A.units<cLine):zH X (aaE .NotEq) (D7 X.K):=by
 intro pins s σ H x y v u Q I rx ry h
 obtain⟨a,b,xs,rfl,rfl,ha,hb,q⟩:=h
 cases rx
 cases ry
 obtain⟨eQ,r1,p1,_⟩:=I.list ha
 obtain⟨zU,r2,p2,_⟩:=I.list hb
 cases r2
 have fin:∀k,k=(!xs.isEmpty)->EP X pins σ Q (.bool k) s:=λk e=>by subst e;exact⟨.bl _,H,I,rfl,q⟩
 cases r1 with
 |nil=>exact SeqAt.RcNeAt.lists (e:=λ_=>true) p1.isList p2.isList rfl hu (λj h1 h2=>absurd h1 (by simp)) X.prog X.w X.xe _ (fin _ rfl)
 |cons _ _=>exact SeqAt.RcNeAt.lists_lengths p1.isList p2.isList (by simp) hu X.prog X.w X.xe _ (fin _ rfl)
def C0(x:Str)(n:Nat):Str:=⟨(aaF n x.cps.toList).flatten.toArray⟩
def Jy:R2:=λx y H Q=>∃(z:Str) (i:Int),x=.str z/\y=.int i/\0<=i/\i<=1000/\z.length<=1000/\Q (.str (C0 z i.toNat)) H
theorem lJ(x:Array Nat):∀(n:Nat) (acc:Array Nat),((aaF n x).foldl (·++·) acc)=acc++(aaF n x.toList).flatten.toArray
 |0,acc=>by simp
 |n+1,acc=>by
  rw[aa8,ad6,lJ x n,aa8,ab6]
  apply Array.toList_inj.mp
  simp
theorem u5(x:Str)(i:Int)(h:0<=i):Txt.mul x i=C0 x i.toNat:=by
 unfold Txt.mul C0
 by_cases h1:i<1
 .have:i=0:=by omega
  subst this
  rfl
 .rw[if_neg h1]
  by_cases h2:(i==1 || x.length==0)=true
  .rw[if_pos h2]
   rw[acG]at h2
   obtain⟨x⟩:=x
   rcases h2 with z|z
   .have:i=1:=by simpa using z
    subst this
    congr 1
    apply Array.toList_inj.mp
    simp
   .have hz:x.size=0:=by simpa[aeI]using z
    have:x=#[]:=Array.eq_empty_of_size_eq_zero hz
    subst this
    congr 1
    apply Array.toList_inj.mp
    simp
  .rw[if_neg h2,lJ]
   congr 1
   simp
theorem vK:zH X (acq .Mult) Jy:=by
 intro pins s σ H x y v u Q I rx ry h
 obtain⟨z,i,rfl,rfl,h0,h1,h2,q⟩:=h
 obtain⟨t,rfl⟩:=rx
 obtain⟨t',rfl⟩:=ry
 refine SB.mul ⟨?_,λ_ _ hh=>?_,λ_ _=>?_⟩ λt2 k=>?_
 .rw[decide_eq_false (by omega),decide_eq_false (by omega)];rfl
 .have:((2:Int) ^ 63 - 1) / i ≥ 2 ^ 50:=by
   apply (Int.le_ediv_iff_mul_le (by omega)).mpr
   have:(2:Int) ^ 50*i<=2 ^ 50*1000:=ae6 h1 (by decide)
   have e:(2:Int) ^ 50*1000<=2 ^ 63 - 1:=by decide
   omega
  have e:(2:Int) ^ 50 > 1000:=by decide
  omega
 .have:z.length*i.toNat<=1000*1000:=Nat.mul_le_mul h2 (by omega)
  refine decide_eq_false ?_
  rw[aaG]
  omega
 .rw[u5 z i h0]
  exact⟨.str (C0 z i.toNat),H,I.tok k,⟨_,rfl⟩,q⟩
def MO(K:aag):List V->Hp->VK->Prop:=λxs H Q=>∃x t c b,xs=[x,.ty c]/\CF K H x t/\aeg K t (.type c)=some b/\Q (.bl b) H
theorem uG:zg X (.builtin "isinstance") (MO X.K):=by
 intro pins s σ H xs us Q I r h
 obtain⟨x,t,c,b,rfl,ty,e,q⟩:=h
 cases r with
 |cons r1 r2=>
  cases r2 with
  |cons r2 r3=>
   cases r3
   cases r2
   exact rX I r1 ty e λtk=>⟨.bl b,H,I.tok tk,rfl,q⟩
def Py(wi:TI)(g:TG)(tc:TT)(tk te:TE)(js:List (Option Nat)):TE:=λσ H Q=>wi σ H λJ H1=>∀l,H1 l=none ->
 ∃W:Nat->Nat->List (Key×V)->Hp->Prop,(∃m,W 0 m [] (upd H1 l (.dK [])))/\∀i m ys H2,W i m ys H2 ->
  (J.stop i H2/\Q (.ref l) H2)\/(J.go i H2/\∀x H3,J.yld i H2 x H3->g x (zE js σ) H3 λσ4 H4=>tc σ4 H4 λb H5=>
   if b=true then tk σ4 H5 λkk H6=>te σ4 H6 λy H7=>∃key,kk=kV key/\H7 l=some (.dK ys)/\ys.length<sizeLine/\∃m',m'<m/\W (i+1) m' (putK ys key y) (upd H7 l (.dK (putK ys key y)))else ∃m',m'<m/\W (i+1) m' ys H5)
variable{tg kx vx iter:Expr}{ifs:List Expr}{scope:Scope}{pos:Pos}{wi:TI}{g:TG}{tc:TT}{tk te:TE}{N:List Str}{js:List (Option Nat)}
variable{pos':Pos}
theorem pG{use:Option (Value->Sem Unit)}{Q:VK}{QQ:Value->Shared->Prop}(hc:X.calm=true)(hx:X.xe=λ_ _=>False)(hi:PI X tg iter wi)
  (hg:∀C s₀ H₀ ex pn,PG (yT X scope N C s₀ H₀ ex pn) tg g) (ht:∀C s₀ H₀ ex pn,PF (yT X scope N C s₀ H₀ ex pn) ifs tc) (hk:∀C s₀ H₀ ex pn,PE (yT X scope N C s₀ H₀ ex pn) kx tk) (he:∀C s₀ H₀ ex pn,PE (yT X scope N C s₀ H₀ ex pn) vx te) (HQ:BO js g)
  (Cg:Cm X.env scope=true) (zV:AI X.N scope N js=true) (zo:scope.kind=.function) (hs:∀x,aa4 iter X.env x=pure x)
  (I:Inv X pins σ H s) (h:Py wi g tc tk te js σ H Q)
  (fin:∀(l C:Addr) (H':Hp) (s':Shared),Inv X pins σ H' s'->Q (.ref l) H'->H' C=none->C≠X.env.locals->X.s₀.heap.objs.size<=C->(∀x c,X.env.cells.lookup x=some c->c≠C)->(∀p∈X.pn++pins,p.1≠C)->(∃m,s'.heap.Ns C m)->ae7 (model X.prog X.w) X.A E use QQ (.ref l) C (.ok .next) s') :
  wpAny (model X.prog X.w) X.A (adP (.DictComp kx vx [⟨tg,iter,ifs,0⟩] scope pos) scope X.env pos' newDict false (eval iter X.env) use) QQ E s:=by
 have SC:=oO Cg
 have CP:=nO zV
 refine wpAny_comprehension_free (cl:=Bj X.env.cells scope.names []) rfl hs (gv (SC.cells I.ok)) zo SC.lc ?_
 refine aaT (hi pins s σ H _ I h) (λv s1 h1=>aaT h1 (λOB s2 h2=>?_) (λ_ _ z=>by rw[hx]at z;exact z.elim)) (λ_ _ z=>by rw[hx]at z;exact z.elim)
 obtain⟨it,fp,tn,J,H2,rfl,I2,T,Kk,f2,hq⟩:=h2
 have Mh:H2 s2.heap.objs.size=none:=I2.y6.fresh (aal _)
 obtain⟨W,⟨m0,w0⟩,turn⟩:=hq s2.heap.objs.size Mh
 refine aaa (wpAny_alloc (aah (aed (λx hx=>SC.nc x hx) (by intro y hy;simp at hy) (λh₁ hns₁ hsb₁=>?_) zo)))
 dsimp only at hns₁ hsb₁ ⊢
 generalize Jb:s2.heap.push ({cls:=.type "dict",data:=.dict #[]}:Obj)=hp3 at hns₁ hsb₁ ⊢
 have NO:hp3.objs.size=s2.heap.objs.size+1:=by rw[<- Jb,abf]
 have I3:Inv X pins σ (upd H2 s2.heap.objs.size (.dK [])) {s2 with heap:=hp3}:=by
  rw[<- Jb]
  exact I2.laid (t':=s2.toks) (λb u e=>aac _ e) (aal _) (nJ s2.heap I2.OV)
 have keep:∀b o,hp3.get? b=some o->h₁.get? b=some o:=λb o e=>hsb₁.extBut b o (aav (aak e)) (aac _ e)
 have Lm:∀b∈fp,b<s2.heap.objs.size:=λb hb=>by
  obtain⟨o,e,_⟩:=T.obj _ _ Kk b hb
  exact aak e
 have f3:∀b∈fp,BG X pins (upd H2 s2.heap.objs.size (.dK [])) b:=λb hb=>⟨by rw[ag (aav (Lm b hb))];exact(f2 b hb).1,(f2 b hb).2⟩
 have J4:=m6 (tk:=s2.toks+([]:List (Str×Value)).length) (C:=hp3.objs.size) (fp:=fp) (h₁:=h₁) (scope:=scope) (N:=N) (js:=js) I3 SC CP zo f3 (λb hb=>by show b<hp3.objs.size;rw[NO];exact abe (Lm b hb)) rfl keep (by
  have:(λx=>adk x ([]:List (Str×Value)).reverse)=λ_=>none:=by funext x;rfl
  rw[this]at hns₁;exact hns₁)
 have MD:tn 0 h₁:=T.keep _ _ _ Kk λb hb o e=>keep b o (by rw[<- Jb];exact aac _ e)
 have loop:∀s4:Shared,s4={s2 with heap:=h₁,toks:=s2.toks+([]:List (Str×Value)).length} ->
   ads (model X.prog X.w) X.A (.compLoop (.DictComp kx vx [⟨tg,iter,ifs,0⟩] scope pos) 0 (.ref it) (.ref s2.heap.objs.size) (compEnvC scope (Bj X.env.cells scope.names []) hp3.objs.size X.env)) (ae7 (model X.prog X.w) X.A E use QQ (.ref s2.heap.objs.size) hp3.objs.size) s4:=by
  rintro s4 rfl
  generalize hY:yT X scope N hp3.objs.size {s2 with heap:=hp3} (upd H2 s2.heap.objs.size (.dK [])) fp (X.pn++pins)=Y at J4
  have Ln:∀{H':Hp},(∀b∈fp,H' b=none)->∀b∈fp,BG Y [] H' b:=λhn b hb=>by
   subst hY
   refine⟨hn b hb,?_,?_,.inl hb,λx c e=>?_,λp hp=>?_⟩
   .show b≠hp3.objs.size
    rw[NO];exact aav (abe (Lm b hb))
   .intro z
    rcases List.mem_cons.mp (I3.Ck b z)with q|q
    .exact(f3 b hb).2.1 q
    .exact(f3 b hb).2.2.1 q
   .exact(f3 b hb).2.2.2.2.1 x c (dY (SC.cells I.ok) (λc e=>by simp at e) e)
   .exact(f3 b hb).2.2.2.2.2 p (by simpa[yT]using hp)
  have QP:PG Y tg g:=by subst hY;exact hg _ _ _ _ _
  have Qy:PF Y ifs tc:=by subst hY;exact ht _ _ _ _ _
  have Ub:PE Y kx tk:=by subst hY;exact hk _ _ _ _ _
  have QT:PE Y vx te:=by subst hY;exact he _ _ _ _ _
  have eA:Y.A=X.A:=by subst hY;rfl
  have eP:Y.prog=X.prog:=by subst hY;rfl
  have eW:Y.w=X.w:=by subst hY;rfl
  have eK:Y.K=X.K:=by subst hY;rfl
  have eC:Y.calm=true:=by subst hY;exact hc
  have eX:Y.xe=λ_ _=>False:=by subst hY;rfl
  have eE:Y.env=compEnvC scope (Bj X.env.cells scope.names []) hp3.objs.size X.env:=by subst hY;rfl
  have T':Turn Y.prog Y.w Y.K tg J fp it tn:=by rw[eP,eW,eK];exact T
  have eL:(zE js σ).length=js.length:=by unfold zE;rw[aae]
  rw[<- eP,<- eW,<- eA,<- eE]
  refine codeAny_loop rfl (λn s'=>∃i ys H',Inv Y [] (zE js σ) H' s'/\tn i s'.heap/\(∀b∈fp,H' b=none)/\W i n ys H') (λn s' hI=>?_) m0 ⟨0,[],_,J4,MD,λb hb=>(f3 b hb).1,w0⟩
  obtain⟨i,ys,H5,I5,Iz,Ll,w5⟩:=hI
  show wpAny _ Y.A ((compTurn (.DictComp kx vx [⟨tg,iter,ifs,0⟩] scope pos) 0 (.ref it) (.ref s2.heap.objs.size) Y.env).onRaise (λx=>do noteFrame x Y.env;theTreesLotGoes x)) _ _ s'
  refine wpAny_noted ?_
  rw[compTurn_dict]
  refine aaa (acH (aaa ?_))
  have Fq:∀(x:Value) (s:Shared) (P:Prop),Y.xe x s->P:=λx s P z=>by rw[eX]at z;exact z.elim
  rcases turn i n ys H5 w5 with ⟨stop,qn⟩|⟨go,step⟩
  .refine aaT (T'.done Y rfl rfl rfl eC i [] s' _ H5 Y.xe I5 (Ln Ll) Iz stop) (λr s6 ⟨hr,I6⟩=>?_) λx s z=>Fq x s _ z
   subst hr
   refine aah ?_
   show ae7 _ _ _ _ _ _ _ _ _
   rw[eP,eW,eA]
   have back:Inv X pins σ H5 s6:=by subst hY;exact m7 I3 I6 f3
   have IW:∃m,s6.heap.Ns hp3.objs.size m:=by
    obtain⟨m,hm,_⟩:=I6.loc
    have:Y.env.locals=hp3.objs.size:=by rw[eE];rfl
    rw[this]at hm
    exact⟨m,hm⟩
   have Q8:H5 hp3.objs.size=none:=by
    have:=I6.free
    have e:Y.env.locals=hp3.objs.size:=by rw[eE];rfl
    rw[e]at this;exact this
   refine fin s2.heap.objs.size hp3.objs.size H5 s6 back qn Q8 ?_ ?_ ?_ ?_ IW
   .exact ab5 I3.lt
   .exact I3.sz
   .intro x c e z
    obtain⟨v,o,ho,_⟩:=I3.cell x c e
    exact absurd (aak ho) (by rw[z];exact abi _)
   .intro p hp z
    have:=aak (I3.pin p hp).1
    rw[z]at this;exact absurd this (abi _)
  .refine aaT (T'.item Y rfl rfl rfl eC i [] s' _ H5 Y.xe I5 (Ln Ll) Iz go) (λr s6 h6=>?_) λx s z=>Fq x s _ z
   obtain⟨u,hr,h6⟩:=h6
   subst hr
   dsimp only
   refine aaa ?_
   refine aaT h6 (λ_ s7 h7=>?_) λx s z=>Fq x s _ z
   obtain⟨x,H7,I7,r7,y7,Kj,Rc⟩:=h7
   have RA:=I7.pinned (Ln Rc) (T.obj _ _ Kj)
   have g7:=HQ x (zE js σ) H7 _ (step x H7 y7)
   refine aaa ?_
   refine aaT (QP _ s7 (zE js σ) H7 x u _ RA r7 g7) (λ_ s8 h8=>?_) λx s z=>Fq x s _ z
   obtain⟨σ8,H8,I8,q8,l8,k8⟩:=h8
   refine aaa ?_
   refine aaT (Qy _ s8 σ8 H8 _ I8 q8) (λb s9 h9=>?_) λx s z=>Fq x s _ z
   obtain⟨H9,I9,q9⟩:=h9
   have again:∀{s':Shared} {H':Hp},Inv Y ([]++Co fp s7.heap) σ8 H' s'->Inv Y [] (zE js σ) H' s'/\tn (i+1) s'.heap/\∀b∈fp,H' b=none:=λ{s' H'} I'=>by
    refine⟨(I'.Bm).weak l8.symm λk v e=>?_,T.keep _ _ _ Kj λb hb o e=>(I'.pin (b,o) (aay _ (aay _ (bS hb e)))).1,λb hb=>?_⟩
    .cases ej:js[k]? with
     |none=>
      unfold zE at e
      rw[aaj,ej]at e;cases e
     |some o=>
      cases o with
      |none=>
       unfold zE at e
       rw[aaj,ej]at e;cases e
      |some j=>rw[k8 k j ej];exact e
    .obtain⟨o,e,d⟩:=T.obj _ _ Kj b hb
     exact(I'.pin (b,o) (aay _ (aay _ (bS hb e)))).2.1
   cases b with
   |false=>
    rw[if_neg aaB]at q9
    obtain⟨m',hm,w9⟩:=q9
    obtain⟨a1,a2,a3⟩:=again I9
    exact aah ⟨rfl,m',hm,i+1,ys,H9,a1,a2,a3,w9⟩
   |true=>
    rw[if_pos rfl]at q9
    refine aaa (aaa ?_)
    refine aaT (Ub _ s9 σ8 H9 _ I9 q9) (λkv PJ Rb=>?_) λx s z=>Fq x s _ z
    obtain⟨kk,O2,RB,PY,Tj⟩:=Rb
    refine aaa (aaU ?_)
    refine aaT (QT _ PJ σ8 O2 _ RB Tj) (λvv Om Ra=>?_) λx s z=>Fq x s _ z
    obtain⟨yv,SN,O1,Th,key,ek,OR,z11,m',hm,SX⟩:=Ra
    subst ek
    refine aaa (acH (aaU ?_))
    obtain⟨zz,hd,vs,rel,dd⟩:=jS O1.y6 OR
    have hz:vs.length<=sizeLine:=by rw[<- rel.length];exact zz
    have hl:(putK ys key yv).length<=sizeLine:=by have:=cN ys key yv;omega
    refine wpAny_dictSet_pairs (hsz:=hz) (eu PY) dd λh' Ir hs=>?_
    have he:∃q,h'.get? s2.heap.objs.size=some q:=let ⟨q,_,_,hq,_⟩:=Ir;⟨q,hq⟩
    have Vl:Inv Y _ σ8 (upd SN s2.heap.objs.size (.dK (putK ys key yv))) {Om with heap:=h',toks:=Om.toks+1}:=im (t':=Om.toks+1) O1 (by rw[OR];exact acw) hs he (nI hl hd (rel.put key Th) Ir)
    obtain⟨a1,a2,a3⟩:=again Vl
    exact aah ⟨rfl,m',hm,i+1,putK ys key yv,_,a1,a2,a3,SX⟩
 exact codeAny_compStart_dict (loop _ rfl) (T.self X.A 0 _ _ _ MD (loop _ rfl))
theorem yC(hi:PI X tg iter wi)(hg:∀C s₀ H₀ ex pn,PG (yT X scope N C s₀ H₀ ex pn) tg g)(ht:∀C s₀ H₀ ex pn,PF (yT X scope N C s₀ H₀ ex pn) ifs tc)(hk:∀C s₀ H₀ ex pn,PE (yT X scope N C s₀ H₀ ex pn) kx tk)(he:∀C s₀ H₀ ex pn,PE (yT X scope N C s₀ H₀ ex pn) vx te)(HQ:BO js g)
  (hc:X.calm=true:=by rfl) (hx:X.xe=(λ_ _=>False):=by rfl) (Cg:Cm X.env scope=true:=by rfl) (zV:AI X.N scope N js=true:=by rfl) (zo:scope.kind=.function:=by rfl) (hs:∀x,aa4 iter X.env x=pure x:=by intro _;rfl) :
  PE X (.DictComp kx vx [⟨tg,iter,ifs,0⟩] scope pos) (Py wi g tc tk te js):=by
 intro pins s σ H Q I h
 show wpAny _ X.A (adP (.DictComp kx vx [⟨tg,iter,ifs,0⟩] scope pos) scope X.env _ newDict false (eval iter X.env)) _ _ s
 refine pG (use:=none) hc hx hi hg ht hk he HQ Cg zV zo hs I h λl C H' s' I' q f0 f1 f2 f3 f4 ⟨m,hm⟩=>?_
 refine⟨m,hm,λh' sb=>⟨.ref l,H',?_,rfl,q⟩⟩
 exact I'.turned (t':=s'.toks) (it:=C) (λb o hb e=>sb.extBut b o hb e) f0 f1 (.inr f2) f3 f4
variable{i:Nat}{y:Str}{py:Pos}
theorem uP{Ac:Pos}(hN:X.N.Nodup)(hy:X.N[i]?=some y)(hl:X.env.scope.names.lookup y=some .local)(hi:PI X tg iter wi)(hg:∀C s₀ H₀ ex pn,PG (yT X scope N C s₀ H₀ ex pn) tg g)(ht:∀C s₀ H₀ ex pn,PF (yT X scope N C s₀ H₀ ex pn) ifs tc)(hk:∀C s₀ H₀ ex pn,PE (yT X scope N C s₀ H₀ ex pn) kx tk)(he:∀C s₀ H₀ ex pn,PE (yT X scope N C s₀ H₀ ex pn) vx te)(HQ:BO js g)
  (HK:acl (.DictComp kx vx [⟨tg,iter,ifs,0⟩] scope pos) (some (.Name y py)) Ac.line X.env=pure true:=by rfl)
  (hc:X.calm=true:=by rfl) (hx:X.xe=(λ_ _=>False):=by rfl) (Cg:Cm X.env scope=true:=by rfl) (zV:AI X.N scope N js=true:=by rfl) (zo:scope.kind=.function:=by rfl) (hs:∀x,aa4 iter X.env x=pure x:=by intro _;rfl) :
  PS X (.Assign [.Name y py] (.DictComp kx vx [⟨tg,iter,ifs,0⟩] scope pos) Ac) (Ff (Py wi g tc tk te js) (AG i)):=by
 intro pins s σ H D I h
 rw[exec_Assign_Name_used _ _ _ _ HK]
 refine aaa (acH (aaa ?_))
 show wpAny _ X.A (do let _ <- adP (.DictComp kx vx [⟨tg,iter,ifs,0⟩] scope pos) scope X.env _ newDict false (eval iter X.env) (some (assign (.Name y py) X.env))) _ _ s
 refine aaa (aaT (pG (use:=some (assign (.Name y py) X.env)) (E:=X.xe) (QQ:=λ_ s'=>SP X pins D .next s') hc hx hi hg ht hk he HQ Cg zV zo hs I h λl C H' s' I' q f0 f1 f2 f3 f4 ⟨m,hm⟩=>?_) (λ_ s' hq=>aah (aah hq)) λ_ _ e=>e)
 show wpAny _ X.A (assign (.Name y py) X.env (.ref l)) _ _ _
 refine aeC (gD I' hN hy (.inl hl) (v:=.ref l) rfl (λKw RC ⟨a,sb,ha⟩=>?_) (.inr hl))
 have QX:C≠a:=by
  rcases ha with rfl|ha
  .exact f1
  .exact λz=>f3 _ _ ha z.symm
 refine⟨m,hm.sameBut sb QX,λh' PC=>⟨_,H',?_,q⟩⟩
 exact RC.turned (t':=Kw.toks) (it:=C) (λb o hb e=>PC.extBut b o hb e) f0 f1 (.inr f2) f3 f4
theorem e8:∀{bs:List Bool} {us:List Value},oF (bs.map V.bl) us->LSm.BoolsAre us bs
 |[],_,r=>by cases r;exact .nil
 |b::bs,_,r=>by
  cases r with
  |cons r1 r2=>cases r1;exact .cons b (e8 r2)
theorem cj(hc:X.calm=true):zg X (.builtin "all") (λxs H Q=>∃(p:Addr) (bs:List Bool),xs=[.ref p]/\An X.K H p (bs.map V.bl)/\Q (.bl (bs.all id)) H):=by
 intro pins s σ H xs us Q I r h
 obtain⟨p,bs,rfl,hq,q⟩:=h
 obtain⟨u,rfl,ru⟩:=r.one
 cases ru
 obtain⟨eQ,rv,pl,hz⟩:=I.list hq
 have hb:=e8 rv
 have hl:=pl.isList
 have zT:p<s.heap.objs.size:=by obtain⟨_,e,_⟩:=hl;exact aak e
 refine call_all_walk (acI hl ⟨s.heap.objs.size,[s.heap.objs.size,p],[s.heap.objs.size],eQ.toArray.size,_,_,λi=>(bs[i]?).getD true,rfl,
  Walks.list (A:=X.A.in1) (I.ok.hd hc) _ p (aav zT) eQ.toArray,⟨⟨_,aai _ rfl,rfl,rfl⟩,hl.push _⟩,λi v s' Q' E' hP hQ=>?_,λh' tk hk=>?_⟩)
 .obtain⟨b,eb,rfl⟩:=hb.get i v (by simpa using hP)
  simp only[eb,adR]at hQ
  exact abn hQ
 .have eb:((aaV eQ.toArray.size).all λi=>(bs[i]?).getD true)=bs.all id:=by
   rw[aaf,hb.length,LSm.range_all bs]
  rw[eb]
  exact⟨.bl (bs.all id),H,I.kept (LSm.kept_iter hk),rfl,q⟩
variable{j t:Addr}{n:Nat}
theorem ia{eQ:Array Value}(gj:s.heap.IsTupleIter j t n)(gt:s.heap.IsTuple t eQ)(gx:eQ[n]?=some x)
  (k:∀h',h'.IsTupleIter j t (n+1)->ad8 j s.heap h'->Q x {s with heap:=h'}):wpAny (model prog w) A (aba (.ref j)) Q E s:=by
 obtain⟨oj,j1,j2,j3⟩:=id gj
 obtain⟨ot,t1,_,m,t3⟩:=gt
 unfold aba
 refine aaa (aby (name:=aaz "__next__") gj.typeIs acO (abj acO gj.typeIs afp ?_ (ae9 _)))
 show wpAny _ _ (field (.ref j) 0 >>= _) _ _ s
 refine aaa (abv j1 j3 (x:=.ref t) rfl ?_)
 show wpAny _ _ (if (aau t==.none)=true then _ else _) _ _ s
 rw[if_neg (show ¬ ((aau t==.none)=true)from aaB)]
 show wpAny _ _ (field (.ref j) 1 >>= _) _ _ s
 refine aaa (abv j1 j3 (x:=.int n 0) rfl ?_)
 refine aaa (m:=adz (.ref t)) (aa3 t1 t3 ?_)
 simp only[aeQ,gx]
 refine aaa (wpAny_setField j1 j3 (by simp) (aah ⟨x,rfl,aah (k _ ⟨_,Heap.get?_update_self _ j1 (Obj.isFreed_of_fields (Obj.data_mapFields j3 _)),(Obj.cls_mapFields ..).trans j2,?_⟩ (aaP ..))⟩))
 rw[Obj.data_mapFields j3]
 simp[rawInt]
theorem Eg{eQ:Array Value}(hh:A.handled=none)(gj:s.heap.IsTupleIter j t n)(gt:s.heap.IsTuple t eQ)(gx:eQ[n]?=none)
  (k:∀h' e,Heap.ExtBut j s.heap h'->(∃o,h'.get? e=some o/\o.cls=.type "StopIteration")->E (.ref e) {s with heap:=h'}):wpAny (model prog w) A (aba (.ref j)) Q E s:=by
 obtain⟨oj,j1,j2,j3⟩:=id gj
 obtain⟨ot,t1,_,m,t3⟩:=gt
 unfold aba
 refine aaa (aby (name:=aaz "__next__") gj.typeIs acO (abj acO gj.typeIs afp ?_ (ae9 _)))
 show wpAny _ _ (field (.ref j) 0 >>= _) _ _ s
 refine aaa (abv j1 j3 (x:=.ref t) rfl ?_)
 show wpAny _ _ (if (aau t==.none)=true then _ else _) _ _ s
 rw[if_neg (show ¬ ((aau t==.none)=true)from aaB)]
 show wpAny _ _ (field (.ref j) 1 >>= _) _ _ s
 refine aaa (abv j1 j3 (x:=.int n 0) rfl ?_)
 refine aaa (m:=adz (.ref t)) (aa3 t1 t3 ?_)
 simp only[aeQ,gx]
 refine aaa (ady (aaa (wpAny_setField j1 j3 (by simp) ?_)))
 refine aaa (m:=newExc (.type "StopIteration") []) ?_
 simp only[newExc,newTuple]
 refine aaa (abQ (aaa (m:=firstArgMember _ _) (wpAny_of_eq (a:=abh) (by first|rfl|(simp only[firstArgMember];rfl)) (abQ ?_ (by size_fits)))) (by size_fits))
 simp only[raiseNew]
 refine aaa (wpAny_handled ?_)
 first|rw[show A.in1.handled=none from hh]|rw[hh]
 exact aaa (aah (wpAny_throw (k _ _ (((aaP ..).extBut.push _).push _) ⟨_,aai _ rfl,rfl⟩)))
structure GX(h:Heap)(z u o i1 i2 t1 t2:Addr)(n:Nat):Prop where
 zz:IsZip h z u o .none
 uu:IsPair h u (.ref i1) (.ref i2)
 oo:∃a b,IsPair h o a b
 a1:h.IsTupleIter i1 t1 n
 a2:h.IsTupleIter i2 t2 n
structure Jo(z u o i1 i2:Addr):Prop where
 uz:u≠z
 oz:o≠z
 x1z:i1≠z
 x2z:i2≠z
 uo:u≠o
 u1:u≠i1
 u2:u≠i2
 o1:o≠i1
 o2:o≠i2
 xx:i1≠i2
theorem Ew{eQ:Array Value}(x:h.IsTuple a eQ)(k:∀o,h.get? a=some o->h'.get? a=some o):h'.IsTuple a eQ:=by
 obtain⟨o,e,r⟩:=x
 exact⟨o,k o e,r⟩
theorem AW(x:h.IsTupleIter a t n)(k:∀o,h.get? a=some o->h'.get? a=some o):h'.IsTupleIter a t n:=by
 obtain⟨o,e,r⟩:=x
 exact⟨o,k o e,r⟩
variable{z u:Addr}{v:Value}
theorem dn{o:Addr}{eQ:Array Value}(x:h.IsTuple t eQ)(y:IsZip h z u o v):t≠z:=by
 rintro rfl
 obtain⟨q,e,c,_⟩:=x
 rw[y]at e;cases e
 simp at c
variable{b:Addr}
theorem jt{eQ:Array Value}(x:h.IsTuple t eQ)(y:h.IsTupleIter j b n):t≠j:=by
 rintro rfl
 obtain⟨q,e,c,_⟩:=x
 obtain⟨q',e',c',_⟩:=y
 rw[e]at e';cases e'
 rw[c]at c'
 simp at c'
variable{i1 i2 t1 t2:Addr}{ys:Array Value}
theorem qy{o:Addr}{xs:Array Value}{y:Value}{Q:Option Value->Shared->Prop}(D:Jo z u o i1 i2)(Z:GX s.heap z u o i1 i2 t1 t2 n)(KY:t1≠o)(Dq:t2≠o)
  (g1:s.heap.IsTuple t1 xs) (g2:s.heap.IsTuple t2 ys) (e1:xs[n]?=some x) (e2:ys[n]?=some y)
  (k:∀h',IsZip h' z u o (rawInt s.heap.objs.size)->IsPair h' u (.ref i1) (.ref i2)->IsPair h' o x y->h'.IsTupleIter i1 t1 (n+1)->h'.IsTupleIter i2 t2 (n+1)->IsPair h' s.heap.objs.size x y->h'.objs.size=s.heap.objs.size+1 ->
   (∀c q,c∉[z,o,i1,i2]->s.heap.get? c=some q->h'.get? c=some q)->Q (some (.ref s.heap.objs.size)) {s with heap:=h'}) :
  wpAny (model prog w) A (pyNext (.ref z)) Q E s:=by
 obtain⟨zz,uu,⟨a,b,oo⟩,a1,a2⟩:=Z
 have z1:=dn g1 zz
 have z2:=dn g2 zz
 have GG:s.TypeIs (.ref z) "zip" := ⟨_,zz,rfl⟩
 unfold pyNext
 refine aaa (aep (aby (name:=aaz "__next__") GG aea (abj aea GG F.entry_zip_next ?_ (F.args_zip_next_1 _))))
 refine aaa (m:=field (.ref z) 2) (abv zz rfl (x:=.bool false) rfl ?_)
 refine aaa (m:=field (.ref z) 3) (abv zz rfl (x:=.ref u) rfl ?_)
 refine aaa (aa3 uu rfl ?_)
 refine aaa (m:=ab9 (.ref z)) ?_
 unfold ab9
 refine aaa (abv zz rfl (x:=.none) rfl (aah ?_))
 simp only[if_true]
 refine aaa (ady (aaa (abv zz rfl (x:=.ref o) rfl (aaa (acA zz (by simp) λp1 q1 k1=>?_)))))
 replace q1:IsZip p1 z u o .ellipsis:=q1
 refine aaa ?_
 simp only[List.zipIdx_cons,List.zipIdx_nil,afn,List.forIn_nil]
 refine aaa (aaa (aeo ?_))
 refine aaa (m:=aba (.ref i1)) (ia (AW a1 λq e=>k1.extBut _ _ D.x1z e) (Ew g1 λq e=>k1.extBut _ _ z1 e) e1 λp2 q2 k2=>aah ?_)
 have r2:IsPair p2 o a b:=k2.extBut _ _ D.o1 (k1.extBut _ _ D.oz oo)
 refine aaa (aa3 r2 rfl (aaa (aec r2 λp3 q3 k3=>?_)))
 replace q3:IsPair p3 o x b:=q3
 refine aaa (abK (aah (aaa (aaa (aeo ?_)))))
 refine aaa (m:=aba (.ref i2)) (ia (AW a2 λq e=>k3.extBut _ _ D.o2.symm (k2.extBut _ _ D.xx.symm (k1.extBut _ _ D.x2z e)))
  (Ew g2 λq e=>k3.extBut _ _ Dq (k2.extBut _ _ (jt g2 a1) (k1.extBut _ _ z2 e))) e2 λp4 q4 k4=>aah ?_)
 have r4:IsPair p4 o x b:=k4.extBut _ _ D.o2 q3
 refine aaa (aa3 r4 rfl (aaa (aec r4 λp5 q5 k5=>?_)))
 replace q5:IsPair p5 o x y:=q5
 refine aaa (abK (aah (aah ?_)))
 refine aaa (aa3 q5 rfl (aaa (afr ?_)))
 have sz:p5.objs.size=s.heap.objs.size:=by rw[k5.1,k4.1,k3.1,k2.1,k1.1]
 have NV:∀c q,c≠z->c≠o->c≠i1->c≠i2->s.heap.get? c=some q->p5.get? c=some q:=λc q c1 c2 c3 c4 e=>k5.extBut _ _ c2 (k4.extBut _ _ c4 (k3.extBut _ _ c2 (k2.extBut _ _ c3 (k1.extBut _ _ c1 e))))
 have z5:IsZip p5 z u o .ellipsis:=k5.extBut _ _ D.oz.symm (k4.extBut _ _ D.x2z.symm (k3.extBut _ _ D.oz.symm (k2.extBut _ _ D.x1z.symm q1)))
 have b1:p5.IsTupleIter i1 t1 (n+1):=AW q2 λq e=>k5.extBut _ _ D.o1.symm (k4.extBut _ _ D.xx (k3.extBut _ _ D.o1.symm e))
 have b2:p5.IsTupleIter i2 t2 (n+1):=AW q4 λq e=>k5.extBut _ _ D.o2.symm e
 refine aaa (m:=aei (.ref z) (.ref p5.objs.size)) ?_
 unfold aei
 have z6:IsZip (p5.push {cls:=.type "tuple",data:=.seq #[x,y]}) z u o .ellipsis:=aac _ z5
 refine aaa (acA z6 (by simp) λp7 q7 k7=>?_)
 replace q7:IsZip p7 z u o (rawInt p5.objs.size):=q7
 refine acA q7 (by simp) λp8 q8 k8=>?_
 replace q8:IsZip p8 z u o (rawInt p5.objs.size):=q8
 have up:∀c q,c≠z->p5.get? c=some q->p8.get? c=some q:=λc q c1 e=>k8.extBut _ _ c1 (k7.extBut _ _ c1 (aac _ e))
 have RJ:p5.objs.size≠z:=ab5 (aak z5)
 have M4:IsPair p8 p5.objs.size x y:=k8.extBut _ _ RJ (k7.extBut _ _ RJ (aai _ rfl))
 have s8:p8.objs.size=p5.objs.size+1:=by rw[k8.1,k7.1,abf]
 rw[sz]at q8 M4 s8
 refine aah ⟨_,rfl,aah ?_⟩
 show Q (some (.ref p5.objs.size)) _
 rw[sz]
 exact k p8 q8 (up _ _ D.uz (NV _ _ D.uz D.uo D.u1 D.u2 uu)) (up _ _ D.oz q5) (AW b1 λq e=>up _ _ D.x1z e) (AW b2 λq e=>up _ _ D.x2z e) M4 s8 λc q hc e=>by
  simp only[aaZ,aa1,or_false,not_or]at hc
  exact up c q hc.1 (NV c q hc.1 hc.2.1 hc.2.2.1 hc.2.2.2 e)
theorem sT{o:Addr}{xs:Array Value}{Q:Option Value->Shared->Prop}(hh:A.handled=none)(D:Jo z u o i1 i2)(Z:GX s.heap z u o i1 i2 t1 t2 n)(KY:t1≠o)(Dq:t2≠o)
  (g1:s.heap.IsTuple t1 xs) (g2:s.heap.IsTuple t2 ys) (e:xs[n]?=none\/ys[n]?=none)
  (k:∀h',(∀c q,c∉[z,o,i1,i2]->s.heap.get? c=some q->h'.get? c=some q)->Q none {s with heap:=h'}) :
  wpAny (model prog w) A (pyNext (.ref z)) Q E s:=by
 obtain⟨zz,uu,⟨a,b,oo⟩,a1,a2⟩:=Z
 have z1:=dn g1 zz
 have z2:=dn g2 zz
 have GG:s.TypeIs (.ref z) "zip" := ⟨_,zz,rfl⟩
 unfold pyNext
 have fin:∀(h':Heap) (x:Addr),(∀c q,c∉[z,o,i1,i2]->s.heap.get? c=some q->h'.get? c=some q)->(∃q,h'.get? x=some q/\q.cls=.type "StopIteration") ->
   wpAny (model prog w) A (do if (<- isInstance (.ref x) (.type "StopIteration"))then pure none else throw (.ref x)) Q E {s with heap:=h'}:=λh' x kk ⟨q,hq,hc⟩=>
  aaa (wpAny_isInstance (T := "StopIteration") (b:=true) ⟨q,hq,hc⟩ isSubtype_stop (aah (k _ kk)))
 refine aaa (aep (aby (name:=aaz "__next__") GG aea (abj aea GG F.entry_zip_next ?_ (F.args_zip_next_1 _))))
 refine aaa (m:=field (.ref z) 2) (abv zz rfl (x:=.bool false) rfl ?_)
 refine aaa (m:=field (.ref z) 3) (abv zz rfl (x:=.ref u) rfl ?_)
 refine aaa (aa3 uu rfl ?_)
 refine aaa (m:=ab9 (.ref z)) ?_
 unfold ab9
 refine aaa (abv zz rfl (x:=.none) rfl (aah ?_))
 simp only[if_true]
 refine aaa (ady (aaa (abv zz rfl (x:=.ref o) rfl (aaa (acA zz (by simp) λp1 q1 k1=>?_)))))
 replace q1:IsZip p1 z u o .ellipsis:=q1
 refine aaa ?_
 simp only[List.zipIdx_cons,List.zipIdx_nil,afn,List.forIn_nil]
 refine aaa (aaa (aeo ?_))
 cases e1:xs[n]? with
 |none=>
  refine aaa (m:=aba (.ref i1)) (Eg hh (AW a1 λq e=>k1.extBut _ _ D.x1z e) (Ew g1 λq e=>k1.extBut _ _ z1 e) e1 λp2 x k2 ⟨ox,x1,x2⟩=>?_)
  have q2:IsZip p2 z u o .ellipsis:=k2 _ _ D.x1z.symm q1
  have xz:x≠z:=λq=>by subst q;rw[q2]at x1;cases x1;simp at x2
  refine acA q2 (by simp) λp3 _ k3=>fin p3 x (λc q hc e=>?_) ⟨ox,k3.extBut _ _ xz x1,x2⟩
  simp only[aaZ,aa1,or_false,not_or]at hc
  exact k3.extBut _ _ hc.1 (k2 _ _ hc.2.2.1 (k1.extBut _ _ hc.1 e))
 |some x0=>
  have e2:ys[n]?=none:=by rcases e with h|h;rw[e1]at h;cases h;exact h
  refine aaa (m:=aba (.ref i1)) (ia (AW a1 λq e=>k1.extBut _ _ D.x1z e) (Ew g1 λq e=>k1.extBut _ _ z1 e) e1 λp2 q2 k2=>aah ?_)
  have r2:IsPair p2 o a b:=k2.extBut _ _ D.o1 (k1.extBut _ _ D.oz oo)
  refine aaa (aa3 r2 rfl (aaa (aec r2 λp3 q3 k3=>?_)))
  refine aaa (abK (aah (aaa (aaa (aeo ?_)))))
  refine aaa (m:=aba (.ref i2)) (Eg hh (AW a2 λq e=>k3.extBut _ _ D.o2.symm (k2.extBut _ _ D.xx.symm (k1.extBut _ _ D.x2z e)))
   (Ew g2 λq e=>k3.extBut _ _ Dq (k2.extBut _ _ (jt g2 a1) (k1.extBut _ _ z2 e))) e2 λp4 x k4 ⟨ox,x1,x2⟩=>?_)
  have q4:IsZip p4 z u o .ellipsis:=k4 _ _ D.x2z.symm (k3.extBut _ _ D.oz.symm (k2.extBut _ _ D.x1z.symm q1))
  have xz:x≠z:=λq=>by subst q;rw[q4]at x1;cases x1;simp at x2
  refine acA q4 (by simp) λp5 _ k5=>fin p5 x (λc q hc e=>?_) ⟨ox,k5.extBut _ _ xz x1,x2⟩
  simp only[aaZ,aa1,or_false,not_or]at hc
  exact k5.extBut _ _ hc.1 (k4 _ _ hc.2.2.2 (k3.extBut _ _ hc.2.1 (k2.extBut _ _ hc.2.2.1 (k1.extBut _ _ hc.1 e))))
abbrev Od(h:Heap)(t1:Addr):Heap:=h.push {cls:=.type "tuple_iterator",data:=.fields #[.ref t1,.int 0 0]}
abbrev Oc(h:Heap)(t1 t2:Addr):Heap:=(Od h t1).push {cls:=.type "tuple_iterator",data:=.fields #[.ref t2,.int 0 0]}
abbrev Ob(h:Heap)(t1 t2:Addr):Heap:=(Oc h t1 t2).push {cls:=.type "tuple",data:=.seq #[.ref h.objs.size,.ref (Od h t1).objs.size]}
abbrev Oa(h:Heap)(t1 t2:Addr):Heap:=(Ob h t1 t2).push {cls:=.type "tuple",data:=.seq #[.none,.none]}
abbrev J2(h:Heap)(t1 t2:Addr):Heap:=(Oa h t1 t2).push {cls:=.type "zip",data:=.fields #[.none,.bool false,.bool false,.ref (Oc h t1 t2).objs.size,.ref (Ob h t1 t2).objs.size]}
theorem uc(t1 t2:Addr)(xs ys:Array Value):Meets (adx.«zip.__new__» ⟨[.type "zip",.ref t1,.ref t2],[]⟩)
  (λ_ R s=>s.heap.IsTuple t1 xs/\s.heap.IsTuple t2 ys/\R (.ok (.ret (.ref (Oa s.heap t1 t2).objs.size))) {s with heap:=J2 s.heap t1 t2}) :=
 .of_wp λprog w A R s q=>by
  obtain⟨hp,g,d,tk,os⟩:=s
  obtain⟨g1,g2,q⟩:=q
  have hs:=sub_zip
  have m1:Heap.IsTuple (Shared.heap ⟨hp,g,d,tk,os⟩) t1 xs:=g1
  have m2:Heap.IsTuple (Shared.heap ⟨hp.push {cls:=.type "tuple_iterator",data:=.fields #[.ref t1,.int 0 0]},g,d,tk,os⟩) t2 ys:=Heap.IsTuple.push g2 _
  wp_walk using abY m1,abY m2
  exact⟨_,rfl,q⟩
theorem wT{xs:Array Value}(g1:s.heap.IsTuple t1 xs)(g2:s.heap.IsTuple t2 ys)
  (k:∀h',GX h' (s.heap.objs.size+4) (s.heap.objs.size+2) (s.heap.objs.size+3) s.heap.objs.size (s.heap.objs.size+1) t1 t2 0->h'.objs.size=s.heap.objs.size+5->(∀c o,s.heap.get? c=some o->h'.get? c=some o)->Q (.ref (s.heap.objs.size+4)) {s with heap:=h'}) :
  wpAny (model prog w) A (call (.type "zip") [.ref t1,.ref t2]) Q E s:=by
 refine callType_new F.called_zip (by decide) (F.typeCall_zip_2 _ _) (F.newCall_zip_2 _ _) (λobj=>F.args_object_init_3 obj _ _) F.entry_zip_new (uc t1 t2 xs ys) ⟨g1,g2,?_⟩
 have z1:(Od s.heap t1).objs.size=s.heap.objs.size+1:=abf ..
 have z2:(Oc s.heap t1 t2).objs.size=s.heap.objs.size+2:=by rw[abf,z1]
 have z3:(Ob s.heap t1 t2).objs.size=s.heap.objs.size+3:=by rw[abf,z2]
 have z4:(Oa s.heap t1 t2).objs.size=s.heap.objs.size+4:=by rw[abf,z3]
 have z5:(J2 s.heap t1 t2).objs.size=s.heap.objs.size+5:=by rw[abf,z4]
 have up:∀{h:Heap} {o o':Obj} {c:Addr},h.get? c=some o'->(h.push o).get? c=some o':=λe=>aac _ e
 have y5:(J2 s.heap t1 t2).get? (Oa s.heap t1 t2).objs.size=some _:=aai _ rfl
 have y4:(J2 s.heap t1 t2).get? (Ob s.heap t1 t2).objs.size=some _:=up (aai _ rfl)
 have y3:(J2 s.heap t1 t2).get? (Oc s.heap t1 t2).objs.size=some _:=up (up (aai _ rfl))
 have y2:(J2 s.heap t1 t2).get? (Od s.heap t1).objs.size=some _:=up (up (up (aai _ rfl)))
 have y1:(J2 s.heap t1 t2).get? s.heap.objs.size=some _:=up (up (up (up (aai _ rfl))))
 show _/\_
 rw[z2,z3,z4]at y5
 rw[z1,z2]at y3
 rw[z3]at y4
 rw[z1]at y2
 rw[z4]
 exact⟨⟨_,y5,rfl⟩,k _ ⟨y5,y3,⟨_,_,y4⟩,⟨_,y1,rfl,rfl⟩,⟨_,y2,rfl,rfl⟩⟩ z5 λc o e=>up (up (up (up (up e))))⟩
variable{t':Nat}{fp:List Addr}
theorem Inv.By(I:Inv X pins σ H s)(k:∀b o,b∉fp->s.heap.get? b=some o->h'.get? b=some o)(hf:∀b∈fp,BG X pins H b):Inv X pins σ H {s with heap:=h',toks:=t'}:=by
 have M3:∀b u,H b=some u->b∉fp:=λb u e z=>by rw[(hf b z).1]at e;cases e
 refine I.step (g':=s.gens) (d':=s.drawn) (ch:=fp) (λb hb=>?_) (λb o _ _ hc e _=>k b o hc e) (λb o _ _ hc e _=>⟨o.slots,k b o hc e⟩) (λ_ _ _ _ n=>n)
  (λb o hc e=>⟨o,k b o hc e⟩) (λ_ _ e=>e) (λ_ _ _ e=>e) (λb ps e=>⟨#[],by rw[e];simp⟩) (λm hm=>?_) (λb u e=>?_) I.bare
 .obtain⟨f0,f1,f2,f3,f4,f5⟩:=hf b hb
  exact⟨f3,f1,f4,f5⟩
 .obtain⟨o,es,ep,ho,r⟩:=hm
  exact⟨o,es,ep,k _ o (λz=>(hf _ z).2.1 rfl) ho,r⟩
 .refine(I.y6 b u e).D4 (λc v hc q=>k c v ?_ q) (λ_ q=>q) λ_ _ q=>q
  rcases hc with z|z
  .rw[z];exact M3 b u e
  .exact M3 c _ z
def Rw(K:aag)(a b:Addr):It :=
 ⟨λi H=>∃xs ys x y,zW K H a xs/\zW K H b ys/\xs[i]?=some x/\ys[i]?=some y,
  λi H v H'=>∃p x y,v=.ref p/\H p=none/\H'=upd H p (.tup [x,y])/\∀xs ys,zW K H a xs->zW K H b ys->xs[i]?=some x/\ys[i]?=some y,
  λi H=>∃xs ys,zW K H a xs/\zW K H b ys/\(xs.length<=i\/ys.length<=i)⟩
theorem qx{o:Addr}(Z:GX h z u o i1 i2 t1 t2 n)(k:∀b∈[z,u,o,i1,i2],∀q,h.get? b=some q->h'.get? b=some q):GX h' z u o i1 i2 t1 t2 n:=by
 obtain⟨zz,uu,⟨a,b,oo⟩,a1,a2⟩:=Z
 exact⟨k z (by simp) _ zz,k u (by simp) _ uu,⟨a,b,k o (by simp) _ oo⟩,AW a1 λq e=>k i1 (by simp) q e,AW a2 λq e=>k i2 (by simp) q e⟩
variable{K:aag}{elts:List Expr}
theorem sW{x1:_}(a b z u o i1 i2:Addr)(D:Jo z u o i1 i2)(KY:a≠o)(Dq:b≠o):
  Turn P w K (.Tuple elts x1 pos) (Rw K a b) [z,u,o,i1,i2] z (λn h=>GX h z u o i1 i2 a b n) where
 mem:=by simp
 obj:=λn h Z c hc=>by
  obtain⟨zz,uu,⟨p,q,oo⟩,⟨o1,e1,c1,d1⟩,⟨o2,e2,c2,d2⟩⟩:=Z
  simp only[aaZ,aa1,or_false]at hc
  rcases hc with rfl|rfl|rfl|rfl|rfl
  .exact⟨_,zz,λv e=>(by cases (show abO _=aey v from e))⟩
  .exact⟨_,uu,λv e=>(by cases (show Data.seq _ _=aey v from e))⟩
  .exact⟨_,oo,λv e=>(by cases (show Data.seq _ _=aey v from e))⟩
  .exact⟨_,e1,λv e=>(by rw[d1]at e;cases e)⟩
  .exact⟨_,e2,λv e=>(by rw[d2]at e;cases e)⟩
 keep:=λn h h' Z k=>qx Z k
 item:=by
  intro X hP hw hK hc n pins s σ H E I hf Z hg
  subst hP hw hK
  obtain⟨xs,ys,x,y,hx,hy,ex,ey⟩:=hg
  obtain⟨Nj,Oo,p1,LU⟩:=I.tuple hx
  obtain⟨Ni,G5,p2,Nm⟩:=I.tuple hy
  obtain⟨v1,e1,r1⟩:=Oo.get ex
  obtain⟨v2,e2,r2⟩:=G5.get ey
  have CQ:H s.heap.objs.size=none:=I.y6.fresh (aal _)
  refine qy D Z KY Dq (show s.heap.IsTuple a Nj.toArray from p1) (show s.heap.IsTuple b Ni.toArray from p2) (x:=v1) (y:=v2) (by simpa using e1) (by simpa using e2) λh' q1 q2 q3 q4 q5 q6 q7 kk=>?_
  refine⟨_,rfl,wpAny_letOwnedTupleGo_zip (s:={s with heap:=h'}) q1 λh2 w1 w2=>?_⟩
  have old:∀c∈[z,u,o,i1,i2],c<s.heap.objs.size:=λc hc=>by
   obtain⟨zz,uu,⟨p,q,oo⟩,⟨o1,e1,c1,d1⟩,⟨o2,e2,c2,d2⟩⟩:=Z
   simp only[aaZ,aa1,or_false]at hc
   rcases hc with rfl|rfl|rfl|rfl|rfl
   .exact aak zz
   .exact aak uu
   .exact aak oo
   .exact aak e1
   .exact aak e2
  have Vu:s.heap.objs.size≠z:=ab5 (old z (by simp))
  have I1:Inv X pins σ (upd H s.heap.objs.size (.tup [x,y])) {s with heap:=s.heap.push {cls:=.type "tuple",data:=.seq #[v1,v2]}} :=
   I.laid (t':=s.toks) (λb u e=>aac _ e) (aal _) ⟨by show 2<=sizeLine;decide,[v1,v2],.cons r1 (.cons r2 .nil),⟨_,aai _ rfl,rfl,_,rfl⟩⟩
  have Il:∀c∈[z,u,o,i1,i2],BG X pins (upd H s.heap.objs.size (.tup [x,y])) c:=λc hc=>⟨by rw[ag (aav (old c hc))];exact(hf c hc).1,(hf c hc).2⟩
  have I2:Inv X pins σ (upd H s.heap.objs.size (.tup [x,y])) {s with heap:=h2}:=by
   refine I1.By (t':=s.toks) (h':=h2) (λc q hc e=>?_) Il
   have OL:c≠z:=λe=>hc (by simp[e])
   refine w2.extBut _ _ OL ?_
   by_cases GN:c=s.heap.objs.size
   .subst GN
    have:(s.heap.push {cls:=.type "tuple",data:=.seq #[v1,v2]}).get? s.heap.objs.size=some {cls:=.type "tuple",data:=.seq #[v1,v2]}:=aai _ rfl
    have e':some {cls:=.type "tuple",data:=.seq #[v1,v2]}=some q:=this.symm.trans e
    rw[<- e'];exact q6
   .refine kk c q (λz=>hc ?_) ?_
    .simp only[aaZ,aa1,or_false]at z ⊢
     rcases z with z|z|z|z
     .exact .inl z
     .exact .inr (.inr (.inl z))
     .exact .inr (.inr (.inr (.inl z)))
     .exact .inr (.inr (.inr (.inr z)))
    .exact(aeR _ _ _ GN).symm.trans e
  refine⟨.ref s.heap.objs.size,_,I2,rfl,⟨_,x,y,rfl,CQ,rfl,λSV ys' g1 g2=>?_⟩,?_,λc hc=>(Il c hc).1⟩
  .rw[I.Ar g1 hx,I.Ar g2 hy]
   exact⟨ex,ey⟩
  .exact⟨w1,w2.extBut _ _ D.uz q2,⟨_,_,w2.extBut _ _ D.oz q3⟩,AW q4 λq e=>w2.extBut _ _ D.x1z e,AW q5 λq e=>w2.extBut _ _ D.x2z e⟩
 done:=by
  intro X hP hw hK hc n pins s σ H E I hf Z hg
  subst hP hw hK
  obtain⟨xs,ys,hx,hy,hl⟩:=hg
  obtain⟨Nj,Oo,p1,LU⟩:=I.tuple hx
  obtain⟨Ni,G5,p2,Nm⟩:=I.tuple hy
  have l1:=Oo.length
  have l2:=G5.length
  refine sT (I.ok.hd hc) D Z KY Dq (show s.heap.IsTuple a Nj.toArray from p1) (show s.heap.IsTuple b Ni.toArray from p2) ?_ λh' kk=>⟨rfl,I.By (t':=s.toks) (λc q hc e=>kk c q (λz=>hc ?_) e) hf⟩
  .rcases hl with h|h
   .exact .inl (by simp;omega)
   .exact .inr (by simp;omega)
  .simp only[aaZ,aa1,or_false]at z ⊢
   rcases z with z|z|z|z
   .exact .inl z
   .exact .inr (.inr (.inl z))
   .exact .inr (.inr (.inr (.inl z)))
   .exact .inr (.inr (.inr (.inr z)))
 self:=λ_ _ _ _ _ Z h=>wpAny_pyIter_zip Z.zz h
theorem Rf(n:Nat):Jo (n+4) (n+2) (n+3) n (n+1) :=
 ⟨show ¬ ((n+2:Nat)=n+4)by omega,show ¬ ((n+3:Nat)=n+4)by omega,show ¬ ((n:Nat)=n+4)by omega,show ¬ ((n+1:Nat)=n+4)by omega,show ¬ ((n+2:Nat)=n+3)by omega,show ¬ ((n+2:Nat)=n)by omega,show ¬ ((n+2:Nat)=n+1)by omega,show ¬ ((n+3:Nat)=n)by omega,show ¬ ((n+3:Nat)=n+1)by omega,show ¬ ((n:Nat)=n+1)by omega⟩
def Qm(K:aag)(ta:TA):TI:=λσ H R=>ta σ H λvs H1=>∃a b,vs=[.ref a,.ref b]/\(∃xs,zW K H1 a xs)/\(∃ys,zW K H1 b ys)/\R (Rw K a b) H1
variable{Cj p:Pos}{ta:TA}
theorem xi{x1:_}{a b:Expr}(hg:Gl X "zip")(hm:X.mg "zip" = none)(ha:PA X [a,b] ta)(hs:aam [a,b] X.env=[(false,eval a X.env),(false,eval b X.env)]:=by rfl)(IU:aam [b] X.env=[(false,eval b X.env)]:=by rfl):
  PI X (.Tuple elts x1 Cj) (.Call (.Name "zip" p) [a,b] [] pos) (Qm X.K ta):=by
 intro pins s σ H R I h
 refine Call_ (cV I hg hm boot_zip (acD (zC (ha pos pins s σ H _ I h) λus s1 ⟨vs,H1,I1,r1,q1⟩=>?_) (by rw[hs,IU]) (by rw[IU];rfl)))
 obtain⟨c,d,e,⟨xs,hx⟩,⟨ys,hy⟩,q⟩:=q1
 subst e
 cases r1 with
 |cons ra rr=>
  cases rr with
  |cons rb rr=>
   cases rr
   cases ra
   cases rb
   obtain⟨Nj,Oo,p1,LU⟩:=I1.tuple hx
   obtain⟨Ni,G5,p2,Nm⟩:=I1.tuple hy
   have g1:s1.heap.IsTuple c Nj.toArray:=p1
   have g2:s1.heap.IsTuple d Ni.toArray:=p2
   have lc:c<s1.heap.objs.size:=by obtain⟨o,e,_⟩:=g1;exact aak e
   have ld:d<s1.heap.objs.size:=by obtain⟨o,e,_⟩:=g2;exact aak e
   refine wT g1 g2 λh' Z sz kk=>?_
   have I2:Inv X pins σ H1 {s1 with heap:=h'}:=I1.kept (t':=s1.toks) kk
   refine wpAny_pyIter_zip Z.zz ⟨_,_,_,_,H1,rfl,I2,sW c d _ _ _ _ _ (Rf s1.heap.objs.size) (aav (aaA lc (ae0 _ _))) (aav (aaA ld (ae0 _ _))),Z,λb' hb=>?_,q⟩
   have Fz:s1.heap.objs.size<=b':=by
    simp only[aaZ,aa1,or_false]at hb
    rcases hb with rfl|rfl|rfl|rfl|rfl
    all_goals first|exact aal _|exact ae0 _ _
   exact I1.EU Fz (I1.y6.fresh Fz)
theorem iE{sl:Addr}{eQ:Array Value}{vl vu:Value}{lo hi:Option Int}(g:IsTup s.heap t eQ)(hs:s.heap.IsSliceOf sl vl vu .none)(pl:IsPart vl lo)(pu:IsPart vu hi)
  (hw:HT.zQ eQ.size 0 lo=0/\HT.zQ eQ.size eQ.size hi=eQ.size) (k:Q (.ref t) s):wpAny (model prog w) A (adr (.ref t) (.ref sl)) Q E s:=by
 obtain⟨q,q1,q2,q3⟩:=id hs
 have ty:s.TypeIs (.ref sl) "slice" := ⟨q,q1,q2⟩
 unfold adr
 try with_reducible refine aaU ?_
 first|refine aaa (aah ?_)|skip
 refine aaa (aeB g.typeIs (by decide) (aaa (aby (name:=aaz "__getitem__") g.typeIs abz (abj abz g.typeIs aek ?_ (aet _ _)))))
 refine aaa (m:=adm (.ref t)) (tupleItemsOf_ g (aaa (aeT ty ?_)))
 rw[if_pos (by decide)]
 refine aaa (HT.AQ hs pl pu ?_)
 show wpAny _ _ (if (((HT.zQ eQ.size 0 lo:Nat):Int)==0 && (1:Int)==1 && (HT.zQ eQ.size eQ.size hi - HT.zQ eQ.size 0 lo)==eQ.size)=true then _ else _) _ _ s
 rw[if_pos (by rw[hw.1,hw.2];simp)]
 refine aaa ?_
 unfold Builtin.Tuple.tupleIsExact
 refine aaa (aeT g.typeIs (aah ?_))
 rw[if_pos (by decide)]
 exact aaa (ady (aah ⟨_,rfl,aah k⟩))
def PN(K:aag):V->Option Int->Option Int->Hp->VK->Prop:=λx lo hi H Q=>∃a xs,x=.ref a/\zW K H a xs /\
 (HT.zQ xs.length 0 lo=0/\HT.zQ xs.length xs.length hi=xs.length->Q (.ref a) H)/\∀p,H p=none->Q (.ref p) (upd H p (.tup (CB xs lo hi)))
theorem u9:Jk X (PN X.K):=by
 intro pins s σ H x v vl vu lo hi sl Q I rx hs pl pu h
 obtain⟨a,xs,rfl,hx,hq,q⟩:=h
 by_cases hw:HT.zQ xs.length 0 lo=0/\HT.zQ xs.length xs.length hi=xs.length
 .cases rx
  obtain⟨eQ,r,ht,hz⟩:=I.tuple hx
  have hn:eQ.toArray.size=xs.length:=by rw[aaf];exact r.length.symm
  refine⟨"tuple",_,PyProof.Rows.slot_tuple_getitem.lookup,ht.typeIs,iE ht hs pl pu (by rw[hn];exact hw) ⟨.ref a,H,I,rfl,hq hw⟩⟩
 .exact xa pins s σ H (.ref a) v vl vu lo hi sl Q I rx hs pl pu ⟨a,xs,rfl,hx,hw,q⟩
theorem pV(hc:wpAny (model prog w) A.in1 (collect x) (λvs s1=>∃(ss:List Str) (h1:Heap) (tk:Nat),s1={s with heap:=h1,toks:=tk}/\StrsAre vs ss/\vs.length<64 /\
   (∀(h2:Heap) (out:List Value) (D5:List Str) (n:Nat),(∀b o,h1.get? b=some o->h2.get? b=some o)->h2.get? h1.objs.size=some (seqObj "list" out.toArray n)->StrsAre out D5->D5.Perm ss->sortedS D5=true->Q (.ref h1.objs.size) {s with heap:=h2,toks:=tk})) E s) :
  wpAny (model prog w) A (call (.builtin "sorted") [x]) Q E s:=by
 refine afx kind_sorted plain_sorted entry_sorted (args_sorted1 _) ?_
 unfold adx.«sorted»
 refine aaa (m:=checkCount "sorted" 1 1 _) (aah (aaa (aaT hc (λvs s1 hv=>?_) λ_ _ e=>e)))
 obtain⟨ss,h1,tk,rfl,hS,Ci,k⟩:=hv
 refine aaa (acp ?_ (by rw[aaG];omega))
 have Rp:(h1.push (seqObj "list" vs.toArray 0)).get? h1.objs.size=some (seqObj "list" vs.toArray 0):=aai _ rfl
 refine aaa (aaU (abj aef ⟨_,Rp,rfl⟩ ad0 (list_sort_treeK strKind_oneLt Rp hS.keysOf (λv₁ v₂ rest e=>keyKind_strs (by rw[<- e];exact hS)) Ci λst p q=>⟨_,rfl,?_⟩) (afs _)))
 obtain⟨D5,b1,b2,b3⟩:=sorted_out_str hS p q
 obtain⟨n,at2⟩:=sortedHeap_at (out:=(arrOf st).map (·.2)) Rp
 refine aah ⟨_,rfl,k _ ((arrOf st).map (·.2)).toList D5 n (λb o e=>?_) (by rw[Array.toArray_toList];exact at2) b1 b2 b3⟩
 have lt:=aak e
 rw[sortedHeap_old (aav lt) (by rw[size_push'];exact abe lt)]
 exact aac _ e
theorem m4:∀{kvs:List (Key×Value)} {ss:List Str} {vs:List Value},kvs.map (·.1)=ss.map aas->vs.length=kvs.length->(∀(j:Nat) (v:Value),vs[j]?=some v->∃k x,kvs[j]?=some (k,x)/\(aI P w).is k v=true)->StrsAre vs ss
 |[],ss,vs,e,hl,_=>by
  have:ss=[]:=by cases ss with|nil=>rfl|cons _ _=>cases e
  subst this
  have:vs=[]:=List.length_eq_zero_iff.mp hl
  subst this
  exact .nil
 |(k,x)::r,ss,vs,e,hl,h=>by
  cases ss with
  |nil=>cases e
  |cons y ys=>
   cases vs with
   |nil=>cases hl
   |cons v us=>
    rw[aar,aar]at e
    injection e with e1 e2
    obtain⟨k',x',e3,e4⟩:=h 0 v rfl
    have UK:(k,x)=(k',x'):=aao e3
    cases UK
    have NQ:k=aas y:=e1
    subst NQ
    obtain⟨t,rfl⟩:=Value.isStrOf_shape (x:=y) (v:=v) e4
    exact .cons y t (m4 e2 (by simpa using hl) λj u hj=>h (j+1) u hj)
def KC:List V->Hp->VK->Prop:=λxs H Q=>∃(d:Addr) (kvs:List (Key×V)) (ss:List Str),xs=[.ref d]/\H d=some (.dK kvs)/\kvs.map (·.1)=ss.map aas/\ss.length<64 /\
 ∀(l:Addr) (D5:List Str),H l=none->D5.Perm ss->D5.Pairwise (λa b=>¬ zD b a)->Q (.ref l) (upd H l (.lst (D5.map V.str)))
theorem qu(hc:X.calm=true):zg X (.builtin "sorted") KC:=by
 intro pins s σ H xs us Q I r h
 obtain⟨d,kvs,ss,rfl,hd,hk,Ci,k⟩:=h
 obtain⟨u,rfl,ru⟩:=r.one
 cases ru
 obtain⟨hz,lo,vs,Ua,hD⟩:=I.y6 d _ hd
 obtain⟨ep,Up⟩:=hD.dictAt
 have JK:vs.map (·.1)=ss.map aas:=by rw[<- hk];exact Ua.keys.symm
 have hlen:vs.length=ss.length:=by have:=congrArg acr JK;simpa using this
 refine pV (PySem.W.kdu_collect (A:=X.A.in1) (PySem.W.kdl_dict (knd:=aI X.prog X.w) (kvs:=vs) (ep:=ep) lo) (I.ok.hd hc) Up (by rw[hlen,aaG];omega) λh1 tk acc kk hit=>?_)
 have hl:acc.toList.length=vs.length:=by rw[abI];exact hit.1
 have hS:StrsAre acc.toList ss:=m4 JK hl λj v e=>hit.2 j v (by rw[<- ac9];exact e)
 refine⟨ss,h1,tk,rfl,hS,by rw[hl,hlen];exact Ci,λh2 out D5 n k2 e2 o1 o2 o3=>?_⟩
 have I1:Inv X pins σ H {s with heap:=h1,toks:=tk}:=I.kept kk
 refine⟨.ref h1.objs.size,_,I1.laid (t':=tk) (a:=h1.objs.size) (o:=.lst (D5.map V.str)) (λb o q=>k2 b o q) (aal _) ?_,rfl,k _ D5 (I1.y6.fresh (aal _)) o2 (iK o3)⟩
 exact⟨by rw[aae,o2.length_eq,aaG];omega,out,n,gw o1,e2⟩
def Ko(P:aaH)(w:World)(a:Addr)(S:Str->Bool)(n:Nat):HO:=.ext λh=>h.SetOf (PySem.strKind P w) a S n
theorem rm:zH X (aaE .NotIn) (λx y H Q=>∃z a S n,x=.str z/\y=.ref a/\H a=some (Ko X.prog X.w a S n)/\Q (.bl (!S z)) H):=by
 intro pins s σ H x y v u Q I rx ry h
 obtain⟨z,a,S,n,rfl,rfl,ha,q⟩:=h
 obtain⟨t,rfl⟩:=rx
 cases ry
 obtain⟨x,_,_⟩:=I.y6 a _ ha
 exact wpAny_notInSet_of (knd:=PySem.strKind X.prog X.w) (strKind_is _ _ _ _) rfl x ⟨.bl (!S z),H,I.tok _,rfl,q⟩
def strAt(us:Array Value)(i:Nat):Str:=match us[i]? with|some (.str x _)=>x|_=>⟨#[]⟩
theorem wS{us:Array Value}(hn:∀v∈us,∃x t,v=.str x t):CmpOf prog w A .Gt (λi v=>us[i]?=some v) (λi j=>decide (zD (strAt us j) (strAt us i))):=λi j vi vj s Q E hi hj q=>by
 obtain⟨x,t,rfl⟩:=hn vi (Array.mem_of_getElem? hi)
 obtain⟨y,t',rfl⟩:=hn vj (Array.mem_of_getElem? hj)
 have e1:strAt us i=x:=by unfold strAt;rw[hi]
 have e2:strAt us j=y:=by unfold strAt;rw[hj]
 dsimp only at q
 rw[e1,e2]at q
 exact PySem.richCompare_gives (op:=.Gt) (typeIs_str s x t) (typeIs_str s y t') F.slot_str_gt F.entry_str_gt (F.args_str_gt_2 _ _) (gives_str_gt x y t t') (λe=>nomatch e) q
theorem Pn{x:Str}{t t':Tok}:∀v∈(#[.str x t,.str y t']:Array Value),∃z u,v=.str z u:=λv hv=>by
 simp only[List.mem_toArray,aaZ,aa1,or_false]at hv
 rcases hv with rfl|rfl
 .exact⟨x,t,rfl⟩
 .exact⟨y,t',rfl⟩
theorem ud{x:Str}{t t':Tok}(hh:A.handled=none)(k:∀h' tk,(∀c o,s.heap.get? c=some o->h'.get? c=some o)->Q (if zD x y then .str y t' else .str x t) {s with heap:=h',toks:=tk}):
  wpAny (model prog w) A (call (.builtin "max") [.str x t,.str y t']) Q E s:=by
 have g:(s.heap.push {cls:=.type "tuple",data:=.seq #[.str x t,.str y t']}).IsTuple s.heap.objs.size #[.str x t,.str y t']:=⟨_,aai _ rfl,rfl,0,rfl⟩
 have sz:(s.heap.push {cls:=.type "tuple",data:=.seq #[.str x t,.str y t']}).objs.size=s.heap.objs.size+1:=abf ..
 refine call_max_two (abY g ⟨_,[_,s.heap.objs.size],[_],_,_,_,_,rfl,Walks.tuple (A:=A.in1) hh _ s.heap.objs.size (by rw[sz];exact aav (aa5 _)) #[.str x t,.str y t'],
  ⟨⟨_,aai _ rfl,rfl,rfl⟩,g.push _⟩,λc hc=>?_,by simp,wS Pn,λv h' tk hP hk=>?_⟩)
 .show c<((s.heap.push _).push _).objs.size
  rw[abf,sz]
  simp only[aaZ,aa1,or_false]at hc
  rcases hc with rfl|rfl
  .rw[sz];exact aa5 _
  .exact abe (aa5 _)
 .have old:∀c o,s.heap.get? c=some o->h'.get? c=some o:=λc o e=>by
   refine hk c o (λz=>?_) (aac _ (aac _ e))
   have lt:=aak e
   rw[List.mem_singleton.mp z,sz]at lt
   exact abi _ (Nat.lt_of_succ_lt lt)
  have q:=k h' tk old
  have ev:v=if zD x y then adh y t' else adh x t:=by
   by_cases c:zD x y
   .simp[argBest,strAt,c]at hP
    rw[if_pos c];exact hP.symm
   .simp[argBest,strAt,c]at hP
    rw[if_neg c];exact hP.symm
  rw[ev];exact q
def GB(x y:Str):Str:=if zD x y then y else x
theorem qv(hc:X.calm=true):zg X (.builtin "max") (λxs H Q=>∃x y,xs=[.str x,.str y]/\Q (.str (GB x y)) H):=by
 intro pins s σ H xs us Q I r h
 obtain⟨x,y,rfl,q⟩:=h
 obtain⟨u,v,rfl,⟨t,rfl⟩,⟨t',rfl⟩⟩:=vals2 r
 refine ud (I.ok.hd hc) λh' tk k=>⟨.str (GB x y),H,I.kept k,?_,q⟩
 unfold GB
 split<;>exact⟨_,rfl⟩
def OZ(x:Str):It:=⟨λi _=>i<x.cps.size,λi H v H'=>H'=H/\∃c,x.cps[i]?=some c/\v=.str ⟨#[c]⟩,λi _=>x.cps.size<=i⟩
theorem fT(x:Str):adM x = "str_ascii_iterator" \/ adM x = "str_iterator" :=by
 unfold adM
 split
 .exact .inl rfl
 .exact .inr rfl
theorem sX(x:Str)(t:Tok)(it:Addr):Turn P w K tg (OZ x) [it] it (λi h=>h.IsStrIter it (adM x) x t i) where
 mem:=by simp
 obj:=λi h st b hb=>by
  have e:b=it:=by simpa using hb
  subst e
  obtain⟨o,e,c,d⟩:=st
  exact⟨o,e,λv z=>by rw[d]at z;cases z⟩
 keep:=λi h h' st k=>by
  obtain⟨o,e,r⟩:=st
  exact⟨o,k it (by simp) o e,r⟩
 item:=by
  intro X hP hw hK hc i pins s σ H E I hf st hg
  subst hP hw hK
  have Ij:i<x.cps.size:=hg
  have hx:x.cps[i]?=some x.cps[i]:=by simp[Ij]
  obtain⟨f0,f1,f2,f3,f4,f5⟩:=hf it (by simp)
  have fin:∀h',h'.IsStrIter it (adM x) x t (i+1)->ad8 it s.heap h'->∃u,some (adh ⟨#[x.cps[i]]⟩ s.toks)=some u /\
    wpAny (model X.prog X.w) X.A (adZ tg (.ref it) u) (λ_ s2=>∃y H',Inv X pins σ H' s2/\RelV y u/\(OZ x).yld i H y H'/\s2.heap.IsStrIter it (adM x) x t (i+1)/\∀b∈[it],H' b=none) E {s with heap:=h',toks:=s.toks+1}:=λh' DH sb=>by
   have I1:Inv X pins σ H {s with heap:=h',toks:=s.toks+1}:=I.turned (λb o hb e=>(sb.2 b hb).trans e) f0 f1 f3 f4 f5
   obtain⟨o,e,c,d⟩:=id DH
   refine⟨_,rfl,mq (s:={s with heap:=h',toks:=s.toks+1}) e c d (by rcases fT x with z|z<;>rw[z]<;>decide) ⟨.str ⟨#[x.cps[i]]⟩,H,I1,⟨_,rfl⟩,⟨rfl,_,hx,rfl⟩,DH,λb hb=>(hf b hb).1⟩⟩
  rcases fT x with z|z
  .rw[z]at st fin
   exact wpAny_pyNext_ascii_item st hx λh' DH sb=>by have:=fin h' DH sb;rw[z];exact this
  .rw[z]at st fin
   exact wpAny_pyNext_wide_item st hx λh' DH sb=>by have:=fin h' DH sb;rw[z];exact this
 done:=by
  intro X hP hw hK hc i pins s σ H E I hf st hg
  subst hP hw hK
  have Ij:x.cps.size<=i:=hg
  have hx:x.cps[i]?=none:=by simp[Ij]
  obtain⟨f0,f1,f2,f3,f4,f5⟩:=hf it (by simp)
  rcases fT x with z|z
  .rw[z]at st
   exact wpAny_pyNext_ascii_end (I.ok.hd hc) st hx λh' eb=>⟨rfl,I.turned (t':=s.toks) (λb o hb e=>eb b o hb e) f0 f1 f3 f4 f5⟩
  .rw[z]at st
   exact wpAny_pyNext_wide_end (I.ok.hd hc) st hx λh' eb=>⟨rfl,I.turned (t':=s.toks) (λb o hb e=>eb b o hb e) f0 f1 f3 f4 f5⟩
 self:=λA i s Q E st h=>by
  obtain⟨o,e,c,d⟩:=st
  rcases fT x with z|z
  .rw[z]at c
   exact wpAny_pyIter_slot (T := "str_ascii_iterator") ⟨o,e,c⟩ aeW (abj aeW ⟨o,e,c⟩ F.entry_str_ascii_iterator_iter (aah ⟨_,rfl, "str_ascii_iterator",_,⟨o,e,c⟩,F.slot_str_ascii_iterator_next.lookup,h⟩) (F.args_str_ascii_iterator_iter_1 _))
  .rw[z]at c
   exact wpAny_pyIter_slot (T := "str_iterator") ⟨o,e,c⟩ F.slot_str_iterator_iter (abj F.slot_str_iterator_iter ⟨o,e,c⟩ F.entry_str_iterator_iter (aah ⟨_,rfl, "str_iterator",_,⟨o,e,c⟩,F.slot_str_iterator_next.lookup,h⟩) (F.args_str_iterator_iter_1 _))
def Qn(tl:TE):TI:=λσ H R=>tl σ H λx H1=>∃z,x=.str z/\R (OZ z) H1
theorem xj{l:Expr}{tl:TE}(hl:PE X l tl):PI X tg l (Qn tl):=by
 intro pins s σ H R I h
 refine zC (hl pins s σ H _ I h) λv s1 ⟨x,H1,I1,r1,q1⟩=>?_
 obtain⟨z,rfl,q⟩:=q1
 obtain⟨t,rfl⟩:=r1
 refine wpAny_pyIter_strU ⟨s1.heap.objs.size,[s1.heap.objs.size],_,_,H1,rfl,I1.kept (t':=s1.toks) λb o e=>aac _ e,sX z t _,⟨_,aai _ rfl,rfl,rfl⟩,λb hb=>?_,q⟩
 have e:b=s1.heap.objs.size:=by simpa using hb
 subst e
 exact I1.EU (aal _) (I1.y6.fresh (aal _))
theorem rq:zH X (aaE .LtE) (λx y H Q=>∃i j,x=.str i/\y=.str j/\Q (.bl (!decide (j.cps.toList<i.cps.toList))) H):=by
 intro pins s σ H x y v u Q I rx ry h
 obtain⟨i,j,rfl,rfl,q⟩:=h
 obtain⟨t,rfl⟩:=rx
 obtain⟨t',rfl⟩:=ry
 exact PySem.P.le_str ⟨.bl _,H,I,rfl,q⟩
theorem xE:zH X (aaE .Is) (λx y H Q=>∃a b,x=.bl a/\y=.bl b/\Q (.bl (a==b)) H):=by
 intro pins s σ H x y v u Q I rx ry h
 obtain⟨a,b,rfl,rfl,q⟩:=h
 cases rx
 cases ry
 exact is_bool ⟨.bl _,H,I,rfl,q⟩
theorem rA:zH X (aaE .IsNot) (λx y H Q=>∃a b,x=.bl a/\y=.bl b/\Q (.bl (a != b)) H):=by
 intro pins s σ H x y v u Q I rx ry h
 obtain⟨a,b,rfl,rfl,q⟩:=h
 cases rx
 cases ry
 exact isnot_bool ⟨.bl _,H,I,rfl,q⟩
def JB(K:aag):R2:=λx y H Q=>∃a b xs ys,x=.ref a/\y=.ref b/\zW K H a xs/\zW K H b ys/\xs.length+ys.length<=sizeLine /\
 (xs=[]->Q (.ref b) H)/\(ys=[]->Q (.ref a) H)/\∀p,H p=none->Q (.ref p) (upd H p (.tup (xs++ys)))
theorem vL:zH X (acq .Add) (JB X.K):=by
 intro pins s σ H x y v u Q I rx ry h
 obtain⟨a,b,xs,ys,rfl,rfl,ha,hb,hz,q0,q1,q2⟩:=h
 by_cases hx:xs=[]
 .cases rx
  cases ry
  obtain⟨eQ,r1,p1,_⟩:=I.tuple ha
  obtain⟨zU,r2,p2,_⟩:=I.tuple hb
  subst hx
  cases r1
  obtain⟨⟨c1,d1,e1,l1⟩,g1,g2,n,g3⟩:=id p1
  obtain⟨⟨c2,d2,e2,l2⟩,k1,k2,n2,k3⟩:=id p2
  simp only at g2 g3 k2 k3
  subst g2 g3 k2 k3
  exact concat_meets ⟨_,g1,rfl⟩ ⟨_,k1,rfl⟩ aeY seq_tuple_add adV adQ (adC _ _)
   (tuple_addW0 a b _ _ n n2 d1 d2 l1 l2 (by simp)) ⟨g1,k1,⟨.ref b,H,I,rfl,q0 rfl⟩⟩
 .exact vM pins s σ H (.ref a) (.ref b) v u Q I rx ry ⟨a,b,xs,ys,rfl,rfl,ha,hb,hx,hz,q1,λ_=>q2⟩
theorem uH(hc:X.calm=true):zg X (.builtin "any") (λxs H Q=>∃(p:Addr) (bs:List Bool),xs=[.ref p]/\An X.K H p (bs.map V.bl)/\Q (.bl (bs.any id)) H):=by
 intro pins s σ H xs us Q I r h
 obtain⟨p,bs,rfl,hq,q⟩:=h
 obtain⟨u,rfl,ru⟩:=r.one
 cases ru
 obtain⟨eQ,rv,pl,hz⟩:=I.list hq
 have hb:=e8 rv
 have hl:=pl.isList
 have zT:p<s.heap.objs.size:=by obtain⟨_,e,_⟩:=hl;exact aak e
 refine call_any_walk (acI hl ⟨s.heap.objs.size,[s.heap.objs.size,p],[s.heap.objs.size],eQ.toArray.size,_,_,λi=>(bs[i]?).getD false,rfl,
  Walks.list (A:=X.A.in1) (I.ok.hd hc) _ p (aav zT) eQ.toArray,⟨⟨_,aai _ rfl,rfl,rfl⟩,hl.push _⟩,λi v s' Q' E' hP hQ=>?_,λh' tk hk=>?_⟩)
 .obtain⟨b,eb,rfl⟩:=hb.get i v (by simpa using hP)
  simp only[eb,adR]at hQ
  exact abn hQ
 .have eb:((aaV eQ.toArray.size).any λi=>(bs[i]?).getD false)=bs.any id:=by
   rw[aaf,hb.length,LSm.range_any bs]
  rw[eb]
  exact⟨.bl (bs.any id),H,I.kept (LSm.kept_iter hk),rfl,q⟩
variable{α:Type}
theorem qP:∀(xs:List α),(aaV xs.length).filterMap (λ(k:Nat)=>xs[(((xs.length:Int) - 1)+(k:Int) * -1).toNat]?)=xs.reverse:=by
 intro xs
 have key:∀n,n<=xs.length->(aaV n).filterMap (λ(k:Nat)=>xs[(((xs.length:Int) - 1)+(k:Int) * -1).toNat]?)=(xs.drop (xs.length - n)).reverse:=λn=>by
  induction n with
  |zero=>intro _;simp
  |succ n ih=>
   intro hn
   rw[ad4,List.filterMap_append,ih (by omega)]
   have e:(((xs.length:Int) - 1)+(n:Int) * -1).toNat=xs.length - (n+1):=by omega
   have zT:xs.length - (n+1)<xs.length:=by omega
   simp only[abS,List.filterMap_nil,e,aab zT]
   have d:xs.drop (xs.length - (n+1))=xs[xs.length - (n+1)]::xs.drop (xs.length - n):=by
    rw[ach zT]
    congr 2
    omega
   rw[d,acM]
 have:=key xs.length (aal _)
 rw[this,Nat.sub_self,afw]
theorem pZ(n:Nat):abF ((n:Int) - 1) (-1) (-1)=n:=by
 unfold abF
 have h1:¬ ((-1:Int) > 0):=by omega
 rw[if_neg h1]
 by_cases h:((n:Int) - 1) > -1
 .rw[if_pos h]
  have:((n:Int) - 1 - -1 - 1) / (- -1)+1=(n:Int):=by
   rw[show (- (-1:Int))=1 by rfl,Int.ediv_one];omega
  rw[this];omega
 .rw[if_neg h];omega
theorem iC{sl:Addr}{tk:Tok}(g:IsTup s.heap t eQ.toArray)(hs:s.heap.IsSliceOf sl .none .none (.int (-1) tk))
  (k:Q (.ref s.heap.objs.size) {s with heap:=s.heap.push {cls:=.type "tuple",data:=.seq eQ.reverse.toArray}}) (hsz:eQ.length<=sizeLine):wpAny (model prog w) A (adr (.ref t) (.ref sl)) Q E s:=by
 obtain⟨q,q1,q2,q3⟩:=id hs
 have ty:s.TypeIs (.ref sl) "slice" := ⟨q,q1,q2⟩
 unfold adr
 try with_reducible refine aaU ?_
 first|refine aaa (aah ?_)|skip
 refine aaa (aeB g.typeIs (by decide) (aaa (aby (name:=aaz "__getitem__") g.typeIs abz (abj abz g.typeIs aek ?_ (aet _ _)))))
 refine aaa (m:=adm (.ref t)) (tupleItemsOf_ g (aaa (aeT ty ?_)))
 rw[if_pos (by decide)]
 refine aaa (m:=acP (.ref sl) (pure (eQ.toArray.size:Int))) ?_
 unfold acP afy
 refine aaa (aaa (abv q1 q3 (x:=.none) rfl (aaa (abv q1 q3 (x:=.none) rfl (aaa (abv q1 q3 (x:=.int (-1) tk) rfl (aah ?_)))))))
 refine aaa (HT.Aw (.int (-1) tk) ?_)
 show wpAny _ _ (if ((-1:Int)==0)=true then _ else _) _ _ s
 rw[if_neg (by decide)]
 refine aaa (HT.Aw .none (aaa (HT.Aw .none (aaa (aah ?_)))))
 show wpAny _ _ (pure (((eQ.toArray.size:Int) - 1),(-1:Int),abF ((eQ.toArray.size:Int) - 1) (-1) (-1))) _ _ s
 rw[pZ]
 refine aah ?_
 show wpAny _ _ (if (((eQ.toArray.size:Int) - 1)==0 && (-1:Int)==1 && eQ.toArray.size==eQ.toArray.size)=true then _ else _) _ _ s
 rw[if_neg (by simp)]
 have e:(aaV eQ.toArray.size).filterMap (λ(k:Nat)=>eQ.toArray[(((eQ.toArray.size:Int) - 1)+(k:Int) * -1).toNat]?)=eQ.reverse:=by
  have:=qP eQ
  simpa using this
 show wpAny _ _ (do let r <- ab1 ((aaV eQ.toArray.size).filterMap (λ(k:Nat)=>eQ.toArray[(((eQ.toArray.size:Int) - 1)+(k:Int) * -1).toNat]?)).toArray;ret r) _ _ s
 rw[e]
 exact aaa (m:=ab1 _) (abQ (aah ⟨_,rfl,aah k⟩) (by show eQ.reverse.toArray.size<=sizeLine;simpa using hsz))
variable{e st:Expr}{Mr:TE}{p2:Pos}
def Pt(K:aag)(te Mr:TE):TE:=λσ H Q=>te σ H λx H1=>Mr σ H1 λy H2=>y=.int (-1)/\∃a xs,x=.ref a/\zW K H2 a xs/\∀p,H2 p=none->Q (.ref p) (upd H2 p (.tup xs.reverse))
theorem xo(he:PE X e te)(EN:PE X st Mr):PE X (.Subscript e (.Slice none none (some st) p2) pos) (Pt X.K te Mr):=by
 intro pins s σ H Q I h
 refine aeH (zC (he pins s σ H _ I h) λv s1 ⟨x,H1,I1,r1,q1⟩=>?_)
 refine wpAny_Slice ?_
 rw[evalPart_none,evalPart_some]
 refine aah (aah (zC (EN pins s1 σ H1 _ I1 q1) λvs s2 ⟨y,H2,I2,r2,q2⟩=>?_))
 obtain⟨rfl,a,xs,rfl,hx,q⟩:=q2
 obtain⟨tk,rfl⟩:=r2
 cases r1
 have I3:Inv X pins σ H2 {s2 with heap:=s2.heap.push {cls:=.type "slice",data:=.fields #[.none,.none,.int (-1) tk]}}:=I2.kept (t':=s2.toks) λb ob q=>aac _ q
 obtain⟨eQ,r,ht,hz⟩:=I3.tuple hx
 show wpAny (model X.prog X.w) X.A (aeq e (.Slice none none (some st) p2) (.ref a) (.ref s2.heap.objs.size)) (EP X pins σ Q) X.xe {s2 with heap:=s2.heap.push {cls:=.type "slice",data:=.fields #[.none,.none,.int (-1) tk]}}
 refine tail_any (ops:=[.ref a,.ref s2.heap.objs.size]) ht.typeIs PyProof.Rows.slot_tuple_getitem.lookup (iC ht (Heap.IsSliceOf.new ..) ?_ (by rw[<- r.length];exact hz)) (by with_unfolding_all rfl)
 refine⟨.ref _,_,I3.laid (t':=s2.toks) (o:=.tup xs.reverse) (λb ob q=>aac _ q) (aal _) ?_,rfl,q _ (I3.y6.fresh (aal _))⟩
 refine⟨by rw[List.length_reverse];exact hz,eQ.reverse,?_,afo _ _⟩
 exact r.reverse
end L2
namespace PySem
open Sem (wp)
end PySem
namespace PySem
open PySem.Spec PyProof.Rows
section
variable{prog:aaH}{w:World}{K:Type}[DecidableEq K]{knd:KeyKind prog w K}{A:Around}{R:Result->Shared->Prop}
end
section
variable{prog:aaH}{w:World}{K:Type}[DecidableEq K]{knd:KeyKind prog w K}{A:Around}{E:Value->Shared->Prop}{s:Shared}
end
end PySem
namespace L2
open PySem PySem.Spec PyProof.Rows
variable{X:Cx}
end L2
namespace Q
open PySem L2
inductive PV where
 |oR|bl (b:Bool)|int (i:Int)|str (x:Str)|tup (xs:List PV)|lst (xs:List PV)|zB (kvs:List (Key×PV))|set (xs:List Str)|A3 (ns:List Int)
def EZ(K:aag)(F:Hp)(a:Addr)(ns:List Int):Prop:=(∃o,F a=some (.BB o (.lst (ns.map V.int)))) \/
 ∃(o:Obj) (eQ:Array Value) (n:Nat),K.lookup a=some o/\o.cls=.type "list" /\ o.dict=none/\o.data=.seq eQ n/\eQ.size<=sizeLine/\oF (ns.map V.int) eQ.toList
mutual
inductive Rep (K:aag) (F:Hp):V->PV->Prop where
 |oR:Rep K F .oR .oR
 |bl (b:Bool):Rep K F (.bl b) (.bl b)
 |int (i:Int):Rep K F (.int i) (.int i)
 |str (x:Str):Rep K F (.str x) (.str x)
 |tup {a:Addr} {vs:List V} {xs:List PV}:zW K F a vs->nE K F vs xs->Rep K F (.ref a) (.tup xs)
 |lst {a:Addr} {vs:List V} {xs:List PV}:F a=some (.lst vs)->nE K F vs xs->Rep K F (.ref a) (.lst xs)
 |zB {a:Addr} {vs:List (Key×V)} {xs:List (Key×PV)}:F a=some (.dK vs)->yV K F vs xs->Rep K F (.ref a) (.zB xs)
 |A3 {a:Addr} {ns:List Int}:EZ K F a ns->Rep K F (.ref a) (.A3 ns)
inductive nE (K:aag) (F:Hp):List V->List PV->Prop where
 |nil:nE K F [] []
 |cons {v:V} {x:PV} {vs:List V} {xs:List PV}:Rep K F v x->nE K F vs xs->nE K F (v::vs) (x::xs)
inductive yV (K:aag) (F:Hp):List (Key×V)->List (Key×PV)->Prop where
 |nil:yV K F [] []
 |cons {k:Key} {v:V} {x:PV} {vs:List (Key×V)} {xs:List (Key×PV)}:Rep K F v x->yV K F vs xs->yV K F ((k,v)::vs) ((k,x)::xs)
end
variable{K:aag}{F F' H:Hp}
variable{a:Addr}
theorem du{xs:List V}(s:bY F F')(h:An K F a xs):An K F' a xs:=by
 rcases h with (h|⟨o,h⟩)|h
 .exact .inl (.inl (s _ _ h))
 .exact .inl (.inr ⟨o,s _ _ h⟩)
 .exact .inr h
theorem av{xs:List V}(s:bY F F')(h:zW K F a xs):zW K F' a xs:=by
 rcases h with (h|⟨o,h⟩)|h
 .exact .inl (.inl (s _ _ h))
 .exact .inl (.inr ⟨o,s _ _ h⟩)
 .exact .inr h
variable{ns:List Int}
theorem i9(s:bY F F')(h:EZ K F a ns):EZ K F' a ns:=by
 rcases h with ⟨o,h⟩|h
 .exact .inl ⟨o,s _ _ h⟩
 .exact .inr h
theorem EZ.sq(h:EZ K F a ns):An K F a (ns.map V.int):=by
 rcases h with ⟨o,h⟩|h
 .exact .inl (.inr ⟨o,h⟩)
 .exact .inr h
variable{v:V}{x:PV}
theorem Rep.mono(s:bY F F')(h:Rep K F v x):Rep K F' v x :=
 Rep.rec (K:=K) (F:=F) (motive_1:=λv x _=>Rep K F' v x) (motive_2:=λvs xs _=>nE K F' vs xs) (motive_3:=λvs xs _=>yV K F' vs xs)
  .oR .bl .int .str (λa _ b=>.tup (av s a) b) (λa _ b=>.lst (s _ _ a) b) (λa _ b=>.zB (s _ _ a) b) (λa=>.A3 (i9 s a)) .nil (λ_ _ a b=>.cons a b) .nil (λ_ _ a b=>.cons a b) h
variable{vs:List V}{xs:List PV}
theorem nE.mono(s:bY F F')(h:nE K F vs xs):nE K F' vs xs :=
 nE.rec (K:=K) (F:=F) (motive_1:=λv x _=>Rep K F' v x) (motive_2:=λvs xs _=>nE K F' vs xs) (motive_3:=λvs xs _=>yV K F' vs xs)
  .oR .bl .int .str (λa _ b=>.tup (av s a) b) (λa _ b=>.lst (s _ _ a) b) (λa _ b=>.zB (s _ _ a) b) (λa=>.A3 (i9 s a)) .nil (λ_ _ a b=>.cons a b) .nil (λ_ _ a b=>.cons a b) h
theorem yV.mono{vs:List (Key×V)}{xs:List (Key×PV)}(s:bY F F')(h:yV K F vs xs):yV K F' vs xs :=
 yV.rec (K:=K) (F:=F) (motive_1:=λv x _=>Rep K F' v x) (motive_2:=λvs xs _=>nE K F' vs xs) (motive_3:=λvs xs _=>yV K F' vs xs)
  .oR .bl .int .str (λa _ b=>.tup (av s a) b) (λa _ b=>.lst (s _ _ a) b) (λa _ b=>.zB (s _ _ a) b) (λa=>.A3 (i9 s a)) .nil (λ_ _ a b=>.cons a b) .nil (λ_ _ a b=>.cons a b) h
theorem nE.ind{motive:∀vs xs,nE K F vs xs->Prop}(h:nE K F vs xs)(nil:motive [] [] .nil)(cons:∀{v x vs xs} (a:Rep K F v x) (r:nE K F vs xs),motive vs xs r->motive (v::vs) (x::xs) (.cons a r)):motive vs xs h :=
 nE.rec (K:=K) (F:=F) (motive_1:=λ_ _ _=>True) (motive_2:=motive) (motive_3:=λ_ _ _=>True)
  trivial (λ_=>trivial) (λ_=>trivial) (λ_=>trivial) (λ_ _ _=>trivial) (λ_ _ _=>trivial) (λ_ _ _=>trivial) (λ_=>trivial) nil (λa r _ b=>cons a r b) trivial (λ_ _ _ _=>trivial) h
theorem yV.ind{motive:∀vs xs,yV K F vs xs->Prop}{vs:List (Key×V)}{xs:List (Key×PV)}(h:yV K F vs xs)(nil:motive [] [] .nil)(cons:∀{k v x vs xs} (a:Rep K F v x) (r:yV K F vs xs),motive vs xs r->motive ((k,v)::vs) ((k,x)::xs) (.cons a r)):motive vs xs h :=
 yV.rec (K:=K) (F:=F) (motive_1:=λ_ _ _=>True) (motive_2:=λ_ _ _=>True) (motive_3:=motive)
  trivial (λ_=>trivial) (λ_=>trivial) (λ_=>trivial) (λ_ _ _=>trivial) (λ_ _ _=>trivial) (λ_ _ _=>trivial) (λ_=>trivial) trivial (λ_ _ _ _=>trivial) nil (λa r _ b=>cons a r b) h
theorem nE.len(h:nE K F vs xs):vs.length=xs.length:=by
 induction h using nE.ind with
 |nil=>rfl
 |cons _ _ ih=>exact congrArg (·+1) ih
variable{i:Nat}
theorem nE.get(h:nE K F vs xs)(e:xs[i]?=some x):∃v,vs[i]?=some v/\Rep K F v x:=by
 induction h using nE.ind generalizing i with
 |nil=>cases e
 |cons a _ ih=>cases i with
  |zero=>cases e;exact⟨_,rfl,a⟩
  |succ i=>exact ih e
theorem nE.HS(h:nE K F vs xs)(e:vs[i]?=some v):∃x,xs[i]?=some x/\Rep K F v x:=by
 induction h using nE.ind generalizing i with
 |nil=>cases e
 |cons a _ ih=>cases i with
  |zero=>cases e;exact⟨_,rfl,a⟩
  |succ i=>exact ih e
variable{ws:List V}{ys:List PV}
theorem nE.app(h:nE K F vs xs)(k:nE K F ws ys):nE K F (vs++ws) (xs++ys):=by
 induction h using nE.ind with
 |nil=>exact k
 |cons a _ ih=>exact .cons a ih
theorem nE.take(n:Nat)(h:nE K F vs xs):nE K F (vs.take n) (xs.take n):=by
 induction h using nE.ind generalizing n with
 |nil=>cases n<;>exact .nil
 |cons a _ ih=>cases n with
  |zero=>exact .nil
  |succ n=>exact .cons a (ih n)
theorem nE.drop(n:Nat)(h:nE K F vs xs):nE K F (vs.drop n) (xs.drop n):=by
 induction h using nE.ind generalizing n with
 |nil=>cases n<;>exact .nil
 |cons a r ih=>cases n with
  |zero=>exact .cons a r
  |succ n=>exact ih n
theorem nE.PB(n:Nat)(k:Rep K F v x)(h:nE K F vs xs):nE K F (vs.set n v) (xs.set n x):=by
 induction h using nE.ind generalizing n with
 |nil=>exact .nil
 |cons a r ih=>cases n with
  |zero=>exact .cons k r
  |succ n=>exact .cons a (ih n)
theorem nE.rev(h:nE K F vs xs):nE K F vs.reverse xs.reverse:=by
 induction h using nE.ind with
 |nil=>exact .nil
 |cons a _ ih=>
  rw[acM,acM]
  exact ih.app (.cons a .nil)
theorem yV.len{vs:List (Key×V)}{xs:List (Key×PV)}(h:yV K F vs xs):vs.length=xs.length:=by
 induction h using yV.ind with
 |nil=>rfl
 |cons _ _ ih=>exact congrArg (·+1) ih
theorem yV.keys{vs:List (Key×V)}{xs:List (Key×PV)}(h:yV K F vs xs):vs.map (·.1)=xs.map (·.1):=by
 induction h using yV.ind with
 |nil=>rfl
 |cons _ _ ih=>exact congrArg (List.cons _) ih
structure Sl where
 k:Nat
 v:PV
abbrev En:=List (Option Sl)
structure Ap where
 P:Hp->Hp->Addr->List Addr->PV->Prop
 mono:∀F F' H H' a l x,P F H a l x->bY F F'->(∀c∈l,H' c=H c)->P F' H' a l x
structure Md where
 P:aaH
 w:World
 K:aag
 ob:Ap
structure Zn where
 H₀:Hp
 F₀:Hp
 S:List Addr
 oa:Nat->Option Addr:=λ_=>none
 sS:∀b∈S,H₀ b≠none
def AJ(M:Md)(F H:Hp)(a:Addr):PV->Prop
 |.lst xs=>∃vs,H a=some (.lst vs)/\nE M.K F vs xs
 |.zB xs=>∃vs,H a=some (.dK vs)/\yV M.K F vs xs
 |.set xs=>H a=some (Ko M.P M.w a (λs=>decide (s∈xs)) xs.length)
 |_=>False
variable{M:Md}{H':Hp}
theorem AJ.mono(s:bY F F')(e:H' a=H a)(h:AJ M F H a x):AJ M F' H' a x:=by
 cases x<;>try exact h.elim
 .obtain⟨vs,h1,h2⟩:=h
  exact⟨vs,e.trans h1,h2.mono s⟩
 .obtain⟨vs,h1,h2⟩:=h
  exact⟨vs,e.trans h1,h2.mono s⟩
 .exact e.trans h
def Dz(M:Md)(Z:Zn)(F H:Hp)(v:V)(s:Sl)(fp:List Addr):Prop :=
 (s.k=0/\fp=[]/\Rep M.K F v s.v)\/(s.k=1/\∃a,v=.ref a/\fp=[a]/\Z.H₀ a=none/\AJ M F H a s.v) \/
 ((s.k=2\/s.k=4)/\∃a,v=.ref a/\(∀c∈fp,c∈Z.S\/Z.H₀ c=none)/\M.ob.P F H a fp s.v) \/
 (s.k=3/\∃a,v=.ref a/\fp=[a]/\a∈Z.S/\AJ M F H a s.v)
structure Slots(M:Md)(Z:Zn)(F:Hp)(σ:St)(H:Hp)(env:En)(fp:Nat->List Addr):Prop where
 at':∀i s,env[i]?=some (some s)->∃v,σ[i]?=some (some v)/\Dz M Z F H v s (fp i)
 al:∀i a,a∈fp i->H a≠none/\F a=none
 dj:∀i j a,i≠j->a∈fp i->a∉fp j
 oa:∀i a s,Z.oa i=some a->env[i]?=some (some s)->s.k=2->σ[i]?=some (some (.ref a))
structure tO(M:Md)(Z:Zn)(F:Hp)(σ:St)(H:Hp)(env:En):Prop where
 sF:bY F H
 sG:∀b o,Z.H₀ b=some o->b∉Z.S->H b=some o
 pr:∀b,Z.H₀ b≠none->H b≠none
 gr:bY Z.F₀ F
 nw:∀a,F a≠none->Z.F₀ a≠none\/Z.H₀ a=none
 len:env.length=σ.length
 sl:∃fp,Slots M Z F σ H env fp
variable{Z:Zn}{σ:St}{env:En}{s:Sl}{fp:List Addr}
theorem Dz.mono(s1:bY F F')(e:∀c∈fp,H' c=H c)(h:Dz M Z F H v s fp):Dz M Z F' H' v s fp:=by
 rcases h with ⟨a,b,c⟩|⟨a,p,rfl,rfl,c,d⟩|⟨a,p,rfl,c,d⟩|⟨a,p,rfl,rfl,c,d⟩
 .exact .inl ⟨a,b,c.mono s1⟩
 .exact .inr (.inl ⟨a,p,rfl,rfl,c,d.mono s1 (e p (by simp))⟩)
 .exact .inr (.inr (.inl ⟨a,p,rfl,c,M.ob.mono _ _ _ _ _ _ _ d s1 e⟩))
 .exact .inr (.inr (.inr ⟨a,p,rfl,rfl,c,d.mono s1 (e p (by simp))⟩))
theorem am:bY H H:=λ_ _ h=>h
theorem ah{A B C:Hp}(x:bY A B)(y:bY B C):bY A C:=λa o h=>y a o (x a o h)
variable{p:Addr}{o:HO}
theorem ay(h:F p=none):bY F (upd F p o):=λa u e=>by rw[ag (aw e h)];exact e
theorem bY.none_of{A B:Hp}(s:bY A B)(h:B a=none):A a=none:=by
 cases e:A a with
 |none=>rfl
 |some o=>rw[s a o e]at h;cases h
theorem Slots.move{fp:Nat->List Addr}(L:Slots M Z F σ H env fp)(s1:bY F F')(s3:∀i c o,c∈fp i->H c=some o->H' c=some o)(nw:∀a,F' a≠none->F a≠none\/H a=none):Slots M Z F' σ H' env fp:=by
 refine⟨λi s h=>?_,λi a h=>?_,L.dj,L.oa⟩
 .obtain⟨v,h1,h2⟩:=L.at' i s h
  refine⟨v,h1,h2.mono s1 λc hc=>?_⟩
  cases e:H c with
  |none=>exact absurd e (L.al i c hc).1
  |some o=>exact s3 i c o hc e
 .obtain⟨h1,h2⟩:=L.al i a h
  constructor
  .cases e:H a with
   |none=>exact absurd e h1
   |some o=>rw[s3 i a o h e];simp
  .cases e:F' a with
   |none=>rfl
   |some o=>
    rcases nw a (by rw[e];simp)with z|z
    .exact absurd h2 z
    .exact absurd z h1
variable{l:List Addr}
theorem Slots.put{fp:Nat->List Addr}(L:Slots M Z F σ H env fp)(hk:s.k≠2)(hi:i<σ.length)(h:Dz M Z F H v s l)(al:∀a∈l,H a≠none/\F a=none)(dj:∀j a,j≠i->a∈l->a∉fp j):
  Slots M Z F (σ.set i (some v)) H (env.set i (some s)) (λj=>if j=i then l else fp j):=by
 refine⟨λj t e=>?_,λj a e=>?_,λj k a E6 e z=>?_,λj a t e1 e2 e3=>?_⟩
 case refine_4=>
  by_cases q:j=i
  .subst q
   rw[abR]at e2
   simp only[if_true]at e2
   split at e2
   .cases e2;exact absurd e3 hk
   .cases e2
  .rw[aaI (abW q)]at e2
   rw[aaI (abW q)]
   exact L.oa j a t e1 e2 e3
 .by_cases q:j=i
  .subst q
   rw[abR]at e
   simp only[if_true]at e
   split at e
   .first|(exfalso;revert e;simp;done)|cases e
    exact⟨v,by simp[hi],by rw[if_pos rfl];exact h⟩
   .first|(exfalso;revert e;simp;done)|cases e
  .rw[aaI (abW q)]at e
   rw[aaI (abW q),if_neg q]
   exact L.at' j t e
 .by_cases q:j=i
  .rw[if_pos q]at e;exact al a e
  .rw[if_neg q]at e;exact L.al j a e
 .by_cases q:j=i
  .rw[if_pos q]at e
   rw[if_neg (λy=>E6 (q.trans y.symm))]at z
   exact dj k a (λy=>E6 (q.trans y.symm)) e z
  .rw[if_neg q]at e
   by_cases q2:k=i
   .rw[if_pos q2]at z
    exact dj j a q z e
   .rw[if_neg q2]at z
    exact L.dj j k a E6 e z
theorem Slots.push{fp:Nat->List Addr}(L:Slots M Z F σ H env fp)(hk:s.k≠2)(hn:env.length=σ.length)(h:Dz M Z F H v s l)(al:∀a∈l,H a≠none/\F a=none)(dj:∀j a,a∈l->a∉fp j):
  Slots M Z F (σ++[some v]) H (env++[some s]) (λj=>if j=env.length then l else fp j):=by
 refine⟨λj t e=>?_,λj a e=>?_,λj k a E6 e z=>?_,λj a t e1 e2 e3=>?_⟩
 case refine_4=>
  by_cases q:j=env.length
  .subst q
   simp at e2
   subst e2
   exact absurd e3 hk
  .have hj:j<env.length:=by
    have:j<(env++[some s]).length:=by
     rcases aa7 j (env++[some s]).length with y|y
     .exact y
     .rw[aap y]at e2;cases e2
    simp at this;omega
   rw[aax hj]at e2
   rw[aax (by omega)]
   exact L.oa j a t e1 e2 e3
 .by_cases q:j=env.length
  .subst q
   simp at e
   subst e
   exact⟨v,by rw[hn];simp,by rw[if_pos rfl];exact h⟩
  .rw[if_neg q]
   have hj:j<env.length:=by
    have:j<(env++[some s]).length:=by
     rcases aa7 j (env++[some s]).length with y|y
     .exact y
     .rw[aap y]at e;cases e
    simp at this;omega
   rw[aax hj]at e
   rw[aax (by omega)]
   exact L.at' j t e
 .by_cases q:j=env.length
  .rw[if_pos q]at e;exact al a e
  .rw[if_neg q]at e;exact L.al j a e
 .by_cases q:j=env.length
  .rw[if_pos q]at e
   rw[if_neg (λy=>E6 (q.trans y.symm))]at z
   exact dj k a e z
  .rw[if_neg q]at e
   by_cases q2:k=env.length
   .rw[if_pos q2]at z
    exact dj j a z e
   .rw[if_neg q2]at z
    exact L.dj j k a E6 e z
theorem Slots.drop{fp:Nat->List Addr}(L:Slots M Z F (σ++[some v]) H (env++[some s]) fp)(hn:env.length=σ.length):Slots M Z F σ H env fp:=by
 have lt:∀{j:Nat} {t:Sl},env[j]?=some (some t)->j<env.length:=λ{j t} e=>by
  rcases aa7 j env.length with y|y
  .exact y
  .rw[aap y]at e;cases e
 refine⟨λj t e=>?_,L.al,L.dj,λj a t e1 e2 e3=>?_⟩
 .have hj:=lt e
  obtain⟨v',h1,h2⟩:=L.at' j t (by rw[aax hj];exact e)
  rw[aax (by omega)]at h1
  exact⟨v',h1,h2⟩
 .have hj:=lt e2
  have:=L.oa j a t e1 (by rw[aax hj];exact e2) e3
  rw[aax (by omega)]at this
  exact this
theorem Slots.last{fp:Nat->List Addr}(L:Slots M Z F (σ++[some v]) H (env++[some s]) fp)(hn:env.length=σ.length):Dz M Z F H v s (fp env.length):=by
 obtain⟨v',h1,h2⟩:=L.at' env.length s (by simp)
 rw[hn]at h1
 simp at h1
 subst h1
 exact h2
theorem tO.h0(K:tO M Z F σ H env)(h:H a=none):Z.H₀ a=none:=by
 cases e:Z.H₀ a with
 |none=>rfl
 |some o=>exact absurd h (K.pr a (by rw[e];simp))
theorem tO.move(K:tO M Z F σ H env)(s1:bY F F')(s2:bY F' H')(s3:bY H H')(nw:∀a,F' a≠none->F a≠none\/H a=none):tO M Z F' σ H' env:=by
 obtain⟨fp,L⟩:=K.sl
 refine⟨s2,λb o h1 h2=>s3 b o (K.sG b o h1 h2),λb h=>?_,ah K.gr s1,λa h=>?_,K.len,fp,L.move s1 (λ_ c o _ e=>s3 c o e) nw⟩
 .cases e:H b with
  |none=>exact absurd e (K.pr b h)
  |some o=>rw[s3 b o e];simp
 .rcases nw a h with h1|h1
  .exact K.nw a h1
  .exact .inr (K.h0 h1)
theorem tO.lay(K:tO M Z F σ H env)(h:H p=none):tO M Z (upd F p o) σ (upd H p o) env:=by
 have hF:F p=none:=bY.none_of K.sF h
 refine K.move (ay hF) (λa u e=>?_) (ay h) λa e=>?_
 .by_cases q:a=p
  .subst q;rw[ak]at e ⊢;exact e
  .rw[ag q]at e ⊢;exact K.sF a u e
 .by_cases q:a=p
  .subst q;exact .inr h
  .rw[ag q]at e;exact .inl e
theorem tO.slots{σ':St}{dO:En}{fp:Nat->List Addr}(K:tO M Z F σ H env)(hn:dO.length=σ'.length)(L:Slots M Z F σ' H dO fp):tO M Z F σ' H dO:=⟨K.sF,K.sG,K.pr,K.gr,K.nw,hn,fp,L⟩
theorem tO.own(K:tO M Z F σ H env)(h:H p=none)(hx:AJ M F (upd H p o) p x):tO M Z F (σ++[some (.ref p)]) (upd H p o) (env++[some ⟨1,x⟩]):=by
 have hF:F p=none:=bY.none_of K.sF h
 have K1:tO M Z F σ (upd H p o) env:=K.move am (λa u e=>by rw[ag (aw e hF)];exact K.sF a u e) (ay h) λa e=>.inl e
 obtain⟨fp,L⟩:=K.sl
 have L1:Slots M Z F σ (upd H p o) env fp:=L.move am (λ_ c u _ e=>ay h c u e) λa e=>.inl e
 refine K1.slots (by simp[K.len]) (L1.push (l:=[p]) (by simp) K.len (.inr (.inl ⟨rfl,p,rfl,rfl,K.h0 h,hx⟩)) (λa ha=>?_) λj a ha hj=>?_)
 .simp at ha;subst ha
  exact⟨by rw[ak];simp,hF⟩
 .simp at ha;subst ha
  exact(L.al j a hj).1 h
theorem tO.drop(K:tO M Z F (σ++[some v]) H (env++[some s])):tO M Z F σ H env:=by
 have hn:env.length=σ.length:=by have:=K.len;simpa using this
 obtain⟨fp,L⟩:=K.sl
 exact K.slots hn (L.drop hn)
theorem AJ.rep(h:AJ M F H a x)(hx:∀xs,x≠.set xs)(hF:F a=none)(ho:H a=some o):Rep M.K (upd F a o) (.ref a) x:=by
 have s1:bY F (upd F a o):=ay hF
 cases x<;>try exact h.elim
 .obtain⟨vs,h1,h2⟩:=h
  rw[ho]at h1;cases h1
  exact .lst ak (h2.mono s1)
 .obtain⟨vs,h1,h2⟩:=h
  rw[ho]at h1;cases h1
  exact .zB ak (h2.mono s1)
 .exact absurd rfl (hx _)
theorem tO.BB{fp:Nat->List Addr}{σ':St}{dO:En}(K:tO M Z F σ H env)(L:Slots M Z F σ H env fp)(hf:fp i=[a])(h0:Z.H₀ a=none)(ho:H a=some o)
  (hn:dO.length=σ'.length) (hs:∀j s,j≠i->dO[j]?=some (some s)->env[j]?=some (some s)/\σ'[j]?=σ[j]?)
  (hi:∀s,dO[i]?=some (some s)->∃v,σ'[i]?=some (some v)/\s.k=0/\Rep M.K (upd F a o) v s.v):tO M Z (upd F a o) σ' H dO:=by
 have ha:=L.al i a (by rw[hf];simp)
 have s1:bY F (upd F a o):=ay ha.2
 refine⟨λb u e=>?_,K.sG,K.pr,ah K.gr s1,λb e=>?_,hn,λj=>if j=i then []else fp j,λj s h=>?_,λj b h=>?_,λj k b E6 h z=>?_,λj b t e1 e2 e3=>?_⟩
 .by_cases q:b=a
  .subst q;rw[ak]at e;cases e;exact ho
  .rw[ag q]at e;exact K.sF b u e
 .by_cases q:b=a
  .subst q;exact .inr h0
  .rw[ag q]at e;exact K.nw b e
 .by_cases q:j=i
  .subst q
   obtain⟨v,h1,h2,h3⟩:=hi s h
   exact⟨v,h1,.inl ⟨h2,if_pos rfl,h3⟩⟩
  .obtain⟨e1,e2⟩:=hs j s q h
   obtain⟨v,h1,h2⟩:=L.at' j s e1
   exact⟨v,by rw[e2];exact h1,by rw[if_neg q];exact h2.mono s1 λ_ _=>rfl⟩
 .by_cases q:j=i
  .rw[if_pos q]at h;simp at h
  .rw[if_neg q]at h
   have hb:=L.al j b h
   have:b≠a:=λz=>L.dj j i b q h (by rw[hf,z];simp)
   exact⟨hb.1,by rw[ag this];exact hb.2⟩
 .by_cases q:j=i
  .rw[if_pos q]at h;simp at h
  .rw[if_neg q]at h
   by_cases q2:k=i
   .rw[if_pos q2]at z;simp at z
   .rw[if_neg q2]at z;exact L.dj j k b E6 h z
 .by_cases q:j=i
  .subst q
   obtain⟨_,_,h2,_⟩:=hi t e2
   rw[e3]at h2;cases h2
  .obtain⟨f1,f2⟩:=hs j t q e2
   rw[f2];exact L.oa j b t e1 f1 e3
theorem b9(h:H a≠none):∃o,H a=some o:=by
 cases e:H a with
 |none=>exact absurd e h
 |some o=>exact⟨o,rfl⟩
theorem tO.Gh(K:tO M Z F (σ++[some v]) H (env++[some ⟨1,x⟩]))(hx:∀xs,x≠.set xs):∃F',bY F F'/\tO M Z F' σ H env/\Rep M.K F' v x:=by
 have hn:env.length=σ.length:=by have:=K.len;simpa using this
 obtain⟨fp,L⟩:=K.sl
 rcases L.last hn with ⟨e,_⟩|⟨_,a,rfl,hf,h0,hw⟩|⟨e,_⟩|⟨e,_⟩
 .first|(exfalso;revert e;simp;done)|cases e
 .have ha:=L.al env.length a (by rw[hf];simp)
  obtain⟨o,ho⟩:=b9 ha.1
  refine⟨upd F a o,ay ha.2,K.BB L hf h0 ho hn (λj s _ e=>?_) (λs e=>?_),hw.rep hx ha.2 ho⟩
  .have hj:j<env.length:=by
    rcases aa7 j env.length with y|y
    .exact y
    .rw[aap y]at e;cases e
   rw[aax hj,aax (by omega)]
   exact⟨e,rfl⟩
  .simp at e
 .first|(exfalso;revert e;simp;done)|cases e
 .first|(exfalso;revert e;simp;done)|cases e
theorem tO.freeze(K:tO M Z F σ H env)(hi:env[i]?=some (some ⟨1,x⟩))(hx:∀xs,x≠.set xs):∃F' v,σ[i]?=some (some v)/\bY F F'/\tO M Z F' σ H (env.set i (some ⟨0,x⟩))/\Rep M.K F' v x:=by
 obtain⟨fp,L⟩:=K.sl
 obtain⟨v,hv,h⟩:=L.at' i _ hi
 rcases h with ⟨e,_⟩|⟨_,a,rfl,hf,h0,hw⟩|⟨e,_⟩|⟨e,_⟩
 .first|(exfalso;revert e;simp;done)|cases e
 .have ha:=L.al i a (by rw[hf];simp)
  obtain⟨o,ho⟩:=b9 ha.1
  refine⟨upd F a o,_,hv,ay ha.2,K.BB L hf h0 ho (by simp[K.len]) (λj s q e=>?_) (λs e=>?_),hw.rep hx ha.2 ho⟩
  .rw[aaI (abW q)]at e
   exact⟨e,rfl⟩
  .rw[abR]at e
   simp only[if_true]at e
   split at e
   .first|(exfalso;revert e;simp;done)|cases e
    exact⟨_,hv,rfl,hw.rep hx ha.2 ho⟩
   .first|(exfalso;revert e;simp;done)|cases e
 .first|(exfalso;revert e;simp;done)|cases e
 .first|(exfalso;revert e;simp;done)|cases e
theorem tO.put(K:tO M Z F σ H env)(h:Rep M.K F v x):tO M Z F (σ.set i (some v)) H (env.set i (some ⟨0,x⟩)):=by
 obtain⟨fp,L⟩:=K.sl
 rcases aa7 i env.length with hi|hi
 case inr=>
  rw[abu hi,abu (by have:=K.len;omega)]
  exact K
 exact K.slots (by simp[K.len]) (L.put (l:=[]) (by simp) (by have:=K.len;omega) (.inl ⟨rfl,rfl,h⟩) (λa h=>by simp at h) λj a _ h=>by simp at h)
theorem tO.take(K:tO M Z F (σ++[some v]) H (env++[some s]))(hk:s.k≠2:=by simp):tO M Z F (σ.set i (some v)) H (env.set i (some s)):=by
 have hn:env.length=σ.length:=by have:=K.len;simpa using this
 rcases aa7 i env.length with hi|hi
 case inr=>
  rw[abu hi,abu (by omega)]
  exact K.drop
 obtain⟨fp,L⟩:=K.sl
 have hl:=L.last hn
 refine K.slots (by simp[hn]) (Slots.put (l:=fp env.length) (fp:=λj=>if j=env.length then []else fp j) ⟨λj t e=>?_,λj a e=>?_,λj k a E6 e z=>?_,(L.drop hn).oa⟩ hk (by omega) hl (λa=>L.al _ a) λj a _ h z=>?_)
 .have hj:j<env.length:=by
   rcases aa7 j env.length with y|y
   .exact y
   .rw[aap y]at e;cases e
  rw[if_neg (by omega)]
  obtain⟨v',h1,h2⟩:=L.at' j t (by rw[aax hj];exact e)
  rw[aax (by omega)]at h1
  exact⟨v',h1,h2⟩
 .split at e
  .simp at e
  .exact L.al j a e
 .split at e
  .simp at e
  .split at z
   .simp at z
   .exact L.dj j k a E6 e z
 .split at z
  .simp at z
  .rename_i q
   exact L.dj env.length j a (abW q) h z
variable{k:Nat}{y:PV}
theorem tO.write(K:tO M Z F σ H env)(hk:k=1\/k=3)(hi:env[i]?=some (some ⟨k,x⟩))(hv:σ[i]?=some (some (.ref a)))(hw:AJ M F (upd H a o) a y):tO M Z F σ (upd H a o) (env.set i (some ⟨k,y⟩)):=by
 obtain⟨fp,L⟩:=K.sl
 obtain⟨v,JI,h⟩:=L.at' i _ hi
 rw[hv]at JI;cases JI
 obtain⟨hf,hd,Fy⟩:fp i=[a]/\(Z.H₀ a=none\/a∈Z.S)/\Dz M Z F (upd H a o) (.ref a) ⟨k,y⟩ [a]:=by
  rcases h with ⟨e,_⟩|⟨e,a',ea,hf,h0,hx⟩|⟨e,_⟩|⟨e,a',ea,hf,h0,hx⟩
  .rcases hk with rfl|rfl<;>exact absurd e (by simp)
  .cases ea
   exact⟨hf,.inl h0,.inr (.inl ⟨e,a,rfl,rfl,h0,hw⟩)⟩
  .rcases hk with rfl|rfl<;>exact absurd e (by simp)
  .cases ea
   exact⟨hf,.inr h0,.inr (.inr (.inr ⟨e,a,rfl,rfl,h0,hw⟩))⟩
 have ha:=L.al i a (by rw[hf];simp)
 refine⟨λb u e=>?_,λb u h1 h2=>?_,λb h=>?_,K.gr,K.nw,by simp[K.len],fp,λj s e=>?_,λj b h=>?_,L.dj,λj b t e1 e2 e3=>?_⟩
 .rw[ag (aw e ha.2)];exact K.sF b u e
 .have:b≠a:=by
   rcases hd with h0|h0
   .exact aw h1 h0
   .exact λz=>h2 (by rw[z];exact h0)
  rw[ag this];exact K.sG b u h1 h2
 .by_cases q:b=a
  .subst q;rw[ak];simp
  .rw[ag q];exact K.pr b h
 .by_cases q:j=i
  .subst q
   rw[abR]at e
   simp only[if_true]at e
   split at e
   .first|(exfalso;revert e;simp;done)|cases e
    exact⟨_,hv,by rw[hf];exact Fy⟩
   .first|(exfalso;revert e;simp;done)|cases e
  .rw[aaI (abW q)]at e
   obtain⟨v,h1,h2⟩:=L.at' j s e
   refine⟨v,h1,h2.mono am λc hc=>ag λz=>?_⟩
   exact L.dj j i c q hc (by rw[hf,z];simp)
 .have hb:=L.al j b h
  refine⟨?_,hb.2⟩
  by_cases q:b=a
  .subst q;rw[ak];simp
  .rw[ag q];exact hb.1
 .by_cases q:j=i
  .subst q
   rw[abR]at e2
   simp only[if_true]at e2
   split at e2
   .cases e2;rcases hk with rfl|rfl<;>cases e3
   .cases e2
  .rw[aaI (abW q)]at e2
   exact L.oa j b t e1 e2 e3
def Vw(M:Md)(F H:Hp)(v:V)(x:PV):Prop:=Rep M.K F v x\/∃a,v=.ref a/\AJ M F H a x
theorem Vw.lst(h:Vw M F H v (.lst xs))(s:bY F H):∃a vs,v=.ref a/\H a=some (.lst vs)/\nE M.K F vs xs:=by
 rcases h with h|⟨a,rfl,vs,h1,h2⟩
 .cases h with
  |lst h1 h2=>exact⟨_,_,rfl,s _ _ h1,h2⟩
 .exact⟨a,vs,rfl,h1,h2⟩
theorem Vw.tup(h:Vw M F H v (.tup xs))(s:bY F H):∃a vs,v=.ref a/\zW M.K H a vs/\nE M.K F vs xs:=by
 rcases h with h|⟨a,rfl,h⟩
 .cases h with
  |tup h1 h2=>exact⟨_,_,rfl,av s h1,h2⟩
 .exact h.elim
theorem Vw.zB{xs:List (Key×PV)}(h:Vw M F H v (.zB xs))(s:bY F H):∃a vs,v=.ref a/\H a=some (.dK vs)/\yV M.K F vs xs:=by
 rcases h with h|⟨a,rfl,vs,h1,h2⟩
 .cases h with
  |zB h1 h2=>exact⟨_,_,rfl,s _ _ h1,h2⟩
 .exact⟨a,vs,rfl,h1,h2⟩
theorem Vw.int{i:Int}(h:Vw M F H v (.int i)):v=.int i:=by
 rcases h with h|⟨a,rfl,h⟩
 .cases h;rfl
 .exact h.elim
theorem Vw.bl{b:Bool}(h:Vw M F H v (.bl b)):v=.bl b:=by
 rcases h with h|⟨a,rfl,h⟩
 .cases h;rfl
 .exact h.elim
theorem Vw.str{x:Str}(h:Vw M F H v (.str x)):v=.str x:=by
 rcases h with h|⟨a,rfl,h⟩
 .cases h;rfl
 .exact h.elim
theorem Vw.oR(h:Vw M F H v .oR):v=.oR:=by
 rcases h with h|⟨a,rfl,h⟩
 .cases h;rfl
 .exact h.elim
theorem tO.vw(K:tO M Z F σ H env)(hi:env[i]?=some (some s))(hk:s.k≠2/\s.k≠4):∃v,σ[i]?=some (some v)/\Vw M F H v s.v:=by
 obtain⟨fp,L⟩:=K.sl
 obtain⟨v,hv,h⟩:=L.at' i _ hi
 rcases h with ⟨_,_,h⟩|⟨_,a,rfl,_,_,h⟩|⟨e,_⟩|⟨_,a,rfl,_,_,h⟩
 .exact⟨v,hv,.inl h⟩
 .exact⟨_,hv,.inr ⟨a,rfl,h⟩⟩
 .exact(e.elim hk.1 hk.2).elim
 .exact⟨_,hv,.inr ⟨a,rfl,h⟩⟩
theorem tO.val(K:tO M Z F σ H env)(hi:env[i]?=some (some ⟨0,x⟩)):∃v,σ[i]?=some (some v)/\Rep M.K F v x:=by
 obtain⟨fp,L⟩:=K.sl
 obtain⟨v,hv,h⟩:=L.at' i _ hi
 rcases h with ⟨_,_,h⟩|⟨e,_⟩|⟨e,_⟩|⟨e,_⟩
 .exact⟨v,hv,h⟩
 .first|(exfalso;revert e;simp;done)|cases e
 .first|(exfalso;revert e;simp;done)|cases e
 .first|(exfalso;revert e;simp;done)|cases e
theorem tO.ownAt(K:tO M Z F σ H env)(hk:k=1\/k=3)(hi:env[i]?=some (some ⟨k,x⟩)):∃a,σ[i]?=some (some (.ref a))/\AJ M F H a x:=by
 obtain⟨fp,L⟩:=K.sl
 obtain⟨v,hv,h⟩:=L.at' i _ hi
 rcases h with ⟨e,_⟩|⟨_,a,rfl,_,_,h⟩|⟨e,_⟩|⟨_,a,rfl,_,_,h⟩
 .rcases hk with rfl|rfl<;>exact absurd e (by simp)
 .exact⟨a,hv,h⟩
 .rcases hk with rfl|rfl<;>exact absurd e (by simp)
 .exact⟨a,hv,h⟩
abbrev WE:=En->(PV->En->Prop)->Prop
abbrev WT:=En->(Bool->En->Prop)->Prop
abbrev WA:=En->(List PV->En->Prop)->Prop
structure Wd where
 nx:En->Prop
 rt:PV->En->Prop
 bk:En->Prop:=λ_=>False
 ct:En->Prop:=λ_=>False
 rf:PV->En->Prop:=λ_ _=>False
 ro:PV->Nat->En->Prop:=λ_ _ _=>False
abbrev WS:=Wd->En->Prop
abbrev md(ob:Ap)(X:Cx):Md:=⟨X.prog,X.w,X.K,ob⟩
structure zq(ob:Ap)(X:Cx)(e:Expr)(f:WE):Prop where
 ex:∃t:TE,PE X e t/\∀(Z:Zn) (F:Hp) (σ:St) (H:Hp) (env:En) (P:PV->En->Prop) (Q:VK),tO (md ob X) Z F σ H env->f env P ->
  (∀x dO v F' H',P x dO->bY F F'->tO (md ob X) Z F' σ H' dO->Rep X.K F' v x->Q v H')->t σ H Q
structure C7(ob:Ap)(X:Cx)(e:Expr)(f:WE):Prop where
 ex:∃t:TE,PE X e t/\∀(Z:Zn) (F:Hp) (σ:St) (H:Hp) (env:En) (P:PV->En->Prop) (Q:VK),tO (md ob X) Z F σ H env->f env P ->
  (∀x dO v F' H',P x dO->bY F F'->tO (md ob X) Z F' σ H' dO->Vw (md ob X) F' H' v x->Q v H')->t σ H Q
structure Ha(ob:Ap)(X:Cx)(e:Expr)(f:WE):Prop where
 ex:∃t:TE,PE X e t/\∀(Z:Zn) (F:Hp) (σ:St) (H:Hp) (env:En) (P:PV->En->Prop) (Q:VK),tO (md ob X) Z F σ H env->f env P ->
  (∀x dO v F' H',P x dO->bY F F'->(∀xs,x≠.set xs)->tO (md ob X) Z F' (σ++[some v]) H' (dO++[some ⟨1,x⟩])->Q v H')->t σ H Q
structure E7(ob:Ap)(X:Cx)(e:Expr)(f:WT):Prop where
 ex:∃t:TT,PT X e t/\∀(Z:Zn) (F:Hp) (σ:St) (H:Hp) (env:En) (P:Bool->En->Prop) (Q:Bool->Hp->Prop),tO (md ob X) Z F σ H env->f env P ->
  (∀b dO F' H',P b dO->bY F F'->tO (md ob X) Z F' σ H' dO->Q b H')->t σ H Q
structure LG(ob:Ap)(X:Cx)(e:Expr)(f:WT):Prop where
 ex:∃t:TT,PW X e t/\∀(Z:Zn) (F:Hp) (σ:St) (H:Hp) (env:En) (P:Bool->En->Prop) (Q:Bool->Hp->Prop),tO (md ob X) Z F σ H env->f env P ->
  (∀b dO F' H',P b dO->bY F F'->tO (md ob X) Z F' σ H' dO->Q b H')->t σ H Q
structure Et(ob:Ap)(X:Cx)(es:List Expr)(f:WA):Prop where
 ex:∃t:TA,PA X es t/\∀(Z:Zn) (F:Hp) (σ:St) (H:Hp) (env:En) (P:List PV->En->Prop) (Q:List V->Hp->Prop),tO (md ob X) Z F σ H env->f env P ->
  (∀xs dO vs F' H',P xs dO->xs.length=es.length->bY F F'->tO (md ob X) Z F' σ H' dO->nE X.K F' vs xs->Q vs H')->t σ H Q
def eC(x:PV):WE:=λenv P=>P x env
def eV(i:Nat):WE:=λenv P=>match env[i]? with
 |some (some ⟨0,x⟩)=>P x env
 |some (some ⟨1,.lst xs⟩)=>P (.lst xs) (env.set i (some ⟨0,.lst xs⟩))
 |some (some ⟨1,.zB xs⟩)=>P (.zB xs) (env.set i (some ⟨0,.zB xs⟩))
 |_=>False
def Ai(i:Nat):WE:=λenv P=>match env[i]? with
 |some (some ⟨0,x⟩)=>P x env
 |some (some ⟨1,x⟩)=>P x env
 |some (some ⟨3,x⟩)=>P x env
 |_=>False
variable{α:Type}
def opt(o:Option α)(P:α->Prop):Prop:=∃z,o=some z/\P z
theorem BZ{z:α}{P:α->Prop}:opt (some z) P↔P z:=⟨λ⟨_,e,h⟩=>by cases e;exact h,λh=>⟨z,rfl,h⟩⟩
def iD:WA:=λenv P=>P [] env
def aS(a:WE)(r:WA):WA:=λenv P=>a env λx e1=>r e1 λxs e2=>P (x::xs) e2
def Bu(a:WA):WE:=λenv P=>a env λxs e=>P (.tup xs) e
def Bi(a:WA):WE:=λenv P=>a env λxs e=>P (.lst xs) e
def yU(g:PV->PV->Option PV)(a b:WE):WE:=λenv P=>a env λx e1=>b e1 λy e2=>opt (g x y) λz=>P z e2
def JM(g:PV->Option PV)(a:WE):WE:=λenv P=>a env λx e1=>opt (g x) λz=>P z e1
def Cy(g:PV->PV->Option PV)(i:Nat)(b:WE):WE:=λenv P=>(env[i]?).join.isSome=true/\b env λy e2=>Ai i e2 λx _=>opt (g x y) λz=>P z e2
def yZ(a:WE):WT:=λenv P=>a env λx e=>opt (match x with|.bl b=>some b|_=>none) λb=>P b e
def Ez(a b:WT):WT:=λenv P=>a env λx e=>if x=true then b e P else P false e
def Gw(a b:WT):WT:=λenv P=>a env λx e=>if x=true then P true e else b e P
def Bn(a:WT):WT:=λenv P=>a env λx e=>P (!x) e
def Mk(c:WT)(a b:WE):WE:=λenv P=>c env λx e=>if x=true then a e P else b e P
variable{ob:Ap}{X:Cx}{e a b c:Expr}{es:List Expr}{pos:Pos}{f g h:WE}
theorem yW(he:zq ob X e f):C7 ob X e f:=by
 obtain⟨t,ht,h⟩:=he.ex
 exact⟨t,ht,λZ F σ H env P Q K hf k=>h Z F σ H env P Q K hf λx dO v F' H' p s K' r=>k x dO v F' H' p s K' (.inl r)⟩
theorem Bk(he:Ha ob X e f):zq ob X e f:=by
 obtain⟨t,ht,h⟩:=he.ex
 refine⟨t,ht,λZ F σ H env P Q K hf k=>h Z F σ H env P Q K hf λx dO v F' H' p s hx K'=>?_⟩
 obtain⟨F2,s2,K2,r⟩:=K'.Gh hx
 exact k x dO v F2 H' p (ah s s2) K2 r
theorem dU(hp:PE X e (tC v))(hr:∀F,Rep X.K F v x):zq ob X e (eC x) :=
 ⟨_,hp,λZ F σ H env P Q K hf k=>k x env v F H hf am K (hr F)⟩
theorem ai{i j}:zq ob X (.Constant (.int i) j pos) (eC (.int i)):=dU aE λ_=>.int i
theorem bJ{i j}:zq ob X (.Constant (.bool i) j pos) (eC (.bl i)):=dU yD λ_=>.bl i
theorem fB{j}:zq ob X (.Constant .none j pos) (eC .oR):=dU qY λ_=>.oR
theorem nz{i j}:zq ob X (.Constant (.str i) j pos) (eC (.str i)):=dU xn λ_=>.str i
theorem yh(i:Nat){x:Str}(hp:PE X (.Name x pos) (zK i)):zq ob X (.Name x pos) (eV i):=by
 refine⟨_,hp,λZ F σ H env P Q K hf k=>?_⟩
 unfold eV at hf
 split at hf
 .rename_i y hy
  obtain⟨v,hv,r⟩:=K.val hy
  exact⟨v,hv,k _ _ v F H hf am K r⟩
 .rename_i y hy
  obtain⟨F',v,hv,s,K',r⟩:=K.freeze hy (λ_=>by simp)
  exact⟨v,hv,k _ _ v F' H hf s K' r⟩
 .rename_i y hy
  obtain⟨F',v,hv,s,K',r⟩:=K.freeze hy (λ_=>by simp)
  exact⟨v,hv,k _ _ v F' H hf s K' r⟩
 .exact hf.elim
theorem wF(i:Nat){x:Str}(hp:PE X (.Name x pos) (zK i)):C7 ob X (.Name x pos) (Ai i):=by
 refine⟨_,hp,λZ F σ H env P Q K hf k=>?_⟩
 unfold Ai at hf
 split at hf
 .rename_i y hy
  obtain⟨v,hv,r⟩:=K.vw hy (by simp)
  exact⟨v,hv,k _ _ v F H hf am K r⟩
 .rename_i y hy
  obtain⟨v,hv,r⟩:=K.vw hy (by simp)
  exact⟨v,hv,k _ _ v F H hf am K r⟩
 .rename_i y hy
  obtain⟨v,hv,r⟩:=K.vw hy (by simp)
  exact⟨v,hv,k _ _ v F H hf am K r⟩
 .exact hf.elim
theorem af:Et ob X [] iD:=⟨_,bn,λZ F σ H env P Q K hf k=>k [] env [] F H hf rfl am K .nil⟩
variable{fa:WA}
theorem ae(he:zq ob X e f)(hr:Et ob X es fa)(hs:aam (e::es) X.env=(false,eval e X.env)::aam es X.env:=by rfl):Et ob X (e::es) (aS f fa):=by
 obtain⟨t,ht,h⟩:=he.ex
 obtain⟨u,hu,g⟩:=hr.ex
 refine⟨_,aY ht hu hs,λZ F σ H env P Q K hf k=>?_⟩
 refine h Z F σ H env _ _ K hf λx e1 v F1 H1 p s1 K1 r1=>?_
 refine g Z F1 σ H1 e1 _ _ K1 p λxs e2 vs F2 H2 p2 hl s2 K2 r2=>?_
 exact k (x::xs) e2 (v::vs) F2 H2 p2 (by simp[hl]) (ah s1 s2) K2 (.cons (r1.mono s2) r2)
theorem bB{x1}(ha:Et ob X es fa)(hn:es.length<=1000:=by decide):zq ob X (.Tuple es x1 pos) (Bu fa):=by
 obtain⟨t,ht,h⟩:=ha.ex
 refine⟨_,xm ht,λZ F σ H env P Q K hf k=>?_⟩
 refine h Z F σ H env _ _ K hf λxs e1 vs F1 H1 p hl s1 K1 r1=>⟨?_,λq hq=>?_⟩
 .rw[r1.len,hl,aaG];omega
 .have hF:F1 q=none:=bY.none_of K1.sF hq
  exact k _ e1 _ _ _ p (ah s1 (ay hF)) (K1.lay hq) (.tup (.inl (.inl ak)) (r1.mono (ay hF)))
theorem bc(ha:Et ob X es fa)(hn:es.length<=1000:=by decide):Ha ob X (.List es pos) (Bi fa):=by
 obtain⟨t,ht,h⟩:=ha.ex
 refine⟨_,gP ht,λZ F σ H env P Q K hf k=>?_⟩
 refine h Z F σ H env _ _ K hf λxs e1 vs F1 H1 p hl s1 K1 r1=>⟨?_,λq hq=>?_⟩
 .rw[r1.len,hl,aaG];omega
 .exact k _ e1 _ _ _ p s1 (λ_=>by simp) (K1.own hq ⟨vs,ak,r1⟩)
def Ce(ob:Ap)(X:Cx)(r:R2)(g:PV->PV->Option PV):Prop :=
 ∀(Z:Zn) (F:Hp) (σ:St) (H:Hp) (env:En) (v u:V) (x y z:PV) (Q:VK),tO (md ob X) Z F σ H env->Vw (md ob X) F H v x->Vw (md ob X) F H u y->g x y=some z ->
  (∀v' F' H',bY F F'->tO (md ob X) Z F' σ H' env->Rep X.K F' v' z->Q v' H')->r v u H Q
def N0(ob:Ap)(X:Cx)(r:R2)(g:PV->PV->Option PV):Prop :=
 ∀(Z:Zn) (F:Hp) (σ:St) (H:Hp) (env:En) (v u:V) (x y z:PV) (Q:VK),tO (md ob X) Z F σ H env->Rep X.K F v x->Vw (md ob X) F H u y->g x y=some z ->
  (∀v' F' H',bY F F'->tO (md ob X) Z F' σ H' env->Rep X.K F' v' z->Q v' H')->r v u H Q
variable{r:R2}
theorem Ol{o:PV->PV->Option PV}(h:Ce ob X r o):N0 ob X r o:=λZ F σ H env v u x y z Q K rx ry=>h Z F σ H env v u x y z Q K (.inl rx) ry
variable{tb:TE}
theorem hX{o:PV->PV->Option PV}{ta:TE}(hq:N0 ob X r o)
  (ha:∀(Z:Zn) (F:Hp) (σ:St) (H:Hp) (env:En) (P:PV->En->Prop) (Q:VK),tO (md ob X) Z F σ H env->f env P->(∀x dO v F' H',P x dO->bY F F'->tO (md ob X) Z F' σ H' dO->Rep X.K F' v x->Q v H')->ta σ H Q)
  (hb:∀(Z:Zn) (F:Hp) (σ:St) (H:Hp) (env:En) (P:PV->En->Prop) (Q:VK),tO (md ob X) Z F σ H env->g env P->(∀x dO v F' H',P x dO->bY F F'->tO (md ob X) Z F' σ H' dO->Vw (md ob X) F' H' v x->Q v H')->tb σ H Q) :
  ∀(Z:Zn) (F:Hp) (σ:St) (H:Hp) (env:En) (P:PV->En->Prop) (Q:VK),tO (md ob X) Z F σ H env->yU o f g env P->(∀x dO v F' H',P x dO->bY F F'->tO (md ob X) Z F' σ H' dO->Rep X.K F' v x->Q v H')->CZ r ta tb σ H Q:=by
 intro Z F σ H env P Q K hf k
 refine ha Z F σ H env _ _ K hf λx e1 v F1 H1 p s1 K1 r1=>?_
 refine hb Z F1 σ H1 e1 _ _ K1 p λy e2 u F2 H2 p2 s2 K2 r2=>?_
 obtain⟨z,ez,p3⟩:=p2
 exact hq Z F2 σ H2 e2 v u x y z Q K2 (r1.mono s2) r2 ez λv' F' H' s3 K3 r3=>k z e2 v' F' H' p3 (ah s1 (ah s2 s3)) K3 r3
theorem tW{o:PV->PV->Option PV}(hq:Ce ob X r o)
  (hb:∀(Z:Zn) (F:Hp) (σ:St) (H:Hp) (env:En) (P:PV->En->Prop) (Q:VK),tO (md ob X) Z F σ H env->g env P->(∀x dO v F' H',P x dO->bY F F'->tO (md ob X) Z F' σ H' dO->Vw (md ob X) F' H' v x->Q v H')->tb σ H Q) :
  ∀(Z:Zn) (F:Hp) (σ:St) (H:Hp) (env:En) (P:PV->En->Prop) (Q:VK),tO (md ob X) Z F σ H env->Cy o i g env P->(∀x dO v F' H',P x dO->bY F F'->tO (md ob X) Z F' σ H' dO->Rep X.K F' v x->Q v H')->CZ r (zK i) tb σ H Q:=by
 intro Z F σ H env P Q K hf k
 obtain⟨hd,hf⟩:=hf
 obtain⟨v,hv⟩:∃v,σ[i]?=some (some v):=by
  cases e:env[i]? with
  |none=>rw[e]at hd;cases hd
  |some w=>
   cases w with
   |none=>rw[e]at hd;cases hd
   |some s=>
    obtain⟨fp,L⟩:=K.sl
    obtain⟨v,hv,_⟩:=L.at' i s e
    exact⟨v,hv⟩
 refine⟨v,hv,hb Z F σ H env _ _ K hf λy e2 u F2 H2 p2 s2 K2 r2=>?_⟩
 unfold Ai at p2
 have fin:∀(s:Sl),(s.k≠2/\s.k≠4)->e2[i]?=some (some s)->opt (o s.v y) (λz=>P z e2)->r v u H2 Q:=λs hk hs ⟨z,ez,p3⟩=>by
  obtain⟨v',JI,rv⟩:=K2.vw hs hk
  rw[hv]at JI;cases JI
  exact hq Z F2 σ H2 e2 v u s.v y z Q K2 rv r2 ez λv' F' H' s3 K3 r3=>k z e2 v' F' H' p3 (ah s2 s3) K3 r3
 split at p2
 .rename_i hy;exact fin _ (by simp) hy p2
 .rename_i hy;exact fin _ (by simp) hy p2
 .rename_i hy;exact fin _ (by simp) hy p2
 .exact p2.elim
end Q
namespace Q
open PySem L2 PyProof.Rows
def AA(kvs:List (Key×PV))(k:Key):Option PV:=(kvs.find? λkv=>decide (kv.1=k)).map (·.2)
def Dh(kvs:List (Key×PV))(k:Key)(v:PV):List (Key×PV) :=
 if (kvs.any λkv=>decide (kv.1=k))=true then kvs.map (λkv=>if kv.1=k then (kv.1,v)else kv)else kvs++[(k,v)]
def B5:PV->Option Key
 |.int i=>some (.inl i)
 |.str s=>some (.inr s)
 |_=>none
variable{K:aag}{F:Hp}
variable{k:Key}{vs:List (Key×V)}{xs:List (Key×PV)}
theorem yV.val(h:yV K F vs xs):(AK vs k=none/\AA xs k=none)\/∃v x,AK vs k=some v/\AA xs k=some x/\Rep K F v x:=by
 induction h using yV.ind with
 |nil=>exact .inl ⟨rfl,rfl⟩
 |@cons k' v x vs xs h _ ih=>
  by_cases e:k'=k
  .exact .inr ⟨v,x,fL e,by simp[AA,abX,e],h⟩
  .rw[fM (p:=(k',v)) e]
   have e2:AA ((k',x)::xs) k=AA xs k:=by simp[AA,abX,e]
   rw[e2]
   exact ih
theorem yV.any(h:yV K F vs xs):(vs.any λkv=>decide (kv.1=k))=xs.any λkv=>decide (kv.1=k):=by
 induction h using yV.ind with
 |nil=>rfl
 |cons _ _ ih=>exact congrArg (_ || ·) ih
theorem yV.app{ws:List (Key×V)}{ys:List (Key×PV)}(h:yV K F vs xs)(k:yV K F ws ys):yV K F (vs++ws) (xs++ys):=by
 induction h using yV.ind with
 |nil=>exact k
 |cons a _ ih=>exact .cons a ih
variable{v:V}{x:PV}
theorem yV.KJ(hv:Rep K F v x)(h:yV K F vs xs):yV K F (vs.map λkv=>if kv.1=k then (kv.1,v)else kv) (xs.map λkv=>if kv.1=k then (kv.1,x)else kv):=by
 induction h using yV.ind with
 |nil=>exact .nil
 |@cons k' v' x' vs xs a _ ih=>
  rw[aar,aar]
  dsimp only
  by_cases e:k'=k
  .rw[if_pos e,if_pos e];exact .cons hv ih
  .rw[if_neg e,if_neg e];exact .cons a ih
theorem yV.put(h:yV K F vs xs)(hv:Rep K F v x):yV K F (putK vs k v) (Dh xs k x):=by
 unfold putK Dh
 rw[h.any]
 split
 .exact h.KJ hv
 .exact h.app (.cons hv .nil)
theorem fx(h:B5 x=some k)(r:Rep K F v x):v=kV k:=by
 cases r<;>cases h<;>rfl
def lE:PV->PV->Option PV
 |.tup xs,.int i=>EY xs i
 |.lst xs,.int i=>EY xs i
 |.str s,.int i=>if s.length<=100000 then (EY s.cps.toList i).map λc=>.str ⟨#[c]⟩else none
 |.zB kvs,y=>(B5 y).bind (AA kvs)
 |_,_=>none
def MM:R2:=λx y H Q=>∃a v,x=.ref a/\E3 H a y (some v)/\Q v H
variable{ob:Ap}{X:Cx}{a b c e:Expr}{f g h:WE}{pos:Pos}
theorem wq(hu:X.A.units+1<cLine):Ib X MM:=by
 intro value slice pins s σ H x y v u Q I rx ry h hs
 obtain⟨a,z,rfl,g,q⟩:=h
 cases rx
 exact tail_any (iT I g) PySem.F.slot_dict_getitem.lookup (lM hu I g ry λw' s3 I3 CJ=>⟨z,H,I3,CJ,q⟩) hs
def MN(K:aag):R2:=λx y H Q=>RS K x y H Q\/MM x y H Q
theorem rV(hu:X.A.units+1<cLine):Ib X (MN X.K):=KP.or (wq hu)
variable{i:Int}
theorem pM{vs:List V}{xs:List PV}{z:PV}(r:nE K F vs xs)(h:EY xs i=some z):∃v,EY vs i=some v/\Rep K F v z:=by
 unfold EY at h⊢
 rw[r.len]
 cases e:G6 xs.length i with
 |none=>rw[e]at h;cases h
 |some j=>
  rw[e]at h
  exact r.get h
variable{M:Md}{H:Hp}
theorem Jr(h:Vw M F H v x)(hk:B5 x=some k):v=kV k:=by
 cases x<;>try cases hk
 .exact h.int
 .exact h.str
theorem Hy:Ce ob X (MN X.K) lE:=by
 intro Z F σ H env v u x y z Q K rx ry hz k
 unfold lE at hz
 split at hz
 .obtain⟨p,vs,rfl,h1,h2⟩:=rx.tup K.sF
  rw[ry.int]
  obtain⟨w,e1,e2⟩:=pM h2 hz
  exact .inl (.inr (.inl ⟨p,vs,_,w,rfl,rfl,h1,e1,k w F H am K e2⟩))
 .obtain⟨p,vs,rfl,h1,h2⟩:=rx.lst K.sF
  rw[ry.int]
  obtain⟨w,e1,e2⟩:=pM h2 hz
  exact .inl (.inl ⟨p,vs,_,w,rfl,rfl,.inl (.inl h1),e1,k w F H am K e2⟩)
 .rename_i s i
  split at hz
  .rename_i hl
   rw[rx.str,ry.int]
   cases e:EY s.cps.toList i with
   |none=>rw[e]at hz;cases hz
   |some c=>
    rw[e]at hz;cases hz
    exact .inl (.inr (.inr ⟨s,i,c,rfl,rfl,by rw[aaG];omega,e,k _ F H am K (.str _)⟩))
  .cases hz
 .rename_i kvs
  obtain⟨p,vs,rfl,h1,h2⟩:=rx.zB K.sF
  cases e:B5 y with
  |none=>rw[e]at hz;cases hz
  |some kk=>
   rw[e]at hz
   have hz:AA kvs kk=some z:=hz
   rw[Jr ry e]
   rcases h2.val (k:=kk)with ⟨_,e2⟩|⟨w,w',e1,e2,e3⟩
   .rw[e2]at hz;cases hz
   .rw[e2]at hz;cases hz
    refine .inr ⟨p,w,rfl,?_,k w F H am K e3⟩
    rw[<- e1];exact Qj h1
 .cases hz
theorem yM(hu:X.A.units+1<cLine)(ha:zq ob X a f)(hb:C7 ob X b g)(hs:fJ b:=by exact λ_ _=>rfl):zq ob X (.Subscript a b pos) (yU lE f g):=by
 obtain⟨ta,ha,ka⟩:=ha.ex
 obtain⟨tb,hb,kb⟩:=hb.ex
 exact⟨_,bI (rV hu) ha hb hs,hX (Ol Hy) ka kb⟩
variable{p:Pos}
theorem yl(i:Nat){x:Str}(hu:X.A.units+1<cLine)(ha:PE X (.Name x p) (zK i))(hb:C7 ob X b g)(hs:fJ b:=by exact λ_ _=>rfl):zq ob X (.Subscript (.Name x p) b pos) (Cy lE i g):=by
 obtain⟨tb,hb,kb⟩:=hb.ex
 exact⟨_,bI (rV hu) ha hb hs,tW Hy kb⟩
variable{r r':R2}
theorem zH.or{fn:Value->Value->Sem Value}(h:zH X fn r)(h':zH X fn r'):zH X fn (λx y H Q=>r x y H Q\/r' x y H Q):=by
 intro pins s σ H x y v u Q I rx ry q
 rcases q with q|q
 .exact h pins s σ H x y v u Q I rx ry q
 .exact h' pins s σ H x y v u Q I rx ry q
def zt:PV->PV->Option PV
 |.int i,.int j=>some (.int (i+j))
 |.str s,.str t=>if s.length+t.length<=100000 then some (.str (s++t))else none
 |.tup xs,.tup ys=>if xs.length+ys.length<=100000 then some (.tup (xs++ys))else none
 |.lst xs,.lst ys=>if xs.length+ys.length<=100000 then some (.lst (xs++ys))else none
 |_,_=>none
theorem Vw.Fc{xs:List PV}(h:Vw M F H v (.tup xs)):Rep M.K F v (.tup xs):=by
 rcases h with h|⟨a,rfl,h⟩
 .exact h
 .exact h.elim
def JC(K:aag):R2:=λx y H Q=>((Fn λi j=>.int (i+j)) x y H Q\/∃i j,x=.str i/\y=.str j/\i.length+j.length<=sizeLine/\Q (.str (i++j)) H)\/(JB K x y H Q\/MR x y H Q)
theorem vN:zH X (acq .Add) (JC X.K):=zH.or (zH.or gQ qe) (zH.or vL xF)
theorem vH:Ce ob X (JC X.K) zt:=by
 intro Z F σ H env v u x y z Q K rx ry hz k
 unfold zt at hz
 split at hz
 .cases hz
  rw[rx.int,ry.int]
  exact .inl (.inl ⟨_,_,rfl,rfl,k _ F H am K (.int _)⟩)
 .split at hz
  .cases hz
   rw[rx.str,ry.str]
   exact .inl (.inr ⟨_,_,rfl,rfl,by rw[aaG];omega,k _ F H am K (.str _)⟩)
  .cases hz
 .rename_i xs ys
  split at hz
  .cases hz
   obtain⟨p,vs,rfl,h1,h2⟩:=rx.tup K.sF
   obtain⟨q,ws,rfl,g1,g2⟩:=ry.tup K.sF
   have hl:=h2.len
   have gl:=g2.len
   refine .inr (.inl ⟨p,q,vs,ws,rfl,rfl,h1,g1,by rw[aaG];omega,?_⟩)
   refine⟨λe=>k _ F H am K ?_,λe=>k _ F H am K ?_,λr hr=>?_⟩
   .subst e
    have:xs=[]:=List.length_eq_zero_iff.mp hl.symm
    subst this
    exact ry.Fc
   .subst e
    have:ys=[]:=List.length_eq_zero_iff.mp gl.symm
    subst this
    rw[abN]
    exact rx.Fc
   .have hF:F r=none:=bY.none_of K.sF hr
    exact k _ _ _ (ay hF) (K.lay hr) (.tup (.inl (.inl ak)) ((h2.app g2).mono (ay hF)))
  .cases hz
 .rename_i xs ys
  split at hz
  .cases hz
   obtain⟨p,vs,rfl,h1,h2⟩:=rx.lst K.sF
   obtain⟨q,ws,rfl,g1,g2⟩:=ry.lst K.sF
   have hl:=h2.len
   have gl:=g2.len
   refine .inr (.inr ⟨p,q,vs,ws,rfl,rfl,h1,g1,by rw[aaG];omega,λr hr=>?_⟩)
   have hF:F r=none:=bY.none_of K.sF hr
   exact k _ _ _ (ay hF) (K.lay hr) (.lst ak ((h2.app g2).mono (ay hF)))
  .cases hz
 .cases hz
variable{o:PV->PV->Option PV}
theorem fE{op:Operator}(hr:zH X (acq op) r)(hq:Ce ob X r o)(ha:zq ob X a f)(hb:C7 ob X b g):zq ob X (.BinOp a op b pos) (yU o f g):=by
 obtain⟨ta,ha,ka⟩:=ha.ex
 obtain⟨tb,hb,kb⟩:=hb.ex
 exact⟨_,bq hr ha hb,hX (Ol hq) ka kb⟩
theorem aM(ha:zq ob X a f)(hb:C7 ob X b g):zq ob X (.BinOp a .Add b pos) (yU zt f g):=fE vN vH ha hb
def iI(C:Int->Int->Bool)(h:Int->Int->Int):PV->PV->Option PV
 |.int i,.int j=>if C i j=true then some (.int (h i j))else none
 |_,_=>none
theorem hZ{C:Int->Int->Bool}{D:Int->Int->Prop}{h:Int->Int->Int}(hC:∀i j,C i j=true->D i j):Ce ob X (rI D λi j=>.int (h i j)) (iI C h):=by
 intro Z F σ H env v u x y z Q K rx ry hz k
 unfold iI at hz
 split at hz
 .split at hz
  .rename_i hc
   cases hz
   rw[rx.int,ry.int]
   exact⟨_,_,rfl,rfl,hC _ _ hc,k _ F H am K (.int _)⟩
  .cases hz
 .cases hz
def Bo:=iI (λ_ _=>true) λi j=>i - j
def Ly(i j:Int):Bool:=(decide (-(2 ^ 64)<i) && decide (i<2 ^ 64)) || (decide (-(2 ^ 64)<j) && decide (j<2 ^ 64))
def AV:PV->PV->Option PV
 |.int i,.int j=>if Ly i j=true then some (.int (i*j))else none
 |.str s,.int i=>if 0<=i/\i<=1000/\s.length<=1000 then some (.str (C0 s i.toNat))else none
 |.lst xs,.int i=>if -1000<=i/\i<=1000/\xs.length<=1000 then some (.lst (aaF i.toNat xs).flatten)else none
 |_,_=>none
def CL:=iI (λ_ j=>decide (0<j)) λi j=>i % j
def Gj:=iI (λ_ j=>decide (0<j) && decide (j<1073741824)) λi j=>i / j
def Di:=iI (λi j=>decide (0<=j) && decide (j<=1000000) && decide (i.natAbs<2 ^ 64)) λi j=>i ^ j.toNat
theorem vI:zH X (acq .Sub) (rI (λ_ _=>True) λi j=>.int (i - j)):=by
 intro pins s σ H x y v u Q I rx ry h
 obtain⟨i,j,e1,e2,_,q⟩:=h
 exact xA pins s σ H x y v u Q I rx ry ⟨i,j,e1,e2,q⟩
theorem cW(ha:zq ob X a f)(hb:C7 ob X b g):zq ob X (.BinOp a .Sub b pos) (yU Bo f g):=fE vI (hZ λ_ _ _=>trivial) ha hb
theorem fD(ha:zq ob X a f)(hb:C7 ob X b g):zq ob X (.BinOp a .Mod b pos) (yU CL f g):=fE dM (hZ λ_ _ h=>of_decide_eq_true h) ha hb
theorem sA(ha:zq ob X a f)(hb:C7 ob X b g):zq ob X (.BinOp a .FloorDiv b pos) (yU Gj f g):=fE kG (hZ λ_ _ h=>by simp at h;exact h) ha hb
theorem nA(ha:zq ob X a f)(hb:C7 ob X b g):zq ob X (.BinOp a .Pow b pos) (yU Di f g):=fE mO (hZ λ_ _ h=>by simp at h;exact⟨h.1.1,h.1.2,h.2⟩) ha hb
theorem nE.rep{vs:List V}{xs:List PV}(r:nE K F vs xs):∀n:Nat,nE K F (aaF n vs).flatten (aaF n xs).flatten
 |0=>.nil
 |n+1=>by
  rw[aa8,aa8,ab6,ab6]
  exact r.app (r.rep n)
theorem vE:Ce ob X (λx y H Q=>(rI G2 λi j=>.int (i*j)) x y H Q\/(Jy x y H Q\/MF x y H Q)) AV:=by
 intro Z F σ H env v u x y z Q K rx ry hz k
 unfold AV at hz
 split at hz
 .split at hz
  .rename_i hc
   cases hz
   rw[rx.int,ry.int]
   refine .inl ⟨_,_,rfl,rfl,?_,k _ F H am K (.int _)⟩
   unfold Ly at hc
   simp at hc
   exact hc
  .cases hz
 .split at hz
  .rename_i hc
   cases hz
   rw[rx.str,ry.int]
   exact .inr (.inl ⟨_,_,rfl,rfl,hc.1,hc.2.1,hc.2.2,k _ F H am K (.str _)⟩)
  .cases hz
 .rename_i xs i
  split at hz
  .rename_i hc
   cases hz
   obtain⟨p,vs,rfl,h1,h2⟩:=rx.lst K.sF
   rw[ry.int]
   have hl:=h2.len
   refine .inr (.inr ⟨p,i,vs,rfl,rfl,h1,by omega,by omega,?_,λr hr=>?_⟩)
   .rw[aaG]
    have h3:i.toNat<=1000:=by omega
    have h4:vs.length<=1000:=by omega
    calc vs.length*i.toNat<=1000*1000:=Nat.mul_le_mul h4 h3
     _<=16777216:=by decide
   .have hF:F r=none:=bY.none_of K.sF hr
    exact k _ _ _ (ay hF) (K.lay hr) (.lst ak ((h2.rep _).mono (ay hF)))
  .cases hz
 .cases hz
theorem fC(ha:zq ob X a f)(hb:C7 ob X b g):zq ob X (.BinOp a .Mult b pos) (yU AV f g):=fE (zH.or jG (zH.or vK xB)) vE ha hb
def DS:PV->Option PV
 |.int i=>some (.int (-i))
 |_=>none
theorem nC(ha:C7 ob X a f):zq ob X (.UnaryOp .USub a pos) (JM DS f):=by
 obtain⟨ta,ha,ka⟩:=ha.ex
 refine⟨_,uQ qE ha,λZ F σ H env P Q K hf k=>ka Z F σ H env _ _ K hf λx e1 v F1 H1 p s1 K1 r1=>?_⟩
 obtain⟨z,hz,p⟩:=p
 unfold DS at hz
 split at hz
 .cases hz
  rw[r1.int]
  exact⟨_,rfl,k _ e1 _ F1 H1 p s1 K1 (.int _)⟩
 .cases hz
variable{op:CmpOp}
theorem yo(hr:zH X (aaE op) r)(hq:Ce ob X r o)(ha:zq ob X a f)(hb:C7 ob X b g)(hm:acK op b=false):zq ob X (.Compare a [op] [b] pos) (yU o f g):=by
 obtain⟨ta,ha,ka⟩:=ha.ex
 obtain⟨tb,hb,kb⟩:=hb.ex
 exact⟨_,oZ hr ha hb hm,hX (Ol hq) ka kb⟩
theorem yp{o:PV->PV->Option PV}(he:∃t,PE X (.Compare a [op] [b] pos) t/\PT X (.Compare a [op] [b] pos) (FW t)/\∀(Z:Zn) (F:Hp) (σ:L2.St) (H:Hp) (env:En) (P:PV->En->Prop) (Q:VK),tO (md ob X) Z F σ H env->f env P->(∀x dO v F' H',P x dO->bY F F'->tO (md ob X) Z F' σ H' dO->Rep X.K F' v x->Q v H')->t σ H Q):E7 ob X (.Compare a [op] [b] pos) (yZ f):=by
 obtain⟨t,_,ht,h⟩:=he
 refine⟨_,ht,λZ F σ H env P Q K hf k=>h Z F σ H env _ _ K hf λx e1 v F1 H1 p s1 K1 r1=>?_⟩
 obtain⟨z,hz,p⟩:=p
 cases x<;>try (cases hz)
 cases r1
 exact⟨_,rfl,k _ e1 F1 H1 p s1 K1⟩
theorem wI(hr:zH X (aaE op) r)(hq:Ce ob X r o)(ha:zq ob X a f)(hb:C7 ob X b g)(hm:acK op b=false):E7 ob X (.Compare a [op] [b] pos) (yZ (yU o f g)):=by
 obtain⟨ta,ha,ka⟩:=ha.ex
 obtain⟨tb,hb,kb⟩:=hb.ex
 exact yp (o:=o) ⟨_,oZ hr ha hb hm,fh hr ha hb hm,hX (Ol hq) ka kb⟩
theorem bo{P:V->V->Hp->V->Prop}(h:∀(F H:Hp) (v u:V) (x y z:PV),bY F H->Vw (md ob X) F H v x->Vw (md ob X) F H u y->o x y=some z->∃w,(∀F,Rep X.K F w z)/\∀Q:VK,Q w H->r v u H Q):Ce ob X r o:=by
 intro Z F σ H env v u x y z Q K rx ry hz k
 obtain⟨w,h1,h2⟩:=h F H v u x y z K.sF rx ry hz
 exact h2 Q (k w F H am K (h1 F))
def GC:PV->PV->Option PV
 |.int i,.int j=>some (.bl (decide (i<j)))
 |.str s,.str t=>some (.bl (decide (zD s t)))
 |_,_=>none
def Fv:PV->PV->Option PV
 |.int i,.int j=>some (.bl (decide (i<=j)))
 |.str s,.str t=>some (.bl (!decide (zD t s)))
 |_,_=>none
def Jc:PV->PV->Option PV
 |.int i,.int j=>some (.bl (decide (j<i)))
 |_,_=>none
theorem rj:Ce ob X (λx y H Q=>(Fn λi j=>.bl (decide (i<j))) x y H Q\/∃i j,x=.str i/\y=.str j/\Q (.bl (decide (i.cps.toList<j.cps.toList))) H) GC:=by
 refine bo (P:=λ_ _ _ _=>True) λF H v u x y z sF rx ry hz=>?_
 unfold GC at hz
 split at hz
 .cases hz
  rw[rx.int,ry.int]
  exact⟨_,λ_=>.bl _,λQ q=>.inl ⟨_,_,rfl,rfl,q⟩⟩
 .cases hz
  rw[rx.str,ry.str]
  exact⟨_,λ_=>.bl _,λQ q=>.inr ⟨_,_,rfl,rfl,q⟩⟩
 .cases hz
theorem jE:Ce ob X (λx y H Q=>(Fn λi j=>.bl (decide (i<=j))) x y H Q\/∃i j,x=.str i/\y=.str j/\Q (.bl (!decide (j.cps.toList<i.cps.toList))) H) Fv:=by
 refine bo (P:=λ_ _ _ _=>True) λF H v u x y z sF rx ry hz=>?_
 unfold Fv at hz
 split at hz
 .cases hz
  rw[rx.int,ry.int]
  exact⟨_,λ_=>.bl _,λQ q=>.inl ⟨_,_,rfl,rfl,q⟩⟩
 .cases hz
  rw[rx.str,ry.str]
  exact⟨_,λ_=>.bl _,λQ q=>.inr ⟨_,_,rfl,rfl,q⟩⟩
 .cases hz
theorem xw:Ce ob X (Fn λi j=>.bl (decide (j<i))) Jc:=by
 refine bo (P:=λ_ _ _ _=>True) λF H v u x y z sF rx ry hz=>?_
 unfold Jc at hz
 split at hz
 .cases hz
  rw[rx.int,ry.int]
  exact⟨_,λ_=>.bl _,λQ q=>⟨_,_,rfl,rfl,q⟩⟩
 .cases hz
theorem uS:zH X (aaE .Lt) (λx y H Q=>(Fn λi j=>.bl (decide (i<j))) x y H Q\/∃i j,x=.str i/\y=.str j/\Q (.bl (decide (i.cps.toList<j.cps.toList))) H):=zH.or yF rp
theorem mj:zH X (aaE .LtE) (λx y H Q=>(Fn λi j=>.bl (decide (i<=j))) x y H Q\/∃i j,x=.str i/\y=.str j/\Q (.bl (!decide (j.cps.toList<i.cps.toList))) H):=zH.or yG rq
def Dp:PV->Bool
 |.oR=>true
 |_=>false
def Fw:PV->PV->Option PV
 |x,.oR=>some (.bl (Dp x))
 |.bl a,.bl b=>some (.bl (a==b))
 |_,_=>none
def HF:PV->PV->Option PV
 |x,.oR=>some (.bl (!Dp x))
 |.bl a,.bl b=>some (.bl (a != b))
 |_,_=>none
theorem qD(h:Vw M F H v x):decide (v=V.oR)=Dp x:=by
 rcases h with h|⟨a,rfl,h⟩
 .cases h<;>simp[Dp]
 .cases x<;>first|exact h.elim|simp[Dp]
theorem jF:Ce ob X (λx y H Q=>(y=.oR/\Q (.bl (decide (x=.oR))) H)\/∃a b,x=.bl a/\y=.bl b/\Q (.bl (a==b)) H) Fw:=by
 refine bo (P:=λ_ _ _ _=>True) λF H v u x y z sF rx ry hz=>?_
 unfold Fw at hz
 split at hz
 .cases hz
  rw[ry.oR]
  refine⟨_,λ_=>.bl _,λQ q=>.inl ⟨rfl,?_⟩⟩
  rw[qD rx];exact q
 .cases hz
  rw[rx.bl,ry.bl]
  exact⟨_,λ_=>.bl _,λQ q=>.inr ⟨_,_,rfl,rfl,q⟩⟩
 .cases hz
theorem vG:Ce ob X (λx y H Q=>(y=.oR/\Q (.bl (!decide (x=.oR))) H)\/∃a b,x=.bl a/\y=.bl b/\Q (.bl (a != b)) H) HF:=by
 refine bo (P:=λ_ _ _ _=>True) λF H v u x y z sF rx ry hz=>?_
 unfold HF at hz
 split at hz
 .cases hz
  rw[ry.oR]
  refine⟨_,λ_=>.bl _,λQ q=>.inl ⟨rfl,?_⟩⟩
  rw[qD rx];exact q
 .cases hz
  rw[rx.bl,ry.bl]
  exact⟨_,λ_=>.bl _,λQ q=>.inr ⟨_,_,rfl,rfl,q⟩⟩
 .cases hz
theorem mo:zH X (aaE .Is) (λx y H Q=>(y=.oR/\Q (.bl (decide (x=.oR))) H)\/∃a b,x=.bl a/\y=.bl b/\Q (.bl (a==b)) H):=zH.or xD xE
theorem xv:zH X (aaE .IsNot) (λx y H Q=>(y=.oR/\Q (.bl (!decide (x=.oR))) H)\/∃a b,x=.bl a/\y=.bl b/\Q (.bl (a != b)) H):=zH.or vJ rA
def Hh:PV->Option Bool
 |.oR=>some false
 |.bl b=>some b
 |.int i=>some (i != 0)
 |.str s=>if s.length<=100000 then some ((s.length:Int) != 0)else none
 |.tup xs=>some (!xs.isEmpty)
 |.lst xs=>some (!xs.isEmpty)
 |.zB xs=>some (!xs.isEmpty)
 |_=>none
def A2(a:WE):WT:=λenv P=>a env λx e=>opt (Hh x) λb=>P b e
theorem aZ(he:C7 ob X e f)(h:∀whole,isTrue e X.env whole=(do let v <- whole;standAt e.pos;acS [v] (truthy v)):=by intro _;rfl):E7 ob X e (A2 f):=by
 obtain⟨t,ht,k0⟩:=he.ex
 refine⟨_,tE ht h,λZ F σ H env P Q K hf k=>k0 Z F σ H env _ _ K hf λx e1 v F1 H1 p s1 K1 r1=>?_⟩
 obtain⟨z,hz,p⟩:=p
 refine⟨z,?_,k _ e1 F1 H1 p s1 K1⟩
 have Rj:∀{α β:Type} {l:List α} {m:List β},l.length=m.length->l.isEmpty=m.isEmpty:=λ{α β l m} h=>by
  cases l<;>cases m<;>simp at h⊢
 cases x<;>simp only[Hh]at hz
 .cases hz;rw[r1.oR];rfl
 .cases hz;rw[r1.bl];rfl
 .cases hz;rw[r1.int];rfl
 .split at hz
  .cases hz;rw[r1.str];exact⟨by rw[aaG];omega,rfl⟩
  .cases hz
 .cases hz
  obtain⟨p,vs,rfl,h1,h2⟩:=r1.tup K1.sF
  exact .inr (.inl ⟨vs,h1,by rw[Rj h2.len]⟩)
 .cases hz
  obtain⟨p,vs,rfl,h1,h2⟩:=r1.lst K1.sF
  exact .inl ⟨vs,.inl (.inl h1),by rw[Rj h2.len]⟩
 .cases hz
  obtain⟨p,vs,rfl,h1,h2⟩:=r1.zB K1.sF
  exact .inr (.inr ⟨vs,h1,by rw[Rj h2.len]⟩)
 .cases hz
 .cases hz
variable{t u:WT}{rest:List Expr}
theorem di(h:LG ob X e t):E7 ob X e t:=by
 obtain⟨w,hw,k⟩:=h.ex
 exact⟨w,hw.pt,k⟩
theorem ii(h:E7 ob X a t):LG ob X (.BoolOp .And [a] pos) t:=by
 obtain⟨w,hw,k⟩:=h.ex
 exact⟨w,pw_and1 hw,k⟩
theorem cX(h:E7 ob X a t):LG ob X (.BoolOp .Or [a] pos) t:=by
 obtain⟨w,hw,k⟩:=h.ex
 exact⟨w,pw_or1 hw,k⟩
theorem jR(h:E7 ob X a t)(h2:LG ob X (.BoolOp .And (b::rest) pos) u):LG ob X (.BoolOp .And (a::b::rest) pos) (Ez t u):=by
 obtain⟨w,hw,k⟩:=h.ex
 obtain⟨w2,Qt,k2⟩:=h2.ex
 refine⟨_,pw_and hw Qt,λZ F σ H env P Q K hf kk=>k Z F σ H env _ _ K hf λx e1 F1 H1 p s1 K1=>?_⟩
 cases x with
 |true=>exact Dn (k2 Z F1 σ H1 e1 P Q K1 p λx e2 F2 H2 p2 s2 K2=>kk x e2 F2 H2 p2 (ah s1 s2) K2)
 |false=>exact C1 (kk _ e1 F1 H1 p s1 K1)
theorem dr(h:E7 ob X a t)(h2:LG ob X (.BoolOp .Or (b::rest) pos) u):LG ob X (.BoolOp .Or (a::b::rest) pos) (Gw t u):=by
 obtain⟨w,hw,k⟩:=h.ex
 obtain⟨w2,Qt,k2⟩:=h2.ex
 refine⟨_,pw_or hw Qt,λZ F σ H env P Q K hf kk=>k Z F σ H env _ _ K hf λx e1 F1 H1 p s1 K1=>?_⟩
 cases x with
 |true=>exact Dn (kk _ e1 F1 H1 p s1 K1)
 |false=>exact C1 (k2 Z F1 σ H1 e1 P Q K1 p λx e2 F2 H2 p2 s2 K2=>kk x e2 F2 H2 p2 (ah s1 s2) K2)
theorem bH(h:E7 ob X a t):E7 ob X (.UnaryOp .Not a pos) (Bn t):=by
 obtain⟨w,hw,k⟩:=h.ex
 exact⟨_,xg hw,λZ F σ H env P Q K hf kk=>k Z F σ H env _ _ K hf λx e1 F1 H1 p s1 K1=>kk _ e1 F1 H1 p s1 K1⟩
theorem nG(hc:E7 ob X c t)(ha:zq ob X a f)(hb:zq ob X b g):zq ob X (.IfExp c a b pos) (Mk t f g):=by
 obtain⟨w,hw,k⟩:=hc.ex
 obtain⟨ta,ha,ka⟩:=ha.ex
 obtain⟨tb,hb,kb⟩:=hb.ex
 refine⟨_,tL hw ha hb,λZ F σ H env P Q K hf kk=>k Z F σ H env _ _ K hf λx e1 F1 H1 p s1 K1=>?_⟩
 cases x with
 |true=>exact Dn (ka Z F1 σ H1 e1 P Q K1 p λx e2 v F2 H2 p2 s2 K2 r2=>kk x e2 v F2 H2 p2 (ah s1 s2) K2 r2)
 |false=>exact C1 (kb Z F1 σ H1 e1 P Q K1 p λx e2 v F2 H2 p2 s2 K2 r2=>kk x e2 v F2 H2 p2 (ah s1 s2) K2 r2)
def CC:PV->Option Bool
 |.bl b=>some b
 |_=>none
def HY(a b:WE):WE:=λenv P=>a env λx e=>opt (CC x) λk=>if k=true then b e P else P (.bl false) e
def UJ(a b:WE):WE:=λenv P=>a env λx e=>opt (CC x) λk=>if k=true then P (.bl true) e else b e P
def Lw(a:WE):WE:=λenv P=>a env λx e=>opt (CC x) λk=>P (.bl (!k)) e
theorem nB{op}(h:zq ob X a f):zq ob X (.BoolOp op [a] pos) f:=by
 obtain⟨t,ht,k⟩:=h.ex
 exact⟨t,xp ht,k⟩
theorem kX{k:Bool}(r:Rep K F v x)(h:CC x=some k):v=.bl k/\x=.bl k:=by
 cases x<;>cases h
 cases r
 exact⟨rfl,rfl⟩
theorem nH(ha:zq ob X a f)(hb:zq ob X (.BoolOp .And (b::rest) pos) g):zq ob X (.BoolOp .And (a::b::rest) pos) (HY f g):=by
 obtain⟨ta,ha,ka⟩:=ha.ex
 obtain⟨tb,hb,kb⟩:=hb.ex
 refine⟨_,xt ha hb,λZ F σ H env P Q K hf kk=>ka Z F σ H env _ _ K hf λx e1 v F1 H1 p s1 K1 r1=>?_⟩
 obtain⟨z,hz,p⟩:=p
 obtain⟨rfl,rfl⟩:=kX r1 hz
 refine⟨z,rfl,?_⟩
 cases z with
 |true=>exact Dn (kb Z F1 σ H1 e1 P Q K1 p λx e2 v F2 H2 p2 s2 K2 r2=>kk x e2 v F2 H2 p2 (ah s1 s2) K2 r2)
 |false=>exact C1 (kk _ e1 _ F1 H1 p s1 K1 (.bl _))
theorem yj(ha:zq ob X a f):zq ob X (.UnaryOp .Not a pos) (Lw f):=by
 obtain⟨ta,ha,ka⟩:=ha.ex
 refine⟨_,xq ha,λZ F σ H env P Q K hf kk=>ka Z F σ H env _ _ K hf λx e1 v F1 H1 p s1 K1 r1=>?_⟩
 obtain⟨z,hz,p⟩:=p
 obtain⟨rfl,rfl⟩:=kX r1 hz
 exact⟨z,rfl,kk _ e1 _ F1 H1 p s1 K1 (.bl _)⟩
def zA:Nat->PV->PV->Option Bool
 |0,_,_=>none
 |d+1,x,y=>match x,y with
  |.oR,.oR=>some true
  |.oR,.bl _=>some false
  |.oR,.int _=>some false
  |.oR,.str _=>some false
  |.bl _,.oR=>some false
  |.bl a,.bl b=>some (a==b)
  |.bl a,.int b=>some ((if a then 1 else 0)==b)
  |.bl _,.str _=>some false
  |.int _,.oR=>some false
  |.int a,.bl b=>some (a==(if b then 1 else 0))
  |.int a,.int b=>some (a==b)
  |.int _,.str _=>some false
  |.str _,.oR=>some false
  |.str _,.bl _=>some false
  |.str _,.int _=>some false
  |.str a,.str b=>some (a==b)
  |.tup xs,.tup ys=>((xs.zip ys).mapM λp=>zA d p.1 p.2).map λbs=>bs.all id && xs.length==ys.length
  |.lst xs,.lst ys=>if xs.length=ys.length then ((xs.zip ys).mapM λp=>zA d p.1 p.2).map λbs=>bs.all id else some false
  |.tup _,.lst _=>some false
  |.lst _,.tup _=>some false
  |.tup _,.oR=>some false
  |.tup _,.bl _=>some false
  |.tup _,.int _=>some false
  |.tup _,.str _=>some false
  |.oR,.tup _=>some false
  |.bl _,.tup _=>some false
  |.int _,.tup _=>some false
  |.str _,.tup _=>some false
  |.lst _,.oR=>some false
  |.lst _,.bl _=>some false
  |.lst _,.int _=>some false
  |.lst _,.str _=>some false
  |.oR,.lst _=>some false
  |.bl _,.lst _=>some false
  |.int _,.lst _=>some false
  |.str _,.lst _=>some false
  |_,_=>none
variable{α:Type}
theorem bz{β:Type}{f:α->Option β}:∀{l:List α} {m:List β},l.mapM f=some m->m.length=l.length/\∀(i:Nat) (a:α),l[i]?=some a->∃b,m[i]?=some b/\f a=some b
 |[],m,h=>by simp at h;subst h;exact⟨rfl,λi a e=>by simp at e⟩
 |a::l,m,h=>by
  rw[abo]at h
  cases ea:f a with
  |none=>rw[ea]at h;cases h
  |some b=>
   rw[ea]at h
   cases el:l.mapM f with
   |none=>rw[el]at h;cases h
   |some m'=>
    rw[el]at h
    have h:some (b::m')=some m:=h
    cases h
    obtain⟨h1,h2⟩:=bz el
    refine⟨by simp[h1],λi c e=>?_⟩
    cases i with
    |zero=>simp at e;subst e;exact⟨b,rfl,ea⟩
    |succ i=>simp at e ⊢;exact h2 i c e
theorem oF.HS:∀{xs:List V} {us:List Value} {i:Nat} {u:Value},oF xs us->us[i]?=some u->∃x,xs[i]?=some x/\RelV x u
 |_,_,_,_,.nil,e=>by simp at e
 |_,_,0,_,.cons r _,e=>by simp at e;subst e;exact⟨_,rfl,r⟩
 |_,_,i+1,x,.cons _ t,e=>by
  obtain⟨u,h1,h2⟩:=oF.HS (i:=i) (u:=x) t (by simpa using e)
  exact⟨u,by simpa using h1,h2⟩
variable{pins:List (Addr×Obj)}{σ:L2.St}{s:Shared}
variable{ws:List V}
theorem cH(I:Inv X pins σ H s){a:Addr}{vs:List V}(h1:An X.K H a vs)(h2:zW X.K H a ws):False:=by
 obtain⟨_,_,⟨o,n,e,c,_⟩,_⟩:=I.list h1
 obtain⟨_,_,⟨o',e',c',_⟩,_⟩:=I.tuple h2
 rw[e]at e';cases e';rw[c]at c';injection c' with c';exact absurd c' (by decide)
theorem dZ{e:Nat->Bool}{bs:List Bool}(h:∀j,j<bs.length->bs[j]?=some (e j)):(aaV bs.length).all e=bs.all id:=by
 rw[aaS,acd,acd]
 constructor
 .intro q b hb
  obtain⟨j,hj,rfl⟩:=List.mem_iff_getElem.mp hb
  have:=h j hj
  rw[aab hj]at this
  have q2:=q j (List.mem_range.mpr hj)
  rw[<- aao this]at q2
  exact q2
 .intro q j hj
  have hj:=List.mem_range.mp hj
  have:=h j hj
  rw[aab hj]at this
  rw[<- aao this]
  exact q _ (abH hj)
theorem lL(I:Inv X pins σ H s)(sF:bY F H):∀{d:Nat} {v:V} {x y:PV} {k:Bool},Rep X.K F v x->Rep X.K F v y->zA d x y=some k->k=true:=by
 intro d
 induction d with
 |zero=>intro v x y k _ _ h;cases h
 |succ d ih=>
  intro v x y k rx ry h
  have lists:∀{vs:List V} {xs ys:List PV} {bs:List Bool},nE X.K F vs xs->nE X.K F vs ys->(xs.zip ys).mapM (λp=>zA d p.1 p.2)=some bs->bs.all id=true:=λ{vs xs ys bs} r1 r2 hm=>by
   obtain⟨h1,h2⟩:=bz hm
   rw[acd]
   intro b hb
   obtain⟨j,hj,rfl⟩:=List.mem_iff_getElem.mp hb
   have QM:j<(xs.zip ys).length:=by rw[<- h1];exact hj
   obtain⟨b',e1,e2⟩:=h2 j _ (aab QM)
   rw[aab hj]at e1
   cases aao e1
   have hx:xs[j]?=some (xs.zip ys)[j].1:=by
    have:=aab QM
    rw[aaR]at this
    exact this.1
   have hy:ys[j]?=some (xs.zip ys)[j].2:=by
    have:=aab QM
    rw[aaR]at this
    exact this.2
   obtain⟨v1,q1,q2⟩:=r1.get hx
   obtain⟨v2,q3,q4⟩:=r2.get hy
   rw[q1]at q3;cases q3
   exact ih q2 q4 e2
  cases rx with
  |oR=>cases ry;cases h;rfl
  |bl b=>cases ry;cases h;simp
  |int b=>cases ry;cases h;simp
  |str b=>cases ry;cases h;simp
  |tup h1 r1=>
   cases ry with
   |tup h2 r2=>
    have:=I.Ar (av sF h1) (av sF h2)
    subst this
    replace h:Option.map (λbs:List Bool=>bs.all id && acr _==acr _) (List.mapM (λp:PV×PV=>zA d p.1 p.2) (List.zip _ _))=some k:=h
    rw[aat]at h
    obtain⟨bs,hb,e⟩:=h
    rw[<- e,lists r1 r2 hb,<- r1.len,<- r2.len]
    simp
   |lst h2 r2=>exact(cH I (.inl (.inl (sF _ _ h2))) (av sF h1)).elim
   |zB h2 r2=>cases h
   |A3 h2=>cases h
  |lst h1 r1=>
   cases ry with
   |tup h2 r2=>exact(cH I (.inl (.inl (sF _ _ h1))) (av sF h2)).elim
   |lst h2 r2=>
    rw[h1]at h2;cases h2
    replace h:(if acr _=acr _ then Option.map (λbs:List Bool=>bs.all id) (List.mapM (λp:PV×PV=>zA d p.1 p.2) (List.zip _ _))else some false)=some k:=h
    rw[if_pos (by rw[<- r1.len,<- r2.len])]at h
    rw[aat]at h
    obtain⟨bs,hb,e⟩:=h
    rw[<- e,lists r1 r2 hb]
   |zB h2 r2=>cases h
   |A3 h2=>cases h
  |zB h1 r1=>cases y<;>cases h
  |A3 h1=>cases y<;>cases h
theorem Jf(I:Inv X pins σ H s)(sF:bY F H):∀{d:Nat} {A:Around} {v u:V} {x y:PV} {a b:Value} {k:Bool},A.units+d<cLine->Rep X.K F v x->Rep X.K F u y->RelV v a->RelV u b->zA d x y=some k->SeqAt.RcAt A s a b k/\adB A s a b k:=by
 intro d
 induction d with
 |zero=>intro A v u x y a b k _ _ _ _ _ h;cases h
 |succ d ih=>
  intro A v u x y a b k hu rx ry ra rb h
  have AF:A.units<cLine:=by omega
  cases rx with
  |oR=>
   cases ra
   cases ry with
   |oR=>cases rb;cases h;exact⟨SeqAt.RcAt.none_none,afg _⟩
   |bl b=>cases rb;cases h;exact⟨SeqAt.RcAt.none_bool b,SeqAt.EqAt.none_bool b⟩
   |int b=>obtain⟨t,rfl⟩:=rb;cases h;exact⟨SeqAt.RcAt.none_int b t,SeqAt.EqAt.none_int b t⟩
   |str b=>obtain⟨t,rfl⟩:=rb;cases h;exact⟨SeqAt.RcAt.none_str b t,SeqAt.EqAt.none_str b t⟩
   |tup h1 r1=>
    cases rb;cases h
    obtain⟨eQ,_,p,_⟩:=I.tuple (av sF h1)
    exact⟨SeqAt.RcAt.none_tuple p AF,SeqAt.EqAt.none_tuple p AF⟩
   |lst h1 r1=>
    cases rb;cases h
    obtain⟨eQ,_,p,_⟩:=I.list (.inl (.inl (sF _ _ h1)))
    exact⟨SeqAt.RcAt.none_list p.isList AF,SeqAt.EqAt.none_list p.isList AF⟩
   |zB=>cases h
   |A3=>cases h
  |bl a=>
   cases ra
   cases ry with
   |oR=>cases rb;cases h;exact⟨SeqAt.RcAt.bool_none a,SeqAt.EqAt.bool_none a⟩
   |bl b=>cases rb;cases h;exact⟨SeqAt.RcAt.bool_bool a b,SeqAt.EqAt.bool_bool a b⟩
   |int b=>obtain⟨t,rfl⟩:=rb;cases h;exact⟨SeqAt.RcAt.bool_int a b t,SeqAt.EqAt.bool_int a b t⟩
   |str b=>obtain⟨t,rfl⟩:=rb;cases h;exact⟨SeqAt.RcAt.bool_str a b t,SeqAt.EqAt.bool_str a b t⟩
   |tup h1 r1=>
    cases rb;cases h
    obtain⟨eQ,_,p,_⟩:=I.tuple (av sF h1)
    exact⟨SeqAt.RcAt.bool_tuple a p AF,SeqAt.EqAt.bool_tuple a p AF⟩
   |lst h1 r1=>
    cases rb;cases h
    obtain⟨eQ,_,p,_⟩:=I.list (.inl (.inl (sF _ _ h1)))
    exact⟨SeqAt.RcAt.bool_list a p.isList AF,SeqAt.EqAt.bool_list a p.isList AF⟩
   |zB=>cases h
   |A3=>cases h
  |int a=>
   obtain⟨t',rfl⟩:=ra
   cases ry with
   |oR=>cases rb;cases h;exact⟨SeqAt.RcAt.int_none a t',SeqAt.EqAt.int_none a t'⟩
   |bl b=>cases rb;cases h;exact⟨SeqAt.RcAt.int_bool a t' b,SeqAt.EqAt.int_bool a t' b⟩
   |int b=>obtain⟨t,rfl⟩:=rb;cases h;exact⟨SeqAt.RcAt.int_int a t' b t,abM a t' b t⟩
   |str b=>obtain⟨t,rfl⟩:=rb;cases h;exact⟨SeqAt.RcAt.int_str a t' b t,SeqAt.EqAt.int_str a t' b t⟩
   |tup h1 r1=>
    cases rb;cases h
    obtain⟨eQ,_,p,_⟩:=I.tuple (av sF h1)
    exact⟨SeqAt.RcAt.int_tuple a t' p AF,SeqAt.EqAt.int_tuple a t' p AF⟩
   |lst h1 r1=>
    cases rb;cases h
    obtain⟨eQ,_,p,_⟩:=I.list (.inl (.inl (sF _ _ h1)))
    exact⟨SeqAt.RcAt.int_list a t' p.isList AF,SeqAt.EqAt.int_list a t' p.isList AF⟩
   |zB=>cases h
   |A3=>cases h
  |str a=>
   obtain⟨t',rfl⟩:=ra
   cases ry with
   |oR=>cases rb;cases h;exact⟨SeqAt.RcAt.str_none a t',SeqAt.EqAt.str_none a t'⟩
   |bl b=>cases rb;cases h;exact⟨SeqAt.RcAt.str_bool a t' b,SeqAt.EqAt.str_bool a t' b⟩
   |int b=>obtain⟨t,rfl⟩:=rb;cases h;exact⟨SeqAt.RcAt.str_int a t' b t,SeqAt.EqAt.str_int a t' b t⟩
   |str b=>obtain⟨t,rfl⟩:=rb;cases h;exact⟨SeqAt.RcAt.str_str a t' b t,acB a t' b t⟩
   |tup h1 r1=>
    cases rb;cases h
    obtain⟨eQ,_,p,_⟩:=I.tuple (av sF h1)
    exact⟨SeqAt.RcAt.str_tuple a t' p AF,SeqAt.EqAt.str_tuple a t' p AF⟩
   |lst h1 r1=>
    cases rb;cases h
    obtain⟨eQ,_,p,_⟩:=I.list (.inl (.inl (sF _ _ h1)))
    exact⟨SeqAt.RcAt.str_list a t' p.isList AF,SeqAt.EqAt.str_list a t' p.isList AF⟩
   |zB=>cases h
   |A3=>cases h
  |@tup pa vs xs h1 r1=>
   cases ra
   obtain⟨eQ,rv,p,_⟩:=I.tuple (av sF h1)
   cases ry with
   |oR=>cases rb;cases h;exact⟨SeqAt.RcAt.tuple_none p AF,SeqAt.EqAt.tuple_none p AF⟩
   |bl b=>cases rb;cases h;exact⟨SeqAt.RcAt.tuple_bool b p AF,SeqAt.EqAt.tuple_bool b p AF⟩
   |int b=>obtain⟨t,rfl⟩:=rb;cases h;exact⟨SeqAt.RcAt.tuple_int b t p AF,SeqAt.EqAt.tuple_int b t p AF⟩
   |str b=>obtain⟨t,rfl⟩:=rb;cases h;exact⟨SeqAt.RcAt.tuple_str b t p AF,SeqAt.EqAt.tuple_str b t p AF⟩
   |@tup pb ws ys h2 r2=>
    cases rb
    have h0:=h
    obtain⟨zU,CJ,p2,_⟩:=I.tuple (av sF h2)
    replace h:Option.map (λbs:List Bool=>bs.all id && xs.length==ys.length) (List.mapM (λp:PV×PV=>zA d p.1 p.2) (xs.zip ys))=some k:=h
    rw[aat]at h
    obtain⟨bs,hb,e⟩:=h
    obtain⟨GP,GR⟩:=bz hb
    have l1:eQ.length=xs.length:=by rw[<- rv.length,r1.len]
    have l2:zU.length=ys.length:=by rw[<- CJ.length,r2.len]
    have rc:SeqAt.RcAt A s (.ref pa) (.ref pb) k:=by
     have:=SeqAt.RcAt.tuples (e:=λj=>bs.getD j false) p p2 AF (λj j1 j2=>by
      simp only[aaf]at j1 j2
      have jx:j<xs.length:=by omega
      have jy:j<ys.length:=by omega
      have hz:(xs.zip ys)[j]?=some (xs[j],ys[j]):=by rw[aaR];exact⟨by simp[jx],by simp[jy]⟩
      obtain⟨b,e1,e2⟩:=GR j _ hz
      obtain⟨v1,q1,q2⟩:=r1.get (aab jx)
      obtain⟨v2,q3,q4⟩:=r2.get (aab jy)
      obtain⟨u1,q5,q6⟩:=rv.get q1
      obtain⟨u2,q7,q8⟩:=CJ.get q3
      have g1:eQ.toArray[j]=u1:=by simpa[aab j1]using q5
      have g2:zU.toArray[j]=u2:=by simpa[aab j2]using q7
      rw[g1,g2]
      have Ds:bs.getD j false=b:=by simp[aew,e1]
      rw[Ds]
      exact(ih (A:=A.in1) (by show A.units+1+d<cLine;omega) q2 q4 q6 q8 e2).2)
     have e3:((aaV (min eQ.toArray.size zU.toArray.size)).all (λj=>bs.getD j false) && eQ.toArray.size==zU.toArray.size)=k:=by
      have e4:min eQ.toArray.size zU.toArray.size=bs.length:=by
       rw[GP,ad5,aaf,aaf,l1,l2]
      rw[e4,dZ (λj hj=>by simp[aew,aab hj]),aaf,aaf,l1,l2]
      exact e
     rw[e3]at this
     exact this
    refine⟨rc,?_⟩
    by_cases q:pa=pb
    .subst q
     have:k=true:=lL I sF (.tup h1 r1) (.tup h2 r2) h0
     subst this
     exact afg _
    .exact SeqAt.EqAt.of_refs q rc
   |lst h2 r2=>
    cases rb;cases h
    obtain⟨zU,_,p2,_⟩:=I.list (.inl (.inl (sF _ _ h2)))
    exact⟨SeqAt.RcAt.tuple_list p p2.isList AF,SeqAt.EqAt.tuple_list p p2.isList AF⟩
   |zB=>cases h
   |A3=>cases h
  |@lst pa vs xs h1 r1=>
   cases ra
   obtain⟨eQ,rv,p,_⟩:=I.list (.inl (.inl (sF _ _ h1)))
   cases ry with
   |oR=>cases rb;cases h;exact⟨SeqAt.RcAt.list_none p.isList AF,SeqAt.EqAt.list_none p.isList AF⟩
   |bl b=>cases rb;cases h;exact⟨SeqAt.RcAt.list_bool b p.isList AF,SeqAt.EqAt.list_bool b p.isList AF⟩
   |int b=>obtain⟨t,rfl⟩:=rb;cases h;exact⟨SeqAt.RcAt.list_int b t p.isList AF,SeqAt.EqAt.list_int b t p.isList AF⟩
   |str b=>obtain⟨t,rfl⟩:=rb;cases h;exact⟨SeqAt.RcAt.list_str b t p.isList AF,SeqAt.EqAt.list_str b t p.isList AF⟩
   |tup h2 r2=>
    cases rb;cases h
    obtain⟨zU,_,p2,_⟩:=I.tuple (av sF h2)
    exact⟨SeqAt.RcAt.list_tuple p.isList p2 AF,SeqAt.EqAt.list_tuple p.isList p2 AF⟩
   |@lst pb ws ys h2 r2=>
    cases rb
    have h0:=h
    obtain⟨zU,CJ,p2,_⟩:=I.list (.inl (.inl (sF _ _ h2)))
    have l1:eQ.length=xs.length:=by rw[<- rv.length,r1.len]
    have l2:zU.length=ys.length:=by rw[<- CJ.length,r2.len]
    have rc:SeqAt.RcAt A s (.ref pa) (.ref pb) k:=by
     replace h:(if xs.length=ys.length then Option.map (λbs:List Bool=>bs.all id) (List.mapM (λp:PV×PV=>zA d p.1 p.2) (xs.zip ys))else some false)=some k:=h
     split at h
     .rename_i hl
      rw[aat]at h
      obtain⟨bs,hb,e⟩:=h
      obtain⟨GP,GR⟩:=bz hb
      have:=SeqAt.RcAt.lists (e:=λj=>bs.getD j false) p.isList p2.isList (by rw[aaf,aaf];omega) AF (λj j1 j2=>by
       simp only[aaf]at j1 j2
       have jx:j<xs.length:=by omega
       have jy:j<ys.length:=by omega
       have hz:(xs.zip ys)[j]?=some (xs[j],ys[j]):=by rw[aaR];exact⟨by simp[jx],by simp[jy]⟩
       obtain⟨b,e1,e2⟩:=GR j _ hz
       obtain⟨v1,q1,q2⟩:=r1.get (aab jx)
       obtain⟨v2,q3,q4⟩:=r2.get (aab jy)
       obtain⟨u1,q5,q6⟩:=rv.get q1
       obtain⟨u2,q7,q8⟩:=CJ.get q3
       have g1:eQ.toArray[j]=u1:=by simpa[aab j1]using q5
       have g2:zU.toArray[j]=u2:=by simpa[aab j2]using q7
       rw[g1,g2]
       have Ds:bs.getD j false=b:=by simp[aew,e1]
       rw[Ds]
       exact(ih (A:=A.in1) (by show A.units+1+d<cLine;omega) q2 q4 q6 q8 e2).2)
      have e3:((aaV eQ.toArray.size).all (λj=>bs.getD j false))=k:=by
       have e4:eQ.toArray.size=bs.length:=by
        rw[GP,ad5,aaf,l1];omega
       rw[e4,dZ (λj hj=>by simp[aew,aab hj])]
       exact e
      rw[e3]at this
      exact this
     .rename_i hl
      cases h
      exact SeqAt.RcAt.lists_lengths p.isList p2.isList (by simp only[aaf];simpa[l1,l2]using hl) AF
    refine⟨rc,?_⟩
    by_cases q:pa=pb
    .subst q
     have:k=true:=lL I sF (.lst h1 r1) (.lst h2 r2) h0
     subst this
     exact afg _
    .exact SeqAt.EqAt.of_refs q rc
   |zB=>cases h
   |A3=>cases h
  |zB h1 r1=>cases y<;>cases h
  |A3 h1=>cases y<;>cases h
def Ag(x y:PV):Option PV:=(zA 60 x y).map .bl
theorem Vw.BB(h:Vw M F H v x)(s:bY F H)(hx:∀xs,x≠.set xs):∃F',bY F F'/\bY F' H/\Rep M.K F' v x:=by
 rcases h with h|⟨a,rfl,h⟩
 .exact⟨F,am,s,h⟩
 .cases x<;>try exact h.elim
  .rename_i xs
   obtain⟨vs,h1,h2⟩:=h
   cases e:F a with
   |none=>
    refine⟨upd F a (.lst vs),ay e,λb o q=>?_,.lst ak (h2.mono (ay e))⟩
    by_cases z:b=a
    .subst z;rw[ak]at q;cases q;exact h1
    .rw[ag z]at q;exact s b o q
   |some o=>
    have:=s a o e
    rw[h1]at this;cases this
    exact⟨F,am,s,.lst e h2⟩
  .rename_i xs
   obtain⟨vs,h1,h2⟩:=h
   cases e:F a with
   |none=>
    refine⟨upd F a (.dK vs),ay e,λb o q=>?_,.zB ak (h2.mono (ay e))⟩
    by_cases z:b=a
    .subst z;rw[ak]at q;cases q;exact h1
    .rw[ag z]at q;exact s b o q
   |some o=>
    have:=s a o e
    rw[h1]at this;cases this
    exact⟨F,am,s,.zB e h2⟩
  .exact absurd rfl (hx _)
def MP(K:aag):R2:=λv u H Q=>∃F x y k,bY F H/\Rep K F v x/\Rep K F u y/\zA 60 x y=some k/\Q (.bl k) H
theorem bw(hu:X.A.units+60<cLine):zH X (aaE .Eq) (MP X.K):=by
 intro pins s σ H x y v u Q I rx ry h
 obtain⟨F,p,q,k,sF,r1,r2,e,hq⟩:=h
 exact(Jf I sF (A:=X.A) hu r1 r2 rx ry e).1 X.prog X.w X.xe _ ⟨.bl k,H,I,rfl,hq⟩
theorem bv:Ce ob X (MP X.K) Ag:=by
 refine bo (P:=λ_ _ _ _=>True) λF H v u x y z sF rx ry hz=>?_
 unfold Ag at hz
 rw[aat]at hz
 obtain⟨k,hk,rfl⟩:=hz
 have nx:∀xs,x≠.set xs:=λxs e=>by subst e;cases y<;>cases hk
 have ny:∀xs,y≠.set xs:=λxs e=>by subst e;cases x<;>cases hk
 obtain⟨F1,s1,s2,r1⟩:=rx.BB sF nx
 have Td:Vw (md ob X) F1 H u y:=by
  rcases ry with r|⟨a,e,r⟩
  .exact .inl (r.mono s1)
  .exact .inr ⟨a,e,r.mono s1 rfl⟩
 obtain⟨F2,s3,s4,r2⟩:=Td.BB s2 ny
 exact⟨_,λ_=>.bl _,λQ q=>⟨F2,x,y,k,s4,r1.mono s3,r2,hk,q⟩⟩
def toV:PV->Option V
 |.oR=>some .oR
 |.bl b=>some (.bl b)
 |.int i=>some (.int i)
 |.str s=>some (.str s)
 |_=>none
theorem qG{w:V}(h:Vw M F H v x)(e:toV x=some w):v=w:=by
 cases x<;>cases e
 .exact h.oR
 .exact h.bl
 .exact h.int
 .exact h.str
def EF:PV->PV->Option PV
 |.lst xs,.lst []=>some (.bl (!xs.isEmpty))
 |x,y=>(toV x).bind λv=>(toV y).bind λu=>if IC v u=true then some (.bl (!decide (v=u)))else none
theorem jD:Ce ob X (λx y H Q=>PU x y H Q\/D7 X.K x y H Q) EF:=by
 refine bo (P:=λ_ _ _ _=>True) λF H v u x y z sF rx ry hz=>?_
 unfold EF at hz
 split at hz
 .cases hz
  rename_i xs
  obtain⟨p,vs,rfl,h1,h2⟩:=rx.lst sF
  obtain⟨q,ws,rfl,g1,g2⟩:=ry.lst sF
  cases g2
  refine⟨_,λ_=>.bl _,λQ hq=>.inr ⟨p,q,vs,rfl,rfl,.inl (.inl h1),.inl (.inl g1),?_⟩⟩
  have:vs.isEmpty=xs.isEmpty:=by have:=h2.len;cases vs<;>cases xs<;>simp at this ⊢
  rw[this];exact hq
 .cases e1:toV x with
  |none=>rw[e1]at hz;cases hz
  |some v'=>
   cases e2:toV y with
   |none=>rw[e1,e2]at hz;cases hz
   |some u'=>
    rw[e1,e2]at hz
    have hz:(if IC v' u'=true then some (PV.bl (!decide (v'=u')))else none)=some z:=hz
    split at hz
    .rename_i hs
     cases hz
     rw[qG rx e1,qG ry e2]
     exact⟨_,λ_=>.bl _,λQ q=>.inl ⟨hs,q⟩⟩
    .cases hz
theorem mi(hu:X.A.units<cLine):zH X (aaE .NotEq) (λx y H Q=>PU x y H Q\/D7 X.K x y H Q):=zH.or yE (jh hu)
theorem Inv.Ox(I:Inv X pins σ H s){a:Addr}{o:Obj}(h:X.K.lookup a=some o):H a=none:=(I.bs a o (I.mod.kin a o h)).2
theorem nK(I:Inv X pins σ H s){a:Addr}{kvs:List (Key×V)}{vs:List V}(h1:H a=some (.dK kvs))(h2:zW X.K H a vs):False:=by
 obtain⟨_,_,_,_,o,_,_,e,ex,_⟩:=I.y6 a _ h1
 obtain⟨_,_,⟨o',e',c',_⟩,_⟩:=I.tuple h2
 rw[e]at e';cases e';rw[ex.1]at c';injection c' with c';exact absurd c' (by decide)
theorem iM:∀{ns ms:List Int},ns.map V.int=ms.map V.int->ns=ms
 |[],[],_=>rfl
 |n::ns,m::ms,h=>by
  rw[aar,aar]at h
  injection h with h1 h2
  injection h1 with h1
  rw[h1,iM h2]
 |[],_::_,h=>by simp at h
 |_::_,[],h=>by simp at h
variable{y:PV}
theorem Rep.inj(I:Inv X pins σ H s)(sF:bY F H)(h:Rep X.K F v x)(h':Rep X.K F v y):x=y:=by
 refine Rep.rec (K:=X.K) (F:=F) (motive_1:=λv x _=>∀y,Rep X.K F v y->x=y) (motive_2:=λvs xs _=>∀ys,nE X.K F vs ys->xs=ys) (motive_3:=λvs xs _=>∀ys,yV X.K F vs ys->xs=ys)
  ?_ ?_ ?_ ?_ ?_ ?_ ?_ ?_ ?_ ?_ ?_ ?_ h y h'
 .intro y h;cases h;rfl
 .intro b y h;cases h;rfl
 .intro b y h;cases h;rfl
 .intro b y h;cases h;rfl
 .intro a vs xs h1 _ ih y h
  cases h with
  |tup h2 r2=>
   have:=I.Ar (av sF h1) (av sF h2)
   subst this
   rw[ih _ r2]
  |lst h2 r2=>exact(cH I (.inl (.inl (sF _ _ h2))) (av sF h1)).elim
  |zB h2 r2=>exact(nK I (sF _ _ h2) (av sF h1)).elim
  |A3 h2=>exact(cH I (du sF h2.sq) (av sF h1)).elim
 .intro a vs xs h1 _ ih y h
  cases h with
  |tup h2 r2=>exact(cH I (.inl (.inl (sF _ _ h1))) (av sF h2)).elim
  |lst h2 r2=>rw[h1]at h2;cases h2;rw[ih _ r2]
  |zB h2 r2=>rw[h1]at h2;cases h2
  |A3 h2=>
   rcases h2 with ⟨o,h2⟩|⟨o,_,_,h2,_⟩
   .rw[h1]at h2;cases h2
   .have:=sF _ _ h1;rw[Inv.Ox I h2]at this;cases this
 .intro a vs xs h1 _ ih y h
  cases h with
  |tup h2 r2=>exact(nK I (sF _ _ h1) (av sF h2)).elim
  |lst h2 r2=>rw[h1]at h2;cases h2
  |zB h2 r2=>rw[h1]at h2;cases h2;rw[ih _ r2]
  |A3 h2=>
   rcases h2 with ⟨o,h2⟩|⟨o,_,_,h2,_⟩
   .rw[h1]at h2;cases h2
   .have:=sF _ _ h1;rw[Inv.Ox I h2]at this;cases this
 .intro a ns h1 y h
  cases h with
  |tup h2 r2=>exact(cH I (du sF h1.sq) (av sF h2)).elim
  |lst h2 r2=>
   rcases h1 with ⟨o,h1⟩|⟨o,_,_,h1,_⟩
   .rw[h1]at h2;cases h2
   .have:=sF _ _ h2;rw[Inv.Ox I h1]at this;cases this
  |zB h2 r2=>
   rcases h1 with ⟨o,h1⟩|⟨o,_,_,h1,_⟩
   .rw[h1]at h2;cases h2
   .have:=sF _ _ h2;rw[Inv.Ox I h1]at this;cases this
  |A3 h2=>rw[iM (I.EJ (du sF h1.sq) (du sF h2.sq))]
 .intro ys h;cases h;rfl
 .intro v x vs xs _ _ Ql Qk ys h
  cases h with
  |cons h r=>rw[Ql _ h,Qk _ r]
 .intro ys h;cases h;rfl
 .intro k v x vs xs _ _ Ql Qk ys h
  cases h with
  |cons h r=>rw[Ql _ h,Qk _ r]
variable{A:Around}
theorem ib(I:Inv X pins σ H s)(sF:bY F H){d:Nat}{vs:List V}{us:List Value}{xs:List PV}{u:Value}{ks:List Bool}(hu:A.units+d<cLine)(rv:oF vs us)(r:nE X.K F vs xs)(rx:Rep X.K F v x)(ru:RelV v u)
  (hk:xs.mapM (λy=>zA d y x)=some ks):∃e:Value->Bool,(∀y,y∈us->adB A s y u (e y))/\us.any e=ks.any id/\us.countP e=ks.countP id/\(∀(i:Nat) (w:Value),us[i]?=some w->ks[i]?=some (e w)):=by
 obtain⟨hl,hb⟩:=bz hk
 have l1:=rv.length
 have l2:=r.len
 have key:∀(i:Nat) (w:Value),us[i]?=some w->∃b y z,xs[i]?=some y/\vs[i]?=some z/\RelV z w/\Rep X.K F z y/\zA d y x=some b/\ks[i]?=some b:=λi w hw=>by
  obtain⟨z,e1,e2⟩:=oF.HS rv hw
  obtain⟨y,e3,e4⟩:=r.HS e1
  obtain⟨b,e5,e6⟩:=hb i y e3
  exact⟨b,y,z,e3,e1,e2,e4,e6,e5⟩
 let e:Value->Bool:=λw=>(us.zip ks).any λp=>p.1==w && p.2
 have four:∀(i:Nat) (w:Value),us[i]?=some w->ks[i]?=some (e w):=by
  intro i w hw
  obtain⟨b,y,z,e1,e2,e3,e4,e5,e6⟩:=key i w hw
  rw[e6]
  congr 1
  rw[aaS,ae5]
  constructor
  .intro Ds
   refine⟨(w,b),abp (i:=i) (by rw[aaR];exact⟨hw,e6⟩),by simp[Ds]⟩
  .rintro⟨⟨w',b'⟩,hm,hp⟩
   simp only[aaC]at hp
   obtain⟨j,hj,ej⟩:=List.mem_iff_getElem.mp hm
   have hz:=aab hj
   rw[ej,aaR]at hz
   obtain⟨LU,Nm⟩:=hz
   have TH:w'=w:=eq_of_beq hp.1
   dsimp only at LU Nm
   rw[TH]at LU
   obtain⟨b2,y2,z2,f1,f2,f3,f4,f5,f6⟩:=key j w LU
   have:z=z2:=e3.inj f3
   subst this
   have:=Rep.inj I sF e4 f4
   subst this
   rw[e5]at f5;cases f5
   rw[Nm]at f6;cases f6
   exact hp.2
 have Nx:ks=us.map e:=by
  refine ac6 λi=>?_
  rw[aaj]
  cases q:us[i]? with
  |none=>
   have:us.length<=i:=List.getElem?_eq_none_iff.mp q
   rw[aap (by omega)];rfl
  |some w=>rw[four i w q];rfl
 refine⟨e,λy hy=>?_,?_,?_,four⟩
 .obtain⟨i,hi,rfl⟩:=List.mem_iff_getElem.mp hy
  have hw:=aab hi
  obtain⟨b,y,z,e1,e2,e3,e4,e5,e6⟩:=key i _ hw
  have:=four i _ hw
  rw[e6]at this
  rw[<- aao this]
  exact(Jf I sF (A:=A) hu e4 rx e3 ru e5).2
 .rw[Nx,List.any_map];rfl
 .rw[Nx,List.countP_map];rfl
def Ig(x:PV):PV->Option Bool
 |.tup ys=>(ys.mapM λy=>zA 60 y x).map λks=>ks.any id
 |.lst ys=>(ys.mapM λy=>zA 60 y x).map λks=>ks.any id
 |.zB kvs=>(B5 x).map λk=>(AA kvs k).isSome
 |.str s=>match x with
  |.str t=>some (!(ac1 s t 0 s.length 1).isEmpty)
  |_=>none
 |.set S=>match x with
  |.str t=>some (decide (t∈S))
  |_=>none
 |_=>none
def HB:PV->Bool
 |.set _=>false
 |_=>true
theorem mS(h:HB x=true):∀xs,x≠.set xs:=λxs e=>by subst e;cases h
def AY(x y:PV):Option PV:=if HB x=true then (Ig x y).map .bl else none
def AU(x y:PV):Option PV:=if HB x=true then (Ig x y).map λb=>.bl (!b)else none
def GA(P:aaH)(w:World)(K:aag)(neg:Bool):R2:=λv u H Q=>∃(F:Hp) (x:PV) (b:Bool),bY F H/\Q (.bl (if neg then !b else b)) H /\
 ((∃p vs ys ks,u=.ref p/\(An K H p vs\/zW K H p vs)/\nE K F vs ys/\Rep K F v x/\ys.mapM (λy=>zA 60 y x)=some ks/\b=ks.any id) \/
  (∃p o,u=.ref p/\E3 H p v o/\b=o.isSome)\/(∃i j,v=.str i/\u=.str j/\b=!(ac1 j i 0 j.length 1).isEmpty) \/
  (∃z a S n,v=.str z/\u=.ref a/\H a=some (Ko P w a S n)/\b=S z))
theorem bF(hu:X.A.units+62<cLine):zH X (aaE .In) (GA X.prog X.w X.K false):=by
 intro pins s σ H v u v' u' Q I rv ru h
 obtain⟨F,x,b,sF,q,h⟩:=h
 have q:Q (.bl b) H:=q
 rcases h with ⟨p,vs,ys,ks,rfl,hs,hr,hx,hk,rfl⟩|⟨p,o,rfl,hd,rfl⟩|⟨i,j,rfl,rfl,rfl⟩|⟨z,a,S,n,rfl,rfl,ha,rfl⟩
 .cases ru
  rcases hs with hs|hs
  .obtain⟨eQ,r,pl,_⟩:=I.list hs
   obtain⟨e,e1,e2,_⟩:=ib I sF (A:=X.A.in1) (d:=60) (by show X.A.units+1+60<cLine;omega) r hr hx rv hk
   refine SeqAt.in_listAt e pl.isList (λy hy=>e1 y (by simpa using hy)) ⟨.bl _,H,I,rfl,?_⟩
   rw[show eQ.toArray.any e=eQ.any e by simp,e2];exact q
  .obtain⟨eQ,r,pl,_⟩:=I.tuple hs
   obtain⟨e,e1,e2,_⟩:=ib I sF (A:=X.A.in1) (d:=60) (by show X.A.units+1+60<cLine;omega) r hr hx rv hk
   refine SeqAt.in_tupleAt e pl (λy hy=>e1 y (by simpa using hy)) ⟨.bl _,H,I,rfl,?_⟩
   rw[show eQ.toArray.any e=eQ.any e by simp,e2];exact q
 .cases ru
  exact yS (by omega) I hd rv λs3 I3=>⟨.bl _,H,I3,rfl,q⟩
 .exact rB pins s σ H _ _ _ _ Q I rv ru ⟨i,j,rfl,rfl,q⟩
 .cases ru
  obtain⟨t,rfl⟩:=rv
  obtain⟨x,_,_⟩:=I.y6 a _ ha
  exact wpAny_inSet_of (knd:=PySem.strKind X.prog X.w) (strKind_is _ _ _ _) rfl x ⟨.bl (S z),H,I.tok _,rfl,q⟩
theorem dA(hu:X.A.units+62<cLine):zH X (aaE .NotIn) (GA X.prog X.w X.K true):=by
 intro pins s σ H v u v' u' Q I rv ru h
 obtain⟨F,x,b,sF,q,h⟩:=h
 have q:Q (.bl (!b)) H:=q
 rcases h with ⟨p,vs,ys,ks,rfl,hs,hr,hx,hk,rfl⟩|⟨p,o,rfl,hd,rfl⟩|⟨i,j,rfl,rfl,rfl⟩|⟨z,a,S,n,rfl,rfl,ha,rfl⟩
 .cases ru
  rcases hs with hs|hs
  .obtain⟨eQ,r,pl,_⟩:=I.list hs
   obtain⟨e,e1,e2,_⟩:=ib I sF (A:=X.A.in1) (d:=60) (by show X.A.units+1+60<cLine;omega) r hr hx rv hk
   refine SeqAt.notIn_listAt e pl.isList (λy hy=>e1 y (by simpa using hy)) ⟨.bl _,H,I,rfl,?_⟩
   rw[show eQ.toArray.any e=eQ.any e by simp,e2];exact q
  .obtain⟨eQ,r,pl,_⟩:=I.tuple hs
   obtain⟨e,e1,e2,_⟩:=ib I sF (A:=X.A.in1) (d:=60) (by show X.A.units+1+60<cLine;omega) r hr hx rv hk
   refine SeqAt.notIn_tupleAt e pl (λy hy=>e1 y (by simpa using hy)) ⟨.bl _,H,I,rfl,?_⟩
   rw[show eQ.toArray.any e=eQ.any e by simp,e2];exact q
 .cases ru
  exact wM (by omega) I hd rv λs3 I3=>⟨.bl _,H,I3,rfl,q⟩
 .exact mP pins s σ H _ _ _ _ Q I rv ru ⟨i,j,rfl,rfl,q⟩
 .exact rm pins s σ H _ _ _ _ Q I rv ru ⟨z,a,S,n,rfl,rfl,ha,q⟩
theorem rZ{u:V}{b neg:Bool}(sF:bY F H)(nx:∀xs,x≠.set xs)(rx:Vw (md ob X) F H v x)(ry:Vw (md ob X) F H u y)(hz:Ig x y=some b)(Q:VK)(q:Q (.bl (if neg then !b else b)) H):GA X.prog X.w X.K neg v u H Q:=by
 unfold Ig at hz
 have seq:∀{p:Addr} {vs:List V} {ys:List PV},u=.ref p->(An X.K H p vs\/zW X.K H p vs)->nE X.K F vs ys->((ys.mapM λy=>zA 60 y x).map λks=>ks.any id)=some b->GA X.prog X.w X.K neg v u H Q:=λ{p vs ys} hp hs hr hz=>by
  rw[aat]at hz
  obtain⟨ks,hk,e⟩:=hz
  obtain⟨F1,s1,s2,r1⟩:=rx.BB sF nx
  exact⟨F1,x,b,s2,q,.inl ⟨p,vs,ys,ks,hp,hs,hr.mono s1,r1,hk,e.symm⟩⟩
 split at hz
 .obtain⟨p,vs,e,h1,h2⟩:=ry.tup sF
  exact seq e (.inr h1) h2 hz
 .obtain⟨p,vs,e,h1,h2⟩:=ry.lst sF
  exact seq e (.inl (.inl (.inl h1))) h2 hz
 .obtain⟨p,vs,e,h1,h2⟩:=ry.zB sF
  rw[aat]at hz
  obtain⟨k,hk,rfl⟩:=hz
  have hv:=Jr rx hk
  subst hv
  refine⟨F,.oR,_,sF,q,.inr (.inl ⟨p,AK vs k,e,Qj h1,?_⟩)⟩
  rcases h2.val (k:=k)with ⟨e1,e2⟩|⟨w,w',e1,e2,_⟩
  .rw[e1,e2];rfl
  .rw[e1,e2];rfl
 .split at hz
  .cases hz
   exact⟨F,.oR,_,sF,q,.inr (.inr (.inl ⟨_,_,rx.str,ry.str,rfl⟩))⟩
  .cases hz
 .split at hz
  .cases hz
   rcases ry with r|⟨p,rfl,r⟩
   .cases r
   .exact⟨F,.oR,_,sF,q,.inr (.inr (.inr ⟨_,p,_,_,rx.str,rfl,r,rfl⟩))⟩
  .cases hz
 .cases hz
theorem bE:Ce ob X (GA X.prog X.w X.K false) AY:=by
 refine bo (P:=λ_ _ _ _=>True) λF H v u x y z sF rx ry hz=>?_
 unfold AY at hz
 split at hz
 case isFalse=>cases hz
 rename_i nx
 rw[aat]at hz
 obtain⟨b,hb,rfl⟩:=hz
 exact⟨_,λ_=>.bl _,λQ q=>rZ sF (mS nx) rx ry hb Q q⟩
theorem dz:Ce ob X (GA X.prog X.w X.K true) AU:=by
 refine bo (P:=λ_ _ _ _=>True) λF H v u x y z sF rx ry hz=>?_
 unfold AU at hz
 split at hz
 case isFalse=>cases hz
 rename_i nx
 rw[aat]at hz
 obtain⟨b,hb,rfl⟩:=hz
 exact⟨_,λ_=>.bl _,λQ q=>rZ sF (mS nx) rx ry hb Q q⟩
inductive GZ (M:Md) (F H:Hp):List V->List PV->Prop where
 |nil:GZ M F H [] []
 |cons {v:V} {x:PV} {vs:List V} {xs:List PV}:Vw M F H v x->GZ M F H vs xs->GZ M F H (v::vs) (x::xs)
theorem nE.S0{vs:List V}{xs:List PV}(h:nE M.K F vs xs):GZ M F H vs xs:=by
 induction h using nE.ind with
 |nil=>exact .nil
 |cons a _ ih=>exact .cons (.inl a) ih
theorem GZ.one{vs:List V}(h:GZ M F H vs [x]):∃v,vs=[v]/\Vw M F H v x:=by
 cases h with
 |cons a r=>cases r;exact⟨_,rfl,a⟩
theorem GZ.two{vs:List V}(h:GZ M F H vs [x,y]):∃v u,vs=[v,u]/\Vw M F H v x/\Vw M F H u y:=by
 cases h with
 |cons a r=>
  cases r with
  |cons b r=>cases r;exact⟨_,_,rfl,a,b⟩
structure FQ(ob:Ap)(X:Cx)(es:List Expr)(f:WA):Prop where
 ex:∃t:TA,PA X es t/\∀(Z:Zn) (F:Hp) (σ:L2.St) (H:Hp) (env:En) (P:List PV->En->Prop) (Q:List V->Hp->Prop),tO (md ob X) Z F σ H env->f env P ->
  (∀xs dO vs F' H',P xs dO->bY F F'->tO (md ob X) Z F' σ H' dO->GZ (md ob X) F' H' vs xs->Q vs H')->t σ H Q
def a1(a:WE):WA:=λenv P=>a env λx e=>P [x] e
def BC(o:List PV->Option PV)(fa:WA):WE:=λenv P=>fa env λxs e=>opt (o xs) λz=>P z e
variable{es:List Expr}{fa:WA}{x:Str}{JH T:String}{r:List V->Hp->VK->Prop}{o:List PV->Option PV}
theorem C4(h:Et ob X es fa):FQ ob X es fa:=by
 obtain⟨t,ht,k⟩:=h.ex
 exact⟨t,ht,λZ F σ H env P Q K hf kk=>k Z F σ H env P Q K hf λxs e1 vs F1 H1 p _ s1 K1 r1=>kk xs e1 vs F1 H1 p s1 K1 r1.S0⟩
theorem ij(h:C7 ob X e f)(hs:aam [e] X.env=(false,eval e X.env)::aam [] X.env:=by rfl):FQ ob X [e] (a1 f):=by
 obtain⟨t,ht,k⟩:=h.ex
 exact⟨_,aY ht bn hs,λZ F σ H env P Q K hf kk=>k Z F σ H env _ _ K hf λx e1 v F1 H1 p s1 K1 r1=>kk [x] e1 [v] F1 H1 p s1 K1 (.cons r1 .nil)⟩
def Cf(ob:Ap)(X:Cx)(r:List V->Hp->VK->Prop)(o:List PV->Option PV):Prop :=
 ∀(Z:Zn) (F:Hp) (σ:L2.St) (H:Hp) (env:En) (vs:List V) (xs:List PV) (z:PV) (Q:VK),tO (md ob X) Z F σ H env->GZ (md ob X) F H vs xs->o xs=some z ->
  (∀v' F' H',bY F F'->tO (md ob X) Z F' σ H' env->Rep X.K F' v' z->Q v' H')->r vs H Q
def FR(ob:Ap)(X:Cx)(r:List V->Hp->VK->Prop)(o:List PV->Option PV):Prop :=
 ∀(Z:Zn) (F:Hp) (σ:L2.St) (H:Hp) (env:En) (vs:List V) (xs:List PV) (z:PV) (Q:VK),tO (md ob X) Z F σ H env->GZ (md ob X) F H vs xs->o xs=some z ->
  (∀v' H',(∀xs,z≠.set xs)->tO (md ob X) Z F (σ++[some v']) H' (env++[some ⟨1,z⟩])->Q v' H')->r vs H Q
theorem qN{t:TA}(hq:Cf ob X r o)(k:∀(Z:Zn) (F:Hp) (σ:L2.St) (H:Hp) (env:En) (P:List PV->En->Prop) (Q:List V->Hp->Prop),tO (md ob X) Z F σ H env->fa env P->(∀xs dO vs F' H',P xs dO->bY F F'->tO (md ob X) Z F' σ H' dO->GZ (md ob X) F' H' vs xs->Q vs H')->t σ H Q):
  ∀(Z:Zn) (F:Hp) (σ:L2.St) (H:Hp) (env:En) (P:PV->En->Prop) (Q:VK),tO (md ob X) Z F σ H env->BC o fa env P->(∀x dO v F' H',P x dO->bY F F'->tO (md ob X) Z F' σ H' dO->Rep X.K F' v x->Q v H')->Oh r t σ H Q:=by
 intro Z F σ H env P Q K hf kk
 refine k Z F σ H env _ _ K hf λxs e1 vs F1 H1 p s1 K1 r1=>?_
 obtain⟨z,hz,p⟩:=p
 exact hq Z F1 σ H1 e1 vs xs z Q K1 r1 hz λv' F' H' s2 K2 r2=>kk z e1 v' F' H' p (ah s1 s2) K2 r2
theorem vd{t:TA}(hq:FR ob X r o)(k:∀(Z:Zn) (F:Hp) (σ:L2.St) (H:Hp) (env:En) (P:List PV->En->Prop) (Q:List V->Hp->Prop),tO (md ob X) Z F σ H env->fa env P->(∀xs dO vs F' H',P xs dO->bY F F'->tO (md ob X) Z F' σ H' dO->GZ (md ob X) F' H' vs xs->Q vs H')->t σ H Q):
  ∀(Z:Zn) (F:Hp) (σ:L2.St) (H:Hp) (env:En) (P:PV->En->Prop) (Q:VK),tO (md ob X) Z F σ H env->BC o fa env P->(∀x dO v F' H',P x dO->bY F F'->(∀xs,x≠.set xs)->tO (md ob X) Z F' (σ++[some v]) H' (dO++[some ⟨1,x⟩])->Q v H')->Oh r t σ H Q:=by
 intro Z F σ H env P Q K hf kk
 refine k Z F σ H env _ _ K hf λxs e1 vs F1 H1 p s1 K1 r1=>?_
 obtain⟨z,hz,p⟩:=p
 exact hq Z F1 σ H1 e1 vs xs z Q K1 r1 hz λv' H' hx K2=>kk z e1 v' F1 H' p s1 hx K2
theorem bC(hc:zg X (.builtin JH) r)(hq:Cf ob X r o)(hg:Gl X x)(hm:X.mg x=none)(hv:aco x=some (.builtin JH))(ha:FQ ob X (e::es) fa)(hn:x ≠ "__name__" :=by decide)(Cr:(x==("__debug__" : Str))=false:=by decide)
  (he:aam (e::es) X.env=(false,eval e X.env)::aam es X.env:=by rfl) (Bb:(backTo pos (aam es X.env)).any (·.1)=false:=by rfl):zq ob X (.Call (.Name x p) (e::es) [] pos) (BC o fa):=by
 obtain⟨t,ht,k⟩:=ha.ex
 exact⟨_,ci hc hg hm hv ht hn Cr he Bb,qN hq k⟩
theorem eD(hc:zg X (.type T) r)(hq:Cf ob X r o)(hg:Gl X x)(hm:X.mg x=none)(hv:aco x=some (.type T))(ha:FQ ob X (e::es) fa)(hn:x ≠ "__name__" :=by decide)(Cr:(x==("__debug__" : Str))=false:=by decide)
  (he:aam (e::es) X.env=(false,eval e X.env)::aam es X.env:=by rfl) (Bb:(backTo pos (aam es X.env)).any (·.1)=false:=by rfl):zq ob X (.Call (.Name x p) (e::es) [] pos) (BC o fa):=by
 obtain⟨t,ht,k⟩:=ha.ex
 exact⟨_,ly hc hg hm hv ht hn Cr he Bb,qN hq k⟩
theorem yn(hc:zg X (.type T) r)(hq:FR ob X r o)(hg:Gl X x)(hm:X.mg x=none)(hv:aco x=some (.type T))(ha:FQ ob X (e::es) fa)(hn:x ≠ "__name__" :=by decide)(Cr:(x==("__debug__" : Str))=false:=by decide)
  (he:aam (e::es) X.env=(false,eval e X.env)::aam es X.env:=by rfl) (Bb:(backTo pos (aam es X.env)).any (·.1)=false:=by rfl):Ha ob X (.Call (.Name x p) (e::es) [] pos) (BC o fa):=by
 obtain⟨t,ht,k⟩:=ha.ex
 exact⟨_,ly hc hg hm hv ht hn Cr he Bb,vd hq k⟩
variable{ns:List Int}
theorem Vw.A3(h:Vw M F H v (.A3 ns))(s:bY F H):∃a,v=.ref a/\An M.K H a (ns.map V.int):=by
 rcases h with h|⟨a,rfl,h⟩
 .cases h with
  |A3 h=>exact⟨_,rfl,du s h.sq⟩
 .exact h.elim
def Dk:List PV->Option PV
 |[.lst xs]=>some (.int xs.length)
 |[.tup xs]=>some (.int xs.length)
 |[.zB xs]=>some (.int xs.length)
 |[.str s]=>if s.length<=100000 then some (.int s.length)else none
 |[.A3 ns]=>some (.int ns.length)
 |_=>none
def MJ(K:aag):List V->Hp->VK->Prop:=λxs H Q=>(∃p ys,xs=[.ref p]/\(An K H p ys\/zW K H p ys)/\Q (.int ys.length) H)\/((∃z,xs=[.str z]/\z.length<=sizeLine/\Q (.int z.length) H)\/∃a kvs,xs=[V.ref a]/\H a=some (.dK kvs)/\Q (.int kvs.length) H)
theorem jT:zg X (.builtin "len") (MJ X.K):=zg.or gZ (zg.or nR sO)
theorem jU:Cf ob X (MJ X.K) Dk:=by
 intro Z F σ H env vs xs z Q K rv hz k
 unfold Dk at hz
 split at hz
 .cases hz
  obtain⟨v,rfl,r⟩:=rv.one
  obtain⟨p,vs,rfl,h1,h2⟩:=r.lst K.sF
  exact .inl ⟨p,vs,rfl,.inl (.inl (.inl h1)),k _ F H am K (by rw[h2.len];exact .int _)⟩
 .cases hz
  obtain⟨v,rfl,r⟩:=rv.one
  obtain⟨p,vs,rfl,h1,h2⟩:=r.tup K.sF
  exact .inl ⟨p,vs,rfl,.inr h1,k _ F H am K (by rw[h2.len];exact .int _)⟩
 .cases hz
  obtain⟨v,rfl,r⟩:=rv.one
  obtain⟨p,vs,rfl,h1,h2⟩:=r.zB K.sF
  exact .inr (.inr ⟨p,vs,rfl,h1,k _ F H am K (by rw[h2.len];exact .int _)⟩)
 .split at hz
  .cases hz
   obtain⟨v,rfl,r⟩:=rv.one
   rw[r.str]
   exact .inr (.inl ⟨_,rfl,by rw[aaG];omega,k _ F H am K (.int _)⟩)
  .cases hz
 .cases hz
  obtain⟨v,rfl,r⟩:=rv.one
  obtain⟨p,rfl,h1⟩:=r.A3 K.sF
  exact .inl ⟨p,_,rfl,.inl h1,k _ F H am K (by rw[aae];exact .int _)⟩
 .cases hz
def bL:List PV->Option PV
 |[.lst xs]=>some (.tup xs)
 |[.tup xs]=>some (.tup xs)
 |_=>none
def Hx(K:aag):List V->Hp->VK->Prop:=λxs H Q=>∃p ys,xs=[.ref p]/\((An K H p ys/\∀l,H l=none->Q (.ref l) (upd H l (.tup ys)))\/(zW K H p ys/\Q (.ref p) H))
theorem bQ:zg X (.type "tuple") (Hx X.K):=mh
theorem bR:Cf ob X (Hx X.K) bL:=by
 intro Z F σ H env vs xs z Q K rv hz k
 unfold bL at hz
 split at hz
 .cases hz
  obtain⟨v,rfl,r⟩:=rv.one
  obtain⟨p,vs,rfl,h1,h2⟩:=r.lst K.sF
  refine⟨p,vs,rfl,.inl ⟨.inl (.inl h1),λl hl=>?_⟩⟩
  have hF:F l=none:=bY.none_of K.sF hl
  exact k _ _ _ (ay hF) (K.lay hl) (.tup (.inl (.inl ak)) (h2.mono (ay hF)))
 .cases hz
  obtain⟨v,rfl,r⟩:=rv.one
  have r':=r.Fc
  obtain⟨p,vs,rfl,h1,h2⟩:=r.tup K.sF
  exact⟨p,vs,rfl,.inr ⟨h1,k _ F H am K r'⟩⟩
 .cases hz
def Ft:List PV->Option PV
 |[.lst xs]=>some (.lst xs)
 |[.tup xs]=>some (.lst xs)
 |[.A3 ns]=>some (.lst (ns.map .int))
 |_=>none
def Jz(K:aag):List V->Hp->VK->Prop:=λxs H Q=>∃p ys,xs=[.ref p]/\(An K H p ys\/zW K H p ys)/\∀l,H l=none->Q (.ref l) (upd H l (.lst ys))
theorem wP:zg X (.type "list") (Jz X.K):=nQ
theorem eh:∀(ns:List Int),nE K F (ns.map V.int) (ns.map PV.int)
 |[]=>.nil
 |n::ns=>.cons (.int n) (eh ns)
theorem wQ:FR ob X (Jz X.K) Ft:=by
 intro Z F σ H env vs xs z Q K rv hz k
 unfold Ft at hz
 split at hz
 .cases hz
  obtain⟨v,rfl,r⟩:=rv.one
  obtain⟨p,vs,rfl,h1,h2⟩:=r.lst K.sF
  exact⟨p,vs,rfl,.inl (.inl (.inl h1)),λl hl=>k _ _ (λ_=>by simp) (K.own hl ⟨vs,ak,h2⟩)⟩
 .cases hz
  obtain⟨v,rfl,r⟩:=rv.one
  obtain⟨p,vs,rfl,h1,h2⟩:=r.tup K.sF
  exact⟨p,vs,rfl,.inr h1,λl hl=>k _ _ (λ_=>by simp) (K.own hl ⟨vs,ak,h2⟩)⟩
 .cases hz
  obtain⟨v,rfl,r⟩:=rv.one
  obtain⟨p,rfl,h1⟩:=r.A3 K.sF
  exact⟨p,_,rfl,.inl h1,λl hl=>k _ _ (λ_=>by simp) (K.own hl ⟨_,ak,eh _⟩)⟩
 .cases hz
def Gb:List PV->Option PV
 |[.int i,.int j]=>some (.int (if j > i then j else i))
 |[.str s,.str t]=>some (.str (GB s t))
 |_=>none
theorem yt(hc:X.calm=true):zg X (.builtin "max") (λxs H Q=>(∃i j,xs=[.int i,.int j]/\Q (.int (if j > i then j else i)) H)\/∃x y,xs=[.str x,.str y]/\Q (.str (GB x y)) H):=zg.or (sN hc) (qv hc)
theorem yw:Cf ob X (λxs H Q=>(∃i j,xs=[.int i,.int j]/\Q (.int (if j > i then j else i)) H)\/∃x y,xs=[.str x,.str y]/\Q (.str (GB x y)) H) Gb:=by
 intro Z F σ H env vs xs z Q K rv hz k
 unfold Gb at hz
 split at hz
 .cases hz
  obtain⟨v,u,rfl,r1,r2⟩:=rv.two
  rw[r1.int,r2.int]
  exact .inl ⟨_,_,rfl,k _ F H am K (.int _)⟩
 .cases hz
  obtain⟨v,u,rfl,r1,r2⟩:=rv.two
  rw[r1.str,r2.str]
  exact .inr ⟨_,_,rfl,k _ F H am K (.str _)⟩
 .cases hz
def HH:PV->Option Int
 |.int i=>some i
 |_=>none
def A8:PV->Option Str
 |.str i=>some i
 |_=>none
theorem cE{g:PV->Option α}{w:α->V}(hg:∀x a,g x=some a->∀v,Rep K F v x->v=w a):∀{xs:List PV} {as:List α} {vs:List V},xs.mapM g=some as->nE K F vs xs->vs=as.map w
 |[],as,vs,h,r=>by simp at h;subst h;cases r;rfl
 |x::xs,as,vs,h,r=>by
  rw[abo]at h
  cases ea:g x with
  |none=>rw[ea]at h;cases h
  |some a=>
   rw[ea]at h
   cases el:xs.mapM g with
   |none=>rw[el]at h;cases h
   |some bs=>
    rw[el]at h
    have h:some (a::bs)=some as:=h
    cases h
    cases r with
    |cons r1 r2=>rw[aar,hg x a ea _ r1,cE hg el r2]
def A0:List PV->Option PV
 |[.lst xs]=>(xs.mapM CC).map λbs=>.bl (bs.all id)
 |_=>none
def Gm:List PV->Option PV
 |[.lst xs]=>(xs.mapM CC).map λbs=>.bl (bs.any id)
 |_=>none
theorem sP(x:PV)(a:Bool)(h:CC x=some a)(v:V)(r:Rep K F v x):v=.bl a:=by cases x<;>cases h;cases r;rfl
theorem j5(x:PV)(a:Str)(h:A8 x=some a)(v:V)(r:Rep K F v x):v=.str a:=by cases x<;>cases h;cases r;rfl
theorem dX:Cf ob X (λxs H Q=>∃(p:Addr) (bs:List Bool),xs=[.ref p]/\An X.K H p (bs.map V.bl)/\Q (.bl (bs.all id)) H) A0:=by
 intro Z F σ H env vs xs z Q K rv hz k
 unfold A0 at hz
 split at hz
 .rw[aat]at hz
  obtain⟨ns,hn,rfl⟩:=hz
  obtain⟨v,rfl,r⟩:=rv.one
  obtain⟨p,vs,rfl,h1,h2⟩:=r.lst K.sF
  have:=cE sP hn h2
  subst this
  exact⟨p,ns,rfl,.inl (.inl h1),k _ F H am K (.bl _)⟩
 .cases hz
theorem yx:Cf ob X (λxs H Q=>∃(p:Addr) (bs:List Bool),xs=[.ref p]/\An X.K H p (bs.map V.bl)/\Q (.bl (bs.any id)) H) Gm:=by
 intro Z F σ H env vs xs z Q K rv hz k
 unfold Gm at hz
 split at hz
 .rw[aat]at hz
  obtain⟨ns,hn,rfl⟩:=hz
  obtain⟨v,rfl,r⟩:=rv.one
  obtain⟨p,vs,rfl,h1,h2⟩:=r.lst K.sF
  have:=cE sP hn h2
  subst this
  exact⟨p,ns,rfl,.inl (.inl h1),k _ F H am K (.bl _)⟩
 .cases hz
abbrev WO:=En->(Option Int->En->Prop)->Prop
structure O5(ob:Ap)(X:Cx)(e:Option Expr)(f:WO):Prop where
 ex:∃t:TO,PO X e t/\∀(Z:Zn) (F:Hp) (σ:L2.St) (H:Hp) (env:En) (P:Option Int->En->Prop) (Q:Option Int->Hp->Prop),tO (md ob X) Z F σ H env->f env P ->
  (∀i dO F' H',P i dO->bY F F'->tO (md ob X) Z F' σ H' dO->Q i H')->t σ H Q
def CK:WO:=λenv P=>P none env
def Ba(a:WE):WO:=λenv P=>a env λx e=>opt (HH x) λi=>P (some i) e
theorem fF:O5 ob X none CK:=⟨_,ky,λZ F σ H env P Q K hf k=>k none env F H hf am K⟩
theorem bU(h:C7 ob X e f):O5 ob X (some e) (Ba f):=by
 obtain⟨t,ht,k⟩:=h.ex
 refine⟨_,ku ht,λZ F σ H env P Q K hf kk=>k Z F σ H env _ _ K hf λx e1 v F1 H1 p s1 K1 r1=>?_⟩
 obtain⟨z,hz,p⟩:=p
 cases x<;>cases hz
 rw[r1.int]
 exact⟨_,rfl,kk _ e1 F1 H1 p s1 K1⟩
def BF(xs:List α)(lo hi:Option Int):List α:=(xs.drop (HT.zQ xs.length 0 lo)).take (HT.zQ xs.length xs.length hi - HT.zQ xs.length 0 lo)
def IA:PV->Option Int->Option Int->Option PV
 |.lst xs,lo,hi=>some (.lst (BF xs lo hi))
 |.tup xs,lo,hi=>some (.tup (BF xs lo hi))
 |.A3 ns,lo,hi=>some (.lst ((BF ns lo hi).map .int))
 |_,_,_=>none
def Iq(a:WE)(lo hi:WO):WE:=λenv P=>a env λx e1=>lo e1 λl e2=>hi e2 λu e3=>opt (IA x l u) λz=>P z e3
theorem nL{vs:List V}{xs:List PV}{lo hi:Option Int}(r:nE K F vs xs):nE K F (CB vs lo hi) (BF xs lo hi):=by
 unfold CB BF
 rw[r.len]
 exact(r.drop _).take _
theorem wN{lo hi:Option Int}:CB (ns.map V.int) lo hi=(BF ns lo hi).map V.int:=by
 unfold CB BF
 rw[aae,List.map_take,List.map_drop]
theorem Rep.vw{x:PV}(h:Rep M.K F v x):Vw M F H v x:=.inl h
variable{p2:Pos}
theorem gb{l u:Option Expr}{lo hi:WO}(ha:zq ob X a f)(hl:O5 ob X l lo)(hu:O5 ob X u hi):zq ob X (.Subscript a (.Slice l u none p2) pos) (Iq f lo hi):=by
 obtain⟨t,ht,k⟩:=ha.ex
 obtain⟨t1,IS,k1⟩:=hl.ex
 obtain⟨t2,KU,k2⟩:=hu.ex
 refine⟨_,jf (Jk.or j6 u9) ht IS KU,λZ F σ H env P Q K hf kk=>k Z F σ H env _ _ K hf λx e1 v F1 H1 p s1 K1 r1=>?_⟩
 refine k1 Z F1 σ H1 e1 _ _ K1 p λi e2 F2 H2 p2 s2 K2=>k2 Z F2 σ H2 e2 _ _ K2 p2 λj e3 F3 H3 p3 s3 K3=>?_
 obtain⟨z,hz,p3⟩:=p3
 have r3:=(r1.mono s2).mono s3
 have s4:=ah s1 (ah s2 s3)
 have PX:Vw (md ob X) F3 H3 v x:=.inl r3
 cases x<;>simp only[IA]at hz<;>cases hz
 .obtain⟨q,vs,rfl,h1,h2⟩:=PX.tup K3.sF
  refine .inr ⟨q,vs,rfl,h1,λhw=>kk _ e3 _ F3 H3 p3 s4 K3 ?_,λl hl=>?_⟩
  .have:BF (α:=PV) ‹_› i j=‹List PV›:=by
    unfold BF
    rw[<- h2.len,hw.1,hw.2]
    simp[h2.len]
   rw[this];exact r3
  .have hF:F3 l=none:=bY.none_of K3.sF hl
   exact kk _ e3 _ _ _ p3 (ah s4 (ay hF)) (K3.lay hl) (.tup (.inl (.inl ak)) ((nL h2).mono (ay hF)))
 .obtain⟨q,vs,rfl,h1,h2⟩:=PX.lst K3.sF
  refine .inl ⟨q,vs,rfl,.inl (.inl h1),λl hl=>?_⟩
  have hF:F3 l=none:=bY.none_of K3.sF hl
  exact kk _ e3 _ _ _ p3 (ah s4 (ay hF)) (K3.lay hl) (.lst ak ((nL h2).mono (ay hF)))
 .obtain⟨q,rfl,h1⟩:=PX.A3 K3.sF
  refine .inl ⟨q,_,rfl,h1,λl hl=>?_⟩
  have hF:F3 l=none:=bY.none_of K3.sF hl
  exact kk _ e3 _ _ _ p3 (ah s4 (ay hF)) (K3.lay hl) (.lst (by rw[ak,wN]) (eh _))
structure N4(M:Md)(Z:Zn)(F:Hp)(P:Wd)(D:Ends):Prop where
 nx:∀env σ F' H,P.nx env->bY F F'->tO M Z F' σ H env->D.nx σ H
 rt:∀x env v σ F' H,P.rt x env->bY F F'->tO M Z F' σ H env->Rep M.K F' v x->D.rt v H
 bk:∀env σ F' H,P.bk env->bY F F'->tO M Z F' σ H env->D.bk σ H
 ct:∀env σ F' H,P.ct env->bY F F'->tO M Z F' σ H env->D.ct σ H
 rf:∀x env v σ F' H,P.rf x env->bY F F'->(∀xs,x≠.set xs)->tO M Z F' (σ++[some v]) H (env++[some ⟨1,x⟩])->D.rt v H
 ro:∀x i env v σ F' H,P.ro x i env->bY F F'->tO M Z F' σ H env->env[i]?=some (some ⟨4,x⟩)->σ[i]?=some (some v)->D.rt v H
variable{Z:Zn}{F1:Hp}{P:Wd}
theorem N4.mono{D:Ends}(h:N4 M Z F P D)(s:bY F F1):N4 M Z F1 P D :=
 ⟨λe σ F' H p q=>h.nx e σ F' H p (ah s q),λx e v σ F' H p q=>h.rt x e v σ F' H p (ah s q),λe σ F' H p q=>h.bk e σ F' H p (ah s q),λe σ F' H p q=>h.ct e σ F' H p (ah s q),λx e v σ F' H p q=>h.rf x e v σ F' H p (ah s q),λx i e v σ F' H p q=>h.ro x i e v σ F' H p (ah s q)⟩
structure DD(ob:Ap)(X:Cx)(st:Stmt)(f:WS):Prop where
 ex:∃t:TS,PS X st t/\∀(Z:Zn) (F:Hp) (σ:L2.St) (H:Hp) (env:En) (P:Wd) (D:Ends),tO (md ob X) Z F σ H env->f P env->N4 (md ob X) Z F P D->t D σ H
structure CG(ob:Ap)(X:Cx)(st:List Stmt)(f:WS):Prop where
 ex:∃t:TS,FN X st t/\∀(Z:Zn) (F:Hp) (σ:L2.St) (H:Hp) (env:En) (P:Wd) (D:Ends),tO (md ob X) Z F σ H env->f P env->N4 (md ob X) Z F P D->t D σ H
abbrev WG:=PV->En->(En->Prop)->Prop
structure N8(ob:Ap)(X:Cx)(tg:Expr)(f:WG):Prop where
 ex:∃t:TG,PG X tg t/\∀(Z:Zn) (F:Hp) (σ:L2.St) (H:Hp) (env:En) (v:V) (x:PV) (P:En->Prop) (Q:L2.St->Hp->Prop),tO (md ob X) Z F σ H env->Rep X.K F v x->f x env P ->
  (∀dO σ' F' H',P dO->bY F F'->tO (md ob X) Z F' σ' H' dO->Q σ' H')->t v σ H Q
abbrev JX:=List PV->En->(En->Prop)->Prop
structure Jp(ob:Ap)(X:Cx)(S9:List Expr)(f:JX):Prop where
 ex:∃t:G9,NZ X S9 t/\∀(Z:Zn) (F:Hp) (σ:L2.St) (H:Hp) (env:En) (vs:List V) (xs:List PV) (P:En->Prop) (Q:L2.St->Hp->Prop),tO (md ob X) Z F σ H env->nE X.K F vs xs->f xs env P ->
  (∀dO σ' F' H',P dO->bY F F'->tO (md ob X) Z F' σ' H' dO->Q σ' H')->t vs σ H Q
def rW(a b:WS):WS:=λP env=>a {P with nx:=b P} env
def Ad:WS:=λP env=>P.nx env
def zb(a:WE):WS:=λP env=>a env P.rt
def BI(a:WE):WS:=λP env=>a env λ_ e=>P.nx e
def Bz(c:WT)(a b:WS):WS:=λP env=>c env λk e=>if k=true then a P e else b P e
def zv(i:Nat)(a:WE):WS:=λP env=>a env λx e=>P.nx (e.set i (some ⟨0,x⟩))
def AR(i:Nat)(a:WE):WS:=λP env=>a env λx e=>P.nx (e.set i (some ⟨1,x⟩))
def gN(i:Nat):WG:=λx env P=>P (env.set i (some ⟨0,x⟩))
def B7:JX:=λxs env P=>xs=[]/\P env
def zX(g:WG)(r:JX):JX:=λxs env P=>match xs with
 |[]=>False
 |x::xs=>g x env λe=>r xs e P
def gT(r:JX):WG:=λx env P=>match x with
 |.tup xs=>r xs env P
 |_=>False
def Gy(a:WE)(g:WG):WS:=λP env=>a env λx e=>g x e P.nx
def Ks(i j:Nat)(a:WA):WS:=λP env=>a env λxs e=>match xs with
 |[x,y]=>P.nx ((e.set i (some ⟨0,x⟩)).set j (some ⟨0,y⟩))
 |_=>False
variable{tg:Expr}{st:Stmt}{LN:List Stmt}{u v:WS}
theorem aG:CG ob X [] Ad:=⟨_,oW,λZ F σ H env P D K hf L=>L.nx env σ F H hf am K⟩
theorem aj(h1:DD ob X st u)(h2:CG ob X LN v):CG ob X (st::LN) (rW u v):=by
 obtain⟨t1,IS,k1⟩:=h1.ex
 obtain⟨t2,KU,k2⟩:=h2.ex
 refine⟨_,bO IS KU,λZ F σ H env P D K hf L=>k1 Z F σ H env _ _ K hf ⟨λe σ' F' H' p s K'=>?_,L.rt,L.bk,L.ct,L.rf,L.ro⟩⟩
 exact k2 Z F' σ' H' e P D K' p (L.mono s)
theorem ap(h1:DD ob X st u):CG ob X [st] u:=by
 obtain⟨t1,IS,k1⟩:=h1.ex
 exact⟨t1,dy IS,k1⟩
theorem az(h:zq ob X e f):DD ob X (.Return (some e) pos) (zb f):=by
 obtain⟨t,ht,k⟩:=h.ex
 exact⟨_,fm ht,λZ F σ H env P D K hf L=>k Z F σ H env _ _ K hf λx e1 v F1 H1 p s1 K1 r1=>L.rt x e1 v σ F1 H1 p s1 K1 r1⟩
theorem cr(h:C7 ob X e f)(hs:acl e none pos.line X.env=pure false:=by rfl):DD ob X (.Expr e pos) (BI f):=by
 obtain⟨t,ht,k⟩:=h.ex
 exact⟨_,ko ht hs,λZ F σ H env P D K hf L=>k Z F σ H env _ _ K hf λx e1 v F1 H1 p s1 K1 r1=>L.nx e1 σ F1 H1 p s1 K1⟩
theorem aL{s1 s2:List Stmt}(hc:E7 ob X c t)(ha:CG ob X s1 u)(hb:CG ob X s2 v):DD ob X (.If c s1 s2 pos) (Bz t u v):=by
 obtain⟨w,hw,k⟩:=hc.ex
 obtain⟨ta,ha,ka⟩:=ha.ex
 obtain⟨tb,hb,kb⟩:=hb.ex
 refine⟨_,uO hw ha hb,λZ F σ H env P D K hf L=>k Z F σ H env _ _ K hf λx e1 F1 H1 p s1 K1=>?_⟩
 cases x with
 |true=>exact Dn (ka Z F1 σ H1 e1 P D K1 p (L.mono s1))
 |false=>exact C1 (kb Z F1 σ H1 e1 P D K1 p (L.mono s1))
theorem aC(i:Nat){pos':Pos}(hN:X.N.Nodup)(hi:X.N[i]?=some x)(hx:Loc X.env.scope x)(he:zq ob X e f)(hs:acl e (some (.Name x pos')) pos.line X.env=pure false:=by rfl)(hf:X.fn x=true\/X.env.scope.names.lookup x=some .local:=by first|exact .inl rfl|exact .inr rfl|assumption):
  DD ob X (.Assign [.Name x pos'] e pos) (zv i f):=by
 obtain⟨t,ht,k⟩:=he.ex
 exact⟨_,fj hN hi hx ht hs hf,λZ F σ H env P D K hf L=>k Z F σ H env _ _ K hf λx e1 v F1 H1 p s1 K1 r1=>L.nx _ _ F1 H1 p s1 (K1.put r1)⟩
theorem cq(i:Nat){pos':Pos}(hN:X.N.Nodup)(hi:X.N[i]?=some x)(hx:Loc X.env.scope x)(he:Ha ob X e f)(hs:acl e (some (.Name x pos')) pos.line X.env=pure false:=by rfl)(hf:X.fn x=true\/X.env.scope.names.lookup x=some .local:=by first|exact .inl rfl|exact .inr rfl|assumption):
  DD ob X (.Assign [.Name x pos'] e pos) (AR i f):=by
 obtain⟨t,ht,k⟩:=he.ex
 exact⟨_,fj hN hi hx ht hs hf,λZ F σ H env P D K hf L=>k Z F σ H env _ _ K hf λx e1 v F1 H1 p s1 _ K1=>L.nx _ _ F1 H1 p s1 K1.take⟩
theorem aN(i:Nat)(hN:X.N.Nodup)(hi:X.N[i]?=some x)(hx:Loc X.env.scope x)(hf:X.fn x=true\/X.env.scope.names.lookup x=some .local:=by first|exact .inl rfl|exact .inr rfl|assumption):N8 ob X (.Name x pos) (gN i) :=
 ⟨_,aD hN hi hx hf,λZ F σ H env v x P Q K r hf k=>k _ _ F H hf am (K.put r)⟩
theorem dC:Jp ob X [] B7:=⟨_,kC,λZ F σ H env vs xs P Q K r hf k=>by obtain⟨rfl,hf⟩:=hf;cases r;exact⟨rfl,k env σ F H hf am K⟩⟩
theorem bb{g:WG}{r:JX}(h1:N8 ob X e g)(h2:Jp ob X es r)(hs:(acv (e::es) X.env).map (·.2)=assign e X.env::(acv es X.env).map (·.2):=by rfl):Jp ob X (e::es) (zX g r):=by
 obtain⟨t1,IS,k1⟩:=h1.ex
 obtain⟨t2,KU,k2⟩:=h2.ex
 refine⟨_,dL IS KU hs,λZ F σ H env vs xs P Q K r hf k=>?_⟩
 cases r with
 |nil=>exact hf.elim
 |cons r1 r2=>
  refine⟨_,_,rfl,k1 Z F σ H env _ _ _ _ K r1 hf λe1 σ1 F1 H1 p s1 K1=>?_⟩
  exact k2 Z F1 σ1 H1 e1 _ _ P Q K1 (r2.mono s1) p λe2 σ2 F2 H2 p2 s2 K2=>k e2 σ2 F2 H2 p2 (ah s1 s2) K2
variable{n:Nat}
theorem fG{r:JX}{k:Nat}(hc:X.calm=true)(h:Jp ob X es r)(hl:∀xs env P,r xs env P->xs.length=n)(hn:(acv es X.env).length=n:=by rfl)(EN:(acv es X.env).findIdx? (·.1)=none:=by rfl):N8 ob X (.Tuple es k pos) (gT r):=by
 obtain⟨t,ht,kk⟩:=h.ex
 refine⟨_,mK hc ht hn EN,λZ F σ H env v x P Q K r hf k=>?_⟩
 unfold gT at hf
 split at hf
 .have hl:=hl _ _ _ hf
  cases r with
  |tup h1 h2=>exact⟨_,_,rfl,av K.sF h1,by rw[h2.len];exact hl,kk Z F σ H env _ _ P Q K h2 hf k⟩
 .exact hf.elim
theorem fy:∀xs env P,B7 xs env P->xs.length=0:=λxs env P h=>by obtain⟨rfl,_⟩:=h;rfl
theorem bu{i:Nat}{r:JX}(h:∀xs env P,r xs env P->xs.length=n):∀xs env P,zX (gN i) r xs env P->xs.length=n+1:=λxs env P q=>by
 cases xs with
 |nil=>exact q.elim
 |cons x xs=>exact congrArg (·+1) (h _ _ _ q)
theorem jP{g:WG}(he:zq ob X e f)(hg:N8 ob X tg g)(hs:adK [tg] e pos.line X.env=pure false:=by rfl)(hw:adL [tg] e X.env=pure none:=by rfl)
  (h1:(acv [tg] X.env).map (·.2)=[assign tg X.env]:=by rfl):DD ob X (.Assign [tg] e pos) (Gy f g):=by
 obtain⟨t,ht,k⟩:=he.ex
 obtain⟨t1,IS,k1⟩:=hg.ex
 refine⟨_,jB ht IS hs hw h1,λZ F σ H env P D K hf L=>k Z F σ H env _ _ K hf λx e1 v F1 H1 p s1 K1 r1=>?_⟩
 exact k1 Z F1 σ H1 e1 v x _ _ K1 r1 p λe2 σ2 F2 H2 p2 s2 K2=>L.nx e2 σ2 F2 H2 p2 (ah s1 s2) K2
variable{px py:Pos}
theorem yf(i j:Nat){y:Str}{pt:Pos}{kt k2 pt2}(hc:X.calm=true)(hN:X.N.Nodup)(hi:X.N[i]?=some x)(hj:X.N[j]?=some y)(CN:i≠j)
  (hx:X.env.scope.names.lookup x=some .local) (hy:X.env.scope.names.lookup y=some .local) (ha:Et ob X [a,b] fa)
  (hw:adL [.Tuple [.Name x px,.Name y py] kt pt] (.Tuple [a,b] k2 pt2) X.env=pure (some [x,y]))
  (hs:adK [.Tuple [.Name x px,.Name y py] kt pt] (.Tuple [a,b] k2 pt2) pos.line X.env=pure false:=by rfl) :
  DD ob X (.Assign [.Tuple [.Name x px,.Name y py] kt pt] (.Tuple [a,b] k2 pt2) pos) (Ks i j fa):=by
 obtain⟨t,ht,k⟩:=ha.ex
 refine⟨_,xh hc hN hi hj CN hx hy ht hw hs,λZ F σ H env P D K hf L=>k Z F σ H env _ _ K hf λxs e1 vs F1 H1 p hl s1 K1 r1=>?_⟩
 cases r1 with
 |nil=>cases hl
 |cons r1 r2=>cases r2 with
  |nil=>cases hl
  |cons r2 r3=>cases r3 with
   |nil=>exact⟨_,_,rfl,L.nx _ _ F1 H1 p s1 ((K1.put r1).put r2)⟩
   |cons=>simp at hl
def Fb(c:WT)(b:WS)(P:Wd):Nat->En->Prop
 |0,_=>False
 |n+1,env=>c env λk e=>if k=true then b {P with nx:=Fb c b P n,ct:=Fb c b P n,bk:=P.nx} e else P.nx e
def Cn(c:WT)(b:WS):WS:=λP env=>∃n,Fb c b P n env
theorem nu(hp:PassesOwn (model X.prog X.w) X.A X.env X.xe)(hc:E7 ob X c t)(hb:CG ob X LN u):DD ob X (.While c LN [] pos) (Cn t u):=by
 obtain⟨w,hw,k⟩:=hc.ex
 obtain⟨tb,hb,kb⟩:=hb.ex
 refine⟨_,mI hp hw hb,λZ F σ H env P D K hf L=>?_⟩
 obtain⟨n,hf⟩:=hf
 refine⟨λm σ' H'=>∃F' dO,bY F F'/\tO (md ob X) Z F' σ' H' dO/\Fb t u P m dO,⟨n,F,env,am,K,hf⟩,?_⟩
 rintro m σ' H' ⟨F',dO,s,K',hg⟩
 cases m with
 |zero=>exact hg.elim
 |succ m=>
  refine k Z F' σ' H' dO _ _ K' hg λx e1 F1 H1 p s1 K1=>?_
  cases x with
  |true=>
   refine Dn ⟨λσ2 H2=>∃F2 e2,bY F F2/\tO (md ob X) Z F2 σ2 H2 e2/\Fb t u P m e2,λσ2 H2 q=>⟨m,aa5 m,q⟩,?_⟩
   have sF:=ah s s1
   exact kb Z F1 σ' H1 e1 _ _ K1 p ⟨λe2 σ2 F2 H2 q s2 K2=>⟨F2,e2,ah sF s2,K2,q⟩,(L.mono sF).rt,(L.mono sF).nx,λe2 σ2 F2 H2 q s2 K2=>⟨F2,e2,ah sF s2,K2,q⟩,(L.mono sF).rf,(L.mono sF).ro⟩
  |false=>exact C1 (L.nx e1 σ' F1 H1 p (ah s s1) K1)
structure DN(M:Md)(J:It)(F:Hp)(xs:List PV):Prop where
 go:∀(Z:Zn) (i:Nat) (σ:L2.St) (env:En) (F' H:Hp) (x:PV),bY F F'->tO M Z F' σ H env->xs[i]?=some x->J.go i H/\∀v H',J.yld i H v H'->∃O4,bY F' O4/\tO M Z O4 σ H' env/\Rep M.K O4 v x/\bY H H'/\∀a,O4 a≠none->F' a≠none\/H a=none
 stop:∀(Z:Zn) (i:Nat) (σ:L2.St) (env:En) (F' H:Hp),bY F F'->tO M Z F' σ H env->xs.length<=i->J.stop i H
structure G1(ob:Ap)(X:Cx)(tg it:Expr)(f:WA):Prop where
 ex:∃wi:TI,PI X tg it wi/\∀(Z:Zn) (F:Hp) (σ:L2.St) (H:Hp) (env:En) (P:List PV->En->Prop) (R:It->Hp->Prop),tO (md ob X) Z F σ H env->f env P ->
  (∀xs dO J F' H',P xs dO->bY F F'->tO (md ob X) Z F' σ H' dO->DN (md ob X) J F' xs->R J H')->wi σ H R
theorem x5{a:Addr}{vs:List V}{xs:List PV}(h:F a=some (.lst vs))(r:nE M.K F vs xs):DN M (Iv M.K a) F xs:=by
 refine⟨λZ i σ env F' H x s K e=>?_,λZ i σ env F' H s K hl=>⟨vs,.inl (.inl (K.sF _ _ (s _ _ h))),by rw[r.len];exact hl⟩⟩
 obtain⟨v,hv,rv⟩:=r.get e
 have hH:An M.K H a vs:=.inl (.inl (K.sF _ _ (s _ _ h)))
 refine⟨⟨vs,v,hH,hv⟩,λv' H' y=>?_⟩
 obtain⟨rfl,y⟩:=y
 have:=y vs hH
 rw[hv]at this;cases this
 exact⟨F',am,K,rv.mono s,am,λ_ h=>.inl h⟩
theorem xZ{a:Addr}{vs:List V}{xs:List PV}(h:zW M.K F a vs)(r:nE M.K F vs xs):DN M (Rx M.K a) F xs:=by
 refine⟨λZ i σ env F' H x s K e=>?_,λZ i σ env F' H s K hl=>⟨vs,av K.sF (av s h),by rw[r.len];exact hl⟩⟩
 obtain⟨v,hv,rv⟩:=r.get e
 have hH:zW M.K H a vs:=av K.sF (av s h)
 refine⟨⟨vs,v,hH,hv⟩,λv' H' y=>?_⟩
 obtain⟨rfl,y⟩:=y
 have:=y vs hH
 rw[hv]at this;cases this
 exact⟨F',am,K,rv.mono s,am,λ_ h=>.inl h⟩
def Qo(K:aag)(tl:TE):TI:=λσ H R=>tl σ H λx H1=>∃a,x=.ref a/\(((∃xs,An K H1 a xs)/\R (Iv K a) H1)\/((∃xs,zW K H1 a xs)/\R (Rx K a) H1))
theorem xk{l:Expr}{tl:TE}(hl:PE X l tl):PI X tg l (Qo X.K tl):=by
 intro pins s σ H R I h
 refine zC (hl pins s σ H _ I h) λv s1 ⟨x,H1,I1,r1,q1⟩=>?_
 obtain⟨a,e,q⟩:=q1
 subst e
 cases r1
 rcases q with ⟨⟨xs,hq⟩,q⟩|⟨⟨xs,hq⟩,q⟩
 .obtain⟨eQ,rv,p,hz⟩:=I1.list hq
  refine acI p.isList ?_
  refine⟨s1.heap.objs.size,[s1.heap.objs.size],_,_,H1,rfl,I1.kept (t':=s1.toks) λb o e=>aac _ e,lj a _,⟨_,aai _ rfl,rfl,rfl⟩,λb hb=>?_,q⟩
  have e:b=s1.heap.objs.size:=by simpa using hb
  subst e
  exact I1.EU (aal _) (I1.y6.fresh (aal _))
 .obtain⟨eQ,rv,p,hz⟩:=I1.tuple hq
  refine abY (show s1.heap.IsTuple a eQ.toArray from p) ?_
  refine⟨s1.heap.objs.size,[s1.heap.objs.size],_,_,H1,rfl,I1.kept (t':=s1.toks) λb o e=>aac _ e,pQ a _,⟨_,aai _ rfl,rfl,rfl⟩,λb hb=>?_,q⟩
  have e:b=s1.heap.objs.size:=by simpa using hb
  subst e
  exact I1.EU (aal _) (I1.y6.fresh (aal _))
def iS(a:WE):WA:=λenv P=>a env λx e=>match x with
 |.lst xs=>P xs e
 |.tup xs=>P xs e
 |_=>False
theorem aJ(h:zq ob X e f):G1 ob X tg e (iS f):=by
 obtain⟨t,ht,k⟩:=h.ex
 refine⟨_,xk ht,λZ F σ H env P R K hf kk=>k Z F σ H env _ _ K hf λx e1 v F1 H1 p s1 K1 r1=>?_⟩
 cases r1 with
 |tup h1 h2=>exact⟨_,rfl,.inr ⟨⟨_,av K1.sF h1⟩,kk _ e1 _ F1 H1 p s1 K1 (xZ h1 h2)⟩⟩
 |lst h1 h2=>exact⟨_,rfl,.inl ⟨⟨_,.inl (.inl (K1.sF _ _ h1))⟩,kk _ e1 _ F1 H1 p s1 K1 (x5 h1 h2)⟩⟩
 |_=>exact p.elim
def De(lo:Int)(n:Nat):List PV:=(aaV n).map λ(k:Nat)=>.int (lo+(k:Int))
theorem x4{lo:Int}:DN M (O0 lo n) F (De lo n):=by
 refine⟨λZ i σ env F' H x s K e=>?_,λZ i σ env F' H s K hl=>show n<=i by simpa[De]using hl⟩
 have hi:i<n:=by
  rcases aa7 i n with h|h
  .exact h
  .rw[aap (by simpa[De]using h)]at e;cases e
 have ex:x=.int (lo+i):=by
  unfold De at e
  rw[aaj,acs hi]at e
  exact(aao e).symm
 subst ex
 refine⟨hi,λv' H' y=>?_⟩
 obtain⟨rfl,rfl⟩:=y
 exact⟨F',am,K,.int _,am,λ_ h=>.inl h⟩
def LS(a:WA):WA:=λenv P=>a env λxs e=>match xs with
 |[.int j]=> -1000000<=j/\j<=1000000/\P (De 0 j.toNat) e
 |_=>False
def Tz(a:WA):WA:=λenv P=>a env λxs e=>match xs with
 |[.int i,.int j]=>(-1000000<=i/\i<=1000000 /\ -1000000<=j/\j<=1000000)/\P (De i (j - i).toNat) e
 |_=>False
theorem gY(hg:Gl X "range")(hm:X.mg "range" = none)(ha:Et ob X [a] fa)(hs:aam [a] X.env=[(false,eval a X.env)]:=by rfl):G1 ob X tg (.Call (.Name "range" p) [a] [] pos) (LS fa):=by
 obtain⟨t,ht,k⟩:=ha.ex
 refine⟨_,qV hg hm ht hs,λZ F σ H env P R K hf kk=>k Z F σ H env _ _ K hf λxs e1 vs F1 H1 p _ s1 K1 r1=>?_⟩
 split at p
 .cases r1 with
  |cons r1 r2=>
   cases r1
   cases r2
   exact⟨_,rfl,by omega,by omega,kk _ e1 _ F1 H1 p.2.2 s1 K1 x4⟩
 .exact p.elim
def D2(xs ys:List PV):List PV:=(xs.zip ys).map λp=>.tup [p.1,p.2]
variable{ys:List PV}
theorem xY{a b:Addr}{vs:List V}{xs:List PV}(h1:zW M.K F a vs)(r1:nE M.K F vs xs)(h2:zW M.K F b ws)(r2:nE M.K F ws ys):DN M (Rw M.K a b) F (D2 xs ys):=by
 refine⟨λZ i σ env F' H x s K e=>?_,λZ i σ env F' H s K hl=>⟨vs,ws,av K.sF (av s h1),av K.sF (av s h2),?_⟩⟩
 .unfold D2 at e
  rw[aaj]at e
  cases ez:(xs.zip ys)[i]? with
  |none=>rw[ez]at e;cases e
  |some q=>
   rw[ez]at e
   obtain⟨x1,x2⟩:=q
   rw[aaR]at ez
   have e:x=.tup [x1,x2]:=(aao e).symm
   subst e
   obtain⟨v1,q1,q2⟩:=r1.get ez.1
   obtain⟨v2,q3,q4⟩:=r2.get ez.2
   have g1:=av K.sF (av s h1)
   have g2:=av K.sF (av s h2)
   refine⟨⟨vs,ws,v1,v2,g1,g2,q1,q3⟩,λv' H' y=>?_⟩
   obtain⟨p,w1,w2,rfl,hp,rfl,y⟩:=y
   obtain⟨y1,y2⟩:=y vs ws g1 g2
   rw[q1]at y1;cases y1
   rw[q3]at y2;cases y2
   have hF:F' p=none:=bY.none_of K.sF hp
   refine⟨upd F' p (.tup [v1,v2]),ay hF,K.lay hp,.tup (.inl (.inl ak)) (.cons ((q2.mono s).mono (ay hF)) (.cons ((q4.mono s).mono (ay hF)) .nil)),ay hp,λc hc=>?_⟩
   by_cases z:c=p
   .subst z;exact .inr hp
   .rw[ag z]at hc;exact .inl hc
 .have:=r1.len
  have:=r2.len
  simp only[D2,aae,ad5]at hl
  omega
def iZ(a:WA):WA:=λenv P=>a env λxs e=>match xs with
 |[.tup xs,.tup ys]=>P (D2 xs ys) e
 |_=>False
variable{elts:List Expr}{Cj:Pos}
theorem yq{x1:_}(hg:Gl X "zip")(hm:X.mg "zip" = none)(ha:Et ob X [a,b] fa)(hs:aam [a,b] X.env=[(false,eval a X.env),(false,eval b X.env)]:=by rfl)(IU:aam [b] X.env=[(false,eval b X.env)]:=by rfl):
  G1 ob X (.Tuple elts x1 Cj) (.Call (.Name "zip" p) [a,b] [] pos) (iZ fa):=by
 obtain⟨t,ht,k⟩:=ha.ex
 refine⟨_,xi hg hm ht hs IU,λZ F σ H env P R K hf kk=>k Z F σ H env _ _ K hf λxs e1 vs F1 H1 p _ s1 K1 r1=>?_⟩
 split at p
 .cases r1 with
  |cons r1 r2=>
   cases r2 with
   |cons r2 r3=>
    cases r3
    cases r1 with
    |tup g1 g2=>
     cases r2 with
     |tup g3 g4=>exact⟨_,_,rfl,⟨_,av K1.sF g1⟩,⟨_,av K1.sF g3⟩,kk _ e1 _ F1 H1 p s1 K1 (xY g1 g2 g3 g4)⟩
 .exact p.elim
def Bp(s:Str):List PV:=s.cps.toList.map λc=>.str ⟨#[c]⟩
theorem x3{s:Str}:DN M (OZ s) F (Bp s):=by
 refine⟨λZ i σ env F' H x sm K e=>?_,λZ i σ env F' H sm K hl=>show s.cps.size<=i by simpa[Bp]using hl⟩
 unfold Bp at e
 rw[aaj]at e
 cases ez:s.cps.toList[i]? with
 |none=>rw[ez]at e;cases e
 |some c=>
  rw[ez]at e
  have e:x=.str ⟨#[c]⟩:=(aao e).symm
  subst e
  have hi:i<s.cps.size:=by
   rcases aa7 i s.cps.size with h|h
   .exact h
   .rw[aap (by simpa using h)]at ez;cases ez
  refine⟨hi,λv' H' y=>?_⟩
  obtain⟨rfl,c',DV,rfl⟩:=y
  rw[<- ac9,ez]at DV
  cases DV
  exact⟨F',am,K,.str _,am,λ_ h=>.inl h⟩
def HI(a:WE):WA:=λenv P=>a env λx e=>match x with
 |.str s=>P (Bp s) e
 |_=>False
theorem yr(h:zq ob X e f):G1 ob X tg e (HI f):=by
 obtain⟨t,ht,k⟩:=h.ex
 refine⟨_,xj ht,λZ F σ H env P R K hf kk=>k Z F σ H env _ _ K hf λx e1 v F1 H1 p s1 K1 r1=>?_⟩
 cases r1 with
 |str s=>exact⟨s,rfl,kk _ e1 _ F1 H1 p s1 K1 x3⟩
 |_=>exact p.elim
def BL(g:WG)(b:WS)(P:Wd):List PV->En->Prop
 |[],env=>P.nx env
 |x::xs,env=>g x env λe=>b {P with nx:=BL g b P xs,ct:=BL g b P xs,bk:=P.nx} e
def Dd(it:WA)(g:WG)(b:WS):WS:=λP env=>it env λxs e=>BL g b P xs e
theorem cy{it:Expr}{g:WG}(hp:PassesOwn (model X.prog X.w) X.A X.env X.xe)(hc:X.calm=true)(hi:G1 ob X tg it fa)(hg:N8 ob X tg g)(hb:CG ob X LN u)
  (hs:∀x,aa4 it X.env x=pure x:=by intro _;rfl):DD ob X (.For tg it LN [] pos) (Dd fa g u):=by
 obtain⟨wi,HJ,k⟩:=hi.ex
 obtain⟨Og,TM,kg⟩:=hg.ex
 obtain⟨tb,Nn,kb⟩:=hb.ex
 refine⟨_,qQ hp hc HJ TM Nn hs,λZ F σ H env P D K hf L=>k Z F σ H env _ _ K hf λxs e1 J F1 H1 p s1 K1 I1=>?_⟩
 have L1:=L.mono s1
 refine⟨λi m σ' H'=>m=xs.length - i/\∃F' dO,bY F1 F'/\tO (md ob X) Z F' σ' H' dO/\BL g u P (xs.drop i) dO,⟨_,rfl,F1,e1,am,K1,p⟩,?_⟩
 rintro i m σ' H' ⟨rfl,F',dO,s,K',Ij⟩
 by_cases zT:i<xs.length
 .rw[ach zT]at Ij
  obtain⟨h1,h2⟩:=I1.go Z i σ' dO F' H' xs[i] s K' (by simp[zT])
  refine .inr ⟨h1,λσ2 H2=>∃F2 e2,bY F1 F2/\tO (md ob X) Z F2 σ2 H2 e2/\BL g u P (xs.drop (i+1)) e2,λσ2 H2 q=>⟨xs.length - (i+1),by omega,rfl,q⟩,λv H2 y=>?_⟩
  obtain⟨F2,s2,K2,r2,_,_⟩:=h2 v H2 y
  refine kg Z F2 σ' H2 dO v xs[i] _ _ K2 r2 Ij λe3 σ3 F3 H3 p3 s3 K3=>?_
  have sF:=ah s (ah s2 s3)
  exact kb Z F3 σ3 H3 e3 _ _ K3 p3 ⟨λe4 σ4 F4 H4 q s4 K4=>⟨F4,e4,ah sF s4,K4,q⟩,(L1.mono sF).rt,(L1.mono sF).nx,λe4 σ4 F4 H4 q s4 K4=>⟨F4,e4,ah sF s4,K4,q⟩,(L1.mono sF).rf,(L1.mono sF).ro⟩
 .rw[ac5 (by omega)]at Ij
  exact .inl ⟨I1.stop Z i σ' dO F' H' s K' (by omega),L1.nx dO σ' F' H' Ij s K'⟩
def lend(s:Sl):Sl:=if s.k=1 then ⟨3,s.v⟩else s
def DL(js:List (Option Nat))(env:En):En:=js.map λo=>o.bind λj=>((env[j]?).getD none).map lend
def BM(s s':Sl):Option Sl:=if s'.k=3 then (if s.k=1\/s.k=3 then some ⟨s.k,s'.v⟩else none)else if s'.k=2 then (if s.k=2 then some s' else none)else some s'
def Ab(js:List (Option Nat))(env benv:En):En:=env.mapIdx λj o=>match js.findIdx? (λq=>q==some j)with
 |none=>o
 |some i=>match o,benv[i]? with
  |some s,some (some s')=>BM s s'
  |_,_=>none
def EM(js:List (Option Nat)):Bool:=decide (js.filterMap id).Nodup
theorem jo:∀{js:List (Option Nat)},(js.filterMap id).Nodup->∀(i i':Nat) (j:Nat),js[i]?=some (some j)->js[i']?=some (some j)->i=i'
 |[],_,i,i',j,h,_=>by simp at h
 |none::js,hn,i,i',j,h,h'=>by
  cases i with
  |zero=>simp at h
  |succ i=>
   cases i' with
   |zero=>simp at h'
   |succ i'=>
    simp at h h' hn
    exact congrArg (·+1) (jo (js:=js) (by simpa using hn) i i' j h h')
 |some k::js,hn,i,i',j,h,h'=>by
  simp only[abS,id]at hn
  obtain⟨hk,hn⟩:=List.nodup_cons.mp hn
  have mem:∀m,js[m]?=some (some k)->False:=λm hm=>hk (List.mem_filterMap.mpr ⟨some k,abp hm,rfl⟩)
  cases i with
  |zero=>
   simp at h;subst h
   cases i' with
   |zero=>rfl
   |succ i'=>exact(mem i' (by simpa using h')).elim
  |succ i=>
   cases i' with
   |zero=>simp at h';subst h';exact(mem i (by simpa using h)).elim
   |succ i'=>exact congrArg (·+1) (jo hn i i' j (by simpa using h) (by simpa using h'))
variable{F' H':Hp}{env:En}
theorem Dz.wr{v:V}{s:Sl}{fp:List Addr}(h:Dz M Z F H v s fp):∀c∈fp,c∈Z.S\/Z.H₀ c=none:=by
 rcases h with ⟨_,rfl,_⟩|⟨_,a,_,rfl,h0,_⟩|⟨_,a,_,h,_⟩|⟨_,a,_,rfl,h0,_⟩
 .intro c hc;simp at hc
 .intro c hc;simp at hc;subst hc;exact .inr h0
 .exact h
 .intro c hc;simp at hc;subst hc;exact .inl h0
def Cc(js:List (Option Nat))(env:En)(fp:Nat->List Addr)(i:Nat):List Addr:=match js[i]? with
 |some (some j)=>match env[j]? with
  |some (some _)=>fp j
  |_=>[]
 |_=>[]
def EW(js:List (Option Nat))(env:En)(fp:Nat->List Addr)(H:Hp):List Addr:=((aaV js.length).flatMap (Cc js env fp)).filter λb=>(H b).isSome
variable{js:List (Option Nat)}{fp:Nat->List Addr}
theorem rK{i:Nat}{a:Addr}(h:a∈Cc js env fp i)(hH:H a≠none):a∈EW js env fp H:=by
 refine List.mem_filter.mpr ⟨List.mem_flatMap.mpr ⟨i,List.mem_range.mpr ?_,h⟩,by obtain⟨o,ho⟩:=b9 hH;rw[ho];rfl⟩
 rcases aa7 i js.length with q|q
 .exact q
 .unfold Cc at h;rw[aap q]at h;simp at h
theorem dN{a:Addr}(h:a∈EW js env fp H):∃(i j:Nat) (s:Sl),js[i]?=some (some j)/\env[j]?=some (some s)/\a∈fp j:=by
 obtain⟨i,_,h⟩:=List.mem_flatMap.mp (List.mem_filter.mp h).1
 unfold Cc at h
 split at h
 .rename_i j ej
  split at h
  .rename_i s es
   exact⟨i,j,s,ej,es,h⟩
  .simp at h
 .simp at h
theorem uF{i:Nat}{s':Sl}(h:(DL js env)[i]?=some (some s')):∃j s,js[i]?=some (some j)/\env[j]?=some (some s)/\s'=lend s:=by
 unfold DL at h
 rw[aaj]at h
 cases ej:js[i]? with
 |none=>rw[ej]at h;cases h
 |some o=>
  cases o with
  |none=>rw[ej]at h;cases h
  |some j=>
   rw[ej]at h
   have h:((env[j]?).getD none).map lend=some s':=aao h
   cases es:env[j]? with
   |none=>rw[es]at h;cases h
   |some o=>
    cases o with
    |none=>rw[es]at h;cases h
    |some s=>rw[es]at h;exact⟨j,s,rfl,es,(aao h).symm⟩
variable{j:Nat}
theorem nN{i:Nat}{v:V}(h:js[i]?=some (some j))(hv:σ[j]?=some (some v)):(zE js σ)[i]?=some (some v):=by
 unfold zE
 rw[aaj,h]
 show some ((σ[j]?).getD none)=_
 rw[hv];rfl
def Zb(js:List (Option Nat))(env:En)(fp:Nat->List Addr)(F H:Hp):Zn:={H₀:=H,F₀:=F,S:=EW js env fp H,sS:=λb hb e=>by have:=(List.mem_filter.mp hb).2;rw[e]at this;cases this}
theorem nT(hj:EM js=true)(K:tO M Z F σ H env)(L:Slots M Z F σ H env fp):tO M (Zb js env fp F H) F (zE js σ) H (DL js env):=by
 have hn:(js.filterMap id).Nodup:=of_decide_eq_true hj
 refine⟨K.sF,λb o h _=>h,λb h=>h,am,λa h=>.inl h,by simp[DL,zE],Cc js env fp,λi s' h=>?_,λi a h=>?_,λi i' a Ud h h'=>?_,λi a s e=>by cases e⟩
 .obtain⟨j,s,ej,es,rfl⟩:=uF h
  obtain⟨v,hv,ok⟩:=L.at' j s es
  have ef:Cc js env fp i=fp j:=by unfold Cc;rw[ej];dsimp only;rw[es]
  refine⟨v,nN ej hv,?_⟩
  have KQ:∀c∈fp j,c∈(Zb js env fp F H).S:=λc hc=>rK (i:=i) (by rw[ef];exact hc) (L.al j c hc).1
  rw[ef]
  rcases ok with ⟨k,e,r⟩|⟨k,a,e,e2,h0,r⟩|⟨k,a,e,h0,r⟩|⟨k,a,e,e2,h0,r⟩
  .have:lend s=s:=by unfold lend;rw[if_neg (by rw[k];decide)]
   rw[this];exact .inl ⟨k,e,r⟩
  .have:lend s=⟨3,s.v⟩:=by unfold lend;rw[if_pos k]
   rw[this];exact .inr (.inr (.inr ⟨rfl,a,e,e2,KQ a (by rw[e2];simp),r⟩))
  .have:lend s=s:=by unfold lend;rw[if_neg (by rcases k with k|k<;>(rw[k];decide))]
   rw[this];exact .inr (.inr (.inl ⟨k,a,e,λc hc=>.inl (KQ c hc),r⟩))
  .have:lend s=s:=by unfold lend;rw[if_neg (by rw[k];decide)]
   rw[this];exact .inr (.inr (.inr ⟨k,a,e,e2,KQ a (by rw[e2];simp),r⟩))
 .unfold Cc at h
  split at h
  .split at h
   .exact L.al _ a h
   .simp at h
  .simp at h
 .unfold Cc at h h'
  split at h
  .rename_i j ej
   split at h'
   .rename_i j' UI
    split at h
    .split at h'
     .have:j≠j':=λe=>by subst e;exact Ud (jo hn i i' j ej UI)
      exact L.dj j j' a this h h'
     .simp at h'
    .simp at h
   .simp at h'
  .simp at h
theorem lP{σb:L2.St}{benv:En}(hj:EM js=true)(K:tO M Z F σ H env)(L:Slots M Z F σ H env fp)(Kb:tO M (Zb js env fp F H) F' σb H' benv)
  (hσ:∀(k j:Nat),js[k]?=some (some j)->σb[k]?=(zE js σ)[k]?) :
  ∃G8,Slots M Z F' σ H' (Ab js env benv) G8/\tO M Z F' σ H' (Ab js env benv)/\∀i a,a∈G8 i->(∃i',a∈fp i')\/H a=none:=by
 have hn:(js.filterMap id).Nodup:=of_decide_eq_true hj
 obtain⟨fb,Lb⟩:=Kb.sl
 have KQ:∀c∈EW js env fp H,(c∈Z.S\/Z.H₀ c=none)/\∃i',c∈fp i':=λc hc=>by
  obtain⟨i,j,s,e1,e2,e3⟩:=dN hc
  obtain⟨v,_,ok⟩:=L.at' j s e2
  exact⟨ok.wr c e3,j,e3⟩
 have Lo:∀j i,js.findIdx? (λq=>q==some j)=some i->js[i]?=some (some j):=λj i h=>by
  rw[List.findIdx?_eq_some_iff_getElem]at h
  obtain⟨hi,he,_⟩:=h
  rw[aab hi,eq_of_beq he]
 have NU:∀j,(Ab js env benv)[j]?=(env[j]?).map λo=>(match js.findIdx? (λq=>q==some j)with
   |none=>o
   |some i=>match o,benv[i]? with
    |some s,some (some s')=>BM s s'
    |_,_=>none):=λj=>by
  unfold Ab
  rw[List.getElem?_mapIdx]
 have SJ:∀i s',benv[i]?=some (some s')->∀c∈fb i,(c∈Z.S\/Z.H₀ c=none)/\((∃i',c∈fp i')\/H c=none):=λi s' e c hc=>by
  obtain⟨v,_,ok⟩:=Lb.at' i s' e
  rcases ok.wr c hc with h|h
  .exact⟨(KQ c h).1,.inl (KQ c h).2⟩
  .exact⟨.inr (K.h0 h),.inr h⟩
 let G8:Nat->List Addr:=λj=>match js.findIdx? (λq=>q==some j)with
  |none=>fp j
  |some i=>match env[j]?,benv[i]? with
   |some (some s),some (some s')=>if (BM s s').isSome=true then fb i else []
   |_,_=>[]
 have keep:∀c o,H c=some o->c∉EW js env fp H->H' c=some o:=λc o h1 h2=>Kb.sG c o h1 h2
 have S:Slots M Z F' σ H' (Ab js env benv) G8:=by
  refine⟨λj t e=>?_,λj a h=>?_,λj j2 a Mc h h2=>?_,λj a t e1 e e3=>?_⟩
  case refine_4=>
   rw[NU]at e
   cases ej:env[j]? with
   |none=>rw[ej]at e;cases e
   |some o=>
    rw[ej]at e
    have e:=aao e
    cases ei:js.findIdx? (λq=>q==some j)with
    |none=>
     rw[ei]at e
     dsimp only at e
     subst e
     exact L.oa j a t e1 ej e3
    |some i=>
     rw[ei]at e
     dsimp only at e
     cases o with
     |none=>cases e
     |some s=>
      cases eb:benv[i]? with
      |none=>rw[eb]at e;cases e
      |some w=>
       cases w with
       |none=>rw[eb]at e;cases e
       |some s'=>
        rw[eb]at e
        dsimp only at e
        unfold BM at e
        split at e
        .split at e
         .rename_i h1 h2
          cases e
          rcases h2 with q|q
          .rw[q]at e3;cases e3
          .rw[q]at e3;cases e3
         .cases e
        .split at e
         .split at e
          .rename_i h1
           exact L.oa j a s e1 ej h1
          .cases e
         .rename_i h1
          cases e
          exact absurd e3 h1
  .rw[NU]at e
   cases ej:env[j]? with
   |none=>rw[ej]at e;cases e
   |some o=>
    rw[ej]at e
    have e:=aao e
    show ∃v,σ[j]?=some (some v)/\Dz M Z F' H' v t (match js.findIdx? (λq=>q==some j)with
     |none=>fp j
     |some i=>match env[j]?,benv[i]? with
      |some (some s),some (some s')=>if (BM s s').isSome=true then fb i else []
      |_,_=>[])
    cases ei:js.findIdx? (λq=>q==some j)with
    |none=>
     rw[ei]at e
     dsimp only at e
     subst e
     obtain⟨v,hv,ok⟩:=L.at' j t ej
     refine⟨v,hv,ok.mono Kb.gr λc hc=>?_⟩
     have Io:=L.al j c hc
     obtain⟨o,ho⟩:=b9 Io.1
     rw[ho]
     refine keep c o ho λhS=>?_
     obtain⟨i,j',s,e1,e2,e3⟩:=dN hS
     have:j≠j':=λz=>by
      subst z
      rw[afv]at ei
      have:=ei (some j) (abp e1)
      simp at this
     exact L.dj j j' c this hc e3
    |some i=>
     rw[ei]at e
     dsimp only at e ⊢
     have SF:=Lo j i ei
     cases o with
     |none=>cases e
     |some s=>
      rw[ej]
      cases eb:benv[i]? with
      |none=>rw[eb]at e;cases e
      |some w=>
       cases w with
       |none=>rw[eb]at e;cases e
       |some s'=>
        rw[eb]at e
        dsimp only at e ⊢
        rw[e,if_pos (aev)]
        obtain⟨v0,Eo,PZ⟩:=L.at' j s ej
        obtain⟨v,hv,ok⟩:=Lb.at' i s' eb
        rw[hσ i j SF,nN SF Eo]at hv
        cases hv
        refine⟨v0,Eo,?_⟩
        unfold BM at e
        rcases ok with ⟨k,e1,r⟩|⟨k,a,e1,e2,h0,r⟩|⟨k,a,e1,h0,r⟩|⟨k,a,e1,e2,h0,r⟩
        .rw[if_neg (by rw[k];decide),if_neg (by rw[k];decide)]at e
         cases e
         exact .inl ⟨k,e1,r⟩
        .rw[if_neg (by rw[k];decide),if_neg (by rw[k];decide)]at e
         cases e
         exact .inr (.inl ⟨k,a,e1,e2,K.h0 h0,r⟩)
        .rw[if_neg (by rcases k with k|k<;>(rw[k];decide))]at e
         have e:s'=t:=by
          split at e
          .split at e
           .exact aao e
           .cases e
          .exact aao e
         subst e
         refine .inr (.inr (.inl ⟨k,a,e1,λc hc=>(SJ i _ eb c hc).1,r⟩))
        .rw[if_pos k]at e
         split at e
         .rename_i hk
          cases e
          rcases PZ with ⟨k0,_⟩|⟨k0,a0,f1,f2,f3,_⟩|⟨k0,_⟩|⟨k0,a0,f1,f2,f3,_⟩
          .rw[k0]at hk;rcases hk with z|z<;>cases z
          .rw[e1]at f1;cases f1
           exact .inr (.inl ⟨k0,a,e1,e2,f3,r⟩)
          .rcases k0 with k0|k0<;>(rw[k0]at hk;rcases hk with z|z<;>cases z)
          .rw[e1]at f1;cases f1
           exact .inr (.inr (.inr ⟨k0,a,e1,e2,f3,r⟩))
         .cases e
  .have h:a∈(match js.findIdx? (λq=>q==some j)with
     |none=>fp j
     |some i=>match env[j]?,benv[i]? with
      |some (some s),some (some s')=>if (BM s s').isSome=true then fb i else []
      |_,_=>[]):=h
   split at h
   .rename_i ei
    have h0:=L.al j a h
    obtain⟨o,ho⟩:=b9 h0.1
    constructor
    .intro z
     have:=Kb.pr a (by show H a≠none;exact h0.1)
     exact this z
    .cases ef:F' a with
     |none=>rfl
     |some o=>
      rcases Kb.nw a (by rw[ef];simp)with q|q
      .exact absurd h0.2 q
      .exact absurd q h0.1
   .split at h
    .split at h
     .exact Lb.al _ a h
     .simp at h
    .simp at h
  .have h:a∈(match js.findIdx? (λq=>q==some j)with
     |none=>fp j
     |some i=>match env[j]?,benv[i]? with
      |some (some s),some (some s')=>if (BM s s').isSome=true then fb i else []
      |_,_=>[]):=h
   have h2:a∈(match js.findIdx? (λq=>q==some j2)with
     |none=>fp j2
     |some i=>match env[j2]?,benv[i]? with
      |some (some s),some (some s')=>if (BM s s').isSome=true then fb i else []
      |_,_=>[]):=h2
   have M7:∀{j1 i:Nat} {s':Sl},js.findIdx? (λq=>q==some j1)=none->benv[i]?=some (some s')->a∈fp j1->a∈fb i->False:=λ{j1 i s'} e1 e2 m1 m2=>by
    obtain⟨v,_,ok⟩:=Lb.at' i s' e2
    rcases ok.wr a m2 with q|q
    .obtain⟨i',j',s,q1,q2,q3⟩:=dN q
     have:j1≠j':=λz=>by
      subst z
      rw[afv]at e1
      have:=e1 (some j1) (abp q1)
      simp at this
     exact L.dj j1 j' a this m1 q3
    .exact(L.al j1 a m1).1 q
   split at h
   .rename_i ei
    split at h2
    .exact L.dj j j2 a Mc h h2
    .split at h2
     .rename_i eb
      split at h2
      .exact M7 ei eb h h2
      .simp at h2
     .simp at h2
   .rename_i i ei
    split at h
    .rename_i eb
     split at h
     .split at h2
      .rename_i Rk
       exact M7 Rk eb h2 h
      .rename_i i2 Rk
       split at h2
       .split at h2
        .have:i≠i2:=λz=>by
          subst z
          have q1:=Lo j i ei
          have q2:=Lo j2 i Rk
          rw[q1]at q2
          cases q2
          exact Mc rfl
         exact Lb.dj i i2 a this h h2
        .simp at h2
       .simp at h2
     .simp at h
    .simp at h
 refine⟨G8,S,⟨Kb.sF,λb o h1 h2=>keep b o (K.sG b o h1 h2) λhS=>?_,λb h=>Kb.pr b (K.pr b h),ah K.gr Kb.gr,λa h=>?_,by unfold Ab;rw[List.length_mapIdx];exact K.len,G8,S⟩,λj a h=>?_⟩
 .rcases(KQ b hS).1 with q|q
  .exact h2 q
  .rw[q]at h1;cases h1
 .rcases Kb.nw a h with q|q
  .exact K.nw a q
  .exact .inr (K.h0 q)
 .have h:a∈(match js.findIdx? (λq=>q==some j)with
    |none=>fp j
    |some i=>match env[j]?,benv[i]? with
     |some (some s),some (some s')=>if (BM s s').isSome=true then fb i else []
     |_,_=>[]):=h
  split at h
  .exact .inl ⟨j,h⟩
  .split at h
   .rename_i eb
    split at h
    .exact(SJ _ _ eb a h).2
    .simp at h
   .simp at h
def Ie(M:Md)(f:WE):TE:=λσ H Q=>∃(Z:Zn) (F:Hp) (env:En) (P:PV->En->Prop),tO M Z F σ H env/\f env P/\∀x dO v F' H',P x dO->bY F F'->tO M Z F' σ H' dO->Rep M.K F' v x->Q v H'
def Ky(M:Md)(f:WT):TT:=λσ H Q=>∃(Z:Zn) (F:Hp) (env:En) (P:Bool->En->Prop),tO M Z F σ H env/\f env P/\∀b dO F' H',P b dO->bY F F'->tO M Z F' σ H' dO->Q b H'
theorem zq.pe(h:zq ob X e f):PE X e (Ie (md ob X) f):=by
 obtain⟨t,ht,k⟩:=h.ex
 rintro pins s σ H Q I ⟨Z,F,env,P,K,hf,kk⟩
 exact ht pins s σ H Q I (k Z F σ H env P Q K hf kk)
structure Mn(ob:Ap)(X:Cx)(ifs:List Expr)(f:WT):Prop where
 ex:PF X ifs (Ky (md ob X) f)
def CY:WT:=λenv P=>P true env
theorem ba:Mn ob X [] CY:=⟨by
 rintro pins s σ H Q I ⟨Z,F,env,P,K,hf,kk⟩
 exact qX pins s σ H Q I (kk true env F H hf am K)⟩
theorem fH(h:E7 ob X c t):Mn ob X [c] t:=⟨by
 obtain⟨w,hw,k⟩:=h.ex
 rintro pins s σ H Q I ⟨Z,F,env,P,K,hf,kk⟩
 exact qW hw pins s σ H Q I (k Z F σ H env P Q K hf kk)⟩
inductive JZ where
 |nm (i:Nat)|tp (l:List Nat)
def DG:List Nat->G9
 |[]=>Lk
 |i::l=>ET (AG i) (DG l)
def E5(K:aag):JZ->TG
 |.nm i=>AG i
 |.tp l=>Li K l.length (DG l)
def Fg:List Nat->List PV->En->En
 |i::l,x::xs,env=>Fg l xs (env.set i (some ⟨0,x⟩))
 |_,_,env=>env
def Ex:JZ->WG
 |.nm i=>λx env P=>P (env.set i (some ⟨0,x⟩))
 |.tp l=>λx env P=>match x with
  |.tup xs=>xs.length=l.length/\P (Fg l xs env)
  |_=>False
def BP(js:List (Option Nat)):JZ->Bool
 |.nm i=>decide (js[i]?=some none)
 |.tp l=>l.all λi=>decide (js[i]?=some none)
theorem sf:∀{l:List Nat},(l.all λi=>decide (js[i]?=some none))=true->N7 js (DG l)
 |[],_=>yb
 |i::l,h=>by
  rw[List.all_cons,aaC]at h
  refine wy (ic (of_decide_eq_true h.1)) (sf h.2) ie ?_
  have mono:∀(l:List Nat),∀x σ H (Q Q':L2.St->Hp->Prop),(∀a b,Q a b->Q' a b)->DG l x σ H Q->DG l x σ H Q':=by
   intro l
   induction l with
   |nil=>exact λx σ H Q Q' h q=>⟨q.1,h _ _ q.2⟩
   |cons i l ih=>exact kO ie ih
  exact mono l
theorem cK{T:JZ}(h:BP js T=true):BO js (E5 K T):=by
 cases T with
 |nm i=>exact ic (of_decide_eq_true h)
 |tp l=>exact ya (sf h)
theorem u6{l:List Nat}:∀{σ:L2.St} {env:En} {vs:List V} {xs:List PV} {Q:L2.St->Hp->Prop},tO M Z F σ H env->nE M.K F vs xs->xs.length=l.length->(∀σ',tO M Z F σ' H (Fg l xs env)->Q σ' H)->DG l vs σ H Q:=by
 induction l with
 |nil=>
  intro σ env vs xs Q K r hl k
  cases r with
  |nil=>exact⟨rfl,k σ K⟩
  |cons _ _=>simp at hl
 |cons i l ih=>
  intro σ env vs xs Q K r hl k
  cases r with
  |nil=>simp at hl
  |cons r1 r2=>exact⟨_,_,rfl,ih (K.put r1) r2 (by simpa using hl) k⟩
theorem qI{T:JZ}{v:V}{x:PV}{P:En->Prop}{Q:L2.St->Hp->Prop}(K:tO M Z F σ H env)(r:Rep M.K F v x)(hf:Ex T x env P)(k:∀dO σ',P dO->tO M Z F σ' H dO->Q σ' H):E5 M.K T v σ H Q:=by
 cases T with
 |nm i=>exact k _ _ hf (K.put r)
 |tp l=>
  cases r with
  |tup h1 h2=>
   have hf:_/\_:=hf
   exact⟨_,_,rfl,av K.sF h1,by rw[h2.len];exact hf.1,u6 K h2 hf.1 λσ' K'=>k _ σ' hf.2 K'⟩
  |_=>exact(show False from hf).elim
def Bg(g:WG)(c:WT)(f:WE)(js:List (Option Nat))(P:PV->En->Prop):List PV->En->List PV->Prop
 |[],env,acc=>P (.lst acc) env
 |x::xs,env,acc=>g x (DL js env) λb1=>c b1 λok b2=>if ok=true then f b2 λy b3=>acc.length<=100000/\Bg g c f js P xs (Ab js env b3) (acc++[y])else Bg g c f js P xs (Ab js env b2) acc
def DC(fi:WA)(T:JZ)(c:WT)(f:WE)(js:List (Option Nat)):WE:=λenv P=>fi env λxs e=>Bg (Ex T) c f js P xs e []
variable{elt iter kx vx:Expr}{ifs:List Expr}{scope:Scope}{fi:WA}{T:JZ}{c:WT}{fk:WE}{N:List Str}
theorem tO.BX{l:Addr}{o:HO}(K:tO M Z F σ H env)(L:Slots M Z F σ H env fp)(hF:F l=none)(h0:Z.H₀ l=none)(hl:∀i,l∉fp i):tO M Z F σ (upd H l o) env/\Slots M Z F σ (upd H l o) env fp:=by
 have S:Slots M Z F σ (upd H l o) env fp:=by
  refine⟨λi s e=>?_,λi a h=>?_,L.dj,L.oa⟩
  .obtain⟨v,h1,h2⟩:=L.at' i s e
   exact⟨v,h1,h2.mono am λc hc=>ag λz:c=l=>hl i (by rw[<- z];exact hc)⟩
  .have:=L.al i a h
   refine⟨?_,this.2⟩
   rw[ag (λz:a=l=>hl i (by rw[<- z];exact h))];exact this.1
 refine⟨⟨λa u e=>?_,λb u h1 h2=>?_,λb h=>?_,K.gr,K.nw,K.len,fp,S⟩,S⟩
 .rw[ag (aw e hF)];exact K.sF a u e
 .rw[ag (aw h1 h0)];exact K.sG b u h1 h2
 .by_cases q:b=l
  .subst q;rw[ak];simp
  .rw[ag q];exact K.pr b h
theorem pf{P:PV->En->Prop}{Q:VK}{xs:List PV}{J:It}(hj:EM js=true)(hT:BP js T=true)(K:tO (md ob X) Z F σ H env)(I1:DN (md ob X) J F xs)(hf:Bg (Ex T) c f js P xs env [])
  (kk:∀x dO v F' H',P x dO->bY F F'->(∀xs,x≠.set xs)->tO (md ob X) Z F' (σ++[some v]) H' (dO++[some ⟨1,x⟩])->Q v H') (l:Addr) (hl:H l=none) :
  ∃W:Nat->Nat->List V->Hp->Prop,(∃m,W 0 m [] (upd H l (.lst [])))/\∀i m ys H2,W i m ys H2 ->
  (J.stop i H2/\Q (.ref l) H2)\/(J.go i H2/\∀x H3,J.yld i H2 x H3->E5 X.K T x (zE js σ) H3 λσ4 H4=>Ky (md ob X) c σ4 H4 λb H5=>
   if b=true then Ie (md ob X) f σ4 H5 λy H6=>H6 l=some (.lst ys)/\ys.length<sizeLine/\∃m',m'<m/\W (i+1) m' (ys++[y]) (upd H6 l (.lst (ys++[y])))else ∃m',m'<m/\W (i+1) m' ys H5):=by
 refine⟨λi m ys H'=>m=xs.length - i/\H' l=some (.lst ys)/\∃F' dO C8 fp,bY F F'/\tO (md ob X) Z F' σ H' dO/\Slots (md ob X) Z F' σ H' dO fp/\F' l=none/\(∀i,l∉fp i)/\nE X.K F' ys C8/\Bg (Ex T) c f js P (xs.drop i) dO C8,?_,?_⟩
 .obtain⟨fp,L⟩:=K.sl
  have hF:F l=none:=bY.none_of K.sF hl
  have hn:∀i,l∉fp i:=λi h=>(L.al i l h).1 hl
  obtain⟨K1,L1⟩:=K.BX (o:=.lst []) L hF (K.h0 hl) hn
  exact⟨_,rfl,ak,F,env,[],fp,am,K1,L1,hF,hn,.nil,hf⟩
 rintro i m ys H2 ⟨rfl,G7,F',dO,C8,fp,s,K',L',NM,hn,ry,hg⟩
 have h0:Z.H₀ l=none:=K.h0 hl
 by_cases zT:i<xs.length
 .rw[ach zT]at hg
  obtain⟨h1,h2⟩:=I1.go Z i σ dO F' H2 xs[i] s K' (by simp[zT])
  refine .inr ⟨h1,λv H3 y=>?_⟩
  obtain⟨F2,s2,K2,r2,sH,nw⟩:=h2 v H3 y
  have N5:Slots (md ob X) Z F2 σ H3 dO fp:=L'.move s2 (λ_ c o _ e=>sH c o e) nw
  have Q5:F2 l=none:=by
   cases e:F2 l with
   |none=>rfl
   |some o=>
    rcases nw l (by rw[e];simp)with q|q
    .exact absurd NM q
    .rw[G7]at q;cases q
  have IZ:H3 l=some (.lst ys):=sH _ _ G7
  have Kb:=nT hj K2 N5
  have hσ4:∀{σ4:L2.St},(∀(k j:Nat),js[k]?=some (some j)->σ4[k]?=(zE js σ)[k]?)->True:=λ_=>trivial
  have Og:=cK (K:=X.K) hT v (zE js σ) H3 _ (qI (M:=md ob X) (Q:=λσ4 H4=>H4=H3/\∃b1,tO (md ob X) (Zb js dO fp F2 H3) F2 σ4 H3 b1/\c b1 λok b2=>if ok=true then f b2 λy b3=>C8.length<=100000/\Bg (Ex T) c f js P (xs.drop (i+1)) (Ab js dO b3) (C8++[y])else Bg (Ex T) c f js P (xs.drop (i+1)) (Ab js dO b2) C8) Kb r2 hg λe4 σ4 p4 K4=>⟨rfl,e4,K4,p4⟩)
  have mono:∀(Q1 Q2:L2.St->Hp->Prop),(∀a b,Q1 a b->Q2 a b)->E5 X.K T v (zE js σ) H3 Q1->E5 X.K T v (zE js σ) H3 Q2:=by
   have HC:∀(l:List Nat),∀x σ H (Q Q':L2.St->Hp->Prop),(∀a b,Q a b->Q' a b)->DG l x σ H Q->DG l x σ H Q':=by
    intro l
    induction l with
    |nil=>exact λx σ H Q Q' h q=>⟨q.1,h _ _ q.2⟩
    |cons i l ih=>exact kO ie ih
   intro Q1 Q2 hq q
   cases T with
   |nm i=>exact hq _ _ q
   |tp l=>
    obtain⟨a,xs,e1,e2,e3,e4⟩:=q
    exact⟨a,xs,e1,e2,e3,HC l _ _ _ _ _ hq e4⟩
  refine mono _ _ ?_ Og
  rintro σ4 H4 ⟨⟨rfl,b1,K4,p4⟩,hlen,zV⟩
  refine⟨_,F2,b1,_,K4,p4,λb b2 F5 H5 p5 s5 K5=>?_⟩
  have again:∀{F6 H6:Hp} {b3:En} {ys':List V} {E8:List PV},bY F2 F6->tO (md ob X) (Zb js dO fp F2 H4) F6 σ4 H6 b3->Bg (Ex T) c f js P (xs.drop (i+1)) (Ab js dO b3) E8->nE X.K F6 ys' E8 ->
    H6 l=some (.lst ys)/\(∃m',m'<xs.length - i/\m'=xs.length - (i+1)/\(upd H6 l (.lst ys')) l=some (.lst ys')/\∃F' dO C8 fp,bY F F'/\tO (md ob X) Z F' σ (upd H6 l (.lst ys')) dO/\Slots (md ob X) Z F' σ (upd H6 l (.lst ys')) dO fp/\F' l=none/\(∀i,l∉fp i)/\nE X.K F' ys' C8/\Bg (Ex T) c f js P (xs.drop (i+1)) dO C8):=λ{F6 H6 b3 ys' E8} s6 K6 p6 r6=>by
   obtain⟨G8,L6,Rv,Fy⟩:=lP hj K2 N5 K6 zV
   have K9:H6 l=some (.lst ys):=K6.sG l _ IZ λz=>by
    obtain⟨_,j,_,_,_,hm⟩:=dN z
    exact hn j hm
   have NJ:F6 l=none:=by
    cases e:F6 l with
    |none=>rfl
    |some o=>
     rcases K6.nw l (by rw[e];simp)with q|q
     .exact absurd Q5 q
     .exact absurd q (by show H4 l≠none;rw[IZ];simp)
   have IW:∀i,l∉G8 i:=λi h=>by
    rcases Fy i l h with ⟨i',q⟩|q
    .exact hn i' q
    .rw[IZ]at q;cases q
   obtain⟨K7,L7⟩:=Rv.BX (o:=.lst ys') L6 NJ h0 IW
   exact⟨K9,_,by omega,rfl,ak,F6,_,_,G8,ah s (ah s2 s6),K7,L7,NJ,IW,r6,p6⟩
  cases b with
  |false=>
   refine C1 ?_
   obtain⟨QK,m',h1,h2,h3,F',dO,C8,fp,q1,q2,q3,q4⟩:=again (ys':=ys) s5 K5 p5 ((ry.mono s2).mono s5)
   have e:upd H5 l (.lst ys)=H5:=by
    funext a
    by_cases z:a=l
    .subst z;rw[ak,QK]
    .rw[ag z]
   rw[e]at h3 q2 q3
   exact⟨m',h1,h2,h3,F',dO,C8,fp,q1,q2,q3,q4⟩
  |true=>
   refine Dn ⟨_,F5,b2,_,K5,p5,λy b3 v6 F6 H6 p6 s6 K6 r6=>?_⟩
   obtain⟨K9,q⟩:=again (ys':=ys++[v6]) (ah s5 s6) K6 p6.2 ((((ry.mono s2).mono s5).mono s6).app (.cons r6 .nil))
   refine⟨K9,?_,q⟩
   have:=p6.1
   rw[ry.len,aaG];omega
 .rw[ac5 (by omega)]at hg
  refine .inl ⟨I1.stop Z i σ dO F' H2 s K' (by omega),kk _ dO _ F' H2 hg s (λ_=>by simp) ?_⟩
  refine K'.slots (by simp[K'.len]) (L'.push (l:=[l]) (by simp) K'.len (.inr (.inl ⟨rfl,l,rfl,rfl,h0,ys,G7,ry⟩)) (λa ha=>?_) λj a ha=>?_)
  .simp at ha;subst ha
   exact⟨by rw[G7];simp,NM⟩
  .simp at ha;subst ha
   exact hn j
theorem br(hi:G1 ob X tg iter fi)(hg:∀C s₀ H₀ ex pn,PG (yT X scope N C s₀ H₀ ex pn) tg (E5 X.K T))(ht:∀C s₀ H₀ ex pn,Mn ob (yT X scope N C s₀ H₀ ex pn) ifs c)(he:∀C s₀ H₀ ex pn,zq ob (yT X scope N C s₀ H₀ ex pn) elt f)
  (hj:EM js=true:=by rfl) (hT:BP js T=true:=by rfl)
  (hc:X.calm=true:=by rfl) (hx:X.xe=(λ_ _=>False):=by rfl) (Cg:Cm X.env scope=true:=by rfl) (zV:AI X.N scope N js=true:=by rfl) (zo:scope.kind=.function:=by rfl) (hs:∀x,aa4 iter X.env x=pure x:=by intro _;rfl) :
  Ha ob X (.ListComp elt [⟨tg,iter,ifs,0⟩] scope pos) (DC fi T c f js):=by
 obtain⟨wi,HJ,k⟩:=hi.ex
 refine⟨_,uR (wi:=wi) (g:=E5 X.K T) (tc:=Ky (md ob X) c) (te:=Ie (md ob X) f) (js:=js) HJ hg (λC s₀ H₀ ex pn=>(ht C s₀ H₀ ex pn).ex) (λC s₀ H₀ ex pn=>(he C s₀ H₀ ex pn).pe) (cK hT) hc hx Cg zV zo hs,λZ F σ H env P Q K hf kk=>?_⟩
 refine k Z F σ H env _ _ K hf λxs e1 J F1 H1 p s1 K1 I1 l hl=>?_
 exact pf hj hT K1 I1 p (λx e2 v F2 H2 p2 s2 LV K2=>kk x e2 v F2 H2 p2 (ah s1 s2) LV K2) l hl
def CA(g:WG)(c:WT)(fk f:WE)(js:List (Option Nat))(P:PV->En->Prop):List PV->En->List (Key×PV)->Prop
 |[],env,acc=>P (.zB acc) env
 |x::xs,env,acc=>g x (DL js env) λb1=>c b1 λok b2=>if ok=true then fk b2 λkk b3=>f b3 λy b4=>acc.length<=100000/\opt (B5 kk) λkey=>CA g c fk f js P xs (Ab js env b4) (Dh acc key y)else CA g c fk f js P xs (Ab js env b2) acc
def Jh(fi:WA)(T:JZ)(c:WT)(fk f:WE)(js:List (Option Nat)):WE:=λenv P=>fi env λxs e=>CA (Ex T) c fk f js P xs e []
theorem pF{P:PV->En->Prop}{Q:VK}{xs:List PV}{J:It}(hj:EM js=true)(hT:BP js T=true)(K:tO (md ob X) Z F σ H env)(I1:DN (md ob X) J F xs)(hf:CA (Ex T) c fk f js P xs env [])
  (kk:∀x dO v F' H',P x dO->bY F F'->(∀xs,x≠.set xs)->tO (md ob X) Z F' (σ++[some v]) H' (dO++[some ⟨1,x⟩])->Q v H') (l:Addr) (hl:H l=none) :
  ∃W:Nat->Nat->List (Key×V)->Hp->Prop,(∃m,W 0 m [] (upd H l (.dK [])))/\∀i m ys H2,W i m ys H2 ->
  (J.stop i H2/\Q (.ref l) H2)\/(J.go i H2/\∀x H3,J.yld i H2 x H3->E5 X.K T x (zE js σ) H3 λσ4 H4=>Ky (md ob X) c σ4 H4 λb H5=>
   if b=true then Ie (md ob X) fk σ4 H5 λkk H6=>Ie (md ob X) f σ4 H6 λy H7=>∃key,kk=kV key/\H7 l=some (.dK ys)/\ys.length<sizeLine/\∃m',m'<m/\W (i+1) m' (putK ys key y) (upd H7 l (.dK (putK ys key y)))else ∃m',m'<m/\W (i+1) m' ys H5):=by
 refine⟨λi m ys H'=>m=xs.length - i/\H' l=some (.dK ys)/\∃F' dO C8 fp,bY F F'/\tO (md ob X) Z F' σ H' dO/\Slots (md ob X) Z F' σ H' dO fp/\F' l=none/\(∀i,l∉fp i)/\yV X.K F' ys C8/\CA (Ex T) c fk f js P (xs.drop i) dO C8,?_,?_⟩
 .obtain⟨fp,L⟩:=K.sl
  have hF:F l=none:=bY.none_of K.sF hl
  have hn:∀i,l∉fp i:=λi h=>(L.al i l h).1 hl
  obtain⟨K1,L1⟩:=K.BX (o:=.dK []) L hF (K.h0 hl) hn
  exact⟨_,rfl,ak,F,env,[],fp,am,K1,L1,hF,hn,.nil,hf⟩
 rintro i m ys H2 ⟨rfl,G7,F',dO,C8,fp,s,K',L',NM,hn,ry,hg⟩
 have h0:Z.H₀ l=none:=K.h0 hl
 by_cases zT:i<xs.length
 .rw[ach zT]at hg
  obtain⟨h1,h2⟩:=I1.go Z i σ dO F' H2 xs[i] s K' (by simp[zT])
  refine .inr ⟨h1,λv H3 y=>?_⟩
  obtain⟨F2,s2,K2,r2,sH,nw⟩:=h2 v H3 y
  have N5:Slots (md ob X) Z F2 σ H3 dO fp:=L'.move s2 (λ_ c o _ e=>sH c o e) nw
  have Q5:F2 l=none:=by
   cases e:F2 l with
   |none=>rfl
   |some o=>
    rcases nw l (by rw[e];simp)with q|q
    .exact absurd NM q
    .rw[G7]at q;cases q
  have IZ:H3 l=some (.dK ys):=sH _ _ G7
  have Kb:=nT hj K2 N5
  have hσ4:∀{σ4:L2.St},(∀(k j:Nat),js[k]?=some (some j)->σ4[k]?=(zE js σ)[k]?)->True:=λ_=>trivial
  have Og:=cK (K:=X.K) hT v (zE js σ) H3 _ (qI (M:=md ob X) (Q:=λσ4 H4=>H4=H3/\∃b1,tO (md ob X) (Zb js dO fp F2 H3) F2 σ4 H3 b1/\c b1 λok b2=>if ok=true then fk b2 λkk b3=>f b3 λy b4=>C8.length<=100000/\opt (B5 kk) λkey=>CA (Ex T) c fk f js P (xs.drop (i+1)) (Ab js dO b4) (Dh C8 key y)else CA (Ex T) c fk f js P (xs.drop (i+1)) (Ab js dO b2) C8) Kb r2 hg λe4 σ4 p4 K4=>⟨rfl,e4,K4,p4⟩)
  have mono:∀(Q1 Q2:L2.St->Hp->Prop),(∀a b,Q1 a b->Q2 a b)->E5 X.K T v (zE js σ) H3 Q1->E5 X.K T v (zE js σ) H3 Q2:=by
   have HC:∀(l:List Nat),∀x σ H (Q Q':L2.St->Hp->Prop),(∀a b,Q a b->Q' a b)->DG l x σ H Q->DG l x σ H Q':=by
    intro l
    induction l with
    |nil=>exact λx σ H Q Q' h q=>⟨q.1,h _ _ q.2⟩
    |cons i l ih=>exact kO ie ih
   intro Q1 Q2 hq q
   cases T with
   |nm i=>exact hq _ _ q
   |tp l=>
    obtain⟨a,xs,e1,e2,e3,e4⟩:=q
    exact⟨a,xs,e1,e2,e3,HC l _ _ _ _ _ hq e4⟩
  refine mono _ _ ?_ Og
  rintro σ4 H4 ⟨⟨rfl,b1,K4,p4⟩,hlen,zV⟩
  refine⟨_,F2,b1,_,K4,p4,λb b2 F5 H5 p5 s5 K5=>?_⟩
  have again:∀{F6 H6:Hp} {b3:En} {ys':List (Key×V)} {E8:List (Key×PV)},bY F2 F6->tO (md ob X) (Zb js dO fp F2 H4) F6 σ4 H6 b3->CA (Ex T) c fk f js P (xs.drop (i+1)) (Ab js dO b3) E8->yV X.K F6 ys' E8 ->
    H6 l=some (.dK ys)/\(∃m',m'<xs.length - i/\m'=xs.length - (i+1)/\(upd H6 l (.dK ys')) l=some (.dK ys')/\∃F' dO C8 fp,bY F F'/\tO (md ob X) Z F' σ (upd H6 l (.dK ys')) dO/\Slots (md ob X) Z F' σ (upd H6 l (.dK ys')) dO fp/\F' l=none/\(∀i,l∉fp i)/\yV X.K F' ys' C8/\CA (Ex T) c fk f js P (xs.drop (i+1)) dO C8):=λ{F6 H6 b3 ys' E8} s6 K6 p6 r6=>by
   obtain⟨G8,L6,Rv,Fy⟩:=lP hj K2 N5 K6 zV
   have K9:H6 l=some (.dK ys):=K6.sG l _ IZ λz=>by
    obtain⟨_,j,_,_,_,hm⟩:=dN z
    exact hn j hm
   have NJ:F6 l=none:=by
    cases e:F6 l with
    |none=>rfl
    |some o=>
     rcases K6.nw l (by rw[e];simp)with q|q
     .exact absurd Q5 q
     .exact absurd q (by show H4 l≠none;rw[IZ];simp)
   have IW:∀i,l∉G8 i:=λi h=>by
    rcases Fy i l h with ⟨i',q⟩|q
    .exact hn i' q
    .rw[IZ]at q;cases q
   obtain⟨K7,L7⟩:=Rv.BX (o:=.dK ys') L6 NJ h0 IW
   exact⟨K9,_,by omega,rfl,ak,F6,_,_,G8,ah s (ah s2 s6),K7,L7,NJ,IW,r6,p6⟩
  cases b with
  |false=>
   refine C1 ?_
   obtain⟨QK,m',h1,h2,h3,F',dO,C8,fp,q1,q2,q3,q4⟩:=again (ys':=ys) s5 K5 p5 ((ry.mono s2).mono s5)
   have e:upd H5 l (.dK ys)=H5:=by
    funext a
    by_cases z:a=l
    .subst z;rw[ak,QK]
    .rw[ag z]
   rw[e]at h3 q2 q3
   exact⟨m',h1,h2,h3,F',dO,C8,fp,q1,q2,q3,q4⟩
  |true=>
   refine Dn ⟨_,F5,b2,_,K5,p5,λkx b3 v6 F6 H6 p6 s6 K6 r6=>⟨_,F6,b3,_,K6,p6,λy b4 v7 F7 H7 p7 s7 K7 r7=>?_⟩⟩
   obtain⟨p7,key,HN,p8⟩:=p7
   have RQ:=ah s5 (ah s6 s7)
   obtain⟨K9,q⟩:=again (ys':=putK ys key v7) RQ K7 p8 (((ry.mono s2).mono RQ).put r7)
   refine⟨key,fx HN r6,K9,?_,q⟩
   rw[ry.len,aaG];omega
 .rw[ac5 (by omega)]at hg
  refine .inl ⟨I1.stop Z i σ dO F' H2 s K' (by omega),kk _ dO _ F' H2 hg s (λ_=>by simp) ?_⟩
  refine K'.slots (by simp[K'.len]) (L'.push (l:=[l]) (by simp) K'.len (.inr (.inl ⟨rfl,l,rfl,rfl,h0,ys,G7,ry⟩)) (λa ha=>?_) λj a ha=>?_)
  .simp at ha;subst ha
   exact⟨by rw[G7];simp,NM⟩
  .simp at ha;subst ha
   exact hn j
theorem uV(hi:G1 ob X tg iter fi)(hg:∀C s₀ H₀ ex pn,PG (yT X scope N C s₀ H₀ ex pn) tg (E5 X.K T))(ht:∀C s₀ H₀ ex pn,Mn ob (yT X scope N C s₀ H₀ ex pn) ifs c)(hk:∀C s₀ H₀ ex pn,zq ob (yT X scope N C s₀ H₀ ex pn) kx fk)(he:∀C s₀ H₀ ex pn,zq ob (yT X scope N C s₀ H₀ ex pn) vx f)
  (hj:EM js=true:=by rfl) (hT:BP js T=true:=by rfl)
  (hc:X.calm=true:=by rfl) (hx:X.xe=(λ_ _=>False):=by rfl) (Cg:Cm X.env scope=true:=by rfl) (zV:AI X.N scope N js=true:=by rfl) (zo:scope.kind=.function:=by rfl) (hs:∀x,aa4 iter X.env x=pure x:=by intro _;rfl) :
  Ha ob X (.DictComp kx vx [⟨tg,iter,ifs,0⟩] scope pos) (Jh fi T c fk f js):=by
 obtain⟨wi,HJ,k⟩:=hi.ex
 refine⟨_,yC (wi:=wi) (g:=E5 X.K T) (tc:=Ky (md ob X) c) (tk:=Ie (md ob X) fk) (te:=Ie (md ob X) f) (js:=js) HJ hg (λC s₀ H₀ ex pn=>(ht C s₀ H₀ ex pn).ex) (λC s₀ H₀ ex pn=>(hk C s₀ H₀ ex pn).pe) (λC s₀ H₀ ex pn=>(he C s₀ H₀ ex pn).pe) (cK hT) hc hx Cg zV zo hs,λZ F σ H env P Q K hf kk=>?_⟩
 refine k Z F σ H env _ _ K hf λxs e1 J F1 H1 p s1 K1 I1 l hl=>?_
 exact pF hj hT K1 I1 p (λx e2 v F2 H2 p2 s2 LV K2=>kk x e2 v F2 H2 p2 (ah s1 s2) LV K2) l hl
variable{Ac:Pos}
theorem uU(i:Nat){y:Str}(hN:X.N.Nodup)(hy:X.N[i]?=some y)(hl:X.env.scope.names.lookup y=some .local)(hi:G1 ob X tg iter fi)(hg:∀C s₀ H₀ ex pn,PG (yT X scope N C s₀ H₀ ex pn) tg (E5 X.K T))(ht:∀C s₀ H₀ ex pn,Mn ob (yT X scope N C s₀ H₀ ex pn) ifs c)(hk:∀C s₀ H₀ ex pn,zq ob (yT X scope N C s₀ H₀ ex pn) kx fk)(he:∀C s₀ H₀ ex pn,zq ob (yT X scope N C s₀ H₀ ex pn) vx f)
  (hj:EM js=true:=by rfl) (hT:BP js T=true:=by rfl)
  (HK:acl (.DictComp kx vx [⟨tg,iter,ifs,0⟩] scope pos) (some (.Name y py)) Ac.line X.env=pure true:=by rfl)
  (hc:X.calm=true:=by rfl) (hx:X.xe=(λ_ _=>False):=by rfl) (Cg:Cm X.env scope=true:=by rfl) (zV:AI X.N scope N js=true:=by rfl) (zo:scope.kind=.function:=by rfl) (hs:∀x,aa4 iter X.env x=pure x:=by intro _;rfl) :
  DD ob X (.Assign [.Name y py] (.DictComp kx vx [⟨tg,iter,ifs,0⟩] scope pos) Ac) (AR i (Jh fi T c fk f js)):=by
 obtain⟨wi,HJ,k⟩:=hi.ex
 refine⟨_,uP (i:=i) (wi:=wi) (g:=E5 X.K T) (tc:=Ky (md ob X) c) (tk:=Ie (md ob X) fk) (te:=Ie (md ob X) f) (js:=js) hN hy hl HJ hg (λC s₀ H₀ ex pn=>(ht C s₀ H₀ ex pn).ex) (λC s₀ H₀ ex pn=>(hk C s₀ H₀ ex pn).pe) (λC s₀ H₀ ex pn=>(he C s₀ H₀ ex pn).pe) (cK hT) HK hc hx Cg zV zo hs,λZ F σ H env P D K hf L=>?_⟩
 refine k Z F σ H env _ _ K hf λxs e1 J F1 H1 p s1 K1 I1 l hl=>?_
 exact pF (P:=λx e=>P.nx (e.set i (some ⟨1,x⟩))) (Q:=λv H'=>D.nx (σ.set i (some v)) H') hj hT K1 I1 p (λx e2 v F2 H2 p2 s2 LV K2=>L.nx _ _ F2 H2 p2 (ah s1 s2) K2.take) l hl
abbrev LM:=List PV->List PV->Option (PV×List PV)
def GS(m:LM)(i:Nat)(fa:WA):WE:=λenv P=>(match env[i]? with|some (some ⟨1,.lst _⟩)=>True|some (some ⟨3,.lst _⟩)=>True|_=>False)/\fa env λxs e=>match e[i]? with
 |some (some ⟨1,.lst ys⟩)=>opt (m ys xs) λr=>P r.1 (e.set i (some ⟨1,.lst r.2⟩))
 |some (some ⟨3,.lst ys⟩)=>opt (m ys xs) λr=>P r.1 (e.set i (some ⟨3,.lst r.2⟩))
 |_=>False
def Mm(K:aag)(r:V->List V->Hp->VK->Prop)(m:LM):Prop :=
 ∀(F H:Hp) (l:Addr) (ys vs:List V) (ps xs:List PV) (z:PV) (KG:List PV) (Q:VK),bY F H->H l=some (.lst ys)->nE K F ys ps->nE K F vs xs->m ps xs=some (z,KG) ->
  (∀v ys',Rep K F v z->nE K F ys' KG->Q v (upd H l (.lst ys')))->r (.ref l) vs H Q
variable{c:Expr}{apos zS:Pos}{name:Str}{r:V->List V->Hp->VK->Prop}{m:LM}
theorem rM{t:TA}{i:Nat}(hq:Mm X.K r m)(k:∀(Z:Zn) (F:Hp) (σ:L2.St) (H:Hp) (env:En) (P:List PV->En->Prop) (Q:List V->Hp->Prop),tO (md ob X) Z F σ H env->fa env P->(∀xs dO vs F' H',P xs dO->xs.length=es.length->bY F F'->tO (md ob X) Z F' σ H' dO->nE X.K F' vs xs->Q vs H')->t σ H Q):
  ∀(Z:Zn) (F:Hp) (σ:L2.St) (H:Hp) (env:En) (P:PV->En->Prop) (Q:VK),tO (md ob X) Z F σ H env->GS m i fa env P->(∀x dO v F' H',P x dO->bY F F'->tO (md ob X) Z F' σ H' dO->Rep X.K F' v x->Q v H')->RL X.K "list" r (zK i) t σ H Q:=by
 intro Z F σ H env P Q K hf kk
 obtain⟨h0,hf⟩:=hf
 obtain⟨a,hσ,LL,ha⟩:∃a,σ[i]?=some (some (.ref a))/\∃vs,H a=some (.lst vs):=by
  split at h0
  .rename_i e
   obtain⟨a,h1,vs,h2,_⟩:=K.ownAt (.inl rfl) e
   exact⟨a,h1,vs,h2⟩
  .rename_i e
   obtain⟨a,h1,vs,h2,_⟩:=K.ownAt (.inr rfl) e
   exact⟨a,h1,vs,h2⟩
  .exact h0.elim
 refine⟨_,hσ,.inl ⟨rfl,LL,.inl (.inl ha)⟩,?_⟩
 refine k Z F σ H env _ _ K hf λxs e1 vs F1 H1 p _ s1 K1 r1=>?_
 have fin:∀(kd:Nat) (ys:List PV),kd=1\/kd=3->e1[i]?=some (some ⟨kd,.lst ys⟩)->opt (m ys xs) (λr=>P r.1 (e1.set i (some ⟨kd,.lst r.2⟩)))->r (.ref a) vs H1 Q:=λkd ys hk ei ⟨⟨z,ys'⟩,hm,p⟩=>by
  obtain⟨a',h1,ws,h2,h3⟩:=K1.ownAt hk ei
  rw[hσ]at h1;cases h1
  refine hq F1 H1 a ws vs ys xs z ys' Q K1.sF h2 h3 r1 hm λv us rv ru=>?_
  exact kk z _ v F1 _ p s1 (K1.write (o:=.lst us) hk ei hσ ⟨us,ak,ru⟩) rv
 split at p
 .rename_i ei;exact fin _ _ (.inl rfl) ei p
 .rename_i ei;exact fin _ _ (.inr rfl) ei p
 .exact p.elim
theorem eB(i:Nat)(slot:Slot "list" name JH)(GG:typeOf (.builtin JH)=pure (.type "method_descriptor"))(hm:OX X JH r)(hq:Mm X.K r m)(ho:PE X (.Name x p) (zK i))(ha:Et ob X (e::es) fa)
  (Ay:acL (.Name x p) name X.env (eval (.Name x p) X.env)=eval (.Name x p) X.env:=by rfl)
  (FA:((backTo zS (aam (e::es) X.env)).all (λx=>!x.1) && (ae8 zS (adO [] X.env)).all (λx=>x.1.isSome)
   && decide ((e::es).length+([]:List ad7).length+(if ([]:List ad7).isEmpty then 0 else 1)<30))=true:=by rfl)
  (Ax:(apos.endLine==zS.line)=true:=by rfl) (hs:aam (e::es) X.env=(false,eval e X.env)::aam es X.env:=by rfl) (BR:(backTo zS (aam es X.env)).any (·.1)=false:=by rfl) :
  zq ob X (.Call (.Attribute (.Name x p) name apos) (e::es) [] zS) (GS m i fa):=by
 obtain⟨t,ht,k⟩:=ha.ex
 exact⟨_,qb acZ slot GG hm ho ht Ay FA Ax hs BR,rM hq k⟩
theorem yk(i:Nat)(slot:Slot "list" name JH)(GG:typeOf (.builtin JH)=pure (.type "method_descriptor"))(hm:OX X JH r)(hq:Mm X.K r m)(ho:PE X (.Name x p) (zK i))
  (Ay:acL (.Name x p) name X.env (eval (.Name x p) X.env)=eval (.Name x p) X.env:=by rfl) (Ax:(apos.endLine==zS.line)=true:=by rfl):zq ob X (.Call (.Attribute (.Name x p) name apos) [] [] zS) (GS m i iD):=by
 refine⟨_,xr acZ slot GG hm ho Ay Ax,λZ F σ H env P Q K hf kk=>?_⟩
 obtain⟨v,h1,h2,h3⟩:=rM (es:=[]) (i:=i) (t:=Hk) hq (λZ F σ H env P Q K hf k=>k [] env [] F H hf rfl am K .nil) Z F σ H env P Q K hf kk
 exact⟨v,h1,h2,h3⟩
def bG:LM:=λys xs=>match xs with
 |[x]=>if ys.length<=100000 then some (.oR,ys++[x])else none
 |_=>none
theorem bP:Mm X.K oV bG:=by
 intro F H l ys vs ps xs z KG Q sF hl ry rx hm k
 unfold bG at hm
 split at hm
 .split at hm
  .cases hm
   cases rx with
   |cons r1 r2=>
    cases r2
    refine⟨l,ys,_,rfl,rfl,hl,?_,k _ _ .oR (ry.app (.cons r1 .nil))⟩
    rw[ry.len,aaG];omega
  .cases hm
 .cases hm
def IL:LM:=λys xs=>match xs with
 |[]=>(ys[ys.length - 1]?).map λy=>(y,ys.dropLast)
 |_=>none
theorem nE.dl{vs:List V}{xs:List PV}(h:nE K F vs xs):nE K F vs.dropLast xs.dropLast:=by
 rw[List.dropLast_eq_take,List.dropLast_eq_take,h.len]
 exact h.take _
theorem xJ:Mm X.K MG IL:=by
 intro F H l ys vs ps xs z KG Q sF hl ry rx hm k
 unfold IL at hm
 split at hm
 .rw[aat]at hm
  obtain⟨y,hy,e⟩:=hm
  cases e
  cases rx
  obtain⟨v,hv,rv⟩:=ry.get hy
  exact⟨l,ys,v,rfl,rfl,hl,by rw[ry.len];exact hv,k _ _ rv ry.dl⟩
 .cases hm
def kJ:LM:=λys xs=>match xs with
 |[.lst zs]=>if ys.length+zs.length<=100000 then some (.oR,ys++zs)else none
 |_=>none
theorem rG:Mm X.K oT kJ:=by
 intro F H l ys vs ps xs z KG Q sF hl ry rx hm k
 unfold kJ at hm
 split at hm
 .split at hm
  .cases hm
   cases rx with
   |cons r1 r2=>
    cases r2
    cases r1 with
    |lst h1 h2=>exact⟨l,_,ys,_,rfl,rfl,hl,sF _ _ h1,by rw[ry.len,h2.len,aaG];omega,k _ _ .oR (ry.app h2)⟩
  .cases hm
 .cases hm
def DR:PV->PV->PV->Option PV
 |.lst xs,.int i,v=>(G6 xs.length i).map λj=>.lst (xs.set j v)
 |.zB kvs,y,v=>if kvs.length<=100000 then (B5 y).map λk=>.zB (Dh kvs k v)else none
 |_,_,_=>none
def Kq(i:Nat)(fv fk:WE):WS:=λP env=>fv env λv e1=>(e1[i]?).join.isSome=true/\fk e1 λy e2=>match e2[i]? with
 |some (some ⟨1,x⟩)=>opt (DR x y v) λz=>P.nx (e2.set i (some ⟨1,z⟩))
 |some (some ⟨3,x⟩)=>opt (DR x y v) λz=>P.nx (e2.set i (some ⟨3,z⟩))
 |_=>False
variable{ke:Expr}
def Jx:Ia:=λo i v H Q=>∃a H',o=.ref a/\LH H a i v H'/\Q H'
theorem tt(hu:X.A.units+1<cLine):E1 X Jx:=by
 intro pins s σ H o i v ov iv u Q I ro ri rv h
 obtain⟨a,H',rfl,g,q⟩:=h
 cases ro
 exact sI hu I g ri rv λs4 I4=>⟨H',I4,q⟩
theorem E1.or{t u:Ia}(h:E1 X t)(h':E1 X u):E1 X (λo i v H Q=>t o i v H Q\/u o i v H Q):=by
 intro pins s σ H o i v ov iv w Q I ro ri rv q
 rcases q with q|q
 .exact h pins s σ H o i v ov iv w Q I ro ri rv q
 .exact h' pins s σ H o i v ov iv w Q I ro ri rv q
theorem ye(i:Nat)(hu:X.A.units+1<cLine)(hv:zq ob X e f)(ho:PE X (.Name x p) (zK i))(hk:zq ob X ke fk)
  (hs:adK [.Subscript (.Name x p) ke pos] e Ac.line X.env=pure false:=by rfl) (hw:adL [.Subscript (.Name x p) ke pos] e X.env=pure none:=by rfl)
  (h1:(acv [.Subscript (.Name x p) ke pos] X.env).map (·.2)=[assign (.Subscript (.Name x p) ke pos) X.env]:=by rfl)
  (ha:∀v,assign (.Subscript (.Name x p) ke pos) X.env v=(do
   let ov <- acS [v] (eval (.Name x p) X.env)
   let iv <- acS [v,ov] (eval ke X.env)
   standAt pos
   acS [v,ov,iv] (setItem ov iv v)
   release [v,ov,iv] []):=by intro _;rfl):DD ob X (.Assign [.Subscript (.Name x p) ke pos] e Ac) (Kq i f fk):=by
 obtain⟨t,ht,k⟩:=hv.ex
 obtain⟨t2,KU,k2⟩:=hk.ex
 refine⟨_,jB ht (mL ho KU (E1.or i8 (tt hu)) ha) hs hw h1,λZ F σ H env P D K hf L=>k Z F σ H env _ _ K hf λv e1 v' F1 H1 p s1 K1 r1=>?_⟩
 obtain⟨h0,p⟩:=p
 obtain⟨w,hw⟩:∃v,σ[i]?=some (some v):=by
  cases e:e1[i]? with
  |none=>rw[e]at h0;cases h0
  |some w=>
   cases w with
   |none=>rw[e]at h0;cases h0
   |some s=>
    obtain⟨fp,L⟩:=K1.sl
    obtain⟨v,hv,_⟩:=L.at' i s e
    exact⟨v,hv⟩
 refine⟨w,hw,k2 Z F1 σ H1 e1 _ _ K1 p λy e2 y' F2 H2 p2 s2 K2 r2=>?_⟩
 have fin:∀(kd:Nat) (x:PV),kd=1\/kd=3->e2[i]?=some (some ⟨kd,x⟩)->opt (DR x y v) (λz=>P.nx (e2.set i (some ⟨kd,z⟩)))->(F8 w y' v' H2 λH3=>D.nx σ H3)\/Jx w y' v' H2 λH3=>D.nx σ H3:=λkd x hk ei ⟨z,hz,p⟩=>by
  obtain⟨a,h1,hx⟩:=K2.ownAt hk ei
  rw[hw]at h1;cases h1
  have RT:=r1.mono s2
  unfold DR at hz
  split at hz
  .rw[aat]at hz
   obtain⟨j,hj,rfl⟩:=hz
   obtain⟨vs,h2,h3⟩:=hx
   cases r2
   exact .inl ⟨a,vs,_,j,rfl,rfl,h2,by rw[h3.len];exact hj,L.nx _ _ F2 _ p (ah s1 s2) (K2.write (o:=.lst (vs.set j v')) hk ei hw ⟨_,ak,h3.PB j RT⟩)⟩
  .split at hz
   .rw[aat]at hz
    obtain⟨j,hj,rfl⟩:=hz
    obtain⟨vs,h2,h3⟩:=hx
    have hy:=fx hj r2
    subst hy
    exact .inr ⟨a,_,rfl,Tv h2 (by rw[h3.len,aaG];omega),L.nx _ _ F2 _ p (ah s1 s2) (K2.write (o:=.dK (putK vs j v')) hk ei hw ⟨_,ak,h3.put RT⟩)⟩
   .cases hz
  .cases hz
 split at p2
 .rename_i ei;exact fin _ _ (.inl rfl) ei p2
 .rename_i ei;exact fin _ _ (.inr rfl) ei p2
 .exact p2.elim
abbrev Fd:=List PV->(PV->Prop)->Prop
def Hl(M:Md)(n:Nat)(D:Fd):Sp:=λvs H Q _=>∃(F:Hp) (xs:List PV) (P:PV->Prop),bY F H/\nE M.K F vs xs/\xs.length=n/\D xs P /\
 ∀r v F' H',P r->bY H H'->bY F F'->bY F' H'->(∀a,F' a≠none->F a≠none\/H a=none)->Rep M.K F' v r->Q v H'
def zF(n:Nat)(xs:List PV):En:=xs.map (λx=>some ⟨0,x⟩)++aaF (n - xs.length) none
def Lv(P:PV->Prop):Wd:={nx:=λ_=>P .oR,rt:=λx _=>P x}
def run(n:Nat)(u:WS):Fd:=λxs P=>u (Lv P) (zF n xs)
abbrev CV:=PV->List PV->(PV->PV->Prop)->Prop
def Ic(M:Md)(n:Nat)(D:CV):Sp:=λvs H Q _=>∃(F:Hp) (a:Addr) (l:List Addr) (c:PV) (ws:List V) (xs:List PV) (P:PV->PV->Prop),vs=.ref a::ws/\bY F H/\nE M.K F ws xs/\xs.length+1=n /\
 M.ob.P F H a l c/\(∀b∈l,H b≠none/\F b=none)/\D c xs P /\
 ∀r c' v F' H' l',P r c'->(∀b o,H b=some o->b∉l->H' b=some o)->(∀b,H b≠none->H' b≠none)->bY F F'->bY F' H'->(∀a,F' a≠none->F a≠none\/H a=none)->M.ob.P F' H' a l' c'->(∀b∈l',H' b≠none/\F' b=none)->(∀b∈l',b∈l\/H b=none)->Rep M.K F' v r->Q v H'
def MU(P:PV->Prop)(e:En):Prop:=match e[(0:Nat)]? with
 |some (some ⟨2,c⟩)=>P c
 |_=>False
def Jg(P:PV->PV->Prop):Wd:={nx:=λe=>MU (P .oR) e,rt:=λx e=>MU (P x) e}
def Gz(n:Nat)(u:WS):CV:=λc xs P=>u (Jg P) (some ⟨2,c⟩::zF (n - 1) xs)
theorem gF{vs:List V}(h:vs.length<=N.length):(start N vs).length=N.length:=by
 unfold L2.start
 rw[aaJ,aae,acf];omega
theorem fV{xs:List PV}(h:xs.length<=n):(zF n xs).length=n:=by
 unfold zF
 rw[aaJ,aae,acf];omega
theorem fW{xs:List PV}{i:Nat}{s:Sl}(h:(zF n xs)[i]?=some (some s)):∃x,xs[i]?=some x/\s=⟨0,x⟩:=by
 unfold zF at h
 rcases aa7 i xs.length with q|q
 .rw[aax (by simpa using q),aaj,aab q]at h
  exact⟨xs[i],by simp[q],(aao (aao h)).symm⟩
 .rw[acb (by simpa using q),List.getElem?_replicate]at h
  split at h<;>cases h
theorem cT{vs:List V}{i:Nat}{v:V}(h:vs[i]?=some v):(start N vs)[i]?=some (some v):=by
 unfold L2.start
 have q:i<vs.length:=by
  rcases aa7 i vs.length with q|q
  .exact q
  .rw[aap q]at h;cases h
 rw[aax (by simpa using q),aaj,h];rfl
theorem gG{vs:List V}{xs:List PV}(sF:bY F H)(r:nE M.K F vs xs)(hl:xs.length<=N.length):tO M ⟨H,F,[],λ_=>none,λ_ h=>by simp at h⟩ F (start N vs) H (zF N.length xs):=by
 have GJ:vs.length<=N.length:=by rw[r.len];exact hl
 refine⟨sF,λb o h _=>h,λb h=>h,am,λa h=>.inl h,by rw[fV hl,gF GJ],λ_=>[],λi s h=>?_,λi a h=>by simp at h,λi j a _ h=>by simp at h,λi a s h=>by cases h⟩
 obtain⟨x,hx,rfl⟩:=fW h
 obtain⟨v,hv,rv⟩:=r.get hx
 exact⟨v,cT hv,.inl ⟨rfl,rfl,rv⟩⟩
variable{l:List Addr}
theorem pY{xs:List PV}{a:Addr}{c:PV}(sF:bY F H)(r:nE M.K F ws xs)(hl:xs.length+1<=N.length)(ho:M.ob.P F H a l c)(hb:∀b∈l,H b≠none/\F b=none):
  tO M ⟨H,F,l,λi=>if i=0 then some a else none,λb h=>(hb b h).1⟩ F (start N (.ref a::ws)) H (some ⟨2,c⟩::zF (N.length - 1) xs):=by
 have GJ:ws.length+1<=N.length:=by rw[r.len];exact hl
 refine⟨sF,λb o h _=>h,λb h=>h,am,λa h=>.inl h,?_,λi=>if i=0 then l else [],λi s h=>?_,λi b h=>?_,λi j b CN h z=>?_,λi b s h _ _=>?_⟩
 .rw[aaL,fV (by omega),gF (by simpa using GJ)];omega
 .cases i with
  |zero=>
   have h:s=⟨2,c⟩:=by simpa using h.symm
   subst h
   exact⟨.ref a,cT rfl,.inr (.inr (.inl ⟨.inl rfl,a,rfl,λc hc=>.inl hc,ho⟩))⟩
  |succ i=>
   have h:(zF (N.length - 1) xs)[i]?=some (some s):=by simpa using h
   obtain⟨x,hx,rfl⟩:=fW h
   obtain⟨v,hv,rv⟩:=r.get hx
   exact⟨v,cT (by simpa using hv),.inl ⟨rfl,rfl,rv⟩⟩
 .split at h
  .exact hb b h
  .simp at h
 .split at h
  .split at z
   .rename_i h1 h2;exact CN (h1.trans h2.symm)
   .simp at z
  .simp at h
 .dsimp only at h
  split at h
  .rename_i e;subst e;cases h;exact cT rfl
  .cases h
variable{P:aaH}{w:World}{mg:Str->Option Value}{base:Heap}
variable{qual:Str}{fd:ab0}{ps:List Str}
theorem bf{f:Addr}{k:Nat}(F:FP K x qual st f fd)(S:aA N ps (aq st))(hn:ps.length<=N.length)
  (hb:∀(zr:Value) (A:Around) (outer:List Env) (s:Shared) (H:Hp) (E:XK),zy k (A.deeper (envOfC qual (aq st) s.heap.objs.size f zr))->CG ob (C2 Ak P w K mg base N qual (aq st) f zr A outer s H E).Hz (bh st) u) :
  zf P w K mg base Ak (k+1) f fd ps (Hl ⟨P,w,K,ob⟩ ps.length (run N.length u)):=by
 refine F.ok S (λvs H Q E h=>?_) (λzr A outer s H vs Q E hr h=>?_)
 .obtain⟨F,xs,P,_,r,hl,_⟩:=h
  rw[r.len];exact hl
 .obtain⟨F,xs,P',sF,r,hl,hD,kk⟩:=h
  obtain⟨t,ht,kt⟩:=(hb zr A outer s H E hr).ex
  refine⟨t,ht,kt ⟨H,F,[],λ_=>none,λ_ h=>by simp at h⟩ F (start N vs) H (zF N.length xs) (Lv P') _ (gG (M:=⟨P,w,K,ob⟩) sF r (by omega)) hD ⟨λenv σ F' H' p s1 K1=>?_,λx env v σ F' H' p s1 K1 rv=>?_,λ_ _ _ _ p=>p.elim,λ_ _ _ _ p=>p.elim,λ_ _ _ _ _ _ p=>p.elim,λ_ _ _ _ _ _ _ p=>p.elim⟩⟩
  .exact kk .oR .oR F' H' p (λb o h=>K1.sG b o h (by simp)) s1 K1.sF K1.nw .oR
  .exact kk x v F' H' p (λb o h=>K1.sG b o h (by simp)) s1 K1.sF K1.nw rv
theorem jN{f:Addr}{k:Nat}(F:FP K x qual st f fd)(S:aA N ps (aq st))(hn:ps.length<=N.length)
  (hb:∀(zr:Value) (A:Around) (outer:List Env) (s:Shared) (H:Hp) (E:XK),zy k (A.deeper (envOfC qual (aq st) s.heap.objs.size f zr))->CG ob (C2 Ak P w K mg base N qual (aq st) f zr A outer s H E).Hz (bh st) u) :
  zf P w K mg base Ak (k+1) f fd ps (Ic ⟨P,w,K,ob⟩ ps.length (Gz N.length u)):=by
 refine F.ok S (λvs H Q E h=>?_) (λzr A outer s H vs Q E hr h=>?_)
 .obtain⟨F,a,l,c,ws,xs,P,rfl,_,r,hl,_⟩:=h
  rw[aaL,r.len];exact hl
 .obtain⟨F,a,l,c,ws,xs,P',rfl,sF,r,hl,ho,GP,hD,kk⟩:=h
  obtain⟨t,ht,kt⟩:=(hb zr A outer s H E hr).ex
  have fin:∀(x:PV) (env:En) (v:V) (σ:L2.St) (F' H':Hp),MU (P' x) env->bY F F'->tO ⟨P,w,K,ob⟩ ⟨H,F,l,λi=>if i=0 then some a else none,λb h=>(GP b h).1⟩ F' σ H' env->Rep K F' v x->Q v H':=λx env v σ F' H' p s1 K1 rv=>by
   unfold MU at p
   split at p
   .rename_i c' e
    obtain⟨fp,L⟩:=K1.sl
    obtain⟨v0,Eo,ok⟩:=L.at' 0 _ e
    have hσ:=L.oa 0 a _ rfl e rfl
    rw[hσ]at Eo;cases Eo
    rcases ok with ⟨k0,_⟩|⟨k0,_⟩|⟨_,a',e',h1,h2⟩|⟨k0,_⟩
    .cases k0
    .cases k0
    .cases e'
     exact kk x _ v F' H' (fp 0) p (λb o h1 h2=>K1.sG b o h1 h2) (λb h=>K1.pr b h) s1 K1.sF K1.nw h2 (λb hb=>L.al 0 b hb) (λb hb=>h1 b hb) rv
    .cases k0
   .exact p.elim
  refine⟨t,ht,kt ⟨H,F,l,λi=>if i=0 then some a else none,λb h=>(GP b h).1⟩ F (start N (.ref a::ws)) H (some ⟨2,c⟩::zF (N.length - 1) xs) (Jg P') _ (pY (M:=⟨P,w,K,ob⟩) sF r (by omega) ho GP) hD ⟨λenv σ F' H' p s1 K1=>?_,λx env v σ F' H' p s1 K1 rv=>?_,λ_ _ _ _ p=>p.elim,λ_ _ _ _ p=>p.elim,λ_ _ _ _ _ _ p=>p.elim,λ_ _ _ _ _ _ _ p=>p.elim⟩⟩
  .exact fin .oR env .oR σ F' H' p s1 K1 .oR
  .exact fin x env v σ F' H' p s1 K1 rv
def zc(D:Fd)(fa:WA):WE:=λenv P=>fa env λxs e=>D xs λr=>P r e
def ze(D:CV)(i:Nat)(fa:WA):WE:=λenv P=>(env[i]?).join.isSome=true/\fa env λxs e=>match e[i]? with
 |some (some ⟨2,c⟩)=>D c xs λr c'=>P r (e.set i (some ⟨2,c'⟩))
 |some (some ⟨4,c⟩)=>D c xs λr c'=>P r (e.set i (some ⟨4,c'⟩))
 |_=>False
variable{k:Nat}{Bh:Addr}{D:Fd}{DO:CV}{p1:Pos}
theorem kT(F:zf X.prog X.w X.K X.mg X.base Ak k Bh fd ps (Hl (md ob X) n D))(hr:zy k X.A)(hm:X.mg x=some (.ref Bh))(hk:abU X.K (.ref Bh)=true)(hb:Binds X.K fd ps [])(ha:Et ob X (e::es) fa)(hn:es.length+1=n:=by rfl)(hg:Gl X x:=by rfl)
  (Cr:(x==("__debug__" : Str))=false:=by decide) (he:aam (e::es) X.env=(false,eval e X.env)::aam es X.env:=by rfl) (Bb:(backTo pos (aam es X.env)).any (·.1)=false:=by rfl) :
  zq ob X (.Call (.Name x p) (e::es) [] pos) (zc D fa):=by
 obtain⟨t,ht,kt⟩:=ha.ex
 refine⟨_,fo (E:=E0) F hr hg hm hk hb .nil ED ht Cr he Bb,λZ F σ H env P Q K hf kk=>kt Z F σ H env _ _ K hf λxs e1 vs F1 H1 p hl s1 K1 r1=>?_⟩
 rw[abN]
 refine⟨F1,xs,λr=>P r e1,K1.sF,r1,by rw[hl];exact hn,p,λr v F' H' pr sH sF ID nw rv=>?_⟩
 exact kk r e1 v F' H' pr (ah s1 sF) (K1.move sF ID sH nw) rv
theorem tO.II{i kd:Nat}{a:Addr}{c c':PV}{l':List Addr}(hk:kd=2\/kd=4)(K:tO M Z F σ H env)(L:Slots M Z F σ H env fp)(hi:env[i]?=some (some ⟨kd,c⟩))(hv:σ[i]?=some (some (.ref a)))
  (kp:∀b o,H b=some o->b∉fp i->H' b=some o) (pr:∀b,H b≠none->H' b≠none) (sF:bY F F') (ID:bY F' H') (nw:∀a,F' a≠none->F a≠none\/H a=none) (ho:M.ob.P F' H' a l' c') (hl:∀b∈l',H' b≠none/\F' b=none) (hn:∀b∈l',b∈fp i\/H b=none) :
  tO M Z F' σ H' (env.set i (some ⟨kd,c'⟩))/\Slots M Z F' σ H' (env.set i (some ⟨kd,c'⟩)) (λj=>if j=i then l' else fp j):=by
 obtain⟨v0,Eo,PZ⟩:=L.at' i _ hi
 have wr:=PZ.wr
 have SW:∀b∈l',b∈Z.S\/Z.H₀ b=none:=λb hb=>by
  rcases hn b hb with q|q
  .exact wr b q
  .exact .inr (K.h0 q)
 have zT:i<env.length:=by
  rcases aa7 i env.length with q|q
  .exact q
  .rw[aap q]at hi;cases hi
 suffices S:Slots M Z F' σ H' (env.set i (some ⟨kd,c'⟩)) (λj=>if j=i then l' else fp j)from ⟨⟨ID,λb o h1 h2=>kp b o (K.sG b o h1 h2) λz=>(wr b z).elim h2 λq=>(by rw[q]at h1;cases h1),λb h=>pr b (K.pr b h),ah K.gr sF,λa h=>(nw a h).elim (K.nw a) λq=>.inr (K.h0 q),by simp[K.len],_,S⟩,S⟩
 refine⟨λj s e=>?_,λj b h=>?_,λj j2 b Mc h z=>?_,λj b s e1 e2 e3=>?_⟩
 .by_cases q:j=i
  .subst q
   rw[abR]at e
   simp only[if_true,zT]at e
   cases e
   exact⟨_,hv,by rw[if_pos rfl];exact .inr (.inr (.inl ⟨hk,a,rfl,SW,ho⟩))⟩
  .rw[aaI (abW q)]at e
   obtain⟨v,h1,h2⟩:=L.at' j s e
   have h3:=h2.mono (H':=H') sF λc hc=>by
    obtain⟨o,ho⟩:=b9 (L.al j c hc).1
    rw[ho]
    exact kp c o ho (L.dj j i c q hc)
   exact⟨v,h1,by rw[if_neg q];exact h3⟩
 .by_cases q:j=i
  .rw[if_pos q]at h;exact hl b h
  .rw[if_neg q]at h
   have:=L.al j b h
   refine⟨pr b this.1,?_⟩
   cases e:F' b with
   |none=>rfl
   |some o=>
    rcases nw b (by rw[e];simp)with y|y
    .exact absurd this.2 y
    .exact absurd y this.1
 .have M7:∀j,j≠i->b∈l'->b∈fp j->False:=λj hj m1 m2=>by
   rcases hn b m1 with y|y
   .exact L.dj j i b hj m2 y
   .exact(L.al j b m2).1 y
  by_cases q:j=i
  .rw[if_pos q]at h
   rw[if_neg (λy=>Mc (q.trans y.symm))]at z
   exact M7 j2 (λy=>Mc (q.trans y.symm)) h z
  .rw[if_neg q]at h
   by_cases q2:j2=i
   .rw[if_pos q2]at z;exact M7 j q z h
   .rw[if_neg q2]at z;exact L.dj j j2 b Mc h z
 .by_cases q:j=i
  .subst q
   rw[abR]at e2
   simp only[if_true,zT]at e2
   cases e2
   exact L.oa j b _ e1 hi e3
  .rw[aaI (abW q)]at e2
   exact L.oa j b s e1 e2 e3
theorem ux(i:Nat){y:Str}(F:zf X.prog X.w X.K X.mg X.base Ak k Bh fd ps (Ic (md ob X) n DO))(hr:zy k X.A)(hm:X.mg x=some (.ref Bh))(hk:abU X.K (.ref Bh)=true)(hb:Binds X.K fd ps [])(ho:PE X (.Name y p1) (zK i))(ha:Et ob X es fa)(hn:es.length+1=n:=by rfl)(hg:Gl X x:=by rfl)
  (Cr:(x==("__debug__" : Str))=false:=by decide) (he:aam (.Name y p1::es) X.env=(false,eval (.Name y p1) X.env)::aam es X.env:=by rfl) (Bb:(backTo pos (aam es X.env)).any (·.1)=false:=by rfl) :
  zq ob X (.Call (.Name x p) (.Name y p1::es) [] pos) (ze DO i fa):=by
 obtain⟨t,ht,kt⟩:=ha.ex
 refine⟨_,fo (E:=E0) F hr hg hm hk hb .nil ED (aY ho ht he) Cr he Bb,λZ F σ H env P Q K hf kk=>?_⟩
 obtain⟨h0,hf⟩:=hf
 obtain⟨w,hw⟩:∃v,σ[i]?=some (some v):=by
  cases e:env[i]? with
  |none=>rw[e]at h0;cases h0
  |some w=>
   cases w with
   |none=>rw[e]at h0;cases h0
   |some s=>
    obtain⟨fp,L⟩:=K.sl
    obtain⟨v,hv,_⟩:=L.at' i s e
    exact⟨v,hv⟩
 refine⟨w,hw,kt Z F σ H env _ _ K hf λxs e1 vs F1 H1 p hl s1 K1 r1=>?_⟩
 show Ic (md ob X) n DO ((w::vs)++[]) H1 Q E0
 rw[abN]
 have fin:∀(kd:Nat) (c:PV),kd=2\/kd=4->e1[i]?=some (some ⟨kd,c⟩)->DO c xs (λr c'=>P r (e1.set i (some ⟨kd,c'⟩)))->Ic (md ob X) n DO (w::vs) H1 Q E0:=λkd c I0 ei p=>by
  obtain⟨fp,L⟩:=K1.sl
  obtain⟨v0,Eo,ok⟩:=L.at' i _ ei
  rw[hw]at Eo;cases Eo
  rcases ok with ⟨k0,_⟩|⟨k0,_⟩|⟨_,a,rfl,_,ho⟩|⟨k0,_⟩
  .rcases I0 with rfl|rfl<;>cases k0
  .rcases I0 with rfl|rfl<;>cases k0
  .refine⟨F1,a,fp i,c,vs,xs,_,rfl,K1.sF,r1,by rw[hl];exact hn,ho,λb hb=>L.al i b hb,p,λr c' v F' H' l' pr kp pre sF ID nw CM GJ IX rv=>?_⟩
   exact kk r _ v F' H' pr (ah s1 sF) (K1.II I0 L ei hw kp pre sF ID nw CM GJ IX).1 rv
  .rcases I0 with rfl|rfl<;>cases k0
 split at p
 .rename_i ei;exact fin _ _ (.inl rfl) ei p
 .rename_i ei;exact fin _ _ (.inr rfl) ei p
 .exact p.elim
theorem aP{D':Fd}(F:zf P w K mg base Ak k Bh fd ps (Hl ⟨P,w,K,ob⟩ n D))(h:∀xs P,D' xs P->D xs P):zf P w K mg base Ak k Bh fd ps (Hl ⟨P,w,K,ob⟩ n D') :=
 F.imp λvs H Q E ⟨F,xs,P,a,b,c,d,e⟩=>⟨F,xs,P,a,b,c,h _ _ d,e⟩
theorem ig{D D':CV}(F:zf P w K mg base Ak k Bh fd ps (Ic ⟨P,w,K,ob⟩ n D))(h:∀c xs P,D' c xs P->D c xs P):zf P w K mg base Ak k Bh fd ps (Ic ⟨P,w,K,ob⟩ n D') :=
 F.imp λvs H Q E q=>by
  obtain⟨F,a,l,c,ws,xs,P,a1,a2,a3,a4,a5,a6,a7,a8⟩:=q
  exact⟨F,a,l,c,ws,xs,P,a1,a2,a3,a4,a5,a6,h _ _ _ a7,a8⟩
theorem JJ(r:zy k A):A.units+1<cLine:=by have:=r.un;omega
theorem AF(r:zy k A):A.units<cLine:=by have:=r.un;omega
theorem Bq(r:zy k A):A.units+60<cLine:=by have:=r.un;omega
theorem A4(r:zy k A):A.units+62<cLine:=by have:=r.un;omega
def J6:PV->Option String
 |.oR=>some "NoneType"
 |.bl _=>some "bool"
 |.int _=>some "int"
 |.str _=>some "str"
 |.tup _=>some "tuple"
 |.lst _=>some "list"
 |.zB _=>some "dict"
 |_=>none
def GD(T c:String):Bool:=T==c || (T == "bool" && c == "int")
def HG(c:String)(x:PV):Option PV:=(J6 x).map λT=>.bl (GD T c)
def GU(c:String)(a:WE):WE:=JM (HG c) a
theorem xQ{x:PV}{T:String}(h:J6 x=some T)(c:String)(hc:c = "str" \/ c = "tuple" \/ c = "int" \/ c = "bool" \/ c = "list" \/ c = "dict"):aeg K (.type T) (.type c)=some (GD T c):=by
 cases x<;>cases h<;>rcases hc with rfl|rfl|rfl|rfl|rfl|rfl<;>rfl
def JA(K:aag)(cl:String):List V->Hp->VK->Prop:=λxs H Q=>MO K xs H Q\/∃p vs,xs=[.ref p,.ty cl]/\zW K H p vs/\aeg K (.type "tuple") (.type cl)=some (GD "tuple" cl)/\Q (.bl (GD "tuple" cl)) H
theorem yu{cl:String}:zg X (.builtin "isinstance") (JA X.K cl):=by
 refine zg.or uG ?_
 intro pins s σ H xs us Q I r h
 obtain⟨p,vs,rfl,hp,hk,q⟩:=h
 cases r with
 |cons r1 r2=>
  cases r2 with
  |cons r2 r3=>
   cases r3
   cases r2
   cases r1
   obtain⟨eQ,_,⟨o,h1,h2,_⟩,_⟩:=I.tuple hp
   exact abD PySem.W.kitx_tuple I.Ea ⟨o,h1,h2⟩ hk (λz=>nomatch z) λtk=>⟨.bl _,H,I.tok tk,rfl,q⟩
theorem jQ(cl:String){T:Str}(hc:cl = "str" \/ cl = "tuple" \/ cl = "int" \/ cl = "bool" \/ cl = "list" \/ cl = "dict")(hm:X.mg "isinstance" = none)(hT:X.mg T=none)(hb:aco T=some (.type cl))(ha:C7 ob X a f)(hg:Gl X "isinstance" :=by rfl)(Ue:Gl X T:=by rfl)(hn:T ≠ "__name__" :=by decide)(Cr:(T==("__debug__" : Str))=false:=by decide)
  (he:aam [a,.Name T p1] X.env=(false,eval a X.env)::aam [.Name T p1] X.env:=by rfl) (Uj:aam [.Name T p1] X.env=(false,eval (.Name T p1) X.env)::aam [] X.env:=by rfl) (Bb:(backTo pos (aam [.Name T p1] X.env)).any (·.1)=false:=by rfl) :
  zq ob X (.Call (.Name "isinstance" p) [a,.Name T p1] [] pos) (GU cl f):=by
 obtain⟨t,ht,k⟩:=ha.ex
 refine⟨_,ci (yu (cl:=cl)) hg hm boot_isinstance (aY ht (aY (vp (v:=.ty cl) Ue hT hb rfl hn Cr) bn Uj) he) (by decide) (by decide) he Bb,λZ F σ H env P Q K hf kk=>k Z F σ H env _ _ K hf λx e1 v F1 H1 p s1 K1 r1=>?_⟩
 obtain⟨z,hz,p⟩:=p
 unfold HG at hz
 rw[aat]at hz
 obtain⟨T',OO,rfl⟩:=hz
 have fin:∀w,Rep X.K F1 w (.bl (GD T' cl))->Q w H1:=λw r=>kk _ e1 _ F1 H1 p s1 K1 r
 have q:=fin _ (.bl _)
 have kt:=xQ (K:=X.K) OO cl hc
 show JA X.K cl [v,.ty cl] H1 Q
 cases x<;>cases OO
 .rw[r1.oR];exact .inl ⟨_,_,_,_,rfl,.oR,kt,q⟩
 .rw[r1.bl];exact .inl ⟨_,_,_,_,rfl,.bl _,kt,q⟩
 .rw[r1.int];exact .inl ⟨_,_,_,_,rfl,.int _,kt,q⟩
 .rw[r1.str];exact .inl ⟨_,_,_,_,rfl,.str _,kt,q⟩
 .obtain⟨q',vs,rfl,h1,h2⟩:=r1.tup K1.sF
  exact .inr ⟨q',vs,rfl,h1,kt,q⟩
 .obtain⟨q',vs,rfl,h1,h2⟩:=r1.lst K1.sF
  exact .inl ⟨_,_,_,_,rfl,.lst h1,kt,q⟩
 .obtain⟨q',vs,rfl,h1,h2⟩:=r1.zB K1.sF
  exact .inl ⟨_,_,_,_,rfl,.dK h1,kt,q⟩
def Cz(o o':PV->PV->Option PV)(fa fb fc:WE):WE:=λenv P=>fa env λx e1=>fb e1 λy e2=>opt (o x y) λz=>opt (CC z) λk=>if k=true then fc e2 λw e3=>opt (o' y w) λz'=>P z' e3 else P (.bl false) e2
theorem wG(hm:∃t,X.mg x=some (.int i t))(hg:Gl X x:=by rfl)(hd:(x==("__debug__" : Str))=false:=by decide):zq ob X (.Name x pos) (eC (.int i)):=by
 obtain⟨t,hm⟩:=hm
 exact dU (vk (v:=.int i) hg hm ⟨t,rfl⟩ hd) λ_=>.int i
variable{o':PV->PV->Option PV}{tb:TE}
theorem lN{o:PV->PV->Option PV}{r:R2}{ta tc:TE}(hq:Ce ob X r o)(Nr:Ce ob X r' o')
  (ka:∀(Z:Zn) (F:Hp) (σ:L2.St) (H:Hp) (env:En) (P:PV->En->Prop) (Q:VK),tO (md ob X) Z F σ H env->f env P->(∀x dO v F' H',P x dO->bY F F'->tO (md ob X) Z F' σ H' dO->Rep X.K F' v x->Q v H')->ta σ H Q)
  (kb:∀(Z:Zn) (F:Hp) (σ:L2.St) (H:Hp) (env:En) (P:PV->En->Prop) (Q:VK),tO (md ob X) Z F σ H env->g env P->(∀x dO v F' H',P x dO->bY F F'->tO (md ob X) Z F' σ H' dO->Rep X.K F' v x->Q v H')->tb σ H Q)
  (kc:∀(Z:Zn) (F:Hp) (σ:L2.St) (H:Hp) (env:En) (P:PV->En->Prop) (Q:VK),tO (md ob X) Z F σ H env->h env P->(∀x dO v F' H',P x dO->bY F F'->tO (md ob X) Z F' σ H' dO->Rep X.K F' v x->Q v H')->tc σ H Q) :
  ∀(Z:Zn) (F:Hp) (σ:L2.St) (H:Hp) (env:En) (P:PV->En->Prop) (Q:VK),tO (md ob X) Z F σ H env->Cz o o' f g h env P->(∀x dO v F' H',P x dO->bY F F'->tO (md ob X) Z F' σ H' dO->Rep X.K F' v x->Q v H')->Fe r r' ta tb tc σ H Q:=by
 intro Z F σ H env P Q K hf kk
 refine ka Z F σ H env _ _ K hf λx e1 v F1 H1 p s1 K1 r1=>kb Z F1 σ H1 e1 _ _ K1 p λy e2 u F2 H2 p2 s2 K2 r2=>?_
 obtain⟨z,hz,k,hk,p2⟩:=p2
 refine hq Z F2 σ H2 e2 v u x y z _ K2 (.inl (r1.mono s2)) (.inl r2) hz λv' F3 H3 s3 K3 r3=>?_
 obtain⟨rfl,rfl⟩:=kX r3 hk
 refine⟨k,rfl,?_⟩
 cases k with
 |true=>
  refine Dn (kc Z F3 σ H3 e2 _ _ K3 p2 λw e4 w' F4 H4 p4 s4 K4 r4=>?_)
  obtain⟨z',TC,p4⟩:=p4
  exact Nr Z F4 σ H4 e4 u w' y w z' Q K4 (.inl ((r2.mono s3).mono s4)) (.inl r4) TC λv5 F5 H5 s5 K5 r5=>kk z' e4 v5 F5 H5 p4 (ah s1 (ah s2 (ah s3 (ah s4 s5)))) K5 r5
 |false=>exact C1 (kk _ e2 _ F3 H3 p2 (ah s1 (ah s2 s3)) K3 (.bl _))
theorem ur{Fo:CmpOp}{o:PV->PV->Option PV}{r:R2}(ho:zH X (aaE op) r)(hq:Ce ob X r o)(CM:zH X (aaE Fo) r')(Nr:Ce ob X r' o')(ha:zq ob X a f)(hb:zq ob X b g)(hc:zq ob X c h)
  (hm:lastMarks [op,Fo] [b,c]=false:=by with_unfolding_all rfl):zq ob X (.Compare a [op,Fo] [b,c] pos) (Cz o o' f g h):=by
 obtain⟨ta,ha,ka⟩:=ha.ex
 obtain⟨tb,hb,kb⟩:=hb.ex
 obtain⟨tc,hc,kc⟩:=hc.ex
 exact⟨_,tM ho CM ha hb hc hm,lN hq Nr ka kb kc⟩
theorem uA{Fo:CmpOp}{o:PV->PV->Option PV}{r:R2}(ho:zH X (aaE op) r)(hq:Ce ob X r o)(CM:zH X (aaE Fo) r')(Nr:Ce ob X r' o')(ha:zq ob X a f)(hb:zq ob X b g)(hc:zq ob X c h)
  (hm:lastMarks [op,Fo] [b,c]=false:=by with_unfolding_all rfl):E7 ob X (.Compare a [op,Fo] [b,c] pos) (yZ (Cz o o' f g h)):=by
 obtain⟨ta,ha,ka⟩:=ha.ex
 obtain⟨tb,hb,kb⟩:=hb.ex
 obtain⟨tc,hc,kc⟩:=hc.ex
 refine⟨_,tF ho CM ha hb hc hm,λZ F σ H env P Q K hf k=>lN hq Nr ka kb kc Z F σ H env _ _ K hf λx e1 v F1 H1 p s1 K1 r1=>?_⟩
 obtain⟨z,hz,p⟩:=p
 cases x<;>try (cases hz)
 cases r1
 exact⟨_,rfl,k _ e1 F1 H1 p s1 K1⟩
variable{c:WT}
theorem tO.Mt{v:V}{x:PV}{i:Nat}(K:tO M Z F (σ++[some v]) H (env++[some ⟨1,x⟩]))(hx:∀xs,x≠.set xs):∃F',bY F F'/\tO M Z F' (σ.set i (some v)) H (env.set i (some ⟨0,x⟩)):=by
 obtain⟨F',s,K',r⟩:=K.Gh hx
 exact⟨F',s,K'.put r⟩
theorem yg(i:Nat){y:Str}(hN:X.N.Nodup)(hy:X.N[i]?=some y)(hk:X.env.scope.names.lookup y=some .local)(hi:G1 ob X tg iter fi)(hg:∀C s₀ H₀ ex pn,PG (yT X scope N C s₀ H₀ ex pn) tg (E5 X.K T))(ht:∀C s₀ H₀ ex pn,Mn ob (yT X scope N C s₀ H₀ ex pn) ifs c)(he:∀C s₀ H₀ ex pn,zq ob (yT X scope N C s₀ H₀ ex pn) elt f)
  (hj:EM js=true:=by rfl) (hT:BP js T=true:=by rfl)
  (HK:acl (.ListComp elt [⟨tg,iter,ifs,0⟩] scope pos) (some (.Name y py)) Ac.line X.env=pure true:=by rfl)
  (hc:X.calm=true:=by rfl) (hx:X.xe=(λ_ _=>False):=by rfl) (Cg:Cm X.env scope=true:=by rfl) (zV:AI X.N scope N js=true:=by rfl) (zo:scope.kind=.function:=by rfl) (hs:∀x,aa4 iter X.env x=pure x:=by intro _;rfl) :
  DD ob X (.Assign [.Name y py] (.ListComp elt [⟨tg,iter,ifs,0⟩] scope pos) Ac) (zv i (DC fi T c f js)):=by
 obtain⟨wi,HJ,k⟩:=hi.ex
 refine⟨_,yA (i:=i) (wi:=wi) (g:=E5 X.K T) (tc:=Ky (md ob X) c) (te:=Ie (md ob X) f) (js:=js) hN hy hk HJ hg (λC s₀ H₀ ex pn=>(ht C s₀ H₀ ex pn).ex) (λC s₀ H₀ ex pn=>(he C s₀ H₀ ex pn).pe) (cK hT) HK hc hx Cg zV zo hs,λZ F σ H env P D K hf L=>?_⟩
 refine k Z F σ H env _ _ K hf λxs e1 J F1 H1 p s1 K1 I1 l hl=>?_
 refine pf (P:=λx e=>P.nx (e.set i (some ⟨0,x⟩))) (Q:=λv H'=>D.nx (σ.set i (some v)) H') hj hT K1 I1 p (λx e2 v F2 H2 p2 s2 LV K2=>?_) l hl
 obtain⟨F3,s3,K3⟩:=K2.Mt (i:=i) LV
 exact L.nx _ _ F3 H2 p2 (ah s1 (ah s2 s3)) K3
def Hr(a:WE):WS:=λP env=>a env P.rf
variable{c:Expr}
theorem wE(h:Ha ob X e f):DD ob X (.Return (some e) pos) (Hr f):=by
 obtain⟨t,ht,k⟩:=h.ex
 exact⟨_,fm ht,λZ F σ H env P D K hf L=>k Z F σ H env _ _ K hf λx e1 v F1 H1 p s1 hx K1=>L.rf x e1 v σ F1 H1 p s1 hx K1⟩
def LO(M:Md)(n:Nat)(D:Fd):Sp:=λvs H Q _=>∃(F:Hp) (xs:List PV) (P:PV->Prop),bY F H/\nE M.K F vs xs/\xs.length=n/\D xs P /\
 ∀r a F' H',P r->bY H H'->bY F F'->bY F' H'->(∀a,F' a≠none->F a≠none\/H a=none)->(∀xs,r≠.set xs)->AJ M F' H' a r->F' a=none->H a=none->Q (.ref a) H'
def Lu(P:PV->Prop):Wd:={nx:=λ_=>False,rt:=λ_ _=>False,rf:=λx _=>P x}
def IE(n:Nat)(u:WS):Fd:=λxs P=>u (Lu P) (zF n xs)
theorem uf{v:V}{x:PV}(K:tO M Z F (σ++[some v]) H (env++[some ⟨1,x⟩])):∃a fp,v=.ref a/\AJ M F H a x/\F a=none/\Z.H₀ a=none/\Slots M Z F σ H env fp/\∀i,i<env.length->a∉fp i:=by
 have hn:env.length=σ.length:=by have:=K.len;simpa using this
 obtain⟨fp,L⟩:=K.sl
 rcases L.last hn with ⟨e,_⟩|⟨_,a,rfl,hf,h0,hw⟩|⟨e,_⟩|⟨e,_⟩
 .cases e
 .have ha:=L.al env.length a (by rw[hf];simp)
  exact⟨a,fp,rfl,hw,ha.2,h0,L.drop hn,λi hi z=>L.dj env.length i a (by omega) (by rw[hf];simp) z⟩
 .rcases e with e|e<;>cases e
 .cases e
theorem yc{f:Addr}(F:FP K x qual st f fd)(S:aA N ps (aq st))(hn:ps.length<=N.length)
  (hb:∀(zr:Value) (A:Around) (outer:List Env) (s:Shared) (H:Hp) (E:XK),zy k (A.deeper (envOfC qual (aq st) s.heap.objs.size f zr))->CG ob (C2 Ak P w K mg base N qual (aq st) f zr A outer s H E).Hz (bh st) u) :
  zf P w K mg base Ak (k+1) f fd ps (LO ⟨P,w,K,ob⟩ ps.length (IE N.length u)):=by
 refine F.ok S (λvs H Q E h=>?_) (λzr A outer s H vs Q E hr h=>?_)
 .obtain⟨F,xs,P,_,r,hl,_⟩:=h
  rw[r.len];exact hl
 .obtain⟨F,xs,P',sF,r,hl,hD,kk⟩:=h
  obtain⟨t,ht,kt⟩:=(hb zr A outer s H E hr).ex
  refine⟨t,ht,kt ⟨H,F,[],λ_=>none,λ_ h=>by simp at h⟩ F (start N vs) H (zF N.length xs) (Lu P') _ (gG (M:=⟨P,w,K,ob⟩) sF r (by omega)) hD ⟨λ_ _ _ _ p=>p.elim,λ_ _ _ _ _ _ p=>p.elim,λ_ _ _ _ p=>p.elim,λ_ _ _ _ p=>p.elim,λx env v σ F' H' p s1 hx K1=>?_,λ_ _ _ _ _ _ _ p=>p.elim⟩⟩
  obtain⟨a,fp,rfl,h1,h2,h3,_⟩:=uf K1
  exact kk x a F' H' p (λb o h=>K1.sG b o h (by simp)) s1 K1.sF K1.nw hx h1 h2 h3
theorem uy(F:zf X.prog X.w X.K X.mg X.base Ak k Bh fd ps (LO (md ob X) n D))(hr:zy k X.A)(hm:X.mg x=some (.ref Bh))(hk:abU X.K (.ref Bh)=true)(hb:Binds X.K fd ps [])(ha:Et ob X (e::es) fa)(hn:es.length+1=n:=by rfl)(hg:Gl X x:=by rfl)
  (Cr:(x==("__debug__" : Str))=false:=by decide) (he:aam (e::es) X.env=(false,eval e X.env)::aam es X.env:=by rfl) (Bb:(backTo pos (aam es X.env)).any (·.1)=false:=by rfl) :
  Ha ob X (.Call (.Name x p) (e::es) [] pos) (zc D fa):=by
 obtain⟨t,ht,kt⟩:=ha.ex
 refine⟨_,fo (E:=E0) F hr hg hm hk hb .nil ED ht Cr he Bb,λZ F σ H env P Q K hf kk=>kt Z F σ H env _ _ K hf λxs e1 vs F1 H1 p hl s1 K1 r1=>?_⟩
 rw[abN]
 refine⟨F1,xs,λr=>P r e1,K1.sF,r1,by rw[hl];exact hn,p,λr a F' H' pr sH sF ID nw hx ho hF ha=>?_⟩
 refine kk r e1 _ F' H' pr (ah s1 sF) hx ?_
 have K2:=K1.move sF ID sH nw
 obtain⟨fp,L⟩:=K1.sl
 have L2:Slots (md ob X) Z F' σ H' e1 fp:=L.move sF (λ_ c o _ e=>sH c o e) nw
 refine K2.slots (by simp[K2.len]) (L2.push (l:=[a]) (by simp) K2.len (.inr (.inl ⟨rfl,a,rfl,rfl,K1.h0 ha,ho⟩)) (λb hb=>?_) λj b hb hj=>?_)
 .simp at hb;subst hb
  refine⟨?_,hF⟩
  cases r<;>try exact ho.elim
  .obtain⟨vs,h,_⟩:=ho;rw[h];simp
  .obtain⟨vs,h,_⟩:=ho;rw[h];simp
  .rw[show H' _=_ from ho];simp
 .simp at hb;subst hb
  exact(L.al j b hj).1 ha
end Q
namespace L2
open PySem PySem.Spec PyProof.Rows PySem.W
def Aq(P:Addr)(ps:Array Value):HO:=.ext λh=>h.get? P=some (tabObj ps)
def Az(c:Addr)(lq:Str):HO:=.ext λh=>h.CodeRec (.ref c) lq
variable{P:aaH}{w:World}{H:Hp}{h:Heap}{a:Addr}
theorem my{ps:Array Value}(e:h.get? a=some (tabObj ps)):zi P w H h a (Aq a ps):=⟨e,⟨_,e⟩,λh1 h2 x k=>k _ x⟩
end L2
namespace Pre
open PySem L2
structure El(H:Hp)(a b:Addr):Prop where
 st:∃(ns:List Int) (z:Int),H a=some (.lst [.ref b,.int z])/\H b=some (.lst (ns.map V.int))/\(∀n∈ns,0<=n)/\0<=z/\z<2305843009213693951
def E4(a b:Addr)(H H':Hp):Prop:=∀c o,H c=some o->c≠a->c≠b->H' c=some o
theorem E4.refl(a b:Addr)(H:Hp):E4 a b H H:=λ_ _ h _ _=>h
variable{H:Hp}{a b:Addr}
theorem El.ne(s:El H a b):a≠b:=by
 obtain⟨ns,z,h1,h2,_⟩:=s.st
 refine qf h1 h2 λe=>?_
 injection e with e
 cases ns with
 |nil=>cases e
 |cons n r=>injection e with e _;cases e
variable{o:HO}
theorem El.grow{p:Addr}(s:El H a b)(hp:H p=none):El (upd H p o) a b:=by
 obtain⟨ns,z,h1,h2,h3⟩:=s.st
 exact⟨ns,z,by rw[ag (aw h1 hp)];exact h1,by rw[ag (aw h2 hp)];exact h2,h3⟩
variable{H':Hp}
theorem E4.grow{p:Addr}(x:E4 a b H H')(hp:H' p=none):E4 a b H (upd H' p o):=λc u h h1 h2=>by
 have q:=x c u h h1 h2
 rw[ag (aw q hp)];exact q
theorem E4.Kn(x:E4 a b H H'):E4 a b H (upd H' a o):=λc u h h1 h2=>by rw[ag h1];exact x c u h h1 h2
theorem E4.IB(x:E4 a b H H'):E4 a b H (upd H' b o):=λc u h h1 h2=>by rw[ag h2];exact x c u h h1 h2
theorem El.IB{ns:List Int}(s:El H a b)(hn:∀n∈ns,0<=n):El (upd H b (.lst (ns.map V.int))) a b:=by
 have hne:=s.ne
 obtain⟨_,z,h1,h2,_,h3⟩:=s.st
 exact⟨ns,z,by rw[ag hne];exact h1,ak,hn,h3⟩
theorem El.Kn{z:Int}(s:El H a b)(h0:0<=z)(h1:z<2305843009213693951):El (upd H a (.lst [.ref b,.int z])) a b:=by
 have hne:=s.ne
 obtain⟨ns,_,_,h2,h3,_⟩:=s.st
 exact⟨ns,z,ak,by rw[ag hne.symm];exact h2,h3,h0,h1⟩
def stK(b:Addr)(left seed many:Int):List (Key×V):=[(.inr (aaz "cells"),.ref b),(.inr (aaz "left"),.int left),(.inr (aaz "seed"),.int seed),(.inr (aaz "many"),.int many)]
structure Vi(H:Hp)(a b:Addr)(f:Nat):Prop where
 st:∃(ns:List Int) (left seed many:Int),H a=some (.dK (stK b left seed many))/\H b=some (.lst (ns.map V.int))/\0<=left/\0<=seed/\seed<2305843009213693951/\0<=many/\many+f<=1152921504606846976
def hU(K:aag):Sp:=λvs H Q _=>∃(s:Addr) (ns:List Int),vs=[.ref s]/\An K H s (ns.map V.int)/\ns.length<=63/\∀(a b:Addr) (H':Hp),H a=none->H b=none->El H' a b->bY H H'->Q (.ref a) H'
def Hm:Sp:=λvs H Q _=>∃(a b:Addr) (m:Int),vs=[.ref a,.int m]/\El H a b/\0<m/\m<1073741824/\∀(r:Int) (H':Hp),0<=r->r<m->El H' a b->E4 a b H H'->Q (.int r) H'
end Pre
namespace Q
open PySem L2 PyProof.Rows
def J0(K:aag)(F H:Hp)(a:Addr)(l:List Addr)(x:PV):Prop:=∃ks:List (Key×Addr×List PV),x=.zB (ks.map λt=>(t.1,.lst t.2.2))/\l=a::ks.map (·.2.1)/\H a=some (.dK (ks.map λt=>(t.1,.ref t.2.1))) /\
 (ks.map (·.2.1)).Nodup/\∀t∈ks,∃vs,H t.2.1=some (.lst vs)/\nE K F vs t.2.2
def zZ(lq:Str)(ln co:Nat)(P:Addr):PV:=.tup [.str lq,.int ln,.int co,.int (P:Nat)]
def TabAt(H:Hp)(a:Addr)(l:List Addr)(x:PV):Prop:=∃(lq:Str) (ln co:Nat) (ps:Array Value),x=zZ lq ln co a/\H a=some (Aq a ps)/\PySem.TriplesOk ps.toList /\
 ((l=[a]/\acQ ⟨ln,co,0,0⟩ ps.toList=none)\/∃c',c'≠a/\l=[a,c']/\acQ ⟨ln,co,0,0⟩ ps.toList=some (.ref c')/\H c'=some (Az c' lq))
def LB(H:Hp)(a:Addr)(l:List Addr)(x:PV):Prop:=∃(x1 x2:PV) (T2:Addr) (l1 l2:List Addr),x=.tup [x1,x2]/\l=l1++l2/\TabAt H a l1 x1/\TabAt H T2 l2 x2/\∀b∈l1,b∉l2
variable{H H':Hp}{a:Addr}{l:List Addr}{x:PV}
theorem TabAt.mono(h:TabAt H a l x)(e:∀b∈l,H' b=H b):TabAt H' a l x:=by
 obtain⟨lq,ln,co,ps,rfl,h1,h2,h3⟩:=h
 refine⟨lq,ln,co,ps,rfl,?_,h2,?_⟩
 .rcases h3 with ⟨rfl,_⟩|⟨c',_,rfl,_⟩
  .exact(e a (by simp)).trans h1
  .exact(e a (by simp)).trans h1
 .rcases h3 with ⟨rfl,h4⟩|⟨c',h4,rfl,h5,h6⟩
  .exact .inl ⟨rfl,h4⟩
  .exact .inr ⟨c',h4,rfl,h5,(e c' (by simp)).trans h6⟩
def NX(H:Hp)(a:Addr)(l:List Addr)(x:PV):Prop:=(x=.oR/\∃b,l=[a,b]/\Pre.El H a b)\/∃(f:Nat) (b:Addr),x=.int f/\l=[a,b]/\Pre.Vi H a b f
def A9(K:aag):Ap where
 P:=λF H a l x=>NX H a l x\/J0 K F H a l x\/TabAt H a l x\/LB H a l x
 mono:=λF F' H H' a l x h s e=>by
  rcases h with (⟨h0,b,rfl,ns,z,h1,h2,h3⟩|⟨f,b,h0,rfl,ns,q1,q2,q3,h1,h2,h3⟩)|⟨ks,rfl,rfl,h1,h2,h3⟩|ht|⟨x1,x2,T2,l1,l2,rfl,rfl,h1,h2,h3⟩
  .exact .inl (.inl ⟨h0,b,rfl,ns,z,(e a (by simp)).trans h1,(e b (by simp)).trans h2,h3⟩)
  .exact .inl (.inr ⟨f,b,h0,rfl,ns,q1,q2,q3,(e a (by simp)).trans h1,(e b (by simp)).trans h2,h3⟩)
  .refine .inr (.inl ⟨ks,rfl,rfl,(e a (by simp)).trans h1,h2,λt ht=>?_⟩)
   obtain⟨vs,q1,q2⟩:=h3 t ht
   exact⟨vs,(e _ (aan _ (aaX (f:=λt=>t.2.1) ht))).trans q1,q2.mono s⟩
  .exact .inr (.inr (.inl (ht.mono e)))
  .exact .inr (.inr (.inr ⟨x1,x2,T2,l1,l2,rfl,rfl,h1.mono λb hb=>e b (aaQ _ hb),h2.mono λb hb=>e b (aay _ hb),h3⟩))
def aH:CV:=λc xs P=>c=.oR/\∃m:Int,xs=[.int m]/\0<m/\m<1073741824/\∀r:Int,0<=r->r<m->P (.int r) .oR
variable{b:Addr}
theorem oM(s:Pre.El H a b):H a≠none/\H b≠none:=by
 obtain⟨ns,z,h1,h2,_⟩:=s.st
 exact⟨by rw[h1];simp,by rw[h2];simp⟩
variable{P:aaH}{w:World}{K:aag}{mg:Str->Option Value}{base:Heap}{k:Nat}{Bh:Addr}{fd:ab0}{ps:List Str}
theorem tZ(F:zf P w K mg base Ak k Bh fd ps Pre.Hm):zf P w K mg base Ak k Bh fd ps (Ic ⟨P,w,K,A9 K⟩ 2 aH):=by
 refine F.imp λvs H Q E h=>?_
 obtain⟨F,a,l,c,ws,xs,P',rfl,sF,r,hl,ho,hb,⟨rfl,m,rfl,m0,m1,hP⟩,kk⟩:=h
 obtain⟨b,rfl,S⟩:∃b,l=[a,b]/\Pre.El H a b:=by
  rcases ho with (⟨_,h⟩|⟨_,_,h,_⟩)|⟨ks,h,_⟩|⟨_,_,_,_,h,_⟩|⟨_,_,_,_,_,h,_⟩
  .exact h
  .cases h
  .cases h
  .cases h
  .cases h
 cases r with
 |cons r1 r2=>
  cases r2
  cases r1
  refine⟨a,b,m,rfl,S,m0,m1,λr H' r0 r1 S' hB=>?_⟩
  have two:=oM S'
  have keep:∀c o,H c=some o->c∉[a,b]->H' c=some o:=λc o h hn=>by
   simp at hn
   exact hB c o h hn.1 hn.2
  refine kk (.int r) .oR (.int r) F H' [a,b] (hP r r0 r1) keep (λc h=>?_) am (λc o h=>?_) (λc h=>.inl h) (.inl (.inl ⟨rfl,b,rfl,S'⟩)) (λc hc=>?_) (λc hc=>.inl hc) (.int r)
  .by_cases q:c∈[a,b]
   .simp at q
    rcases q with rfl|rfl
    .exact two.1
    .exact two.2
   .obtain⟨o,ho⟩:=b9 h
    rw[keep c o ho q];simp
  .refine keep c o (sF c o h) λq=>?_
   have:=(hb c q).2
   rw[h]at this;cases this
  .refine⟨?_,(hb c hc).2⟩
   simp at hc
   rcases hc with rfl|rfl
   .exact two.1
   .exact two.2
def AL(i j:Nat):WS:=λP env=>match env[j]? with
 |some (some ⟨0,x⟩)=>(∃ns:List Int,(x=.A3 ns\/x=.lst (ns.map .int))/\ns.length<=63)/\P.nx (env.set i (some ⟨4,.oR⟩))
 |_=>False
variable{F:Hp}{ns:List Int}{vs:List V}
theorem mF(h:nE K F vs (ns.map PV.int)):vs=ns.map V.int:=by
 induction ns generalizing vs with
 |nil=>cases h;rfl
 |cons n ns ih=>cases h with
  |cons a r=>cases a;exact congrArg (List.cons _) (ih r)
variable{X:Cx}{x y:Str}{p p1 pos pos':Pos}
theorem uk(i j:Nat)(hN:X.N.Nodup)(hi:X.N[i]?=some y)(hx:Loc X.env.scope y)(F:zf X.prog X.w X.K X.mg X.base Ak k Bh fd ps (Pre.hU X.K))(hr:zy k X.A)(hm:X.mg "_law_begin" = some (.ref Bh))(hk:abU X.K (.ref Bh)=true)(hb:Binds X.K fd ps [])(ho:PE X (.Name x p1) (zK j))
  (hg:Gl X "_law_begin" :=by rfl) (he:aam [.Name x p1] X.env=(false,eval (.Name x p1) X.env)::aam [] X.env:=by rfl) (Bb:(backTo pos (aam [] X.env)).any (·.1)=false:=by rfl)
  {Ac:Pos} (hs:acl (.Call (.Name "_law_begin" p) [.Name x p1] [] pos) (some (.Name y pos')) Ac.line X.env=pure false:=by rfl) (hf:X.fn y=true\/X.env.scope.names.lookup y=some .local:=by first|exact .inl rfl|exact .inr rfl|assumption) :
  DD (A9 X.K) X (.Assign [.Name y pos'] (.Call (.Name "_law_begin" p) [.Name x p1] [] pos) Ac) (AL i j):=by
 refine⟨_,fj hN hi hx (fo (E:=E0) F hr hg hm hk hb .nil ED (aY ho bn he) (by decide) he Bb) hs hf,λZ F σ H env P D K hf L=>?_⟩
 unfold AL at hf
 split at hf
 .rename_i v ej
  obtain⟨⟨ns,hv,hn⟩,hp⟩:=hf
  obtain⟨w,hw,r⟩:=K.val ej
  obtain⟨s,rfl,hs⟩:∃s,w=.ref s/\An X.K H s (ns.map V.int):=by
   rcases hv with rfl|rfl
   .cases r with
    |A3 h=>exact⟨_,rfl,du K.sF h.sq⟩
   .cases r with
    |lst h1 h2=>
     have:=mF h2
     subst this
     exact⟨_,rfl,.inl (.inl (K.sF _ _ h1))⟩
  refine⟨_,hw,s,ns,rfl,hs,hn,λa b H' ha hb S sH=>?_⟩
  have Uy:F a=none:=bY.none_of K.sF ha
  have Ux:F b=none:=bY.none_of K.sF hb
  have K1:tO (md (A9 X.K) X) Z F σ H' env:=K.move am (ah K.sF sH) sH λ_ h=>.inl h
  obtain⟨fp,L0⟩:=K.sl
  have L1:Slots (md (A9 X.K) X) Z F σ H' env fp:=L0.move am (λ_ c o _ e=>sH c o e) λ_ h=>.inl h
  have two:=oM S
  refine L.nx _ _ F H' hp am ?_
  rcases aa7 i env.length with zT|Fz
  case inr=>
   rw[abu Fz,abu (by have:=K.len;omega)]
   exact K1
  refine K1.slots (by simp[K.len]) (L1.put (l:=[a,b]) (by simp) (by have:=K.len;omega) (.inr (.inr (.inl ⟨.inr rfl,a,rfl,λc hc=>.inr ?_,   .inl (.inl ⟨rfl,b,rfl,S⟩)⟩))) (λc hc=>?_) λj c _ hc hj=>?_)
  .simp at hc
   rcases hc with rfl|rfl
   .exact K.h0 ha
   .exact K.h0 hb
  .simp at hc
   rcases hc with rfl|rfl
   .exact⟨two.1,Uy⟩
   .exact⟨two.2,Ux⟩
  .have:=(L0.al j c hj).1
   simp at hc
   rcases hc with rfl|rfl
   .exact this ha
   .exact this hb
 .exact hf.elim
variable{M:Md}{Z:Zn}{σ:L2.St}{env:En}{p:Addr}{o:HO}
theorem wV:∀b∈Z.S,upd Z.H₀ p o b≠none:=λb hb=>by
 by_cases e:b=p
 .subst e;rw[ak];simp
 .rw[ag e];exact Z.sS b hb
def Zn.add(Z:Zn)(p:Addr)(o:HO):Zn:={Z with H₀:=upd Z.H₀ p o,sS:=wV}
theorem tO.guard(K:tO M Z F σ H env)(hp:H p=none):tO M (Z.add p o) F σ (upd H p o) env:=by
 have hF:F p=none:=bY.none_of K.sF hp
 have h0:Z.H₀ p=none:=K.h0 hp
 have hS:p∉Z.S:=λh=>Z.sS p h h0
 obtain⟨fp,L⟩:=K.sl
 have hn:∀i,p∉fp i:=λi h=>(L.al i p h).1 hp
 obtain⟨K1,L1⟩:=K.BX (o:=o) L hF h0 hn
 have ne:∀{c:Addr},Z.H₀ c=none->c≠p->(Z.add p o).H₀ c=none:=λ{c} h q=>by show upd Z.H₀ p o c=none;rw[ag q];exact h
 refine⟨K1.sF,λb u h1 h2=>?_,λb h=>?_,K1.gr,λa h=>?_,K1.len,fp,λi s e=>?_,L1.al,L1.dj,L1.oa⟩
 .by_cases q:b=p
  .subst q
   have h1:upd Z.H₀ b o b=some u:=h1
   rw[ak]at h1 ⊢;exact h1
  .have h1:upd Z.H₀ p o b=some u:=h1
   rw[ag q]at h1
   exact K1.sG b u h1 h2
 .by_cases q:b=p
  .subst q;rw[ak];simp
  .have h:upd Z.H₀ p o b≠none:=h
   rw[ag q]at h
   exact K1.pr b h
 .rcases K1.nw a h with q|q
  .exact .inl q
  .refine .inr (ne q λz=>?_)
   subst z;exact h hF
 .obtain⟨v,hv,ok⟩:=L1.at' i s e
  refine⟨v,hv,?_⟩
  rcases ok with k|⟨k,a,e1,e2,h1,h2⟩|⟨k,a,e1,h1,h2⟩|k
  .exact .inl k
  .exact .inr (.inl ⟨k,a,e1,e2,ne h1 λz=>hn i (by rw[e2,z];simp),h2⟩)
  .exact .inr (.inr (.inl ⟨k,a,e1,λc hc=>(h1 c hc).elim .inl λq=>.inr (ne q λz=>hn i (by rw[<- z];exact hc)),h2⟩))
  .exact .inr (.inr (.inr k))
theorem tO.FU(K:tO M (Z.add p o) F σ H env)(h0:Z.H₀ p=none)(Mg:Z.F₀ p=none):tO M Z F σ H env/\H p=some o/\F p=none/\∃fp,Slots M Z F σ H env fp/\∀i s,env[i]?=some (some s)->p∉fp i:=by
 have hS:p∉Z.S:=λh=>Z.sS p h h0
 have TZ:(Z.add p o).H₀ p=some o:=ak
 have back:∀{c:Addr},(Z.add p o).H₀ c=none->Z.H₀ c=none/\c≠p:=λ{c} h=>by
  have h:upd Z.H₀ p o c=none:=h
  by_cases q:c=p
  .subst q;rw[ak]at h;cases h
  .rw[ag q]at h;exact⟨h,q⟩
 have hF:F p=none:=by
  cases e:F p with
  |none=>rfl
  |some u=>
   rcases K.nw p (by rw[e];simp)with q|q
   .exact absurd Mg q
   .exact absurd rfl (back q).2
 obtain⟨fp,L⟩:=K.sl
 have S:Slots M Z F σ H env fp:=by
  refine⟨λi s e=>?_,L.al,L.dj,L.oa⟩
  obtain⟨v,hv,ok⟩:=L.at' i s e
  refine⟨v,hv,?_⟩
  rcases ok with k|⟨k,a,e1,e2,h1,h2⟩|⟨k,a,e1,h1,h2⟩|k
  .exact .inl k
  .exact .inr (.inl ⟨k,a,e1,e2,(back h1).1,h2⟩)
  .exact .inr (.inr (.inl ⟨k,a,e1,λc hc=>(h1 c hc).elim .inl λq=>.inr (back q).1,h2⟩))
  .exact .inr (.inr (.inr k))
 have up:∀{b:Addr} {u:HO},Z.H₀ b=some u->(Z.add p o).H₀ b=some u:=λ{b u} h=>by
  show upd Z.H₀ p o b=some u
  rw[ag (aw h h0)];exact h
 refine⟨⟨K.sF,λb u h1 h2=>K.sG b u (up h1) h2,λb h=>?_,K.gr,λa h=>?_,K.len,fp,S⟩,K.sG p o TZ hS,hF,fp,S,λi s e hi=>?_⟩
 .obtain⟨u,hu⟩:=b9 h
  exact K.pr b (by rw[up hu];simp)
 .rcases K.nw a h with q|q
  .exact .inl q
  .exact .inr (back q).1
 .obtain⟨v,hv,ok⟩:=L.at' i s e
  rcases ok.wr p hi with q|q
  .exact hS q
  .exact(back q).2 rfl
def tidy(env:En)(fp:Nat->List Addr)(i:Nat):List Addr:=match env[i]? with
 |some (some _)=>fp i
 |_=>[]
variable{fp:Nat->List Addr}
theorem Slots.tidy(L:Slots M Z F σ H env fp):Slots M Z F σ H env (Q.tidy env fp):=by
 have sub:∀i a,a∈Q.tidy env fp i->a∈fp i:=λi a h=>by
  unfold Q.tidy at h
  split at h
  .exact h
  .simp at h
 refine⟨λi s e=>?_,λi a h=>L.al i a (sub i a h),λi j a CN h z=>L.dj i j a CN (sub i a h) (sub j a z),L.oa⟩
 obtain⟨v,hv,ok⟩:=L.at' i s e
 exact⟨v,hv,by unfold Q.tidy;rw[e];exact ok⟩
theorem tO.Hg{o':HO}{x:PV}(K:tO M (Z.add p o) F σ H env)(h0:Z.H₀ p=none)(Mg:Z.F₀ p=none)(hx:AJ M F (upd H p o') p x):tO M Z F (σ++[some (.ref p)]) (upd H p o') (env++[some ⟨1,x⟩]):=by
 obtain⟨K1,hp,hF,fp,L,hn⟩:=K.FU h0 Mg
 have L1:=L.tidy
 have Se:∀i,p∉Q.tidy env fp i:=λi h=>by
  unfold Q.tidy at h
  split at h
  .rename_i s e;exact hn i s e h
  .simp at h
 obtain⟨K2,L2⟩:=K1.BX (o:=o') L1 hF h0 Se
 refine K2.slots (by simp[K2.len]) (L2.push (l:=[p]) (by simp) K2.len (.inr (.inl ⟨rfl,p,rfl,rfl,h0,hx⟩)) (λa ha=>?_) λj a ha=>?_)
 .simp at ha;subst ha
  exact⟨by rw[ak];simp,hF⟩
 .simp at ha;subst ha
  exact Se j
def JP:List (Key×PV)->List (Key×PV):=λkvs=>kvs.foldl (λacc kv=>Dh acc kv.1 kv.2) []
def Rl:List (WE×WE)->List (Key×PV)->WE
 |[],acc=>λenv P=>P (.zB (JP acc)) env
 |(fk,fv)::r,acc=>λenv P=>fk env λy e1=>fv e1 λv e2=>opt (B5 y) λk=>Rl r (acc++[(k,v)]) e2 P
def JN(l:List (WE×WE)):WE:=Rl l []
inductive DP (ob:Ap) (X:Cx):List (Option Expr)->List Expr->List (WE×WE)->Prop where
 |nil:DP ob X [] [] []
 |cons {k v:Expr} {ks:List (Option Expr)} {vs:List Expr} {fk fv:WE} {l:List (WE×WE)}:zq ob X k fk->zq ob X v fv->DP ob X ks vs l->DP ob X (some k::ks) (v::vs) ((fk,fv)::l)
theorem rJ{more:List (Key×V)}{mx:List (Key×PV)}{acc:List (Key×V)}{ax:List (Key×PV)}(h:yV K F more mx)(h2:yV K F acc ax):yV K F (Cq acc more) (mx.foldl (λacc kv=>Dh acc kv.1 kv.2) ax):=by
 induction h using yV.ind generalizing acc ax with
 |nil=>exact h2
 |cons a _ ih=>exact ih (h2.put a)
variable{ob:Ap}
variable{values:List Expr}
theorem DP.facts{keys:List (Option Expr)}{l:List (WE×WE)}(h:DP ob X keys values l):keys.all (·.isSome)=true/\keys.length=values.length:=by
 induction h with
 |nil=>exact⟨rfl,rfl⟩
 |cons _ _ _ ih=>exact⟨by simp[ih.1],by simp[ih.2]⟩
theorem DP.run{keys:List (Option Expr)}{l:List (WE×WE)}(h:DP ob X keys values l):∃FV,NY X pos keys values FV/\∀(Z:Zn) (F:Hp) (σ:L2.St) (H:Hp) (env:En) (P:PV->En->Prop) (acc:List (Key×PV)) (va:List (Key×V)) (Q:List (V×V)->Hp->Prop),tO (md ob X) Z F σ H env->yV X.K F va acc->Rl l acc env P ->
  (∀kvs vs dO F' H',P (.zB (JP kvs)) dO->bY F F'->tO (md ob X) Z F' σ H' dO->yV X.K F' (va++vs) kvs->vs.length=keys.length->Q (vs.map λkv=>(kV kv.1,kv.2)) H')->D3 FV σ H Q:=by
 induction h with
 |nil=>exact⟨[],vg,λZ F σ H env P acc va Q K ra hf kk=>kk acc [] env F H hf am K (by rw[abN];exact ra) rfl⟩
 |cons hk hv _ ih=>
  obtain⟨tk,LX,kk⟩:=hk.ex
  obtain⟨tv,Qv,kv⟩:=hv.ex
  obtain⟨FV,Qw,kr⟩:=ih
  refine⟨_,tG LX Qv Qw,λZ F σ H env P acc va Q K ra hf fin=>?_⟩
  refine kk Z F σ H env _ _ K hf λy e1 y' F1 H1 p1 s1 K1 r1=>kv Z F1 σ H1 e1 _ _ K1 p1 λv e2 v' F2 H2 p2 s2 K2 r2=>?_
  obtain⟨k,hk,p2⟩:=p2
  have hy:=fx hk (r1.mono s2)
  subst hy
  refine kr Z F2 σ H2 e2 P _ (va++[(k,v')]) _ K2 ((ra.mono (ah s1 s2)).app (.cons r2 .nil)) p2 λkvs vs e3 F3 H3 p3 s3 K3 r3 hl=>?_
  exact fin kvs ((k,v')::vs) e3 F3 H3 p3 (ah s1 (ah s2 s3)) K3 (by simpa using r3) (by simp[hl])
theorem wH{keys:List (Option Expr)}{l:List (WE×WE)}(h:DP ob X keys values l)(h0:keys≠[]:=by simp)(Q9:keys.length<=15:=by decide):Ha ob X (.Dict keys values pos) (JN l):=by
 obtain⟨FV,Qw,kr⟩:=h.run (pos:=pos)
 obtain⟨ha,hl⟩:=h.facts
 refine⟨_,vm Qw ha hl h0 Q9,λZ F σ H env P Q K hf kk p hp=>?_⟩
 refine kr (Z.add p (.dK [])) F σ _ env P [] [] _ (K.guard hp) .nil hf λkvs vs e1 F1 H1 p1 s1 K1 r1 Vy=>?_
 have h0:Z.H₀ p=none:=K.h0 hp
 have Mg:Z.F₀ p=none:=bY.none_of K.gr (bY.none_of K.sF hp)
 have hS:=(K1.FU h0 Mg).2.1
 refine⟨hS,vs,rfl,by omega,kk _ e1 _ F1 _ p1 s1 (λ_=>by simp) (K1.Hg h0 Mg ⟨_,ak,rJ (by simpa using r1) .nil⟩)⟩
variable{e:Expr}{f:WE}{p apos zS Ac:Pos}
def Dj(env:En):En:=env.map λo=>match o with
 |some ⟨0,x⟩=>some ⟨0,x⟩
 |_=>none
def Eu(F H:Hp):Zn:=⟨H,F,[],λ_=>none,λ_ h=>by simp at h⟩
variable{F':Hp}{dO:En}
theorem tO.pure(K:tO M Z F σ H env):tO M (Eu F H) F σ H (Dj env):=by
 refine⟨K.sF,λb o h _=>h,λb h=>h,am,λa h=>.inl h,by simp[Dj,K.len],λ_=>[],λi s e=>?_,λi a h=>by simp at h,λi j a _ h=>by simp at h,λi a s h=>by cases h⟩
 unfold Dj at e
 rw[aaj]at e
 cases ei:env[i]? with
 |none=>rw[ei]at e;cases e
 |some o=>
  rw[ei]at e
  have e:=aao e
  dsimp only at e
  split at e
  .cases e
   obtain⟨v,hv,r⟩:=K.val ei
   exact⟨v,hv,.inl ⟨rfl,rfl,r⟩⟩
  .cases e
theorem tO.Hf(K:tO M Z F σ H env)(K':tO M (Eu F H) F' σ H' dO):tO M Z F' σ H' env/\bY H H'/\∀fp,Slots M Z F σ H env fp->Slots M Z F' σ H' env fp:=by
 have sH:bY H H':=λb o h=>K'.sG b o h (by simp[Eu])
 have nw:∀a,F' a≠none->F a≠none\/H a=none:=K'.nw
 exact⟨K.move K'.gr K'.sF sH nw,sH,λfp L=>L.move K'.gr (λ_ c o _ e=>sH c o e) nw⟩
def kf(i:Nat)(it:WA):WS:=λP env=>it env λxs e=>∃ks,xs.mapM B5=some ks/\ks.Nodup/\ks.length<=1000/\P.nx (e.set i (some ⟨4,.zB (ks.map λk=>(k,.lst []))⟩))
def Gc(kvs:List (Key×PV))(k:Key):Option (List PV):=match AA kvs k with
 |some (.lst xs)=>some xs
 |_=>none
def DZ(kvs:List (Key×PV))(k:Key)(xs:List PV):List (Key×PV):=kvs.map λkv=>if kv.1=k then (k,.lst xs)else kv
def fg(i:Nat)(fk fv:WE):WS:=λP env=>match env[i]? with
 |some (some ⟨4,.zB kvs⟩)=>(kvs.map (·.1)).Nodup/\fk (Dj env) λy _=>opt (B5 y) λk=>opt (Gc kvs k) λxs=>fv (Dj env) λv _=>xs.length<=100000/\P.nx (env.set i (some ⟨4,.zB (DZ kvs k (xs++[v]))⟩))
 |_=>False
def j9(i:Nat):WS:=λP env=>match env[i]? with
 |some (some ⟨4,x⟩)=>P.ro x i env
 |_=>False
variable{α:Type}
theorem mX{β:Type}{f:α->Option β}{l:List α}{m:List β}(h:l.mapM f=some m)(i:Nat)(b:β)(hb:m[i]?=some b):∃a,l[i]?=some a/\f a=some b:=by
 obtain⟨hl,h2⟩:=bz h
 have hi:i<l.length:=by
  rw[<- hl]
  rcases aa7 i m.length with q|q
  .exact q
  .rw[aap q]at hb;cases hb
 obtain⟨b',e1,e2⟩:=h2 i l[i] (by simp[hi])
 rw[hb]at e1;cases e1
 exact⟨l[i],by simp[hi],e2⟩
variable{v:V}
theorem tD{kvs:List (Key×V)}{k:Key}(h:k∉kvs.map (·.1)):putK kvs k v=kvs++[(k,v)]:=by
 unfold putK
 rw[if_neg]
 intro z
 obtain⟨p,hp,e⟩:=List.any_eq_true.mp z
 exact h (List.mem_map.mpr ⟨p,hp,of_decide_eq_true e⟩)
variable{iter:Expr}{scope:Scope}{p2 p3:Pos}{fi:WA}{t:Str}
variable{py:Pos}
theorem sv(i:Nat)(hN:X.N.Nodup)(hy:X.N[i]?=some y)(hl:X.env.scope.names.lookup y=some .local)(hi:G1 (A9 X.K) X (.Name t p1) iter fi)(hg:∀C s₀ H₀ ex pn,PG (yT X scope [t] C s₀ H₀ ex pn) (.Name t p1) (AG 0))(hk:∀C s₀ H₀ ex pn,PE (yT X scope [t] C s₀ H₀ ex pn) (.Name t p2) (zK 0))
  (HK:acl (.DictComp (.Name t p2) (.List [] p3) [⟨.Name t p1,iter,[],0⟩] scope pos) (some (.Name y py)) Ac.line X.env=pure true:=by rfl)
  (hc:X.calm=true:=by rfl) (hx:X.xe=(λ_ _=>False):=by rfl) (Cg:Cm X.env scope=true:=by rfl) (zV:AI X.N scope [t] [none]=true:=by rfl) (zo:scope.kind=.function:=by rfl) (hs:∀x,aa4 iter X.env x=pure x:=by intro _;rfl) :
  DD (A9 X.K) X (.Assign [.Name y py] (.DictComp (.Name t p2) (.List [] p3) [⟨.Name t p1,iter,[],0⟩] scope pos) Ac) (kf i fi):=by
 obtain⟨wi,HJ,k⟩:=hi.ex
 refine⟨_,uP (i:=i) (wi:=wi) (g:=AG 0) (tc:=Kd) (tk:=zK 0) (te:=Kh Hk) (N:=[t]) (js:=[none]) hN hy hl HJ hg (λC s₀ H₀ ex pn=>qX) hk (λC s₀ H₀ ex pn=>gP bn) ic HK hc hx Cg zV zo hs,λZ F σ H env P D K hf L=>?_⟩
 refine k Z F σ H env _ _ K hf λxs e1 J F1 H1 pp s1 K1 I1 l hl=>?_
 obtain⟨ks,OH,OG,hlen,pp⟩:=pp
 obtain⟨VA,_⟩:=bz OH
 obtain⟨fp,L1⟩:=K1.sl
 have NA:Z.H₀ l=none:=K1.h0 hl
 refine⟨λj m ys H'=>m=xs.length - j/\j<=xs.length/\∃(as:List Addr) (F':Hp),bY F1 F'/\as.length=j/\ys=((ks.take j).zip as).map (λt=>(t.1,V.ref t.2))/\H' l=some (.dK ys)/\as.Nodup/\(∀a∈as,H' a=some (.lst [])/\(Z.H₀ a=none/\∀i,a∉fp i)/\F' a=none/\a≠l) /\
   tO (md (A9 X.K) X) Z F' σ H' e1/\Slots (md (A9 X.K) X) Z F' σ H' e1 fp/\F' l=none,?_,?_⟩
 .have hF:F1 l=none:=bY.none_of K1.sF hl
  have hn:∀i,l∉fp i:=λi h=>(L1.al i l h).1 hl
  obtain⟨K2,L2⟩:=K1.BX (o:=.dK []) L1 hF NA hn
  exact⟨_,rfl,aaN _,[],F1,am,rfl,by simp,ak,by simp,λa h=>by simp at h,K2,L2,hF⟩
 rintro j m ys H' ⟨rfl,hj,as,F',sF,NI,rfl,Ma,hand,has,K',L',Sv⟩
 by_cases zT:j<xs.length
 .have Sh:j<ks.length:=by omega
  obtain⟨h1,h2⟩:=I1.go Z j σ e1 F' H' xs[j] sF K' (by simp[zT])
  refine .inr ⟨h1,λv H3 yv=>?_⟩
  obtain⟨F3,s3,K3,r3,sH,nw⟩:=h2 v H3 yv
  obtain⟨a0,ea,ek⟩:=mX OH j ks[j] (by simp[Sh])
  rw[aab zT]at ea
  cases ea
  have hv:=fx ek r3
  subst hv
  have L3:Slots (md (A9 X.K) X) Z F3 σ H3 e1 fp:=L'.move s3 (λ_ c o _ e=>sH c o e) nw
  unfold AG Kd
  dsimp only
  rw[if_pos rfl]
  refine⟨_,rfl,aaN _,λq hq=>⟨ks[j],rfl,?_⟩⟩
  have Nz:l≠q:=aw (sH _ _ Ma) hq
  have IZ:(upd H3 q (.lst [])) l=some (.dK (((ks.take j).zip as).map λt=>(t.1,V.ref t.2))):=by rw[ag Nz];exact sH _ _ Ma
  have Qq:(((ks.take j).zip as).map λt=>((t.1:Key),V.ref t.2)).length=j:=by simp[NI];omega
  have nF:∀{b:Addr},F' b=none->H' b≠none->F3 b=none:=λ{b} q1 q2=>by
   cases e:F3 b with
   |none=>rfl
   |some o=>
    rcases nw b (by rw[e];simp)with z|z
    .exact absurd q1 z
    .exact absurd z q2
  have NL:F3 l=none:=nF Sv (by rw[Ma];simp)
  have NK:F3 q=none:=bY.none_of K3.sF hq
  have Sb:∀i,q∉fp i:=λi h=>(L3.al i q h).1 hq
  obtain⟨K4,L4⟩:=K3.BX (o:=.lst []) L3 NK (K3.h0 hq) Sb
  have QI:∀i,l∉fp i:=λi h=>(L1.al i l h).1 hl
  have Ri:putK (((ks.take j).zip as).map λt=>((t.1:Key),V.ref t.2)) ks[j] (.ref q)=((ks.take (j+1)).zip (as++[q])).map λt=>(t.1,V.ref t.2):=by
   rw[tD,acx,aab Sh]
   .rw[List.zip_append (by simp[NI];omega)]
    simp
   .intro z
    rw[aaw]at z
    obtain⟨⟨kk,aa⟩,hm,e⟩:=List.mem_map.mp z
    have QJ:=(adi hm).1
    have e:kk=ks[j]:=e
    subst e
    obtain⟨n,hn,en⟩:=List.mem_take_iff_getElem.mp QJ
    have:=(abP OG).mp en
    omega
  obtain⟨K5,L5⟩:=K4.BX (o:=.dK (putK (((ks.take j).zip as).map λt=>((t.1:Key),V.ref t.2)) ks[j] (.ref q))) L4 NL NA QI
  refine⟨IZ,by rw[Qq,aaG];omega,xs.length - (j+1),by omega,rfl,zT,as++[q],F3,ah sF s3,by simp[NI],Ri,ak,?_,λa ha=>?_,K5,L5,NL⟩
  .rw[acm]
   refine⟨hand,by simp,λa ha b hb z=>?_⟩
   simp at hb;subst hb;subst z
   have:=sH _ _ (has a ha).1
   rw[hq]at this;cases this
  .rcases List.mem_append.mp ha with ha|ha
   .obtain⟨q1,q2,q3,q4⟩:=has a ha
    have:a≠q:=aw (sH _ _ q1) hq
    exact⟨by rw[ag q4,ag this];exact sH _ _ q1,q2,nF q3 (by rw[q1];simp),q4⟩
   .simp at ha;subst ha
    exact⟨by rw[ag Nz.symm];exact ak,⟨K3.h0 hq,Sb⟩,NK,Nz.symm⟩
 .have e:j=xs.length:=by omega
  subst e
  refine .inl ⟨I1.stop Z _ σ e1 F' H' sF K' (aal _),L.nx _ _ F' H' pp (ah s1 sF) ?_⟩
  have QI:∀i,l∉fp i:=λi h=>(L1.al i l h).1 hl
  rcases aa7 i e1.length with T8|Fz
  case inr=>
   rw[abu Fz,abu (by have:=K'.len;omega)]
   exact K'
  have ht:ks.take xs.length=ks:=ac4 (by omega)
  rw[ht]at Ma
  refine K'.slots (by simp[K'.len]) (L'.put (l:=l::as) (by simp) (by have:=K'.len;omega) (.inr (.inr (.inl ⟨.inr rfl,l,rfl,λc hc=>.inr ?_,.inr (.inl ⟨(ks.zip as).map λt=>(t.1,t.2,[]),?_,?_,?_,?_,?_⟩)⟩))) (λc hc=>?_) λj c _ hc=>?_)
  .rcases List.mem_cons.mp hc with rfl|hc
   .exact NA
   .exact(has c hc).2.1.1
  .rw[aaw]
   have:(ks.map λk=>((k:Key),PV.lst []))=(ks.zip as).map ((λt:Key×Addr×List PV=>(t.1,PV.lst t.2.2)) ∘ λt=>(t.1,t.2,[])):=by
    have e1:(λt:Key×Addr×List PV=>(t.1,PV.lst t.2.2)) ∘ (λt:Key×Addr=>(t.1,t.2,[]))=(λk=>((k:Key),PV.lst [])) ∘ Prod.fst:=rfl
    rw[e1,<- aaw,List.map_fst_zip (by omega)]
   rw[this]
  .rw[aaw]
   have e1:(λt:Key×Addr×List PV=>t.2.1) ∘ (λt:Key×Addr=>(t.1,t.2,[]))=Prod.snd:=rfl
   rw[e1,ae2 (by omega)]
  .rw[aaw];exact Ma
  .rw[aaw]
   have e1:(λt:Key×Addr×List PV=>t.2.1) ∘ (λt:Key×Addr=>(t.1,t.2,[]))=Prod.snd:=rfl
   rw[e1,ae2 (by omega)];exact hand
  .intro t ht
   obtain⟨⟨kk,aa⟩,hm,rfl⟩:=List.mem_map.mp ht
   exact⟨[],(has aa (adi hm).2).1,.nil⟩
  .rcases List.mem_cons.mp hc with rfl|hc
   .exact⟨by rw[Ma];simp,Sv⟩
   .exact⟨by rw[(has c hc).1];simp,(has c hc).2.2.1⟩
  .rcases List.mem_cons.mp hc with rfl|hc
   .exact QI j
   .exact(has c hc).2.1.2 j
variable{px:Pos}
theorem sw(i:Nat){ke:Expr}{fk fv:WE}{ps:Pos}(hu:X.A.units+1<cLine)(ho:PE X (.Name x px) (zK i))(hk:zq (A9 X.K) X ke fk)(hv:zq (A9 X.K) X e fv)(Ii:Jm ke:=by exact λ_ _=>rfl)
  (Ay:acL (.Subscript (.Name x px) ke ps) "append" X.env (eval (.Subscript (.Name x px) ke ps) X.env)=eval (.Subscript (.Name x px) ke ps) X.env:=by rfl)
  (FA:((backTo zS (aam [e] X.env)).all (λx=>!x.1) && (ae8 zS (adO [] X.env)).all (λx=>x.1.isSome)
   && decide ([e].length+([]:List ad7).length+(if ([]:List ad7).isEmpty then 0 else 1)<30))=true:=by rfl)
  (Ax:(apos.endLine==zS.line)=true:=by rfl) (EN:aam [e] X.env=(false,eval e X.env)::aam [] X.env:=by rfl) (BR:(backTo zS (aam [] X.env)).any (·.1)=false:=by rfl)
  (hs:acl (.Call (.Attribute (.Subscript (.Name x px) ke ps) "append" apos) [e] [] zS) none Ac.line X.env=pure false:=by rfl) :
  DD (A9 X.K) X (.Expr (.Call (.Attribute (.Subscript (.Name x px) ke ps) "append" apos) [e] [] zS) Ac) (fg i fk fv):=by
 obtain⟨tk,LX,kk⟩:=hk.ex
 obtain⟨tv,Qv,kv⟩:=hv.ex
 refine⟨_,ko (qb acZ abt abr bx (vn hu ho LX Ii) (aY Qv bn EN) Ay FA Ax EN BR) hs,λZ F σ H env P D K hf L=>?_⟩
 unfold fg at hf
 split at hf
 case h_2=>exact hf.elim
 rename_i kvs ei
 obtain⟨OG,hf⟩:=hf
 obtain⟨fp,L0⟩:=K.sl
 obtain⟨w,hw,ok⟩:=L0.at' i _ ei
 obtain⟨a,rfl,hd⟩:∃a,w=.ref a/\J0 X.K F H a (fp i) (.zB kvs):=by
  rcases ok with ⟨k0,_⟩|⟨k0,_⟩|⟨_,a,e,_,h⟩|⟨k0,_⟩
  .cases k0
  .cases k0
  .rcases h with (⟨h,_⟩|⟨_,_,h,_⟩)|h|⟨_,_,_,_,h,_⟩|⟨_,_,_,_,_,h,_⟩
   .cases h
   .cases h
   .exact⟨a,e,h⟩
   .cases h
   .cases h
  .cases k0
 refine⟨_,hw,kk (Eu F H) F σ H (Dj env) _ _ K.pure hf λy e1 y' F1 H1 p1 s1 K1 r1=>?_⟩
 obtain⟨K2,ME,Uw⟩:=K.Hf K1
 obtain⟨k,HN,xs,OF,p1⟩:=p1
 have hy:=fx HN r1
 subst hy
 obtain⟨ks,NQ,e2,e3,e4,e5⟩:=hd
 cases NQ
 have IY:∃t∈ks,t.1=k/\t.2.2=xs:=by
  unfold Gc at OF
  split at OF
  .rename_i zs hz
   cases OF
   unfold AA at hz
   rw[aat]at hz
   obtain⟨kv,hf,hv⟩:=hz
   have hm:=afu hf
   have hp:=List.find?_some hf
   obtain⟨t,ht,rfl⟩:=List.mem_map.mp hm
   exact⟨t,ht,of_decide_eq_true hp,by injection hv⟩
  .cases OF
 obtain⟨t,ht,rfl,rfl⟩:=IY
 have OH:(ks.map (·.1)).Nodup:=by rw[aaw]at OG;exact OG
 have inj:∀t'∈ks,t'.1=t.1->t'=t:=λt' h' e=>by
  obtain⟨n,hn,rfl⟩:=List.mem_iff_getElem.mp ht
  obtain⟨n',IX,rfl⟩:=List.mem_iff_getElem.mp h'
  have:n'=n:=(abP (h₀:=by simpa using IX) (h₁:=by simpa using hn) OH).mp (by simpa using e)
  subst this;rfl
 have Fx:AK (ks.map λt=>(t.1,V.ref t.2.1)) t.1=some (.ref t.2.1):=by
  unfold AK
  rw[aat]
  cases hf:(ks.map λt=>(t.1,V.ref t.2.1)).find? λkv=>decide (kv.1=t.1)with
  |none=>
   have:=List.find?_eq_none.mp hf (t.1,V.ref t.2.1) (List.mem_map.mpr ⟨t,ht,rfl⟩)
   simp at this
  |some q=>
   have hm:=afu hf
   have hp:=List.find?_some hf
   obtain⟨t',IT,rfl⟩:=List.mem_map.mp hm
   have:=inj t' IT (of_decide_eq_true hp)
   subst this
   exact⟨_,rfl,rfl⟩
 obtain⟨LL,Eo,RR⟩:=e5 t ht
 refine⟨a,.ref t.2.1,rfl,by rw[<- Fx];exact Qj (ME _ _ e3),.inl ⟨rfl,LL,.inl (.inl (ME _ _ Eo))⟩,?_⟩
 refine kv (Eu F1 H1) F1 σ H1 (Dj env) _ _ K2.pure p1 λv VF v' F2 H2 p2 s2 K3 r2=>?_
 obtain⟨K4,PD,Uv⟩:=K2.Hf K3
 have L4:=Uv fp (Uw fp L0)
 have TK:=PD _ _ (ME _ _ Eo)
 have PH:=ah s1 s2
 refine⟨t.2.1,LL,v',rfl,rfl,TK,by rw[RR.len,aaG];have:=p2.1;omega,L.nx _ _ F2 _ p2.2 PH ?_⟩
 have Es:t.2.1∈fp i:=by rw[e2];exact aan _ (aaX (f:=λt=>t.2.1) ht)
 have P9:t.2.1≠a:=qf Eo e3 (by intro z;cases z)
 refine(K4.II (.inr rfl) L4 ei hw (l':=fp i) (F':=F2) (H':=upd H2 t.2.1 (.lst (LL++[v']))) (λb o h1 h2=>?_) (λb h=>?_) am (λb o h=>?_) (λb h=>.inl h) (.inr (.inl ⟨ks.map λt'=>if t'.1=t.1 then (t.1,t.2.1,t.2.2++[v])else t',?_,?_,?_,?_,?_⟩)) (λb hb=>?_) (λb hb=>.inl hb)).1
 .rw[ag λz:b=t.2.1=>h2 (by rw[z];exact Es)];exact h1
 .by_cases q:b=t.2.1
  .subst q;rw[ak];simp
  .rw[ag q];exact h
 .have:b≠t.2.1:=aw h (L4.al i _ Es).2
  rw[ag this];exact K4.sF b o h
 .unfold DZ
  rw[aaw,aaw]
  congr 1
  apply aa9
  intro t' _
  show (if t'.1=t.1 then (t.1,PV.lst (t.2.2++[v]))else (t'.1,PV.lst t'.2.2))=((if t'.1=t.1 then (t.1,t.2.1,t.2.2++[v])else t').1,PV.lst (if t'.1=t.1 then (t.1,t.2.1,t.2.2++[v])else t').2.2)
  split<;>rfl
 .rw[e2,aaw]
  congr 1
  apply aa9
  intro t' h'
  show t'.2.1=(if t'.1=t.1 then (t.1,t.2.1,t.2.2++[v])else t').2.1
  split
  .rename_i q;rw[inj t' h' q]
  .rfl
 .rw[ag P9.symm,PD _ _ (ME _ _ e3),aaw]
  congr 2
  apply aa9
  intro t' h'
  show (t'.1,V.ref t'.2.1)=((if t'.1=t.1 then (t.1,t.2.1,t.2.2++[v])else t').1,V.ref (if t'.1=t.1 then (t.1,t.2.1,t.2.2++[v])else t').2.1)
  split
  .rename_i q;rw[inj t' h' q]
  .rfl
 .rw[aaw]
  have:(ks.map ((λt=>t.2.1) ∘ λt'=>if t'.1=t.1 then (t.1,t.2.1,t.2.2++[v])else t'))=ks.map λt=>t.2.1:=by
   apply aa9
   intro t' h'
   show (if t'.1=t.1 then (t.1,t.2.1,t.2.2++[v])else t').2.1=t'.2.1
   split
   .rename_i q;rw[inj t' h' q]
   .rfl
  rw[this];exact e4
 .intro q hq
  obtain⟨t',h',rfl⟩:=List.mem_map.mp hq
  by_cases e:t'.1=t.1
  .rw[if_pos e]
   exact⟨_,ak,(RR.mono PH).app (.cons r2 .nil)⟩
  .rw[if_neg e]
   obtain⟨G4,q1,q2⟩:=e5 t' h'
   have hne:t'.2.1≠t.2.1:=λz=>by
    obtain⟨n,hn,rfl⟩:=List.mem_iff_getElem.mp ht
    obtain⟨n',IX,rfl⟩:=List.mem_iff_getElem.mp h'
    have:n'=n:=(abP (h₀:=by simpa using IX) (h₁:=by simpa using hn) e4).mp (by simpa using z)
    subst this;exact e rfl
   exact⟨G4,by rw[ag hne];exact PD _ _ (ME _ _ q1),q2.mono PH⟩
 .have:=L4.al i b hb
  refine⟨?_,this.2⟩
  by_cases q:b=t.2.1
  .subst q;rw[ak];simp
  .rw[ag q];exact this.1
theorem su(i:Nat)(ho:PE X (.Name x px) (zK i)):DD ob X (.Return (some (.Name x px)) Ac) (j9 i):=by
 refine⟨_,fm ho,λZ F σ H env P D K hf L=>?_⟩
 unfold j9 at hf
 split at hf
 case h_2=>exact hf.elim
 rename_i y ei
 obtain⟨fp,L0⟩:=K.sl
 obtain⟨w,hw,ok⟩:=L0.at' i _ ei
 exact⟨_,hw,L.ro _ i env w σ F H hf am K ei hw⟩
def JL(P:PV->Prop):Wd:={nx:=λ_=>P .oR,rt:=λx _=>P x,ro:=λx _ _=>(∃kvs,x=.zB kvs)/\P x}
def Jv(n:Nat)(u:WS):Fd:=λxs P=>u (JL P) (zF n xs)
variable{qual:Str}{st:Stmt}{N:List Str}{u:WS}
theorem yd{f:Addr}(F:FP K x qual st f fd)(S:aA N ps (aq st))(hn:ps.length<=N.length)
  (hb:∀(zr:Value) (A:Around) (outer:List Env) (s:Shared) (H:Hp) (E:XK),zy k (A.deeper (envOfC qual (aq st) s.heap.objs.size f zr))->CG (A9 K) (C2 Ak P w K mg base N qual (aq st) f zr A outer s H E).Hz (bh st) u) :
  zf P w K mg base Ak (k+1) f fd ps (Hl ⟨P,w,K,A9 K⟩ ps.length (Jv N.length u)):=by
 refine F.ok S (λvs H Q E h=>?_) (λzr A outer s H vs Q E hr h=>?_)
 .obtain⟨F,xs,P,_,r,hl,_⟩:=h
  rw[r.len];exact hl
 .obtain⟨F,xs,P',sF,r,hl,hD,kk⟩:=h
  obtain⟨t,ht,kt⟩:=(hb zr A outer s H E hr).ex
  refine⟨t,ht,kt ⟨H,F,[],λ_=>none,λ_ h=>by simp at h⟩ F (start N vs) H (zF N.length xs) (JL P') _ (gG (M:=⟨P,w,K,A9 K⟩) sF r (by omega)) hD ⟨λenv σ F' H' p s1 K1=>?_,λx env v σ F' H' p s1 K1 rv=>?_,λ_ _ _ _ p=>p.elim,λ_ _ _ _ p=>p.elim,λ_ _ _ _ _ _ p=>p.elim,λx i env v σ F' H' p s1 K1 ei hv=>?_⟩⟩
  .exact kk .oR .oR F' H' p (λb o h=>K1.sG b o h (by simp)) s1 K1.sF K1.nw .oR
  .exact kk x v F' H' p (λb o h=>K1.sG b o h (by simp)) s1 K1.sF K1.nw rv
  .obtain⟨LW,p⟩:=p
   obtain⟨fp,L⟩:=K1.sl
   obtain⟨v',JI,ok⟩:=L.at' i _ ei
   rw[hv]at JI;cases JI
   rcases ok with ⟨k0,_⟩|⟨k0,_⟩|⟨_,a,rfl,TJ,h⟩|⟨k0,_⟩
   .cases k0
   .cases k0
   .obtain⟨Vr,LW⟩:=LW
    rcases h with (⟨h,_⟩|⟨_,_,h,_⟩)|⟨ks,rfl,e2,e3,e4,e5⟩|⟨_,_,_,_,h,_⟩|⟨_,_,_,_,_,h,_⟩
    .rw[LW]at h;cases h
    .rw[LW]at h;cases h
    rotate_left
    .rw[LW]at h;cases h
    .rw[LW]at h;cases h
    .let F2:Hp:=λb=>if b∈fp i then H' b else F' b
     have RP:bY F' F2:=λb o hb=>by
      show (if b∈fp i then H' b else F' b)=some o
      split
      .exact K1.sF b o hb
      .exact hb
     have at2:∀b,b∈fp i->F2 b=H' b:=λb hb=>if_pos hb
     refine kk _ _ F2 H' p (λb o h=>K1.sG b o h (by simp)) (ah s1 RP) (λb o hb=>?_) (λb hb=>?_) ?_
     .have hb:(if b∈fp i then H' b else F' b)=some o:=hb
      split at hb
      .exact hb
      .exact K1.sF b o hb
     .have hb:(if b∈fp i then H' b else F' b)≠none:=hb
      split at hb
      .rename_i q
       rcases TJ b q with z|z
       .simp at z
       .exact .inr z
      .exact K1.nw b hb
     .have ha:F2 a=some (.dK (ks.map λt=>(t.1,V.ref t.2.1))):=by rw[at2 a (by rw[e2];simp)];exact e3
      refine .zB ha ?_
      have go:∀(l:List (Key×Addr×List PV)),(∀t∈l,t∈ks)->yV K F2 (l.map λt=>(t.1,V.ref t.2.1)) (l.map λt=>(t.1,PV.lst t.2.2)):=by
       intro l
       induction l with
       |nil=>intro _;exact .nil
       |cons t l ih=>
        intro hs
        obtain⟨G4,q1,q2⟩:=e5 t (hs t (by simp))
        refine .cons (.lst ?_ (q2.mono RP)) (ih λt' h'=>hs t' (aan _ h'))
        rw[at2 _ (by rw[e2];exact aan _ (aaX (f:=λt=>t.2.1) (hs t (by simp))))]
        exact q1
      exact go ks λ_ h=>h
   .cases k0
def FK(ss ts:List Str):Prop:=ts.Perm ss/\ts.Pairwise λa b=>¬ zD b a
def Dm:Key->Option Str
 |.inr s=>some s
 |.inl _=>none
def A7(fa:WA):WE:=λenv P=>fa env λxs e=>match xs with
 |[.lst ys]=>∃ss,ys.mapM A8=some ss/\ss.length<64/\∀ts,FK ss ts->P (.lst (ts.map .str)) e
 |[.zB kvs]=>∃ss,(kvs.map (·.1)).mapM Dm=some ss/\ss.length<64/\∀ts,FK ss ts->P (.lst (ts.map .str)) e
 |_=>False
theorem gL:∀(ss:List Str),nE K F (ss.map V.str) (ss.map PV.str)
 |[]=>.nil
 |s::ss=>.cons (.str s) (gL ss)
theorem jJ:∀{ks:List Key} {ss:List Str},ks.mapM Dm=some ss->ks=ss.map aas
 |[],ss,h=>by simp at h;subst h;rfl
 |k::ks,ss,h=>by
  rw[abo]at h
  cases ea:Dm k with
  |none=>rw[ea]at h;cases h
  |some a=>
   rw[ea]at h
   cases el:ks.mapM Dm with
   |none=>rw[el]at h;cases h
   |some bs=>
    rw[el]at h
    have h:some (a::bs)=some ss:=h
    cases h
    rw[jJ el,aar]
    cases k<;>cases ea
    rfl
variable{a b c:Expr}{es:List Expr}{g h:WE}{fa:WA}
theorem ga(hc:X.calm=true)(hg:Gl X "sorted")(hm:X.mg "sorted" = none)(ha:FQ ob X (e::es) fa)
  (he:aam (e::es) X.env=(false,eval e X.env)::aam es X.env:=by rfl) (Bb:(backTo pos (aam es X.env)).any (·.1)=false:=by rfl):Ha ob X (.Call (.Name "sorted" p) (e::es) [] pos) (A7 fa):=by
 obtain⟨t,ht,k⟩:=ha.ex
 refine⟨_,ci (zg.or qr (qu hc)) hg hm boot_sorted ht (by decide) (by decide) he Bb,λZ F σ H env P Q K hf kk=>k Z F σ H env _ _ K hf λxs e1 vs F1 H1 p s1 K1 r1=>?_⟩
 split at p
 .obtain⟨ss,hs,hl,p⟩:=p
  obtain⟨v,rfl,r⟩:=r1.one
  obtain⟨q,vs,rfl,h1,h2⟩:=r.lst K1.sF
  have:=cE j5 hs h2
  subst this
  exact .inl ⟨q,ss,rfl,.inl (.inl h1),hl,λl ts hn hp hw=>kk _ e1 _ F1 _ (p ts ⟨hp,hw⟩) s1 (λ_=>by simp) (K1.own hn ⟨_,ak,gL ts⟩)⟩
 .obtain⟨ss,hs,hl,p⟩:=p
  obtain⟨v,rfl,r⟩:=r1.one
  obtain⟨q,vs,rfl,h1,h2⟩:=r.zB K1.sF
  refine .inr ⟨q,vs,ss,rfl,h1,by rw[h2.keys];exact jJ hs,hl,λl ts hn hp hw=>kk _ e1 _ F1 _ (p ts ⟨hp,hw⟩) s1 (λ_=>by simp) (K1.own hn ⟨_,ak,gL ts⟩)⟩
 .exact p.elim
def Hw:PV->Option PV
 |.tup xs=>some (.tup xs.reverse)
 |_=>none
theorem yi{st:Expr}(he:zq ob X e f)(EN:PE X st (Pq (rU λi=>.int (-i)) (tC (.int 1)))):zq ob X (.Subscript e (.Slice none none (some st) p2) pos) (JM Hw f):=by
 obtain⟨t,ht,k⟩:=he.ex
 refine⟨_,xo ht EN,λZ F σ H env P Q K hf kk=>k Z F σ H env _ _ K hf λx e1 v F1 H1 p s1 K1 r1=>?_⟩
 obtain⟨z,hz,p⟩:=p
 refine⟨1,rfl,rfl,?_⟩
 unfold Hw at hz
 split at hz
 .cases hz
  obtain⟨q,vs,rfl,h1,h2⟩:=(r1.vw (M:=md ob X) (H:=H1)).tup K1.sF
  refine⟨q,vs,rfl,h1,λl hl=>?_⟩
  have hF:F1 l=none:=bY.none_of K1.sF hl
  exact kk _ e1 _ _ _ p (ah s1 (ay hF)) (K1.lay hl) (.tup (.inl (.inl ak)) (h2.rev.mono (ay hF)))
 .cases hz
theorem yB{j}:PE X (.UnaryOp .USub (.Constant (.int 1) j p1) p2) (Pq (rU λi=>.int (-i)) (tC (.int 1))):=uQ qE aE
end Q
namespace L2
open PySem PySem.Spec PyProof.Rows
variable{prog:aaH}{w:World}{A:Around}{E:Value->Shared->Prop}{s:Shared}
structure Vh(h:Heap)(z u o i1 i2 t1 t2:Addr)(n:Nat):Prop where
 zz:IsZip h z u o .none
 uu:IsPair h u (.ref i1) (.ref i2)
 oo:∃a b,IsPair h o a b
 a1:h.IsListIter i1 t1 n
 a2:h.IsListIter i2 t2 n
variable{X:Cx}
end L2
namespace Q
open PySem L2
variable{ob:Ap}{X:Cx}{a b:Expr}{fa:WA}{pos p:Pos}
def Tx(a:WA):WA:=λenv P=>a env λxs e=>match xs with
 |[.tup xs,.tup ys]=>P (D2 xs ys) e
 |[.lst xs,.lst ys]=>P (D2 xs ys) e
 |_=>False
variable{α:Type}
theorem bM{z:α}{P:α->Prop}:opt (some z) P=P z:=propext BZ
theorem tV{P:α->Prop}:opt none P=False:=propext ⟨λ⟨_,e,_⟩=>(nomatch e),λh=>h.elim⟩
theorem ab{o:Option α}{z:α}{P:α->Prop}(h:o=some z)(k:P z):opt o P:=⟨z,h,k⟩
theorem io(xs:List α)(n:Nat):BF xs none (some (n:Int))=xs.take n:=by
 unfold BF
 rw[HT.Dc,HT.D6,afw,Nat.sub_zero]
 by_cases h:n<=xs.length
 .rw[afj h]
 .rw[aeZ (by omega),abG,ac4 (by omega)]
theorem sJ(xs:List α)(n:Nat):BF xs (some (n:Int)) none=xs.drop n:=by
 unfold BF
 rw[HT.Dc,HT.D6]
 by_cases h:n<=xs.length
 .rw[afj h,ac4 (by simp)]
 .rw[aeZ (by omega),ae4,List.drop_of_length_le (by omega)]
  simp
variable{g:WG}{c:WT}{f:WE}{js:List (Option Nat)}{P:PV->En->Prop}{env:En}
theorem cm(G:PV->Option PV):∀{xs acc:List PV},(∀x∈xs,∀R:Option PV->En->Prop,R (G x) env ->
   g x (DL js env) λb1=>c b1 λok b2=>if ok=true then f b2 λy b3=>R (some y) (Ab js env b3)else R none (Ab js env b2))->acc.length+xs.length<=100000->P (.lst (acc++xs.filterMap G)) env->Bg g c f js P xs env acc
 |[],acc,_,_,k=>by simpa[Bg]using k
 |x::xs,acc,h,hl,k=>by
  have GJ:acc.length+xs.length+1<=100000:=by simpa[ade]using hl
  have hm:∀{a b:Prop},(a->b)->a->b:=λh=>h
  have:=h x (by simp) (λo e=>(match o with|some y=>acc.length<=100000/\Bg g c f js P xs e (acc++[y])|none=>Bg g c f js P xs e acc)) (by
   cases e:G x with
   |none=>
    refine cm G (λy hy=>h y (by simp[hy])) (by omega) ?_
    simpa[abS,e]using k
   |some y=>
    refine⟨by omega,cm G (λy hy=>h y (by simp[hy])) (by simp;omega) ?_⟩
    simpa[abS,e]using k)
  exact this
theorem aU(G:PV->PV):∀{xs acc:List PV},(∀x∈xs,∀R:PV->En->Prop,R (G x) env->g x (DL js env) λb1=>f b1 λy b3=>R y (Ab js env b3))->acc.length+xs.length<=100000->P (.lst (acc++xs.map G)) env->Bg g CY f js P xs env acc
 |[],acc,_,_,k=>by simpa[Bg]using k
 |x::xs,acc,h,hl,k=>by
  have GJ:acc.length+xs.length+1<=100000:=by simpa[ade]using hl
  simp only[Bg,CY,if_true]
  exact h x (by simp) (λy e=>acc.length<=100000/\Bg g CY f js P xs e (acc++[y])) ⟨by omega,aU G (λy hy=>h y (by simp[hy])) (by simp;omega) (by simpa using k)⟩
theorem bg{b:WS}{P:Wd}(I:Nat->En->Prop):∀{xs:List PV} {i:Nat} {env:En},I i env->(∀(j:Nat) (x:PV) (e:En) (N:En->Prop),xs[j]?=some x->I (i+j) e->(∀e',I (i+j+1) e'->N e')->g x e λe1=>b {P with nx:=N,ct:=N,bk:=P.nx} e1)->(∀e,I (i+xs.length) e->P.nx e)->BL g b P xs env
 |[],i,env,h0,_,hd=>hd env (by simpa using h0)
 |x::xs,i,env,h0,hs,hd=>hs 0 x env (BL g b P xs) rfl h0 λe' h'=>bg I (i:=i+1) h' (λj y e N hj hI k=>hs (j+1) y e N (by simpa using hj) (by rwa [ade,ad3 1 j]at hI) λe' h=>k e' (by rwa [ade i 1 j,ad3 1 j])) λe h=>hd e (by rwa [aaL,ad3 xs.length 1,<- ade])
theorem pN:∀(bs:List Bool),(bs.map PV.bl).mapM CC=some bs
 |[]=>rfl
 |b::bs=>by
  rw[aar,abo,pN bs];rfl
theorem eF(bs:List Bool):A0 [.lst (bs.map .bl)]=some (.bl (bs.all id)):=by
 show ((bs.map PV.bl).mapM CC).map _=_
 rw[pN];rfl
theorem ao{a b:WS}{P:Wd}(h:∀N:En->Prop,N=b P->a {P with nx:=N} env):rW a b P env:=h _ rfl
theorem bT{it:WA}{b:WS}{P:Wd}(h:∀(G:WG) (B:WS),G=g->B=b->it env λxs e=>BL G B P xs e):Dd it g b P env:=h _ _ rfl rfl
variable{s:Sl}
theorem xW:(some (some s):Option (Option Sl)).join.isSome=true:=rfl
theorem uK{xs:List α}{v:α}(h:xs[xs.length - 1]?=some v):EY xs (-1)=some v:=by
 have hl:xs.length - 1<xs.length:=(List.getElem?_eq_some_iff.mp h).1
 have e:G6 xs.length (-1)=some (xs.length - 1):=by
  unfold G6
  rw[if_neg (by omega),if_pos (by omega)]
  congr 1
  omega
 unfold EY
 rw[e];exact h
variable{x:PV}
theorem Fs{zs:List PV}(h:zs.length<=100000):bG zs [x]=some (.oR,zs++[x]):=if_pos h
variable{k:Nat}{Bh:Addr}{fd:ab0}{ps:List Str}{x y:Str}{p1 pos':Pos}
theorem sx(i j:Nat)(hN:X.N.Nodup)(hi:X.N[i]?=some y)(hx:Loc X.env.scope y)(F:zf X.prog X.w X.K X.mg X.base Ak k Bh fd ps (Pre.hU X.K))(hr:zy k X.A)(hm:X.mg "_law_begin" = some (.ref Bh))(hk:abU X.K (.ref Bh)=true)(hb:Binds X.K fd ps [])(ho:PE X (.Name x p1) (zK j))
  (GH:ob=A9 X.K:=by rfl) (hg:Gl X "_law_begin" :=by rfl) (he:aam [.Name x p1] X.env=(false,eval (.Name x p1) X.env)::aam [] X.env:=by rfl) (Bb:(backTo pos (aam [] X.env)).any (·.1)=false:=by rfl)
  {Ac:Pos} (hs:acl (.Call (.Name "_law_begin" p) [.Name x p1] [] pos) (some (.Name y pos')) Ac.line X.env=pure false:=by rfl) (hf:X.fn y=true\/X.env.scope.names.lookup y=some .local:=by first|exact .inl rfl|exact .inr rfl|assumption) :
  DD ob X (.Assign [.Name y pos'] (.Call (.Name "_law_begin" p) [.Name x p1] [] pos) Ac) (AL i j):=by
 subst GH
 exact uk i j hN hi hx F hr hm hk hb ho hg he Bb hs hf
end Q
set_option hygiene false in
local macro_rules|`(tactic| lia)=>`(tactic| simp only[Q.run,Q.Gz,Q.zF,Q.Lv,Q.Jg,Q.MU,Q.rW,Q.Bz,Q.zb,Q.Ad,Q.zv,Q.AR,Q.BI,Q.Gy,Q.Gw,Q.Ez,Q.Bn,Q.A2,Q.yZ,Q.GU,Q.JM,Q.yU,Q.BC,Q.eC,Q.eV,Q.Ai,Q.a1,Q.iD,Q.aS,Q.Cz,Q.HY,Q.UJ,Q.Lw,Q.Bu,Q.Bi,Q.DC,Q.HI,Q.iS,Q.Tx,Q.Iq,Q.CK,Q.Ba,Q.zc,Q.HG,Q.J6,Q.GD,Q.Dk,Q.Fv,Q.GC,Q.Jc,Q.Hh,Q.CC,Q.bM,Q.tV,aar,adp,aaF,List.cons_append,aaO,aaL,abE,ab4,act,List.set_cons_zero,List.set_cons_succ,Option.map_some,if_true,aeA,ac8,ab2,if_false,decide_true,decide_false,ite_true,ite_false,Q.Ex,Q.gT,Q.gN,Q.zX,Q.B7,Q.HH,Q.IA,String.reduceBEq,Bool.false_and,Bool.or_false,Bool.false_or,Bool.true_or,Bool.and_true,aez,Nat.reduceAdd,Nat.reduceSub,Q.ze,Q.xW,true_and,Q.GS,Q.DS,Q.LS,Q.Tz])
namespace Q
open PySem L2 PyProof.Rows
variable{ob:Ap}{X:Cx}{iter:Expr}{scope:Scope}{pos p1 p2 p3:Pos}{fi:WA}{x t:Str}
variable{y:Str}{py Ac:Pos}
theorem qp(i:Nat)(hN:X.N.Nodup)(hy:X.N[i]?=some y)(hl:X.env.scope.names.lookup y=some .local)(hi:G1 ob X (.Name t p1) iter fi)(hg:∀C s₀ H₀ ex pn,PG (yT X scope [t] C s₀ H₀ ex pn) (.Name t p1) (AG 0))(hk:∀C s₀ H₀ ex pn,PE (yT X scope [t] C s₀ H₀ ex pn) (.Name t p2) (zK 0))
  (GH:ob=A9 X.K:=by rfl)
  (HK:acl (.DictComp (.Name t p2) (.List [] p3) [⟨.Name t p1,iter,[],0⟩] scope pos) (some (.Name y py)) Ac.line X.env=pure true:=by rfl)
  (hc:X.calm=true:=by rfl) (hx:X.xe=(λ_ _=>False):=by rfl) (Cg:Cm X.env scope=true:=by rfl) (zV:AI X.N scope [t] [none]=true:=by rfl) (zo:scope.kind=.function:=by rfl) (hs:∀x,aa4 iter X.env x=pure x:=by intro _;rfl) :
  DD ob X (.Assign [.Name y py] (.DictComp (.Name t p2) (.List [] p3) [⟨.Name t p1,iter,[],0⟩] scope pos) Ac) (kf i fi):=by
 subst GH
 exact sv i hN hy hl hi hg hk HK hc hx Cg zV zo hs
variable{e:Expr}{px apos:Pos}
theorem jO(i:Nat){ke:Expr}{fk fv:WE}{ps zS:Pos}(hu:X.A.units+1<cLine)(ho:PE X (.Name x px) (zK i))(hk:zq ob X ke fk)(hv:zq ob X e fv)(GH:ob=A9 X.K:=by rfl)(Ii:Jm ke:=by exact λ_ _=>rfl)
  (Ay:acL (.Subscript (.Name x px) ke ps) "append" X.env (eval (.Subscript (.Name x px) ke ps) X.env)=eval (.Subscript (.Name x px) ke ps) X.env:=by rfl)
  (FA:((backTo zS (aam [e] X.env)).all (λx=>!x.1) && (ae8 zS (adO [] X.env)).all (λx=>x.1.isSome)
   && decide ([e].length+([]:List ad7).length+(if ([]:List ad7).isEmpty then 0 else 1)<30))=true:=by rfl)
  (Ax:(apos.endLine==zS.line)=true:=by rfl) (EN:aam [e] X.env=(false,eval e X.env)::aam [] X.env:=by rfl) (BR:(backTo zS (aam [] X.env)).any (·.1)=false:=by rfl)
  (hs:acl (.Call (.Attribute (.Subscript (.Name x px) ke ps) "append" apos) [e] [] zS) none Ac.line X.env=pure false:=by rfl) :
  DD ob X (.Expr (.Call (.Attribute (.Subscript (.Name x px) ke ps) "append" apos) [e] [] zS) Ac) (fg i fk fv):=by
 subst GH
 exact sw i hu ho hk hv Ii Ay FA Ax EN BR hs
variable{P:aaH}{w:World}{K:aag}{mg:Str->Option Value}{base:Heap}{k:Nat}{Bh:Addr}{fd:ab0}{ps:List Str}
variable{n:Nat}
theorem wD{D D':Fd}(F:zf P w K mg base Ak k Bh fd ps (LO ⟨P,w,K,ob⟩ n D))(h:∀xs P,D' xs P->D xs P):zf P w K mg base Ak k Bh fd ps (LO ⟨P,w,K,ob⟩ n D') :=
 F.imp λvs H Q E ⟨F,xs,P,a,b,c,d,e⟩=>⟨F,xs,P,a,b,c,h _ _ d,e⟩
end Q
namespace Q
open PySem L2
variable{c:WT}{b:WS}{P:Wd}{k:Nat}{env:En}
theorem lv(I:Nat->En->Prop)(step:∀(k:Nat) (e:En) (N:En->Prop),I k e->(∀k' e',k'<k->I k' e'->N e')->c e λv e1=>if v=true then b {P with nx:=N,ct:=N,bk:=P.nx} e1 else P.nx e1)(h:I k env):Cn c b P env:=by
 refine⟨k+1,?_⟩
 have aux:∀n k env,k<n->I k env->Fb c b P n env:=by
  intro n
  induction n with
  |zero=>intro k env h _;omega
  |succ n ih=>intro k env hk hI;exact step k env (Fb c b P n) hI λk' e' h1 h2=>ih k' e' (by omega) h2
 exact aux _ k env (by omega) h
theorem aX{a:WS}(h:∀(A B:WS),A=a->B=b->c env λk e=>if k=true then A P e else B P e):Bz c a b P env:=h _ _ rfl rfl
theorem lf(h:∀(C:WT) (B:WS),C=c->B=b->Cn C B P env):Cn c b P env:=h _ _ rfl rfl
variable{α:Type}
theorem bj{f:α->Str}{g:α->PV}:∀{l:List α} {a:α},(l.map f).Nodup->a∈l->AA (l.map λx=>((aas (f x):Key),g x)) (aas (f a))=some (g a)
 |b::l,a,nd,h=>by
  unfold AA
  rw[aar,abX]
  rw[aar,afl]at nd
  rcases List.mem_cons.mp h with rfl|h
  .simp
  .have hne:f b≠f a:=λe=>nd.1 (by rw[e];exact aaX h)
   have:decide ((aas (f b):Key)=aas (f a))=false:=by simp[hne]
   simp only[this]
   exact bj nd.2 h
theorem lh{f:α->Str}{g:α->PV}:∀{l:List α} {y:Str},y∉l.map f->AA (l.map λx=>((aas (f x):Key),g x)) (aas y)=none
 |[],_,_=>rfl
 |b::l,y,h=>by
  rw[aar,aaZ,not_or]at h
  unfold AA
  rw[aar,abX]
  have:decide ((aas (f b):Key)=aas y)=false:=by simp;exact λe=>h.1 e.symm
  simp only[this]
  exact lh h.2
variable{y:Str}
theorem mH{f:α->Str}{g:α->PV}{l:List α}{v:PV}(h:y∉l.map f):Dh (l.map λx=>((aas (f x):Key),g x)) (aas y) v=(l.map λx=>((aas (f x):Key),g x))++[(aas y,v)]:=by
 unfold Dh
 rw[if_neg]
 rw[List.any_map]
 intro z
 rw[ae5]at z
 obtain⟨x,hx,e⟩:=z
 simp at e
 exact h (by rw[<- e];exact aaX hx)
variable{ys:List Str}{x:Str}
theorem vZ:(ys.map PV.str).mapM (λy=>zA 60 y (.str x))=some (ys.map λy=>y==x):=by
 induction ys with
 |nil=>rfl
 |cons y ys ih=>
  rw[aar,abo,ih]
  rfl
theorem kM:Ig (.str x) (.tup (ys.map .str))=some (decide (x∈ys)):=by
 show ((ys.map PV.str).mapM (λy=>zA 60 y (.str x))).map (λks=>ks.any id)=_
 rw[vZ]
 show some ((ys.map λy=>y==x).any id)=_
 congr 1
 rw[List.any_map,aaS,ae5]
 simp
theorem m8:Ig (.str x) (.lst (ys.map .str))=some (decide (x∈ys)):=kM
theorem aW:AY (.str x) (.tup (ys.map .str))=some (.bl (decide (x∈ys))):=by
 show (Ig _ _).map _=_
 rw[kM];rfl
theorem ql:AY (.str x) (.lst (ys.map .str))=some (.bl (decide (x∈ys))):=by
 show (Ig _ _).map _=_
 rw[m8];rfl
end Q
namespace L2
open PySem PySem.Spec PyProof.Rows
variable{X:Cx}
end L2
namespace Q
open PySem L2 PyProof.Rows
variable{ob:Ap}{X:Cx}{a b c e:Expr}{es:List Expr}{f g h:WE}{fa:WA}{pos p p1:Pos}{x:Str}
theorem pA{d:Nat}:∀(a b:List Str),zA (d+2) (.tup (a.map .str)) (.tup (b.map .str))=some (decide (a=b)):=by
 intro a b
 have e:((a.map PV.str).zip (b.map PV.str)).mapM (λp=>zA (d+1) p.1 p.2)=some ((a.zip b).map λp=>p.1==p.2):=by
  rw[List.zip_map]
  generalize a.zip b=l
  induction l with
  |nil=>rfl
  |cons p l ih=>rw[aar,abo,ih];rfl
 show (((a.map PV.str).zip (b.map PV.str)).mapM (λp=>zA (d+1) p.1 p.2)).map (λbs=>bs.all id && (a.map PV.str).length==(b.map PV.str).length)=_
 rw[e,aae,aae]
 show some (((a.zip b).map λp=>p.1==p.2).all id && a.length==b.length)=_
 congr 1
 rw[List.all_map,aaS,aaC,decide_eq_true_eq,beq_iff_eq]
 clear e
 constructor
 .rintro⟨h1,h2⟩
  induction a generalizing b with
  |nil=>cases b with|nil=>rfl|cons _ _=>cases h2
  |cons x a ih=>
   cases b with
   |nil=>cases h2
   |cons y b=>
    rw[abB,List.all_cons,aaC]at h1
    have UD:x=y:=by simpa using h1.1
    rw[UD,ih b h1.2 (by simpa using h2)]
 .rintro rfl
  refine⟨?_,rfl⟩
  rw[acd]
  rintro⟨x,y⟩ hm
  have:x=y:=by
   obtain⟨i,hi⟩:=List.getElem?_of_mem hm
   rw[aaR]at hi
   have:=hi.1.symm.trans hi.2
   simpa using this
  simp[this]
def Jd:PV->Option Str
 |.tup (.str s::_)=>some s
 |_=>none
def FI(fa:WA):WE:=λenv P=>fa env λxs e=>match xs with
 |[.lst ys]=>∃nm:List Str,ys.mapM Jd=some nm/\nm.Nodup/\ys.length<64/\∀ix:List Nat,ix.length=ys.length->(∀i∈ix,i<ys.length)->(ix.map λi=>nm.getD i ⟨#[]⟩).Pairwise zD->P (.lst (ix.map λi=>ys.getD i .oR)) e
 |_=>False
variable{K:aag}{F H:Hp}{v:V}{y:PV}
theorem wB(sF:bY F H)(r:Rep K F v y)(h:Jd y=some x):∃a t,v=.ref a/\zW K H a (.str x::t):=by
 unfold Jd at h
 split at h
 .cases h
  cases r with
  |tup h1 h2=>cases h2 with
   |cons r1 r2=>cases r1;exact⟨_,_,rfl,av sF h1⟩
 .cases h
variable{vs:List V}{ys:List PV}
theorem lw(r:nE K F vs ys):∀ix:List Nat,(∀i∈ix,i<ys.length)->nE K F (ix.map λi=>vs.getD i .oR) (ix.map λi=>ys.getD i .oR)
 |[],_=>.nil
 |i::ix,h=>by
  refine .cons ?_ (lw r ix λj hj=>h j (aan _ hj))
  have hi:=h i aaq
  obtain⟨v,hv,rv⟩:=r.get (aab hi)
  show Rep K F (vs.getD i .oR) (ys.getD i .oR)
  rw[aad,aad,hv,aab hi]
  exact rv
theorem um(hg:Gl X "sorted")(hm:X.mg "sorted" = none)(ha:FQ ob X (e::es) fa)
  (he:aam (e::es) X.env=(false,eval e X.env)::aam es X.env:=by rfl) (Bb:(backTo pos (aam es X.env)).any (·.1)=false:=by rfl):Ha ob X (.Call (.Name "sorted" p) (e::es) [] pos) (FI fa):=by
 obtain⟨t,ht,k⟩:=ha.ex
 refine⟨_,ci qt hg hm boot_sorted ht (by decide) (by decide) he Bb,λZ F σ H env P Q K hf kk=>k Z F σ H env _ _ K hf λxs e1 vs F1 H1 p s1 K1 r1=>?_⟩
 split at p
 .obtain⟨nm,hs,nd,hl,p⟩:=p
  obtain⟨v,rfl,r⟩:=r1.one
  obtain⟨q,vs,rfl,h1,h2⟩:=r.lst K1.sF
  have g1:=(bz hs).1
  have hlen:=h2.len
  refine⟨q,vs,nm,rfl,.inl (.inl h1),by omega,⟨by omega,λi v x hv hx=>?_,nd⟩,λl ix hn i1 i2 i3 i4=>?_⟩
  .obtain⟨y,hy,ry⟩:=h2.HS hv
   obtain⟨y',e1,e2⟩:=mX hs i x hx
   rw[hy]at e1;cases e1
   exact wB K1.sF ry e2
  .exact kk _ e1 _ F1 _ (p ix (by omega) (λi hi=>by have:=i3 i hi;omega) i4) s1 (λ_=>by simp) (K1.own hn ⟨_,ak,lw h2 ix λi hi=>by have:=i3 i hi;omega⟩)
 .exact p.elim
end Q
namespace L2
open PySem PySem.Spec PyProof.Rows
variable{prog:aaH}{w:World}{A:Around}{E:Value->Shared->Prop}{s:Shared}
variable{X:Cx}
end L2
namespace Q
open PySem L2 PyProof.Rows
def neT:PV->PV->Option PV
 |.tup xs,.tup ys=>(zA 60 (.tup xs) (.tup ys)).map λb=>.bl (!b)
 |_,_=>none
def MH(K:aag):R2:=λv u H Q=>∃F xs ys k,bY F H/\Rep K F v (.tup xs)/\Rep K F u (.tup ys)/\zA 60 (.tup xs) (.tup ys)=some k/\Q (.bl (!k)) H
variable{ob:Ap}{X:Cx}{a b c e:Expr}{es:List Expr}{f g h:WE}{fa:WA}{pos KH p p1 p2:Pos}{x:Str}
theorem rn(hu:X.A.units+60<cLine):zH X (aaE .NotEq) (MH X.K):=by
 intro pins s σ H x y v u Q I rx ry h
 obtain⟨F,xs,ys,k,sF,r1,r2,e,hq⟩:=h
 cases r1 with
 |tup h1 r1=>
 cases r2 with
 |tup h2 r2=>
 cases rx
 cases ry
 obtain⟨eQ,rv,p,_⟩:=I.tuple (av sF h1)
 obtain⟨zU,CJ,p2,_⟩:=I.tuple (av sF h2)
 have l1:eQ.length=xs.length:=by rw[<- rv.length,r1.len]
 have l2:zU.length=ys.length:=by rw[<- CJ.length,r2.len]
 have e':((xs.zip ys).mapM λp=>zA 59 p.1 p.2).map (λbs=>bs.all id && xs.length==ys.length)=some k:=e
 rw[aat]at e'
 obtain⟨bs,hb,ek⟩:=e'
 obtain⟨GP,GR⟩:=bz hb
 have t:=SeqAt.RcNeAt.tuples (A:=X.A) (e:=λj=>bs.getD j false) p p2 (by omega) (λj j1 j2=>by
  simp only[aaf]at j1 j2
  have jx:j<xs.length:=by omega
  have jy:j<ys.length:=by omega
  have hz:(xs.zip ys)[j]?=some (xs[j],ys[j]):=by rw[aaR];exact⟨by simp[jx],by simp[jy]⟩
  obtain⟨b,e1,e2⟩:=GR j _ hz
  obtain⟨v1,q1,q2⟩:=r1.get (aab jx)
  obtain⟨v2,q3,q4⟩:=r2.get (aab jy)
  obtain⟨u1,q5,q6⟩:=rv.get q1
  obtain⟨u2,q7,q8⟩:=CJ.get q3
  have g1:eQ.toArray[j]=u1:=by simpa[aab j1]using q5
  have g2:zU.toArray[j]=u2:=by simpa[aab j2]using q7
  rw[g1,g2,show bs.getD j false=b by simp[aew,e1]]
  exact(Jf I sF (A:=X.A.in1) (d:=59) (by show X.A.units+1+59<cLine;omega) q2 q4 q6 q8 e2).2)
 have e3:((aaV (min eQ.toArray.size zU.toArray.size)).all (λj=>bs.getD j false) && eQ.toArray.size==zU.toArray.size)=k:=by
  have e4:min eQ.toArray.size zU.toArray.size=bs.length:=by rw[GP,ad5,aaf,aaf,l1,l2]
  rw[e4,dZ (λj hj=>by simp[aew,aab hj]),aaf,aaf,l1,l2]
  exact ek
 rw[e3]at t
 exact t X.prog X.w X.xe _ ⟨.bl (!k),H,I,rfl,hq⟩
theorem o0:Ce ob X (MH X.K) neT:=by
 refine bo (P:=λ_ _ _ _=>True) λF H v u x y z sF rx ry hz=>?_
 unfold neT at hz
 split at hz
 .rw[aat]at hz
  obtain⟨k,hk,rfl⟩:=hz
  exact⟨_,λ_=>.bl _,λQ q=>⟨F,_,_,k,sF,rx.Fc,ry.Fc,hk,q⟩⟩
 .cases hz
end Q
namespace L2
open PySem PySem.Spec PyProof.Rows PySem.W
def za(h:Heap)(a:Addr)(k:Int×Str):Prop:=∃o n t u,h.get? a=some o/\o.cls=.type "tuple" /\ o.data=.seq #[.int k.1 t,.str k.2 u] n
variable{h h':Heap}{a:Addr}{k:Int×Str}
theorem za.mono(x:za h a k)(g:∀o,h.get? a=some o->h'.get? a=some o):za h' a k:=by
 obtain⟨o,n,t,u,e,r⟩:=x
 exact⟨o,n,t,u,g o e,r⟩
def EH(ks:List (Int×Str))(i j:Nat):Bool:=decide ((ks.getD i (0,⟨#[]⟩)).1<(ks.getD j (0,⟨#[]⟩)).1\/((ks.getD i (0,⟨#[]⟩)).1=(ks.getD j (0,⟨#[]⟩)).1/\zD (ks.getD i (0,⟨#[]⟩)).2 (ks.getD j (0,⟨#[]⟩)).2))
variable{ks:List (Int×Str)}
theorem o8(nd:(ks.map (·.2)).Nodup):Srt.Ord (EH ks) ks.length:=by
 have inj:∀i j,i<ks.length->j<ks.length->(ks.getD i (0,⟨#[]⟩)).2=(ks.getD j (0,⟨#[]⟩)).2->i=j:=λi j hi hj e=>by
  have a:(ks.map (·.2))[i]'(by simpa using hi)=(ks.map (·.2))[j]'(by simpa using hj):=by
   rw[acu,acu]
   rw[aad,aad,aab hi,aab hj]at e
   exact e
  exact(abP nd).mp a
 refine⟨λi _=>?_,λi j k _ _ _ a b=>?_,λi j hi hj ne e=>?_⟩
 .unfold EH
  rw[decide_eq_false_iff_not]
  rintro(h|⟨_,h⟩)
  .omega
  .exact adv _ h
 .have a:=of_decide_eq_true a
  have b:=of_decide_eq_true b
  refine decide_eq_true ?_
  rcases a with a|⟨a1,a2⟩<;>rcases b with b|⟨b1,b2⟩
  .exact .inl (by omega)
  .exact .inl (by omega)
  .exact .inl (by omega)
  .exact .inr ⟨by omega,List.lt_trans a2 b2⟩
 .have e:=of_decide_eq_false e
  rw[not_or]at e
  refine decide_eq_true ?_
  rcases Int.lt_trichotomy (ks.getD i (0,⟨#[]⟩)).1 (ks.getD j (0,⟨#[]⟩)).1 with z|z|z
  .exact absurd z e.1
  .refine .inr ⟨z.symm,?_⟩
   have e2:¬ zD (ks.getD i (0,⟨#[]⟩)).2 (ks.getD j (0,⟨#[]⟩)).2:=λh=>e.2 ⟨z,h⟩
   unfold zD at e2 ⊢
   rcases List.le_iff_lt_or_eq.mp (List.not_lt.mp e2)with q|q
   .exact q
   .exfalso
    refine ne (inj i j hi hj ?_)
    generalize (ks.getD i (0,⟨#[]⟩)).2=x at q ⊢
    generalize (ks.getD j (0,⟨#[]⟩)).2=y at q ⊢
    obtain⟨x⟩:=x
    obtain⟨y⟩:=y
    exact congrArg Str.mk (Array.toList_inj.mp q.symm)
  .exact .inl z
variable{prog:aaH}{w:World}{A:Around}{E:Value->Shared->Prop}{s:Shared}
variable{x y:Addr}{l:Int×Str}
theorem vq{Q:Bool->Shared->Prop}(hx:za s.heap x k)(hy:za s.heap y l)(hne:k.2≠l.2)(h:Q (decide (k.1<l.1\/(k.1=l.1/\zD k.2 l.2))) s):wpAny (model prog w) A (keyLt' (afa true) (.ref x) (.ref y)) Q E s:=by
 obtain⟨ox,n,t,u,e1,_,e2⟩:=hx
 obtain⟨oy,n',t',u',f1,_,f2⟩:=hy
 refine kat_lt e1 e2 f1 f2 ?_
 refine kat_cons (wpAny_eqBool_int ?_)
 by_cases e:k.1=l.1
 .rw[show (k.1==l.1)=true by simp[e]]
  refine kat_yes (kat_cons (aeX ?_))
  rw[decide_eq_false hne]
  refine kat_no ?_
  show wpAny _ _ (oneLt' false _ _) _ _ _
  refine kat_one _ _ (lt_str ?_)
  have:decide (k.1<l.1\/(k.1=l.1/\zD k.2 l.2))=decide (k.2.cps.toList<l.2.cps.toList):=by
   rw[aaS,decide_eq_true_eq,decide_eq_true_eq]
   constructor
   .rintro(z|⟨_,z⟩)
    .omega
    .exact z
   .intro z;exact .inr ⟨e,z⟩
  rw[this]at h
  exact h
 .rw[show (k.1==l.1)=false by simp[e]]
  refine kat_no ?_
  show wpAny _ _ (oneLt' true _ _) _ _ _
  refine oneLt_int ?_
  have:decide (k.1<l.1\/(k.1=l.1/\zD k.2 l.2))=decide (k.1<l.1):=by
   rw[aaS,decide_eq_true_eq,decide_eq_true_eq]
   exact⟨λz=>z.elim id λq=>absurd q.1 e,.inl⟩
  rw[this]at h
  exact h
variable{kS:Addr}{e1:Nat}{P:PySem.Fin->Shared->Prop}
theorem pj{e n:Nat}{keys:Array Value}{st:SortSt}{out:List Value}(hk:s.heap.get? kS=some (seqObj "list" keys e))(ha:s.heap.get? a=some (seqObj "list" #[] e1))(hne:kS≠a)(Vz:keys.size<=100)
  (ho:(arrOf st).map (·.2)=out.toArray) (hf:failedOf st=none) (hz:out.length<=100)
  (h:∀(h':Heap) (c:Nat),h'.get? a=some (seqObj "list" out.toArray c)->(∀b o,b≠a->b≠kS->s.heap.get? b=some o->h'.get? b=some o)->P (.done (.ret .none)) {s with heap:=h'}) :
  wpAny (model prog w) A (ksk_tail a false e1 (.ref kS) st) P E s:=by
 have s1:=aaP s.heap kS (abd λ_=>(#[]:Array Value))
 have Mf:(s.heap.update kS (abd λ_=>(#[]:Array Value))).get? a=some (seqObj "list" #[] e1):=(s1.2 a hne.symm).trans ha
 unfold ksk_tail
 dsimp only
 rw[ho]
 refine aaa (adc hk rfl ?_ (by rw[aaG];omega) (aaN _))
 refine aaa (abK ?_)
 refine aaa (afd Mf rfl ?_)
 refine aaa (adc Mf rfl ?_ (aaN _) (by simp only[ab2,if_false,aaf];rw[aaG];omega))
 rw[hf]
 simp only[bne_self_eq_false,ab2,if_false]
 have s2:=aaP (s.heap.update kS (abd λ_=>(#[]:Array Value))) a (abd λ_=>out.toArray)
 exact aah (h _ _ (abL Mf λ_=>out.toArray) λb o h1 h2 g=>(s2.2 b h1).trans ((s1.2 b h2).trans g))
theorem lD:∀ad:List Addr,(∀a∈ad,∃k,za h a k)->∃fs:List Value,KatTups h (ad.map aau) fs/\fs.length=ad.length/\∀v∈fs,∃c t,v=.int c t
 |[],_=>⟨[],trivial,rfl,λ_ z=>by simp at z⟩
 |a::ad,hp=>by
  obtain⟨fs,h1,h2,h3⟩:=lD ad λb hb=>hp b (aan _ hb)
  obtain⟨k,o,n,t,u,e1,e2,e3⟩:=hp a aaq
  refine⟨.int k.1 t::fs,⟨⟨a,o,_,n,rfl,e1,e2,e3,rfl⟩,h1⟩,by simp[h2],λv hv=>?_⟩
  rcases List.mem_cons.mp hv with rfl|hv
  .exact⟨_,_,rfl⟩
  .exact h3 v hv
variable{ad:List Addr}{vs:List Value}{i:Nat}
theorem kL(hl:ad.length=vs.length)(hi:i<vs.length):aer ((ad.map aau).toArray.zip vs.toArray) i=(.ref (ad.getD i 0),vs.getD i abh):=by
 unfold aer
 have CO:i<ad.length:=by omega
 have hz:i<((ad.map aau).toArray.zip vs.toArray).size:=by rw[Array.size_zip,aaf,aaf,aae];omega
 rw[Array.getD,dif_pos hz]
 show ((ad.map aau).toArray.zip vs.toArray)[i]=_
 rw[Array.getElem_zip,List.getElem_toArray,List.getElem_toArray,acu,aad,aad,aab CO,aab hi]
 rfl
theorem xP{e:Nat}(hk:s.heap.get? kS=some (seqObj "list" (ad.map aau).toArray e))(ha:s.heap.get? a=some (seqObj "list" #[] e1))(hne:kS≠a)
  (l1:ad.length=vs.length) (l2:ks.length=vs.length) (Ci:vs.length<64) (nd:(ks.map (·.2)).Nodup) (hp:∀i,i<vs.length->za s.heap (ad.getD i 0) (ks.getD i (0,⟨#[]⟩)))
  (h:∀(h':Heap) (c:Nat) (ix:List Nat),ix.length=vs.length->ix.Nodup->(∀i∈ix,i<vs.length)->ix.Pairwise (λi j=>EH ks i j=true)->h'.get? a=some (seqObj "list" (ix.map λi=>vs.getD i abh).toArray c)->(∀b o,b≠a->b≠kS->s.heap.get? b=some o->h'.get? b=some o)->P (.done (.ret .none)) {s with heap:=h'}) :
  wpAny (model prog w) A (ksk_end a false vs.toArray e1 (.ref kS) (ad.map aau).toArray) P E s:=by
 have kz:(ad.map aau).toArray.size<=100:=by rw[aaf,aae];omega
 unfold ksk_end
 dsimp only
 simp only[ab2,if_false]
 by_cases h2:vs.toArray.size<2
 .rw[if_pos h2,if_pos h2]
  rw[aaf]at h2
  refine aaa (aah ?_)
  rw[StateT.run_pure]
  refine aaa (aah ?_)
  dsimp only
  have ei:(aaV vs.length).map (λi=>vs.getD i abh)=vs:=by
   apply ac6
   intro i
   rw[aaj]
   by_cases hi:i<vs.length
   .rw[acs hi];simp[hi]
   .rw[aap (by simpa using hi),aap (by omega)];rfl
  refine pj (st:=SortSt.mk' general' ((ad.map aau).toArray.zip vs.toArray) #[] 7 none) (out:=vs) (n:=0) hk ha hne kz ?_ rfl (by omega) λh' c g1 g2=>?_
  .apply Array.toList_inj.mp
   show (((ad.map aau).toArray.zip vs.toArray).map (·.2)).toList=vs
   rw[Array.toList_map,Array.toList_zip]
   show ((ad.map aau).zip vs).map (·.2)=vs
   exact ae2 (by rw[aae];omega)
  .refine h h' c (aaV vs.length) (by simp) adT (λi hi=>List.mem_range.mp hi) ?_ (by rw[ei];exact g1) g2
   match hv:vs.length,h2 with
   |0,_=>simp
   |1,_=>simp[ad4]
 .rw[if_neg h2,if_neg h2]
  rw[aaf]at h2
  obtain⟨fs,f1,f2,f3⟩:=lD ad λb hb=>by
   obtain⟨i,hi,rfl⟩:=List.mem_iff_getElem.mp hb
   have:=hp i (by omega)
   rw[aad,aab hi]at this
   exact⟨_,this⟩
  refine aaa (kat_kind (T:=.type "int") f1 (by omega) (λv hv=>?_) rfl ?_)
  .obtain⟨c,t,rfl⟩:=f3 v hv
   exact Looks.of_pure rfl
  have hT:((abC "int") != (abC "tuple"))=true:=by decide
  rw[hT]
  have Tw:((ad.map aau).toArray.zip vs.toArray).size=vs.length:=by rw[Array.size_zip,aaf,aaf,aae];omega
  have UE:SortSt.mk' (afa true) ((ad.map aau).toArray.zip vs.toArray) #[] 7 none=kas_st (afa true) ((ad.map aau).toArray.zip vs.toArray) (aeV (aaV vs.length)):=by
   have q:=kas_range ((ad.map aau).toArray.zip vs.toArray)
   rw[Tw]at q
   show _=SortSt.mk' (afa true) ((aeV (aaV vs.length)).map (aer _)) #[] 7 none
   rw[q]
  have o:Srt.Ord (EH ks) vs.length:=l2 ▸ o8 nd
  have Kl:∀i j,i<vs.length->j<vs.length->i≠j->(ks.getD i (0,⟨#[]⟩)).2≠(ks.getD j (0,⟨#[]⟩)).2:=λi j hi hj ne q=>by
   have a:(ks.map (·.2))[i]'(by rw[aae];omega)=(ks.map (·.2))[j]'(by rw[aae];omega):=by
    rw[acu,acu]
    rw[aad,aad,aab (by omega),aab (by omega)]at q
    exact q
   exact ne ((abP nd).mp a)
  have ask:(kas_sort vs.length).kasWp (kas_cmp prog w A (afa true) ((ad.map aau).toArray.zip vs.toArray)) (λp z=>z=s/\Srt.Pm p vs.length/\Srt.Hb (EH ks) p vs.length) s:=by
   refine Srt.pw_wp (lt:=EH ks) (n:=vs.length) (Q:=λp=>Srt.Pm p vs.length/\Srt.Hb (EH ks) p vs.length) (J:=λz=>z=s) ?_ (λp z hz q=>⟨hz,q⟩) (kas_sort vs.length) _ rfl (Srt.oN o (by omega) λp a b=>⟨a,b⟩)
   rintro i j C z hi hj ne rfl hC
   show wpAny _ _ (keyLt' (afa true) (aer _ i).1 (aer _ j).1) _ _ _
   rw[kL l1 hi,kL l1 hj]
   exact vq (hp i hi) (hp j hj) (Kl i j hi hj ne) (hC _ rfl)
  have run:=kas_runs (E:=E) (Q:=λ_ DH z=>∃p:Array Nat,p.size=vs.length/\arrOf DH=p.map (aer ((ad.map aau).toArray.zip vs.toArray))/\failedOf DH=none/\z=s/\Srt.Pm p vs.length/\Srt.Hb (EH ks) p vs.length)
   (by omega) Ci (λp' DH z a1 a2 a3 a4=>⟨p',a1,a2,a3,a4⟩) ask
  rw[<- UE]at run
  refine aaa (aaT run ?_ λ_ _ q=>q)
  rintro⟨⟨⟩,DH⟩ z ⟨p,RU,Uq,hf,rfl,Pm,As⟩
  dsimp only
  have zT:∀i∈p.toList,i<vs.length:=λi hi=>by
   obtain⟨j,hj,rfl⟩:=Array.mem_iff_getElem.mp (Array.mem_toList_iff.mp hi)
   have:=Pm.lt j (by rw[<- Pm.sz];exact hj)
   rw[Srt.aV]at this
   simpa only[afz hj,adR]using this
  refine pj (st:=DH) (out:=p.toList.map λi=>vs.getD i abh) (n:=0) hk ha hne kz ?_ hf (by rw[aae,abI,RU];omega) λh' c g1 g2=>h h' c p.toList (by rw[abI,RU]) ?_ zT ?_ g1 g2
  .apply Array.toList_inj.mp
   rw[Uq,Array.map_map,Array.toList_map]
   exact aa9 λi hi=>by show (aer _ i).2=_;rw[kL l1 (zT i hi)]
  .rw[acN,acR]
   intro i j hi hj CN q
   have CO:i<p.size:=by simpa using hi
   have Er:j<p.size:=by simpa using hj
   have:=Pm.nd i j (by rw[<- Pm.sz];exact CO) (by rw[<- Pm.sz];exact Er) (by rw[Srt.aV,Srt.aV];simpa[CO,Er]using q)
   omega
  .rw[acR]
   intro i j hi hj CN
   have CO:i<p.size:=by simpa using hi
   have Er:j<p.size:=by simpa using hj
   have:=As i j CN (by rw[<- Pm.sz];exact Er)
   rw[Srt.aV,Srt.aV]at this
   simpa[CO,Er]using this
def fK(prog:aaH)(w:World)(A:Around)(s:Shared)(f:Value)(keep:Addr->Prop)(v:Value)(a:Addr):Prop :=
 ∀(h:Heap) (tk:Nat),(∀b o,keep b->s.heap.get? b=some o->h.get? b=some o)->wpAny (model prog w) A (call f [v]) (λr z=>r=.ref a/\∃h' Po,z={s with heap:=h',toks:=Po}/\∀b o,h.get? b=some o->h'.get? b=some o) (λ_ _=>False) {s with heap:=h,toks:=tk}
variable{f:Value}
theorem wm(hk:s.heap.get? kS=some (seqObj "list" #[] 0))(ha:s.heap.get? a=some (seqObj "list" #[] e1))(hne:kS≠a)
  (l1:ad.length=vs.length) (l2:ks.length=vs.length) (Ci:vs.length<64) (nd:(ks.map (·.2)).Nodup) (hp:∀i,i<vs.length->za s.heap (ad.getD i 0) (ks.getD i (0,⟨#[]⟩))) (TX:∀i,i<vs.length->ad.getD i 0≠kS)
  (turn:∀i,i<vs.length->fK prog w A s f (λb=>b≠kS) (vs.getD i .none) (ad.getD i 0))
  (h:∀(h':Heap) (tk c:Nat) (ix:List Nat),ix.length=vs.length->ix.Nodup->(∀i∈ix,i<vs.length)->ix.Pairwise (λi j=>EH ks i j=true)->h'.get? a=some (seqObj "list" (ix.map λi=>vs.getD i abh).toArray c)->(∀b o,b≠a->b≠kS->s.heap.get? b=some o->h'.get? b=some o)->P (.done (.ret .none)) {s with heap:=h',toks:=tk}) :
  wpAny (model prog w) A (ksk_rest a f false vs.toArray e1 (.ref kS)) P E s:=by
 unfold ksk_rest
 refine aaa (ady ?_)
 rw[List.forIn_toArray]
 refine aaa (ksk_fold (λi z=>∃h' tk e,z={s with heap:=h',toks:=tk}/\(∀b o,b≠kS->s.heap.get? b=some o->h'.get? b=some o)/\h'.get? kS=some (seqObj "list" ((ad.take i).map aau).toArray e)) vs 0 s
  ⟨s.heap,s.toks,0,rfl,λb o _ g=>g,hk⟩ ?_ ?_)
 .rintro j x z hx ⟨h',tk,e,rfl,g1,g2⟩
  rw[abx]at g2 ⊢
  have hj:j<vs.length:=(List.getElem?_eq_some_iff.mp hx).1
  have ev:vs.getD j .none=x:=by rw[aad,hx];rfl
  have t:=turn j hj h' tk λb o hb g=>g1 b o hb g
  rw[ev]at t
  refine aaa (aep (aaT t (λv z hz=>?_) λ_ _ q=>q.elim))
  obtain⟨rfl,h2,Kc,rfl,g3⟩:=hz
  dsimp only
  have gk:=g3 _ _ g2
  have s1:=aaP h2 kS (abd (·.push (.ref (ad.getD j 0))))
  refine aaa (adc gk rfl ?_ (by rw[aaf,aae,abb,aaG];omega) (abg (aeU (Array.size_push ..)) (by rw[aaf,aae,abb,aaG];omega)))
  have ej:(((ad.take j).map aau).toArray.push (.ref (ad.getD j 0)))=((ad.take (j+1)).map aau).toArray:=by
   have Sj:j<ad.length:=by omega
   apply Array.toList_inj.mp
   rw[Array.toList_push]
   show (ad.take j).map aau++[.ref (ad.getD j 0)]=(ad.take (j+1)).map aau
   rw[acx,aab Sj,aad,aab Sj,aa2]
   rfl
  obtain⟨c2,ER⟩:∃c2,(h2.update kS (abd (·.push (.ref (ad.getD j 0))))).get? kS=some (seqObj "list" (((ad.take j).map aau).toArray.push (.ref (ad.getD j 0))) c2):=⟨_,abL gk (·.push (.ref (ad.getD j 0)))⟩
  rw[ej]at ER
  exact aah ⟨rfl,_,Kc,c2,rfl,λb o hb g=>(s1.2 b hb).trans (g3 b o (g1 b o hb g)),ER⟩
 .rintro z ⟨h',tk,e,rfl,g1,g2⟩
  rw[abx,ac4 (by omega)]at g2
  refine aaa (listItems_at g2 rfl ?_)
  refine xP (s:={s with heap:=h',toks:=tk}) g2 (g1 a _ hne.symm ha) hne l1 l2 Ci nd (λi hi=>(hp i hi).mono λo q=>g1 _ o (TX i hi) q) λh2 c ix i1 i2 i3 i4 i5 i6=>h h2 tk c ix i1 i2 i3 i4 i5 λb o b1 b2 g=>i6 b o b1 b2 (g1 b o b2 g)
variable{n:Nat}
theorem wj(ha:s.heap.get? a=some (seqObj "list" vs.toArray n))
  (l1:ad.length=vs.length) (l2:ks.length=vs.length) (Ci:vs.length<64) (nd:(ks.map (·.2)).Nodup) (hp:∀i,i<vs.length->za s.heap (ad.getD i 0) (ks.getD i (0,⟨#[]⟩))) (TY:∀i,i<vs.length->ad.getD i 0≠a)
  (turn:∀i,i<vs.length->fK prog w A s f (λb=>b≠a) (vs.getD i .none) (ad.getD i 0))
  (h:∀(h':Heap) (tk c:Nat) (ix:List Nat),ix.length=vs.length->ix.Nodup->(∀i∈ix,i<vs.length)->ix.Pairwise (λi j=>EH ks i j=true)->h'.get? a=some (seqObj "list" (ix.map λi=>vs.getD i abh).toArray c)->(∀b o,b≠a->s.heap.get? b=some o->h'.get? b=some o)->P (.done (.ret .none)) {s with heap:=h',toks:=tk}) :
  wpAny (model prog w) A (ksk_tree a f false) P E s:=by
 have VC:a<s.heap.objs.size:=aak ha
 have s1:=aaP s.heap a (abd λ_=>(#[]:Array Value))
 have Mf:=abL ha λ_=>(#[]:Array Value)
 unfold ksk_tree
 refine aaa (listItems_at ha rfl ?_)
 refine aaa (adc ha rfl ?_ (by rw[aaf,aaG];omega) (aaN _))
 refine aaa (afd Mf rfl ?_)
 refine aaa (afr ?_ (by show vs.length<=_;rw[aaG];omega))
 refine aaa (acp ?_ (aaN _))
 refine aaU ?_
 generalize hH:((s.heap.update a (abd λ_=>(#[]:Array Value))).push (seqObj "tuple" vs.toArray 0))=H1
 have kz:H1.objs.size=s.heap.objs.size+1:=by rw[<- hH,size_push',Heap.size_update]
 have old:∀b o,b≠a->s.heap.get? b=some o->(H1.push (seqObj "list" #[] 0)).get? b=some o:=λb o hb g=>by
  rw[<- hH]
  exact aac _ (aac _ ((s1.2 b hb).trans g))
 have lt:∀b o,s.heap.get? b=some o->b≠H1.objs.size:=λb o g=>by
  have:=aak g
  rw[kz];exact aav (abe this)
 refine wm (s:={s with heap:=H1.push (seqObj "list" #[] 0)}) (kS:=H1.objs.size) (a:=a) (aai _ rfl) ?_ ?_ l1 l2 Ci nd (λi hi=>?_) (λi hi=>?_) (λi hi=>?_) λh' tk c ix i1 i2 i3 i4 i5 i6=>h h' tk c ix i1 i2 i3 i4 i5 λb o hb g=>i6 b o hb (lt b o g) (old b o hb g)
 .rw[<- hH]
  exact aac _ (aac _ Mf)
 .exact(lt a _ ha).symm
 .exact(hp i hi).mono λo q=>old _ o (TY i hi) q
 .obtain⟨o,_,_,_,g,_⟩:=hp i hi
  exact lt _ o g
 .intro h2 tk g
  exact turn i hi h2 tk λb o hb q=>g b o (lt b o q) (old b o hb q)
variable{q:Addr}{ob:Obj}{Q:Value->Shared->Prop}
theorem rP{l:Addr}{n0:Nat}(ho:s.heap.get? l=some ob)(hc:ob.cls=.type "tuple")(hd:ob.data=.seq vs.toArray n0)
  (l1:ad.length=vs.length) (l2:ks.length=vs.length) (Ci:vs.length<64) (nd:(ks.map (·.2)).Nodup) (hp:∀i,i<vs.length->za s.heap (ad.getD i 0) (ks.getD i (0,⟨#[]⟩)))
  (turn:∀i,i<vs.length->fK prog w A.in1.in1 s (.ref q) (λ_=>True) (vs.getD i .none) (ad.getD i 0))
  (h:∀(D:Addr) (h1 h':Heap) (tk c:Nat) (ix:List Nat),(∀b o,s.heap.get? b=some o->h1.get? b=some o)->h1.objs.size<=D->ix.length=vs.length->ix.Nodup->(∀i∈ix,i<vs.length)->ix.Pairwise (λi j=>EH ks i j=true)->h'.get? D=some (seqObj "list" (ix.map λi=>vs.getD i abh).toArray c)->(∀b o,s.heap.get? b=some o->h'.get? b=some o)->Q (.ref D) {s with heap:=h',toks:=tk}) :
  wpAny (model prog w) A (call (.builtin "sorted") [.ref l] [(aaz "key",.ref q)]) Q E s:=by
 refine call_function_entry_kw kind_sorted plain_sorted entry_sorted (ksk_s1 _ _) ?_
 unfold adx.«sorted»
 refine aaa (m:=checkCount "sorted" 1 1 _) (aah ?_)
 refine aaa (wpAny_collect_seq l (.inr rfl) ho hc hd (λh1 kk=>?_) (by rw[aaf,aaG];omega))
 refine aaa (acp ?_ (by show vs.length<=_;rw[aaG];omega))
 have GI:(h1.push (seqObj "list" vs.toArray 0)).get? h1.objs.size=some (seqObj "list" vs.toArray 0):=aai _ rfl
 have old:∀b o,s.heap.get? b=some o->(h1.push (seqObj "list" vs.toArray 0)).get? b=some o:=λb o g=>aac _ (kk b o g)
 have ne:∀b o,s.heap.get? b=some o->b≠h1.objs.size:=λb o g=>aav (aak (kk b o g))
 refine aaa (aaU (wpAny_call_entry_kw aef ⟨_,GI,rfl⟩ ad0 ?_ (ksk_l1 _ _)))
 show wpAny (model prog w) A.in1.in1 (adx.«list.sort» ⟨[.ref h1.objs.size],[(aaz "key",.ref q)]⟩) _ _ _
 rw[ksk_t1]
 refine wj (s:={s with heap:=h1.push (seqObj "list" vs.toArray 0)}) GI l1 l2 Ci nd (λi hi=>(hp i hi).mono λo g=>old _ o g) (λi hi=>?_) (λi hi h2 tk g=>turn i hi h2 tk λb o _ z=>g b o (ne b o z) (old b o z)) λh' tk c ix i1 i2 i3 i4 i5 i6=>⟨_,rfl,?_⟩
 .obtain⟨o,_,_,_,g,_⟩:=hp i hi
  exact ne _ o g
 .exact aah ⟨_,rfl,h h1.objs.size h1 h' tk c ix kk (aal _) i1 i2 i3 i4 i5 λb o g=>i6 b o (ne b o g) (old b o g)⟩
structure DA(x d:Str)(params:Arguments)(scope:Scope):Prop where
 kind:scope.kind=.function
 co:scope.isCoroutine=false
 gen:scope.isGenerator=false
 nc:∀y∈scope.names,y.2≠.cell
 lx:scope.names.lookup x=some .local
 ld:scope.names.lookup d=some .free
 ne:(x==d)=false
 dx:(x==("__debug__" : Str))=false
 dd:(d==("__debug__" : Str))=false
 dc:(d==("__classdict__" : Str))=false
 bd:∀(qual:Str) (body:Expr) (cl:List (Str×Addr)) (pm zr ct v:Value),ac7 (kla_fn "<lambda>" qual params body scope cl pm zr ct) ⟨[v],[]⟩=pure [(x,v)]
variable{X:Cx}{pins:List (Addr×Obj)}{σ:St}{H:Hp}{z:Shared}{B:Around}
variable{scope:Scope}{qual:Str}{pm:Value}{t:Tok}{kvs:List (Key×V)}
theorem m3{c' cell dd:Addr}{x d nm:Str}{params:Arguments}{p1 p2 p3:Pos}{HZ:Value}(S:DA x d params scope)(I:Inv X pins σ H z)(Nq:B.depth<recursionLimit)
  (ho:z.heap.get? q=some (kla_obj "<lambda>" qual params (.Subscript (.Name d p1) (.Name x p2) p3) scope [(d,cell)] pm c' HZ)) (Dr:z.heap.CodeRec (.ref c') qual) (K8:z.heap.NoLimit) (AZ:z.heap.IsCell cell (some (.ref dd)))
  (hD:H dd=some (.dK kvs)) (hv:AK kvs (aas nm)=some (.ref a)) :
  wpAny (model X.prog X.w) B (call (.ref q) [.str nm t]) (λv z'=>v=.ref a/\∃h' Po,z'={z with heap:=h',toks:=Po}/\∀b o,z.heap.get? b=some o->h'.get? b=some o) (λ_ _=>False) z:=by
 refine wpAny_call (kla_callFunE Nq ho rfl S.co S.gen rfl Dr ?_)
 rw[S.bd]
 refine aah (aed S.nc (λy hy=>by rw[List.mem_singleton]at hy;subst hy;exact S.lx) (λh1 Ii TR=>?_) S.kind)
 have kk:∀b o,z.heap.get? b=some o->h1.get? b=some o:=λb o g=>(TR.2 b (aav (aak g))).trans (aac _ g)
 refine⟨K8.keeps kk,kla_codeExpr ?_⟩
 have I1:Inv X pins σ H {z with heap:=h1,toks:=z.toks+1}:=I.kept kk
 obtain⟨z1,z2,vs,rel,dD⟩:=jS I1.y6 hD
 obtain⟨u,hu,ru⟩:=C3.some_of (v:=V.ref a) (o:=aeE vs (aas nm)) (by rw[<- hv];exact rel.val _)
 cases ru
 have Le:h1.IsCell cell (some (.ref dd)):=by
  obtain⟨o,e,r⟩:=AZ
  exact⟨o,kk _ _ e,r⟩
 refine aeH ?_
 refine aeD (wpAny_loadName_free S.kind S.ld (c:=cell) (show adk d [(d,cell)]=some cell by simp) Le ?_ S.dc) S.dd
 refine aeD (wpAny_loadName_local S.kind S.lx Ii (show adk x [(x,adh nm t)]=some (adh nm t)by simp) ?_) S.dx
 refine tail_any dD.typeIs PySem.F.slot_dict_getitem.lookup (wpAny_getItem_of (eu (k:=aas nm) (show RelV (.str nm) (.str nm t)from ⟨t,rfl⟩)) dD.mapOf hu ?_) rfl
 exact⟨rfl,h1,_,rfl,kk⟩
def B4(f:Addr)(ob:Obj):HO:=.ext λh=>h.get? f=some ob
theorem rO{P:aaH}(e:h.get? a=some ob):zi P w H h a (B4 a ob):=⟨e,⟨_,e⟩,λh1 h2 x k=>k _ x⟩
theorem wR{P:aaH}{lq:Str}(e:h.CodeRec (.ref a) lq):zi P w H h a (Az a lq):=by
 refine⟨e,?_,λh1 h2 x k=>?_⟩
 .obtain⟨c,oc,vs,tq,hc,L9,r⟩:=e
  cases hc
  exact⟨_,L9⟩
 .obtain⟨c,oc,vs,tq,hc,L9,r⟩:=x
  cases hc
  exact⟨_,oc,vs,tq,rfl,k _ L9,r⟩
structure D0(X:Cx)(lq d:Str)(params:Arguments)(body:Expr)(scope:Scope)(c':Addr)(ob:Obj):Prop where
 ex:∃cell HZ,X.env.cells.lookup d=some cell/\ob=kla_obj "<lambda>" lq params body scope [(d,cell)] ((X.mg "__name__").getD .none) c' HZ
def Gx(X:Cx)(lq d:Str)(y8:Pos)(P:Addr)(params:Arguments)(body:Expr)(scope:Scope):TE:=λ_ H Q=>∃ps:Array Value,H P=some (Aq P ps)/\TriplesOk ps.toList /\
 ((acQ y8 ps.toList=none/\∀c' f ob,H c'=none->H f=none->c'≠f->c'≠P->f≠P->D0 X lq d params body scope c' ob->Q (.ref f) (upd (upd (upd H P (Aq P (ps++#[rawInt y8.line,rawInt y8.col,.ref c']))) c' (Az c' lq)) f (B4 f ob))) \/
  (∃c',acQ y8 ps.toList=some (.ref c')/\H c'=some (Az c' lq)/\∀f ob,H f=none->D0 X lq d params body scope c' ob->Q (.ref f) (upd H f (B4 f ob))))
structure BMain(mg:Str->Option Value)(h:Heap):Prop where
 ex:∃bm o,mg "__builtins__" = some (.ref bm)/\bm≠aeG/\h.get? bm=some o/\o.cls=.type "module" /\ o.dict=some aeG/\o.data=.plain
structure DB(d:Str)(params:Arguments)(scope:Scope):Prop where
 df:∀env,defaultsOf params env=([],[])
 cl:∀(env:Env) (cell:Addr),env.cells.lookup d=some cell->aeF scope env=pure [(d,cell)]
variable{lq d:Str}{y8:Pos}{P c:Addr}{params:Arguments}{body:Expr}
theorem qZ(S:DB d params scope)(hq:X.env.qual ++ "<lambda>" = lq)(BK:X.env.code=.ref c)(hC:abk X.K c P=true)(hB:BMain X.mg X.base)(hd:X.env.kindOf d=some .cell):PE X (.Lambda params body scope y8) (Gx X lq d y8 P params body scope):=by
 intro pins s σ H Q I h
 obtain⟨ps,eP,ht,h⟩:=h
 obtain⟨cell,AZ⟩:=I.ok.has d (.inl hd)
 have hP:s.heap.get? P=some (tabObj ps):=(I.y6 P _ eP).1
 have hg:s.heap.Ns aaM X.mg:=I.mod.glob.keeps I.bk
 have C:CodeHd s.heap c P:=PySem.W.codeHd_of_K I.Ea hC
 have Ug:aaM≠P:=λe=>by
  obtain⟨o,es,ep,g1,g2,_⟩:=hg
  rw[e,hP]at g1;cases g1;cases g2
 have hb:s.heap.BuiltinsAt X.mg P:=by
  obtain⟨bm,o,b1,b2,b3,b4,b5,b6⟩:=hB.ex
  refine⟨bm,o,b1,b2,λe=>?_,λe=>?_,I.bk _ _ b3,b4,b5,b6⟩
  .obtain⟨o',es,ep,g1,g2,_⟩:=hg
   rw[<- e,I.bk _ _ b3]at g1;cases g1
   rw[b6]at g2;cases g2
  .have:=I.bk _ _ b3
   rw[e,hP]at this;cases this;cases b4
 refine kla_eval (S.df _) ?_
 rw[hq]
 rcases h with ⟨T6,h⟩|⟨c',hf,DV,h⟩
 .refine kla_makeFunction (mg:=X.mg) (S.cl _ _ AZ) I.ok.glob hg BK C hP ht T6 Ug hb λc' HZ h' tk hx Fz zT QC Nn=>?_
  have Io:H c'=none:=I.y6.fresh Fz
  have nP:∀b,H b=none->b≠P:=λb n z=>by rw[z,eP]at n;cases n
  have nc:∀b o,s.heap.get? b=some o->b≠c':=λb o g=>aav (aaA (aak g) Fz)
  have Tu:c'≠P:=λz=>by rw[z,eP]at Io;cases Io
  have un:Un X.fs [] H (upd (upd H P (Aq P (ps++#[rawInt y8.line,rawInt y8.col,.ref c']))) c' (Az c' lq)) s.heap h':=by
   refine⟨λb o q n _ _=>hx b o (nP b n) q,λb o q n _ _=>⟨o.slots,hx b o (nP b n) q⟩,λb o q n _=>?_,λb o q _=>?_,λb xs q=>?_,λb o u q=>?_,λb qs q=>?_⟩
   .rw[ag (nc b o q),ag (nP b n)];exact n
   .by_cases z:b=P
    .subst z;exact⟨_,Nn⟩
    .exact⟨o,hx b o z q⟩
   .rw[ag (aw q Io),ag (λz=>by rw[z,eP]at q;cases q)];exact q
   .rw[ag (aw q Io),ag (λz=>by rw[z,eP]at q;cases q)];exact q
   .refine⟨#[],?_⟩
    rw[ag (aw q Io),ag (λz=>by rw[z,eP]at q;cases q),q];simp
  have y6:BD X.prog X.w (upd (upd H P (Aq P (ps++#[rawInt y8.line,rawInt y8.col,.ref c']))) c' (Az c' lq)) h':=λb u q=>by
   by_cases z:b=c'
   .subst z
    rw[ak]at q;cases q
    exact wR QC
   .rw[ag z]at q
    by_cases z2:b=P
    .subst z2
     rw[ak]at q;cases q
     exact my Nn
    .rw[ag z2]at q
     refine(I.y6 b u q).D4 (λe o he g=>hx e o (λy=>?_) g) (λe he=>?_) λe xs he=>?_
     .subst y
      rcases he with y|y
      .exact z2 y.symm
      .rw[eP]at y;cases y
     .rw[ag (aw he Io),ag (λy=>by rw[y,eP]at he;cases he)];exact he
     .rw[ag (aw he Io),ag (λy=>by rw[y,eP]at he;cases he)];exact he
  have I1:Inv X pins σ _ {s with heap:=h',toks:=tk}:=I.un un y6
  have So:=I1.y6.fresh (a:=h'.objs.size) (aal _)
  have fc:h'.objs.size≠c':=ab5 zT
  have fP:h'.objs.size≠P:=ab5 (aak Nn)
  have Il:H h'.objs.size=none:=by rw[ag fc,ag fP]at So;exact So
  refine⟨.ref h'.objs.size,_,I1.laid (t':=tk) (a:=h'.objs.size) (o:=B4 h'.objs.size (kla_obj "<lambda>" lq params body scope [(d,cell)] ((X.mg "__name__").getD .none) c' HZ)) (λb u g=>aac _ g) (aal _) (rO (aai _ rfl)),rfl,h c' _ _ Io Il (abW fc) Tu fP ⟨cell,HZ,AZ,rfl⟩⟩
 .refine kla_makeFunctionHit (mg:=X.mg) (S.cl _ _ AZ) I.ok.glob hg BK C hP ht hf hb λHZ h' tk kk hsz=>?_
  exact⟨.ref h'.objs.size,_,I.laid (t':=tk) (a:=h'.objs.size) (o:=B4 h'.objs.size (kla_obj "<lambda>" lq params body scope [(d,cell)] ((X.mg "__name__").getD .none) c' HZ)) (λb u g=>aac _ (kk b u g)) hsz (rO (aai _ rfl)),rfl,h _ _ (I.y6.fresh hsz) ⟨cell,HZ,AZ,rfl⟩⟩
structure Jn(ks:List (Int×Str))(n:Nat)(ix:List Nat):Prop where
 len:ix.length=n
 nd:ix.Nodup
 lt:∀i∈ix,i<n
 up:ix.Pairwise λi j=>EH ks i j=true
abbrev k0:Int×Str:=(0,⟨#[]⟩)
def Hn(X:Cx)(lq d:Str)(y8:Pos)(P:Addr)(params:Arguments)(body:Expr)(scope:Scope)(i:Nat)(σ:St)(Q:VK):VK:=λv H1=>∃(l:Addr) (ss:List Str) (dd:Addr) (kvs:List (Key×V)) (ad:List Addr) (ks:List (Int×Str)),
 v=.ref l/\zW X.K H1 l (ss.map V.str)/\ss.length<64/\σ[i]?=some (some (.ref dd))/\H1 dd=some (.dK kvs)/\ad.length=ss.length/\ks.length=ss.length/\(ks.map (·.2)).Nodup /\
 (∀j,j<ss.length->AK kvs (aas (ss.getD j ⟨#[]⟩))=some (.ref (ad.getD j 0))/\zW X.K H1 (ad.getD j 0) [.int (ks.getD j k0).1,.str (ks.getD j k0).2]) /\
 Gx X lq d y8 P params body scope σ H1 λ_ H2=>∀D ix,H2 D=none->Jn ks ss.length ix->Q (.ref D) (upd H2 D (.lst (ix.map λj=>V.str (ss.getD j ⟨#[]⟩))))
def Kf(X:Cx)(lq d:Str)(y8:Pos)(P:Addr)(params:Arguments)(body:Expr)(scope:Scope)(i:Nat)(te:TE):TE:=λσ H Q=>te σ H (Hn X lq d y8 P params body scope i σ Q)
variable{K:aag}{xs:List V}
theorem hJ{H2:Hp}{ps:Array Value}(eP:H P=some (Aq P ps))(k:∀b o,H b=some o->b≠P->H2 b=some o)(h:zW K H a xs):zW K H2 a xs:=by
 rcases h with (h|⟨o,h⟩)|h
 .exact .inl (.inl (k a _ h λz=>by rw[z,eP]at h;cases h))
 .exact .inl (.inr ⟨o,k a _ h λz=>by rw[z,eP]at h;cases h⟩)
 .exact .inr h
variable{x:Str}{p p1 p2 p3 Dl pos:Pos}{e:Expr}{te:TE}{k:Nat}
variable{eQ:List Value}
theorem hV{m:Int}{s:Str}(rv:oF [.int m,.str s] eQ)(t:IsTup h a eQ.toArray):za h a (m,s):=by
 obtain⟨o,g1,g2,n,g3⟩:=t
 cases rv with
 |cons r1 r2=>
  cases r2 with
  |cons r2 r3=>
   cases r3
   obtain⟨t,rfl⟩:=r1
   obtain⟨u,rfl⟩:=r2
   exact⟨o,n,t,u,g1,g2,g3⟩
theorem tK(S:DA x d params scope)(S2:DB d params scope)(hr:zy k X.A)(hg:Gl X "sorted")(hm:X.mg "sorted" = none)(hq:X.env.qual ++ "<lambda>" = lq)(BK:X.env.code=.ref c)(hC:abk X.K c P=true)(hB:BMain X.mg X.base)
  (hi:X.N[i]?=some d) (hd:X.env.kindOf d=some .cell) (hv:Ek X.env.scope d) (he:PE X e te)
  (hs:aam [e] X.env=(false,eval e X.env)::aam [] X.env:=by rfl)
  (h1:backTo pos (aam [e] X.env)=(false,eval e X.env)::backTo pos (aam [] X.env):=by rfl) (h2:(backTo pos (aam [e] X.env)).any (·.1)=false:=by rfl) :
  PE X (.Call (.Name "sorted" p) [e] [⟨some "key",.Lambda params (.Subscript (.Name d p1) (.Name x p2) p3) scope y8,Dl⟩] pos) (Kf X lq d y8 P params (.Subscript (.Name d p1) (.Name x p2) p3) scope i te):=by
 intro pins s σ H Q I h
 refine acX (cV I hg hm boot_sorted ?_)
 refine callWith_kw (zC ((aY he bn hs) pos pins s σ H (λvs H1=>match vs with|[v]=>Hn X lq d y8 P params (.Subscript (.Name d p1) (.Name x p2) p3) scope i σ Q v H1|_=>False) I h) λus s1 ⟨vs,H1,I1,r1,q1⟩=>?_) h1 h2
 dsimp only at q1
 split at q1
 case h_2=>exact q1.elim
 obtain⟨l,ss,dd,kvs,ad,ks,rfl,hl,Ci,hσ,GL,l1,l2,nd,hk,hL⟩:=q1
 obtain⟨u,rfl,ru⟩:=r1.one
 cases ru
 obtain⟨ps,eP,hL⟩:=hL
 have Rn:dd≠P:=λz=>by rw[z,eP]at GL;cases GL
 have lam:Gx X lq d y8 P params (.Subscript (.Name d p1) (.Name x p2) p3) scope σ H1 λfv H2=>∃f c' ob,fv=.ref f/\H2 f=some (B4 f ob)/\D0 X lq d params (.Subscript (.Name d p1) (.Name x p2) p3) scope c' ob/\H2 c'=some (Az c' lq)/\(∀b o,H1 b=some o->b≠P->H2 b=some o) /\
   ∀D ix,H2 D=none->Jn ks ss.length ix->Q (.ref D) (upd H2 D (.lst (ix.map λj=>V.str (ss.getD j ⟨#[]⟩)))):=by
  refine⟨ps,eP,hL.1,?_⟩
  rcases hL.2 with ⟨g1,g2⟩|⟨c',g1,g2,g3⟩
  .refine .inl ⟨g1,λc' f ob a1 a2 a3 a4 a5 a6=>⟨f,c',ob,rfl,ak,a6,?_,λb o hb hP=>?_,g2 c' f ob a1 a2 a3 a4 a5 a6⟩⟩
   .rw[ag a3,ak]
   .rw[ag (aw hb a2),ag (aw hb a1),ag hP];exact hb
  .refine .inr ⟨c',g1,g2,λf ob a1 a2=>⟨f,c',ob,rfl,ak,a2,?_,λb o hb _=>?_,g3 f ob a1 a2⟩⟩
   .rw[ag (aw g2 a1)];exact g2
   .rw[ag (aw hb a1)];exact hb
 refine zC ((kA (qZ S2 hq BK hC hB hd) qT) pos pins s1 σ H1 (λvs H2=>match vs with|[fv]=>∃f c' ob,fv=.ref f/\H2 f=some (B4 f ob)/\D0 X lq d params (.Subscript (.Name d p1) (.Name x p2) p3) scope c' ob/\H2 c'=some (Az c' lq)/\(∀b o,H1 b=some o->b≠P->H2 b=some o) /\
   (∀D ix,H2 D=none->Jn ks ss.length ix->Q (.ref D) (upd H2 D (.lst (ix.map λj=>V.str (ss.getD j ⟨#[]⟩)))))|_=>False) I1 lam) λws s2 ⟨zs,H2,I2,rz,q2⟩=>?_
 dsimp only at q2
 split at q2
 case h_2=>exact q2.elim
 obtain⟨f,c',ob,rfl,ef,⟨cell,HZ,AZ,rfl⟩,ec,keep,hQ⟩:=q2
 obtain⟨u,rfl,ru⟩:=rz.one
 cases ru
 show wpAny _ _ (call (.builtin "sorted") [.ref l] [(aaz "key",.ref f)]) _ _ _
 obtain⟨eQ,rv,⟨o,g1,g2,n0,g3⟩,hz⟩:=I2.tuple (hJ eP keep hl)
 have hlen:eQ.length=ss.length:=by have:=rv.length;rw[aae]at this;exact this.symm
 have OC:∀j,j<ss.length->∃t,eQ.getD j abh=.str (ss.getD j ⟨#[]⟩) t:=λj hj=>by
  obtain⟨u,hu,ru⟩:=rv.get (i:=j) (show (ss.map V.str)[j]?=some (.str (ss.getD j ⟨#[]⟩))by rw[aaj,aab hj,aad,aab hj];rfl)
  obtain⟨t,rfl⟩:=ru
  exact⟨t,by rw[aad,hu];rfl⟩
 have cellAt:s2.heap.IsCell cell (some (.ref dd)):=by
  obtain⟨m,_,K0⟩:=I2.loc
  obtain⟨u,ru,lk⟩:=K0 i d _ hi hσ hv
  cases ru
  rcases lk with ⟨y,_⟩|⟨_,c2,y1,y2⟩
  .rw[hd]at y;cases y
  .rw[AZ]at y1;cases y1;exact y2
 have lim:s2.heap.NoLimit:=I2.mod.nolimit.keeps I2.bk
 refine rP (vs:=eQ) (ad:=ad) (ks:=ks) g1 g2 g3 (by omega) (by omega) (by omega) nd (λj hj=>?_) (λj hj h tk kk=>?_) λD VB h' tk cc ix k1 k2 i1 i2 i3 i4 i5 i6=>?_
 .obtain⟨zU,G5,J7,_⟩:=I2.tuple (hJ eP keep (hk j (by omega)).2)
  exact hV G5 J7
 .obtain⟨t,et⟩:=OC j (by omega)
  rw[et]
  have HE:∀b o,s2.heap.get? b=some o->h.get? b=some o:=λb o g=>kk b o trivial g
  have I3:Inv X pins σ H2 {s2 with heap:=h,toks:=tk}:=I2.kept HE
  refine m3 (z:={s2 with heap:=h,toks:=tk}) S I3 ?_ (HE _ _ (I2.y6 f _ ef).1) ?_ (lim.keeps HE) ?_ (keep _ _ GL Rn) (hk j (by omega)).1
  .have:=hr.dp
   show X.A.depth<recursionLimit
   omega
  .exact(I2.y6 c' _ ec).2.2 _ _ (I2.y6 c' _ ec).1 λo g=>HE _ _ g
  .obtain⟨o,y,r⟩:=cellAt
   exact⟨o,HE _ _ y,r⟩
 .have Mh:s2.heap.get? D=none:=by
   cases y:s2.heap.get? D with
   |none=>rfl
   |some o=>exact absurd (aaA (aak (k1 D o y)) k2) (abi _)
  have J:Inv X pins σ H2 {s2 with heap:=s2.heap,toks:=tk}:=I2.kept λ_ _ g=>g
  obtain⟨m,hm,_⟩:=I2.loc
  have zT:∀y∈ix,y<ss.length:=λy hy=>by have:=i3 y hy;omega
  have pick:=rv.pick ix λy hy=>by rw[aae];exact zT y hy
  have ep:(ix.map λy=>(ss.map V.str).getD y V.oR)=ix.map λj=>V.str (ss.getD j ⟨#[]⟩):=aa9 λy hy=>by
   have OE:=zT y hy
   rw[aad,aaj,aab OE,aad,aab OE];rfl
  rw[ep]at pick
  refine⟨.ref D,_,J.JF (xs:=ix.map λj=>V.str (ss.getD j ⟨#[]⟩)) hm (hm.keeps i6) (λb o _ g=>i6 b o g) Mh ⟨?_,ix.map λy=>eQ.getD y abh,cc,pick,i5⟩,rfl,hQ D ix (I2.y6.dead Mh) ⟨by omega,i2,zT,i4⟩⟩
  rw[aae,i1,aaG];omega
end L2
namespace L2
open PySem PySem.Spec PyProof.Rows
variable{P:aaH}{w:World}{K:aag}{mg:Str->Option Value}{base:Heap}
variable{x qual:Str}{st:Stmt}{f:Addr}{fd:ab0}{N ps:List Str}{k:Nat}{sp:Sp}
theorem FP.Tr(F:FP K x qual st f fd)(S:aA N ps (aq st))(len:∀vs H Q E,sp vs H Q E->vs.length=ps.length)
  (ES:∀(zr:Value),fd.code=zr->∀(A:Around) (outer:List Env) (s:Shared) (H:Hp) (vs:List V) (Q:VK) (E:XK),zy k (A.deeper (envOfC qual (aq st) s.heap.objs.size f zr))->sp vs H Q E ->
   ∃t,FN (C2 Ak P w K mg base N qual (aq st) f zr A outer s H E).Hz (bh st) t/\t {nx:=λ_ H'=>Q .oR H',rt:=Q} (start N vs) H):zf P w K mg base Ak (k+1) f fd ps sp:=by
 obtain⟨oc,od,kV,doc,pm,an,zr,ct,IG,rfl,lk,Dr⟩:=F.ex
 refine uT lk Dr S len λA outer s H vs Q E hr Ih=>?_
 obtain⟨t,h,q⟩:=ES zr rfl A outer s H vs Q E hr Ih
 exact⟨t,h.Hz,q⟩
variable{X:Cx}{pins:List (Addr×Obj)}{σ:St}{H:Hp}{s:Shared}{n:Nat}{v:V}
theorem Inv.hide(I:Inv X pins σ H s){nm:Str}(hN:X.N[n]?=some nm)(hv:¬ Ek X.env.scope nm):Inv X pins (σ.set n (some v)) H s:=by
 refine⟨I.ok,I.os,I.bare,I.base,?_,I.cell,I.free,I.Bc,I.pin,I.y6,by rw[afm];exact I.len⟩
 obtain⟨m,hn,hl⟩:=I.loc
 refine⟨m,hn,λi x u e1 e2 e3=>?_⟩
 by_cases z:n=i
 .subst z
  rw[hN]at e1;cases e1
  exact absurd e3 hv
 .rw[aaI z]at e2
  exact hl i x u e1 e2 e3
end L2
namespace Q
open PySem L2 PyProof.Rows
def Gg(n:Nat)(c:PV)(xs:List PV):En:=zF n xs++[some ⟨2,c⟩]
def Ou(n:Nat)(P:PV->Prop)(e:En):Prop:=match e[n]? with
 |some (some ⟨2,c⟩)=>P c
 |_=>False
def Eh(n:Nat)(P:PV->PV->Prop):Wd:={nx:=λe=>Ou n (P .oR) e,rt:=λx e=>Ou n (P x) e}
def BE(n:Nat)(u:WS):CV:=λc xs P=>u (Eh n P) (Gg n c xs)
def spT(M:Md)(n:Nat)(D:CV):Sp:=λvs H Q _=>∃(F:Hp) (a:Addr) (l:List Addr) (c:PV) (xs:List PV) (P:PV->PV->Prop),bY F H/\nE M.K F vs xs/\xs.length=n /\
 M.ob.P F H a l c/\(∀b∈l,H b≠none/\F b=none)/\D c xs P /\
 ∀r c' v F' H' l',P r c'->(∀b o,H b=some o->b∉l->H' b=some o)->(∀b,H b≠none->H' b≠none)->bY F F'->bY F' H'->(∀a,F' a≠none->F a≠none\/H a=none)->M.ob.P F' H' a l' c'->(∀b∈l',H' b≠none/\F' b=none)->(∀b∈l',b∈l\/H b=none)->Rep M.K F' v r->Q v H'
variable{M:Md}{F H:Hp}{N:List Str}{ws:List V}{xs:List PV}{a:Addr}{l:List Addr}{c:PV}{n:Nat}
theorem pX(sF:bY F H)(r:nE M.K F ws xs)(hN:N.length=n+1)(hl:xs.length<=n)(ho:M.ob.P F H a l c)(hb:∀b∈l,H b≠none/\F b=none):
  tO M ⟨H,F,l,λi=>if i=n then some a else none,λb h=>(hb b h).1⟩ F ((start N ws).set n (some (.ref a))) H (Gg n c xs):=by
 have GJ:ws.length<=n:=by rw[r.len];exact hl
 have hs:(start N ws).length=n+1:=by rw[gF (by omega),hN]
 have he:(zF n xs).length=n:=fV hl
 refine⟨sF,λb o h _=>h,λb h=>h,am,λa h=>.inl h,?_,λi=>if i=n then l else [],λi s h=>?_,λi b h=>?_,λi j b CN h z=>?_,λi b s h _ _=>?_⟩
 .unfold Gg
  rw[aaJ,he,afm,hs];rfl
 .rcases aeM i n with z|z|z
  .unfold Gg at h
   rw[aax (by omega)]at h
   obtain⟨x,hx,rfl⟩:=fW h
   obtain⟨v,hv,rv⟩:=r.get hx
   refine⟨v,?_,.inl ⟨rfl,if_neg (by omega),rv⟩⟩
   rw[aaI (by omega)]
   exact cT hv
  .subst z
   unfold Gg at h
   rw[acb (by omega),he,Nat.sub_self]at h
   have h:s=⟨2,c⟩:=by simpa using h.symm
   subst h
   refine⟨.ref a,?_,.inr (.inr (.inl ⟨.inl rfl,a,rfl,λc hc=>.inl (by rwa [if_pos rfl]at hc),by rw[if_pos rfl];exact ho⟩))⟩
   rw[acz (by omega)]
  .unfold Gg at h
   rw[aap (by rw[aaJ,he];simp;omega)]at h;cases h
 .split at h
  .exact hb b h
  .simp at h
 .split at h
  .split at z
   .rename_i h1 h2;exact CN (h1.trans h2.symm)
   .simp at z
  .simp at h
 .dsimp only at h
  split at h
  .rename_i e;subst e;cases h
   rw[acz (by omega)]
  .cases h
variable{P:aaH}{w:World}{K:aag}{mg:Str->Option Value}{base:Heap}{ob:Ap}
variable{x qual:Str}{st:Stmt}{f:Addr}{fd:ab0}{ps:List Str}{k:Nat}{u:WS}
theorem dS{nm:Str}(F:FP K x qual st f fd)(S:aA N ps (aq st))(hN:N.length=n+1)(hn:ps.length<=n)(QH:N[n]?=some nm)(hv:¬ Ek (aq st) nm)
  (hb:∀(zr:Value),fd.code=zr->∀(A:Around) (outer:List Env) (s:Shared) (H:Hp) (E:XK),zy k (A.deeper (envOfC qual (aq st) s.heap.objs.size f zr))->CG ob (C2 Ak P w K mg base N qual (aq st) f zr A outer s H E).Hz (bh st) u) :
  zf P w K mg base Ak (k+1) f fd ps (spT ⟨P,w,K,ob⟩ ps.length (BE n u)):=by
 refine F.Tr S (λvs H Q E h=>?_) (λzr DJ A outer s H vs Q E hr h=>?_)
 .obtain⟨F,a,l,c,xs,P,_,r,hl,_⟩:=h
  rw[r.len];exact hl
 .obtain⟨F,a,l,c,xs,P',sF,r,hl,ho,GP,hD,kk⟩:=h
  obtain⟨t,ht,kt⟩:=(hb zr DJ A outer s H E hr).ex
  have fin:∀(x:PV) (env:En) (v:V) (σ:L2.St) (F' H':Hp),Ou n (P' x) env->bY F F'->tO ⟨P,w,K,ob⟩ ⟨H,F,l,λi=>if i=n then some a else none,λb h=>(GP b h).1⟩ F' σ H' env->Rep K F' v x->Q v H':=λx env v σ F' H' p s1 K1 rv=>by
   unfold Ou at p
   split at p
   .rename_i c' e
    obtain⟨fp,L⟩:=K1.sl
    obtain⟨v0,Eo,ok⟩:=L.at' n _ e
    have hσ:=L.oa n a _ (if_pos rfl) e rfl
    rw[hσ]at Eo;cases Eo
    rcases ok with ⟨k0,_⟩|⟨k0,_⟩|⟨_,a',e',h1,h2⟩|⟨k0,_⟩
    .cases k0
    .cases k0
    .cases e'
     exact kk x _ v F' H' (fp n) p (λb o h1 h2=>K1.sG b o h1 h2) (λb h=>K1.pr b h) s1 K1.sF K1.nw h2 (λb hb=>L.al n b hb) (λb hb=>h1 b hb) rv
    .cases k0
   .exact p.elim
  refine⟨λD σ H=>t D (σ.set n (some (.ref a))) H,λpins s' σ H' D I q=>ht pins s' _ H' D (I.hide QH hv) q,kt ⟨H,F,l,λi=>if i=n then some a else none,λb h=>(GP b h).1⟩ F ((start N vs).set n (some (.ref a))) H (Gg n c xs) (Eh n P') _ (pX (M:=⟨P,w,K,ob⟩) sF r hN (by omega) ho GP) hD ⟨λenv σ F' H' p s1 K1=>?_,λx env v σ F' H' p s1 K1 rv=>?_,λ_ _ _ _ p=>p.elim,λ_ _ _ _ p=>p.elim,λ_ _ _ _ _ _ p=>p.elim,λ_ _ _ _ _ _ _ p=>p.elim⟩⟩
  .exact fin .oR env .oR σ F' H' p s1 K1 .oR
  .exact fin x env v σ F' H' p s1 K1 rv
variable{Bh:Addr}{D:CV}
theorem dB{D':CV}(F:zf P w K mg base Ak k Bh fd ps (spT ⟨P,w,K,ob⟩ n D))(h:∀c xs P,D' c xs P->D c xs P):zf P w K mg base Ak k Bh fd ps (spT ⟨P,w,K,ob⟩ n D') :=
 F.imp λvs H Q E q=>by
  obtain⟨F,a,l,c,xs,P,a1,a2,a3,a4,a5,a6,a7⟩:=q
  exact⟨F,a,l,c,xs,P,a1,a2,a3,a4,a5,h _ _ _ a6,a7⟩
def zw(D:CV)(j:Nat)(fa:WA):WE:=λenv P=>fa env λxs e=>match e[j]? with
 |some (some ⟨2,c⟩)=>D c xs λr c'=>P r (e.set j (some ⟨2,c'⟩))
 |some (some ⟨4,c⟩)=>D c xs λr c'=>P r (e.set j (some ⟨4,c'⟩))
 |_=>False
variable{X:Cx}{DO:CV}{p pos:Pos}{e:Expr}{es:List Expr}{fa:WA}
theorem uw(j:Nat)(F:zf X.prog X.w X.K X.mg X.base Ak k Bh fd ps (spT (md ob X) n DO))(hr:zy k X.A)(hm:X.mg x=some (.ref Bh))(hk:abU X.K (.ref Bh)=true)(hb:Binds X.K fd ps [])(ha:Et ob X (e::es) fa)(hn:es.length+1=n:=by rfl)(hg:Gl X x:=by rfl)
  (Cr:(x==("__debug__" : Str))=false:=by decide) (he:aam (e::es) X.env=(false,eval e X.env)::aam es X.env:=by rfl) (Bb:(backTo pos (aam es X.env)).any (·.1)=false:=by rfl) :
  zq ob X (.Call (.Name x p) (e::es) [] pos) (zw DO j fa):=by
 obtain⟨t,ht,kt⟩:=ha.ex
 refine⟨_,fo (E:=E0) F hr hg hm hk hb .nil ED ht Cr he Bb,λZ F σ H env P Q K hf kk=>?_⟩
 refine kt Z F σ H env _ _ K hf λxs e1 vs F1 H1 p hl s1 K1 r1=>?_
 show spT (md ob X) n DO (vs++[]) H1 Q E0
 rw[abN]
 have fin:∀(kd:Nat) (c:PV),kd=2\/kd=4->e1[j]?=some (some ⟨kd,c⟩)->DO c xs (λr c'=>P r (e1.set j (some ⟨kd,c'⟩)))->spT (md ob X) n DO vs H1 Q E0:=λkd c I0 ei p=>by
  obtain⟨fp,L⟩:=K1.sl
  obtain⟨v0,Eo,ok⟩:=L.at' j _ ei
  rcases ok with ⟨k0,_⟩|⟨k0,_⟩|⟨_,a,rfl,_,ho⟩|⟨k0,_⟩
  .rcases I0 with rfl|rfl<;>cases k0
  .rcases I0 with rfl|rfl<;>cases k0
  .refine⟨F1,a,fp j,c,xs,_,K1.sF,r1,by rw[hl];exact hn,ho,λb hb=>L.al j b hb,p,λr c' v F' H' l' pr kp pre sF ID nw CM GJ IX rv=>?_⟩
   exact kk r _ v F' H' pr (ah s1 sF) (K1.II I0 L ei Eo kp pre sF ID nw CM GJ IX).1 rv
  .rcases I0 with rfl|rfl<;>cases k0
 split at p
 .rename_i ei;exact fin _ _ (.inl rfl) ei p
 .rename_i ei;exact fin _ _ (.inr rfl) ei p
 .exact p.elim
end Q
namespace Q
open PySem L2 PyProof.Rows PySem.W
variable{p:Pos}
theorem iV{q:Pos}(h1:p.line=q.line)(h2:p.col=q.col)(l:List Value):acQ p l=acQ q l:=by
 fun_induction acQ p l with
 |case1 line t col u c rest h=>rw[acQ,<- h1,<- h2,if_pos h]
 |case2 line t col u c rest h ih=>rw[acQ,<- h1,<- h2,if_neg h];exact ih
 |case3 l h=> 
  unfold acQ
  split
  .rename_i a b c d e f
   exact absurd rfl (h _ _ _ _ _ _)
  .rfl
variable{α:Type}{j:Nat}
theorem tj{l:List α}{y:α}(h:l[j]?=some y):l.set j y=l:=by
 apply ac6
 intro i
 by_cases z:j=i
 .subst z
  rw[acz (List.getElem?_eq_some_iff.mp h).1,h]
 .rw[aaI z]
variable{lq:Str}{ln co:Nat}{a b:Addr}
theorem oH{Qc:Str}{R0 SI:Nat}(h:zZ lq ln co a=zZ Qc R0 SI b):lq=Qc/\ln=R0/\co=SI/\a=b:=by
 unfold zZ at h
 injection h with h
 injection h with h1 h
 injection h with h2 h
 injection h with h3 h
 injection h with h4 _
 injection h1 with h1
 injection h2 with h2
 injection h3 with h3
 injection h4 with h4
 exact⟨h1,by omega,by omega,by exact Int.ofNat.inj h4⟩
variable{X:Cx}{d x:Str}{y8 p1 p2 p3 Dl pos:Pos}{T c:Addr}{params:Arguments}{scope:Scope}{e:Expr}{f:WE}{i k:Nat}{ob:Ap}
end Q
namespace L2
open PySem PySem.Spec PyProof.Rows
end L2
namespace Q
open PySem L2 PyProof.Rows
end Q
namespace L2
open PySem PySem.Spec PyProof.Rows
variable{X:Cx}{pins:List (Addr×Obj)}{σ:St}{H:Hp}{s:Shared}{kvs:List (Key×V)}{o:Obj}
theorem Inv.Km{d:Addr}(I:Inv X pins σ H s)(e:H d=some (.dK kvs))(ho:s.heap.get? d=some o):Inv X pins σ (upd H d (.BB o (.dK kvs))) s:=by
 have un:Un X.fs [] H (upd H d (.BB o (.dK kvs))) s.heap s.heap:=by
  refine⟨λb u q n _ _=>q,λb u q n _ _=>⟨u.slots,q⟩,λb u q n _=>?_,λb u q _=>⟨u,q⟩,λb xs q=>?_,λb u v q=>?_,λb qs q=>⟨#[],?_⟩⟩
  .rw[ag (λz=>by rw[z,e]at n;cases n)];exact n
  .rw[ag (λz=>by rw[z,e]at q;cases q)];exact q
  .rw[ag (λz=>by rw[z,e]at q;cases q)];exact q
  .rw[ag (λz=>by rw[z,e]at q;cases q),q];simp
 have y6:BD X.prog X.w (upd H d (.BB o (.dK kvs))) s.heap:=λb u q=>by
  have st:∀c v,H c=some v->zi X.prog X.w (upd H d (.BB o (.dK kvs))) s.heap c v:=λc v hc=>
   (I.y6 c v hc).D4 (λ_ _ _ g=>g) (λx hx=>by rw[ag (λz=>by rw[z,e]at hx;cases hx)];exact hx) λx xs hx=>by rw[ag (λz=>by rw[z,e]at hx;cases hx)];exact hx
  by_cases z:b=d
  .subst z
   rw[ak]at q;cases q
   exact⟨ho,st b _ e⟩
  .rw[ag z]at q
   exact st b u q
 have:=I.un (t':=s.toks) un y6
 exact this
def Ry(d:Addr)(o:Obj)(kvs:List (Key×V)):It :=
 ⟨λi H=>H d=some (.BB o (.dK kvs))/\i<kvs.length,
  λi H v H'=>∃p k x,v=.ref p/\H p=none/\H'=upd H p (.tup [kV k,x])/\kvs[i]?=some (k,x),
  λi H=>H d=some (.BB o (.dK kvs))/\kvs.length<=i⟩
variable{vs:List (Key×Value)}
theorem xN(r:KV kvs vs):∀{i:Nat} {k:Key} {x:V},kvs[i]?=some (k,x)->∃u,vs[i]?=some (k,u)/\RelV x u:=by
 induction r with
 |nil=>intro i k x e;simp at e
 |@cons p q ps qs h t ih=>
  intro i k x e
  cases i with
  |zero=>
   simp only[ab4,aeK]at e
   subst e
   obtain⟨k',u⟩:=q
   obtain⟨h1,h2⟩:=h
   dsimp only at h1 h2
   subst h1
   exact⟨u,rfl,h2⟩
  |succ i=>
   simp only[act]at e ⊢
   exact ih e
variable{P:aaH}{w:World}{K:aag}{elts:List Expr}{pos:Pos}{it:Addr}
theorem pS{x1:_}{d:Addr}{es:Array DictEntry}{ep:Nat}(r:KV kvs vs)(hx:o.ExactDict)(HR:o.data=.dict es ep)(hk:KeysOf (aI P w) es)(hp:Pairs (aI P w) es.toList vs)(hn:(vs.map (·.1)).Nodup):
  Turn P w K (.Tuple elts x1 pos) (Ry d o kvs) [it] it (λn h=>∃a b,IsItemIter h it d n vs.length ep a b) where
 mem:=by simp
 obj:=λn h ⟨a,b,Z⟩ c hc=>by
  rw[List.mem_singleton.mp hc]
  exact⟨_,Z,λv e=>by cases (show abO _=aey v from e)⟩
 keep:=λn h h' ⟨a,b,Z⟩ k=>⟨a,b,k it (by simp) _ Z⟩
 item:=by
  intro X hP hw hK hc n pins s σ H E I hf Z hg
  subst hP hw hK
  obtain⟨ka,kb,Z⟩:=Z
  obtain⟨hd,zT⟩:=hg
  have ho:s.heap.get? d=some o:=(I.y6 d _ hd).1
  have D:s.heap.DictAt (aI X.prog X.w) d vs ep:=⟨o,es,ho,hx,HR,hk,hp,hn⟩
  obtain⟨⟨k,x⟩,Sg⟩:∃q,kvs[n]?=some q:=⟨_,aab zT⟩
  obtain⟨u,hu,ru⟩:=xN r Sg
  have CQ:H s.heap.objs.size=none:=I.y6.fresh (aal _)
  have Gf:it<s.heap.objs.size:=aak Z
  have T5:s.heap.objs.size≠it:=ab5 Gf
  refine wpAny_pyNext_items_item Z D hu λkey h' q1 q2 q3 q4 kk=>?_
  have rk:RelV (kV k) key:=by
   rcases aR q1 with ⟨i,t,rfl,rfl⟩|⟨y,t,rfl,rfl⟩
   .exact⟨t,rfl⟩
   .exact⟨t,rfl⟩
  refine⟨_,rfl,wpAny_letOwnedTupleGo_items (s:={s with heap:=h'}) q2 λh2 w1 w2=>?_⟩
  have I1:Inv X pins σ (upd H s.heap.objs.size (.tup [kV k,x])) {s with heap:=s.heap.push {cls:=.type "tuple",data:=.seq #[key,u]}} :=
   I.laid (t':=s.toks) (λb u e=>aac _ e) (aal _) ⟨by show 2<=sizeLine;decide,[key,u],.cons rk (.cons ru .nil),⟨_,aai _ rfl,rfl,_,rfl⟩⟩
  have Il:∀c∈[it],BG X pins (upd H s.heap.objs.size (.tup [kV k,x])) c:=λc hc=>by
   rw[List.mem_singleton.mp hc]
   have:=hf it (by simp)
   exact⟨by rw[ag (abW T5)];exact this.1,this.2⟩
  have I2:Inv X pins σ (upd H s.heap.objs.size (.tup [kV k,x])) {s with heap:=h2}:=by
   refine I1.By (t':=s.toks) (h':=h2) (λc q hc e=>?_) Il
   have OL:c≠it:=λe=>hc (by simp[e])
   refine w2.extBut _ _ OL ?_
   by_cases GN:c=s.heap.objs.size
   .subst GN
    have:(s.heap.push {cls:=.type "tuple",data:=.seq #[key,u]}).get? s.heap.objs.size=some {cls:=.type "tuple",data:=.seq #[key,u]}:=aai _ rfl
    have e':some {cls:=.type "tuple",data:=.seq #[key,u]}=some q:=this.symm.trans e
    rw[<- e'];exact q3
   .exact kk c q OL ((aeR _ _ _ GN).symm.trans e)
  exact⟨.ref s.heap.objs.size,_,I2,rfl,⟨_,k,x,rfl,CQ,rfl,Sg⟩,⟨_,_,w1⟩,λc hc=>(Il c hc).1⟩
 done:=by
  intro X hP hw hK hc n pins s σ H E I hf Z hg
  subst hP hw hK
  obtain⟨ka,kb,Z⟩:=Z
  obtain⟨hd,hle⟩:=hg
  have ho:s.heap.get? d=some o:=(I.y6 d _ hd).1
  have D:s.heap.DictAt (aI X.prog X.w) d vs ep:=⟨o,es,ho,hx,HR,hk,hp,hn⟩
  have hl:=r.length
  refine wpAny_pyNext_items_end (I.ok.hd hc) Z D (aap (by omega)) λh' kk=>⟨rfl,I.By (t':=s.toks) (λc q hc e=>kk c q (λz=>hc (by simp[z])) e) hf⟩
 self:=λ_ _ _ _ _ ⟨_,_,Z⟩ h=>PySem.W.kcp_self Z h
def KR(to:TE):TI:=λσ H R=>to σ H λv H1=>∃d kvs,v=.ref d/\H1 d=some (.dK kvs)/\∀o,R (Ry d o kvs) (upd H1 d (.BB o (.dK kvs)))
variable{Cj:Pos}
theorem tI{x1:_}{o:Expr}{to:TE}{apos:Pos}(ho:PE X o to)
  (Ay:acL o "items" X.env (eval o X.env)=eval o X.env:=by rfl) (Ax:(apos.endLine==pos.line)=true:=by rfl) :
  PI X (.Tuple elts x1 Cj) (.Call (.Attribute o "items" apos) [] [] pos) (KR to):=by
 intro pins s σ H R I h
 refine wpAny_Call_method0_late Ay Ax (zC (ho pins s σ H _ I h) λv s1 ⟨x,H1,I1,r1,q1⟩=>?_)
 obtain⟨d,kvs,ex,hd,q1⟩:=q1
 subst ex
 cases r1
 obtain⟨t1,t2,t3⟩:=x8 I1 (.inl ⟨kvs,.inl hd⟩)
 refine⟨"dict", "dict.items",PySem.F.plainAttrs_dict,PySem.F.slot_dict_items,PySem.F.type_dict_items,t1,t2,adW rfl (PySem.evalArgs_none ?_)⟩
 obtain⟨hz,_,vs,rel,dd⟩:=jS I1.y6 hd
 refine call_meetsIn PySem.F.slot_dict_items dd.typeIs PySem.F.entry_dict_items (PySem.F.args_dict_items_1 _) (meets_dict_items (aI X.prog X.w) d t3) ⟨⟨vs,dd⟩,?_⟩
 obtain⟨o,es,ep,ho,hx,HR,hk,hp,hn⟩:=dd
 have D:s1.heap.DictAt (aI X.prog X.w) d vs ep:=⟨o,es,ho,hx,HR,hk,hp,hn⟩
 refine wpAny_pyIter_items (s:={s1 with heap:=s1.heap.push {cls:=.type "dict_items",data:=.fields #[.ref d]}}) (v:=s1.heap.objs.size) (d:=d) ⟨_,aai _ rfl,rfl,rfl⟩ (D.push _) ?_
 have I2:Inv X pins σ H1 {s1 with heap:=(s1.heap.push {cls:=.type "dict_items",data:=.fields #[.ref d]}).push {cls:=.type "dict_itemiterator",data:=.fields #[.none,.bool false,.ref d,.int 0 0,.int vs.length 0,.int ep 0,.none,.none]}} :=
  I1.kept (t':=s1.toks) λb u e=>aac _ (aac _ e)
 have I3:=I2.Km hd (o:=o) (aac _ (aac _ ho))
 have hsz:(s1.heap.push {cls:=.type "dict_items",data:=.fields #[.ref d]}).objs.size=s1.heap.objs.size+1:=abf ..
 have Fz:s1.heap.objs.size<=(s1.heap.push {cls:=.type "dict_items",data:=.fields #[.ref d]}).objs.size:=by omega
 have Ik:H1 (s1.heap.push {cls:=.type "dict_items",data:=.fields #[.ref d]}).objs.size=none:=I1.y6.fresh Fz
 refine⟨_,[_],_,_,_,rfl,I3,pS (it:=(s1.heap.push {cls:=.type "dict_items",data:=.fields #[.ref d]}).objs.size) rel hx HR hk hp hn,⟨_,_,aai _ rfl⟩,λb hb=>?_,q1 o⟩
 rw[List.mem_singleton.mp hb]
 exact I1.EU Fz (by rw[ag (λz=>by rw[z,hd]at Ik;cases Ik)];exact Ik)
end L2
namespace Q
open PySem L2 PyProof.Rows
def kP:Key->PV
 |.inl i=>.int i
 |.inr x=>.str x
def EE(q:Key×PV):PV:=.tup [kP q.1,q.2]
variable{K:aag}{F:Hp}
theorem xV:∀k:Key,Rep K F (kV k) (kP k)
 |.inl i=>.int i
 |.inr x=>.str x
variable{vs:List (Key×V)}{xs:List (Key×PV)}
theorem yV.get(h:yV K F vs xs):∀{i:Nat} {k:Key} {x:PV},xs[i]?=some (k,x)->∃v,vs[i]?=some (k,v)/\Rep K F v x:=by
 induction h using yV.ind with
 |nil=>intro i k x e;simp at e
 |cons a r ih=>
  intro i k x e
  cases i with
  |zero=>
   simp only[ab4,aeK,Prod.mk.injEq]at e ⊢
   obtain⟨rfl,rfl⟩:=e
   exact⟨_,⟨rfl,rfl⟩,a⟩
  |succ i=>
   simp only[act]at e ⊢
   exact ih e
variable{M:Md}
theorem x6{d:Addr}{o:Obj}(h:F d=some (.BB o (.dK vs)))(r:yV M.K F vs xs):DN M (Ry d o vs) F (xs.map EE):=by
 refine⟨λZ i σ env F' H x s K e=>?_,λZ i σ env F' H s K hl=>⟨K.sF _ _ (s _ _ h),by rw[r.len];simpa using hl⟩⟩
 rw[aaj]at e
 cases ez:xs[i]? with
 |none=>rw[ez]at e;cases e
 |some q=>
  rw[ez]at e
  obtain⟨k,y⟩:=q
  have e:x=EE (k,y):=(aao e).symm
  subst e
  obtain⟨v,hv,rv⟩:=r.get ez
  refine⟨⟨K.sF _ _ (s _ _ h),(List.getElem?_eq_some_iff.mp hv).1⟩,λv' H' y'=>?_⟩
  obtain⟨p,k',x',rfl,hp,rfl,q⟩:=y'
  rw[hv]at q;cases q
  have hF:F' p=none:=bY.none_of K.sF hp
  refine⟨upd F' p (.tup [kV k,v]),ay hF,K.lay hp,.tup (.inl (.inl ak)) (.cons (xV k) (.cons ((rv.mono s).mono (ay hF)) .nil)),ay hp,λc hc=>?_⟩
  by_cases z:c=p
  .subst z;exact .inr hp
  .rw[ag z]at hc;exact .inl hc
def kN(i:Nat):WA:=λenv P=>match env[i]? with
 |some (some ⟨1,.zB kvs⟩)=>P (kvs.map EE) (env.set i none)
 |_=>False
variable{Z:Zn}{H:Hp}{σ:L2.St}{env:En}{i:Nat}
theorem tO.Km{kvs:List (Key×PV)}(K:tO M Z F σ H env)(hi:env[i]?=some (some ⟨1,.zB kvs⟩)):
  ∃d vs,σ[i]?=some (some (.ref d))/\H d=some (.dK vs)/\F d=none/\yV M.K F vs kvs/\∀o,tO M Z (upd F d (.BB o (.dK vs))) σ (upd H d (.BB o (.dK vs))) (env.set i none):=by
 obtain⟨fp,L⟩:=K.sl
 obtain⟨v,hv,ok⟩:=L.at' i _ hi
 rcases ok with ⟨e,_⟩|⟨_,d,rfl,hf,h0,vs,hd,rk⟩|⟨e,_⟩|⟨e,_⟩
 .cases e
 .have ha:=L.al i d (by rw[hf];simp)
  refine⟨d,vs,hv,hd,ha.2,rk,λo=>?_⟩
  have s1:bY F (upd F d (.BB o (.dK vs))):=ay ha.2
  have ot:∀j b,j≠i->b∈fp j->b≠d:=λj b hj hb z=>L.dj j i b hj hb (by rw[hf,z];simp)
  refine⟨λb u e=>?_,λb u e hb=>?_,λb e=>?_,ah K.gr s1,λb e=>?_,by simp[K.len],λj=>if j=i then []else fp j,λj s h=>?_,λj b h=>?_,λj k b E6 h z=>?_,λj b t e1 e2 e3=>?_⟩
  .by_cases z:b=d
   .subst z;rw[ak]at e ⊢;exact e
   .rw[ag z]at e ⊢;exact K.sF b u e
  .rw[ag (λz=>by rw[z,h0]at e;cases e)]
   exact K.sG b u e hb
  .by_cases z:b=d
   .subst z;rw[ak];simp
   .rw[ag z];exact K.pr b e
  .by_cases z:b=d
   .subst z;exact .inr h0
   .rw[ag z]at e;exact K.nw b e
  .by_cases z:j=i
   .subst z
    rw[abR]at h
    simp only[if_true]at h
    split at h<;>cases h
   .rw[aaI (abW z)]at h
    rw[if_neg z]
    obtain⟨v,g1,g2⟩:=L.at' j s h
    exact⟨v,g1,g2.mono s1 λc hc=>ag (ot j c z hc)⟩
  .split at h
   .simp at h
   .rename_i z
    have:=L.al j b h
    rw[ag (ot j b z h),ag (ot j b z h)];exact this
  .split at h
   .simp at h
   .split at z
    .simp at z
    .exact L.dj j k b E6 h z
  .by_cases z:j=i
   .subst z
    rw[abR]at e2
    simp only[if_true]at e2
    split at e2<;>cases e2
   .rw[aaI (abW z)]at e2
    exact L.oa j b t e1 e2 e3
 .rcases e with e|e<;>cases e
 .cases e
variable{ob:Ap}{X:Cx}{x:Str}{p apos Cj:Pos}{elts:List Expr}
theorem sC(i:Nat){pos:Pos}{x1:_}(ho:PE X (.Name x p) (zK i))
  (Ay:acL (.Name x p) "items" X.env (eval (.Name x p) X.env)=eval (.Name x p) X.env:=by rfl) (Ax:(apos.endLine==pos.line)=true:=by rfl) :
  G1 ob X (.Tuple elts x1 Cj) (.Call (.Attribute (.Name x p) "items" apos) [] [] pos) (kN i):=by
 refine⟨_,tI ho Ay Ax,λZ F σ H env P R K hf kk=>?_⟩
 unfold kN at hf
 split at hf
 .rename_i kvs ei
  obtain⟨d,vs,hv,hd,hF,rk,kz⟩:=K.Km ei
  exact⟨_,hv,d,vs,rfl,hd,λo=>kk _ _ _ _ _ hf (ay hF) (kz o) (x6 ak (rk.mono (ay hF)))⟩
 .exact hf.elim
end Q
namespace L2
open PySem PySem.Spec PyProof.Rows PySem.W
variable{prog:aaH}{w:World}{A:Around}{E:Value->Shared->Prop}{s:Shared}
end L2
namespace Q
open PySem L2 PyProof.Rows
variable{ob:Ap}{X:Cx}{e:Expr}{f:WE}{p pos Dl p1:Pos}{kd:_}
variable{P:aaH}{w:World}{K:aag}{mg:Str->Option Value}{base:Heap}{fd:ab0}{ps:List Str}{M:Md}{n:Nat}
theorem wC{f:Addr}:zf P w K mg base Ak 0 f fd ps (Hl M n λ_ _=>False) :=
 ⟨λ_ _ _ _ ⟨_,_,_,_,_,_,h,_⟩=>h.elim,λ_ _ _ _ _ _ _ _ _ _ _ _ _ ⟨_,_,_,_,_,_,h,_⟩=>h.elim⟩
end Q
namespace L2
open PySem PySem.Spec PyProof.Rows
def FO(A:Around)(s:Shared)(y x:Value)(b:Bool):Prop :=
 ∀(prog:aaH) (w:World) (E:Value->Shared->Prop) (Q:Value->Shared->Prop),Q (.bool b) s->wpAny (model prog w) A (adN .Lt y x) Q E s
inductive DM (A:Around) (s:Shared):List Value->List Value->Bool->Prop where
 |nn:DM A s [] [] false
 |nc {y ys}:DM A s [] (y::ys) true
 |cn {x xs}:DM A s (x::xs) [] false
 |eq {x y xs ys b}:adB A s x y true->DM A s xs ys b->DM A s (x::xs) (y::ys) b
 |lt {x y xs ys b}:adB A s x y false->FO A s x y b->DM A s (x::xs) (y::ys) b
section
open PySem.SeqAt
open PySem.AutoSeq1 (wpAny_loadPart')
open PySem.MeetsSeq PySem.MeetsSeq2 PySem.MeetsSeq3
theorem lm(l b:Addr)(items zR:Array Value)(n n2:Nat)(dd Gk:Option Addr)(sl FY:Array (Option Value))(r:Bool):
  Meets (adx.«tuple.__lt__» ⟨[.ref l,.ref b],[]⟩)
   (λA R s=>s.heap.get? l=some {cls:=.type "tuple",dict:=dd,data:=.seq items n,slots:=sl}/\s.heap.get? b=some {cls:=.type "tuple",dict:=Gk,data:=.seq zR n2,slots:=FY}/\DM A.in1 s items.toList zR.toList r/\R (.ok (.ret (.bool r))) s) :=
 .of_wp λprog w A R s h=>by
  obtain⟨hp,g,d,tk,os⟩:=s;obtain⟨hl,hb,lx,h⟩:=h
  have f2:=AutoSeq1.sub_tuple_tuple
  wp_walk using ack hl,ack hb,wpAny_forIn_list _ (λrest b s'=>b.1=none/\s'=⟨hp,g,d,tk,os⟩/\∃(vs ws:List Value),rest=vs.zip ws /\
   vs.length+zR.size=ws.length+items.size/\DM A.in1 ⟨hp,g,d,tk,os⟩ vs ws r) _
  case turn=>
   rintro⟨y,x⟩ rest b s' ⟨Ds,rfl,vs,ws,hz,hlen,hR⟩
   cases hR with
   |nn=>rw[adD]at hz;cases hz
   |nc=>rw[adD]at hz;cases hz
   |cn=>rw[List.zip_nil_right]at hz;cases hz
   |eq e Lg=>
    rw[abB]at hz
    injection hz with hyx EO
    injection hyx with hy hx
    subst hy hx
    simp only[aaL]at hlen
    refine aaa (e prog w _ _ ?_)
    wp_walk
    exact⟨rfl,rfl,_,_,EO,by omega,Lg⟩
   |lt e e2=>
    rw[abB]at hz
    injection hz with hyx EO
    injection hyx with hy hx
    subst hy hx
    simp only[aaL]at hlen
    refine aaa (e prog w _ _ ?_)
    have QA:=e2 prog w
    wp_walk using QA
    exact⟨_,rfl,by simpa using h⟩
  case fin=>
   rintro⟨b1,b2⟩ s' ⟨Ds,rfl,vs,ws,hz,hlen,hR⟩
   simp only at Ds
   subst Ds
   have hv:r=decide (items.size<zR.size):=by
    cases hR with
    |nn=>simp only[abE]at hlen;exact(decide_eq_false (by omega)).symm
    |nc=>simp only[abE,aaL]at hlen;exact(decide_eq_true (by omega)).symm
    |cn=>simp only[abE,aaL]at hlen;exact(decide_eq_false (by omega)).symm
    |eq=>rw[abB]at hz;cases hz
    |lt=>rw[abB]at hz;cases hz
   rw[hv]at h
   wp_walk
   exact⟨_,rfl,by simpa[aeS]using h⟩
  case h=>
   exact⟨rfl,rfl,items.toList,zR.toList,rfl,by simp;omega,lx⟩
end
variable{A:Around}{s:Shared}{l b:Addr}{items:Array Value}
theorem FO.tuples{zR:Array Value}{r:Bool}(hl:IsTup s.heap l items)(hb:IsTup s.heap b zR)(hu:A.units<cLine)(lx:DM A.in1 s items.toList zR.toList r):FO A s (.ref l) (.ref b) r:=λprog w E Q h=>by
 obtain⟨⟨cls,dd,data,sl⟩,ho,hc,n,hd⟩:=id hl
 obtain⟨⟨Ji,Gk,data2,FY⟩,Dq,ER,n2,hd2⟩:=id hb
 simp only at hc hd ER hd2
 subst hc hd ER hd2
 exact ac2 (op:=.Lt) ⟨_,ho,rfl⟩ ⟨_,Dq,rfl⟩ PySem.F.slot_tuple_lt PySem.F.entry_tuple_lt (PySem.F.args_tuple_lt_2 _ _) (lm l b items zR n n2 dd Gk sl FY r)
  ⟨ho,Dq,lx,show adA r≠ada/\Q (.bool r) s from ⟨(λx=>nomatch x),h⟩⟩ hu
end L2
namespace Q
open PySem L2 PyProof.Rows
def Fu(e l:PV->PV->Option Bool):List PV->List PV->Option Bool
 |[],[]=>some false
 |[],_::_=>some true
 |_::_,[]=>some false
 |x::xs,y::ys=>(e x y).bind λb=>if b=true then Fu e l xs ys else l x y
def IM:Nat->PV->PV->Option Bool
 |d+1,.tup xs,.tup ys=>Fu (zA d) (IM d) xs ys
 |_,.int i,.int j=>some (decide (i<j))
 |_,.str i,.str j=>some (decide (zD i j))
 |_,_,_=>none
variable{X:Cx}{pins:List (Addr×Obj)}{σ:L2.St}{H F:Hp}{s:Shared}
variable{A:Around}
theorem rN{e l:PV->PV->Option Bool}(he:∀{v u:V} {x y:PV} {a b:Value} {k:Bool},Rep X.K F v x->Rep X.K F u y->RelV v a->RelV u b->e x y=some k->adB A s a b k)
  (hl:∀{v u:V} {x y:PV} {a b:Value} {k:Bool},Rep X.K F v x->Rep X.K F u y->RelV v a->RelV u b->l x y=some k->FO A s a b k) :
  ∀{xs ys:List PV} {vs us:List V} {as bs:List Value} {k:Bool},nE X.K F vs xs->nE X.K F us ys->oF vs as->oF us bs->Fu e l xs ys=some k->DM A s as bs k
 |[],[],_,_,_,_,k,r1,r2,v1,v2,h=>by
  cases r1;cases r2;cases v1;cases v2;cases h;exact .nn
 |[],_::_,_,_,_,_,k,r1,r2,v1,v2,h=>by
  cases r1
  cases r2 with
  |cons _ _=>cases v1;cases v2 with|cons _ _=>cases h;exact .nc
 |_::_,[],_,_,_,_,k,r1,r2,v1,v2,h=>by
  cases r2
  cases r1 with
  |cons _ _=>cases v2;cases v1 with|cons _ _=>cases h;exact .cn
 |x::xs,y::ys,_,_,_,_,k,r1,r2,v1,v2,h=>by
  cases r1 with
  |cons a1 a2=>cases r2 with
   |cons b1 b2=>cases v1 with
    |cons c1 c2=>cases v2 with
     |cons d1 d2=>
      unfold Fu at h
      rw[Option.bind_eq_some_iff]at h
      obtain⟨q,hq,h⟩:=h
      have eq:=he a1 b1 c1 d1 hq
      cases q with
      |true=>rw[if_pos rfl]at h;exact .eq eq (rN he hl a2 b2 c2 d2 h)
      |false=>rw[if_neg (by simp)]at h;exact .lt eq (hl a1 b1 c1 d1 h)
theorem Qb(I:Inv X pins σ H s)(sF:bY F H):∀{d:Nat} {A:Around} {v u:V} {x y:PV} {a b:Value} {k:Bool},A.units+d<cLine->Rep X.K F v x->Rep X.K F u y->RelV v a->RelV u b->IM d x y=some k->FO A s a b k:=by
 intro d
 induction d with
 |zero=>
  intro A v u x y a b k hu rx ry ra rb h
  cases rx with
  |int=>cases ry with
   |int=>cases h;obtain⟨t,rfl⟩:=ra;obtain⟨t',rfl⟩:=rb;exact λprog w E Q hq=>HT.EB A s _ t _ t' prog w E Q hq
   |_=>cases h
  |str=>cases ry with
   |str=>cases h;obtain⟨t,rfl⟩:=ra;obtain⟨t',rfl⟩:=rb;exact λprog w E Q hq=>(P.lt_str hq:wpAny (model prog w) A (aaE .Lt (.str _ t) (.str _ t')) Q E s)
   |_=>cases h
  |_=>cases ry<;>cases h
 |succ d ih=>
  intro A v u x y a b k hu rx ry ra rb h
  cases rx with
  |@tup _ _ xs h1 r1=>cases ry with
   |@tup _ _ ys h2 r2=>
    replace h:Fu (zA d) (IM d) xs ys=some k:=h
    cases ra
    cases rb
    obtain⟨eQ,rv,p,_⟩:=I.tuple (av sF h1)
    obtain⟨zU,CJ,p2,_⟩:=I.tuple (av sF h2)
    have hi:A.in1.units+d<cLine:=by show A.units+1+d<cLine;omega
    exact FO.tuples p p2 (by omega) (rN (λa1 b1 c1 d1 q=>(Jf I sF hi a1 b1 c1 d1 q).2) (λa1 b1 c1 d1 q=>ih hi a1 b1 c1 d1 q) r1 r2 (by simpa using rv) (by simpa using CJ) h)
   |_=>cases h
  |int=>cases ry with
   |int=>cases h;obtain⟨t,rfl⟩:=ra;obtain⟨t',rfl⟩:=rb;exact λprog w E Q hq=>HT.EB A s _ t _ t' prog w E Q hq
   |_=>cases h
  |str=>cases ry with
   |str=>cases h;obtain⟨t,rfl⟩:=ra;obtain⟨t',rfl⟩:=rb;exact λprog w E Q hq=>(P.lt_str hq:wpAny (model prog w) A (aaE .Lt (.str _ t) (.str _ t')) Q E s)
   |_=>cases h
  |_=>cases ry<;>cases h
def Oz:PV->PV->Option PV
 |.tup xs,.tup ys=>(IM 60 (.tup xs) (.tup ys)).map .bl
 |_,_=>none
def MI(K:aag):R2:=λv u H Q=>∃F xs ys k,bY F H/\Rep K F v (.tup xs)/\Rep K F u (.tup ys)/\IM 60 (.tup xs) (.tup ys)=some k/\Q (.bl k) H
variable{ob:Ap}
theorem xC(hu:X.A.units+60<cLine):zH X (aaE .Lt) (MI X.K):=by
 intro pins s σ H x y v u Q I rx ry h
 obtain⟨F,xs,ys,k,sF,r1,r2,e,hq⟩:=h
 exact Qb I sF hu r1 r2 rx ry e X.prog X.w X.xe _ ⟨.bl k,H,I,rfl,hq⟩
theorem vF:Ce ob X (MI X.K) Oz:=by
 refine bo (P:=λ_ _ _ _=>True) λF H v u x y z sF rx ry hz=>?_
 unfold Oz at hz
 split at hz
 .rw[aat]at hz
  obtain⟨k,hk,rfl⟩:=hz
  exact⟨_,λ_=>.bl _,λQ q=>⟨F,_,_,k,sF,rx.Fc,ry.Fc,hk,q⟩⟩
 .cases hz
end Q
namespace L2
open PySem PySem.Spec PyProof.Rows
variable{prog:aaH}{w:World}{A:Around}{E:Value->Shared->Prop}{s:Shared}{a₀:Array Keyed}{κ:KeyKind}
variable{X:Cx}
end L2
namespace Q
open PySem L2 PyProof.Rows
variable{ob:Ap}{X:Cx}{a b c e:Expr}{es:List Expr}{f g h:WE}{fa:WA}{pos p p1:Pos}{x:Str}
end Q
namespace L2
open PySem PySem.Spec PyProof.Rows
variable{X:Cx}{o e:Expr}{to te:TE}{apos pos:Pos}
section
open Builtin Builtin.Str
variable{prog:aaH}{w:World}{A:Around}{E:Value->Shared->Prop}{s:Shared}
end
end L2
namespace Q
open PySem L2 PyProof.Rows
variable{ob:Ap}{X:Cx}{a b e:Expr}{f g:WE}{apos pos:Pos}
end Q
namespace L2
open PySem PySem.Spec PyProof.Rows
variable{prog:aaH}{w:World}{A:Around}{E:Value->Shared->Prop}{s:Shared}{l b:Addr}{items zR:Array Value}{n n2:Nat}
variable{X:Cx}
end L2
namespace Q
open PySem L2 PyProof.Rows
variable{ob:Ap}{X:Cx}{e:Expr}{g:WE}{pos pos':Pos}
end Q
set_option maxHeartbeats 400000
namespace L2
open PySem PySem.Spec PyProof.Rows
variable{X:Cx}
end L2
namespace Q
open PySem L2 PyProof.Rows
def DW(xs:List PV):List PV:=xs.zipIdx.map λp=>.tup [.int p.2,p.1]
variable{ob:Ap}{X:Cx}{a:Expr}{fa:WA}{p pos:Pos}
variable{p2:Pos}{x:Str}
end Q
namespace Pre
open PySem L2
end Pre
namespace Q
open PySem L2 PyProof.Rows
variable{X:Cx}{k:Nat}{Bh:Addr}{fd:ab0}{ps:List Str}{x y:Str}{p p1 pos pos':Pos}
variable{ob:Ap}
variable{pins:List (Addr×Obj)}{s:Shared}{σ:L2.St}{H:Hp}
end Q
namespace L2
open PySem PySem.Spec PyProof.Rows PySem.W
variable{prog:aaH}{w:World}{A:Around}{E:Value->Shared->Prop}{s:Shared}
end L2
namespace Q
open PySem L2 PyProof.Rows
variable{ob:Ap}{X:Cx}{e:Expr}{es:List Expr}{fa:WA}{pos p:Pos}
end Q
set_option maxHeartbeats 1000000
namespace L2
open PySem PySem.Spec PyProof.Rows
open AutoSeq1 (wpAny_loadPart')
variable{w:World}{A:Around}
theorem Draws.tup{prog:aaH}(hh:A.handled=none)(it l:Addr)(hne:l≠it)(items:Array Value):
  Draws prog w A it [it,l] items.size (λi v=>items[i]?=some v) (λi h=>h.IsTupleIter it l i/\h.IsTuple l items) where
 live:=λ_ _ st=>let ⟨o,ho,_⟩:=st.1;⟨o,ho⟩
 frame:=λ_ _ _ st hk=>⟨by obtain⟨o,e,r⟩:=st.1;exact⟨o,hk it (by simp) o e,r⟩,by obtain⟨o,e,r⟩:=st.2;exact⟨o,hk l (by simp) o e,r⟩⟩
 item:=λi s Q E hi st hQ=>by
  refine ia st.1 st.2 (x:=items[i]) (by simp[hi]) λh' QN LY=>?_
  exact hQ _ h' s.toks (by simp[hi]) ⟨QN,by obtain⟨o,e,r⟩:=st.2;exact⟨o,LY.extBut _ _ hne e,r⟩⟩ LY
 done:=λs Q E st hE=>Eg hh st.1 st.2 (by simp) hE
theorem ow(l:Addr)(items:Array Value)(n:Nat)(Ro:Option Addr)(sl:Array (Option Value)):
  Meets (adx.«enumerate.__new__» ⟨[.type "enumerate",.ref l],[]⟩) (λ_ R s=>s.heap.get? l=some {cls:=.type "tuple",dict:=Ro,data:=.seq items n,slots:=sl} /\
   R (.ok (.ret (.ref (s.heap.push {cls:=.type "tuple_iterator",data:=.fields #[.ref l,.int 0 0]}).objs.size)))
    {s with heap:=(s.heap.push {cls:=.type "tuple_iterator",data:=.fields #[.ref l,.int 0 0]}).push {cls:=.type "enumerate",data:=.fields #[.none,.bool false,.ref s.heap.objs.size,rawInt 0,.none,.none]}}) :=
 .of_wp λprog w A R s h=>by
  obtain⟨hp,g,d,tk,os⟩:=s;obtain⟨hl,h⟩:=h
  have TN:=sub_enumerate
  have hL:Heap.IsTuple (Shared.heap ⟨hp,g,d,tk,os⟩) l items:=⟨_,hl,rfl,n,rfl⟩
  wp_walk using ack hl
  refine wpAny_stack_any λst=>aah ?_
  split
  .rename_i c _ _ _ _ _
   cases (c==abC "enumerate")
   .wp_walk using ack hl,abY hL
    exact⟨_,rfl,h⟩
   .wp_walk using ack hl,abY hL
    exact⟨_,rfl,h⟩
  .wp_walk using ack hl,abY hL
   exact⟨_,rfl,h⟩
variable{prog:aaH}{E:Value->Shared->Prop}{s:Shared}
variable{l:Addr}{items:Array Value}{Q:Value->Shared->Prop}
theorem gg(hL:s.heap.IsTuple l items)
  (h:∀h',IsEnum h' (s.heap.objs.size+1) s.heap.objs.size 0 .none->h'.IsTupleIter s.heap.objs.size l 0->h'.objs.size=s.heap.objs.size+2 ->
   (∀b o,s.heap.get? b=some o->h'.get? b=some o)->Q (.ref (s.heap.objs.size+1)) {s with heap:=h'}) :
  wpAny (model prog w) A (call (.type "enumerate") [.ref l]) Q E s:=by
 obtain⟨⟨c,Ro,dt,sl⟩,hl,hc,n,hd⟩:=hL
 replace hc:c=.type "tuple" := hc
 replace hd:dt=.seq items n:=hd
 subst hc hd
 refine callType_new F.called_enumerate (by decide) (F.typeCall_enumerate_1 _) (F.newCall_enumerate_1 _) (λobj=>F.args_object_init_2 obj _) F.entry_enumerate_new
  (ow l items n Ro sl) ⟨hl,?_⟩
 have hz:(s.heap.push {cls:=.type "tuple_iterator",data:=.fields #[.ref l,.int 0 0]}).objs.size=s.heap.objs.size+1:=abf ..
 show _/\_
 rw[hz]
 have he:IsEnum ((s.heap.push {cls:=.type "tuple_iterator",data:=.fields #[.ref l,.int 0 0]}).push
   {cls:=.type "enumerate",data:=.fields #[.none,.bool false,.ref s.heap.objs.size,rawInt 0,.none,.none]}) (s.heap.objs.size+1) s.heap.objs.size 0 .none:=by
  have:=aai (s.heap.push {cls:=.type "tuple_iterator",data:=.fields #[.ref l,.int 0 0]})
   (o:={cls:=.type "enumerate",data:=.fields #[.none,.bool false,.ref s.heap.objs.size,rawInt 0,.none,.none]}) rfl
  rw[hz]at this;exact this
 refine⟨⟨_,he,rfl⟩,h _ he ⟨_,aac _ (aai _ rfl),rfl,rfl⟩ (by rw[abf,hz]) λb o x=>aac _ (aac _ x)⟩
variable{it:Addr}{i:Nat}
theorem sB{e:Addr}{old:Value}{Q:Option Value->Shared->Prop}(hh:A.handled=none)
  (he:IsEnum s.heap e it i old) (hit:s.heap.IsTupleIter it l i) (hl:s.heap.IsTuple l items) (hx:items[i]?=none)
  (hQ:∀h',Heap.ExtBut it s.heap h'->Q none {s with heap:=h'}):wpAny (model prog w) A (pyNext (.ref e)) Q E s:=by
 have hT:s.TypeIs (.ref e) "enumerate" := ⟨_,he,rfl⟩
 unfold pyNext
 refine aaa (aep (aby (name:=aaz "__next__") hT F.slot_enumerate_next
  (abj F.slot_enumerate_next hT F.entry_enumerate_next ?_ (F.args_enumerate_next_1 _))))
 show wpAny _ _ (field (.ref e) 2 >>= _) _ _ _
 refine aaa (abv he rfl (x:=.ref it) rfl ?_)
 refine aaa (Eg hh hit hl hx λh' x Uk Qr=>?_)
 obtain⟨o,ho,hc⟩:=Qr
 refine aaa (wpAny_isInstance (T := "StopIteration") (b:=true) ⟨o,ho,hc⟩ isSubtype_stop ?_)
 exact aah (hQ _ Uk)
def Rz(K:aag)(l:Addr):It :=
 ⟨λi H=>∃xs x,zW K H l xs/\xs[i]?=some x,
  λi H v H'=>∃p x,v=.ref p/\H p=none/\H'=upd H p (.tup [.int i,x])/\∀xs,zW K H l xs->xs[i]?=some x,
  λi H=>∃xs,zW K H l xs/\xs.length<=i⟩
structure RD(h:Heap)(e it l:Addr)(i:Nat):Prop where
 en:∃old,IsEnum h e it i old
 li:h.IsTupleIter it l i
variable{P:aaH}{K:aag}{elts:List Expr}{pos:Pos}
theorem pT{x1:_}(l e it:Addr)(hne:e≠it):
  Turn P w K (.Tuple elts x1 pos) (Rz K l) [e,it] e (λn h=>RD h e it l n) where
 mem:=by simp
 obj:=λn h Z c hc=>by
  obtain⟨⟨old,ee⟩,o,eo,r1,r2⟩:=Z
  simp only[aaZ,aa1,or_false]at hc
  rcases hc with rfl|rfl
  .exact⟨_,ee,λv q=>(by cases (show abO _=aey v from q))⟩
  .exact⟨_,eo,λv q=>(by rw[r2]at q;cases q)⟩
 keep:=λn h h' Z k=>by
  obtain⟨⟨old,ee⟩,o,eo,r⟩:=Z
  exact⟨⟨old,k e (by simp) _ ee⟩,o,k it (by simp) _ eo,r⟩
 item:=by
  intro X hP hw hK hc n pins s σ H E I hf Z hg
  subst hP hw hK
  obtain⟨⟨old,ee⟩,Mb⟩:=Z
  obtain⟨xs,x,hx,ex⟩:=hg
  obtain⟨eQ,rv,pl,hz⟩:=I.tuple hx
  obtain⟨v,ev,r⟩:=rv.get ex
  have CQ:H s.heap.objs.size=none:=I.y6.fresh (aal _)
  have ol:∀c∈[e,it],c<s.heap.objs.size:=λc hc=>by
   obtain⟨o,eo,r⟩:=Mb
   simp only[aaZ,aa1,or_false]at hc
   rcases hc with rfl|rfl
   .exact aak ee
   .exact aak eo
  have Vp:s.heap.objs.size≠e:=ab5 (ol e (by simp))
  have Vo:s.heap.objs.size≠it:=ab5 (ol it (by simp))
  have NB:l≠it:=λz=>by
   subst z
   obtain⟨o,eo,_,r2⟩:=Mb
   obtain⟨o',Ls,_,n',r3⟩:=pl
   rw[eo]at Ls;cases Ls
   rw[r2]at r3;cases r3
  have hle:e≠l:=λz=>by
   subst z
   obtain⟨o',Ls,r4,_⟩:=pl
   have q:_=some o':=(Eq.symm ee).trans Ls
   cases q
   exact absurd (show abC "enumerate" = abC "tuple" from r4) (by decide)
  refine wpAny_pyNext_enum_itemD (n:=eQ.toArray.size) (Draws.tup (prog:=X.prog) (w:=X.w) (A:=X.A.in1) (I.ok.hd hc) it l NB eQ.toArray) ee ⟨Mb,pl⟩ (by have:=List.getElem?_eq_some_iff.mp ev;obtain⟨z,_⟩:=this;simpa using z) hne (by simp[hne,hle]) λy h' tk q0 q1 q2 q3 q4 kk=>?_
  obtain rfl:y=v:=by
   have q0:eQ.toArray[n]?=some y:=q0
   rw[abJ,ev]at q0;exact(aao q0).symm
  replace q2:=q2.1
  refine⟨_,rfl,wpAny_letOwnedTupleGo_enum (s:={s with heap:=h',toks:=tk+1}) q1 λh2 w1 w2=>?_⟩
  have I1:Inv X pins σ (upd H s.heap.objs.size (.tup [.int n,x])) {s with heap:=s.heap.push {cls:=.type "tuple",data:=.seq #[.int n tk,y]}} :=
   I.laid (t':=s.toks) (λb u e=>aac _ e) (aal _) ⟨by show 2<=sizeLine;decide,[.int n tk,y],.cons ⟨tk,rfl⟩ (.cons r .nil),⟨_,aai _ rfl,rfl,_,rfl⟩⟩
  have Il:∀c∈[e,it],BG X pins (upd H s.heap.objs.size (.tup [.int n,x])) c:=λc hc=>⟨by rw[ag (aav (ol c hc))];exact(hf c hc).1,(hf c hc).2⟩
  have I2:Inv X pins σ (upd H s.heap.objs.size (.tup [.int n,x])) {s with heap:=h2,toks:=tk+1}:=by
   refine I1.By (t':=tk+1) (h':=h2) (λc q hc eq=>?_) Il
   have Sq:c≠e:=λz=>hc (by simp[z])
   have Um:c≠it:=λz=>hc (by simp[z])
   refine w2.extBut _ _ Sq ?_
   by_cases GN:c=s.heap.objs.size
   .subst GN
    have:(s.heap.push {cls:=.type "tuple",data:=.seq #[.int n tk,y]}).get? s.heap.objs.size=some {cls:=.type "tuple",data:=.seq #[.int n tk,y]}:=aai _ rfl
    have e':some {cls:=.type "tuple",data:=.seq #[.int n tk,y]}=some q:=this.symm.trans eq
    rw[<- e'];exact q3
   .exact kk c q Sq Um ((aeR _ _ _ GN).symm.trans eq)
  refine⟨.ref s.heap.objs.size,_,I2,rfl,⟨_,x,rfl,CQ,rfl,λSV g=>?_⟩,?_,λc hc=>(Il c hc).1⟩
  .rw[I.Ar g hx];exact ex
  .refine⟨⟨_,w1⟩,?_⟩
   obtain⟨o,eo,r⟩:=q2
   exact⟨o,w2.extBut _ _ (abW hne) eo,r⟩
 done:=by
  intro X hP hw hK hc n pins s σ H E I hf Z hg
  subst hP hw hK
  obtain⟨⟨old,ee⟩,Mb⟩:=Z
  obtain⟨xs,hx,hl⟩:=hg
  obtain⟨eQ,rv,pl,hz⟩:=I.tuple hx
  have l1:=rv.length
  have NB:l≠it:=λz=>by
   subst z
   obtain⟨o,eo,_,r2⟩:=Mb
   obtain⟨o',Ls,_,n',r3⟩:=pl
   rw[eo]at Ls;cases Ls
   rw[r2]at r3;cases r3
  refine sB (I.ok.hd hc) ee Mb pl (by simp;omega) λh' kk=>⟨rfl,I.By (t':=s.toks) (λc q hc eq=>kk c q (λz=>hc (by simp[z])) eq) hf⟩
 self:=λA i s Q E Z h=>by
  obtain⟨⟨old,ee⟩,_⟩:=Z
  exact wpAny_pyIter_enum ee h
variable{X:Cx}
def KS(K:aag)(ta:TA):TI:=λσ H R=>ta σ H λvs H1=>∃l xs,vs=[.ref l]/\zW K H1 l xs/\R (Rz K l) H1
variable{Cj p:Pos}{a:Expr}{ta:TA}
theorem tJ{x1:_}(hg:Gl X "enumerate")(hm:X.mg "enumerate" = none)(ha:PA X [a] ta)(hs:aam [a] X.env=[(false,eval a X.env)]:=by rfl):
  PI X (.Tuple elts x1 Cj) (.Call (.Name "enumerate" p) [a] [] pos) (KS X.K ta):=by
 intro pins s σ H R I h
 refine Call_ (cV I hg hm boot_enumerate (acD (zC (ha pos pins s σ H _ I h) λus s1 ⟨vs,H1,I1,r1,q1⟩=>?_) (by rw[hs];rfl) rfl))
 obtain⟨l,xs,e,hx,q⟩:=q1
 subst e
 cases r1 with
 |cons ra rr=>
  cases rr
  cases ra
  obtain⟨eQ,rv,pl,hz⟩:=I1.tuple hx
  refine gg pl λh' he hi sz kk=>?_
  have I2:Inv X pins σ H1 {s1 with heap:=h'}:=I1.kept (t':=s1.toks) kk
  refine wpAny_pyIter_enum he ⟨_,_,_,_,H1,rfl,I2,pT l _ _ (adS _),⟨⟨_,he⟩,hi⟩,λb' hb=>?_,q⟩
  have Fz:s1.heap.objs.size<=b':=by
   simp only[aaZ,aa1,or_false]at hb
   rcases hb with rfl|rfl
   .exact afk _
   .exact aal _
  exact I1.EU Fz (I1.y6.fresh Fz)
end L2
namespace Q
open PySem L2 PyProof.Rows
variable{M:Md}{F:Hp}{a:Addr}{vs:List V}{xs:List PV}
theorem wt(h1:zW M.K F a vs)(r1:nE M.K F vs xs):DN M (Rz M.K a) F (DW xs):=by
 refine⟨λZ i σ env F' H x s K e=>?_,λZ i σ env F' H s K hl=>⟨vs,av K.sF (av s h1),?_⟩⟩
 .unfold DW at e
  rw[aaj,List.getElem?_zipIdx]at e
  cases ez:xs[i]? with
  |none=>rw[ez]at e;cases e
  |some x1=>
   rw[ez]at e
   have e:x=.tup [.int ((0+i:Nat):Int),x1]:=(aao e).symm
   rw[abx]at e
   subst e
   obtain⟨v1,q1,q2⟩:=r1.get ez
   have g1:=av K.sF (av s h1)
   refine⟨⟨vs,v1,g1,q1⟩,λv' H' y=>?_⟩
   obtain⟨p,w1,rfl,hp,rfl,y⟩:=y
   have y1:=y vs g1
   rw[q1]at y1;cases y1
   have hF:F' p=none:=bY.none_of K.sF hp
   refine⟨upd F' p (.tup [.int i,v1]),ay hF,K.lay hp,.tup (.inl (.inl ak)) (.cons (.int _) (.cons ((q2.mono s).mono (ay hF)) .nil)),ay hp,λc hc=>?_⟩
   by_cases z:c=p
   .subst z;exact .inr hp
   .rw[ag z]at hc;exact .inl hc
 .have:=r1.len
  simp only[DW,aae,List.length_zipIdx]at hl
  omega
variable{ob:Ap}{X:Cx}{a:Expr}{fa:WA}{p pos:Pos}
def Qp(a:WA):WA:=λenv P=>a env λxs e=>match xs with
 |[.tup xs]=>P (DW xs) e
 |_=>False
variable{elts:List Expr}{Cj:Pos}
theorem uB{x1:_}(hg:Gl X "enumerate")(hm:X.mg "enumerate" = none)(ha:Et ob X [a] fa)(hs:aam [a] X.env=[(false,eval a X.env)]:=by rfl):
  G1 ob X (.Tuple elts x1 Cj) (.Call (.Name "enumerate" p) [a] [] pos) (Qp fa):=by
 obtain⟨t,ht,k⟩:=ha.ex
 refine⟨_,tJ hg hm ht hs,λZ F σ H env P R K hf kk=>k Z F σ H env _ _ K hf λxs e1 vs F1 H1 p _ s1 K1 r1=>?_⟩
 split at p
 .cases r1 with
  |cons r1 r2=>
   cases r2
   cases r1 with
   |tup g1 g2=>exact⟨_,_,rfl,av K1.sF g1,kk _ e1 _ F1 H1 p s1 K1 (wt g1 g2)⟩
 .exact p.elim
end Q
namespace L2
open PySem PySem.Spec PyProof.Rows
variable{prog:aaH}{w:World}{A:Around}{E:Value->Shared->Prop}{s:Shared}
end L2
namespace L2
open PySem PySem.Spec PyProof.Rows PySem.Calls PyProof.V
variable{prog:aaH}{w:World}{A:Around}{E:Value->Shared->Prop}{s:Shared}
end L2
namespace L2
open PySem PySem.Spec PyProof.Rows
variable{prog:aaH}{w:World}{A:Around}{E:Value->Shared->Prop}{s:Shared}
variable{X:Cx}
end L2
namespace Q
open PySem L2 PyProof.Rows
variable{ob:Ap}{X:Cx}{a b c e:Expr}{es:List Expr}{f g h:WE}{fa:WA}{pos KH p p1 p2:Pos}{x:Str}
end Q
namespace L2
open PySem PySem.Spec PyProof.Rows PyProof.Rows.KTD
variable{prog:aaH}{w:World}{A:Around}{E:Value->Shared->Prop}{s:Shared}
variable{X:Cx}
end L2
namespace Q
open PySem L2 PyProof.Rows PyProof.Rows.KTD
variable{ob:Ap}{X:Cx}{e ke:Expr}{es:List Expr}{fk:WE}{fa:WA}{x y tb:Str}{p p1 p2 p3 py pos To KH Tn:Pos}
end Q
namespace L2
open PySem PySem.Spec PyProof.Rows
variable{X:Cx}
end L2
namespace Q
open PySem L2 PyProof.Rows
variable{ob:Ap}{X:Cx}{e ke:Expr}{es:List Expr}{fa:WA}{fk:WE}{x:Str}{pos p p1 apos zS KH:Pos}
variable{P:aaH}{w:World}{K:aag}{mg:Str->Option Value}{base:Heap}
variable{k:Nat}{Bh:Addr}{fd:ab0}{ps:List Str}{DO:FdOT}
end Q
namespace L2
open PySem PySem.Spec PyProof.Rows
variable{X:Cx}{e st:Expr}{te Mr:TE}{pos p2:Pos}
end L2
namespace Q
open PySem L2 PyProof.Rows
variable{ob:Ap}{X:Cx}{e:Expr}{f:WE}{pos:Pos}
end Q
namespace L2
open PySem PySem.Spec PyProof.Rows
variable{X:Cx}{o e:Expr}{to te:TE}{apos pos:Pos}
end L2
namespace Q
open PySem L2 PyProof.Rows
variable{ob:Ap}{X:Cx}{a b:Expr}{f g:WE}{apos pos:Pos}
end Q
namespace L2
open PySem PySem.Spec PyProof.Rows PySem.W
def LF(A:Around)(s:Shared)(y x:Value)(b:Bool):Prop :=
 ∀(prog:aaH) (w:World) (E:Value->Shared->Prop) (Q:Value->Shared->Prop),Q (.bool b) s->wpAny (model prog w) A (adN .Gt y x) Q E s
inductive E2 (A:Around) (s:Shared):List Value->List Value->Bool->Prop where
 |nn:E2 A s [] [] false
 |nc {y ys}:E2 A s [] (y::ys) false
 |cn {x xs}:E2 A s (x::xs) [] true
 |eq {x y xs ys b}:adB A s x y true->E2 A s xs ys b->E2 A s (x::xs) (y::ys) b
 |gt {x y xs ys b}:adB A s x y false->LF A s x y b->E2 A s (x::xs) (y::ys) b
section
open PySem.SeqAt
open PySem.AutoSeq1 (wpAny_loadPart')
open PySem.MeetsSeq PySem.MeetsSeq2 PySem.MeetsSeq3
theorem lp(l b:Addr)(items zR:Array Value)(n n2:Nat)(dd Gk:Option Addr)(sl FY:Array (Option Value))(r:Bool):
  Meets (adx.«tuple.__gt__» ⟨[.ref l,.ref b],[]⟩)
   (λA R s=>s.heap.get? l=some {cls:=.type "tuple",dict:=dd,data:=.seq items n,slots:=sl}/\s.heap.get? b=some {cls:=.type "tuple",dict:=Gk,data:=.seq zR n2,slots:=FY}/\E2 A.in1 s items.toList zR.toList r/\R (.ok (.ret (.bool r))) s) :=
 .of_wp λprog w A R s h=>by
  obtain⟨hp,g,d,tk,os⟩:=s;obtain⟨hl,hb,lx,h⟩:=h
  have f2:=AutoSeq1.sub_tuple_tuple
  wp_walk using ack hl,ack hb,wpAny_forIn_list _ (λrest b s'=>b.1=none/\s'=⟨hp,g,d,tk,os⟩/\∃(vs ws:List Value),rest=vs.zip ws /\
   vs.length+zR.size=ws.length+items.size/\E2 A.in1 ⟨hp,g,d,tk,os⟩ vs ws r) _
  case turn=>
   rintro⟨y,x⟩ rest b s' ⟨Ds,rfl,vs,ws,hz,hlen,hR⟩
   cases hR with
   |nn=>rw[adD]at hz;cases hz
   |nc=>rw[adD]at hz;cases hz
   |cn=>rw[List.zip_nil_right]at hz;cases hz
   |eq e Lg=>
    rw[abB]at hz
    injection hz with hyx EO
    injection hyx with hy hx
    subst hy hx
    simp only[aaL]at hlen
    refine aaa (e prog w _ _ ?_)
    wp_walk
    exact⟨rfl,rfl,_,_,EO,by omega,Lg⟩
   |gt e e2=>
    rw[abB]at hz
    injection hz with hyx EO
    injection hyx with hy hx
    subst hy hx
    simp only[aaL]at hlen
    refine aaa (e prog w _ _ ?_)
    have QA:=e2 prog w
    wp_walk using QA
    exact⟨_,rfl,by simpa using h⟩
  case fin=>
   rintro⟨b1,b2⟩ s' ⟨Ds,rfl,vs,ws,hz,hlen,hR⟩
   simp only at Ds
   subst Ds
   have hv:r=decide (zR.size<items.size):=by
    cases hR with
    |nn=>simp only[abE]at hlen;exact(decide_eq_false (by omega)).symm
    |nc=>simp only[abE,aaL]at hlen;exact(decide_eq_false (by omega)).symm
    |cn=>simp only[abE,aaL]at hlen;exact(decide_eq_true (by omega)).symm
    |eq=>rw[abB]at hz;cases hz
    |gt=>rw[abB]at hz;cases hz
   rw[hv]at h
   wp_walk
   exact⟨_,rfl,by simpa[aeS]using h⟩
  case h=>
   exact⟨rfl,rfl,items.toList,zR.toList,rfl,by simp;omega,lx⟩
end
def gtB(k l:Int×Str):Bool:=decide (l.1<k.1\/(l.1=k.1/\zD l.2 k.2))
variable{A:Around}{s:Shared}{x y:Addr}{k l:Int×Str}
theorem vy(hu:A.units<cLine)(hx:za s.heap x k)(hy:za s.heap y l)(hne:k.2≠l.2):LF A s (.ref x) (.ref y) (gtB k l):=λprog w E Q h=>by
 obtain⟨⟨cls,dd,data,sl⟩,n,t,u,ho,hc,hd⟩:=hx
 obtain⟨⟨Ji,Gk,data2,FY⟩,n2,t2,u2,Dq,ER,hd2⟩:=hy
 simp only at hc hd ER hd2
 subst hc hd ER hd2
 refine ac2 (op:=.Gt) ⟨_,ho,rfl⟩ ⟨_,Dq,rfl⟩ PySem.F.slot_tuple_gt PySem.F.entry_tuple_gt (PySem.F.args_tuple_gt_2 _ _) (lp x y _ _ n n2 dd Gk sl FY (gtB k l))
  ⟨ho,Dq,?_,show adA (gtB k l)≠ada/\Q (.bool (gtB k l)) s from ⟨(λx=>nomatch x),h⟩⟩ hu
 by_cases e:k.1=l.1
 .have e1:(k.1==l.1)=true:=by simp[e]
  have e2:(k.2==l.2)=false:=by simp[hne]
  have e3:gtB k l=decide (l.2.cps.toList<k.2.cps.toList):=by
   unfold gtB
   rw[aaS,decide_eq_true_eq,decide_eq_true_eq]
   exact⟨λz=>z.elim (λq=>by omega) λq=>q.2,λz=>.inr ⟨e.symm,z⟩⟩
  refine .eq (e1 ▸ abM k.1 t l.1 t2) (.gt (e2 ▸ acB k.2 u l.2 u2) λprog w E Q hq=>?_)
  rw[e3]at hq
  exact(P.gt_str hq:wpAny (model prog w) _ (aaE .Gt (.str _ u) (.str _ u2)) Q E s)
 .have e1:(k.1==l.1)=false:=by simp[e]
  have e3:gtB k l=decide (l.1<k.1):=by
   unfold gtB
   rw[aaS,decide_eq_true_eq,decide_eq_true_eq]
   exact⟨λz=>z.elim id λq=>absurd q.1.symm e,.inl⟩
  refine .gt (e1 ▸ abM k.1 t l.1 t2) λprog w E Q hq=>?_
  rw[e3]at hq
  exact(gt_int hq:wpAny (model prog w) _ (aaE .Gt (.int _ t) (.int _ t2)) Q E s)
theorem vX(a f d:Value):argsOk "max" {pos:=[a],kw:=[(aaz "key",f),(aaz "default",d)]}:=by
 first|exact rfl|kernel_rfl
theorem vW(l f d:Value):adx.«max» ⟨[l],[(aaz "key",f),(aaz "default",d)]⟩=(do
  let it <- pyIter l
  let b <- newList []
  again (Code.builtin "max.loop" ⟨[it,f,b],[(aaz "default",d)]⟩)):=by rfl
def Em(ks:List (Int×Str))(j i:Nat):Prop:=i<j/\∀m,m<j->m≠i->EH ks m i=true
variable{prog:aaH}{w:World}{R:Result->Shared->Prop}
variable{it b q:Addr}{vs:List Value}{ad:List Addr}{ks:List (Int×Str)}
theorem vV{l:Addr}{d:Value}(l1:ad.length=vs.length)(l2:ks.length=vs.length)(Ci:vs.length<64)(nd:(ks.map (·.2)).Nodup)(hA:A.in1.handled=none)(hu:A.in1.units<cLine)
  (MY:l≠it) (MZ:l≠b) (EG:b≠it) (na:∀i,i<vs.length->ad.getD i 0≠it/\ad.getD i 0≠b) :
  ∀(k j:Nat) (s:Shared),vs.length - j=k->j<=vs.length->s.heap.IsTuple l vs.toArray->s.heap.IsTupleIter it l j ->
  ((j=0/\∃c,s.heap.get? b=some (seqObj "list" #[] c))\/∃i c,Em ks j i/\s.heap.get? b=some (seqObj "list" #[vs.getD i .none,.ref (ad.getD i 0)] c)) ->
  (∀i,i<vs.length->za s.heap (ad.getD i 0) (ks.getD i (0,⟨#[]⟩))) ->
  (∀i,i<vs.length->fK prog w A.in1 s (.ref q) (λc=>c≠it/\c≠b) (vs.getD i .none) (ad.getD i 0)) ->
  (∀v h' tk,((vs.length=0/\v=d)\/∃i,Em ks vs.length i/\v=vs.getD i .none)->(∀c o,c≠it->c≠b->s.heap.get? c=some o->h'.get? c=some o)->R (.ok (.ret v)) {s with heap:=h',toks:=tk}) ->
  ads (model prog w) A (.builtin "max.loop" ⟨[.ref it,.ref q,.ref b],[(aaz "default",d)]⟩) R s:=by
 intro k
 induction k with
 |zero=>
  intro j s hk hj hl hi hb hp ht hR
  have ej:j=vs.length:=by omega
  subst ej
  refine acY ac3 ?_
  rw[acj aaW _]
  show wpAny _ A.in1 (adz (.ref b) >>= _) _ _ s
  rcases hb with ⟨e0,c,hb⟩|⟨i,c,mx,hb⟩
  .refine aaa (aa3 hb rfl ?_)
   show wpAny _ A.in1 (tryCatch (pyNext (.ref it)) _ >>= _) _ _ s
   refine aaa (abm (adU hA hi hl (by rw[abJ,aap (aal _)]) λh' kk=>?_))
   show wpAny _ A.in1 (rule _ >>= _) _ _ _
   exact aaa (ady (aah (hR d h' s.toks (.inl ⟨e0,rfl⟩) λc o h1 h2 e=>kk _ _ h1 e)))
  .refine aaa (aa3 hb rfl ?_)
   show wpAny _ A.in1 (tryCatch (pyNext (.ref it)) _ >>= _) _ _ s
   refine aaa (abm (adU hA hi hl (by rw[abJ,aap (aal _)]) λh' kk=>?_))
   show wpAny _ A.in1 (adf b _ >>= _) _ _ _
   have NH:=kk _ _ EG hb
   have s1:=aaP h' b (abd λ_=>(#[]:Array Value))
   refine aaa (ab7 NH rfl ?_ (by show 2<=sizeLine;decide) (aaN _))
   show wpAny _ A.in1 (letGo _ _ >>= _) _ _ _
   exact aaa (abK (aah (hR _ _ s.toks (.inr ⟨i,mx,rfl⟩) λc o h1 h2 e=>(s1.2 c h2).trans (kk _ _ h1 e))))
 |succ k ih=>
  intro j s hk hj hl hi hb hp ht hR
  have zT:j<vs.length:=by omega
  have ev:vs.toArray[j]?=some (vs.getD j .none):=by rw[abJ,aab zT,aad,aab zT];rfl
  have o:=o8 nd
  rw[l2]at o
  have fin:∀(h3:Heap) (tk:Nat),(∀c o,c≠it->c≠b->s.heap.get? c=some o->h3.get? c=some o)->h3.IsTupleIter it l (j+1)->(∃i c,Em ks (j+1) i/\h3.get? b=some (seqObj "list" #[vs.getD i .none,.ref (ad.getD i 0)] c)) ->
    ads (model prog w) A (.builtin "max.loop" ⟨[.ref it,.ref q,.ref b],[(aaz "default",d)]⟩) R {s with heap:=h3,toks:=tk}:=λh3 tk kk NC NG=>by
   refine ih (j+1) {s with heap:=h3,toks:=tk} (by omega) zT ?_ NC (.inr NG) (λi h=>(hp i h).mono λo g=>kk _ _ (na i h).1 (na i h).2 g) (λi h h4 Ka g=>?_) λv h4 Ka hv g=>hR v h4 Ka hv λc o c1 c2 e=>g c o c1 c2 (kk c o c1 c2 e)
   .obtain⟨o,e,r⟩:=hl
    exact⟨o,kk _ _ MY MZ e,r⟩
   .exact ht i h h4 Ka λc o hc e=>g c o hc (kk c o hc.1 hc.2 e)
  refine acY ac3 ?_
  rw[acj aaW _]
  show wpAny _ A.in1 (adz (.ref b) >>= _) _ _ s
  rcases hb with ⟨e0,c,hb⟩|⟨i,c,mx,hb⟩
  .refine aaa (aa3 hb rfl ?_)
   show wpAny _ A.in1 (tryCatch (pyNext (.ref it)) _ >>= _) _ _ s
   refine aaa (abm (adJ hi hl ev λh1 I1 sb=>?_))
   have k1:∀c o,c≠it->s.heap.get? c=some o->h1.get? c=some o:=λc o hc e=>(sb.2 c hc).trans e
   show wpAny _ A.in1 (tryCatch (acS _ (call (.ref q) [vs.getD j .none])) _ >>= _) _ _ _
   refine aaa (abm (aaU (aaT (ht j zT h1 s.toks λc o hc e=>k1 c o hc.1 e) (λv z hz=>?_) λ_ _ f=>f.elim)))
   obtain⟨rfl,h2,Kc,rfl,g2⟩:=hz
   show wpAny _ A.in1 (adf b _ >>= _) _ _ _
   have BW:=g2 _ _ (k1 _ _ EG hb)
   have s2:=aaP h2 b (abd λ_=>#[vs.getD j .none,.ref (ad.getD j 0)])
   refine aaa (ab7 BW rfl ?_ (aaN _) (by show 2<=sizeLine+1;decide))
   refine aah ⟨abT aaW _,fin _ Kc (λc o c1 c2 e=>(s2.2 c c2).trans (g2 _ _ (k1 c o c1 e))) ?_ ⟨j,_,⟨aa5 j,λm hm ne=>by omega⟩,abL BW λ_=>#[vs.getD j .none,.ref (ad.getD j 0)]⟩⟩
   obtain⟨o,e,r⟩:=I1
   exact⟨o,(s2.2 it EG.symm).trans (g2 _ _ e),r⟩
  .have Gf:i<vs.length:=aaA mx.1 hj
   have RX:j≠i:=ab5 mx.1
   refine aaa (aa3 hb rfl ?_)
   show wpAny _ A.in1 (tryCatch (pyNext (.ref it)) _ >>= _) _ _ s
   refine aaa (abm (adJ hi hl ev λh1 I1 sb=>?_))
   have k1:∀c o,c≠it->s.heap.get? c=some o->h1.get? c=some o:=λc o hc e=>(sb.2 c hc).trans e
   show wpAny _ A.in1 (tryCatch (acS _ (call (.ref q) [vs.getD j .none])) _ >>= _) _ _ _
   refine aaa (abm (aaU (aaT (ht j zT h1 s.toks λc o hc e=>k1 c o hc.1 e) (λv z hz=>?_) λ_ _ f=>f.elim)))
   obtain⟨rfl,h2,Kc,rfl,g2⟩:=hz
   have BW:=g2 _ _ (k1 _ _ EG hb)
   have kk:∀c o,c≠it->s.heap.get? c=some o->h2.get? c=some o:=λc o hc e=>g2 _ _ (k1 c o hc e)
   have p1:za h2 (ad.getD j 0) (ks.getD j (0,⟨#[]⟩)):=(hp j zT).mono λo g=>kk _ o (na j zT).1 g
   have p2:za h2 (ad.getD i 0) (ks.getD i (0,⟨#[]⟩)):=(hp i Gf).mono λo g=>kk _ o (na i Gf).1 g
   have ne:(ks.getD j (0,⟨#[]⟩)).2≠(ks.getD i (0,⟨#[]⟩)).2:=λq=>by
    have a:(ks.map (·.2))[j]'(by rw[aae];omega)=(ks.map (·.2))[i]'(by rw[aae];omega):=by
     rw[acu,acu]
     rw[aad,aad,aab (by omega),aab (by omega)]at q
     exact q
    exact RX ((abP nd).mp a)
   have R1:h2.IsTupleIter it l (j+1):=by
    obtain⟨o,e,r⟩:=I1
    exact⟨o,g2 _ _ e,r⟩
   show wpAny _ A.in1 (tryCatch (acS _ (adN .Gt (.ref (ad.getD j 0)) (.ref (ad.getD i 0)) >>= _)) _ >>= _) _ _ _
   refine aaa (abm (aaU (aaa (vy (s:={s with heap:=h2,toks:=Kc}) hu p1 p2 ne prog w _ _ ?_))))
   show wpAny _ A.in1 (acS _ (truthy (.bool _)) >>= _) _ _ _
   refine aaa (aaU (abn ?_))
   refine aaa (abK (aah ?_))
   have eg:gtB (ks.getD j (0,⟨#[]⟩)) (ks.getD i (0,⟨#[]⟩))=EH ks i j:=rfl
   rw[eg]
   cases hg:EH ks i j with
   |true=>
    show wpAny _ A.in1 (adf b _ >>= _) _ _ _
    have s2:=aaP h2 b (abd λ_=>#[vs.getD j .none,.ref (ad.getD j 0)])
    refine aaa (ab7 BW rfl ?_ (by show 2<=sizeLine;decide) (by show 2<=sizeLine+1;decide))
    refine aaa (abK ?_)
    refine aah ⟨abT aaW _,fin _ Kc (λc o c1 c2 e=>(s2.2 c c2).trans (kk c o c1 e)) ?_ ⟨j,_,⟨aa5 j,λm hm ne=>?_⟩,abL BW λ_=>#[vs.getD j .none,.ref (ad.getD j 0)]⟩⟩
    .obtain⟨o,e,r⟩:=R1
     exact⟨o,(s2.2 it EG.symm).trans e,r⟩
    .by_cases z:m=i
     .rw[z];exact hg
     .exact o.tr m i j (by omega) Gf zT (mx.2 m (by omega) z) hg
   |false=>
    show wpAny _ A.in1 (letGo _ _ >>= _) _ _ _
    refine aaa (abK ?_)
    refine aah ⟨abT aaW _,fin _ Kc (λc o c1 c2 e=>kk c o c1 e) R1 ⟨i,_,⟨abe mx.1,λm hm ne=>?_⟩,BW⟩⟩
    by_cases z:m=j
    .rw[z];exact o.J8 i j Gf zT (λq=>RX q.symm) hg
    .exact mx.2 m (by omega) ne
variable{E:Value->Shared->Prop}
variable{ob:Obj}{Q:Value->Shared->Prop}
theorem xO{l:Addr}{n0:Nat}{d:Value}(hA:A.in1.handled=none)(hu:A.in1.units<cLine)(ho:s.heap.get? l=some ob)(hc:ob.cls=.type "tuple")(hd:ob.data=.seq vs.toArray n0)
  (l1:ad.length=vs.length) (l2:ks.length=vs.length) (Ci:vs.length<64) (nd:(ks.map (·.2)).Nodup) (hp:∀i,i<vs.length->za s.heap (ad.getD i 0) (ks.getD i (0,⟨#[]⟩)))
  (turn:∀i,i<vs.length->fK prog w A.in1 s (.ref q) (λ_=>True) (vs.getD i .none) (ad.getD i 0))
  (h:∀v h' tk,((vs.length=0/\v=d)\/∃i,Em ks vs.length i/\v=vs.getD i .none)->(∀c o,s.heap.get? c=some o->h'.get? c=some o)->Q v {s with heap:=h',toks:=tk}) :
  wpAny (model prog w) A (call (.builtin "max") [.ref l] [(aaz "key",.ref q),(aaz "default",d)]) Q E s:=by
 refine kmb_tree PySem.F.kind_max PySem.F.plain_max PySem.F.entry_max (vX _ _ _) ?_
 rw[vW]
 refine aaa (abY ⟨ob,ho,hc,n0,hd⟩ (aaa (acp ?_ (aaN _))))
 have hsz:(s.heap.push {cls:=abC "tuple_iterator",data:=abO #[aau l,ace 0 0]}).objs.size=s.heap.objs.size+1:=abf ..
 have old:∀b o,s.heap.get? b=some o->((s.heap.push {cls:=abC "tuple_iterator",data:=abO #[aau l,ace 0 0]}).push (seqObj "list" #[] 0)).get? b=some o:=λb o g=>aac _ (aac _ g)
 have lt:∀b o,s.heap.get? b=some o->b≠s.heap.objs.size/\b≠(s.heap.push {cls:=abC "tuple_iterator",data:=abO #[aau l,ace 0 0]}).objs.size:=λb o g=>by
  have:=aak g
  rw[hsz]
  exact⟨aav this,aav (abe this)⟩
 refine aah ⟨abT aaW _,?_⟩
 refine vV (l:=l) (it:=s.heap.objs.size) (b:=(s.heap.push {cls:=abC "tuple_iterator",data:=abO #[aau l,ace 0 0]}).objs.size) (vs:=vs) (ad:=ad) (ks:=ks) l1 l2 Ci nd hA hu (lt _ _ ho).1 (lt _ _ ho).2 (by rw[hsz];exact adS _) (λi hi=>?_) vs.length 0 _ (by omega) (aaN _)
  ⟨ob,old _ _ ho,hc,n0,hd⟩ ⟨_,aac _ (aai _ rfl),rfl,rfl⟩ (.inl ⟨rfl,0,aai _ rfl⟩) (λi hi=>(hp i hi).mono λo g=>old _ o g) (λi hi h2 tk g=>turn i hi h2 tk λb o _ e=>g b o (lt b o e) (old b o e)) λv h' tk hv g=>h v h' tk hv λc o e=>g c o (lt c o e).1 (lt c o e).2 (old c o e)
 obtain⟨o,_,_,_,g,_⟩:=hp i hi
 exact lt _ o g
def JE(X:Cx)(lq d:Str)(y8:Pos)(P:Addr)(params:Arguments)(body:Expr)(scope:Scope)(i:Nat)(σ:St)(Q:VK):VK:=λv H1=>∃(l:Addr) (ss:List Str) (dd:Addr) (kvs:List (Key×V)) (ad:List Addr) (ks:List (Int×Str)),
 v=.ref l/\zW X.K H1 l (ss.map V.str)/\ss.length<64/\σ[i]?=some (some (.ref dd))/\H1 dd=some (.dK kvs)/\ad.length=ss.length/\ks.length=ss.length/\(ks.map (·.2)).Nodup /\
 (∀j,j<ss.length->AK kvs (aas (ss.getD j ⟨#[]⟩))=some (.ref (ad.getD j 0))/\zW X.K H1 (ad.getD j 0) [.int (ks.getD j k0).1,.str (ks.getD j k0).2]) /\
 Gx X lq d y8 P params body scope σ H1 λ_ H2=>(ss.length=0->Q .oR H2)/\∀m,Em ks ss.length m->Q (.str (ss.getD m ⟨#[]⟩)) H2
def Mw(X:Cx)(lq d:Str)(y8:Pos)(P:Addr)(params:Arguments)(body:Expr)(scope:Scope)(i:Nat)(te:TE):TE:=λσ H Q=>te σ H (JE X lq d y8 P params body scope i σ Q)
variable{X:Cx}{lq d x:Str}{y8 p p1 p2 p3 p4 Dl Gd pos:Pos}{P c:Addr}{params:Arguments}{scope:Scope}{e:Expr}{te:TE}{i k:Nat}{kd:_}
theorem vh(S:DA x d params scope)(S2:DB d params scope)(hr:zy k X.A)(OM:X.calm=true)(hg:Gl X "max")(hm:X.mg "max" = none)(hq:X.env.qual ++ "<lambda>" = lq)(BK:X.env.code=.ref c)(hC:abk X.K c P=true)(hB:BMain X.mg X.base)
  (hi:X.N[i]?=some d) (hd:X.env.kindOf d=some .cell) (hv:Ek X.env.scope d) (he:PE X e te)
  (hs:aam [e] X.env=(false,eval e X.env)::aam [] X.env:=by rfl)
  (h1:backTo pos (aam [e] X.env)=(false,eval e X.env)::backTo pos (aam [] X.env):=by rfl) (h2:(backTo pos (aam [e] X.env)).any (·.1)=false:=by rfl) :
  PE X (.Call (.Name "max" p) [e] [⟨some "key",.Lambda params (.Subscript (.Name d p1) (.Name x p2) p3) scope y8,Dl⟩,⟨some "default",.Constant .none kd p4,Gd⟩] pos) (Mw X lq d y8 P params (.Subscript (.Name d p1) (.Name x p2) p3) scope i te):=by
 intro pins s σ H Q I h
 refine acX (cV I hg hm boot_max ?_)
 refine callWith_kw (zC ((aY he bn hs) pos pins s σ H (λvs H1=>match vs with|[v]=>JE X lq d y8 P params (.Subscript (.Name d p1) (.Name x p2) p3) scope i σ Q v H1|_=>False) I h) λus s1 ⟨vs,H1,I1,r1,q1⟩=>?_) h1 h2
 dsimp only at q1
 split at q1
 case h_2=>exact q1.elim
 obtain⟨l,ss,dd,kvs,ad,ks,rfl,hl,Ci,hσ,GL,l1,l2,nd,hk,hL⟩:=q1
 obtain⟨u,rfl,ru⟩:=r1.one
 cases ru
 obtain⟨ps,eP,hL⟩:=hL
 have Rn:dd≠P:=λz=>by rw[z,eP]at GL;cases GL
 have lam:Gx X lq d y8 P params (.Subscript (.Name d p1) (.Name x p2) p3) scope σ H1 λfv H2=>∃f c' ob,fv=.ref f/\H2 f=some (B4 f ob)/\D0 X lq d params (.Subscript (.Name d p1) (.Name x p2) p3) scope c' ob/\H2 c'=some (Az c' lq)/\(∀b o,H1 b=some o->b≠P->H2 b=some o) /\
   ((ss.length=0->Q .oR H2)/\∀m,Em ks ss.length m->Q (.str (ss.getD m ⟨#[]⟩)) H2):=by
  refine⟨ps,eP,hL.1,?_⟩
  rcases hL.2 with ⟨g1,g2⟩|⟨c',g1,g2,g3⟩
  .refine .inl ⟨g1,λc' f ob a1 a2 a3 a4 a5 a6=>⟨f,c',ob,rfl,ak,a6,?_,λb o hb hP=>?_,g2 c' f ob a1 a2 a3 a4 a5 a6⟩⟩
   .rw[ag a3,ak]
   .rw[ag (aw hb a2),ag (aw hb a1),ag hP];exact hb
  .refine .inr ⟨c',g1,g2,λf ob a1 a2=>⟨f,c',ob,rfl,ak,a2,?_,λb o hb _=>?_,g3 f ob a1 a2⟩⟩
   .rw[ag (aw g2 a1)];exact g2
   .rw[ag (aw hb a1)];exact hb
 refine zC ((kA (qZ S2 hq BK hC hB hd) (kA qY qT)) pos pins s1 σ H1 (λvs H2=>match vs with|[fv,dv]=>dv=.oR/\∃f c' ob,fv=.ref f/\H2 f=some (B4 f ob)/\D0 X lq d params (.Subscript (.Name d p1) (.Name x p2) p3) scope c' ob/\H2 c'=some (Az c' lq)/\(∀b o,H1 b=some o->b≠P->H2 b=some o)/\((ss.length=0->Q .oR H2)/\∀m,Em ks ss.length m->Q (.str (ss.getD m ⟨#[]⟩)) H2)|_=>False) I1 ?_) λws s2 ⟨zs,H2,I2,rz,q2⟩=>?_
 .obtain⟨KG,e1,e2,e3⟩:=lam
  refine⟨KG,e1,e2,?_⟩
  rcases e3 with ⟨g1,g2⟩|⟨c',g1,g2,g3⟩
  .exact .inl ⟨g1,λc' f ob a1 a2 a3 a4 a5 a6=>⟨rfl,g2 c' f ob a1 a2 a3 a4 a5 a6⟩⟩
  .exact .inr ⟨c',g1,g2,λf ob a1 a2=>⟨rfl,g3 f ob a1 a2⟩⟩
 dsimp only at q2
 split at q2
 case h_2=>exact q2.elim
 obtain⟨rfl,f,c',ob,rfl,ef,⟨cell,HZ,AZ,rfl⟩,ec,keep,Us,hQ⟩:=q2
 obtain⟨u,u2,rfl,ru,Te⟩:=rz.two
 cases ru
 cases Te
 show wpAny _ _ (call (.builtin "max") [.ref l] [(aaz "key",.ref f),(aaz "default",.none)]) _ _ _
 obtain⟨eQ,rv,⟨o,g1,g2,n0,g3⟩,hz⟩:=I2.tuple (hJ eP keep hl)
 have hlen:eQ.length=ss.length:=by have:=rv.length;rw[aae]at this;exact this.symm
 have OC:∀j,j<ss.length->∃t,eQ.getD j abh=.str (ss.getD j ⟨#[]⟩) t:=λj hj=>by
  obtain⟨u,hu,ru⟩:=rv.get (i:=j) (show (ss.map V.str)[j]?=some (.str (ss.getD j ⟨#[]⟩))by rw[aaj,aab hj,aad,aab hj];rfl)
  obtain⟨t,rfl⟩:=ru
  exact⟨t,by rw[aad,hu];rfl⟩
 have cellAt:s2.heap.IsCell cell (some (.ref dd)):=by
  obtain⟨m,_,K0⟩:=I2.loc
  obtain⟨u,ru,lk⟩:=K0 i d _ hi hσ hv
  cases ru
  rcases lk with ⟨y,_⟩|⟨_,c2,y1,y2⟩
  .rw[hd]at y;cases y
  .rw[AZ]at y1;cases y1;exact y2
 have lim:s2.heap.NoLimit:=I2.mod.nolimit.keeps I2.bk
 refine xO (d:=.none) (vs:=eQ) (ad:=ad) (ks:=ks) (I2.ok.hd OM) (by have:=hr.un;show X.A.units+1<cLine;omega) g1 g2 g3 (by omega) (by omega) (by omega) nd (λj hj=>?_) (λj hj h tk kk=>?_) λv h' tk hv kk=>?_
 .obtain⟨zU,G5,J7,_⟩:=I2.tuple (hJ eP keep (hk j (by omega)).2)
  exact hV G5 J7
 .obtain⟨t,et⟩:=OC j (by omega)
  rw[et]
  have HE:∀b o,s2.heap.get? b=some o->h.get? b=some o:=λb o g=>kk b o trivial g
  have I3:Inv X pins σ H2 {s2 with heap:=h,toks:=tk}:=I2.kept HE
  refine m3 (z:={s2 with heap:=h,toks:=tk}) S I3 ?_ (HE _ _ (I2.y6 f _ ef).1) ?_ (lim.keeps HE) ?_ (keep _ _ GL Rn) (hk j (by omega)).1
  .have:=hr.dp
   show X.A.depth<recursionLimit
   omega
  .exact(I2.y6 c' _ ec).2.2 _ _ (I2.y6 c' _ ec).1 λo g=>HE _ _ g
  .obtain⟨o,y,r⟩:=cellAt
   exact⟨o,HE _ _ y,r⟩
 .rcases hv with ⟨e0,rfl⟩|⟨m,mx,rfl⟩
  .exact⟨.oR,H2,I2.kept kk,rfl,Us (by omega)⟩
  .rw[hlen]at mx
   obtain⟨t,et⟩:=OC m mx.1
   rw[et]
   exact⟨.str _,H2,I2.kept kk,⟨t,rfl⟩,hQ m mx⟩
end L2
namespace Q
open PySem L2 PyProof.Rows PySem.W
variable{X:Cx}{lq d x:Str}{y8 p p1 p2 p3 p4 Dl Gd pos:Pos}{T c:Addr}{params:Arguments}{scope:Scope}{e:Expr}{f:WE}{i j k:Nat}{ob:Ap}{kd:_}
end Q
namespace L2
open PySem PySem.Spec PyProof.Rows
variable{P:aaH}{w:World}{K:aag}{mg:Str->Option Value}{k:Nat}{a:Addr}{fd:ab0}{x:Str}{sp:Sp}{vs:List Value}
theorem qj{mb:Str->Option Value}{fa:Addr}{Ts:List Addr}{s₁:Shared}{ns:List Int}
  (KX:K.In s₁.heap) (Ii:s₁.heap.Ns aaM mg) (hb:s₁.heap.Ns aeG mb) (Uo:∀x:Str,x ≠ "__name__" -> mb x=aco x) (K8:s₁.heap.NoLimit) (hg:s₁.gens=#[])
  (ha:s₁.heap.get? a=some {cls:=.type "list",data:=.seq vs.toArray}) (hi:IntsAre vs ns) (hl:ns.length<=sizeLine) (hr:zy k afe) (hC:∀T∈Ts,∃c,abk K c T=true) (hT:∀T∈Ts,s₁.heap.get? T=some (adu #[])) (Q3:∀T∈Ts,K.lookup T=none) (hB:BMain mg s₁.heap)
  (F:∀base:Heap,K.In base->base.Ns aaM mg->BMain mg base->zf P w K mg base Ak k fa fd [x] sp) (NF:∀(s:Shared) (u:Value),BindsTo s fd ⟨[u],[]⟩ [(x,u)])
  (Ih:∀H:Hp,An K H a (ns.map V.int)->(∀T∈Ts,H T=some (Aq T #[]))->sp [.ref a] H (λv H'=>v=.bl true/\∀T∈Ts,∃ps,H' T=some (Aq T ps)) λ_ _ _=>False) :
  ads (model P w) afe (.call (.ref fa) ⟨[.ref a],[]⟩) (λr s'=>r=.ok (.ret (.bool true))/\OldK s₁.heap s'.heap/\s'.os=s₁.os/\aen s'.gens) s₁:=by
 have rv:=lg hi
 have Qd:=hi.length
 have Sr:a∉Ts:=λz=>by rw[hT a z]at ha;cases ha
 have core:∀H:Hp,(∀b,H b=none\/(∃o xs,H b=some (.BB o (.lst xs)))\/b∈Ts)->An K H a (ns.map V.int)->(∀T∈Ts,H T=some (Aq T #[]))->BD P w H s₁.heap->(∀b,H b≠none->b=a\/b∈Ts)->(H a≠none->K.lookup a=none) ->
   ads (model P w) afe (.call (.ref fa) ⟨[.ref a],[]⟩) (λr s'=>r=.ok (.ret (.bool true))/\OldK s₁.heap s'.heap/\s'.os=s₁.os/\aen s'.gens) s₁:=by
  intro H hO hS Q4 y6 hA hK
  have Ej:∀{b:Addr} {o:Obj},s₁.heap.get? b=some o->H b=none->(DI s₁.heap H).get? b=some o:=λe n=>ug e n
  have plain:∀{b:Addr} {o:Obj},s₁.heap.get? b=some o->o≠{cls:=.type "list",data:=.seq vs.toArray}->o≠adu #[]->H b=none:=λ{b o} e n1 n2=>by
   cases q:H b with
   |none=>rfl
   |some u=>
    rcases hA b (by rw[q];simp)with z|z
    .rw[z,ha]at e;cases e;exact absurd rfl n1
    .rw[hT b z]at e;cases e;exact absurd rfl n2
  have MW:∀{b:Addr} {o:Obj} {es:Array DictEntry} {ep:Nat},s₁.heap.get? b=some o->o.data=.dict es ep->H b=none:=λ{b o es ep} e d=>plain e (λz=>by rw[z]at d;cases d) (λz=>by rw[z]at d;cases d)
  have Ow:∀{b:Addr} {m:Str->Option Value},s₁.heap.Ns b m->(DI s₁.heap H).Ns b m:=λ{b m} ⟨o,es,ep,e,d,r⟩=>⟨o,es,ep,Ej e (MW e d),d,r⟩
  have Su:K.In (DI s₁.heap H):=λb o e=>Ej (KX b o e) (by
   cases q:H b with
   |none=>rfl
   |some u=>
    rcases hA b (by rw[q];simp)with z|z
    .subst z
     rw[hK (by rw[q];simp)]at e;cases e
    .rw[Q3 b z]at e;cases e)
  have UA:BMain mg (DI s₁.heap H):=by
   obtain⟨bm,o,b1,b2,b3,b4,b5,b6⟩:=hB.ex
   exact⟨bm,o,b1,b2,Ej b3 (plain b3 (λz=>by rw[z]at b6;cases b6) (λz=>by rw[z]at b6;cases b6)),b4,b5,b6⟩
  have hM:Mod K mg (DI s₁.heap H):=⟨Su,Ow Ii,⟨mb,Ow hb,Uo⟩,let ⟨mc,h1,h2⟩:=K8;⟨mc,Ow h1,h2⟩⟩
  have e0:Jq P w K mg (DI s₁.heap H) afe [] s₁ H:=⟨rfl,hM,λb o e=>vP e,aeU (r8 _ _),trivial,λb hb=>absurd (show b∈([]:List Addr)from hb) (by simp),y6,.of_eq hg⟩
  refine codeAny_mono ((F _ Su (Ow Ii) UA).run afe [] s₁ H ⟨[.ref a],[]⟩ [.ref a] [.ref a] _ _ hr e0 (NF s₁ (.ref a)) (.cons rfl .nil) (Ih H hS Q4)) λr s' h=>?_
  cases r with
  |error e=>exact(show False from h).elim
  |ok fl=>
   cases fl with
   |next=>exact acV h
   |brk=>exact acV h
   |cont=>exact acV h
   |ret u=>
    obtain⟨v,H',os,bare,un,Nw,r',q,OO⟩:=h
    subst q
    obtain rfl:u=adA true:=r'
    have gT:∀T∈Ts,∃ps,s'.heap.get? T=some (adu ps):=λT h=>by
     obtain⟨ps,e⟩:=OO T h
     exact⟨ps,(Nw T _ e).1⟩
    have keep:∀b o,s₁.heap.get? b=some o->b∉Ts->s'.heap.get? b=some o:=λb o e QW=>by
     cases q:H b with
     |none=>exact un.keep b o e q (by intro z;exact absurd (show b∈([]:List Addr)from z) (by simp)) (by simp)
     |some u=>
      rcases hO b with z|⟨ob,xs,z⟩|z
      .rw[q]at z;cases z
      .have z2:=un.Ec b ob _ z
       obtain⟨e1,_⟩:=y6 b _ z
       obtain⟨e2,_⟩:=Nw b _ z2
       rw[e]at e1;cases e1
       exact e2
      .exact absurd z QW
    refine⟨rfl,⟨λb o e=>?_,λb o e=>?_⟩,os,bare⟩
    .by_cases z:b∈Ts
     .obtain⟨c,hc⟩:=hC b z
      obtain⟨ps,g⟩:=gT b z
      rw[hT b z]at e;cases e
      exact .inr (.inl ⟨((PySem.W.codeHd_of_K KX hc).tab (hT b z)).isCodeTable,rfl,#[],ps,rfl,by rw[Array.empty_append];exact g⟩)
     .exact .inl (keep b o e z)
    .by_cases z:b∈Ts
     .obtain⟨ps,g⟩:=gT b z
      exact⟨_,g⟩
     .exact⟨o,keep b o e z⟩
 cases hk:K.lookup a with
 |some o=>
  have e:=KX a o hk
  rw[ha]at e
  cases e
  refine core (λb=>if b∈Ts then some (Aq b #[])else none) (λb=>?_) (.inr ⟨_,vs.toArray,_,hk,rfl,rfl,rfl,by rw[aaf,Qd];exact hl,by simpa using rv⟩) (λT h=>if_pos h) (λb u z=>?_) (λb z=>?_) λz=>absurd (if_neg Sr) z
  .by_cases hb:b∈Ts
   .exact .inr (.inr hb)
   .exact .inl (if_neg hb)
  .by_cases hb:b∈Ts
   .have z':=(if_pos hb).symm.trans z
    cases z'
    exact my (hT b hb)
   .have z':=(if_neg hb).symm.trans z
    cases z'
  .by_cases hb:b∈Ts
   .exact .inr hb
   .exact absurd (if_neg hb) z
 |none=>
  refine core (λb=>if b∈Ts then some (Aq b #[])else if b=a then some (.BB {cls:=.type "list",data:=.seq vs.toArray} (.lst (ns.map V.int)))else none) (λb=>?_) (.inl (.inr ⟨{cls:=.type "list",data:=.seq vs.toArray},(if_neg Sr).trans (if_pos rfl)⟩)) (λT h=>if_pos h) (λb u z=>?_) (λb z=>?_) λ_=>hk
  .by_cases hb:b∈Ts
   .exact .inr (.inr hb)
   .by_cases BW:b=a
    .exact .inr (.inl ⟨_,_,(if_neg hb).trans (if_pos BW)⟩)
    .exact .inl ((if_neg hb).trans (if_neg BW))
  .by_cases hb:b∈Ts
   .have z':=(if_pos hb).symm.trans z
    cases z'
    exact my (hT b hb)
   .have z:=(if_neg hb).symm.trans z
    by_cases BW:b=a
    .have z:=(if_pos BW).symm.trans z
     cases z
     subst BW
     exact⟨ha,by rw[aae];exact hl,vs,_,rv,ha⟩
    .have z:=(if_neg BW).symm.trans z
     cases z
  .by_cases hb:b∈Ts
   .exact .inr hb
   .by_cases BW:b=a
    .exact .inl BW
    .exact absurd ((if_neg hb).trans (if_neg BW)) z
variable{n:Nat}
theorem qC{l:afi}{q:aaH}{loose:List Str}{XP:(Str->Option Value)->Heap->Prop}{YP:World->Heap->Prop}{d:DefRec}{K:Params->aag}{sp:World->Sp}{Ts:List Addr}
  (hn:l.most=some n) (Sd:n<=sizeLine) (ND:d.params.defaults=[]) (hr:zy k afe)
  (hY:∀(w:World) (h:Heap),YP w h->(K w.params).In h/\∀T∈Ts,h.get? T=some (adu #[])) (Q3:∀(w:World),∀T∈Ts,(K w.params).lookup T=none)
  (F:∀(w:World) (mg:Str->Option Value) (fa:Addr) (h:Heap),(K w.params).In h->h.Ns aaM mg->mg d.name=some (.ref fa) ->
   ∃fd:ab0,(∀(s:Shared) (u:Value),BindsTo s fd ⟨[u],[]⟩ [(x,u)])/\(∀T∈Ts,∃c,abk (K w.params) c T=true) /\
    ∀base:Heap,(K w.params).In base->base.Ns aaM mg->BMain mg base->zf l.prog w (K w.params) mg base Ak k fa fd [x] (sp w))
  (Ih:∀(w:World) (H:Hp) (a:Addr) (ns:List Int),ns.length<=n->An (K w.params) H a (ns.map V.int)->(∀T∈Ts,H T=some (Aq T #[]))->sp w [.ref a] H (λv H'=>v=.bl true/\∀T∈Ts,∃ps,H' T=some (Aq T ps)) λ_ _ _=>False) :
  PySem.W.WalkO q loose XP YP l.row.toRowW d [] (λf vs=>PySem.call f vs):=by
 refine Att.EX hn ND λw s₀ s₁ mg mb fa o pm cd doc a vs ns G Y ho hd Dr hmg KW hints hlen hg=>?_
 obtain⟨KX,hT⟩:=hY w _ Y
 obtain⟨fd,hb,hC,hF⟩:=F w mg fa _ KX G.T.g hmg
 have hB:BMain mg s₁.heap:=by
  obtain⟨bm,ob,b1,b2,b3,b4,b5,b6⟩:=G.T.bmain
  exact⟨bm,ob,b1,b2,b3,b4,b5,b6⟩
 exact qj KX G.T.g G.T.b G.T.builtins G.T.nolimit hg KW hints (abg hlen Sd) hr hC hT (Q3 w) hB hF hb (λH hS Q4=>Ih w H a ns hlen hS Q4)
end L2
namespace Q
open PySem L2 PyProof.Rows PySem.W
inductive G0:PV->PV->Prop where
 |one (x:PV):G0 x x
 |fst (x y:PV):G0 (.tup [x,y]) x
 |snd (x y:PV):G0 (.tup [y,x]) x
variable{lq:Str}{ln co:Nat}{T:Addr}{x y:PV}
theorem jv(h:zZ lq ln co T=.tup [x,y]):False:=by unfold zZ at h;simp at h
variable{H:Hp}{a:Addr}{l:List Addr}
theorem fS(h:TabAt H a l (zZ lq ln co T)):a=T:=by
 obtain⟨_,_,_,_,q,_⟩:=h
 exact(oH q).2.2.2.symm
variable{K:aag}{F:Hp}
theorem sZ{cc:PV}(hc:G0 cc (zZ lq ln co T))(ho:(A9 K).P F H a l cc):
  ∃l0 rest:List Addr,TabAt H T l0 (zZ lq ln co T)/\(∀b,b∈l↔b∈l0\/b∈rest)/\(∀b∈l0,b∉rest)/\∀(H':Hp) (HD:List Addr),TabAt H' T HD (zZ lq ln co T)->(∀b∈rest,H' b=H b)->(∀b∈HD,b∉rest)->∃l',(A9 K).P F H' a l' cc/\∀b,b∈l'↔b∈HD\/b∈rest:=by
 cases hc with
 |one=>
  rcases ho with (⟨q,_⟩|⟨_,_,q,_⟩)|⟨_,q,_⟩|ht|⟨_,_,_,_,_,q,_⟩
  .cases q
  .cases q
  .cases q
  .obtain rfl:=fS ht
   exact⟨l,[],ht,λb=>by simp,λb _=>by simp,λH' HD h _ _=>⟨HD,.inr (.inr (.inl h)),λb=>by simp⟩⟩
  .exact(jv q).elim
 |fst _ y=>
  rcases ho with (⟨q,_⟩|⟨_,_,q,_⟩)|⟨_,q,_⟩|⟨_,_,_,_,q,_⟩|⟨x1,x2,T2,l1,l2,q,rfl,h1,h2,h3⟩
  .cases q
  .cases q
  .cases q
  .exact(jv q.symm).elim
  .injection q with q
   injection q with q1 q
   injection q with q2 _
   subst q1 q2
   obtain rfl:=fS h1
   exact⟨l1,l2,h1,λb=>acF,h3,λH' HD h e dj=>⟨HD++l2,.inr (.inr (.inr ⟨_,_,T2,HD,l2,rfl,rfl,h,h2.mono e,dj⟩)),λb=>acF⟩⟩
 |snd _ y=>
  rcases ho with (⟨q,_⟩|⟨_,_,q,_⟩)|⟨_,q,_⟩|⟨_,_,_,_,q,_⟩|⟨x1,x2,T2,l1,l2,q,rfl,h1,h2,h3⟩
  .cases q
  .cases q
  .cases q
  .exact(jv q.symm).elim
  .injection q with q
   injection q with q1 q
   injection q with q2 _
   subst q1 q2
   obtain rfl:=fS h2
   exact⟨l2,l1,h2,λb=>by rw[acF];exact Or.comm,λb hb z=>h3 b z hb,λH' HD h e dj=>⟨l1++HD,.inr (.inr (.inr ⟨_,_,_,l1,HD,rfl,rfl,h1.mono e,h,λb hb z=>dj b z hb⟩)),λb=>by rw[acF];exact Or.comm⟩⟩
variable{X:Cx}{Z:Zn}{F1:Hp}{σ:L2.St}{j:Nat}
theorem oG{H1:Hp}{e1:En}{cc:PV}{d:Str}{y8:Pos}{params:Arguments}{body:Expr}{scope:Scope}{R:Hp->Prop}(K1:tO (md (A9 X.K) X) Z F1 σ H1 e1)(ej:e1[j]?=some (some ⟨2,cc⟩))(hc:G0 cc (zZ lq y8.line y8.col T))
  (hR:∀H2,tO (md (A9 X.K) X) Z F1 σ H2 e1->R H2):Gx X lq d y8 T params body scope σ H1 λ_ H2=>R H2:=by
 obtain⟨fp,L⟩:=K1.sl
 obtain⟨vt,hσt,Tp⟩:=L.at' j _ ej
 obtain⟨a,rfl,ho⟩:∃a,vt=.ref a/\(A9 X.K).P F1 H1 a (fp j) cc:=by
  rcases Tp with ⟨q,_⟩|⟨q,_⟩|⟨_,a,e,_,ho⟩|⟨q,_⟩
  .cases q
  .cases q
  .exact⟨a,e,ho⟩
  .cases q
 obtain⟨l0,rest,ht,hm,Ul,QB⟩:=sZ hc ho
 obtain⟨Qc,ln,co,ps,q,t1,t2,t3⟩:=ht
 obtain⟨rfl,e2,e3,_⟩:=oH q
 have ec:∀l,acQ ⟨ln,co,0,0⟩ l=acQ y8 l:=iV e2.symm e3.symm
 have ON:T∈l0:=by
  rcases t3 with ⟨q,_⟩|⟨_,_,q,_⟩<;>rw[q]<;>simp
 have al:∀b∈fp j,H1 b≠none/\F1 b=none:=L.al j
 have Sw:F1 T=none:=(al T ((hm T).mpr (.inl ON))).2
 refine⟨ps,t1,t2,?_⟩
 rcases t3 with ⟨NA,HL⟩|⟨c',hne,NA,Np,Ld⟩
 .rw[ec]at HL
  refine .inl ⟨HL,λc' f' ob a1 a2 a3 a4 a5 _=>hR _ ?_⟩
  have old:∀b o,H1 b=some o->b≠T->(upd (upd (upd H1 T (Aq T (ps++#[rawInt y8.line,rawInt y8.col,.ref c']))) c' (Az c' lq)) f' (B4 f' ob)) b=some o:=λb o hb QW=>by
   rw[ag (aw hb a2),ag (aw hb a1),ag QW];exact hb
  have eT:(upd (upd (upd H1 T (Aq T (ps++#[rawInt y8.line,rawInt y8.col,.ref c']))) c' (Az c' lq)) f' (B4 f' ob)) T=some (Aq T (ps++#[rawInt y8.line,rawInt y8.col,.ref c'])):=by
   rw[ag (abW a5),ag (abW a4),ak]
  have eC:(upd (upd (upd H1 T (Aq T (ps++#[rawInt y8.line,rawInt y8.col,.ref c']))) c' (Az c' lq)) f' (B4 f' ob)) c'=some (Az c' lq):=by
   rw[ag a3,ak]
  generalize (upd (upd (upd H1 T (Aq T (ps++#[rawInt y8.line,rawInt y8.col,.ref c']))) c' (Az c' lq)) f' (B4 f' ob))=H2 at old eT eC ⊢
  have tl:(ps++#[rawInt y8.line,rawInt y8.col,aau c']).toList=ps.toList++[rawInt y8.line,rawInt y8.col,aau c']:=by simp
  have rs:∀b∈rest,b≠T/\∃o,H1 b=some o:=λb hb=>⟨λz=>Ul T ON (z ▸ hb),b9 (al b ((hm b).mpr (.inr hb))).1⟩
  obtain⟨l',CM,KZ⟩:=QB H2 [T,c'] ⟨lq,y8.line,y8.col,_,rfl,eT,by rw[tl];exact TriplesOk_snoc _ _ _ _ t2,.inr ⟨c',a4,rfl,by rw[tl];exact(iV (p:=⟨y8.line,y8.col,0,0⟩) (q:=y8) rfl rfl _).trans (codeAmong_snoc _ t2 HL),eC⟩⟩
   (λb hb=>by
    obtain⟨z,o,e⟩:=rs b hb
    rw[e,old b o e z]) (λb hb z=>by
    rcases List.mem_cons.mp hb with rfl|hb
    .exact(rs _ z).1 rfl
    .rw[List.mem_singleton.mp hb]at z
     obtain⟨_,o,e⟩:=rs _ z
     rw[a1]at e;cases e)
  have K2:=(K1.II (.inl rfl) L ej hσt (l':=l') (F':=F1) (H':=H2) (c':=cc) (λb o hb hn=>old b o hb λz=>hn ((hm b).mpr (.inl (z ▸ ON)))) (λb hb=>?_) am (λb o hb=>old b o (K1.sF b o hb) λz=>by rw[z,Sw]at hb;cases hb) (λb hb=>.inl hb) CM (λb hb=>?_) (λb hb=>?_)).1
  .rw[tj ej]at K2
   exact K2
  .by_cases z:b=T
   .rw[z,eT];simp
   .obtain⟨o,ho⟩:=b9 hb
    rw[old b o ho z];simp
  .rcases(KZ b).mp hb with hb|hb
   .rcases List.mem_cons.mp hb with rfl|hb
    .exact⟨by rw[eT];simp,Sw⟩
    .rw[List.mem_singleton.mp hb]
     exact⟨by rw[eC];simp,bY.none_of K1.sF a1⟩
   .obtain⟨z,o,e⟩:=rs b hb
    exact⟨by rw[old b o e z];simp,(al b ((hm b).mpr (.inr hb))).2⟩
  .rcases(KZ b).mp hb with hb|hb
   .rcases List.mem_cons.mp hb with rfl|hb
    .exact .inl ((hm _).mpr (.inl ON))
    .rw[List.mem_singleton.mp hb];exact .inr a1
   .exact .inl ((hm b).mpr (.inr hb))
 .refine .inr ⟨c',(ec _).symm.trans Np,Ld,λf' ob a1 _=>hR _ ?_⟩
  have sH:bY H1 (upd H1 f' (B4 f' ob)):=ay a1
  exact K1.move am (ah K1.sF sH) sH λ_ h=>.inl h
variable{i:Nat}
theorem pk{H1:Hp}{e1:En}{kvs:List (Key×PV)}{ss:List Str}{ks:List (Int×Str)}(K1:tO (md (A9 X.K) X) Z F1 σ H1 e1)(ei:e1[i]?=some (some ⟨0,.zB kvs⟩))
  (Fx:∀m,m<ss.length->AA kvs (aas (ss.getD m ⟨#[]⟩))=some (.tup [.int (ks.getD m k0).1,.str (ks.getD m k0).2])) :
  ∃(dd:Addr) (vs:List (Key×V)) (ad:List Addr),σ[i]?=some (some (.ref dd))/\H1 dd=some (.dK vs)/\ad.length=ss.length/\∀m,m<ss.length->AK vs (aas (ss.getD m ⟨#[]⟩))=some (.ref (ad.getD m 0))/\zW X.K H1 (ad.getD m 0) [.int (ks.getD m k0).1,.str (ks.getD m k0).2]:=by
 obtain⟨fp,L⟩:=K1.sl
 obtain⟨vr,hσ,Tq⟩:=L.at' i _ ei
 obtain⟨dd,G4,rfl,GL,rk⟩:∃dd G4,vr=.ref dd/\F1 dd=some (.dK G4)/\yV X.K F1 G4 kvs:=by
  rcases Tq with ⟨_,_,r⟩|⟨q,_⟩|⟨q,_⟩|⟨q,_⟩
  .cases r with
   |zB a b=>exact⟨_,_,rfl,a,b⟩
  .cases q
  .rcases q with q|q<;>cases q
  .cases q
 have ex:∀m:Nat,∃a:Addr,m<ss.length->AK G4 (aas (ss.getD m ⟨#[]⟩))=some (.ref a)/\zW X.K F1 a [.int (ks.getD m k0).1,.str (ks.getD m k0).2]:=λm=>by
  by_cases hm:m<ss.length
  .have hv:=Fx m hm
   rcases rk.val (k:=aas (ss.getD m ⟨#[]⟩))with ⟨_,q⟩|⟨v,x,q1,q2,q3⟩
   .rw[q]at hv;cases hv
   .rw[hv]at q2;cases q2
    cases q3 with
    |tup g1 g2=>
     cases g2 with
     |cons g2 g3=>cases g3 with
      |cons g3 g4=>cases g4;cases g2;cases g3;exact⟨_,λ_=>⟨q1,g1⟩⟩
  .exact⟨0,λh=>absurd h hm⟩
 obtain⟨g,Sn⟩:=Classical.axiomOfChoice ex
 have Vg:∀m,m<ss.length->((aaV ss.length).map g).getD m 0=g m:=λm hm=>by
  rw[aad,aaj,acs hm];rfl
 exact⟨dd,G4,(aaV ss.length).map g,hσ,K1.sF _ _ GL,by simp,λm hm=>by
  rw[Vg m hm]
  exact⟨(Sn m hm).1,av K1.sF (Sn m hm).2⟩⟩
def N6(lq:Str)(ln co:Nat)(T:Addr)(c:PV)(ys:List PV)(kvs:List (Key×PV))(ss:List Str)(ks:List (Int×Str)):Prop:=G0 c (zZ lq ln co T)/\ys.mapM A8=some ss/\ss.length<64/\ks.length=ss.length/\(ks.map (·.2)).Nodup /\
  ∀m,m<ss.length->AA kvs (aas (ss.getD m ⟨#[]⟩))=some (.tup [.int (ks.getD m k0).1,.str (ks.getD m k0).2])
def kU(j i:Nat)(lq:Str)(ln co:Nat)(T:Addr)(f:WE):WE:=λenv P=>f env λx e=>match x,e[i]?,e[j]? with
 |.tup ys,some (some ⟨0,.zB kvs⟩),some (some ⟨2,c⟩)=>∃(ss:List Str) (ks:List (Int×Str)),N6 lq ln co T c ys kvs ss ks/\∀ix,Jn ks ss.length ix->P (.lst (ix.map λm=>.str (ss.getD m ⟨#[]⟩))) e
 |_,_,_=>False
def FJ(j i:Nat)(lq:Str)(ln co:Nat)(T:Addr)(f:WE):WE:=λenv P=>f env λx e=>match x,e[i]?,e[j]? with
 |.tup ys,some (some ⟨0,.zB kvs⟩),some (some ⟨2,c⟩)=>∃(ss:List Str) (ks:List (Int×Str)),N6 lq ln co T c ys kvs ss ks/\(ss.length=0->P .oR e)/\∀m,Em ks ss.length m->P (.str (ss.getD m ⟨#[]⟩)) e
 |_,_,_=>False
variable{d x:Str}{y8 p p1 p2 p3 p4 Dl Gd pos:Pos}{c:Addr}{params:Arguments}{scope:Scope}{e:Expr}{f:WE}{k:Nat}{ob:Ap}{kd:_}
theorem sy(j i:Nat)(S:DA x d params scope)(S2:DB d params scope)(hr:zy k X.A)(hg:Gl X "sorted")(hm:X.mg "sorted" = none)(hq:X.env.qual ++ "<lambda>" = lq)(BK:X.env.code=.ref c)(hC:abk X.K c T=true)(hB:BMain X.mg X.base)
  (hi:X.N[i]?=some d) (hd:X.env.kindOf d=some .cell) (hv:Ek X.env.scope d) (ha:zq ob X e f) (GH:ob=A9 X.K:=by rfl)
  (hs:aam [e] X.env=(false,eval e X.env)::aam [] X.env:=by rfl)
  (h1:backTo pos (aam [e] X.env)=(false,eval e X.env)::backTo pos (aam [] X.env):=by rfl) (h2:(backTo pos (aam [e] X.env)).any (·.1)=false:=by rfl) :
  Ha ob X (.Call (.Name "sorted" p) [e] [⟨some "key",.Lambda params (.Subscript (.Name d p1) (.Name x p2) p3) scope y8,Dl⟩] pos) (kU j i lq y8.line y8.col T f):=by
 subst GH
 obtain⟨te,Qx,Qh⟩:=ha.ex
 refine⟨_,tK (i:=i) S S2 hr hg hm hq BK hC hB hi hd hv Qx hs h1 h2,λZ F σ H env Pp Q K hf kk=>?_⟩
 refine Qh Z F σ H env _ _ K hf λy e1 v F1 H1 p s1 K1 r1=>?_
 split at p
 case h_2=>exact p.elim
 rename_i ys kvs cc ei ej
 obtain⟨ss,ks,⟨hc,Qz,Ci,l2,nd,Fx⟩,p⟩:=p
 cases r1 with
 |tup hl QD=>
 have:=cE j5 Qz QD
 subst this
 obtain⟨dd,G4,ad,hσ,GL,l1,hk⟩:=pk K1 ei Fx
 have PM:∀ix:List Nat,nE X.K F1 (ix.map λm=>V.str (ss.getD m ⟨#[]⟩)) (ix.map λm=>PV.str (ss.getD m ⟨#[]⟩)):=λix=>by
  induction ix with
  |nil=>exact .nil
  |cons a r ih=>exact .cons (.str _) ih
 exact⟨_,ss,dd,G4,ad,ks,rfl,av K1.sF hl,Ci,hσ,GL,l1,l2,nd,hk,oG K1 ej hc λH2 K2 D ix hD ok=>kk _ e1 _ F1 _ (p ix ok) s1 (λ_=>by simp) (K2.own hD ⟨_,ak,PM ix⟩)⟩
theorem uq(j i:Nat)(S:DA x d params scope)(S2:DB d params scope)(hr:zy k X.A)(OM:X.calm=true)(hg:Gl X "max")(hm:X.mg "max" = none)(hq:X.env.qual ++ "<lambda>" = lq)(BK:X.env.code=.ref c)(hC:abk X.K c T=true)(hB:BMain X.mg X.base)
  (hi:X.N[i]?=some d) (hd:X.env.kindOf d=some .cell) (hv:Ek X.env.scope d) (ha:zq ob X e f) (GH:ob=A9 X.K:=by rfl)
  (hs:aam [e] X.env=(false,eval e X.env)::aam [] X.env:=by rfl)
  (h1:backTo pos (aam [e] X.env)=(false,eval e X.env)::backTo pos (aam [] X.env):=by rfl) (h2:(backTo pos (aam [e] X.env)).any (·.1)=false:=by rfl) :
  zq ob X (.Call (.Name "max" p) [e] [⟨some "key",.Lambda params (.Subscript (.Name d p1) (.Name x p2) p3) scope y8,Dl⟩,⟨some "default",.Constant .none kd p4,Gd⟩] pos) (FJ j i lq y8.line y8.col T f):=by
 subst GH
 obtain⟨te,Qx,Qh⟩:=ha.ex
 refine⟨_,vh (i:=i) S S2 hr OM hg hm hq BK hC hB hi hd hv Qx hs h1 h2,λZ F σ H env Pp Q K hf kk=>?_⟩
 refine Qh Z F σ H env _ _ K hf λy e1 v F1 H1 p s1 K1 r1=>?_
 split at p
 case h_2=>exact p.elim
 rename_i ys kvs cc ei ej
 obtain⟨ss,ks,⟨hc,Qz,Ci,l2,nd,Fx⟩,pn,pm⟩:=p
 cases r1 with
 |tup hl QD=>
 have:=cE j5 Qz QD
 subst this
 obtain⟨dd,G4,ad,hσ,GL,l1,hk⟩:=pk K1 ei Fx
 exact⟨_,ss,dd,G4,ad,ks,rfl,av K1.sF hl,Ci,hσ,GL,l1,l2,nd,hk,oG K1 ej hc λH2 K2=>⟨λz=>kk _ e1 _ F1 _ (pn z) s1 K2 .oR,λm mx=>kk _ e1 _ F1 _ (pm m mx) s1 K2 (.str _)⟩⟩
def C9(K:aag)(T:Addr×Addr):Sp:=λvs H Q _=>∃(a:Addr) (ns:List Int),vs=[.ref a]/\An K H a (ns.map V.int)/\ns.length<=63/\T.1≠T.2/\H T.1=some (Aq T.1 #[])/\H T.2=some (Aq T.2 #[])/\∀(H':Hp),(∃ps,H' T.1=some (Aq T.1 ps))->(∃ps,H' T.2=some (Aq T.2 ps))->Q (.bl true) H'
variable{P:aaH}{w:World}{mg:Str->Option Value}{base:Heap}{D:CV}{Bh:Addr}{fd:ab0}{ps:List Str}
theorem wg{T:Addr×Addr}{OA:Str}{ln2 OT:Nat}(F:zf P w K mg base Ak k Bh fd ps (spT ⟨P,w,K,A9 K⟩ 1 D))
  (h:∀(ns:List Int) (x:PV),ns.length<=63->(x=.A3 ns\/x=.lst (ns.map .int))->D (.tup [zZ lq ln co T.1,zZ OA ln2 OT T.2]) [x] λr c=>r=.bl true/\c=.tup [zZ lq ln co T.1,zZ OA ln2 OT T.2]):zf P w K mg base Ak k Bh fd ps (C9 K T):=by
 refine F.imp λvs H Q E q=>?_
 obtain⟨a,ns,rfl,hs,hn,hne,QZ,QY,kq⟩:=q
 let F0:Hp:=λb=>if b∈[T.1,T.2]then none else H b
 have sF:bY F0 H:=λb o e=>by
  by_cases z:b∈[T.1,T.2]
  .have:=(if_pos z).symm.trans e;cases this
  .exact(if_neg z).symm.trans e
 have f0:∀b o,H b=some o->b∉[T.1,T.2]->F0 b=some o:=λb o e z=>(if_neg z).trans e
 have fin:∀x,(x=.A3 ns\/x=.lst (ns.map .int))->Rep K F0 (.ref a) x->spT ⟨P,w,K,A9 K⟩ 1 D [.ref a] H Q E:=λx hx r=>
  ⟨F0,T.1,[T.1,T.2],.tup [zZ lq ln co T.1,zZ OA ln2 OT T.2],[x],_,sF,.cons r .nil,rfl,.inr (.inr (.inr ⟨_,_,T.2,[T.1],[T.2],rfl,rfl,⟨lq,ln,co,#[],rfl,QZ,trivial,.inl ⟨rfl,rfl⟩⟩,⟨OA,ln2,OT,#[],rfl,QY,trivial,.inl ⟨rfl,rfl⟩⟩,λb hb z=>hne ((List.mem_singleton.mp hb).symm.trans (List.mem_singleton.mp z))⟩)),λb hb=>⟨by
    rcases List.mem_cons.mp hb with rfl|hb
    .rw[QZ];simp
    .rw[List.mem_singleton.mp hb,QY];simp,if_pos hb⟩,h ns x hn hx,λr c' v F' H' l' e _ _ _ _ _ ho _ _ rv=>by
   obtain⟨rfl,rfl⟩:=e
   cases rv
   rcases ho with (⟨q,_⟩|⟨_,_,q,_⟩)|⟨_,q,_⟩|⟨_,_,_,_,q,_⟩|⟨x1,x2,T2,l1,l2,q,rfl,h1,h2,_⟩
   .cases q
   .cases q
   .cases q
   .exact(jv q.symm).elim
   .injection q with q
    injection q with q1 q
    injection q with q2 _
    subst q1 q2
    obtain rfl:=fS h2
    obtain⟨_,_,_,p1,_,t1,_⟩:=h1
    obtain⟨_,_,_,p2,_,t2,_⟩:=h2
    exact kq H' ⟨p1,t1⟩ ⟨p2,t2⟩⟩
 have no:∀o:HO,(∀T' ps,o≠Aq T' ps)->H a=some o->a∉[T.1,T.2]:=λo ho e z=>by
  rcases List.mem_cons.mp z with rfl|z
  .rw[QZ]at e;exact ho _ _ (aao e).symm
  .rw[List.mem_singleton.mp z,QY]at e;exact ho _ _ (aao e).symm
 rcases hs with (hs|⟨o,hs⟩)|hs
 .exact fin _ (.inr rfl) (.lst (f0 _ _ hs (no _ (λ_ _ z=>by cases z) hs)) (eh ns))
 .exact fin _ (.inl rfl) (.A3 (.inl ⟨o,f0 _ _ hs (no _ (λ_ _ z=>by cases z) hs)⟩))
 .exact fin _ (.inl rfl) (.A3 (.inr hs))
end Q
namespace L2
open PySem PySem.Spec PyProof.Rows
variable{prog:aaH}{w:World}{A:Around}{E:Value->Shared->Prop}{s:Shared}
variable{X:Cx}{e l:Expr}{te:TE}{tl:TO}{pos p2 p3:Pos}{c:Int}{j:_}
end L2
namespace Q
open PySem L2 PyProof.Rows
end Q
namespace L2
open PySem PySem.Spec PyProof.Rows
theorem lG(k l:Int×Str):(k.1=l.1/\k.2=l.2/\gtB k l=false)\/(k.1=l.1/\k.2≠l.2/\gtB k l=decide (l.2.cps.toList<k.2.cps.toList))\/(k.1≠l.1/\gtB k l=decide (l.1<k.1)):=by
 by_cases e:k.1=l.1
 .by_cases g:k.2=l.2
  .refine .inl ⟨e,g,decide_eq_false ?_⟩
   rintro(z|⟨_,z⟩)
   .omega
   .rw[g]at z
    exact adv _ z
  .refine .inr (.inl ⟨e,g,?_⟩)
   unfold gtB
   rw[aaS,decide_eq_true_eq,decide_eq_true_eq]
   exact⟨λz=>z.elim (λq=>by omega) λq=>q.2,λz=>.inr ⟨e.symm,z⟩⟩
 .refine .inr (.inr ⟨e,?_⟩)
  unfold gtB
  rw[aaS,decide_eq_true_eq,decide_eq_true_eq]
  exact⟨λz=>z.elim id λq=>absurd q.1.symm e,.inl⟩
variable{n j k:Nat}
theorem oJ(h:n - j=k+1):n - (j+1)=k:=by omega
def zk(bt:Int×Str->Int×Str->Bool):List (Int×Str)->Int×Str
 |[]=>(0,⟨#[]⟩)
 |k::ks=>ks.foldl (λb x=>if bt x b=true then x else b) k
theorem lV{bt:Int×Str->Int×Str->Bool}{l:List (Int×Str)}(h:l≠[])(x:Int×Str):zk bt (l++[x])=if bt x (zk bt l)=true then x else zk bt l:=by
 cases l with
 |nil=>exact absurd rfl h
 |cons k ks=>show (ks++[x]).foldl _ k=_;rw[List.foldl_append];rfl
variable{ks:List (Int×Str)}
theorem lu(h:j<ks.length):ks.take (j+1)=ks.take j++[ks.getD j (0,⟨#[]⟩)]:=by
 rw[acx,aab h,aad,aab h];rfl
theorem kn:∀{ad:List Addr} {eQ:List Value},oF (ad.map V.ref) eQ->eQ=ad.map aau
 |[],eQ,r=>by rw[adp]at r;cases r;rfl
 |a::ad,eQ,r=>by
  rw[aar]at r
  cases r with
  |cons r1 r2=>
   cases r1
   rw[kn r2];rfl
variable{A:Around}{s:Shared}{x y:Addr}{l:Int×Str}
theorem tP{k:Int×Str}(hu:A.units<cLine)(hx:za s.heap x k)(hy:za s.heap y l):LF A s (.ref x) (.ref y) (gtB k l):=λprog w E Q h=>by
 obtain⟨⟨cls,dd,data,sl⟩,n,t,u,ho,hc,hd⟩:=hx
 obtain⟨⟨Ji,Gk,data2,FY⟩,n2,t2,u2,Dq,ER,hd2⟩:=hy
 simp only at hc hd ER hd2
 subst hc hd ER hd2
 refine ac2 (op:=.Gt) ⟨_,ho,rfl⟩ ⟨_,Dq,rfl⟩ PySem.F.slot_tuple_gt PySem.F.entry_tuple_gt (PySem.F.args_tuple_gt_2 _ _) (lp x y _ _ n n2 dd Gk sl FY (gtB k l))
  ⟨ho,Dq,?_,show adA (gtB k l)≠ada/\Q (.bool (gtB k l)) s from ⟨(λx=>nomatch x),h⟩⟩ hu
 rcases lG k l with ⟨e,g,b⟩|⟨e,g,b⟩|⟨e,b⟩
 .rw[b]
  have e1:(k.1==l.1)=true:=by simp[e]
  have e2:(k.2==l.2)=true:=by simp[g]
  exact .eq (e1 ▸ abM k.1 t l.1 t2) (.eq (e2 ▸ acB k.2 u l.2 u2) .nn)
 .have e1:(k.1==l.1)=true:=by simp[e]
  have e2:(k.2==l.2)=false:=by simp[g]
  refine .eq (e1 ▸ abM k.1 t l.1 t2) (.gt (e2 ▸ acB k.2 u l.2 u2) λprog w E Q hq=>?_)
  rw[b]at hq
  exact(P.gt_str hq:wpAny (model prog w) _ (aaE .Gt (.str _ u) (.str _ u2)) Q E s)
 .have e1:(k.1==l.1)=false:=by simp[e]
  refine .gt (e1 ▸ abM k.1 t l.1 t2) λprog w E Q hq=>?_
  rw[b]at hq
  exact(gt_int hq:wpAny (model prog w) _ (aaE .Gt (.int _ t) (.int _ t2)) Q E s)
theorem t6(a:Value):argsOk "max" {pos:=[a],kw:=[]}:=by
 first|exact rfl|kernel_rfl
theorem t5(l:Value):adx.«max» ⟨[l],[]⟩=(do
  let it <- pyIter l
  let b <- newList []
  again (Code.builtin "max.loop" ⟨[it,.none,b],[]⟩)):=by rfl
variable{prog:aaH}{w:World}{R:Result->Shared->Prop}
variable{it b:Addr}{ad:List Addr}
theorem t4{l:Addr}(l2:ks.length=ad.length)(h0:ad.length≠0)(hA:A.in1.handled=none)(hu:A.in1.units<cLine)
  (MY:l≠it) (MZ:l≠b) (EG:b≠it) (na:∀i,i<ad.length->ad.getD i 0≠it/\ad.getD i 0≠b) :
  ∀(k j:Nat) (s:Shared),ad.length - j=k->j<=ad.length->s.heap.IsList l (ad.map aau).toArray->s.heap.IsListIter it l j ->
  ((j=0/\∃c,s.heap.get? b=some (seqObj "list" #[] c))\/∃i c,i<j/\ks.getD i (0,⟨#[]⟩)=zk gtB (ks.take j)/\s.heap.get? b=some (seqObj "list" #[.ref (ad.getD i 0),.ref (ad.getD i 0)] c)) ->
  (∀i,i<ad.length->za s.heap (ad.getD i 0) (ks.getD i (0,⟨#[]⟩))) ->
  (∀i h' tk,i<ad.length->ks.getD i (0,⟨#[]⟩)=zk gtB ks->(∀c o,c≠it->c≠b->s.heap.get? c=some o->h'.get? c=some o)->R (.ok (.ret (.ref (ad.getD i 0)))) {s with heap:=h',toks:=tk}) ->
  ads (model prog w) A (.builtin "max.loop" ⟨[.ref it,.none,.ref b],[]⟩) R s:=by
 intro k
 induction k with
 |zero=>
  intro j s hk hj hl hi hb hp hR
  have ej:j=ad.length:=by omega
  subst ej
  refine acY ac3 ?_
  rw[acj aaW _]
  show wpAny _ A.in1 (adz (.ref b) >>= _) _ _ s
  rcases hb with ⟨e0,_⟩|⟨i,c,CO,bi,hb⟩
  .exact absurd e0 h0
  .refine aaa (aa3 hb rfl ?_)
   show wpAny _ A.in1 (tryCatch (pyNext (.ref it)) _ >>= _) _ _ s
   refine aaa (abm (adX hA hi hl (by rw[abJ,aap (by simp)]) λh' kk=>?_))
   show wpAny _ A.in1 (adf b _ >>= _) _ _ _
   have NH:=kk _ _ EG hb
   have s1:=aaP h' b (abd λ_=>(#[]:Array Value))
   refine aaa (ab7 NH rfl ?_ (by show 2<=sizeLine;decide) (aaN _))
   show wpAny _ A.in1 (letGo _ _ >>= _) _ _ _
   rw[<- l2,abG]at bi
   exact aaa (abK (aah (hR i _ s.toks CO bi λc o h1 h2 e=>(s1.2 c h2).trans (kk _ _ h1 e))))
 |succ k ih=>
  intro j s hk hj hl hi hb hp hR
  have zT:j<ad.length:=by omega
  have ev:(ad.map aau).toArray[j]?=some (.ref (ad.getD j 0)):=by rw[abJ,aaj,aab zT,aad,aab zT];rfl
  have Ms:ks.take (j+1)=ks.take j++[ks.getD j (0,⟨#[]⟩)]:=lu (by omega)
  have QL:ad.length - (j+1)=k:=oJ hk
  have fin:∀(h3:Heap),(∀c o,c≠it->c≠b->s.heap.get? c=some o->h3.get? c=some o)->h3.IsListIter it l (j+1)->(∃i c,i<j+1/\ks.getD i (0,⟨#[]⟩)=zk gtB (ks.take (j+1))/\h3.get? b=some (seqObj "list" #[.ref (ad.getD i 0),.ref (ad.getD i 0)] c)) ->
    ads (model prog w) A (.builtin "max.loop" ⟨[.ref it,.none,.ref b],[]⟩) R {s with heap:=h3}:=λh3 kk NC NG=>by
   refine ih (j+1) {s with heap:=h3} QL zT ?_ NC (.inr NG) (λi h=>(hp i h).mono λo g=>kk _ _ (na i h).1 (na i h).2 g) λi h4 Ka hv bi g=>hR i h4 Ka hv bi λc o c1 c2 e=>g c o c1 c2 (kk c o c1 c2 e)
   obtain⟨o,e,r⟩:=hl
   exact⟨o,kk _ _ MY MZ e,r⟩
  refine acY ac3 ?_
  rw[acj aaW _]
  show wpAny _ A.in1 (adz (.ref b) >>= _) _ _ s
  rcases hb with ⟨e0,c,hb⟩|⟨i,c,CO,bi,hb⟩
  .refine aaa (aa3 hb rfl ?_)
   show wpAny _ A.in1 (tryCatch (pyNext (.ref it)) _ >>= _) _ _ s
   refine aaa (abm (acy hi hl ev λh1 I1 sb=>?_))
   have k1:∀c o,c≠it->s.heap.get? c=some o->h1.get? c=some o:=λc o hc e=>(sb.2 c hc).trans e
   refine aaa (aah ?_)
   show wpAny _ A.in1 (adf b _ >>= _) _ _ _
   have BW:=k1 _ _ EG hb
   have s2:=aaP h1 b (abd λ_=>#[.ref (ad.getD j 0),.ref (ad.getD j 0)])
   refine aaa (ab7 BW rfl ?_ (aaN _) (by show 2<=sizeLine+1;decide))
   refine aah ⟨abT aaW _,fin _ (λc o c1 c2 e=>(s2.2 c c2).trans (k1 c o c1 e)) ?_ ⟨j,_,aa5 j,?_,abL BW λ_=>#[.ref (ad.getD j 0),.ref (ad.getD j 0)]⟩⟩
   .obtain⟨o,e,r⟩:=I1
    exact⟨o,(s2.2 it EG.symm).trans e,r⟩
   .rw[Ms,e0];rfl
  .have Gf:i<ad.length:=aaA CO hj
   refine aaa (aa3 hb rfl ?_)
   show wpAny _ A.in1 (tryCatch (pyNext (.ref it)) _ >>= _) _ _ s
   refine aaa (abm (acy hi hl ev λh1 I1 sb=>?_))
   have kk:∀c o,c≠it->s.heap.get? c=some o->h1.get? c=some o:=λc o hc e=>(sb.2 c hc).trans e
   have BW:=kk _ _ EG hb
   have p1:za h1 (ad.getD j 0) (ks.getD j (0,⟨#[]⟩)):=(hp j zT).mono λo g=>kk _ o (na j zT).1 g
   have p2:za h1 (ad.getD i 0) (ks.getD i (0,⟨#[]⟩)):=(hp i Gf).mono λo g=>kk _ o (na i Gf).1 g
   have Gv:ks.take j≠[]:=λz=>by
    have:=congrArg acr z
    rw[abb,l2,abE]at this
    omega
   refine aaa (aah ?_)
   show wpAny _ A.in1 (tryCatch (acS _ (adN .Gt (.ref (ad.getD j 0)) (.ref (ad.getD i 0)) >>= _)) _ >>= _) _ _ _
   refine aaa (abm (aaU (aaa (tP (s:={s with heap:=h1}) hu p1 p2 prog w _ _ ?_))))
   show wpAny _ A.in1 (acS _ (truthy (.bool _)) >>= _) _ _ _
   refine aaa (aaU (abn ?_))
   refine aaa (abK (aah ?_))
   have bs:=lV (bt:=gtB) Gv (ks.getD j (0,⟨#[]⟩))
   rw[<- Ms,<- bi]at bs
   cases hg:gtB (ks.getD j (0,⟨#[]⟩)) (ks.getD i (0,⟨#[]⟩))with
   |true=>
    rw[hg,if_pos rfl]at bs
    show wpAny _ A.in1 (adf b _ >>= _) _ _ _
    have s2:=aaP h1 b (abd λ_=>#[.ref (ad.getD j 0),.ref (ad.getD j 0)])
    refine aaa (ab7 BW rfl ?_ (by show 2<=sizeLine;decide) (by show 2<=sizeLine+1;decide))
    refine aaa (abK ?_)
    refine aah ⟨abT aaW _,fin _ (λc o c1 c2 e=>(s2.2 c c2).trans (kk c o c1 e)) ?_ ⟨j,_,aa5 j,bs.symm,abL BW λ_=>#[.ref (ad.getD j 0),.ref (ad.getD j 0)]⟩⟩
    obtain⟨o,e,r⟩:=I1
    exact⟨o,(s2.2 it EG.symm).trans e,r⟩
   |false=>
    rw[hg,if_neg (by simp)]at bs
    show wpAny _ A.in1 (letGo _ _ >>= _) _ _ _
    refine aaa (abK ?_)
    exact aah ⟨abT aaW _,fin _ (λc o c1 c2 e=>kk c o c1 e) I1 ⟨i,_,abe CO,bs.symm,BW⟩⟩
variable{X:Cx}
theorem lO(hc:X.calm=true)(hu:X.A.units+1<cLine):zg X (.builtin "max") (λxs H Q=>∃(p:Addr) (ad:List Addr) (ks:List (Int×Str)),xs=[.ref p]/\An X.K H p (ad.map V.ref)/\ks.length=ad.length/\ad.length≠0/\(∀i,i<ad.length->zW X.K H (ad.getD i 0) [.int (ks.getD i k0).1,.str (ks.getD i k0).2])/\∀i,i<ad.length->ks.getD i k0=zk gtB ks->Q (.ref (ad.getD i 0)) H):=by
 intro pins s σ H xs us Q I r h
 obtain⟨p,ad,ks,rfl,hq,l2,h0,hk,q⟩:=h
 obtain⟨u,rfl,ru⟩:=r.one
 cases ru
 obtain⟨eQ,rv,pl,hz⟩:=I.list hq
 obtain rfl:eQ=ad.map aau:=kn rv
 have hl:=pl.isList
 have pr:∀i,i<ad.length->za s.heap (ad.getD i 0) (ks.getD i (0,⟨#[]⟩)):=λi hi=>by
  obtain⟨zU,G5,J7,_⟩:=I.tuple (hk i hi)
  exact hV G5 J7
 refine kmb_tree PySem.F.kind_max PySem.F.plain_max PySem.F.entry_max (t6 _) ?_
 rw[t5]
 refine aaa (acI hl (aaa (acp ?_ (aaN _))))
 have hsz:(s.heap.push {cls:=abC "list_iterator",data:=abO #[aau p,ace 0 0]}).objs.size=s.heap.objs.size+1:=abf ..
 have old:∀b o,s.heap.get? b=some o->((s.heap.push {cls:=abC "list_iterator",data:=abO #[aau p,ace 0 0]}).push (seqObj "list" #[] 0)).get? b=some o:=λb o g=>aac _ (aac _ g)
 have lt:∀b o,s.heap.get? b=some o->b≠s.heap.objs.size/\b≠(s.heap.push {cls:=abC "list_iterator",data:=abO #[aau p,ace 0 0]}).objs.size:=λb o g=>by
  have:=aak g
  rw[hsz]
  exact⟨aav this,aav (abe this)⟩
 refine aah ⟨abT aaW _,?_⟩
 have pn:=hl
 obtain⟨ol,el,rl⟩:=pn
 refine t4 (l:=p) (it:=s.heap.objs.size) (b:=(s.heap.push {cls:=abC "list_iterator",data:=abO #[aau p,ace 0 0]}).objs.size) (ad:=ad) (ks:=ks) l2 h0 (I.ok.hd hc) (by show X.A.units+1<cLine;exact hu) (lt _ _ el).1 (lt _ _ el).2 (by rw[hsz];exact adS _) (λi hi=>?_) ad.length 0 _ (by omega) (aaN _)
  ⟨ol,old _ _ el,rl⟩ ⟨_,aac _ (aai _ rfl),rfl,rfl⟩ (.inl ⟨rfl,0,aai _ rfl⟩) (λi hi=>(pr i hi).mono λo g=>old _ o g) λi h' tk hi bi g=>⟨.ref (ad.getD i 0),H,I.kept λc o e=>g c o (lt c o e).1 (lt c o e).2 (old c o e),rfl,q i hi bi⟩
 obtain⟨o,_,_,_,g,_⟩:=pr i hi
 exact lt _ o g
theorem t8(k l:Int×Str):(k.1=l.1/\k.2=l.2/\gtB l k=false)\/(k.1=l.1/\k.2≠l.2/\gtB l k=decide (k.2.cps.toList<l.2.cps.toList))\/(k.1≠l.1/\gtB l k=decide (k.1<l.1)):=by
 rcases lG l k with ⟨a,b,c⟩|⟨a,b,c⟩|⟨a,c⟩
 .exact .inl ⟨a.symm,b.symm,c⟩
 .exact .inr (.inl ⟨a.symm,abW b,c⟩)
 .exact .inr (.inr ⟨abW a,c⟩)
theorem tN{k:Int×Str}(hu:A.units<cLine)(hx:za s.heap x k)(hy:za s.heap y l):FO A s (.ref x) (.ref y) (gtB l k):=λprog w E Q h=>by
 obtain⟨⟨cls,dd,data,sl⟩,n,t,u,ho,hc,hd⟩:=hx
 obtain⟨⟨Ji,Gk,data2,FY⟩,n2,t2,u2,Dq,ER,hd2⟩:=hy
 simp only at hc hd ER hd2
 subst hc hd ER hd2
 refine ac2 (op:=.Lt) ⟨_,ho,rfl⟩ ⟨_,Dq,rfl⟩ PySem.F.slot_tuple_lt PySem.F.entry_tuple_lt (PySem.F.args_tuple_lt_2 _ _) (lm x y _ _ n n2 dd Gk sl FY (gtB l k))
  ⟨ho,Dq,?_,show adA (gtB l k)≠ada/\Q (.bool (gtB l k)) s from ⟨(λx=>nomatch x),h⟩⟩ hu
 rcases t8 k l with ⟨e,g,b⟩|⟨e,g,b⟩|⟨e,b⟩
 .rw[b]
  have e1:(k.1==l.1)=true:=by simp[e]
  have e2:(k.2==l.2)=true:=by simp[g]
  exact .eq (e1 ▸ abM k.1 t l.1 t2) (.eq (e2 ▸ acB k.2 u l.2 u2) .nn)
 .have e1:(k.1==l.1)=true:=by simp[e]
  have e2:(k.2==l.2)=false:=by simp[g]
  refine .eq (e1 ▸ abM k.1 t l.1 t2) (.lt (e2 ▸ acB k.2 u l.2 u2) λprog w E Q hq=>?_)
  rw[b]at hq
  exact(P.lt_str hq:wpAny (model prog w) _ (aaE .Lt (.str _ u) (.str _ u2)) Q E s)
 .have e1:(k.1==l.1)=false:=by simp[e]
  refine .lt (e1 ▸ abM k.1 t l.1 t2) λprog w E Q hq=>?_
  rw[b]at hq
  exact(lt_int hq:wpAny (model prog w) _ (aaE .Lt (.int _ t) (.int _ t2)) Q E s)
theorem ub(a:Value):argsOk "min" {pos:=[a],kw:=[]}:=by
 first|exact rfl|kernel_rfl
theorem ua(l:Value):adx.«min» ⟨[l],[]⟩=(do
  let it <- pyIter l
  let b <- newList []
  again (Code.builtin "min.loop" ⟨[it,.none,b],[]⟩)):=by rfl
theorem t9{l:Addr}(l2:ks.length=ad.length)(h0:ad.length≠0)(hA:A.in1.handled=none)(hu:A.in1.units<cLine)
  (MY:l≠it) (MZ:l≠b) (EG:b≠it) (na:∀i,i<ad.length->ad.getD i 0≠it/\ad.getD i 0≠b) :
  ∀(k j:Nat) (s:Shared),ad.length - j=k->j<=ad.length->s.heap.IsList l (ad.map aau).toArray->s.heap.IsListIter it l j ->
  ((j=0/\∃c,s.heap.get? b=some (seqObj "list" #[] c))\/∃i c,i<j/\ks.getD i (0,⟨#[]⟩)=zk (λx b=>gtB b x) (ks.take j)/\s.heap.get? b=some (seqObj "list" #[.ref (ad.getD i 0),.ref (ad.getD i 0)] c)) ->
  (∀i,i<ad.length->za s.heap (ad.getD i 0) (ks.getD i (0,⟨#[]⟩))) ->
  (∀i h' tk,i<ad.length->ks.getD i (0,⟨#[]⟩)=zk (λx b=>gtB b x) ks->(∀c o,c≠it->c≠b->s.heap.get? c=some o->h'.get? c=some o)->R (.ok (.ret (.ref (ad.getD i 0)))) {s with heap:=h',toks:=tk}) ->
  ads (model prog w) A (.builtin "min.loop" ⟨[.ref it,.none,.ref b],[]⟩) R s:=by
 intro k
 induction k with
 |zero=>
  intro j s hk hj hl hi hb hp hR
  have ej:j=ad.length:=by omega
  subst ej
  refine acY PySem.F.entry_min_loop ?_
  rw[acj aca _]
  show wpAny _ A.in1 (adz (.ref b) >>= _) _ _ s
  rcases hb with ⟨e0,_⟩|⟨i,c,CO,bi,hb⟩
  .exact absurd e0 h0
  .refine aaa (aa3 hb rfl ?_)
   show wpAny _ A.in1 (tryCatch (pyNext (.ref it)) _ >>= _) _ _ s
   refine aaa (abm (adX hA hi hl (by rw[abJ,aap (by simp)]) λh' kk=>?_))
   show wpAny _ A.in1 (adf b _ >>= _) _ _ _
   have NH:=kk _ _ EG hb
   have s1:=aaP h' b (abd λ_=>(#[]:Array Value))
   refine aaa (ab7 NH rfl ?_ (by show 2<=sizeLine;decide) (aaN _))
   show wpAny _ A.in1 (letGo _ _ >>= _) _ _ _
   rw[<- l2,abG]at bi
   exact aaa (abK (aah (hR i _ s.toks CO bi λc o h1 h2 e=>(s1.2 c h2).trans (kk _ _ h1 e))))
 |succ k ih=>
  intro j s hk hj hl hi hb hp hR
  have zT:j<ad.length:=by omega
  have ev:(ad.map aau).toArray[j]?=some (.ref (ad.getD j 0)):=by rw[abJ,aaj,aab zT,aad,aab zT];rfl
  have Ms:ks.take (j+1)=ks.take j++[ks.getD j (0,⟨#[]⟩)]:=lu (by omega)
  have QL:ad.length - (j+1)=k:=oJ hk
  have fin:∀(h3:Heap),(∀c o,c≠it->c≠b->s.heap.get? c=some o->h3.get? c=some o)->h3.IsListIter it l (j+1)->(∃i c,i<j+1/\ks.getD i (0,⟨#[]⟩)=zk (λx b=>gtB b x) (ks.take (j+1))/\h3.get? b=some (seqObj "list" #[.ref (ad.getD i 0),.ref (ad.getD i 0)] c)) ->
    ads (model prog w) A (.builtin "min.loop" ⟨[.ref it,.none,.ref b],[]⟩) R {s with heap:=h3}:=λh3 kk NC NG=>by
   refine ih (j+1) {s with heap:=h3} QL zT ?_ NC (.inr NG) (λi h=>(hp i h).mono λo g=>kk _ _ (na i h).1 (na i h).2 g) λi h4 Ka hv bi g=>hR i h4 Ka hv bi λc o c1 c2 e=>g c o c1 c2 (kk c o c1 c2 e)
   obtain⟨o,e,r⟩:=hl
   exact⟨o,kk _ _ MY MZ e,r⟩
  refine acY PySem.F.entry_min_loop ?_
  rw[acj aca _]
  show wpAny _ A.in1 (adz (.ref b) >>= _) _ _ s
  rcases hb with ⟨e0,c,hb⟩|⟨i,c,CO,bi,hb⟩
  .refine aaa (aa3 hb rfl ?_)
   show wpAny _ A.in1 (tryCatch (pyNext (.ref it)) _ >>= _) _ _ s
   refine aaa (abm (acy hi hl ev λh1 I1 sb=>?_))
   have k1:∀c o,c≠it->s.heap.get? c=some o->h1.get? c=some o:=λc o hc e=>(sb.2 c hc).trans e
   refine aaa (aah ?_)
   show wpAny _ A.in1 (adf b _ >>= _) _ _ _
   have BW:=k1 _ _ EG hb
   have s2:=aaP h1 b (abd λ_=>#[.ref (ad.getD j 0),.ref (ad.getD j 0)])
   refine aaa (ab7 BW rfl ?_ (aaN _) (by show 2<=sizeLine+1;decide))
   refine aah ⟨abT aca _,fin _ (λc o c1 c2 e=>(s2.2 c c2).trans (k1 c o c1 e)) ?_ ⟨j,_,aa5 j,?_,abL BW λ_=>#[.ref (ad.getD j 0),.ref (ad.getD j 0)]⟩⟩
   .obtain⟨o,e,r⟩:=I1
    exact⟨o,(s2.2 it EG.symm).trans e,r⟩
   .rw[Ms,e0];rfl
  .have Gf:i<ad.length:=aaA CO hj
   refine aaa (aa3 hb rfl ?_)
   show wpAny _ A.in1 (tryCatch (pyNext (.ref it)) _ >>= _) _ _ s
   refine aaa (abm (acy hi hl ev λh1 I1 sb=>?_))
   have kk:∀c o,c≠it->s.heap.get? c=some o->h1.get? c=some o:=λc o hc e=>(sb.2 c hc).trans e
   have BW:=kk _ _ EG hb
   have p1:za h1 (ad.getD j 0) (ks.getD j (0,⟨#[]⟩)):=(hp j zT).mono λo g=>kk _ o (na j zT).1 g
   have p2:za h1 (ad.getD i 0) (ks.getD i (0,⟨#[]⟩)):=(hp i Gf).mono λo g=>kk _ o (na i Gf).1 g
   have Gv:ks.take j≠[]:=λz=>by
    have:=congrArg acr z
    rw[abb,l2,abE]at this
    omega
   refine aaa (aah ?_)
   show wpAny _ A.in1 (tryCatch (acS _ (adN .Lt (.ref (ad.getD j 0)) (.ref (ad.getD i 0)) >>= _)) _ >>= _) _ _ _
   refine aaa (abm (aaU (aaa (tN (s:={s with heap:=h1}) hu p1 p2 prog w _ _ ?_))))
   show wpAny _ A.in1 (acS _ (truthy (.bool _)) >>= _) _ _ _
   refine aaa (aaU (abn ?_))
   refine aaa (abK (aah ?_))
   have bs:=lV (bt:=λx b=>gtB b x) Gv (ks.getD j (0,⟨#[]⟩))
   rw[<- Ms,<- bi]at bs
   cases hg:gtB (ks.getD i (0,⟨#[]⟩)) (ks.getD j (0,⟨#[]⟩))with
   |true=>
    rw[hg,if_pos rfl]at bs
    show wpAny _ A.in1 (adf b _ >>= _) _ _ _
    have s2:=aaP h1 b (abd λ_=>#[.ref (ad.getD j 0),.ref (ad.getD j 0)])
    refine aaa (ab7 BW rfl ?_ (by show 2<=sizeLine;decide) (by show 2<=sizeLine+1;decide))
    refine aaa (abK ?_)
    refine aah ⟨abT aca _,fin _ (λc o c1 c2 e=>(s2.2 c c2).trans (kk c o c1 e)) ?_ ⟨j,_,aa5 j,bs.symm,abL BW λ_=>#[.ref (ad.getD j 0),.ref (ad.getD j 0)]⟩⟩
    obtain⟨o,e,r⟩:=I1
    exact⟨o,(s2.2 it EG.symm).trans e,r⟩
   |false=>
    rw[hg,if_neg (by simp)]at bs
    show wpAny _ A.in1 (letGo _ _ >>= _) _ _ _
    refine aaa (abK ?_)
    exact aah ⟨abT aca _,fin _ (λc o c1 c2 e=>kk c o c1 e) I1 ⟨i,_,abe CO,bs.symm,BW⟩⟩
theorem sM(hc:X.calm=true)(hu:X.A.units+1<cLine):zg X (.builtin "min") (λxs H Q=>∃(p:Addr) (ad:List Addr) (ks:List (Int×Str)),xs=[.ref p]/\An X.K H p (ad.map V.ref)/\ks.length=ad.length/\ad.length≠0/\(∀i,i<ad.length->zW X.K H (ad.getD i 0) [.int (ks.getD i k0).1,.str (ks.getD i k0).2])/\∀i,i<ad.length->ks.getD i k0=zk (λx b=>gtB b x) ks->Q (.ref (ad.getD i 0)) H):=by
 intro pins s σ H xs us Q I r h
 obtain⟨p,ad,ks,rfl,hq,l2,h0,hk,q⟩:=h
 obtain⟨u,rfl,ru⟩:=r.one
 cases ru
 obtain⟨eQ,rv,pl,hz⟩:=I.list hq
 obtain rfl:eQ=ad.map aau:=kn rv
 have hl:=pl.isList
 have pr:∀i,i<ad.length->za s.heap (ad.getD i 0) (ks.getD i (0,⟨#[]⟩)):=λi hi=>by
  obtain⟨zU,G5,J7,_⟩:=I.tuple (hk i hi)
  exact hV G5 J7
 refine kmb_tree PySem.F.kind_min PySem.F.plain_min PySem.F.entry_min (ub _) ?_
 rw[ua]
 refine aaa (acI hl (aaa (acp ?_ (aaN _))))
 have hsz:(s.heap.push {cls:=abC "list_iterator",data:=abO #[aau p,ace 0 0]}).objs.size=s.heap.objs.size+1:=abf ..
 have old:∀b o,s.heap.get? b=some o->((s.heap.push {cls:=abC "list_iterator",data:=abO #[aau p,ace 0 0]}).push (seqObj "list" #[] 0)).get? b=some o:=λb o g=>aac _ (aac _ g)
 have lt:∀b o,s.heap.get? b=some o->b≠s.heap.objs.size/\b≠(s.heap.push {cls:=abC "list_iterator",data:=abO #[aau p,ace 0 0]}).objs.size:=λb o g=>by
  have:=aak g
  rw[hsz]
  exact⟨aav this,aav (abe this)⟩
 refine aah ⟨abT aca _,?_⟩
 have pn:=hl
 obtain⟨ol,el,rl⟩:=pn
 refine t9 (l:=p) (it:=s.heap.objs.size) (b:=(s.heap.push {cls:=abC "list_iterator",data:=abO #[aau p,ace 0 0]}).objs.size) (ad:=ad) (ks:=ks) l2 h0 (I.ok.hd hc) (by show X.A.units+1<cLine;exact hu) (lt _ _ el).1 (lt _ _ el).2 (by rw[hsz];exact adS _) (λi hi=>?_) ad.length 0 _ (by omega) (aaN _)
  ⟨ol,old _ _ el,rl⟩ ⟨_,aac _ (aai _ rfl),rfl,rfl⟩ (.inl ⟨rfl,0,aai _ rfl⟩) (λi hi=>(pr i hi).mono λo g=>old _ o g) λi h' tk hi bi g=>⟨.ref (ad.getD i 0),H,I.kept λc o e=>g c o (lt c o e).1 (lt c o e).2 (old c o e),rfl,q i hi bi⟩
 obtain⟨o,_,_,_,g,_⟩:=pr i hi
 exact lt _ o g
end L2
namespace Q
open PySem L2 PyProof.Rows
def BY:PV->Option (Int×Str)
 |.tup [.int a,.str b]=>some (a,b)
 |_=>none
def CD(bt:Int×Str->Int×Str->Bool):List PV->Option PV
 |[.lst xs]=>(xs.mapM BY).bind λks=>if ks.length=0 then none else some (.tup [.int (zk bt ks).1,.str (zk bt ks).2])
 |_=>none
variable{K:aag}{F:Hp}
theorem lA:∀{xs:List PV} {vs:List V} {ks:List (Int×Str)},xs.mapM BY=some ks->nE K F vs xs->∃ad:List Addr,vs=ad.map V.ref/\ks.length=ad.length/\∀i,i<ad.length->zW K F (ad.getD i 0) [.int (ks.getD i k0).1,.str (ks.getD i k0).2]
 |[],vs,ks,h,r=>by simp at h;subst h;cases r;exact⟨[],rfl,rfl,λi hi=>by simp at hi⟩
 |x::xs,vs,ks,h,r=>by
  rw[abo]at h
  cases ea:BY x with
  |none=>rw[ea]at h;cases h
  |some a=>
   rw[ea]at h
   cases el:xs.mapM BY with
   |none=>rw[el]at h;cases h
   |some bs=>
    rw[el]at h
    have h:some (a::bs)=some ks:=h
    cases h
    cases r with
    |cons r1 r2=>
     obtain⟨ad,e1,e2,e3⟩:=lA el r2
     unfold BY at ea
     split at ea
     .cases ea
      cases r1 with
      |tup h1 h2=>
       cases h2 with
       |cons h2 h3=>
        cases h3 with
        |cons h3 h4=>
         cases h4
         cases h2
         cases h3
         refine⟨_::ad,by rw[aar,e1],by simp[e2],λj hj=>?_⟩
         cases j with
         |zero=>exact h1
         |succ j=>exact e3 j (by simpa using hj)
     .cases ea
theorem nV{bt:Int×Str->Int×Str->Bool}:∀{ks:List (Int×Str)},ks.length≠0->zk bt ks∈ks:=by
 intro ks h
 cases ks with
 |nil=>exact absurd rfl h
 |cons k ks=>
  have:∀(l:List (Int×Str)) (b:Int×Str),l.foldl (λb x=>if bt x b=true then x else b) b=b\/l.foldl (λb x=>if bt x b=true then x else b) b∈l:=λl=>by
   induction l with
   |nil=>exact λb=>.inl rfl
   |cons a l ih=>
    intro b
    rw[ad6]
    rcases ih (if bt a b=true then a else b)with z|z
    .rw[z]
     split
     .exact .inr aaq
     .exact .inl rfl
    .exact .inr (aan _ z)
  rcases this ks k with z|z
  .exact List.mem_cons.mpr (.inl z)
  .exact aan _ z
variable{ob:Ap}{X:Cx}
theorem kW{bt:Int×Str->Int×Str->Bool}:Cf ob X (λxs H Q=>∃(p:Addr) (ad:List Addr) (ks:List (Int×Str)),xs=[.ref p]/\An X.K H p (ad.map V.ref)/\ks.length=ad.length/\ad.length≠0/\(∀i,i<ad.length->zW X.K H (ad.getD i 0) [.int (ks.getD i k0).1,.str (ks.getD i k0).2])/\∀i,i<ad.length->ks.getD i k0=zk bt ks->Q (.ref (ad.getD i 0)) H) (CD bt):=by
 intro Z F σ H env vs xs z Q K rv hz k
 unfold CD at hz
 split at hz
 .rw[Option.bind_eq_some_iff]at hz
  obtain⟨ks,hn,hz⟩:=hz
  split at hz
  .cases hz
  rename_i h0
  cases hz
  obtain⟨v,rfl,r⟩:=rv.one
  obtain⟨p,vs,rfl,h1,h2⟩:=r.lst K.sF
  obtain⟨ad,rfl,e2,e3⟩:=lA hn h2
  refine⟨p,ad,ks,rfl,.inl (.inl h1),e2,by omega,λi hi=>av K.sF (e3 i hi),λi hi bi=>k _ F H am K ?_⟩
  have:=e3 i hi
  rw[bi]at this
  exact .tup this (.cons (.int _) (.cons (.str _) .nil))
 .cases hz
end Q
namespace Pre
open PySem L2
def top(i:Nat):Stmt:=PySem.Challenge.pw_cheaptree_k47_whole_no_way_is_better.main.body.getD i (.Pass ⟨0,0,0,0⟩)
abbrev j7:Stmt:=top 2
abbrev gI:Stmt:=top 3
abbrev gK:Stmt:=top 4
abbrev j8:Stmt:=top 5
abbrev eU:Stmt:=top 6
abbrev gH:Stmt:=top 7
abbrev Fj:Stmt:=top 8
abbrev jc:Stmt:=top 9
abbrev fY:Stmt:=top 10
abbrev Fk:Stmt:=top 11
abbrev dh:Stmt:=top 13
abbrev de:Stmt:=top 14
abbrev gJ:Stmt:=top 15
abbrev eY:Stmt:=top 17
abbrev kh:Stmt:=top 18
abbrev ja:Stmt:=top 19
abbrev Ht:Stmt:=top 21
abbrev Kp:Stmt:=top 22
abbrev jb:Stmt:=top 24
abbrev jd:Stmt:=top 25
abbrev Fl:Stmt:=top 26
abbrev fX:Stmt:=top 27
abbrev dg:Stmt:=top 28
abbrev AL:Stmt:=top 30
abbrev FZ:Stmt:=top 31
abbrev Fh:Stmt:=top 32
abbrev Hv:Stmt:=top 33
abbrev Hu:Stmt:=top 34
abbrev Kt:Stmt:=top 35
abbrev Kv:Stmt:=top 36
abbrev Hs:Stmt:=top 37
abbrev Hq:Stmt:=top 38
abbrev Fi:Stmt:=top 39
abbrev Ku:Stmt:=top 40
structure Named(K:aag)(mg:Str->Option Value)(x:Str)(f:Addr):Prop where
 mg:mg x=some (.ref f)
 kp:abU K (.ref f)=true
structure Df(K:aag)(mg:Str->Option Value)(name:Str)(st:Stmt)(ps:List Str) where
 f:Addr
 fd:ab0
 F:FP K name name st f fd
 b:Binds K fd ps []
 n:Named K mg name f
abbrev Qf:Nat:=26
abbrev Qg:Nat:=26
abbrev Nb:Nat:=32
abbrev Nc:Nat:=29
section
set_option genInjectivity false
set_option genSizeOf false
structure Ev(K:aag)(mg:Str->Option Value) where
 Ed:Df K mg "is_word" j7 ["thing"]
 Cu:Df K mg "is_rising" gI ["words"]
 Cw:Df K mg "are_words" gK ["thing"]
 Ee:Df K mg "is_open" j8 ["net", "tie"]
 Br:Df K mg "ties_by_name" eU ["net"]
 Ct:Df K mg "open_ties" gH ["net"]
 FE:Df K mg "ranks" Fj ["net"]
 Dw:Df K mg "cheaper" jc ["net", "name", "other"]
 A6:Df K mg "dearest_of" fY ["net", "names"]
 FF:Df K mg "out_of" Fk ["net", "side"]
 Al:Df K mg "cheaper_first" dh ["net", "names"]
 AM:Df K mg "without_round" de ["net", "names"]
 Cv:Df K mg "cheapest" gJ ["net"]
 Bs:Df K mg "neighbours" eY ["net"]
 Ef:Df K mg "came_by" kh ["beside", "start"]
 Du:Df K mg "reached" ja ["beside", "start"]
 HV:Df K mg "only" Ht ["net", "names"]
 Lp:Df K mg "way" Kp ["net", "forest", "one", "other"]
 Dv:Df K mg "dearest" jb ["net", "one", "other"]
 Dx:Df K mg "are_open" jd ["net", "thing"]
 FG:Df K mg "leads" Fl ["net", "names", "one", "other"]
 BU:Df K mg "parts_them" fX ["net", "side", "one", "other"]
 AN:Df K mg "shows_dearest" dg ["net", "one", "other", "told"]
 BV:Df K mg "_law_begin" AL ["_law_script"]
 Gi:Df K mg "_law_next" FZ ["_law_state", "_law_many"]
 FC:Df K mg "_law_words" Fh ["_law_state", "_law_many"]
 HX:Df K mg "_law_cost" Hv ["_law_state", "_law_sort"]
 HW:Df K mg "_law_ends" Hu ["_law_state", "_law_family", "_law_many", "_law_k"]
 Lq:Df K mg "_law_net" Kt ["_law_state", "_law_most", "_law_ties_most"]
 Lr:Df K mg "_law_key" Kv ["_law_tie"]
 Ca:Df K mg "_law_open" Hs ["_law_net_here"]
 AH:Df K mg "_law_ways" Hq ["_law_ties", "_law_here", "_law_other", "_law_met"]
 FD:Df K mg "_law_right" Fi ["_law_net_here", "_law_one", "_law_other"]
 FH:Df K mg "law" Ku ["_law_script"]
 y9:Addr
 Cb:∃c,A6.fd.code=.ref c/\abk K c y9=true
 yY:Addr
 Bd:∃c,Al.fd.code=.ref c/\abk K c yY=true
 JW:mg "abs" = none
 CU:mg "all" = none
 JV:mg "any" = none
 CT:mg "enumerate" = none
 Ah:mg "isinstance" = none
 DY:mg "len" = none
 H0:mg "list" = none
 DX:mg "max" = none
 JU:mg "min" = none
 Cd:mg "range" = none
 Am:mg "sorted" = none
 JT:mg "str" = none
 zM:mg "tuple" = none
 JS:mg "zip" = none
 Bv:∃t,mg "LONGEST_WORD" = some (.int 8 t)
end
variable{K:aag}{a:Addr}{H:Hp}
theorem wf{l:Addr}{xs:List V}{js:List (Option Nat)}{σ:St}{QQ:Hp->Prop}{g:TG}{tc:TT}{te:TE}(Pv:Nat->List V->Hp->Prop)(h0:Pv 0 [] H)(hl:∀i ys H,i<=xs.length->Pv i ys H->An K H a xs)
  (hs:∀i x ys H (N:List V->Hp->Prop),xs[i]?=some x->Pv i ys H->(∀ys' H',Pv (i+1) ys' H'->N ys' H')->g x (zE js σ) H λσ4 H4=>tc σ4 H4 λb H5=>if b=true then te σ4 H5 λy H6=>H6 l=some (.lst ys)/\ys.length<sizeLine/\N (ys++[y]) (upd H6 l (.lst (ys++[y])))else N ys H5)
  (hd:∀ys H,Pv xs.length ys H->QQ H) :
  ∃W:Nat->Nat->List V->Hp->Prop,(∃m,W 0 m [] H)/\∀i m ys H2,W i m ys H2 ->
  ((Iv K a).stop i H2/\QQ H2)\/((Iv K a).go i H2/\∀x H3,(Iv K a).yld i H2 x H3->g x (zE js σ) H3 λσ4 H4=>tc σ4 H4 λb H5=>
   if b=true then te σ4 H5 λy H6=>H6 l=some (.lst ys)/\ys.length<sizeLine/\∃m',m'<m/\W (i+1) m' (ys++[y]) (upd H6 l (.lst (ys++[y])))else ∃m',m'<m/\W (i+1) m' ys H5):=by
 refine⟨λi m ys H=>m=xs.length - i/\i<=xs.length/\Pv i ys H,⟨xs.length,by simp,aaN _,h0⟩,?_⟩
 rintro i m ys H2 ⟨rfl,hi,p⟩
 have q:=hl i ys H2 hi p
 by_cases zT:i<xs.length
 .refine .inr ⟨⟨xs,xs[i],q,by simp[zT]⟩,λx H3 y=>?_⟩
  obtain⟨e,y⟩:=y
  subst e
  exact hs i x ys _ (λys' H'=>∃m',m'<xs.length - i/\m'=xs.length - (i+1)/\i+1<=xs.length/\Pv (i+1) ys' H') (y xs q) p λys' H' h=>⟨_,by omega,rfl,zT,h⟩
 .have e:i=xs.length:=by omega
  subst e
  exact .inl ⟨⟨xs,q,aal _⟩,hd ys _ p⟩
theorem vU:(["_law_cell"]:List Str).Nodup:=by decide +kernel
variable{P:aaH}{w:World}{mg:Str->Option Value}{base:Heap}
theorem sq{xs:List V}(h:H a=some (.lst xs)):An K H a xs:=.inl (.inl h)
theorem Ho:aA ["_law_state", "_law_many", "_law_digit"] ["_law_state", "_law_many"] (aq FZ):=⟨rfl,rfl,rfl,by decide +kernel,rfl,by decide +kernel,by decide +kernel⟩
variable{fd:ab0}
theorem vO{f:Addr}(F:FP K "_law_next" "_law_next" FZ f fd):zf P w K mg base Ak 1 f fd ["_law_state", "_law_many"] Hm:=by
 refine F.ok Ho (λvs H Q E h=>?_) (λzr A outer s H vs Q E hr h=>?_)
 .obtain⟨a,b,m,rfl,_⟩:=h
  rfl
 .obtain⟨a,b,m,rfl,S,m0,m1,k⟩:=h
  have hu:=hr.J5
  refine⟨_,bO (mI abw (PW.pt (pw_and (fh (jh hu) (bI zG (pv 0) aE (λ_ _=>rfl)) (gP bn) (Cp _)) (pw_and1 (fh yJ (bI zG (bI zG (pv 0) aE (λ_ _=>rfl)) aE (λ_ _=>rfl)) aE (Cp _)))))
    (dy (ko (qb acZ PySem.F.slot_list_pop PySem.F.type_list_pop t7 (bI zG (pv 0) aE (λ_ _=>rfl)) (aY aE bn)))))
   (bO (uO (fh (jh hu) (bI zG (pv 0) aE (λ_ _=>rfl)) (gP bn) (Cp _))
    (bO (fj (i:=2) Ho.nd rfl (Or.inl rfl) (bq dM (bI zG (bI zG (pv 0) aE (λ_ _=>rfl)) aE (λ_ _=>rfl)) (pv 1)))
    (bO (jB (bq kG (bI zG (bI zG (pv 0) aE (λ_ _=>rfl)) aE (λ_ _=>rfl)) (pv 1)) (mL (bI zG (pv 0) aE (λ_ _=>rfl)) aE i8))
    (dy (fm (pv 2)))))
    oW)
   (bO (jB (bq dM (bq gQ (bq jG (bI zG (pv 0) aE (λ_ _=>rfl)) aE) aE) aE) (mL (pv 0) aE i8))
   (dy (fm (bq dM (bq kG (bq dM (bq jG (bI zG (pv 0) aE (λ_ _=>rfl)) (bI zG (pv 0) aE (λ_ _=>rfl))) aE) aE) (pv 1)))))),?_⟩
  refine⟨λn σ' H'=>σ'=[some (.ref a),some (.int m),none]/\E4 a b H H'/\∃(ns:List Int) (z:Int),H' a=some (.lst [.ref b,.int z])/\H' b=some (.lst (ns.map V.int))/\(∀n∈ns,0<=n)/\0<=z/\z<2305843009213693951/\ns.length=n,?_,?_⟩
  .obtain⟨ns,z,h1,h2,h3,h4,h5⟩:=S.st
   exact⟨_,rfl,E4.refl a b H,ns,z,h1,h2,h3,h4,h5,rfl⟩
  rintro n σ' H' ⟨rfl,hB,ns,z,ha,hb,hn,z0,z1,hl⟩
  have S':El H' a b:=⟨ns,z,ha,hb,hn,z0,z1⟩
  have behind:∀(H1:Hp),E4 a b H H1->El H1 a b->Hj (Mx (FW (CZ (D7 K) (CZ (Dg K) (zK 0) (tC (.int 0))) (Kh Hk))) (Hj (Ff (CZ (rI (λ_ j=>0<j) λi j=>.int (i % j)) (CZ (Dg K) (CZ (Dg K) (zK 0) (tC (.int 0))) (tC (.int 0))) (zK 1)) (AG 2))
    (Hj (Ff (CZ (rI LJ λi j=>.int (i / j)) (CZ (Dg K) (CZ (Dg K) (zK 0) (tC (.int 0))) (tC (.int 0))) (zK 1)) (Lj (CZ (Dg K) (zK 0) (tC (.int 0))) (tC (.int 0)) F8)) (Kg (zK 2)))) Jt)
    (Hj (Ff (CZ (rI (λ_ j=>0<j) λi j=>.int (i % j)) (CZ (Fn λi j=>.int (i+j)) (CZ (rI G2 λi j=>.int (i*j)) (CZ (Dg K) (zK 0) (tC (.int 1))) (tC (.int 6364136223846793))) (tC (.int 1442695040888963))) (tC (.int 2305843009213693951))) (Lj (zK 0) (tC (.int 1)) F8))
     (Kg (CZ (rI (λ_ j=>0<j) λi j=>.int (i % j)) (CZ (rI LJ λi j=>.int (i / j)) (CZ (rI (λ_ j=>0<j) λi j=>.int (i % j)) (CZ (rI G2 λi j=>.int (i*j)) (CZ (Dg K) (zK 0) (tC (.int 1))) (CZ (Dg K) (zK 0) (tC (.int 1)))) (tC (.int 2305843009213693921))) (tC (.int 65537))) (zK 1))))
    {nx:=λ_ H'=>Q .oR H',rt:=Q} [some (.ref a),some (.int m),none] H1:=by
   intro H1 BS S1
   have hne:=S1.ne
   obtain⟨ns,z,ha,hb,hn,z0,z1⟩:=S1.st
   refine⟨_,rfl,a,_,_,_,rfl,rfl,sq ha,au (j:=0) rfl,aaN _,λp hp=>?_⟩
   have Ja:∀o,(upd H1 p o) a=some (.lst [.ref b,.int z]):=λo=>by rw[ag (aw ha hp)];exact ha
   have Ds:∀o,(upd H1 p o) b=some (.lst (ns.map V.int)):=λo=>by rw[ag (aw hb hp)];exact hb
   have S2:=S1.grow (o:=.lst []) hp
   have B2:=BS.grow (o:=.lst []) hp
   refine⟨b,p,_,rfl,rfl,sq (Ds _),sq ak,_,rfl,?_⟩
   cases ns with
   |nil=>
    refine C1 ?_
    refine⟨_,rfl,a,_,_,_,rfl,rfl,sq (Ja _),au (j:=1) rfl,_,_,rfl,rfl,.inr ⟨by decide,by decide⟩,_,_,rfl,rfl,_,_,rfl,rfl,(by show (0:Int)<_;decide),_,rfl,a,_,_,1,rfl,rfl,Ja _,rfl,?_⟩
    have z2:0<=(z*6364136223846793+1442695040888963) % 2305843009213693951:=acn _ (by decide)
    have z3:(z*6364136223846793+1442695040888963) % 2305843009213693951<2305843009213693951:=abZ _ (by decide)
    have S3:=S2.Kn z2 z3
    have B3:E4 a b H (upd (upd H1 p (.lst [])) a (.lst [.ref b,.int ((z*6364136223846793+1442695040888963) % 2305843009213693951)])):=B2.Kn
    refine⟨_,rfl,a,_,_,_,rfl,rfl,sq ak,au (j:=1) rfl,_,rfl,a,_,_,_,rfl,rfl,sq ak,au (j:=1) rfl,_,_,rfl,rfl,.inl ⟨by omega,by omega⟩,_,_,rfl,rfl,(by show (0:Int)<_;decide),_,_,rfl,rfl,⟨by decide,by decide⟩,_,rfl,_,_,rfl,rfl,m0,?_⟩
    exact k _ _ (acn _ (by omega)) (abZ _ m0) S3 B3
   |cons x r=>
    refine Dn ?_
    have x0:0<=x:=hn x aaq
    refine⟨_,rfl,a,_,_,_,rfl,rfl,sq (Ja _),au (j:=0) rfl,b,_,_,_,rfl,rfl,sq (Ds _),au (j:=0) rfl,_,rfl,_,_,rfl,rfl,m0,?_⟩
    refine⟨_,rfl,a,_,_,_,rfl,rfl,sq (Ja _),au (j:=0) rfl,b,_,_,_,rfl,rfl,sq (Ds _),au (j:=0) rfl,_,rfl,_,_,rfl,rfl,⟨m0,m1⟩,_,rfl,a,_,_,_,rfl,rfl,sq (Ja _),au (j:=0) rfl,b,_,_,0,rfl,rfl,Ds _,(by simp[G6]),_,rfl,?_⟩
    refine k _ _ (acn _ (by omega)) (abZ _ m0) (S2.IB (ns:=x / m::r) λn hm=>?_) B2.IB
    rcases List.mem_cons.mp hm with rfl|hm
    .exact Int.ediv_nonneg x0 (by omega)
    .exact hn n (aan _ hm)
  refine⟨_,rfl,a,_,_,_,rfl,rfl,sq ha,au (j:=0) rfl,aaN _,λp hp=>?_⟩
  have Ja:∀o,(upd H' p o) a=some (.lst [.ref b,.int z]):=λo=>by rw[ag (aw ha hp)];exact ha
  have Ds:∀o,(upd H' p o) b=some (.lst (ns.map V.int)):=λo=>by rw[ag (aw hb hp)];exact hb
  have S2:=S'.grow (o:=.lst []) hp
  have B2:=hB.grow (o:=.lst []) hp
  refine⟨b,p,_,rfl,rfl,sq (Ds _),sq ak,_,rfl,?_⟩
  cases ns with
  |nil=>
   refine C1 (C1 ?_)
   exact behind _ B2 S2
  |cons x r=>
   refine Dn ?_
   refine⟨_,rfl,a,_,_,_,rfl,rfl,sq (Ja _),au (j:=0) rfl,b,_,_,_,rfl,rfl,sq (Ds _),au (j:=0) rfl,rfl,_,rfl,?_⟩
   refine Nh (λ_=>?_) (λ_=>behind _ B2 S2)
   refine⟨λσ' O3=>σ'=[some (.ref a),some (.int m),none]/\E4 a b H O3/\O3 a=some (.lst [.ref b,.int z])/\O3 b=some (.lst (r.map V.int)),λσ' O3 h=>⟨r.length,by rw[<- hl,aaL];exact aa5 _,h.1,h.2.1,r,z,h.2.2.1,h.2.2.2,λn hm=>hn n (aan _ hm),z0,z1,rfl⟩,?_⟩
   refine⟨_,rfl,a,_,_,_,rfl,rfl,sq (Ja _),au (j:=0) rfl,.inl ⟨rfl,_,An.of (Ds _)⟩,b,_,0,0,_,rfl,rfl,Ds _,by decide,by decide,?_,rfl,rfl,B2.IB,by rw[ag S'.ne];exact Ja _,ak⟩
   simp[seqIndex?]
structure Bt(mg:Str->Option Value):Prop where
 len:mg "len" = none
 abs:mg "abs" = none
 range:mg "range" = none
 max:mg "max" = none
 sorted:mg "sorted" = none
 tuple:mg "tuple" = none
theorem C5:aA ["_law_script", "_law_seed", "_law_cell"] ["_law_script"] (aq AL):=⟨rfl,rfl,rfl,by decide +kernel,rfl,by decide +kernel,by decide +kernel⟩
theorem tY{f:Addr}(F:FP K "_law_begin" "_law_begin" AL f fd)(B:Bt mg):zf P w K mg base Ak 1 f fd ["_law_script"] (hU K):=by
 refine F.ok C5 (λvs H Q E h=>?_) (λzr A outer s H vs Q E hr h=>?_)
 .obtain⟨a,ns,rfl,_⟩:=h
  rfl
 .obtain⟨a,ns,rfl,hS,hlen,k⟩:=h
  refine⟨_,bO (fj (i:=1) C5.nd rfl (Or.inl rfl) (bq gQ (ci gZ (by rfl) B.len adt (aY (pv 0) bn)) aE))
   (bO (qQ abw rfl (oY (jf j6 (pv 0) ky (ku aE))) (aD (i:=2) C5.nd rfl (Or.inl rfl))
    (dy (fj (i:=1) C5.nd rfl (Or.inl rfl) (bq dM (bq gQ (bq gQ (bq jG (pv 1) aE) (bq dM (pv 2) (bq mO aE aE))) aE) aE))))
   (dy (fm (gP (aY (uR (N:=["_law_cell"]) (js:=[none]) (oY (jf j6 (pv 0) ky (ku aE))) (λ_ _ _ _ _=>aD (i:=0) vU rfl (Or.inl rfl))
    (λ_ _ _ _ _=>qW (fh yI (ci nS (by rfl) B.abs PyProof.Rows.boot_abs (aY (pv 0) bn)) (bq mO aE aE) (Cp _)))
    (λ_ _ _ _ _=>ci nS (by rfl) B.abs PyProof.Rows.boot_abs (aY (pv 0) bn)) ic) (aY (pv 1) bn)))))),?_⟩
  refine⟨_,rfl,a,_,rfl,.inl hS,_,_,rfl,rfl,?_⟩
  have cut:∀(H':Hp),bY H H'->CB (ns.map V.int) none (some 63)=ns.map V.int:=λ_ _=>by
   unfold CB
   rw[HT.Dc]
   have e:HT.zQ (ns.map V.int).length (ns.map V.int).length (some 63)=(ns.map V.int).length:=by
    have:=HT.D6 (ns.map V.int).length (ns.map V.int).length 63
    refine this.trans ?_
    rw[aae];omega
   rw[e,Nat.sub_zero,afw,abG]
  have grow:∀{H':Hp} {p:Addr} {o:HO},bY H H'->H' p=none->bY H (upd H' p o):=λ{H' p o} hs hp c u h=>by
   have q:=hs c u h
   rw[ag (aw q hp)];exact q
  refine⟨_,rfl,63,rfl,a,_,rfl,hS,λp hp=>?_⟩
  rw[cut H (bY.refl H)]
  have Sa:An K (upd H p (.lst (ns.map V.int))) p (ns.map V.int):=sq ak
  refine⟨p,rfl,⟨_,Sa⟩,uj (K:=K) (a:=p) (xs:=ns.map V.int) (λi σ H2=>∃(z:Int) (v:Option V),σ=[some (.ref a),some (.int z),v]/\H2=upd H p (.lst (ns.map V.int))/\0<=z/\z<2305843009213693951)
   ⟨_,none,rfl,rfl,by show (0:Int)<=((ns.map V.int).length:Nat)+3;omega,by show ((ns.map V.int).length:Nat)+(3:Int)<_;rw[aae];omega⟩ (λi σ H2 _ ⟨_,_,_,e,_⟩=>by rw[e];exact Sa) ?_ ?_⟩
  .rintro i y σ H2 hi ⟨z,v,rfl,rfl,z0,z1⟩
   obtain⟨c,rfl⟩:∃c,y=V.int c:=by
    rw[aaj]at hi
    cases e:ns[i]? with
    |none=>rw[e]at hi;cases hi
    |some c=>rw[e]at hi;exact⟨c,(aao hi).symm⟩
   refine⟨_,rfl,_,_,rfl,rfl,.inr ⟨by decide,by decide⟩,_,rfl,_,_,rfl,rfl,⟨by decide,by decide,by decide⟩,_,_,rfl,rfl,(by show (0:Int)<10 ^ 30;decide),_,_,rfl,rfl,_,_,rfl,rfl,_,_,rfl,rfl,(by show (0:Int)<_;decide),?_⟩
   exact⟨_,_,rfl,rfl,acn _ (by decide),abZ _ (by decide)⟩
  .rintro σ H2 ⟨z,v,rfl,rfl,z0,z1⟩
   have R7:bY H (upd H p (.lst (ns.map V.int))):=grow (bY.refl H) hp
   refine⟨_,rfl,63,rfl,a,_,rfl,R7.seq hS,λp2 L8=>?_⟩
   rw[cut H (bY.refl H)]
   have IU:bY H (upd (upd H p (.lst (ns.map V.int))) p2 (.lst (ns.map V.int))):=grow R7 L8
   refine⟨p2,rfl,⟨_,sq ak⟩,λl hl=>?_⟩
   generalize Jb:upd (upd H p (.lst (ns.map V.int))) p2 (.lst (ns.map V.int))=H3 at IU hl ⊢
   have Nu:H3 p2=some (.lst (ns.map V.int)):=by rw[<- Jb];exact ak
   refine wf (K:=K) (a:=p2) (l:=l) (xs:=ns.map V.int) (λi ys H4=>∃ms:List Int,ys=ms.map V.int/\(∀n∈ms,0<=n)/\ms.length<=i/\H4=upd H3 l (.lst ys))
    ⟨[],rfl,(λ_ h=>nomatch h),aal _,rfl⟩ (λi ys H4 _ ⟨_,_,_,_,e⟩=>by rw[e];exact sq (by rw[ag (aw Nu hl)];exact Nu)) ?_ ?_
   .rintro i x ys H4 N hi ⟨ms,rfl,hm,T7,rfl⟩ hN
    obtain⟨c,rfl⟩:∃c,x=V.int c:=by
     rw[aaj]at hi
     cases e:ns[i]? with
     |none=>rw[e]at hi;cases hi
     |some c=>rw[e]at hi;exact⟨c,(aao hi).symm⟩
    have Gf:i<(ns.map V.int).length:=(List.getElem?_eq_some_iff.mp hi).1
    rw[aae]at Gf
    refine⟨_,rfl,_,rfl,_,_,rfl,rfl,⟨by decide,by decide,by decide⟩,_,_,rfl,rfl,_,rfl,?_⟩
    refine Nh (λ_=>?_) (λ_=>hN _ _ ⟨ms,rfl,hm,by omega,rfl⟩)
    refine⟨_,rfl,c,rfl,ak,by rw[aae,aaG];omega,hN _ _ ⟨ms++[if c<0 then -c else c],by simp,λn hn=>?_,by rw[aaJ,List.length_singleton];omega,by rw[u4]⟩⟩
    rcases List.mem_append.mp hn with q|q
    .exact hm n q
    .have:n=if c<0 then -c else c:=by simpa using q
     rw[this];split<;>omega
   .rintro ys H4 ⟨ms,rfl,hm,T7,rfl⟩
    refine⟨_,rfl,(by show 2<=sizeLine;decide),λq hq=>?_⟩
    have Nz:l≠q:=λe=>by rw[e,ak]at hq;cases hq
    refine k q l _ ((grow IU hl).free hq) (IU.free hl) ⟨ms,z,ak,by rw[ag Nz,ak],hm,z0,z1⟩ (grow (grow IU hl) hq)
end Pre
namespace Pre
open PySem L2 Q
structure zY(x:Str):Prop where
 lo:1<=x.cps.toList.length
 hi:x.cps.toList.length<=8
 ok:∀c∈x.cps.toList,97<=c/\c<=122
def ch(i:Nat):Str:=⟨#[97+i]⟩
def wl(b s t f n k:Nat):List Nat:=if n<8/\s=6 then aaF (k+1) (97+b)else (aaF t (97+b)++[97+(f+5*k) % 26,97+(f+k / 26) % 26])++aaF (s - t) (97+b)
def wd(b s t f n k:Nat):Str:=⟨(wl b s t f n k).toArray⟩
variable{b s t f n k:Nat}
theorem uZ(hb:b<26)(hs:s<7)(ht:t<=s)(hk:k<n):zY (wd b s t f n k):=by
 have e:(wd b s t f n k).cps.toList=wl b s t f n k:=by simp[wd]
 refine⟨?_,?_,?_⟩
 .rw[e];unfold wl;split
  .simp
  .simp;omega
 .rw[e];unfold wl;split
  .simp;omega
  .simp;omega
 .rw[e];unfold wl
  intro c hc
  split at hc
  .have:=adH hc
   omega
  .rcases List.mem_append.mp hc with h|h
   .rcases List.mem_append.mp h with h|h
    .have:=adH h;omega
    .simp only[aaZ,aa1,or_false]at h
     have:=Nat.mod_lt (f+5*k) (show 0<26 by decide)
     have:=Nat.mod_lt (f+k / 26) (show 0<26 by decide)
     omega
   .have:=adH h;omega
theorem o6(f a b:Nat)(h:(f+a) % 26=(f+b) % 26):a % 26=b % 26:=by omega
theorem wX:∀k:Nat,k<60->∀k':Nat,k'<60->(5*k) % 26=(5*k') % 26->(k / 26) % 26=(k' / 26) % 26->k=k':=by decide +kernel
theorem wW{k':Nat}(hk:k<60)(Uc:k'<60)(h:wd b s t f n k=wd b s t f n k'):k=k':=by
 have e:wl b s t f n k=wl b s t f n k':=by
  have:=congrArg (λx:Str=>x.cps.toList) h
  simpa[wd]using this
 unfold wl at e
 split at e
 .have:=congrArg acr e
  rw[acf,acf]at this
  exact aa6 this
 .have e1:=List.append_cancel_right e
  have e2:=List.append_cancel_left e1
  simp only[List.cons.injEq,and_true]at e2
  exact wX k hk k' Uc (o6 f _ _ (Nat.add_left_cancel e2.1)) (o6 f _ _ (Nat.add_left_cancel e2.2))
def G3(b s t f n:Nat)(m:Nat):List Str:=(aaV m).map (wd b s t f n)
variable{m:Nat}
theorem qB(hm:m<=60):(G3 b s t f n m).Nodup:=by
 unfold G3
 rw[acN,aeN]
 have:=(List.nodup_iff_pairwise_ne.mp (adT (n:=m)))
 refine List.Pairwise.imp_of_mem (λ{x y} hx hy hne e=>?_) this
 exact hne (wW (by have:=List.mem_range.mp hx;omega) (by have:=List.mem_range.mp hy;omega) e)
theorem sU(hb:b<26)(hs:s<7)(ht:t<=s):∀x∈G3 b s t f n n,zY x:=λx hx=>by
 obtain⟨k,hk,rfl⟩:=List.mem_map.mp hx
 exact uZ hb hs ht (List.mem_range.mp hk)
theorem sV(b s t f n m:Nat):G3 b s t f n (m+1)=G3 b s t f n m++[wd b s t f n m]:=by
 unfold G3
 rw[ad4,aa2];rfl
variable{x y:Str}
theorem j4(h:x.cps.toList=y.cps.toList):x=y:=by
 obtain⟨x⟩:=x
 obtain⟨y⟩:=y
 exact congrArg Str.mk (Array.toList_inj.mp h)
theorem jw(b m:Nat):(C0 (ch b) m).cps.toList=aaF m (97+b):=by
 unfold C0 ch
 induction m with
 |zero=>rfl
 |succ m ih=>
  simp only[aa8,ab6]at ih ⊢
  simpa using ih
theorem gh(x y:Str):(x++y).cps.toList=x.cps.toList++y.cps.toList:=by
 show (x.cps++y.cps).toList=_
 simp
def LA:Str := "abcdefghijklmnopqrstuvwxyz"
theorem yz:∀i:Nat,i<26->LA.cps.toList[i]?=some (97+i):=by decide +kernel
structure iF where
 nm:Str
 one:Str
 lT:Str
 cost:Int
def t0:iF:=⟨⟨#[]⟩,⟨#[]⟩,⟨#[]⟩,0⟩
structure JY(t:iF):Prop where
 nm:zY t.nm
 one:zY t.one
 lT:zY t.lT
 lt:zD t.one t.lT
 lo : -(10 ^ 30)<t.cost
 hi:t.cost<10 ^ 30
structure BN(ps:List Str)(ts:List iF):Prop where
 rise:ps.Pairwise zD
 word:∀x∈ps,zY x
 names:(ts.map iF.nm).Pairwise zD
 tie:∀t∈ts,JY t
theorem mY(h1:¬ zD y x)(h2:x≠y):zD x y:=by
 unfold zD at *
 rcases List.le_iff_lt_or_eq.mp (List.not_lt.mp h1)with z|z
 .exact z
 .exact absurd (j4 z) h2
variable{l:List Str}
theorem wY(hp:l.Perm [x,y])(hs:l.Pairwise λa b=>¬ zD b a)(hn:x≠y):∃u v,l=[u,v]/\zD u v/\(u=x\/u=y)/\(v=x\/v=y):=by
 have hl:=hp.length_eq
 match l,hl with
 |[u,v],_=>
  have hu:u=x\/u=y:=by simpa using hp.mem_iff.mp (show u∈[u,v]by simp)
  have hv:v=x\/v=y:=by simpa using hp.mem_iff.mp (show v∈[u,v]by simp)
  have nd:[u,v].Nodup:=hp.nodup_iff.mpr (by simp[hn])
  have hne:u≠v:=by simpa using nd
  refine⟨u,v,rfl,mY ?_ hne,hu,hv⟩
  have:=List.rel_of_pairwise_cons hs (show v∈[v]by simp)
  exact this
theorem ki(hs:l.Pairwise λa b=>¬ zD b a)(hn:l.Nodup):l.Pairwise zD:=by
 have:=List.nodup_iff_pairwise_ne.mp hn
 exact(hs.and this).imp λ⟨h1,h2⟩=>mY h1 h2
def gE(t:iF):PV:=.tup [.str t.nm,.str t.one,.str t.lT,.int t.cost]
def iN(ps:List Str)(ts:List iF):PV:=.tup [.tup (ps.map .str),.tup (ts.map gE)]
def eG:CV:=λc xs P=>c=.oR/\∃n:Nat,xs=[.int n]/\n<=60/\∀ws:List Str,ws.length=n->ws.Nodup->(∀x∈ws,zY x)->P (.lst (ws.map .str)) .oR
def jr:CV:=λc xs P=>c=.oR/\∃q:Int,xs=[.int q]/\∀c:Int,-(10 ^ 30)<c->c<10 ^ 30->P (.int c) .oR
def lb:CV:=λc xs P=>c=.oR/\∃M T:Int,xs=[.int M,.int T]/\0<=M/\M<=40/\0<=T/\T<=50/\∀(ps:List Str) (ts:List iF),BN ps ts->(ps.length:Int)<=M->(ts.length:Int)<=T->P (iN ps ts) .oR
def jq:CV:=λc xs P=>c=.oR/\∃f m k:Int,xs=[.int f,.int m,.int k]/\2<=m/\m<=100/\∀i j:Int,0<=i->i<m->0<=j->j<m->i≠j->P (.tup [.int i,.int j]) .oR
variable{P:aaH}{w:World}{K:aag}{mg:Str->Option Value}{base:Heap}
theorem vB(Y:Ev K mg):Bt mg:=⟨Y.DY,Y.JW,Y.Cd,Y.DX,Y.Am,Y.zM⟩
theorem aK(Y:Ev K mg):zf P w K mg base Ak 1 Y.Gi.f Y.Gi.fd ["_law_state", "_law_many"] (Ic ⟨P,w,K,A9 K⟩ 2 aH):=tZ (vO Y.Gi.F)
theorem sj(Y:Ev K mg):zf P w K mg base Ak 1 Y.BV.f Y.BV.fd ["_law_script"] (hU K):=tY Y.BV.F (vB Y)
end Pre
namespace Pre
open PySem L2
def zj(ps:List Str)(t:iF):Bool:=decide (t.one∈ps) && decide (t.lT∈ps)
variable{ps:List Str}{t:iF}
theorem AE:zj ps t=true↔t.one∈ps/\t.lT∈ps:=by unfold zj;simp
def Ae(ns:List Str)(t:iF):Bool:=decide (t.nm∈ns)
variable{ns:List Str}
theorem AS:Ae ns t=true↔t.nm∈ns:=by unfold Ae;simp
variable{x y:Str}
theorem fw(h:zD x y):x≠y:=λe=>by subst e;exact adv _ h
variable{ts:List iF}
theorem cI(h:BN ps ts):(ts.map iF.nm).Nodup:=List.nodup_iff_pairwise_ne.mpr (h.names.imp λz=>fw z)
variable{α:Type}{i:Nat}
theorem oD{f:α->Bool}{ts:List α}(hi:i<ts.length):(ts.take (i+1)).filter f=(ts.take i).filter f++(if f ts[i]=true then [ts[i]]else []):=by
 rw[acx,aab hi,aex]
 congr 1
 show List.filter f [ts[i]]=_
 rw[ab3]
 rfl
def ends(p:Str)(t:iF):List (Str×Str):=(if t.one=p then [(t.nm,t.lT)]else [])++(if t.lT=p then [(t.nm,t.one)]else [])
def zP(ps:List Str)(ts:List iF)(p:Str):List (Str×Str):=(ts.filter (zj ps)).flatMap (ends p)
theorem uM(hi:i<ts.length)(p:Str):zP ps (ts.take (i+1)) p=zP ps (ts.take i) p++(if zj ps ts[i]=true then ends p ts[i]else []):=by
 unfold zP
 rw[oD (f:=zj ps) hi,List.flatMap_append]
 congr 1
 split<;>simp
theorem oA(p:Str)(t:iF):(ends p t).length<=2:=by
 unfold ends
 split<;>split<;>simp
theorem qi(ps:List Str)(ts:List iF)(p:Str):(zP ps ts p).length<=2*ts.length:=by
 unfold zP
 have h1:∀us:List iF,(us.flatMap (ends p)).length<=2*us.length:=λus=>by
  induction us with
  |nil=>simp
  |cons t r ih=>
   rw[List.flatMap_cons,aaJ,aaL]
   have:=oA p t
   omega
 have h2:=h1 (ts.filter (zj ps))
 have h3:=aaK (zj ps) ts
 omega
inductive zN (g:Str->List (Str×Str)) (s:Str):Str->Prop where
 |refl:zN g s s
 |step {x y nm:Str}:zN g s x->(nm,y)∈g x->zN g s y
abbrev Cs:=List (Str×Option (Str×Str))
abbrev AD(cs:Cs):List Str:=cs.map (·.1)
structure CH(g:Str->List (Str×Str))(start:Str)(cs:Cs):Prop where
 nd:(AD cs).Nodup
 tree:∀(i:Nat) (c:Str×Option (Str×Str)),cs[i]?=some c->(i=0/\c=(start,none))\/(0<i/\∃nm x,c.2=some (nm,x)/\(nm,c.1)∈g x/\x∈AD (cs.take i))
 ne:cs≠[]
variable{g:Str->List (Str×Str)}{cs:Cs}
theorem CH.start{start:Str}(x:CH g start cs):start∈AD cs:=by
 cases cs with
 |nil=>exact absurd rfl x.ne
 |cons c r=>
  rcases x.tree 0 c rfl with ⟨_,e⟩|⟨e,_⟩
  .subst e;exact aaq
  .exact absurd e (abi _)
theorem CH.sound{start:Str}(x:CH g start cs):∀(i:Nat),∀y∈AD (cs.take i),zN g start y
 |0,y,h=>by simp at h
 |i+1,y,h=>by
  rw[acx]at h
  unfold AD at h
  rw[aa2]at h
  rcases List.mem_append.mp h with h|h
  .exact CH.sound x i y h
  .cases e:cs[i]? with
   |none=>rw[e]at h;simp at h
   |some c=>
    rw[e]at h
    have hy:y=c.1:=by simpa using h
    subst hy
    rcases x.tree i c e with ⟨_,e⟩|⟨_,nm,z,e1,e2,e3⟩
    .subst e;exact .refl
    .exact .step (CH.sound x i z e3) e2
theorem CH.iff{start:Str}(x:CH g start cs)(cl:∀y∈AD cs,∀q∈g y,q.2∈AD cs):y∈AD cs↔zN g start y:=by
 constructor
 .intro h
  refine x.sound cs.length y ?_
  rw[abG];exact h
 .intro h
  induction h with
  |refl=>exact x.start
  |step _ h ih=>exact cl _ ih _ h
variable{nm:Str}
theorem CH.snoc{start:Str}(h:CH g start cs)(hy:y∉AD cs)(hx:x∈AD cs)(hg:(nm,y)∈g x):CH g start (cs++[(y,some (nm,x))]):=by
 refine⟨?_,λi c hc=>?_,by simp⟩
 .unfold AD
  rw[aa2,acm]
  refine⟨h.nd,by simp,λa ha b hb=>?_⟩
  have:b=y:=by simpa using hb
  rw[this]
  intro z
  exact hy (by rw[<- z];exact ha)
 .rcases aeM i cs.length with z|z|z
  .rw[aax z]at hc
   rw[ae1 (by omega)]
   exact h.tree i c hc
  .subst z
   rw[acb (aal _),Nat.sub_self]at hc
   have e:c=(y,some (nm,x)):=by simpa using hc.symm
   subst e
   refine .inr ⟨?_,nm,x,rfl,hg,?_⟩
   .cases cs with
    |nil=>exact absurd rfl h.ne
    |cons _ _=>simp
   .rw[ae1 (aal _),abG];exact hx
  .rw[aap (by rw[aaJ];simp;omega)]at hc
   cases hc
theorem bA[DecidableEq α]:∀{xs ys:List α},xs.Nodup->(∀x∈xs,x∈ys)->xs.length<=ys.length
 |[],_,_,_=>aaN _
 |x::r,ys,nd,h=>by
  obtain⟨n1,n2⟩:=List.nodup_cons.mp nd
  have hx:=h x aaq
  have:=bA (xs:=r) (ys:=ys.erase x) n2 λz hz=>by
   have TB:z≠x:=λe=>n1 (by rw[<- e];exact hz)
   exact(List.mem_erase_of_ne TB).mpr (h z (aan _ hz))
  rw[List.length_erase_of_mem hx]at this
  have hp:=List.length_pos_of_mem hx
  rw[aaL]
  omega
theorem jI{z:Str}(a:zD x y)(b:zD y z):zD x z:=List.lt_trans a b
theorem cJ(x:Str):¬ zD x x:=adv _
theorem xM(a:zD x y):¬ zD y x:=λb=>cJ x (jI a b)
theorem o7(x y:Str):zD x y\/x=y\/zD y x:=by
 by_cases h:zD y x
 .exact .inr (.inr h)
 .by_cases e:x=y
  .exact .inr (.inl e)
  .exact .inl (mY h e)
theorem mC:∀{xs ys:List Str},xs.Pairwise zD->ys.Pairwise zD->(∀z,z∈xs↔z∈ys)->xs=ys
 |[],[],_,_,_=>rfl
 |[],y::ys,_,_,h=>absurd ((h y).mpr aaq) (by simp)
 |x::xs,[],_,_,h=>absurd ((h x).mp aaq) (by simp)
 |x::xs,y::ys,hx,hy,h=>by
  obtain⟨x1,x2⟩:=List.pairwise_cons.mp hx
  obtain⟨y1,y2⟩:=List.pairwise_cons.mp hy
  have e:x=y:=by
   rcases List.mem_cons.mp ((h x).mp aaq)with e|e
   .exact e
   .rcases List.mem_cons.mp ((h y).mpr aaq)with e'|e'
    .exact e'.symm
    .exact absurd (x1 y e') (xM (y1 x e))
  subst e
  rw[mC x2 y2 λz=>?_]
  constructor
  .intro hz
   rcases List.mem_cons.mp ((h z).mp (aan _ hz))with e|e
   .subst e;exact absurd (x1 z hz) (cJ z)
   .exact e
  .intro hz
   rcases List.mem_cons.mp ((h z).mpr (aan _ hz))with e|e
   .subst e;exact absurd (y1 z hz) (cJ z)
   .exact e
theorem dw{xs:List Str}(h:xs.Pairwise zD):xs.Nodup:=List.nodup_iff_pairwise_ne.mpr (h.imp λz=>fw z)
open Classical in
noncomputable def rb(g:Str->List (Str×Str))(s y:Str):Bool:=decide (zN g s y)
theorem jA{s:Str}:rb g s y=true↔zN g s y:=by unfold rb;simp
theorem zN.GF{s:Str}(h:zN g s y)(hs:s∈ps)(Es:∀p∈ps,∀q∈g p,q.2∈ps):y∈ps:=by
 induction h with
 |refl=>exact hs
 |step _ h ih=>exact Es _ ih _ h
variable{p:Str}
theorem Gn{q:Str}:(nm,q)∈zP ps ts p↔∃t∈ts,zj ps t=true/\nm=t.nm/\((t.one=p/\t.lT=q)\/(t.lT=p/\t.one=q)):=by
 unfold zP
 rw[List.mem_flatMap]
 constructor
 .rintro⟨t,ht,h⟩
  obtain⟨h1,h2⟩:=List.mem_filter.mp ht
  unfold ends at h
  rcases List.mem_append.mp h with z|z
  .split at z
   .rename_i e
    have:(nm,q)=(t.nm,t.lT):=by simpa using z
    cases this
    exact⟨t,h1,h2,rfl,.inl ⟨e,rfl⟩⟩
   .simp at z
  .split at z
   .rename_i e
    have:(nm,q)=(t.nm,t.one):=by simpa using z
    cases this
    exact⟨t,h1,h2,rfl,.inr ⟨e,rfl⟩⟩
   .simp at z
 .rintro⟨t,h1,h2,rfl,h3⟩
  refine⟨t,List.mem_filter.mpr ⟨h1,h2⟩,?_⟩
  unfold ends
  rcases h3 with ⟨e1,e2⟩|⟨e1,e2⟩
  .exact aaQ _ (by rw[if_pos e1,e2];simp)
  .exact aay _ (by rw[if_pos e1,e2];simp)
theorem pO:∀q∈zP ps ts p,q.2∈ps:=λ⟨nm,q⟩ h=>by
 obtain⟨t,h1,h2,h3,h4⟩:=Gn.mp h
 obtain⟨o1,o2⟩:=AE.mp h2
 rcases h4 with ⟨a,b⟩|⟨a,b⟩
 .rw[<- b];exact o2
 .rw[<- b];exact o1
structure Gp(ps:List Str)(os:List iF)(g:Str->List (Str×Str)):Prop where
 mem:∀p nm q,(nm,q)∈g p↔∃t∈os,nm=t.nm/\((t.one=p/\t.lT=q)\/(t.lT=p/\t.one=q))
 GF:∀t∈os,t.one∈ps/\t.lT∈ps
variable{os:List iF}
theorem Gp.sym(G:Gp ps os g){q:Str}(h:(nm,q)∈g p):(nm,p)∈g q:=by
 obtain⟨t,a,b,c⟩:=(G.mem _ _ _).mp h
 refine(G.mem _ _ _).mpr ⟨t,a,b,?_⟩
 rcases c with ⟨x,y⟩|⟨x,y⟩
 .exact .inr ⟨y,x⟩
 .exact .inl ⟨y,x⟩
theorem zN.trans{z:Str}(a:zN g x y)(b:zN g y z):zN g x z:=by
 induction b with
 |refl=>exact a
 |step _ h ih=>exact .step ih h
theorem Gp.EA(G:Gp ps os g)(h:zN g x y):zN g y x:=by
 induction h with
 |refl=>exact .refl
 |step _ h ih=>exact zN.trans (.step .refl (G.sym h)) ih
theorem cv(ps:List Str)(ts:List iF):Gp ps (ts.filter (zj ps)) (zP ps ts):=by
 refine⟨λp nm q=>?_,λt ht=>AE.mp (List.mem_filter.mp ht).2⟩
 rw[Gn]
 constructor
 .rintro⟨t,a,b,c⟩;exact⟨t,List.mem_filter.mpr ⟨a,b⟩,c⟩
 .rintro⟨t,a,c⟩
  obtain⟨a,b⟩:=List.mem_filter.mp a
  exact⟨t,a,b,c⟩
theorem lK(ps ns:List Str)(ts:List iF):(ts.filter (zj ps)).filter (Ae ns)=(ts.filter (Ae ns)).filter (zj ps):=by
 rw[adq,adq]
 exact adG λt _=>Bool.and_comm _ _
variable{os':List iF}{g':Str->List (Str×Str)}
theorem oI(G:Gp ps os g)(G':Gp ps os' g')(h:∀t∈os,t∈os')(r:zN g x y):zN g' x y:=by
 induction r with
 |refl=>exact .refl
 |step _ e ih=>
  obtain⟨t,a,b,c⟩:=(G.mem _ _ _).mp e
  exact .step ih ((G'.mem _ _ _).mpr ⟨t,h t a,b,c⟩)
theorem f9{p q:α->Bool}:∀{l:List α},(∀x∈l,p x=true->q x=true)->(l.filter p).Sublist (l.filter q)
 |[],_=>List.Sublist.refl _
 |x::l,h=>by
  have ih:=f9 (l:=l) λy hy=>h y (by simp[hy])
  rw[ab3,ab3]
  cases e:p x with
  |false=>
   rw[if_neg (by simp)]
   split
   .exact ih.cons _
   .exact ih
  |true=>
   rw[if_pos rfl,if_pos (h x (by simp) e)]
   exact ih.cons_cons _
theorem jl(G:Gp ps os g)(G':Gp ps os' g')(h:∀u,u∈os'↔u∈os\/u=t)(r:zN g' x y):zN g x y\/(zN g x t.one/\zN g t.lT y)\/(zN g x t.lT/\zN g t.one y):=by
 induction r with
 |refl=>exact .inl .refl
 |step _ e ih=>
  obtain⟨u,a,b,c⟩:=(G'.mem _ _ _).mp e
  rcases(h u).mp a with a|rfl
  .have e':=(G.mem _ _ _).mpr ⟨u,a,b,c⟩
   rcases ih with ih|⟨i1,i2⟩|⟨i1,i2⟩
   .exact .inl (.step ih e')
   .exact .inr (.inl ⟨i1,.step i2 e'⟩)
   .exact .inr (.inr ⟨i1,.step i2 e'⟩)
  .rcases c with ⟨c1,c2⟩|⟨c1,c2⟩
   .subst c1 c2
    rcases ih with ih|⟨i1,i2⟩|⟨i1,i2⟩
    .exact .inr (.inl ⟨ih,.refl⟩)
    .exact .inr (.inl ⟨i1,.refl⟩)
    .exact .inl i1
   .subst c1 c2
    rcases ih with ih|⟨i1,i2⟩|⟨i1,i2⟩
    .exact .inr (.inr ⟨ih,.refl⟩)
    .exact .inl i1
    .exact .inr (.inr ⟨i1,.refl⟩)
theorem rH(nd:ps.Nodup)(G:Gp ps os g)(G':Gp ps os' g')(h:∀u,u∈os'↔u∈os\/u=t)(hc:zN g t.one t.lT)(r:zN g' x y):zN g x y:=by
 rcases jl G G' h r with z|⟨z1,z2⟩|⟨z1,z2⟩
 .exact z
 .exact z1.trans (hc.trans z2)
 .exact z1.trans ((G.EA hc).trans z2)
end Pre
namespace Pre
open PySem L2 Q
def LP(c:Nat):Bool:=decide (97<=c) && decide (c<=122)
def FT(x:Str):Bool:=decide (1<=x.length) && decide (x.length<=8) && x.cps.toList.all LP
variable{x:Str}
theorem DQ:FT x=true↔zY x:=by
 unfold FT LP
 rw[aaC,aaC,decide_eq_true_eq,decide_eq_true_eq,acd]
 have e:x.length=x.cps.toList.length:=by simp[aeI]
 rw[e]
 constructor
 .rintro⟨⟨a,b⟩,c⟩
  exact⟨a,b,λd hd=>by have:=c d hd;rw[aaC,decide_eq_true_eq,decide_eq_true_eq]at this;exact this⟩
 .rintro⟨a,b,c⟩
  exact⟨⟨a,b⟩,λd hd=>by rw[aaC,decide_eq_true_eq,decide_eq_true_eq];exact c d hd⟩
def IF(ws:List Str):List Bool:=(ws.zip (ws.drop 1)).map λp=>decide (zD p.1 p.2)
def Fm(ws:List Str):Bool:=(IF ws).all id
def Plain:PV->Prop
 |.str s=>s.length<=1000
 |.set _=>False
 |.A3 _=>False
 |_=>True
def LC:PV->Prop
 |.tup xs=>xs.length<=1000/\∀y∈xs,Plain y
 |x=>Plain x
def BH:PV->Bool
 |.str x=>FT x
 |_=>false
def E9:PV->Bool
 |.tup xs=>xs.all BH && Fm (xs.filterMap A8)
 |_=>false
def cO:Fd:=λxs P=>∃x,xs=[x]/\Plain x/\P (.bl (BH x))
def dk:Fd:=λxs P=>∃ws:List Str,xs=[.tup (ws.map .str)]/\ws.length<=1000/\P (.bl (Fm ws))
def cf:Fd:=λxs P=>∃x,xs=[x]/\LC x/\P (.bl (E9 x))
def zl(q:Str×Str):PV:=.tup [.str q.1,.str q.2]
def Bw(ps:List Str)(g:Str->List (Str×Str)):PV:=.zB (ps.map λp=>(aas p,.lst ((g p).map zl)))
def Ei:Option (Str×Str)->PV
 |none=>.oR
 |some q=>zl q
def Aj(cs:Cs):PV:=.zB (cs.map λc=>(aas c.1,Ei c.2))
structure Nt(ps:List Str)(ts:List iF):Prop where
 rise:ps.Pairwise zD
 ne:∀t∈ts,t.one≠t.lT
 pl:ps.length<=60
 tl:ts.length<=1000
def fq(ps:List Str)(ts:List iF):List Str:=(ts.filter (zj ps)).map iF.nm
def cb:Fd:=λxs P=>∃(ps:List Str) (ts:List iF) (t:iF),xs=[iN ps ts,gE t]/\P (.bl (zj ps t))
def ce:Fd:=λxs P=>∃(ps:List Str) (ts:List iF),xs=[iN ps ts]/\ts.length<=1000/\P (.tup ((fq ps ts).map .str))
def bV:Fd:=λxs P=>∃(ps:List Str) (ts:List iF),xs=[iN ps ts]/\Nt ps ts/\P (Bw ps (zP ps ts))
def cR:Fd:=λxs P=>∃(ps:List Str) (g:Str->List (Str×Str)) (start:Str),xs=[Bw ps g,.str start]/\ps.Nodup/\start∈ps/\(∀p∈ps,∀q∈g p,q.2∈ps)/\ps.length<=1000 /\
 ∀cs,CH g start cs->(∀y∈AD cs,y∈ps)->(∀y∈AD cs,∀q∈g y,q.2∈AD cs)->P (Aj cs)
def e9:Fd:=λxs P=>∃(ps:List Str) (g:Str->List (Str×Str)) (start:Str),xs=[Bw ps g,.str start]/\ps.Pairwise zD/\start∈ps/\(∀p∈ps,∀q∈g p,q.2∈ps)/\ps.length<=60/\P (.tup ((ps.filter (rb g start)).map .str))
def jp:Fd:=λxs P=>∃(ps:List Str) (ts:List iF),xs=[iN ps ts]/\ts.length<=1000/\P (.lst ((ts.filter (zj ps)).map gE))
def EK(ps:List Str)(L:Str->Str):PV:=.zB (ps.map λp=>(aas p,.str (L p)))
def CI(ps ns:List Str)(ts:List iF):List iF:=(ts.filter (zj ps)).filter (Ae ns)
variable{ps:List Str}{ts:List iF}
theorem aQ:∀{l:List iF},(l.map iF.nm).Nodup->∀{a b:iF},a∈l->b∈l->a.nm=b.nm->a=b
 |t::l,h,a,b,ha,hb,e=>by
  rw[aar,afl]at h
  rcases List.mem_cons.mp ha with h1|h1
  .rcases List.mem_cons.mp hb with h2|h2
   .exact h1.trans h2.symm
   .exact absurd (h1 ▸ e ▸ aaX (f:=iF.nm) h2) h.1
  .rcases List.mem_cons.mp hb with h2|h2
   .exact absurd (h2 ▸ e ▸ aaX (f:=iF.nm) h1) h.1
   .exact aQ h.2 h1 h2 e
theorem nh(ps ns:List Str)(ts:List iF):Gp ps (CI ps ns ts) (zP ps (ts.filter (Ae ns))):=by
 unfold CI
 rw[lK]
 exact cv ps _
def Ao(t u:iF):Prop:=t.cost<u.cost\/(t.cost=u.cost/\zD t.nm u.nm)
theorem cL(t:iF):¬ Ao t t:=by
 rintro(h|⟨_,h⟩)
 .omega
 .exact cJ _ h
variable{t u v:iF}
theorem fI(h:Ao t u)(k:Ao u v):Ao t v:=by
 rcases h with h|⟨h1,h2⟩<;>rcases k with k|⟨k1,k2⟩
 .exact .inl (by omega)
 .exact .inl (by omega)
 .exact .inl (by omega)
 .exact .inr ⟨by omega,jI h2 k2⟩
theorem pJ(h:t.nm≠u.nm):Ao t u\/Ao u t:=by
 rcases Int.lt_trichotomy t.cost u.cost with z|z|z
 .exact .inl (.inl z)
 .rcases o7 t.nm u.nm with w|w|w
  .exact .inl (.inr ⟨z,w⟩)
  .exact absurd w h
  .exact .inr (.inr ⟨z.symm,w⟩)
 .exact .inr (.inl z)
theorem sL(h:Ao t u):¬ Ao u t:=λk=>cL t (fI h k)
instance (t u:iF):Decidable (Ao t u):=inferInstanceAs (Decidable (t.cost<u.cost\/(t.cost=u.cost/\zD t.nm u.nm)))
def below(os:List iF)(t:iF):List iF:=os.filter λu=>decide (Ao u t)
variable{os:List iF}
theorem zu:u∈below os t↔u∈os/\Ao u t:=by
 unfold below
 rw[acE,decide_eq_true_eq]
def Min(ps:List Str)(os:List iF)(t:iF):Prop:=¬ zN (zP ps (below os t)) t.one t.lT
theorem B8(h:∀u∈os,zj ps u=true):Gp ps os (zP ps os):=by
 have:=cv ps os
 rwa [List.filter_eq_self.mpr h]at this
variable{os':List iF}{y:Str}
theorem cF(h:∀u∈os,zj ps u=true)(h':∀u∈os',zj ps u=true)(k:∀u∈os,u∈os')(r:zN (zP ps os) x y):zN (zP ps os') x y:=oI (B8 h) (B8 h') k r
theorem fZ(h:∀u∈os,zj ps u=true)(ht:t∈os):zN (zP ps os) t.one t.lT:=.step .refl (((B8 h).mem _ _ _).mpr ⟨t,ht,rfl,.inl ⟨rfl,rfl⟩⟩)
def less(os:List iF)(t:iF):List iF:=os.filter λu=>decide (u.nm≠t.nm)
theorem Af:u∈less os t↔u∈os/\u.nm≠t.nm:=by
 unfold less
 rw[acE,decide_eq_true_eq]
theorem mD{L B:List iF}(hL:∀u∈L,zj ps u=true)(ht:t∈L)(hB:∀u∈B,u∈L):∀D:List iF,(D.map iF.nm).Nodup->(∀d∈D,d∈L/\(∀u∈B,u.nm≠d.nm)/\t.nm≠d.nm/\¬ zN (zP ps (less L d)) d.one d.lT)->zN (zP ps (B++D)) t.one t.lT->zN (zP ps B) t.one t.lT
 |[],_,_,r=>by rwa [abN]at r
 |d::D,nd,hD,r=>by
  rw[aar,afl]at nd
  have Q7:=λu hu=>hD u (aan d hu)
  obtain⟨d1,d2,d3,d4⟩:=hD d aaq
  have Ov:∀u∈B++D,zj ps u=true:=λu hu=>hL u (by
   rcases List.mem_append.mp hu with z|z
   .exact hB u z
   .exact(Q7 u z).1)
  have P5:∀u∈B++d::D,zj ps u=true:=λu hu=>by
   rcases List.mem_append.mp hu with z|z
   .exact Ov u (aaQ _ z)
   .rcases List.mem_cons.mp z with rfl|z
    .exact hL _ d1
    .exact Ov u (aay _ z)
  have hm:∀u,u∈B++d::D↔u∈B++D\/u=d:=λu=>by
   simp only[acF,aaZ]
   constructor
   .rintro(h|h|h)
    .exact .inl (.inl h)
    .exact .inr h
    .exact .inl (.inr h)
   .rintro((h|h)|h)
    .exact .inl h
    .exact .inr (.inr h)
    .exact .inr (.inl h)
  have P4:∀u∈less L d,zj ps u=true:=λu hu=>hL u (Af.mp hu).1
  have up:∀{x y:Str},zN (zP ps (B++D)) x y->zN (zP ps (less L d)) x y:=cF Ov P4 λu hu=>Af.mpr (by
   rcases List.mem_append.mp hu with z|z
   .exact⟨hB u z,d2 u z⟩
   .exact⟨(Q7 u z).1,λe=>nd.1 (by rw[<- e];exact aaX z)⟩)
  have te:zN (zP ps (less L d)) t.one t.lT:=fZ P4 (Af.mpr ⟨ht,d3⟩)
  have G:=B8 P4
  rcases jl (B8 Ov) (B8 P5) hm r with z|⟨z1,z2⟩|⟨z1,z2⟩
  .exact mD hL ht hB D nd.2 Q7 z
  .exact absurd ((G.EA (up z1)).trans (te.trans (G.EA (up z2)))) d4
  .exact absurd ((up z2).trans ((G.EA te).trans (up z1))) d4
def Kr(ps:List Str)(X:List iF)(G:Str->Str):Prop:=∀x∈ps,∀y∈ps,G x=G y↔zN (zP ps X) x y
theorem Kr.nil:Kr ps [] id:=λx _ y _=>by
 constructor
 .intro e
  have:x=y:=e
  subst this
  exact .refl
 .intro r
  induction r with
  |refl=>rfl
  |step _ e _=>cases e
variable{X:List iF}
theorem Kr.step{G:Str->Str}(oX:∀u∈X,zj ps u=true)(ot:zj ps t=true)(pn:ps.Nodup)(h:Kr ps X G):
  (G t.one=G t.lT->Kr ps (X++[t]) G)/\(G t.one≠G t.lT->Kr ps (X++[t]) λp=>if G p=G t.lT then G t.one else G p):=by
 have P2:∀u∈X++[t],zj ps u=true:=λu hu=>by
  rcases List.mem_append.mp hu with z|z
  .exact oX u z
  .rw[List.mem_singleton.mp z];exact ot
 have A:=B8 oX
 have A':=B8 P2
 have hm:∀u,u∈X++[t]↔u∈X\/u=t:=λu=>by rw[acF,List.mem_singleton]
 have up:∀{x y:Str},zN (zP ps X) x y->zN (zP ps (X++[t])) x y:=cF oX P2 λu hu=>aaQ _ hu
 have te:zN (zP ps (X++[t])) t.one t.lT:=fZ P2 (by simp)
 obtain⟨o1,o2⟩:=AE.mp ot
 refine⟨λe x hx y hy=>(h x hx y hy).trans ⟨up,rH pn A A' hm ((h _ o1 _ o2).mp e)⟩,λe x hx y hy=>?_⟩
 constructor
 .intro q
  by_cases x1:G x=G t.lT<;>by_cases y1:G y=G t.lT
  .exact up ((h x hx y hy).mp (x1.trans y1.symm))
  .simp only[if_pos x1,if_neg y1]at q
   exact(up ((h x hx _ o2).mp x1)).trans ((A'.EA te).trans (up ((h _ o1 y hy).mp q)))
  .simp only[if_neg x1,if_pos y1]at q
   exact(up ((h x hx _ o1).mp q)).trans (te.trans (up ((h _ o2 y hy).mp y1.symm)))
  .simp only[if_neg x1,if_neg y1]at q
   exact up ((h x hx y hy).mp q)
 .intro r
  show (if G x=G t.lT then G t.one else G x)=if G y=G t.lT then G t.one else G y
  rcases jl A A' hm r with z|⟨z1,z2⟩|⟨z1,z2⟩
  .rw[(h x hx y hy).mpr z]
  .have a:=(h x hx _ o1).mpr z1
   have b:=(h _ o2 y hy).mpr z2
   rw[if_neg (by rw[a];exact e),if_pos b.symm,a]
  .have a:=(h x hx _ o2).mpr z1
   have b:=(h _ o1 y hy).mpr z2
   rw[if_pos a,if_neg (by rw[<- b];exact e),b]
theorem Kr.min{G:Str->Str}(oX:∀u∈X,zj ps u=true)(oo:∀u∈os,zj ps u=true)(ot:zj ps t=true)(h:Kr ps X G)(hm:∀u,u∈X↔u∈below os t):G t.one≠G t.lT↔Min ps os t:=by
 obtain⟨o1,o2⟩:=AE.mp ot
 have oB:∀u∈below os t,zj ps u=true:=λu hu=>oo u (zu.mp hu).1
 unfold Min
 rw[Ne,h _ o1 _ o2]
 exact⟨λk r=>k (cF oB oX (λu hu=>(hm u).mpr hu) r),λk r=>k (cF oX oB (λu hu=>(hm u).mp hu) r)⟩
abbrev Qe:Str := "cheaper_first.<locals>.<lambda>"
abbrev Na:Str := "dearest_of.<locals>.<lambda>"
def zx(T:Addr×Addr):PV:=.tup [zZ Na Qf Qg T.1,zZ Qe Nb Nc T.2]
open Classical in
noncomputable def Bf(ps:List Str)(os:List iF)(t:iF):Bool:=decide (Min ps os t)
noncomputable def Be(ps:List Str)(ts:List iF):List Str:=((ts.filter (zj ps)).filter (Bf ps (ts.filter (zj ps)))).map iF.nm
theorem B0:Bf ps os t=true↔Min ps os t:=by unfold Bf;simp
theorem oQ:∀{a b:List Str},a.Perm b->a.Pairwise zD->b.Pairwise zD->a=b
 |[],b,p,_,_=>(List.nil_perm.mp p).symm
 |x::a,[],p,_,_=>by have:=p.length_eq;simp at this
 |x::a,y::b,p,ha,hb=>by
  have e:x=y:=aci λne=>by
   rw[List.pairwise_cons]at ha hb
   have h1:x∈b:=by
    rcases List.mem_cons.mp (p.mem_iff.mp aaq)with z|z
    .exact absurd z ne
    .exact z
   have h2:y∈a:=by
    rcases List.mem_cons.mp (p.mem_iff.mpr aaq)with z|z
    .exact absurd z.symm ne
    .exact z
   exact cJ _ (jI (ha.1 y h2) (hb.1 x h1))
  subst e
  rw[oQ (List.perm_cons _ |>.mp p) (List.pairwise_cons.mp ha).2 (List.pairwise_cons.mp hb).2]
def bK:Fd:=λxs P=>∃(ps:List Str) (ts:List iF),xs=[iN ps ts]/\ts.length<=1000/\(ts.map iF.nm).Nodup/\P (.zB (ts.map λt=>(aas t.nm,gE t)))
def cY:Fd:=λxs P=>∃(ps:List Str) (ts:List iF),xs=[iN ps ts]/\ts.length<=1000/\(ts.map iF.nm).Nodup/\P (.zB (ts.map λt=>(aas t.nm,.tup [.int t.cost,.str t.nm])))
def b8(T:Addr×Addr):CV:=λc xs P=>c=zx T/\∃(ps:List Str) (ts us:List iF),xs=[iN ps ts,.tup ((us.map iF.nm).map .str)]/\ts.length<=1000/\(ts.map iF.nm).Nodup/\us.length<64/\(us.map iF.nm).Nodup/\(∀u∈us,u∈ts) /\
 ∀vs:List iF,vs.Perm us->vs.Pairwise Ao->P (.lst ((vs.map iF.nm).map .str)) (zx T)
def b7:Fd:=λxs P=>∃(ps:List Str) (ts vs:List iF),xs=[iN ps ts,.lst ((vs.map iF.nm).map .str)]/\BN ps ts/\ps.length<=60/\ts.length<=60/\vs.Perm (ts.filter (zj ps))/\vs.Pairwise Ao/\P (.tup ((Be ps ts).map .str))
def d0(T:Addr×Addr):CV:=λc xs P=>c=zx T/\∃(ps:List Str) (ts:List iF),xs=[iN ps ts]/\BN ps ts/\ps.length<=60/\ts.length<=60/\P (.tup ((Be ps ts).map .str)) (zx T)
variable{α:Type}
theorem dW{g:WG}{fk ff:WE}{js:List (Option Nat)}{P:PV->En->Prop}{env:En}(f:α->Str)(v:α->PV)(X:α->PV):∀{l done:List α},((done++l).map f).Nodup ->
  (∀a∈l,∀R:PV->PV->En->Prop,R (.str (f a)) (v a) env->g (X a) (DL js env) λb1=>fk b1 λkk b3=>ff b3 λy b4=>R kk y (Ab js env b4))->done.length+l.length<=100000 ->
  P (.zB ((done++l).map λx=>((aas (f x):Key),v x))) env->CA g CY fk ff js P (l.map X) env (done.map λx=>((aas (f x):Key),v x))
 |[],done,_,_,_,k=>by rw[abN]at k;exact k
 |a::l,done,nd,h,hl,k=>by
  have GJ:done.length+l.length+1<=100000:=by simpa[ade]using hl
  rw[aar]
  simp only[CA,CY,if_true]
  refine h a (by simp) (λkk y e=>(done.map λx=>((aas (f x):Key),v x)).length<=100000/\opt (B5 kk) λkey=>CA g CY fk ff js P (l.map X) e (Dh (done.map λx=>((aas (f x):Key),v x)) key y)) ⟨by rw[aae];omega,ab (z:=aas (f a)) rfl ?_⟩
  have hn:f a∉done.map f:=λz=>by
   rw[aa2,acm]at nd
   exact nd.2.2 _ z _ (by simp) rfl
  rw[mH hn]
  have e:(done.map λx=>((aas (f x):Key),v x))++[(aas (f a),v a)]=(done++[a]).map λx=>((aas (f x):Key),v x):=by rw[aa2];rfl
  rw[e]
  refine dW f v X (by rwa [adI]) (λb hb=>h b (aan _ hb)) (by simp;omega) ?_
  rw[adI];exact k
def Ends(t:iF)(a c:Str):Prop:=(t.one=a/\t.lT=c)\/(t.lT=a/\t.one=c)
def Wk(os:List iF):Str->List Str->Str->Prop
 |a,[],b=>a=b
 |a,n::ns,b=>∃t∈os,t.nm=n/\∃c,Ends t a c/\Wk os c ns b
variable{a c:Str}
theorem Ends.sym(h:Ends t a c):Ends t c a:=by
 rcases h with ⟨h1,h2⟩|⟨h1,h2⟩
 .exact .inr ⟨h2,h1⟩
 .exact .inl ⟨h2,h1⟩
theorem Ends.one{d:Str}(hn:t.one≠t.lT)(h:Ends t a c)(k:Ends t a d):c=d:=by
 rcases h with ⟨h1,h2⟩|⟨h1,h2⟩<;>rcases k with ⟨k1,k2⟩|⟨k1,k2⟩
 .exact h2.symm.trans k2
 .exact absurd (h1.trans k1.symm) hn
 .exact absurd (k1.trans h1.symm) hn
 .exact h2.symm.trans k2
theorem Ends.two{e f:Str}(h:Ends t a c)(k:Ends t e f):(e=a/\f=c)\/(e=c/\f=a):=by
 rcases h with ⟨h1,h2⟩|⟨h1,h2⟩<;>rcases k with ⟨k1,k2⟩|⟨k1,k2⟩
 .exact .inl ⟨k1.symm.trans h1,k2.symm.trans h2⟩
 .exact .inr ⟨k1.symm.trans h2,k2.symm.trans h1⟩
 .exact .inr ⟨k1.symm.trans h2,k2.symm.trans h1⟩
 .exact .inl ⟨k1.symm.trans h1,k2.symm.trans h2⟩
theorem i7{n:Str}:∀{l:List Str},n∈l->∃p q,l=p++n::q/\n∉p
 |x::l,h=>by
  by_cases e:x=n
  .exact⟨[],l,by rw[e];rfl,by simp⟩
  .obtain⟨p,q,rfl,hp⟩:=i7 ((List.mem_cons.mp h).resolve_left λz=>e z.symm)
   exact⟨x::p,q,rfl,λz=>by rcases List.mem_cons.mp z with z|z;exact e z.symm;exact hp z⟩
theorem Wk.app:∀{ns ms:List Str} {a b c:Str},Wk os a ns b->Wk os b ms c->Wk os a (ns++ms) c
 |[],_,_,_,_,h,k=>by cases h;exact k
 |n::ns,_,_,_,_,⟨t,ht,e,c,q,h⟩,k=>⟨t,ht,e,c,q,h.app k⟩
theorem Wk.rev:∀{ns:List Str} {a b:Str},Wk os a ns b->Wk os b ns.reverse a
 |[],_,_,h=>Eq.symm h
 |n::ns,a,_,⟨t,ht,e,c,q,h⟩=>by
  rw[acM]
  exact h.rev.app ⟨t,ht,e,a,q.sym,rfl⟩
theorem Wk.cut:∀{ns ms:List Str} {a c:Str},Wk os a (ns++ms) c->∃b,Wk os a ns b/\Wk os b ms c
 |[],_,a,_,h=>⟨a,rfl,h⟩
 |n::ns,_,_,_,⟨t,ht,e,c,q,h⟩=>by
  obtain⟨b,h1,h2⟩:=h.cut
  exact⟨b,⟨t,ht,e,c,q,h1⟩,h2⟩
theorem Wk.mem:∀{ns:List Str} {a b:Str},Wk os a ns b->∀n∈ns,∃t∈os,t.nm=n
 |n::ns,_,_,⟨t,ht,e,c,q,h⟩,m,hm=>by
  rcases List.mem_cons.mp hm with rfl|hm
  .exact⟨t,ht,e⟩
  .exact h.mem m hm
def LK(os:List iF):Prop:=∀a n ns,Wk os a (n::ns) a->n∉ns->False
theorem qA(nd:(os.map iF.nm).Nodup)(ne:∀t∈os,t.one≠t.lT)(ac:LK os):∀{ns ms:List Str} {a b:Str},Wk os a ns b->Wk os a ms b->ns.Nodup->ms.Nodup->ns=ms
 |[],[],_,_,_,_,_,_=>rfl
 |[],m::ms,a,_,h,k,_,d=>by cases h;exact(ac a m ms k (List.nodup_cons.mp d).1).elim
 |n::ns,[],a,_,h,k,d,_=>by cases k;exact(ac a n ns h (List.nodup_cons.mp d).1).elim
 |n::ns,m::ms,a,b,h,k,d1,d2=>by
  have h0:=h
  have k0:=k
  obtain⟨t,ht,e1,c,q1,h⟩:=h
  obtain⟨u,hu,e2,d,q2,k⟩:=k
  obtain⟨n1,n2⟩:=List.nodup_cons.mp d1
  obtain⟨m1,m2⟩:=List.nodup_cons.mp d2
  by_cases e:m=n
  .have:t=u:=aQ nd ht hu (e1.trans (e.symm.trans e2.symm))
   subst this
   have:c=d:=q1.one (ne t ht) q2
   subst this
   rw[e,qA nd ne ac h k n2 m2]
  .exfalso
   by_cases hn:n∈ms
   .obtain⟨p,q,rfl,np⟩:=i7 hn
    obtain⟨x,w1,w2⟩:=(show Wk os a ((m::p)++n::q) b from k0).cut
    obtain⟨t',IT,e3,f,q3,_⟩:=w2
    have:t=t':=aQ nd ht IT (e1.trans e3.symm)
    subst this
    rcases q1.two q3 with ⟨rfl,_⟩|⟨rfl,_⟩
    .exact ac _ m p w1 λz=>m1 (aaQ _ z)
    .refine ac a n (m::p).reverse ⟨t,ht,e1,_,q1,w1.rev⟩ λz=>?_
     rw[List.mem_reverse,aaZ]at z
     rcases z with z|z
     .exact e z.symm
     .exact np z
   .refine ac a n (ns++(m::ms).reverse) ⟨t,ht,e1,c,q1,h.app k0.rev⟩ λz=>?_
    rw[acF,List.mem_reverse,aaZ]at z
    rcases z with z|z|z
    .exact n1 z
    .exact e z.symm
    .exact hn z
variable{g:Str->List (Str×Str)}
theorem dF(G:Gp ps os g):∀{ns:List Str} {a b:Str},Wk os a ns b->zN g a b
 |[],_,_,h=>by cases h;exact .refl
 |n::ns,a,b,⟨t,ht,e,c,q,h⟩=>zN.trans (.step .refl ((G.mem _ _ _).mpr ⟨t,ht,e.symm,q⟩)) (dF G h)
noncomputable def zd(ps:List Str)(ts:List iF):List iF:=(ts.filter (zj ps)).filter (Bf ps (ts.filter (zj ps)))
theorem aB(h:t∈zd ps ts):t∈ts/\zj ps t=true/\Bf ps (ts.filter (zj ps)) t=true:=by
 obtain⟨h1,h2⟩:=List.mem_filter.mp h
 obtain⟨h3,h4⟩:=List.mem_filter.mp h1
 exact⟨h3,h4,h2⟩
theorem bN:∀t∈zd ps ts,zj ps t=true:=λt h=>(aB h).2.1
theorem cU(ps:List Str)(ts:List iF):Be ps ts=(zd ps ts).map iF.nm:=rfl
theorem fR(ps:List Str)(ts:List iF):(zd ps ts).length<=ts.length:=abg (aaK _ _) (aaK _ _)
theorem ju(nd:(ts.map iF.nm).Nodup):ts.filter (Ae (Be ps ts))=zd ps ts:=by
 unfold zd
 rw[adq]
 refine adG λu hu=>?_
 rw[aaS,AS,aaC]
 constructor
 .intro h
  obtain⟨v,hv,e⟩:=List.mem_map.mp (cU ps ts ▸ h)
  obtain⟨v1,v2,v3⟩:=aB hv
  rw[<- aQ nd v1 hu e]
  exact⟨v3,v2⟩
 .rintro⟨h1,h2⟩
  rw[cU]
  exact List.mem_map.mpr ⟨u,List.mem_filter.mpr ⟨List.mem_filter.mpr ⟨hu,h2⟩,h1⟩,rfl⟩
theorem ck(nd:(ts.map iF.nm).Nodup):((zd ps ts).map iF.nm).Nodup:=nd.sublist ((List.filter_sublist.trans acT).map _)
theorem wL{L:List iF}{d:iF}(hd:d∈L)(h:Ao t d):(L.filter λu=>decide (Ao d u)).length<(L.filter λu=>decide (Ao t u)).length:=by
 have s:(L.filter λu=>decide (Ao d u)).Sublist (L.filter λu=>decide (Ao t u)):=f9 λx _ q=>decide_eq_true (fI h (of_decide_eq_true q))
 rcases aa7 (L.filter λu=>decide (Ao d u)).length (L.filter λu=>decide (Ao t u)).length with z|z
 .exact z
 .have e:=s.eq_of_length_le z
  have m:d∈L.filter λu=>decide (Ao t u):=List.mem_filter.mpr ⟨hd,decide_eq_true h⟩
  rw[<- e]at m
  exact absurd (of_decide_eq_true (List.mem_filter.mp m).2) (cL _)
theorem eS(nd:(ts.map iF.nm).Nodup):∀(n:Nat) (t:iF),t∈zd ps ts->((zd ps ts).filter λu=>decide (Ao t u)).length<n->¬ zN (zP ps (less (zd ps ts) t)) t.one t.lT
 |0,_,_,h=>by omega
 |n+1,t,ht,h=>by
  intro r
  have tn:=ck (ps:=ps) nd
  have oL:∀u∈zd ps ts,zj ps u=true:=bN
  have oB:∀u∈below (zd ps ts) t,u∈zd ps ts:=λu hu=>(zu.mp hu).1
  have hne:∀u∈zd ps ts,∀d∈zd ps ts,Ao u d->u.nm≠d.nm:=λu hu d hd c e=>by
   have:=aQ tn hu hd e
   subst this
   exact cL _ c
  have r2:zN (zP ps (below (zd ps ts) t++(zd ps ts).filter λu=>decide (Ao t u))) t.one t.lT:=by
   refine cF (λu hu=>oL u (Af.mp hu).1) (λu hu=>?_) (λu hu=>?_) r
   .rcases List.mem_append.mp hu with z|z
    .exact oL u (oB u z)
    .exact oL u (List.mem_filter.mp z).1
   .obtain⟨u1,u2⟩:=Af.mp hu
    rcases pJ u2 with z|z
    .exact aaQ _ (zu.mpr ⟨u1,z⟩)
    .exact aay _ (List.mem_filter.mpr ⟨u1,decide_eq_true z⟩)
  have r3:=mD oL ht oB _ (tn.sublist (List.filter_sublist.map _)) (λd hd=>by
   obtain⟨d1,d2⟩:=List.mem_filter.mp hd
   have d2:=of_decide_eq_true d2
   refine⟨d1,λu hu=>?_,hne t ht d d1 d2,eS nd n d d1 ?_⟩
   .obtain⟨u1,u2⟩:=zu.mp hu
    exact hne u u1 d d1 (fI u2 d2)
   .have:=wL d1 d2
    omega) r2
  have mn:=B0.mp (aB ht).2.2
  refine mn (cF (λu hu=>oL u (oB u hu)) (λu hu=>(List.mem_filter.mp (zu.mp hu).1).2) (λu hu=>?_) r3)
  obtain⟨u1,u2⟩:=zu.mp hu
  exact zu.mpr ⟨(List.mem_filter.mp u1).1,u2⟩
theorem g8:∀{ns:List Str} {a b:Str},Wk os a ns b->t.nm∉ns->Wk (less os t) a ns b
 |[],_,_,h,_=>h
 |n::ns,a,b,⟨u,hu,e,c,q,h⟩,hn=>by
  rw[aaZ,not_or]at hn
  exact⟨u,Af.mpr ⟨hu,λz=>hn.1 (z ▸ e)⟩,e,c,q,g8 h hn.2⟩
theorem lr(nd:(ts.map iF.nm).Nodup):LK (zd ps ts):=by
 rintro a n ns ⟨t,ht,e,c,q,w⟩ hn
 have oL:∀u∈less (zd ps ts) t,zj ps u=true:=λu hu=>bN u (Af.mp hu).1
 have r:=dF (B8 oL) (g8 w (e ▸ hn))
 refine eS nd _ t ht (aa5 _) ?_
 rcases q with ⟨rfl,rfl⟩|⟨rfl,rfl⟩
 .exact(B8 oL).EA r
 .exact r
theorem qL(nd:(ts.map iF.nm).Nodup):CI ps (Be ps ts) ts=zd ps ts:=by
 unfold CI
 rw[lK,ju nd]
 exact List.filter_eq_self.mpr bN
variable{ns:List Str}
theorem mv{b:Str}(w:Wk os a ns b)(d:ns.Nodup):ns.length<=os.length:=by
 have:=bA d λn hn=>(by obtain⟨t,ht,e⟩:=w.mem n hn;exact List.mem_map.mpr ⟨t,ht,e⟩:n∈os.map iF.nm)
 rwa [aae]at this
theorem dJ(oX:∀u∈X,zj ps u=true)(sym:∀{x y},zN g x y->zN g y x)(h:∀u∈X,zN g u.one u.lT)(r:zN (zP ps X) x y):zN g x y:=by
 induction r with
 |refl=>exact .refl
 |step _ e ih=>
  obtain⟨t,ht,_,z⟩:=((B8 oX).mem _ _ _).mp e
  rcases z with ⟨rfl,rfl⟩|⟨rfl,rfl⟩
  .exact ih.trans (h t ht)
  .exact ih.trans (sym (h t ht))
noncomputable def upTo(ps:List Str)(os:List iF)(u:iF):List iF:=os.filter λv=>Bf ps os v && !decide (Ao u v)
theorem Av:v∈upTo ps os u↔v∈os/\Bf ps os v=true/\¬ Ao u v:=by
 unfold upTo
 rw[acE,aaC,Bool.not_eq_true',decide_eq_false_iff_not]
theorem uJ(hv:v∈below os u):(below os v).length<(below os u).length:=by
 have s:(below os v).Sublist (below os u):=f9 λx _ h=>decide_eq_true (fI (of_decide_eq_true h) (zu.mp hv).2)
 rcases aa7 (below os v).length (below os u).length with z|z
 .exact z
 .have e:=s.eq_of_length_le z
  rw[<- e]at hv
  exact absurd (zu.mp hv).2 (cL _)
theorem jm(oo:∀u∈os,zj ps u=true):∀(n:Nat) (u:iF),u∈os->(below os u).length<n->zN (zP ps (upTo ps os u)) u.one u.lT
 |0,_,_,h=>by omega
 |n+1,u,hu,h=>by
  have oU:∀v∈upTo ps os u,zj ps v=true:=λv hv=>oo v (Av.mp hv).1
  by_cases hm:Min ps os u
  .exact fZ oU (Av.mpr ⟨hu,B0.mpr hm,cL u⟩)
  .have r:zN (zP ps (below os u)) u.one u.lT:=aci hm
   refine dJ (λv hv=>oo v (zu.mp hv).1) (λr=>(B8 oU).EA r) (λv hv=>?_) r
   have hb:=zu.mp hv
   have ih:=jm oo n v hb.1 (by have:=uJ hv;omega)
   exact cF (λw hw=>oo w (Av.mp hw).1) oU (λw hw=>by
    obtain⟨a,b,c⟩:=Av.mp hw
    exact Av.mpr ⟨a,b,λz=>c (fI hb.2 z)⟩) ih
theorem kZ(ps:List Str)(ts:List iF):zP ps (ts.filter (zj ps))=zP ps ts:=by
 funext p
 unfold zP
 rw[adq]
 simp only[Bool.and_self]
def Aa(ts:List iF)(t:iF):List iF:=ts.filter λu=>decide (u.nm≠t.nm) && decide (Ao u t)
def Ga(ts:List iF)(t:iF):List iF:=ts.filter λu=>decide (u.nm=t.nm) || decide (Ao u t)
noncomputable def AB(ps:List Str)(ts:List iF)(t:iF):List Str:=((zd ps ts).filter λu=>decide (Ao u t)).map iF.nm
structure Bx(ps:List Str)(ts:List iF)(one lT:Str)(ns:List Str)(t:iF):Prop where
 w:Wk (zd ps ts) one ns lT
 nd:ns.Nodup
 ht:t∈zd ps ts
 hn:t.nm∈ns
 mx:∀u∈zd ps ts,u.nm∈ns->u.nm≠t.nm->Ao u t
theorem BA:u∈Aa ts t↔u∈ts/\u.nm≠t.nm/\Ao u t:=by
 unfold Aa
 rw[acE,aaC,decide_eq_true_eq,decide_eq_true_eq]
theorem DT:u∈Ga ts t↔u∈ts/\(u.nm=t.nm\/Ao u t):=by
 unfold Ga
 rw[acE,acG,decide_eq_true_eq,decide_eq_true_eq]
theorem jW(nd:(ts.map iF.nm).Nodup)(hu:u∈ts)(ht:t∈ts)(c:Ao u t):u.nm≠t.nm:=λe=>by
 have:=aQ nd hu ht e
 subst this
 exact cL _ c
theorem Jw(r:zN (zP ps X) x y):zN (zP ps X) y x:=(cv ps X).EA r
theorem cG{Y:List iF}(h:∀u∈X,zj ps u=true->u∈Y)(r:zN (zP ps X) x y):zN (zP ps Y) x y :=
 oI (cv ps X) (cv ps Y) (λu hu=>by
  obtain⟨a,b⟩:=List.mem_filter.mp hu
  exact List.mem_filter.mpr ⟨h u a b,b⟩) r
theorem C6{n:Str}:n∈AB ps ts t↔∃u∈zd ps ts,Ao u t/\u.nm=n:=by
 unfold AB
 rw[List.mem_map]
 constructor
 .rintro⟨u,hu,e⟩
  obtain⟨a,b⟩:=List.mem_filter.mp hu
  exact⟨u,a,of_decide_eq_true b,e⟩
 .rintro⟨u,a,b,e⟩
  exact⟨u,List.mem_filter.mpr ⟨a,decide_eq_true b⟩,e⟩
theorem mZ(nd:(ts.map iF.nm).Nodup)(hu:u∈ts.filter (Ae (AB ps ts t))):u∈zd ps ts/\Ao u t:=by
 obtain⟨a,b⟩:=List.mem_filter.mp hu
 obtain⟨v,hv,c,e⟩:=C6.mp (AS.mp b)
 have:=aQ nd (aB hv).1 a e
 subst this
 exact⟨hv,c⟩
theorem pc(nd:(ts.map iF.nm).Nodup)(ht:t∈ts):zN (zP ps (ts.filter (Ae (AB ps ts t)))) x y↔zN (zP ps (Aa ts t)) x y:=by
 constructor
 .refine cG λu hu _=>?_
  obtain⟨a,b⟩:=mZ nd hu
  exact BA.mpr ⟨(aB a).1,jW nd (aB a).1 ht b,b⟩
 .intro r
  rw[<- kZ]at r
  refine dJ (λu hu=>(List.mem_filter.mp hu).2) Jw (λu hu=>?_) r
  obtain⟨a,b⟩:=List.mem_filter.mp hu
  obtain⟨a1,_,a3⟩:=BA.mp a
  have oo:∀u∈ts.filter (zj ps),zj ps u=true:=λu hu=>(List.mem_filter.mp hu).2
  have:=jm oo _ u (List.mem_filter.mpr ⟨a1,b⟩) (aa5 _)
  refine cG (λv hv _=>?_) this
  obtain⟨v1,v2,v3⟩:=Av.mp hv
  have vt:v∈zd ps ts:=List.mem_filter.mpr ⟨v1,v2⟩
  refine List.mem_filter.mpr ⟨(List.mem_filter.mp v1).1,AS.mpr (C6.mpr ⟨v,vt,?_,rfl⟩)⟩
  by_cases e:v.nm=u.nm
  .have:=aQ nd (List.mem_filter.mp v1).1 a1 e
   subst this;exact a3
  .exact fI ((pJ e).resolve_right v3) a3
theorem Hi:zN (zP ps (zd ps ts)) x y↔zN (zP ps ts) x y:=by
 constructor
 .exact cG λu hu _=>(aB hu).1
 .intro r
  rw[<- kZ]at r
  have oo:∀u∈ts.filter (zj ps),zj ps u=true:=λu hu=>(List.mem_filter.mp hu).2
  refine dJ oo Jw (λu hu=>?_) r
  refine cG (λv hv _=>?_) (jm oo _ u hu (aa5 _))
  obtain⟨v1,v2,v3⟩:=Av.mp hv
  exact List.mem_filter.mpr ⟨v1,v2⟩
theorem Bx.no{one lT:Str}(nd:(ts.map iF.nm).Nodup)(d:Bx ps ts one lT ns t):¬ zN (zP ps (Aa ts t)) one lT:=by
 intro r
 have r:=(pc nd (aB d.ht).1).mpr r
 have tn:=ck (ps:=ps) nd
 have r2:zN (zP ps (less (zd ps ts) t)) one lT:=cG (λu hu _=>by
  obtain⟨a,b⟩:=mZ nd hu
  exact Af.mpr ⟨a,jW nd (aB a).1 (aB d.ht).1 b⟩) r
 obtain⟨p,q,rfl,hp⟩:=i7 d.hn
 obtain⟨x,w1,t',IT,e',y,q',w2⟩:=d.w.cut
 have:t'=t:=aQ tn IT d.ht e'
 subst this
 have hq:t'.nm∉q:=λz=>by
  have:=(List.nodup_append.mp d.nd).2.1
  exact(List.nodup_cons.mp this).1 z
 have oL:∀u∈less (zd ps ts) t',zj ps u=true:=λu hu=>bN u (Af.mp hu).1
 have s1:=dF (B8 oL) (g8 w1 hp)
 have s2:=dF (B8 oL) (g8 w2 hq)
 have s3:zN (zP ps (less (zd ps ts) t')) x y:=((Jw s1).trans r2).trans (Jw s2)
 refine eS nd _ t' d.ht (aa5 _) ?_
 rcases q' with ⟨rfl,rfl⟩|⟨rfl,rfl⟩
 .exact s3
 .exact Jw s3
theorem mt:∀{ns:List Str} {a b:Str},(∀u∈os,u.nm∈ns->u∈os')->Wk os a ns b->Wk os' a ns b
 |[],_,_,_,h=>h
 |n::ns,a,b,k,⟨u,hu,e,c,q,h⟩=>⟨u,k u hu (by rw[e];exact aaq),e,c,q,mt (λv hv hn=>k v hv (aan _ hn)) h⟩
theorem Bx.yes{one lT:Str}(d:Bx ps ts one lT ns t):zN (zP ps (Ga ts t)) one lT:=by
 have w:=mt (os':=(Ga ts t).filter (zj ps)) (λu hu hn=>by
  refine List.mem_filter.mpr ⟨DT.mpr ⟨(aB hu).1,?_⟩,bN u hu⟩
  by_cases e:u.nm=t.nm
  .exact .inl e
  .exact .inr (d.mx u hu hn e)) d.w
 exact dF (cv ps _) w
def GY(os:List iF):List Str->Str->List Str->Str->Prop
 |_,a,[],b=>a=b
 |seen,a,n::ns,b=>∃t∈os,t.nm=n/\∃c,Ends t a c/\c∉seen/\GY os (seen++[c]) c ns b
theorem qz(ac:LK os):∀{ns:List Str} {a b:Str} {seen:List Str},Wk os a ns b->ns.Nodup->(∀s∈seen,∃ms,Wk os s ms a/\(ms++ns).Nodup)->GY os seen a ns b
 |[],_,_,_,h,_,_=>h
 |n::ns,a,b,seen,⟨t,ht,e,c,q,h⟩,nd,hs=>by
  refine⟨t,ht,e,c,q,λz=>?_,qz ac h (List.nodup_cons.mp nd).2 λs LY=>?_⟩
  .obtain⟨ms,w,LR⟩:=hs c z
   have w2:Wk os c (ms++[n]) c:=w.app ⟨t,ht,e,c,q,rfl⟩
   cases ms with
   |nil=>exact ac c n [] w2 (by simp)
   |cons m ms=>
    refine ac c m (ms++[n]) w2 λz=>?_
    have:=(List.nodup_cons.mp LR).1
    refine this (List.mem_append.mpr ?_)
    rcases List.mem_append.mp z with z|z
    .exact .inl z
    .exact .inr (by rw[List.mem_singleton.mp z];exact aaq)
  .rcases List.mem_append.mp LY with z|z
   .obtain⟨ms,w,LR⟩:=hs s z
    exact⟨ms++[n],w.app ⟨t,ht,e,c,q,rfl⟩,by rw[adI];exact LR⟩
   .rw[List.mem_singleton.mp z]
    exact⟨[],rfl,(List.nodup_cons.mp nd).2⟩
noncomputable def aO(ps:List Str)(ts:List iF)(a:Str):List Str:=ps.filter (rb (zP ps ts) a)
theorem Au:x∈aO ps ts a↔x∈ps/\zN (zP ps ts) a x:=by
 unfold aO
 rw[acE,jA]
theorem qU(nd:(ts.map iF.nm).Nodup)(ht:t∈ts)(a:Str):aO ps (ts.filter (Ae (AB ps ts t))) a=aO ps (Aa ts t) a:=by
 unfold aO
 exact adG λx _=>by rw[aaS,jA,jA];exact pc nd ht
def Rd(os:List iF):Str->List iF->Str->Prop
 |a,[],b=>a=b
 |a,t::r,b=>t∈os/\∃c,Ends t a c/\Rd os c r b
theorem Rd.wk:∀{r:List iF} {a b:Str},Rd os a r b->Wk os a (r.map iF.nm) b
 |[],_,_,h=>h
 |t::r,a,b,⟨ht,c,e,h⟩=>⟨t,ht,rfl,c,e,h.wk⟩
theorem Rd.mem:∀{r:List iF} {a b:Str},Rd os a r b->∀t∈r,t∈os
 |t::r,a,b,⟨ht,c,e,h⟩,u,hu=>by
  rcases List.mem_cons.mp hu with rfl|z
  .exact ht
  .exact h.mem u z
theorem GY.last:∀{ns:List Str} {seen:List Str} {a b:Str},GY os seen a ns b->ns≠[]->b∉seen
 |[],_,_,_,_,h=>absurd rfl h
 |[n],seen,a,b,⟨t,ht,e,c,q,hc,h⟩,_=>by
  have:c=b:=h
  exact this ▸ hc
 |n::m::ns,seen,a,b,⟨t,ht,e,c,q,hc,h⟩,_=>λz=>GY.last h (by simp) (aaQ _ z)
theorem GY.mono(k:∀t∈os,t∈os'):∀{ns:List Str} {seen:List Str} {a b:Str},GY os seen a ns b->GY os' seen a ns b
 |[],_,_,_,h=>h
 |n::ns,seen,a,b,⟨t,ht,e,c,q,hc,h⟩=>⟨t,k t ht,e,c,q,hc,h.mono k⟩
def free(os:List iF)(met:List Str):List iF:=os.filter λt=>decide (t.one∉met) && decide (t.lT∉met)
def goes(os:List iF)(met:List Str)(here:Str):List iF:=os.filter λt=>(decide (t.one=here) && decide (t.lT∉met)) || (decide (t.lT=here) && decide (t.one∉met))
theorem iJ{p q r:α->Bool}:∀{l:List α},(∀x∈l,(p x=true->r x=true)/\(q x=true->r x=true/\p x=false))->(l.filter p).length+(l.filter q).length<=(l.filter r).length
 |[],_=>by simp
 |x::l,h=>by
  have ih:=iJ λy hy=>h y (aan _ hy)
  obtain⟨h1,h2⟩:=h x aaq
  rw[ab3,ab3,ab3]
  cases ep:p x<;>cases eq:q x<;>cases er:r x
  .exact ih
  .simp;omega
  .exact absurd (h2 eq).1 (by rw[er];simp)
  .simp;omega
  .exact absurd (h1 ep) (by rw[er];simp)
  .simp;omega
  .exact absurd (h1 ep) (by rw[er];simp)
  .exact absurd (h2 eq).2 (by rw[ep];simp)
theorem so{met:List Str}{here:Str}(hh:here∉met)(ne:∀t∈os,t.one≠t.lT):(free os (met++[here])).length+(goes os (met++[here]) here).length<=(free os met).length:=by
 refine iJ λt _=>⟨λh=>?_,λh=>?_⟩
 .rw[aaC,decide_eq_true_eq,decide_eq_true_eq]at h⊢
  exact⟨λz=>h.1 (aaQ _ z),λz=>h.2 (aaQ _ z)⟩
 .rw[acG,aaC,aaC,decide_eq_true_eq,decide_eq_true_eq,decide_eq_true_eq,decide_eq_true_eq]at h
  rw[aaC,decide_eq_true_eq,decide_eq_true_eq,Bool.and_eq_false_iff,decide_eq_false_iff_not,decide_eq_false_iff_not]
  rcases h with ⟨h1,h2⟩|⟨h1,h2⟩
  .exact⟨⟨λz=>hh (h1 ▸ z),λz=>h2 (aaQ _ z)⟩,.inl λz=>z (by rw[h1];simp)⟩
  .exact⟨⟨λz=>h2 (aaQ _ z),λz=>hh (h1 ▸ z)⟩,.inr λz=>z (by rw[h1];simp)⟩
theorem wZ(d:Nat):d<=2 ^ d:=ad2 Nat.lt_two_pow_self
theorem oE{met:List Str}{here:Str}(hh:here∉met)(ne:∀t∈os,t.one≠t.lT){d:Nat}(hd:d<=(goes os (met++[here]) here).length):d*2 ^ (free os (met++[here])).length<=2 ^ (free os met).length:=by
 have h:=so hh ne
 have:d*2 ^ (free os (met++[here])).length<=2 ^ d*2 ^ (free os (met++[here])).length:=Nat.mul_le_mul_right _ (wZ d)
 rw[<- Nat.pow_add]at this
 exact abg this (aee (by omega) (by omega))
def zL(t:iF):Int×Str:=(t.cost,t.nm)
theorem r9(t u:iF):gtB (zL t) (zL u)=decide (Ao u t):=by
 rw[aaS,decide_eq_true_eq]
 unfold gtB zL
 rw[decide_eq_true_eq]
 exact Iff.rfl
theorem nW{bt:Int×Str->Int×Str->Bool}(R4:∀x,bt x x=false)(tr:∀x y z,bt x y=true->bt y z=true->bt x z=true)(J8:∀x y,bt x y=false->bt y x=false->x=y):∀{ks:List (Int×Str)},∀x∈ks,bt x (zk bt ks)=false:=by
 intro ks
 cases ks with
 |nil=>intro x hx;cases hx
 |cons k ks=>
  have key:∀(l:List (Int×Str)) (b:Int×Str),∀x,x=b\/x∈l->bt x (l.foldl (λb x=>if bt x b=true then x else b) b)=false:=by
   intro l
   induction l with
   |nil=>
    intro b x hx
    rcases hx with rfl|hx
    .exact R4 _
    .cases hx
   |cons a l ih=>
    intro b x hx
    rw[ad6]
    have h0:=ih (if bt a b=true then a else b)
    have hb:=h0 _ (.inl rfl)
    rcases hx with rfl|hx
    .by_cases e:bt a x=true
     .rw[if_pos e]at hb ⊢
      cases q:bt x (l.foldl (λb x=>if bt x b=true then x else b) a)with
      |false=>rfl
      |true=>rw[tr a x _ e q]at hb;cases hb
     .rw[if_neg e]at hb ⊢;exact hb
    .rcases List.mem_cons.mp hx with rfl|hx
     .by_cases e:bt x b=true
      .rw[if_pos e]at hb ⊢;exact hb
      .rw[if_neg e]at hb ⊢
       cases q:bt x (l.foldl (λb x=>if bt x b=true then x else b) b)with
       |false=>rfl
       |true=>
        have e':bt x b=false:=by simpa using e
        cases q2:bt b x with
        |true=>rw[tr b x _ q2 q]at hb;cases hb
        |false=>
         have:=J8 x b e' q2
         subst this
         rw[q]at hb;cases hb
     .exact h0 x (.inr hx)
  intro x hx
  exact key ks k x (List.mem_cons.mp hx)
theorem se(x:Int×Str):gtB x x=false:=by
 unfold gtB
 rw[decide_eq_false_iff_not]
 rintro(h|⟨_,h⟩)
 .omega
 .exact cJ _ h
theorem qm(x y z:Int×Str)(a:gtB x y=true)(b:gtB y z=true):gtB x z=true:=by
 unfold gtB at *
 rw[decide_eq_true_eq]at *
 rcases a with a|⟨a1,a2⟩<;>rcases b with b|⟨b1,b2⟩
 .exact .inl (by omega)
 .exact .inl (by omega)
 .exact .inl (by omega)
 .exact .inr ⟨by omega,jI b2 a2⟩
theorem jM(x y:Int×Str)(a:gtB x y=false)(b:gtB y x=false):x=y:=by
 unfold gtB at *
 rw[decide_eq_false_iff_not,not_or,not_and]at *
 have e:x.1=y.1:=by omega
 have:x.2=y.2:=by
  rcases o7 x.2 y.2 with z|z|z
  .exact absurd z (b.2 e)
  .exact z
  .exact absurd z (a.2 e.symm)
 exact Prod.ext e this
variable{ks:List (Int×Str)}
theorem pK:∀x∈ks,gtB x (zk gtB ks)=false:=nW se qm jM
theorem wU:∀x∈ks,gtB (zk (λx b=>gtB b x) ks) x=false :=
 nW (bt:=λx b=>gtB b x) se (λx y z a b=>qm z y x b a) (λx y a b=>jM x y b a)
theorem nU{us:List iF}(h:t∈us)(k:∀u∈us,u.nm≠t.nm->Ao u t)(nm:∀u∈us,u.nm=t.nm->u=t):zk gtB (us.map zL)=zL t:=by
 have hl:(us.map zL).length≠0:=by
  rw[aae]
  intro z
  rw[List.length_eq_zero_iff.mp z]at h;cases h
 obtain⟨u,hu,e⟩:=List.mem_map.mp (Q.nV (bt:=gtB) hl)
 have g:=pK (zL t) (aaX h)
 rw[<- e]at g ⊢
 by_cases z:u.nm=t.nm
 .rw[nm u hu z]
 .rw[r9,decide_eq_false_iff_not]at g
  exact absurd (k u hu z) g
theorem uI{k:Int×Str}(h:k∈ks)(g:∀x∈ks,gtB k x=false):zk (λx b=>gtB b x) ks=k:=by
 have hl:ks.length≠0:=λz=>by rw[List.length_eq_zero_iff.mp z]at h;cases h
 exact jM _ _ (wU k h) (g _ (Q.nV hl))
section
variable{one lT:Str}
theorem Bx.road(nd:(ts.map iF.nm).Nodup)(d:Bx ps ts one lT ns t){r:List iF}(h:Rd (ts.filter (zj ps)) one r lT):gtB (zL t) (zk gtB (r.map zL))=false:=by
 refine aci λz=>?_
 have z:gtB (zL t) (zk gtB (r.map zL))=true:=by simpa using z
 refine d.no nd ?_
 have w:=h.wk
 have:Wk ((Aa ts t).filter (zj ps)) one (r.map iF.nm) lT:=mt (λu hu hn=>by
  obtain⟨u1,u2⟩:=List.mem_filter.mp hu
  refine List.mem_filter.mpr ⟨?_,u2⟩
  obtain⟨v,hv,e⟩:=List.mem_map.mp hn
  have vt:=(List.mem_filter.mp (h.mem v hv)).1
  have:v=u:=aQ nd vt u1 e
  subst this
  have c:Ao v t:=by
   have g:=pK (zL v) (aaX hv)
   cases q:gtB (zL t) (zL v)with
   |true=>rw[r9]at q;exact of_decide_eq_true q
   |false=>
    exfalso
    cases q2:gtB (zL v) (zk gtB (r.map zL))with
    |true=>rw[q2]at g;cases g
    |false=>
     have:=gt_tri q z
     rw[this]at g;cases g
  exact BA.mpr ⟨vt,jW nd vt (aB d.ht).1 c,c⟩) w
 exact dF (cv ps _) this
where
 gt_tri {x y z:Int×Str} (a:gtB x y=false) (b:gtB x z=true):gtB y z=true:=by
  cases q:gtB y z with
  |true=>rfl
  |false=>
   exfalso
   cases q2:gtB y x with
   |true=>rw[qm y x z q2 b]at q;cases q
   |false=>
    have:=jM x y a q2
    subst this
    rw[b]at q;cases q
theorem Bx.turn(nd:(ts.map iF.nm).Nodup)(ne:∀t∈ts,t.one≠t.lT)(d:Bx ps ts one lT ns t){ms:List Str}(e:Bx ps ts lT one ms u):ms=ns.reverse :=
 qA (ck nd) (λt ht=>ne t (aB ht).1) (lr nd) e.w d.w.rev e.nd (List.pairwise_reverse.mpr (d.nd.imp abW))
end
def gn:Fd:=λxs P=>∃(ps ns:List Str) (ts:List iF),(xs=[iN ps ts,.tup (ns.map .str)]\/xs=[iN ps ts,.lst (ns.map .str)])/\ts.length<=1000/\ns.length<=1000/\P (iN ps (ts.filter (Ae ns)))
def la:Fd:=λxs P=>∃(ps:List Str) (ts:List iF) (fs:List Str) (one lT:Str),xs=[iN ps ts,.tup (fs.map .str),.str one,.str lT]/\Nt ps ts/\(ts.map iF.nm).Nodup/\fs.length<=1000/\one∈ps/\lT∈ps /\
 (¬ zN (zP ps (ts.filter (Ae fs))) lT one->P .oR)/\∀ns:List Str,Wk (CI ps fs ts) one ns lT->ns.Nodup->ns.length<=1000->P (.tup (ns.map .str))
def cQ:Fd:=λxs P=>∃(ps:List Str) (ts:List iF) (t u:iF),xs=[iN ps ts,.str t.nm,.str u.nm]/\ts.length<=1000/\(ts.map iF.nm).Nodup/\t∈ts/\u∈ts/\P (.bl (decide (Ao t u)))
def Top(us:List iF)(t:iF):Prop:=t∈us/\∀u∈us,u.nm≠t.nm->Ao u t
def bW(T:Addr×Addr):CV:=λc xs P=>c=zx T/\∃(ps:List Str) (ts us:List iF),xs=[iN ps ts,.tup ((us.map iF.nm).map .str)]/\ts.length<=1000/\(ts.map iF.nm).Nodup/\us.length<64/\(us.map iF.nm).Nodup/\(∀u∈us,u∈ts)/\us≠[] /\
 ∀t,Top us t->P (.str t.nm) (zx T)
def D8(ps side:List Str)(t:iF):Bool:=zj ps t && !decide (decide (t.one∈side)=decide (t.lT∈side))
def gi:Fd:=λxs P=>∃(ps side:List Str) (ts:List iF),xs=[iN ps ts,.tup (side.map .str)]/\ts.length<=1000/\P (.tup (((ts.filter (D8 ps side)).map iF.nm).map .str))
noncomputable def AO(ps:List Str)(ts:List iF)(one:Str)(ns:List Str)(t:iF):PV:=.tup [.tup (ns.map .str),.tup ((aO ps (Aa ts t) one).map .str)]
structure OW(ps:List Str)(ts:List iF)(one lT:Str):Prop where
 ok:BN ps ts
 pl:ps.length<=60
 tl:ts.length<=60
 h1:one∈ps
 h2:lT∈ps
 ne:one≠lT
def cP(T:Addr×Addr):CV:=λc xs P=>c=zx T/\∃(ps:List Str) (ts:List iF) (one lT:Str),xs=[iN ps ts,.str one,.str lT]/\OW ps ts one lT /\
 (¬ zN (zP ps ts) one lT->P .oR (zx T))/\∀ns t,Bx ps ts one lT ns t->P (AO ps ts one ns t) (zx T)
def ed:Fd:=λxs P=>∃(ps:List Str) (ts us:List iF),xs=[iN ps ts,.tup ((us.map iF.nm).map .str)]/\BN ps ts/\ts.length<=1000/\us.length<=1000/\(∀u∈us,u∈ts/\zj ps u=true)/\P (.bl true)
def g5:Fd:=λxs P=>∃(ps:List Str) (ts os:List iF) (ns:List Str) (one lT:Str),xs=[iN ps ts,.tup (ns.map .str),.str one,.str lT]/\ts.length<=1000/\(ts.map iF.nm).Nodup/\(∀u∈os,u∈ts/\u.one≠u.lT)/\GY os [one] one ns lT/\ns.length<=1000/\P (.bl true)
def cM:Fd:=λxs P=>∃(ps side:List Str) (ts:List iF) (one lT:Str),xs=[iN ps ts,.tup (side.map .str),.str one,.str lT]/\side.Pairwise zD/\(∀x∈side,zY x/\x∈ps)/\side.length<=1000/\one∈side/\lT∉side/\P (.bl true)
def bD(T:Addr×Addr):CV:=λc xs P=>c=zx T/\∃(ps:List Str) (ts:List iF) (one lT:Str) (ns:List Str) (t:iF),xs=[iN ps ts,.str one,.str lT,AO ps ts one ns t]/\OW ps ts one lT/\Bx ps ts one lT ns t/\P (.bl true) (zx T)
def iq:Fd:=λxs P=>∃t:iF,xs=[gE t]/\P (.tup [.int t.cost,.str t.nm])
def cD(rs:List (List iF)):PV:=.lst (rs.map λr=>.lst (r.map gE))
structure Rr(n:Nat)(os:List iF)(met:List Str)(here lT:Str)(rs:List (List iF)):Prop where
 sound:∀r∈rs,Rd os here r lT
 full:∀ns,GY os (met++[here]) here ns lT->∃r∈rs,r.map iF.nm=ns
 len:rs.length<=2 ^ (free os met).length
 sh:∀r∈rs,r.length<=n
structure Met(ps:List Str)(os:List iF)(met:List Str):Prop where
 ol:os.length<=12
 ok:∀t∈os,t.one≠t.lT/\zj ps t=true
 nd:met.Nodup
 GF:∀x∈met,x∈ps
def gp(n:Nat):Fd:=λxs P=>n≠0/\∃(ps:List Str) (os:List iF) (met:List Str) (here lT:Str),xs=[.lst (os.map gE),.str here,.str lT,.lst ((met++[here]).map .str)]/\Met ps os (met++[here])/\ps.length<=n+met.length/\n+met.length<=1000 /\
 ∀rs,Rr n os met here lT rs->P (cD rs)
def g6(T:Addr×Addr):CV:=λc xs P=>c=zx T/\∃(ps:List Str) (ts:List iF) (one lT:Str),xs=[iN ps ts,.str one,.str lT]/\OW ps ts one lT/\ps.length<=7/\ts.length<=12/\P (.bl true) (zx T)
def eJ:WS :=
  (rW (Bz (Gw (Bn (A2 (GU "str" (Ai 0)))) (Bn (yZ (Cz Fv Fv (eC (.int 1)) (BC Dk (a1 (Ai 0))) (eC (.int 8)))))) (zb (eC (.bl false))) Ad)
  (zb (BC A0 (aS (DC (HI (eV 0)) (.nm 0) CY (Cz Fv Fv (eC (.str "a")) (eV 0) (eC (.str "z"))) [none]) iD))))
def da:WS :=
  (zb (BC A0 (aS (DC (iZ (aS (eV 0) (aS (Iq (eV 0) (Ba (eC (.int 1))) CK) iD))) (.tp [0,1]) CY (yU GC (eV 0) (Ai 1)) [none,none]) iD)))
def db:WS :=
  (rW (Bz (Gw (Bn (A2 (GU "tuple" (Ai 0)))) (Bn (A2 (BC A0 (aS (DC (iS (eV 0)) (.nm 0) CY (zc cO (aS (eV 0) iD)) [none]) iD))))) (zb (eC (.bl false))) Ad)
  (zb (zc dk (aS (eV 0) iD))))
def eM:WS :=
  (zb (HY (yU AY (yU lE (eV 1) (eC (.int 1))) (yU lE (eV 0) (eC (.int 0)))) (yU AY (yU lE (eV 1) (eC (.int 2))) (yU lE (eV 0) (eC (.int 0))))))
def cg:WS :=
  (zb (Jh (iS (yU lE (eV 0) (eC (.int 1)))) (.nm 0) CY (yU lE (eV 0) (eC (.int 0))) (eV 0) [none]))
def cZ:WS :=
  (zb (BC bL (aS (DC (iS (yU lE (eV 0) (eC (.int 1)))) (.nm 0) (A2 (zc cb (aS (eV 1) (aS (eV 0) iD)))) (yU lE (eV 0) (eC (.int 0))) [none,some 0]) iD)))
def gy:WS :=
  (zb (Jh (iS (yU lE (eV 0) (eC (.int 1)))) (.nm 0) CY (yU lE (eV 0) (eC (.int 0))) (Bu (aS (yU lE (eV 0) (eC (.int 3))) (aS (yU lE (eV 0) (eC (.int 0))) iD))) [none]))
def eO:WS :=
  (rW (zv 3 (zc cY (aS (eV 0) iD)))
  (zb (yU Oz (yU lE (eV 3) (Ai 1)) (yU lE (eV 3) (Ai 2)))))
def cC(T:Addr×Addr):WS :=
  (rW (zv 2 (zc cY (aS (eV 0) iD)))
  (zb (FJ 3 2 "dearest_of.<locals>.<lambda>" 26 26 T.1 (eV 1))))
def fN:WS :=
  (zb (BC bL (aS (DC (iS (yU lE (eV 0) (eC (.int 1)))) (.nm 0) (Ez (A2 (zc cb (aS (eV 1) (aS (eV 0) iD)))) (yZ (yU EF (yU AY (yU lE (eV 0) (eC (.int 1))) (Ai 2)) (yU AY (yU lE (eV 0) (eC (.int 2))) (Ai 2))))) (yU lE (eV 0) (eC (.int 0))) [none,some 0,some 1]) iD)))
def b0(T:Addr×Addr):WS :=
  (rW (zv 2 (zc cY (aS (eV 0) iD)))
  (zb (kU 3 2 "cheaper_first.<locals>.<lambda>" 32 29 T.2 (eV 1))))
def bX:WS :=
  (rW (zv 2 (zc bK (aS (eV 0) iD)))
  (rW (AR 3 (Jh (iS (yU lE (eV 0) (eC (.int 0)))) (.nm 0) CY (eV 0) (eV 0) [none]))
  (rW (AR 4 (Bi iD))
  (rW (Dd (iS (eV 1)) (gN 5) (rW (zv 6 (yU lE (eV 2) (Ai 5)))
  (rW (Gy (Bu (aS (Cy lE 3 (yU lE (eV 6) (eC (.int 1)))) (aS (Cy lE 3 (yU lE (eV 6) (eC (.int 2)))) iD))) (gT (zX (gN 7) (zX (gN 8) B7))))
  (Bz (yZ (yU EF (eV 7) (Ai 8))) (rW (BI (GS bG 4 (aS (eV 5) iD)))
  (AR 3 (Jh (kN 3) (.tp [0,1]) CY (eV 0) (Mk (yZ (yU Ag (eV 1) (Ai 3))) (eV 2) (eV 1)) [none,none,some 7,some 8]))) Ad))))
  (zb (BC bL (aS (A7 (a1 (Ai 4))) iD)))))))
def dG(T:Addr×Addr):WS :=
  (zb (zc b7 (aS (eV 0) (aS (zw (b8 T) 1 (aS (eV 0) (aS (zc ce (aS (eV 0) iD)) iD))) iD))))
def cB:WS :=
  (rW (kf 1 (iS (yU lE (eV 0) (eC (.int 0)))))
  (rW (Dd (iS (yU lE (eV 0) (eC (.int 1)))) (gN 2) (Bz (A2 (zc cb (aS (eV 0) (aS (eV 2) iD)))) (rW (fg 1 (yU lE (eV 2) (eC (.int 1))) (Bu (aS (yU lE (eV 2) (eC (.int 0))) (aS (yU lE (eV 2) (eC (.int 2))) iD))))
  (fg 1 (yU lE (eV 2) (eC (.int 2))) (Bu (aS (yU lE (eV 2) (eC (.int 0))) (aS (yU lE (eV 2) (eC (.int 1))) iD))))) Ad))
  (j9 1)))
def eR:WS :=
  (rW (AR 2 (JN (((eV 1),(eC .oR))::[])))
  (rW (AR 3 (Bi (aS (eV 1) iD)))
  (rW (Cn (A2 (Ai 3)) (rW (zv 4 (GS IL 3 iD))
  (Dd (iS (yU lE (eV 0) (Ai 4))) (gT (zX (gN 5) (zX (gN 6) B7))) (Bz (yZ (yU AU (eV 6) (Ai 2))) (rW (Kq 2 (Bu (aS (eV 5) (aS (eV 4) iD))) (eV 6))
  (BI (GS bG 3 (aS (eV 6) iD)))) Ad))))
  (zb (eV 2)))))
def eI:WS :=
  (zb (BC bL (aS (A7 (aS (zc cR (aS (eV 0) (aS (eV 1) iD))) iD)) iD)))
def iW:WS :=
  (zb (Bu (aS (yU lE (eV 0) (eC (.int 0))) (aS (BC bL (aS (DC (iS (yU lE (eV 0) (eC (.int 1)))) (.nm 0) (yZ (yU AY (yU lE (eV 0) (eC (.int 0))) (Ai 1))) (eV 0) [none,some 1]) iD)) iD))))
def jY:WS :=
  (rW (zv 4 (zc cR (aS (zc bV (aS (zc gn (aS (eV 0) (aS (eV 1) iD))) iD)) (aS (eV 3) iD))))
  (rW (Bz (yZ (yU AU (eV 2) (Ai 4))) (zb (eC .oR)) Ad)
  (rW (AR 5 (Bi iD))
  (rW (zv 6 (eV 2))
  (rW (Cn (yZ (yU EF (eV 6) (Ai 3))) (rW (Gy (yU lE (eV 4) (Ai 6)) (gT (zX (gN 7) (zX (gN 6) B7))))
  (BI (GS bG 5 (aS (eV 7) iD)))))
  (zb (BC bL (a1 (Ai 5)))))))))
def eN(T:Addr×Addr):WS :=
  (rW (zv 3 (zw (d0 T) 7 (aS (eV 0) iD)))
  (rW (zv 4 (zc la (aS (eV 0) (aS (eV 3) (aS (eV 1) (aS (eV 2) iD))))))
  (rW (Bz (yZ (yU Fw (eV 4) (eC .oR))) (zb (eC .oR)) Ad)
  (rW (zv 5 (zw (bW T) 7 (aS (eV 0) (aS (eV 4) iD))))
  (rW (zv 6 (DC (iS (eV 3)) (.nm 0) (A2 (zc cQ (aS (eV 1) (aS (eV 0) (aS (eV 2) iD))))) (eV 0) [none,some 0,some 5]))
  (zb (Bu (aS (eV 4) (aS (zc e9 (aS (zc bV (aS (zc gn (aS (eV 0) (aS (eV 6) iD))) iD)) (aS (eV 1) iD))) iD)))))))))
def dH:WS :=
  (rW (Bz (Gw (Bn (A2 (GU "tuple" (Ai 1)))) (Bn (A2 (BC A0 (aS (DC (iS (eV 1)) (.nm 0) CY (zc cO (aS (eV 0) iD)) [none]) iD))))) (zb (eC (.bl false))) Ad)
  (rW (zv 2 (zc ce (aS (eV 0) iD)))
  (zb (BC A0 (aS (DC (iS (eV 1)) (.nm 0) CY (yU AY (eV 0) (Ai 1)) [none,some 2]) iD)))))
def gz:WS :=
  (rW (zv 4 (zc bK (aS (eV 0) iD)))
  (rW (AR 5 (Bi (aS (eV 2) iD)))
  (rW (Dd (iS (eV 1)) (gN 6) (rW (zv 7 (Iq (yU lE (eV 4) (Ai 6)) (Ba (eC (.int 1))) (Ba (eC (.int 3)))))
  (rW (Bz (yZ (yU AU (Cy lE 5 (JM DS (eC (.int 1)))) (Ai 7))) (zb (eC (.bl false))) Ad)
  (rW (zv 8 (Mk (yZ (yU Ag (Cy lE 5 (JM DS (eC (.int 1)))) (yU lE (eV 7) (eC (.int 0))))) (yU lE (eV 7) (eC (.int 1))) (yU lE (eV 7) (eC (.int 0)))))
  (rW (Bz (yZ (yU AY (eV 8) (Ai 5))) (zb (eC (.bl false))) Ad)
  (BI (GS bG 5 (aS (eV 8) iD))))))))
  (zb (yU Ag (Cy lE 5 (JM DS (eC (.int 1)))) (Ai 3))))))
def cA:WS :=
  (rW (Bz (Gw (Bn (A2 (zc cf (aS (eV 1) iD)))) (Bn (A2 (BC A0 (aS (DC (iS (eV 1)) (.nm 0) CY (yU AY (eV 0) (yU lE (eV 1) (eC (.int 0)))) [none,some 0]) iD))))) (zb (eC (.bl false))) Ad)
  (zb (HY (yU AY (eV 2) (Ai 1)) (yU AU (eV 3) (Ai 1)))))
def bZ(T:Addr×Addr):WS :=
  (rW (Bz (Gw (Bn (A2 (GU "tuple" (Ai 3)))) (yZ (yU EF (BC Dk (a1 (Ai 3))) (eC (.int 2))))) (zb (eC (.bl false))) Ad)
  (rW (Gy (eV 3) (gT (zX (gN 4) (zX (gN 5) B7))))
  (rW (Bz (Gw (Bn (A2 (zc ed (aS (eV 0) (aS (eV 4) iD))))) (Gw (Bn (A2 (zc g5 (aS (eV 0) (aS (eV 4) (aS (eV 1) (aS (eV 2) iD))))))) (Bn (A2 (zc cM (aS (eV 0) (aS (eV 5) (aS (eV 1) (aS (eV 2) iD))))))))) (zb (eC (.bl false))) Ad)
  (rW (zv 6 (zw (bW T) 7 (aS (eV 0) (aS (eV 4) iD))))
  (zb (Lw (BC Gm (aS (DC (iS (zc gi (aS (eV 0) (aS (eV 5) iD)))) (.nm 0) CY (zc cQ (aS (eV 1) (aS (eV 0) (aS (eV 2) iD)))) [none,some 0,some 6]) iD))))))))
def gA:WS :=
  (rW (zv 2 (eC (.str "abcdefghijklmnopqrstuvwxyz")))
  (rW (zv 3 (yU lE (eV 2) (ze aH 0 (aS (eC (.int 26)) iD))))
  (rW (zv 4 (ze aH 0 (aS (eC (.int 7)) iD)))
  (rW (zv 5 (ze aH 0 (aS (yU zt (eV 4) (eC (.int 1))) iD)))
  (rW (zv 6 (ze aH 0 (aS (eC (.int 26)) iD)))
  (rW (AR 7 (Bi iD))
  (rW (Dd (LS (aS (eV 1) iD)) (gN 8) (rW (zv 9 (yU zt (yU lE (eV 2) (yU CL (yU zt (eV 6) (yU AV (eC (.int 5)) (Ai 8))) (eC (.int 26)))) (yU lE (eV 2) (yU CL (yU zt (eV 6) (yU Gj (eV 8) (eC (.int 26)))) (eC (.int 26))))))
  (Bz (Ez (yZ (yU GC (eV 1) (eC (.int 8)))) (yZ (yU Ag (eV 4) (eC (.int 6))))) (BI (GS bG 7 (aS (yU AV (eV 3) (yU zt (eV 8) (eC (.int 1)))) iD))) (BI (GS bG 7 (aS (yU zt (yU zt (yU AV (eV 3) (Ai 5)) (Ai 9)) (yU AV (eV 3) (yU Bo (eV 4) (Ai 5)))) iD))))))
  (zb (eV 7)))))))))
def iY:WS :=
  (rW (Bz (yZ (yU Ag (eV 1) (eC (.int 0)))) (zb (eC (.int 5))) Ad)
  (rW (Bz (yZ (yU Ag (eV 1) (eC (.int 1)))) (zb (yU Bo (ze aH 0 (aS (eC (.int 3)) iD)) (eC (.int 1)))) Ad)
  (rW (Bz (yZ (yU Ag (eV 1) (eC (.int 2)))) (zb (yU Bo (ze aH 0 (aS (eC (.int 200)) iD)) (eC (.int 100)))) Ad)
  (zb (yU lE (Bi (aS (yU Bo (yU Di (eC (.int 10)) (eC (.int 30))) (eC (.int 1))) (aS (yU Bo (eC (.int 1)) (yU Di (eC (.int 10)) (eC (.int 30)))) (aS (eC (.int 0)) (aS (ze aH 0 (aS (yU Di (eC (.int 10)) (eC (.int 9))) iD)) iD))))) (ze aH 0 (aS (eC (.int 4)) iD)))))))
def iX:WS :=
  (rW (Bz (yZ (yU Ag (eV 1) (eC (.int 2)))) (zb (Bu (aS (yU CL (eV 3) (Ai 2)) (aS (yU CL (yU zt (eV 3) (eC (.int 1))) (Ai 2)) iD)))) Ad)
  (rW (Bz (yZ (yU Ag (eV 1) (eC (.int 3)))) (zb (Bu (aS (eC (.int 0)) (aS (yU zt (eC (.int 1)) (ze aH 0 (aS (yU Bo (eV 2) (eC (.int 1))) iD))) iD)))) Ad)
  (rW (Bz (Ez (yZ (yU Ag (eV 1) (eC (.int 4)))) (yZ (yU Jc (eV 2) (eC (.int 3))))) (rW (zv 4 (yU Gj (eV 2) (eC (.int 2))))
  (rW (zv 5 (ze aH 0 (aS (eC (.int 2)) iD)))
  (rW (zv 6 (ze aH 0 (aS (eV 4) iD)))
  (zb (Bu (aS (yU zt (yU AV (eV 5) (Ai 4)) (Ai 6)) (aS (yU zt (yU AV (eV 5) (Ai 4)) (yU CL (yU zt (yU zt (eV 6) (eC (.int 1))) (ze aH 0 (aS (yU Bo (eV 4) (eC (.int 1))) iD))) (Ai 4))) iD))))))) Ad)
  (rW (zv 6 (ze aH 0 (aS (eV 2) iD)))
  (zb (Bu (aS (eV 6) (aS (yU CL (yU zt (yU zt (eV 6) (eC (.int 1))) (ze aH 0 (aS (yU Bo (eV 2) (eC (.int 1))) iD))) (Ai 2)) iD))))))))
def jZ:WS :=
  (rW (zv 3 (ze aH 0 (aS (yU zt (eV 1) (eC (.int 1))) iD)))
  (rW (zv 4 (ze eG 0 (aS (yU zt (eV 3) (eC (.int 2))) iD)))
  (rW (zv 5 (Iq (eV 4) CK (Ba (BC Gb (aS (eC (.int 2)) (aS (yU zt (eV 3) (ze aH 0 (aS (eC (.int 3)) iD))) iD))))))
  (rW (zv 6 (ze aH 0 (aS (yU zt (eV 2) (eC (.int 1))) iD)))
  (rW (zv 7 (ze eG 0 (aS (eV 6) iD)))
  (rW (Ks 8 9 (aS (ze aH 0 (aS (eC (.int 5)) iD)) (aS (ze aH 0 (aS (eC (.int 4)) iD)) iD)))
  (rW (AR 10 (Bi iD))
  (rW (Dd (LS (aS (eV 6) iD)) (gN 11) (rW (Gy (ze jq 0 (aS (eV 8) (aS (BC Dk (a1 (Ai 5))) (aS (eV 11) iD)))) (gT (zX (gN 12) (zX (gN 13) B7))))
  (rW (zv 14 (A7 (aS (Bi (aS (yU lE (eV 5) (Ai 12)) (aS (yU lE (eV 5) (Ai 13)) iD))) iD)))
  (BI (GS bG 10 (aS (Bu (aS (yU lE (eV 7) (Ai 11)) (aS (yU lE (eV 14) (eC (.int 0))) (aS (yU lE (eV 14) (eC (.int 1))) (aS (ze jr 0 (aS (eV 9) iD)) iD))))) iD))))))
  (zb (Bu (aS (BC bL (aS (A7 (aS (Iq (eV 4) CK (Ba (Ai 3))) iD)) iD)) (aS (BC bL (aS (FI (a1 (Ai 10))) iD)) iD))))))))))))
def j0:WS :=
  (zb (Bu (aS (yU lE (eV 0) (eC (.int 3))) (aS (yU lE (eV 0) (eC (.int 0))) iD))))
def fQ:WS :=
  (Hr (DC (iS (yU lE (eV 0) (eC (.int 1)))) (.nm 0) (Ez (yZ (yU AY (yU lE (eV 0) (eC (.int 1))) (yU lE (eV 1) (eC (.int 0))))) (yZ (yU AY (yU lE (eV 0) (eC (.int 2))) (yU lE (eV 1) (eC (.int 0)))))) (eV 0) [none,some 0]))
def fO(D:Fd):WS :=
  (rW (Bz (yZ (yU Ag (eV 1) (Ai 2))) (zb (Bi (aS (Bi iD) iD))) Ad)
  (rW (AR 4 (Bi iD))
  (rW (Dd (iS (eV 0)) (gN 5) (Bz (yZ (yU AY (eV 1) (Iq (eV 5) (Ba (eC (.int 1))) (Ba (eC (.int 3)))))) (rW (zv 6 (Mk (yZ (yU Ag (eV 1) (yU lE (eV 5) (eC (.int 1))))) (yU lE (eV 5) (eC (.int 2))) (yU lE (eV 5) (eC (.int 1)))))
  (Bz (yZ (yU AU (eV 6) (Ai 3))) (BI (GS kJ 4 (aS (DC (iS (zc D (aS (eV 0) (aS (eV 6) (aS (eV 2) (aS (yU zt (eV 3) (Bi (aS (eV 6) iD))) iD)))))) (.nm 0) CY (yU zt (Bi (aS (eV 1) iD)) (Ai 0)) [none,some 5]) iD))) Ad)) Ad))
  (zb (eV 4)))))
def gB(T:Addr×Addr):WS :=
  (rW (zv 3 (zw (cP T) 7 (aS (eV 0) (aS (eV 1) (aS (eV 2) iD)))))
  (rW (zv 4 (zc (gp 7) (aS (zc jp (aS (eV 0) iD)) (aS (eV 1) (aS (eV 2) (aS (Bi (aS (eV 1) iD)) iD))))))
  (rW (Bz (Gw (yZ (yU Fw (eV 3) (eC .oR))) (yZ (yU Ag (eV 4) (Bi iD)))) (zb (HY (yU Fw (eV 3) (eC .oR)) (yU Ag (eV 4) (Bi iD)))) Ad)
  (rW (Bz (yZ (yU AU (BC Ft (aS (yU lE (eV 3) (eC (.int 0))) iD)) (DC (iS (eV 4)) (.nm 0) CY (DC (iS (eV 0)) (.nm 0) CY (yU lE (eV 0) (eC (.int 0))) [none]) [none]))) (zb (eC (.bl false))) Ad)
  (rW (zv 5 (BC (CD (λx b=>gtB b x)) (aS (DC (iS (eV 4)) (.nm 0) CY (BC (CD (gtB)) (aS (DC (iS (eV 0)) (.nm 0) CY (zc iq (aS (eV 0) iD)) [none]) iD)) [none]) iD)))
  (rW (Bz (yZ (yU neT (BC (CD (gtB)) (aS (DC (iS (yU lE (eV 0) (eC (.int 1)))) (.nm 0) (yZ (yU AY (yU lE (eV 0) (eC (.int 0))) (yU lE (eV 1) (eC (.int 0))))) (zc iq (aS (eV 0) iD)) [none,some 3]) iD)) (Ai 5))) (zb (eC (.bl false))) Ad)
  (rW (zv 6 (zw (cP T) 7 (aS (eV 0) (aS (eV 2) (aS (eV 1) iD)))))
  (rW (Bz (Gw (yZ (yU neT (yU lE (eV 6) (eC (.int 0))) (JM Hw (yU lE (eV 3) (eC (.int 0)))))) (yZ (yU HF (zw (bD T) 7 (aS (eV 0) (aS (eV 2) (aS (eV 1) (aS (eV 6) iD))))) (eC (.bl true))))) (zb (eC (.bl false))) Ad)
  (zb (yU Fw (zw (bD T) 7 (aS (eV 0) (aS (eV 1) (aS (eV 2) (aS (eV 3) iD))))) (eC (.bl true))))))))))))
def g9(T:Addr×Addr):WS :=
  (rW (Q.AL 1 0)
  (rW (Dd (LS (aS (yU zt (eC (.int 2)) (BC Dk (aS (Iq (eV 0) CK (Ba (eC (.int 5)))) iD))) iD)) (gN 2) (rW (zv 3 (ze lb 1 (aS (eC (.int 7)) (aS (eC (.int 12)) iD))))
  (Dd (Qp (aS (yU lE (eV 3) (eC (.int 0))) iD)) (gT (zX (gN 4) (zX (gN 5) B7))) (Bz (Bn (A2 (BC A0 (aS (DC (iS (Iq (yU lE (eV 3) (eC (.int 0))) (Ba (yU zt (eV 4) (eC (.int 1)))) CK)) (.nm 0) CY (zw (g6 T) 3 (aS (eV 1) (aS (eV 2) (aS (eV 0) iD)))) [none,some 3,some 5,some 6]) iD)))) (zb (eC (.bl false))) Ad))))
  (zb (eC (.bl true)))))
theorem cu(i j:Int):Ag (.int i) (.int j)=some (.bl (decide (i=j))):=by
 show some (PV.bl (i==j))=_
 rfl
variable{i j:Int}
theorem fu(h:0<j):CL (.int i) (.int j)=some (.int (i % j)):=if_pos (decide_eq_true h)
theorem sD(h:0<j)(h2:j<1073741824):Gj (.int i) (.int j)=some (.int (i / j)):=if_pos (by simp[h,h2])
theorem mV(h : -(2 ^ 64)<j)(h2:j<2 ^ 64):AV (.int i) (.int j)=some (.int (i*j)):=if_pos (by unfold Ly;simp only[acG,aaC,decide_eq_true_eq];exact .inr ⟨h,h2⟩)
theorem qR(h:(decide (0<=j) && decide (j<=1000000) && decide (i.natAbs<2 ^ 64))=true):Di (.int i) (.int j)=some (.int (i ^ j.toNat)):=if_pos h
theorem cS:Bo (.int i) (.int j)=some (.int (i - j)):=rfl
theorem be:zt (.int i) (.int j)=some (.int (i+j)):=rfl
variable{k:Nat}
theorem n4(h:i=k)(hk:k<26):lE (.str LA) (.int i)=some (.str (ch k)):=by
 subst h
 show (if LA.length<=100000 then (EY LA.cps.toList (k:Int)).map (λc=>PV.str ⟨#[c]⟩)else none)=_
 rw[if_pos (by decide +kernel),au (yz k hk)];rfl
theorem kj(b m:Nat):(C0 (ch b) m).length=m:=by
 have:=congrArg acr (jw b m)
 rw[acf]at this
 show (C0 (ch b) m).cps.size=m
 rw[<- abI];exact this
theorem we(x y:Str):(x++y).length=x.length+y.length:=by show (x.cps++y.cps).size=_;exact Array.size_append
theorem add_str(h:x.length+y.length<=100000):zt (.str x) (.str y)=some (.str (x++y)):=if_pos h
variable{b m:Nat}
theorem mW(h:i=m)(hm:m<=1000):AV (.str (ch b)) (.int i)=some (.str (C0 (ch b) m)):=by
 subst h
 refine(if_pos ⟨by omega,by omega,?_⟩).trans ?_
 .rw[show ((m:Int)).toNat=m by omega]
 .show 1<=1000;decide
variable{n:Nat}
theorem qO{j:Nat}{x:PV}(h:(De 0 n)[j]?=some x):j<n/\x=.int j:=by
 unfold De at h
 rw[aaj]at h
 rcases aa7 j n with z|z
 .rw[acs z]at h
  refine⟨z,?_⟩
  have:x=.int (0+(j:Int)):=by simpa using h.symm
  rw[this];congr 1;omega
 .rw[aap (by simpa using z)]at h;cases h
theorem oP(n:Nat):(De 0 n).length=n:=by unfold De;rw[aae,adF]
theorem draw{m:Int}{P:PV->PV->Prop}(h0:0<m)(h1:m<1073741824)(k:∀r:Nat,(r:Int)<m->P (.int r) .oR):aH .oR [.int m] P :=
 ⟨rfl,m,rfl,h0,h1,λr r0 r1=>by
  obtain⟨i,rfl⟩:∃i:Nat,r=(i:Int):=⟨r.toNat,by omega⟩
  exact k i r1⟩
theorem rg(c:PV)(xs:List PV)(P:PV->PV->Prop)(h:eG c xs P):Q.Gz 10 gA c xs P:=by
 obtain⟨rfl,n,rfl,hn,h⟩:=h
 unfold gA
 refine ao λN hN=>?_
 try lia
 subst hN
 refine ao λN hN=>?_
 lia
 refine draw (by decide) (by decide) λb hb=>?_
 refine ab (n4 rfl (by omega)) ?_
 try lia
 subst hN
 refine ao λN hN=>?_
 lia
 refine draw (by decide) (by decide) λs hs=>?_
 try lia
 subst hN
 refine ao λN hN=>?_
 lia
 refine ab be ?_
 refine draw (by omega) (by omega) λt ht=>?_
 try lia
 subst hN
 refine ao λN hN=>?_
 lia
 refine draw (by decide) (by decide) λf hf=>?_
 try lia
 subst hN
 refine ao λN hN=>?_
 try lia
 subst hN
 refine ao λN hN=>bT λG B hG hB=>?_
 lia
 refine⟨by omega,by omega,?_⟩
 subst hG
 refine bg (λi e=>∃v8 v9,e=[some ⟨2,.oR⟩,some ⟨0,.int n⟩,some ⟨0,.str LA⟩,some ⟨0,.str (ch b)⟩,some ⟨0,.int s⟩,some ⟨0,.int t⟩,some ⟨0,.int f⟩,some ⟨1,.lst ((G3 b s t f n i).map .str)⟩,v8,v9]) (i:=0) ⟨none,none,rfl⟩ ?_ ?_
 case refine_2=>
  rintro e ⟨v8,v9,rfl⟩
  show N _
  subst hN
  rw[oP,show ((n:Int)).toNat=n by omega,abx]
  lia
  exact h _ (by unfold G3;rw[aae,adF]) (qB hn) (sU (by omega) (by omega) (by omega))
 rintro j x e M hj ⟨v8,v9,rfl⟩ k
 obtain⟨OI,rfl⟩:=qO hj
 rw[abx]at k ⊢
 subst hB
 have Lc:j<n:=by omega
 refine ao λN' Eb=>?_
 lia
 refine ab (mV (by omega) (by omega)) ?_
 refine ab be ?_
 refine ab (fu (by decide)) ?_
 refine ab (n4 (k:=(f+5*j) % 26) (by omega) (by omega)) ?_
 refine ab (sD (by decide) (by decide)) ?_
 refine ab be ?_
 refine ab (fu (by decide)) ?_
 refine ab (n4 (k:=(f+j / 26) % 26) (by omega) (by omega)) ?_
 refine ab (add_str (by show 1+1<=100000;decide)) ?_
 subst Eb
 have push:∀y:Str,y=wd b s t f n j->M [some ⟨2,.oR⟩,some ⟨0,.int n⟩,some ⟨0,.str LA⟩,some ⟨0,.str (ch b)⟩,some ⟨0,.int s⟩,some ⟨0,.int t⟩,some ⟨0,.int f⟩,some ⟨1,.lst ((G3 b s t f n j).map .str++[.str y])⟩,some ⟨0,.int j⟩,some ⟨0,.str (ch ((f+5*j) % 26)++ch ((f+j / 26) % 26))⟩]:=λy hy=>by
  refine k _ ⟨some ⟨0,.int j⟩,some ⟨0,.str (ch ((f+5*j) % 26)++ch ((f+j / 26) % 26))⟩,?_⟩
  rw[hy,sV,aa2];rfl
 have len:((G3 b s t f n j).map PV.str).length<=100000:=by rw[aae];unfold G3;rw[aae,adF];omega
 have two:(ch ((f+5*j) % 26)++ch ((f+j / 26) % 26)).cps.toList=[97+(f+5*j) % 26,97+(f+j / 26) % 26]:=by rw[gh];rfl
 lia
 by_cases c:n<8/\s=6
 .have c1:((n:Int)<8):=by omega
  have c2:((s:Int)=6):=by omega
  rw[decide_eq_true c1]
  lia
  refine ab (cu _ _) ?_
  rw[decide_eq_true c2]
  lia
  refine ab be ?_
  refine ab (mW (m:=j+1) (by omega) (by omega)) ?_
  refine ab (Fs len) ?_
  refine push _ (j4 ?_)
  rw[jw]
  unfold wd wl
  rw[if_pos c]
 .have word:C0 (ch b) t++(ch ((f+5*j) % 26)++ch ((f+j / 26) % 26))++C0 (ch b) (s - t)=wd b s t f n j:=by
   refine j4 ?_
   rw[gh,gh,two,jw,jw]
   unfold wd wl
   rw[if_neg c]
  have l2:(ch ((f+5*j) % 26)++ch ((f+j / 26) % 26)).length=2:=rfl
  have SE:opt (AV (.str (ch b)) (.int t)) λz=>opt (zt z (.str (ch ((f+5*j) % 26)++ch ((f+j / 26) % 26)))) λz=>opt (Bo (.int s) (.int t)) λz1=>opt (AV (.str (ch b)) z1) λz1=>opt (zt z z1) λz=>opt (bG ((G3 b s t f n j).map .str) [z]) λr=>M [some ⟨2,.oR⟩,some ⟨0,.int n⟩,some ⟨0,.str LA⟩,some ⟨0,.str (ch b)⟩,some ⟨0,.int s⟩,some ⟨0,.int t⟩,some ⟨0,.int f⟩,some ⟨1,.lst r.2⟩,some ⟨0,.int j⟩,some ⟨0,.str (ch ((f+5*j) % 26)++ch ((f+j / 26) % 26))⟩]:=by
   refine ab (mW rfl (by omega)) (ab (add_str (by rw[kj,l2];omega)) (ab cS (ab (mW (m:=s - t) (by omega) (by omega)) (ab (add_str ?_) (ab (Fs len) (push _ word))))))
   rw[we,kj,kj,l2];omega
  by_cases c1:(n:Int)<8
  .have c2:¬ ((s:Int)=6):=by omega
   rw[decide_eq_true c1]
   lia
   refine ab (cu _ _) ?_
   rw[decide_eq_false c2]
   lia
   exact SE
  .rw[decide_eq_false c1]
   lia
   exact SE
theorem tU(c:PV)(xs:List PV)(P:PV->PV->Prop)(h:jr c xs P):Q.Gz 2 iY c xs P:=by
 obtain⟨rfl,q,rfl,h⟩:=h
 have VG:(1000000000:Int)<10 ^ 30:=by decide
 unfold iY
 refine ao λN hN=>?_
 lia
 refine ab (cu _ _) ?_
 lia
 split
 .exact h _ (by omega) (by omega)
 subst hN
 refine ao λN hN=>?_
 lia
 refine ab (cu _ _) ?_
 lia
 split
 .refine draw (by decide) (by decide) λr hr=>?_
  exact ab cS (h _ (by omega) (by omega))
 subst hN
 refine ao λN hN=>?_
 lia
 refine ab (cu _ _) ?_
 lia
 split
 .refine draw (by decide) (by decide) λr hr=>?_
  exact ab cS (h _ (by omega) (by omega))
 subst hN
 lia
 have c30:(10:Int) ^ (30:Int).toNat=10 ^ 30:=by decide
 have c9:(10:Int) ^ (9:Int).toNat=1000000000:=by decide
 have pw:Di (.int 10) (.int 30)=some (.int (10 ^ 30)):=(qR (by decide)).trans (by rw[c30])
 have p9:Di (.int 10) (.int 9)=some (.int 1000000000):=(qR (by decide)).trans (by rw[c9])
 refine ab pw (ab cS (ab pw (ab cS (ab p9 ?_))))
 refine draw (by decide) (by decide) λr hr=>?_
 try lia
 refine draw (by decide) (by decide) λx hx=>?_
 match x,hx with
 |0,_=>exact ab (au (j:=0) rfl) (h _ (by omega) (by omega))
 |1,_=>exact ab (au (j:=1) rfl) (h _ (by omega) (by omega))
 |2,_=>exact ab (au (j:=2) rfl) (h _ (by omega) (by omega))
 |3,_=>exact ab (au (j:=3) rfl) (h _ (by omega) (by omega))
 |n+4,h=>omega
theorem turn(x d t:Int)(h0:0<t)(h1:0<=x)(h2:x<t)(h3:0<=d)(h4:d<t - 1):0<=(x+1+d) % t/\(x+1+d) % t<t/\x≠(x+1+d) % t:=by
 refine⟨acn _ (by omega),abZ _ h0,λe=>?_⟩
 have q:=Int.emod_add_mul_ediv (x+1+d) t
 rw[<- e]at q
 have:t*((x+1+d) / t)=1+d:=by omega
 generalize (x+1+d) / t=y at this
 rcases(show y<=0\/1<=y by omega)with z|z
 .have:t*y<=0:=Int.mul_nonpos_of_nonneg_of_nonpos (by omega) (by omega)
  omega
 .have:t*1<=t*y:=ae6 z (by omega)
  omega
theorem CS{m:Int}{P:PV->PV->Prop}(h0:0<m)(h1:m<1073741824)(k:∀r:Int,0<=r->r<m->P (.int r) .oR):aH .oR [.int m] P:=⟨rfl,m,rfl,h0,h1,k⟩
theorem tT(c:PV)(xs:List PV)(P:PV->PV->Prop)(h:jq c xs P):Q.Gz 7 iX c xs P:=by
 obtain⟨rfl,f,m,kk,rfl,m2,m9,h⟩:=h
 have m0:(0:Int)<m:=by omega
 unfold iX
 refine ao λN hN=>?_
 lia
 refine ab (cu _ _) ?_
 lia
 split
 .refine ab (fu m0) (ab be (ab (fu m0) ?_))
  refine h _ _ (acn _ (by omega)) (abZ _ m0) (acn _ (by omega)) (abZ _ m0) λe=>?_
  refine(turn (kk % m) 0 m m0 (acn _ (by omega)) (abZ _ m0) (by omega) (by omega)).2.2 (e.trans ?_)
  rw[Int.add_zero,Int.emod_add_emod]
 subst hN
 refine ao λN hN=>?_
 lia
 refine ab (cu _ _) ?_
 lia
 split
 .refine ab cS ?_
  refine CS (by omega) (by omega) λr p0 q0=>?_
  exact ab be (h _ _ (by omega) m0 (by omega) (by omega) (by omega))
 subst hN
 refine ao λN hN=>aX λA B hA hB=>?_
 have last:B {Jg P with nx:=N} [some ⟨2,.oR⟩,some ⟨0,.int f⟩,some ⟨0,.int m⟩,some ⟨0,.int kk⟩,none,none,none]:=by
  subst hB
  show N _
  subst hN
  refine ao λN hN=>?_
  lia
  refine CS (by omega) (by omega) λr p0 q0=>?_
  try lia
  subst hN
  lia
  refine ab be (ab cS ?_)
  refine CS (by omega) (by omega) λd p1 q1=>?_
  try lia
  refine ab be (ab (fu m0) ?_)
  have t:=turn r d m m0 p0 q0 p1 q1
  exact h _ _ p0 q0 t.1 t.2.1 t.2.2
 lia
 refine ab (cu _ _) ?_
 lia
 by_cases c1:f=4
 case neg=>
  rw[decide_eq_false c1]
  exact last
 rw[decide_eq_true c1]
 lia
 by_cases c2:3<m
 case neg=>
  rw[decide_eq_false c2]
  exact last
 rw[decide_eq_true c2]
 lia
 subst hA
 refine ao λN hN=>?_
 lia
 refine ab (sD (by decide) (by decide)) ?_
 subst hN
 refine ao λN hN=>?_
 lia
 refine CS (by omega) (by omega) λr p0 q0=>?_
 try lia
 subst hN
 refine ao λN hN=>?_
 lia
 refine CS (by omega) (by omega) λr2 p2 q2=>?_
 try lia
 subst hN
 have bd:∀y:Int,0<=y->y<m / 2->0<=r*(m / 2)+y/\r*(m / 2)+y<m:=λy y0 y1=>by
  have:r=0\/r=1:=by omega
  rcases this with rfl|rfl<;>omega
 lia
 refine ab (mV (by omega) (by omega)) (ab be (ab (mV (by omega) (by omega)) (ab be (ab cS ?_))))
 refine CS (by omega) (by omega) λr3 p3 q3=>?_
 try lia
 refine ab be (ab (fu (by omega)) (ab be ?_))
 have t:=turn r2 r3 (m / 2) (by omega) p2 q2 p3 q3
 exact h _ _ (bd _ p2 q2).1 (bd _ p2 q2).2 (bd _ t.1 t.2.1).1 (bd _ t.1 t.2.1).2 λe=>t.2.2 (by omega)
theorem xK(h:(if j > i then j else i)=k):Gb [.int i,.int j]=some (.int k):=by rw[<- h];rfl
variable{l:List Str}
theorem mz{i:Nat}(h:i<l.length):lE (.lst (l.map .str)) (.int i)=some (.str l[i]):=au (by rw[aaj,aab h];rfl)
theorem qJ:∀ss:List Str,(ss.map PV.str).mapM A8=some ss
 |[]=>rfl
 |s::ss=>by rw[aar,abo,qJ ss];rfl
theorem qH:∀ts:List iF,(ts.map gE).mapM Jd=some (ts.map iF.nm)
 |[]=>rfl
 |t::ts=>by rw[aar,abo,qH ts];rfl
variable{β:Type}
theorem mJ{f:α->β}{l:List α}{a:α}{b:β}{ix:List Nat}(h:∀i∈ix,i<l.length):(ix.map λi=>(l.map f).getD i b)=(ix.map λi=>l.getD i a).map f:=by
 rw[aaw]
 refine aa9 λi hi=>?_
 show _=f (l.getD i a)
 rw[aad,aad,aaj,aab (h i hi)];rfl
theorem vA(c:PV)(xs:List PV)(P:PV->PV->Prop)(h:lb c xs P):Q.Gz 15 jZ c xs P:=by
 obtain⟨rfl,M,T,rfl,M0,M1,T0,T1,h⟩:=h
 unfold jZ
 refine ao λN hN=>?_
 lia
 refine ab be ?_
 refine draw (by omega) (by omega) λmm Vv=>?_
 subst hN
 refine ao λN hN=>?_
 lia
 refine ab be ?_
 refine⟨rfl,mm+2,rfl,by omega,λws wl wn ww=>?_⟩
 subst hN
 refine ao λN hN=>?_
 lia
 refine draw (by decide) (by decide) λr hr=>?_
 refine ab be ?_
 obtain⟨pn,TV,L8,Vt⟩:∃pn:Nat,(if (mm:Int)+r > 2 then (mm:Int)+r else 2)=(pn:Int)/\2<=pn/\pn<=mm+2:=by
  refine⟨(if (mm:Int)+r > 2 then (mm:Int)+r else 2).toNat,?_,?_,?_⟩<;>split<;>omega
 refine ab (xK TV) ?_
 try lia
 rw[io,<- List.map_take]
 subst hN
 have pl:(ws.take pn).length=pn:=by rw[abb,wl];omega
 have RV:(ws.take pn).Nodup:=wn.sublist (adE _ _)
 have pw:∀x∈ws.take pn,zY x:=λx hx=>ww x (adb hx)
 generalize ws.take pn=EC at pl RV pw ⊢
 refine ao λN hN=>?_
 lia
 refine ab be ?_
 refine draw (by omega) (by omega) λcc QV=>?_
 subst hN
 refine ao λN hN=>?_
 lia
 refine⟨rfl,cc,rfl,by omega,λns nl nn nw=>?_⟩
 subst hN
 refine ao λN hN=>?_
 simp only[Ks]
 lia
 refine CS (by decide) (by decide) λSy p0 q0=>?_
 refine CS (by decide) (by decide) λRN p1 q1=>?_
 subst hN
 refine ao λN hN=>?_
 lia
 subst hN
 refine ao λN hN=>bT λG B hG hB=>?_
 lia
 refine⟨by omega,by omega,?_⟩
 subst hG
 refine bg (λi e=>∃ts v11 Pk Pj Ph,e=[some ⟨2,.oR⟩,some ⟨0,.int M⟩,some ⟨0,.int T⟩,some ⟨0,.int mm⟩,some ⟨0,.lst (ws.map .str)⟩,some ⟨0,.lst (EC.map .str)⟩,some ⟨0,.int cc⟩,some ⟨0,.lst (ns.map .str)⟩,some ⟨0,.int Sy⟩,some ⟨0,.int RN⟩,some ⟨1,.lst (ts.map gE)⟩,v11,Pk,Pj,Ph]/\ts.map iF.nm=ns.take i/\ts.length=i/\∀t∈ts,JY t) (i:=0) ⟨[],none,none,none,none,rfl,rfl,rfl,by simp⟩ ?_ ?_
 case refine_2=>
  rintro e ⟨ts,v11,Pk,Pj,Ph,rfl,g1,g2,g3⟩
  rw[oP,show ((cc:Int)).toNat=cc by omega,abx]at g1 g2
  show N _
  subst hN
  have QH:ts.map iF.nm=ns:=by rw[g1,<- nl,abG]
  simp only[zb,Bu,BC,aS,A7,FI]
  lia
  rw[io,<- List.map_take]
  refine⟨_,qJ _,by rw[abb];omega,λss up=>ab rfl ?_⟩
  try lia
  refine⟨_,qH ts,by rw[QH];exact nn,by rw[aae];omega,λix il OD iw=>ab rfl ?_⟩
  rw[aae]at OD il
  rw[mJ (a:=t0) OD]
  refine h ss _ ⟨ki up.2 (up.1.nodup_iff.mpr (wn.sublist (adE _ _))),λx hx=>ww x (adb (up.1.mem_iff.mp hx)),?_,λt ht=>?_⟩ ?_ ?_
  .rw[mJ (a:=t0) OD]at iw;exact iw
  .obtain⟨j,hj,rfl⟩:=List.mem_map.mp ht
   have:=OD j hj
   rw[aad,aab this]
   exact g3 _ (abH _)
  .rw[up.1.length_eq,abb];omega
  .rw[aae,il,g2];omega
 rintro j x e M' hj ⟨ts,v11,Pk,Pj,Ph,rfl,g1,g2,g3⟩ k
 obtain⟨OI,rfl⟩:=qO hj
 rw[abx]at g1 g2 k
 subst hB
 have Lc:j<ns.length:=by omega
 refine ao λN hN=>?_
 lia
 refine⟨rfl,Sy,EC.length,j,by rw[aae],by omega,by omega,λx y x0 x1 y0 y1 xy=>?_⟩
 obtain⟨x,rfl⟩:∃z:Nat,x=(z:Int):=⟨x.toNat,by omega⟩
 obtain⟨y,rfl⟩:∃z:Nat,y=(z:Int):=⟨y.toNat,by omega⟩
 have hx:x<EC.length:=by omega
 have hy:y<EC.length:=by omega
 lia
 subst hN
 refine ao λN hN=>?_
 simp only[zv,A7]
 lia
 refine ab (mz hx) (ab (mz hy) ?_)
 refine⟨[EC[x],EC[y]],rfl,(by show 2<64;decide),λss up=>?_⟩
 have TF:EC[x]≠EC[y]:=λe=>xy (by
  have:=(abP RV).mp e
  omega)
 obtain⟨u,v,rfl,uv,hu,hv⟩:=wY up.1 up.2 TF
 have wu:zY u:=pw u (by rcases hu with e|e<;>rw[e]<;>exact abH _)
 have wv:zY v:=pw v (by rcases hv with e|e<;>rw[e]<;>exact abH _)
 subst hN
 lia
 refine ab (mz Lc) (ab (z:=.str u) (au (j:=0) rfl) (ab (z:=.str v) (au (j:=1) rfl) ?_))
 refine⟨rfl,RN,rfl,λc c0 c1=>?_⟩
 lia
 refine ab (Fs (by rw[aae];omega)) ?_
 refine k _ ⟨ts++[⟨ns[j],u,v,c⟩],some ⟨0,.int j⟩,some ⟨0,.int x⟩,some ⟨0,.int y⟩,some ⟨0,.lst [.str u,.str v]⟩,by rw[aa2];rfl,?_,by rw[aaJ,g2];rfl,λt ht=>?_⟩
 .rw[aa2,g1]
  show ns.take j++[ns[j]]=ns.take (j+1)
  rw[acx,aab Lc];rfl
 .rcases List.mem_append.mp ht with z|z
  .exact g3 t z
  .have:t=⟨ns[j],u,v,c⟩:=by simpa using z
   subst this
   exact⟨nw _ (abH _),wu,wv,uv,c0,c1⟩
theorem xL(a b:Nat):zD (⟨#[a]⟩:Str) (⟨#[b]⟩:Str)↔a<b:=by
 show [a]<[b]↔a<b
 constructor
 .intro h
  cases h with
  |rel h=>exact h
  |cons h=>cases h
 .intro h;exact .rel h
theorem vb(c:Nat):((!decide (zD ⟨#[c]⟩ (aaz "a"))) && (!decide (zD (aaz "z") ⟨#[c]⟩)))=LP c:=by
 have e1:(aaz "a")=⟨#[97]⟩:=by decide +kernel
 have e2:(aaz "z")=⟨#[122]⟩:=by decide +kernel
 unfold LP
 rw[e1,e2]
 simp only[xL]
 rw[aaS]
 simp
theorem n6(xs:List PV)(P:PV->Prop)(h:cO xs P):Q.run 1 eJ xs P:=by
 obtain⟨x,rfl,hx,h⟩:=h
 unfold eJ
 cases x with
 |str s=>
  have hs:s.length<=1000:=hx
  have LY:s.length<=100000:=by omega
  have hc:s.cps.toList.length=s.length:=by simp[aeI]
  try lia
  rw[if_pos LY]
  try lia
  have hw:BH (.str s)=(decide (1<=s.length) && decide (s.length<=8) && s.cps.toList.all LP):=rfl
  rw[hw]at h
  by_cases h1:1<=s.length
  .by_cases h2:s.length<=8
   .have NP:(1:Int)<=(s.length:Int):=by omega
    have Ip:(s.length:Int)<=8:=by omega
    simp only[NP,Ip,decide_true,if_true,aeA,ab2,if_false,bM]
    refine aU (λx=>match x with|.str s=>.bl ((!decide (zD s (aaz "a"))) && (!decide (zD (aaz "z") s)))|_=>.oR) (λx hx R hR=>?_) (by simp[Bp,hc];omega) ?_
    .unfold Bp at hx
     obtain⟨c,hc,rfl⟩:=List.mem_map.mp hx
     simp only[DL,aar,adp,List.set_cons_zero]
     try lia
     replace hR:R (.bl ((!decide (zD ⟨#[c]⟩ (aaz "a"))) && (!decide (zD (aaz "z") ⟨#[c]⟩)))) [some ⟨0,.str s⟩]:=hR
     cases q:decide (zD ⟨#[c]⟩ (aaz "a"))with
     |true=>rw[q]at hR;exact hR
     |false=>rw[q]at hR;exact hR
    .have e:(Bp s).map (λx=>match x with|.str s=>PV.bl ((!decide (zD s (aaz "a"))) && (!decide (zD (aaz "z") s)))|_=>.oR)=(s.cps.toList.map LP).map PV.bl:=by
      unfold Bp
      rw[aaw,aaw]
      exact aa9 λc _=>congrArg PV.bl (vb c)
     rw[aaO,e]
     refine ab (eF _) ?_
     simpa[h1,h2,List.all_map]using h
   .have Ip:¬ (s.length:Int)<=8:=by omega
    have NP:(1:Int)<=(s.length:Int):=by omega
    simp only[NP,Ip,decide_true,decide_false,if_true,ac8,bM]
    simpa[h1,h2]using h
  .have NP:¬ (1:Int)<=(s.length:Int):=by omega
   simp only[NP,decide_false,ab2,if_false,ac8,if_true,bM]
   simpa[h1]using h
 |set _=>exact hx.elim
 |A3 _=>exact hx.elim
 |_=>lia;exact h
theorem kR(ws:List Str):(D2 (ws.map PV.str) ((ws.drop 1).map PV.str))=(ws.zip (ws.drop 1)).map λp=>PV.tup [.str p.1,.str p.2]:=by
 unfold D2
 rw[List.zip_map,aaw]
 rfl
theorem lY(xs:List PV)(P:PV->Prop)(h:dk xs P):Q.run 1 da xs P:=by
 obtain⟨ws,hw,hl,h⟩:=h
 unfold da
 have cut:BF (ws.map PV.str) (some 1) none=(ws.drop 1).map PV.str:=by
  rw[show (1:Int)=((1:Nat):Int)from rfl,sJ,List.map_drop]
 have main:∀(x:PV),Bg (Ex (.tp [0,1])) CY (yU GC (eV 0) (Ai 1)) [none,none] (λx e1=>opt (A0 [x]) λz=>P z) (D2 (ws.map PV.str) ((ws.drop 1).map PV.str)) [some ⟨0,x⟩] []:=λx=>by
  rw[kR]
  refine aU (λx=>match x with|.tup [.str a,.str b]=>.bl (decide (zD a b))|_=>.oR) (λx hx R hR=>?_) (by simp;omega) ?_
  .obtain⟨p,hp,rfl⟩:=List.mem_map.mp hx
   exact⟨rfl,_,rfl,hR⟩
  .rw[aaO,aaw]
   refine ab (z:=.bl (Fm ws)) ?_ h
   have:=eF (IF ws)
   unfold IF at this
   rw[aaw]at this
   exact this
 subst hw
 try lia
 simp only[iZ]
 try lia
 rw[cut]
 exact main _
theorem oK:∀{ys:List PV},(∀y∈ys,BH y=true)->ys=(ys.filterMap A8).map PV.str
 |[],_=>rfl
 |y::ys,e=>by
  have h:=e y (by simp)
  cases y with
  |str s=>exact congrArg (PV.str s::·) (oK λx hx=>e x (by simp[hx]))
  |_=>cases h
theorem lZ(xs:List PV)(P:PV->Prop)(h:cf xs P):Q.run 1 db xs P:=by
 obtain⟨x,rfl,hx,h⟩:=h
 unfold db
 cases x with
 |tup ys=>
  obtain⟨hl,hy⟩:=hx
  try lia
  refine aU (λx=>.bl (BH x)) (λx hx R hR=>⟨x,rfl,hy x hx,hR⟩) (by simp;omega) ?_
  have e:ys.map (λx=>PV.bl (BH x))=(ys.map BH).map PV.bl:=by rw[aaw];rfl
  rw[aaO,e,eF,bM]
  try lia
  rw[List.all_map]
  have hw:E9 (.tup ys)=(ys.all BH && Fm (ys.filterMap A8)):=rfl
  rw[hw]at h
  cases e:ys.all BH with
  |false=>
   rw[e]at h
   simp only[Function.id_comp,e]
   exact h
  |true=>
   rw[e]at h
   simp only[Function.id_comp,e]
   rw[acd]at e
   have es:ys=(ys.filterMap A8).map PV.str:=oK λy hy=>e y hy
   refine⟨ys.filterMap A8,(by rw[<- es]),?_,h⟩
   have:=congrArg acr es
   rw[aae]at this
   omega
 |set _=>exact hx.elim
 |A3 _=>exact hx.elim
 |_=>lia;exact h
theorem n8(xs:List PV)(P:PV->Prop)(h:cb xs P):Q.run 2 eM xs P:=by
 obtain⟨ps,ts,t,rfl,h⟩:=h
 unfold eM iN gE
 try lia
 refine ab (z:=.str t.one) (au (j:=1) rfl) (ab (z:=.tup (ps.map .str)) (au (j:=0) rfl) (ab aW ?_))
 try lia
 unfold zj at h
 cases e:decide (t.one∈ps)with
 |false=>rw[e]at h;exact h
 |true=>
  rw[e,aez]at h
  exact ab (z:=.str t.lT) (au (j:=2) rfl) (ab (z:=.tup (ps.map .str)) (au (j:=0) rfl) (ab aW h))
theorem bp(p:α->Bool)(f:α->β):∀(l:List α),l.filterMap (λa=>if p a=true then some (f a)else none)=(l.filter p).map f
 |[]=>rfl
 |a::l=>by
  rw[abS,ab3,bp p f l]
  cases p a<;>rfl
theorem lX(xs:List PV)(P:PV->Prop)(h:ce xs P):Q.run 1 cZ xs P:=by
 obtain⟨ps,ts,rfl,hl,h⟩:=h
 unfold cZ
 have e1:lE (iN ps ts) (.int 1)=some (.tup (ts.map gE)):=au (j:=1) rfl
 try lia
 refine ab e1 ?_
 try lia
 refine cm (λx=>match x with|.tup [.str a,.str b,.str c,.int d]=>if zj ps ⟨a,b,c,d⟩=true then some (.str a)else none|_=>none) (λx hx R hR=>?_) (by simp;omega) ?_
 .obtain⟨t,ht,rfl⟩:=List.mem_map.mp hx
  refine⟨ps,ts,t,rfl,?_⟩
  replace hR:R (if zj ps t=true then some (.str t.nm)else none) [some ⟨0,iN ps ts⟩]:=hR
  show opt (some (zj ps t)) _
  rw[bM]
  cases e:zj ps t with
  |false=>rw[e]at hR;exact hR
  |true=>
   rw[e]at hR
   show opt (lE (gE t) (.int 0)) _
   refine ab (z:=.str t.nm) (au (j:=0) rfl) ?_
   exact hR
 .rw[aaO,acg]
  have e:ts.filterMap ((λx=>match x with|PV.tup [.str a,.str b,.str c,.int d]=>if zj ps ⟨a,b,c,d⟩=true then some (PV.str a)else none|_=>none) ∘ gE)=(fq ps ts).map .str:=by
   unfold fq
   rw[aaw]
   exact bp (zj ps) (λt=>PV.str t.nm) ts
  rw[e]
  exact ab rfl h
theorem jC(h:zY x):Plain (.str x):=by
 have:=h.hi
 have e:x.length=x.cps.toList.length:=by simp[aeI]
 show x.length<=1000
 omega
variable{ws:List Str}
theorem tu(h:ws.Pairwise zD):Fm ws=true:=by
 unfold Fm
 rw[acd]
 intro b hb
 obtain⟨j,hj⟩:=List.getElem?_of_mem hb
 unfold IF at hj
 rw[aaj]at hj
 cases e:(ws.zip (ws.drop 1))[j]? with
 |none=>rw[e]at hj;cases hj
 |some p=>
  rw[e]at hj
  rw[aaR]at e
  obtain⟨e1,e2⟩:=e
  rw[List.getElem?_drop,ad3]at e2
  obtain⟨l1,g1⟩:=List.getElem?_eq_some_iff.mp e1
  obtain⟨l2,g2⟩:=List.getElem?_eq_some_iff.mp e2
  have:=List.pairwise_iff_getElem.mp h j (j+1) l1 l2 (by omega)
  rw[g1,g2]at this
  simp[this]at hj
  simp[<- hj]
theorem eq_str(i j:Str):Ag (.str i) (.str j)=some (.bl (i==j)):=rfl
theorem s0(us:List Str):(us.map PV.str).filterMap A8=us:=by
 induction us with
 |nil=>rfl
 |cons u us ih=>exact congrArg (u::·) ih
theorem tX(ok:BN ps ts):(fq ps ts).Nodup:=(cI ok).sublist (List.filter_sublist.map _)
theorem yK(ok:BN ps ts)(h1:ps.length<=60)(h2:ts.length<=60):Nt ps ts:=⟨ok.rise,λt ht=>fw (ok.tie t ht).lt,h1,by omega⟩
theorem gC(fs:List Str):(fs.map PV.str).mapM A8=some fs:=by
 induction fs with
 |nil=>rfl
 |cons f fs ih=>rw[aar,abo,ih];rfl
theorem vc{x:PV}{ns:List Int}(m:Nat)(hx:x=.A3 ns\/x=.lst (ns.map .int)):∃zs,IA x none (some (m:Int))=some (.lst zs)/\zs.length<=m:=by
 rcases hx with rfl|rfl
 .exact⟨_,rfl,by rw[io];simp;omega⟩
 .exact⟨_,rfl,by rw[io];simp;omega⟩
theorem rQ(ps:List Str):(ps.map PV.str).mapM B5=some (ps.map λp=>(aas p:Key)):=by
 induction ps with
 |nil=>rfl
 |cons p ps ih=>rw[aar,abo,ih];rfl
theorem gW(h:ps.Nodup):(ps.map λp=>(aas p:Key)).Nodup:=by
 rw[acN,aeN]
 exact(List.nodup_iff_pairwise_ne.mp h).imp λhne e=>hne (Sum.inr.inj e)
theorem nY(ps:List Str)(g:Str->List (Str×Str)):((ps.map λp=>((aas p:Key),PV.lst ((g p).map zl))).map (·.1))=ps.map λp=>(aas p:Key):=by rw[aaw];rfl
theorem sR(nd:ps.Nodup)(h:y∈ps):Q.Gc (ps.map λp=>((aas p:Key),PV.lst ((g p).map zl))) (aas y)=some ((g y).map zl):=by
 unfold Q.Gc
 have:=bj (f:=id) (g:=λp=>PV.lst ((g p).map zl)) (l:=ps) (a:=y) (by simpa using nd) h
 simp only[id]at this
 rw[this]
theorem pL{q:Str×Str}:DZ (ps.map λp=>((aas p:Key),PV.lst ((g p).map zl))) (aas y) ((g y).map zl++[zl q])=ps.map λp=>((aas p:Key),PV.lst ((if p=y then g y++[q]else g p).map zl)):=by
 unfold DZ
 rw[aaw]
 refine aa9 λp hp=>?_
 show (if (aas p:Key)=aas y then ((aas y:Key),PV.lst ((g y).map zl++[zl q]))else (aas p,PV.lst ((g p).map zl)))=(aas p,PV.lst ((if p=y then g y++[q]else g p).map zl))
 by_cases e:p=y
 .subst e;simp
 .simp[e]
theorem kE(xs:List PV)(P:PV->Prop)(h:bV xs P):Q.Jv 3 cB xs P:=by
 obtain⟨ps,ts,rfl,ok,h⟩:=h
 have nd:=dw ok.rise
 have e0:lE (iN ps ts) (.int 0)=some (.tup (ps.map .str)):=au (j:=0) rfl
 have e1:lE (iN ps ts) (.int 1)=some (.tup (ts.map gE)):=au (j:=1) rfl
 unfold cB
 refine ao λN hN=>?_
 show opt (lE (iN ps ts) (.int 0)) _
 refine ab e0 ⟨_,rQ ps,gW nd,by simp;have:=ok.pl;omega,?_⟩
 have e2:(ps.map λp=>(aas p:Key)).map (λk=>(k,PV.lst []))=ps.map λp=>((aas p:Key),PV.lst ((zP ps (ts.take 0) p).map zl)):=by rw[aaw];rfl
 rw[e2]
 show N [some ⟨0,iN ps ts⟩,some ⟨4,Bw ps (zP ps (ts.take 0))⟩,none]
 subst hN
 refine ao λN hN=>bT λG B hG hB=>?_
 show opt (lE (iN ps ts) (.int 1)) _
 refine ab e1 ?_
 show BL G B _ (ts.map gE) _
 refine bg (λj e=>∃v2,e=[some ⟨0,iN ps ts⟩,some ⟨4,Bw ps (zP ps (ts.take j))⟩,v2]) (i:=0) ⟨none,rfl⟩ ?_ ?_
 case refine_2=>
  rintro e ⟨v2,rfl⟩
  rw[aae,abx,abG]
  show N _
  subst hN
  exact⟨⟨_,rfl⟩,h⟩
 rintro j x e M hx ⟨v2,rfl⟩ k
 rw[abx]at k ⊢
 have hj:j<ts.length:=by have:=(List.getElem?_eq_some_iff.mp hx).1;rwa [aae]at this
 have ex:x=gE ts[j]:=by
  rw[aaj,aab hj]at hx
  exact(aao hx).symm
 subst ex hG hB
 show Bz _ _ _ _ [some ⟨0,iN ps ts⟩,some ⟨4,Bw ps (zP ps (ts.take j))⟩,some ⟨0,gE ts[j]⟩]
 refine aX λA1 B1 hA hB=>?_
 lia
 refine⟨ps,ts,ts[j],rfl,?_⟩
 subst hA hB
 show opt (some (zj ps ts[j])) _
 refine BZ.mpr ?_
 have step:=λp=>uM (ps:=ps) hj p
 cases eo:zj ps ts[j]with
 |false=>
  refine k _ ⟨some ⟨0,gE ts[j]⟩,?_⟩
  have e:zP ps (ts.take (j+1))=zP ps (ts.take j):=by
   funext p
   rw[step p,eo]
   simp
  rw[e]
 |true=>
  obtain⟨h1,h2⟩:=AE.mp eo
  have hne:=ok.ne ts[j] (abH _)
  have hlen:∀p,(zP ps (ts.take j) p).length<=2000:=λp=>by
   have:=qi ps (ts.take j) p
   have h3:(ts.take j).length<=1000:=by simp;have:=ok.tl;omega
   omega
  rw[if_pos rfl]
  refine ao λN' Eb=>?_
  refine⟨by rw[nY];exact gW nd,?_⟩
  show opt (lE (gE ts[j]) (.int 1)) _
  refine ab (z:=.str ts[j].one) (au (j:=1) rfl) (ab (z:=aas ts[j].one) rfl (ab (sR nd h1) ?_))
  show opt (lE (gE ts[j]) (.int 0)) _
  refine ab (z:=.str ts[j].nm) (au (j:=0) rfl) ?_
  show opt (lE (gE ts[j]) (.int 2)) _
  refine ab (z:=.str ts[j].lT) (au (j:=2) rfl) ⟨by simp;have:=hlen ts[j].one;omega,?_⟩
  have ea:=pL (ps:=ps) (g:=zP ps (ts.take j)) (y:=ts[j].one) (q:=(ts[j].nm,ts[j].lT))
  show N' [some ⟨0,iN ps ts⟩,some ⟨4,.zB (DZ _ (aas ts[j].one) ((zP ps (ts.take j) ts[j].one).map zl++[zl (ts[j].nm,ts[j].lT)]))⟩,some ⟨0,gE ts[j]⟩]
  rw[ea]
  generalize Ij:(λp=>if p=ts[j].one then zP ps (ts.take j) ts[j].one++[(ts[j].nm,ts[j].lT)]else zP ps (ts.take j) p)=g'
  have eg:∀p,(if p=ts[j].one then zP ps (ts.take j) ts[j].one++[(ts[j].nm,ts[j].lT)]else zP ps (ts.take j) p)=g' p:=λp=>by rw[<- Ij]
  simp only[eg]
  subst Eb
  refine⟨by rw[nY];exact gW nd,?_⟩
  show opt (lE (gE ts[j]) (.int 2)) _
  refine ab (z:=.str ts[j].lT) (au (j:=2) rfl) (ab (z:=aas ts[j].lT) rfl (ab (sR nd h2) ?_))
  show opt (lE (gE ts[j]) (.int 0)) _
  refine ab (z:=.str ts[j].nm) (au (j:=0) rfl) ?_
  show opt (lE (gE ts[j]) (.int 1)) _
  refine ab (z:=.str ts[j].one) (au (j:=1) rfl) ⟨by simp;rw[<- eg,if_neg hne.symm];have:=hlen ts[j].lT;omega,?_⟩
  have eb:=pL (ps:=ps) (g:=g') (y:=ts[j].lT) (q:=(ts[j].nm,ts[j].one))
  show M [some ⟨0,iN ps ts⟩,some ⟨4,.zB (DZ _ (aas ts[j].lT) ((g' ts[j].lT).map zl++[zl (ts[j].nm,ts[j].one)]))⟩,some ⟨0,gE ts[j]⟩]
  rw[eb]
  refine k _ ⟨some ⟨0,gE ts[j]⟩,?_⟩
  have e:zP ps (ts.take (j+1))=λp=>if p=ts[j].lT then g' ts[j].lT++[(ts[j].nm,ts[j].one)]else g' p:=by
   funext p
   rw[step p,eo,if_pos rfl]
   unfold ends
   by_cases q1:p=ts[j].lT
   .subst q1
    rw[if_pos rfl,<- eg,if_neg hne.symm,if_neg hne,if_pos rfl];rfl
   .rw[if_neg q1,<- eg]
    by_cases q2:p=ts[j].one
    .subst q2
     rw[if_pos rfl,if_pos rfl,if_neg (λz=>q1 z.symm)];rfl
    .rw[if_neg q2,if_neg (λz=>q2 z.symm),if_neg (λz=>q1 z.symm)];simp
  rw[e];rfl
variable{cs:Cs}
theorem sK(h:y∉AD cs):AA (cs.map λc=>((aas c.1:Key),Ei c.2)) (aas y)=none:=lh (f:=λc:Str×Option (Str×Str)=>c.1) h
theorem pH(nd:(AD cs).Nodup)(h:y∈AD cs):∃c∈cs,c.1=y/\AA (cs.map λc=>((aas c.1:Key),Ei c.2)) (aas y)=some (Ei c.2):=by
 obtain⟨c,hc,rfl⟩:=List.mem_map.mp h
 exact⟨c,hc,rfl,bj (f:=λc:Str×Option (Str×Str)=>c.1) (g:=λc=>Ei c.2) nd hc⟩
theorem o4{kvs:List (Key×PV)}:AU (.str y) (.zB kvs)=some (.bl (!(AA kvs (aas y)).isSome)):=rfl
structure LI(ps:List Str)(g:Str->List (Str×Str))(start:Str)(cs:Cs)(as:List Str):Prop where
 ok:CH g start cs
 GF:∀y∈AD cs,y∈ps
 sub:∀y∈as,y∈AD cs
 al:as.length<=cs.length
theorem og(xs:List PV)(P:PV->Prop)(h:cR xs P):Q.run 7 eR xs P:=by
 obtain⟨ps,g,start,rfl,nd,EN,Es,Bb,h⟩:=h
 unfold eR
 refine ao λN hN=>?_
 show opt (B5 (.str start)) _
 refine ab (z:=aas start) rfl ?_
 show N [some ⟨0,Bw ps g⟩,some ⟨0,.str start⟩,some ⟨1,Aj [(start,none)]⟩,none,none,none,none]
 subst hN
 refine ao λN hN=>?_
 show N [some ⟨0,Bw ps g⟩,some ⟨0,.str start⟩,some ⟨1,Aj [(start,none)]⟩,some ⟨1,.lst ([start].map .str)⟩,none,none,none]
 subst hN
 refine ao λN hN=>lf λC B hC hB=>?_
 have c0:LI ps g start [(start,none)] [start]:=⟨⟨by simp[AD],λi c hc=>?_,by simp⟩,λy hy=>?_,λy hy=>?_,by simp⟩
 rotate_left
 .cases i with
  |zero=>exact .inl ⟨rfl,by simpa using hc.symm⟩
  |succ i=>simp at hc
 .simp[AD]at hy;subst hy;exact EN
 .simpa[AD]using hy
 have Vc:∀y∈ps,lE (Bw ps g) (.str y)=some (.lst ((g y).map zl)):=λy hy=>by
  show AA _ (aas y)=_
  have:=bj (f:=id) (g:=λp=>PV.lst ((g p).map zl)) (l:=ps) (a:=y) (by simpa using nd) hy
  exact this
 refine lv (λk e=>∃cs as v4 v5 v6,e=[some ⟨0,Bw ps g⟩,some ⟨0,.str start⟩,some ⟨1,Aj cs⟩,some ⟨1,.lst (as.map .str)⟩,v4,v5,v6]/\LI ps g start cs as/\(∀y∈AD cs,y∉as->∀q∈g y,q.2∈AD cs)/\k=2*(ps.length - cs.length)+as.length) (k:=2*(ps.length - 1)+1) ?_ ⟨[(start,none)],[start],none,none,none,rfl,c0,λy hy hn=>absurd (by simpa[AD]using hy) hn,rfl⟩
 rintro k e M ⟨cs,as,v4,v5,v6,rfl,ca,cl,rfl⟩ km
 subst hC
 show opt (some (!(as.map PV.str).isEmpty)) _
 refine BZ.mpr ?_
 cases hA:as with
 |nil=>
  show N _
  subst hN
  show P (Aj cs)
  exact h cs ca.ok ca.GF λy hy=>cl y hy (by rw[hA];simp)
 |cons a0 ar=>
 rw[<- hA]
 rw[show (!(List.map PV.str as).isEmpty)=true by rw[hA];rfl,if_pos rfl]
 have TU:0<as.length:=by rw[hA];simp
 obtain⟨here,hh⟩:∃y,as[as.length - 1]?=some y:=⟨_,aab (by omega)⟩
 have Sm:here∈as:=abp hh
 have QO:here∈ps:=ca.GF _ (ca.sub _ Sm)
 subst hB
 refine ao λM' Q0=>?_
 lia
 have ep:IL (as.map PV.str) []=some (.str here,(as.dropLast).map .str):=by
  show ((as.map PV.str)[(as.map PV.str).length - 1]?).map _=_
  rw[aae,aaj,hh,<- List.map_dropLast];rfl
 refine ab ep ?_
 lia
 subst Q0
 refine bT λG B hG hB=>?_
 lia
 refine ab (Vc here QO) ?_
 show BL G B _ ((g here).map zl) _
 subst hG hB
 have KI:∀y∈as,y=here\/y∈as.dropLast:=λy hy=>by
  obtain⟨i,hi,rfl⟩:=ael hy
  by_cases e:i=as.length - 1
  .left
   subst e
   rw[aab hi]at hh
   exact aao hh
  .right
   rw[List.mem_iff_getElem]
   exact⟨i,by simp;omega,by simp⟩
 refine bg (λj e=>∃Dy Iu v5 v6,e=[some ⟨0,Bw ps g⟩,some ⟨0,.str start⟩,some ⟨1,Aj Dy⟩,some ⟨1,.lst (Iu.map .str)⟩,some ⟨0,.str here⟩,v5,v6]/\LI ps g start Dy Iu/\here∈AD Dy/\(∀y∈AD Dy,y≠here->y∉Iu->∀q∈g y,q.2∈AD Dy)/\(∀i q,i<j->(g here)[i]?=some q->q.2∈AD Dy)/\2*(ps.length - Dy.length)+Iu.length<2*(ps.length - cs.length)+as.length) (i:=0)
  ⟨cs,as.dropLast,v5,v6,rfl,⟨ca.ok,ca.GF,λy hy=>ca.sub y (List.dropLast_subset _ hy),by have:=ca.al;simp;omega⟩,ca.sub _ Sm,λy hy hne hn=>cl y hy λz=>(KI y z).elim hne hn,λi q hi=>absurd hi (by omega),by simp;omega⟩ ?_ ?_
 .rintro j x e M2 hx ⟨Dy,Iu,w5,w6,rfl,GV,DV,OU,seen,ms⟩ k2
  obtain⟨q,hq,rfl⟩:∃q,(g here)[j]?=some q/\x=zl q:=by
   rw[aaj]at hx
   cases e:(g here)[j]? with
   |none=>rw[e]at hx;cases hx
   |some q=>rw[e]at hx;exact⟨q,rfl,(aao hx).symm⟩
  have QE:=abp hq
  have hlen:=bA GV.ok.nd GV.GF
  have OM:(AD Dy).length=Dy.length:=by simp[AD]
  unfold zl
  lia
  refine ab (show AU (.str q.2) (Aj Dy)=_ from o4) ?_
  lia
  by_cases GK:q.2∈AD Dy
  .obtain⟨c,_,_,ev⟩:=pH GV.ok.nd GK
   rw[ev]
   simp only[aev,aeA,ab2,if_false]
   refine k2 _ ⟨Dy,Iu,_,_,rfl,GV,DV,OU,λi r hi hr=>?_,ms⟩
   by_cases ei:i<0+j
   .exact seen i r ei hr
   .have:i=j:=by omega
    subst this
    rw[hq]at hr;cases hr;exact GK
  .rw[sK GK]
   simp only[Option.isSome_none,ac8,if_true]
   have zT:Dy.length<ps.length:=by
    have:=bA (xs:=q.2::AD Dy) (ys:=ps) (List.nodup_cons.mpr ⟨GK,GV.ok.nd⟩) λy hy=>by
     rcases List.mem_cons.mp hy with rfl|hy
     .exact Es here QO q QE
     .exact GV.GF y hy
    simp[AD]at this
    omega
   have NI:Iu.length<=100000:=by have:=GV.al;omega
   simp only[Kq]
   lia
   have UG:DR (.zB (Dy.map λc=>((aas c.1:Key),Ei c.2))) (.str q.2) (.tup [.str q.1,.str here])=some (Aj (Dy++[(q.2,some (q.1,here))])):=by
    refine(if_pos (by simp;omega)).trans ?_
    show some (PV.zB (Dh _ (aas q.2) _))=_
    rw[mH (f:=λc:Str×Option (Str×Str)=>c.1) GK]
    unfold Aj
    rw[aa2];rfl
   refine ab (show DR (Aj Dy) _ _=_ from UG) ?_
   try lia
   refine ab (Fs (by simpa using NI)) ?_
   have EV:∀y,y∈AD (Dy++[(q.2,some (q.1,here))])↔y∈AD Dy\/y=q.2:=λy=>by simp[AD]
   refine k2 _ ⟨Dy++[(q.2,some (q.1,here))],Iu++[q.2],some ⟨0,.str q.1⟩,some ⟨0,.str q.2⟩,?_,⟨GV.ok.snoc GK DV QE,λy hy=>?_,λy hy=>?_,by have:=GV.al;simp;omega⟩,(EV _).mpr (.inl DV),λy hy hne hn r hr=>?_,λi r hi hr=>?_,?_⟩
   .rw[aa2];rfl
   .rcases(EV y).mp hy with z|rfl
    .exact GV.GF y z
    .exact Es here QO q QE
   .rcases List.mem_append.mp hy with z|z
    .exact(EV y).mpr (.inl (GV.sub y z))
    .simp at z;exact(EV y).mpr (.inr z)
   .rcases(EV y).mp hy with z|rfl
    .exact(EV _).mpr (.inl (OU y z hne (λw=>hn (by simp[w])) r hr))
    .exact absurd (by simp) hn
   .by_cases ei:i<0+j
    .exact(EV _).mpr (.inl (seen i r ei hr))
    .have:i=j:=by omega
     subst this
     rw[hq]at hr;cases hr;exact(EV _).mpr (.inr rfl)
   .simp;omega
 .rintro e ⟨Dy,Iu,w5,w6,rfl,GV,DV,OU,seen,ms⟩
  refine km _ _ ms ⟨Dy,Iu,_,_,_,rfl,GV,λy hy hn r hr=>?_,rfl⟩
  by_cases e:y=here
  .subst e
   obtain⟨i,hi,rfl⟩:=ael hr
   exact seen i _ (by simp;exact hi) (aab hi)
  .exact OU y hy e hn r hr
theorem wO(cs:Cs):((cs.map λc=>((aas c.1:Key),Ei c.2)).map (·.1)).mapM Dm=some (AD cs):=by
 induction cs with
 |nil=>rfl
 |cons c cs ih=>
  rw[aar,aar,abo,ih];rfl
theorem n5(xs:List PV)(P:PV->Prop)(h:e9 xs P):Q.run 2 eI xs P:=by
 obtain⟨ps,g,start,rfl,rise,EN,Es,Bb,h⟩:=h
 unfold eI
 lia
 simp only[A7]
 try lia
 refine⟨ps,g,start,rfl,dw rise,EN,Es,by omega,λcs ok GF cl=>?_⟩
 have hlen:=bA ok.nd GF
 show ∃ss,_
 refine⟨AD cs,wO cs,by omega,λts up=>?_⟩
 have e:ts=ps.filter (rb g start):=mC (ki up.2 (up.1.nodup_iff.mpr ok.nd)) (rise.sublist acT) λz=>by
  rw[up.1.mem_iff,ok.iff cl,acE,jA]
  exact⟨λh=>⟨h.GF EN Es,h⟩,λh=>h.2⟩
 rw[<- e]at h
 exact ab rfl h
variable{p:Str}
theorem pi{L:Str->Str}(nd:ps.Nodup)(h:p∈ps):lE (EK ps L) (.str p)=some (.str (L p)):=by
 show AA _ (aas p)=_
 exact bj (f:=id) (g:=λp=>PV.str (L p)) (l:=ps) (a:=p) (by simpa using nd) h
theorem IJ(ps:List Str)(ts:List iF):lE (iN ps ts) (.int 1)=some (.tup (ts.map gE)):=au (j:=1) rfl
theorem IK(ps:List Str)(ts:List iF):lE (iN ps ts) (.int 0)=some (.tup (ps.map .str)):=au (j:=0) rfl
theorem jg(xs:List PV)(P:PV->Prop)(h:bK xs P):Q.run 1 cg xs P:=by
 obtain⟨ps,ts,rfl,hl,nd,h⟩:=h
 unfold cg
 lia
 simp only[Jh]
 lia
 refine ab (IJ ps ts) ?_
 lia
 refine dW (done:=[]) iF.nm gE gE nd (λt ht R hR=>?_) (by simp;omega) h
 show opt (lE (gE t) (.int 0)) _
 refine ab (z:=.str t.nm) (au (j:=0) rfl) ?_
 exact hR
theorem rd(xs:List PV)(P:PV->Prop)(h:cY xs P):Q.run 1 gy xs P:=by
 obtain⟨ps,ts,rfl,hl,nd,h⟩:=h
 unfold gy
 lia
 simp only[Jh]
 lia
 refine ab (IJ ps ts) ?_
 lia
 refine dW (done:=[]) iF.nm (λt=>.tup [.int t.cost,.str t.nm]) gE nd (λt ht R hR=>?_) (by simp;omega) h
 show opt (lE (gE t) (.int 0)) _
 refine ab (z:=.str t.nm) (au (j:=0) rfl) ?_
 show opt (lE (gE t) (.int 3)) _
 refine ab (z:=.int t.cost) (au (j:=3) rfl) ?_
 show opt (lE (gE t) (.int 0)) _
 refine ab (z:=.str t.nm) (au (j:=0) rfl) ?_
 exact hR
theorem wo{us:List iF}{ix:List Nat}(hl:ix.length=us.length)(nd:ix.Nodup)(lt:∀i∈ix,i<us.length):(ix.map λi=>us.getD i t0).Perm us:=by
 have h1:ix.Perm (aaV us.length):=by
  refine(List.perm_ext_iff_of_nodup nd adT).mpr λi=>?_
  rw[List.mem_range]
  refine⟨lt i,λhi=>?_⟩
  have:=bA nd (λx hx=>List.mem_range.mpr (lt x hx))
  exact aci λhn=>by
   have h2:(i::ix).Nodup:=List.nodup_cons.mpr ⟨hn,nd⟩
   have h3:=bA (ys:=aaV us.length) h2 (λx hx=>by
    rcases List.mem_cons.mp hx with rfl|hx
    .exact List.mem_range.mpr hi
    .exact List.mem_range.mpr (lt x hx))
   simp at h3;omega
 have h2:((aaV us.length).map λi=>us.getD i t0)=us:=by
  apply ac6
  intro i
  rw[aaj]
  by_cases hi:i<us.length
  .rw[acs hi];simp[hi]
  .rw[aap (by simpa using hi),aap (by omega)];rfl
 have h3:=h1.map λi=>us.getD i t0
 rw[h2]at h3
 exact h3
theorem o9{us:List iF}{i j:Nat}(hi:i<us.length)(hj:j<us.length):EH (us.map λu=>(u.cost,u.nm)) i j=true↔Ao (us.getD i t0) (us.getD j t0):=by
 have g:∀i,i<us.length->(us.map λu=>(u.cost,u.nm)).getD i (0,⟨#[]⟩)=((us.getD i t0).cost,(us.getD i t0).nm):=λi hi=>by
  rw[aad,aaj,aab hi,aad,aab hi];rfl
 unfold EH Ao
 rw[g i hi,g j hj,decide_eq_true_eq]
theorem dq{us:List iF}{i:Nat}(hi:i<us.length):(us.map iF.nm).getD i ⟨#[]⟩=(us.getD i t0).nm:=by
 rw[aad,aaj,aab hi,aad,aab hi];rfl
theorem iy(T:Addr×Addr)(c:PV)(xs:List PV)(P:PV->PV->Prop)(h:b8 T c xs P):Q.BE 3 (b0 T) c xs P:=by
 obtain⟨rfl,ps,ts,us,rfl,hl,nd,Ci,Oe,Es,h⟩:=h
 unfold b0
 simp only[BE,Eh,Gg]
 refine ao λN hN=>?_
 lia
 refine⟨ps,ts,rfl,hl,nd,?_⟩
 lia
 subst hN
 simp only[zb,kU,eV,ab4,act]
 refine⟨us.map iF.nm,us.map λu=>(u.cost,u.nm),⟨.snd _ _,gC _,by simpa using Ci,by simp,by rw[aaw];exact Oe,λm hm=>?_⟩,λix ok=>?_⟩
 .rw[aae]at hm
  have hu:us.getD m t0∈us:=by rw[aad,aab hm];exact abH _
  have e:(us.map λu=>(u.cost,u.nm)).getD m k0=((us.getD m t0).cost,(us.getD m t0).nm):=by
   rw[aad,aaj,aab hm,aad,aab hm];rfl
  rw[e,dq hm]
  exact bj (f:=iF.nm) (g:=λt=>PV.tup [.int t.cost,.str t.nm]) nd (Es _ hu)
 .have lt:∀i∈ix,i<us.length:=λi hi=>by have:=ok.lt i hi;rwa [aae]at this
  have e:(ix.map λm=>PV.str ((us.map iF.nm).getD m ⟨#[]⟩))=((ix.map λi=>us.getD i t0).map iF.nm).map .str:=by
   rw[aaw,aaw]
   exact aa9 λi hi=>by show PV.str _=PV.str _;rw[dq (lt i hi)]
  rw[e]
  refine h _ (wo (by have:=ok.len;rwa [aae]at this) ok.nd lt) ?_
  refine List.pairwise_map.mpr (List.Pairwise.imp_of_mem (λhx hy hq=>?_) ok.up)
  exact(o9 (lt _ hx) (lt _ hy)).mp hq
theorem mM(T:Addr×Addr)(c:PV)(xs:List PV)(P:PV->PV->Prop)(h:d0 T c xs P):Q.BE 1 (dG T) c xs P:=by
 obtain⟨rfl,ps,ts,rfl,ok,hp,ht,h⟩:=h
 unfold dG
 have hf:=aaK (zj ps) ts
 simp only[BE,Eh,Gg]
 lia
 simp only[zw]
 lia
 refine⟨ps,ts,rfl,by omega,?_⟩
 lia
 refine⟨rfl,ps,ts,ts.filter (zj ps),rfl,by omega,cI ok,by omega,tX ok,λu hu=>(List.mem_filter.mp hu).1,λvs pm up=>?_⟩
 lia
 refine⟨ps,ts,vs,rfl,ok,hp,ht,pm,up,?_⟩
 exact h
theorem o5(a b:Str):EF (.str a) (.str b)=some (.bl (!decide (a=b))):=by
 show some (PV.bl (!decide (V.str a=V.str b)))=_
 congr 3
 simp
theorem lB(ok:BN ps ts):(Be ps ts).Pairwise zD:=ok.names.sublist ((List.filter_sublist.trans acT).map _)
theorem vY{vs:List iF}{gs:List Str}(ok:BN ps ts)(pm:vs.Perm (ts.filter (zj ps)))(e:l=(vs.filter (Bf ps (ts.filter (zj ps)))).map iF.nm)(up:FK l gs):gs=Be ps ts:=by
 have p:gs.Perm (Be ps ts):=by
  refine up.1.trans ?_
  rw[e]
  exact(pm.filter _).map _
 exact oQ p (ki up.2 (p.nodup_iff.mpr (dw (lB ok)))) (lB ok)
theorem ir(xs:List PV)(P:PV->Prop)(h:b7 xs P):Q.run 9 bX xs P:=by
 obtain⟨ps,ts,vs,rfl,ok,hp,ht,pm,up,h⟩:=h
 have pn:=dw ok.rise
 have tn:=cI ok
 have vl:vs.length<=60:=by rw[pm.length_eq];exact abg (aaK _ _) ht
 have oo:∀u∈ts.filter (zj ps),zj ps u=true:=λu hu=>(List.mem_filter.mp hu).2
 have vo:∀u∈vs,zj ps u=true:=λu hu=>oo u (pm.mem_iff.mp hu)
 have vt:∀u∈vs,u∈ts:=λu hu=>(List.mem_filter.mp (pm.mem_iff.mp hu)).1
 unfold bX
 refine ao λN hN=>?_
 lia
 refine⟨ps,ts,rfl,by omega,tn,?_⟩
 lia
 subst hN
 refine ao λN hN=>?_
 lia
 simp only[Jh]
 lia
 refine ab (IK ps ts) ?_
 lia
 refine dW (done:=[]) (α:=Str) (λp=>p) PV.str PV.str (by simpa using pn) (λp hp R hR=>hR) (by simp;omega) ?_
 show N [some ⟨0,iN ps ts⟩,some ⟨0,.lst ((vs.map iF.nm).map .str)⟩,some ⟨0,.zB (ts.map λt=>(aas t.nm,gE t))⟩,some ⟨1,EK ps id⟩,none,none,none,none,none]
 subst hN
 refine ao λN hN=>?_
 lia
 subst hN
 refine ao λN hN=>bT λG B hG hB=>?_
 lia
 refine bg (λj e=>∃(g:Str->Str) (v5 v6 v7 v8:Option Sl),e=[some ⟨0,iN ps ts⟩,some ⟨0,.lst ((vs.map iF.nm).map .str)⟩,some ⟨0,.zB (ts.map λt=>(aas t.nm,gE t))⟩,some ⟨1,EK ps g⟩,some ⟨1,.lst ((((vs.take j).filter (Bf ps (ts.filter (zj ps)))).map iF.nm).map .str)⟩,v5,v6,v7,v8]/\Kr ps (vs.take j) g) (i:=0)
  ⟨id,none,none,none,none,rfl,Kr.nil⟩ ?_ ?_
 case refine_2=>
  rintro e ⟨g,v5,v6,v7,v8,rfl,hk⟩
  show N _
  rw[aae,aae,abx,abG]
  subst hN
  simp only[zb,BC,aS]
  lia
  simp only[A7]
  lia
  refine⟨_,gC _,?_,λgs us=>ab rfl ?_⟩
  .rw[aae]
   have:=aaK (Bf ps (ts.filter (zj ps))) vs
   omega
  .rw[vY ok pm rfl us]
   exact h
 rintro j x e M hx ⟨g,v5,v6,v7,v8,rfl,hk⟩ k
 rw[abx]at k hk ⊢
 have hj:j<vs.length:=by have:=(List.getElem?_eq_some_iff.mp hx).1;simpa using this
 obtain⟨t,et⟩:∃t,vs[j]?=some t:=⟨_,aab hj⟩
 have ex:x=.str t.nm:=by
  rw[aaj,aaj,et]at hx
  exact(aao hx).symm
 have tv:t∈vs:=abp et
 have ot:=vo t tv
 obtain⟨o1,o2⟩:=AE.mp ot
 have SA:vs.take (j+1)=vs.take j++[t]:=by rw[acx,et];rfl
 have oX:∀u∈vs.take j,zj ps u=true:=λu hu=>vo u (adb hu)
 have hm:∀u,u∈vs.take j↔u∈below (ts.filter (zj ps)) t:=λu=>by
  rw[zu,<- pm.mem_iff]
  have R9:=List.pairwise_iff_getElem.mp up
  have Rg:vs[j]=t:=by rw[aab hj]at et;exact aao et
  constructor
  .intro hu
   obtain⟨i,hi,e⟩:=List.mem_iff_getElem.mp hu
   rw[List.getElem_take]at e
   have CN:i<j:=by rw[abb]at hi;omega
   refine⟨adb hu,?_⟩
   rw[<- e,<- Rg]
   exact R9 i j (by omega) hj CN
  .rintro⟨hu,hc⟩
   obtain⟨i,hi,e⟩:=List.mem_iff_getElem.mp hu
   rcases aeM i j with z|z|z
   .rw[List.mem_iff_getElem]
    exact⟨i,by rw[abb];omega,by rw[List.getElem_take];exact e⟩
   .subst z
    rw[Rg]at e;subst e
    exact absurd hc (cL _)
   .have:=R9 j i hj hi z
    rw[Rg,e]at this
    exact absurd hc (sL this)
 have mn:=Kr.min oX oo ot hk hm
 have st:=Kr.step oX ot pn hk
 rw[<- SA]at st
 subst ex hG hB
 show rW _ _ _ [some ⟨0,iN ps ts⟩,some ⟨0,.lst ((vs.map iF.nm).map .str)⟩,some ⟨0,.zB (ts.map λt=>(aas t.nm,gE t))⟩,some ⟨1,EK ps g⟩,some ⟨1,.lst ((((vs.take j).filter (Bf ps (ts.filter (zj ps)))).map iF.nm).map .str)⟩,some ⟨0,.str t.nm⟩,v6,v7,v8]
 refine ao λN' Eb=>?_
 lia
 refine ab (z:=gE t) (bj (f:=iF.nm) (g:=gE) tn (vt t tv)) ?_
 show N' _
 subst Eb
 refine ao λN' Eb=>?_
 lia
 simp only[Cy]
 lia
 refine ab (z:=PV.str t.one) (au (j:=1) rfl) ?_
 try lia
 refine ab (pi pn o1) ?_
 try lia
 refine ab (z:=PV.str t.lT) (au (j:=2) rfl) ?_
 try lia
 refine ab (pi pn o2) ?_
 try lia
 show N' _
 subst Eb
 refine aX λA1 B1 DK BS=>?_
 lia
 refine ab (o5 _ _) ?_
 lia
 have fe:(vs.take (j+1)).filter (Bf ps (ts.filter (zj ps)))=(vs.take j).filter (Bf ps (ts.filter (zj ps)))++(if Bf ps (ts.filter (zj ps)) t=true then [t]else []):=by
  rw[SA,aex]
  congr 1
  rw[ab3,List.filter_nil]
 have kl:((vs.take j).filter (Bf ps (ts.filter (zj ps)))).length<=60:=abg (aaK _ _) (by rw[abb];omega)
 by_cases hg:g t.one=g t.lT
 .rw[decide_eq_true hg,aeA,if_neg (by simp)]
  subst BS
  refine k _ ⟨g,some ⟨0,.str t.nm⟩,some ⟨0,gE t⟩,some ⟨0,.str (g t.one)⟩,some ⟨0,.str (g t.lT)⟩,?_,st.1 hg⟩
  rw[fe,if_neg (λz=>(mn.mpr (B0.mp z)) hg),abN]
 .rw[decide_eq_false hg,ac8,if_pos rfl]
  subst DK
  refine ao λN' Eb=>?_
  lia
  refine ab (Fs (by simp;omega)) ?_
  show N' [some ⟨0,iN ps ts⟩,some ⟨0,.lst ((vs.map iF.nm).map .str)⟩,some ⟨0,.zB (ts.map λt=>(aas t.nm,gE t))⟩,some ⟨1,EK ps g⟩,some ⟨1,.lst ((((vs.take j).filter (Bf ps (ts.filter (zj ps)))).map iF.nm).map .str++[.str t.nm])⟩,some ⟨0,.str t.nm⟩,some ⟨0,gE t⟩,some ⟨0,.str (g t.one)⟩,some ⟨0,.str (g t.lT)⟩]
  subst Eb
  show CA _ _ _ _ _ _ ((ps.map λp=>((aas p:Key),PV.str (g p))).map EE) _ []
  rw[aaw]
  refine dW (done:=[]) (α:=Str) (λp=>p) (λp=>PV.str (if g p=g t.lT then g t.one else g p)) (EE ∘ λp=>((aas p:Key),PV.str (g p))) (by simpa using pn) (λp hp R hR=>?_) (by simp;omega) ?_
  .refine⟨rfl,?_⟩
   show opt (Ag (.str (g p)) (.str (g t.lT))) _
   refine ab (eq_str _ _) ?_
   show opt (some (g p==g t.lT)) _
   refine BZ.mpr ?_
   by_cases z:g p=g t.lT
   .rw[if_pos z]at hR
    rw[beq_iff_eq.mpr z]
    exact hR
   .rw[if_neg z]at hR
    rw[beq_eq_false_iff_ne.mpr z]
    exact hR
  .refine k _ ⟨λp=>if g p=g t.lT then g t.one else g p,some ⟨0,.str t.nm⟩,some ⟨0,gE t⟩,some ⟨0,.str (g t.one)⟩,some ⟨0,.str (g t.lT)⟩,?_,st.2 hg⟩
   have e:(((vs.take (j+1)).filter (Bf ps (ts.filter (zj ps)))).map iF.nm).map PV.str=(((vs.take j).filter (Bf ps (ts.filter (zj ps)))).map iF.nm).map PV.str++[.str t.nm]:=by
    rw[fe,if_pos (B0.mpr (mn.mp hg)),aa2,aa2];rfl
   rw[e]
   rfl
theorem uL(n:Nat):A0 [.lst ((aaF n true).map .bl)]=some (.bl true):=by
 rw[eF]
 congr 2
 induction n with
 |zero=>rfl
 |succ n ih=>rw[aa8,List.all_cons,ih];rfl
theorem ue(l:List PV):l.map (λ_=>PV.bl true)=(aaF l.length true).map .bl:=by
 rw[List.map_replicate]
 induction l with
 |nil=>rfl
 |cons a l ih=>rw[aar,aaL,aa8,ih]
theorem ng:AY (.str x) (.lst (ns.map .str))=some (.bl (decide (x∈ns))):=ql
theorem tQ(xs:List PV)(P:PV->Prop)(h:gn xs P):Q.run 2 iW xs P:=by
 obtain⟨ps,ns,ts,hx,hl,G7,h⟩:=h
 obtain⟨nv,rfl,Es⟩:∃nv,xs=[iN ps ts,nv]/\∀x:Str,AY (.str x) nv=some (.bl (decide (x∈ns))):=by
  rcases hx with rfl|rfl
  .exact⟨_,rfl,λx=>aW⟩
  .exact⟨_,rfl,λx=>ng⟩
 unfold iW
 have e0:lE (iN ps ts) (.int 0)=some (.tup (ps.map .str)):=au (j:=0) rfl
 have e1:lE (iN ps ts) (.int 1)=some (.tup (ts.map gE)):=au (j:=1) rfl
 lia
 refine ab e0 (ab e1 ?_)
 lia
 refine cm (λx=>match x with|.tup [.str a,.str b,.str c,.int d]=>if Ae ns ⟨a,b,c,d⟩=true then some (.tup [.str a,.str b,.str c,.int d])else none|_=>none) (λx hx R hR=>?_) (by simp;omega) ?_
 .obtain⟨t,ht,rfl⟩:=List.mem_map.mp hx
  refine ab (z:=.str t.nm) (au (j:=0) rfl) (ab (Es _) ?_)
  replace hR:R (if Ae ns t=true then some (gE t)else none) [some ⟨0,iN ps ts⟩,some ⟨0,nv⟩]:=hR
  show opt (some (Ae ns t)) _
  rw[bM]
  cases e:Ae ns t with
  |false=>rw[e]at hR;exact hR
  |true=>rw[e]at hR;exact hR
 .rw[aaO,acg]
  have e:ts.filterMap ((λx=>match x with|PV.tup [.str a,.str b,.str c,.int d]=>if Ae ns ⟨a,b,c,d⟩=true then some (.tup [.str a,.str b,.str c,.int d])else none|_=>none) ∘ gE)=(ts.filter (Ae ns)).map gE:=bp (Ae ns) gE ts
  rw[e]
  exact ab rfl h
theorem uX(nd:(AD cs).Nodup){i j:Nat}{v w:Option (Str×Str)}(h1:cs[i]?=some (a,v))(h2:cs[j]?=some (a,w)):i=j:=by
 have g1:(AD cs)[i]?=some a:=by rw[aaj,h1];rfl
 have g2:(AD cs)[j]?=some a:=by rw[aaj,h2];rfl
 obtain⟨i1,i2⟩:=List.getElem?_eq_some_iff.mp g1
 obtain⟨j1,j2⟩:=List.getElem?_eq_some_iff.mp g2
 exact(abP nd).mp (i2.trans j2.symm)
theorem yP(nd:(AD cs).Nodup){i:Nat}{v:Option (Str×Str)}(h:cs[i]?=some (a,v)):lE (Aj cs) (.str a)=some (Ei v):=by
 have:=bj (f:=λc:Str×Option (Str×Str)=>c.1) (g:=λc=>Ei c.2) (l:=cs) (a:=(a,v)) nd (abp h)
 exact this
theorem uW(h:y∈AD cs):∃(i:Nat) (v:Option (Str×Str)),cs[i]?=some (y,v):=by
 obtain⟨c,hc,rfl⟩:=List.mem_map.mp h
 obtain⟨i,hi,e⟩:=List.mem_iff_getElem.mp hc
 exact⟨i,c.2,by rw[aab hi,e]⟩
theorem vz(xs:List PV)(P:PV->Prop)(h:la xs P):Q.run 8 jY xs P:=by
 obtain⟨ps,ts,fs,one,lT,rfl,nt,tn,fl,h1,h2,hN,hW⟩:=h
 have snd:((CI ps fs ts).map iF.nm).Nodup:=tn.sublist ((List.filter_sublist.trans acT:(CI ps fs ts).Sublist ts).map _)
 unfold jY
 refine ao λN Eb=>?_
 lia
 refine⟨ps,fs,ts,.inl rfl,nt.tl,fl,?_⟩
 refine⟨ps,ts.filter (Ae fs),rfl,⟨nt.rise,λt ht=>nt.ne t (List.mem_filter.mp ht).1,nt.pl,abg (aaK _ _) nt.tl⟩,?_⟩
 refine⟨ps,zP ps (ts.filter (Ae fs)),lT,rfl,dw nt.rise,h2,λp hp q hq=>pO q hq,by have:=nt.pl;omega,λcs ok sub cl=>?_⟩
 have Va:cs.length<=60:=by
  have:=bA ok.nd sub
  rw[aae]at this
  have:=nt.pl
  omega
 subst Eb
 refine ao λN Eb=>?_
 lia
 refine ab o4 ?_
 by_cases hc:one∈AD cs
 case neg=>
  rw[sK hc]
  lia
  exact hN λr=>hc ((ok.iff cl).mpr r)
 obtain⟨c,_,_,ec⟩:=pH ok.nd hc
 rw[ec]
 lia
 show N _
 subst Eb
 refine ao λN Eb=>?_
 lia
 subst Eb
 refine ao λN Eb=>?_
 lia
 subst Eb
 refine ao λN Eb=>lf λC B hC hB=>?_
 obtain⟨k0,w0,Si⟩:=uW hc
 refine lv (λk e=>∃(ns:List Str) (y:Str) (w:Option (Str×Str)) (v7:Option Sl),e=[some ⟨0,iN ps ts⟩,some ⟨0,.tup (fs.map .str)⟩,some ⟨0,.str one⟩,some ⟨0,.str lT⟩,some ⟨0,Aj cs⟩,some ⟨1,.lst (ns.map .str)⟩,some ⟨0,.str y⟩,v7]/\cs[k]?=some (y,w)/\Wk (CI ps fs ts) one ns y/\ns.Nodup/\ns.length+k<=60/\∀n∈ns,∃i,k<i/\∃y' x',cs[i]?=some (y',some (n,x'))) ?_ (k:=k0)
  ⟨[],one,w0,none,rfl,Si,rfl,by simp,by have:=(List.getElem?_eq_some_iff.mp Si).1;simp;omega,by simp⟩
 rintro k e M ⟨ns,y,w,v7,rfl,hk,hw,nd,hl,hu⟩ km
 subst hC
 lia
 refine ab (o5 _ _) ?_
 lia
 by_cases e:y=lT
 .rw[decide_eq_true e]
  lia
  show N _
  subst Eb
  lia
  refine ab rfl (hW ns (e ▸ hw) nd (by omega))
 rw[decide_eq_false e]
 lia
 rcases ok.tree k _ hk with ⟨rfl,e2⟩|⟨_,nm,x,e2,e3,e4⟩
 .cases e2;exact absurd rfl e
 have e2:w=some (nm,x):=e2
 subst e2
 obtain⟨j,w',hj⟩:=uW e4
 have E6:j<k:=by
  have:=(List.getElem?_eq_some_iff.mp hj).1
  rw[abb]at this;omega
 have Er:cs[j]?=some (x,w'):=by rw[List.getElem?_take_of_lt E6]at hj;exact hj
 obtain⟨t,ht,en,q⟩:=((nh ps fs ts).mem _ _ _).mp e3
 have Tt:nm∉ns:=λz=>by
  obtain⟨i,hi,y',x',hy⟩:=hu nm z
  rcases ok.tree i _ hy with ⟨rfl,_⟩|⟨_,Vq,x2,g2,g3,g4⟩
  .exact absurd hi (Nat.not_lt_zero _)
  .cases g2
   obtain⟨t',IT,UH,q'⟩:=((nh ps fs ts).mem _ _ _).mp g3
   have:t=t':=aQ snd ht IT (en.symm.trans UH)
   subst this
   rcases Ends.two q q' with ⟨_,z2⟩|⟨_,z2⟩
   .have z2:y'=y:=z2
    subst z2
    have:=uX ok.nd hk hy;omega
   .have z2:y'=x:=z2
    subst z2
    have:=uX ok.nd Er hy;omega
 subst hB
 refine ao λM' Q0=>?_
 lia
 refine ab (yP ok.nd hk) ⟨rfl,?_⟩
 show M' [some ⟨0,iN ps ts⟩,some ⟨0,.tup (fs.map .str)⟩,some ⟨0,.str one⟩,some ⟨0,.str lT⟩,some ⟨0,Aj cs⟩,some ⟨1,.lst (ns.map .str)⟩,some ⟨0,.str x⟩,some ⟨0,.str nm⟩]
 subst Q0
 lia
 refine ab (Fs (by rw[aae];omega)) ?_
 refine km j _ E6 ⟨ns++[nm],x,w',some ⟨0,.str nm⟩,by rw[aa2];rfl,Er,hw.app ⟨t,ht,en.symm,x,Ends.sym q,rfl⟩,?_,by simp;omega,λn hn=>?_⟩
 .rw[acm]
  exact⟨nd,by simp,λa ha b hb=>by simp at hb;subst hb;exact λe=>Tt (e ▸ ha)⟩
 .rcases List.mem_append.mp hn with z|z
  .obtain⟨i,hi,r⟩:=hu n z
   exact⟨i,by omega,r⟩
  .simp at z;subst z
   exact⟨k,E6,y,x,hk⟩
theorem pP(h:ws.Pairwise zD)(hw:∀x∈ws,zY x):E9 (.tup (ws.map .str))=true:=by
 show ((ws.map PV.str).all BH && Fm ((ws.map PV.str).filterMap A8))=true
 rw[s0,tu h,Bool.and_true,acd]
 intro y hy
 obtain⟨x,hx,rfl⟩:=List.mem_map.mp hy
 exact DQ.mpr (hw x hx)
theorem uY{P:PV->Prop}(h:ws.Pairwise zD)(hw:∀x∈ws,zY x)(hl:ws.length<=1000)(k:P (.bl true)):cf [.tup (ws.map .str)] P :=
 ⟨_,rfl,⟨by rw[aae];exact hl,λy hy=>by
  obtain⟨x,hx,rfl⟩:=List.mem_map.mp hy
  exact jC (hw x hx)⟩,by rw[pP h hw];exact k⟩
theorem tS(xs:List PV)(P:PV->Prop)(h:jp xs P):Q.IE 1 fQ xs P:=by
 obtain⟨ps,ts,rfl,hl,h⟩:=h
 unfold fQ
 have e0:lE (iN ps ts) (.int 0)=some (.tup (ps.map .str)):=au (j:=0) rfl
 have e1:lE (iN ps ts) (.int 1)=some (.tup (ts.map gE)):=au (j:=1) rfl
 simp only[IE,Lu,Hr]
 lia
 refine ab e1 ?_
 lia
 refine cm (λx=>match x with|.tup [.str a,.str b,.str c,.int d]=>if zj ps ⟨a,b,c,d⟩=true then some (.tup [.str a,.str b,.str c,.int d])else none|_=>none) (λx hx R hR=>?_) (by simp;omega) ?_
 .obtain⟨t,ht,rfl⟩:=List.mem_map.mp hx
  refine ab (z:=.str t.one) (au (j:=1) rfl) (ab e0 (ab aW ?_))
  replace hR:R (if zj ps t=true then some (gE t)else none) [some ⟨0,iN ps ts⟩]:=hR
  unfold zj at hR
  show opt (some (decide (t.one∈ps))) _
  rw[bM]
  cases e:decide (t.one∈ps)with
  |false=>rw[e]at hR;exact hR
  |true=>
   rw[e,aez]at hR
   refine ab (z:=.str t.lT) (au (j:=2) rfl) (ab e0 (ab aW ?_))
   show opt (some (decide (t.lT∈ps))) _
   rw[bM]
   cases e2:decide (t.lT∈ps)with
   |false=>rw[e2]at hR;exact hR
   |true=>rw[e2]at hR;exact hR
 .rw[aaO,acg]
  have e:ts.filterMap ((λx=>match x with|PV.tup [.str a,.str b,.str c,.int d]=>if zj ps ⟨a,b,c,d⟩=true then some (.tup [.str a,.str b,.str c,.int d])else none|_=>none) ∘ gE)=(ts.filter (zj ps)).map gE:=bp (zj ps) gE ts
  rw[e]
  exact h
theorem wa(t u:iF):Oz (.tup [.int t.cost,.str t.nm]) (.tup [.int u.cost,.str u.nm])=some (.bl (decide (Ao t u))):=by
 show ((zA 59 (.int t.cost) (.int u.cost)).bind λb=>if b=true then Fu (zA 59) (Q.IM 59) [.str t.nm] [.str u.nm]else Q.IM 59 (.int t.cost) (.int u.cost)).map PV.bl=_
 have e1:zA 59 (.int t.cost) (.int u.cost)=some (decide (t.cost=u.cost)):=by
  show some (t.cost==u.cost)=_
  rfl
 have e2:zA 59 (.str t.nm) (.str u.nm)=some (decide (t.nm=u.nm)):=by
  show some (t.nm==u.nm)=_
  rfl
 rw[e1]
 by_cases h:t.cost=u.cost
 .rw[decide_eq_true h]
  show ((zA 59 (.str t.nm) (.str u.nm)).bind λb=>if b=true then Fu (zA 59) (Q.IM 59) [] []else Q.IM 59 (.str t.nm) (.str u.nm)).map PV.bl=_
  rw[e2]
  by_cases g:t.nm=u.nm
  .rw[decide_eq_true g]
   have:¬ Ao t u:=by rintro(z|⟨_,z⟩);omega;exact cJ _ (g ▸ z)
   rw[decide_eq_false this];rfl
  .rw[decide_eq_false g]
   show some (PV.bl (decide (zD t.nm u.nm)))=_
   have:Ao t u↔zD t.nm u.nm:=⟨λz=>by rcases z with z|z;omega;exact z.2,λz=>.inr ⟨h,z⟩⟩
   rw[decide_eq_decide.mpr this]
 .rw[decide_eq_false h]
  show some (PV.bl (decide (t.cost<u.cost)))=_
  have:Ao t u↔t.cost<u.cost:=⟨λz=>by rcases z with z|z;exact z;exact absurd z.1 h,.inl⟩
  rw[decide_eq_decide.mpr this]
theorem oS(nd:(ts.map iF.nm).Nodup)(ht:t∈ts):lE (.zB (ts.map λt=>((aas t.nm:Key),.tup [.int t.cost,.str t.nm]))) (.str t.nm)=some (.tup [.int t.cost,.str t.nm]) :=
 bj (f:=iF.nm) (g:=λt=>PV.tup [.int t.cost,.str t.nm]) nd ht
theorem oe(xs:List PV)(P:PV->Prop)(h:cQ xs P):Q.run 4 eO xs P:=by
 obtain⟨ps,ts,t,u,rfl,hl,nd,ht,hu,h⟩:=h
 unfold eO
 refine ao λN hN=>?_
 lia
 refine⟨ps,ts,rfl,hl,nd,?_⟩
 lia
 subst hN
 lia
 exact ab (oS nd ht) (ab (oS nd hu) (ab (wa t u) h))
theorem w8{us:List iF}(hl:m<us.length)(nd:(us.map iF.nm).Nodup)(h:Em (us.map λu=>(u.cost,u.nm)) us.length m):Top us (us.getD m t0):=by
 have gm:∀i,i<us.length->us.getD i t0∈us/\us[i]?=some (us.getD i t0):=λi hi=>by
  rw[aad,aab hi]
  exact⟨abH _,rfl⟩
 refine⟨(gm m hl).1,λu hu hn=>?_⟩
 obtain⟨i,hi,rfl⟩:=ael hu
 have e:us[i]=us.getD i t0:=by rw[aad,aab hi];rfl
 rw[e]at hn ⊢
 exact(o9 hi hl).mp (h.2 i hi λz=>hn (by rw[z]))
theorem kF(T:Addr×Addr)(c:PV)(xs:List PV)(P:PV->PV->Prop)(h:bW T c xs P):Q.BE 3 (cC T) c xs P:=by
 obtain⟨rfl,ps,ts,us,rfl,hl,nd,Ci,Oe,Es,hne,h⟩:=h
 unfold cC
 simp only[BE,Eh,Gg]
 refine ao λN hN=>?_
 lia
 refine⟨ps,ts,rfl,hl,nd,?_⟩
 lia
 subst hN
 simp only[zb,FJ,eV,ab4,act]
 refine⟨us.map iF.nm,us.map λu=>(u.cost,u.nm),⟨.fst _ _,gC _,by simpa using Ci,by simp,by rw[aaw];exact Oe,λm hm=>?_⟩,λz=>?_,λm mx=>?_⟩
 .rw[aae]at hm
  have hu:us.getD m t0∈us:=by rw[aad,aab hm];exact abH _
  have e:(us.map λu=>(u.cost,u.nm)).getD m k0=((us.getD m t0).cost,(us.getD m t0).nm):=by
   rw[aad,aaj,aab hm,aad,aab hm];rfl
  rw[e,dq hm]
  exact bj (f:=iF.nm) (g:=λt=>PV.tup [.int t.cost,.str t.nm]) nd (Es _ hu)
 .rw[aae]at z
  exact absurd (List.length_eq_zero_iff.mp z) hne
 .rw[aae]at mx
  rw[dq mx.1]
  exact h _ (w8 mx.1 Oe mx)
theorem yL(a b:Bool):EF (.bl a) (.bl b)=some (.bl (!decide (a=b))):=by cases a<;>cases b<;>rfl
def MS(ps side:List Str):PV->Option PV
 |.tup [.str a,.str b,.str c,.int d]=>if D8 ps side ⟨a,b,c,d⟩=true then some (.str a)else none
 |_=>none
theorem qc(xs:List PV)(P:PV->Prop)(h:gi xs P):Q.run 2 fN xs P:=by
 obtain⟨ps,side,ts,rfl,hl,h⟩:=h
 unfold fN
 lia
 refine ab (IJ ps ts) ?_
 lia
 refine cm (MS ps side) (λx hx R hR=>?_) (by simp;omega) ?_
 .obtain⟨t,ht,rfl⟩:=List.mem_map.mp hx
  replace hR:R (if D8 ps side t=true then some (.str t.nm)else none) [some ⟨0,iN ps ts⟩,some ⟨0,.tup (side.map .str)⟩]:=hR
  refine⟨ps,ts,t,rfl,ab rfl ?_⟩
  unfold D8 at hR
  cases e:zj ps t with
  |false=>rw[e]at hR;exact hR
  |true=>
   rw[e,aez]at hR
   rw[if_pos rfl]
   refine ab (z:=.str t.one) (au (j:=1) rfl) (ab aW (ab (z:=.str t.lT) (au (j:=2) rfl) (ab aW (ab (yL _ _) (ab rfl ?_)))))
   cases e2:(!decide (decide (t.one∈side)=decide (t.lT∈side)))with
   |false=>rw[e2]at hR;exact hR
   |true=>
    rw[e2,if_pos rfl]at hR
    rw[if_pos rfl]
    refine ab (z:=.str t.nm) (au (j:=0) rfl) ?_
    exact hR
 .rw[aaO,acg]
  have e:ts.filterMap (MS ps side ∘ gE)=((ts.filter (D8 ps side)).map iF.nm).map .str:=by
   rw[aaw]
   exact bp (D8 ps side) (λt=>PV.str t.nm) ts
  rw[e]
  exact ab rfl h
theorem mT(x:Str)(ys:List Str):AU (.str x) (.tup (ys.map .str))=some (.bl (!decide (x∈ys))):=by
 show (Ig _ _).map _=_
 rw[kM];rfl
theorem jk:∀{ns:List Str},(∀n∈ns,∃t∈os,t.nm=n)->∃us:List iF,us.map iF.nm=ns/\∀u∈us,u∈os
 |[],_=>⟨[],rfl,by simp⟩
 |n::ns,h=>by
  obtain⟨t,ht,e⟩:=h n aaq
  obtain⟨us,e2,hu⟩:=jk λm hm=>h m (aan _ hm)
  exact⟨t::us,by rw[aar,e,e2],λu Ep=>by
   rcases List.mem_cons.mp Ep with rfl|z
   .exact ht
   .exact hu u z⟩
section
variable{one lT:Str}
theorem Bx.us(nd:(ts.map iF.nm).Nodup)(d:Bx ps ts one lT ns t):∃us:List iF,us.map iF.nm=ns/\(∀u∈us,u∈zd ps ts)/\Top us t:=by
 obtain⟨us,rfl,hu⟩:=jk d.w.mem
 refine⟨us,rfl,hu,?_,λu h ne=>d.mx u (hu u h) (aaX h) ne⟩
 obtain⟨v,hv,e⟩:=List.mem_map.mp d.hn
 rw[<- aQ (ck nd) (hu v hv) d.ht e]
 exact hv
theorem Top.Rm{us:List iF}(nd:(ts.map iF.nm).Nodup)(w:Wk (zd ps ts) one (us.map iF.nm) lT)(d:(us.map iF.nm).Nodup)(hu:∀u∈us,u∈zd ps ts)(h:Top us t):Bx ps ts one lT (us.map iF.nm) t :=
 ⟨w,d,hu t h.1,aaX h.1,λu ut un ne=>by
  obtain⟨v,hv,e⟩:=List.mem_map.mp un
  rw[<- aQ (ck nd) (hu v hv) ut e]
  exact h.2 v hv (by rw[e];exact ne)⟩
theorem wb(nd:(ts.map iF.nm).Nodup):(Be ps ts).filter (λn=>decide (n∈AB ps ts t))=AB ps ts t:=by
 rw[cU,List.filter_map]
 unfold AB
 congr 1
 refine adG λu hu=>?_
 rw[aaS,decide_eq_true_eq]
 show decide (u.nm∈AB ps ts t)=true↔_
 rw[decide_eq_true_eq,C6]
 constructor
 .rintro⟨v,hv,c,e⟩
  rw[<- aQ (ck nd) hv hu e];exact c
 .exact λc=>⟨u,hu,c,rfl⟩
end
def M8(ls:List Str):PV->Option PV
 |.str n=>if decide (n∈ls)=true then some (.str n)else none
 |_=>none
theorem n9(T:Addr×Addr)(c:PV)(xs:List PV)(P:PV->PV->Prop)(h:cP T c xs P):Q.BE 7 (eN T) c xs P:=by
 obtain⟨rfl,ps,ts,one,lT,rfl,s,Uu,hD⟩:=h
 have nd:=cI s.ok
 have tl:=s.tl
 have ml:(Be ps ts).length<=60:=by rw[cU,aae];have:=fR ps ts;omega
 unfold eN
 simp only[BE,Eh,Gg]
 refine ao λN hN=>?_
 simp only[zw]
 lia
 simp only[zw]
 lia
 refine⟨rfl,ps,ts,rfl,s.ok,s.pl,s.tl,?_⟩
 show N [some ⟨0,iN ps ts⟩,some ⟨0,.str one⟩,some ⟨0,.str lT⟩,some ⟨0,.tup ((Be ps ts).map .str)⟩,none,none,none,some ⟨2,zx T⟩]
 subst hN
 refine ao λN hN=>?_
 lia
 refine⟨ps,ts,Be ps ts,one,lT,rfl,yK s.ok s.pl s.tl,nd,by omega,s.h1,s.h2,λnr=>?_,λns w nn _=>?_⟩
 .show N [some ⟨0,iN ps ts⟩,some ⟨0,.str one⟩,some ⟨0,.str lT⟩,some ⟨0,.tup ((Be ps ts).map .str)⟩,some ⟨0,.oR⟩,none,none,some ⟨2,zx T⟩]
  subst hN
  refine ao λN hN=>aX λA1 B1 DK BS=>?_
  lia
  refine ab (z:=.bl true) rfl (ab (z:=true) rfl ?_)
  rw[if_pos rfl]
  subst DK
  refine Uu λr=>nr ?_
  rw[ju nd]
  exact Jw (Hi.mpr r)
 rw[qL nd]at w
 show N [some ⟨0,iN ps ts⟩,some ⟨0,.str one⟩,some ⟨0,.str lT⟩,some ⟨0,.tup ((Be ps ts).map .str)⟩,some ⟨0,.tup (ns.map .str)⟩,none,none,some ⟨2,zx T⟩]
 subst hN
 obtain⟨us,rfl,hu⟩:=jk w.mem
 have ul:=mv w nn
 rw[aae]at ul
 have:=fR ps ts
 have S5:us≠[]:=λz=>by
  subst z
  exact s.ne w
 refine ao λN hN=>aX λA1 B1 DK BS=>?_
 lia
 refine ab (z:=.bl false) rfl (ab (z:=false) rfl ?_)
 rw[if_neg (by simp)]
 subst BS
 show N [some ⟨0,iN ps ts⟩,some ⟨0,.str one⟩,some ⟨0,.str lT⟩,some ⟨0,.tup ((Be ps ts).map .str)⟩,some ⟨0,.tup ((us.map iF.nm).map .str)⟩,none,none,some ⟨2,zx T⟩]
 subst hN
 refine ao λN hN=>?_
 lia
 simp only[zw]
 lia
 refine⟨rfl,ps,ts,us,rfl,by omega,nd,by omega,nn,λu h=>(aB (hu u h)).1,S5,λt ht=>?_⟩
 have D:Bx ps ts one lT (us.map iF.nm) t:=ht.Rm nd w nn hu
 have tm:=(aB D.ht).1
 show N [some ⟨0,iN ps ts⟩,some ⟨0,.str one⟩,some ⟨0,.str lT⟩,some ⟨0,.tup ((Be ps ts).map .str)⟩,some ⟨0,.tup ((us.map iF.nm).map .str)⟩,some ⟨0,.str t.nm⟩,none,some ⟨2,zx T⟩]
 subst hN
 refine ao λN hN=>?_
 lia
 refine cm (M8 (AB ps ts t)) (λx hx R hR=>?_) (by simp;omega) ?_
 .obtain⟨n,hn,rfl⟩:=List.mem_map.mp hx
  rw[cU]at hn
  obtain⟨u,Ep,rfl⟩:=List.mem_map.mp hn
  refine⟨ps,ts,u,t,rfl,by omega,nd,(aB Ep).1,tm,ab rfl ?_⟩
  have e:decide (u.nm∈AB ps ts t)=decide (Ao u t):=decide_eq_decide.mpr (by
   rw[C6]
   constructor
   .rintro⟨v,hv,c,e⟩
    rw[<- aQ (ck nd) hv Ep e];exact c
   .exact λc=>⟨u,Ep,c,rfl⟩)
  replace hR:R (if decide (u.nm∈AB ps ts t)=true then some (.str u.nm)else none) _:=hR
  rw[e]at hR
  cases e2:decide (Ao u t)with
  |false=>rw[e2]at hR;exact hR
  |true=>rw[e2]at hR;exact hR
 rw[aaO,acg]
 have e:(Be ps ts).filterMap (M8 (AB ps ts t) ∘ PV.str)=(AB ps ts t).map .str:=(bp (λn=>decide (n∈AB ps ts t)) PV.str _).trans (by rw[wb nd])
 rw[e]
 have ll:(AB ps ts t).length<=60:=by
  unfold AB
  rw[aae]
  have:=aaK (λu=>decide (Ao u t)) (zd ps ts)
  omega
 show N [some ⟨0,iN ps ts⟩,some ⟨0,.str one⟩,some ⟨0,.str lT⟩,some ⟨0,.tup ((Be ps ts).map .str)⟩,some ⟨0,.tup ((us.map iF.nm).map .str)⟩,some ⟨0,.str t.nm⟩,some ⟨0,.lst ((AB ps ts t).map .str)⟩,some ⟨2,zx T⟩]
 subst hN
 lia
 refine⟨ps,AB ps ts t,ts,.inr rfl,by omega,by omega,?_⟩
 have fl:=aaK (Ae (AB ps ts t)) ts
 refine⟨ps,ts.filter (Ae (AB ps ts t)),rfl,⟨s.ok.rise,λu hu=>fw (s.ok.tie u (List.mem_filter.mp hu).1).lt,s.pl,by omega⟩,?_⟩
 refine⟨ps,zP ps (ts.filter (Ae (AB ps ts t))),one,rfl,s.ok.rise,s.h1,λp _=>pO,s.pl,?_⟩
 have:=hD _ t D
 unfold AO at this
 rw[<- qU nd tm]at this
 exact this
theorem mr(l:List PV):A0 [.lst (l.map λ_=>PV.bl true)]=some (.bl true):=by rw[ue,uL]
theorem mN(xs:List PV)(P:PV->Prop)(h:ed xs P):Q.run 3 dH xs P:=by
 obtain⟨ps,ts,us,rfl,ok,tl,ul,hu,h⟩:=h
 unfold dH
 refine ao λN hN=>?_
 lia
 refine aU (λ_=>.bl true) (λx hx R hR=>?_) (by simp;omega) ?_
 .obtain⟨n,hn,rfl⟩:=List.mem_map.mp hx
  obtain⟨u,Ep,rfl⟩:=List.mem_map.mp hn
  have w:=(ok.tie u (hu u Ep).1).nm
  refine⟨_,rfl,jC w,?_⟩
  show R (.bl (FT u.nm)) _
  rw[DQ.mpr w]
  exact hR
 rw[aaO]
 refine ab (mr _) ?_
 lia
 show N [some ⟨0,iN ps ts⟩,some ⟨0,.tup ((us.map iF.nm).map .str)⟩,none]
 subst hN
 refine ao λN hN=>?_
 lia
 refine⟨ps,ts,rfl,tl,?_⟩
 lia
 subst hN
 lia
 refine aU (λ_=>.bl true) (λx hx R hR=>?_) (by simp;omega) ?_
 .obtain⟨n,hn,rfl⟩:=List.mem_map.mp hx
  obtain⟨u,Ep,rfl⟩:=List.mem_map.mp hn
  refine ab aW ?_
  rw[decide_eq_true (show u.nm∈fq ps ts from aaX (List.mem_filter.mpr (hu u Ep)))]
  exact hR
 rw[aaO]
 exact ab (mr _) h
theorem kK:lE (.lst ((l++[a]).map .str)) (.int (-1))=some (.str a):=by
 refine uK ?_
 rw[aaj,aae,aaJ,acb (by simp)]
 simp
theorem x9(h:x∉l):AY (.str x) (.lst (l.map .str))=some (.bl false):=by rw[ng,decide_eq_false h]
theorem re(xs:List PV)(P:PV->Prop)(h:g5 xs P):Q.run 9 gz xs P:=by
 obtain⟨ps,ts,os,ns,one,lT,rfl,tl,nd,ho,w,nl,h⟩:=h
 unfold gz
 refine ao λN hN=>?_
 lia
 refine⟨ps,ts,rfl,tl,nd,?_⟩
 lia
 subst hN
 refine ao λN hN=>?_
 lia
 subst hN
 refine ao λN hN=>bT λG B hG hB=>?_
 lia
 subst hG hB
 refine bg (λi e=>∃(seen:List Str) (a:Str) (v6 v7 v8:Option Sl),e=[some ⟨0,iN ps ts⟩,some ⟨0,.tup (ns.map .str)⟩,some ⟨0,.str one⟩,some ⟨0,.str lT⟩,some ⟨0,.zB (ts.map λt=>(aas t.nm,gE t))⟩,some ⟨1,.lst ((seen++[a]).map .str)⟩,v6,v7,v8]/\seen.length=i/\GY os (seen++[a]) a (ns.drop i) lT) (i:=0) ⟨[],one,none,none,none,rfl,rfl,w⟩ ?_ ?_
 case refine_2=>
  rintro e ⟨seen,a,v6,v7,v8,rfl,_,hy⟩
  rw[abx,aae,ae4]at hy
  have:a=lT:=hy
  subst this
  show N _
  subst hN
  lia
  simp only[Cy]
  lia
  refine ab kK (ab (eq_str _ _) ?_)
  rw[beq_self_eq_true]
  exact h
 rintro j x e M hj ⟨seen,a,v6,v7,v8,rfl,sl,hy⟩ k
 rw[abx]at hy k sl
 have OI:j<ns.length:=by have:=(List.getElem?_eq_some_iff.mp hj).1;rwa [aae]at this
 have ex:x=.str ns[j]:=by
  rw[aaj,aab OI]at hj
  exact(aao hj).symm
 subst ex
 rw[ach OI]at hy
 obtain⟨t,ht,en,c,q,hc,hy⟩:=hy
 obtain⟨IT,Gv⟩:=ho t ht
 have e5:lE (.zB (ts.map λt=>((aas t.nm:Key),gE t))) (.str ns[j])=some (gE t):=by rw[<- en];exact bj (f:=iF.nm) (g:=gE) nd IT
 show rW _ _ _ [some ⟨0,iN ps ts⟩,some ⟨0,.tup (ns.map .str)⟩,some ⟨0,.str one⟩,some ⟨0,.str lT⟩,some ⟨0,.zB (ts.map λt=>(aas t.nm,gE t))⟩,some ⟨1,.lst ((seen++[a]).map .str)⟩,some ⟨0,.str ns[j]⟩,v7,v8]
 refine ao λN2 Lh=>?_
 lia
 refine ab e5 (ab (z:=.tup ([t.one,t.lT].map .str)) rfl ?_)
 show N2 [some ⟨0,iN ps ts⟩,some ⟨0,.tup (ns.map .str)⟩,some ⟨0,.str one⟩,some ⟨0,.str lT⟩,some ⟨0,.zB (ts.map λt=>(aas t.nm,gE t))⟩,some ⟨1,.lst ((seen++[a]).map .str)⟩,some ⟨0,.str ns[j]⟩,some ⟨0,.tup ([t.one,t.lT].map .str)⟩,v8]
 subst Lh
 refine ao λN2 Lh=>aX λA1 B1 DK BS=>?_
 lia
 simp only[Cy]
 lia
 refine ab kK (ab (mT _ [t.one,t.lT]) (ab rfl ?_))
 have ym:a∈[t.one,t.lT]:=by
  rcases q with ⟨q,_⟩|⟨q,_⟩<;>rw[<- q]<;>simp
 rw[decide_eq_true ym,if_neg (by simp)]
 subst BS
 show N2 [some ⟨0,iN ps ts⟩,some ⟨0,.tup (ns.map .str)⟩,some ⟨0,.str one⟩,some ⟨0,.str lT⟩,some ⟨0,.zB (ts.map λt=>(aas t.nm,gE t))⟩,some ⟨1,.lst ((seen++[a]).map .str)⟩,some ⟨0,.str ns[j]⟩,some ⟨0,.tup ([t.one,t.lT].map .str)⟩,v8]
 subst Lh
 refine ao λN2 Lh=>?_
 lia
 simp only[Mk,Cy,yZ]
 lia
 simp only[Cy]
 lia
 refine ab kK (ab (z:=.str t.one) (au (j:=0) rfl) (ab (eq_str _ _) (ab rfl ?_)))
 have key:N2 [some ⟨0,iN ps ts⟩,some ⟨0,.tup (ns.map .str)⟩,some ⟨0,.str one⟩,some ⟨0,.str lT⟩,some ⟨0,.zB (ts.map λt=>(aas t.nm,gE t))⟩,some ⟨1,.lst ((seen++[a]).map .str)⟩,some ⟨0,.str ns[j]⟩,some ⟨0,.tup ([t.one,t.lT].map .str)⟩,some ⟨0,.str c⟩]:=by
  subst Lh
  refine ao λN3 Ut=>aX λA1 B1 DK BS=>?_
  lia
  refine ab (x9 hc) (ab rfl ?_)
  rw[if_neg (by simp)]
  subst BS
  show N3 [some ⟨0,iN ps ts⟩,some ⟨0,.tup (ns.map .str)⟩,some ⟨0,.str one⟩,some ⟨0,.str lT⟩,some ⟨0,.zB (ts.map λt=>(aas t.nm,gE t))⟩,some ⟨1,.lst ((seen++[a]).map .str)⟩,some ⟨0,.str ns[j]⟩,some ⟨0,.tup ([t.one,t.lT].map .str)⟩,some ⟨0,.str c⟩]
  subst Ut
  lia
  refine ab (Fs (by simp;omega)) ?_
  exact k _ ⟨seen++[a],c,_,_,_,by rw[aa2 (l₁:=seen++[a])];rfl,by simp;omega,hy⟩
 rcases q with ⟨q1,q2⟩|⟨q1,q2⟩
 .subst q1 q2
  rw[beq_self_eq_true,if_pos rfl]
  refine ab (z:=.str t.lT) (au (j:=1) rfl) ?_
  exact key
 .subst q1 q2
  rw[show (t.lT==t.one)=false from beq_eq_false_iff_ne.mpr Gv.symm,if_neg (by simp)]
  refine ab (z:=.str t.one) (au (j:=0) rfl) ?_
  exact key
theorem kD(xs:List PV)(P:PV->Prop)(h:cM xs P):Q.run 4 cA xs P:=by
 obtain⟨ps,side,ts,one,lT,rfl,up,hs,sl,h1,h2,h⟩:=h
 unfold cA
 refine ao λN hN=>?_
 lia
 refine uY up (λx hx=>(hs x hx).1) sl ?_
 lia
 refine aU (λ_=>.bl true) (λx hx R hR=>?_) (by simp;omega) ?_
 .obtain⟨n,hn,rfl⟩:=List.mem_map.mp hx
  refine ab (IK ps ts) (ab aW ?_)
  rw[decide_eq_true (hs n hn).2]
  exact hR
 rw[aaO]
 refine ab (mr _) ?_
 lia
 show N [some ⟨0,iN ps ts⟩,some ⟨0,.tup (side.map .str)⟩,some ⟨0,.str one⟩,some ⟨0,.str lT⟩]
 subst hN
 lia
 refine ab aW ?_
 rw[decide_eq_true h1]
 lia
 refine ab (mT _ _) ?_
 rw[decide_eq_false h2]
 exact h
section
variable{one lT:Str}
theorem xu(nd:(ts.map iF.nm).Nodup)(ht:t∈ts)(hu:u∈ts)(ho:D8 ps (aO ps (Aa ts t) one) u=true):¬ Ao u t:=λc=>by
 unfold D8 at ho
 rw[aaC,Bool.not_eq_true',decide_eq_false_iff_not]at ho
 obtain⟨o,ne⟩:=ho
 refine ne (decide_eq_decide.mpr ?_)
 obtain⟨o1,o2⟩:=AE.mp o
 have e:zN (zP ps (Aa ts t)) u.one u.lT:=by
  rw[<- kZ]
  exact fZ (λu hu=>(List.mem_filter.mp hu).2) (List.mem_filter.mpr ⟨BA.mpr ⟨hu,jW nd hu ht c,c⟩,o⟩)
 rw[Au,Au]
 exact⟨λz=>⟨o2,z.2.trans e⟩,λz=>⟨o1,z.2.trans (Jw e)⟩⟩
theorem Bx.RK(nd:(ts.map iF.nm).Nodup)(d:Bx ps ts one lT ns t):GY (zd ps ts) [one] one ns lT :=
 qz (lr nd) d.w d.nd λs hs=>by
  rw[List.mem_singleton.mp hs]
  exact⟨[],rfl,d.nd⟩
end
theorem yQ(l:List PV):Gm [.lst (l.map λ_=>PV.bl false)]=some (.bl false):=by
 have e:(l.map λ_=>PV.bl false).mapM CC=some (l.map λ_=>false):=by
  induction l with
  |nil=>rfl
  |cons a l ih=>rw[aar,abo,ih];rfl
 show ((l.map λ_=>PV.bl false).mapM CC).map (λbs=>PV.bl (bs.any id))=_
 rw[e]
 show some (PV.bl ((l.map λ_=>false).any id))=_
 congr 2
 rw[List.any_eq_false]
 intro x hx
 obtain⟨_,_,rfl⟩:=List.mem_map.mp hx
 simp
theorem iu(T:Addr×Addr)(c:PV)(xs:List PV)(P:PV->PV->Prop)(h:bD T c xs P):Q.BE 7 (bZ T) c xs P:=by
 obtain⟨rfl,ps,ts,one,lT,ns,t,rfl,s,D,h⟩:=h
 have nd:=cI s.ok
 have tl:=s.tl
 have pl:=s.pl
 have tm:=(aB D.ht).1
 obtain⟨us,rfl,hu,top⟩:=D.us nd
 have ul:=mv D.w D.nd
 rw[aae]at ul
 have:=fR ps ts
 have ol:(aO ps (Aa ts t) one).length<=ps.length:=aaK _ _
 unfold bZ AO
 simp only[BE,Eh,Gg]
 refine ao λN hN=>aX λA1 B1 DK BS=>?_
 lia
 refine ab (z:=.bl false) rfl (ab (z:=false) rfl ?_)
 rw[if_neg (by simp)]
 subst BS
 show N [some ⟨0,iN ps ts⟩,some ⟨0,.str one⟩,some ⟨0,.str lT⟩,some ⟨0,.tup [.tup ((us.map iF.nm).map .str),.tup ((aO ps (Aa ts t) one).map .str)]⟩,none,none,none,some ⟨2,zx T⟩]
 subst hN
 refine ao λN hN=>?_
 lia
 show N [some ⟨0,iN ps ts⟩,some ⟨0,.str one⟩,some ⟨0,.str lT⟩,some ⟨0,.tup [.tup ((us.map iF.nm).map .str),.tup ((aO ps (Aa ts t) one).map .str)]⟩,some ⟨0,.tup ((us.map iF.nm).map .str)⟩,some ⟨0,.tup ((aO ps (Aa ts t) one).map .str)⟩,none,some ⟨2,zx T⟩]
 subst hN
 refine ao λN hN=>aX λA1 B1 DK BS=>?_
 lia
 refine⟨ps,ts,us,rfl,s.ok,by omega,by omega,λu h=>⟨(aB (hu u h)).1,bN u (hu u h)⟩,?_⟩
 lia
 refine⟨ps,ts,zd ps ts,us.map iF.nm,one,lT,rfl,by omega,nd,λu h=>⟨(aB h).1,fw (s.ok.tie u (aB h).1).lt⟩,D.RK nd,by rw[aae];omega,?_⟩
 lia
 refine⟨ps,aO ps (Aa ts t) one,ts,one,lT,rfl,s.ok.rise.sublist acT,λx hx=>⟨s.ok.word x (Au.mp hx).1,(Au.mp hx).1⟩,by omega,Au.mpr ⟨s.h1,.refl⟩,λz=>D.no nd (Au.mp z).2,?_⟩
 lia
 subst BS
 show N [some ⟨0,iN ps ts⟩,some ⟨0,.str one⟩,some ⟨0,.str lT⟩,some ⟨0,.tup [.tup ((us.map iF.nm).map .str),.tup ((aO ps (Aa ts t) one).map .str)]⟩,some ⟨0,.tup ((us.map iF.nm).map .str)⟩,some ⟨0,.tup ((aO ps (Aa ts t) one).map .str)⟩,none,some ⟨2,zx T⟩]
 subst hN
 refine ao λN hN=>?_
 lia
 simp only[zw]
 lia
 refine⟨rfl,ps,ts,us,rfl,by omega,nd,by omega,D.nd,λu h=>(aB (hu u h)).1,(λz=>by rw[z]at top;exact nomatch top.1),λt' J9=>?_⟩
 have et:t'=t:=aci λne=>by
  have ne':t'.nm≠t.nm:=λz=>ne (aQ (ck nd) (hu _ J9.1) (hu _ top.1) z)
  exact sL (top.2 t' J9.1 ne') (J9.2 t top.1 ne'.symm)
 subst et
 show N [some ⟨0,iN ps ts⟩,some ⟨0,.str one⟩,some ⟨0,.str lT⟩,some ⟨0,.tup [.tup ((us.map iF.nm).map .str),.tup ((aO ps (Aa ts t') one).map .str)]⟩,some ⟨0,.tup ((us.map iF.nm).map .str)⟩,some ⟨0,.tup ((aO ps (Aa ts t') one).map .str)⟩,some ⟨0,.str t'.nm⟩,some ⟨2,zx T⟩]
 subst hN
 lia
 refine⟨ps,aO ps (Aa ts t') one,ts,rfl,by omega,?_⟩
 lia
 have fl:=aaK (D8 ps (aO ps (Aa ts t') one)) ts
 refine aU (λ_=>.bl false) (λx hx R hR=>?_) (by simp;omega) ?_
 .obtain⟨n,hn,rfl⟩:=List.mem_map.mp hx
  obtain⟨u,Ep,rfl⟩:=List.mem_map.mp hn
  obtain⟨u1,u2⟩:=List.mem_filter.mp Ep
  refine⟨ps,ts,u,t',rfl,by omega,nd,u1,tm,?_⟩
  rw[decide_eq_false (xu nd tm u1 u2)]
  exact hR
 rw[aaO]
 refine ab (yQ _) ?_
 lia
 exact h
theorem vD(xs:List PV)(P:PV->Prop)(h:iq xs P):Q.run 1 j0 xs P:=by
 obtain⟨t,rfl,h⟩:=h
 unfold j0
 lia
 exact ab (z:=.int t.cost) (au (j:=3) rfl) (ab (z:=.str t.nm) (au (j:=0) rfl) h)
theorem vR:AU (.str x) (.lst (l.map .str))=some (.bl (!decide (x∈l))):=by
 show (Ig _ _).map _=_
 rw[m8];rfl
def JQ(t:iF):PV->PV
 |.lst ys=>.lst (gE t::ys)
 |_=>.oR
theorem uE(t:iF)(rs:List (List iF)):(rs.map λr=>PV.lst (r.map gE)).map (JQ t)=(rs.map (t::·)).map λr=>PV.lst (r.map gE):=by
 rw[aaw,aaw];rfl
theorem tR(n:Nat)(xs:List PV)(P:PV->Prop)(h:gp (n+1) xs P):Q.run 7 (fO (gp n)) xs P:=by
 obtain⟨_,ps,os,met,here,lT,rfl,M,hn,Sd,h⟩:=h
 have ol:=M.ol
 have hh:here∉met:=λz=>by
  have:=M.nd
  rw[acm]at this
  exact this.2.2 _ z _ (by simp) rfl
 unfold fO
 refine ao λN hN=>aX λA1 B1 DK BS=>?_
 lia
 refine ab (eq_str _ _) (ab rfl ?_)
 by_cases e:here=lT
 .subst e
  rw[beq_self_eq_true,if_pos rfl]
  subst DK
  lia
  refine h [[]] ⟨λr hr=>?_,λns w=>?_,Nat.one_le_two_pow,λr hr=>by rw[List.mem_singleton.mp hr];exact aaN _⟩
  .rw[List.mem_singleton.mp hr];rfl
  .cases ns with
   |nil=>exact⟨[],by simp,rfl⟩
   |cons m ns=>exact absurd (aay _ (by simp)) (w.last (by simp))
 rw[show (here==lT)=false from beq_eq_false_iff_ne.mpr e,if_neg (by simp)]
 subst BS
 show N [some ⟨0,.lst (os.map gE)⟩,some ⟨0,.str here⟩,some ⟨0,.str lT⟩,some ⟨0,.lst ((met++[here]).map .str)⟩,none,none,none]
 subst hN
 refine ao λN hN=>?_
 lia
 show N [some ⟨0,.lst (os.map gE)⟩,some ⟨0,.str here⟩,some ⟨0,.str lT⟩,some ⟨0,.lst ((met++[here]).map .str)⟩,some ⟨1,.lst []⟩,none,none]
 subst hN
 refine ao λN hN=>bT λG B hG hB=>?_
 lia
 subst hG hB
 have OV:∀d,d<=(goes os (met++[here]) here).length->d*2 ^ (free os (met++[here])).length<=4096:=λd hd=>by
  have h1:=oE hh (λt ht=>(M.ok t ht).1) hd
  have h2:(free os met).length<=os.length:=aaK _ _
  have h3:2 ^ (free os met).length<=2 ^ 12:=aee (by omega) (by omega)
  omega
 refine bg (λj e=>∃(rs:List (List iF)) (v5 v6:Option Sl),e=[some ⟨0,.lst (os.map gE)⟩,some ⟨0,.str here⟩,some ⟨0,.str lT⟩,some ⟨0,.lst ((met++[here]).map .str)⟩,some ⟨1,cD rs⟩,v5,v6]/\(∀r∈rs,Rd os here r lT/\r.length<=n+1) /\
  (∀t∈os.take j,∀c,Ends t here c->c∉met++[here]->∀ns,GY os ((met++[here])++[c]) c ns lT->∃r∈rs,r.map iF.nm=t.nm::ns)/\rs.length<=(goes (os.take j) (met++[here]) here).length*2 ^ (free os (met++[here])).length) (i:=0)
  ⟨[],none,none,rfl,by simp,by simp,by simp⟩ ?_ ?_
 case refine_2=>
  rintro e ⟨rs,v5,v6,rfl,sd,fl,ln⟩
  rw[abx,aae,abG]at fl ln
  show N _
  subst hN
  refine h rs ⟨λr hr=>(sd r hr).1,λns w=>?_,abg ln (oE hh (λt ht=>(M.ok t ht).1) (aal _)),λr hr=>(sd r hr).2⟩
  cases ns with
  |nil=>exact absurd w e
  |cons m ns=>
   obtain⟨t,ht,rfl,c,q,hc,w⟩:=w
   exact fl t ht c q hc ns w
 rintro j x e' M' hx ⟨rs,v5,v6,rfl,sd,fl,ln⟩ k
 rw[abx]at k fl ln
 have hj:j<os.length:=by have:=(List.getElem?_eq_some_iff.mp hx).1;rwa [aae]at this
 have ex:x=gE os[j]:=by
  rw[aaj,aab hj]at hx
  exact(aao hx).symm
 subst ex
 have ht:os[j]∈os:=abH _
 obtain⟨Gv,to⟩:=M.ok _ ht
 obtain⟨t1,t2⟩:=AE.mp to
 generalize et:os[j]=t at ht Gv to t1 t2
 have tk:os.take (j+1)=os.take j++[t]:=by rw[acx,aab hj,et];rfl
 have gs:goes (os.take (j+1)) (met++[here]) here=goes (os.take j) (met++[here]) here++goes [t] (met++[here]) here:=by unfold goes;rw[tk,aex]
 have sub:(goes (os.take (j+1)) (met++[here]) here).length<=(goes os (met++[here]) here).length:=(((adE _ _).filter _).length_le)
 have skip:(∀c,Ends t here c->c∈met++[here])->∀v5 v6:Option Sl,M' [some ⟨0,.lst (os.map gE)⟩,some ⟨0,.str here⟩,some ⟨0,.str lT⟩,some ⟨0,.lst ((met++[here]).map .str)⟩,some ⟨1,cD rs⟩,v5,v6]:=λno v5 v6=>by
  refine k _ ⟨rs,v5,v6,rfl,sd,λu hu c q hc ns w=>?_,?_⟩
  .rw[tk]at hu
   rcases List.mem_append.mp hu with z|z
   .exact fl u z c q hc ns w
   .rw[List.mem_singleton.mp z]at q
    exact absurd (no c q) hc
  .refine abg ln (Nat.mul_le_mul_right _ ?_)
   rw[gs,aaJ];omega
 show Bz _ _ _ _ [some ⟨0,.lst (os.map gE)⟩,some ⟨0,.str here⟩,some ⟨0,.str lT⟩,some ⟨0,.lst ((met++[here]).map .str)⟩,some ⟨1,cD rs⟩,some ⟨0,gE t⟩,v6]
 refine aX λA1 B1 DK BS=>?_
 lia
 refine ab (z:=.tup ([t.one,t.lT].map .str)) rfl (ab aW (ab rfl ?_))
 by_cases hm:here∈[t.one,t.lT]
 case neg=>
  rw[decide_eq_false hm,if_neg (by simp)]
  subst BS
  refine skip (λc q=>absurd ?_ hm) _ _
  rcases q with ⟨q,_⟩|⟨q,_⟩<;>rw[<- q]<;>simp
 rw[decide_eq_true hm,if_pos rfl]
 subst DK
 obtain⟨c,q⟩:∃c,Ends t here c:=by
  simp only[aaZ,aa1,or_false]at hm
  rcases hm with z|z
  .exact⟨t.lT,.inl ⟨z.symm,rfl⟩⟩
  .exact⟨t.one,.inr ⟨z.symm,rfl⟩⟩
 have cp:c∈ps:=by rcases q with ⟨_,q⟩|⟨_,q⟩<;>rw[<- q]<;>assumption
 refine ao λN2 Lh=>?_
 lia
 simp only[Mk,yZ]
 lia
 refine ab (z:=.str t.one) (au (j:=1) rfl) (ab (eq_str _ _) (ab rfl ?_))
 have key:N2 [some ⟨0,.lst (os.map gE)⟩,some ⟨0,.str here⟩,some ⟨0,.str lT⟩,some ⟨0,.lst ((met++[here]).map .str)⟩,some ⟨1,cD rs⟩,some ⟨0,gE t⟩,some ⟨0,.str c⟩]:=by
  subst Lh
  refine aX λA1 B1 DK BS=>?_
  lia
  refine ab vR (ab rfl ?_)
  by_cases hc:c∈met++[here]
  .rw[decide_eq_true hc,if_neg (by simp)]
   subst BS
   exact skip (λd qd=>by rw[<- q.one Gv qd];exact hc) _ _
  rw[decide_eq_false hc,ac8,if_pos rfl]
  subst DK
  have LR:((met++[here])++[c]).Nodup:=by
   rw[acm]
   exact⟨M.nd,by simp,λa ha b hb=>by rw[List.mem_singleton.mp hb];exact λz=>hc (z ▸ ha)⟩
  have R5:∀x∈(met++[here])++[c],x∈ps:=λx hx=>by
   rcases List.mem_append.mp hx with z|z
   .exact M.GF x z
   .rw[List.mem_singleton.mp z];exact cp
  have l2:=bA LR R5
  simp only[aaJ,aaL,abE]at l2
  have g1:goes [t] (met++[here]) here=[t]:=by
   unfold goes
   rw[ab3]
   rw[if_pos]
   .rfl
   .rw[acG,aaC,aaC,decide_eq_true_eq,decide_eq_true_eq,decide_eq_true_eq,decide_eq_true_eq]
    rcases q with ⟨q1,q2⟩|⟨q1,q2⟩
    .exact .inl ⟨q1,by rw[q2];exact hc⟩
    .exact .inr ⟨q1,by rw[q2];exact hc⟩
  rw[g1]at gs
  lia
  refine⟨trivial,ab (z:=PV.lst (((met++[here])++[c]).map .str)) (by rw[aa2 (l₁:=met++[here])];exact if_pos (by simp;omega)) ?_⟩
  refine⟨by omega,ps,os,met++[here],c,lT,rfl,⟨M.ol,M.ok,LR,R5⟩,by simp;omega,by simp;omega,λPL W=>?_⟩
  have wl:=W.len
  have J8:rs.length+PL.length<=(goes (os.take (j+1)) (met++[here]) here).length*2 ^ (free os (met++[here])).length:=by
   rw[gs,aaJ,Nat.add_mul]
   have:[t].length*2 ^ (free os (met++[here])).length=2 ^ (free os (met++[here])).length:=Nat.one_mul _
   omega
  have b4:=OV _ sub
  unfold cD
  lia
  refine aU (JQ t) (λx hx R hR=>?_) (by simp;omega) ?_
  .obtain⟨r,hr,rfl⟩:=List.mem_map.mp hx
   have sr:=W.sh r hr
   refine ab (z:=.lst (gE t::r.map gE)) (by
    show (if [gE t].length+(r.map gE).length<=100000 then _ else _)=_
    rw[if_pos (by rw[aae];simp;omega)];rfl) ?_
   exact hR
  rw[aaO,uE]
  refine ab (z:=(.oR,(rs++PL.map (t::·)).map λr=>PV.lst (r.map gE))) ?_ ?_
  .rw[aa2]
   exact if_pos (by simp;omega)
  refine k _ ⟨rs++PL.map (t::·),_,_,rfl,λr hr=>?_,λu hu d qd hd ns w=>?_,by simp;omega⟩
  .rcases List.mem_append.mp hr with z|z
   .exact sd r z
   .obtain⟨r',R8,rfl⟩:=List.mem_map.mp z
    exact⟨⟨ht,c,q,W.sound r' R8⟩,Nat.succ_le_succ (W.sh r' R8)⟩
  .rw[tk]at hu
   rcases List.mem_append.mp hu with z|z
   .obtain⟨r,hr,er⟩:=fl u z d qd hd ns w
    exact⟨r,aaQ _ hr,er⟩
   .have z:=List.mem_singleton.mp z
    subst z
    have:=q.one Gv qd
    subst this
    obtain⟨r,hr,er⟩:=W.full ns w
    exact⟨u::r,aay _ (aaX hr),by rw[aar,er]⟩
 rcases q with ⟨q1,q2⟩|⟨q1,q2⟩
 .rw[show (here==t.one)=true from beq_iff_eq.mpr q1.symm,if_pos rfl]
  refine ab (z:=.str c) (by rw[<- q2];exact au (j:=2) rfl) ?_
  exact key
 .rw[show (here==t.one)=false from beq_eq_false_iff_ne.mpr (λz=>Gv (z.symm.trans q1.symm)),if_neg (by simp)]
  refine ab (z:=.str c) (by rw[<- q2];exact au (j:=1) rfl) ?_
  exact key
def EL(k:Int×Str):PV:=.tup [.int k.1,.str k.2]
theorem mG:∀ks:List (Int×Str),(ks.map EL).mapM BY=some ks
 |[]=>rfl
 |k::ks=>by rw[aar,abo,mG ks];rfl
theorem nX{bt:Int×Str->Int×Str->Bool}(h:ks.length≠0):CD bt [.lst (ks.map EL)]=some (EL (zk bt ks)):=by
 show ((ks.map EL).mapM BY).bind _=_
 rw[mG]
 exact if_neg h
theorem jn{f:α->Option β}{g:α->β}:∀{l:List α},(∀x∈l,f x=some (g x))->l.mapM f=some (l.map g)
 |[],_=>rfl
 |x::l,h=>by rw[abo,h x aaq,jn λy hy=>h y (aan _ hy)];rfl
theorem yR(k:Int×Str):neT (EL k) (EL k)=some (.bl false):=by
 show (([(PV.int k.1,PV.int k.1),(PV.str k.2,PV.str k.2)].mapM λp=>zA 59 p.1 p.2).map λbs=>bs.all id && (2==2)).map (λb=>PV.bl (!b))=_
 rw[jn (g:=λ_=>true) λx hx=>?_]
 .rfl
 .simp only[aaZ,aa1,or_false]at hx
  rcases hx with rfl|rfl
  .show some (k.1==k.1)=_;simp
  .show some (k.2==k.2)=_;simp
theorem wJ(a b:List Str):zA 60 (.lst (a.map .str)) (.lst (b.map .str))=some (decide (a=b)):=by
 have t:=pA (d:=58) a b
 change (((a.map PV.str).zip (b.map PV.str)).mapM (λp=>zA 59 p.1 p.2)).map (λbs=>bs.all id && (a.map PV.str).length==(b.map PV.str).length)=_ at t
 show (if (a.map PV.str).length=(b.map PV.str).length then (((a.map PV.str).zip (b.map PV.str)).mapM (λp=>zA 59 p.1 p.2)).map (λbs=>bs.all id)else some false)=_
 by_cases h:(a.map PV.str).length=(b.map PV.str).length
 .rw[if_pos h]
  cases e:((a.map PV.str).zip (b.map PV.str)).mapM (λp=>zA 59 p.1 p.2)with
  |none=>rw[e]at t;cases t
  |some bs=>rw[e]at t;rw[<- t,h];simp
 .rw[if_neg h,decide_eq_false λz=>h (by rw[z])]
theorem vS(a b:List Str):neT (.tup (a.map .str)) (.tup (b.map .str))=some (.bl (!decide (a=b))):=by
 show (zA 60 _ _).map _=_
 rw[pA (d:=58)];rfl
theorem rD{qs:List (List Str)}(h:ns∈qs):AU (.lst (ns.map .str)) (.lst (qs.map λq=>.lst (q.map .str)))=some (.bl false):=by
 have e:(qs.map λq=>PV.lst (q.map .str)).mapM (λy=>zA 60 y (.lst (ns.map .str)))=some (qs.map λq=>decide (q=ns)):=by
  rw[List.mapM_map]
  exact jn λq _=>wJ q ns
 show ((((qs.map λq=>PV.lst (q.map .str)).mapM (λy=>zA 60 y (.lst (ns.map .str)))).map λks=>ks.any id)).map (λb=>PV.bl (!b))=_
 rw[e]
 show some (PV.bl (!(qs.map λq=>decide (q=ns)).any id))=_
 have:(qs.map λq=>decide (q=ns)).any id=true:=List.any_eq_true.mpr ⟨true,List.mem_map.mpr ⟨ns,h,by simp⟩,rfl⟩
 rw[this];rfl
def Oy:PV->PV
 |.tup [.str a,.str _,.str _,.int _]=>.str a
 |_=>.oR
def MX:PV->PV
 |.lst ys=>.lst (ys.map Oy)
 |_=>.oR
def IQ:PV->PV
 |.tup [.str a,.str _,.str _,.int d]=>.tup [.int d,.str a]
 |_=>.oR
def Qa:PV->PV
 |.lst ys=>match (ys.map IQ).mapM BY with
  |some ks=>EL (zk gtB ks)
  |none=>.oR
 |_=>.oR
theorem vQ(r:List iF):(r.map gE).map Oy=(r.map iF.nm).map .str:=by rw[aaw,aaw];rfl
theorem m5(r:List iF):(r.map gE).map IQ=(r.map zL).map EL:=by rw[aaw,aaw];rfl
theorem rE(r:List iF):Qa (.lst (r.map gE))=EL (zk gtB (r.map zL)):=by
 show (match ((r.map gE).map IQ).mapM BY with|some ks=>EL (zk gtB ks)|none=>.oR)=_
 rw[m5,mG]
def JG(ns:List Str):PV->Option PV
 |.tup [.str a,.str _,.str _,.int d]=>if decide (a∈ns)=true then some (.tup [.int d,.str a])else none
 |_=>none
theorem rT(ns:List Str)(ts:List iF):(ts.map gE).filterMap (JG ns)=((ts.filter (Ae ns)).map zL).map EL:=by
 rw[acg,aaw]
 exact bp (Ae ns) (EL ∘ zL) ts
theorem rh(T:Addr×Addr)(c:PV)(xs:List PV)(P:PV->PV->Prop)(h:g6 T c xs P):Q.BE 7 (gB T) c xs P:=by
 obtain⟨rfl,ps,ts,one,lT,rfl,s,p7,Vm,h⟩:=h
 have nd:=cI s.ok
 have Gv:∀t∈ts,t.one≠t.lT:=λt ht=>fw (s.ok.tie t ht).lt
 have fl:=aaK (zj ps) ts
 have s':OW ps ts lT one:=⟨s.ok,s.pl,s.tl,s.h2,s.h1,s.ne.symm⟩
 have oo:∀u∈ts.filter (zj ps),zj ps u=true:=λu hu=>(List.mem_filter.mp hu).2
 have met:Met ps (ts.filter (zj ps)) ([]++[one]):=⟨by omega,λt ht=>⟨Gv t (List.mem_filter.mp ht).1,oo t ht⟩,by simp,λx hx=>by rw[List.mem_singleton.mp hx];exact s.h1⟩
 unfold gB
 simp only[BE,Eh,Gg]
 refine ao λN hN=>?_
 lia
 simp only[zw]
 lia
 refine⟨rfl,ps,ts,one,lT,rfl,s,λnr=>?_,λns t D=>?_⟩
 .show N [some ⟨0,iN ps ts⟩,some ⟨0,.str one⟩,some ⟨0,.str lT⟩,some ⟨0,.oR⟩,none,none,none,some ⟨2,zx T⟩]
  subst hN
  refine ao λN hN=>?_
  lia
  refine⟨ps,ts,rfl,by omega,?_⟩
  refine⟨by decide,ps,ts.filter (zj ps),[],one,lT,rfl,met,by simp;omega,by decide,λrs W=>?_⟩
  have r0:rs=[]:=by
   cases rs with
   |nil=>rfl
   |cons r rs=>exact absurd (dF (cv ps ts) (W.sound r aaq).wk) nr
  subst r0
  show N [some ⟨0,iN ps ts⟩,some ⟨0,.str one⟩,some ⟨0,.str lT⟩,some ⟨0,.oR⟩,some ⟨0,.lst []⟩,none,none,some ⟨2,zx T⟩]
  subst hN
  refine ao λN hN=>aX λA1 B1 DK BS=>?_
  lia
  refine ab (z:=.bl true) rfl (ab (z:=true) rfl ?_)
  rw[if_pos rfl]
  subst DK
  lia
  refine ab (z:=.bl true) rfl ?_
  lia
  refine ab (z:=.bl true) rfl ?_
  exact h
 obtain⟨us,rfl,hu,top⟩:=D.us nd
 have wd:=(D.RK nd).mono (os':=ts.filter (zj ps)) λu hu=>List.mem_filter.mpr ⟨(aB hu).1,bN u hu⟩
 show N [some ⟨0,iN ps ts⟩,some ⟨0,.str one⟩,some ⟨0,.str lT⟩,some ⟨0,AO ps ts one (us.map iF.nm) t⟩,none,none,none,some ⟨2,zx T⟩]
 subst hN
 refine ao λN hN=>?_
 lia
 refine⟨ps,ts,rfl,by omega,?_⟩
 refine⟨by decide,ps,ts.filter (zj ps),[],one,lT,rfl,met,by simp;omega,by decide,λrs W=>?_⟩
 obtain⟨r0,LZ,SD⟩:=W.full _ wd
 have Tf:∀r∈rs,(r.map zL).length≠0:=λr hr z=>by
  rw[aae]at z
  have:=W.sound r hr
  rw[List.length_eq_zero_iff.mp z]at this
  exact s.ne this
 have rl:rs.length<=4096:=by
  have h2:(free (ts.filter (zj ps)) []).length<=(ts.filter (zj ps)).length:=aaK _ _
  have h3:2 ^ (free (ts.filter (zj ps)) []).length<=2 ^ 12:=aee (by omega) (by omega)
  have:=W.len
  omega
 have Ti:r0=us:=by
  have:∀(a b:List iF),a.map iF.nm=b.map iF.nm->(∀x∈a,x∈ts)->(∀x∈b,x∈ts)->a=b:=λa=>by
   induction a with
   |nil=>intro b e _ _;cases b with|nil=>rfl|cons _ _=>cases e
   |cons x a ih=>
    intro b e ha hb
    cases b with
    |nil=>cases e
    |cons y b=>
     injection e with e1 e2
     rw[aQ nd (ha x aaq) (hb y aaq) e1,ih b e2 (λz hz=>ha z (aan _ hz)) λz hz=>hb z (aan _ hz)]
  exact this _ _ SD (λx hx=>(List.mem_filter.mp ((W.sound r0 LZ).mem x hx)).1) λx hx=>(aB (hu x hx)).1
 have bt:zk gtB (us.map zL)=zL t:=nU top.1 top.2 λu Ep e=>aQ nd (aB (hu u Ep)).1 (aB D.ht).1 e
 have low:zk (λx b=>gtB b x) (rs.map λr=>zk gtB (r.map zL))=zL t:=uI (List.mem_map.mpr ⟨r0,LZ,by rw[Ti,bt]⟩) λx hx=>by
  obtain⟨r,hr,rfl⟩:=List.mem_map.mp hx
  exact D.road nd (W.sound r hr)
 have Vb:zk gtB ((ts.filter (Ae (us.map iF.nm))).map zL)=zL t:=nU (List.mem_filter.mpr ⟨(aB D.ht).1,AS.mpr D.hn⟩) (λu Ep ne=>by
  obtain⟨a,b⟩:=List.mem_filter.mp Ep
  obtain⟨v,hv,e⟩:=List.mem_map.mp (AS.mp b)
  have:=aQ nd (aB (hu v hv)).1 a e
  subst this
  exact top.2 v hv ne) λu Ep e=>aQ nd (List.mem_filter.mp Ep).1 (aB D.ht).1 e
 have l2:((ts.filter (Ae (us.map iF.nm))).map zL).length≠0:=λz=>by
  rw[aae]at z
  have m:t∈ts.filter (Ae (us.map iF.nm)):=List.mem_filter.mpr ⟨(aB D.ht).1,AS.mpr D.hn⟩
  rw[List.length_eq_zero_iff.mp z]at m;cases m
 have l1:(rs.map λr=>zk gtB (r.map zL)).length≠0:=λz=>by
  rw[aae]at z
  rw[List.length_eq_zero_iff.mp z]at LZ;cases LZ
 have ul:=mv D.w D.nd
 rw[aae]at ul
 have tl:=fR ps ts
 have i0:lE (AO ps ts one (us.map iF.nm) t) (.int 0)=some (.tup ((us.map iF.nm).map .str)):=au (j:=0) rfl
 have R3:Fw (AO ps ts one (us.map iF.nm) t) .oR=some (.bl false):=rfl
 generalize hd:AO ps ts one (us.map iF.nm) t=dv at i0 R3
 show N [some ⟨0,iN ps ts⟩,some ⟨0,.str one⟩,some ⟨0,.str lT⟩,some ⟨0,dv⟩,some ⟨0,cD rs⟩,none,none,some ⟨2,zx T⟩]
 subst hN
 refine ao λN hN=>aX λA1 B1 DK BS=>?_
 lia
 refine ab R3 (ab (z:=false) rfl ?_)
 rw[if_neg (by simp)]
 refine ab (z:=.bl false) (by
  cases rs with
  |nil=>cases LZ
  |cons r rs=>rfl) (ab (z:=false) rfl ?_)
 rw[if_neg (by simp)]
 subst BS
 show N [some ⟨0,iN ps ts⟩,some ⟨0,.str one⟩,some ⟨0,.str lT⟩,some ⟨0,dv⟩,some ⟨0,.lst (rs.map λr=>.lst (r.map gE))⟩,none,none,some ⟨2,zx T⟩]
 subst hN
 refine ao λN hN=>aX λA1 B1 DK BS=>?_
 lia
 refine ab i0 (ab (z:=.lst ((us.map iF.nm).map .str)) rfl ?_)
 refine aU MX (λx hx R hR=>?_) (by simp;omega) ?_
 .obtain⟨r,hr,rfl⟩:=List.mem_map.mp hx
  have sr:=W.sh r hr
  lia
  refine aU Oy (λy hy R' Lg=>?_) (by simp;omega) ?_
  .obtain⟨u,_,rfl⟩:=List.mem_map.mp hy
   exact ab (z:=.str u.nm) (au (j:=0) rfl) Lg
  exact hR
 rw[aaO]
 have e1:(rs.map λr=>PV.lst (r.map gE)).map MX=(rs.map λr=>r.map iF.nm).map λq=>PV.lst (q.map .str):=by
  rw[aaw,aaw]
  exact aa9 λr _=>by show PV.lst ((r.map gE).map Oy)=_;rw[vQ];rfl
 rw[e1]
 refine ab (rD (List.mem_map.mpr ⟨r0,LZ,SD⟩)) (ab (z:=false) rfl ?_)
 rw[if_neg (by simp)]
 subst BS
 show N [some ⟨0,iN ps ts⟩,some ⟨0,.str one⟩,some ⟨0,.str lT⟩,some ⟨0,dv⟩,some ⟨0,.lst (rs.map λr=>.lst (r.map gE))⟩,none,none,some ⟨2,zx T⟩]
 subst hN
 refine ao λN hN=>?_
 lia
 refine aU Qa (λx hx R hR=>?_) (by simp;omega) ?_
 .obtain⟨r,hr,rfl⟩:=List.mem_map.mp hx
  have sr:=W.sh r hr
  lia
  refine aU IQ (λy hy R' Lg=>?_) (by simp;omega) ?_
  .obtain⟨u,_,rfl⟩:=List.mem_map.mp hy
   exact⟨u,rfl,Lg⟩
  rw[aaO,m5]
  refine ab (nX (Tf r hr)) ?_
  rw[<- rE]
  exact hR
 rw[aaO]
 have e2:(rs.map λr=>PV.lst (r.map gE)).map Qa=(rs.map λr=>zk gtB (r.map zL)).map EL:=by
  rw[aaw,aaw]
  exact aa9 λr _=>rE r
 rw[e2]
 refine ab (nX l1) ?_
 rw[low]
 show N [some ⟨0,iN ps ts⟩,some ⟨0,.str one⟩,some ⟨0,.str lT⟩,some ⟨0,dv⟩,some ⟨0,.lst (rs.map λr=>.lst (r.map gE))⟩,some ⟨0,EL (zL t)⟩,none,some ⟨2,zx T⟩]
 subst hN
 refine ao λN hN=>aX λA1 B1 DK BS=>?_
 lia
 refine ab (IJ ps ts) ?_
 lia
 refine cm (JG (us.map iF.nm)) (λx hx R hR=>?_) (by simp;omega) ?_
 .obtain⟨u,Ep,rfl⟩:=List.mem_map.mp hx
  replace hR:R (if decide (u.nm∈us.map iF.nm)=true then some (.tup [.int u.cost,.str u.nm])else none) _:=hR
  refine ab (z:=.str u.nm) (au (j:=0) rfl) (ab i0 (ab aW (ab rfl ?_)))
  cases e:decide (u.nm∈us.map iF.nm)with
  |false=>rw[e]at hR;exact hR
  |true=>rw[e]at hR;exact⟨u,rfl,hR⟩
 rw[aaO,rT]
 refine ab (nX l2) ?_
 rw[Vb]
 refine ab (yR _) (ab (z:=false) rfl ?_)
 rw[if_neg (by simp)]
 subst BS
 show N [some ⟨0,iN ps ts⟩,some ⟨0,.str one⟩,some ⟨0,.str lT⟩,some ⟨0,dv⟩,some ⟨0,.lst (rs.map λr=>.lst (r.map gE))⟩,some ⟨0,EL (zL t)⟩,none,some ⟨2,zx T⟩]
 subst hN
 refine ao λN hN=>?_
 lia
 simp only[zw]
 lia
 have yes:zN (zP ps ts) one lT:=cG (λu hu _=>(DT.mp hu).1) D.yes
 refine⟨rfl,ps,ts,lT,one,rfl,s',λnr=>absurd (Jw yes) nr,λms t' D'=>?_⟩
 have em:=D.turn nd Gv D'
 have R6:lE (AO ps ts lT ms t') (.int 0)=some (.tup (ms.map .str)):=au (j:=0) rfl
 generalize hd2:AO ps ts lT ms t'=SG at R6
 show N [some ⟨0,iN ps ts⟩,some ⟨0,.str one⟩,some ⟨0,.str lT⟩,some ⟨0,dv⟩,some ⟨0,.lst (rs.map λr=>.lst (r.map gE))⟩,some ⟨0,EL (zL t)⟩,some ⟨0,SG⟩,some ⟨2,zx T⟩]
 subst hN
 refine ao λN hN=>aX λA1 B1 DK BS=>?_
 lia
 refine ab R6 (ab i0 (ab (z:=.tup ((us.map iF.nm).reverse.map .str)) (by rw[List.map_reverse];rfl) (ab (vS _ _) (ab rfl ?_))))
 rw[decide_eq_true em,if_neg (by simp)]
 simp only[zw]
 lia
 refine⟨rfl,ps,ts,lT,one,ms,t',by rw[hd2],s',D',?_⟩
 try lia
 refine ab (z:=.bl false) rfl (ab (z:=false) rfl ?_)
 rw[if_neg (by simp)]
 subst BS
 show N [some ⟨0,iN ps ts⟩,some ⟨0,.str one⟩,some ⟨0,.str lT⟩,some ⟨0,dv⟩,some ⟨0,.lst (rs.map λr=>.lst (r.map gE))⟩,some ⟨0,EL (zL t)⟩,some ⟨0,SG⟩,some ⟨2,zx T⟩]
 subst hN
 lia
 simp only[zw]
 lia
 refine⟨rfl,ps,ts,one,lT,us.map iF.nm,t,by rw[hd],s,D,?_⟩
 try lia
 refine ab (z:=.bl true) rfl ?_
 exact h
theorem wK{j:Nat}{x:PV}(h:(DW (ns.map .str))[j]?=some x):∃hj:j<ns.length,x=.tup [.int j,.str ns[j]]:=by
 unfold DW at h
 rw[aaj,List.getElem?_zipIdx,aaj]at h
 rcases aa7 j ns.length with z|z
 .refine⟨z,?_⟩
  rw[aab z]at h
  have h:PV.tup [.int ((0+j:Nat):Int),.str ns[j]]=x:=aao h
  rw[<- h,abx]
 .rw[aap z]at h;cases h
theorem uC(xs:List PV)(j:Nat):BF xs (some ((j:Int)+1)) none=xs.drop (j+1):=by
 unfold BF
 have e:HT.zQ xs.length 0 (some ((j:Int)+1))=min (j+1) xs.length:=by
  show (if ((j:Int)+1)<0 then (((j:Int)+1)+(xs.length:Int)).toNat else min ((j:Int)+1).toNat xs.length)=_
  rw[if_neg (by omega),show ((j:Int)+1).toNat=j+1 by omega]
 rw[e]
 show (xs.drop (min (j+1) xs.length)).take (xs.length - min (j+1) xs.length)=_
 rw[<- ae3,abG]
 rcases Nat.le_total (j+1) xs.length with z|z
 .rw[afj z]
 .rw[aeZ z,ae4,ac5 z]
theorem vC(T:Addr×Addr)(ns:List Int)(x:PV)(hn:ns.length<=63)(hx:x=.A3 ns\/x=.lst (ns.map .int)):Q.BE 6 (g9 T) (zx T) [x] λr c=>r=.bl true/\c=zx T:=by
 unfold g9
 simp only[BE,Eh,Gg]
 refine ao λN hN=>?_
 show Q.AL 1 0 _ [some ⟨0,x⟩,none,none,none,none,none,some ⟨2,zx T⟩]
 refine⟨⟨ns,hx,hn⟩,?_⟩
 show N [some ⟨0,x⟩,some ⟨4,.oR⟩,none,none,none,none,some ⟨2,zx T⟩]
 subst hN
 obtain⟨zs,ez,lz⟩:=vc 5 hx
 refine ao λN hN=>bT λG B hG hB=>?_
 simp only[LS,aS,iD,yU,eC,BC,Iq,eV,CK,Ba,HH,bM,ab4]
 refine ab ez ?_
 lia
 refine ab (z:=.int (2+(zs.length:Int))) rfl ?_
 refine⟨by omega,by omega,?_⟩
 generalize De 0 _=rs
 subst hG hB
 refine bg (λj e=>∃v2 v3 v4 v5:Option Sl,e=[some ⟨0,x⟩,some ⟨4,.oR⟩,v2,v3,v4,v5,some ⟨2,zx T⟩]) (i:=0) ⟨none,none,none,none,rfl⟩ ?_ ?_
 case refine_2=>
  rintro e ⟨v2,v3,v4,v5,rfl⟩
  show N _
  subst hN
  exact⟨rfl,rfl⟩
 rintro j y e M hy ⟨v2,v3,v4,v5,rfl⟩ k
 show rW _ _ _ [some ⟨0,x⟩,some ⟨4,.oR⟩,some ⟨0,y⟩,v3,v4,v5,some ⟨2,zx T⟩]
 refine ao λN hN=>?_
 lia
 refine⟨rfl,7,12,rfl,by decide,by decide,by decide,by decide,λps ts ok hp ht=>?_⟩
 lia
 show N [some ⟨0,x⟩,some ⟨4,.oR⟩,some ⟨0,y⟩,some ⟨0,iN ps ts⟩,v4,v5,some ⟨2,zx T⟩]
 subst hN
 refine bT λG B hG hB=>?_
 lia
 simp only[Qp]
 lia
 refine ab (IK ps ts) ?_
 subst hG hB
 refine bg (λj e=>∃v4 v5:Option Sl,e=[some ⟨0,x⟩,some ⟨4,.oR⟩,some ⟨0,y⟩,some ⟨0,iN ps ts⟩,v4,v5,some ⟨2,zx T⟩]) (i:=0) ⟨v4,v5,rfl⟩ ?_ ?_
 case refine_2=>
  rintro e ⟨v4,v5,rfl⟩
  exact k _ ⟨_,_,_,_,rfl⟩
 rintro j2 z e M2 hz ⟨v4,v5,rfl⟩ k2
 obtain⟨hj,rfl⟩:=wK hz
 refine⟨rfl,?_⟩
 show Bz _ _ _ _ [some ⟨0,x⟩,some ⟨4,.oR⟩,some ⟨0,y⟩,some ⟨0,iN ps ts⟩,some ⟨0,.int j2⟩,some ⟨0,.str ps[j2]⟩,some ⟨2,zx T⟩]
 refine aX λA1 B1 DK BS=>?_
 lia
 refine ab (IK ps ts) ?_
 lia
 refine ab (z:=.int ((j2:Int)+1)) rfl (ab (z:=(j2:Int)+1) rfl ?_)
 rw[uC]
 refine aU (λ_=>.bl true) (λz hz R hR=>?_) (by simp;omega) ?_
 .rw[<- List.map_drop]at hz
  obtain⟨lT,ho,rfl⟩:=List.mem_map.mp hz
  have h2:=List.mem_of_mem_drop ho
  have ne:ps[j2]≠lT:=λq=>by
   have nd:=dw ok.rise
   rw[<- List.take_append_drop (j2+1) ps,acm]at nd
   exact nd.2.2 _ (List.mem_take_iff_getElem.mpr ⟨j2,by omega,rfl⟩) _ ho q
  simp only[zw]
  exact⟨rfl,ps,ts,ps[j2],lT,rfl,⟨ok,by omega,by omega,abH _,h2,ne⟩,by omega,by omega,hR⟩
 rw[aaO]
 refine ab (mr _) ?_
 lia
 try rw[if_neg (by simp)]
 subst BS
 exact k2 _ ⟨_,_,rfl⟩
variable{K:aag}{mg:Str->Option Value}{st:Stmt}
abbrev GQ(P:aaH)(w:World)(base:Heap)(d:Df K mg x st ps)(k:Nat)(D:Fd):Prop:=zf P w K mg base Ak k d.f d.fd ps (Hl ⟨P,w,K,A9 K⟩ ps.length D)
abbrev GO(P:aaH)(w:World)(base:Heap)(d:Df K mg x st ps)(k:Nat)(D:CV):Prop:=zf P w K mg base Ak k d.f d.fd ps (Ic ⟨P,w,K,A9 K⟩ ps.length D)
abbrev GT(P:aaH)(w:World)(base:Heap)(d:Df K mg x st ps)(k:Nat)(D:CV):Prop:=zf P w K mg base Ak k d.f d.fd ps (spT ⟨P,w,K,A9 K⟩ ps.length D)
theorem BJ{N P:List Str}{sc:Scope}(kind:sc.kind=.function:=by rfl)(co:sc.isCoroutine=false:=by rfl)(gen:sc.isGenerator=false:=by rfl)(nd:N.Nodup:=by decide +kernel)(pre:N.take P.length=P:=by rfl)
  (par:∀x∈P,sc.names.lookup x=some .local\/sc.names.lookup x=some .cell:=by decide +kernel) (Fp:∀y∈sc.names,y.2≠.free:=by decide +kernel):aA N P sc:=⟨kind,co,gen,nd,pre,par,Fp⟩
variable{ob:Ap}{X:Cx}{k':Nat}{D:Fd}{DO:CV}{p p1 pos:Pos}{e a b:Expr}{es:List Expr}{fa:WA}{f g:WE}
theorem aT(i:Nat)(hN:X.N[i]?=some x:=by rfl)(hv:Ek X.env.scope x:=by first|exact Or.inl rfl|exact Or.inr (Or.inl rfl)|exact Or.inr (Or.inr rfl))(hd:(x==("__debug__" : Str))=false:=by decide)(Dr:(x==("__classdict__" : Str))=false:=by decide):
  zq ob X (.Name x pos) (eV i):=yh i (pv i hN hv hd Dr)
theorem yX(i:Nat)(hN:X.N[i]?=some x:=by rfl)(hv:Ek X.env.scope x:=by first|exact Or.inl rfl|exact Or.inr (Or.inl rfl)|exact Or.inr (Or.inr rfl))(hd:(x==("__debug__" : Str))=false:=by decide)(Dr:(x==("__classdict__" : Str))=false:=by decide):
  C7 ob X (.Name x pos) (Ai i):=wF i (pv i hN hv hd Dr)
theorem zp{d:Df X.K X.mg x st ps}(F:zf X.prog X.w X.K X.mg X.base Ak k d.f d.fd ps (Hl (md ob X) n D))(hr:zy k' X.A)(ha:Et ob X (e::es) fa)(hk:k<=k':=by decide)(hn:es.length+1=n:=by rfl)(hg:Gl X x:=by rfl)
  (Cr:(x==("__debug__" : Str))=false:=by decide) (he:aam (e::es) X.env=(false,eval e X.env)::aam es X.env:=by rfl) (Bb:(backTo pos (aam es X.env)).any (·.1)=false:=by rfl) :
  zq ob X (.Call (.Name x p) (e::es) [] pos) (zc D fa):=kT F (hr.mono hk) d.n.mg d.n.kp d.b ha hn hg Cr he Bb
theorem zm(i:Nat){d:Df X.K X.mg x st ps}(F:zf X.prog X.w X.K X.mg X.base Ak k d.f d.fd ps (Ic (md ob X) n DO))(hr:zy k' X.A)(ha:Et ob X es fa)(ho:PE X (.Name y p1) (zK i):=by exact pv _)(hk:k<=k':=by decide)(hn:es.length+1=n:=by rfl)(hg:Gl X x:=by rfl)
  (Cr:(x==("__debug__" : Str))=false:=by decide) (he:aam (.Name y p1::es) X.env=(false,eval (.Name y p1) X.env)::aam es X.env:=by rfl) (Bb:(backTo pos (aam es X.env)).any (·.1)=false:=by rfl) :
  zq ob X (.Call (.Name x p) (.Name y p1::es) [] pos) (ze DO i fa):=ux i F (hr.mono hk) d.n.mg d.n.kp d.b ho ha hn hg Cr he Bb
theorem A5(j:Nat){d:Df X.K X.mg x st ps}(F:zf X.prog X.w X.K X.mg X.base Ak k d.f d.fd ps (spT (md ob X) n DO))(hr:zy k' X.A)(ha:Et ob X (e::es) fa)(hk:k<=k':=by decide)(hn:es.length+1=n:=by rfl)(hg:Gl X x:=by rfl)
  (Cr:(x==("__debug__" : Str))=false:=by decide) (he:aam (e::es) X.env=(false,eval e X.env)::aam es X.env:=by rfl) (Bb:(backTo pos (aam es X.env)).any (·.1)=false:=by rfl) :
  zq ob X (.Call (.Name x p) (e::es) [] pos) (zw DO j fa):=uw j F (hr.mono hk) d.n.mg d.n.kp d.b ha hn hg Cr he Bb
theorem zO(hr:zy k X.A)(ha:zq ob X a f)(hb:C7 ob X b g)(hs:fJ b:=by exact λ_ _=>rfl):zq ob X (.Subscript a b pos) (yU lE f g):=yM (JJ hr) ha hb hs
theorem HP(i:Nat)(hr:zy k X.A)(hb:C7 ob X b g)(ha:PE X (.Name x p) (zK i):=by exact pv _)(hs:fJ b:=by exact λ_ _=>rfl):zq ob X (.Subscript (.Name x p) b pos) (Cy lE i g):=yl i (JJ hr) ha hb hs
theorem B6{op:CmpOp}{r:R2}{o:PV->PV->Option PV}(hr:zH X (aaE op) r)(hq:Ce ob X r o)(ha:zq ob X a f)(hb:C7 ob X b g)(hm:acK op b=false:=by first|exact Cp _|rfl):zq ob X (.Compare a [op] [b] pos) (yU o f g):=yo hr hq ha hb hm
theorem zh{op:CmpOp}{r:R2}{o:PV->PV->Option PV}(hr:zH X (aaE op) r)(hq:Ce ob X r o)(ha:zq ob X a f)(hb:C7 ob X b g)(hm:acK op b=false:=by first|exact Cp _|rfl):E7 ob X (.Compare a [op] [b] pos) (yZ (yU o f g)):=wI hr hq ha hb hm
variable{P:aaH}{w:World}{base:Heap}
theorem kI:(["sign"]:List Str).Nodup:=by decide +kernel
theorem Pd:aA ["thing"] ["thing"] (aq j7):=BJ
theorem iO(Y:Ev K mg):GQ P w base Y.Ed 1 cO :=
 aP (bf Y.Ed.F Pd (by decide) (λzr A outer s H E hr=>by
  unfold eJ
  exact(aj (aL (di (dr (bH (aZ (yW (jQ "str" (by decide) Y.Ah Y.JT PyProof.Rows.boot_str (yX 0))))) (cX (bH (uA mj jE mj jE ai (bC jT jU (by rfl) Y.DY adt (ij (yX 0))) (wG (Y.Bv))))))) (ap (az bJ)) aG)
  (ap (az (bC (cj rfl) dX (by rfl) Y.CU abV (C4 (ae (Bk (br (N:=["sign"]) (yr (aT 0)) (λ_ _ _ _ _=>aD (i:=0) kI rfl (Or.inl rfl)) (λ_ _ _ _ _=>ba) (λ_ _ _ _ _=>(ur mj jE mj jE nz (aT 0) nz)))) af)))))))) n6
theorem dP:(["low", "high"]:List Str).Nodup:=by decide +kernel
theorem SR:aA ["words"] ["words"] (aq gI):=BJ
theorem me(Y:Ev K mg):GQ P w base Y.Cu 1 dk :=
 aP (bf Y.Cu.F SR (by decide) (λzr A outer s H E hr=>by
  unfold da
  exact(ap (az (bC (cj rfl) dX (by rfl) Y.CU abV (C4 (ae (Bk (br (N:=["low", "high"]) (yq (by rfl) Y.JS (ae (aT 0) (ae (gb (aT 0) (bU (yW ai)) fF) af))) (λ_ _ _ _ _=>mK (n:=2) rfl (dL (aD (i:=0) dP rfl (Or.inl rfl)) (dL (aD (i:=1) dP rfl (Or.inl rfl)) kC))) (λ_ _ _ _ _=>ba) (λ_ _ _ _ _=>(B6 uS rj (aT 0) (yX 1))))) af))))))) lY
theorem dQ:(["part"]:List Str).Nodup:=by decide +kernel
theorem SQ:aA ["thing"] ["thing"] (aq gK):=BJ
theorem mf(Y:Ev K mg):GQ P w base Y.Cw 2 cf :=
 aP (bf Y.Cw.F SQ (by decide) (λzr A outer s H E hr=>by
  unfold db
  exact(aj (aL (di (dr (bH (aZ (yW (jQ "tuple" (by decide) Y.Ah Y.zM aaY (yX 0))))) (cX (bH (aZ (yW (bC (cj rfl) dX (by rfl) Y.CU abV (C4 (ae (Bk (br (N:=["part"]) (aJ (aT 0)) (λ_ _ _ _ _=>aD (i:=0) dQ rfl (Or.inl rfl)) (λ_ _ _ _ _=>ba) (λ_ _ _ _ _=>(zp (iO Y) hr (ae (aT 0) af))))) af))))))))) (ap (az bJ)) aG)
  (ap (az (zp (me Y) hr (ae (aT 0) af))))))) lZ
theorem Pf:aA ["net", "tie"] ["net", "tie"] (aq j8):=BJ
theorem e7(Y:Ev K mg):GQ P w base Y.Ee 1 cb :=
 aP (bf Y.Ee.F Pf (by decide) (λzr A outer s H E hr=>by
  unfold eM
  exact(ap (az (nH (B6 (bF (A4 hr)) bE (zO hr (aT 1) (yW ai)) (yW (zO hr (aT 0) (yW ai)))) (nB (B6 (bF (A4 hr)) bE (zO hr (aT 1) (yW ai)) (yW (zO hr (aT 0) (yW ai)))))))))) n8
theorem cz:(["tie"]:List Str).Nodup:=by decide +kernel
theorem SU:aA ["net"] ["net"] (aq eU):=BJ
theorem dR(Y:Ev K mg):GQ P w base Y.Br 1 bK :=
 aP (bf Y.Br.F SU (by decide) (λzr A outer s H E hr=>by
  unfold cg
  exact(ap (az (Bk (uV (N:=["tie"]) (aJ (zO hr (aT 0) (yW ai))) (λ_ _ _ _ _=>aD (i:=0) cz rfl (Or.inl rfl)) (λ_ _ _ _ _=>ba) (λ_ _ _ _ _=>(zO hr (aT 0) (yW ai))) (λ_ _ _ _ _=>(aT 0)))))))) jg
theorem jj:(["tie", "net"]:List Str).Nodup:=by decide +kernel
theorem SO:aA ["net"] ["net"] (aq gH):=BJ
theorem gu(Y:Ev K mg):GQ P w base Y.Ct 2 ce :=
 aP (bf Y.Ct.F SO (by decide) (λzr A outer s H E hr=>by
  unfold cZ
  exact(ap (az (eD bQ bR (by rfl) Y.zM aaY (C4 (ae (Bk (br (N:=["tie", "net"]) (aJ (zO hr (aT 0) (yW ai))) (λ_ _ _ _ _=>aD (i:=0) jj rfl (Or.inl rfl)) (λ_ _ _ _ _=>fH (aZ (yW (zp (e7 Y) hr (ae (aT 1) (ae (aT 0) af)))))) (λ_ _ _ _ _=>(zO hr (aT 0) (yW ai))))) af))))))) lX
theorem Pb:aA ["net"] ["net"] (aq Fj):=BJ
theorem gX(Y:Ev K mg):GQ P w base Y.FE 1 cY :=
 aP (bf Y.FE.F Pb (by decide) (λzr A outer s H E hr=>by
  unfold gy
  exact(ap (az (Bk (uV (N:=["tie"]) (aJ (zO hr (aT 0) (yW ai))) (λ_ _ _ _ _=>aD (i:=0) cz rfl (Or.inl rfl)) (λ_ _ _ _ _=>ba) (λ_ _ _ _ _=>(zO hr (aT 0) (yW ai))) (λ_ _ _ _ _=>(bB (ae (zO hr (aT 0) (yW ai)) (ae (zO hr (aT 0) (yW ai)) af)))))))))) rd
theorem Mp:aA ["net", "name", "other", "rank"] ["net", "name", "other"] (aq jc):=BJ
theorem iQ(Y:Ev K mg):GQ P w base Y.Dw 2 cQ :=
 aP (bf Y.Dw.F Mp (by decide) (λzr A outer s H E hr=>by
  unfold eO
  exact(aj (aC 3 Mp.nd rfl (Or.inl rfl) (zp (gX Y) hr (ae (aT 0) af)))
  (ap (az (B6 (xC (Bq hr)) vF (zO hr (aT 3) (yX 1)) (yW (zO hr (aT 3) (yX 2))))))))) oe
theorem RH:aA ["net", "names", "rank", "#t"] ["net", "names"] (aq fY):=BJ
theorem iA:DA "name" "rank" {posonlyargs:=[],args:=[{arg := "name",annotation:=none,pos:=p}],vararg:=none,kwonlyargs:=[],kw_defaults:=[],kwarg:=none,defaults:=[]} {kind:=.function,names:=[("name",.local),("rank",.free)],isGenerator:=false,isCoroutine:=false,more:=[]} :=
 ⟨rfl,rfl,rfl,by decide,rfl,rfl,rfl,rfl,rfl,rfl,λ_ _ _ _ _ _ _=>rfl⟩
theorem iB:DB "rank" {posonlyargs:=[],args:=[{arg := "name",annotation:=none,pos:=p}],vararg:=none,kwonlyargs:=[],kw_defaults:=[],kwarg:=none,defaults:=[]} {kind:=.function,names:=[("name",.local),("rank",.free)],isGenerator:=false,isCoroutine:=false,more:=[]} :=
 ⟨λ_=>rfl,λenv cell h=>by simp[aeF,cellOf,h]⟩
theorem fA(Y:Ev K mg)(hB:BMain mg base):GT P w base Y.A6 2 (bW (Y.y9,Y.yY)) :=
 dB (dS (nm := "#t") Y.A6.F RH rfl (by decide) rfl (by unfold Ek;decide +kernel) (λzr DJ A outer s H E hr=>by
  unfold cC
  obtain⟨c,hc,hC⟩:=Y.Cb
  have Dr:=DJ.symm.trans hc
  exact(aj (aC 2 RH.nd rfl (Or.inr rfl) (zp (gX Y) hr (ae (aT 0) af)))
  (ap (az (uq 3 2 iA iB hr rfl (by rfl) Y.DX (by rfl) Dr hC hB (by rfl) (by rfl) (Or.inr (Or.inl rfl)) (aT 1))))))) (kF _)
theorem ma:(["tie", "net", "side"]:List Str).Nodup:=by decide +kernel
theorem Pc:aA ["net", "side"] ["net", "side"] (aq Fk):=BJ
theorem qo(Y:Ev K mg):GQ P w base Y.FF 2 gi :=
 aP (bf Y.FF.F Pc (by decide) (λzr A outer s H E hr=>by
  unfold fN
  exact(ap (az (eD bQ bR (by rfl) Y.zM aaY (C4 (ae (Bk (br (N:=["tie", "net", "side"]) (aJ (zO hr (aT 0) (yW ai))) (λ_ _ _ _ _=>aD (i:=0) ma rfl (Or.inl rfl)) (λ_ _ _ _ _=>fH (di (jR (aZ (yW (zp (e7 Y) hr (ae (aT 1) (ae (aT 0) af))))) (ii (zh (mi (AF hr)) jD (B6 (bF (A4 hr)) bE (zO hr (aT 0) (yW ai)) (yX 2)) (yW (B6 (bF (A4 hr)) bE (zO hr (aT 0) (yW ai)) (yX 2)))))))) (λ_ _ _ _ _=>(zO hr (aT 0) (yW ai))))) af))))))) qc
theorem RI:aA ["net", "names", "rank", "#t"] ["net", "names"] (aq dh):=BJ
theorem f7:DA "name" "rank" {posonlyargs:=[],args:=[{arg := "name",annotation:=none,pos:=p}],vararg:=none,kwonlyargs:=[],kw_defaults:=[],kwarg:=none,defaults:=[]} {kind:=.function,names:=[("name",.local),("rank",.free)],isGenerator:=false,isCoroutine:=false,more:=[]} :=
 ⟨rfl,rfl,rfl,by decide,rfl,rfl,rfl,rfl,rfl,rfl,λ_ _ _ _ _ _ _=>rfl⟩
theorem f8:DB "rank" {posonlyargs:=[],args:=[{arg := "name",annotation:=none,pos:=p}],vararg:=none,kwonlyargs:=[],kw_defaults:=[],kwarg:=none,defaults:=[]} {kind:=.function,names:=[("name",.local),("rank",.free)],isGenerator:=false,isCoroutine:=false,more:=[]} :=
 ⟨λ_=>rfl,λenv cell h=>by simp[aeF,cellOf,h]⟩
theorem iH(Y:Ev K mg)(hB:BMain mg base):GT P w base Y.Al 2 (b8 (Y.y9,Y.yY)) :=
 dB (dS (nm := "#t") Y.Al.F RI rfl (by decide) rfl (by unfold Ek;decide +kernel) (λzr DJ A outer s H E hr=>by
  unfold b0
  obtain⟨c,hc,hC⟩:=Y.Bd
  have Dr:=DJ.symm.trans hc
  exact(aj (aC 2 RI.nd rfl (Or.inr rfl) (zp (gX Y) hr (ae (aT 0) af)))
  (ap (az (Bk (sy 3 2 f7 f8 hr (by rfl) Y.Am (by rfl) Dr hC hB (by rfl) (by rfl) (Or.inr (Or.inl rfl)) (aT 1)))))))) (iy _)
theorem cx:(["place"]:List Str).Nodup:=by decide +kernel
theorem cw:(["place", "word", "stays", "goes"]:List Str).Nodup:=by decide +kernel
theorem Iy:aA ["net", "names", "named", "group", "kept", "name", "tie", "stays", "goes"] ["net", "names"] (aq de):=BJ
theorem iG(Y:Ev K mg):GQ P w base Y.AM 2 b7 :=
 aP (bf Y.AM.F Iy (by decide) (λzr A outer s H E hr=>by
  unfold bX
  exact(aj (aC 2 Iy.nd rfl (Or.inl rfl) (zp (dR Y) hr (ae (aT 0) af)))
  (aj (uU 3 (N:=["place"]) Iy.nd rfl rfl (aJ (zO hr (aT 0) (yW ai))) (λ_ _ _ _ _=>aD (i:=0) cx rfl (Or.inl rfl)) (λ_ _ _ _ _=>ba) (λ_ _ _ _ _=>(aT 0)) (λ_ _ _ _ _=>(aT 0)))
  (aj (cq 4 Iy.nd rfl (Or.inl rfl) (bc af))
  (aj (cy abw rfl (aJ (aT 1)) (aN 5 Iy.nd rfl (Or.inl rfl)) (aj (aC 6 Iy.nd rfl (Or.inl rfl) (zO hr (aT 2) (yX 5)))
  (aj (jP (bB (ae (HP 3 hr (yW (zO hr (aT 6) (yW ai)))) (ae (HP 3 hr (yW (zO hr (aT 6) (yW ai)))) af))) (fG (n:=2) rfl (bb (aN 7 Iy.nd rfl (Or.inr rfl)) (bb (aN 8 Iy.nd rfl (Or.inr rfl)) dC)) (bu (bu fy))))
  (ap (aL (zh (mi (AF hr)) jD (aT 7) (yX 8)) (aj (cr (yW (eB 4 abt abr bx bP (pv 4) (ae (aT 5) af))))
  (ap (uU 3 (N:=["place", "word", "stays", "goes"]) Iy.nd rfl rfl (sC 3 (pv 3)) (λ_ _ _ _ _=>mK (n:=2) rfl (dL (aD (i:=0) cw rfl (Or.inl rfl)) (dL (aD (i:=1) cw rfl (Or.inl rfl)) kC))) (λ_ _ _ _ _=>ba) (λ_ _ _ _ _=>(aT 0)) (λ_ _ _ _ _=>(nG (zh (bw (Bq hr)) bv (aT 1) (yX 3)) (aT 2) (aT 1)))))) aG)))))
  (ap (az (eD bQ bR (by rfl) Y.zM aaY (C4 (ae (Bk (ga rfl (by rfl) Y.Am (ij (yX 4)))) af))))))))))) ir
theorem Pg:aA ["net", "#t"] ["net"] (aq gJ):=BJ
theorem nj(Y:Ev K mg)(hB:BMain mg base):GT P w base Y.Cv 3 (d0 (Y.y9,Y.yY)) :=
 dB (dS (nm := "#t") Y.Cv.F Pg rfl (by decide) rfl (by unfold Ek;decide +kernel) (λzr DJ A outer s H E hr=>by
  unfold dG
  exact(ap (az (zp (iG Y) hr (ae (aT 0) (ae (A5 1 (iH Y hB) hr (ae (aT 0) (ae (zp (gu Y) hr (ae (aT 0) af)) af))) af))))))) (mM _)
theorem O6:aA ["net", "beside", "tie"] ["net"] (aq eY):=BJ
theorem fz(Y:Ev K mg):GQ P w base Y.Bs 2 bV :=
 aP (yd Y.Bs.F O6 (by decide) (λzr A outer s H E hr=>by
  unfold cB
  exact(aj (qp 1 O6.nd rfl rfl (aJ (zO hr (aT 0) (yW ai))) (λ_ _ _ _ _=>aD (i:=0) cx rfl (Or.inl rfl)) (λ_ _ _ _ _=>pv 0))
  (aj (cy abw rfl (aJ (zO hr (aT 0) (yW ai))) (aN 2 O6.nd rfl (Or.inl rfl)) (ap (aL (aZ (yW (zp (e7 Y) hr (ae (aT 0) (ae (aT 2) af))))) (aj (jO 1 (JJ hr) (pv 1) (zO hr (aT 2) (yW ai)) (bB (ae (zO hr (aT 2) (yW ai)) (ae (zO hr (aT 2) (yW ai)) af))))
  (ap (jO 1 (JJ hr) (pv 1) (zO hr (aT 2) (yW ai)) (bB (ae (zO hr (aT 2) (yW ai)) (ae (zO hr (aT 2) (yW ai)) af)))))) aG)))
  (ap (su 1 (pv 1))))))) kE
theorem Gu:aA ["beside", "start", "come", "ahead", "here", "name", "place"] ["beside", "start"] (aq kh):=BJ
theorem iR(Y:Ev K mg):GQ P w base Y.Ef 1 cR :=
 aP (bf Y.Ef.F Gu (by decide) (λzr A outer s H E hr=>by
  unfold eR
  exact(aj (cq 2 Gu.nd rfl (Or.inl rfl) (wH (DP.cons (aT 1) fB DP.nil)))
  (aj (cq 3 Gu.nd rfl (Or.inl rfl) (bc (ae (aT 1) af)))
  (aj (nu abw (aZ (yX 3)) (aj (aC 4 Gu.nd rfl (Or.inl rfl) (yk 3 PySem.F.slot_list_pop PySem.F.type_list_pop xI xJ (pv 3)))
  (ap (cy abw rfl (aJ (zO hr (aT 0) (yX 4))) (fG (n:=2) rfl (bb (aN 5 Gu.nd rfl (Or.inl rfl)) (bb (aN 6 Gu.nd rfl (Or.inl rfl)) dC)) (bu (bu fy))) (ap (aL (zh (dA (A4 hr)) dz (aT 6) (yX 2)) (aj (ye 2 (JJ hr) (bB (ae (aT 5) (ae (aT 4) af))) (pv 2) (aT 6))
  (ap (cr (yW (eB 3 abt abr bx bP (pv 3) (ae (aT 6) af)))))) aG))))))
  (ap (az (aT 2)))))))) og
theorem Pe:aA ["beside", "start"] ["beside", "start"] (aq ja):=BJ
theorem oC(Y:Ev K mg):GQ P w base Y.Du 2 e9 :=
 aP (bf Y.Du.F Pe (by decide) (λzr A outer s H E hr=>by
  unfold eI
  exact(ap (az (eD bQ bR (by rfl) Y.zM aaY (C4 (ae (Bk (ga rfl (by rfl) Y.Am (C4 (ae (zp (iR Y) hr (ae (aT 0) (ae (aT 1) af))) af)))) af))))))) n5
theorem oh:(["tie", "names"]:List Str).Nodup:=by decide +kernel
theorem Pa:aA ["net", "names"] ["net", "names"] (aq Ht):=BJ
theorem ni(Y:Ev K mg):GQ P w base Y.HV 1 gn :=
 aP (bf Y.HV.F Pa (by decide) (λzr A outer s H E hr=>by
  unfold iW
  exact(ap (az (bB (ae (zO hr (aT 0) (yW ai)) (ae (eD bQ bR (by rfl) Y.zM aaY (C4 (ae (Bk (br (N:=["tie", "names"]) (aJ (zO hr (aT 0) (yW ai))) (λ_ _ _ _ _=>aD (i:=0) oh rfl (Or.inl rfl)) (λ_ _ _ _ _=>fH (zh (bF (A4 hr)) bE (zO hr (aT 0) (yW ai)) (yX 1))) (λ_ _ _ _ _=>(aT 0)))) af))) af))))))) tQ
theorem Gr:aA ["net", "forest", "one", "other", "come", "names", "here", "name"] ["net", "forest", "one", "other"] (aq Kp):=BJ
theorem wz(Y:Ev K mg):GQ P w base Y.Lp 3 la :=
 aP (bf Y.Lp.F Gr (by decide) (λzr A outer s H E hr=>by
  unfold jY
  exact(aj (aC 4 Gr.nd rfl (Or.inl rfl) (zp (iR Y) hr (ae (zp (fz Y) hr (ae (zp (ni Y) hr (ae (aT 0) (ae (aT 1) af))) af)) (ae (aT 3) af))))
  (aj (aL (zh (dA (A4 hr)) dz (aT 2) (yX 4)) (ap (az fB)) aG)
  (aj (cq 5 Gr.nd rfl (Or.inl rfl) (bc af))
  (aj (aC 6 Gr.nd rfl (Or.inl rfl) (aT 2))
  (aj (nu abw (zh (mi (AF hr)) jD (aT 6) (yX 3)) (aj (jP (zO hr (aT 4) (yX 6)) (fG (n:=2) rfl (bb (aN 7 Gr.nd rfl (Or.inl rfl)) (bb (aN 6 Gr.nd rfl (Or.inl rfl)) dC)) (bu (bu fy))))
  (ap (cr (yW (eB 5 abt abr bx bP (pv 5) (ae (aT 7) af)))))))
  (ap (az (eD bQ bR (by rfl) Y.zM aaY (ij (yX 5)))))))))))) vz
theorem ft:(["name", "net", "top"]:List Str).Nodup:=by decide +kernel
theorem He:aA ["net", "one", "other", "tree", "along", "top", "lower", "#t"] ["net", "one", "other"] (aq jb):=BJ
theorem iP(Y:Ev K mg)(hB:BMain mg base):GT P w base Y.Dv 4 (cP (Y.y9,Y.yY)) :=
 dB (dS (nm := "#t") Y.Dv.F He rfl (by decide) rfl (by unfold Ek;decide +kernel) (λzr DJ A outer s H E hr=>by
  unfold eN
  exact(aj (aC 3 He.nd rfl (Or.inl rfl) (A5 7 (nj Y hB) hr (ae (aT 0) af)))
  (aj (aC 4 He.nd rfl (Or.inl rfl) (zp (wz Y) hr (ae (aT 0) (ae (aT 3) (ae (aT 1) (ae (aT 2) af))))))
  (aj (aL (zh mo jF (aT 4) (yW fB)) (ap (az fB)) aG)
  (aj (aC 5 He.nd rfl (Or.inr rfl) (A5 7 (fA Y hB) hr (ae (aT 0) (ae (aT 4) af))))
  (aj (yg 6 (N:=["name", "net", "top"]) He.nd rfl rfl (aJ (aT 3)) (λ_ _ _ _ _=>aD (i:=0) ft rfl (Or.inl rfl)) (λ_ _ _ _ _=>fH (aZ (yW (zp (iQ Y) hr (ae (aT 1) (ae (aT 0) (ae (aT 2) af))))))) (λ_ _ _ _ _=>(aT 0)))
  (ap (az (bB (ae (aT 4) (ae (zp (oC Y) hr (ae (zp (fz Y) hr (ae (zp (ni Y) hr (ae (aT 0) (ae (aT 6) af))) af)) (ae (aT 1) af))) af)))))))))))) (n9 _)
theorem jH:(["name", "there"]:List Str).Nodup:=by decide +kernel
theorem Mq:aA ["net", "thing", "there"] ["net", "thing"] (aq jd):=BJ
theorem nk(Y:Ev K mg):GQ P w base Y.Dx 3 ed :=
 aP (bf Y.Dx.F Mq (by decide) (λzr A outer s H E hr=>by
  unfold dH
  exact(aj (aL (di (dr (bH (aZ (yW (jQ "tuple" (by decide) Y.Ah Y.zM aaY (yX 1))))) (cX (bH (aZ (yW (bC (cj rfl) dX (by rfl) Y.CU abV (C4 (ae (Bk (br (N:=["part"]) (aJ (aT 1)) (λ_ _ _ _ _=>aD (i:=0) dQ rfl (Or.inl rfl)) (λ_ _ _ _ _=>ba) (λ_ _ _ _ _=>(zp (iO Y) hr (ae (aT 0) af))))) af))))))))) (ap (az bJ)) aG)
  (aj (aC 2 Mq.nd rfl (Or.inr rfl) (zp (gu Y) hr (ae (aT 0) af)))
  (ap (az (bC (cj rfl) dX (by rfl) Y.CU abV (C4 (ae (Bk (br (N:=["name", "there"]) (aJ (aT 1)) (λ_ _ _ _ _=>aD (i:=0) jH rfl (Or.inl rfl)) (λ_ _ _ _ _=>ba) (λ_ _ _ _ _=>(B6 (bF (A4 hr)) bE (aT 0) (yX 1))))) af))))))))) mN
theorem Gs:aA ["net", "names", "one", "other", "named", "seen", "name", "ends", "beyond"] ["net", "names", "one", "other"] (aq Fl):=BJ
theorem sg(Y:Ev K mg):GQ P w base Y.FG 2 g5 :=
 aP (bf Y.FG.F Gs (by decide) (λzr A outer s H E hr=>by
  unfold gz
  exact(aj (aC 4 Gs.nd rfl (Or.inl rfl) (zp (dR Y) hr (ae (aT 0) af)))
  (aj (cq 5 Gs.nd rfl (Or.inl rfl) (bc (ae (aT 2) af)))
  (aj (cy abw rfl (aJ (aT 1)) (aN 6 Gs.nd rfl (Or.inl rfl)) (aj (aC 7 Gs.nd rfl (Or.inl rfl) (gb (zO hr (aT 4) (yX 6)) (bU (yW ai)) (bU (yW ai))))
  (aj (aL (zh (dA (A4 hr)) dz (HP 5 hr (yW (nC (yW ai)))) (yX 7)) (ap (az bJ)) aG)
  (aj (aC 8 Gs.nd rfl (Or.inl rfl) (nG (zh (bw (Bq hr)) bv (HP 5 hr (yW (nC (yW ai)))) (yW (zO hr (aT 7) (yW ai)))) (zO hr (aT 7) (yW ai)) (zO hr (aT 7) (yW ai))))
  (aj (aL (zh (bF (A4 hr)) bE (aT 8) (yX 5)) (ap (az bJ)) aG)
  (ap (cr (yW (eB 5 abt abr bx bP (pv 5) (ae (aT 8) af))))))))))
  (ap (az (B6 (bw (Bq hr)) bv (HP 5 hr (yW (nC (yW ai)))) (yX 3))))))))) re
theorem iz:(["place", "net"]:List Str).Nodup:=by decide +kernel
theorem SS:aA ["net", "side", "one", "other"] ["net", "side", "one", "other"] (aq fX):=BJ
theorem kQ(Y:Ev K mg):GQ P w base Y.BU 3 cM :=
 aP (bf Y.BU.F SS (by decide) (λzr A outer s H E hr=>by
  unfold cA
  exact(aj (aL (di (dr (bH (aZ (yW (zp (mf Y) hr (ae (aT 1) af))))) (cX (bH (aZ (yW (bC (cj rfl) dX (by rfl) Y.CU abV (C4 (ae (Bk (br (N:=["place", "net"]) (aJ (aT 1)) (λ_ _ _ _ _=>aD (i:=0) iz rfl (Or.inl rfl)) (λ_ _ _ _ _=>ba) (λ_ _ _ _ _=>(B6 (bF (A4 hr)) bE (aT 0) (yW (zO hr (aT 1) (yW ai))))))) af))))))))) (ap (az bJ)) aG)
  (ap (az (nH (B6 (bF (A4 hr)) bE (aT 2) (yX 1)) (nB (B6 (dA (A4 hr)) dz (aT 3) (yX 1))))))))) kD
theorem N9:aA ["net", "one", "other", "told", "along", "side", "top", "#t"] ["net", "one", "other", "told"] (aq dg):=BJ
theorem dm(Y:Ev K mg)(hB:BMain mg base):GT P w base Y.AN 4 (bD (Y.y9,Y.yY)) :=
 dB (dS (nm := "#t") Y.AN.F N9 rfl (by decide) rfl (by unfold Ek;decide +kernel) (λzr DJ A outer s H E hr=>by
  unfold bZ
  exact(aj (aL (di (dr (bH (aZ (yW (jQ "tuple" (by decide) Y.Ah Y.zM aaY (yX 3))))) (cX (zh (mi (AF hr)) jD (bC jT jU (by rfl) Y.DY adt (ij (yX 3))) (yW ai))))) (ap (az bJ)) aG)
  (aj (jP (aT 3) (fG (n:=2) rfl (bb (aN 4 N9.nd rfl (Or.inl rfl)) (bb (aN 5 N9.nd rfl (Or.inl rfl)) dC)) (bu (bu fy))))
  (aj (aL (di (dr (bH (aZ (yW (zp (nk Y) hr (ae (aT 0) (ae (aT 4) af)))))) (dr (bH (aZ (yW (zp (sg Y) hr (ae (aT 0) (ae (aT 4) (ae (aT 1) (ae (aT 2) af)))))))) (cX (bH (aZ (yW (zp (kQ Y) hr (ae (aT 0) (ae (aT 5) (ae (aT 1) (ae (aT 2) af)))))))))))) (ap (az bJ)) aG)
  (aj (aC 6 N9.nd rfl (Or.inr rfl) (A5 7 (fA Y hB) hr (ae (aT 0) (ae (aT 4) af))))
  (ap (az (yj (bC (uH rfl) yx (by rfl) Y.JV PyProof.Rows.boot_any (C4 (ae (Bk (br (N:=["name", "net", "top"]) (aJ (zp (qo Y) hr (ae (aT 0) (ae (aT 5) af)))) (λ_ _ _ _ _=>aD (i:=0) ft rfl (Or.inl rfl)) (λ_ _ _ _ _=>ba) (λ_ _ _ _ _=>(zp (iQ Y) hr (ae (aT 1) (ae (aT 0) (ae (aT 2) af))))))) af)))))))))))) (iu _)
theorem D1:aA ["_law_state", "_law_many", "_law_letters", "_law_base", "_law_size", "_law_at", "_law_first", "_law_found", "_law_k", "_law_two"] ["_law_state", "_law_many"] (aq Fh):=BJ
theorem lH(Y:Ev K mg):GO P w base Y.FC 2 eG :=
 ig (jN Y.FC.F D1 (by decide) (λzr A outer s H E hr=>by
  unfold gA
  exact(aj (aC 2 D1.nd rfl (Or.inl rfl) nz)
  (aj (aC 3 D1.nd rfl (Or.inl rfl) (zO hr (aT 2) (yW (zm 0 (aK Y) hr (ae ai af)))))
  (aj (aC 4 D1.nd rfl (Or.inl rfl) (zm 0 (aK Y) hr (ae ai af)))
  (aj (aC 5 D1.nd rfl (Or.inl rfl) (zm 0 (aK Y) hr (ae (aM (aT 4) (yW ai)) af)))
  (aj (aC 6 D1.nd rfl (Or.inl rfl) (zm 0 (aK Y) hr (ae ai af)))
  (aj (cq 7 D1.nd rfl (Or.inl rfl) (bc af))
  (aj (cy abw rfl (gY (by rfl) Y.Cd (ae (aT 1) af)) (aN 8 D1.nd rfl (Or.inl rfl)) (aj (aC 9 D1.nd rfl (Or.inl rfl) (aM (zO hr (aT 2) (yW (fD (aM (aT 6) (yW (fC ai (yX 8)))) (yW ai)))) (yW (zO hr (aT 2) (yW (fD (aM (aT 6) (yW (sA (aT 8) (yW ai)))) (yW ai)))))))
  (ap (aL (di (jR (zh uS rj (aT 1) (yW ai)) (ii (zh (bw (Bq hr)) bv (aT 4) (yW ai))))) (ap (cr (yW (eB 7 abt abr bx bP (pv 7) (ae (fC (aT 3) (yW (aM (aT 8) (yW ai)))) af))))) (ap (cr (yW (eB 7 abt abr bx bP (pv 7) (ae (aM (aM (fC (aT 3) (yX 5)) (yX 9)) (yW (fC (aT 3) (yW (cW (aT 4) (yX 5)))))) af)))))))))
  (ap (az (aT 7)))))))))))) rg
theorem O9:aA ["_law_state", "_law_sort"] ["_law_state", "_law_sort"] (aq Hv):=BJ
theorem ui(Y:Ev K mg):GO P w base Y.HX 2 jr :=
 ig (jN Y.HX.F O9 (by decide) (λzr A outer s H E hr=>by
  unfold iY
  exact(aj (aL (zh (bw (Bq hr)) bv (aT 1) (yW ai)) (ap (az ai)) aG)
  (aj (aL (zh (bw (Bq hr)) bv (aT 1) (yW ai)) (ap (az (cW (zm 0 (aK Y) hr (ae ai af)) (yW ai)))) aG)
  (aj (aL (zh (bw (Bq hr)) bv (aT 1) (yW ai)) (ap (az (cW (zm 0 (aK Y) hr (ae ai af)) (yW ai)))) aG)
  (ap (az (zO hr (Bk (bc (ae (cW (nA ai (yW ai)) (yW ai)) (ae (cW ai (yW (nA ai (yW ai)))) (ae ai (ae (zm 0 (aK Y) hr (ae (nA ai (yW ai)) af)) af)))))) (yW (zm 0 (aK Y) hr (ae ai af))))))))))) tU
theorem Hc:aA ["_law_state", "_law_family", "_law_many", "_law_k", "_law_half", "_law_side", "_law_one"] ["_law_state", "_law_family", "_law_many", "_law_k"] (aq Hu):=BJ
theorem uh(Y:Ev K mg):GO P w base Y.HW 2 jq :=
 ig (jN Y.HW.F Hc (by decide) (λzr A outer s H E hr=>by
  unfold iX
  exact(aj (aL (zh (bw (Bq hr)) bv (aT 1) (yW ai)) (ap (az (bB (ae (fD (aT 3) (yX 2)) (ae (fD (aM (aT 3) (yW ai)) (yX 2)) af))))) aG)
  (aj (aL (zh (bw (Bq hr)) bv (aT 1) (yW ai)) (ap (az (bB (ae ai (ae (aM ai (yW (zm 0 (aK Y) hr (ae (cW (aT 2) (yW ai)) af)))) af))))) aG)
  (aj (aL (di (jR (zh (bw (Bq hr)) bv (aT 1) (yW ai)) (ii (zh yH xw (aT 2) (yW ai))))) (aj (aC 4 Hc.nd rfl (Or.inl rfl) (sA (aT 2) (yW ai)))
  (aj (aC 5 Hc.nd rfl (Or.inl rfl) (zm 0 (aK Y) hr (ae ai af)))
  (aj (aC 6 Hc.nd rfl (Or.inl rfl) (zm 0 (aK Y) hr (ae (aT 4) af)))
  (ap (az (bB (ae (aM (fC (aT 5) (yX 4)) (yX 6)) (ae (aM (fC (aT 5) (yX 4)) (yW (fD (aM (aM (aT 6) (yW ai)) (yW (zm 0 (aK Y) hr (ae (cW (aT 4) (yW ai)) af)))) (yX 4)))) af)))))))) aG)
  (aj (aC 6 Hc.nd rfl (Or.inl rfl) (zm 0 (aK Y) hr (ae (aT 2) af)))
  (ap (az (bB (ae (aT 6) (ae (fD (aM (aM (aT 6) (yW ai)) (yW (zm 0 (aK Y) hr (ae (cW (aT 2) (yW ai)) af)))) (yX 2)) af))))))))))) tT
theorem CW:aA ["_law_state", "_law_most", "_law_ties_most", "_law_many", "_law_words_here", "_law_pool", "_law_count", "_law_names", "_law_family", "_law_sort", "_law_ties", "_law_k", "_law_one", "_law_other", "_law_two"] ["_law_state", "_law_most", "_law_ties_most"] (aq Kt):=BJ
theorem wA(Y:Ev K mg):GO P w base Y.Lq 3 lb :=
 ig (jN Y.Lq.F CW (by decide) (λzr A outer s H E hr=>by
  unfold jZ
  exact(aj (aC 3 CW.nd rfl (Or.inl rfl) (zm 0 (aK Y) hr (ae (aM (aT 1) (yW ai)) af)))
  (aj (aC 4 CW.nd rfl (Or.inl rfl) (zm 0 (lH Y) hr (ae (aM (aT 3) (yW ai)) af)))
  (aj (aC 5 CW.nd rfl (Or.inl rfl) (gb (aT 4) fF (bU (yW (bC (yt rfl) yw (by rfl) Y.DX ad1 (C4 (ae ai (ae (aM (aT 3) (yW (zm 0 (aK Y) hr (ae ai af)))) af))))))))
  (aj (aC 6 CW.nd rfl (Or.inl rfl) (zm 0 (aK Y) hr (ae (aM (aT 2) (yW ai)) af)))
  (aj (aC 7 CW.nd rfl (Or.inl rfl) (zm 0 (lH Y) hr (ae (aT 6) af)))
  (aj (yf 8 9 rfl CW.nd rfl rfl (by decide) rfl rfl (ae (zm 0 (aK Y) hr (ae ai af)) (ae (zm 0 (aK Y) hr (ae ai af)) af)) rfl)
  (aj (cq 10 CW.nd rfl (Or.inl rfl) (bc af))
  (aj (cy abw rfl (gY (by rfl) Y.Cd (ae (aT 6) af)) (aN 11 CW.nd rfl (Or.inl rfl)) (aj (jP (zm 0 (uh Y) hr (ae (aT 8) (ae (bC jT jU (by rfl) Y.DY adt (ij (yX 5))) (ae (aT 11) af)))) (fG (n:=2) rfl (bb (aN 12 CW.nd rfl (Or.inl rfl)) (bb (aN 13 CW.nd rfl (Or.inl rfl)) dC)) (bu (bu fy))))
  (aj (aC 14 CW.nd rfl (Or.inl rfl) (Bk (ga rfl (by rfl) Y.Am (C4 (ae (Bk (bc (ae (zO hr (aT 5) (yX 12)) (ae (zO hr (aT 5) (yX 13)) af)))) af)))))
  (ap (cr (yW (eB 10 abt abr bx bP (pv 10) (ae (bB (ae (zO hr (aT 7) (yX 11)) (ae (zO hr (aT 14) (yW ai)) (ae (zO hr (aT 14) (yW ai)) (ae (zm 0 (ui Y) hr (ae (aT 9) af)) af))))) af))))))))
  (ap (az (bB (ae (eD bQ bR (by rfl) Y.zM aaY (C4 (ae (Bk (ga rfl (by rfl) Y.Am (C4 (ae (gb (aT 4) fF (bU (yX 3))) af)))) af))) (ae (eD bQ bR (by rfl) Y.zM aaY (C4 (ae (Bk (um (by rfl) Y.Am (ij (yX 10)))) af))) af))))))))))))))) vA
theorem O7:aA ["_law_tie"] ["_law_tie"] (aq Kv):=BJ
theorem pz(Y:Ev K mg):GQ P w base Y.Lr 1 iq :=
 aP (bf Y.Lr.F O7 (by decide) (λzr A outer s H E hr=>by
  unfold j0
  exact(ap (az (bB (ae (zO hr (aT 0) (yW ai)) (ae (zO hr (aT 0) (yW ai)) af))))))) vD
theorem om:(["_law_tie", "_law_net_here"]:List Str).Nodup:=by decide +kernel
theorem O8:aA ["_law_net_here"] ["_law_net_here"] (aq Hs):=BJ
theorem tB(Y:Ev K mg):zf P w K mg base Ak 1 Y.Ca.f Y.Ca.fd ["_law_net_here"] (LO ⟨P,w,K,A9 K⟩ 1 (IE 1 fQ)) :=
 yc Y.Ca.F O8 (by decide) (λzr A outer s H E hr=>by
  unfold fQ
  exact(ap (wE (br (N:=["_law_tie", "_law_net_here"]) (aJ (zO hr (aT 0) (yW ai))) (λ_ _ _ _ _=>aD (i:=0) om rfl (Or.inl rfl)) (λ_ _ _ _ _=>fH (di (jR (zh (bF (A4 hr)) bE (zO hr (aT 0) (yW ai)) (yW (zO hr (aT 1) (yW ai)))) (ii (zh (bF (A4 hr)) bE (zO hr (aT 0) (yW ai)) (yW (zO hr (aT 1) (yW ai)))))))) (λ_ _ _ _ _=>(aT 0))))))
theorem sk(Y:Ev K mg):zf P w K mg base Ak 1 Y.Ca.f Y.Ca.fd ["_law_net_here"] (LO ⟨P,w,K,A9 K⟩ 1 jp):=wD (tB Y) tS
theorem oi:(["_law_more", "_law_tie"]:List Str).Nodup:=by decide +kernel
theorem Iw:aA ["_law_ties", "_law_here", "_law_other", "_law_met", "_law_found", "_law_tie", "_law_there"] ["_law_ties", "_law_here", "_law_other", "_law_met"] (aq Hq):=BJ
theorem tz(Y:Ev K mg)(G:zf P w K mg base Ak k Y.AH.f Y.AH.fd ["_law_ties", "_law_here", "_law_other", "_law_met"] (Hl ⟨P,w,K,A9 K⟩ 4 D)):zf P w K mg base Ak (k+1) Y.AH.f Y.AH.fd ["_law_ties", "_law_here", "_law_other", "_law_met"] (Hl ⟨P,w,K,A9 K⟩ 4 (run 7 (fO D))) :=
 bf Y.AH.F Iw (by decide) (λzr A outer s H E hr=>by
  unfold fO
  exact(aj (aL (zh (bw (Bq hr)) bv (aT 1) (yX 2)) (ap (az (Bk (bc (ae (Bk (bc af)) af))))) aG)
  (aj (cq 4 Iw.nd rfl (Or.inl rfl) (bc af))
  (aj (cy abw rfl (aJ (aT 0)) (aN 5 Iw.nd rfl (Or.inr rfl)) (ap (aL (zh (bF (A4 hr)) bE (aT 1) (yW (gb (aT 5) (bU (yW ai)) (bU (yW ai))))) (aj (aC 6 Iw.nd rfl (Or.inl rfl) (nG (zh (bw (Bq hr)) bv (aT 1) (yW (zO hr (aT 5) (yW ai)))) (zO hr (aT 5) (yW ai)) (zO hr (aT 5) (yW ai))))
  (ap (aL (zh (dA (A4 hr)) dz (aT 6) (yX 3)) (ap (cr (yW (eB 4 PySem.F.slot_list_extend PySem.F.type_list_extend rF rG (pv 4) (ae (Bk (br (N:=["_law_more", "_law_tie"]) (aJ (kT G hr Y.AH.n.mg Y.AH.n.kp Y.AH.b (ae (aT 0) (ae (aT 6) (ae (aT 2) (ae (aM (aT 3) (yW (Bk (bc (ae (aT 6) af))))) af)))))) (λ_ _ _ _ _=>aD (i:=0) oi rfl (Or.inl rfl)) (λ_ _ _ _ _=>ba) (λ_ _ _ _ _=>(aM (Bk (bc (ae (aT 1) af))) (yX 0))))) af))))) aG))) aG)))
  (ap (az (aT 4)))))))
theorem nq(Y:Ev K mg):∀n,zf P w K mg base Ak n Y.AH.f Y.AH.fd ["_law_ties", "_law_here", "_law_other", "_law_met"] (Hl ⟨P,w,K,A9 K⟩ 4 (gp n))
 |0=>aP (wC (n:=4)) λ_ _ h=>h.1 rfl
 |n+1=>aP (tz Y (nq Y n)) (tR n)
theorem gS:(["_law_some"]:List Str).Nodup:=by decide +kernel
theorem gR:(["_law_tie"]:List Str).Nodup:=by decide +kernel
theorem mU:(["_law_tie", "_law_told"]:List Str).Nodup:=by decide +kernel
theorem Hd:aA ["_law_net_here", "_law_one", "_law_other", "_law_told", "_law_roads", "_law_least", "_law_turned", "#t"] ["_law_net_here", "_law_one", "_law_other"] (aq Fi):=BJ
theorem si(Y:Ev K mg)(hB:BMain mg base):GT P w base Y.FD 8 (g6 (Y.y9,Y.yY)) :=
 dB (dS (nm := "#t") Y.FD.F Hd rfl (by decide) rfl (by unfold Ek;decide +kernel) (λzr DJ A outer s H E hr=>by
  unfold gB
  exact(aj (aC 3 Hd.nd rfl (Or.inr rfl) (A5 7 (iP Y hB) hr (ae (aT 0) (ae (aT 1) (ae (aT 2) af)))))
  (aj (aC 4 Hd.nd rfl (Or.inl rfl) (kT (nq Y 7) (hr.mono (by decide)) Y.AH.n.mg Y.AH.n.kp Y.AH.b (ae (Bk (uy (sk Y) (hr.mono (by decide)) Y.Ca.n.mg Y.Ca.n.kp Y.Ca.b (ae (aT 0) af))) (ae (aT 1) (ae (aT 2) (ae (Bk (bc (ae (aT 1) af))) af))))))
  (aj (aL (di (dr (zh mo jF (aT 3) (yW fB)) (cX (zh (bw (Bq hr)) bv (aT 4) (yW (Bk (bc af))))))) (ap (az (nH (B6 mo jF (aT 3) (yW fB)) (nB (B6 (bw (Bq hr)) bv (aT 4) (yW (Bk (bc af)))))))) aG)
  (aj (aL (zh (dA (A4 hr)) dz (Bk (yn wP wQ (by rfl) Y.H0 PyProof.Rows.boot_list (C4 (ae (zO hr (aT 3) (yW ai)) af)))) (yW (Bk (br (N:=["_law_some"]) (aJ (aT 4)) (λ_ _ _ _ _=>aD (i:=0) gS rfl (Or.inl rfl)) (λ_ _ _ _ _=>ba) (λ_ _ _ _ _=>(Bk (br (N:=["_law_tie"]) (aJ (aT 0)) (λ_ _ _ _ _=>aD (i:=0) gR rfl (Or.inl rfl)) (λ_ _ _ _ _=>ba) (λ_ _ _ _ _=>(zO hr (aT 0) (yW ai)))))))))) (ap (az bJ)) aG)
  (aj (aC 5 Hd.nd rfl (Or.inl rfl) (bC (sM rfl (JJ hr)) kW (by rfl) Y.JU PyProof.Rows.boot_min (C4 (ae (Bk (br (N:=["_law_some"]) (aJ (aT 4)) (λ_ _ _ _ _=>aD (i:=0) gS rfl (Or.inl rfl)) (λ_ _ _ _ _=>ba) (λ_ _ _ _ _=>(bC (lO rfl (JJ hr)) kW (by rfl) Y.DX ad1 (C4 (ae (Bk (br (N:=["_law_tie"]) (aJ (aT 0)) (λ_ _ _ _ _=>aD (i:=0) gR rfl (Or.inl rfl)) (λ_ _ _ _ _=>ba) (λ_ _ _ _ _=>(zp (pz Y) hr (ae (aT 0) af))))) af)))))) af))))
  (aj (aL (zh (rn (Bq hr)) o0 (bC (lO rfl (JJ hr)) kW (by rfl) Y.DX ad1 (C4 (ae (Bk (br (N:=["_law_tie", "_law_told"]) (aJ (zO hr (aT 0) (yW ai))) (λ_ _ _ _ _=>aD (i:=0) mU rfl (Or.inl rfl)) (λ_ _ _ _ _=>fH (zh (bF (A4 hr)) bE (zO hr (aT 0) (yW ai)) (yW (zO hr (aT 1) (yW ai))))) (λ_ _ _ _ _=>(zp (pz Y) hr (ae (aT 0) af))))) af))) (yX 5)) (ap (az bJ)) aG)
  (aj (aC 6 Hd.nd rfl (Or.inl rfl) (A5 7 (iP Y hB) hr (ae (aT 0) (ae (aT 2) (ae (aT 1) af)))))
  (aj (aL (di (dr (zh (rn (Bq hr)) o0 (zO hr (aT 6) (yW ai)) (yW (yi (zO hr (aT 3) (yW ai)) yB))) (cX (zh xv vG (A5 7 (dm Y hB) hr (ae (aT 0) (ae (aT 2) (ae (aT 1) (ae (aT 6) af))))) (yW bJ))))) (ap (az bJ)) aG)
  (ap (az (B6 mo jF (A5 7 (dm Y hB) hr (ae (aT 0) (ae (aT 1) (ae (aT 2) (ae (aT 3) af))))) (yW bJ)))))))))))))) (rh _)
theorem qg:(["_law_other", "_law_net_here", "_law_one", "#t"]:List Str).Nodup:=by decide +kernel
theorem Gq:aA ["_law_script", "_law_state", "_law_turn", "_law_net_here", "_law_k", "_law_one", "#t"] ["_law_script"] (aq Ku):=BJ
theorem vf(Y:Ev K mg)(hB:BMain mg base):zf P w K mg base Ak 9 Y.FH.f Y.FH.fd ["_law_script"] (spT ⟨P,w,K,A9 K⟩ 1 (BE 6 (g9 (Y.y9,Y.yY)))) :=
 dS (nm := "#t") Y.FH.F Gq rfl (by decide) rfl (by unfold Ek;decide +kernel) (λzr DJ A outer s H E hr=>by
  unfold g9
  exact(aj (sx 1 0 Gq.nd rfl (Or.inl rfl) (sj Y) (hr.mono (by decide)) Y.BV.n.mg Y.BV.n.kp Y.BV.b (pv 0))
  (aj (cy abw rfl (gY (by rfl) Y.Cd (ae (aM ai (yW (bC jT jU (by rfl) Y.DY adt (C4 (ae (gb (aT 0) fF (bU (yW ai))) af))))) af)) (aN 2 Gq.nd rfl (Or.inl rfl)) (aj (aC 3 Gq.nd rfl (Or.inr rfl) (zm 1 (wA Y) hr (ae ai (ae ai af))))
  (ap (cy abw rfl (uB (by rfl) Y.CT (ae (zO hr (aT 3) (yW ai)) af)) (fG (n:=2) rfl (bb (aN 4 Gq.nd rfl (Or.inl rfl)) (bb (aN 5 Gq.nd rfl (Or.inr rfl)) dC)) (bu (bu fy))) (ap (aL (bH (aZ (yW (bC (cj rfl) dX (by rfl) Y.CU abV (C4 (ae (Bk (br (N:=["_law_other", "_law_net_here", "_law_one", "#t"]) (aJ (gb (zO hr (aT 3) (yW ai)) (bU (yW (aM (aT 4) (yW ai)))) fF)) (λ_ _ _ _ _=>aD (i:=0) qg rfl (Or.inl rfl)) (λ_ _ _ _ _=>ba) (λ_ _ _ _ _=>(A5 3 (si Y hB) hr (ae (aT 1) (ae (aT 2) (ae (aT 0) af))))))) af)))))) (ap (az bJ)) aG))))))
  (ap (az bJ)))))
theorem xG(Y:Ev K mg)(hB:BMain mg base):zf P w K mg base Ak 9 Y.FH.f Y.FH.fd ["_law_script"] (C9 K (Y.y9,Y.yY)):=wg (vf Y hB) (vC _)
end Pre
namespace Pre
open PySem L2
variable{fd:ab0}{ps:List Str}
theorem SK(us:List Value)(h:us.length=1)(k:∀a0,ac7 fd ⟨[a0],[]⟩=pure (ps.zip [a0])):ac7 fd ⟨us,[]⟩=pure (ps.zip us):=by obtain⟨a0,u0,rfl⟩:=aaD (h);obtain rfl:=List.length_eq_zero_iff.mp (aa6 (h));exact k a0
theorem Vf(us:List Value)(h:us.length=2)(k:∀a0 a1,ac7 fd ⟨[a0,a1],[]⟩=pure (ps.zip [a0,a1])):ac7 fd ⟨us,[]⟩=pure (ps.zip us):=by obtain⟨a0,u0,rfl⟩:=aaD (h);obtain⟨a1,u1,rfl⟩:=aaD (aa6 (h));obtain rfl:=List.length_eq_zero_iff.mp (aa6 (aa6 (h)));exact k a0 a1
theorem Ve(us:List Value)(h:us.length=3)(k:∀a0 a1 a2,ac7 fd ⟨[a0,a1,a2],[]⟩=pure (ps.zip [a0,a1,a2])):ac7 fd ⟨us,[]⟩=pure (ps.zip us):=by obtain⟨a0,u0,rfl⟩:=aaD (h);obtain⟨a1,u1,rfl⟩:=aaD (aa6 (h));obtain⟨a2,u2,rfl⟩:=aaD (aa6 (aa6 (h)));obtain rfl:=List.length_eq_zero_iff.mp (aa6 (aa6 (aa6 (h))));exact k a0 a1 a2
theorem Vd(us:List Value)(h:us.length=4)(k:∀a0 a1 a2 a3,ac7 fd ⟨[a0,a1,a2,a3],[]⟩=pure (ps.zip [a0,a1,a2,a3])):ac7 fd ⟨us,[]⟩=pure (ps.zip us):=by obtain⟨a0,u0,rfl⟩:=aaD (h);obtain⟨a1,u1,rfl⟩:=aaD (aa6 (h));obtain⟨a2,u2,rfl⟩:=aaD (aa6 (aa6 (h)));obtain⟨a3,u3,rfl⟩:=aaD (aa6 (aa6 (aa6 (h))));obtain rfl:=List.length_eq_zero_iff.mp (aa6 (aa6 (aa6 (aa6 (h)))));exact k a0 a1 a2 a3
structure zJ(K:aag)(x:Str)(st:Stmt) where
 {f:Addr}
 {od an:Option Addr}
 {sl:Array (Option Value)}
 {oc kV dc pm cd ct:Value}
 a:abA K aaM x=some (some (.ref f))
 l:K.lookup f=some ⟨oc,od,.func (acU x x (dE st) (bh st) (aq st) .none kV dc pm an cd ct),sl⟩
 c:aeh K cd x=true
 k:abU K (.ref f)=true
variable{K:aag}{mg:Str->Option Value}{x:Str}{st:Stmt}
def zI{h:Heap}(X:K.In h)(G:h.Ns aaM mg)(d:zJ K x st)
  (hb:∀(kV doc pm:Value) (an:Option Addr) (zr ct:Value) (us:List Value),us.length=ps.length->ac7 (acU x x (dE st) (bh st) (aq st) .none kV doc pm an zr ct) ⟨us,[]⟩=pure (ps.zip us):=by (intro _ _ _ _ _ _ us hl;first|exact SK us hl λ_=>rfl|exact Vf us hl λ_ _=>rfl|exact Ve us hl λ_ _ _=>rfl|exact Vd us hl λ_ _ _ _=>rfl)):Df K mg x st ps :=
 ⟨d.f,_,sn d.l d.c d.k,(sn d.l d.c d.k).binds hb,PySem.W.mg_of X G d.a,d.k⟩
theorem yy{l:afi}{w:World}{h:Heap}{fa c1 c2 T1 T2:Addr}{S7:Tok}(X:K.In h)(G:h.Ns aaM mg)(Ui:mg "law" = some (.ref fa))
  (d1:zJ K "is_word" j7) (d2:zJ K "is_rising" gI) (d3:zJ K "are_words" gK) (d4:zJ K "is_open" j8) (d5:zJ K "ties_by_name" eU) (d6:zJ K "open_ties" gH) (d7:zJ K "ranks" Fj) (d8:zJ K "cheaper" jc) (d9:zJ K "dearest_of" fY) (U9:zJ K "out_of" Fk) (SH:zJ K "cheaper_first" dh) (U8:zJ K "without_round" de) (U7:zJ K "cheapest" gJ) (U6:zJ K "neighbours" eY) (U5:zJ K "came_by" kh) (U4:zJ K "reached" ja) (U3:zJ K "only" Ht) (U2:zJ K "way" Kp) (U1:zJ K "dearest" jb) (U0:zJ K "are_open" jd) (UZ:zJ K "leads" Fl) (UY:zJ K "parts_them" fX) (UX:zJ K "shows_dearest" dg) (UW:zJ K "_law_begin" AL) (UU:zJ K "_law_next" FZ) (UT:zJ K "_law_words" Fh) (US:zJ K "_law_cost" Hv) (UR:zJ K "_law_ends" Hu) (UQ:zJ K "_law_net" Kt) (UP:zJ K "_law_key" Kv) (UO:zJ K "_law_open" Hs) (UN:zJ K "_law_ways" Hq) (UM:zJ K "_law_right" Fi) (OS:zJ K "law" Ku) (hcd1:d9.cd=.ref c1) (hC1:abk K c1 T1=true) (hcd2:SH.cd=.ref c2) (hC2:abk K c2 T2=true)
  (z1:abA K aaM "abs" = some none) (z2:abA K aaM "all" = some none) (z3:abA K aaM "any" = some none) (z4:abA K aaM "enumerate" = some none) (z5:abA K aaM "isinstance" = some none) (z6:abA K aaM "len" = some none) (z7:abA K aaM "list" = some none) (z8:abA K aaM "max" = some none) (z9:abA K aaM "min" = some none) (z10:abA K aaM "range" = some none) (z11:abA K aaM "sorted" = some none) (z12:abA K aaM "str" = some none) (z13:abA K aaM "tuple" = some none) (z14:abA K aaM "zip" = some none) (q1:abA K aaM "LONGEST_WORD" = some (some (.int 8 S7))) :
  ∃fd:ab0,(∀(s:Shared) (v:Value),BindsTo s fd ⟨[v],[]⟩ [("_law_script",v)])/\(∀T∈[T1,T2],∃c,abk K c T=true)/\∀base:Heap,K.In base->base.Ns aaM mg->BMain mg base->zf l.prog w K mg base Ak 9 fa fd ["_law_script"] (Q.C9 K (T1,T2)):=by
 obtain⟨V,_,v,vT,S4⟩:∃V:Ev K mg,∃hb,V.FH=zI X G OS hb/\V.y9=T1/\V.yY=T2:=⟨{Ed:=zI X G d1,Cu:=zI X G d2,Cw:=zI X G d3,Ee:=zI X G d4,Br:=zI X G d5,Ct:=zI X G d6,FE:=zI X G d7,Dw:=zI X G d8,A6:=zI X G d9,FF:=zI X G U9,Al:=zI X G SH,AM:=zI X G U8,Cv:=zI X G U7,Bs:=zI X G U6,Ef:=zI X G U5,Du:=zI X G U4,HV:=zI X G U3,Lp:=zI X G U2,Dv:=zI X G U1,Dx:=zI X G U0,FG:=zI X G UZ,BU:=zI X G UY,AN:=zI X G UX,BV:=zI X G UW,Gi:=zI X G UU,FC:=zI X G UT,HX:=zI X G US,HW:=zI X G UR,Lq:=zI X G UQ,Lr:=zI X G UP,Ca:=zI X G UO,AH:=zI X G UN,FD:=zI X G UM,FH:=zI X G OS,JW:=aa0 X G z1,CU:=aa0 X G z2,JV:=aa0 X G z3,CT:=aa0 X G z4,Ah:=aa0 X G z5,DY:=aa0 X G z6,H0:=aa0 X G z7,DX:=aa0 X G z8,JU:=aa0 X G z9,Cd:=aa0 X G z10,Am:=aa0 X G z11,JT:=aa0 X G z12,zM:=aa0 X G z13,JS:=aa0 X G z14,Bv:=⟨_,PySem.W.mg_of X G q1⟩,y9:=T1,Cb:=⟨c1,hcd1,hC1⟩,yY:=T2,Bd:=⟨c2,hcd2,hC2⟩},λ_ _ _ _ _ _ us hl=>SK us hl λ_=>rfl,rfl,rfl,rfl⟩
 have g:=λbase hB=>xG (P:=l.prog) (w:=w) (base:=base) V hB
 rw[v,vT,S4]at g
 have e:=Ui.symm.trans (PySem.W.mg_of X G OS.a)
 obtain rfl:fa=OS.f:=by injection e with e;injection e
 exact⟨_,λs v=>.of_eq rfl,List.forall_mem_cons.mpr ⟨⟨c1,hC1⟩,List.forall_mem_cons.mpr ⟨⟨c2,hC2⟩,λ_ z=>nomatch z⟩⟩,λbase _ _=>g base⟩
theorem walk{l:afi}{q:aaH}{loose:List Str}{XP:(Str->Option Value)->Heap->Prop}{YP:World->Heap->Prop}{d:DefRec}{K:Params->aag}{T1 T2:Addr}(hn:l.most=some 63)(ND:d.params.defaults=[])
  (hY:∀(w:World) (h:Heap),YP w h->(K w.params).In h/\∀T∈[T1,T2],h.get? T=some (adu #[])) (hK1:∀w:World,(K w.params).lookup T1=none) (hK2:∀w:World,(K w.params).lookup T2=none) (hne:(T1==T2)=false)
  (F:∀(w:World) (mg:Str->Option Value) (fa:Addr) (h:Heap),(K w.params).In h->h.Ns aaM mg->mg d.name=some (.ref fa) ->
   ∃fd:ab0,(∀(s:Shared) (u:Value),BindsTo s fd ⟨[u],[]⟩ [("_law_script",u)])/\(∀T∈[T1,T2],∃c,abk (K w.params) c T=true)/\∀base:Heap,(K w.params).In base->base.Ns aaM mg->BMain mg base->zf l.prog w (K w.params) mg base Ak 9 fa fd ["_law_script"] (Q.C9 (K w.params) (T1,T2))) :
  PySem.W.WalkO q loose XP YP l.row.toRowW d [] (λf vs=>PySem.call f vs) :=
 L2.qC (n:=63) (k:=9) (x := "_law_script") (sp:=λw=>Q.C9 (K w.params) (T1,T2)) hn (by decide) ND ⟨rfl,by decide,by decide,rfl⟩ hY (λw=>List.forall_mem_cons.mpr ⟨hK1 w,List.forall_mem_cons.mpr ⟨hK2 w,λ_ z=>nomatch z⟩⟩) F λw H a ns hl hS hT=>⟨a,ns,rfl,hS,hl,ne_of_beq_false hne,hT _ (aaq ..),hT _ (aan _ (aaq ..)),λH' e1 e2=>⟨rfl,List.forall_mem_cons.mpr ⟨e1,List.forall_mem_cons.mpr ⟨e2,λ_ z=>nomatch z⟩⟩⟩⟩
end Pre
open PySem PySem.W PyProof.Rows
set_option maxRecDepth 100000 in
set_option maxHeartbeats 0 in
theorem PySem.Challenge.cw_cheaptree_k47_whole_no_way_is_better_holds : PySem.Challenge.rw_cheaptree_k47_whole_no_way_is_better.Holds := by
 w_on; o_law; km_head; (case hw=>w_witness2)
 k_fill
 refine Pre.walk (l:=PySem.Challenge.rw_cheaptree_k47_whole_no_way_is_better) rfl rfl (fun w h Y=>⟨PySem.W.km_in_of Y,List.forall_mem_cons.mpr ⟨PySem.W.km_tabs_of Y _ (List.mem_cons_of_mem _ (List.mem_cons_self ..)),List.forall_mem_cons.mpr ⟨PySem.W.km_tabs_of Y _ (List.mem_cons_self ..),fun _ z=>nomatch z⟩⟩⟩) ?hK1 ?hK2 ?hne ?F
 case F =>
  intro w mg fa h KX G hmg
  refine' Pre.yy KX G hmg ⟨?a1,?l1,?c1,?k1⟩ ⟨?a2,?l2,?c2,?k2⟩ ⟨?a3,?l3,?c3,?k3⟩ ⟨?a4,?l4,?c4,?k4⟩ ⟨?a5,?l5,?c5,?k5⟩ ⟨?a6,?l6,?c6,?k6⟩ ⟨?a7,?l7,?c7,?k7⟩ ⟨?a8,?l8,?c8,?k8⟩ ⟨?a9,?l9,?c9,?k9⟩ ⟨?a10,?l10,?c10,?k10⟩ ⟨?a11,?l11,?c11,?k11⟩ ⟨?a12,?l12,?c12,?k12⟩ ⟨?a13,?l13,?c13,?k13⟩ ⟨?a14,?l14,?c14,?k14⟩ ⟨?a15,?l15,?c15,?k15⟩ ⟨?a16,?l16,?c16,?k16⟩ ⟨?a17,?l17,?c17,?k17⟩ ⟨?a18,?l18,?c18,?k18⟩ ⟨?a19,?l19,?c19,?k19⟩ ⟨?a20,?l20,?c20,?k20⟩ ⟨?a21,?l21,?c21,?k21⟩ ⟨?a22,?l22,?c22,?k22⟩ ⟨?a23,?l23,?c23,?k23⟩ ⟨?a24,?l24,?c24,?k24⟩ ⟨?a25,?l25,?c25,?k25⟩ ⟨?a26,?l26,?c26,?k26⟩ ⟨?a27,?l27,?c27,?k27⟩ ⟨?a28,?l28,?c28,?k28⟩ ⟨?a29,?l29,?c29,?k29⟩ ⟨?a30,?l30,?c30,?k30⟩ ⟨?a31,?l31,?c31,?k31⟩ ⟨?a32,?l32,?c32,?k32⟩ ⟨?a33,?l33,?c33,?k33⟩ ⟨?a34,?l34,?c34,?k34⟩ ?hcd1 ?hC1 ?hcd2 ?hC2 ?z1 ?z2 ?z3 ?z4 ?z5 ?z6 ?z7 ?z8 ?z9 ?z10 ?z11 ?z12 ?z13 ?z14 ?q1
  case a1 | l1 | c1 | k1 | a2 | l2 | c2 | k2 | a3 | l3 | c3 | k3 | a4 | l4 | c4 | k4 | a5 | l5 | c5 | k5 | a6 | l6 | c6 | k6 | a7 | l7 | c7 | k7 | a8 | l8 | c8 | k8 | a9 | l9 | c9 | k9 | a10 | l10 | c10 | k10 | a11 | l11 | c11 | k11 | a12 | l12 | c12 | k12 | a13 | l13 | c13 | k13 | a14 | l14 | c14 | k14 | a15 | l15 | c15 | k15 | a16 | l16 | c16 | k16 | a17 | l17 | c17 | k17 | a18 | l18 | c18 | k18 | a19 | l19 | c19 | k19 | a20 | l20 | c20 | k20 | a21 | l21 | c21 | k21 | a22 | l22 | c22 | k22 | a23 | l23 | c23 | k23 | a24 | l24 | c24 | k24 | a25 | l25 | c25 | k25 | a26 | l26 | c26 | k26 | a27 | l27 | c27 | k27 | a28 | l28 | c28 | k28 | a29 | l29 | c29 | k29 | a30 | l30 | c30 | k30 | a31 | l31 | c31 | k31 | a32 | l32 | c32 | k32 | a33 | l33 | c33 | k33 | a34 | l34 | c34 | k34 | z1 | z2 | z3 | z4 | z5 | z6 | z7 | z8 | z9 | z10 | z11 | z12 | z13 | z14 | q1=>k_is
  (case hcd1=>exact rfl); (case hC1=>kernel_rfl); (case hcd2=>exact rfl); (case hC2=>kernel_rfl)
 case hK1=>(intro w; kernel_rfl)
 case hK2=>(intro w; kernel_rfl)
 case hne=>rfl
